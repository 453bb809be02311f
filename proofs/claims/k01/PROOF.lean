import PyProof.Rows.All
import Wide.All
import OpenK.AllK
import Wide.FinOn
import HandS.TupMul
import HandS.ForMost
import HandS.Exc
import HandS.TryOnly
import HandS.ExcOwn
import HandS.WordsExc
import HandS.Deep
import HandS.TupLe
import HandS.Wide
import HandS.Conv
import HandS.Sort
import HandS.RepeatKit
import HandS.Zip
import HandS.IsInst
import HandS.SortRule
import HandS.More
import PyProof.TypeEq
import PyProof.InstEq
import HandS.Text
import HandS.TupAny
import PyProof.ReprRoads
import PyProof.ReprReads
import HandS.RaiseMore
import HandS.Style
import HandS.Dict
import HandS.ExcIs
import KE.SortData
import PyProof.StrLawsRepr
import KE.RegKIsAll
import KE.RegKTryMore
import PySem.Challenge.RW_wintold_k01_what_is_a_league
set_option Elab.async false
set_option linter.all false
set_option maxRecDepth 100000
set_option maxHeartbeats 1000000
namespace FX
open PySem PySem.Spec L2

abbrev D := PyData

/-- a caught error of the class cls at a -/
def ErO (cls : Value) (a : Addr) : HO := .ext fun h => ∃ oe : Obj, h.get? a = some oe ∧ Zc cls none oe ∧ ∃ vs, oe.data = .fields vs
/-- the class that the law's module names so -/
def Cn (K : PySem.W.Frag) (n : Str) (c : Value) : Prop := PySem.W.nsIn K mainGlobals n = some (some c)
theorem Cn.uniq {K : PySem.W.Frag} {n : Str} {c d : Value} (h : Cn K n c) (k : Cn K n d) : c = d := by
  unfold Cn at h k
  rw [h] at k
  cases k; rfl
mutual
inductive Rp (K : PySem.W.Frag) (F : Hp) : V → D → Prop
  | non : Rp K F .non .none
  | bl (b : Bool) : Rp K F (.bl b) (.bool b)
  | int (i : Int) : Rp K F (.int i) (.int i)
  | str (x : Str) : Rp K F (.str x) (.str x)
  | lst {a : Addr} {xs : List V} {ds : List D} : F a = some (.lst xs) → RpA K F xs ds → Rp K F (.ref a) (.list ds)
  | tup {a : Addr} {xs : List V} {ds : List D} : F a = some (.tup xs) → RpA K F xs ds → Rp K F (.ref a) (.tuple ds)
  | dic {a : Addr} : F a = some (.dK []) → Rp K F (.ref a) (.dict [])
inductive RpA (K : PySem.W.Frag) (F : Hp) : List V → List D → Prop
  | nil : RpA K F [] []
  | cons {v : V} {vs : List V} {d : D} {ds : List D} : Rp K F v d → RpA K F vs ds → RpA K F (v :: vs) (d :: ds)
end

section
variable {K : PySem.W.Frag} {F G : Hp}
theorem seqT {H H' : Hp} {a : Addr} {xs : List V} (e : Same H H') (h : SqT K H a xs) : SqT K H' a xs := by
  rcases h with (h | ⟨o, h⟩) | h
  · exact .inl (.inl (e _ _ h))
  · exact .inl (.inr ⟨o, e _ _ h⟩)
  · exact .inr h
mutual
theorem Rp.mono (e : Same F G) : ∀ {d : D} {v : V}, Rp K F v d → Rp K G v d
  | .none, _, h => by cases h; exact .non
  | .bool _, _, h => by cases h; exact .bl _
  | .int _, _, h => by cases h; exact .int _
  | .str _, _, h => by cases h; exact .str _
  | .list _, _, h => by cases h with | lst a b => exact .lst (e _ _ a) (RpA.mono e b)
  | .tuple _, _, h => by cases h with | tup a b => exact .tup (e _ _ a) (RpA.mono e b)
  | .dict _, _, h => by cases h with | dic a => exact .dic (e _ _ a)
theorem RpA.mono (e : Same F G) : ∀ {ds : List D} {vs : List V}, RpA K F vs ds → RpA K G vs ds
  | [], _, h => by cases h; exact .nil
  | _ :: _, _, h => by cases h with | cons a b => exact .cons (Rp.mono e a) (RpA.mono e b)
end
theorem RpA.length : ∀ {vs : List V} {ds : List D}, RpA K F vs ds → vs.length = ds.length
  | _, _, .nil => rfl
  | _, _, .cons _ t => by simp [RpA.length t]
theorem RpA.get : ∀ {vs : List V} {ds : List D} {i : Nat} {d : D}, RpA K F vs ds → ds[i]? = some d → ∃ v, vs[i]? = some v ∧ Rp K F v d
  | _, _, _, _, .nil, e => by simp at e
  | _, _, 0, _, .cons r _, e => by simp at e; subst e; exact ⟨_, rfl, r⟩
  | _, _, i + 1, d, .cons _ t, e => by
    obtain ⟨u, h1, h2⟩ := RpA.get (i := i) (d := d) t (by simpa using e)
    exact ⟨u, by simpa using h1, h2⟩
theorem RpA.get' : ∀ {vs : List V} {ds : List D} {i : Nat} {v : V}, RpA K F vs ds → vs[i]? = some v → ∃ d, ds[i]? = some d ∧ Rp K F v d
  | _, _, _, _, .nil, e => by simp at e
  | _, _, 0, _, .cons r _, e => by simp at e; subst e; exact ⟨_, rfl, r⟩
  | _, _, i + 1, d, .cons _ t, e => by
    obtain ⟨u, h1, h2⟩ := RpA.get' (i := i) (v := d) t (by simpa using e)
    exact ⟨u, by simpa using h1, h2⟩
theorem RpA.append : ∀ {vs us : List V} {ds es : List D}, RpA K F vs ds → RpA K F us es → RpA K F (vs ++ us) (ds ++ es)
  | _, _, _, _, .nil, h => h
  | _, _, _, _, .cons a b, h => .cons a (RpA.append b h)
theorem RpA.set : ∀ {vs : List V} {ds : List D} (i : Nat) {v : V} {d : D}, RpA K F vs ds → Rp K F v d → RpA K F (vs.set i v) (ds.set i d)
  | _, _, _, _, _, .nil, _ => .nil
  | _, _, 0, _, _, .cons _ b, h => .cons h b
  | _, _, i + 1, _, _, .cons a b, h => .cons a (RpA.set i b h)
theorem RpA.take : ∀ {vs : List V} {ds : List D} (n : Nat), RpA K F vs ds → RpA K F (vs.take n) (ds.take n)
  | _, _, 0, _ => .nil
  | _, _, _ + 1, .nil => .nil
  | _, _, n + 1, .cons a b => .cons a (RpA.take n b)
theorem RpA.drop : ∀ {vs : List V} {ds : List D} (n : Nat), RpA K F vs ds → RpA K F (vs.drop n) (ds.drop n)
  | _, _, 0, h => h
  | _, _, _ + 1, .nil => .nil
  | _, _, n + 1, .cons _ b => RpA.drop n b
theorem RpA.rev : ∀ {vs : List V} {ds : List D}, RpA K F vs ds → RpA K F vs.reverse ds.reverse
  | _, _, .nil => .nil
  | _, _, .cons a b => by
    simp only [List.reverse_cons]
    exact RpA.append (RpA.rev b) (.cons a .nil)
end

def keyD : Key → D
  | .inl i => .int i
  | .inr z => .str z
def keyT (k : List Key) : D := .tuple (k.map keyD)
inductive RpT (K : PySem.W.Frag) (F : Hp) : List (List Key × V) → List (D × D) → Prop
  | nil : RpT K F [] []
  | cons {k : List Key} {v : V} {d : D} {es : List (List Key × V)} {kvs : List (D × D)} : Rp K F v d → RpT K F es kvs → RpT K F ((k, v) :: es) ((keyT k, d) :: kvs)
theorem RpT.mono {K : PySem.W.Frag} {F G : Hp} (e : Same F G) : ∀ {es : List (List Key × V)} {kvs : List (D × D)}, RpT K F es kvs → RpT K G es kvs
  | _, _, .nil => .nil
  | _, _, .cons a b => .cons (a.mono e) (RpT.mono e b)

structure Sys where
  S : Type
  rel : S → List Addr → List Addr → Hp → Prop
  frame : ∀ {s et A H H'}, rel s et A H → (∀ p ∈ A, H' p = H p) → rel s et A H'
  live : ∀ {s et A H}, rel s et A H → ∀ p ∈ A, H p ≠ none
structure Wo where
  F : Hp
  A : List Addr
  et : List Addr
  H : Hp
structure Wd (Y : Sys) (B : Hp) (w : Wo) (s : Y.S) : Prop where
  sF : Same w.F w.H
  sB : Same B w.H
  dj : ∀ p, w.F p ≠ none → B p = none
  dA : ∀ p ∈ w.A, w.F p = none ∧ B p = none
  rel : Y.rel s w.et w.A w.H
structure Le (w w' : Wo) : Prop where
  F : Same w.F w'.F
  et : ∃ m, w'.et = w.et ++ m
theorem Le.refl (w : Wo) : Le w w := ⟨Same.refl _, [], by simp⟩
theorem Le.trans {u v w : Wo} (a : Le u v) (b : Le v w) : Le u w := ⟨a.F.trans b.F, by
  obtain ⟨m, e⟩ := a.et
  obtain ⟨n, f⟩ := b.et
  exact ⟨m ++ n, by rw [f, e, List.append_assoc]⟩⟩

inductive R where
  | v (d : D) | o (d : D) | h (i : Nat) | raw (x : V) | b (i : Nat) | e (n : Str)
abbrev Ev := List (Option R)
inductive Oc (α : Type) where
  | ok (a : α) | er (c : Str)
def Own (K : PySem.W.Frag) (F H : Hp) (p : Addr) : D → Prop
  | .list ds => ∃ xs, H p = some (.lst xs) ∧ RpA K F xs ds
  | .dict kvs => ∃ es, H p = some (.dT es) ∧ RpT K F es kvs
  | _ => False
def SlR (K : PySem.W.Frag) (B : Hp) (w : Wo) (x : V) : R → Prop
  | .v d => Rp K w.F x d
  | .o d => ∃ p, x = .ref p ∧ Own K w.F w.H p d ∧ w.F p = none ∧ B p = none ∧ p ∉ w.A
  | .h i => ∃ p, w.et[i]? = some p ∧ x = .ref p
  | .raw y => x = y
  | .e n => ∃ p cls, x = .ref p ∧ w.F p = some (ErO cls p) ∧ Cn K n cls
  | .b _ => False
structure EnvR (K : PySem.W.Frag) (B : Hp) (w : Wo) (σ : St) (Γ : Ev) : Prop where
  len : σ.length = Γ.length
  sl : ∀ (i : Nat) (r : R), Γ[i]? = some (some r) → ∃ x, σ[i]? = some (some x) ∧ SlR K B w x r
  inj : ∀ (i j : Nat) (d e : D) (x : V), Γ[i]? = some (some (R.o d)) → Γ[j]? = some (some (R.o e)) → σ[i]? = some (some x) → σ[j]? = some (some x) → i = j
def ResR (K : PySem.W.Frag) (B : Hp) (w : Wo) (σ : St) (Γ : Ev) (x : V) : R → Prop
  | .b i => σ[i]? = some (some x)
  | .o d => SlR K B w x (.o d) ∧ ∀ (i : Nat) (e : D), Γ[i]? = some (some (R.o e)) → σ[i]? ≠ some (some x)
  | r => SlR K B w x r

section
variable {K : PySem.W.Frag} {B B' : Hp} {w w' : Wo} {Y : Sys} {s s' : Y.S} {σ : St} {Γ Γ' : Ev} {x : V} {r : R}
theorem Own.obj {F H : Hp} {p : Addr} : ∀ {d : D}, Own K F H p d → ∃ o, H p = some o
  | .list _, ⟨xs, e, _⟩ => ⟨_, e⟩
  | .none, h => h.elim
  | .bool _, h => h.elim
  | .int _, h => h.elim
  | .str _, h => h.elim
  | .tuple _, h => h.elim
  | .dict _, ⟨es, e, _⟩ => ⟨_, e⟩
theorem Own.move {F F' H H' : Hp} {p : Addr} (f : Same F F') (e : H' p = H p) : ∀ {d : D}, Own K F H p d → Own K F' H' p d
  | .list _, ⟨xs, e1, a⟩ => ⟨xs, e.trans e1, a.mono f⟩
  | .none, h => h.elim
  | .bool _, h => h.elim
  | .int _, h => h.elim
  | .str _, h => h.elim
  | .tuple _, h => h.elim
  | .dict _, ⟨es, e1, a⟩ => ⟨es, e.trans e1, a.mono f⟩
/-- a wider claim of what must stay -/
theorem Wd.weak (h : Wd Y B' w s) (e : Same B B') : Wd Y B w s := ⟨h.sF, fun p o q => h.sB p o (e p o q), fun p q => by
  have z := h.dj p q
  exact e.free z, fun p q => ⟨(h.dA p q).1, e.free (h.dA p q).2⟩, h.rel⟩
theorem SlR.weak (e : Same B B') : ∀ {r : R}, SlR K B' w x r → SlR K B w x r
  | .v _, h => h
  | .o _, ⟨p, a, b, c, d, f⟩ => ⟨p, a, b, c, e.free d, f⟩
  | .h _, h => h
  | .raw _, h => h
  | .e _, h => h
  | .b _, h => h
theorem EnvR.weak (h : EnvR K B' w σ Γ) (e : Same B B') : EnvR K B w σ Γ := ⟨h.len, fun i r q => by
  obtain ⟨x, a, b⟩ := h.sl i r q
  exact ⟨x, a, b.weak e⟩, h.inj⟩
theorem ResR.weak (e : Same B B') : ∀ {r : R}, ResR K B' w σ Γ x r → ResR K B w σ Γ x r
  | .v _, h => h
  | .o _, h => ⟨SlR.weak e h.1, h.2⟩
  | .h _, h => h
  | .raw _, h => h
  | .e _, h => h
  | .b _, h => h

/-- a result is kept through whatever comes between: the same protected part, one object more if it is a list of one's own -/
theorem keep (W : Wd Y B w s) (N : EnvR K B w σ Γ) : ∀ {r : R} {x : V}, ResR K B w σ Γ x r → ∃ B2, Same B B2 ∧ Wd Y B2 w s ∧ EnvR K B2 w σ Γ ∧
    (∀ {w' : Wo} {s' : Y.S} {Γ' : Ev}, Wd Y B2 w' s' → EnvR K B2 w' σ Γ' → Le w w' → ResR K B w' σ Γ' x r) ∧ (∀ d p, r = .o d → x = .ref p → B2 p ≠ none)
  | .v d, x, h => ⟨B, Same.refl _, W, N, fun _ _ l => Rp.mono l.F h, fun _ _ e => nomatch e⟩
  | .h i, x, h => ⟨B, Same.refl _, W, N, fun _ _ l => by
    obtain ⟨p, e, q⟩ := h
    obtain ⟨m, em⟩ := l.et
    refine ⟨p, ?_, q⟩
    rw [em, List.getElem?_append_left (by
      have := (List.getElem?_eq_some_iff.mp e).1
      exact this)]
    exact e, fun _ _ e => nomatch e⟩
  | .raw y, x, h => ⟨B, Same.refl _, W, N, fun _ _ _ => h, fun _ _ e => nomatch e⟩
  | .e n, x, h => ⟨B, Same.refl _, W, N, fun _ _ l => by
    obtain ⟨p, cls, e, q, c⟩ := h
    exact ⟨p, cls, e, l.F _ _ q, c⟩, fun _ _ e => nomatch e⟩
  | .b i, x, h => ⟨B, Same.refl _, W, N, fun _ _ _ => h, fun _ _ e => nomatch e⟩
  | .o d, x, h => by
    obtain ⟨⟨p, rfl, own, fp, bp, ap⟩, oth⟩ := h
    obtain ⟨o, ho⟩ := own.obj
    have sm : Same B (upd B p o) := fun q u e => by rw [upd_ne (ne_of_none e bp)]; exact e
    have W2 : Wd Y (upd B p o) w s := by
      refine ⟨W.sF, fun q u e => ?_, fun q e => ?_, fun q e => ⟨(W.dA q e).1, ?_⟩, W.rel⟩
      · by_cases hq : q = p
        · subst hq; rw [upd_same] at e; cases e; exact ho
        · rw [upd_ne hq] at e; exact W.sB q u e
      · have hq : q ≠ p := fun z => by subst z; exact e fp
        rw [upd_ne hq]; exact W.dj q e
      · have hq : q ≠ p := fun z => by subst z; exact ap e
        rw [upd_ne hq]; exact (W.dA q e).2
    refine ⟨upd B p o, sm, W2, ⟨N.len, fun i r e => ?_, N.inj⟩, fun {w' s' Γ'} W' N' l => ?_, fun e q hr hx => ?_⟩
    · obtain ⟨y, a, b⟩ := N.sl i r e
      refine ⟨y, a, ?_⟩
      cases r with
      | o d2 =>
        obtain ⟨q, rfl, own2, fq, bq, aq⟩ := b
        have hq : q ≠ p := fun z => by subst z; exact oth i d2 e a
        exact ⟨q, rfl, own2, fq, by rw [upd_ne hq]; exact bq, aq⟩
      | v _ => exact b
      | h _ => exact b
      | raw _ => exact b
      | e _ => exact b
      | b _ => exact b
    · have hb : upd B p o p = some o := upd_same
      have hH : w'.H p = some o := W'.sB p o hb
      have fp' : w'.F p = none := by
        cases q : w'.F p with
        | none => rfl
        | some u =>
          have := W'.dj p (by rw [q]; exact fun z => nomatch z)
          rw [hb] at this; cases this
      refine ⟨⟨p, rfl, own.move l.F (hH.trans ho.symm), fp', bp, fun z => ?_⟩, fun i e hi hs => ?_⟩
      · have := (W'.dA p z).2
        rw [hb] at this; cases this
      · obtain ⟨y, a, b⟩ := N'.sl i _ hi
        obtain ⟨q, rfl, _, _, bq, _⟩ := b
        rw [hs] at a; cases a
        rw [hb] at bq; cases bq
    · cases hx; rw [upd_same]; exact fun z => nomatch z
end

def rdv (Γ : Ev) : R → Option D
  | .v d => some d
  | .o (.list ds) => some (.list ds)
  | .b i => match Γ[i]? with
    | some (some (.v d)) => some d
    | some (some (.o (.list ds))) => some (.list ds)
    | _ => none
  | _ => none
/-- the data at its top in H, below in F -/
def Sh (K : PySem.W.Frag) (F H : Hp) (x : V) : D → Prop
  | .list ds => ∃ p xs, x = .ref p ∧ H p = some (.lst xs) ∧ RpA K F xs ds
  | .tuple ds => ∃ p xs, x = .ref p ∧ F p = some (.tup xs) ∧ RpA K F xs ds
  | d => Rp K F x d
section
variable {K : PySem.W.Frag} {B : Hp} {w : Wo} {Y : Sys} {s : Y.S} {σ : St} {Γ : Ev} {x : V} {r : R}
theorem Sh.ofRp {F H : Hp} (e : Same F H) : ∀ {d : D}, Rp K F x d → Sh K F H x d
  | .list _, h => by cases h with | lst a b => exact ⟨_, _, rfl, e _ _ a, b⟩
  | .tuple _, h => by cases h with | tup a b => exact ⟨_, _, rfl, a, b⟩
  | .none, h => h
  | .bool _, h => h
  | .int _, h => h
  | .str _, h => h
  | .dict _, h => h
theorem Sh.ofOwn {F H : Hp} {p : Addr} {ds : List D} : Own K F H p (.list ds) → Sh K F H (.ref p) (.list ds)
  | ⟨xs, e, a⟩ => ⟨p, xs, rfl, e, a⟩
theorem sh_of (W : Wd Y B w s) (N : EnvR K B w σ Γ) (h : ResR K B w σ Γ x r) {d : D} (e : rdv Γ r = some d) : Sh K w.F w.H x d := by
  cases r with
  | v d' => cases e; exact Sh.ofRp W.sF h
  | o d' =>
    cases d' with
    | list ds =>
      cases e
      obtain ⟨⟨p, rfl, own, _⟩, _⟩ := h
      exact Sh.ofOwn own
    | _ => cases e
  | h i => cases e
  | raw y => cases e
  | e y => cases e
  | b i =>
    have hx : σ[i]? = some (some x) := h
    unfold rdv at e
    simp only at e
    split at e
    · rename_i d' he
      cases e
      obtain ⟨y, a, b⟩ := N.sl i _ he
      rw [hx] at a; cases a
      exact Sh.ofRp W.sF b
    · rename_i d' he
      cases e
      obtain ⟨y, a, b⟩ := N.sl i _ he
      rw [hx] at a; cases a
      obtain ⟨p, rfl, own, _⟩ := b
      exact Sh.ofOwn own
    · cases e
end

inductive Rz where
  | nw (d : D) | old (d : D)
def Rz.r : Rz → R
  | .nw (.list ds) => .o (.list ds)
  | .nw d => .v d
  | .old d => .v d
def NwQ (K : PySem.W.Frag) (F H : Hp) (Q : VK) : D → Prop
  | .list ds => ∀ p xs, H p = none → RpA K F xs ds → Q (.ref p) (upd H p (.lst xs))
  | .tuple ds => ∀ p xs, H p = none → RpA K F xs ds → Q (.ref p) (upd H p (.tup xs))
  | .dict [] => ∀ p, H p = none → Q (.ref p) (upd H p (.dK []))
  | .dict (_ :: _) => True
  | d => ∀ x, Rp K F x d → Q x H
def RzQ (K : PySem.W.Frag) (F H : Hp) (Q : VK) : Rz → Prop
  | .nw d => NwQ K F H Q d
  | .old d => ∀ x, Rp K F x d → Q x H
/-- the wish behind a step that tells an α -/
def PoG {α : Type} (Y : Sys) (K : PySem.W.Frag) (W : WX) (B : Hp) (w : Wo) (σ : St) (ok : α → Ev → Wo → Prop) : Oc α × Ev × Y.S → Prop
  | (.ok r, Γ', s') => ∀ w', Wd Y B w' s' → EnvR K B w' σ Γ' → Le w w' → ok r Γ' w'
  | (.er n, Γ', s') => ∀ w', Wd Y B w' s' → EnvR K B w' σ Γ' → Le w w' → ∀ c, Cn K n c → W c none σ w'.H
/-- .. of an expression -/
abbrev PoE (Y : Sys) (K : PySem.W.Frag) (W : WX) (B : Hp) (w : Wo) (σ : St) (Q : VK) : Oc R × Ev × Y.S → Prop := PoG Y K W B w σ fun r Γ' w' => ∀ x, ResR K B w' σ Γ' x r → Q x w'.H

section
variable {K : PySem.W.Frag} {B : Hp} {w : Wo} {Y : Sys} {s : Y.S} {σ : St} {Γ : Ev}
/-- a new object at p -/
theorem Wd.newH (W : Wd Y B w s) {p : Addr} {o : HO} (np : w.H p = none) : Wd Y B { w with H := upd w.H p o } s := by
  refine ⟨fun q u e => ?_, fun q u e => ?_, W.dj, W.dA, Y.frame W.rel fun q hq => ?_⟩
  · have := W.sF q u e
    show upd w.H p o q = some u
    rw [upd_ne (ne_of_none this np)]; exact this
  · have := W.sB q u e
    show upd w.H p o q = some u
    rw [upd_ne (ne_of_none this np)]; exact this
  · show upd w.H p o q = w.H q
    rw [upd_ne]
    rintro rfl
    exact Y.live W.rel _ hq np
theorem SlR.newH {p : Addr} {o : HO} (np : w.H p = none) {x : V} : ∀ {r : R}, SlR K B w x r → SlR K B { w with H := upd w.H p o } x r
  | .v _, h => h
  | .o _, ⟨q, a, b, c, d, f⟩ => ⟨q, a, b.move (Same.refl _) (by
      obtain ⟨u, hu⟩ := b.obj
      show upd w.H p o q = w.H q
      rw [upd_ne (ne_of_none hu np)]), c, d, f⟩
  | .h _, h => h
  | .raw _, h => h
  | .e _, h => h
  | .b _, h => h
theorem EnvR.newH (N : EnvR K B w σ Γ) {p : Addr} {o : HO} (np : w.H p = none) : EnvR K B { w with H := upd w.H p o } σ Γ := ⟨N.len, fun i r e => by
  obtain ⟨x, a, b⟩ := N.sl i r e
  exact ⟨x, a, b.newH np⟩, N.inj⟩
/-- a new frozen object at p -/
theorem Wd.newF (W : Wd Y B w s) {p : Addr} {o : HO} (np : w.H p = none) : Wd Y B { w with F := upd w.F p o, H := upd w.H p o } s := by
  have Fn : w.F p = none := W.sF.free np
  have Bn : B p = none := W.sB.free np
  refine ⟨fun q u e => ?_, fun q u e => ?_, fun q e => ?_, fun q hq => ?_, Y.frame W.rel fun q hq => ?_⟩
  · show upd w.H p o q = some u
    by_cases hq : q = p
    · subst hq; rw [upd_same]; have e : upd w.F q o q = some u := e; rw [upd_same] at e; exact e
    · rw [upd_ne hq]; have e : upd w.F p o q = some u := e; rw [upd_ne hq] at e; exact W.sF q u e
  · have := W.sB q u e
    show upd w.H p o q = some u
    rw [upd_ne (ne_of_none this np)]; exact this
  · by_cases hq : q = p
    · subst hq; exact Bn
    · have e : upd w.F p o q ≠ none := e
      rw [upd_ne hq] at e; exact W.dj q e
  · have hqp : q ≠ p := by rintro rfl; exact Y.live W.rel _ hq np
    exact ⟨(upd_ne hqp).trans (W.dA q hq).1, (W.dA q hq).2⟩
  · show upd w.H p o q = w.H q
    rw [upd_ne]
    rintro rfl
    exact Y.live W.rel _ hq np
theorem Le.newF {p : Addr} {o : HO} (Fn : w.F p = none) : Le w { w with F := upd w.F p o, H := upd w.H p o } := ⟨fun q u e => by
  show upd w.F p o q = some u
  rw [upd_ne (ne_of_none e Fn)]; exact e, [], by simp⟩
theorem EnvR.newF (W : Wd Y B w s) (N : EnvR K B w σ Γ) {p : Addr} {o : HO} (np : w.H p = none) : EnvR K B { w with F := upd w.F p o, H := upd w.H p o } σ Γ := ⟨N.len, fun i r e => by
  have Fn : w.F p = none := W.sF.free np
  have sm : Same w.F (upd w.F p o) := fun q u e => by rw [upd_ne (ne_of_none e Fn)]; exact e
  obtain ⟨x, a, b⟩ := N.sl i r e
  refine ⟨x, a, ?_⟩
  cases r with
  | v d => exact Rp.mono sm b
  | o d =>
    obtain ⟨q, rfl, own, fq, bq, aq⟩ := b
    obtain ⟨u, hu⟩ := own.obj
    have hq : q ≠ p := ne_of_none hu np
    exact ⟨q, rfl, own.move sm (upd_ne hq), (upd_ne hq).trans fq, bq, aq⟩
  | h _ => exact b
  | raw _ => exact b
  | e _ =>
    obtain ⟨p', cls, e1, q, c⟩ := b
    exact ⟨p', cls, e1, sm _ _ q, c⟩
  | b _ => exact b, N.inj⟩
theorem upd_sm {F : Hp} {p : Addr} {o : HO} (Fn : F p = none) : Same F (upd F p o) := fun q u e => by rw [upd_ne (ne_of_none e Fn)]; exact e
/-- an operation's answer is what the body goes on with -/
theorem rz_use {Q : VK} (W : Wd Y B w s) (N : EnvR K B w σ Γ) {Wx : WX} {w0 : Wo} (l : Le w0 w) {z : Rz} (h : PoE Y K Wx B w0 σ Q (.ok z.r, Γ, s)) : RzQ K w.F w.H Q z := by
  have here : ∀ {d : D}, (∀ x, Rp K w.F x d → ResR K B w σ Γ x z.r) → ∀ x, Rp K w.F x d → Q x w.H := fun k x r => h w W N l x (k x r)
  cases z with
  | old d => exact here fun x r => r
  | nw d =>
    cases d with
    | none => exact here fun x r => r
    | bool _ => exact here fun x r => r
    | int _ => exact here fun x r => r
    | str _ => exact here fun x r => r
    | dict kvs =>
      cases kvs with
      | nil =>
        intro p np
        have Fn : w.F p = none := W.sF.free np
        exact h { w with F := upd w.F p (.dK []), H := upd w.H p (.dK []) } (W.newF np) (N.newF W np) (l.trans (Le.newF Fn)) _ (Rp.dic upd_same)
      | cons a b => trivial
    | tuple ds =>
      intro p xs np rp
      have Fn : w.F p = none := W.sF.free np
      exact h { w with F := upd w.F p (.tup xs), H := upd w.H p (.tup xs) } (W.newF np) (N.newF W np) (l.trans (Le.newF Fn)) _ (Rp.tup upd_same (rp.mono (upd_sm Fn)))
    | list ds =>
      intro p xs np rp
      have Fn : w.F p = none := W.sF.free np
      have Bn : B p = none := W.sB.free np
      refine h { w with H := upd w.H p (.lst xs) } (W.newH np) (N.newH np) (l.trans ⟨Same.refl _, [], by simp⟩) _ ⟨⟨p, rfl, ⟨xs, upd_same, rp⟩, Fn, Bn, fun z => Y.live W.rel _ z np⟩, fun i e hi hs => ?_⟩
      obtain ⟨y, a, b⟩ := N.sl i _ hi
      obtain ⟨q, rfl, own, _⟩ := b
      rw [hs] at a; cases a
      obtain ⟨u, hu⟩ := own.obj
      rw [np] at hu; cases hu
end
end FX

set_option Elab.async false
set_option linter.all false
set_option maxRecDepth 100000
set_option maxHeartbeats 1000000
namespace FX
open PySem PySem.Spec L2

def bd {S α β : Type} (g : Ev → S → Option (Oc α × Ev × S)) (k : α → Ev → S → Option (Oc β × Ev × S)) : Ev → S → Option (Oc β × Ev × S) := fun Γ s =>
  match g Γ s with
  | none => none
  | some (.ok a, Γ', s') => k a Γ' s'
  | some (.er c, Γ', s') => some (.er c, Γ', s')
abbrev GE (Y : Sys) := Ev → Y.S → Option (Oc R × Ev × Y.S)
abbrev GT (Y : Sys) := Ev → Y.S → Option (Oc Bool × Ev × Y.S)
abbrev GA (Y : Sys) := Ev → Y.S → Option (Oc (List R) × Ev × Y.S)

inductive RsA (K : PySem.W.Frag) (B : Hp) (w : Wo) (σ : St) (Γ : Ev) : List V → List R → Prop
  | nil : RsA K B w σ Γ [] []
  | cons {x : V} {xs : List V} {r : R} {rs : List R} : ResR K B w σ Γ x r → RsA K B w σ Γ xs rs → RsA K B w σ Γ (x :: xs) (r :: rs)

def EOk (Y : Sys) (K : PySem.W.Frag) (W : WX) (t : TE) (g : GE Y) : Prop := ∀ (B : Hp) (w : Wo) (σ : St) (Γ : Ev) (s : Y.S) (out : Oc R × Ev × Y.S) (Q : VK),
  Wd Y B w s → EnvR K B w σ Γ → g Γ s = some out → PoE Y K W B w σ Q out → t σ w.H Q
def TOk (Y : Sys) (K : PySem.W.Frag) (W : WX) (t : TT) (g : GT Y) : Prop := ∀ (B : Hp) (w : Wo) (σ : St) (Γ : Ev) (s : Y.S) (out : Oc Bool × Ev × Y.S) (Q : Bool → Hp → Prop),
  Wd Y B w s → EnvR K B w σ Γ → g Γ s = some out → PoG Y K W B w σ (fun b _ w' => Q b w'.H) out → t σ w.H Q
def AOk (Y : Sys) (K : PySem.W.Frag) (W : WX) (t : TA) (g : GA Y) : Prop := ∀ (B : Hp) (w : Wo) (σ : St) (Γ : Ev) (s : Y.S) (out : Oc (List R) × Ev × Y.S) (Q : List V → Hp → Prop),
  Wd Y B w s → EnvR K B w σ Γ → g Γ s = some out → PoG Y K W B w σ (fun rs Γ' w' => ∀ xs, RsA K B w' σ Γ' xs rs → Q xs w'.H) out → t σ w.H Q

structure ME (Y : Sys) (X : Cx) (W : WX) (e : Expr) (t : TE) (g : GE Y) : Prop where
  pe : PE X e t
  ok : EOk Y X.K W t g
structure MT (Y : Sys) (X : Cx) (W : WX) (e : Expr) (t : TT) (g : GT Y) : Prop where
  pe : PT X e t
  ok : TOk Y X.K W t g
structure MW (Y : Sys) (X : Cx) (W : WX) (e : Expr) (t : TT) (g : GT Y) : Prop where
  pe : PW X e t
  ok : TOk Y X.K W t g
structure MA (Y : Sys) (X : Cx) (W : WX) (es : List Expr) (t : TA) (g : GA Y) : Prop where
  pe : PA X es t
  ok : AOk Y X.K W t g

section
variable {Y : Sys} {K : PySem.W.Frag} {W : WX} {B B2 : Hp} {w w1 : Wo} {σ : St} {Γ : Ev} {s : Y.S} {α β : Type} {ok : α → Ev → Wo → Prop}
theorem PoG.le {out : Oc α × Ev × Y.S} (p : PoG Y K W B w σ ok out) (l : Le w w1) : PoG Y K W B w1 σ ok out := by
  obtain ⟨o, Γ', s'⟩ := out
  cases o with
  | ok a => exact fun w' W' N' l' => p w' W' N' (l.trans l')
  | er c => exact fun w' W' N' l' => p w' W' N' (l.trans l')
theorem PoG.imp {ok2 : α → Ev → Wo → Prop} {out : Oc α × Ev × Y.S} (p : PoG Y K W B w σ ok out) (e : Same B B2) (h : ∀ a Γ' w', ok a Γ' w' → ok2 a Γ' w') : PoG Y K W B2 w σ ok2 out := by
  obtain ⟨o, Γ', s'⟩ := out
  cases o with
  | ok a => exact fun w' W' N' l' => h _ _ _ (p w' (W'.weak e) (N'.weak e) l')
  | er c => exact fun w' W' N' l' => p w' (W'.weak e) (N'.weak e) l'
theorem PoE.strong {Q : VK} {out : Oc R × Ev × Y.S} (p : PoE Y K W B w σ Q out) (e : Same B B2) : PoE Y K W B2 w σ Q out := PoG.imp p e fun a Γ' w' h x r => h x (r.weak e)
/-- a step ahead of the rest -/
theorem EOk.go {t : TE} {g : GE Y} (h : EOk Y K W t g) (Wh : Wd Y B w s) (N : EnvR K B w σ Γ) {k : R → Ev → Y.S → Option (Oc α × Ev × Y.S)} {out : Oc α × Ev × Y.S} {Q : VK}
    (e : bd g k Γ s = some out) (p : PoG Y K W B w σ ok out)
    (c : ∀ r Γ1 s1 x w1, Wd Y B w1 s1 → EnvR K B w1 σ Γ1 → Le w w1 → ResR K B w1 σ Γ1 x r → k r Γ1 s1 = some out → PoG Y K W B w1 σ ok out → Q x w1.H) : t σ w.H Q := by
  unfold bd at e
  cases eg : g Γ s with
  | none => rw [eg] at e; cases e
  | some o =>
    obtain ⟨o, Γ1, s1⟩ := o
    rw [eg] at e
    cases o with
    | ok r =>
      exact h B w σ Γ s _ Q Wh N eg fun w1 W1 N1 l x r1 => c r Γ1 s1 x w1 W1 N1 l r1 e (p.le l)
    | er z =>
      cases e
      exact h B w σ Γ s _ Q Wh N eg fun w1 W1 N1 l => p w1 W1 N1 l
theorem TOk.go {t : TT} {g : GT Y} (h : TOk Y K W t g) (Wh : Wd Y B w s) (N : EnvR K B w σ Γ) {k : Bool → Ev → Y.S → Option (Oc α × Ev × Y.S)} {out : Oc α × Ev × Y.S} {Q : Bool → Hp → Prop}
    (e : bd g k Γ s = some out) (p : PoG Y K W B w σ ok out)
    (c : ∀ b Γ1 s1 w1, Wd Y B w1 s1 → EnvR K B w1 σ Γ1 → Le w w1 → k b Γ1 s1 = some out → PoG Y K W B w1 σ ok out → Q b w1.H) : t σ w.H Q := by
  unfold bd at e
  cases eg : g Γ s with
  | none => rw [eg] at e; cases e
  | some o =>
    obtain ⟨o, Γ1, s1⟩ := o
    rw [eg] at e
    cases o with
    | ok r => exact h B w σ Γ s _ Q Wh N eg fun w1 W1 N1 l => c r Γ1 s1 w1 W1 N1 l e (p.le l)
    | er z =>
      cases e
      exact h B w σ Γ s _ Q Wh N eg fun w1 W1 N1 l => p w1 W1 N1 l
theorem AOk.go {t : TA} {g : GA Y} (h : AOk Y K W t g) (Wh : Wd Y B w s) (N : EnvR K B w σ Γ) {k : List R → Ev → Y.S → Option (Oc α × Ev × Y.S)} {out : Oc α × Ev × Y.S} {Q : List V → Hp → Prop}
    (e : bd g k Γ s = some out) (p : PoG Y K W B w σ ok out)
    (c : ∀ rs Γ1 s1 xs w1, Wd Y B w1 s1 → EnvR K B w1 σ Γ1 → Le w w1 → RsA K B w1 σ Γ1 xs rs → k rs Γ1 s1 = some out → PoG Y K W B w1 σ ok out → Q xs w1.H) : t σ w.H Q := by
  unfold bd at e
  cases eg : g Γ s with
  | none => rw [eg] at e; cases e
  | some o =>
    obtain ⟨o, Γ1, s1⟩ := o
    rw [eg] at e
    cases o with
    | ok r =>
      exact h B w σ Γ s _ Q Wh N eg fun w1 W1 N1 l x r1 => c r Γ1 s1 x w1 W1 N1 l r1 e (p.le l)
    | er z =>
      cases e
      exact h B w σ Γ s _ Q Wh N eg fun w1 W1 N1 l => p w1 W1 N1 l
/-- two results in a row, both at hand behind the second -/
theorem EOk.two {ta tb : TE} {ga gb : GE Y} (ha : EOk Y K W ta ga) (hb : EOk Y K W tb gb) (Wh : Wd Y B w s) (N : EnvR K B w σ Γ) {k : R → R → Ev → Y.S → Option (Oc α × Ev × Y.S)} {out : Oc α × Ev × Y.S} {T : V → V → Hp → Prop}
    (e : bd ga (fun ra => bd gb fun rb => k ra rb) Γ s = some out) (p : PoG Y K W B w σ ok out)
    (c : ∀ ra rb Γ1 s1 x y w1, Wd Y B w1 s1 → EnvR K B w1 σ Γ1 → Le w w1 → ResR K B w1 σ Γ1 x ra → ResR K B w1 σ Γ1 y rb → k ra rb Γ1 s1 = some out → PoG Y K W B w1 σ ok out → T x y w1.H) :
    ta σ w.H fun x H1 => tb σ H1 fun y H2 => T x y H2 := by
  refine ha.go Wh N e p fun ra Γ1 s1 x w1 W1 N1 l1 R1 e1 p1 => ?_
  obtain ⟨B2, sB, W1b, N1b, kp, _⟩ := keep W1 N1 R1
  refine hb.go W1b N1b e1 (p1.imp sB fun _ _ _ q => q) fun rb Γ2 s2 y w2 W2 N2 l2 R2 e2 p2 => ?_
  exact c ra rb Γ2 s2 x y w2 (W2.weak sB) (N2.weak sB) (l1.trans l2) (kp W2 N2 l2) (R2.weak sB) e2 (p1.le l2)
end

def gC {Y : Sys} (d : D) : GE Y := fun Γ s => some (.ok (.v d), Γ, s)
def gRaw {Y : Sys} (x : V) : GE Y := fun Γ s => some (.ok (.raw x), Γ, s)
def gV {Y : Sys} (i : Nat) : GE Y := fun Γ s => match Γ[i]? with
  | some (some (.v d)) => some (.ok (.v d), Γ, s)
  | some (some (.o _)) => some (.ok (.b i), Γ, s)
  | some (some (.h k)) => some (.ok (.h k), Γ, s)
  | some (some (.raw x)) => some (.ok (.raw x), Γ, s)
  | some (some (.e n)) => some (.ok (.e n), Γ, s)
  | _ => none
section
variable {Y : Sys} {X : Cx} {W : WX} {e a b c : Expr} {pos : Pos} {ga gb gc : GE Y}
theorem me_const {v : V} {d : D} (h : PE X e (tC v)) (r : ∀ F, Rp X.K F v d) : ME Y X W e (tC v) (gC d) :=
  ⟨h, fun B w σ Γ s out Q Wh N eg p => by cases eg; exact p w Wh N (.refl _) _ (r _)⟩
theorem me_int {i : Int} {j} : ME Y X W (.Constant (.int i) j pos) (tC (.int i)) (gC (.int i)) := me_const pe_int fun _ => .int _
theorem me_bl {b : Bool} {j} : ME Y X W (.Constant (.bool b) j pos) (tC (.bl b)) (gC (.bool b)) := me_const pe_bl fun _ => .bl _
theorem me_non {j} : ME Y X W (.Constant .none j pos) (tC .non) (gC .none) := me_const pe_non fun _ => .non
theorem me_str {x : Str} {j} : ME Y X W (.Constant (.str x) j pos) (tC (.str x)) (gC (.str x)) := me_const pe_str fun _ => .str _
theorem me_raw {v : V} (h : PE X e (tC v)) : ME Y X W e (tC v) (gRaw v) :=
  ⟨h, fun B w σ Γ s out Q Wh N eg p => by cases eg; exact p w Wh N (.refl _) _ rfl⟩
theorem me_name {i : Nat} (h : PE X e (tVar i)) : ME Y X W e (tVar i) (gV i) := by
  refine ⟨h, fun B w σ Γ s out Q Wh N eg p => ?_⟩
  unfold gV at eg
  split at eg
  · rename_i d hd
    cases eg
    obtain ⟨x, hx, rx⟩ := N.sl i _ hd
    exact ⟨x, hx, p w Wh N (.refl _) _ rx⟩
  · rename_i d hd
    cases eg
    obtain ⟨x, hx, rx⟩ := N.sl i _ hd
    exact ⟨x, hx, p w Wh N (.refl _) _ hx⟩
  · rename_i d hd
    cases eg
    obtain ⟨x, hx, rx⟩ := N.sl i _ hd
    exact ⟨x, hx, p w Wh N (.refl _) _ rx⟩
  · rename_i d hd
    cases eg
    obtain ⟨x, hx, rx⟩ := N.sl i _ hd
    exact ⟨x, hx, p w Wh N (.refl _) _ rx⟩
  · rename_i d hd
    cases eg
    obtain ⟨x, hx, rx⟩ := N.sl i _ hd
    exact ⟨x, hx, p w Wh N (.refl _) _ rx⟩
  · cases eg

def op1 {Y : Sys} (f : D → Option Rz) (r : R) : GE Y := fun Γ s => match rdv Γ r with
  | none => none
  | some d => match f d with
    | none => none
    | some z => some (.ok z.r, Γ, s)
def op2 {Y : Sys} (f : D → D → Option Rz) (r q : R) : GE Y := fun Γ s => match rdv Γ r, rdv Γ q with
  | some d, some e => match f d e with
    | none => none
    | some z => some (.ok z.r, Γ, s)
  | _, _ => none
def rdA (Γ : Ev) : List R → Option (List D)
  | [] => some []
  | r :: rs => match rdv Γ r, rdA Γ rs with
    | some d, some ds => some (d :: ds)
    | _, _ => none
def opN {Y : Sys} (f : List D → Option Rz) (rs : List R) : GE Y := fun Γ s => match rdA Γ rs with
  | some ds => match f ds with
    | none => none
    | some z => some (.ok z.r, Γ, s)
  | none => none
/-- a rule of two values keeps to f -/
def Op2 (K : PySem.W.Frag) (r : R2) (f : D → D → Option Rz) : Prop := ∀ (F H : Hp) (x y : V) (d e : D) (z : Rz) (Q : VK), Same F H → Sh K F H x d → Sh K F H y e → f d e = some z → RzQ K F H Q z → r x y H Q
def Op1 (K : PySem.W.Frag) (r : V → Hp → VK → Prop) (f : D → Option Rz) : Prop := ∀ (F H : Hp) (x : V) (d : D) (z : Rz) (Q : VK), Same F H → Sh K F H x d → f d = some z → RzQ K F H Q z → r x H Q
inductive ShA (K : PySem.W.Frag) (F H : Hp) : List V → List D → Prop
  | nil : ShA K F H [] []
  | cons {x : V} {xs : List V} {d : D} {ds : List D} : Sh K F H x d → ShA K F H xs ds → ShA K F H (x :: xs) (d :: ds)
def OpN (K : PySem.W.Frag) (r : List V → Hp → VK → Prop) (f : List D → Option Rz) : Prop := ∀ (F H : Hp) (xs : List V) (ds : List D) (z : Rz) (Q : VK), Same F H → ShA K F H xs ds → f ds = some z → RzQ K F H Q z → r xs H Q
/-- .. of a receiver and arguments -/
def OpM (K : PySem.W.Frag) (r : V → List V → Hp → VK → Prop) (f : D → List D → Option Rz) : Prop := ∀ (F H : Hp) (x : V) (xs : List V) (d : D) (ds : List D) (z : Rz) (Q : VK), Same F H → Sh K F H x d → ShA K F H xs ds → f d ds = some z → RzQ K F H Q z → r x xs H Q

def gBin {Y : Sys} (f : D → D → Option Rz) (ga gb : GE Y) : GE Y := bd ga fun ra => bd gb fun rb => op2 f ra rb
theorem eok_bin {K : PySem.W.Frag} {r : R2} {f : D → D → Option Rz} {ta tb : TE} (hf : Op2 K r f) (ha : EOk Y K W ta ga) (hb : EOk Y K W tb gb) : EOk Y K W (tOp r ta tb) (gBin f ga gb) := by
  intro B w σ Γ s out Q Wh N e p
  refine ha.two (T := fun x y H => r x y H Q) hb Wh N e p fun ra rb Γ1 s1 x y w1 W1 N1 l1 Ra Rb e1 p1 => ?_
  unfold op2 at e1
  split at e1
  · rename_i d d' ed ed'
    split at e1
    · cases e1
    · rename_i z ez
      cases e1
      exact hf _ _ _ _ _ _ _ _ W1.sF (sh_of W1 N1 Ra ed) (sh_of W1 N1 Rb ed') ez (rz_use W1 N1 (.refl _) p1)
  · cases e1
theorem me_bin {op : Operator} {r : R2} {f : D → D → Option Rz} (ho : OpR X (binaryOp op) r) (hf : Op2 X.K r f) {te_ha : TE} (ha : ME Y X W a te_ha ga) {te_hb : TE} (hb : ME Y X W b te_hb gb) : ME Y X W (.BinOp a op b pos) (tOp r te_ha te_hb) (gBin f ga gb) := by
  obtain ⟨pa, ha⟩ := ha
  obtain ⟨pb, hb⟩ := hb
  exact ⟨pe_op ho pa pb, eok_bin hf ha hb⟩
theorem me_cmp {op : CmpOp} {r : R2} {f : D → D → Option Rz} (ho : OpR X (compareOp op) r) (hf : Op2 X.K r f) {te_ha : TE} (ha : ME Y X W a te_ha ga) {te_hb : TE} (hb : ME Y X W b te_hb gb) (hm : behindInMarks op b = false) : ME Y X W (.Compare a [op] [b] pos) (tOp r te_ha te_hb) (gBin f ga gb) := by
  obtain ⟨pa, ha⟩ := ha
  obtain ⟨pb, hb⟩ := hb
  exact ⟨pe_cmpR ho pa pb hm, eok_bin hf ha hb⟩
theorem me_ix {r : R2} {f : D → D → Option Rz} (ho : IxR X r) (hf : Op2 X.K r f) {te_ha : TE} (ha : ME Y X W a te_ha ga) {te_hb : TE} (hb : ME Y X W b te_hb gb) (hs : PlainIx b) : ME Y X W (.Subscript a b pos) (tOp r te_ha te_hb) (gBin f ga gb) := by
  obtain ⟨pa, ha⟩ := ha
  obtain ⟨pb, hb⟩ := hb
  exact ⟨pe_ix ho pa pb hs, eok_bin hf ha hb⟩
def gUn {Y : Sys} (f : D → Option Rz) (ga : GE Y) : GE Y := bd ga fun ra => op1 f ra
theorem eok_un {K : PySem.W.Frag} {r : V → Hp → VK → Prop} {f : D → Option Rz} {ta : TE} (hf : Op1 K r f) (ha : EOk Y K W ta ga) : EOk Y K W (tUn r ta) (gUn f ga) := by
  intro B w σ Γ s out Q Wh N e p
  refine ha.go (Q := fun x H => r x H Q) Wh N e p fun ra Γ1 s1 x w1 W1 N1 l1 Ra e1 p1 => ?_
  unfold op1 at e1
  split at e1
  · cases e1
  · rename_i d ed
    split at e1
    · cases e1
    · rename_i z ez
      cases e1
      exact hf _ _ _ _ _ _ W1.sF (sh_of W1 N1 Ra ed) ez (rz_use W1 N1 (.refl _) p1)
theorem me_un {op : UnaryOp} {r : V → Hp → VK → Prop} {f : D → Option Rz} (ho : UnR X (unaryOp op) r) (hf : Op1 X.K r f) {te_ha : TE} (ha : ME Y X W a te_ha ga) : ME Y X W (.UnaryOp op a pos) (tUn r te_ha) (gUn f ga) := by
  obtain ⟨pa, ha⟩ := ha
  exact ⟨pe_un ho pa, eok_un hf ha⟩
end
end FX

set_option Elab.async false
set_option linter.all false
set_option maxRecDepth 100000
set_option maxHeartbeats 1000000
namespace FX
open PySem PySem.Spec L2

def gEsc {Y : Sys} (g : GE Y) : GE Y := bd g fun r Γ s => match r with
  | .v d => some (.ok (.v d), Γ, s)
  | .o (.list ds) => some (.ok (.v (.list ds)), Γ, s)
  | .o _ => none
  | .h i => some (.ok (.h i), Γ, s)
  | .raw x => some (.ok (.raw x), Γ, s)
  | .e n => some (.ok (.e n), Γ, s)
  | .b i => match Γ[i]? with
    | some (some (.o (.list ds))) => some (.ok (.v (.list ds)), Γ.set i (some (.v (.list ds))), s)
    | some (some (.v d)) => some (.ok (.v d), Γ, s)
    | _ => none
section
variable {Y : Sys} {K : PySem.W.Frag} {W : WX} {B B2 : Hp} {w w1 : Wo} {σ : St} {Γ : Ev} {s : Y.S}
theorem Own.rp {F H : Hp} {p : Addr} (h : F p = none) {ds : List D} {o : HO} : Own K F H p (.list ds) → H p = some o → Rp K (upd F p o) (.ref p) (.list ds)
  | ⟨xs, e, a⟩, e2 => by
    rw [e] at e2; cases e2
    exact .lst upd_same (a.mono (upd_sm h))
/-- an object of one's own becomes frozen -/
theorem Wd.fz (Wh : Wd Y B w s) {p : Addr} {o : HO} (hp : w.H p = some o) (bp : B p = none) (ap : p ∉ w.A) : Wd Y B { w with F := upd w.F p o } s := by
  refine ⟨fun q u e => ?_, Wh.sB, fun q e => ?_, fun q hq => ?_, Wh.rel⟩
  · have e : upd w.F p o q = some u := e
    by_cases hq : q = p
    · subst hq; rw [upd_same] at e; cases e; exact hp
    · rw [upd_ne hq] at e; exact Wh.sF q u e
  · have e : upd w.F p o q ≠ none := e
    by_cases hq : q = p
    · subst hq; exact bp
    · rw [upd_ne hq] at e; exact Wh.dj q e
  · have hqp : q ≠ p := by rintro rfl; exact ap hq
    exact ⟨(upd_ne hqp).trans (Wh.dA q hq).1, (Wh.dA q hq).2⟩
theorem Le.fz {p : Addr} {o : HO} (fp : w.F p = none) : Le w { w with F := upd w.F p o } := ⟨upd_sm fp, [], by simp⟩
/-- a temporary is frozen: the slots stay -/
theorem EnvR.fzT (N : EnvR K B w σ Γ) {p : Addr} {o : HO} (fp : w.F p = none) (oth : ∀ (i : Nat) (e : D), Γ[i]? = some (some (R.o e)) → σ[i]? ≠ some (some (.ref p))) : EnvR K B { w with F := upd w.F p o } σ Γ := ⟨N.len, fun i r e => by
  obtain ⟨x, a, b⟩ := N.sl i r e
  refine ⟨x, a, ?_⟩
  cases r with
  | v d => exact Rp.mono (upd_sm fp) b
  | o d =>
    obtain ⟨q, rfl, own, fq, bq, aq⟩ := b
    have hq : q ≠ p := fun z => by subst z; exact oth i d e a
    exact ⟨q, rfl, own.move (upd_sm fp) rfl, (upd_ne hq).trans fq, bq, aq⟩
  | h _ => exact b
  | raw _ => exact b
  | e _ =>
    obtain ⟨p', cls, e1, q, c⟩ := b
    exact ⟨p', cls, e1, upd_sm fp _ _ q, c⟩
  | b _ => exact b, N.inj⟩
theorem getSet {α : Type} {l : List α} {i j : Nat} {a x : α} (h : (l.set i a)[j]? = some x) : (i = j ∧ x = a) ∨ (i ≠ j ∧ l[j]? = some x) := by
  by_cases e : i = j
  · subst e
    rw [List.getElem?_set_self (by
      have := (List.getElem?_eq_some_iff.mp h).1
      simpa using this)] at h
    cases h; exact .inl ⟨rfl, rfl⟩
  · rw [List.getElem?_set_ne e] at h; exact .inr ⟨e, h⟩
/-- a slot is frozen -/
theorem EnvR.fzS (N : EnvR K B w σ Γ) {i : Nat} {ds : List D} {p : Addr} {o : HO} (hi : Γ[i]? = some (some (.o (.list ds)))) (hp : σ[i]? = some (some (.ref p))) (ho : w.H p = some o) :
    EnvR K B { w with F := upd w.F p o } σ (Γ.set i (some (.v (.list ds)))) := by
  obtain ⟨x, hx, q, rfl, own, fq, bq, aq⟩ := N.sl i _ hi
  rw [hp] at hx; cases hx
  refine ⟨by rw [List.length_set]; exact N.len, fun j r e => ?_, fun j k d' e' x hj hk hx hy => ?_⟩
  · rcases getSet e with ⟨rfl, z⟩ | ⟨ne, e⟩
    · cases z
      exact ⟨_, hp, own.rp fq ho⟩
    · obtain ⟨x, a, b⟩ := N.sl j r e
      refine ⟨x, a, ?_⟩
      cases r with
      | v d => exact Rp.mono (upd_sm fq) b
      | o d' =>
        obtain ⟨q', rfl, own', fq', bq', aq'⟩ := b
        have hq : q' ≠ p := fun z => by subst z; exact ne (N.inj i j _ _ _ hi e hp a)
        exact ⟨q', rfl, own'.move (upd_sm fq) rfl, (upd_ne hq).trans fq', bq', aq'⟩
      | h _ => exact b
      | raw _ => exact b
      | e _ =>
        obtain ⟨p', cls, e1, q, c⟩ := b
        exact ⟨p', cls, e1, upd_sm fq _ _ q, c⟩
      | b _ => exact b
  · rcases getSet hj with ⟨rfl, z⟩ | ⟨ne, hj⟩
    · cases z
    · rcases getSet hk with ⟨rfl, z⟩ | ⟨ne', hk⟩
      · cases z
      · exact N.inj j k _ _ _ hj hk hx hy
theorem eok_esc {t : TE} {g : GE Y} (h : EOk Y K W t g) : EOk Y K W t (gEsc g) := by
  intro B w σ Γ s out Q Wh N e p
  refine h.go Wh N e p fun r Γ1 s1 x w1 W1 N1 l1 R1 e1 p1 => ?_
  cases r with
  | v d => cases e1; exact p1 w1 W1 N1 (.refl _) x R1
  | h d => cases e1; exact p1 w1 W1 N1 (.refl _) x R1
  | raw d => cases e1; exact p1 w1 W1 N1 (.refl _) x R1
  | e d => cases e1; exact p1 w1 W1 N1 (.refl _) x R1
  | o d =>
    cases d with
    | list ds =>
      cases e1
      obtain ⟨⟨q, rfl, own, fq, bq, aq⟩, oth⟩ := R1
      obtain ⟨o, ho⟩ := own.obj
      exact p1 { w1 with F := upd w1.F q o } (W1.fz ho bq aq) (N1.fzT fq oth) (Le.fz fq) _ (own.rp fq ho)
    | _ => cases e1
  | b i =>
    simp only at e1
    split at e1
    · rename_i d hd
      cases e1
      obtain ⟨y, hy, q, rfl, own, fq, bq, aq⟩ := N1.sl i _ hd
      have hx : σ[i]? = some (some x) := R1
      rw [hx] at hy; cases hy
      obtain ⟨o, ho⟩ := own.obj
      exact p1 { w1 with F := upd w1.F q o } (W1.fz ho bq aq) (N1.fzS hd hx ho) (Le.fz fq) _ (own.rp fq ho)
    · rename_i d hd
      cases e1
      obtain ⟨y, hy, b⟩ := N1.sl i _ hd
      have hx : σ[i]? = some (some x) := R1
      rw [hx] at hy; cases hy
      exact p1 w1 W1 N1 (.refl _) _ b
    · cases e1
end

section
variable {Y : Sys} {X : Cx} {W : WX} {e a b c : Expr} {es rest : List Expr} {pos : Pos} {ga gb gc : GE Y} {gr : GA Y} {gt gu : GT Y}
theorem me_esc {te_h : TE} (h : ME Y X W e te_h ga) : ME Y X W e te_h (gEsc ga) := by
  obtain ⟨p, h⟩ := h
  exact ⟨p, eok_esc h⟩

theorem RsA.weak {K : PySem.W.Frag} {B B' : Hp} {w : Wo} {σ : St} {Γ : Ev} (e : Same B B') : ∀ {xs : List V} {rs : List R}, RsA K B' w σ Γ xs rs → RsA K B w σ Γ xs rs
  | _, _, .nil => .nil
  | _, _, .cons q t => .cons (q.weak e) (RsA.weak e t)
def gN {Y : Sys} : GA Y := fun Γ s => some (.ok [], Γ, s)
def gK {Y : Sys} (ga : GE Y) (gr : GA Y) : GA Y := bd ga fun r => bd gr fun rs Γ s => some (.ok (r :: rs), Γ, s)
theorem ma_nil : MA Y X W [] tNil gN := ⟨pa_nil, fun B w σ Γ s out Q Wh N e p => by cases e; exact p w Wh N (.refl _) _ .nil⟩
theorem ma_cons {te_ha : TE} (ha : ME Y X W e te_ha ga) {ta_hr : TA} (hr : MA Y X W es ta_hr gr) (hs : starEach (e :: es) X.env = (false, eval e X.env) :: starEach es X.env := by rfl) : MA Y X W (e :: es) (tCons te_ha ta_hr) (gK ga gr) := by
  obtain ⟨pa, ha⟩ := ha
  obtain ⟨pr, hr⟩ := hr
  refine ⟨pa_cons pa pr hs, fun B w σ Γ s out Q Wh N e p => ?_⟩
  refine ha.go (Q := fun x H1 => ta_hr σ H1 fun xs H2 => Q (x :: xs) H2) Wh N e p fun r Γ1 s1 x w1 W1 N1 l1 R1 e1 p1 => ?_
  obtain ⟨B2, sB, W1b, N1b, kp, _⟩ := keep W1 N1 R1
  refine hr.go (Q := fun xs H2 => Q (x :: xs) H2) W1b N1b e1 (p1.imp sB fun _ _ _ q => q) fun rs Γ2 s2 xs w2 W2 N2 l2 Rs e2 p2 => ?_
  cases e2
  exact p1 w2 (W2.weak sB) (N2.weak sB) l2 _ (.cons (kp W2 N2 l2) (Rs.weak sB))
theorem sha_of {B : Hp} {w : Wo} {σ : St} {Γ : Ev} {s : Y.S} (Wh : Wd Y B w s) (N : EnvR X.K B w σ Γ) : ∀ {xs : List V} {rs : List R} {ds : List D}, RsA X.K B w σ Γ xs rs → rdA Γ rs = some ds → ShA X.K w.F w.H xs ds
  | _, _, _, .nil, e => by cases e; exact .nil
  | _, r :: rs, _, .cons q t, e => by
    unfold rdA at e
    split at e
    · rename_i d ds e1 e2
      cases e
      exact .cons (sh_of Wh N q e1) (sha_of Wh N t e2)
    · cases e
/-- f(..), f a built-in function or class -/
def gCall {Y : Sys} (f : List D → Option Rz) (gr : GA Y) : GE Y := bd gr fun rs => opN f rs
theorem eok_call {K : PySem.W.Frag} {r : List V → Hp → VK → Prop} {f : List D → Option Rz} {t : TA} (hf : OpN X.K r f) (h : AOk Y X.K W t gr) : EOk Y X.K W (tCB r t) (gCall f gr) := by
  intro B w σ Γ s out Q Wh N e p
  refine h.go (Q := fun xs H => r xs H Q) Wh N e p fun rs Γ1 s1 xs w1 W1 N1 l1 Rs e1 p1 => ?_
  unfold opN at e1
  split at e1
  · rename_i ds ed
    split at e1
    · cases e1
    · rename_i z ez
      cases e1
      exact hf _ _ _ _ _ _ W1.sF (sha_of W1 N1 Rs ed) ez (rz_use W1 N1 (.refl _) p1)
  · cases e1
theorem me_callB {id : String} {x : Str} {p : Pos} {r : List V → Hp → VK → Prop} {f : List D → Option Rz} (hc : CallR X (.builtin id) r) (hf : OpN X.K r f) (hg : Gl X x) (hm : X.mg x = none) (hv : bootBuiltins x = some (.builtin id)) {ta_ha : TA} (ha : MA Y X W (e :: es) ta_ha gr)
    (hn : x ≠ "__name__" := by decide) (hdb : (x == ("__debug__" : Str)) = false := by decide) (he : starEach (e :: es) X.env = (false, eval e X.env) :: starEach es X.env := by rfl) (hpl : (backTo pos (starEach es X.env)).any (·.1) = false := by rfl) :
    ME Y X W (.Call (.Name x p) (e :: es) [] pos) (tCB r ta_ha) (gCall f gr) := by
  obtain ⟨pa, h⟩ := ha
  exact ⟨pe_callB hc hg hm hv pa hn hdb he hpl, eok_call (K := X.K) hf h⟩
theorem me_callTy {T : String} {x : Str} {p : Pos} {r : List V → Hp → VK → Prop} {f : List D → Option Rz} (hc : CallR X (.type T) r) (hf : OpN X.K r f) (hg : Gl X x) (hm : X.mg x = none) (hv : bootBuiltins x = some (.type T)) {ta_ha : TA} (ha : MA Y X W (e :: es) ta_ha gr)
    (hn : x ≠ "__name__" := by decide) (hdb : (x == ("__debug__" : Str)) = false := by decide) (he : starEach (e :: es) X.env = (false, eval e X.env) :: starEach es X.env := by rfl) (hpl : (backTo pos (starEach es X.env)).any (·.1) = false := by rfl) :
    ME Y X W (.Call (.Name x p) (e :: es) [] pos) (tCB r ta_ha) (gCall f gr) := by
  obtain ⟨pa, h⟩ := ha
  exact ⟨pe_callTy hc hg hm hv pa hn hdb he hpl, eok_call (K := X.K) hf h⟩
/-- displays -/
def vs? : List R → Option (List D)
  | [] => some []
  | .v d :: rs => match vs? rs with
    | some ds => some (d :: ds)
    | none => none
  | _ :: _ => none
theorem rpa_of {K : PySem.W.Frag} {B : Hp} {w : Wo} {σ : St} {Γ : Ev} : ∀ {xs : List V} {rs : List R} {ds : List D}, RsA K B w σ Γ xs rs → vs? rs = some ds → RpA K w.F xs ds
  | _, _, _, .nil, e => by cases e; exact .nil
  | _, .v d :: rs, _, .cons q t, e => by
    unfold vs? at e
    split at e
    · rename_i ds e1
      cases e
      exact .cons q (rpa_of t e1)
    · cases e
  | _, .o _ :: _, _, .cons _ _, e => by cases e
  | _, .h _ :: _, _, .cons _ _, e => by cases e
  | _, .raw _ :: _, _, .cons _ _, e => by cases e
  | _, .e _ :: _, _, .cons _ _, e => by cases e
  | _, .b _ :: _, _, .cons _ _, e => by cases e
def sizeOk (n : Nat) : Bool := decide (n ≤ 1000000)
theorem sizeOk_le {n : Nat} (h : sizeOk n = true) : n ≤ sizeLine := Nat.le_trans (of_decide_eq_true h) (by decide)
theorem sizeOk_lt {n : Nat} (h : sizeOk n = true) : n < sizeLine := Nat.lt_of_le_of_lt (of_decide_eq_true h) (by decide)
def gTup {Y : Sys} (gr : GA Y) : GE Y := bd gr fun rs Γ s => match vs? rs with
  | some ds => if sizeOk ds.length = true then some (.ok (.v (.tuple ds)), Γ, s) else none
  | none => none
def gLst {Y : Sys} (gr : GA Y) : GE Y := bd gr fun rs Γ s => match vs? rs with
  | some ds => if sizeOk ds.length = true then some (.ok (.o (.list ds)), Γ, s) else none
  | none => none
theorem me_tup {x1} {ta_h : TA} (h : MA Y X W es ta_h gr) : ME Y X W (.Tuple es x1 pos) (tTup ta_h) (gTup gr) := by
  obtain ⟨pa, h⟩ := h
  refine ⟨pe_tup pa, fun B w σ Γ s out Q Wh N e p => ?_⟩
  refine h.go (Q := fun xs H1 => xs.length ≤ sizeLine ∧ ∀ p, H1 p = none → Q (.ref p) (upd H1 p (.tup xs))) Wh N e p fun rs Γ1 s1 xs w1 W1 N1 l1 Rs e1 p1 => ?_
  try simp only at e1
  split at e1
  · rename_i ds ed
    split at e1
    · rename_i hz
      cases e1
      have rp := rpa_of Rs ed
      refine ⟨by rw [rp.length]; exact sizeOk_le hz, fun p np => rz_use (z := .nw (.tuple ds)) (Q := Q) W1 N1 (.refl _) p1 p xs np rp⟩
    · cases e1
  · cases e1
theorem me_lst {ta_h : TA} (h : MA Y X W es ta_h gr) : ME Y X W (.List es pos) (tLst ta_h) (gLst gr) := by
  obtain ⟨pa, h⟩ := h
  refine ⟨pe_lst pa, fun B w σ Γ s out Q Wh N e p => ?_⟩
  refine h.go (Q := fun xs H1 => xs.length ≤ sizeLine ∧ ∀ p, H1 p = none → Q (.ref p) (upd H1 p (.lst xs))) Wh N e p fun rs Γ1 s1 xs w1 W1 N1 l1 Rs e1 p1 => ?_
  try simp only at e1
  split at e1
  · rename_i ds ed
    split at e1
    · rename_i hz
      cases e1
      have rp := rpa_of Rs ed
      refine ⟨by rw [rp.length]; exact sizeOk_le hz, fun p np => rz_use (z := .nw (.list ds)) (Q := Q) W1 N1 (.refl _) p1 p xs np rp⟩
    · cases e1
  · cases e1
/-- {} -/
def gDic {Y : Sys} : GE Y := fun Γ s => some (.ok (.v (.dict [])), Γ, s)
theorem me_dic (h : PE X e (fun σ H Q => ∀ p, H p = none → Q (.ref p) (upd H p (.dK [])))) : ME Y X W e (fun σ H Q => ∀ p, H p = none → Q (.ref p) (upd H p (.dK []))) gDic :=
  ⟨h, fun B w σ Γ s out Q Wh N e p => by cases e; exact rz_use (z := .nw (.dict [])) (Q := Q) Wh N (.refl _) p⟩

def gTst {Y : Sys} (g : GE Y) : GT Y := bd g fun r Γ s => match rdv Γ r with
  | some (.bool b) => some (.ok b, Γ, s)
  | _ => none
theorem sh_bool {K : PySem.W.Frag} {F H : Hp} {x : V} {b : Bool} (h : Sh K F H x (.bool b)) : x = .bl b := by cases (show Rp K F x (.bool b) from h); rfl
theorem tok_tst {K : PySem.W.Frag} {t : TE} {g : GE Y} (h : EOk Y K W t g) : TOk Y K W (tTest t) (gTst g) := by
  intro B w σ Γ s out Q Wh N e p
  refine h.go (Q := fun x H' => ∃ k, x = .bl k ∧ Q k H') Wh N e p fun r Γ1 s1 x w1 W1 N1 l1 R1 e1 p1 => ?_
  try simp only at e1
  split at e1
  · rename_i b hb
    cases e1
    exact ⟨b, sh_bool (sh_of W1 N1 R1 hb), p1 w1 W1 N1 (.refl _)⟩
  · cases e1
theorem mt_val {te_h : TE} (h : ME Y X W e te_h ga) (he : ∀ whole, isTrue e X.env whole = (do let v ← whole; standAt e.pos; holding [v] (truthy v)) := by intro _; rfl) : MT Y X W e (tB te_h) (gTst ga) := by
  obtain ⟨p, h⟩ := h
  exact ⟨pt_val p he, tok_tst h⟩
theorem mt_cmp {op : CmpOp} {r : R2} {f : D → D → Option Rz} (ho : OpR X (compareOp op) r) (hf : Op2 X.K r f) {te_ha : TE} (ha : ME Y X W a te_ha ga) {te_hb : TE} (hb : ME Y X W b te_hb gb) (hm : behindInMarks op b = false) : MT Y X W (.Compare a [op] [b] pos) (tTest (tOp r te_ha te_hb)) (gTst (gBin f ga gb)) := by
  obtain ⟨pa, ha⟩ := ha
  obtain ⟨pb, hb⟩ := hb
  exact ⟨pt_cmpR ho pa pb hm, tok_tst (eok_bin hf ha hb)⟩
def gNot {Y : Sys} (g : GT Y) : GT Y := bd g fun b Γ s => some (.ok (!b), Γ, s)
def gAnd {Y : Sys} (g h : GT Y) : GT Y := bd g fun b Γ s => if b = true then h Γ s else some (.ok false, Γ, s)
def gOr {Y : Sys} (g h : GT Y) : GT Y := bd g fun b Γ s => if b = true then some (.ok true, Γ, s) else h Γ s
theorem mt_not {tt_h : TT} (h : MT Y X W a tt_h gt) : MT Y X W (.UnaryOp .Not a pos) (tNot tt_h) (gNot gt) := by
  obtain ⟨p, h⟩ := h
  refine ⟨pt_not p, fun B w σ Γ s out Q Wh N e p => ?_⟩
  refine h.go (Q := fun c H1 => Q (!c) H1) Wh N e p fun b Γ1 s1 w1 W1 N1 l1 e1 p1 => ?_
  cases e1
  exact p1 w1 W1 N1 (.refl _)
theorem mw_and1 {tt_h : TT} (h : MT Y X W a tt_h gt) : MW Y X W (.BoolOp .And [a] pos) tt_h gt := by
  obtain ⟨p, h⟩ := h
  exact ⟨pw_and1 p, h⟩
theorem mw_or1 {tt_h : TT} (h : MT Y X W a tt_h gt) : MW Y X W (.BoolOp .Or [a] pos) tt_h gt := by
  obtain ⟨p, h⟩ := h
  exact ⟨pw_or1 p, h⟩
theorem mw_and {tt_h : TT} (h : MT Y X W a tt_h gt) {tt_h2 : TT} (h2 : MW Y X W (.BoolOp .And (b :: rest) pos) tt_h2 gu) : MW Y X W (.BoolOp .And (a :: b :: rest) pos) (tAnd tt_h tt_h2) (gAnd gt gu) := by
  obtain ⟨p, h⟩ := h
  obtain ⟨q, h2⟩ := h2
  refine ⟨pw_and p q, fun B w σ Γ s out Q Wh N e p => ?_⟩
  refine h.go (Q := fun c H1 => if c = true then tt_h2 σ H1 Q else Q false H1) Wh N e p fun b Γ1 s1 w1 W1 N1 l1 e1 p1 => ?_
  cases b with
  | true => exact h2 B w1 σ Γ1 s1 _ Q W1 N1 e1 p1
  | false => cases e1; exact p1 w1 W1 N1 (.refl _)
theorem mw_or {tt_h : TT} (h : MT Y X W a tt_h gt) {tt_h2 : TT} (h2 : MW Y X W (.BoolOp .Or (b :: rest) pos) tt_h2 gu) : MW Y X W (.BoolOp .Or (a :: b :: rest) pos) (tOr tt_h tt_h2) (gOr gt gu) := by
  obtain ⟨p, h⟩ := h
  obtain ⟨q, h2⟩ := h2
  refine ⟨pw_or p q, fun B w σ Γ s out Q Wh N e p => ?_⟩
  refine h.go (Q := fun c H1 => if c = true then Q true H1 else tt_h2 σ H1 Q) Wh N e p fun b Γ1 s1 w1 W1 N1 l1 e1 p1 => ?_
  cases b with
  | false => exact h2 B w1 σ Γ1 s1 _ Q W1 N1 e1 p1
  | true => cases e1; exact p1 w1 W1 N1 (.refl _)
theorem mt_w {tt_h : TT} (h : MW Y X W e tt_h gt) : MT Y X W e tt_h gt := by
  obtain ⟨p, h⟩ := h
  exact ⟨p.pt, h⟩
/-- and, or, not as values (of bools) -/
def gAndV {Y : Sys} (g h : GE Y) : GE Y := bd (gTst g) fun b Γ s => if b = true then h Γ s else some (.ok (.v (.bool false)), Γ, s)
def gOrV {Y : Sys} (g h : GE Y) : GE Y := bd (gTst g) fun b Γ s => if b = true then some (.ok (.v (.bool true)), Γ, s) else h Γ s
def gNotV {Y : Sys} (g : GE Y) : GE Y := bd (gTst g) fun b Γ s => some (.ok (.v (.bool !b)), Γ, s)
theorem me_one {op} {te_h : TE} (h : ME Y X W a te_h ga) : ME Y X W (.BoolOp op [a] pos) te_h ga := by
  obtain ⟨p, h⟩ := h
  exact ⟨pe_one p, h⟩
theorem me_and {te_h : TE} (h : ME Y X W a te_h ga) {te_h2 : TE} (h2 : ME Y X W (.BoolOp .And (b :: rest) pos) te_h2 gb) : ME Y X W (.BoolOp .And (a :: b :: rest) pos) (tAndV te_h te_h2) (gAndV ga gb) := by
  obtain ⟨p, h⟩ := h
  obtain ⟨q, h2⟩ := h2
  refine ⟨pe_and p q, fun B w σ Γ s out Q Wh N e p => ?_⟩
  refine (tok_tst h).go (Q := fun c H1 => if c = true then te_h2 σ H1 Q else Q (.bl false) H1) Wh N e p fun b Γ1 s1 w1 W1 N1 l1 e1 p1 => ?_
  cases b with
  | true => exact h2 B w1 σ Γ1 s1 _ Q W1 N1 e1 p1
  | false => cases e1; exact p1 w1 W1 N1 (.refl _) _ (.bl _)
theorem me_or {te_h : TE} (h : ME Y X W a te_h ga) {te_h2 : TE} (h2 : ME Y X W (.BoolOp .Or (b :: rest) pos) te_h2 gb) : ME Y X W (.BoolOp .Or (a :: b :: rest) pos) (tOrV te_h te_h2) (gOrV ga gb) := by
  obtain ⟨p, h⟩ := h
  obtain ⟨q, h2⟩ := h2
  refine ⟨pe_or p q, fun B w σ Γ s out Q Wh N e p => ?_⟩
  refine (tok_tst h).go (Q := fun c H1 => if c = true then Q (.bl true) H1 else te_h2 σ H1 Q) Wh N e p fun b Γ1 s1 w1 W1 N1 l1 e1 p1 => ?_
  cases b with
  | false => exact h2 B w1 σ Γ1 s1 _ Q W1 N1 e1 p1
  | true => cases e1; exact p1 w1 W1 N1 (.refl _) _ (.bl _)
theorem me_not {te_h : TE} (h : ME Y X W a te_h ga) : ME Y X W (.UnaryOp .Not a pos) (tNotV te_h) (gNotV ga) := by
  obtain ⟨p, h⟩ := h
  refine ⟨pe_not p, fun B w σ Γ s out Q Wh N e p => ?_⟩
  refine (tok_tst h).go (Q := fun c H1 => Q (.bl (!c)) H1) Wh N e p fun b Γ1 s1 w1 W1 N1 l1 e1 p1 => ?_
  cases e1
  exact p1 w1 W1 N1 (.refl _) _ (.bl _)
/-- a if t else b -/
def gIf {Y : Sys} (t : GT Y) (a b : GE Y) : GE Y := bd t fun c => if c = true then a else b
theorem me_if {tt_h : TT} (h : MT Y X W c tt_h gt) {te_ha : TE} (ha : ME Y X W a te_ha ga) {te_hb : TE} (hb : ME Y X W b te_hb gb) : ME Y X W (.IfExp c a b pos) (tIf tt_h te_ha te_hb) (gIf gt ga gb) := by
  obtain ⟨p, h⟩ := h
  obtain ⟨pa, ha⟩ := ha
  obtain ⟨pb, hb⟩ := hb
  refine ⟨pe_ifExp p pa pb, fun B w σ Γ s out Q Wh N e p => ?_⟩
  refine h.go (Q := fun c H1 => if c = true then te_ha σ H1 Q else te_hb σ H1 Q) Wh N e p fun b Γ1 s1 w1 W1 N1 l1 e1 p1 => ?_
  cases b with
  | true => exact ha B w1 σ Γ1 s1 _ Q W1 N1 e1 p1
  | false => exact hb B w1 σ Γ1 s1 _ Q W1 N1 e1 p1
/-- a op b op' c -/
def zB : Rz → Option Bool
  | .nw (.bool b) => some b
  | .old (.bool b) => some b
  | _ => none
def gChain {Y : Sys} (f f' : D → D → Option Rz) (ga gb gc : GE Y) : GE Y := bd ga fun ra => bd gb fun rb Γ s => match rdv Γ ra, rdv Γ rb with
  | some d, some e => match f d e with
    | none => none
    | some z => match zB z with
      | none => none
      | some true => bd gc (fun rc => op2 f' rb rc) Γ s
      | some false => some (.ok (.v (.bool false)), Γ, s)
  | _, _ => none
theorem rz_bool {K : PySem.W.Frag} {F H : Hp} {Q : VK} : ∀ {z : Rz} {b : Bool}, zB z = some b → Q (.bl b) H → RzQ K F H Q z
  | .nw (.bool _), _, e, q => by cases e; intro x r; cases r; exact q
  | .old (.bool _), _, e, q => by cases e; intro x r; cases r; exact q
  | .nw .none, _, e, _ => by cases e
  | .nw (.int _), _, e, _ => by cases e
  | .nw (.str _), _, e, _ => by cases e
  | .nw (.list _), _, e, _ => by cases e
  | .nw (.tuple _), _, e, _ => by cases e
  | .nw (.dict _), _, e, _ => by cases e
  | .old .none, _, e, _ => by cases e
  | .old (.int _), _, e, _ => by cases e
  | .old (.str _), _, e, _ => by cases e
  | .old (.list _), _, e, _ => by cases e
  | .old (.tuple _), _, e, _ => by cases e
  | .old (.dict _), _, e, _ => by cases e
theorem eok_chain {K : PySem.W.Frag} {r r' : R2} {f f' : D → D → Option Rz} {ta tb tc : TE} (hf : Op2 K r f) (hf' : Op2 K r' f') (ha : EOk Y K W ta ga) (hb : EOk Y K W tb gb) (hc : EOk Y K W tc gc) : EOk Y K W (tChain r r' ta tb tc) (gChain f f' ga gb gc) := by
  intro B w σ Γ s out Q Wh N e p
  refine ha.two (T := fun x y H2 => r x y H2 fun z H3 => ∃ k, z = .bl k ∧ (if k = true then tc σ H3 fun w' H4 => r' y w' H4 Q else Q (.bl false) H3)) hb Wh N e p fun ra rb Γ1 s1 x y w1 W1 N1 l1 Ra Rb e1 p1 => ?_
  try simp only at e1
  split at e1
  · rename_i d d' ed ed'
    split at e1
    · cases e1
    · rename_i z ez
      split at e1
      · cases e1
      · rename_i hz
        refine hf _ _ _ _ _ _ _ _ W1.sF (sh_of W1 N1 Ra ed) (sh_of W1 N1 Rb ed') ez (rz_bool hz ⟨true, rfl, ?_⟩)
        rw [if_pos rfl]
        obtain ⟨B2, sB, W1b, N1b, kp, _⟩ := keep W1 N1 Rb
        refine hc.go (Q := fun w' H4 => r' y w' H4 Q) W1b N1b e1 (PoE.strong p1 sB) fun rc Γ2 s2 v w2 W2 N2 l2 Rc e2 p2 => ?_
        unfold op2 at e2
        split at e2
        · rename_i d2 d3 ed2 ed3
          split at e2
          · cases e2
          · rename_i z2 ez2
            cases e2
            exact hf' _ _ _ _ _ _ _ _ W2.sF (sh_of (W2.weak sB) (N2.weak sB) (kp W2 N2 l2) ed2) (sh_of W2 N2 Rc ed3) ez2 (rz_use W2 N2 (.refl _) p2)
        · cases e2
      · rename_i hz
        cases e1
        refine hf _ _ _ _ _ _ _ _ W1.sF (sh_of W1 N1 Ra ed) (sh_of W1 N1 Rb ed') ez (rz_bool hz ⟨false, rfl, ?_⟩)
        rw [if_neg Bool.false_ne_true]
        exact p1 w1 W1 N1 (.refl _) _ (.bl _)
  · cases e1
theorem me_chain {op op' : CmpOp} {r r' : R2} {f f' : D → D → Option Rz} (ho : OpR X (compareOp op) r) (hf : Op2 X.K r f) (ho' : OpR X (compareOp op') r') (hf' : Op2 X.K r' f') {te_ha : TE} (ha : ME Y X W a te_ha ga) {te_hb : TE} (hb : ME Y X W b te_hb gb) {te_hc : TE} (hc : ME Y X W c te_hc gc)
    (hm : lastMarks [op, op'] [b, c] = false := by with_unfolding_all rfl) : ME Y X W (.Compare a [op, op'] [b, c] pos) (tChain r r' te_ha te_hb te_hc) (gChain f f' ga gb gc) := by
  obtain ⟨pa, ha⟩ := ha
  obtain ⟨pb, hb⟩ := hb
  obtain ⟨pc, hc⟩ := hc
  exact ⟨pe_chain ho ho' pa pb pc hm, eok_chain hf hf' ha hb hc⟩
theorem mt_chain {op op' : CmpOp} {r r' : R2} {f f' : D → D → Option Rz} (ho : OpR X (compareOp op) r) (hf : Op2 X.K r f) (ho' : OpR X (compareOp op') r') (hf' : Op2 X.K r' f') {te_ha : TE} (ha : ME Y X W a te_ha ga) {te_hb : TE} (hb : ME Y X W b te_hb gb) {te_hc : TE} (hc : ME Y X W c te_hc gc)
    (hm : lastMarks [op, op'] [b, c] = false := by with_unfolding_all rfl) : MT Y X W (.Compare a [op, op'] [b, c] pos) (tTest (tChain r r' te_ha te_hb te_hc)) (gTst (gChain f f' ga gb gc)) := by
  obtain ⟨pa, ha⟩ := ha
  obtain ⟨pb, hb⟩ := hb
  obtain ⟨pc, hc⟩ := hc
  exact ⟨pt_chain ho ho' pa pb pc hm, tok_tst (eok_chain hf hf' ha hb hc)⟩
end
end FX

set_option Elab.async false
set_option linter.all false
set_option maxRecDepth 100000
set_option maxHeartbeats 1000000
namespace FX
open PySem PySem.Spec L2

inductive Fl where
  | nx | rt (r : R) | bk | ct | er (c : Str)
abbrev GS (Y : Sys) := Ev → Y.S → Option (Fl × Ev × Y.S)
def PoS (Y : Sys) (K : PySem.W.Frag) (W : WX) (B : Hp) (w : Wo) (D : Ends) : Fl × Ev × Y.S → Prop
  | (.nx, Γ', s') => ∀ w' σ', Wd Y B w' s' → EnvR K B w' σ' Γ' → Le w w' → D.nx σ' w'.H
  | (.bk, Γ', s') => ∀ w' σ', Wd Y B w' s' → EnvR K B w' σ' Γ' → Le w w' → D.bk σ' w'.H
  | (.ct, Γ', s') => ∀ w' σ', Wd Y B w' s' → EnvR K B w' σ' Γ' → Le w w' → D.ct σ' w'.H
  | (.rt r, _, s') => ∀ w' x, Wd Y B w' s' → SlR K B w' x r → Le w w' → D.rt x w'.H
  | (.er n, Γ', s') => ∀ w' σ', Wd Y B w' s' → EnvR K B w' σ' Γ' → Le w w' → ∀ c, Cn K n c → W c none σ' w'.H
def SOk (Y : Sys) (K : PySem.W.Frag) (W : WX) (t : TS) (g : GS Y) : Prop := ∀ (B : Hp) (w : Wo) (σ : St) (Γ : Ev) (s : Y.S) (out : Fl × Ev × Y.S) (D : Ends),
  Wd Y B w s → EnvR K B w σ Γ → g Γ s = some out → PoS Y K W B w D out → t D σ w.H
structure MS (Y : Sys) (X : Cx) (W : WX) (st : Stmt) (t : TS) (g : GS Y) : Prop where
  pe : PS X st t
  ok : SOk Y X.K W t g
structure MSs (Y : Sys) (X : Cx) (W : WX) (st : List Stmt) (t : TS) (g : GS Y) : Prop where
  pe : PSs X st t
  ok : SOk Y X.K W t g
def bdS {S α : Type} (g : Ev → S → Option (Oc α × Ev × S)) (k : α → Ev → S → Option (Fl × Ev × S)) : Ev → S → Option (Fl × Ev × S) := fun Γ s =>
  match g Γ s with
  | none => none
  | some (.ok a, Γ', s') => k a Γ' s'
  | some (.er c, Γ', s') => some (.er c, Γ', s')

section
variable {Y : Sys} {K : PySem.W.Frag} {W : WX} {B B2 : Hp} {w w1 : Wo} {σ : St} {Γ : Ev} {s : Y.S} {D : Ends}
theorem PoS.le {out : Fl × Ev × Y.S} (p : PoS Y K W B w D out) (l : Le w w1) : PoS Y K W B w1 D out := by
  obtain ⟨o, Γ', s'⟩ := out
  cases o <;> exact fun w' x W' N' l' => p w' x W' N' (l.trans l')
theorem PoS.strong {out : Fl × Ev × Y.S} (p : PoS Y K W B w D out) (e : Same B B2) : PoS Y K W B2 w D out := by
  obtain ⟨o, Γ', s'⟩ := out
  cases o with
  | rt r => exact fun w' x W' r' l' => p w' x (W'.weak e) (r'.weak e) l'
  | nx => exact fun w' x W' N' l' => p w' x (W'.weak e) (N'.weak e) l'
  | bk => exact fun w' x W' N' l' => p w' x (W'.weak e) (N'.weak e) l'
  | ct => exact fun w' x W' N' l' => p w' x (W'.weak e) (N'.weak e) l'
  | er c => exact fun w' x W' N' l' => p w' x (W'.weak e) (N'.weak e) l'
theorem EOk.goS {t : TE} {g : GE Y} (h : EOk Y K W t g) (Wh : Wd Y B w s) (N : EnvR K B w σ Γ) {k : R → Ev → Y.S → Option (Fl × Ev × Y.S)} {out : Fl × Ev × Y.S} {Q : VK}
    (e : bdS g k Γ s = some out) (p : PoS Y K W B w D out)
    (c : ∀ r Γ1 s1 x w1, Wd Y B w1 s1 → EnvR K B w1 σ Γ1 → Le w w1 → ResR K B w1 σ Γ1 x r → k r Γ1 s1 = some out → PoS Y K W B w1 D out → Q x w1.H) : t σ w.H Q := by
  unfold bdS at e
  cases eg : g Γ s with
  | none => rw [eg] at e; cases e
  | some o =>
    obtain ⟨o, Γ1, s1⟩ := o
    rw [eg] at e
    cases o with
    | ok r => exact h B w σ Γ s _ Q Wh N eg fun w1 W1 N1 l x r1 => c r Γ1 s1 x w1 W1 N1 l r1 e (p.le l)
    | er z =>
      cases e
      exact h B w σ Γ s _ Q Wh N eg fun w1 W1 N1 l => p w1 σ W1 N1 l
theorem TOk.goS {t : TT} {g : GT Y} (h : TOk Y K W t g) (Wh : Wd Y B w s) (N : EnvR K B w σ Γ) {k : Bool → Ev → Y.S → Option (Fl × Ev × Y.S)} {out : Fl × Ev × Y.S} {Q : Bool → Hp → Prop}
    (e : bdS g k Γ s = some out) (p : PoS Y K W B w D out)
    (c : ∀ b Γ1 s1 w1, Wd Y B w1 s1 → EnvR K B w1 σ Γ1 → Le w w1 → k b Γ1 s1 = some out → PoS Y K W B w1 D out → Q b w1.H) : t σ w.H Q := by
  unfold bdS at e
  cases eg : g Γ s with
  | none => rw [eg] at e; cases e
  | some o =>
    obtain ⟨o, Γ1, s1⟩ := o
    rw [eg] at e
    cases o with
    | ok r => exact h B w σ Γ s _ Q Wh N eg fun w1 W1 N1 l => c r Γ1 s1 w1 W1 N1 l e (p.le l)
    | er z =>
      cases e
      exact h B w σ Γ s _ Q Wh N eg fun w1 W1 N1 l => p w1 σ W1 N1 l
end

section
variable {Y : Sys} {K : PySem.W.Frag} {W : WX} {B B2 : Hp} {w w1 : Wo} {σ : St} {Γ : Ev} {s : Y.S}
theorem setLen {σ : St} {Γ : Ev} (h : σ.length = Γ.length) (i : Nat) (a : Option V) (b : Option R) : (σ.set i a).length = (Γ.set i b).length := by
  rw [List.length_set, List.length_set]; exact h
theorem getPut {σ : St} {Γ : Ev} (h : σ.length = Γ.length) {i j : Nat} {a : Option V} {b r : Option R} (e : (Γ.set i b)[j]? = some r) :
    (i = j ∧ r = b ∧ (σ.set i a)[j]? = some a) ∨ (i ≠ j ∧ Γ[j]? = some r ∧ (σ.set i a)[j]? = σ[j]?) := by
  have hj : j < (Γ.set i b).length := (List.getElem?_eq_some_iff.mp e).1
  rw [List.length_set, ← h] at hj
  rcases getSet e with ⟨rfl, rfl⟩ | ⟨ne, e⟩
  · exact .inl ⟨rfl, rfl, by rw [List.getElem?_set_self hj]⟩
  · exact .inr ⟨ne, e, List.getElem?_set_ne ne⟩
theorem EnvR.put (N : EnvR K B w σ Γ) {x : V} {r : R} (h : ResR K B w σ Γ x r) (hb : ∀ k, r ≠ .b k) (i : Nat) : EnvR K B w (σ.set i (some x)) (Γ.set i (some r)) := by
  have hs : SlR K B w x r := by
    cases r with
    | o d => exact h.1
    | b k => exact absurd rfl (hb k)
    | v _ => exact h
    | h _ => exact h
    | raw _ => exact h
    | e _ => exact h
  refine ⟨setLen N.len _ _ _, fun j r' e => ?_, fun j k d e x' hj hk hx hy => ?_⟩
  · rcases getPut (a := some x) N.len e with ⟨rfl, z, e2⟩ | ⟨ne, e1, e2⟩
    · cases z; exact ⟨x, e2, hs⟩
    · rw [e2]; exact N.sl j r' e1
  · rcases getPut (a := some x) N.len hj with ⟨rfl, z, e2⟩ | ⟨ne, e1, e2⟩
    · rcases getPut (a := some x) N.len hk with ⟨rfl, z', e2'⟩ | ⟨ne', e1', e2'⟩
      · rfl
      · cases z
        rw [e2] at hx; cases hx
        rw [e2'] at hy
        exact absurd hy (h.2 k e e1')
    · rcases getPut (a := some x) N.len hk with ⟨rfl, z', e2'⟩ | ⟨ne', e1', e2'⟩
      · cases z'
        rw [e2'] at hy; cases hy
        rw [e2] at hx
        exact absurd hx (h.2 j d e1)
      · rw [e2] at hx; rw [e2'] at hy
        exact N.inj j k d e x' e1 e1' hx hy
theorem EnvR.del (N : EnvR K B w σ Γ) (i : Nat) (x : Option V) : EnvR K B w (σ.set i x) (Γ.set i none) := by
  refine ⟨setLen N.len _ _ _, fun j r' e => ?_, fun j k d e x' hj hk hx hy => ?_⟩
  · rcases getPut (a := x) N.len e with ⟨rfl, z, e2⟩ | ⟨ne, e1, e2⟩
    · cases z
    · rw [e2]; exact N.sl j r' e1
  · rcases getPut (a := x) N.len hj with ⟨rfl, z, e2⟩ | ⟨ne, e1, e2⟩
    · cases z
    · rcases getPut (a := x) N.len hk with ⟨rfl, z', e2'⟩ | ⟨ne', e1', e2'⟩
      · cases z'
      · rw [e2] at hx; rw [e2'] at hy
        exact N.inj j k d e x' e1 e1' hx hy
end

mutual
inductive Tg where
  | n (i : Nat) | t (l : Tgs)
inductive Tgs where
  | nil | cons (a : Tg) (l : Tgs)
end
mutual
def bindT : Tg → D → Ev → Option Ev
  | .n i, d, Γ => some (Γ.set i (some (.v d)))
  | .t l, .tuple ds, Γ => bindTs l ds Γ
  | .t _, _, _ => none
def bindTs : Tgs → List D → Ev → Option Ev
  | .nil, [], Γ => some Γ
  | .cons a l, d :: ds, Γ => match bindT a d Γ with
    | some Γ' => bindTs l ds Γ'
    | none => none
  | _, _, _ => none
end
mutual
def Tg.sl : Tg → List Nat
  | .n i => [i]
  | .t l => l.sl
def Tgs.sl : Tgs → List Nat
  | .nil => []
  | .cons a l => a.sl ++ l.sl
end
theorem wipe_set {σ : St} {i : Nat} {x : Option V} : ∀ {vs : List Nat}, i ∈ vs → wipe (σ.set i x) vs = wipe σ vs
  | [], h => by cases h
  | v :: vs, h => by
    show (wipe (σ.set i x) vs).set v none = (wipe σ vs).set v none
    by_cases hi : i ∈ vs
    · rw [wipe_set hi]
    · have hv : i = v := (List.mem_cons.mp h).resolve_right hi
      subst hv
      clear h
      have key : ∀ (us : List Nat), wipe (σ.set i x) us = (wipe σ us).set i (if i ∈ us then none else x) := by
        intro us
        induction us with
        | nil => rfl
        | cons u us ih =>
          show (wipe (σ.set i x) us).set u none = ((wipe σ us).set u none).set i _
          rw [ih]
          by_cases hu : i = u
          · subst hu
            simp [List.set_set]
          · rw [List.set_comm _ _ hu]
            simp [hu]
      rw [key, List.set_set]
def GOk (Y : Sys) (K : PySem.W.Frag) (g : TG) (T : Tg) : Prop := ∀ (B : Hp) (w : Wo) (σ : St) (Γ Γ' : Ev) (s : Y.S) (x : V) (d : D) (Q : St → Hp → Prop),
  Wd Y B w s → EnvR K B w σ Γ → Rp K w.F x d → bindT T d Γ = some Γ' → (∀ σ', EnvR K B w σ' Γ' → (∀ vs : List Nat, (∀ i ∈ T.sl, i ∈ vs) → wipe σ' vs = wipe σ vs) → Q σ' w.H) → g x σ w.H Q
def GsOk (Y : Sys) (K : PySem.W.Frag) (g : TGs) (T : Tgs) : Prop := ∀ (B : Hp) (w : Wo) (σ : St) (Γ Γ' : Ev) (s : Y.S) (xs : List V) (ds : List D) (Q : St → Hp → Prop),
  Wd Y B w s → EnvR K B w σ Γ → RpA K w.F xs ds → bindTs T ds Γ = some Γ' → (∀ σ', EnvR K B w σ' Γ' → (∀ vs : List Nat, (∀ i ∈ T.sl, i ∈ vs) → wipe σ' vs = wipe σ vs) → Q σ' w.H) → g xs σ w.H Q
structure MG (Y : Sys) (X : Cx) (e : Expr) (g : TG) (T : Tg) : Prop where
  pe : PG X e g
  ok : GOk Y X.K g T
structure MGs (Y : Sys) (X : Cx) (es : List Expr) (g : TGs) (T : Tgs) : Prop where
  pe : PGs X es g
  ok : GsOk Y X.K g T
section
variable {Y : Sys} {X : Cx} {e : Expr} {es : List Expr} {pos : Pos}
theorem mg_name {i : Nat} (h : PG X e (L2.gName i)) : MG Y X e (L2.gName i) (.n i) :=
  ⟨h, fun B w σ Γ Γ' s x d Q Wh N r e q => by
    cases e
    exact q _ (N.put (r := .v d) r (fun _ z => nomatch z) i) fun vs hv => wipe_set (hv i (by simp [Tg.sl]))⟩
theorem mgs_nil : MGs Y X [] gNil .nil :=
  ⟨pgs_nil, fun B w σ Γ Γ' s xs ds Q Wh N r e q => by
    cases r with
    | nil => cases e; exact ⟨rfl, q σ N fun _ _ => rfl⟩
    | cons a b => cases e⟩
theorem mgs_cons {a : Tg} {l : Tgs} {tg_h : TG} {tg_h2 : TGs} (h : MG Y X e tg_h a) (h2 : MGs Y X es tg_h2 l) (hs : (assignEach (e :: es) X.env).map (·.2) = assign e X.env :: (assignEach es X.env).map (·.2) := by rfl) : MGs Y X (e :: es) (gCons tg_h tg_h2) (.cons a l) := by
  obtain ⟨pg, h⟩ := h
  obtain ⟨pgs, h2⟩ := h2
  refine ⟨pgs_cons pg pgs hs, fun B w σ Γ Γ' s xs ds Q Wh N r e q => ?_⟩
  cases r with
  | nil => cases e
  | cons r rs =>
    unfold bindTs at e
    split at e
    · rename_i Γ1 e1
      refine ⟨_, _, rfl, h B w σ Γ Γ1 s _ _ _ Wh N r e1 fun σ1 N1 z1 => ?_⟩
      exact h2 B w σ1 Γ1 Γ' s _ _ _ Wh N1 rs e fun σ2 N2 z2 => q σ2 N2 fun vs hv => (z2 vs fun i hi => hv i (by simp [Tgs.sl, hi])).trans (z1 vs fun i hi => hv i (by simp [Tgs.sl, hi]))
    · cases e
theorem mg_tup {k : Nat} {l : Tgs} {n : Nat} {tg_h : TGs} (hc : X.calm = true) (h : MGs Y X es tg_h l) (hn : (assignEach es X.env).length = n := by rfl) (hst : (assignEach es X.env).findIdx? (·.1) = none := by rfl)
    (hl : ∀ ds Γ Γ', bindTs l ds Γ = some Γ' → ds.length = n) : MG Y X (.Tuple es k pos) (L2.gTup X.K n tg_h) (.t l) := by
  obtain ⟨pg, h⟩ := h
  refine ⟨pg_tup hc pg hn hst, fun B w σ Γ Γ' s x d Q Wh N r e q => ?_⟩
  cases r with
  | tup a b =>
    exact ⟨_, _, rfl, .of (Wh.sF _ _ a), by rw [b.length]; exact hl _ _ _ e, h B w σ Γ Γ' s _ _ _ Wh N b e fun σ' N' z => q σ' N' fun vs hv => z vs hv⟩
  | _ => cases e
theorem bl0 : ∀ ds Γ Γ', bindTs .nil ds Γ = some Γ' → ds.length = 0
  | [], _, _, _ => rfl
  | _ :: _, _, _, e => by cases e
theorem blS {a : Tg} {l : Tgs} {n : Nat} (h : ∀ ds Γ Γ', bindTs l ds Γ = some Γ' → ds.length = n) : ∀ ds Γ Γ', bindTs (.cons a l) ds Γ = some Γ' → ds.length = n + 1
  | [], _, _, e => by cases e
  | d :: ds, _, _, e => by
    unfold bindTs at e
    split at e
    · exact congrArg (· + 1) (h _ _ _ e)
    · cases e
end

def sNil {Y : Sys} : GS Y := fun Γ s => some (.nx, Γ, s)
def sSeq {Y : Sys} (g h : GS Y) : GS Y := fun Γ s => match g Γ s with
  | none => none
  | some (.nx, Γ', s') => h Γ' s'
  | some (.rt r, Γ', s') => some (.rt r, Γ', s')
  | some (.bk, Γ', s') => some (.bk, Γ', s')
  | some (.ct, Γ', s') => some (.ct, Γ', s')
  | some (.er c, Γ', s') => some (.er c, Γ', s')
def sDrop {Y : Sys} (g : GE Y) : GS Y := bdS g fun _ Γ s => some (.nx, Γ, s)
def sRet {Y : Sys} (g : GE Y) : GS Y := bdS g fun r Γ s => match r with
  | .b i => match Γ[i]? with
    | some (some (.o d)) => some (.rt (.o d), Γ, s)
    | some (some (.v d)) => some (.rt (.v d), Γ, s)
    | _ => none
  | r => some (.rt r, Γ, s)
def sRetN {Y : Sys} : GS Y := fun Γ s => some (.rt (.v .none), Γ, s)
def sBrk {Y : Sys} : GS Y := fun Γ s => some (.bk, Γ, s)
def sCnt {Y : Sys} : GS Y := fun Γ s => some (.ct, Γ, s)
def sIf {Y : Sys} (t : GT Y) (a b : GS Y) : GS Y := bdS t fun c => if c = true then a else b
def sRaise {Y : Sys} (c : Str) : GS Y := fun Γ s => some (.er c, Γ, s)
def sStuck {Y : Sys} : GS Y := fun _ _ => none
/-- a name is given a result; the object of another slot is frozen first -/
def sSet {Y : Sys} (i : Nat) (g : GE Y) : GS Y := bdS g fun r Γ s => match r with
  | .b j => match Γ[j]? with
    | some (some (.o (.list ds))) => some (.nx, (Γ.set j (some (.v (.list ds)))).set i (some (.v (.list ds))), s)
    | some (some (.v d)) => some (.nx, Γ.set i (some (.v d)), s)
    | _ => none
  | r => some (.nx, Γ.set i (some r), s)
/-- a, b = e -/
def sUnp {Y : Sys} (l : Tgs) (g : GE Y) : GS Y := bdS g fun r Γ s => match r with
  | .v d => match bindT (.t l) d Γ with
    | some Γ' => some (.nx, Γ', s)
    | none => none
  | _ => none
section
variable {Y : Sys} {X : Cx} {W : WX} {st : Stmt} {sts rest : List Stmt} {e a b c : Expr} {es : List Expr} {pos : Pos} {ga gb gc : GE Y} {gt : GT Y} {g h : GS Y}
theorem mss_nil : MSs Y X W [] tNext sNil := ⟨pss_nil, fun B w σ Γ s out D Wh N e p => by cases e; exact p w σ Wh N (.refl _)⟩
theorem sok_seq {K : PySem.W.Frag} {t u : TS} (h1 : SOk Y K W t g) (h2 : SOk Y K W u h) : SOk Y K W (tSeq t u) (sSeq g h) := by
  intro B w σ Γ s out D Wh N e p
  unfold sSeq at e
  cases eg : g Γ s with
  | none => rw [eg] at e; cases e
  | some o =>
    obtain ⟨o, Γ1, s1⟩ := o
    rw [eg] at e
    refine h1 B w σ Γ s _ { D with nx := u D } Wh N eg ?_
    cases o with
    | nx => exact fun w1 σ1 W1 N1 l1 => h2 B w1 σ1 Γ1 s1 _ D W1 N1 e (p.le l1)
    | rt r => cases e; exact p
    | bk => cases e; exact p
    | ct => cases e; exact p
    | er c => cases e; exact p
theorem mss_cons {ts_h1 : TS} (h1 : MS Y X W st ts_h1 g) {ts_h2 : TS} (h2 : MSs Y X W rest ts_h2 h) : MSs Y X W (st :: rest) (tSeq ts_h1 ts_h2) (sSeq g h) := by
  obtain ⟨pt, h1⟩ := h1
  obtain ⟨pu, h2⟩ := h2
  exact ⟨pss_cons pt pu, sok_seq h1 h2⟩
theorem mss_one {ts_h1 : TS} (h1 : MS Y X W st ts_h1 g) : MSs Y X W [st] ts_h1 g := by
  obtain ⟨pt, h1⟩ := h1
  exact ⟨pss_one pt, h1⟩
theorem ms_stuck : MS Y X W st tNever sStuck := ⟨ps_never, fun B w σ Γ s out D Wh N e p => by cases e⟩
theorem mss_stuck : MSs Y X W sts tNever sStuck := ⟨pss_never, fun B w σ Γ s out D Wh N e p => by cases e⟩
theorem ms_pass : MS Y X W (.Pass pos) tNext sNil := ⟨ps_pass, fun B w σ Γ s out D Wh N e p => by cases e; exact p w σ Wh N (.refl _)⟩
theorem ms_break : MS Y X W (.Break pos) tBreak sBrk := ⟨ps_break, fun B w σ Γ s out D Wh N e p => by cases e; exact p w σ Wh N (.refl _)⟩
theorem ms_continue : MS Y X W (.Continue pos) tCont sCnt := ⟨ps_continue, fun B w σ Γ s out D Wh N e p => by cases e; exact p w σ Wh N (.refl _)⟩
theorem ms_expr {te_he : TE} (he : ME Y X W e te_he ga) (hs : swapsWith e none pos.line X.env = pure false := by rfl) : MS Y X W (.Expr e pos) (tDrop te_he) (sDrop ga) := by
  obtain ⟨p, he⟩ := he
  refine ⟨ps_expr p hs, fun B w σ Γ s out D Wh N e p => ?_⟩
  exact he.goS (Q := fun _ H1 => D.nx σ H1) Wh N e p fun r Γ1 s1 x w1 W1 N1 l1 R1 e1 p1 => by cases e1; exact p1 w1 σ W1 N1 (.refl _)
theorem ms_ret {te_he : TE} (he : ME Y X W e te_he ga) : MS Y X W (.Return (some e) pos) (tRet te_he) (sRet ga) := by
  obtain ⟨p, he⟩ := he
  refine ⟨ps_ret p, fun B w σ Γ s out D Wh N e p => ?_⟩
  refine he.goS (Q := D.rt) Wh N e p fun r Γ1 s1 x w1 W1 N1 l1 R1 e1 p1 => ?_
  cases r with
  | v d => cases e1; exact p1 w1 x W1 R1 (.refl _)
  | h d => cases e1; exact p1 w1 x W1 R1 (.refl _)
  | raw d => cases e1; exact p1 w1 x W1 R1 (.refl _)
  | e d => cases e1; exact p1 w1 x W1 R1 (.refl _)
  | o d => cases e1; exact p1 w1 x W1 R1.1 (.refl _)
  | b i =>
    have hx : σ[i]? = some (some x) := R1
    simp only at e1
    split at e1
    · rename_i d hd
      cases e1
      obtain ⟨y, hy, q⟩ := N1.sl i _ hd
      rw [hx] at hy; cases hy
      exact p1 w1 x W1 q (.refl _)
    · rename_i d hd
      cases e1
      obtain ⟨y, hy, q⟩ := N1.sl i _ hd
      rw [hx] at hy; cases hy
      exact p1 w1 x W1 q (.refl _)
    · cases e1
theorem ms_retN : MS Y X W (.Return none pos) tRetN sRetN := ⟨ps_retN, fun B w σ Γ s out D Wh N e p => by cases e; exact p w _ Wh (show Rp _ _ _ _ from .non) (.refl _)⟩
theorem ms_if {tt_hc : TT} (hc : MT Y X W c tt_hc gt) {ts_ha : TS} (ha : MSs Y X W sts ts_ha g) {ts_hb : TS} (hb : MSs Y X W rest ts_hb h) : MS Y X W (.If c sts rest pos) (tIfS tt_hc ts_ha ts_hb) (sIf gt g h) := by
  obtain ⟨p, hc⟩ := hc
  obtain ⟨pa, ha⟩ := ha
  obtain ⟨pb, hb⟩ := hb
  refine ⟨ps_if p pa pb, fun B w σ Γ s out D Wh N e p => ?_⟩
  refine hc.goS (Q := fun b H1 => if b = true then ts_ha D σ H1 else ts_hb D σ H1) Wh N e p fun b Γ1 s1 w1 W1 N1 l1 e1 p1 => ?_
  cases b with
  | true => exact ha B w1 σ Γ1 s1 _ D W1 N1 e1 p1
  | false => exact hb B w1 σ Γ1 s1 _ D W1 N1 e1 p1
theorem sok_set {K : PySem.W.Frag} {te : TE} {i : Nat} (he : EOk Y K W te ga) : SOk Y K W (tAsg te (L2.gName i)) (sSet i ga) := by
  intro B w σ Γ s out D Wh N e p
  refine he.goS (Q := fun x H1 => D.nx (σ.set i (some x)) H1) Wh N e p fun r Γ1 s1 x w1 W1 N1 l1 R1 e1 p1 => ?_
  cases r with
  | v d => cases e1; exact p1 w1 _ W1 (N1.put R1 (fun _ z => nomatch z) i) (.refl _)
  | h d => cases e1; exact p1 w1 _ W1 (N1.put R1 (fun _ z => nomatch z) i) (.refl _)
  | raw d => cases e1; exact p1 w1 _ W1 (N1.put R1 (fun _ z => nomatch z) i) (.refl _)
  | e d => cases e1; exact p1 w1 _ W1 (N1.put R1 (fun _ z => nomatch z) i) (.refl _)
  | o d => cases e1; exact p1 w1 _ W1 (N1.put R1 (fun _ z => nomatch z) i) (.refl _)
  | b j =>
    have hx : σ[j]? = some (some x) := R1
    simp only at e1
    split at e1
    · rename_i d hd
      cases e1
      obtain ⟨y, hy, q, rfl, own, fq, bq, aq⟩ := N1.sl j _ hd
      rw [hx] at hy; cases hy
      obtain ⟨o, ho⟩ := own.obj
      exact p1 { w1 with F := upd w1.F q o } _ (W1.fz ho bq aq) ((N1.fzS hd hx ho).put (r := .v (.list d)) (own.rp fq ho) (fun _ z => nomatch z) i) (Le.fz fq)
    · rename_i d hd
      cases e1
      obtain ⟨y, hy, q⟩ := N1.sl j _ hd
      rw [hx] at hy; cases hy
      exact p1 w1 _ W1 (N1.put (r := .v d) q (fun _ z => nomatch z) i) (.refl _)
    · cases e1
theorem ms_set {i : Nat} {x : Str} {pos' : Pos} (hN : X.N.Nodup) (hi : X.N[i]? = some x) (hx : Loc X.env.scope x) {te_he : TE} (he : ME Y X W e te_he ga) (hs : swapsWith e (some (.Name x pos')) pos.line X.env = pure false := by rfl) (hf : X.fn x = true ∨ X.env.scope.names.lookup x = some .local := by first | exact .inl rfl | exact .inr rfl | assumption) :
    MS Y X W (.Assign [.Name x pos'] e pos) (tAsg te_he (L2.gName i)) (sSet i ga) := by
  obtain ⟨p, he⟩ := he
  exact ⟨ps_set hN hi hx p hs hf, sok_set he⟩
theorem ms_unp {k : Nat} {l : Tgs} {tpos : Pos} {te_he : TE} (he : ME Y X W e te_he ga) {tg_hg : TG} (hg : MG Y X (.Tuple es k tpos) tg_hg (.t l)) (hs : swapsWithSole [.Tuple es k tpos] e pos.line X.env = pure false := by rfl) (hw : swappedStores [.Tuple es k tpos] e X.env = pure none := by rfl)
    (h1 : (assignEach [.Tuple es k tpos] X.env).map (·.2) = [assign (.Tuple es k tpos) X.env] := by rfl) : MS Y X W (.Assign [.Tuple es k tpos] e pos) (tAsg te_he tg_hg) (sUnp l ga) := by
  obtain ⟨p, he⟩ := he
  obtain ⟨pg, hg⟩ := hg
  refine ⟨ps_asg p pg hs hw h1, fun B w σ Γ s out D Wh N e p => ?_⟩
  refine he.goS (Q := fun x H1 => tg_hg x σ H1 D.nx) Wh N e p fun r Γ1 s1 x w1 W1 N1 l1 R1 e1 p1 => ?_
  cases r with
  | v d =>
    simp only at e1
    split at e1
    · rename_i Γ' eb
      cases e1
      exact hg B w1 σ Γ1 Γ' s1 x d D.nx W1 N1 R1 eb fun σ' N' _ => p1 w1 σ' W1 N' (.refl _)
    · cases e1
  | _ => cases e1
theorem ms_raise {n : Str} {c : Value} (hn : Cn X.K n c) (hr : PS X st (fun _ σ H => W c none σ H)) : MS Y X W st (fun _ σ H => W c none σ H) (sRaise n) := ⟨hr, fun B w σ Γ s out D Wh N e p => by cases e; exact p w σ Wh N (.refl _) c hn⟩
/-- name op= e -/
def sAug {Y : Sys} (i : Nat) (f : D → D → Option Rz) (g : GE Y) : GS Y := bdS (gBin f (gV i) g) fun r Γ s => some (.nx, Γ.set i (some r), s)
end
end FX

set_option Elab.async false
set_option linter.all false
set_option maxRecDepth 100000
set_option maxHeartbeats 1000000
namespace FX
open PySem PySem.Spec L2

def ItOk (K : PySem.W.Frag) (J : It) (F0 : Hp) (ds : List D) : Prop := ∀ (F H : Hp), Same F0 F → Same F H → ∀ i : Nat, (i < ds.length → J.go i H) ∧ (ds.length ≤ i → J.stop i H) ∧
  ∀ x H', J.yld i H x H' → ∀ d, ds[i]? = some d → (H' = H ∧ Rp K F x d) ∨ ∃ T xs es, H T = none ∧ H' = upd H T (.tup xs) ∧ x = .ref T ∧ d = .tuple es ∧ RpA K F xs es
abbrev GI (Y : Sys) := Ev → Y.S → Option (Oc (List D) × Ev × Y.S)
def IOk (Y : Sys) (K : PySem.W.Frag) (W : WX) (wi : TI) (g : GI Y) : Prop := ∀ (B : Hp) (w : Wo) (σ : St) (Γ : Ev) (s : Y.S) (out : Oc (List D) × Ev × Y.S) (Q : It → Hp → Prop),
  Wd Y B w s → EnvR K B w σ Γ → g Γ s = some out → PoG Y K W B w σ (fun ds _ w' => ∀ J, ItOk K J w'.F ds → Q J w'.H) out → wi σ w.H Q
structure MI (Y : Sys) (X : Cx) (W : WX) (tg iter : Expr) (wi : TI) (g : GI Y) : Prop where
  pe : PI X tg iter wi
  ok : IOk Y X.K W wi g
def gItL {Y : Sys} (g : GE Y) : GI Y := bd (gEsc g) fun r Γ s => match r with
  | .v (.list ds) => some (.ok ds, Γ, s)
  | _ => none
def gItT {Y : Sys} (g : GE Y) : GI Y := bd (gEsc g) fun r Γ s => match r with
  | .v (.tuple ds) => some (.ok ds, Γ, s)
  | _ => none
def rangeD (lo : Int) (n : Nat) : List D := (List.range n).map fun i => .int (lo + (i : Nat))
theorem rangeD_len (lo : Int) (n : Nat) : (rangeD lo n).length = n := by simp [rangeD]
theorem rangeD_get {lo : Int} {n i : Nat} {d : D} (h : (rangeD lo n)[i]? = some d) : i < n ∧ d = .int (lo + (i : Nat)) := by
  unfold rangeD at h
  rw [List.getElem?_map] at h
  have hi : i < n := by
    cases q : (List.range n)[i]? with
    | none => rw [q] at h; cases h
    | some k => simpa using (List.getElem?_eq_some_iff.mp q).1
  rw [List.getElem?_range hi] at h
  cases h
  exact ⟨hi, rfl⟩
/-- below 2 ^ 62; told so that the kernel stops at a number that it does not know -/
def bigI (i : Int) : Bool := Nat.ble (i.natAbs + 1) 4611686018427387904
theorem bigI_of {i : Int} (h : bigI i = true) : -(2 ^ 62) ≤ i ∧ i < 2 ^ 62 := by
  unfold bigI at h
  have := Nat.le_of_ble_eq_true h
  omega
theorem bigI_mk {i : Int} (h : i.natAbs < 4611686018427387904) : bigI i = true := Nat.ble_eq_true_of_le h
def gRg1 {Y : Sys} (g : GA Y) : GI Y := bd g fun rs Γ s => match rdA Γ rs with
  | some [.int j] => if bigI j = true then some (.ok (rangeD 0 j.toNat), Γ, s) else none
  | _ => none
def gRg2 {Y : Sys} (g : GA Y) : GI Y := bd g fun rs Γ s => match rdA Γ rs with
  | some [.int i, .int j] => if bigI i = true ∧ bigI j = true then some (.ok (rangeD i (j - i).toNat), Γ, s) else none
  | _ => none
def enumD (k : Nat) : List D → List D
  | [] => []
  | d :: ds => .tuple [.int (k : Nat), d] :: enumD (k + 1) ds
theorem enumD_len : ∀ (k : Nat) (ds : List D), (enumD k ds).length = ds.length
  | _, [] => rfl
  | k, _ :: ds => by simp [enumD, enumD_len (k + 1) ds]
theorem enumD_get : ∀ {k : Nat} {ds : List D} {i : Nat} {d : D}, (enumD k ds)[i]? = some d → ∃ e, ds[i]? = some e ∧ d = .tuple [.int ((k + i : Nat) : Int), e]
  | _, [], _, _, h => by simp [enumD] at h
  | k, e :: ds, 0, d, h => by
    simp [enumD] at h
    exact ⟨e, rfl, by simp [← h]⟩
  | k, e :: ds, i + 1, d, h => by
    obtain ⟨e', h1, h2⟩ := enumD_get (k := k + 1) (ds := ds) (i := i) (d := d) (by simpa [enumD] using h)
    exact ⟨e', by simpa using h1, by rw [h2, show k + 1 + i = k + (i + 1) by omega]⟩
def gEnm {Y : Sys} (g : GA Y) : GI Y := bd g fun rs Γ s => match rs with
  | [.v (.list ds)] => some (.ok (enumD 0 ds), Γ, s)
  | _ => none
def zipD : List D → List D → List D
  | a :: as, b :: bs => .tuple [a, b] :: zipD as bs
  | _, _ => []
theorem zipD_get : ∀ {as bs : List D} {i : Nat} {d : D}, (zipD as bs)[i]? = some d → ∃ a b, as[i]? = some a ∧ bs[i]? = some b ∧ d = .tuple [a, b]
  | [], _, _, _, h => by simp [zipD] at h
  | _ :: _, [], _, _, h => by simp [zipD] at h
  | a :: as, b :: bs, 0, d, h => by
    simp [zipD] at h
    exact ⟨a, b, rfl, rfl, h.symm⟩
  | a :: as, b :: bs, i + 1, d, h => by
    obtain ⟨x, y, h1, h2, h3⟩ := zipD_get (as := as) (bs := bs) (i := i) (d := d) (by simpa [zipD] using h)
    exact ⟨x, y, by simpa using h1, by simpa using h2, h3⟩
theorem zipD_len : ∀ (as bs : List D), (zipD as bs).length = min as.length bs.length
  | [], _ => by simp [zipD]
  | _ :: _, [] => by simp [zipD]
  | _ :: as, _ :: bs => by simp only [zipD, List.length_cons, zipD_len as bs]; omega
def gZip {Y : Sys} (g : GA Y) : GI Y := bd g fun rs Γ s => match rs with
  | [.v (.list as), .v (.list bs)] => some (.ok (zipD as bs), Γ, s)
  | _ => none

section
variable {Y : Sys} {X : Cx} {W : WX} {tg e a b : Expr} {es : List Expr} {pos p : Pos} {ga gb : GE Y} {gr : GA Y}
theorem it_list {K : PySem.W.Frag} {F : Hp} {q : Addr} {xs : List V} {ds : List D} (h : SqL K F q xs) (r : RpA K F xs ds) : ItOk K (Itl K q) F ds := fun F1 H e1 e2 i => by
  have hH : SqL K H q xs := (e1.trans e2).seq h
  have hl := r.length
  refine ⟨fun hi => ?_, fun hi => ⟨xs, hH, by omega⟩, fun x H' y d hd => ?_⟩
  · have hi' : i < xs.length := by omega
    exact ⟨xs, xs[i], hH, List.getElem?_eq_getElem hi'⟩
  · obtain ⟨e, y⟩ := y
    obtain ⟨v, hv, rv⟩ := r.get hd
    have : x = v := Option.some.inj ((y xs hH).symm.trans hv)
    subst this
    exact .inl ⟨e, rv.mono e1⟩
theorem it_tup {K : PySem.W.Frag} {F : Hp} {q : Addr} {xs : List V} {ds : List D} (h : SqT K F q xs) (r : RpA K F xs ds) : ItOk K (Itt K q) F ds := fun F1 H e1 e2 i => by
  have hH : SqT K H q xs := seqT (e1.trans e2) h
  have hl := r.length
  refine ⟨fun hi => ?_, fun hi => ⟨xs, hH, by omega⟩, fun x H' y d hd => ?_⟩
  · have hi' : i < xs.length := by omega
    exact ⟨xs, xs[i], hH, List.getElem?_eq_getElem hi'⟩
  · obtain ⟨e, y⟩ := y
    obtain ⟨v, hv, rv⟩ := r.get hd
    have : x = v := Option.some.inj ((y xs hH).symm.trans hv)
    subst this
    exact .inl ⟨e, rv.mono e1⟩
theorem it_range {K : PySem.W.Frag} {F : Hp} (lo : Int) (n : Nat) : ItOk K (Itr lo n) F (rangeD lo n) := fun F1 H e1 e2 i => by
  refine ⟨fun hi => by rw [rangeD_len] at hi; exact hi, fun hi => by rw [rangeD_len] at hi; exact hi, fun x H' y d hd => ?_⟩
  obtain ⟨e, rfl⟩ := y
  obtain ⟨_, rfl⟩ := rangeD_get hd
  exact .inl ⟨e, .int _⟩
theorem it_enum {K : PySem.W.Frag} {F : Hp} {q : Addr} {xs : List V} {ds : List D} (h : SqL K F q xs) (r : RpA K F xs ds) : ItOk K (Ite K q) F (enumD 0 ds) := fun F1 H e1 e2 i => by
  have hH : SqL K H q xs := (e1.trans e2).seq h
  have hl := r.length
  refine ⟨fun hi => ?_, fun hi => ⟨xs, hH, by rw [enumD_len] at hi; omega⟩, fun x H' y d hd => ?_⟩
  · rw [enumD_len] at hi
    have hi' : i < xs.length := by omega
    exact ⟨xs, xs[i], hH, List.getElem?_eq_getElem hi'⟩
  · obtain ⟨T, z, rfl, nT, rfl, y⟩ := y
    obtain ⟨e, he, rfl⟩ := enumD_get hd
    obtain ⟨v, hv, rv⟩ := r.get he
    have : z = v := Option.some.inj ((y xs hH).symm.trans hv)
    subst this
    refine .inr ⟨T, _, _, nT, rfl, rfl, rfl, ?_⟩
    rw [Nat.zero_add]
    exact .cons (.int _) (.cons (rv.mono e1) .nil)
theorem it_zip {K : PySem.W.Frag} {F : Hp} {q q2 : Addr} {xs ys : List V} {ds es : List D} (h : SqL K F q xs) (r : RpA K F xs ds) (h2 : SqL K F q2 ys) (r2 : RpA K F ys es) : ItOk K (Itz K q q2) F (zipD ds es) := fun F1 H e1 e2 i => by
  have hH : SqL K H q xs := (e1.trans e2).seq h
  have hH2 : SqL K H q2 ys := (e1.trans e2).seq h2
  have hl := r.length
  have hl2 := r2.length
  rw [zipD_len]
  refine ⟨fun hi => ?_, fun hi => ⟨xs, ys, hH, hH2, by omega⟩, fun x H' y d hd => ?_⟩
  · have hi' : i < xs.length := by omega
    have hi2 : i < ys.length := by omega
    exact ⟨xs, ys, xs[i], ys[i], hH, hH2, List.getElem?_eq_getElem hi', List.getElem?_eq_getElem hi2⟩
  · obtain ⟨T, z, z2, rfl, nT, rfl, y, y2⟩ := y
    obtain ⟨a, b, ha, hb, rfl⟩ := zipD_get hd
    obtain ⟨v, hv, rv⟩ := r.get ha
    obtain ⟨v2, hv2, rv2⟩ := r2.get hb
    have : z = v := Option.some.inj ((y xs hH).symm.trans hv)
    subst this
    have : z2 = v2 := Option.some.inj ((y2 ys hH2).symm.trans hv2)
    subst this
    exact .inr ⟨T, _, _, nT, rfl, rfl, rfl, .cons (rv.mono e1) (.cons (rv2.mono e1) .nil)⟩
theorem mi_list {te : TE} (h : ME Y X W e te ga) : MI Y X W tg e (iList X.K te) (gItL ga) := by
  obtain ⟨pe, h⟩ := h
  refine ⟨pi_list pe, fun B w σ Γ s out Q Wh N e p => ?_⟩
  refine (eok_esc h).go (Q := fun x H1 => ∃ a, x = .ref a ∧ (∃ xs, SqL X.K H1 a xs) ∧ Q (Itl X.K a) H1) Wh N e p fun r Γ1 s1 x w1 W1 N1 l1 R1 e1 p1 => ?_
  try simp only at e1
  split at e1
  · cases e1
    cases (show Rp X.K w1.F x (.list _) from R1) with
    | lst h r => exact ⟨_, rfl, ⟨_, .of (W1.sF _ _ h)⟩, p1 w1 W1 N1 (.refl _) _ (it_list (.of h) r)⟩
  · cases e1
theorem mi_tup {te : TE} (h : ME Y X W e te ga) : MI Y X W tg e (iTup X.K te) (gItT ga) := by
  obtain ⟨pe, h⟩ := h
  refine ⟨pi_tup pe, fun B w σ Γ s out Q Wh N e p => ?_⟩
  refine (eok_esc h).go (Q := fun x H1 => ∃ a, x = .ref a ∧ (∃ xs, SqT X.K H1 a xs) ∧ Q (Itt X.K a) H1) Wh N e p fun r Γ1 s1 x w1 W1 N1 l1 R1 e1 p1 => ?_
  try simp only at e1
  split at e1
  · cases e1
    cases (show Rp X.K w1.F x (.tuple _) from R1) with
    | tup h r => exact ⟨_, rfl, ⟨_, .of (W1.sF _ _ h)⟩, p1 w1 W1 N1 (.refl _) _ (it_tup (.of h) r)⟩
  · cases e1
theorem sh_int {K : PySem.W.Frag} {F H : Hp} {x : V} {b : Int} (h : Sh K F H x (.int b)) : x = .int b := by cases (show Rp K F x (.int b) from h); rfl
theorem sh_str {K : PySem.W.Frag} {F H : Hp} {x : V} {b : Str} (h : Sh K F H x (.str b)) : x = .str b := by cases (show Rp K F x (.str b) from h); rfl
theorem sh_non {K : PySem.W.Frag} {F H : Hp} {x : V} (h : Sh K F H x .none) : x = .non := by cases (show Rp K F x .none from h); rfl
theorem mi_range1 {ta : TA} (hg : Gl X "range") (hm : X.mg "range" = none) (h : MA Y X W [a] ta gr) (hs : starEach [a] X.env = [(false, eval a X.env)] := by rfl) : MI Y X W tg (.Call (.Name "range" p) [a] [] pos) (iRng1 ta) (gRg1 gr) := by
  obtain ⟨pe, h⟩ := h
  refine ⟨pi_range1 hg hm pe hs, fun B w σ Γ s out Q Wh N e p => ?_⟩
  refine h.go (Q := fun vs H1 => ∃ j : Int, vs = [.int j] ∧ -(2 ^ 62) ≤ j ∧ j < 2 ^ 62 ∧ Q (Itr 0 j.toNat) H1) Wh N e p fun rs Γ1 s1 xs w1 W1 N1 l1 R1 e1 p1 => ?_
  try simp only at e1
  split at e1
  · rename_i j ed
    split at e1
    · rename_i hb
      cases e1
      obtain ⟨b1, b2⟩ := bigI_of hb
      cases sha_of W1 N1 R1 ed with
      | cons q t =>
        cases t
        cases sh_int q
        exact ⟨j, rfl, b1, b2, p1 w1 W1 N1 (.refl _) _ (it_range 0 j.toNat)⟩
    · cases e1
  · cases e1
theorem mi_range2 {ta : TA} (hg : Gl X "range") (hm : X.mg "range" = none) (h : MA Y X W [a, b] ta gr) (hs : starEach [a, b] X.env = [(false, eval a X.env), (false, eval b X.env)] := by rfl) (hs2 : starEach [b] X.env = [(false, eval b X.env)] := by rfl) :
    MI Y X W tg (.Call (.Name "range" p) [a, b] [] pos) (iRng2 ta) (gRg2 gr) := by
  obtain ⟨pe, h⟩ := h
  refine ⟨pi_range2 hg hm pe hs hs2, fun B w σ Γ s out Q Wh N e p => ?_⟩
  refine h.go (Q := fun vs H1 => ∃ i j : Int, vs = [.int i, .int j] ∧ (-(2 ^ 62) ≤ i ∧ i < 2 ^ 62 ∧ -(2 ^ 62) ≤ j ∧ j < 2 ^ 62) ∧ Q (Itr i (j - i).toNat) H1) Wh N e p fun rs Γ1 s1 xs w1 W1 N1 l1 R1 e1 p1 => ?_
  try simp only at e1
  split at e1
  · rename_i i j ed
    split at e1
    · rename_i hb
      cases e1
      obtain ⟨b1, b2⟩ := bigI_of hb.1
      obtain ⟨b3, b4⟩ := bigI_of hb.2
      cases sha_of W1 N1 R1 ed with
      | cons q t =>
        cases t with
        | cons q2 t =>
          cases t
          cases sh_int q
          cases sh_int q2
          exact ⟨i, j, rfl, ⟨b1, b2, b3, b4⟩, p1 w1 W1 N1 (.refl _) _ (it_range i _)⟩
    · cases e1
  · cases e1
theorem mi_enum {ta : TA} {elts : List Expr} {kk : Nat} {tpos : Pos} (hg : Gl X "enumerate") (hm : X.mg "enumerate" = none) (h : MA Y X W [e] ta gr) (hs : starEach [e] X.env = [(false, eval e X.env)] := by rfl) :
    MI Y X W (.Tuple elts kk tpos) (.Call (.Name "enumerate" p) [e] [] pos) (iEnum X.K ta) (gEnm gr) := by
  obtain ⟨pe, h⟩ := h
  refine ⟨pi_enum hg hm pe hs, fun B w σ Γ s out Q Wh N e p => ?_⟩
  refine h.go (Q := fun vs H1 => ∃ a xs, vs = [.ref a] ∧ SqL X.K H1 a xs ∧ Q (Ite X.K a) H1) Wh N e p fun rs Γ1 s1 xs w1 W1 N1 l1 R1 e1 p1 => ?_
  try simp only at e1
  split at e1
  · cases e1
    cases R1 with
    | cons q t =>
      cases t
      cases (show Rp X.K w1.F _ (.list _) from q) with
      | lst h r => exact ⟨_, _, rfl, .of (W1.sF _ _ h), p1 w1 W1 N1 (.refl _) _ (it_enum (.of h) r)⟩
  · cases e1
theorem mi_zip {ta : TA} {elts : List Expr} {kk : Nat} {tpos : Pos} (hg : Gl X "zip") (hm : X.mg "zip" = none) (h : MA Y X W [a, b] ta gr)
    (hs : starEach [a, b] X.env = (false, eval a X.env) :: starEach [b] X.env := by rfl) (hpl : (backTo pos (starEach [b] X.env)).any (·.1) = false := by rfl) :
    MI Y X W (.Tuple elts kk tpos) (.Call (.Name "zip" p) [a, b] [] pos) (iZip X.K ta) (gZip gr) := by
  obtain ⟨pe, h⟩ := h
  refine ⟨pi_zip hg hm pe hs hpl, fun B w σ Γ s out Q Wh N e p => ?_⟩
  refine h.go (Q := fun vs H1 => ∃ a b xs ys, vs = [.ref a, .ref b] ∧ SqL X.K H1 a xs ∧ SqL X.K H1 b ys ∧ Q (Itz X.K a b) H1) Wh N e p fun rs Γ1 s1 xs w1 W1 N1 l1 R1 e1 p1 => ?_
  try simp only at e1
  split at e1
  · cases e1
    cases R1 with
    | cons q t =>
      cases t with
      | cons q2 t =>
        cases t
        cases (show Rp X.K w1.F _ (.list _) from q) with
        | lst h r =>
          cases (show Rp X.K w1.F _ (.list _) from q2) with
          | lst h2 r2 => exact ⟨_, _, _, _, rfl, .of (W1.sF _ _ h), .of (W1.sF _ _ h2), p1 w1 W1 N1 (.refl _) _ (it_zip (.of h) r (.of h2) r2)⟩
  · cases e1
end

def forG {Y : Sys} (T : Tg) (body : GS Y) : List D → GS Y
  | [], Γ, s => some (.nx, Γ, s)
  | d :: ds, Γ, s => match bindT T d Γ with
    | none => none
    | some Γ1 => match body Γ1 s with
      | none => none
      | some (.nx, Γ2, s2) => forG T body ds Γ2 s2
      | some (.ct, Γ2, s2) => forG T body ds Γ2 s2
      | some (.bk, Γ2, s2) => some (.nx, Γ2, s2)
      | some (.rt r, Γ2, s2) => some (.rt r, Γ2, s2)
      | some (.er c, Γ2, s2) => some (.er c, Γ2, s2)
def sFor {Y : Sys} (T : Tg) (gi : GI Y) (body : GS Y) : GS Y := bdS gi fun ds => forG T body ds
theorem IOk.goS {Y : Sys} {K : PySem.W.Frag} {W : WX} {B : Hp} {w : Wo} {σ : St} {Γ : Ev} {s : Y.S} {D' : Ends} {wi : TI} {g : GI Y} (h : IOk Y K W wi g) (Wh : Wd Y B w s) (N : EnvR K B w σ Γ) {k : List D → Ev → Y.S → Option (Fl × Ev × Y.S)} {out : Fl × Ev × Y.S} {Q : It → Hp → Prop}
    (e : bdS g k Γ s = some out) (p : PoS Y K W B w D' out)
    (c : ∀ ds Γ1 s1 J w1, Wd Y B w1 s1 → EnvR K B w1 σ Γ1 → Le w w1 → ItOk K J w1.F ds → k ds Γ1 s1 = some out → PoS Y K W B w1 D' out → Q J w1.H) : wi σ w.H Q := by
  unfold bdS at e
  cases eg : g Γ s with
  | none => rw [eg] at e; cases e
  | some o =>
    obtain ⟨o, Γ1, s1⟩ := o
    rw [eg] at e
    cases o with
    | ok r => exact h B w σ Γ s _ Q Wh N eg fun w1 W1 N1 l J r1 => c r Γ1 s1 J w1 W1 N1 l r1 e (p.le l)
    | er z =>
      cases e
      exact h B w σ Γ s _ Q Wh N eg fun w1 W1 N1 l => p w1 σ W1 N1 l
/-- the item at turn i: the world it stands in -/
theorem it_turn {Y : Sys} {K : PySem.W.Frag} {B : Hp} {w : Wo} {σ : St} {Γ : Ev} {s : Y.S} {J : It} {F0 : Hp} {ds : List D} (It : ItOk K J F0 ds) (Wh : Wd Y B w s) (N : EnvR K B w σ Γ) (e : Same F0 w.F) {i : Nat} {x : V} {H' : Hp} (y : J.yld i w.H x H') {d : D} (hd : ds[i]? = some d) :
    ∃ w', w'.H = H' ∧ Wd Y B w' s ∧ EnvR K B w' σ Γ ∧ Le w w' ∧ Rp K w'.F x d := by
  rcases (It w.F w.H e Wh.sF i).2.2 x H' y d hd with ⟨rfl, r⟩ | ⟨T, xs, es, nT, rfl, rfl, rfl, r⟩
  · exact ⟨w, rfl, Wh, N, .refl _, r⟩
  · have Fn : w.F T = none := Wh.sF.free nT
    exact ⟨{ w with F := upd w.F T (.tup xs), H := upd w.H T (.tup xs) }, rfl, Wh.newF nT, N.newF Wh nT, Le.newF Fn, Rp.tup upd_same (r.mono (upd_sm Fn))⟩
theorem sok_for {Y : Sys} {K : PySem.W.Frag} {W : WX} {wi : TI} {gi : GI Y} {g : TG} {T : Tg} {tb : TS} {body : GS Y} (hi : IOk Y K W wi gi) (hg : GOk Y K g T) (hb : SOk Y K W tb body) : SOk Y K W (tFor wi g tb) (sFor T gi body) := by
  intro B w σ Γ s out D Wh N e p
  refine hi.goS (Q := fun J H1 => ∃ W : Nat → Nat → St → Hp → Prop, (∃ m, W 0 m σ H1) ∧ ∀ i m σ H, W i m σ H →
    (J.stop i H ∧ D.nx σ H) ∨ (J.go i H ∧ ∃ N : St → Hp → Prop, (∀ σ' H', N σ' H' → ∃ m', m' < m ∧ W (i + 1) m' σ' H') ∧ ∀ x H', J.yld i H x H' → g x σ H' fun σ2 H2 => tb { D with nx := N, ct := N, bk := D.nx } σ2 H2)) Wh N e p
    fun ds Γ1 s1 J w1 W1 N1 l1 It e1 p1 => ?_
  refine ⟨fun i m σ H => ∃ w' Γ' s', w'.H = H ∧ Wd Y B w' s' ∧ EnvR K B w' σ Γ' ∧ Le w1 w' ∧ m = ds.length - i ∧ i ≤ ds.length ∧ forG T body (ds.drop i) Γ' s' = some out,
    ⟨ds.length, w1, Γ1, s1, rfl, W1, N1, .refl _, rfl, Nat.zero_le _, by rw [List.drop_zero]; exact e1⟩, ?_⟩
  rintro i m σ H ⟨w', Γ', s', rfl, W', N', l', rfl, hle, e'⟩
  by_cases hlt : i < ds.length
  · have hd : ds[i]? = some ds[i] := List.getElem?_eq_getElem hlt
    rw [List.drop_eq_getElem_cons hlt] at e'
    unfold forG at e'
    split at e'
    · cases e'
    · rename_i Γ2 eb
      refine .inr ⟨(It w'.F w'.H l'.F W'.sF i).1 hlt, fun σ H => ∃ w' Γ' s', w'.H = H ∧ Wd Y B w' s' ∧ EnvR K B w' σ Γ' ∧ Le w1 w' ∧ forG T body (ds.drop (i + 1)) Γ' s' = some out, fun σ' H' ⟨w2, Γ2, s2, h1, h2, h3, h4, h5⟩ => ⟨ds.length - (i + 1), by omega, w2, Γ2, s2, h1, h2, h3, h4, rfl, hlt, h5⟩, fun x H' y => ?_⟩
      obtain ⟨w2, rfl, W2, N2, l2, r2⟩ := it_turn It W' N' l'.F y hd
      refine hg B w2 σ Γ' Γ2 s' x _ _ W2 N2 r2 eb fun σ3 N3 _ => ?_
      split at e'
      · cases e'
      · rename_i Γ4 s4 eo
        exact hb B w2 σ3 Γ2 s' _ _ W2 N3 eo fun w4 σ4 W4 N4 l4 => ⟨w4, Γ4, s4, rfl, W4, N4, (l'.trans l2).trans l4, e'⟩
      · rename_i Γ4 s4 eo
        exact hb B w2 σ3 Γ2 s' _ _ W2 N3 eo fun w4 σ4 W4 N4 l4 => ⟨w4, Γ4, s4, rfl, W4, N4, (l'.trans l2).trans l4, e'⟩
      · rename_i Γ4 s4 eo
        cases e'
        exact hb B w2 σ3 Γ2 s' _ _ W2 N3 eo fun w4 σ4 W4 N4 l4 => p1 w4 σ4 W4 N4 ((l'.trans l2).trans l4)
      · rename_i r Γ4 s4 eo
        cases e'
        exact hb B w2 σ3 Γ2 s' _ _ W2 N3 eo fun w4 x W4 N4 l4 => p1 w4 x W4 N4 ((l'.trans l2).trans l4)
      · rename_i c Γ4 s4 eo
        cases e'
        exact hb B w2 σ3 Γ2 s' _ _ W2 N3 eo fun w4 σ4 W4 N4 l4 => p1 w4 σ4 W4 N4 ((l'.trans l2).trans l4)
  · have ei : i = ds.length := by omega
    subst ei
    rw [List.drop_length] at e'
    cases e'
    exact .inl ⟨(It w'.F w'.H l'.F W'.sF _).2.1 (Nat.le_refl _), p1 w' σ W' N' l'⟩
theorem ms_for {Y : Sys} {X : Cx} {W : WX} {tg iter : Expr} {body : List Stmt} {wi : TI} {g : TG} {tb : TS} {gi : GI Y} {T : Tg} {gb : GS Y} {pos : Pos} (hp : PassesOwn (model X.prog X.w) X.A X.env X.xe) (hc : X.calm = true)
    (hi : MI Y X W tg iter wi gi) (hg : MG Y X tg g T) (hb : MSs Y X W body tb gb) (hs : ∀ x, foldedSetIterable iter X.env x = pure x := by intro _; rfl) : MS Y X W (.For tg iter body [] pos) (tFor wi g tb) (sFor T gi gb) :=
  ⟨ps_for hp hc hi.pe hg.pe hb.pe hs, sok_for hi.ok hg.ok hb.ok⟩

def whileG {Y : Sys} (t : GT Y) (body : GS Y) : Nat → GS Y
  | 0, _, _ => none
  | n + 1, Γ, s => match t Γ s with
    | none => none
    | some (.er c, Γ1, s1) => some (.er c, Γ1, s1)
    | some (.ok false, Γ1, s1) => some (.nx, Γ1, s1)
    | some (.ok true, Γ1, s1) => match body Γ1 s1 with
      | none => none
      | some (.nx, Γ2, s2) => whileG t body n Γ2 s2
      | some (.ct, Γ2, s2) => whileG t body n Γ2 s2
      | some (.bk, Γ2, s2) => some (.nx, Γ2, s2)
      | some (.rt r, Γ2, s2) => some (.rt r, Γ2, s2)
      | some (.er c, Γ2, s2) => some (.er c, Γ2, s2)
theorem sok_while {Y : Sys} {K : PySem.W.Frag} {W : WX} {tc : TT} {tb : TS} {gt : GT Y} {gb : GS Y} (n : Nat) (hc : TOk Y K W tc gt) (hb : SOk Y K W tb gb) : SOk Y K W (tWhile tc tb) (whileG gt gb n) := by
  intro B w σ Γ s out D Wh N e p
  refine ⟨fun m σ H => ∃ w' Γ' s', w'.H = H ∧ Wd Y B w' s' ∧ EnvR K B w' σ Γ' ∧ Le w w' ∧ whileG gt gb m Γ' s' = some out, ⟨n, w, Γ, s, rfl, Wh, N, .refl _, e⟩, ?_⟩
  rintro m σ H ⟨w', Γ', s', rfl, W', N', l', e'⟩
  cases m with
  | zero => cases e'
  | succ m =>
    unfold whileG at e'
    split at e'
    · cases e'
    · rename_i c Γ1 s1 et
      cases e'
      exact hc B w' σ Γ' s' _ _ W' N' et fun w1 W1 N1 l1 => p w1 σ W1 N1 (l'.trans l1)
    · rename_i Γ1 s1 et
      cases e'
      refine hc B w' σ Γ' s' _ _ W' N' et fun w1 W1 N1 l1 => ?_
      exact iteF (p w1 σ W1 N1 (l'.trans l1))
    · rename_i Γ1 s1 et
      refine hc B w' σ Γ' s' _ _ W' N' et fun w1 W1 N1 l1 => ?_
      refine iteT ⟨fun σ H => ∃ w' Γ' s', w'.H = H ∧ Wd Y B w' s' ∧ EnvR K B w' σ Γ' ∧ Le w w' ∧ whileG gt gb m Γ' s' = some out, fun σ' H' h => ⟨m, Nat.lt_succ_self _, h⟩, ?_⟩
      split at e'
      · cases e'
      · rename_i Γ4 s4 eo
        exact hb B w1 σ Γ1 s1 _ _ W1 N1 eo fun w4 σ4 W4 N4 l4 => ⟨w4, Γ4, s4, rfl, W4, N4, (l'.trans l1).trans l4, e'⟩
      · rename_i Γ4 s4 eo
        exact hb B w1 σ Γ1 s1 _ _ W1 N1 eo fun w4 σ4 W4 N4 l4 => ⟨w4, Γ4, s4, rfl, W4, N4, (l'.trans l1).trans l4, e'⟩
      · rename_i Γ4 s4 eo
        cases e'
        exact hb B w1 σ Γ1 s1 _ _ W1 N1 eo fun w4 σ4 W4 N4 l4 => p w4 σ4 W4 N4 ((l'.trans l1).trans l4)
      · rename_i r Γ4 s4 eo
        cases e'
        exact hb B w1 σ Γ1 s1 _ _ W1 N1 eo fun w4 x W4 N4 l4 => p w4 x W4 N4 ((l'.trans l1).trans l4)
      · rename_i c Γ4 s4 eo
        cases e'
        exact hb B w1 σ Γ1 s1 _ _ W1 N1 eo fun w4 σ4 W4 N4 l4 => p w4 σ4 W4 N4 ((l'.trans l1).trans l4)
theorem ms_while {Y : Sys} {X : Cx} {W : WX} {c : Expr} {body : List Stmt} {tc : TT} {tb : TS} {gt : GT Y} {gb : GS Y} {pos : Pos} (n : Nat) (hp : PassesOwn (model X.prog X.w) X.A X.env X.xe) (hc : MT Y X W c tc gt) (hb : MSs Y X W body tb gb) :
    MS Y X W (.While c body [] pos) (tWhile tc tb) (whileG gt gb n) := ⟨ps_while hp hc.pe hb.pe, sok_while n hc.ok hb.ok⟩
end FX

set_option Elab.async false
set_option linter.all false
set_option maxRecDepth 100000
set_option maxHeartbeats 1000000
namespace FX
open PySem PySem.Spec L2

def wipeE (Γ : Ev) : List Nat → Ev
  | [] => Γ
  | v :: vs => (wipeE Γ vs).set v none
/-- behind a comprehension: its own names' slots are the def's again -/
def backE (Γ0 Γt : Ev) : List Nat → Ev
  | [] => Γt
  | v :: vs => (backE Γ0 Γt vs).set v (match Γ0[v]? with
    | some (some (.v d)) => some (.v d)
    | some (some (.h k)) => some (.h k)
    | some (some (.raw x)) => some (.raw x)
    | _ => none)
def compG {Y : Sys} (T : Tg) (own : List Nat) (gt : GT Y) (ge : GE Y) : List D → List D → Ev → Y.S → Option (List D × Ev × Y.S)
  | [], acc, Γ, s => some (acc, Γ, s)
  | d :: ds, acc, Γ, s => match bindT T d (wipeE Γ own) with
    | none => none
    | some Γ1 => match gt Γ1 s with
      | some (.ok true, Γ2, s2) => match ge Γ2 s2 with
        | some (.ok (.v e), Γ3, s3) => if sizeOk acc.length = true then compG T own gt ge ds (acc ++ [e]) Γ3 s3 else none
        | _ => none
      | some (.ok false, Γ2, s2) => compG T own gt ge ds acc Γ2 s2
      | _ => none
def gComp {Y : Sys} (T : Tg) (own : List Nat) (gi : GI Y) (gt : GT Y) (ge : GE Y) : GE Y := bd gi fun ds Γ s => match compG T own gt ge ds [] Γ s with
  | some (acc, Γ', s') => some (.ok (.o (.list acc)), backE Γ Γ' own, s')
  | none => none
def gYes {Y : Sys} : GT Y := fun Γ s => some (.ok true, Γ, s)
section
variable {Y : Sys} {K : PySem.W.Frag} {W : WX} {B : Hp} {w w' : Wo} {σ σ' : St} {Γ Γ' Γ0 Γt : Ev} {s s' : Y.S}
theorem EnvR.wipe (N : EnvR K B w σ Γ) : ∀ vs : List Nat, EnvR K B w (L2.wipe σ vs) (wipeE Γ vs)
  | [] => N
  | v :: vs => (EnvR.wipe N vs).del v none
theorem wipe_get {vs : List Nat} {i : Nat} (h : i ∉ vs) : (L2.wipe σ vs)[i]? = σ[i]? := by
  induction vs with
  | nil => rfl
  | cons v vs ih =>
    show ((L2.wipe σ vs).set v none)[i]? = σ[i]?
    rw [List.getElem?_set_ne (by rintro rfl; exact h List.mem_cons_self)]
    exact ih fun z => h (List.mem_cons_of_mem _ z)
/-- the def's own slots behind a block: those of the block forgotten -/
theorem EnvR.unwipe (N : EnvR K B w (L2.wipe σ vs) Γt) : EnvR K B w σ (wipeE Γt vs) := by
  have hl : σ.length = (wipeE Γt vs).length := by
    have := (EnvR.wipe N vs).len
    rw [L2.wipe_length, L2.wipe_length] at this
    exact this
  have key : ∀ {us : List Nat} {i : Nat} {r : R}, (wipeE Γt us)[i]? = some (some r) → i ∉ us ∧ Γt[i]? = some (some r) := by
    intro us
    induction us with
    | nil => exact fun h => ⟨by simp, h⟩
    | cons v us ih =>
      intro i r h
      have h : ((wipeE Γt us).set v none)[i]? = some (some r) := h
      rcases getSet h with ⟨_, z⟩ | ⟨ne, h⟩
      · cases z
      · obtain ⟨a, b⟩ := ih h
        exact ⟨by simp only [List.mem_cons, not_or]; exact ⟨fun z => ne z.symm, a⟩, b⟩
  refine ⟨hl, fun i r h => ?_, fun i j d e x hi hj hx hy => ?_⟩
  · obtain ⟨a, b⟩ := key h
    obtain ⟨x, hx, q⟩ := N.sl i r b
    rw [wipe_get a] at hx
    exact ⟨x, hx, q⟩
  · obtain ⟨a, b⟩ := key hi
    obtain ⟨a', b'⟩ := key hj
    exact N.inj i j d e x b b' (by rw [wipe_get a]; exact hx) (by rw [wipe_get a']; exact hy)
theorem wipeE_wipeE (Γ : Ev) : ∀ vs : List Nat, wipeE (wipeE Γ vs) vs = wipeE Γ vs := by
  have set_in : ∀ (us : List Nat) (Γ : Ev) (v : Nat), wipeE (Γ.set v none) us = (wipeE Γ us).set v none := by
    intro us
    induction us with
    | nil => exact fun _ _ => rfl
    | cons u us ih =>
      intro Γ v
      show (wipeE (Γ.set v none) us).set u none = ((wipeE Γ us).set u none).set v none
      rw [ih]
      by_cases h : v = u
      · subst h; rfl
      · rw [List.set_comm _ _ h]
  intro vs
  induction vs generalizing Γ with
  | nil => rfl
  | cons v vs ih =>
    show (wipeE ((wipeE Γ vs).set v none) vs).set v none = (wipeE Γ vs).set v none
    rw [set_in, ih, List.set_set]
theorem backE_eq (Γ0 Γt : Ev) : ∀ vs : List Nat, ∀ {i : Nat} {r : R}, (backE Γ0 Γt vs)[i]? = some (some r) → (i ∉ vs ∧ Γt[i]? = some (some r)) ∨ (i ∈ vs ∧ Γ0[i]? = some (some r) ∧ ∀ d, r ≠ .o d ∧ ∀ k, r ≠ .b k)
  | [], _, _, h => .inl ⟨by simp, h⟩
  | v :: vs, i, r, h => by
    have h : ((backE Γ0 Γt vs).set v _)[i]? = some (some r) := h
    rcases getSet h with ⟨rfl, z⟩ | ⟨ne, h⟩
    · refine .inr ⟨List.mem_cons_self, ?_⟩
      split at z
      · rename_i e; cases z; exact ⟨e, fun d => ⟨fun z => (nomatch z), fun k z => (nomatch z)⟩⟩
      · rename_i e; cases z; exact ⟨e, fun d => ⟨fun z => (nomatch z), fun k z => (nomatch z)⟩⟩
      · rename_i e; cases z; exact ⟨e, fun d => ⟨fun z => (nomatch z), fun k z => (nomatch z)⟩⟩
      · cases z
    · rcases backE_eq Γ0 Γt vs h with ⟨a, b⟩ | ⟨a, b⟩
      · exact .inl ⟨by simp only [List.mem_cons, not_or]; exact ⟨fun z => ne z.symm, a⟩, b⟩
      · exact .inr ⟨List.mem_cons_of_mem _ a, b⟩
theorem SlR.le (l : Le w w') {x : V} : ∀ {r : R}, (∀ d, r ≠ .o d ∧ ∀ k, r ≠ .b k) → SlR K B w x r → SlR K B w' x r
  | .v d, _, h => Rp.mono l.F h
  | .h i, _, ⟨p, e, q⟩ => by
    obtain ⟨m, em⟩ := l.et
    refine ⟨p, ?_, q⟩
    rw [em, List.getElem?_append_left (List.getElem?_eq_some_iff.mp e).1]
    exact e
  | .raw _, _, h => h
  | .e _, _, ⟨p, cls, e, q, c⟩ => ⟨p, cls, e, l.F _ _ q, c⟩
  | .o d, n, _ => absurd rfl (n d).1
  | .b k, n, _ => absurd rfl ((n .none).2 k)
theorem backE_len (Γ0 Γt : Ev) : ∀ vs : List Nat, (backE Γ0 Γt vs).length = Γt.length
  | [] => rfl
  | v :: vs => by unfold backE; rw [List.length_set, backE_len Γ0 Γt vs]
theorem EnvR.back {vs : List Nat} (N0 : EnvR K B w σ Γ0) (l : Le w w') (N : EnvR K B w' σ' Γt) (hσ : L2.wipe σ' vs = L2.wipe σ vs) : EnvR K B w' σ (backE Γ0 Γt vs) := by
  have hl : σ'.length = σ.length := by
    have := congrArg List.length hσ
    rw [L2.wipe_length, L2.wipe_length] at this
    exact this
  have out : ∀ {i : Nat}, i ∉ vs → σ[i]? = σ'[i]? := fun {i} h => by
    rw [← wipe_get (σ := σ) h, ← hσ, wipe_get h]
  refine ⟨by rw [backE_len, ← N.len, hl], fun i r h => ?_, fun i j d e x hi hj hx hy => ?_⟩
  · rcases backE_eq Γ0 Γt vs h with ⟨a, b⟩ | ⟨a, b, c⟩
    · obtain ⟨x, hx, q⟩ := N.sl i r b
      exact ⟨x, by rw [out a]; exact hx, q⟩
    · obtain ⟨x, hx, q⟩ := N0.sl i r b
      exact ⟨x, hx, q.le l c⟩
  · rcases backE_eq Γ0 Γt vs hi with ⟨a, b⟩ | ⟨a, b, c⟩
    · rcases backE_eq Γ0 Γt vs hj with ⟨a', b'⟩ | ⟨a', b', c'⟩
      · exact N.inj i j d e x b b' (by rw [← out a]; exact hx) (by rw [← out a']; exact hy)
      · exact absurd rfl (c' e).1
    · exact absurd rfl (c d).1
/-- an object that is being filled, kept apart as something that stays -/
theorem Wd.hold (Wh : Wd Y B w s) {p : Addr} {o : HO} (hp : w.H p = some o) (fp : w.F p = none) (ap : p ∉ w.A) (bp : B p = none) : Wd Y (upd B p o) w s := by
  refine ⟨Wh.sF, fun q u e => ?_, fun q e => ?_, fun q e => ⟨(Wh.dA q e).1, ?_⟩, Wh.rel⟩
  · by_cases hq : q = p
    · subst hq; rw [upd_same] at e; cases e; exact hp
    · rw [upd_ne hq] at e; exact Wh.sB q u e
  · have hq : q ≠ p := fun z => by subst z; exact e fp
    rw [upd_ne hq]; exact Wh.dj q e
  · have hq : q ≠ p := fun z => by subst z; exact ap e
    rw [upd_ne hq]; exact (Wh.dA q e).2
theorem EnvR.hold (N : EnvR K B w σ Γ) {p : Addr} {o : HO} (oth : ∀ (i : Nat) (e : D), Γ[i]? = some (some (R.o e)) → σ[i]? ≠ some (some (.ref p))) : EnvR K (upd B p o) w σ Γ := ⟨N.len, fun i r e => by
  obtain ⟨y, a, b⟩ := N.sl i r e
  refine ⟨y, a, ?_⟩
  cases r with
  | o d2 =>
    obtain ⟨q, rfl, own2, fq, bq, aq⟩ := b
    have hq : q ≠ p := fun z => by subst z; exact oth i d2 e a
    exact ⟨q, rfl, own2, fq, by rw [upd_ne hq]; exact bq, aq⟩
  | v _ => exact b
  | h _ => exact b
  | raw _ => exact b
  | e _ => exact b
  | b _ => exact b, N.inj⟩
/-- .. is written -/
theorem Wd.bump {p : Addr} {o o' : HO} (Wh : Wd Y (upd B p o) w s) : Wd Y (upd B p o') { w with H := upd w.H p o' } s := by
  have hp : upd B p o p = some o := upd_same
  have fp : w.F p = none := by
    cases q : w.F p with
    | none => rfl
    | some u =>
      have := Wh.dj p (by rw [q]; exact fun z => nomatch z)
      rw [hp] at this; cases this
  have ap : p ∉ w.A := fun z => by
    have := (Wh.dA p z).2
    rw [hp] at this; cases this
  refine ⟨fun q u e => ?_, fun q u e => ?_, fun q e => ?_, fun q e => ⟨(Wh.dA q e).1, ?_⟩, Y.frame Wh.rel fun q hq => ?_⟩
  · show upd w.H p o' q = some u
    rw [upd_ne (ne_of_none e fp)]; exact Wh.sF q u e
  · show upd w.H p o' q = some u
    by_cases hq : q = p
    · subst hq; rw [upd_same] at e ⊢; exact e
    · rw [upd_ne hq] at e ⊢; exact Wh.sB q u (by rw [upd_ne hq]; exact e)
  · have hq : q ≠ p := fun z => by subst z; exact e fp
    have := Wh.dj q e
    rw [upd_ne hq] at this ⊢; exact this
  · have hq : q ≠ p := fun z => by subst z; exact ap e
    have := (Wh.dA q e).2
    rw [upd_ne hq] at this ⊢; exact this
  · show upd w.H p o' q = w.H q
    rw [upd_ne (by rintro rfl; exact ap hq)]
theorem EnvR.bump {p : Addr} {o o' : HO} (N : EnvR K (upd B p o) w σ Γ) : EnvR K (upd B p o') { w with H := upd w.H p o' } σ Γ := ⟨N.len, fun i r e => by
  obtain ⟨y, a, b⟩ := N.sl i r e
  refine ⟨y, a, ?_⟩
  cases r with
  | o d2 =>
    obtain ⟨q, rfl, own2, fq, bq, aq⟩ := b
    have hq : q ≠ p := fun z => by subst z; rw [upd_same] at bq; cases bq
    rw [upd_ne hq] at bq
    exact ⟨q, rfl, own2.move (Same.refl _) (upd_ne hq), fq, by rw [upd_ne hq]; exact bq, aq⟩
  | v _ => exact b
  | h _ => exact b
  | raw _ => exact b
  | e _ => exact b
  | b _ => exact b, N.inj⟩
abbrev W0 : WX := fun _ _ _ _ => False
theorem eok_lc {wi : TI} {gi : GI Y} {g : TG} {T : Tg} {tt : TT} {gt : GT Y} {te : TE} {ge : GE Y} {own : List Nat} (hi : IOk Y K W wi gi) (hg : GOk Y K g T) (ht : TOk Y K W0 tt gt) (he : EOk Y K W0 te ge) (hs : ∀ i ∈ T.sl, i ∈ own) :
    EOk Y K W (tLc wi g tt te own) (gComp T own gi gt ge) := by
  intro B w σ Γ s out Q Wh N e p
  unfold gComp bd at e
  cases eg : gi Γ s with
  | none => rw [eg] at e; cases e
  | some o =>
    obtain ⟨o, Γ1, s1⟩ := o
    rw [eg] at e
    cases o with
    | er z =>
      cases e
      exact hi B w σ Γ s _ _ Wh N eg fun w1 W1 N1 l => p w1 W1 N1 l
    | ok ds =>
      simp only at e
      split at e
      · rename_i acc Γe se ec
        cases e
        refine hi B w σ Γ s _ _ Wh N eg fun w1 W1 N1 l J It => ?_
        intro L nL
        have fL : w1.F L = none := W1.sF.free nL
        have bL : B L = none := W1.sB.free nL
        have aL : L ∉ w1.A := fun z => Y.live W1.rel _ z nL
        have oL : ∀ {σ : St} {Γ : Ev}, EnvR K B w1 σ Γ → ∀ (i : Nat) (e : D), Γ[i]? = some (some (R.o e)) → σ[i]? ≠ some (some (.ref L)) := fun N i e hi hs => by
          obtain ⟨y, a, q, rfl, own, _⟩ := N.sl i _ hi
          rw [hs] at a; cases a
          obtain ⟨u, hu⟩ := own.obj
          rw [nL] at hu; cases hu
        refine ⟨fun i m H => ∃ w' Γ' s' xs ac, w'.H = H ∧ Wd Y (upd B L (.lst xs)) w' s' ∧ EnvR K (upd B L (.lst xs)) w' (L2.wipe σ own) (wipeE Γ' own) ∧ EnvR K (upd B L (.lst xs)) w' σ (backE Γ1 Γ' own) ∧ Le w1 w' ∧ RpA K w'.F xs ac ∧ m = ds.length - i ∧ i ≤ ds.length ∧ compG T own gt ge (ds.drop i) ac Γ' s' = some (acc, Γe, se),
          ⟨ds.length, { w1 with H := upd w1.H L (.lst []) }, Γ1, s1, [], [], rfl, (W1.newH nL).hold upd_same fL aL bL, ((N1.newH nL).hold (oL N1)).wipe own, ?_, ⟨Same.refl _, [], by simp⟩, .nil, rfl, Nat.zero_le _, by rw [List.drop_zero]; exact ec⟩, ?_⟩
        · exact EnvR.back (w := { w1 with H := upd w1.H L (.lst []) }) ((N1.newH nL).hold (oL N1)) (.refl _) ((N1.newH nL).hold (oL N1)) rfl
        rintro i m H ⟨w', Γ', s', xs, ac, rfl, W', N', Nb, l', ra, rfl, hle, e'⟩
        have hL : w'.H L = some (.lst xs) := W'.sB L _ upd_same
        have fL' : w'.F L = none := by
          cases q : w'.F L with
          | none => rfl
          | some u =>
            have := W'.dj L (by rw [q]; exact fun z => nomatch z)
            rw [upd_same] at this; cases this
        have aL' : L ∉ w'.A := fun z => by
          have := (W'.dA L z).2
          rw [upd_same] at this; cases this
        have sm : Same B (upd B L (.lst xs)) := upd_sm bL
        by_cases hlt : i < ds.length
        · have hd : ds[i]? = some ds[i] := List.getElem?_eq_getElem hlt
          rw [List.drop_eq_getElem_cons hlt] at e'
          unfold compG at e'
          split at e'
          · cases e'
          · rename_i Γ2 eb
            refine .inr ⟨(It w'.F w'.H l'.F W'.sF i).1 hlt, fun H => ∃ w' Γ' s' xs ac, w'.H = H ∧ Wd Y (upd B L (.lst xs)) w' s' ∧ EnvR K (upd B L (.lst xs)) w' (L2.wipe σ own) (wipeE Γ' own) ∧ EnvR K (upd B L (.lst xs)) w' σ (backE Γ1 Γ' own) ∧ Le w1 w' ∧ RpA K w'.F xs ac ∧ compG T own gt ge (ds.drop (i + 1)) ac Γ' s' = some (acc, Γe, se),
              fun H' ⟨w2, Γ2, s2, xs2, ac2, h1, h2, h3, h3', h4, h5, h6⟩ => ⟨ds.length - (i + 1), by omega, w2, Γ2, s2, xs2, ac2, h1, h2, h3, h3', h4, h5, rfl, hlt, h6⟩, fun x H' y => ?_⟩
            obtain ⟨w2, rfl, W2, N2, l2, r2⟩ := it_turn It W' N' l'.F y hd
            refine hg _ w2 _ _ Γ2 s' x _ _ W2 N2 r2 eb fun σ3 N3 hw => ?_
            have hww : L2.wipe σ3 own = L2.wipe σ own := (hw own hs).trans (by
              have set_in : ∀ (us : List Nat) (σ : St) (v : Nat), L2.wipe (σ.set v none) us = (L2.wipe σ us).set v none := by
                intro us
                induction us with
                | nil => exact fun _ _ => rfl
                | cons u us ih =>
                  intro σ v
                  show (L2.wipe (σ.set v none) us).set u none = ((L2.wipe σ us).set u none).set v none
                  rw [ih]
                  by_cases h : v = u
                  · subst h; rfl
                  · rw [List.set_comm _ _ h]
              have : ∀ (vs : List Nat) (σ : St), L2.wipe (L2.wipe σ vs) vs = L2.wipe σ vs := by
                intro vs
                induction vs with
                | nil => exact fun _ => rfl
                | cons v vs ih =>
                  intro σ
                  show (L2.wipe ((L2.wipe σ vs).set v none) vs).set v none = (L2.wipe σ vs).set v none
                  rw [set_in, ih, List.set_set]
              exact this own σ)
            refine ⟨hww, ?_⟩
            have again : ∀ {w4 : Wo} {Γ4 : Ev} {s4 : Y.S} {ys : List V} {bc : List D}, Wd Y (upd B L (.lst ys)) w4 s4 → EnvR K (upd B L (.lst ys)) w4 σ3 Γ4 → Le w1 w4 → RpA K w4.F ys bc → compG T own gt ge (ds.drop (i + 1)) bc Γ4 s4 = some (acc, Γe, se) →
                ∃ w' Γ' s' xs ac, w'.H = w4.H ∧ Wd Y (upd B L (.lst xs)) w' s' ∧ EnvR K (upd B L (.lst xs)) w' (L2.wipe σ own) (wipeE Γ' own) ∧ EnvR K (upd B L (.lst xs)) w' σ (backE Γ1 Γ' own) ∧ Le w1 w' ∧ RpA K w'.F xs ac ∧ compG T own gt ge (ds.drop (i + 1)) ac Γ' s' = some (acc, Γe, se) := fun {w4 Γ4 s4 ys bc} W4 N4 l4 r4 e4 => by
              refine ⟨w4, Γ4, s4, ys, bc, rfl, W4, ?_, ?_, l4, r4, e4⟩
              · rw [← hww]; exact N4.wipe own
              · have Nx : EnvR K (upd B L (.lst ys)) { w1 with H := upd w1.H L (.lst ys) } σ Γ1 := (N1.newH nL).hold (oL N1)
                exact EnvR.back Nx ⟨l4.F, l4.et⟩ N4 hww
            split at e'
            · rename_i Γ4 s4 et
              split at e'
              · rename_i ev Γ5 s5 ee
                split at e'
                · rename_i hz
                  refine ht _ w2 σ3 Γ2 s' _ _ W2 N3 et fun w4 W4 N4 l4 => iteT ?_
                  refine he _ w4 σ3 Γ4 s4 _ _ W4 N4 ee fun w5 W5 N5 l5 v rv => ?_
                  have hL5 : w5.H L = some (.lst xs) := W5.sB L _ upd_same
                  have ra5 : RpA K w5.F xs ac := ra.mono ((l2.trans (l4.trans l5)).F)
                  refine ⟨xs, hL5, by rw [ra.length]; exact sizeOk_lt hz, ?_⟩
                  obtain ⟨wa, Γa, sa, xa, aa, h1, h⟩ := again (W5.bump (o' := .lst (xs ++ [v]))) N5.bump (w4 := { w5 with H := upd w5.H L (.lst (xs ++ [v])) }) ⟨((l'.trans l2).trans (l4.trans l5)).F, ((l'.trans l2).trans (l4.trans l5)).et⟩ (ra5.append (.cons rv .nil)) e'
                  exact ⟨wa, Γa, sa, xa, aa, h1, h⟩
                · cases e'
              · cases e'
            · rename_i Γ4 s4 et
              exact ht _ w2 σ3 Γ2 s' _ _ W2 N3 et fun w4 W4 N4 l4 => iteF (again W4 N4 ((l'.trans l2).trans l4) (ra.mono (l2.trans l4).F) e')
            · cases e'
        · have ei : i = ds.length := by omega
          subst ei
          rw [List.drop_length] at e'
          cases e'
          refine .inl ⟨(It w'.F w'.H l'.F W'.sF _).2.1 (Nat.le_refl _), ?_⟩
          refine p w' (W'.weak sm) (Nb.weak sm) (l.trans l') _ ⟨⟨L, rfl, ⟨xs, hL, ra⟩, fL', bL, aL'⟩, fun i e hi hs => ?_⟩
          obtain ⟨y, a, q, rfl, own, _, bq, _⟩ := Nb.sl i _ hi
          rw [hs] at a; cases a
          rw [upd_same] at bq; cases bq
      · cases e
end
end FX

set_option Elab.async false
set_option linter.all false
set_option maxRecDepth 100000
set_option maxHeartbeats 1000000
namespace FX
open PySem PySem.Spec L2

section
variable {Y : Sys} {X : Cx} {W : WX} {tg iter elt e : Expr} {es : List Expr} {pos p : Pos}
theorem me_lc {scope : Scope} {own : List (Str × Nat)} {wi : TI} {gi : GI Y} {g : TG} {T : Tg} {te : TE} {ge : GE Y} (hc : X.calm = true) (hN : X.N.Nodup) (hi : MI Y X W tg iter wi gi) (ok : BlkOk X.N X.env.scope scope own)
    (hg : ∀ (s : Shared) (H : Hp) (C : Addr) (cl : List (Str × Addr)) (fp : List Addr), MG Y (X.blk s H scope (compEnvC scope cl C X.env) fp) tg g T)
    (he : ∀ (s : Shared) (H : Hp) (C : Addr) (cl : List (Str × Addr)) (fp : List Addr), ME Y (X.blk s H scope (compEnvC scope cl C X.env) fp) W0 elt te ge) (hs : ∀ i ∈ T.sl, i ∈ own.map (·.2))
    (hf : ∀ x, foldedSetIterable iter X.env x = pure x := by intro _; rfl) :
    ME Y X W (.ListComp elt [⟨tg, iter, [], 0⟩] scope pos) (tLc wi g tYes te (own.map (·.2))) (gComp T (own.map (·.2)) gi gYes ge) :=
  ⟨pe_lc hc hN hi.pe ok (fun s H C cl fp => (hg s H C cl fp).pe) (fun _ _ _ _ _ => pts_nil) (fun s H C cl fp => (he s H C cl fp).pe) hf,
    eok_lc hi.ok (hg X.s_0 X.H_0 0 [] []).ok (fun B w σ Γ s out Q Wh N e p => by cases e; exact p w Wh N (.refl _)) (he X.s_0 X.H_0 0 [] []).ok hs⟩
theorem me_lcif {c : Expr} {scope : Scope} {own : List (Str × Nat)} {wi : TI} {gi : GI Y} {g : TG} {T : Tg} {tt : TT} {gt : GT Y} {te : TE} {ge : GE Y} (hc : X.calm = true) (hN : X.N.Nodup) (hi : MI Y X W tg iter wi gi) (ok : BlkOk X.N X.env.scope scope own)
    (hg : ∀ (s : Shared) (H : Hp) (C : Addr) (cl : List (Str × Addr)) (fp : List Addr), MG Y (X.blk s H scope (compEnvC scope cl C X.env) fp) tg g T)
    (ht : ∀ (s : Shared) (H : Hp) (C : Addr) (cl : List (Str × Addr)) (fp : List Addr), MT Y (X.blk s H scope (compEnvC scope cl C X.env) fp) W0 c tt gt)
    (he : ∀ (s : Shared) (H : Hp) (C : Addr) (cl : List (Str × Addr)) (fp : List Addr), ME Y (X.blk s H scope (compEnvC scope cl C X.env) fp) W0 elt te ge) (hs : ∀ i ∈ T.sl, i ∈ own.map (·.2))
    (hf : ∀ x, foldedSetIterable iter X.env x = pure x := by intro _; rfl) :
    ME Y X W (.ListComp elt [⟨tg, iter, [c], 0⟩] scope pos) (tLc wi g tt te (own.map (·.2))) (gComp T (own.map (·.2)) gi gt ge) :=
  ⟨pe_lc hc hN hi.pe ok (fun s H C cl fp => (hg s H C cl fp).pe) (fun s H C cl fp => pts_one (ht s H C cl fp).pe) (fun s H C cl fp => (he s H C cl fp).pe) hf,
    eok_lc hi.ok (hg X.s_0 X.H_0 0 [] []).ok (ht X.s_0 X.H_0 0 [] []).ok (he X.s_0 X.H_0 0 [] []).ok hs⟩
/-- y = [..] -/
theorem ms_setLc {i : Nat} {y : Str} {py spos : Pos} {scope : Scope} {own : List (Str × Nat)} {wi : TI} {gi : GI Y} {g : TG} {T : Tg} {te : TE} {ge : GE Y} (hc : X.calm = true) (hN : X.N.Nodup) (hy : X.N[i]? = some y) (hyl : X.env.scope.names.lookup y = some .local)
    (hsw : swapsWith (.ListComp elt [⟨tg, iter, [], 0⟩] scope pos) (some (.Name y py)) spos.line X.env = pure true) (hi : MI Y X W tg iter wi gi) (ok : BlkOk X.N X.env.scope scope own)
    (hg : ∀ (s : Shared) (H : Hp) (C : Addr) (cl : List (Str × Addr)) (fp : List Addr), MG Y (X.blk s H scope (compEnvC scope cl C X.env) fp) tg g T)
    (he : ∀ (s : Shared) (H : Hp) (C : Addr) (cl : List (Str × Addr)) (fp : List Addr), ME Y (X.blk s H scope (compEnvC scope cl C X.env) fp) W0 elt te ge) (hs : ∀ i ∈ T.sl, i ∈ own.map (·.2))
    (hf : ∀ x, foldedSetIterable iter X.env x = pure x := by intro _; rfl) :
    MS Y X W (.Assign [.Name y py] (.ListComp elt [⟨tg, iter, [], 0⟩] scope pos) spos) (tAsg (tLc wi g tYes te (own.map (·.2))) (L2.gName i)) (sSet i (gComp T (own.map (·.2)) gi gYes ge)) :=
  ⟨ps_setLc hc hN hy hyl hsw hi.pe ok (fun s H C cl fp => (hg s H C cl fp).pe) (fun _ _ _ _ _ => pts_nil) (fun s H C cl fp => (he s H C cl fp).pe) hf,
    sok_set (eok_lc hi.ok (hg X.s_0 X.H_0 0 [] []).ok (fun B w σ Γ s out Q Wh N e p => by cases e; exact p w Wh N (.refl _)) (he X.s_0 X.H_0 0 [] []).ok hs)⟩
theorem ms_setLcif {i : Nat} {y : Str} {py spos : Pos} {c : Expr} {scope : Scope} {own : List (Str × Nat)} {wi : TI} {gi : GI Y} {g : TG} {T : Tg} {tt : TT} {gt : GT Y} {te : TE} {ge : GE Y} (hc : X.calm = true) (hN : X.N.Nodup) (hy : X.N[i]? = some y) (hyl : X.env.scope.names.lookup y = some .local)
    (hsw : swapsWith (.ListComp elt [⟨tg, iter, [c], 0⟩] scope pos) (some (.Name y py)) spos.line X.env = pure true) (hi : MI Y X W tg iter wi gi) (ok : BlkOk X.N X.env.scope scope own)
    (hg : ∀ (s : Shared) (H : Hp) (C : Addr) (cl : List (Str × Addr)) (fp : List Addr), MG Y (X.blk s H scope (compEnvC scope cl C X.env) fp) tg g T)
    (ht : ∀ (s : Shared) (H : Hp) (C : Addr) (cl : List (Str × Addr)) (fp : List Addr), MT Y (X.blk s H scope (compEnvC scope cl C X.env) fp) W0 c tt gt)
    (he : ∀ (s : Shared) (H : Hp) (C : Addr) (cl : List (Str × Addr)) (fp : List Addr), ME Y (X.blk s H scope (compEnvC scope cl C X.env) fp) W0 elt te ge) (hs : ∀ i ∈ T.sl, i ∈ own.map (·.2))
    (hf : ∀ x, foldedSetIterable iter X.env x = pure x := by intro _; rfl) :
    MS Y X W (.Assign [.Name y py] (.ListComp elt [⟨tg, iter, [c], 0⟩] scope pos) spos) (tAsg (tLc wi g tt te (own.map (·.2))) (L2.gName i)) (sSet i (gComp T (own.map (·.2)) gi gt ge)) :=
  ⟨ps_setLc hc hN hy hyl hsw hi.pe ok (fun s H C cl fp => (hg s H C cl fp).pe) (fun s H C cl fp => pts_one (ht s H C cl fp).pe) (fun s H C cl fp => (he s H C cl fp).pe) hf,
    sok_set (eok_lc hi.ok (hg X.s_0 X.H_0 0 [] []).ok (ht X.s_0 X.H_0 0 [] []).ok (he X.s_0 X.H_0 0 [] []).ok hs)⟩
end

def argR : R → Bool
  | .v _ => true
  | .h _ => true
  | .raw _ => true
  | .e _ => true
  | _ => false
inductive ArA (K : PySem.W.Frag) (B : Hp) (w : Wo) : List V → List R → Prop
  | nil : ArA K B w [] []
  | cons {x : V} {xs : List V} {r : R} {rs : List R} : argR r = true → SlR K B w x r → ArA K B w xs rs → ArA K B w (x :: xs) (r :: rs)
theorem ArA.length {K : PySem.W.Frag} {B : Hp} {w : Wo} : ∀ {xs : List V} {rs : List R}, ArA K B w xs rs → xs.length = rs.length
  | _, _, .nil => rfl
  | _, _, .cons _ _ t => by simp [ArA.length t]
def PoC (Y : Sys) (K : PySem.W.Frag) (B : Hp) (w : Wo) (Q : VK) (E : XK) : Oc R × Y.S → Prop
  | (.ok r, s') => ∀ w' x, Wd Y B w' s' → SlR K B w' x r → Le w w' → Q x w'.H
  | (.er n, s') => ∀ w', Wd Y B w' s' → Le w w' → ∀ c, Cn K n c → E c none w'.H
abbrev Fm (Y : Sys) := List R → Y.S → Option (Oc R × Y.S)
/-- a def that does what m tells -/
def spM (Y : Sys) (K : PySem.W.Frag) (n : Nat) (m : Fm Y) : Sp := fun vs H Q E => ∃ B w rs s out, w.H = H ∧ Wd Y B w s ∧ ArA K B w vs rs ∧ rs.length = n ∧ m rs s = some out ∧ PoC Y K B w Q E out
def mOf {Y : Sys} (N : Nat) (body : GS Y) : Fm Y := fun rs s => match body (rs.map some ++ List.replicate (N - rs.length) none) s with
  | some (.rt r, _, s') => some (.ok r, s')
  | some (.nx, _, s') => some (.ok (.v .none), s')
  | some (.er c, _, s') => some (.er c, s')
  | _ => none
theorem start_env {K : PySem.W.Frag} {B : Hp} {w : Wo} {vs : List V} {rs : List R} (h : ArA K B w vs rs) (n m : Nat) (e : n = m) : EnvR K B w (vs.map some ++ List.replicate n none) (rs.map some ++ List.replicate m none) := by
  subst e
  have hl := h.length
  have key : ∀ {vs : List V} {rs : List R}, ArA K B w vs rs → ∀ (i : Nat) (r : R), (rs.map some ++ List.replicate n none)[i]? = some (some r) → ∃ x, (vs.map some ++ List.replicate n none)[i]? = some (some x) ∧ SlR K B w x r ∧ argR r = true := by
    intro vs rs h
    induction h with
    | nil =>
      intro i r e
      simp only [List.map_nil, List.nil_append] at e
      have := List.mem_replicate.mp (List.mem_of_getElem? e)
      cases this.2
    | cons a b t ih =>
      intro i r e
      cases i with
      | zero => simp at e; subst e; exact ⟨_, rfl, b, a⟩
      | succ i => exact ih i r (by simpa using e)
  refine ⟨by simp [hl], fun i r e => ?_, fun i j d e' x hi hj _ _ => ?_⟩
  · obtain ⟨x, a, b, _⟩ := key h i r e
    exact ⟨x, a, b⟩
  · obtain ⟨_, _, _, z⟩ := key h i _ hi
    cases z
section
variable {P : Program} {w : World} {K : PySem.W.Frag} {mg : Str → Option Value} {base : Heap} {Y : Sys}
theorem fn_okM {x qual : Str} {st : Stmt} {f : Addr} {fd : FuncData} {N ps : List Str} {k : Nat} (F : Fun K x qual st f fd) (S : FnScope N ps (defScope st)) {body : GS Y}
    (hb : ∀ (cdv : Value) (A : Around) (outer : List Env) (s : Shared) (H : Hp) (E : XK), Room k (A.deeper (PyProof.Rows.envOfC qual (defScope st) s.heap.objs.size f cdv)) →
      ∃ t, MSs Y (cxOf (L2.CX P w) P w K mg base N qual (defScope st) f cdv A outer s H E) (fun cls d _ H => E cls d H) (defBody st) t body) :
    FnOk P w K mg base (L2.CX P w) (k + 1) f fd ps (spM Y K ps.length (mOf N.length body)) := by
  refine F.okX S (fun vs H Q E h => ?_) (fun cdv A outer s H vs Q E hr h => ?_)
  · obtain ⟨B, wo, rs, st', out, rfl, Wh, ar, hl, hm, p⟩ := h
    rw [ar.length, hl]
  · obtain ⟨B, wo, rs, st', out, rfl, Wh, ar, hl, hm, p⟩ := h
    obtain ⟨t, pe, ok⟩ := hb cdv A outer s wo.H E hr
    refine ⟨t, pe, ?_⟩
    unfold mOf at hm
    have N0 := start_env ar (N.length - vs.length) (N.length - rs.length) (by rw [ar.length])
    split at hm
    · rename_i r Γ' s' eb
      cases hm
      exact ok B wo _ _ st' _ _ Wh N0 eb fun w' x W' r' l => p w' x W' r' l
    · rename_i Γ' s' eb
      cases hm
      exact ok B wo _ _ st' _ _ Wh N0 eb fun w' σ' W' N' l => p w' .non W' (show Rp K w'.F .non .none from .non) l
    · rename_i c Γ' s' eb
      cases hm
      exact ok B wo _ _ st' _ _ Wh N0 eb fun w' σ' W' N' l => p w' W' l
    · cases hm
end
def gFn {Y : Sys} (n : Nat) (m : Fm Y) (gr : GA Y) : GE Y := bd gr fun rs Γ s => if (rs.all argR && rs.length == n) = true then (match m rs s with
  | some (.ok (.v d), s') => some (.ok (.v d), Γ, s')
  | some (.ok (.o d), s') => some (.ok (.o d), Γ, s')
  | some (.ok (.h i), s') => some (.ok (.h i), Γ, s')
  | some (.ok (.raw x), s') => some (.ok (.raw x), Γ, s')
  | some (.ok (.e x), s') => some (.ok (.e x), Γ, s')
  | some (.er c, s') => some (.er c, Γ, s')
  | _ => none) else none
section
variable {Y : Sys} {X : Cx} {W : WX} {e : Expr} {es : List Expr} {pos p : Pos} {gr : GA Y}
theorem ara_of {K : PySem.W.Frag} {B B' : Hp} {w : Wo} {σ : St} {Γ : Ev} : ∀ {xs : List V} {rs : List R}, RsA K B w σ Γ xs rs → rs.all argR = true → ArA K B' w xs rs
  | _, _, .nil, _ => .nil
  | _, .v _ :: _, .cons q t, h => .cons rfl q (ara_of t (by simpa [argR] using h))
  | _, .h _ :: _, .cons q t, h => .cons rfl q (ara_of t (by simpa [argR] using h))
  | _, .raw _ :: _, .cons q t, h => .cons rfl q (ara_of t (by simpa [argR] using h))
  | _, .e _ :: _, .cons q t, h => .cons rfl q (ara_of t (by simpa [argR] using h))
  | _, .o _ :: _, .cons _ _, h => by simp [argR] at h
  | _, .b _ :: _, .cons _ _, h => by simp [argR] at h
/-- all that a callee leaves as it is -/
def restB (w : Wo) : Hp := fun q => if q ∈ w.A then none else match w.F q with
  | some _ => none
  | none => w.H q
theorem restB_A {w : Wo} {q : Addr} (h : q ∈ w.A) : restB w q = none := if_pos h
theorem restB_F {w : Wo} {q : Addr} (h : w.F q ≠ none) : restB w q = none := by
  unfold restB
  split
  · rfl
  · cases e : w.F q with
    | none => exact absurd e h
    | some _ => rfl
theorem restB_H {w : Wo} {q : Addr} {o : HO} (h : w.H q = some o) (hf : w.F q = none) (ha : q ∉ w.A) : restB w q = some o := by
  unfold restB
  rw [if_neg ha, hf]
  exact h
theorem restB_of {w : Wo} {q : Addr} {o : HO} (h : restB w q = some o) : w.H q = some o ∧ w.F q = none ∧ q ∉ w.A := by
  unfold restB at h
  split at h
  · cases h
  · rename_i ha
    split at h
    · cases h
    · rename_i hf
      exact ⟨h, hf, ha⟩
theorem eok_fn {K : PySem.W.Frag} {n : Nat} {m : Fm Y} {ta : TA} (ha : AOk Y K W ta gr) : EOk Y K W (tCallS (spM Y K n m) (WE W) ta) (gFn n m gr) := by
  intro B w σ Γ s out Q Wh N e p
  refine ha.go (Q := fun vs H1 => spM Y K n m vs H1 Q (WE W σ)) Wh N e p fun rs Γ1 s1 xs w1 W1 N1 l1 R1 e1 p1 => ?_
  split at e1
  · rename_i hc
    rw [Bool.and_eq_true] at hc
    have hl : rs.length = n := by simpa using hc.2
    have sB : Same B (restB w1) := fun q o h => by
      refine restB_H (W1.sB q o h) ?_ fun z => ?_
      · cases z : w1.F q with
        | none => rfl
        | some u =>
          have := W1.dj q (by rw [z]; exact fun z => nomatch z)
          rw [h] at this; cases this
      · have := (W1.dA q z).2
        rw [h] at this; cases this
    have Wc : Wd Y (restB w1) w1 s1 := ⟨W1.sF, fun q o h => (restB_of h).1, fun q h => restB_F h, fun q h => ⟨(W1.dA q h).1, restB_A h⟩, W1.rel⟩
    have Nb : ∀ {w' : Wo} {s' : Y.S}, Wd Y (restB w1) w' s' → Le w1 w' → EnvR K B w' σ Γ1 ∧ ∀ (i : Nat) (e : D) (q : Addr), Γ1[i]? = some (some (R.o e)) → restB w1 q = none → σ[i]? ≠ some (some (.ref q)) := fun {w' s'} W' l' => by
      have at' : ∀ (q : Addr) (o : HO), restB w1 q = some o → w'.H q = some o ∧ w'.F q = none ∧ q ∉ w'.A := fun q o h => by
        refine ⟨W'.sB q o h, ?_, fun z => ?_⟩
        · cases z : w'.F q with
          | none => rfl
          | some u =>
            have := W'.dj q (by rw [z]; exact fun z => nomatch z)
            rw [h] at this; cases this
        · have := (W'.dA q z).2
          rw [h] at this; cases this
      refine ⟨⟨N1.len, fun i r hi => ?_, N1.inj⟩, fun i e q hi hq hs => ?_⟩
      · obtain ⟨x, a, b⟩ := N1.sl i r hi
        refine ⟨x, a, ?_⟩
        cases r with
        | o d =>
          obtain ⟨q, rfl, own, fq, bq, aq⟩ := b
          obtain ⟨o, ho⟩ := own.obj
          obtain ⟨h1, h2, h3⟩ := at' q o (restB_H ho fq aq)
          exact ⟨q, rfl, own.move l'.F (h1.trans ho.symm), h2, bq, h3⟩
        | v d => exact Rp.mono l'.F b
        | h k => exact SlR.le l' (fun d => ⟨fun z => (nomatch z), fun k z => (nomatch z)⟩) b
        | raw y => exact b
        | e y =>
          obtain ⟨p', cls, e1, q, c⟩ := b
          exact ⟨p', cls, e1, l'.F _ _ q, c⟩
        | b k => exact b
      · obtain ⟨x, a, b⟩ := N1.sl i _ hi
        obtain ⟨q', rfl, own, fq, bq, aq⟩ := b
        rw [hs] at a; cases a
        obtain ⟨o, ho⟩ := own.obj
        rw [restB_H ho fq aq] at hq; cases hq
    have fin : ∀ {r : R} {s' : Y.S}, PoG Y K W B w1 σ (fun r Γ' w' => ∀ x, ResR K B w' σ Γ' x r → Q x w'.H) (.ok r, Γ1, s') → (∀ k, r ≠ .b k) → m rs s1 = some (.ok r, s') → spM Y K n m xs w1.H Q (WE W σ) := fun {r s'} p1 nb em => by
      refine ⟨restB w1, w1, rs, s1, _, rfl, Wc, ara_of R1 hc.1, hl, em, fun w' x W' r' l' => ?_⟩
      obtain ⟨N2, oth⟩ := Nb W' l'
      refine p1 w' (W'.weak sB) N2 l' x ?_
      cases r with
      | o d =>
        obtain ⟨q, rfl, own, fq, bq, aq⟩ := r'
        exact ⟨⟨q, rfl, own, fq, sB.free bq, aq⟩, fun i e hi hs => oth i e q hi bq hs⟩
      | v d => exact r'
      | h d => exact r'
      | raw d => exact r'
      | e d => exact r'
      | b d => exact absurd rfl (nb d)
    split at e1
    · rename_i d s' em; cases e1; exact fin p1 (fun _ z => nomatch z) em
    · rename_i d s' em; cases e1; exact fin p1 (fun _ z => nomatch z) em
    · rename_i d s' em; cases e1; exact fin p1 (fun _ z => nomatch z) em
    · rename_i d s' em; cases e1; exact fin p1 (fun _ z => nomatch z) em
    · rename_i d s' em; cases e1; exact fin p1 (fun _ z => nomatch z) em
    · rename_i c s' em
      cases e1
      exact ⟨restB w1, w1, rs, s1, _, rfl, Wc, ara_of R1 hc.1, hl, em, fun w' W' l' => p1 w' (W'.weak sB) (Nb W' l').1 l'⟩
    · cases e1
  · cases e1
theorem me_fn {n k : Nat} {m : Fm Y} {f : Addr} {fd : FuncData} {ps : List Str} {x : Str} {ta : TA} (F : FnOk X.prog X.w X.K X.mg X.base (L2.CX X.prog X.w) k f fd ps (spM Y X.K n m)) (hr : Room k X.A) (hg : Gl X x) (hm : X.mg x = some (.ref f)) (hk : PySem.W.keepIn X.K (.ref f) = true) (hb : Binds X.K fd ps []) (tk : Takes X W)
    (ha : MA Y X W (e :: es) ta gr) (hdb : (x == ("__debug__" : Str)) = false := by decide) (he : starEach (e :: es) X.env = (false, eval e X.env) :: starEach es X.env := by rfl) (hpl : (backTo pos (starEach es X.env)).any (·.1) = false := by rfl) :
    ME Y X W (.Call (.Name x p) (e :: es) [] pos) (tCallS (spM Y X.K n m) (WE W) ta) (gFn n m gr) :=
  ⟨pe_callS F hr hg hm hk hb (fun σ => passAt tk σ) ha.pe hdb he hpl, eok_fn ha.ok⟩
end

section
variable {Y : Sys} {K : PySem.W.Frag} {W : WX} {B : Hp} {w : Wo} {σ : St} {Γ : Ev} {s : Y.S}
theorem Wd.st (Wh : Wd Y B w s) {p : Addr} {o : HO} (fp : w.F p = none) (bp : B p = none) (ap : p ∉ w.A) : Wd Y B { w with H := upd w.H p o } s := by
  refine ⟨fun q u e => ?_, fun q u e => ?_, Wh.dj, Wh.dA, Y.frame Wh.rel fun q hq => ?_⟩
  · show upd w.H p o q = some u
    rw [upd_ne (ne_of_none e fp)]; exact Wh.sF q u e
  · show upd w.H p o q = some u
    rw [upd_ne (ne_of_none e bp)]; exact Wh.sB q u e
  · show upd w.H p o q = w.H q
    rw [upd_ne (by rintro rfl; exact ap hq)]
theorem EnvR.st (N : EnvR K B w σ Γ) {i : Nat} {d d' : D} {p : Addr} {o : HO} (hi : Γ[i]? = some (some (.o d))) (hp : σ[i]? = some (some (.ref p))) (own : Own K w.F (upd w.H p o) p d') :
    EnvR K B { w with H := upd w.H p o } σ (Γ.set i (some (.o d'))) := by
  obtain ⟨x, hx, q, rfl, own0, fq, bq, aq⟩ := N.sl i _ hi
  rw [hp] at hx; cases hx
  refine ⟨by rw [List.length_set]; exact N.len, fun j r e => ?_, fun j k d' e' x hj hk hx hy => ?_⟩
  · rcases getSet e with ⟨rfl, z⟩ | ⟨ne, e⟩
    · cases z
      exact ⟨_, hp, _, rfl, own, fq, bq, aq⟩
    · obtain ⟨x, a, b⟩ := N.sl j r e
      refine ⟨x, a, ?_⟩
      cases r with
      | v d => exact b
      | o d' =>
        obtain ⟨q', rfl, own', fq', bq', aq'⟩ := b
        have hq : q' ≠ p := fun z => by subst z; exact ne (N.inj i j _ _ _ hi e hp a)
        exact ⟨q', rfl, own'.move (Same.refl _) (upd_ne hq), fq', bq', aq'⟩
      | h _ => exact b
      | raw _ => exact b
      | e _ => exact b
      | b _ => exact b
  · have back : ∀ {j : Nat} {b : D} {d' : D}, (Γ.set i (some (R.o b)))[j]? = some (some (R.o d')) → ∃ d'', Γ[j]? = some (some (R.o d'')) := fun {j b d'} h => by
      rcases getSet h with ⟨rfl, z⟩ | ⟨ne, h⟩
      · exact ⟨_, hi⟩
      · exact ⟨_, h⟩
    obtain ⟨d1, h1⟩ := back hj
    obtain ⟨d2, h2⟩ := back hk
    exact N.inj j k _ _ _ h1 h2 hx hy
end
/-- x.append(e) -/
def gApp {Y : Sys} (i : Nat) (ge : GE Y) : GE Y := fun Γ s => match Γ[i]? with
  | some (some (.o (.list _))) => bd (gEsc ge) (fun r Γ s => match r, Γ[i]? with
    | .v d, some (some (.o (.list ds))) => if sizeOk ds.length = true then some (.ok (.v .none), Γ.set i (some (.o (.list (ds ++ [d])))), s) else none
    | _, _ => none) Γ s
  | _ => none
/-- x.extend(e) -/
def gExt {Y : Sys} (i : Nat) (ge : GE Y) : GE Y := fun Γ s => match Γ[i]? with
  | some (some (.o (.list _))) => bd ge (fun r Γ s => match r, Γ[i]? with
    | .o (.list es), some (some (.o (.list ds))) => if sizeOk (ds.length + es.length) = true then some (.ok (.v .none), Γ.set i (some (.o (.list (ds ++ es)))), s) else none
    | _, _ => none) Γ s
  | _ => none
section
variable {Y : Sys} {X : Cx} {W : WX} {e o : Expr} {pos p apos cpos : Pos} {ge : GE Y} {te : TE} {i : Nat}
theorem eok_app {K : PySem.W.Frag} (he : EOk Y K W te ge) : EOk Y K W (tBM K "list" rAppend (tVar i) (tCons te tNil)) (gApp i ge) := by
  intro B w σ Γ s out Q Wh N e p
  unfold gApp at e
  split at e
  · rename_i ds0 hi0
    obtain ⟨x, hx, q, rfl, ⟨xs, hl, ra⟩, _⟩ := N.sl i _ hi0
    refine ⟨_, hx, .inl ⟨rfl, xs, .of hl⟩, ?_⟩
    refine (eok_esc he).go (Q := fun y H2 => rAppend (.ref q) [y] H2 Q) Wh N e p fun r Γ1 s1 y w1 W1 N1 l1 R1 e1 p1 => ?_
    split at e1
    · rename_i d ds hi
      split at e1
      · rename_i hz
        cases e1
        obtain ⟨x, hx', q', rfl, ⟨xs, hl, ra⟩, fq, bq, aq⟩ := N1.sl i _ hi
        rw [hx] at hx'; cases hx'
        refine ⟨q, xs, y, rfl, rfl, hl, by rw [ra.length]; exact sizeOk_lt hz, ?_⟩
        exact p1 { w1 with H := upd w1.H q (.lst (xs ++ [y])) } (W1.st fq bq aq) (N1.st hi hx ⟨_, upd_same, ra.append (.cons R1 .nil)⟩) ⟨Same.refl _, [], by simp⟩ .non .non
      · cases e1
    · cases e1
  · cases e
theorem eok_ext {K : PySem.W.Frag} (he : EOk Y K W te ge) : EOk Y K W (tBM K "list" rExtend (tVar i) (tCons te tNil)) (gExt i ge) := by
  intro B w σ Γ s out Q Wh N e p
  unfold gExt at e
  split at e
  · rename_i ds0 hi0
    obtain ⟨x, hx, q, rfl, ⟨xs, hl, ra⟩, _⟩ := N.sl i _ hi0
    refine ⟨_, hx, .inl ⟨rfl, xs, .of hl⟩, ?_⟩
    refine he.go (Q := fun y H2 => rExtend (.ref q) [y] H2 Q) Wh N e p fun r Γ1 s1 y w1 W1 N1 l1 R1 e1 p1 => ?_
    split at e1
    · rename_i es ds hi
      split at e1
      · rename_i hz
        cases e1
        obtain ⟨x, hx', q', rfl, ⟨xs, hl, ra⟩, fq, bq, aq⟩ := N1.sl i _ hi
        rw [hx] at hx'; cases hx'
        obtain ⟨⟨q2, rfl, ⟨zs, hz2, rz⟩, _⟩, _⟩ := R1
        refine ⟨q, q2, xs, zs, rfl, rfl, hl, hz2, by rw [ra.length, rz.length]; exact sizeOk_le hz, ?_⟩
        exact p1 { w1 with H := upd w1.H q (.lst (xs ++ zs)) } (W1.st fq bq aq) (N1.st hi hx ⟨_, upd_same, ra.append rz⟩) ⟨Same.refl _, [], by simp⟩ .non .non
      · cases e1
    · cases e1
  · cases e
theorem me_app (ho : PE X o (tVar i)) (he : ME Y X W e te ge) (hbase : attributeBase o "append" X.env (eval o X.env) = eval o X.env := by rfl)
    (hfew : ((backTo cpos (starEach (e :: []) X.env)).all (fun x => !x.1) && (backToKw cpos (keywordEach [] X.env)).all (fun x => x.1.isSome) && decide ((e :: []).length + ([] : List Keyword).length + (if ([] : List Keyword).isEmpty then 0 else 1) < 30)) = true := by rfl)
    (hline : (apos.endLine == cpos.line) = true := by rfl) (hs : starEach (e :: []) X.env = (false, eval e X.env) :: starEach [] X.env := by rfl) (hplain : (backTo cpos (starEach [] X.env)).any (·.1) = false := by rfl) :
    ME Y X W (.Call (.Attribute o "append" apos) [e] [] cpos) (tBM X.K "list" rAppend (tVar i) (tCons te tNil)) (gApp i ge) :=
  ⟨pe_bm PySem.F.plainAttrs_list PySem.F.slot_list_append PySem.F.type_list_append mt_append ho (pa_cons he.pe pa_nil hs) hbase hfew hline hs hplain, eok_app he.ok⟩
theorem me_ext (ho : PE X o (tVar i)) (he : ME Y X W e te ge) (hbase : attributeBase o "extend" X.env (eval o X.env) = eval o X.env := by rfl)
    (hfew : ((backTo cpos (starEach (e :: []) X.env)).all (fun x => !x.1) && (backToKw cpos (keywordEach [] X.env)).all (fun x => x.1.isSome) && decide ((e :: []).length + ([] : List Keyword).length + (if ([] : List Keyword).isEmpty then 0 else 1) < 30)) = true := by rfl)
    (hline : (apos.endLine == cpos.line) = true := by rfl) (hs : starEach (e :: []) X.env = (false, eval e X.env) :: starEach [] X.env := by rfl) (hplain : (backTo cpos (starEach [] X.env)).any (·.1) = false := by rfl) :
    ME Y X W (.Call (.Attribute o "extend" apos) [e] [] cpos) (tBM X.K "list" rExtend (tVar i) (tCons te tNil)) (gExt i ge) :=
  ⟨pe_bm PySem.F.plainAttrs_list PySem.F.slot_list_extend PySem.F.type_list_extend mt_extend ho (pa_cons he.pe pa_nil hs) hbase hfew hline hs hplain, eok_ext he.ok⟩
end

def sPut {Y : Sys} (i : Nat) (gk ge : GE Y) : GS Y := fun Γ s => match Γ[i]? with
  | some (some (.o (.list _))) => bdS (gEsc ge) (fun r => bdS gk fun rk Γ s => match r, rdv Γ rk, Γ[i]? with
    | .v d, some (.int k), some (some (.o (.list ds))) => match ixN ds.length k with
      | some j => some (.nx, Γ.set i (some (.o (.list (ds.set j d)))), s)
      | none => none
    | _, _, _ => none) Γ s
  | _ => none
theorem sok_put {Y : Sys} {K : PySem.W.Frag} {W : WX} {i : Nat} {te tk : TE} {ge gk : GE Y} (he : EOk Y K W te ge) (hk : EOk Y K W tk gk) : SOk Y K W (tAsg te (gSub (tVar i) tk rSetL)) (sPut i gk ge) := by
  intro B w σ Γ s out D Wh N e p
  unfold sPut at e
  split at e
  · rename_i ds0 hi0
    obtain ⟨y, hx, q, rfl, _⟩ := N.sl i _ hi0
    refine (eok_esc he).goS (Q := fun x H1 => gSub (tVar i) tk rSetL x σ H1 D.nx) Wh N e p fun r Γ1 s1 x w1 W1 N1 l1 R1 e1 p1 => ?_
    obtain ⟨B2, sB, W1b, N1b, kp, kq⟩ := keep W1 N1 R1
    clear kq
    refine ⟨_, hx, ?_⟩
    refine hk.goS (Q := fun y H3 => rSetL (.ref q) y x H3 fun H4 => D.nx σ H4) W1b N1b e1 (p1.strong sB) fun rk Γ2 s2 z w2 W2 N2 l2 R2 e2 p2 => ?_
    have R1' := kp W2 N2 l2
    split at e2
    · rename_i d k ds ek hi
      split at e2
      · rename_i j ej
        cases e2
        have N2' := N2.weak sB
        obtain ⟨y', hx', q', rfl, ⟨xs, hl, ra⟩, fq, bq, aq⟩ := N2'.sl i _ hi
        rw [hx] at hx'; cases hx'
        cases sh_int (sh_of W2 N2 R2 ek)
        refine ⟨q, xs, k, j, rfl, rfl, hl, by rw [ra.length]; exact ej, ?_⟩
        exact p1 { w2 with H := upd w2.H q (.lst (xs.set j x)) } σ ((W2.weak sB).st fq bq aq) (N2'.st hi hx ⟨_, upd_same, ra.set j R1'⟩) ⟨l2.F, l2.et⟩
      · cases e2
    · cases e2
  · cases e
theorem pget_list {X : Cx} : PGet X (rIxL X.K) := by
  intro pins s σ H x y v u Q I rx ry h
  obtain ⟨p, xs, i, z, rfl, rfl, hq, he, q⟩ := h
  cases rx
  obtain ⟨t, rfl⟩ := ry
  obtain ⟨its, r, pl, hz⟩ := I.list hq
  obtain ⟨j, h1, h2, h3, h4, h5⟩ := atI_get he
  obtain ⟨w, ew, rw'⟩ := r.get h2
  have hl := r.length
  have hn := line63
  have fin : EP X pins σ Q w s := ⟨z, H, I, rw', q⟩
  by_cases h0 : 0 ≤ i
  · have hj : i.toNat = j := by
      rw [seqIndex_of h0 h5] at h1
      exact Option.some.inj h1
    exact wpAny_getItem_list pl.isList h0 (by omega) (by rw [hj]; simpa using ew) fin
  · have hj : (i + (its.toArray.size : Int)).toNat = j := by
      rw [seqIndex_neg (by omega) h4] at h1
      rw [List.size_toArray, ← hl]
      exact Option.some.inj h1
    exact wpAny_getItem_list_neg pl.isList (by omega) (by rw [List.size_toArray] <;> omega) (by omega) (by rw [hj]; simpa using ew) fin
/-- x[k] op= e of ints -/
def sUpd {Y : Sys} (i : Nat) (f : Int → Int → Int) (gk ge : GE Y) : GS Y := fun Γ s => match Γ[i]? with
  | some (some (.o (.list _))) => bdS gk (fun rk Γ s => match rdv Γ rk, Γ[i]? with
    | some (.int k), some (some (.o (.list ds))) => match atI ds k with
      | some (.int a) => bdS ge (fun re Γ s => match rdv Γ re, Γ[i]? with
        | some (.int b), some (some (.o (.list es))) => match ixN es.length k with
          | some j => some (.nx, Γ.set i (some (.o (.list (es.set j (.int (f a b)))))), s)
          | none => none
        | _, _ => none) Γ s
      | _ => none
    | _, _ => none) Γ s
  | _ => none
theorem rpa_atI {K : PySem.W.Frag} {F : Hp} {xs : List V} {ds : List D} (r : RpA K F xs ds) {k : Int} {d : D} (h : atI ds k = some d) : ∃ v, atI xs k = some v ∧ Rp K F v d := by
  unfold atI at h ⊢
  rw [r.length]
  cases e : ixN ds.length k with
  | none => rw [e] at h; cases h
  | some j =>
    rw [e] at h
    exact r.get h
theorem sok_upd {Y : Sys} {K : PySem.W.Frag} {W : WX} {i : Nat} {f : Int → Int → Int} {te tk : TE} {ge gk : GE Y} (he : EOk Y K W te ge) (hk : EOk Y K W tk gk) : SOk Y K W (tAugS (tVar i) tk te (rIxL K) (ipI f) rSetL) (sUpd i f gk ge) := by
  intro B w σ Γ s out D Wh N e p
  unfold sUpd at e
  split at e
  · rename_i ds0 hi0
    obtain ⟨y, hx, q, rfl, _⟩ := N.sl i _ hi0
    refine ⟨_, hx, ?_⟩
    refine hk.goS (Q := fun iv H2 => rIxL K (.ref q) iv H2 fun x H3 => te σ H3 fun y H4 => ipI f x y H4 fun z H5 => rSetL (.ref q) iv z H5 fun H6 => D.nx σ H6) Wh N e p fun rk Γ1 s1 iv w1 W1 N1 l1 R1 e1 p1 => ?_
    split at e1
    · rename_i k ds ek hi
      split at e1
      · rename_i a ea
        cases sh_int (sh_of W1 N1 R1 ek)
        obtain ⟨y', hx', q', rfl, ⟨xs, hl, ra⟩, fq, bq, aq⟩ := N1.sl i _ hi
        rw [hx] at hx'; cases hx'
        obtain ⟨v, hv, rv⟩ := rpa_atI ra ea
        cases rv
        refine ⟨q, xs, k, _, rfl, rfl, .of hl, hv, ?_⟩
        refine he.goS (Q := fun y H4 => ipI f (.int a) y H4 fun z H5 => rSetL (.ref q) (.int k) z H5 fun H6 => D.nx σ H6) W1 N1 e1 p1 fun re Γ2 s2 y w2 W2 N2 l2 R2 e2 p2 => ?_
        split at e2
        · rename_i b es eb hi2
          split at e2
          · rename_i j ej
            cases e2
            cases sh_int (sh_of W2 N2 R2 eb)
            obtain ⟨y', hx', q', rfl, ⟨ys, hl2, ra2⟩, fq2, bq2, aq2⟩ := N2.sl i _ hi2
            rw [hx] at hx'; cases hx'
            refine ⟨a, b, rfl, rfl, q, ys, k, j, rfl, rfl, hl2, by rw [ra2.length]; exact ej, ?_⟩
            exact p2 { w2 with H := upd w2.H q (.lst (ys.set j (.int (f a b)))) } σ (W2.st fq2 bq2 aq2) (N2.st hi2 hx ⟨_, upd_same, ra2.set j (.int _)⟩) ⟨Same.refl _, [], by simp⟩
          · cases e2
        · cases e2
      · cases e1
    · cases e1
  · cases e
section
variable {Y : Sys} {X : Cx} {W : WX} {o k e : Expr} {pos p : Pos} {ge gk : GE Y} {te tk : TE} {i : Nat}
theorem ms_put (ho : PE X o (tVar i)) (hk : ME Y X W k tk gk) (he : ME Y X W e te ge)
    (ha : ∀ v, assign (.Subscript o k p) X.env v = (do
      let ov ← holding [v] (eval o X.env)
      let iv ← holding [v, ov] (eval k X.env)
      standAt p
      holding [v, ov, iv] (setItem ov iv v)
      release [v, ov, iv] []) := by intro _; rfl)
    (hs : swapsWithSole [.Subscript o k p] e pos.line X.env = pure false := by rfl) (hw : swappedStores [.Subscript o k p] e X.env = pure none := by rfl)
    (h1 : (assignEach [.Subscript o k p] X.env).map (·.2) = [assign (.Subscript o k p) X.env] := by rfl) :
    MS Y X W (.Assign [.Subscript o k p] e pos) (tAsg te (gSub (tVar i) tk rSetL)) (sPut i gk ge) :=
  ⟨ps_asg he.pe (pg_sub ho hk.pe set_list ha) hs hw h1, sok_put he.ok hk.ok⟩
theorem ms_upd {op : Operator} {f : Int → Int → Int} (hop : PIp X op (ipI f)) (ho : PE X o (tVar i)) (hk : ME Y X W k tk gk) (he : ME Y X W e te ge)
    (ha : ∀ ov iv new, augStore k ov iv new = (do holding [new, ov, iv] (setItem ov iv new); release [new, ov, iv] []; pure .next) := by intros; rfl) :
    MS Y X W (.AugAssign (.Subscript o k p) op e pos) (tAugS (tVar i) tk te (rIxL X.K) (ipI f) rSetL) (sUpd i f gk ge) :=
  ⟨ps_augS ho hk.pe pget_list he.pe hop set_list ha, sok_upd he.ok hk.ok⟩
/-- x op= e -/
theorem eok_var {K : PySem.W.Frag} : EOk Y K W (tVar i) (gV i) := by
  intro B w σ Γ s out Q Wh N e p
  unfold gV at e
  split at e
  · rename_i d hd
    cases e
    obtain ⟨x, hx, rx⟩ := N.sl i _ hd
    exact ⟨x, hx, p w Wh N (.refl _) _ rx⟩
  · rename_i d hd
    cases e
    obtain ⟨x, hx, rx⟩ := N.sl i _ hd
    exact ⟨x, hx, p w Wh N (.refl _) _ hx⟩
  · rename_i d hd
    cases e
    obtain ⟨x, hx, rx⟩ := N.sl i _ hd
    exact ⟨x, hx, p w Wh N (.refl _) _ rx⟩
  · rename_i d hd
    cases e
    obtain ⟨x, hx, rx⟩ := N.sl i _ hd
    exact ⟨x, hx, p w Wh N (.refl _) _ rx⟩
  · rename_i d hd
    cases e
    obtain ⟨x, hx, rx⟩ := N.sl i _ hd
    exact ⟨x, hx, p w Wh N (.refl _) _ rx⟩
  · cases e
theorem ms_aug {op : Operator} {r : R2} {f : D → D → Option Rz} {x : Str} {pos' : Pos} (hop : OpR X (inplaceOp op) r) (hf : Op2 X.K r f) (hN : X.N.Nodup) (hi : X.N[i]? = some x) (hx : Loc X.env.scope x) (he : ME Y X W e te ge)
    (hfn : X.fn x = true ∨ X.env.scope.names.lookup x = some .local := by first | exact .inl rfl | exact .inr rfl | assumption) : MS Y X W (.AugAssign (.Name x pos') op e pos) (tAug i te r) (sSet i (gBin f (gV i) ge)) :=
  ⟨ps_aug hN hi hx he.pe hop hfn, by
    intro B w σ Γ s out D Wh N e p
    exact sok_set (eok_bin (ta := tVar i) (tb := te) hf eok_var he.ok) B w σ Γ s out D Wh N e p⟩
end
end FX

set_option Elab.async false
set_option linter.all false
set_option maxRecDepth 100000
set_option maxHeartbeats 1000000
namespace FX
open PySem PySem.Spec L2

section
variable {K : PySem.W.Frag} {F H : Hp}
mutual
theorem Rp.dp : ∀ {d : D} {v : V}, Rp K F v d → d.canLay0 = true → Dp K F v d
  | .none, _, h, _ => by cases h; exact .non
  | .bool _, _, h, _ => by cases h; exact .bl _
  | .int _, _, h, _ => by cases h; exact .int _
  | .str _, _, h, _ => by cases h; exact .str _
  | .list _, _, h, c => by cases h with | lst a b => exact .lst (.of a) (RpA.dp b (by simpa [PyData.canLay0] using c))
  | .tuple _, _, h, c => by cases h with | tup a b => exact .tup (.of a) (RpA.dp b (by simpa [PyData.canLay0] using c))
  | .dict _, _, h, c => by simp [PyData.canLay0] at c
theorem RpA.dp : ∀ {ds : List D} {vs : List V}, RpA K F vs ds → PyData.canLayAll0 ds = true → DpAll K F vs ds
  | [], _, h, _ => by cases h; exact .nil
  | _ :: _, _, h, c => by
    simp only [PyData.canLayAll0, Bool.and_eq_true] at c
    cases h with | cons a b => exact .cons (Rp.dp a c.1) (RpA.dp b c.2)
end
mutual
theorem Dp.mo (e : Same F H) : ∀ {d : D} {v : V}, Dp K F v d → Dp K H v d
  | .none, _, h => by cases h; exact .non
  | .bool _, _, h => by cases h; exact .bl _
  | .int _, _, h => by cases h; exact .int _
  | .str _, _, h => by cases h; exact .str _
  | .list _, _, h => by cases h with | lst a b => exact .lst (e.seq a) (DpA.mo e b)
  | .tuple _, _, h => by cases h with | tup a b => exact .tup (seqT e a) (DpA.mo e b)
  | .dict _, _, h => by cases h
theorem DpA.mo (e : Same F H) : ∀ {ds : List D} {vs : List V}, DpAll K F vs ds → DpAll K H vs ds
  | [], _, h => by cases h; exact .nil
  | _ :: _, _, h => by cases h with | cons a b => exact .cons (Dp.mo e a) (DpA.mo e b)
end
theorem Sh.dp (e : Same F H) {x : V} : ∀ {d : D}, Sh K F H x d → SeqAt.shaped d = true → Dp K H x d
  | .none, h, c => Dp.mo e (Rp.dp h rfl)
  | .bool _, h, c => Dp.mo e (Rp.dp h rfl)
  | .int _, h, c => Dp.mo e (Rp.dp h rfl)
  | .str _, h, c => Dp.mo e (Rp.dp h (SeqAt.canLay_of_shaped c))
  | .list ds, h, c => by
    obtain ⟨p, xs, rfl, a, b⟩ := h
    exact .lst (.of a) (DpA.mo e (RpA.dp b (by simpa [PyData.canLay0] using SeqAt.canLay_of_shaped c)))
  | .tuple ds, h, c => by
    obtain ⟨p, xs, rfl, a, b⟩ := h
    exact .tup (.of (e _ _ a)) (DpA.mo e (RpA.dp b (by simpa [PyData.canLay0] using SeqAt.canLay_of_shaped c)))
  | .dict _, h, c => by simp [SeqAt.shaped, PyData.canLay0] at c
end

def okInt (i j : Int) : Bool := Nat.ble (i.natAbs + 1) 18446744073709551616 || Nat.ble (j.natAbs + 1) 18446744073709551616
theorem okInt_of {i j : Int} (h : okInt i j = true) : (-(2 ^ 64) < i ∧ i < 2 ^ 64) ∨ (-(2 ^ 64) < j ∧ j < 2 ^ 64) := by
  unfold okInt at h
  simp only [Bool.or_eq_true] at h
  rcases h with h | h
  · have := Nat.le_of_ble_eq_true h
    exact .inl (by omega)
  · have := Nat.le_of_ble_eq_true h
    exact .inr (by omega)
theorem okInt_l {i j : Int} (h : i.natAbs < 18446744073709551616) : okInt i j = true := by
  unfold okInt
  rw [Nat.ble_eq_true_of_le h, Bool.true_or]
theorem okInt_r {i j : Int} (h : j.natAbs < 18446744073709551616) : okInt i j = true := by
  unfold okInt
  rw [Nat.ble_eq_true_of_le h, Bool.or_true]
def fAdd : D → D → Option Rz
  | .int i, .int j => some (.nw (.int (i + j)))
  | .str x, .str y => if sizeOk (x.length + y.length) = true then some (.nw (.str (x ++ y))) else none
  | .list a, .list b => if sizeOk (a.length + b.length) = true then some (.nw (.list (a ++ b))) else none
  | _, _ => none
def fSub : D → D → Option Rz
  | .int i, .int j => some (.nw (.int (i - j)))
  | _, _ => none
def fMul : D → D → Option Rz
  | .int i, .int j => if okInt i j = true then some (.nw (.int (i * j))) else none
  | .list a, .int k => if (bigI k && sizeOk (a.length * k.toNat)) = true then some (.nw (.list (List.replicate k.toNat a).flatten)) else none
  | .tuple a, .int k => if (!a.isEmpty && decide (2 ≤ k) && decide (k ≤ 1000) && decide (a.length ≤ 1000)) = true then some (.nw (.tuple (List.replicate k.toNat a).flatten)) else none
  | _, _ => none
def fDiv : D → D → Option Rz
  | .int i, .int j => if (decide (j ≠ 0) && decide (j.natAbs < 1073741824)) = true then some (.nw (.int (i.fdiv j))) else none
  | _, _ => none
def fMod : D → D → Option Rz
  | .int i, .int j => if decide (j ≠ 0) = true then some (.nw (.int (i.fmod j))) else none
  | _, _ => none
def fPow : D → D → Option Rz
  | .int i, .int j => if (decide (0 ≤ j) && decide (j ≤ 1000) && decide (i.natAbs < 1000)) = true then some (.nw (.int (i ^ j.toNat))) else none
  | _, _ => none
def fNeg : D → Option Rz
  | .int i => some (.nw (.int (-i)))
  | _ => none
def fLt : D → D → Option Rz
  | .int i, .int j => some (.nw (.bool (decide (i < j))))
  | _, _ => none
def fGt : D → D → Option Rz
  | .int i, .int j => some (.nw (.bool (decide (j < i))))
  | _, _ => none
def fGe : D → D → Option Rz
  | .int i, .int j => some (.nw (.bool (decide (j ≤ i))))
  | _, _ => none
def ints? : List D → Option (List Int)
  | [] => some []
  | .int i :: r => match ints? r with
    | some l => some (i :: l)
    | none => none
  | _ :: _ => none
def leT (ns ms : List Int) : Bool := Ob.lexAt (fun j => decide (ns.getD j 0 = ms.getD j 0)) (fun j => decide (ns.getD j 0 ≤ ms.getD j 0)) (decide (ns.length ≤ ms.length)) 0 (min ns.length ms.length)
def fLe : D → D → Option Rz
  | .int i, .int j => some (.nw (.bool (decide (i ≤ j))))
  | .tuple a, .tuple b => match ints? a, ints? b with
    | some ns, some ms => some (.nw (.bool (leT ns ms)))
    | _, _ => none
  | _, _ => none
def fEq (d e : D) : Option Rz := if (SeqAt.shaped d && SeqAt.shaped e) = true then some (.nw (.bool (PyData.eqv d e))) else none
def fNe (d e : D) : Option Rz := if (SeqAt.shaped d && SeqAt.shaped e) = true then some (.nw (.bool (!PyData.eqv d e))) else none
def isNo : D → Bool
  | .none => true
  | _ => false
def fIsN (d e : D) : Option Rz := match e with
  | .none => some (.nw (.bool (isNo d)))
  | _ => none
def fNotN (d e : D) : Option Rz := match e with
  | .none => some (.nw (.bool (!isNo d)))
  | _ => none
def fIsB : D → D → Option Rz
  | .bool a, .bool b => some (.nw (.bool (decide (a = b))))
  | _, _ => none
def fNotB : D → D → Option Rz
  | .bool a, .bool b => some (.nw (.bool (!decide (a = b))))
  | _, _ => none
def fIn (d e : D) : Option Rz := match e with
  | .list ds => if (SeqAt.shaped d && SeqAt.shaped (.list ds)) = true then some (.nw (.bool (ds.any fun z => PyData.eqv z d))) else none
  | _ => none
def fNotIn (d e : D) : Option Rz := match e with
  | .list ds => if (SeqAt.shaped d && SeqAt.shaped (.list ds)) = true then some (.nw (.bool (!ds.any fun z => PyData.eqv z d))) else none
  | _ => none
def fIx : D → D → Option Rz
  | .list ds, .int i => match atI ds i with
    | some d => some (.old d)
    | none => none
  | .tuple ds, .int i => match atI ds i with
    | some d => some (.old d)
    | none => none
  | .str z, .int i => if sizeOk z.length = true then (match atI z.cps.toList i with
    | some c => some (.nw (.str ⟨#[c]⟩))
    | none => none) else none
  | _, _ => none
def fLen : List D → Option Rz
  | [.list ds] => some (.nw (.int (ds.length : Nat)))
  | [.tuple ds] => some (.nw (.int (ds.length : Nat)))
  | [.str z] => if sizeOk z.length = true then some (.nw (.int (z.length : Nat))) else none
  | _ => none
def fInt : List D → Option Rz
  | [.int i] => some (.nw (.int i))
  | [.bool b] => some (.nw (.int (if b = true then 1 else 0)))
  | _ => none
def fSum : List D → Option Rz
  | [.list ds] => match ints? ds with
    | some ns => some (.nw (.int ns.sum))
    | none => none
  | _ => none
def fList : List D → Option Rz
  | [.list ds] => some (.nw (.list ds))
  | [.tuple ds] => some (.nw (.list ds))
  | _ => none

section
variable {K : PySem.W.Frag} {X : Cx}
theorem ints_of {F : Hp} : ∀ {ds : List D} {xs : List V} {ns : List Int}, RpA K F xs ds → ints? ds = some ns → xs = ns.map V.int
  | [], _, _, h, e => by cases h; cases e; rfl
  | .int i :: r, _, _, h, e => by
    unfold ints? at e
    split at e
    · rename_i l el
      cases e
      cases h with
      | cons a b => cases a; rw [ints_of b el]; rfl
    · cases e
  | .none :: _, _, _, _, e => by cases e
  | .bool _ :: _, _, _, _, e => by cases e
  | .str _ :: _, _, _, _, e => by cases e
  | .list _ :: _, _, _, _, e => by cases e
  | .tuple _ :: _, _, _, _, e => by cases e
  | .dict _ :: _, _, _, _, e => by cases e
theorem nw_int {F H : Hp} {Q : VK} {i : Int} (q : RzQ K F H Q (.nw (.int i))) : Q (.int i) H := q _ (.int i)
theorem nw_bool {F H : Hp} {Q : VK} {i : Bool} (q : RzQ K F H Q (.nw (.bool i))) : Q (.bl i) H := q _ (.bl i)
theorem nw_str {F H : Hp} {Q : VK} {i : Str} (q : RzQ K F H Q (.nw (.str i))) : Q (.str i) H := q _ (.str i)
def rStrAdd : R2 := fun x y H Q => ∃ i j, x = .str i ∧ y = .str j ∧ i.length + j.length ≤ sizeLine ∧ Q (.str (i ++ j)) H
def rAdd3 : R2 := fun x y H Q => rI0 (fun i j => .int (i + j)) x y H Q ∨ (fun x y H Q => rStrAdd x y H Q ∨ rCat x y H Q) x y H Q
theorem o_add : OpR X (binaryOp .Add) rAdd3 := op_add.or (OpR.or op_add_str op_cat)
theorem s_add : Op2 K rAdd3 fAdd := by
  intro F H x y d e z Q sF hx hy h q
  unfold fAdd at h
  split at h
  · cases h
    cases sh_int hx
    cases sh_int hy
    exact .inl ⟨_, _, rfl, rfl, nw_int q⟩
  · split at h
    · rename_i hz
      cases h
      cases sh_str hx
      cases sh_str hy
      exact .inr (.inl ⟨_, _, rfl, rfl, sizeOk_le hz, nw_str q⟩)
    · cases h
  · split at h
    · rename_i hz
      cases h
      obtain ⟨p, xs, rfl, e1, a1⟩ := hx
      obtain ⟨p2, ys, rfl, e2, a2⟩ := hy
      exact .inr (.inr ⟨p, p2, xs, ys, rfl, rfl, e1, e2, by rw [a1.length, a2.length]; exact sizeOk_le hz, fun r nr => q r _ nr (a1.append a2)⟩)
    · cases h
  · cases h
theorem s_sub : Op2 K (rI0 fun i j => .int (i - j)) fSub := by
  intro F H x y d e z Q sF hx hy h q
  unfold fSub at h
  split at h
  · cases h
    cases sh_int hx
    cases sh_int hy
    exact ⟨_, _, rfl, rfl, nw_int q⟩
  · cases h
def rMul2 (K : PySem.W.Frag) : R2 := fun x y H Q => rI CMul (fun i j => .int (i * j)) x y H Q ∨ (fun x y H Q => rRep x y H Q ∨ rRepT K x y H Q) x y H Q
theorem o_mul : OpR X (binaryOp .Mult) (rMul2 X.K) := op_mul.or (op_rep.or op_repT)
theorem RpA.rep {F : Hp} {xs : List V} {ds : List D} (r : RpA K F xs ds) : ∀ n, RpA K F (List.replicate n xs).flatten (List.replicate n ds).flatten
  | 0 => .nil
  | n + 1 => by
    simp only [List.replicate_succ, List.flatten_cons]
    exact r.append (RpA.rep r n)
theorem s_mul : Op2 K (rMul2 K) fMul := by
  intro F H x y d e z Q sF hx hy h q
  unfold fMul at h
  split at h
  · split at h
    · rename_i hz
      cases h
      cases sh_int hx
      cases sh_int hy
      refine .inl ⟨_, _, rfl, rfl, ?_, nw_int q⟩
      exact okInt_of hz
    · cases h
  · split at h
    · rename_i hz
      cases h
      rw [Bool.and_eq_true] at hz
      obtain ⟨b1, b2⟩ := bigI_of hz.1
      obtain ⟨p, xs, rfl, e1, a1⟩ := hx
      cases sh_int hy
      exact .inr (.inl ⟨p, _, xs, rfl, rfl, e1, by omega, by omega, by rw [a1.length]; exact sizeOk_le hz.2, fun r nr => q r _ nr (a1.rep _)⟩)
    · cases h
  · split at h
    · rename_i hz
      cases h
      simp only [Bool.and_eq_true, decide_eq_true_eq, Bool.not_eq_true'] at hz
      obtain ⟨p, xs, rfl, e1, a1⟩ := hx
      cases sh_int hy
      refine .inr (.inr ⟨p, _, xs, rfl, rfl, .of (sF _ _ e1), ?_, hz.1.1.2, hz.1.2, by rw [a1.length]; exact hz.2, fun r nr => q r _ nr (a1.rep _)⟩)
      intro e
      subst e
      cases a1
      exact absurd hz.1.1.1 (by decide)
    · cases h
  · cases h
theorem s_div : Op2 K (rI CDivN fun i j => .int (i.fdiv j)) fDiv := by
  intro F H x y d e z Q sF hx hy h q
  unfold fDiv at h
  split at h
  · split at h
    · rename_i hz
      cases h
      simp only [Bool.and_eq_true, decide_eq_true_eq] at hz
      cases sh_int hx
      cases sh_int hy
      exact ⟨_, _, rfl, rfl, hz, nw_int q⟩
    · cases h
  · cases h
theorem s_mod : Op2 K (rI (fun _ j => j ≠ 0) fun i j => .int (i.fmod j)) fMod := by
  intro F H x y d e z Q sF hx hy h q
  unfold fMod at h
  split at h
  · split at h
    · rename_i hz
      cases h
      simp only [decide_eq_true_eq] at hz
      cases sh_int hx
      cases sh_int hy
      exact ⟨_, _, rfl, rfl, hz, nw_int q⟩
    · cases h
  · cases h
theorem s_pow : Op2 K (rI CPow fun i j => .int (i ^ j.toNat)) fPow := by
  intro F H x y d e z Q sF hx hy h q
  unfold fPow at h
  split at h
  · split at h
    · rename_i hz
      cases h
      simp only [Bool.and_eq_true, decide_eq_true_eq] at hz
      cases sh_int hx
      cases sh_int hy
      exact ⟨_, _, rfl, rfl, ⟨hz.1.1, by omega, by omega⟩, nw_int q⟩
    · cases h
  · cases h
theorem s_lt : Op2 K (rI0 fun i j => .bl (decide (i < j))) fLt := by
  intro F H x y d e z Q sF hx hy h q
  unfold fLt at h
  split at h
  · cases h
    cases sh_int hx
    cases sh_int hy
    exact ⟨_, _, rfl, rfl, nw_bool q⟩
  · cases h
theorem s_gt : Op2 K (rI0 fun i j => .bl (decide (j < i))) fGt := by
  intro F H x y d e z Q sF hx hy h q
  unfold fGt at h
  split at h
  · cases h
    cases sh_int hx
    cases sh_int hy
    exact ⟨_, _, rfl, rfl, nw_bool q⟩
  · cases h
theorem s_ge : Op2 K (rI0 fun i j => .bl (decide (j ≤ i))) fGe := by
  intro F H x y d e z Q sF hx hy h q
  unfold fGe at h
  split at h
  · cases h
    cases sh_int hx
    cases sh_int hy
    exact ⟨_, _, rfl, rfl, nw_bool q⟩
  · cases h
def rLe2 (K : PySem.W.Frag) : R2 := fun x y H Q => rI0 (fun i j => .bl (decide (i ≤ j))) x y H Q ∨ rLeT K x y H Q
theorem o_le (hu : X.A.units < cLine) : OpR X (compareOp .LtE) (rLe2 X.K) := op_le.or (op_leT hu)
theorem s_le : Op2 K (rLe2 K) fLe := by
  intro F H x y d e z Q sF hx hy h q
  unfold fLe at h
  split at h
  · cases h
    cases sh_int hx
    cases sh_int hy
    exact .inl ⟨_, _, rfl, rfl, nw_bool q⟩
  · split at h
    · rename_i ns ms e1 e2
      cases h
      obtain ⟨p, xs, rfl, t1, a1⟩ := hx
      obtain ⟨p2, ys, rfl, t2, a2⟩ := hy
      rw [ints_of a1 e1] at t1
      rw [ints_of a2 e2] at t2
      exact .inr ⟨p, p2, ns, ms, rfl, rfl, .of (sF _ _ t1), .of (sF _ _ t2), nw_bool q⟩
    · cases h
  · cases h
theorem s_eq : Op2 K (rEqD K) fEq := by
  intro F H x y d e z Q sF hx hy h q
  unfold fEq at h
  split at h
  · rename_i hz
    cases h
    rw [Bool.and_eq_true] at hz
    exact ⟨d, e, hx.dp sF hz.1, hy.dp sF hz.2, hz.1, hz.2, nw_bool q⟩
  · cases h
theorem s_ne : Op2 K (rNeD K) fNe := by
  intro F H x y d e z Q sF hx hy h q
  unfold fNe at h
  split at h
  · rename_i hz
    cases h
    rw [Bool.and_eq_true] at hz
    exact ⟨d, e, hx.dp sF hz.1, hy.dp sF hz.2, hz.1, hz.2, nw_bool q⟩
  · cases h
theorem isNo_of {F H : Hp} {x : V} : ∀ {d : D}, Sh K F H x d → decide (x = .non) = isNo d
  | .none, h => by cases sh_non h; rfl
  | .bool b, h => by cases sh_bool h; rfl
  | .int _, h => by cases sh_int h; rfl
  | .str _, h => by cases sh_str h; rfl
  | .list _, h => by obtain ⟨p, xs, rfl, _⟩ := h; rfl
  | .tuple _, h => by obtain ⟨p, xs, rfl, _⟩ := h; rfl
  | .dict _, h => by cases (show Rp K F x (.dict _) from h) <;> rfl
theorem s_isN : Op2 K (fun x y H Q => y = .non ∧ Q (.bl (decide (x = .non))) H) fIsN := by
  intro F H x y d e z Q sF hx hy h q
  unfold fIsN at h
  split at h
  · cases h
    exact ⟨sh_non hy, by rw [isNo_of hx]; exact nw_bool q⟩
  · cases h
theorem s_notN : Op2 K (fun x y H Q => y = .non ∧ Q (.bl (!decide (x = .non))) H) fNotN := by
  intro F H x y d e z Q sF hx hy h q
  unfold fNotN at h
  split at h
  · cases h
    exact ⟨sh_non hy, by rw [isNo_of hx]; exact nw_bool q⟩
  · cases h
theorem s_isB : Op2 K (fun x y H Q => ∃ a b, x = .bl a ∧ y = .bl b ∧ Q (.bl (decide (a = b))) H) fIsB := by
  intro F H x y d e z Q sF hx hy h q
  unfold fIsB at h
  split at h
  · cases h
    exact ⟨_, _, sh_bool hx, sh_bool hy, nw_bool q⟩
  · cases h
theorem s_notB : Op2 K (fun x y H Q => ∃ a b, x = .bl a ∧ y = .bl b ∧ Q (.bl (!decide (a = b))) H) fNotB := by
  intro F H x y d e z Q sF hx hy h q
  unfold fNotB at h
  split at h
  · cases h
    exact ⟨_, _, sh_bool hx, sh_bool hy, nw_bool q⟩
  · cases h
theorem s_in : Op2 K (rInD K) fIn := by
  intro F H x y d e z Q sF hx hy h q
  unfold fIn at h
  split at h
  · split at h
    · rename_i hz
      cases h
      rw [Bool.and_eq_true] at hz
      exact ⟨d, _, hx.dp sF hz.1, hy.dp sF hz.2, hz.1, hz.2, nw_bool q⟩
    · cases h
  · cases h
theorem s_notIn : Op2 K (rNotInD K) fNotIn := by
  intro F H x y d e z Q sF hx hy h q
  unfold fNotIn at h
  split at h
  · split at h
    · rename_i hz
      cases h
      rw [Bool.and_eq_true] at hz
      exact ⟨d, _, hx.dp sF hz.1, hy.dp sF hz.2, hz.1, hz.2, nw_bool q⟩
    · cases h
  · cases h
theorem s_ix : Op2 K (rIx K) fIx := by
  intro F H x y d e z Q sF hx hy h q
  unfold fIx at h
  split at h
  · split at h
    · rename_i d ed
      cases h
      obtain ⟨p, xs, rfl, e1, a1⟩ := hx
      cases sh_int hy
      obtain ⟨v, hv, rv⟩ := rpa_atI a1 ed
      exact .inl ⟨p, xs, _, v, rfl, rfl, .of e1, hv, q v rv⟩
    · cases h
  · split at h
    · rename_i d ed
      cases h
      obtain ⟨p, xs, rfl, e1, a1⟩ := hx
      cases sh_int hy
      obtain ⟨v, hv, rv⟩ := rpa_atI a1 ed
      exact .inr (.inl ⟨p, xs, _, v, rfl, rfl, .of (sF _ _ e1), hv, q v rv⟩)
    · cases h
  · split at h
    · rename_i hz
      split at h
      · rename_i c ec
        cases h
        exact .inr (.inr ⟨_, _, c, sh_str hx, sh_int hy, sizeOk_le hz, ec, nw_str q⟩)
      · cases h
    · cases h
  · cases h
theorem s_neg : Op1 K (rU fun i => .int (-i)) fNeg := by
  intro F H x d z Q sF hx h q
  unfold fNeg at h
  split at h
  · cases h
    exact ⟨_, sh_int hx, nw_int q⟩
  · cases h
theorem s_len : OpN K (fun xs H Q => (∃ p ys, xs = [.ref p] ∧ (SqL K H p ys ∨ SqT K H p ys) ∧ Q (.int ys.length) H) ∨ ∃ z, xs = [.str z] ∧ z.length ≤ sizeLine ∧ Q (.int z.length) H) fLen := by
  intro F H xs ds z Q sF hx h q
  unfold fLen at h
  split at h
  · cases h
    cases hx with
    | cons a b =>
      cases b
      obtain ⟨p, xs, rfl, e1, a1⟩ := a
      exact .inl ⟨p, xs, rfl, .inl (.of e1), by rw [a1.length]; exact nw_int q⟩
  · cases h
    cases hx with
    | cons a b =>
      cases b
      obtain ⟨p, xs, rfl, e1, a1⟩ := a
      exact .inl ⟨p, xs, rfl, .inr (.of (sF _ _ e1)), by rw [a1.length]; exact nw_int q⟩
  · split at h
    · rename_i hz
      cases h
      cases hx with
      | cons a b =>
        cases b
        exact .inr ⟨_, by rw [sh_str a], sizeOk_le hz, nw_int q⟩
    · cases h
  · cases h
theorem s_int : OpN K (fun xs H Q => (∃ i, xs = [.int i] ∧ Q (.int i) H) ∨ ∃ k, xs = [.bl k] ∧ Q (.int (if k then 1 else 0)) H) fInt := by
  intro F H xs ds z Q sF hx h q
  unfold fInt at h
  split at h
  · cases h
    cases hx with
    | cons a b =>
      cases b
      cases sh_int a
      exact .inl ⟨_, rfl, nw_int q⟩
  · cases h
    cases hx with
    | cons a b =>
      cases b
      cases sh_bool a
      exact .inr ⟨_, rfl, nw_int q⟩
  · cases h
theorem s_sum : OpN K (rSum K) fSum := by
  intro F H xs ds z Q sF hx h q
  unfold fSum at h
  split at h
  · split at h
    · rename_i ns en
      cases h
      cases hx with
      | cons a b =>
        cases b
        obtain ⟨p, xs, rfl, e1, a1⟩ := a
        rw [ints_of a1 en] at e1
        exact ⟨p, ns, rfl, .of e1, nw_int q⟩
    · cases h
  · cases h
theorem s_list : OpN K (fun xs H Q => ∃ p ys, xs = [.ref p] ∧ (SqL K H p ys ∨ SqT K H p ys) ∧ ∀ l, H l = none → Q (.ref l) (upd H l (.lst ys))) fList := by
  intro F H xs ds z Q sF hx h q
  unfold fList at h
  split at h
  · cases h
    cases hx with
    | cons a b =>
      cases b
      obtain ⟨p, xs, rfl, e1, a1⟩ := a
      exact ⟨p, xs, rfl, .inl (.of e1), fun r nr => q r _ nr a1⟩
  · cases h
    cases hx with
    | cons a b =>
      cases b
      obtain ⟨p, xs, rfl, e1, a1⟩ := a
      exact ⟨p, xs, rfl, .inr (.of (sF _ _ e1)), fun r nr => q r _ nr a1⟩
  · cases h
end
end FX

set_option Elab.async false
set_option linter.all false
set_option maxRecDepth 100000
set_option maxHeartbeats 4000000
namespace Cmb
open PySem PySem.Spec
open Sem (wp)

theorem mro_c : mroOf (.type "itertools.combinations") = pure [.type "itertools.combinations", .type "object"] := by rw [mroOf_type]; kernel_rfl
theorem lookup_c_new : typeLookup (.type "itertools.combinations") "__new__" = pure (some (.builtin "itertools.combinations.__new__")) := by rw [typeLookup_type, builtinLookup_eq_fast]; kernel_rfl
theorem slot_c_init : Slot "itertools.combinations" "__init__" "object.__init__" :=
  .of (owner := "object") (n := "__init__") (by rw [typeLookup_type, builtinLookup_eq_fast]; kernel_rfl) (by decide +kernel) (by decide +kernel) (by decide +kernel)
    (by first | exact .inl (by decide +kernel) | exact .inr (by decide +kernel)) (by rw [isSubtype_type]; kernel_rfl)
theorem sub_c : isSubtype (.type "itertools.combinations") (.type "itertools.combinations") = pure true := by rw [isSubtype_type]; kernel_rfl
theorem called_c : TypeCalled "itertools.combinations" "itertools.combinations.__new__" "object.__init__" :=
  ⟨by decide +kernel, by decide +kernel, ⟨_, _, mro_c⟩, madeBy_type mro_c lookup_c_new (by decide +kernel), by decide +kernel, sub_c, slot_c_init⟩
theorem typeCall_c (a b : Value) : checkTypeCall "itertools.combinations" ⟨[a, b], []⟩ = pure () := by kernel_rfl
theorem newCall_c (a b : Value) : checkBuiltinCall "itertools.combinations.__new__" ⟨[.type "itertools.combinations", a, b], []⟩ = pure () := by kernel_rfl
theorem entry_c_new : entryFor table "itertools.combinations.__new__" = some Builtin.«itertools.combinations.__new__» := entryFor_of_tree (by kernel_rfl)
theorem plain_c_new : plainId "itertools.combinations.__new__" = true := by decide +kernel
theorem slot_c_iter : Slot "itertools.combinations" "__iter__" "itertools.combinations.__iter__" :=
  .of (owner := "itertools.combinations") (n := "__iter__") (by rw [typeLookup_type, builtinLookup_eq_fast]; kernel_rfl) (by decide +kernel) (by decide +kernel) (by decide +kernel)
    (by first | exact .inl (by decide +kernel) | exact .inr (by decide +kernel)) sub_c
theorem slot_c_next : Slot "itertools.combinations" "__next__" "itertools.combinations.__next__" :=
  .of (owner := "itertools.combinations") (n := "__next__") (by rw [typeLookup_type, builtinLookup_eq_fast]; kernel_rfl) (by decide +kernel) (by decide +kernel) (by decide +kernel)
    (by first | exact .inl (by decide +kernel) | exact .inr (by decide +kernel)) sub_c
theorem entry_c_iter : entryFor table "itertools.combinations.__iter__" = some Builtin.«dict_keyiterator.__iter__» :=
  entryFor_alias (id' := "dict_keyiterator.__iter__") (by kernel_rfl) (by first | rfl | decide +kernel | (unfold String.splitOn; simp +decide [String.splitOnAux])) (by decide +kernel) (by kernel_rfl)
theorem entry_c_next : entryFor table "itertools.combinations.__next__" = some Builtin.«itertools.combinations.__next__» := entryFor_of_tree (by kernel_rfl)
theorem owner_c : Manifest.owners.lookup (String.ofList ['s','n','o','i','t','a','n','i','b','m','o','c','.','s','l','o','o','t','r','e','t','i'].reverse) = some Manifest.sig_itertools_combinations := by kernel_rfl
theorem args_c_iter (a : Value) : argsOk "itertools.combinations.__iter__" ⟨[a], []⟩ := by
  unfold argsOk; rw [signature?_of (id := "itertools.combinations.__iter__") (n := ['_', '_', 'r', 'e', 't', 'i', '_', '_']) (o := ['s','n','o','i','t','a','n','i','b','m','o','c','.','s','l','o','o','t','r','e','t','i']) (by kernel_rfl) owner_c]; kernel_rfl
theorem args_c_next (a : Value) : argsOk "itertools.combinations.__next__" ⟨[a], []⟩ := by
  unfold argsOk; rw [signature?_of (id := "itertools.combinations.__next__") (n := ['_', '_', 't', 'x', 'e', 'n', '_', '_']) (o := ['s','n','o','i','t','a','n','i','b','m','o','c','.','s','l','o','o','t','r','e','t','i']) (by kernel_rfl) owner_c]; kernel_rfl
theorem noDict_c : typeHasDict (.type "itertools.combinations") = false := by decide +kernel
theorem args_init_3 (obj a b : Value) : argsOk "object.__init__" ⟨[obj, a, b], []⟩ := F.args_object_init_3 obj a b
/-- the step of the indices, as the library's text has it -/
def nextC (n : Nat) (ix : List Nat) : Option (List Nat) :=
  let r := ix.length
  match (List.range r).reverse.find? fun i => ix.getD i 0 != i + n - r with
  | none => none
  | some i => some (ix.take i ++ (List.range (r - i)).map (ix.getD i 0 + 1 + ·))
theorem next_eq (args : Args) : Builtin.«itertools.combinations.__next__» args = (do
  let (self, _) ← slotArgs "__next__" 0 args
  let pool ← field self 0
  let indices ← Builtin.Itertools.itNumbersFrom self 3
  let handOut (indices : List Nat) : Sem Fin := do
    let result ← (do
      let items ← Builtin.Itertools.itPoolItems pool
      newTuple (indices.map fun i => items.getD i .none))
    let before ← field self 2
    setField self 2 result
    letGo [before] [result]
    ret result
  match ← Builtin.Itertools.itIntField self 1 with
  | 0 => setField self 1 (rawInt 1); handOut indices
  | 1 =>
    match nextC (← Builtin.Itertools.itPoolItems pool).size indices with
    | some next => Builtin.Itertools.itSetNumbersFrom self 3 next; handOut next
    | none => setField self 1 (rawInt 2); Builtin.Itertools.itStop
  | _ => rule "itertools.combinations.ended"; Builtin.Itertools.itStop) := rfl
end Cmb

set_option Elab.async false
set_option linter.all false
set_option maxRecDepth 100000
set_option maxHeartbeats 4000000
namespace Cmb
open PySem PySem.Spec
open Sem (wp)

def flds (pool : Addr) (st : Int) (last : Value) (ix : List Nat) : Array Value := ([.ref pool, rawInt st, last] ++ ix.map fun (i : Nat) => rawInt i).toArray
abbrev IsC (h : Heap) (it pool : Addr) (st : Int) (last : Value) (ix : List Nat) : Prop := h.get? it = some { cls := .type "itertools.combinations", dict := none, data := .fields (flds pool st last ix), slots := #[] }
abbrev IsP (h : Heap) (pool : Addr) (items : Array Value) : Prop := h.get? pool = some { cls := .type "tuple", data := .seq items }
def pickV (items : Array Value) (ix : List Nat) : List Value := ix.map fun i => items.getD i .none
section
variable {M : Model} {A : Around} {E : Value → Shared → Prop} {s : Shared} {it pool : Addr} {st : Int} {last : Value} {ix ix' : List Nat} {items : Array Value}
theorem fl0 : (flds pool st last ix)[0]? = some (.ref pool) := by simp [flds]
theorem fl1 : (flds pool st last ix)[1]? = some (rawInt st) := by simp [flds]
theorem fl2 : (flds pool st last ix)[2]? = some last := by simp [flds]
theorem fsz : 3 ≤ (flds pool st last ix).size := by simp [flds]
theorem numbers_ok {Q : List Nat → Shared → Prop} (h : IsC s.heap it pool st last ix) (q : Q ix s) : wpAny M A (Builtin.Itertools.itNumbersFrom (.ref it) 3) Q E s := by
  unfold Builtin.Itertools.itNumbersFrom
  refine wpAny_bind (wpAny_load h ?_)
  refine wpAny_pure ?_
  refine (congrArg (fun l => Q l s) (?_ : _ = ix)).mpr q
  simp only [flds, List.cons_append, List.nil_append, List.drop_succ_cons, List.drop_zero, List.map_map]
  conv => rhs; rw [← List.map_id ix]
  apply List.map_congr_left
  intro a _
  show Int.toNat (a : Int) = a
  simp
theorem pool_ok {Q : Array Value → Shared → Prop} (h : IsP s.heap pool items) (q : Q items s) : wpAny M A (Builtin.Itertools.itPoolItems (.ref pool)) Q E s := by
  unfold Builtin.Itertools.itPoolItems
  exact wpAny_bind (wpAny_seqItems h rfl (wpAny_pure q))
theorem intf_ok {Q : Int → Shared → Prop} (h : IsC s.heap it pool st last ix) (q : Q st s) : wpAny M A (Builtin.Itertools.itIntField (.ref it) 1) Q E s := by
  unfold Builtin.Itertools.itIntField
  exact wpAny_bind (wpAny_field h rfl fl1 (wpAny_pure q))
theorem setSt {h : Heap} (hc : IsC h it pool st last ix) (st' : Int) : IsC (h.update it (Obj.mapFields (·.setIfInBounds 1 (rawInt st')))) it pool st' last ix := by
  have e := Heap.get?_update_self (Obj.mapFields (·.setIfInBounds 1 (rawInt st'))) hc rfl
  refine e.trans ?_
  simp [Obj.mapFields, flds, List.setIfInBounds_toArray]
theorem setLast {h : Heap} (hc : IsC h it pool st last ix) (l' : Value) : IsC (h.update it (Obj.mapFields (·.setIfInBounds 2 l'))) it pool st l' ix := by
  have e := Heap.get?_update_self (Obj.mapFields (·.setIfInBounds 2 l')) hc rfl
  refine e.trans ?_
  simp [Obj.mapFields, flds, List.setIfInBounds_toArray]
theorem setIx {h : Heap} (hc : IsC h it pool st last ix) (ix' : List Nat) : IsC (h.update it (Obj.mapFields fun fs => fs.extract 0 3 ++ (ix'.map fun (n : Nat) => rawInt n).toArray)) it pool st last ix' := by
  have e := Heap.get?_update_self (Obj.mapFields fun fs => fs.extract 0 3 ++ (ix'.map fun (n : Nat) => rawInt n).toArray) hc rfl
  refine e.trans ?_
  simp [Obj.mapFields, flds]
/-- the tuple of the places ix is made and told -/
theorem hand_ok {Q : Value → Shared → Prop} (hc : IsC s.heap it pool st last ix) (hp : IsP s.heap pool items) (js : List Nat) (hj : js.length ≤ 1000)
    (q : ∀ h', IsC h' it pool st (.ref s.heap.objs.size) ix → h'.get? s.heap.objs.size = some { cls := .type "tuple", data := .seq (pickV items js).toArray } → h'.objs.size = s.heap.objs.size + 1 → (∀ b o, b ≠ it → s.heap.get? b = some o → h'.get? b = some o) → Q (.ref s.heap.objs.size) { s with heap := h' }) :
    wpAny M A (do
      let result ← (do
        let items ← Builtin.Itertools.itPoolItems (.ref pool)
        newTuple (js.map fun i => items.getD i .none))
      let before ← field (.ref it) 2
      setField (.ref it) 2 result
      letGo [before] [result]
      ret result) (fun fin s' => ∃ v, fin = .done (.ret v) ∧ Q v s') E s := by
  refine wpAny_bind (wpAny_bind (pool_ok hp (wpAny_newTuple ?_ (by rw [List.length_map]; exact Nat.le_trans hj (by decide)))))
  have hc1 : IsC (s.heap.push { cls := .type "tuple", data := .seq (pickV items js).toArray }) it pool st last ix := Heap.get?_push_of_some _ hc
  refine wpAny_bind (wpAny_field hc1 rfl fl2 ?_)
  refine wpAny_bind (wpAny_setField hc1 rfl fsz ?_)
  refine wpAny_bind (wpAny_letGo ?_)
  refine wpAny_pure ⟨_, rfl, ?_⟩
  have hlt : it < s.heap.objs.size := Heap.lt_size hc
  refine q _ (setLast hc1 _) ?_ ?_ fun b o hb e => ?_
  · rw [Heap.get?_update_other _ _ (Nat.ne_of_lt hlt)]
    exact Heap.get?_push_size _ rfl
  · rw [Heap.size_update, Heap.size_push]
  · rw [Heap.get?_update_other _ _ (Ne.symm hb)]
    exact Heap.get?_push_of_some _ e
end
section
variable {prog : Program} {w : World} {A : Around} {E : Value → Shared → Prop} {s : Shared} {it pool : Addr} {st : Int} {last : Value} {ix ix' : List Nat} {items : Array Value}
theorem next_first {Q : Option Value → Shared → Prop} (hc : IsC s.heap it pool 0 last ix) (hp : IsP s.heap pool items) (hpi : pool ≠ it) (hj : ix.length ≤ 1000)
    (q : ∀ h', IsC h' it pool 1 (.ref s.heap.objs.size) ix → h'.get? s.heap.objs.size = some { cls := .type "tuple", data := .seq (pickV items ix).toArray } → h'.objs.size = s.heap.objs.size + 1 → (∀ b o, b ≠ it → s.heap.get? b = some o → h'.get? b = some o) → Q (some (.ref s.heap.objs.size)) { s with heap := h' }) :
    wpAny (model prog w) A (pyNext (.ref it)) Q E s := by
  have hT : s.TypeIs (.ref it) "itertools.combinations" := ⟨_, hc, rfl⟩
  unfold pyNext
  refine wpAny_bind (wpAny_attempt (wpAny_callSpecial?_slot (name := Str.ofString "__next__") hT slot_c_next (wpAny_call_entry slot_c_next hT entry_c_next ?_ (args_c_next _))))
  rw [next_eq]
  show wpAny _ _ (field (.ref it) 0 >>= _) _ _ s
  refine wpAny_bind (wpAny_field hc rfl fl0 ?_)
  refine wpAny_bind (numbers_ok hc ?_)
  refine wpAny_bind (intf_ok hc ?_)
  show wpAny _ _ (setField (.ref it) 1 (rawInt 1) >>= _) _ _ s
  refine wpAny_bind (wpAny_setField hc rfl (Nat.lt_of_lt_of_le (by decide) fsz) ?_)
  have hsz : (s.heap.update it (Obj.mapFields (·.setIfInBounds 1 (rawInt 1)))).objs.size = s.heap.objs.size := Heap.size_update ..
  refine hand_ok (setSt hc 1) (items := items) ?_ ix hj fun h' a b c d => ?_
  · show (s.heap.update it _).get? pool = _
    rw [Heap.get?_update_other _ _ (Ne.symm hpi)]; exact hp
  · simp only [hsz] at a b c d ⊢
    exact wpAny_pure (q h' a b c fun b' o hb e => d b' o hb (by rw [Heap.get?_update_other _ _ (Ne.symm hb)]; exact e))
theorem next_more {Q : Option Value → Shared → Prop} (hc : IsC s.heap it pool 1 last ix) (hp : IsP s.heap pool items) (hpi : pool ≠ it) (hn : nextC items.size ix = some ix') (hj : ix'.length ≤ 1000)
    (q : ∀ h', IsC h' it pool 1 (.ref s.heap.objs.size) ix' → h'.get? s.heap.objs.size = some { cls := .type "tuple", data := .seq (pickV items ix').toArray } → h'.objs.size = s.heap.objs.size + 1 → (∀ b o, b ≠ it → s.heap.get? b = some o → h'.get? b = some o) → Q (some (.ref s.heap.objs.size)) { s with heap := h' }) :
    wpAny (model prog w) A (pyNext (.ref it)) Q E s := by
  have hT : s.TypeIs (.ref it) "itertools.combinations" := ⟨_, hc, rfl⟩
  unfold pyNext
  refine wpAny_bind (wpAny_attempt (wpAny_callSpecial?_slot (name := Str.ofString "__next__") hT slot_c_next (wpAny_call_entry slot_c_next hT entry_c_next ?_ (args_c_next _))))
  rw [next_eq]
  show wpAny _ _ (field (.ref it) 0 >>= _) _ _ s
  refine wpAny_bind (wpAny_field hc rfl fl0 ?_)
  refine wpAny_bind (numbers_ok hc ?_)
  refine wpAny_bind (intf_ok hc ?_)
  show wpAny _ _ (Builtin.Itertools.itPoolItems (.ref pool) >>= _) _ _ s
  refine wpAny_bind (pool_ok hp ?_)
  rw [hn]
  show wpAny _ _ (Builtin.Itertools.itSetNumbersFrom (.ref it) 3 ix' >>= _) _ _ s
  refine wpAny_bind ?_
  unfold Builtin.Itertools.itSetNumbersFrom
  refine wpAny_updateFields hc rfl ?_ ?_
  · have hsz : (s.heap.update it (Obj.mapFields fun fs => fs.extract 0 3 ++ (ix'.map fun (n : Nat) => rawInt n).toArray)).objs.size = s.heap.objs.size := Heap.size_update ..
    refine hand_ok (setIx hc ix') (items := items) ?_ ix' hj fun h' a b c d => ?_
    · show (s.heap.update it _).get? pool = _
      rw [Heap.get?_update_other _ _ (Ne.symm hpi)]; exact hp
    · simp only [hsz] at a b c d ⊢
      exact wpAny_pure (q h' a b c fun b' o hb e => d b' o hb (by rw [Heap.get?_update_other _ _ (Ne.symm hb)]; exact e))
  · simp [flds]
    exact Nat.le_trans hj (by decide)
theorem next_end {Q : Option Value → Shared → Prop} (hh : A.handled = none) (hc : IsC s.heap it pool 1 last ix) (hp : IsP s.heap pool items) (hn : nextC items.size ix = none)
    (q : ∀ h', Heap.ExtBut it s.heap h' → Q none { s with heap := h' }) : wpAny (model prog w) A (pyNext (.ref it)) Q E s := by
  have hT : s.TypeIs (.ref it) "itertools.combinations" := ⟨_, hc, rfl⟩
  unfold pyNext
  refine wpAny_bind (wpAny_attempt (wpAny_callSpecial?_slot (name := Str.ofString "__next__") hT slot_c_next (wpAny_call_entry slot_c_next hT entry_c_next ?_ (args_c_next _))))
  rw [next_eq]
  show wpAny _ _ (field (.ref it) 0 >>= _) _ _ s
  refine wpAny_bind (wpAny_field hc rfl fl0 ?_)
  refine wpAny_bind (numbers_ok hc ?_)
  refine wpAny_bind (intf_ok hc ?_)
  show wpAny _ _ (Builtin.Itertools.itPoolItems (.ref pool) >>= _) _ _ s
  refine wpAny_bind (pool_ok hp ?_)
  rw [hn]
  show wpAny _ _ (setField (.ref it) 1 (rawInt 2) >>= _) _ _ s
  refine wpAny_bind (wpAny_setField hc rfl (Nat.lt_of_lt_of_le (by decide) fsz) ?_)
  show wpAny _ _ (newExc (.type "StopIteration") [] >>= _) _ _ _
  refine wpAny_bind ?_
  simp only [newExc, newTuple]
  refine wpAny_bind (wpAny_newObj_type ?_ (by size_fits))
  refine wpAny_bind (m := firstArgMember _ _) (wpAny_of_eq (a := Value.none) (by first | rfl | (simp only [firstArgMember]; rfl)) ?_)
  refine wpAny_newObj_type ?_ (by size_fits)
  simp only [raiseNew]
  refine wpAny_bind (wpAny_handled ?_)
  first | rw [show A.in1.handled = none from hh] | rw [hh]
  refine wpAny_bind (wpAny_pure (wpAny_throw ?_))
  refine wpAny_bind (wpAny_isInstance (T := "StopIteration") (b := true) ⟨_, Heap.get?_push_size _ rfl, rfl⟩ isSubtype_stop ?_)
  exact wpAny_pure (q _ (((Heap.SameBut.update ..).extBut.push _).push _))
theorem iter_self {Q : Value → Shared → Prop} (hc : IsC s.heap it pool st last ix) (h : Q (.ref it) s) : wpAny (model prog w) A (pyIter (.ref it)) Q E s := by
  have hT : s.TypeIs (.ref it) "itertools.combinations" := ⟨_, hc, rfl⟩
  refine wpAny_pyIter_slot hT slot_c_iter (wpAny_call_entry slot_c_iter hT entry_c_iter ?_ (args_c_iter _))
  show wpAny _ _ (ret (.ref it)) _ _ s
  exact wpAny_pure ⟨_, rfl, "itertools.combinations", _, hT, slot_c_next.lookup, h⟩
end
end Cmb

set_option Elab.async false
set_option linter.all false
set_option maxRecDepth 100000
set_option maxHeartbeats 4000000
namespace Cmb
open PySem PySem.Spec
open Sem (wp)
abbrev newH (h : Heap) (acc : Array Value) (k : Nat) : Heap := (h.push { cls := .type "tuple", data := .seq acc }).push { cls := .type "itertools.combinations", data := .fields (flds h.objs.size 0 .none (List.range k)) }
section
variable {prog : Program} {w : World} {A : Around} {E : Value → Shared → Prop} {s : Shared} {r : Addr} {a b c : Int} {t u v tk : Tok} {n : Nat} {k : Int}
/-- combinations(range(..), k) is made -/
theorem code_new {Q₁ : Value → Shared → Prop} (hh : A.handled = none) (hr : IsRange s.heap r a b c t u v) (hsmall : Builtin.Range.small a b c = true) (hn : Builtin.Range.rangeSize a b c = n) (hlen : n ≤ 1000) (hk0 : 0 ≤ k) (hk : k ≤ n)
    (h : ∀ (h' : Heap) (tk : Nat) (acc : Array Value), (∀ b o, s.heap.get? b = some o → h'.get? b = some o) → ItemsOf (fun i v => ∃ t, v = .int (a + i * c) t) acc n → Q₁ (.ref (h'.objs.size + 1)) { s with heap := newH h' acc k.toNat, toks := tk }) :
    codeAny (model prog w) A (.call (.builtin "itertools.combinations.__new__") ⟨[.type "itertools.combinations", .ref r, .int k tk], []⟩) (wants Q₁ E) s := by
  refine codeAny_of_tree ?_
  show wpAny _ A.in1 (do checkBuiltinCall "itertools.combinations.__new__" ⟨[.type "itertools.combinations", .ref r, .int k tk], []⟩; again (.builtin "itertools.combinations.__new__" ⟨[.type "itertools.combinations", .ref r, .int k tk], []⟩)) _ _ s
  refine wpAny_bind (wpAny_of_eq (newCall_c _ _) (wpAny_pure ⟨plainId_quiet plain_c_new _, codeAny_builtin entry_c_new ?_⟩))
  rw [Around.under_plainId plain_c_new _]
  have hsub := sub_c
  have hsub2 : isSubtype (.type "itertools.combinations") (.type ("itertools." ++ "combinations")) = pure true := by rw [show ("itertools." ++ "combinations") = "itertools.combinations" from by decide]; exact sub_c
  have hd := noDict_c
  have hTI : s.TypeIs (.ref r) "range" := ⟨_, hr, rfl⟩
  have hh1 : A.in1.handled = none := hh
  have e1 : (decide (k < -(2 ^ 63 : Int)) || decide (k ≥ 2 ^ 63)) = false := by
    rw [decide_eq_false (by omega), decide_eq_false (by omega)]; rfl
  have e3 : Builtin.Itertools.itTooMany k = false := by
    unfold Builtin.Itertools.itTooMany
    exact decide_eq_false (by omega)
  wp_walk using wpAny_typeOf hTI
  rw [if_neg (by rw [e1]; exact Bool.false_ne_true)]
  refine wpAny_pure ?_
  show wpAny _ _ (collect (.ref r) >>= _) _ _ _
  refine wpAny_bind (L2.collect_range (A := A.in1) hh1 hr hsmall hn (Nat.le_trans hlen (by decide)) fun h' tk' acc hk' hacc => ?_)
  have e4 : ¬ k < 0 := by omega
  have e5 : ¬ (Builtin.Itertools.itTooMany k = true) := by rw [e3]; exact Bool.false_ne_true
  rw [if_neg e4, if_neg e5]
  have hsz : acc.toList.length = n := by rw [Array.length_toList]; exact hacc.1
  refine wpAny_bind (wpAny_newTuple ?_ (by rw [hsz]; exact Nat.le_trans hlen (by decide)))
  refine wpAny_pure ?_
  show wpAny _ _ (Builtin.Itertools.itNewRecord (.type "itertools.combinations") _ >>= fun v => ret v) _ _ _
  refine wpAny_bind ?_
  unfold Builtin.Itertools.itNewRecord
  rw [hd]
  have e6 : ¬ (k.toNat > acc.toList.length) := by rw [hsz]; omega
  rw [if_neg e6]
  rw [if_pos (show (!false) = true from rfl)]
  refine wpAny_newObj_type ?_ ?_
  · refine wpAny_pure ?_
    have hq := h h' tk' acc hk' hacc
    have e7 : acc.toList.toArray = acc := by simp
    have e8 : (h'.push { cls := .type "tuple", data := .seq acc }).objs.size = h'.objs.size + 1 := Heap.size_push ..
    simp only [e7, e8]
    exact hq
  · show _ ≤ _
    simp
    exact Nat.le_trans (show k.toNat + 1 ≤ 1001 by omega) (by decide)
end
end Cmb

set_option Elab.async false
set_option linter.all false
set_option maxRecDepth 100000
set_option maxHeartbeats 4000000
namespace Cmb
open PySem PySem.Spec PyProof.Rows
theorem call_comb {prog : Program} {w : World} {A : Around} {E : Value → Shared → Prop} {s : Shared} {r : Addr} {a b c : Int} {t u v tk : Tok} {n : Nat} {k : Int} {Q : Value → Shared → Prop} (hh : A.handled = none) (hr : IsRange s.heap r a b c t u v)
    (hsmall : Builtin.Range.small a b c = true) (hn : Builtin.Range.rangeSize a b c = n) (hlen : n ≤ 1000) (hk0 : 0 ≤ k) (hk : k ≤ n)
    (h : ∀ (h' : Heap) (tk : Nat) (acc : Array Value), (∀ b o, s.heap.get? b = some o → h'.get? b = some o) → ItemsOf (fun i v => ∃ t, v = .int (a + i * c) t) acc n → Q (.ref (h'.objs.size + 1)) { s with heap := newH h' acc k.toNat, toks := tk }) :
    wpAny (model prog w) A (call (.type "itertools.combinations") [.ref r, .int k tk]) Q E s := by
  refine callType_codes (Q₁ := fun obj s₁ => s₁.TypeIs obj "itertools.combinations" ∧ Q obj s₁) called_c (typeCall_c _ _) F.entry_object_init
    (code_new (A := A.in1) hh hr hsmall hn hlen hk0 hk fun h' tk acc hk' hacc => ⟨?_, h h' tk acc hk' hacc⟩) fun obj s₁ h₁ => ?_
  · refine ⟨{ cls := .type "itertools.combinations", data := .fields (flds h'.objs.size 0 .none (List.range k.toNat)) }, ?_, rfl⟩
    have e : (h'.push { cls := .type "tuple", data := .seq acc }).objs.size = h'.objs.size + 1 := Heap.size_push ..
    show (newH h' acc k.toNat).get? (h'.objs.size + 1) = some _
    rw [← e]
    exact Heap.get?_push_size _ rfl
  · exact ⟨h₁.1, F.args_object_init_3 obj _ _, object_init_meets called_c.init.lookup called_c.made (by decide) prog w A.in1 _ s₁ ⟨h₁.1, rfl, h₁.2⟩⟩
def okC (n k : Nat) (L : List (List Nat)) : Bool := decide (L[0]? = some (List.range k)) && (List.range L.length).all (fun i => decide (nextC n (L.getD i []) = L[i + 1]?)) && L.all (fun c => c.all (fun j => decide (j < n)) && decide (c.length ≤ 1000))
theorem okC_of {n k : Nat} {L : List (List Nat)} (h : okC n k L = true) : L[0]? = some (List.range k) ∧ (∀ i, i < L.length → nextC n (L.getD i []) = L[i + 1]?) ∧ ∀ c ∈ L, (∀ j ∈ c, j < n) ∧ c.length ≤ 1000 := by
  unfold okC at h
  simp only [Bool.and_eq_true, decide_eq_true_eq, List.all_eq_true, List.mem_range] at h
  exact ⟨h.1.1, h.1.2, h.2⟩
open L2
def Itc (lo : Int) (L : List (List Nat)) : It := ⟨fun i _ => i < L.length, fun i H x H' => ∃ T c, L[i]? = some c ∧ x = .ref T ∧ H T = none ∧ H' = upd H T (.tup (c.map fun (k : Nat) => V.int (lo + k))), fun i _ => L.length ≤ i⟩
theorem vals_pick {lo : Int} {n : Nat} {acc : Array Value} (hacc : ItemsOf (fun i v => ∃ t, v = Value.int (lo + i * 1) t) acc n) : ∀ {c : List Nat}, (∀ j ∈ c, j < n) → Vals (c.map fun (k : Nat) => V.int (lo + k)) (pickV acc c)
  | [], _ => .nil
  | j :: c, h => by
    refine .cons ?_ (vals_pick hacc fun i hi => h i (List.mem_cons_of_mem _ hi))
    have hj : j < n := h j List.mem_cons_self
    obtain ⟨hsz, hit⟩ := hacc
    have hjs : j < acc.size := by rw [hsz]; exact hj
    obtain ⟨t, e⟩ := hit j acc[j] (Array.getElem?_eq_getElem hjs)
    refine ⟨t, ?_⟩
    show acc.getD j .none = _
    rw [Array.getD_eq_getD_getElem?, Array.getElem?_eq_getElem hjs]
    show acc[j] = _
    rw [e, Int.mul_one]
theorem turn_comb {P : Program} {w : World} {K : PySem.W.Frag} {tg : Expr} (it pool : Addr) (lo : Int) (n k : Nat) (L : List (List Nat)) (hL : okC n k L = true) :
    Turn P w K tg (Itc lo L) [it, pool] it (fun i h => pool ≠ it ∧ i ≤ L.length ∧ (∃ acc, IsP h pool acc ∧ ItemsOf (fun i v => ∃ t, v = Value.int (lo + i * 1) t) acc n) ∧ ∃ last, IsC h it pool (if i = 0 then 0 else 1) last (L.getD (i - 1) [])) where
  mem := by simp
  obj := fun i h st b hb => by
    obtain ⟨_, _, ⟨acc, hp, _⟩, last, hc⟩ := st
    have e' : b = it ∨ b = pool := by simpa using hb
    rcases e' with z | z
    · rw [z]; exact ⟨_, hc, fun v q => nomatch q⟩
    · rw [z]; exact ⟨_, hp, fun v q => nomatch q⟩
  keep := fun i h h' st kk => let ⟨a, b, ⟨acc, hp, hi⟩, last, hc⟩ := st; ⟨a, b, ⟨acc, kk pool (by simp) _ hp, hi⟩, last, kk it (by simp) _ hc⟩
  item := by
    intro X hP hw hK hc i pins s σ H E I hf st hg
    subst hP hw hK
    obtain ⟨l0, ln, lb⟩ := okC_of hL
    obtain ⟨hne, hle, ⟨acc, hp, hacc⟩, last, hcc⟩ := st
    have hi : i < L.length := hg
    have hgi : L[i]? = some L[i] := List.getElem?_eq_getElem hi
    obtain ⟨c1, c2⟩ := lb L[i] (List.getElem_mem hi)
    have hsz : acc.size = n := hacc.1
    have go : ∀ h', IsC h' it pool 1 (.ref s.heap.objs.size) L[i] → h'.get? s.heap.objs.size = some { cls := .type "tuple", data := .seq (pickV acc L[i]).toArray } → h'.objs.size = s.heap.objs.size + 1 → (∀ b o, b ≠ it → s.heap.get? b = some o → h'.get? b = some o) →
        ∃ u, (some (Value.ref s.heap.objs.size) : Option Value) = some u ∧ wpAny (model X.prog X.w) X.A (letOwnedTupleGo tg (.ref it) u) (fun _ s2 => ∃ x H', Inv X pins σ H' s2 ∧ RelV x u ∧ (Itc lo L).yld i H x H' ∧
          (fun i h => pool ≠ it ∧ i ≤ L.length ∧ (∃ acc, IsP h pool acc ∧ ItemsOf (fun i v => ∃ t, v = Value.int (lo + i * 1) t) acc n) ∧ ∃ last, IsC h it pool (if i = 0 then 0 else 1) last (L.getD (i - 1) [])) (i + 1) s2.heap ∧ ∀ b ∈ [it, pool], H' b = none) E { s with heap := h' } := fun h' a b c d => by
      have new : ObjOk X.prog X.w (upd H s.heap.objs.size (.tup (L[i].map fun (k : Nat) => V.int (lo + k)))) h' s.heap.objs.size (.tup (L[i].map fun (k : Nat) => V.int (lo + k))) :=
        ⟨by rw [List.length_map]; exact Nat.le_trans c2 (by decide), pickV acc L[i], vals_pick hacc c1, ⟨_, b, rfl, _, rfl⟩⟩
      have I1 : Inv X pins σ (upd H s.heap.objs.size (.tup (L[i].map fun (k : Nat) => V.int (lo + k)))) { s with heap := h', toks := s.toks } :=
        I.turnedNew (ch := [it]) (fun b ob hb q => d b ob (fun z => hb (by simp [z])) q) (fun b hb => hf b (by simp at hb; simp [hb])) (Nat.le_refl _) new
      refine ⟨_, rfl, go_of (s := { s with heap := h' }) a rfl rfl (by decide) ⟨.ref s.heap.objs.size, _, I1, rfl, ⟨_, _, hgi, rfl, I.hok.fresh (Nat.le_refl _), rfl⟩, ⟨hne, hi, ⟨acc, d pool _ hne hp, hacc⟩, .ref s.heap.objs.size, ?_⟩, fun b' hb' => ?_⟩⟩
      · show IsC h' it pool (if i + 1 = 0 then 0 else 1) _ (L.getD (i + 1 - 1) [])
        rw [if_neg (Nat.succ_ne_zero i), Nat.add_sub_cancel, List.getD_eq_getElem?_getD, hgi]
        exact a
      · have hlt : b' < s.heap.objs.size := by
          have e' : b' = it ∨ b' = pool := by simpa using hb'
          rcases e' with z | z
          · rw [z]; exact Heap.lt_size hcc
          · rw [z]; exact Heap.lt_size hp
        rw [upd_ne (Nat.ne_of_lt hlt)]
        exact (hf b' hb').1
    cases i with
    | zero =>
      have e0 : L.getD (0 - 1) [] = L[0] := by rw [List.getD_eq_getElem?_getD, hgi]; rfl
      rw [if_pos rfl, e0] at hcc
      exact next_first hcc hp hne c2 go
    | succ i =>
      have hi' : i < L.length := Nat.lt_of_succ_lt hi
      rw [if_neg (Nat.succ_ne_zero i), Nat.add_sub_cancel] at hcc
      exact next_more hcc hp hne (by rw [hsz, ln i hi']; exact hgi) c2 go
  done := by
    intro X hP hw hK hc i pins s σ H E I hf st hg
    subst hP hw hK
    obtain ⟨l0, ln, lb⟩ := okC_of hL
    obtain ⟨hne, hle, ⟨acc, hp, hacc⟩, last, hcc⟩ := st
    have hi : L.length ≤ i := hg
    have ei : i = L.length := Nat.le_antisymm hle hi
    obtain ⟨f0, f1, f2, f3, f4, f5⟩ := hf it (by simp)
    have hpos : 0 < L.length := by
      cases q : L with
      | nil => rw [q] at l0; simp at l0
      | cons x r => simp
    have hi0 : i ≠ 0 := by omega
    rw [if_neg hi0] at hcc
    refine next_end (I.ok.hd hc) hcc hp ?_ fun h' eb => ⟨rfl, I.turned (t' := s.toks) (fun b o hb e => eb b o hb e) f0 f1 f3 f4 f5⟩
    rw [show acc.size = n from hacc.1, ln (i - 1) (by omega)]
    exact List.getElem?_eq_none (by omega)
  self := fun A i s Q E st h => let ⟨_, _, _, last, hc⟩ := st; iter_self hc h
theorem cr_range1 {X : Cx} : CallR X (.type "range") (fun vs H Q => ∃ j, vs = [V.int j] ∧ ∀ p, H p = none → Q (.ref p) (upd H p (.rng 0 j))) := by
  intro pins s σ H vs us Q I r h
  obtain ⟨j, rfl, q⟩ := h
  cases r with
  | cons r rr =>
    cases rr
    obtain ⟨t, rfl⟩ := r
    refine call_range_1 ⟨.ref s.heap.objs.size, upd H s.heap.objs.size (.rng 0 j), I.laid (fun b o e => Heap.get?_push_of_some _ e) (Nat.le_refl _) ?_, rfl, q _ (I.hok.fresh (Nat.le_refl _))⟩
    exact ⟨_, _, _, Heap.get?_push_size _ rfl⟩
def iComb (ta : TA) : TI := fun σ H R => ta σ H fun vs H1 => ∃ (a : Addr) (lo hi k : Int) (L : List (List Nat)), vs = [.ref a, .int k] ∧ H1 a = some (.rng lo hi) ∧ (-(2 ^ 62) ≤ lo ∧ lo < 2 ^ 62 ∧ -(2 ^ 62) ≤ hi ∧ hi < 2 ^ 62) ∧ (hi - lo).toNat ≤ 1000 ∧ 0 ≤ k ∧ k.toNat ≤ (hi - lo).toNat ∧ okC (hi - lo).toNat k.toNat L = true ∧ R (Itc lo L) H1
theorem pi_comb {X : Cx} {tg a b : Expr} {ta : TA} {x : Str} {p pos : Pos} (hg : Gl X x) (hm : X.mg x = some (.type "itertools.combinations")) (hc : X.calm = true) (ha : PA X [a, b] ta) (hd : (x == ("__debug__" : Str)) = false := by decide)
    (hs : starEach [a, b] X.env = (false, eval a X.env) :: starEach [b] X.env := by rfl) (hpl : (backTo pos (starEach [b] X.env)).any (·.1) = false := by rfl) : PI X tg (.Call (.Name x p) [a, b] [] pos) (iComb ta) := by
  refine ⟨fun pins s σ H R I h => ?_⟩
  refine Call_ (ld_glob I hg hm (PyProof.Rows.callWith_type1 (thn (ha.run pos pins s σ H _ I h) fun us s1 ⟨vs, H1, I1, r1, q1⟩ => ?_) hs hpl) hd)
  obtain ⟨ra, lo, hi, k, L, e, hr, ⟨b1, b2, b3, b4⟩, hlen, hk0, hk, hL, q⟩ := q1
  subst e
  cases r1 with
  | cons r rr =>
    cases rr with
    | cons r' rr =>
      cases rr
      cases r
      obtain ⟨tk, rfl⟩ := r'
      obtain ⟨t, u, v, hrg⟩ := I1.hok ra _ hr
      have hsz : Builtin.Range.rangeSize lo hi 1 = (((hi - lo).toNat : Nat) : Int) := by rw [rangeSize_one]; split <;> omega
      refine call_comb (I1.ok.hd hc) (show IsRange s1.heap ra lo hi 1 t u v from hrg) (small_one b1 b2 b3 b4) hsz hlen hk0 (by omega) fun h' tk' acc hk' hacc => ?_
      have I2 : Inv X pins σ H1 { s1 with heap := h', toks := tk' } := I1.kept hk'
      have ez : (h'.push { cls := .type "tuple", data := .seq acc }).objs.size = h'.objs.size + 1 := Heap.size_push ..
      have hc2 : IsC (newH h' acc k.toNat) (h'.objs.size + 1) h'.objs.size 0 .none (List.range k.toNat) := by
        show (newH h' acc k.toNat).get? (h'.objs.size + 1) = _
        rw [← ez]
        exact Heap.get?_push_size _ rfl
      have hp2 : IsP (newH h' acc k.toNat) h'.objs.size acc := Heap.get?_push_of_some _ (Heap.get?_push_size _ rfl)
      have I3 : Inv X pins σ H1 { s1 with heap := newH h' acc k.toNat, toks := tk' } := I2.kept fun b o e => Heap.get?_push_of_some _ (Heap.get?_push_of_some _ e)
      refine iter_self hc2 ?_
      refine ⟨h'.objs.size + 1, [h'.objs.size + 1, h'.objs.size], _, _, H1, rfl, I3, turn_comb (h'.objs.size + 1) h'.objs.size lo _ k.toNat L hL, ⟨Nat.ne_of_lt (Nat.lt_succ_self _), Nat.zero_le _, ⟨acc, hp2, hacc⟩, .none, ?_⟩, fun b hb => ?_, q⟩
      · have l0 := (okC_of hL).1
        have e0 : L.getD (0 - 1) [] = List.range k.toNat := by rw [List.getD_eq_getElem?_getD, l0]; rfl
        rw [e0]
        exact hc2
      · have hle : h'.objs.size ≤ b := by
          have e' : b = h'.objs.size + 1 ∨ b = h'.objs.size := by simpa using hb
          rcases e' with z | z
          · rw [z]; exact Nat.le_succ _
          · rw [z]; exact Nat.le_refl _
        exact I2.fpOk (s := { s1 with heap := h', toks := tk' }) hle (I2.hok.fresh hle)
end Cmb

set_option maxRecDepth 100000
namespace TyNe
open PySem PySem.TypeEq
open Sem (wp)
theorem slot_type_ne : Slot "type" (cmpInfo .NotEq).2.1 "object.__ne__" :=
  .of (owner := "object") (n := "__ne__") (by rw [typeLookup_type, builtinLookup_eq_fast]; kernel_rfl) (by decide +kernel) (by decide +kernel) (by decide +kernel)
    (by first | exact .inl (by decide +kernel) | exact .inr (by decide +kernel)) (by rw [isSubtype_type]; kernel_rfl)
theorem slot_type_ne_refl : Slot "type" (cmpInfo .NotEq).2.2 "object.__ne__" :=
  .of (owner := "object") (n := "__ne__") (by rw [typeLookup_type, builtinLookup_eq_fast]; kernel_rfl) (by decide +kernel) (by decide +kernel) (by decide +kernel)
    (by first | exact .inl (by decide +kernel) | exact .inr (by decide +kernel)) (by rw [isSubtype_type]; kernel_rfl)
section
variable {M : Model} {A : Around} {E : Value → Shared → Prop} {s : Shared}
theorem ne_decline {a b : Value} {T id : String} {k : Bool} {Q : Value → Shared → Prop} (ha : ∀ s' : Shared, s'.TypeIs a T) (hb : ∀ s' : Shared, s'.TypeIs b T)
    (h1 : Slot T (cmpInfo .NotEq).2.1 id) (h2 : Slot T (cmpInfo .NotEq).2.2 id) (hv : [a, b].any Value.onHeap = false) (hk : isSame a b = pure k)
    (hc : wpAny M A (call (.builtin id) [a, b]) (fun v s₁ => v = .notImplemented ∧ wpAny M A (call (.builtin id) [b, a]) (fun v s₂ => v = .notImplemented ∧ Q (.bool (!k)) s₂) E s₁) E s) :
    wpAny M A (richCompare .NotEq a b) Q E s := by
  rcases hi : cmpInfo CmpOp.NotEq with ⟨sym, f, r⟩
  rw [hi] at h1 h2
  simp only [richCompare, hi, (ha s).oneThing_none]
  try with_reducible refine wpAny_holding ?_
  refine wpAny_bind (wpAny_cRoomFor_or (.inl hv) ?_)
  refine wpAny_bind (wpAny_typeOf (ha s) (wpAny_bind (wpAny_typeOf (hb s) ?_)))
  simp only [bne_self_eq_false, Bool.false_eq_true, if_false, pure_bind, Bool.not_false, if_true]
  refine wpAny_bind (m := tryCompare a _ b) (wpAny_tryCompare_declines (ha s) h1 (wpAny_mono hc (fun v s₁ h₁ => ⟨h₁.1, ?_⟩) fun _ _ x => x))
  refine wpAny_bind (m := tryCompare b _ a) (wpAny_tryCompare_declines (hb s₁) h2 (wpAny_mono h₁.2 (fun v s₂ h₂ => ⟨h₂.1, ?_⟩) fun _ _ x => x))
  refine wpAny_bind (wpAny_rule (wpAny_bind (wpAny_of_eq hk (wpAny_pure h₂.2))))
end
section
variable {prog : Program} {w : World} {A : Around} {E : Value → Shared → Prop} {s : Shared} {Q : Value → Shared → Prop}
theorem ent_same {X : String} {Q : Fin → Shared → Prop} (hX : ∀ s' : Shared, s'.TypeIs (.type X) "type") (h : Q (.done (.ret (.bool false))) s) : wpAny (model prog w) A (Builtin.«object.__ne__» ⟨[.type X, .type X], []⟩) Q E s := by
  unfold Builtin.«object.__ne__»
  show wpAny _ _ (cRoomFor "comparison" _ >>= _) _ _ _
  refine wpAny_bind (wpAny_cRoomFor_or (.inl rfl) ?_)
  refine wpAny_bind (m := callSpecialIfBound? _ _ _) (wpAny_callSpecialIfBound?_slot (hX s) slot_type_eq (call_gives slot_type_eq (hX s) F.entry_object_eq (F.args_object_eq_2 _ _) (object_eq_same rfl (by simp)) ?_))
  show wpAny _ _ (truthy (.bool true) >>= _) _ _ _
  exact wpAny_bind (wpAny_truthy_bool (wpAny_pure h))
theorem ent_other {X Y : String} {Q : Fin → Shared → Prop} (hX : ∀ s' : Shared, s'.TypeIs (.type X) "type") (hne : (Value.type X == Value.type Y) = false) (h : Q (.done (.ret .notImplemented)) s) : wpAny (model prog w) A (Builtin.«object.__ne__» ⟨[.type X, .type Y], []⟩) Q E s := by
  unfold Builtin.«object.__ne__»
  show wpAny _ _ (cRoomFor "comparison" _ >>= _) _ _ _
  refine wpAny_bind (wpAny_cRoomFor_or (.inl rfl) ?_)
  refine wpAny_bind (m := callSpecialIfBound? _ _ _) (wpAny_callSpecialIfBound?_slot (hX s) slot_type_eq (call_gives slot_type_eq (hX s) F.entry_object_eq (F.args_object_eq_2 _ _) (object_eq_other rfl hne) ?_))
  exact wpAny_pure h
theorem ne_type_same {X : String} (hX : ∀ s' : Shared, s'.TypeIs (.type X) "type") (h : Q (.bool false) s) : wpAny (model prog w) A (compareOp .NotEq (.type X) (.type X)) Q E s := by
  show wpAny _ A (richCompare .NotEq _ _) Q E s
  exact wpAny_richCompare_same (T := "type") (hX s) (hX s) slot_type_ne
    (wpAny_call_entry slot_type_ne (hX s) F.cmpEntry_ne (ent_same hX ⟨_, rfl, (by intro e; cases e), h⟩) (F.cmpArgs_ne _ _))
theorem ne_type_other {X Y : String} (hX : ∀ s' : Shared, s'.TypeIs (.type X) "type") (hY : ∀ s' : Shared, s'.TypeIs (.type Y) "type") (hne : (Value.type X == Value.type Y) = false) (h : Q (.bool true) s) : wpAny (model prog w) A (compareOp .NotEq (.type X) (.type Y)) Q E s := by
  have hne' : (Value.type Y == Value.type X) = false := by
    rw [Bool.eq_false_iff] at hne ⊢
    intro e
    exact hne (by rw [beq_iff_eq] at e ⊢; exact e.symm)
  show wpAny _ A (richCompare .NotEq _ _) Q E s
  exact ne_decline (T := "type") (k := false) hX hY slot_type_ne slot_type_ne_refl rfl (by rw [isSame_plain rfl, hne])
    (wpAny_call_entry slot_type_ne (hX s) F.cmpEntry_ne (ent_other hX hne ⟨_, rfl, rfl, wpAny_call_entry slot_type_ne_refl (hY s) F.cmpEntry_ne (ent_other hY hne' ⟨_, rfl, rfl, h⟩) (F.cmpArgs_ne _ _)⟩) (F.cmpArgs_ne _ _))
end
end TyNe

set_option Elab.async false
set_option linter.all false
set_option maxRecDepth 100000
set_option maxHeartbeats 1000000
namespace FX
open PySem PySem.Spec L2

def tyD : D → String
  | .none => "NoneType"
  | .bool _ => "bool"
  | .int _ => "int"
  | .str _ => "str"
  | .list _ => "list"
  | .tuple _ => "tuple"
  | .dict _ => "dict"
theorem nbf : ∀ d : D, (Value.type (tyD d) == Value.type "builtin_function_or_method") = false
  | .none => by show (Value.type "NoneType" == _) = false; decide +kernel
  | .bool _ => by show (Value.type "bool" == _) = false; decide +kernel
  | .int _ => by show (Value.type "int" == _) = false; decide +kernel
  | .str _ => by show (Value.type "str" == _) = false; decide +kernel
  | .list _ => by show (Value.type "list" == _) = false; decide +kernel
  | .tuple _ => by show (Value.type "tuple" == _) = false; decide +kernel
  | .dict _ => by show (Value.type "dict" == _) = false; decide +kernel
section
variable {X : Cx} {pins : List (Addr × Obj)} {σ : L2.St} {H F : Hp} {s : Shared}
theorem sh_type (I : Inv X pins σ H s) (sF : Same F H) {x : V} {u : Value} : ∀ {d : D}, Sh X.K F H x d → RelV x u → s.TypeIs u (tyD d) ∧ (Value.type (tyD d) == Value.type "builtin_function_or_method") = false
  | .none, h, r => by
    cases sh_non h; cases r
    exact ⟨by first | exact rfl | exact typeIs_none s | (show Shared.TypeIs _ _ _; trivial), nbf _⟩
  | .bool b, h, r => by
    cases sh_bool h; cases r
    exact ⟨by first | exact rfl | exact typeIs_bool s b | (show Shared.TypeIs _ _ _; trivial), nbf _⟩
  | .int i, h, r => by
    cases sh_int h
    obtain ⟨t, rfl⟩ := r
    exact ⟨typeIs_int s i t, nbf _⟩
  | .str i, h, r => by
    cases sh_str h
    obtain ⟨t, rfl⟩ := r
    exact ⟨typeIs_str s i t, nbf _⟩
  | .list ds, h, r => by
    obtain ⟨p, xs, rfl, e, _⟩ := h
    cases r
    obtain ⟨its, rv, pl, _⟩ := I.list (.of e)
    exact ⟨pl.isList.typeIs, nbf _⟩
  | .tuple ds, h, r => by
    obtain ⟨p, xs, rfl, e, _⟩ := h
    cases r
    obtain ⟨its, rv, pl, _⟩ := I.tuple (.of (sF _ _ e))
    exact ⟨pl.typeIs, nbf _⟩
  | .dict ds, h, r => by
    cases (show Rp X.K F x (.dict ds) from h) with
    | dic e =>
      cases r
      obtain ⟨_, _, vs, _, hd⟩ := I.hok _ _ (sF _ _ e)
      exact ⟨hd.typeIs, nbf _⟩
def rTyX (K : PySem.W.Frag) : List V → Hp → VK → Prop := fun xs H Q => ∃ F x d, Same F H ∧ xs = [x] ∧ Sh K F H x d ∧ Q (.ty (tyD d)) H
theorem call_tyX : CallR X (.type "type") (rTyX X.K) := by
  intro pins s σ H xs us Q I r h
  obtain ⟨F, x, d, sF, rfl, hx, q⟩ := h
  obtain ⟨u, rfl, rx⟩ := vals1 r
  obtain ⟨h1, h2⟩ := sh_type I sF hx rx
  exact call_type_of h1 h2 ⟨.ty _, H, I, rfl, q⟩
def tyNames : List String := ["NoneType", "bool", "int", "str", "list", "tuple", "dict"]
theorem ty_type {T : String} (h : T ∈ tyNames) (s : Shared) : s.TypeIs (.type T) "type" := by
  simp only [tyNames, List.mem_cons, List.not_mem_nil, or_false] at h
  rcases h with rfl | rfl | rfl | rfl | rfl | rfl | rfl <;> exact rfl
theorem tyD_mem (d : D) : tyD d ∈ tyNames := by cases d <;> simp [tyD, tyNames]
def rTyEq : R2 := fun x y H Q => ∃ a b, x = .ty a ∧ y = .ty b ∧ a ∈ tyNames ∧ b ∈ tyNames ∧ Q (.bl (decide (a = b))) H
theorem op_tyEq : OpR X (compareOp .Eq) rTyEq := by
  intro pins s σ H x y v u Q I rx ry h
  obtain ⟨a, b, rfl, rfl, ha, hb, q⟩ := h
  cases rx
  cases ry
  by_cases e : a = b
  · subst e
    rw [decide_eq_true rfl] at q
    exact PySem.TypeEq.eq_type_same (fun s' => ty_type ha s') ⟨.bl true, H, I, rfl, q⟩
  · rw [decide_eq_false e] at q
    exact PySem.TypeEq.eq_type_other (fun s' => ty_type ha s') (fun s' => ty_type hb s') (beq_eq_false_iff_ne.mpr fun z => e (Value.type.inj z)) ⟨.bl false, H, I, rfl, q⟩
def rTyNe : R2 := fun x y H Q => ∃ a b, x = .ty a ∧ y = .ty b ∧ a ∈ tyNames ∧ b ∈ tyNames ∧ Q (.bl (!decide (a = b))) H
end
def gTyEq {Y : Sys} (T : String) (g : GE Y) : GE Y := bd g fun r Γ s => match rdv Γ r with
  | some d => some (.ok (.v (.bool (decide (tyD d = T)))), Γ, s)
  | none => none
section
variable {Y : Sys} {X : Cx} {W : WX} {e : Expr} {pos p p2 p3 : Pos} {te : TE} {ge : GE Y} {T : String} {Ts : Str}
theorem eok_tyEq {K : PySem.W.Frag} (hT : T ∈ tyNames) (he : EOk Y K W te ge) : EOk Y K W (tOp rTyEq (tCB (rTyX K) (tCons te tNil)) (tC (.ty T))) (gTyEq T ge) := by
  intro B w σ Γ s out Q Wh N e p
  refine he.go (Q := fun x H1 => rTyX K [x] H1 fun x H1 => rTyEq x (.ty T) H1 Q) Wh N e p fun r Γ1 s1 x w1 W1 N1 l1 R1 e1 p1 => ?_
  split at e1
  · rename_i d ed
    cases e1
    exact ⟨w1.F, x, d, W1.sF, rfl, sh_of W1 N1 R1 ed, _, _, rfl, rfl, tyD_mem d, hT, p1 w1 W1 N1 (.refl _) _ (.bl _)⟩
  · cases e1
theorem pe_tyEq (hg : Gl X "type") (hm : X.mg "type" = none) (hgT : Gl X Ts) (hmT : X.mg Ts = none) (hv : bootBuiltins Ts = some (.type T)) (he : PE X e te) (hn : Ts ≠ "__name__" := by decide) (hd : (Ts == ("__debug__" : Str)) = false := by decide)
    (hse : starEach (e :: []) X.env = (false, eval e X.env) :: starEach [] X.env := by rfl) (hpl : (backTo p2 (starEach [] X.env)).any (·.1) = false := by rfl) :
    PE X (.Compare (.Call (.Name "type" p) [e] [] p2) [.Eq] [.Name Ts p3] pos) (tOp rTyEq (tCB (rTyX X.K) (tCons te tNil)) (tC (.ty T))) :=
  pe_cmpR op_tyEq (pe_callTy call_tyX hg hm (by decide +kernel) (pa_cons he pa_nil hse) (by decide) (by decide) hse hpl) (pe_bltn hgT hmT hv rfl hn hd) (nomark _)
theorem me_tyEq (hT : T ∈ tyNames) (hg : Gl X "type") (hm : X.mg "type" = none) (hgT : Gl X Ts) (hmT : X.mg Ts = none) (hv : bootBuiltins Ts = some (.type T)) (he : ME Y X W e te ge) (hn : Ts ≠ "__name__" := by decide) (hd : (Ts == ("__debug__" : Str)) = false := by decide)
    (hse : starEach (e :: []) X.env = (false, eval e X.env) :: starEach [] X.env := by rfl) (hpl : (backTo p2 (starEach [] X.env)).any (·.1) = false := by rfl) :
    ME Y X W (.Compare (.Call (.Name "type" p) [e] [] p2) [.Eq] [.Name Ts p3] pos) (tOp rTyEq (tCB (rTyX X.K) (tCons te tNil)) (tC (.ty T))) (gTyEq T ge) :=
  ⟨pe_tyEq hg hm hgT hmT hv he.pe hn hd hse hpl, eok_tyEq hT he.ok⟩
theorem mt_cmpE {op : CmpOp} {a b : Expr} (h : PE X (.Compare a [op] [b] pos) te) (ht : PT X (.Compare a [op] [b] pos) (tTest te)) (he : EOk Y X.K W te ge) : MT Y X W (.Compare a [op] [b] pos) (tTest te) (gTst ge) := ⟨ht, tok_tst he⟩
theorem mt_tyEq (hT : T ∈ tyNames) (hg : Gl X "type") (hm : X.mg "type" = none) (hgT : Gl X Ts) (hmT : X.mg Ts = none) (hv : bootBuiltins Ts = some (.type T)) (he : ME Y X W e te ge) (hn : Ts ≠ "__name__" := by decide) (hd : (Ts == ("__debug__" : Str)) = false := by decide)
    (hse : starEach (e :: []) X.env = (false, eval e X.env) :: starEach [] X.env := by rfl) (hpl : (backTo p2 (starEach [] X.env)).any (·.1) = false := by rfl) :
    MT Y X W (.Compare (.Call (.Name "type" p) [e] [] p2) [.Eq] [.Name Ts p3] pos) (tTest (tOp rTyEq (tCB (rTyX X.K) (tCons te tNil)) (tC (.ty T)))) (gTst (gTyEq T ge)) :=
  ⟨pt_cmpR op_tyEq (pe_callTy call_tyX hg hm (by decide +kernel) (pa_cons he.pe pa_nil hse) (by decide) (by decide) hse hpl) (pe_bltn hgT hmT hv rfl hn hd) (nomark _), tok_tst (eok_tyEq hT he.ok)⟩
theorem op_tyNe : OpR X (compareOp .NotEq) rTyNe := by
  intro pins s σ H x y v u Q I rx ry h
  obtain ⟨a, b, rfl, rfl, ha, hb, q⟩ := h
  cases rx
  cases ry
  by_cases e : a = b
  · subst e
    rw [decide_eq_true rfl] at q
    exact TyNe.ne_type_same (fun s' => ty_type ha s') ⟨.bl false, H, I, rfl, q⟩
  · rw [decide_eq_false e] at q
    exact TyNe.ne_type_other (fun s' => ty_type ha s') (fun s' => ty_type hb s') (beq_eq_false_iff_ne.mpr fun z => e (Value.type.inj z)) ⟨.bl true, H, I, rfl, q⟩
def gTyNe {Y : Sys} (T : String) (g : GE Y) : GE Y := bd g fun r Γ s => match rdv Γ r with
  | some d => some (.ok (.v (.bool (!decide (tyD d = T)))), Γ, s)
  | none => none
theorem eok_tyNe {K : PySem.W.Frag} (hT : T ∈ tyNames) (he : EOk Y K W te ge) : EOk Y K W (tOp rTyNe (tCB (rTyX K) (tCons te tNil)) (tC (.ty T))) (gTyNe T ge) := by
  intro B w σ Γ s out Q Wh N e p
  refine he.go (Q := fun x H1 => rTyX K [x] H1 fun x H1 => rTyNe x (.ty T) H1 Q) Wh N e p fun r Γ1 s1 x w1 W1 N1 l1 R1 e1 p1 => ?_
  split at e1
  · rename_i d ed
    cases e1
    exact ⟨w1.F, x, d, W1.sF, rfl, sh_of W1 N1 R1 ed, _, _, rfl, rfl, tyD_mem d, hT, p1 w1 W1 N1 (.refl _) _ (.bl _)⟩
  · cases e1
theorem mt_tyNe (hT : T ∈ tyNames) (hg : Gl X "type") (hm : X.mg "type" = none) (hgT : Gl X Ts) (hmT : X.mg Ts = none) (hv : bootBuiltins Ts = some (.type T)) (he : ME Y X W e te ge) (hn : Ts ≠ "__name__" := by decide) (hd : (Ts == ("__debug__" : Str)) = false := by decide)
    (hse : starEach (e :: []) X.env = (false, eval e X.env) :: starEach [] X.env := by rfl) (hpl : (backTo p2 (starEach [] X.env)).any (·.1) = false := by rfl) :
    MT Y X W (.Compare (.Call (.Name "type" p) [e] [] p2) [.NotEq] [.Name Ts p3] pos) (tTest (tOp rTyNe (tCB (rTyX X.K) (tCons te tNil)) (tC (.ty T)))) (gTst (gTyNe T ge)) :=
  ⟨pt_cmpR op_tyNe (pe_callTy call_tyX hg hm (by decide +kernel) (pa_cons he.pe pa_nil hse) (by decide) (by decide) hse hpl) (pe_bltn hgT hmT hv rfl hn hd) (nomark _), tok_tst (eok_tyNe hT he.ok)⟩
theorem sh_tyx {K : PySem.W.Frag} {F H : Hp} (sF : Same F H) {x : V} : ∀ {d : D}, Sh K F H x d → TyX K H x (.type (tyD d))
  | .none, h => by cases sh_non h; exact .base .non
  | .bool b, h => by cases sh_bool h; exact .base (.bl _)
  | .int i, h => by cases sh_int h; exact .base (.int _)
  | .str i, h => by cases sh_str h; exact .base (.str _)
  | .list ds, h => by
    obtain ⟨p, xs, rfl, e, _⟩ := h
    exact .base (.lst e)
  | .tuple ds, h => by
    obtain ⟨p, xs, rfl, e, _⟩ := h
    exact .base (.tup (sF _ _ e))
  | .dict ds, h => by
    cases (show Rp K F x (.dict ds) from h) with
    | dic e => exact .base (.dK (sF _ _ e))
def isI (d : D) (T : String) : Option Bool := kitB (tyD d) T
def gIsI {Y : Sys} (T : String) (g : GE Y) : GE Y := bd g fun r Γ s => match rdv Γ r with
  | some d => match isI d T with
    | some b => some (.ok (.v (.bool b)), Γ, s)
    | none => none
  | none => none
theorem me_isI (hg : Gl X "isinstance") (hm : X.mg "isinstance" = none) (hgT : Gl X Ts) (hmT : X.mg Ts = none) (hv : bootBuiltins Ts = some (.type T)) (he : ME Y X W e te ge) (hn : Ts ≠ "__name__" := by decide) (hd : (Ts == ("__debug__" : Str)) = false := by decide)
    (hse : starEach (e :: [.Name Ts p3]) X.env = (false, eval e X.env) :: starEach [.Name Ts p3] X.env := by rfl) (hs2 : starEach [.Name Ts p3] X.env = (false, eval (.Name Ts p3) X.env) :: starEach [] X.env := by rfl) (hpl : (backTo p2 (starEach [.Name Ts p3] X.env)).any (·.1) = false := by rfl) :
    ME Y X W (.Call (.Name "isinstance" p) [e, .Name Ts p3] [] p2) (tCB (rIsi X.K) (tCons te (tCons (tC (.ty T)) tNil))) (gIsI T ge) := by
  refine ⟨pe_callB call_isi hg hm (by decide +kernel) (pa_cons he.pe (pa_cons (pe_bltn hgT hmT hv rfl hn hd) pa_nil hs2) hse) (by decide) (by decide) hse hpl, fun B w σ Γ s out Q Wh N e p => ?_⟩
  refine he.ok.go (Q := fun x H1 => rIsi X.K [x, .ty T] H1 Q) Wh N e p fun r Γ1 s1 x w1 W1 N1 l1 R1 e1 p1 => ?_
  split at e1
  · rename_i d ed
    split at e1
    · rename_i b eb
      cases e1
      exact ⟨x, .ty T, .type (tyD d), .type T, b, rfl, .ty T, sh_tyx W1.sF (sh_of W1 N1 R1 ed), kit_ty eb, p1 w1 W1 N1 (.refl _) _ (.bl _)⟩
    · cases e1
  · cases e1
end

/-- the table of texts at d holds what t tells -/
structure KTab (K : PySem.W.Frag) (w : World) (d : Addr) (t : Str → Option D) : Prop where
  kd : ∃ es n, KDict K w d es n
  at' : ∀ z, ∃ r, PySem.W.nsIn K d z = some r ∧ (t z = none → r = none) ∧ ∀ e, t z = some e → ∃ u v, r = some u ∧ RelV v u ∧ ∀ F, Rp K F v e
def fKIn (t : Str → Option D) : D → Option Rz
  | .str z => some (.nw (.bool (t z).isSome))
  | _ => none
def fKNotIn (t : Str → Option D) : D → Option Rz
  | .str z => some (.nw (.bool (!(t z).isSome)))
  | _ => none
def fKGet (t : Str → Option D) : D → Option Rz
  | .str z => match t z with
    | some e => some (.old e)
    | none => none
  | _ => none
section
variable {Y : Sys} {X : Cx} {W : WX} {e o : Expr} {pos p p2 p3 : Pos} {te : TE} {ge : GE Y} {d : Addr} {t : Str → Option D}
theorem ktab_some {K : PySem.W.Frag} {w : World} (T : KTab K w d t) (z : Str) : ∃ r, PySem.W.nsIn K d z = some r ∧ r.isSome = (t z).isSome := by
  obtain ⟨r, h, h1, h2⟩ := T.at' z
  refine ⟨r, h, ?_⟩
  cases q : t z with
  | none => rw [h1 q]; rfl
  | some e => obtain ⟨u, v, rfl, _⟩ := h2 e q; rfl
theorem me_kIn (T : KTab X.K X.w d t) (ho : PE X o (tC (.ref d))) (he : ME Y X W e te ge) (hm : behindInMarks .In o = false := by rfl) : ∃ t', ME Y X W (.Compare e [.In] [o] pos) t' (gUn (fKIn t) ge) := by
  obtain ⟨es, n, kd⟩ := T.kd
  refine ⟨_, pe_cmpR (op_in_kd kd) he.pe ho hm, fun B w σ Γ s out Q Wh N e p => ?_⟩
  refine he.ok.go (Q := fun x H1 => ∃ (z : Str) (r : Option Value), x = .str z ∧ V.ref d = .ref d ∧ PySem.W.nsIn X.K d z = some r ∧ Q (.bl r.isSome) H1) Wh N e p fun r Γ1 s1 x w1 W1 N1 l1 R1 e1 p1 => ?_
  unfold op1 at e1
  split at e1
  · cases e1
  · rename_i dd ed
    split at e1
    · cases e1
    · rename_i zz ez
      cases e1
      unfold fKIn at ez
      split at ez
      · rename_i z
        cases ez
        obtain ⟨r, h, hs⟩ := ktab_some T z
        exact ⟨z, r, sh_str (sh_of W1 N1 R1 ed), rfl, h, by rw [hs]; exact p1 w1 W1 N1 (.refl _) _ (.bl _)⟩
      · cases ez
theorem mt_kNotIn (T : KTab X.K X.w d t) (ho : PE X o (tC (.ref d))) (he : ME Y X W e te ge) (hm : behindInMarks .NotIn o = false := by rfl) :
    MT Y X W (.Compare e [.NotIn] [o] pos) (tTest (tOp (fun x y H Q => ∃ (z : Str) (r : Option Value), x = .str z ∧ y = .ref d ∧ PySem.W.nsIn X.K d z = some r ∧ Q (.bl (!r.isSome)) H) te (tC (.ref d)))) (gTst (gUn (fKNotIn t) ge)) := by
  obtain ⟨es, n, kd⟩ := T.kd
  refine ⟨pt_cmpR (op_notIn_kd kd) he.pe ho hm, tok_tst fun B w σ Γ s out Q Wh N e p => ?_⟩
  refine he.ok.go (Q := fun x H1 => ∃ (z : Str) (r : Option Value), x = .str z ∧ V.ref d = .ref d ∧ PySem.W.nsIn X.K d z = some r ∧ Q (.bl (!r.isSome)) H1) Wh N e p fun r Γ1 s1 x w1 W1 N1 l1 R1 e1 p1 => ?_
  unfold op1 at e1
  split at e1
  · cases e1
  · rename_i dd ed
    split at e1
    · cases e1
    · rename_i zz ez
      cases e1
      unfold fKNotIn at ez
      split at ez
      · rename_i z
        cases ez
        obtain ⟨r, h, hs⟩ := ktab_some T z
        exact ⟨z, r, sh_str (sh_of W1 N1 R1 ed), rfl, h, by rw [hs]; exact p1 w1 W1 N1 (.refl _) _ (.bl _)⟩
      · cases ez
theorem me_kGet (T : KTab X.K X.w d t) (ho : PE X o (tC (.ref d))) (he : ME Y X W e te ge) (hs : PlainIx e) :
    ME Y X W (.Subscript o e pos) (tOp (rIxD X.K X.w) (tC (.ref d)) te) (gUn (fKGet t) ge) := by
  refine ⟨pe_ix ix_kdict ho he.pe hs, fun B w σ Γ s out Q Wh N e p => ?_⟩
  refine he.ok.go (Q := fun y H1 => rIxD X.K X.w (.ref d) y H1 Q) Wh N e p fun r Γ1 s1 x w1 W1 N1 l1 R1 e1 p1 => ?_
  unfold op1 at e1
  split at e1
  · cases e1
  · rename_i dd ed
    split at e1
    · cases e1
    · rename_i zz ez
      cases e1
      unfold fKGet at ez
      split at ez
      · rename_i z
        split at ez
        · rename_i ev hev
          cases ez
          obtain ⟨es, n, kd⟩ := T.kd
          obtain ⟨r, h, _, h2⟩ := T.at' z
          obtain ⟨u, v, rfl, rv, re⟩ := h2 ev hev
          exact ⟨d, z, v, rfl, sh_str (sh_of W1 N1 R1 ed), ⟨es, n, u, kd.at_, kd.lit, h, rv⟩, p1 w1 W1 N1 (.refl _) _ (re w1.F)⟩
        · cases ez
      · cases ez
end

def itC (n : Nat) : Nat → List Nat → List (List Nat)
  | 0, _ => []
  | f + 1, c => c :: match Cmb.nextC n c with
    | none => []
    | some c' => itC n f c'
def combL (n k : Nat) : List (List Nat) := itC n 100 (List.range k)
def combD (n k : Nat) : List D := (combL n k).map fun c => .tuple (c.map fun (j : Nat) => .int (0 + (j : Int)))
def gCmb {Y : Sys} (ga gk : GE Y) : GI Y := bd ga fun ra Γ s => match rdv Γ ra with
  | some (.int n) => bd gk (fun rk Γ s => match rdv Γ rk with
    | some (.int k) => if (decide (0 ≤ k) && decide (k ≤ n) && decide (n ≤ 60) && Cmb.okC n.toNat k.toNat (combL n.toNat k.toNat)) = true then some (.ok (combD n.toNat k.toNat), Γ, s) else none
    | _ => none) Γ s
  | _ => none
theorem it_comb {K : PySem.W.Frag} {F : Hp} (n k : Nat) : ItOk K (Cmb.Itc 0 (combL n k)) F (combD n k) := fun F1 H e1 e2 i => by
  have hl : (combD n k).length = (combL n k).length := by simp [combD]
  refine ⟨fun hi => by rw [hl] at hi; exact hi, fun hi => by rw [hl] at hi; exact hi, fun x H' y d hd => ?_⟩
  obtain ⟨T, c, hc, rfl, nT, rfl⟩ := y
  unfold combD at hd
  rw [List.getElem?_map, hc] at hd
  cases hd
  refine .inr ⟨T, _, _, nT, rfl, rfl, rfl, ?_⟩
  clear hc
  induction c with
  | nil => exact .nil
  | cons j c ih => exact .cons (.int _) ih
section
variable {Y : Sys} {X : Cx} {W : WX} {tg a b : Expr} {pos p p2 p3 : Pos} {ta tb : TE} {ga gb : GE Y} {x : Str}
def tRg1 (ta : TE) : TE := tCB (fun vs H Q => ∃ j, vs = [V.int j] ∧ ∀ p, H p = none → Q (.ref p) (upd H p (.rng 0 j))) (tCons ta tNil)
theorem pe_rg1 (hg : Gl X "range") (hm : X.mg "range" = none) (ha : PE X a ta) (hse : starEach (a :: []) X.env = (false, eval a X.env) :: starEach [] X.env := by rfl) (hpl : (backTo p2 (starEach [] X.env)).any (·.1) = false := by rfl) : PE X (.Call (.Name "range" p3) [a] [] p2) (tRg1 ta) :=
  pe_callTy Cmb.cr_range1 hg hm (by decide +kernel) (pa_cons ha pa_nil hse) (by decide) (by decide) hse hpl
theorem mi_comb (hg : Gl X x) (hm : X.mg x = some (.type "itertools.combinations")) (hc : X.calm = true) (hgr : Gl X "range") (hmr : X.mg "range" = none) (ha : ME Y X W a ta ga) (hb : ME Y X W b tb gb) (hd : (x == ("__debug__" : Str)) = false := by decide)
    (hse : starEach (a :: []) X.env = (false, eval a X.env) :: starEach [] X.env := by rfl) (hpl0 : (backTo p2 (starEach [] X.env)).any (·.1) = false := by rfl)
    (hs : starEach [.Call (.Name "range" p3) [a] [] p2, b] X.env = (false, eval (.Call (.Name "range" p3) [a] [] p2) X.env) :: starEach [b] X.env := by rfl) (hs2 : starEach [b] X.env = (false, eval b X.env) :: starEach [] X.env := by rfl) (hpl : (backTo pos (starEach [b] X.env)).any (·.1) = false := by rfl) :
    MI Y X W tg (.Call (.Name x p) [.Call (.Name "range" p3) [a] [] p2, b] [] pos) (Cmb.iComb (tCons (tRg1 ta) (tCons tb tNil))) (gCmb ga gb) := by
  refine ⟨Cmb.pi_comb hg hm hc (pa_cons (pe_rg1 hgr hmr ha.pe hse hpl0) (pa_cons hb.pe pa_nil hs2) hs) hd hs hpl, fun B w σ Γ s out Q Wh N e p => ?_⟩
  refine ha.ok.go (Q := fun y H1 => ∃ j, [y] = [V.int j] ∧ ∀ q, H1 q = none → tb σ (upd H1 q (.rng 0 j)) fun z H2 => ∃ (a : Addr) (lo hi k : Int) (L : List (List Nat)), [V.ref q, z] = [.ref a, .int k] ∧ H2 a = some (.rng lo hi) ∧ (-(2 ^ 62) ≤ lo ∧ lo < 2 ^ 62 ∧ -(2 ^ 62) ≤ hi ∧ hi < 2 ^ 62) ∧ (hi - lo).toNat ≤ 1000 ∧ 0 ≤ k ∧ k.toNat ≤ (hi - lo).toNat ∧ Cmb.okC (hi - lo).toNat k.toNat L = true ∧ Q (Cmb.Itc lo L) H2) Wh N e p fun ra Γ1 s1 y w1 W1 N1 l1 R1 e1 p1 => ?_
  split at e1
  · rename_i n en
    cases sh_int (sh_of W1 N1 R1 en)
    refine ⟨n, rfl, fun q nq => ?_⟩
    have fq : w1.F q = none := W1.sF.free nq
    have bq : B q = none := W1.sB.free nq
    have aq : q ∉ w1.A := fun z => Y.live W1.rel _ z nq
    have oq : ∀ (i : Nat) (e : D), Γ1[i]? = some (some (R.o e)) → σ[i]? ≠ some (some (.ref q)) := fun i e hi hs => by
      obtain ⟨y, a, q', rfl, own, _⟩ := N1.sl i _ hi
      rw [hs] at a; cases a
      obtain ⟨u, hu⟩ := own.obj
      rw [nq] at hu; cases hu
    have W2 : Wd Y (upd B q (.rng 0 n)) { w1 with H := upd w1.H q (.rng 0 n) } s1 := (W1.newH nq).hold upd_same fq aq bq
    have N2 : EnvR X.K (upd B q (.rng 0 n)) { w1 with H := upd w1.H q (.rng 0 n) } σ Γ1 := (N1.newH nq).hold oq
    have sB : Same B (upd B q (.rng 0 n)) := upd_sm bq
    have p2 : PoG Y X.K W (upd B q (.rng 0 n)) { w1 with H := upd w1.H q (.rng 0 n) } σ (fun ds _ w' => ∀ J, ItOk X.K J w'.F ds → Q J w'.H) out := (p1.le (w1 := { w1 with H := upd w1.H q (.rng 0 n) }) ⟨Same.refl _, [], by simp⟩).imp sB fun _ _ _ z => z
    refine hb.ok.go (Q := fun z H2 => ∃ (a : Addr) (lo hi k : Int) (L : List (List Nat)), [V.ref q, z] = [.ref a, .int k] ∧ H2 a = some (.rng lo hi) ∧ (-(2 ^ 62) ≤ lo ∧ lo < 2 ^ 62 ∧ -(2 ^ 62) ≤ hi ∧ hi < 2 ^ 62) ∧ (hi - lo).toNat ≤ 1000 ∧ 0 ≤ k ∧ k.toNat ≤ (hi - lo).toNat ∧ Cmb.okC (hi - lo).toNat k.toNat L = true ∧ Q (Cmb.Itc lo L) H2) W2 N2 e1 p2 fun rk Γ3 s3 z w3 W3 N3 l3 R3 e3 p3 => ?_
    split at e3
    · rename_i k ek
      split at e3
      · rename_i hz
        cases e3
        simp only [Bool.and_eq_true, decide_eq_true_eq] at hz
        obtain ⟨⟨⟨k0, k1⟩, k2⟩, k3⟩ := hz
        cases sh_int (sh_of W3 N3 R3 ek)
        have e0 : n - 0 = n := Int.sub_zero n
        refine ⟨q, 0, n, k, combL n.toNat k.toNat, rfl, W3.sB q _ upd_same, ⟨by decide, by decide, by omega, by omega⟩, by omega, k0, by omega, by rw [e0]; exact k3, ?_⟩
        exact p3 w3 W3 N3 (.refl _) _ (it_comb _ _)
      · cases e3
    · cases e3
  · cases e1
end
end FX

set_option Elab.async false
set_option linter.all false
set_option maxRecDepth 100000
set_option maxHeartbeats 1000000
namespace FX
open PySem PySem.Spec L2

def cutD (xs : List D) (lo hi : Option Int) : List D := (xs.drop (HT.sIx xs.length 0 lo)).take (HT.sIx xs.length xs.length hi - HT.sIx xs.length 0 lo)
def fSl : D → Option Int → Option Int → Option Rz
  | .list ds, lo, hi => some (.nw (.list (cutD ds lo hi)))
  | .tuple ds, lo, hi => if HT.sIx ds.length 0 lo = 0 ∧ HT.sIx ds.length ds.length hi = ds.length then some (.old (.tuple ds)) else some (.nw (.tuple (cutD ds lo hi)))
  | .str z, lo, hi => if sizeOk z.length = true then some (.nw (.str (cutS z lo hi))) else none
  | _, _, _ => none
abbrev GO (Y : Sys) := Ev → Y.S → Option (Oc (Option Int) × Ev × Y.S)
def gNoP {Y : Sys} : GO Y := fun Γ s => some (.ok none, Γ, s)
def gPart {Y : Sys} (g : GE Y) : GO Y := bd g fun r Γ s => match rdv Γ r with
  | some (.int i) => some (.ok (some i), Γ, s)
  | _ => none
def gSl {Y : Sys} (g : GE Y) (gl gh : GO Y) : GE Y := bd g fun r => bd gl fun lo => bd gh fun hi Γ s => match rdv Γ r with
  | some d => match fSl d lo hi with
    | some z => some (.ok z.r, Γ, s)
    | none => none
  | none => none
section
variable {Y : Sys} {X : Cx} {W : WX} {e : Expr} {lo hi : Option Expr} {pos p2 : Pos} {te : TE} {tl th : TO} {ge : GE Y} {gl gh : GO Y}
def OOk (Y : Sys) (K : PySem.W.Frag) (W : WX) (t : TO) (g : GO Y) : Prop := ∀ (B : Hp) (w : Wo) (σ : L2.St) (Γ : Ev) (s : Y.S) (out : Oc (Option Int) × Ev × Y.S) (Q : Option Int → Hp → Prop),
  Wd Y B w s → EnvR K B w σ Γ → g Γ s = some out → PoG Y K W B w σ (fun b _ w' => Q b w'.H) out → t σ w.H Q
structure MO (Y : Sys) (X : Cx) (W : WX) (e : Option Expr) (t : TO) (g : GO Y) : Prop where
  pe : PO X e t
  ok : OOk Y X.K W t g
theorem mo_none : MO Y X W none tNoPart gNoP := ⟨po_none, fun B w σ Γ s out Q Wh N e p => by cases e; exact p w Wh N (.refl _)⟩
theorem mo_some (h : ME Y X W e te ge) : MO Y X W (some e) (tPart te) (gPart ge) := ⟨po_some h.pe, fun B w σ Γ s out Q Wh N e p => by
  refine h.ok.go (Q := fun x H1 => ∃ i, x = .int i ∧ Q (some i) H1) Wh N e p fun r Γ1 s1 x w1 W1 N1 l1 R1 e1 p1 => ?_
  split at e1
  · rename_i i ei
    cases e1
    exact ⟨i, sh_int (sh_of W1 N1 R1 ei), p1 w1 W1 N1 (.refl _)⟩
  · cases e1⟩
theorem OOk.go {α : Type} {K : PySem.W.Frag} {B : Hp} {w : Wo} {σ : L2.St} {Γ : Ev} {s : Y.S} {ok : α → Ev → Wo → Prop} {t : TO} {g : GO Y} (h : OOk Y K W t g) (Wh : Wd Y B w s) (N : EnvR K B w σ Γ) {k : Option Int → Ev → Y.S → Option (Oc α × Ev × Y.S)} {out : Oc α × Ev × Y.S} {Q : Option Int → Hp → Prop}
    (e : bd g k Γ s = some out) (p : PoG Y K W B w σ ok out)
    (c : ∀ b Γ1 s1 w1, Wd Y B w1 s1 → EnvR K B w1 σ Γ1 → Le w w1 → k b Γ1 s1 = some out → PoG Y K W B w1 σ ok out → Q b w1.H) : t σ w.H Q := by
  unfold bd at e
  cases eg : g Γ s with
  | none => rw [eg] at e; cases e
  | some o =>
    obtain ⟨o, Γ1, s1⟩ := o
    rw [eg] at e
    cases o with
    | ok r => exact h B w σ Γ s _ Q Wh N eg fun w1 W1 N1 l => c r Γ1 s1 w1 W1 N1 l e (p.le l)
    | er z =>
      cases e
      exact h B w σ Γ s _ Q Wh N eg fun w1 W1 N1 l => p w1 W1 N1 l
theorem RpA.cut {K : PySem.W.Frag} {F : Hp} {xs : List V} {ds : List D} (r : RpA K F xs ds) (lo hi : Option Int) : RpA K F (cutV xs lo hi) (cutD ds lo hi) := by
  unfold cutV cutD
  rw [r.length]
  exact (r.drop _).take _
def rSl3 (K : PySem.W.Frag) : V → Option Int → Option Int → Hp → VK → Prop := fun x lo hi H Q => rSlL K x lo hi H Q ∨ (fun x lo hi H Q => rSlA K x lo hi H Q ∨ rSlS x lo hi H Q) x lo hi H Q
theorem sl3 : L2.SlR X (rSl3 X.K) := L2.SlR.or sl_list (L2.SlR.or sl_tupA sl_str)
theorem me_sl (he : ME Y X W e te ge) (hl : MO Y X W lo tl gl) (hh : MO Y X W hi th gh) : ME Y X W (.Subscript e (.Slice lo hi none p2) pos) (tSl (rSl3 X.K) te tl th) (gSl ge gl gh) := by
  refine ⟨pe_slice sl3 he.pe hl.pe hh.pe, fun B w σ Γ s out Q Wh N e p => ?_⟩
  refine he.ok.go (Q := fun x H1 => tl σ H1 fun l H2 => th σ H2 fun u H3 => rSl3 X.K x l u H3 Q) Wh N e p fun r Γ1 s1 x w1 W1 N1 l1 R1 e1 p1 => ?_
  obtain ⟨B2, sB, W1b, N1b, kp, kq⟩ := keep W1 N1 R1
  clear kq
  refine hl.ok.go (Q := fun l H2 => th σ H2 fun u H3 => rSl3 X.K x l u H3 Q) W1b N1b e1 (PoE.strong p1 sB) fun lv Γ2 s2 w2 W2 N2 l2 e2 p2 => ?_
  refine hh.ok.go (Q := fun u H3 => rSl3 X.K x lv u H3 Q) W2 N2 e2 p2 fun hv Γ3 s3 w3 W3 N3 l3 e3 p3 => ?_
  have R3 := kp W3 N3 (l2.trans l3)
  have W3' := W3.weak sB
  have N3' := N3.weak sB
  have p3' : PoE Y X.K W B w3 σ Q out := p1.le (l2.trans l3)
  split at e3
  · rename_i d ed
    have sh := sh_of W3' N3' R3 ed
    split at e3
    · rename_i z ez
      cases e3
      have q := rz_use W3' N3' (.refl _) p3'
      unfold fSl at ez
      split at ez
      · cases ez
        obtain ⟨p, xs, rfl, h, ra⟩ := sh
        exact .inl ⟨p, xs, rfl, .of h, fun r nr => q r _ nr (ra.cut _ _)⟩
      · split at ez
        · rename_i hc
          cases ez
          obtain ⟨p, xs, rfl, h, ra⟩ := sh
          exact .inr (.inl ⟨p, xs, rfl, .of (W3'.sF _ _ h), fun _ => q _ (.tup h ra), fun z => absurd (by rw [ra.length]; exact hc) z⟩)
        · rename_i hc
          cases ez
          obtain ⟨p, xs, rfl, h, ra⟩ := sh
          exact .inr (.inl ⟨p, xs, rfl, .of (W3'.sF _ _ h), fun z => absurd (by rw [ra.length] at z; exact z) hc, fun _ r nr => q r _ nr (ra.cut _ _)⟩)
      · split at ez
        · rename_i hz
          cases ez
          exact .inr (.inr ⟨_, sh_str sh, sizeOk_le hz, nw_str q⟩)
        · cases ez
      · cases ez
    · cases e3
  · cases e3
end

def flatD : D → Bool
  | .none => true
  | .bool _ => true
  | .int _ => true
  | .str _ => true
  | _ => false
def fIn2 (d e : D) : Option Rz := match e with
  | .list ds => if (SeqAt.shaped d && SeqAt.shaped (.list ds)) = true then some (.nw (.bool (ds.any fun z => PyData.eqv z d))) else none
  | .tuple ds => if (flatD d && ds.all flatD) = true then some (.nw (.bool (ds.any fun z => PyData.eqv z d))) else none
  | _ => none
def fNotIn2 (d e : D) : Option Rz := match e with
  | .list ds => if (SeqAt.shaped d && SeqAt.shaped (.list ds)) = true then some (.nw (.bool (!ds.any fun z => PyData.eqv z d))) else none
  | .tuple ds => if (flatD d && ds.all flatD) = true then some (.nw (.bool (!ds.any fun z => PyData.eqv z d))) else none
  | _ => none
section
variable {K : PySem.W.Frag} {X : Cx} {F H : Hp}
theorem sh_flat {x : V} : ∀ {d : D}, Sh K F H x d → flatD d = true → flatV x = true
  | .none, h, _ => by cases sh_non h; rfl
  | .bool _, h, _ => by cases sh_bool h; rfl
  | .int _, h, _ => by cases sh_int h; rfl
  | .str _, h, _ => by cases sh_str h; rfl
  | .list _, _, c => by cases c
  | .tuple _, _, c => by cases c
  | .dict _, _, c => by cases c
theorem rp_flat {x : V} {d : D} (h : Rp K F x d) (c : flatD d = true) : flatV x = true := by
  cases h <;> first | rfl | cases c
theorem flat_eqv {x y : V} {d e : D} (hx : Rp K F x d) (hy : Rp K F y e) (c : flatD d = true) (c2 : flatD e = true) : eqV x y = PyData.eqv d e := by
  cases hx <;> first | (cases hy <;> first | rfl | cases c2 | simp [eqV, PyData.eqv]) | cases c
theorem sh_rp {x : V} : ∀ {d : D}, Sh K F H x d → flatD d = true → Rp K F x d
  | .none, h, _ => h
  | .bool _, h, _ => h
  | .int _, h, _ => h
  | .str _, h, _ => h
  | .list _, _, c => by cases c
  | .tuple _, _, c => by cases c
  | .dict _, _, c => by cases c
theorem any_flat {x : V} {d : D} (hx : Rp K F x d) (c : flatD d = true) : ∀ {ds : List D} {xs : List V}, RpA K F xs ds → ds.all flatD = true → xs.all flatV = true ∧ inV x xs = ds.any fun z => PyData.eqv z d
  | [], _, h, _ => by cases h; exact ⟨rfl, rfl⟩
  | e :: ds, _, h, c2 => by
    cases h with
    | cons a b =>
      simp only [List.all_cons, Bool.and_eq_true] at c2
      obtain ⟨h1, h2⟩ := any_flat hx c b c2.2
      refine ⟨by simp only [List.all_cons, Bool.and_eq_true]; exact ⟨rp_flat a c2.1, h1⟩, ?_⟩
      unfold inV at h2 ⊢
      simp only [List.any_cons]
      rw [h2, flat_eqv a hx c2.1 c]
def rIn2 (K : PySem.W.Frag) : R2 := fun x y H Q => rInD K x y H Q ∨ rIn K false x y H Q
def rNotIn2 (K : PySem.W.Frag) : R2 := fun x y H Q => rNotInD K x y H Q ∨ rIn K true x y H Q
theorem hu65 {k : Nat} {A : Around} (r : Room k A) : A.units + 65 < cLine := by have := r.un; omega
theorem o_in (hu : X.A.units + 65 < cLine) : OpR X (compareOp .In) (rIn2 X.K) := (op_inD hu).or op_in_seq
theorem o_notIn (hu : X.A.units + 65 < cLine) : OpR X (compareOp .NotIn) (rNotIn2 X.K) := (op_notInD hu).or op_notIn_seq
theorem s_in2 : Op2 K (rIn2 K) fIn2 := by
  intro F H x y d e z Q sF hx hy h q
  unfold fIn2 at h
  split at h
  · split at h
    · rename_i hz
      cases h
      rw [Bool.and_eq_true] at hz
      exact .inl ⟨d, _, hx.dp sF hz.1, hy.dp sF hz.2, hz.1, hz.2, nw_bool q⟩
    · cases h
  · split at h
    · rename_i hz
      cases h
      rw [Bool.and_eq_true] at hz
      obtain ⟨p, xs, rfl, e1, ra⟩ := hy
      obtain ⟨f1, f2⟩ := any_flat (sh_rp hx hz.1) hz.1 ra hz.2
      exact .inr ⟨p, xs, rfl, .inr (.of (sF _ _ e1)), sh_flat hx hz.1, f1, by rw [if_neg Bool.false_ne_true, f2]; exact nw_bool q⟩
    · cases h
  · cases h
theorem s_notIn2 : Op2 K (rNotIn2 K) fNotIn2 := by
  intro F H x y d e z Q sF hx hy h q
  unfold fNotIn2 at h
  split at h
  · split at h
    · rename_i hz
      cases h
      rw [Bool.and_eq_true] at hz
      exact .inl ⟨d, _, hx.dp sF hz.1, hy.dp sF hz.2, hz.1, hz.2, nw_bool q⟩
    · cases h
  · split at h
    · rename_i hz
      cases h
      rw [Bool.and_eq_true] at hz
      obtain ⟨p, xs, rfl, e1, ra⟩ := hy
      obtain ⟨f1, f2⟩ := any_flat (sh_rp hx hz.1) hz.1 ra hz.2
      exact .inr ⟨p, xs, rfl, .inr (.of (sF _ _ e1)), sh_flat hx hz.1, f1, by rw [if_pos rfl, f2]; exact nw_bool q⟩
    · cases h
  · cases h
end

def pr? : D → Option (Int × Int)
  | .tuple [.int i, .int j] => some (i, j)
  | _ => none
def prs? : List D → Option (List (Int × Int))
  | [] => some []
  | d :: ds => match pr? d, prs? ds with
    | some p, some ps => some (p :: ps)
    | _, _ => none
def lexI (a b : Int × Int) : Bool := decide (a.1 < b.1) || (decide (a.1 = b.1) && decide (a.2 < b.2))
def insP (a : Int × Int) : List (Int × Int) → List (Int × Int)
  | [] => [a]
  | b :: l => if lexI b a = true then b :: insP a l else a :: b :: l
def sortP : List (Int × Int) → List (Int × Int)
  | [] => []
  | a :: l => insP a (sortP l)
def prD (p : Int × Int) : D := .tuple [.int p.1, .int p.2]
def fSrt : List D → Option Rz
  | [.list ds] => match prs? ds with
    | some ps => some (.nw (.list ((sortP ps).map prD)))
    | none => none
  | _ => none
theorem lexI_irr (a : Int × Int) : lexI a a = false := by simp [lexI]
theorem lexI_asymm {a b : Int × Int} (h : lexI a b = true) : lexI b a = false := by
  unfold lexI at h ⊢
  simp only [Bool.or_eq_true, Bool.and_eq_true, decide_eq_true_eq] at h
  simp only [Bool.or_eq_false_iff, Bool.and_eq_false_iff, decide_eq_false_iff_not]
  omega
theorem lexI_tri {a b : Int × Int} (h : lexI a b = false) (h2 : lexI b a = false) : a = b := by
  unfold lexI at h h2
  simp only [Bool.or_eq_false_iff, Bool.and_eq_false_iff, decide_eq_false_iff_not] at h h2
  apply Prod.ext <;> omega
theorem lexI_le_trans {a b c : Int × Int} (h : lexI b a = false) (h2 : lexI c b = false) : lexI c a = false := by
  unfold lexI at h h2 ⊢
  simp only [Bool.or_eq_false_iff, Bool.and_eq_false_iff, decide_eq_false_iff_not] at h h2 ⊢
  omega
theorem insP_mem {a x : Int × Int} : ∀ {l : List (Int × Int)}, x ∈ insP a l → x = a ∨ x ∈ l
  | [], h => by simp [insP] at h; exact .inl h
  | b :: l, h => by
    unfold insP at h
    split at h
    · rcases List.mem_cons.mp h with h | h
      · exact .inr (by simp [h])
      · rcases insP_mem h with h | h
        · exact .inl h
        · exact .inr (List.mem_cons_of_mem _ h)
    · rcases List.mem_cons.mp h with h | h
      · exact .inl h
      · exact .inr h
theorem insP_perm (a : Int × Int) : ∀ l : List (Int × Int), (insP a l).Perm (a :: l)
  | [] => List.Perm.refl _
  | b :: l => by
    unfold insP
    split
    · exact ((insP_perm a l).cons b).trans (List.Perm.swap a b l)
    · exact List.Perm.refl _
theorem sortP_perm : ∀ l : List (Int × Int), (sortP l).Perm l
  | [] => List.Perm.refl _
  | a :: l => (insP_perm a _).trans ((sortP_perm l).cons a)
abbrev SrP (l : List (Int × Int)) : Prop := l.Pairwise fun x y => lexI y x = false
theorem insP_srt {a : Int × Int} : ∀ {l : List (Int × Int)}, SrP l → SrP (insP a l)
  | [], _ => List.pairwise_singleton _ _
  | b :: l, h => by
    obtain ⟨h1, h2⟩ := List.pairwise_cons.mp h
    unfold insP
    split
    · rename_i hc
      refine List.pairwise_cons.mpr ⟨fun x hx => ?_, insP_srt h2⟩
      rcases insP_mem hx with rfl | hx
      · exact lexI_asymm hc
      · exact h1 x hx
    · rename_i hc
      have hc : lexI b a = false := by simpa using hc
      refine List.pairwise_cons.mpr ⟨fun x hx => ?_, h⟩
      rcases List.mem_cons.mp hx with rfl | hx
      · exact hc
      · exact lexI_le_trans hc (h1 x hx)
theorem sortP_srt : ∀ l : List (Int × Int), SrP (sortP l)
  | [] => List.Pairwise.nil
  | _ :: l => insP_srt (sortP_srt l)
theorem srt_uniq : ∀ {l m : List (Int × Int)}, SrP l → SrP m → l.Perm m → l = m
  | [], m, _, _, p => (List.nil_perm.mp p).symm
  | a :: l, [], _, _, p => absurd (List.perm_nil.mp p) (by simp)
  | a :: l, b :: m, h1, h2, p => by
    obtain ⟨a1, a2⟩ := List.pairwise_cons.mp h1
    obtain ⟨b1, b2⟩ := List.pairwise_cons.mp h2
    have e : a = b := by
      have ha : a ∈ b :: m := p.mem_iff.mp List.mem_cons_self
      have hb : b ∈ a :: l := p.mem_iff.mpr List.mem_cons_self
      rcases List.mem_cons.mp ha with e | ha
      · exact e
      · rcases List.mem_cons.mp hb with e | hb
        · exact e.symm
        · exact lexI_tri (b1 a ha) (a1 b hb)
    subst e
    rw [srt_uniq a2 b2 (List.Perm.cons_inv p)]
theorem pr_of {d : D} {p : Int × Int} (h : pr? d = some p) : d = prD p := by
  unfold pr? at h
  split at h
  · cases h; rfl
  · cases h
theorem prs_of : ∀ {ds : List D} {ps : List (Int × Int)}, prs? ds = some ps → ds = ps.map prD
  | [], _, h => by cases h; rfl
  | d :: ds, _, h => by
    unfold prs? at h
    split at h
    · rename_i p ps e1 e2
      cases h
      rw [pr_of e1, prs_of e2]; rfl
    · cases h
/-- the pair that stands at a reference -/
def keyH (H : Hp) : V → Int × Int
  | .ref t => match H t with
    | some (.tup [.int i, .int j]) => (i, j)
    | _ => (0, 0)
  | _ => (0, 0)
theorem rp_pair {K : PySem.W.Frag} {F H : Hp} (sF : Same F H) {x : V} {p : Int × Int} (h : Rp K F x (prD p)) : keyH H x = p ∧ ∃ t, x = .ref t ∧ H t = some (.tup [.int p.1, .int p.2]) := by
  unfold prD at h
  cases h with
  | tup a b =>
    cases b with
    | cons b1 b2 =>
      cases b2 with
      | cons b2 b3 =>
        cases b1; cases b2; cases b3
        have := sF _ _ a
        refine ⟨?_, _, rfl, this⟩
        unfold keyH
        simp only [this]
theorem rpa_keys {K : PySem.W.Frag} {F H : Hp} (sF : Same F H) : ∀ {xs : List V} {ps : List (Int × Int)}, RpA K F xs (ps.map prD) → xs.map (keyH H) = ps ∧ ∀ x ∈ xs, Rp K F x (prD (keyH H x))
  | _, [], h => by cases h; exact ⟨rfl, fun x hx => by cases hx⟩
  | _, p :: ps, h => by
    cases h with
    | cons a b =>
      obtain ⟨h1, h2⟩ := rpa_keys sF b
      obtain ⟨k1, _⟩ := rp_pair sF a
      refine ⟨by rw [List.map_cons, k1, h1], fun x hx => ?_⟩
      rcases List.mem_cons.mp hx with rfl | hx
      · rw [k1]; exact a
      · exact h2 x hx
theorem rpa_of_mem {K : PySem.W.Frag} {F H : Hp} : ∀ {ys : List V}, (∀ x ∈ ys, Rp K F x (prD (keyH H x))) → RpA K F ys ((ys.map (keyH H)).map prD)
  | [], _ => .nil
  | y :: ys, h => .cons (h y List.mem_cons_self) (rpa_of_mem fun x hx => h x (List.mem_cons_of_mem _ hx))
theorem s_srt {K : PySem.W.Frag} : OpN K (rSortedPO K) fSrt := by
  intro F H xs ds z Q sF hx h q
  unfold fSrt at h
  split at h
  · split at h
    · rename_i ps ep
      cases h
      cases hx with
      | cons a b =>
        cases b
        obtain ⟨p, xs, rfl, e1, a1⟩ := a
        rw [prs_of ep] at a1
        obtain ⟨k1, k2⟩ := rpa_keys sF a1
        refine ⟨p, xs, keyH H, rfl, .of e1, fun x hx => ?_, fun ys r srt stb nr => q r ys nr ?_⟩
        · obtain ⟨_, t, rfl, ht⟩ := rp_pair sF (k2 x hx)
          exact ⟨t, rfl, ht⟩
        · have hm : ∀ x ∈ ys, Rp K F x (prD (keyH H x)) := fun x hx => k2 x (stb.perm.mem_iff.mp hx)
          have hk : ys.map (keyH H) = sortP ps := by
            refine srt_uniq ?_ (sortP_srt ps) ?_
            · refine List.Pairwise.map _ (fun a b hab => ?_) srt
              have hab : SrtO.lexB (keyH H b) (keyH H a) = false := hab
              have e : lexI (keyH H b) (keyH H a) = SrtO.lexB (keyH H b) (keyH H a) := by
                unfold lexI SrtO.lexB
                by_cases h : (keyH H b).1 = (keyH H a).1
                · rw [if_pos h, decide_eq_false (show ¬ (keyH H b).1 < (keyH H a).1 by omega), decide_eq_true h]; simp
                · rw [if_neg h, decide_eq_false h]; simp
              rw [e]; exact hab
            · exact (stb.perm.map _).trans (by rw [k1]; exact (sortP_perm ps).symm)
          rw [← hk]
          exact rpa_of_mem hm
    · cases h
  · cases h
end FX

set_option Elab.async false
set_option linter.all false
set_option maxRecDepth 100000
set_option maxHeartbeats 1000000
namespace FX
open PySem PySem.Spec L2
abbrev rLenL (K : PySem.W.Frag) : List V → Hp → VK → Prop := fun xs H Q => (∃ p ys, xs = [.ref p] ∧ (SqL K H p ys ∨ SqT K H p ys) ∧ Q (.int ys.length) H) ∨ ∃ z, xs = [.str z] ∧ z.length ≤ sizeLine ∧ Q (.int z.length) H
abbrev rListO (K : PySem.W.Frag) : List V → Hp → VK → Prop := fun xs H Q => ∃ p ys, xs = [.ref p] ∧ (SqL K H p ys ∨ SqT K H p ys) ∧ ∀ l, H l = none → Q (.ref l) (upd H l (.lst ys))
section
variable {Y : Sys} {X : Cx} {W : WX} {e o a b tg : Expr} {es : List Expr} {pos p p2 p3 apos cpos : Pos} {te ta : TE} {ge ga : GE Y} {gr : GA Y} {T : String} {Ts : Str} {K : PySem.W.Frag}
theorem me_fnK {n k : Nat} {m : Fm Y} {f : Addr} {fd : FuncData} {ps : List Str} {x : Str} {ta : TA} (hK : X.K = K) (F : FnOk X.prog X.w X.K X.mg X.base (L2.CX X.prog X.w) k f fd ps (spM Y X.K n m)) (hr : Room k X.A) (hg : Gl X x) (hm : X.mg x = some (.ref f)) (hk : PySem.W.keepIn X.K (.ref f) = true) (hb : Binds X.K fd ps []) (tk : Takes X W)
    (ha : MA Y X W (e :: es) ta gr) (hdb : (x == ("__debug__" : Str)) = false := by decide) (he : starEach (e :: es) X.env = (false, eval e X.env) :: starEach es X.env := by rfl) (hpl : (backTo pos (starEach es X.env)).any (·.1) = false := by rfl) :
    ME Y X W (.Call (.Name x p) (e :: es) [] pos) (tCallS (spM Y K n m) (WE W) ta) (gFn n m gr) := by
  subst hK
  exact me_fn F hr hg hm hk hb tk ha hdb he hpl
theorem me_slK {lo hi : Option Expr} {tl th : TO} {gl gh : GO Y} (hK : X.K = K) (he : ME Y X W e te ge) (hl : MO Y X W lo tl gl) (hh : MO Y X W hi th gh) : ME Y X W (.Subscript e (.Slice lo hi none p2) pos) (tSl (rSl3 K) te tl th) (gSl ge gl gh) := by
  subst hK
  exact me_sl he hl hh
theorem mg_tupK {tg_h : TGs} {k : Nat} {l : Tgs} {n : Nat} (hK : X.K = K) (hc : X.calm = true) (h : MGs Y X es tg_h l) (hn : (assignEach es X.env).length = n) (hst : (assignEach es X.env).findIdx? (·.1) = none)
    (hl : ∀ ds Γ Γ', bindTs l ds Γ = some Γ' → ds.length = n) : MG Y X (.Tuple es k pos) (L2.gTup K n tg_h) (.t l) := by
  subst hK
  exact mg_tup hc h hn hst hl
theorem me_tyEqK (hK : X.K = K) (hT : T ∈ tyNames) (hg : Gl X "type") (hm : X.mg "type" = none) (hgT : Gl X Ts) (hmT : X.mg Ts = none) (hv : bootBuiltins Ts = some (.type T)) (he : ME Y X W e te ge) (hn : Ts ≠ "__name__" := by decide) (hd : (Ts == ("__debug__" : Str)) = false := by decide)
    (hse : starEach (e :: []) X.env = (false, eval e X.env) :: starEach [] X.env := by rfl) (hpl : (backTo p2 (starEach [] X.env)).any (·.1) = false := by rfl) :
    ME Y X W (.Compare (.Call (.Name "type" p) [e] [] p2) [.Eq] [.Name Ts p3] pos) (tOp rTyEq (tCB (rTyX K) (tCons te tNil)) (tC (.ty T))) (gTyEq T ge) := by
  subst hK
  exact me_tyEq hT hg hm hgT hmT hv he hn hd hse hpl
theorem mt_tyEqK (hK : X.K = K) (hT : T ∈ tyNames) (hg : Gl X "type") (hm : X.mg "type" = none) (hgT : Gl X Ts) (hmT : X.mg Ts = none) (hv : bootBuiltins Ts = some (.type T)) (he : ME Y X W e te ge) (hn : Ts ≠ "__name__" := by decide) (hd : (Ts == ("__debug__" : Str)) = false := by decide)
    (hse : starEach (e :: []) X.env = (false, eval e X.env) :: starEach [] X.env := by rfl) (hpl : (backTo p2 (starEach [] X.env)).any (·.1) = false := by rfl) :
    MT Y X W (.Compare (.Call (.Name "type" p) [e] [] p2) [.Eq] [.Name Ts p3] pos) (tTest (tOp rTyEq (tCB (rTyX K) (tCons te tNil)) (tC (.ty T)))) (gTst (gTyEq T ge)) := by
  subst hK
  exact mt_tyEq hT hg hm hgT hmT hv he hn hd hse hpl
theorem mt_tyNeK (hK : X.K = K) (hT : T ∈ tyNames) (hg : Gl X "type") (hm : X.mg "type" = none) (hgT : Gl X Ts) (hmT : X.mg Ts = none) (hv : bootBuiltins Ts = some (.type T)) (he : ME Y X W e te ge) (hn : Ts ≠ "__name__" := by decide) (hd : (Ts == ("__debug__" : Str)) = false := by decide)
    (hse : starEach (e :: []) X.env = (false, eval e X.env) :: starEach [] X.env := by rfl) (hpl : (backTo p2 (starEach [] X.env)).any (·.1) = false := by rfl) :
    MT Y X W (.Compare (.Call (.Name "type" p) [e] [] p2) [.NotEq] [.Name Ts p3] pos) (tTest (tOp rTyNe (tCB (rTyX K) (tCons te tNil)) (tC (.ty T)))) (gTst (gTyNe T ge)) := by
  subst hK
  exact mt_tyNe hT hg hm hgT hmT hv he hn hd hse hpl
theorem me_isIK (hK : X.K = K) (hg : Gl X "isinstance") (hm : X.mg "isinstance" = none) (hgT : Gl X Ts) (hmT : X.mg Ts = none) (hv : bootBuiltins Ts = some (.type T)) (he : ME Y X W e te ge) (hn : Ts ≠ "__name__" := by decide) (hd : (Ts == ("__debug__" : Str)) = false := by decide)
    (hse : starEach (e :: [.Name Ts p3]) X.env = (false, eval e X.env) :: starEach [.Name Ts p3] X.env := by rfl) (hs2 : starEach [.Name Ts p3] X.env = (false, eval (.Name Ts p3) X.env) :: starEach [] X.env := by rfl) (hpl : (backTo p2 (starEach [.Name Ts p3] X.env)).any (·.1) = false := by rfl) :
    ME Y X W (.Call (.Name "isinstance" p) [e, .Name Ts p3] [] p2) (tCB (rIsi K) (tCons te (tCons (tC (.ty T)) tNil))) (gIsI T ge) := by
  subst hK
  exact me_isI hg hm hgT hmT hv he hn hd hse hs2 hpl
theorem me_kGetK {d : Addr} {t : Str → Option D} {w : World} (hK : X.K = K) (hw : X.w = w) (T : KTab X.K X.w d t) (ho : PE X o (tC (.ref d))) (he : ME Y X W e te ge) (hs : PlainIx e) :
    ME Y X W (.Subscript o e pos) (tOp (rIxD K w) (tC (.ref d)) te) (gUn (fKGet t) ge) := by
  subst hK hw
  exact me_kGet T ho he hs
theorem mi_listK (hK : X.K = K) (h : ME Y X W e te ga) : MI Y X W tg e (iList K te) (gItL ga) := by
  subst hK
  exact mi_list h
theorem mi_tupK (hK : X.K = K) (h : ME Y X W e te ga) : MI Y X W tg e (iTup K te) (gItT ga) := by
  subst hK
  exact mi_tup h
end
end FX
namespace FX
open PySem PySem.Spec L2
/-- a table's entries hold what t tells -/
def TabOk (es : List DictEntry) (t : Str → Option D) : Prop := es.any (·.refKey) = false ∧ ∀ z, match es.find? (·.key.isStr z) with
  | some e => ∃ d v, t z = some d ∧ RelV v e.val ∧ ∀ K F, Rp K F v d
  | none => t z = none
theorem ktab_mk {K : PySem.W.Frag} {w : World} {d : Addr} {es : Array DictEntry} {n : Nat} {t : Str → Option D} (k : KDict K w d es n) (h : TabOk es.toList t) : KTab K w d t := by
  refine ⟨⟨es, n, k⟩, fun z => ?_⟩
  have e : PySem.W.nsIn K d z = (match es.toList.find? (·.key.isStr z) with
      | some e => some (some e.val)
      | none => if es.toList.any (·.refKey) then none else some none) := by
    unfold PySem.W.nsIn
    rw [k.at_]
    rfl
  have hz := h.2 z
  cases q : es.toList.find? (·.key.isStr z) with
  | none =>
    rw [q] at e hz
    rw [h.1] at e
    refine ⟨none, by simpa using e, fun _ => rfl, fun d hd => ?_⟩
    rw [hd] at hz; cases hz
  | some en =>
    rw [q] at e hz
    obtain ⟨dd, v, h1, h2, h3⟩ := hz
    refine ⟨some en.val, e, fun hn => ?_, fun d hd => ?_⟩
    · rw [hn] at h1; cases h1
    · rw [h1] at hd; cases hd
      exact ⟨en.val, v, rfl, h2, h3 K⟩
end FX

set_option Elab.async false
set_option linter.all false
namespace FX
open PySem PySem.Spec L2
theorem tab_nil : TabOk [] (fun _ => none) := ⟨rfl, fun z => rfl⟩
theorem tab_cons {h : Int} {s : Str} {tok : Tok} {u : Value} {es : List DictEntry} {t : Str → Option D} {d : D} (v : V) (hv : RelV v u) (hd : ∀ K F, Rp K F v d) (T : TabOk es t) :
    TabOk (⟨h, .str s tok, u⟩ :: es) (fun z => if z = s then some d else t z) := by
  refine ⟨by rw [List.any_cons]; exact T.1, fun z => ?_⟩
  rw [List.find?_cons]
  by_cases hz : z = s
  · subst hz
    simp only [Value.isStr, BEq.rfl]
    exact ⟨d, v, by simp, hv, hd⟩
  · have : (s == z) = false := by
      rw [beq_eq_false_iff_ne]; exact fun e => hz e.symm
    simp only [Value.isStr, this, hz, if_false]
    exact T.2 z
theorem tab_t {es : List DictEntry} {t t' : Str → Option D} (T : TabOk es t) (e : t = t') : TabOk es t' := e ▸ T
example (P : Params) (a b : Tok) : PySem.W.KeysLit P [⟨PyData.keyHash P "plain", .str "plain" a, .int 1 b⟩, ⟨PyData.keyHash P "x", .str "x" a, .int 1 b⟩] := by
  ((repeat (unfold PySem.W.KeysLit; refine ⟨⟨_, _, rfl, rfl⟩, ?_⟩)); first | trivial | (unfold PySem.W.KeysLit; trivial))
end FX

set_option Elab.async false
set_option linter.all false
set_option maxRecDepth 100000
set_option maxHeartbeats 1000000
namespace FX
open PySem PySem.Spec L2

structure Pool where
  c : Int
  g : Bool
  k : Int
structure Dk where
  ps : List Pool
  i : Nat
def bi (b : Bool) : Int := if b = true then 1 else 0
def Pool.vs (p : Pool) : List V := [.int p.c, .int (bi p.g), .int p.k]

section
variable {Y : Sys} {B : Hp} {w : Wo} {s s' : Y.S}
theorem Wd.touch (W : Wd Y B w s) {H' : Hp} (ag : ∀ p, p ∉ w.A → H' p = w.H p) (r : Y.rel s' w.et w.A H') : Wd Y B { w with H := H' } s' := by
  refine ⟨fun p o e => ?_, fun p o e => ?_, W.dj, W.dA, r⟩
  · show H' p = some o
    rw [ag p fun z => by rw [(W.dA p z).1] at e; cases e]
    exact W.sF p o e
  · show H' p = some o
    rw [ag p fun z => by rw [(W.dA p z).2] at e; cases e]
    exact W.sB p o e
theorem Le.touch {H' : Hp} : Le w { w with H := H' } := ⟨Same.refl _, [], by simp⟩
end

/-- the deck d, its object at dp, the list of its pools at pp, the pools at qs -/
structure DkAt (d : Dk) (dp pp : Addr) (qs : List Addr) (H : Hp) : Prop where
  nd : (dp :: pp :: qs).Nodup
  od : H dp = some (.lst [.ref pp, .int (d.i : Nat)])
  op : H pp = some (.lst (qs.map V.ref))
  len : qs.length = d.ps.length
  oq : ∀ (j : Nat) (q : Addr) (p : Pool), qs[j]? = some q → d.ps[j]? = some p → H q = some (.lst p.vs)
theorem DkAt.frame {d : Dk} {dp pp : Addr} {qs : List Addr} {H H' : Hp} (h : DkAt d dp pp qs H) (e : ∀ p ∈ dp :: pp :: qs, H' p = H p) : DkAt d dp pp qs H' :=
  ⟨h.nd, (e _ (by simp)).trans h.od, (e _ (by simp)).trans h.op, h.len, fun j q p a b => (e _ (by simp [List.mem_of_getElem? a])).trans (h.oq j q p a b)⟩

def DkY (K : PySem.W.Frag) (sa : Addr) (ns : List Int) : Sys where
  S := Option Dk
  rel := fun s et A H => match s with
    | none => et = [] ∧ (∀ p ∈ A, H p ≠ none) ∧ ((sa ∈ A ∧ Rd H sa (.lst (ns.map V.int))) ∨ ∀ G, SqL K G sa (ns.map V.int)) ∧ ns.length ≤ 63
    | some d => ∃ dp pp qs, et = [dp] ∧ A = dp :: pp :: qs ∧ DkAt d dp pp qs H
  frame := fun {s et A H H'} h e => by
    match s, h with
    | none, ⟨a, b, c, f⟩ =>
      refine ⟨a, fun p hp => by rw [e p hp]; exact b p hp, ?_, f⟩
      rcases c with ⟨c, r⟩ | c
      · refine .inl ⟨c, ?_⟩
        unfold Rd at r ⊢
        rw [e sa c]; exact r
      · exact .inr c
    | some d, ⟨dp, pp, qs, a, b, c⟩ => exact ⟨dp, pp, qs, a, b, c.frame fun p hp => e p (by rw [b]; exact hp)⟩
  live := fun {s et A H} h => by
    match s, h with
    | none, ⟨a, b, c, f⟩ => exact b
    | some d, ⟨dp, pp, qs, a, b, c⟩ =>
      subst b
      intro p hp
      rcases List.mem_cons.mp hp with rfl | hp
      · rw [c.od]; exact fun z => nomatch z
      rcases List.mem_cons.mp hp with rfl | hp
      · rw [c.op]; exact fun z => nomatch z
      · obtain ⟨j, hj⟩ := List.getElem?_of_mem hp
        have hl := (List.getElem?_eq_some_iff.mp hj).1
        have hp2 : d.ps[j]? = some (d.ps[j]'(by rw [← c.len]; exact hl)) := List.getElem?_eq_getElem _
        rw [c.oq j _ _ hj hp2]; exact fun z => nomatch z
theorem dk_script {K : PySem.W.Frag} {sa : Addr} {ns : List Int} {et A : List Addr} {H : Hp} (h : (DkY K sa ns).rel none et A H) : SqL K H sa (ns.map V.int) := by
  obtain ⟨a, b, c | c, f⟩ := h
  · exact .inl c.2
  · exact c H
/-- the start of a law: the script is the state's own, or never in the heap -/
theorem dk_start {K : PySem.W.Frag} {sa : Addr} {ns : List Int} {H : Hp} (h : SqL K H sa (ns.map V.int)) (hn : ns.length ≤ 63) :
    ∃ w : Wo, w.H = H ∧ w.F = (fun _ => none) ∧ w.et = [] ∧ Wd (DkY K sa ns) (fun _ => none) w none := by
  rcases h with h | h
  · refine ⟨⟨fun _ => none, [sa], [], H⟩, rfl, rfl, rfl, ⟨(fun p o e => nomatch e), (fun p o e => nomatch e), (fun p e => rfl), (fun p _ => ⟨rfl, rfl⟩), ⟨rfl, (fun p hp => ?_), .inl ⟨by simp, h⟩, hn⟩⟩⟩
    have hp2 : p = sa := by simpa using hp
    subst hp2
    rcases h with h | ⟨o, h⟩
    · show H p ≠ none
      rw [h]; exact fun z => nomatch z
    · show H p ≠ none
      rw [h]; exact fun z => nomatch z
  · exact ⟨⟨fun _ => none, [], [], H⟩, rfl, rfl, rfl, ⟨(fun p o e => nomatch e), (fun p o e => nomatch e), (fun p e => rfl), (fun p _ => ⟨rfl, rfl⟩), ⟨rfl, (fun p hp => nomatch hp), .inr fun G => .inr h, hn⟩⟩⟩

def mixN (c k : Int) : Int := (c.fmod 99999999977 + 700001 * k).fmod 99999999947
def mixT (c k m : Int) : Int :=
  let a := mixN c k
  let b := (a * a).fmod 99999999821
  let e := (b * (b + 19)).fmod 9999999967
  (e.fdiv 13).fmod m
def Dk.draw (d : Dk) (m : Int) : Option (Int × Dk) :=
  match d.ps[d.i % d.ps.length]? with
  | none => none
  | some p => if p.g = true ∧ 0 < p.c then some (p.c.fmod m, ⟨d.ps.set (d.i % d.ps.length) { p with c := p.c.fdiv m }, d.i + 1⟩)
    else some (mixT p.c (p.k + 1) m, ⟨d.ps.set (d.i % d.ps.length) { p with k := p.k + 1 }, d.i + 1⟩)
theorem fmod_nat (a b : Nat) : ((a : Nat) : Int).fmod ((b : Nat) : Int) = ((a % b : Nat) : Int) := by
  rw [Int.fmod_eq_emod_of_nonneg _ (by omega)]; exact (Int.natCast_emod a b).symm
theorem fmod_rng {a m : Int} (h : 0 < m) : 0 ≤ a.fmod m ∧ a.fmod m < m := ⟨by rw [Int.fmod_eq_emod_of_nonneg _ (Int.le_of_lt h)]; exact Int.emod_nonneg _ (by omega), by rw [Int.fmod_eq_emod_of_nonneg _ (Int.le_of_lt h)]; exact Int.emod_lt_of_pos _ h⟩
theorem Dk.draw_some {d : Dk} {m : Int} (h : d.ps ≠ []) (hm : 0 < m) : ∃ x d', d.draw m = some (x, d') ∧ 0 ≤ x ∧ x < m ∧ d'.ps.length = d.ps.length := by
  have hl : 0 < d.ps.length := List.length_pos_iff.mpr h
  have hj : d.i % d.ps.length < d.ps.length := Nat.mod_lt _ hl
  unfold Dk.draw
  rw [List.getElem?_eq_getElem hj]
  simp only
  split
  · exact ⟨_, _, rfl, (fmod_rng hm).1, (fmod_rng hm).2, by simp⟩
  · exact ⟨_, _, rfl, (fmod_rng hm).1, (fmod_rng hm).2, by simp⟩
def mDraw {K : PySem.W.Frag} {sa : Addr} {ns : List Int} : Fm (DkY K sa ns) := fun rs s => match rs, s with
  | [.h 0, .v (.int m)], some d => if 0 < m ∧ m < 1073741824 then (match d.draw m with
    | some (x, d') => some (.ok (.v (.int x)), some d')
    | none => none) else none
  | _, _ => none
/-- what a store into a pool and into the deck leaves -/
theorem DkAt.put {d : Dk} {dp pp : Addr} {qs : List Addr} {H : Hp} (h : DkAt d dp pp qs H) {j : Nat} {q : Addr} {p : Pool} (hq : qs[j]? = some q) {H' : Hp} {n : Nat}
    (hd : H' dp = some (.lst [.ref pp, .int (n : Nat)])) (hH : H' q = some (.lst p.vs)) (ho : ∀ r, r ≠ dp → r ≠ q → H' r = H r) : DkAt ⟨d.ps.set j p, n⟩ dp pp qs H' := by
  have nd := h.nd
  have n1 := (List.nodup_cons.mp nd).1
  have n2 := (List.nodup_cons.mp nd).2
  have n3 := (List.nodup_cons.mp n2).1
  have n4 := (List.nodup_cons.mp n2).2
  have mq := List.mem_of_getElem? hq
  refine ⟨nd, hd, ?_, by simp [h.len], fun j' q' p' a b => ?_⟩
  · rw [ho pp (fun z => n1 (by rw [← z]; simp)) (fun z => n3 (by rw [z]; exact mq))]; exact h.op
  · by_cases e : j' = j
    · subst e
      rw [hq] at a; cases a
      have hl : j' < d.ps.length := by rw [← h.len]; exact (List.getElem?_eq_some_iff.mp hq).1
      simp only [List.getElem?_set_self hl] at b
      cases b; exact hH
    · have hne : q' ≠ q := fun z => by
        subst z
        obtain ⟨l1, e1⟩ := List.getElem?_eq_some_iff.mp hq
        obtain ⟨l2, e2⟩ := List.getElem?_eq_some_iff.mp a
        exact e ((List.getElem_inj n4).mp (e2.trans e1.symm))
      rw [ho q' (fun z => n1 (by rw [← z]; simp [List.mem_of_getElem? a])) hne]
      exact h.oq j' q' p' a (by rwa [List.getElem?_set_ne (fun z => e z.symm)] at b)
theorem mDraw_some {K : PySem.W.Frag} {sa : Addr} {ns : List Int} {rs : List R} {s : (DkY K sa ns).S} {out : Oc R × (DkY K sa ns).S} (h : mDraw rs s = some out) :
    ∃ m d x d', rs = [.h 0, .v (.int m)] ∧ s = some d ∧ 0 < m ∧ m < 1073741824 ∧ d.draw m = some (x, d') ∧ out = (.ok (.v (.int x)), some d') := by
  unfold mDraw at h
  split at h
  · rename_i m d
    split at h
    · rename_i hm
      cases e : d.draw m with
      | none => rw [e] at h; cases h
      | some r =>
        rw [e] at h
        cases h
        exact ⟨m, d, r.1, r.2, rfl, rfl, hm.1, hm.2, e, rfl⟩
    · cases h
  · cases h
theorem Dk.draw_cases {d d' : Dk} {m x : Int} (h : d.draw m = some (x, d')) : ∃ p, d.ps[d.i % d.ps.length]? = some p ∧
    ((p.g = true ∧ 0 < p.c ∧ x = p.c.fmod m ∧ d' = ⟨d.ps.set (d.i % d.ps.length) { p with c := p.c.fdiv m }, d.i + 1⟩) ∨
    (¬ (p.g = true ∧ 0 < p.c) ∧ x = mixT p.c (p.k + 1) m ∧ d' = ⟨d.ps.set (d.i % d.ps.length) { p with k := p.k + 1 }, d.i + 1⟩)) := by
  unfold Dk.draw at h
  split at h
  · cases h
  · rename_i p e
    refine ⟨p, e, ?_⟩
    split at h
    · rename_i c; cases h; exact .inl ⟨c.1, c.2, rfl, rfl⟩
    · rename_i c; cases h; exact .inr ⟨c, rfl, rfl⟩
theorem seqL {K : PySem.W.Frag} {H H' : Hp} {a : Addr} {xs : List V} (e : Same H H') (h : SqL K H a xs) : SqL K H' a xs := by
  rcases h with (h | ⟨o, h⟩) | h
  · exact .inl (.inl (e _ _ h))
  · exact .inl (.inr ⟨o, e _ _ h⟩)
  · exact .inr h
theorem same_new {H : Hp} {p : Addr} {o : HO} (h : H p = none) : Same H (upd H p o) := fun q u e => by rw [upd_ne (ne_of_none e h)]; exact e
def poolOf (ns : List Int) (i : Nat) : Pool := ⟨(ns[i]?).getD 0, decide ((1000000000000000000 : Int) ≤ (ns[i]?).getD 0), 31 * (0 + (i : Nat))⟩
def manyOf (n : Nat) : Int := if (if (n : Int) < 63 then (n : Int) else 63) > 1 then (if (n : Int) < 63 then (n : Int) else 63) else 1
theorem manyOf_rng (n : Nat) : 1 ≤ manyOf n ∧ manyOf n ≤ 63 := by
  unfold manyOf
  split <;> split at * <;> omega
def deckOf (ns : List Int) : Dk := ⟨(List.range (manyOf ns.length).toNat).map (poolOf ns), 0⟩
theorem deckOf_ne (ns : List Int) : (deckOf ns).ps ≠ [] := by
  have h := manyOf_rng ns.length
  unfold deckOf
  intro z
  have := congrArg List.length z
  simp only [List.length_map, List.length_range, List.length_nil] at this
  omega
def mDeck {K : PySem.W.Frag} {sa : Addr} {ns : List Int} : Fm (DkY K sa ns) := fun rs s => match rs, s with
  | [.raw (.ref a)], none => if a = sa then some (.ok (.h 0), some (deckOf ns)) else none
  | _, _ => none
theorem mDeck_some {K : PySem.W.Frag} {sa : Addr} {ns : List Int} {rs : List R} {s : (DkY K sa ns).S} {out : Oc R × (DkY K sa ns).S} (h : mDeck rs s = some out) :
    rs = [.raw (.ref sa)] ∧ s = none ∧ out = (.ok (.h 0), some (deckOf ns)) := by
  unfold mDeck at h
  split at h
  · rename_i a
    split at h
    · rename_i e; cases h; subst e; exact ⟨rfl, rfl, rfl⟩
    · cases h
  · cases h
/-- the loop of the deck's making -/
structure DkLoop (ns : List Int) (H0 : Hp) (pp : Addr) (qs : List Addr) (i : Nat) (H : Hp) : Prop where
  sm : Same H0 H
  np : H0 pp = none
  nq : ∀ q ∈ qs, H0 q = none
  nd : (pp :: qs).Nodup
  len : qs.length = i
  op : H pp = some (.lst (qs.map V.ref))
  oq : ∀ (j : Nat) (q : Addr), qs[j]? = some q → H q = some (.lst (poolOf ns j).vs)
theorem DkLoop.step {ns : List Int} {H0 : Hp} {pp : Addr} {qs : List Addr} {i : Nat} {H : Hp} (h : DkLoop ns H0 pp qs i H) {q : Addr} (hq : H q = none) {vs : List V} (e : vs = (poolOf ns i).vs) :
    DkLoop ns H0 pp (qs ++ [q]) (i + 1) (upd (upd H q (.lst vs)) pp (.lst (qs.map V.ref ++ [.ref q]))) := by
  have qp : q ≠ pp := fun z => by subst z; rw [h.op] at hq; cases hq
  have qn : q ∉ qs := fun z => by
    obtain ⟨j, hj⟩ := List.getElem?_of_mem z
    rw [h.oq j q hj] at hq; cases hq
  have h0 : H0 q = none := by
    cases e0 : H0 q with
    | none => rfl
    | some o => rw [h.sm q o e0] at hq; cases hq
  have n1 := (List.nodup_cons.mp h.nd).1
  have n2 := (List.nodup_cons.mp h.nd).2
  refine ⟨fun r o er => ?_, h.np, fun r hr => ?_, ?_, by simp [h.len], ?_, fun j r hj => ?_⟩
  · rw [upd_ne (fun z => by subst z; rw [h.np] at er; cases er), upd_ne (fun z => by subst z; rw [h0] at er; cases er)]
    exact h.sm r o er
  · rcases List.mem_append.mp hr with hr | hr
    · exact h.nq r hr
    · have : r = q := by simpa using hr
      subst this; exact h0
  · refine List.nodup_cons.mpr ⟨fun z => ?_, List.nodup_append.mpr ⟨n2, by simp, fun a ha b hb => ?_⟩⟩
    · rcases List.mem_append.mp z with z | z
      · exact n1 z
      · exact qp (List.mem_singleton.mp z).symm
    · have : b = q := by simpa using hb
      subst this; exact fun z => qn (by rw [← z]; exact ha)
  · rw [upd_same]; simp
  · by_cases hl : j < qs.length
    · rw [List.getElem?_append_left hl] at hj
      have hm := List.mem_of_getElem? hj
      rw [upd_ne (fun z => n1 (by rw [← z]; exact hm)), upd_ne (fun z => qn (by rw [← z]; exact hm))]
      exact h.oq j r hj
    · rw [List.getElem?_append_right (by omega)] at hj
      have h1 := (List.getElem?_eq_some_iff.mp hj).1
      simp at h1
      have h2 : j = i := by rw [← h.len]; omega
      subst h2
      have h3 : r = q := by
        rw [← h.len] at hj
        simpa using hj.symm
      subst h3
      rw [upd_ne qp, upd_same, e]
theorem DkLoop.end {K : PySem.W.Frag} {sa : Addr} {ns : List Int} {B : Hp} {w : Wo} {pp : Addr} {qs : List Addr} {H : Hp} (W : Wd (DkY K sa ns) B w none)
    (h : DkLoop ns w.H pp qs (manyOf ns.length).toNat H) {dp : Addr} (hd : H dp = none) :
    ∃ w' : Wo, w'.H = upd H dp (.lst [.ref pp, .int 0]) ∧ Wd (DkY K sa ns) B w' (some (deckOf ns)) ∧ w'.et = [dp] ∧ Le w w' := by
  have h0 : w.H dp = none := by
    cases e0 : w.H dp with
    | none => rfl
    | some o => rw [h.sm dp o e0] at hd; cases hd
  have dpp : dp ≠ pp := fun z => by subst z; rw [h.op] at hd; cases hd
  have dq : dp ∉ qs := fun z => by
    obtain ⟨j, hj⟩ := List.getElem?_of_mem z
    rw [h.oq j dp hj] at hd; cases hd
  have sm : Same w.H (upd H dp (.lst [.ref pp, .int 0])) := fun r o er => by
    rw [upd_ne (fun z => by subst z; rw [h0] at er; cases er)]; exact h.sm r o er
  have et0 : w.et = [] := W.rel.1
  have new : ∀ p ∈ dp :: pp :: qs, w.H p = none := fun p hp => by
    rcases List.mem_cons.mp hp with rfl | hp
    · exact h0
    rcases List.mem_cons.mp hp with rfl | hp
    · exact h.np
    · exact h.nq p hp
  refine ⟨⟨w.F, dp :: pp :: qs, [dp], upd H dp (.lst [.ref pp, .int 0])⟩, rfl, ⟨W.sF.trans sm, W.sB.trans sm, W.dj, fun p hp => ⟨?_, ?_⟩, dp, pp, qs, rfl, rfl, ?_⟩, rfl, ⟨Same.refl _, [dp], by rw [et0]; rfl⟩⟩
  · cases e : w.F p with
    | none => rfl
    | some o => have := W.sF p o e; rw [new p hp] at this; cases this
  · cases e : B p with
    | none => rfl
    | some o => have := W.sB p o e; rw [new p hp] at this; cases this
  · refine ⟨List.nodup_cons.mpr ⟨fun z => ?_, h.nd⟩, upd_same, ?_, ?_, fun j q p a b => ?_⟩
    · rcases List.mem_cons.mp z with z | z
      · exact dpp z
      · exact dq z
    · exact (upd_ne (Ne.symm dpp)).trans h.op
    · simp [deckOf, h.len]
    · have hm := List.mem_of_getElem? a
      refine ((upd_ne (fun z => dq (by rw [← z]; exact hm))).trans (h.oq j q a)).trans ?_
      have hj := (List.getElem?_eq_some_iff.mp a).1
      rw [h.len] at hj
      unfold deckOf at b
      simp only [List.getElem?_map, List.getElem?_range hj, Option.map_some, Option.some.injEq] at b
      rw [b]
end FX

set_option Elab.async false
set_option linter.all false
set_option maxRecDepth 100000
set_option maxHeartbeats 1000000
namespace FX
open PySem PySem.Spec L2

/-- as FnOk, but only where no repr is under way -/
structure FnG (P : Program) (w : World) (K : PySem.W.Frag) (mg : Str → Option Value) (base : Heap) (CX : CXT) (k : Nat) (f : Addr) (fd : FuncData) (ps : List Str) (sp : Sp) : Prop where
  len : ∀ (vs : List V) (H : Hp) (Q : VK) (E : XK), sp vs H Q E → vs.length = ps.length
  run : ∀ (A : Around) (outer : List Env) (s : Shared) (H : Hp) (args : Args) (us : List Value) (vs : List V) (Q : VK) (E : XK), Room k A → A.guards = some [] → Env0 P w K mg base A outer s H →
    BindsTo s fd args (ps.zip us) → Vals vs us → sp vs H Q E → codeAny (model P w) A (.call (.ref f) args) (CR CX outer P w H s Q E) s
theorem FnG.of {P : Program} {w : World} {K : PySem.W.Frag} {mg : Str → Option Value} {base : Heap} {CX : CXT} {k : Nat} {f : Addr} {fd : FuncData} {ps : List Str} {sp : Sp} (F : FnOk P w K mg base CX k f fd ps sp) : FnG P w K mg base CX k f fd ps sp :=
  ⟨F.len, fun A outer s H args us vs Q E hr _ => F.run A outer s H args us vs Q E hr⟩
section
variable {X : Cx} {CX : CXT} {k : Nat} {f : Addr} {fd : FuncData} {ps : List Str} {sp : Sp} {dvs : List V} {ds : List Value} {E : XK}
theorem run_fnG {pins : List (Addr × Obj)} {σ : L2.St} {H : Hp} {s : Shared} {Q : VK} {us : List Value} {vs : List V} (F : FnG X.prog X.w X.K X.mg X.base CX k f fd ps sp) (hr : Room k X.A) (hG : X.A.guards = some [])
    (hb : Binds X.K fd ps ds) (hd : Vals dvs ds) (hx : Passes CX X E) (I : Inv X pins σ H s) (r : Vals vs us) (h : sp (vs ++ dvs) H Q E) :
    wpAny (model X.prog X.w) X.A (call (.ref f) us) (EP X pins σ Q) X.xe s := by
  have r2 := L2.Vals.append r hd
  have hl : (us ++ ds).length = ps.length := by rw [← L2.Vals.length r2]; exact F.len _ _ _ _ h
  refine wpAny_call (codeAny_mono (F.run X.A X.stack s H ⟨us, []⟩ (us ++ ds) (vs ++ dvs) Q E hr hG (L2.Inv.env0 I) (hb s us (L2.Inv.kIn I) hl) r2 h) fun r s' hq => ?_)
  cases r with
  | error e => exact hx pins σ H s e s' I hq
  | ok fl =>
    cases fl with
    | ret u => exact L2.Inv.after I hq
    | next => exact hq.elim
    | brk => exact hq.elim
    | cont => exact hq.elim
theorem pe_callG {x : Str} {p pos : Pos} {e : Expr} {es : List Expr} {t : TA} (F : FnG X.prog X.w X.K X.mg X.base CX k f fd ps sp) (hr : Room k X.A) (hG : X.A.guards = some []) (hg : Gl X x)
    (hm : X.mg x = some (.ref f)) (hk : PySem.W.keepIn X.K (.ref f) = true) (hb : Binds X.K fd ps ds) (hd : Vals dvs ds) (hx : Passes CX X E) (ha : PA X (e :: es) t)
    (hdb : (x == ("__debug__" : Str)) = false := by rfl)
    (he : starEach (e :: es) X.env = (false, eval e X.env) :: starEach es X.env := by rfl)
    (hpl : (backTo pos (starEach es X.env)).any (·.1) = false := by rfl) : PE X (.Call (.Name x p) (e :: es) [] pos) (tCall sp dvs E t) :=
  ⟨fun pins s σ H Q I h => wpAny_Call_Name_kw (L2.ld_glob I hg hm
    (PySem.W.callWith_K I.ok.mod.kin hk (L2.thn (ha.run pos pins s σ H (fun vs H1 => sp (vs ++ dvs) H1 Q E) I h) fun us s1 ⟨vs, H1, I1, r, q⟩ => ⟨L2.Inv.kIn I1, run_fnG F hr hG hb hd hx I1 r q⟩) he hpl) hdb)⟩
end
section
variable {CX : CXT} {P : Program} {w : World} {K : PySem.W.Frag} {mg : Str → Option Value} {base : Heap} {k : Nat} {f : Addr} {sp : Sp} {N ps : List Str}
theorem fn_ofG {name qual : Str} {params : Arguments} {body : List Stmt} {scope : Scope} {dV kV doc pm cdv ct oc : Value} {an od : Option Addr} {osl : Array (Option Value)}
    (lk : K.lookup f = some ⟨oc, od, .func (PySem.W.fnOf name qual params body scope dV kV doc pm an cdv ct), osl⟩) (hcd : PySem.W.codeIn K cdv qual = true) (S : FnScope N ps scope)
    (len : ∀ (vs : List V) (H : Hp) (Q : VK) (E : XK), sp vs H Q E → vs.length = ps.length)
    (hbody : ∀ (A : Around) (outer : List Env) (s : Shared) (H : Hp) (vs : List V) (Q : VK) (E : XK), Room k (A.deeper (PyProof.Rows.envOfC qual scope s.heap.objs.size f cdv)) → A.guards = some [] → sp vs H Q E →
      ∃ t, PSs (cxOf CX P w K mg base N qual scope f cdv A outer s H E) body t ∧ t { nx := fun _ H' => Q .non H', rt := Q } (L2.start N vs) H) :
    FnG P w K mg base CX (k + 1) f (PySem.W.fnOf name qual params body scope dV kV doc pm an cdv ct) ps sp := by
  refine ⟨len, fun A outer s H args us vs Q E hr hG e0 hb r hsp => ?_⟩
  have hl := len vs H Q E hsp
  have KX := PySem.W.Frag.In.keeps e0.mod.kin fun b o e => (e0.bs b o e).1
  have lim := PySem.Heap.NoLimit.keeps e0.mod.nolimit fun b o e => (e0.bs b o e).1
  refine codeAny_call_function (L2.Room.depth hr) (KX f _ lk) rfl S.co S.gen rfl (PySem.W.codeRec_of KX hcd) (hb _ _ _ _ (wpAny_newFunctionEnv_cells S.kind (fun x hy => ?_) fun env he s1 x => ?_))
  · obtain ⟨n, v⟩ := x
    rcases S.par n (List.of_mem_zip hy).1 with q | q
    · exact .inl q
    · exact .inr ⟨q, PySem.W.cellsFrom_some scope.names (s.heap.objs.size + 1) [] (.inl q)⟩
  · subst he
    refine ⟨PySem.Heap.NoLimit.keeps lim x.toInCall.keep, codeAny_func ?_⟩
    obtain ⟨t, ht, hq⟩ := hbody A outer s H vs Q E (L2.Room.deeper hr _) hG hsp
    have I := L2.inv_start (CX := CX) (E := E) S hr.hd e0 hl r x
    refine wpAny_mono (ht.run [] s1 (L2.start N vs) H { nx := fun _ H' => Q .non H', rt := Q } I hq) (fun fl s' hs => ?_) fun e s' hs => hs
    have fin : ∀ {σ' : L2.St} {H' : Hp} {v : V} {u : Value}, Inv (cxOf CX P w K mg base N qual scope f cdv A outer s H E) [] σ' H' s' → RelV v u → Q v H' → CR CX outer P w H s Q E (.ok (.ret u)) s' :=
      fun J rv q => ⟨_, _, J.os, J.bare, J.base, J.hok, rv, q⟩
    cases fl with
    | next => obtain ⟨σ', H', J, q⟩ := hs; exact fin (v := .non) (u := .none) J rfl q
    | brk => obtain ⟨_, _, _, q⟩ := hs; exact q.elim
    | cont => obtain ⟨_, _, _, q⟩ := hs; exact q.elim
    | ret u => obtain ⟨v, σ', H', J, rv, q⟩ := hs; exact fin J rv q
theorem okG {x qual : Str} {st : Stmt} {fd : FuncData} (F : Fun K x qual st f fd) (S : FnScope N ps (defScope st))
    (len : ∀ (vs : List V) (H : Hp) (Q : VK) (E : XK), sp vs H Q E → vs.length = ps.length)
    (hbody : ∀ (cdv : Value) (A : Around) (outer : List Env) (s : Shared) (H : Hp) (vs : List V) (Q : VK) (E : XK), Room k (A.deeper (PyProof.Rows.envOfC qual (defScope st) s.heap.objs.size f cdv)) → A.guards = some [] → sp vs H Q E →
      ∃ t, PSs (cxOf (L2.CX P w) P w K mg base N qual (defScope st) f cdv A outer s H E) (defBody st) t ∧ t { nx := fun _ H' => Q .non H', rt := Q } (L2.start N vs) H) :
    FnG P w K mg base (L2.CX P w) (k + 1) f fd ps sp := by
  obtain ⟨oc, od, kV, doc, pm, an, cdv, ct, osl, rfl, lk, hcd⟩ := F.ex
  exact fn_ofG lk hcd S len fun A outer s H vs Q E hr hG hsp => hbody cdv A outer s H vs Q E hr hG hsp
end
section
variable {P : Program} {w : World} {K : PySem.W.Frag} {mg mb : Str → Option Value} {CX : CXT} {k : Nat} {fa a : Addr} {fd : FuncData} {x : Str} {sp : Sp} {s₁ : Shared} {vs : List Value} {ns : List Int}
theorem law_callG (KX : K.In s₁.heap) (hns : s₁.heap.Ns mainGlobals mg) (hb : s₁.heap.Ns builtinsNs mb) (hbb : ∀ (x : Str), x ≠ ("__name__" : Str) → mb x = bootBuiltins x) (hlim : s₁.heap.NoLimit) (hg : s₁.gens = #[])
    (ha : s₁.heap.get? a = some { cls := .type "list", data := .seq vs.toArray }) (hi : PyProof.Rows.IntsAre vs ns) (hl : ns.length ≤ sizeLine) (hr : Room k callerA)
    (F : ∀ base : Heap, K.In base → base.Ns mainGlobals mg → FnG P w K mg base CX k fa fd [x] sp) (hbind : ∀ (s : Shared) (u : Value), BindsTo s fd ⟨[u], []⟩ [(x, u)])
    (hsp : ∀ H : Hp, Only H → SqL K H a (ns.map V.int) → sp [.ref a] H (fun v _ => v = .bl true) fun _ _ _ => False) (hCX : ∀ (H : Hp) (e : Value) (s' : Shared), CX [] H s₁ (fun _ _ _ => False) e s' → False) :
    codeAny (model P w) callerA (.call (.ref fa) ⟨[.ref a], []⟩) (fun r s' => r = .ok (.ret (.bool true)) ∧ OldK s₁.heap s'.heap ∧ s'.os = s₁.os ∧ PyProof.Rows.AllBare s'.gens) s₁ := by
  have rv := L2.vals_ints hi
  have lenV := PyProof.Rows.IntsAre.length hi
  have core : ∀ H : Hp, Only H → SqL K H a (ns.map V.int) → HOk P w H s₁.heap → (∀ b, H b ≠ none → b = a) → (H a ≠ none → K.lookup a = none) →
      codeAny (model P w) callerA (.call (.ref fa) ⟨[.ref a], []⟩) (fun r s' => r = .ok (.ret (.bool true)) ∧ OldK s₁.heap s'.heap ∧ s'.os = s₁.os ∧ PyProof.Rows.AllBare s'.gens) s₁ := by
    intro H hO hS hok hA hK
    have noA : ∀ {b o es ep}, s₁.heap.get? b = some o → o.data = .dict es ep → H b = none := by
      intro b o es ep e d
      cases q : H b with
      | none => rfl
      | some u =>
        have e' := hA b (by rw [q]; exact fun z => nomatch z)
        subst e'
        rw [ha] at e; cases e; cases d
    have nsK : ∀ {b m}, s₁.heap.Ns b m → (hidT s₁.heap H).Ns b m := by
      rintro b m ⟨o, es, ep, e, d, r⟩
      exact ⟨o, es, ep, hidT_get e (noA e d), d, r⟩
    have hKb : K.In (hidT s₁.heap H) := fun b o e => hidT_get (KX b o e) (by
      cases q : H b with
      | none => rfl
      | some u =>
        have e' := hA b (by rw [q]; exact fun z => nomatch z)
        subst e'
        rw [hK (by rw [q]; exact fun z => nomatch z)] at e; cases e)
    have hM : Mod K mg (hidT s₁.heap H) := ⟨hKb, nsK hns, ⟨mb, nsK hb, hbb⟩, by obtain ⟨mc, h1, h2⟩ := hlim; exact ⟨mc, nsK h1, h2⟩⟩
    have e0 : Env0 P w K mg (hidT s₁.heap H) callerA [] s₁ H := ⟨rfl, hM, fun b o e => of_hidT e, Nat.le_of_eq (hidT_size _ _), trivial, (fun b hb => nomatch hb), hok, PyProof.Rows.AllBare.of_eq hg⟩
    refine codeAny_mono ((F (hidT s₁.heap H) hKb (nsK hns)).run callerA [] s₁ H ⟨[.ref a], []⟩ [.ref a] [.ref a] (fun v _ => v = .bl true) (fun _ _ _ => False) hr rfl e0 (hbind s₁ (.ref a)) (.cons rfl .nil) (hsp H hO hS)) fun r s' h => ?_
    cases r with
    | error e => exact (hCX H e s' h).elim
    | ok fl =>
      cases fl with
      | next => exact h.elim
      | brk => exact h.elim
      | cont => exact h.elim
      | ret u =>
        obtain ⟨v, H', os, bare, un, hok', r', q⟩ := h
        have q' : v = .bl true := q
        subst q'
        have hu : u = .bool true := r'
        refine ⟨by rw [hu], OldK.of_keep fun b o e => ?_, os, bare⟩
        cases q : H b with
        | none => exact un.keep b o e q (fun z => nomatch z) (fun z => nomatch z)
        | some u =>
          rcases hO b with z | ⟨ob, xs, z⟩
          · rw [q] at z; cases z
          · have z2 := un.frzs b ob (.lst xs) z
            obtain ⟨e1, _⟩ := hok b _ z
            obtain ⟨e2, _⟩ := hok' b _ z2
            rw [e] at e1; cases e1; exact e2
  cases hk : K.lookup a with
  | none =>
    refine core (fun b => if b = a then some (.frz { cls := .type "list", data := .seq vs.toArray } (.lst (ns.map V.int))) else none) (fun b => ?_) (.inl (.inr ⟨_, if_pos rfl⟩)) (fun b u z => ?_) (fun b z => ?_) (fun _ => hk)
    · by_cases hb : b = a
      · exact .inr ⟨_, _, if_pos hb⟩
      · exact .inl (if_neg hb)
    · by_cases hb : b = a
      · subst hb
        have z' := (if_pos rfl).symm.trans z
        cases z'
        exact ⟨ha, by rw [List.length_map]; exact hl, vs, 0, rv, ha⟩
      · have z' := (if_neg hb).symm.trans z
        cases z'
    · by_cases hb : b = a
      · exact hb
      · exact absurd (if_neg hb) z
  | some o =>
    have e := KX a o hk
    rw [ha] at e
    cases e
    refine core (fun _ => none) (fun _ => .inl rfl) (.inr ⟨_, vs.toArray, 0, hk, rfl, rfl, rfl, by rw [List.size_toArray, lenV]; exact hl, by simpa using rv⟩) (fun b u z => nomatch z) (fun b z => absurd rfl z) (fun z => absurd rfl z)
end
section
open PySem.W
theorem walk_ofG {l : OpenLaw} {n k : Nat} {q : Program} {loose : List Str} {XP : (Str → Option Value) → Heap → Prop} {YP : World → Heap → Prop} {d : DefRec} {K : Params → Frag} {CX : World → CXT} {sp : World → Sp} {x : Str}
    (hn : l.most = some n) (hn2 : n ≤ sizeLine) (hdf : d.params.defaults = []) (hr : Room k callerA) (hY : ∀ (w : World) (h : Heap), YP w h → (K w.params).In h)
    (F : ∀ (w : World) (mg : Str → Option Value) (fa : Addr) (h : Heap), (K w.params).In h → h.Ns mainGlobals mg → mg d.name = some (.ref fa) →
      ∃ fd : FuncData, (∀ (s : Shared) (u : Value), BindsTo s fd ⟨[u], []⟩ [(x, u)]) ∧ ∀ base : Heap, (K w.params).In base → base.Ns mainGlobals mg → FnG l.prog w (K w.params) mg base (CX w) k fa fd [x] (sp w))
    (hsp : ∀ (w : World) (H : Hp) (a : Addr) (ns : List Int), ns.length ≤ n → Only H → SqL (K w.params) H a (ns.map V.int) → sp w [.ref a] H (fun v _ => v = .bl true) fun _ _ _ => False)
    (hCX : ∀ (w : World) (H : Hp) (s : Shared) (e : Value) (s' : Shared), CX w [] H s (fun _ _ _ => False) e s' → False) :
    WalkO q loose XP YP l.row.toRowW d [] fun f vs => PySem.call f vs :=
  Att.attach_call hn hdf fun w s₀ s₁ mg mb fa o pm cd doc a vs ns G Y ho hd hcd hmg hobj hints hlen hg => by
    have KX := hY w s₁.heap Y
    obtain ⟨fd, hb, hF⟩ := F w mg fa s₁.heap KX G.T.g hmg
    exact law_callG KX G.T.g G.T.b G.T.builtins G.T.nolimit hg hobj hints (Nat.le_trans hlen hn2) hr hF hb (fun H hO hS => hsp w H a ns hlen hO hS) fun H e s' => hCX w H s₁ e s'
end
end FX

set_option Elab.async false
set_option linter.all false
set_option maxRecDepth 100000
set_option maxHeartbeats 1000000
namespace FX
open PySem PySem.Spec L2

section
variable {P : Program} {w : World} {K : PySem.W.Frag} {H : Hp} {h : Heap}
theorem rp_reads (ok : HOk P w H h) {x : V} {d : D} (r : Rp K H x d) : ∀ {u : Value}, RelV x u → ∃ as, Reads h u d as := by
  refine @Rp.rec K H (fun x d _ => ∀ {u : Value}, RelV x u → ∃ as, Reads h u d as) (fun xs ds _ => ∀ {us : List Value}, Vals xs us → ∃ as, ReadsAll h us ds as) ?_ ?_ ?_ ?_ ?_ ?_ ?_ ?_ ?_ x d r
  · intro u e; cases e; exact ⟨_, .none⟩
  · intro b u e; cases e; exact ⟨_, .bool b⟩
  · intro i u e; obtain ⟨t, rfl⟩ := e; exact ⟨_, .int i t⟩
  · intro z u e; obtain ⟨t, rfl⟩ := e; exact ⟨_, .str z t⟩
  · intro a xs ds ha _ ih u e
    cases e
    obtain ⟨_, its, n, hv, hg⟩ := ok a _ ha
    obtain ⟨as, q⟩ := ih hv
    exact ⟨_, .list hg rfl rfl (by simpa using q)⟩
  · intro a xs ds ha _ ih u e
    cases e
    obtain ⟨_, its, hv, o, hg, hc, n, hd⟩ := ok a _ ha
    obtain ⟨as, q⟩ := ih hv
    exact ⟨_, .tuple hg hc hd (by simpa using q)⟩
  · intro a ha u e
    cases e
    obtain ⟨_, hs, vs, hv, o, es, ep, hg, hx, hd, hk, hp, _⟩ := ok a _ ha
    cases hv
    have he : es.toList = [] := by
      cases q : es.toList with
      | nil => rfl
      | cons e l => rw [q] at hp; cases hp
    exact ⟨_, .dict hg hx.1 hd (by rw [he]; exact .nil) (by rw [he]; exact .nil)⟩
  · intro us e; cases e; exact ⟨_, .nil⟩
  · intro v vs d ds _ _ ih1 ih2 us e
    cases e with
    | cons e1 e2 =>
      obtain ⟨as, q1⟩ := ih1 e1
      obtain ⟨bs, q2⟩ := ih2 e2
      exact ⟨_, .cons q1 q2⟩
theorem rp_reads_dic (ok : HOk P w H h) {a : Addr} (ha : H a = some (.dK [])) : Reads h (.ref a) (.dict []) [a] ∧ a ≠ sysModules := by
  obtain ⟨_, hs, vs, hv, o, es, ep, hg, hx, hd, hk, hp, _⟩ := ok a _ ha
  cases hv
  have he : es.toList = [] := by
    cases q : es.toList with
    | nil => rfl
    | cons e l => rw [q] at hp; cases hp
  refine ⟨.dict (as := []) (bs := []) hg hx.1 hd (by rw [he]; exact .nil) (by rw [he]; exact .nil), fun z => ?_⟩
  subst z
  exact absurd hs (by decide)
theorem rp_reprK (ok : HOk P w H h) {x : V} {d : D} (r : Rp K H x d) : ∀ {u : Value}, RelV x u → d.showable = true → d.shown.length ≤ sizeLine → ∃ bs, ReadAtMost h d.depth bs ∧ ReprK P w bs h d.depth u d.shown := by
  refine @Rp.rec K H (fun x d _ => ∀ {u : Value}, RelV x u → d.showable = true → d.shown.length ≤ sizeLine → ∃ bs, ReadAtMost h d.depth bs ∧ ReprK P w bs h d.depth u d.shown)
    (fun xs ds _ => ∀ {us : List Value}, Vals xs us → PyData.showableAll ds = true → (∀ t ∈ PyData.shownAll ds, t.length ≤ sizeLine) → ∃ bs, ReadAtMost h (PyData.depthAll ds) bs ∧ ReprAllK P w bs h (PyData.depthAll ds) us (PyData.shownAll ds)) ?_ ?_ ?_ ?_ ?_ ?_ ?_ ?_ ?_ x d r
  · intro u e hs hz; cases e; exact ReprK.of_reads .none hs (fun z => nomatch z) hz
  · intro b u e hs hz; cases e; exact ReprK.of_reads (.bool b) hs (fun z => nomatch z) hz
  · intro i u e hs hz; obtain ⟨t, rfl⟩ := e; exact ReprK.of_reads (.int i t) hs (fun z => nomatch z) hz
  · intro z u e hs hz; obtain ⟨t, rfl⟩ := e; exact ReprK.of_reads (.str z t) hs (fun z => nomatch z) hz
  · intro a xs ds ha rr ih u e hs hz
    cases e
    obtain ⟨_, its, n, hv, hg⟩ := ok a _ ha
    obtain ⟨as, rd⟩ := rp_reads (K := K) ok (.lst ha rr) (u := .ref a) rfl
    have hs' : PyData.showableAll ds = true := by unfold PyData.showable at hs; exact hs
    have hz' : (listText (PyData.shownAll ds)).length ≤ sizeLine := by unfold PyData.shown at hz; exact hz
    obtain ⟨bs, hb, hk⟩ := ih hv hs' fun t ht => Nat.le_trans (listText_mem_le ht) hz'
    have hd : PyData.depthAll ds < (PyData.list ds).depth := by
      show PyData.depthAll ds < PyData.depth (.list ds)
      unfold PyData.depth; exact Nat.lt_succ_self _
    have hna := not_mem_of_deeper rd hd hb
    refine ⟨a :: bs, ReadAtMost.cons rd (Nat.le_of_lt hd) hb, ?_⟩
    have e1 : (PyData.list ds).depth = PyData.depthAll ds + 1 := by
      show PyData.depth (.list ds) = _
      unfold PyData.depth; rfl
    have e2 : (PyData.list ds).shown = listText (PyData.shownAll ds) := by
      show PyData.shown (.list ds) = _
      unfold PyData.shown; rfl
    rw [e1, e2]
    cases its with
    | nil =>
      cases hv
      cases rr
      exact ReprK.listEmpty hg rfl rfl
    | cons y l => exact ReprK.list hg rfl rfl hna (by rw [ReprAllK.length_eq hk]; simp) fun i y e => ReprAllK.item hk i y (by simpa using e)
  · intro a xs ds ha rr ih u e hs hz
    cases e
    obtain ⟨_, its, hv, o, hg, hc, n, hdt⟩ := ok a _ ha
    obtain ⟨as, rd⟩ := rp_reads (K := K) ok (.tup ha rr) (u := .ref a) rfl
    have hs' : PyData.showableAll ds = true := by unfold PyData.showable at hs; exact hs
    have hz' : (tupleText (PyData.shownAll ds)).length ≤ sizeLine := by unfold PyData.shown at hz; exact hz
    obtain ⟨bs, hb, hk⟩ := ih hv hs' fun t ht => Nat.le_trans (tupleText_mem_le ht) hz'
    have hd : PyData.depthAll ds < (PyData.tuple ds).depth := by
      show PyData.depthAll ds < PyData.depth (.tuple ds)
      unfold PyData.depth; exact Nat.lt_succ_self _
    have hna := not_mem_of_deeper rd hd hb
    refine ⟨a :: bs, ReadAtMost.cons rd (Nat.le_of_lt hd) hb, ?_⟩
    have e1 : (PyData.tuple ds).depth = PyData.depthAll ds + 1 := by
      show PyData.depth (.tuple ds) = _
      unfold PyData.depth; rfl
    have e2 : (PyData.tuple ds).shown = tupleText (PyData.shownAll ds) := by
      show PyData.shown (.tuple ds) = _
      unfold PyData.shown; rfl
    rw [e1, e2]
    exact ReprK.tuple hg hc hdt hna (by simpa using hk)
  · intro a ha u e hs hz
    cases e
    obtain ⟨rd, ne⟩ := rp_reads_dic ok ha
    exact ReprK.of_reads rd hs (fun _ z => ne (List.mem_singleton.mp z).symm) hz
  · intro us e _ _
    cases e
    exact ⟨[], (fun b hb => nomatch hb), ReprAllK.nil⟩
  · intro v vs d ds _ _ ih1 ih2 us e hs hz
    cases e with
    | cons e1 e2 =>
      have hs' : d.showable = true ∧ PyData.showableAll ds = true := by unfold PyData.showableAll at hs; simpa using hs
      have hz1 : d.shown.length ≤ sizeLine := hz _ (by unfold PyData.shownAll; exact List.mem_cons_self)
      have hz2 : ∀ t ∈ PyData.shownAll ds, t.length ≤ sizeLine := fun t ht => hz t (by unfold PyData.shownAll; exact List.mem_cons_of_mem _ ht)
      obtain ⟨bs, hb, k1⟩ := ih1 e1 hs'.1 hz1
      obtain ⟨cs, hc, k2⟩ := ih2 e2 hs'.2 hz2
      have ed : PyData.depthAll (d :: ds) = max d.depth (PyData.depthAll ds) := by
        conv => lhs; unfold PyData.depthAll
      have es : PyData.shownAll (d :: ds) = d.shown :: PyData.shownAll ds := by
        conv => lhs; unfold PyData.shownAll
      rw [ed, es]
      refine ⟨bs ++ cs, (hb.mono (Nat.le_max_left _ _)).append (hc.mono (Nat.le_max_right _ _)), .cons ?_ ?_⟩
      · exact ReprK.level_le (ReprK.more k1 fun b hb => List.mem_append_left _ hb) (Nat.le_max_left _ _)
      · exact ReprAllK.more_le (fun b hb => List.mem_append_right _ hb) (Nat.le_max_right _ _) k2
theorem rp_reprAll (ok : HOk P w H h) : ∀ {xs : List V} {ds : List D}, RpA K H xs ds → ∀ {us : List Value}, Vals xs us → PyData.showableAll ds = true → (∀ t ∈ PyData.shownAll ds, t.length ≤ sizeLine) →
    ∃ bs, ReadAtMost h (PyData.depthAll ds) bs ∧ ReprAllK P w bs h (PyData.depthAll ds) us (PyData.shownAll ds)
  | _, _, .nil, us, e, _, _ => by
    cases e
    exact ⟨[], (fun b hb => nomatch hb), ReprAllK.nil⟩
  | _, d :: ds, .cons r rr, us, e, hs, hz => by
    cases e with
    | cons e1 e2 =>
      have hs' : d.showable = true ∧ PyData.showableAll ds = true := by unfold PyData.showableAll at hs; simpa using hs
      have hz1 : d.shown.length ≤ sizeLine := hz _ (by unfold PyData.shownAll; exact List.mem_cons_self)
      have hz2 : ∀ t ∈ PyData.shownAll ds, t.length ≤ sizeLine := fun t ht => hz t (by unfold PyData.shownAll; exact List.mem_cons_of_mem _ ht)
      obtain ⟨bs, hb, k1⟩ := rp_reprK ok r e1 hs'.1 hz1
      obtain ⟨cs, hc, k2⟩ := rp_reprAll ok rr e2 hs'.2 hz2
      have ed : PyData.depthAll (d :: ds) = max d.depth (PyData.depthAll ds) := by
        conv => lhs; unfold PyData.depthAll
      have es : PyData.shownAll (d :: ds) = d.shown :: PyData.shownAll ds := by
        conv => lhs; unfold PyData.shownAll
      rw [ed, es]
      refine ⟨bs ++ cs, (hb.mono (Nat.le_max_left _ _)).append (hc.mono (Nat.le_max_right _ _)), .cons ?_ ?_⟩
      · exact ReprK.level_le (ReprK.more k1 fun b hb => List.mem_append_left _ hb) (Nat.le_max_left _ _)
      · exact ReprAllK.more_le (fun b hb => List.mem_append_right _ hb) (Nat.le_max_right _ _) k2
end
end FX

set_option Elab.async false
set_option linter.all false
set_option maxRecDepth 100000
set_option maxHeartbeats 1000000
namespace FX
open PySem PySem.Spec L2
def okRepr (d : D) : Bool := d.showable && decide (d.depth < 60) && decide (d.shown.length ≤ sizeLine)
def rRepr (K : PySem.W.Frag) : List V → Hp → VK → Prop := fun xs H Q => ∃ x d, xs = [x] ∧ Rp K H x d ∧ okRepr d = true ∧ Q (.str d.shown) H
theorem call_reprD {X : Cx} (hG : X.A.guards = some []) (hu : X.A.units + 65 < cLine) : CallR X (.builtin "repr") (rRepr X.K) := by
  intro pins s σ H xs us Q I hv h
  obtain ⟨x, d, rfl, r, ok, q⟩ := h
  cases hv with
  | cons e hv =>
  cases hv
  rename_i u
  have o : (d.showable = true ∧ d.depth < 60) ∧ d.shown.length ≤ sizeLine := by simpa [okRepr] using ok
  have fin : ∀ (h' : Heap) (t : Tok) (tk : Nat), (∀ (b : Addr) (o : Obj), s.heap.get? b = some o → h'.get? b = some o) → EP X pins σ Q (.str d.shown t) { heap := h', gens := s.gens, drawn := s.drawn, toks := tk, os := s.os } :=
    fun h' t tk hk => ⟨.str d.shown, H, I.kept hk, ⟨t, rfl⟩, q⟩
  cases r with
  | non => cases e; exact P.repr_of_none (fin _ _ _ fun _ _ z => z)
  | bl b => cases e; exact P.repr_of_bool (fin _ _ _ fun _ _ z => z)
  | int i => obtain ⟨t, rfl⟩ := e; exact P.repr_of_int (by have := o.1.1; unfold PyData.showable at this; simpa using this) (fin _ _ _ fun _ _ z => z)
  | str z => obtain ⟨t, rfl⟩ := e; exact P.repr_of_str (fin _ _ _ fun _ _ z => z) o.2
  | dic a =>
    cases e
    obtain ⟨rd, ne⟩ := rp_reads_dic I.hok a
    exact repr_of_reads' rd o.1.1 (fun _ z => ne (List.mem_singleton.mp z).symm) hG (by omega) (fun _ _ z => z) fin o.2
  | lst ha rr =>
    rename_i a ys ds
    cases e
    obtain ⟨_, its, n, hv, hg⟩ := I.hok a _ ha
    obtain ⟨as, rd⟩ := rp_reads (K := X.K) I.hok (.lst ha rr) (u := .ref a) rfl
    have hs' : PyData.showableAll ds = true := by have := o.1.1; unfold PyData.showable at this; exact this
    have hz' : (listText (PyData.shownAll ds)).length ≤ sizeLine := by have := o.2; unfold PyData.shown at this; exact this
    have e1 : (PyData.list ds).depth = PyData.depthAll ds + 1 := by
      show PyData.depth (.list ds) = _
      unfold PyData.depth; rfl
    have e2 : (PyData.list ds).shown = listText (PyData.shownAll ds) := by
      show PyData.shown (.list ds) = _
      unfold PyData.shown; rfl
    by_cases hd : (PyData.list ds).hasDict = true
    · obtain ⟨bs, hb, hk⟩ := rp_reprAll I.hok rr hv hs' fun t ht => Nat.le_trans (listText_mem_le ht) hz'
      have hna := not_mem_of_deeper rd (by rw [e1]; exact Nat.lt_succ_self _) hb
      rw [e1] at o
      cases its with
      | nil =>
        cases hv
        cases rr
        exact absurd hd (by decide)
      | cons y l =>
        refine call_repr_slot (by omega) ⟨_, hg, rfl⟩ (Slot.toG F.slot_list_repr) (call_list_reprK hg rfl rfl hna (by rw [ReprAllK.length_eq hk]; simp) (fun i y e => ReprAllK.item hk i y (by simpa using e)) (A := X.A.in1) (g := []) hG (fun b _ => Clear.nil b) (by show X.A.units + 1 + _ < _; omega) (fun _ _ z => z) (fun h' t tk hk' => ⟨_, t, rfl, by rw [← e2]; exact fin h' t tk hk'⟩) hz')
    · exact repr_of_reads' rd o.1.1 (fun z => absurd z hd) hG (by omega) (fun _ _ z => z) fin o.2
  | tup ha rr =>
    rename_i a ys ds
    cases e
    obtain ⟨_, its, hv, ob, hg, hc, n, hdt⟩ := I.hok a _ ha
    obtain ⟨as, rd⟩ := rp_reads (K := X.K) I.hok (.tup ha rr) (u := .ref a) rfl
    have hs' : PyData.showableAll ds = true := by have := o.1.1; unfold PyData.showable at this; exact this
    have hz' : (tupleText (PyData.shownAll ds)).length ≤ sizeLine := by have := o.2; unfold PyData.shown at this; exact this
    have e1 : (PyData.tuple ds).depth = PyData.depthAll ds + 1 := by
      show PyData.depth (.tuple ds) = _
      unfold PyData.depth; rfl
    have e2 : (PyData.tuple ds).shown = tupleText (PyData.shownAll ds) := by
      show PyData.shown (.tuple ds) = _
      unfold PyData.shown; rfl
    obtain ⟨bs, hb, hk⟩ := rp_reprAll I.hok rr hv hs' fun t ht => Nat.le_trans (tupleText_mem_le ht) hz'
    have hna := not_mem_of_deeper rd (by rw [e1]; exact Nat.lt_succ_self _) hb
    rw [e1] at o
    refine call_repr_slot (by omega) ⟨_, hg, hc⟩ F.slot_tuple_repr (call_tuple_reprK hg hc hdt hna (by simpa using hk) (A := X.A.in1) (g := []) hG (fun b _ => Clear.nil b) (by show X.A.units + 1 + _ < _; omega) (fun _ _ z => z) (fun h' t tk hk' => ⟨_, t, rfl, by rw [← e2]; exact fin h' t tk hk'⟩) hz')
end FX

set_option Elab.async false
set_option linter.all false
set_option maxRecDepth 100000
set_option maxHeartbeats 1000000
namespace FX
open PySem PySem.Spec L2
section
variable {X : Cx} {CX : CXT} {k : Nat} {f : Addr} {fd : FuncData} {ps : List Str} {sp : Sp}
theorem run_fnSG {E : XK} {pins : List (Addr × Obj)} {σ : L2.St} {H : Hp} {s : Shared} {Q : VK} {us : List Value} {vs : List V} (F : FnG X.prog X.w X.K X.mg X.base CX k f fd ps sp) (hr : Room k X.A) (hG : X.A.guards = some [])
    (hb : L2.Binds X.K fd ps []) (hx : PassesAt CX X σ E) (I : Inv X pins σ H s) (r : Vals vs us) (h : sp vs H Q E) :
    wpAny (model X.prog X.w) X.A (call (.ref f) us) (EP X pins σ Q) X.xe s := by
  have hl : us.length = ps.length := by rw [← L2.Vals.length r]; exact F.len _ _ _ _ h
  refine wpAny_call (codeAny_mono (F.run X.A X.stack s H ⟨us, []⟩ us vs Q E hr hG (L2.Inv.env0 I) (by simpa using hb s us (L2.Inv.kIn I) (by simpa using hl)) r h) fun r s' hq => ?_)
  cases r with
  | error e => exact hx pins H s e s' I hq
  | ok fl =>
    cases fl with
    | ret u => exact L2.Inv.after I hq
    | next => exact hq.elim
    | brk => exact hq.elim
    | cont => exact hq.elim
theorem pe_callSG {E : L2.St → XK} {x : Str} {p pos : Pos} {e : Expr} {es : List Expr} {t : TA} (F : FnG X.prog X.w X.K X.mg X.base CX k f fd ps sp) (hr : Room k X.A) (hG : X.A.guards = some []) (hg : Gl X x)
    (hm : X.mg x = some (.ref f)) (hk : PySem.W.keepIn X.K (.ref f) = true) (hb : L2.Binds X.K fd ps []) (hx : ∀ σ, PassesAt CX X σ (E σ)) (ha : PA X (e :: es) t)
    (hdb : (x == ("__debug__" : Str)) = false := by rfl)
    (he : starEach (e :: es) X.env = (false, eval e X.env) :: starEach es X.env := by rfl)
    (hpl : (backTo pos (starEach es X.env)).any (·.1) = false := by rfl) : PE X (.Call (.Name x p) (e :: es) [] pos) (tCallS sp E t) :=
  ⟨fun pins s σ H Q I h => wpAny_Call_Name_kw (L2.ld_glob I hg hm
    (PySem.W.callWith_K I.ok.mod.kin hk (L2.thn (ha.run pos pins s σ H (fun vs H1 => sp vs H1 Q (E σ)) I h) fun us s1 ⟨vs, H1, I1, r, q⟩ => ⟨L2.Inv.kIn I1, run_fnSG F hr hG hb (hx σ) I1 r q⟩) he hpl) hdb)⟩
end
section
variable {Y : Sys} {X : Cx} {W : WX} {e : Expr} {es : List Expr} {pos p : Pos} {gr : GA Y} {K : PySem.W.Frag}
theorem me_fnG {n k : Nat} {m : Fm Y} {f : Addr} {fd : FuncData} {ps : List Str} {x : Str} {ta : TA} (hK : X.K = K) (F : FnG X.prog X.w X.K X.mg X.base (L2.CX X.prog X.w) k f fd ps (spM Y X.K n m)) (hr : Room k X.A) (hG : X.A.guards = some []) (hg : Gl X x) (hm : X.mg x = some (.ref f)) (hk : PySem.W.keepIn X.K (.ref f) = true) (hb : L2.Binds X.K fd ps []) (tk : Takes X W)
    (ha : MA Y X W (e :: es) ta gr) (hdb : (x == ("__debug__" : Str)) = false := by decide) (he : starEach (e :: es) X.env = (false, eval e X.env) :: starEach es X.env := by rfl) (hpl : (backTo pos (starEach es X.env)).any (·.1) = false := by rfl) :
    ME Y X W (.Call (.Name x p) (e :: es) [] pos) (tCallS (spM Y K n m) (WE W) ta) (gFn n m gr) := by
  subst hK
  exact ⟨pe_callSG F hr hG hg hm hk hb (fun σ => passAt tk σ) ha.pe hdb he hpl, eok_fn ha.ok⟩
end
section
variable {P : Program} {w : World} {K : PySem.W.Frag} {mg : Str → Option Value} {base : Heap} {Y : Sys}
theorem fn_okG {x qual : Str} {st : Stmt} {f : Addr} {fd : FuncData} {N ps : List Str} {k : Nat} (F : Fun K x qual st f fd) (S : FnScope N ps (defScope st)) {body : GS Y}
    (hb : ∀ (cdv : Value) (A : Around) (outer : List Env) (s : Shared) (H : Hp) (E : XK), Room k (A.deeper (PyProof.Rows.envOfC qual (defScope st) s.heap.objs.size f cdv)) → A.guards = some [] →
      ∃ t, MSs Y (cxOf (L2.CX P w) P w K mg base N qual (defScope st) f cdv A outer s H E) (fun cls d _ H => E cls d H) (defBody st) t body) :
    FnG P w K mg base (L2.CX P w) (k + 1) f fd ps (spM Y K ps.length (mOf N.length body)) := by
  refine okG F S (fun vs H Q E h => ?_) (fun cdv A outer s H vs Q E hr hG h => ?_)
  · obtain ⟨B, wo, rs, st', out, rfl, Wh, ar, hl, hm, p⟩ := h
    rw [ar.length, hl]
  · obtain ⟨B, wo, rs, st', out, rfl, Wh, ar, hl, hm, p⟩ := h
    obtain ⟨t, pe, ok⟩ := hb cdv A outer s wo.H E hr hG
    refine ⟨t, pe, ?_⟩
    unfold mOf at hm
    have N0 := start_env ar (N.length - vs.length) (N.length - rs.length) (by rw [ar.length])
    split at hm
    · rename_i r Γ' s' eb
      cases hm
      exact ok B wo _ _ st' _ _ Wh N0 eb fun w' x W' r' l => p w' x W' r' l
    · rename_i Γ' s' eb
      cases hm
      exact ok B wo _ _ st' _ _ Wh N0 eb fun w' σ' W' N' l => p w' .non W' (show Rp K w'.F .non .none from .non) l
    · rename_i c Γ' s' eb
      cases hm
      exact ok B wo _ _ st' _ _ Wh N0 eb fun w' σ' W' N' l => p w' W' l
    · cases hm
end
section
variable {K : PySem.W.Frag}
theorem Sh.rp {F H : Hp} (e : Same F H) {x : V} : ∀ {d : D}, Sh K F H x d → Rp K H x d
  | .none, h => Rp.mono e h
  | .bool _, h => Rp.mono e h
  | .int _, h => Rp.mono e h
  | .str _, h => Rp.mono e h
  | .dict _, h => Rp.mono e h
  | .list _, ⟨p, xs, hx, a, b⟩ => by subst hx; exact .lst a (b.mono e)
  | .tuple _, ⟨p, xs, hx, a, b⟩ => by subst hx; exact .tup (e _ _ a) (b.mono e)
def fRepr : List D → Option Rz
  | [d] => if okRepr d = true then some (.nw (.str d.shown)) else none
  | _ => none
theorem s_repr : OpN K (rRepr K) fRepr := by
  intro F H xs ds z Q sF hx h q
  unfold fRepr at h
  split at h
  · split at h
    · rename_i ok
      cases h
      cases hx with
      | cons a b =>
        cases b
        exact ⟨_, _, rfl, a.rp sF, ok, q _ (.str _)⟩
    · cases h
  · cases h
def fMax2 : List D → Option Rz
  | [.int i, .int j] => some (.nw (.int (if j > i then j else i)))
  | _ => none
def fMin2 : List D → Option Rz
  | [.int i, .int j] => some (.nw (.int (if j < i then j else i)))
  | _ => none
theorem s_max2 : OpN K (fun xs H Q => ∃ i j, xs = [.int i, .int j] ∧ Q (.int (if j > i then j else i)) H) fMax2 := by
  intro F H xs ds z Q sF hx h q
  unfold fMax2 at h
  split at h
  · cases h
    cases hx with
    | cons a b =>
      cases b with
      | cons b c =>
        cases c
        cases a
        cases b
        exact ⟨_, _, rfl, q _ (.int _)⟩
  · cases h
theorem s_min2 : OpN K (fun xs H Q => ∃ i j, xs = [.int i, .int j] ∧ Q (.int (if j < i then j else i)) H) fMin2 := by
  intro F H xs ds z Q sF hx h q
  unfold fMin2 at h
  split at h
  · cases h
    cases hx with
    | cons a b =>
      cases b with
      | cons b c =>
        cases c
        cases a
        cases b
        exact ⟨_, _, rfl, q _ (.int _)⟩
  · cases h
end
end FX

set_option Elab.async false
set_option linter.all false
set_option maxRecDepth 100000
set_option maxHeartbeats 1000000
namespace FX
open PySem PySem.Spec L2
section
variable {K : PySem.W.Frag}
def fStr : List D → Option Rz
  | [.int i] => if i.natAbs.log2 < 1920 then some (.nw (.str (Str.ofString (toString i)))) else none
  | _ => none
theorem s_str : OpN K (fun xs H Q => ∃ i, xs = [.int i] ∧ i.natAbs.log2 < 1920 ∧ Q (.str (Str.ofString (toString i))) H) fStr := by
  intro F H xs ds z Q sF hx h q
  unfold fStr at h
  split at h
  · split at h
    · rename_i hi
      cases h
      cases hx with
      | cons a b =>
        cases b
        exact ⟨_, by rw [sh_int a], hi, nw_str q⟩
    · cases h
  · cases h
def fTup : List D → Option Rz
  | [.list ds] => some (.nw (.tuple ds))
  | [.tuple ds] => some (.old (.tuple ds))
  | _ => none
abbrev rTupO (K : PySem.W.Frag) : List V → Hp → VK → Prop := fun xs H Q => ∃ p ys, xs = [.ref p] ∧ ((SqL K H p ys ∧ ∀ l, H l = none → Q (.ref l) (upd H l (.tup ys))) ∨ (SqT K H p ys ∧ Q (.ref p) H))
theorem s_tup : OpN K (rTupO K) fTup := by
  intro F H xs ds z Q sF hx h q
  unfold fTup at h
  split at h
  · cases h
    cases hx with
    | cons a b =>
      cases b
      obtain ⟨p, xs, rfl, e1, a1⟩ := a
      exact ⟨p, xs, rfl, .inl ⟨.of e1, fun l nl => q l _ nl a1⟩⟩
  · cases h
    cases hx with
    | cons a b =>
      cases b
      obtain ⟨p, xs, rfl, e1, a1⟩ := a
      exact ⟨p, xs, rfl, .inr ⟨.of (sF _ _ e1), q _ (.tup e1 a1)⟩⟩
  · cases h
def fUp : D → Option Rz
  | .str z => if sizeOk z.length = true then some (.nw (.str (Txt.upper z))) else none
  | _ => none
def rUp : V → Hp → VK → Prop := fun x H Q => (∃ a, x = .str a) ∧ ∃ a, x = .str a ∧ ([] : List V) = [] ∧ a.length ≤ 5592405 ∧ Q (.str (Txt.upper a)) H
theorem s_up : Op1 K rUp fUp := by
  intro F H x d z Q sF hx h q
  unfold fUp at h
  split at h
  · split at h
    · rename_i hz
      cases h
      exact ⟨⟨_, sh_str hx⟩, _, sh_str hx, rfl, Nat.le_trans (of_decide_eq_true hz) (by decide), nw_str q⟩
    · cases h
  · cases h
def fRev : D → Option Rz
  | .list ds => some (.nw (.list ds.reverse))
  | _ => none
def rRev (K : PySem.W.Frag) : V → Hp → VK → Prop := fun x H Q => ∃ a xs, x = .ref a ∧ SqL K H a xs ∧ ∀ p, H p = none → Q (.ref p) (upd H p (.lst xs.reverse))
theorem s_rev : Op1 K (rRev K) fRev := by
  intro F H x d z Q sF hx h q
  unfold fRev at h
  split at h
  · cases h
    obtain ⟨p, xs, rfl, e1, a1⟩ := hx
    exact ⟨p, xs, rfl, .of e1, fun l nl => q l _ nl a1.rev⟩
  · cases h
end
section
variable {Y : Sys} {X : Cx} {W : WX} {e o : Expr} {pos p2 p3 p1 apos cpos : Pos} {te : TE} {ge : GE Y} {k : Nat} {K : PySem.W.Frag}
theorem me_upper (h : ME Y X W o te ge) (hb : attributeBase o "upper" X.env (eval o X.env) = eval o X.env := by rfl) (hl : (apos.endLine == cpos.line) = true := by rfl) : ME Y X W (.Call (.Attribute o "upper" apos) [] [] cpos) (tUn rUp te) (gUn fUp ge) :=
  ⟨pe_upper h.pe hb hl, eok_un s_up h.ok⟩
theorem me_rev (hK : X.K = K) (h : ME Y X W e te ge) : ME Y X W (.Subscript e (.Slice none none (some (.UnaryOp .USub (.Constant (.int 1) k p1) p2)) p3) pos) (tUn (rRev K) te) (gUn fRev ge) := by
  subst hK
  exact ⟨pe_revL h.pe, eok_un s_rev h.ok⟩
end
end FX

set_option Elab.async false
set_option linter.all false
set_option maxRecDepth 100000
set_option maxHeartbeats 1000000
namespace FX
open PySem PySem.Spec L2
section
variable {K : PySem.W.Frag}
def bls? : List D → Option (List Bool)
  | [] => some []
  | .bool b :: r => match bls? r with
    | some l => some (b :: l)
    | none => none
  | _ :: _ => none
theorem bls_of {F : Hp} : ∀ {ds : List D} {xs : List V} {bs : List Bool}, RpA K F xs ds → bls? ds = some bs → xs = bs.map V.bl
  | [], _, _, h, e => by cases h; cases e; rfl
  | .bool b :: r, _, _, h, e => by
    unfold bls? at e
    split at e
    · rename_i l el
      cases e
      cases h with
      | cons a c => cases a; rw [bls_of c el]; rfl
    · cases e
  | .none :: _, _, _, _, e => by cases e
  | .int _ :: _, _, _, _, e => by cases e
  | .str _ :: _, _, _, _, e => by cases e
  | .list _ :: _, _, _, _, e => by cases e
  | .tuple _ :: _, _, _, _, e => by cases e
  | .dict _ :: _, _, _, _, e => by cases e
def fAll : List D → Option Rz
  | [.list ds] => match bls? ds with
    | some bs => some (.nw (.bool (bs.all id)))
    | none => none
  | _ => none
def fAny : List D → Option Rz
  | [.list ds] => match bls? ds with
    | some bs => some (.nw (.bool (bs.any id)))
    | none => none
  | _ => none
theorem s_all : OpN K (rAll K) fAll := by
  intro F H xs ds z Q sF hx h q
  unfold fAll at h
  split at h
  · split at h
    · rename_i bs eb
      cases h
      cases hx with
      | cons a b =>
        cases b
        obtain ⟨p, ys, rfl, e, r⟩ := a
        have := bls_of r eb
        subst this
        exact ⟨p, bs, rfl, .of e, q _ (.bl _)⟩
    · cases h
  · cases h
theorem s_any : OpN K (rAny K) fAny := by
  intro F H xs ds z Q sF hx h q
  unfold fAny at h
  split at h
  · split at h
    · rename_i bs eb
      cases h
      cases hx with
      | cons a b =>
        cases b
        obtain ⟨p, ys, rfl, e, r⟩ := a
        have := bls_of r eb
        subst this
        exact ⟨p, bs, rfl, .of e, q _ (.bl _)⟩
    · cases h
  · cases h

def tkey1? : D → Option Key
  | .int i => some (.inl i)
  | .str z => some (.inr z)
  | _ => none
def tkeys? : List D → Option (List Key)
  | [] => some []
  | d :: ds => match tkey1? d, tkeys? ds with
    | some k, some l => some (k :: l)
    | _, _ => none
def tkey? : D → Option (List Key)
  | .tuple ds => tkeys? ds
  | _ => none
theorem tkey1_d : ∀ k : Key, tkey1? (keyD k) = some k
  | .inl _ => rfl
  | .inr _ => rfl
theorem tkeys_d : ∀ k : List Key, tkeys? (k.map keyD) = some k
  | [] => rfl
  | a :: r => by simp only [List.map_cons, tkeys?, tkey1_d, tkeys_d r]
theorem tkey_d (k : List Key) : tkey? (keyT k) = some k := tkeys_d k
theorem key_v {F : Hp} : ∀ {ds : List D} {xs : List V} {k : List Key}, RpA K F xs ds → tkeys? ds = some k → xs = k.map kV
  | [], _, _, h, e => by cases h; cases e; rfl
  | d :: ds, _, _, h, e => by
    unfold tkeys? at e
    split at e
    · rename_i k l e1 e2
      cases e
      cases h with
      | cons a b =>
        rw [key_v b e2]
        cases d with
        | int i => cases e1; cases a; rfl
        | str z => cases e1; cases a; rfl
        | _ => cases e1
    · cases e
def isKey (k : List Key) (y : D) : Bool := decide (tkey? y = some k)
def dGet (kvs : List (D × D)) (k : List Key) : Option D := (kvs.find? fun kv => isKey k kv.1).map (·.2)
def dPut (kvs : List (D × D)) (k : List Key) (d : D) : List (D × D) :=
  if (kvs.any fun kv => isKey k kv.1) = true then kvs.map (fun kv => if isKey k kv.1 = true then (kv.1, d) else kv) else kvs ++ [(keyT k, d)]
theorem isKey_T (k j : List Key) : isKey k (keyT j) = decide (j = k) := by
  unfold isKey
  rw [tkey_d]
  simp only [Option.some.injEq]
theorem RpT.len {F : Hp} : ∀ {es : List (List Key × V)} {kvs : List (D × D)}, RpT K F es kvs → es.length = kvs.length
  | _, _, .nil => rfl
  | _, _, .cons _ b => by simp only [List.length_cons, RpT.len b]
theorem RpT.any {F : Hp} (k : List Key) : ∀ {es : List (List Key × V)} {kvs : List (D × D)}, RpT K F es kvs → (es.any fun kv => decide (kv.1 = k)) = kvs.any fun kv => isKey k kv.1
  | _, _, .nil => rfl
  | _, _, .cons _ b => by
    simp only [List.any_cons, isKey_T, RpT.any k b]
theorem RpT.get {F : Hp} (k : List Key) : ∀ {es : List (List Key × V)} {kvs : List (D × D)}, RpT K F es kvs → match dGet kvs k with
    | some d => ∃ v, valV es k = some v ∧ Rp K F v d
    | none => valV es k = none
  | _, _, .nil => rfl
  | _, _, .cons (k := j) (v := v) (d := d) (es := es) (kvs := kvs) a b => by
    have ih := RpT.get k b
    by_cases e : j = k
    · have h1 : dGet ((keyT j, d) :: kvs) k = some d := by
        unfold dGet
        simp [List.find?_cons, isKey_T, e]
      rw [h1]
      exact ⟨v, valV_pos e, a⟩
    · have h1 : dGet ((keyT j, d) :: kvs) k = dGet kvs k := by
        unfold dGet
        simp [List.find?_cons, isKey_T, e]
      rw [h1, valV_neg (p := (j, v)) e]
      exact ih
theorem RpT.map {F : Hp} (k : List Key) {x : V} {d : D} (h : Rp K F x d) : ∀ {es : List (List Key × V)} {kvs : List (D × D)}, RpT K F es kvs →
    RpT K F (es.map fun kv => if kv.1 = k then (kv.1, x) else kv) (kvs.map fun kv => if isKey k kv.1 = true then (kv.1, d) else kv)
  | _, _, .nil => .nil
  | _, _, .cons (k := j) (v := v) (d := d') (es := es) (kvs := kvs) a b => by
    simp only [List.map_cons, isKey_T]
    by_cases e : j = k
    · simp only [e, decide_true, if_true]
      exact .cons h (RpT.map k h b)
    · simp only [e, decide_false, if_false]
      exact .cons a (RpT.map k h b)
theorem RpT.snoc {F : Hp} {k : List Key} {x : V} {d : D} (h : Rp K F x d) : ∀ {es : List (List Key × V)} {kvs : List (D × D)}, RpT K F es kvs → RpT K F (es ++ [(k, x)]) (kvs ++ [(keyT k, d)])
  | _, _, .nil => .cons h .nil
  | _, _, .cons a b => .cons a (RpT.snoc h b)
theorem RpT.put {F : Hp} {k : List Key} {x : V} {d : D} (h : Rp K F x d) {es : List (List Key × V)} {kvs : List (D × D)} (r : RpT K F es kvs) : RpT K F (putK es k x) (dPut kvs k d) := by
  unfold putK dPut
  rw [r.any k]
  by_cases e : (kvs.any fun kv => isKey k kv.1) = true
  · rw [if_pos e, if_pos e]; exact r.map k h
  · rw [if_neg e, if_neg e]; exact r.snoc h
end

def gDicT {Y : Sys} : GE Y := fun Γ s => some (.ok (.o (.dict [])), Γ, s)
def sPutT {Y : Sys} (i : Nat) (gk ge : GE Y) : GS Y := bdS (gEsc ge) fun r Γ s => match r, Γ[i]? with
  | .v d, some (some (.o (.dict _))) => bdS gk (fun rk Γ s => match rk, Γ[i]? with
    | .v (.tuple ks), some (some (.o (.dict kvs))) => match tkeys? ks with
      | some k => if sizeOk kvs.length = true then some (.nx, Γ.set i (some (.o (.dict (dPut kvs k d)))), s) else none
      | none => none
    | _, _ => none) Γ s
  | _, _ => none
def gGet2 {Y : Sys} (i : Nat) (gk gx : GE Y) : GE Y := fun Γ s => match Γ[i]? with
  | some (some (.o (.dict _))) => bd gk (fun rk Γ s => match rk with
    | .v (.tuple ks) => bd (gEsc gx) (fun rx Γ s => match rx, Γ[i]?, tkeys? ks with
      | .v d, some (some (.o (.dict kvs))), some k => some (.ok (.v ((dGet kvs k).getD d)), Γ, s)
      | _, _, _ => none) Γ s
    | _ => none) Γ s
  | _ => none
section
variable {Y : Sys} {X : Cx} {W : WX} {e o : Expr} {pos p apos cpos pos' : Pos} {gk ge gx : GE Y} {te tk tx : TE} {i : Nat}
theorem me_dicT (h : PE X e tDNewT) : ME Y X W e tDNewT gDicT := by
  refine ⟨h, fun B w σ Γ s out Q Wh N eq p => ?_⟩
  cases eq
  intro q nq
  have Fn : w.F q = none := Wh.sF.free nq
  have Bn : B q = none := Wh.sB.free nq
  refine p { w with H := upd w.H q (.dT []) } (Wh.newH nq) (N.newH nq) ⟨Same.refl _, [], by simp⟩ _ ⟨⟨q, rfl, ⟨[], upd_same, .nil⟩, Fn, Bn, fun z => Y.live Wh.rel _ z nq⟩, fun j e hi hs => ?_⟩
  obtain ⟨y, a, b⟩ := N.sl j _ hi
  obtain ⟨q', rfl, own, _⟩ := b
  rw [hs] at a; cases a
  obtain ⟨u, hu⟩ := own.obj
  rw [nq] at hu; cases hu
theorem sok_putT {K : PySem.W.Frag} (he : EOk Y K W te ge) (hk : EOk Y K W tk gk) : SOk Y K W (sDPut (tVar i) tk te) (sPutT i gk ge) := by
  intro B w σ Γ s out D Wh N e p
  refine (eok_esc he).goS (Q := fun v H1 => tVar i σ H1 fun x H2 => tk σ H2 fun y H3 => ∃ a H4, x = .ref a ∧ DPut H3 a y v H4 ∧ D.nx σ H4) Wh N e p fun r Γ1 s1 v w1 W1 N1 l1 R1 e1 p1 => ?_
  split at e1
  · rename_i d kvs0 hi0
    obtain ⟨y, hx, q, rfl, _⟩ := N1.sl i _ hi0
    refine ⟨_, hx, ?_⟩
    refine hk.goS (Q := fun y H3 => ∃ a H4, V.ref q = .ref a ∧ DPut H3 a y v H4 ∧ D.nx σ H4) W1 N1 e1 p1 fun rk Γ2 s2 z w2 W2 N2 l2 R2 e2 p2 => ?_
    split at e2
    · rename_i ks kvs hi
      split at e2
      · rename_i k ek
        split at e2
        · rename_i hz
          cases e2
          obtain ⟨y', hx', q', rfl, ⟨es, hl, ra⟩, fq, bq, aq⟩ := N2.sl i _ hi
          rw [hx] at hx'; cases hx'
          cases (show Rp K w2.F z (.tuple ks) from R2) with
          | tup hb rk =>
            rename_i b ys
            have := key_v rk ek
            subst this
            refine ⟨q, _, rfl, DPut.t (v := v) hl (W2.sF _ _ hb) (by rw [ra.len]; exact sizeOk_lt hz), ?_⟩
            exact p2 { w2 with H := upd w2.H q (.dT (putK es k v)) } σ (W2.st fq bq aq) (N2.st hi hx ⟨_, upd_same, ra.put (Rp.mono l2.F R1)⟩) ⟨Same.refl _, [], by simp⟩
        · cases e2
      · cases e2
    · cases e2
  · cases e1
theorem eok_get2 {K : PySem.W.Frag} (hk : EOk Y K W tk gk) (hx : EOk Y K W tx gx) : EOk Y K W (tDGet2 (tVar i) tk tx) (gGet2 i gk gx) := by
  intro B w σ Γ s out Q Wh N e p
  unfold gGet2 at e
  split at e
  · rename_i kvs0 hi0
    obtain ⟨y, hy, q, rfl, ⟨es0, hl0, _⟩, _⟩ := N.sl i _ hi0
    refine ⟨_, hy, q, rfl, .inr ⟨_, .inl hl0⟩, ?_⟩
    refine hk.go (Q := fun y H2 => tx σ H2 fun z H3 => ∃ o, DGet H3 q y o ∧ Q (o.getD z) H3) Wh N e p fun rk Γ1 s1 y1 w1 W1 N1 l1 R1 e1 p1 => ?_
    split at e1
    · rename_i ks
      refine (eok_esc hx).go (Q := fun z H3 => ∃ o, DGet H3 q y1 o ∧ Q (o.getD z) H3) W1 N1 e1 p1 fun rx Γ2 s2 z w2 W2 N2 l2 R2 e2 p2 => ?_
      split at e2
      · rename_i d kvs k hi ek
        cases e2
        obtain ⟨y', hy', q', rfl, ⟨es, hl, ra⟩, fq, bq, aq⟩ := N2.sl i _ hi
        rw [hy] at hy'; cases hy'
        cases (show Rp K w1.F y1 (.tuple ks) from R1) with
        | tup hb rk =>
          rename_i b ys
          have := key_v rk ek
          subst this
          refine ⟨_, DGet.t hl (W2.sF _ _ (l2.F _ _ hb)), ?_⟩
          have g := ra.get k
          refine p2 w2 W2 N2 (.refl _) _ ?_
          cases h : dGet kvs k with
          | none =>
            rw [h] at g
            simp only at g
            rw [g]
            exact R2
          | some d' =>
            rw [h] at g
            obtain ⟨v, e1, e2⟩ := g
            rw [e1]
            exact e2
      · cases e2
    · cases e1
  · cases e
theorem ms_putT (hu : X.A.units + 1 < cLine) (ho : PE X o (tVar i)) (hk : ME Y X W p' tk gk) (he : ME Y X W e te ge) (hs : swapsWith e (some (.Subscript o p' pos')) pos.line X.env = pure false := by rfl) :
    MS Y X W (.Assign [.Subscript o p' pos'] e pos) (sDPut (tVar i) tk te) (sPutT i gk ge) := ⟨ps_dput hu ho hk.pe he.pe hs, sok_putT he.ok hk.ok⟩
theorem me_get2 (hu : X.A.units + 1 < cLine) {f : Expr} (ho : PE X o (tVar i)) (hk : ME Y X W e tk gk) (hx : ME Y X W f tx gx) (m : M2 X o "get" apos e f cpos) : ME Y X W (.Call (.Attribute o "get" apos) [e, f] [] cpos) (tDGet2 (tVar i) tk tx) (gGet2 i gk gx) :=
  ⟨pe_dget2 hu ho hk.pe hx.pe m, eok_get2 hk.ok hx.ok⟩
end
end FX

set_option Elab.async false
set_option linter.all false
set_option maxRecDepth 100000
set_option maxHeartbeats 1000000
namespace FX
open PySem PySem.Spec L2
def gItA {Y : Sys} (g : GE Y) : GI Y := bd (gEsc g) fun r Γ s => match r with
  | .v (.list ds) => some (.ok ds, Γ, s)
  | .v (.tuple ds) => some (.ok ds, Γ, s)
  | _ => none
def fShl : D → D → Option Rz
  | .int i, .int j => if (decide (0 ≤ j) && Nat.ble j.natAbs 1000 && Nat.ble i.natAbs 1000) = true then some (.nw (.int (i * 2 ^ j.toNat))) else none
  | _, _ => none
def fShr : D → D → Option Rz
  | .int i, .int j => if decide (0 ≤ j) = true then some (.nw (.int (i / 2 ^ j.toNat))) else none
  | _, _ => none
def fBand : D → D → Option Rz
  | .int i, .int j => some (.nw (.int (Builtin.bitAnd i j)))
  | _, _ => none
def gRl1 {Y : Sys} (g : GE Y) : GE Y := bd g fun r Γ s => match rdv Γ r with
  | some (.int n) => if Nat.ble n.natAbs 1000 = true then some (.ok (.o (.list (rangeD 0 n.toNat))), Γ, s) else none
  | _ => none
def gRl2 {Y : Sys} (g h : GE Y) : GE Y := bd g fun ra => bd h fun rb Γ s => match rdv Γ ra, rdv Γ rb with
  | some (.int a), some (.int b) => if (Nat.ble a.natAbs 1000 && Nat.ble b.natAbs 1000) = true then some (.ok (.o (.list (rangeD a (b - a).toNat))), Γ, s) else none
  | _, _ => none
def gPop1 {Y : Sys} (i : Nat) (gk : GE Y) : GE Y := fun Γ s => match Γ[i]? with
  | some (some (.o (.list _))) => bd gk (fun rk Γ s => match rdv Γ rk, Γ[i]? with
    | some (.int k), some (some (.o (.list ds))) => if bigI k = true then (match ixN ds.length k with
      | some j => match ds[j]? with
        | some d => some (.ok (.v d), Γ.set i (some (.o (.list (ds.eraseIdx j)))), s)
        | none => none
      | none => none) else none
    | _, _ => none) Γ s
  | _ => none
section
variable {K : PySem.W.Frag}
theorem s_shl : Op2 K (rI CPow fun i j => .int (i * 2 ^ j.toNat)) fShl := by
  intro F H x y d e z Q sF hx hy h q
  unfold fShl at h
  split at h
  · split at h
    · rename_i hz
      cases h
      simp only [Bool.and_eq_true, decide_eq_true_eq] at hz
      have a := Nat.le_of_ble_eq_true hz.1.2
      have b := Nat.le_of_ble_eq_true hz.2
      cases sh_int hx
      cases sh_int hy
      exact ⟨_, _, rfl, rfl, ⟨hz.1.1, by omega, by omega⟩, nw_int q⟩
    · cases h
  · cases h
theorem s_shr : Op2 K (rI (fun _ j => 0 ≤ j) fun i j => .int (i / 2 ^ j.toNat)) fShr := by
  intro F H x y d e z Q sF hx hy h q
  unfold fShr at h
  split at h
  · split at h
    · rename_i hz
      cases h
      cases sh_int hx
      cases sh_int hy
      exact ⟨_, _, rfl, rfl, of_decide_eq_true hz, nw_int q⟩
    · cases h
  · cases h
theorem s_band : Op2 K (rI0 fun i j => .int (Builtin.bitAnd i j)) fBand := by
  intro F H x y d e z Q sF hx hy h q
  unfold fBand at h
  split at h
  · cases h
    cases sh_int hx
    cases sh_int hy
    exact ⟨_, _, rfl, rfl, nw_int q⟩
  · cases h
theorem rpa_rg {F : Hp} (a b : Int) : RpA K F (rgV a b) (rangeD a (b - a).toNat) := by
  unfold rgV rangeD
  generalize List.range (b - a).toNat = l
  induction l with
  | nil => exact .nil
  | cons i l ih => exact .cons (.int _) ih
theorem RpA.erase {F : Hp} : ∀ {xs : List V} {ds : List D} (j : Nat), RpA K F xs ds → RpA K F (xs.eraseIdx j) (ds.eraseIdx j)
  | _, _, _, .nil => .nil
  | _, _, 0, .cons _ b => b
  | _, _, j + 1, .cons a b => .cons a (RpA.erase j b)
end
section
variable {Y : Sys} {X : Cx} {W : WX} {tg e : Expr} {ga : GE Y} {te : TE}
theorem me_rl1 {a : Expr} {p p2 pos pos2 : Pos} (hc : X.calm = true) (hg : Gl X "list") (hm : X.mg "list" = none) (hg2 : Gl X "range") (hm2 : X.mg "range" = none) (h : ME Y X W a te ga)
    (na : starEach [a] X.env = (false, eval a X.env) :: starEach [] X.env := by rfl) (nb : starEach [.Call (.Name "range" p2) [a] [] pos2] X.env = (false, eval (.Call (.Name "range" p2) [a] [] pos2) X.env) :: starEach [] X.env := by rfl) :
    ME Y X W (.Call (.Name "list" p) [.Call (.Name "range" p2) [a] [] pos2] [] pos) (tLstRg (L2.tRg1 te)) (gRl1 ga) := by
  refine ⟨pe_listRg hc hg hm (prg_1 hg2 hm2 h.pe na) nb, fun B w σ Γ s out Q Wh N eq pp => ?_⟩
  refine h.ok.go (Q := fun x H1 => ∃ n, x = .int n ∧ RgOk 0 n ∧ ∀ q, H1 q = none → Q (.ref q) (upd H1 q (.lst (rgV 0 n)))) Wh N eq pp fun r Γ1 s1 x w1 W1 N1 l1 R1 e1 p1 => ?_
  split at e1
  · rename_i n er
    split at e1
    · rename_i hz
      have hz := Nat.le_of_ble_eq_true hz
      cases e1
      cases sh_int (sh_of W1 N1 R1 er)
      refine ⟨n, rfl, ⟨by omega, by omega, by omega, by omega, by omega⟩, fun q nq => ?_⟩
      have := rz_use (K := X.K) (z := .nw (.list (rangeD 0 n.toNat))) W1 N1 (.refl _) p1
      have r := rpa_rg (K := X.K) (F := w1.F) 0 n
      rw [Int.sub_zero] at r
      exact this q _ nq r
    · cases e1
  · cases e1
theorem me_rl2 {a b : Expr} {gb : GE Y} {tb : TE} {p p2 pos pos2 : Pos} (hc : X.calm = true) (hg : Gl X "list") (hm : X.mg "list" = none) (hg2 : Gl X "range") (hm2 : X.mg "range" = none) (h : ME Y X W a te ga) (h' : ME Y X W b tb gb)
    (na : starEach [a, b] X.env = (false, eval a X.env) :: starEach [b] X.env := by rfl) (na2 : starEach [b] X.env = (false, eval b X.env) :: starEach [] X.env := by rfl) (hp : (backTo pos2 (starEach [b] X.env)).any (·.1) = false := by rfl)
    (nb : starEach [.Call (.Name "range" p2) [a, b] [] pos2] X.env = (false, eval (.Call (.Name "range" p2) [a, b] [] pos2) X.env) :: starEach [] X.env := by rfl) :
    ME Y X W (.Call (.Name "list" p) [.Call (.Name "range" p2) [a, b] [] pos2] [] pos) (tLstRg (L2.tRg2 te tb)) (gRl2 ga gb) := by
  refine ⟨pe_listRg hc hg hm (prg_2 hg2 hm2 h.pe h'.pe na na2 hp) nb, fun B w σ Γ s out Q Wh N eq pp => ?_⟩
  refine h.ok.go (Q := fun x H1 => tb σ H1 fun y H2 => ∃ i j, x = .int i ∧ y = .int j ∧ RgOk i j ∧ ∀ q, H2 q = none → Q (.ref q) (upd H2 q (.lst (rgV i j)))) Wh N eq pp fun r Γ1 s1 x w1 W1 N1 l1 R1 e1 p1 => ?_
  obtain ⟨B2, sB, W1b, N1b, kp, kq⟩ := keep W1 N1 R1
  clear kq
  refine h'.ok.go (Q := fun y H2 => ∃ i j, x = .int i ∧ y = .int j ∧ RgOk i j ∧ ∀ q, H2 q = none → Q (.ref q) (upd H2 q (.lst (rgV i j)))) W1b N1b e1 (PoE.strong p1 sB) fun r2 Γ2 s2 y w2 W2 N2 l2 R2 e2 p2 => ?_
  have R1' := kp W2 N2 l2
  split at e2
  · rename_i i j e3 e4
    split at e2
    · rename_i hz
      rw [Bool.and_eq_true] at hz
      have hz1 := Nat.le_of_ble_eq_true hz.1
      have hz2 := Nat.le_of_ble_eq_true hz.2
      cases e2
      cases sh_int (sh_of (W2.weak sB) (N2.weak sB) R1' e3)
      cases sh_int (sh_of W2 N2 R2 e4)
      refine ⟨i, j, rfl, rfl, ⟨by omega, by omega, by omega, by omega, by omega⟩, fun q nq => ?_⟩
      exact rz_use (K := X.K) (z := .nw (.list (rangeD i (j - i).toNat))) W2 N2 (.refl _) p2 q _ nq (rpa_rg i j)
    · cases e2
  · cases e2
theorem pi_or {w1 w2 : TI} (h1 : PI X tg e w1) (h2 : PI X tg e w2) : PI X tg e (fun σ H R => w1 σ H R ∨ w2 σ H R) :=
  ⟨fun pins s σ H R I h => h.elim (h1.run pins s σ H R I) (h2.run pins s σ H R I)⟩
theorem mi_any (h : ME Y X W e te ga) : MI Y X W tg e (fun σ H R => iList X.K te σ H R ∨ iTup X.K te σ H R) (gItA ga) := by
  have l := mi_list (tg := tg) h
  have t := mi_tup (tg := tg) h
  refine ⟨pi_or l.pe t.pe, fun B w σ Γ s out Q Wh N e p => ?_⟩
  cases q : gEsc ga Γ s with
  | none =>
    unfold gItA bd at e
    rw [q] at e
    cases e
  | some o =>
    obtain ⟨oc, Γ1, s1⟩ := o
    cases oc with
    | er c =>
      refine .inl (l.ok B w σ Γ s out Q Wh N ?_ p)
      unfold gItA bd at e
      unfold gItL bd
      rw [q] at e ⊢
      exact e
    | ok r =>
      unfold gItA bd at e
      rw [q] at e
      simp only at e
      split at e
      · refine .inl (l.ok B w σ Γ s out Q Wh N ?_ p)
        unfold gItL bd
        rw [q]
        exact e
      · refine .inr (t.ok B w σ Γ s out Q Wh N ?_ p)
        unfold gItT bd
        rw [q]
        exact e
      · cases e
theorem mi_anyK {K : PySem.W.Frag} (hK : X.K = K) (h : ME Y X W e te ga) : MI Y X W tg e (fun σ H R => iList K te σ H R ∨ iTup K te σ H R) (gItA ga) := by
  subst hK
  exact mi_any h
end
end FX

set_option Elab.async false
set_option linter.all false
set_option maxRecDepth 100000
set_option maxHeartbeats 2000000
namespace FX
open PySem PySem.Spec L2
section
variable {X : Cx} {pins : List (Addr × Obj)} {σ : St} {H : Hp} {s : Shared} {a : Addr}
theorem ero_ok {P : Program} {w : World} {G : Hp} {h : Heap} {cls : Value} {oe : Obj} (e : h.get? a = some oe) (z : Zc cls none oe) (d : ∃ vs, oe.data = .fields vs) : ObjOk P w G h a (ErO cls a) :=
  ⟨⟨oe, e, z, d⟩, ⟨oe, e⟩, fun _ _ ⟨o, q, r⟩ k => ⟨o, k o q, r⟩⟩
/-- an object of the def's own, not told of so far, is told of from here on -/
theorem inv_track {φ : Heap → Prop} (I : Inv X pins σ H s) (na : H a = none) (n0 : X.s_0.heap.get? a = none) (nl : a ≠ X.env.locals) (nc : ∀ x c, X.env.cells.lookup x = some c → c ≠ a)
    (np : ∀ p ∈ X.pn ++ pins, p.1 ≠ a) (ok : ∀ G : Hp, ObjOk X.prog X.w G s.heap a (.ext φ)) : Inv X pins σ (upd H a (.ext φ)) s where
  ok := I.ok
  os := I.os
  bare := I.bare
  base := by
    have ne0 : ∀ b o, X.s_0.heap.get? b = some o → b ≠ a := fun b o e z => by subst z; rw [n0] at e; cases e
    have neH : ∀ {b : Addr} {o : HO}, H b = some o → upd H a (.ext φ) b = some o := fun {b o} e => by
      rw [upd_ne (ne_of_none e na)]; exact e
    refine ⟨I.base.keep, I.base.slot, fun b o e n x => ?_, I.base.there, fun b xs e => neH (I.base.tups b xs e), fun b o u e => neH (I.base.frzs b o u e), fun b ps e => ?_⟩
    · rw [upd_ne (ne0 b o e)]; exact I.base.free b o e n x
    · obtain ⟨m, q⟩ := I.base.tbls b ps e
      exact ⟨m, neH q⟩
  loc := I.loc
  cell := I.cell
  free := by rw [upd_ne (Ne.symm nl)]; exact I.free
  freeC := fun x c e => by rw [upd_ne (nc x c e)]; exact I.freeC x c e
  pin := fun p hp => by
    obtain ⟨p1, p2, p3, p4, p5⟩ := I.pin p hp
    exact ⟨p1, by rw [upd_ne (np p hp)]; exact p2, p3, p4, p5⟩
  hok := fun b u e => by
    by_cases hb : b = a
    · subst hb
      rw [upd_same] at e; cases e
      exact ok _
    · rw [upd_ne hb] at e
      refine (I.hok b u e).stay (fun _ _ _ q => q) (fun c q => ?_) fun c xs q => ?_
      · rw [upd_ne (ne_of_none q na)]; exact q
      · rw [upd_ne (ne_of_none q na)]; exact q
  len := I.len
end
/-- the ends of a suite that only goes on: what it held is told of behind it -/
def goOn (i : Nat) (a : Addr) (cls : Value) (D : Ends) : Ends where
  nx := fun σ' H' => H' a = none ∧ D.nx (σ'.set i none) (upd H' a (ErO cls a))
  rt := fun _ _ => False
  bk := fun _ _ => False
  ct := fun _ _ => False
def wTrk (K : PySem.W.Frag) (c : Value) (i : Nat) (ts : Addr → TS) (Wo : WX) (D : Ends) : WX := fun cls d σ H =>
  ∃ b, PySem.W.exmOne K cls c = some b ∧ (b = false → Wo cls d σ H) ∧
    (b = true → d = none ∧ ∀ a, H a = none → ts a (goOn i a cls D) (σ.set i (some (.ref a))) H)
section
variable {X : Cx} {x n : Str} {c : Value} {i : Nat} {body sts : List Stmt} {st : Stmt} {np pos pos' : Pos} {tb : WX → TS} {ts : Addr → TS} {Wo : WX}
theorem ps_try_trk (hst : X.stack = X.env :: X.outer) (hfr : X.env.frame = some X.env.locals) (hex : X.ex = []) (hN : X.N.Nodup) (hi : X.N[i]? = some n) (hln : X.env.kindOf n = some .local)
    (hc : Names X x c) (tk : Takes X Wo)
    (hb : ∀ (W : WX) (pn : List (Addr × Obj)) (xe : Value → Shared → Prop), Takes (X.tr pn xe) W → PassesOwn (model X.prog X.w) X.A X.env xe → PSs (X.tr pn xe) body (tb W))
    (hsu : ∀ (a : Addr) (oe : Obj) (pn : List (Addr × Obj)), PSs (X.suite a ((a, oe) :: pn)) (st :: sts) (ts a)) :
    PS X (.Try body [.ExceptHandler (some (.Name x np)) (some n) (st :: sts) pos'] [] [] pos) (fun D σ H => tb (wTrk X.K c i ts Wo D) D σ H) := by
  refine ⟨fun pins s σ H D I h => ?_⟩
  have okX := I.ok
  have frames : X.A.frames = some (X.env :: X.outer) := by
    rw [okX.frames, hst]
  refine wpAny_Try_except ?_
  refine wpAny_mono ((hb (wTrk X.K c i ts Wo D) (X.pn ++ pins)
    (fun e t1 => wpAny (model X.prog X.w) X.A (noteFrame e X.env) (fun _ t2 =>
      wpAny (model X.prog X.w) X.A (setFlight e none) (fun _ t3 =>
        wpAny (model X.prog X.w) X.A (handleBy e X.env [.ExceptHandler (some (.Name x np)) (some n) (st :: sts) pos'])
          (SP X pins D) X.xe t3) X.xe t2) X.xe t1)
    (fun u t air => ?land) PassesOwn.looking).run [] s σ H D (I.toTry _) h) (fun f t hsp => ?rest) fun _ _ z => z
  case land =>
    obtain ⟨a, B, t0, pn2, σ2, H2, cls, d, rfl, J0, ground, upto, sky, free, oss, bares, b, hmatch, hno, hyes⟩ := air
    have J : Inv X pins σ2 H2 t0 := J0.ofTry okX
    rw [hst] at sky
    show wpAny (model X.prog X.w) X.A (noteFrame (.ref a) X.env) _ _ _
    refine Sky.land Zc.steady frames hfr sky fun h3 f3 u3 => ?_
    have J3 : Inv X pins σ2 H2 { t with heap := h3 } :=
      J.landed ground f3.1 (upto.trans u3) oss bares
    obtain ⟨o3, v3, g3, z3, e3⟩ := f3.there
    have offFr : a ∉ frs (X.env :: X.outer) := fun hm => by
      obtain ⟨_, o', q, r⟩ := f3.2.2.1.mem hm
      rw [g3] at q
      cases q
      exact r _ e3
    have offL : a ≠ X.env.locals := fun z =>
      offFr (List.mem_filterMap.mpr ⟨X.env, List.mem_cons_self, by rw [hfr, z]⟩)
    have offF : a ∉ X.fs := fun hm => by
      obtain ⟨e, he, q⟩ := List.mem_filterMap.mp hm
      exact offFr (List.mem_filterMap.mpr ⟨e, List.mem_cons_of_mem _ he, q⟩)
    -- the error was not there when the body began
    have new0 : t0.heap.get? a = none := by
      cases q : t0.heap.get? a with
      | none => rfl
      | some o =>
        have r := ground a o q (by rw [hst]; exact offFr)
        rw [f3.2.1] at r
        cases r
    have newS : X.s_0.heap.get? a = none := by
      cases q : X.s_0.heap.get? a with
      | none => rfl
      | some o =>
        obtain ⟨o', r⟩ := J.base.there a o q (by rw [hex]; exact fun z => nomatch z)
        rw [new0] at r
        cases r
    have newP : ∀ p ∈ X.pn ++ pins, p.1 ≠ a := fun p hp z => by
      have r := (J.pin p hp).1
      rw [z, new0] at r
      cases r
    have newC : ∀ y k, X.env.cells.lookup y = some k → k ≠ a := fun y k e z => by
      obtain ⟨v, o, r, _⟩ := J.cell y k e
      rw [z, new0] at r
      cases r
    have S3 := J3.suite g3 e3 free offL offF
    refine wpAny_handleBy_cons (codeAny_handlers_test ?_) (by intro q; cases q)
    have kind : PySem.W.Looks (model X.prog X.w) h3 (typeOf (.ref a)) cls := fun A Q E s' k q =>
      wpAny_typeOf_ref (k _ _ g3) (by rw [z3.1]; exact q)
    have meets := PySem.W.exm_one (M := model X.prog X.w) J3.kIn kind hmatch
    have named : ∀ {Q : Value → Shared → Prop} {E : Value → Shared → Prop}, Q c { t with heap := h3 } →
        wpAny (model X.prog X.w) (X.A.mark (some (.ref a))) (eval (.Name x np) X.env) Q E { t with heap := h3 } := fun {Q E} q => by
      obtain ⟨hg, hdb, hm | ⟨hm, hv, hnn⟩⟩ := hc
      · exact ld_glob (X := X.suite a _) S3 hg hm q hdb
      · exact ld_blt (X := X.suite a _) S3 hg hm hv q hnn hdb
    refine named (meets.here ?_)
    cases b with
    | false =>
      show wpAny _ X.A (handleBy (.ref a) X.env []) _ _ _
      refine wpAny_handleBy_nil ?_
      obtain ⟨_, _, _, oe, vs, T, oT, tt, q1, q2, q3, q4, _⟩ := id f3
      unfold PySem.passOn
      refine wpAny_bind (wpAny_field q1 q3 q4 ?_)
      rw [if_neg (show ¬ ((Value.ref T == Value.none) = true) from by simp)]
      have up : wpAny (model X.prog X.w) X.A (setFlight (.ref a) X.env.frame) (fun _ t4 =>
          wpAny (model X.prog X.w) X.A (throw (.ref a) : Sem Flow) (SP X pins D) X.xe t4) X.xe { t with heap := h3 } := by
        rw [hfr]
        refine HandSPX.setFlight_upZ f3 fun h4 held u4 => wpAny_throw (tk _ _ ?_)
        refine ⟨a, B, t0, pins, σ2, H2, cls, d, rfl, J, ground, (upto.trans u3).trans u4, ?_, free, oss, bares, hno rfl⟩
        rw [hst]
        exact .inr (.inr held)
      first
        | exact wpAny_bind (wpAny_pure (wpAny_bind up))
        | exact wpAny_bind up
    | true =>
      obtain ⟨rfl, suite⟩ := hyes rfl
      refine codeAny_handlers_suite_as ?_
      refine HandSPX.lands_againZ f3 fun h4 f4 u4 => ?_
      have J4 : Inv X pins σ2 H2 { t with heap := h4 } :=
        J.landed ground f4.1 ((upto.trans u3).trans u4) oss bares
      obtain ⟨o4, v4, g4, z4, e4⟩ := f4.there
      have S4 := J4.suite g4 e4 free offL offF
      refine store_ok (X := X.suite a ((a, o4) :: (X.pn ++ pins))) (v := .ref a) S4 hN hi (.inl hln) rfl (fun t5 S5 => ?_) (.inr hln)
      refine wpAny_mono ((hsu a o4 (X.pn ++ pins)).run [] t5 _ H2 _ S5 (suite a free)) (fun f t6 hsp => ?_) (fun _ _ z => False.elim z)
      cases f with
      | next =>
        obtain ⟨σ6, H6, S6, n6, q6⟩ := hsp
        -- the held error stays pinned while its first name goes
        have J6 : Inv X ((a, o4) :: pins) σ6 H6 t6 := by
          have base := S6.unsuite okX
          refine ⟨base.ok, base.os, base.bare, base.base, base.loc, base.cell, base.free, base.freeC, fun p hp => ?_, base.hok, base.len⟩
          refine S6.pin p (List.mem_append_left _ ?_)
          rcases List.mem_append.mp hp with z | z
          · exact List.mem_cons_of_mem _ (List.mem_append_left _ z)
          · rcases List.mem_cons.mp z with z | z
            · rw [z]; exact List.mem_cons_self
            · exact List.mem_cons_of_mem _ (List.mem_append_right _ z)
        show wpAny _ X.A (do bindName X.env n .none; unbindBehindTheSuite X.env n pos') _ X.xe t6
        refine gone_ok J6 hN hi hln fun t7 J7 => ?_
        have g7 := (J7.pin (a, o4) (List.mem_append_right _ List.mem_cons_self)).1
        have J8 : Inv X pins (σ6.set i none) H6 t7 :=
          ⟨J7.ok, J7.os, J7.bare, J7.base, J7.loc, J7.cell, J7.free, J7.freeC, fun p hp => J7.pin p (by
            rcases List.mem_append.mp hp with z | z
            · exact List.mem_append_left _ z
            · exact List.mem_append_right _ (List.mem_cons_of_mem _ z)), J7.hok, J7.len⟩
        exact ⟨_, _, inv_track J8 n6 newS offL newC newP fun G => ero_ok g7 z4 ⟨v4, e4⟩, q6⟩
      | brk =>
        obtain ⟨_, _, _, q⟩ := hsp
        exact q.elim
      | cont =>
        obtain ⟨_, _, _, q⟩ := hsp
        exact q.elim
      | ret u =>
        obtain ⟨_, _, _, _, _, q⟩ := hsp
        exact q.elim
  case rest =>
    cases f with
    | next =>
      obtain ⟨σ', H', J', q⟩ := hsp
      exact wpAny_execs_nil ⟨σ', H', J'.ofTry okX, q⟩
    | brk =>
      obtain ⟨σ', H', J', q⟩ := hsp
      exact ⟨σ', H', J'.ofTry okX, q⟩
    | cont =>
      obtain ⟨σ', H', J', q⟩ := hsp
      exact ⟨σ', H', J'.ofTry okX, q⟩
    | ret u =>
      obtain ⟨v, σ', H', J', r, q⟩ := hsp
      exact ⟨v, σ', H', J'.ofTry okX, r, q⟩
end
end FX

set_option Elab.async false
set_option linter.all false
set_option maxRecDepth 100000
set_option maxHeartbeats 2000000
namespace FX
open PySem PySem.Spec L2
/-- what the layer asks of a class of errors, by its name in the law's module -/
structure ErC (K : PySem.W.Frag) (n : Str) (C : Addr) : Prop where
  cn : Cn K n (.ref C)
  x : PySem.W.excIn K C [.type "ValueError", .type "Exception", .type "BaseException", .type "object"] "ValueError.__new__" = true
  k : PySem.W.keepIn K (.ref C) = true
  b : PySem.W.subIn K (.ref C) (.type "BaseException") = some true
  t : PySem.W.typeIn K (.ref C) = some (.type "type")
  e : ExcC K C
section
variable {Y : Sys} {X : Cx} {W : WX}
theorem ms_raiseN {n m : Str} {C : Addr} {j : Nat} {p p2 pos pos2 : Pos} (hc : X.calm = true) (tk : Takes X W) (T : ErC X.K n C) (gC : X.mg n = some (.ref C)) (hg : Gl X n) (hd : (n == ("__debug__" : Str)) = false := by decide) :
    MS Y X W (.Raise (some (.Call (.Name n p) [.Constant (.str m) j p2] [] pos)) none pos2) (fun _ σ H => W (.ref C) none σ H) (sRaise n) :=
  ms_raise T.cn (ps_raise hc tk (pmk_own PySem.F.excBase_ValueError T.x gC T.k (raises_own T.b T.t) hg hd))
end
/-- try: body, except C as e: y = e; i: e's slot, j: y's; mt: which errors C takes -/
def sTry {Y : Sys} (mt : Str → Option Bool) (i j : Nat) (g : GS Y) : GS Y := fun Γ s => match g Γ s with
  | some (.er n, Γ1, s1) => if i < Γ1.length then (match mt n with
    | some true => some (.nx, ((Γ1.set i none).set j (some (.e n))).set i none, s1)
    | some false => some (.er n, Γ1, s1)
    | none => none) else none
  | o => o
section
variable {Y : Sys} {K : PySem.W.Frag} {W : WX} {c : Value} {i j : Nat} {tb : WX → TS} {gb : GS Y} {mt : Str → Option Bool}
theorem sok_try (hm : ∀ n cls b, Cn K n cls → mt n = some b → PySem.W.exmOne K cls c = some b) (hb : ∀ W', SOk Y K W' (tb W') gb) :
    SOk Y K W (fun D σ H => tb (wTrk K c i (fun _ => tAsg (tVar i) (L2.gName j)) W D) D σ H) (sTry mt i j gb) := by
  intro B w σ Γ s out D Wh N e p
  unfold sTry at e
  cases eg : gb Γ s with
  | none => rw [eg] at e; cases e
  | some o =>
    obtain ⟨o, Γ1, s1⟩ := o
    rw [eg] at e
    refine hb _ B w σ Γ s _ D Wh N eg ?_
    cases o with
    | nx => cases e; exact p
    | rt r => cases e; exact p
    | bk => cases e; exact p
    | ct => cases e; exact p
    | er n =>
      simp only at e
      split at e
      · rename_i hi
        intro w1 σ1 W1 N1 l1 cls hc
        split at e
        · rename_i em
          cases e
          refine ⟨true, hm _ _ _ hc em, fun z => (nomatch z), fun _ => ⟨rfl, fun a na => ?_⟩⟩
          have hl : i < σ1.length := by rw [N1.len]; exact hi
          refine ⟨.ref a, by rw [List.getElem?_set_self hl], na, ?_⟩
          have Fn : w1.F a = none := W1.sF.free na
          have W2 := W1.newF (o := ErO cls a) na
          have N2 := EnvR.newF (o := ErO cls a) W1 N1 na
          have N3 := N2.del i (some (.ref a))
          have N4 := N3.put (x := .ref a) (r := .e n) ⟨a, cls, rfl, upd_same, hc⟩ (fun _ z => nomatch z) j
          exact p _ _ W2 (N4.del i none) (l1.trans (Le.newF Fn))
        · rename_i em
          cases e
          exact ⟨false, hm _ _ _ hc em, fun _ => p w1 σ1 W1 N1 l1 cls hc, fun z => (nomatch z)⟩
        · cases e
      · cases e
end
section
variable {Y : Sys} {X : Cx} {W : WX} {x n y : Str} {c : Value} {i j : Nat} {body : List Stmt} {np pos pos' p1 p2 pos2 : Pos} {tb : WX → TS} {gb : GS Y} {mt : Str → Option Bool}
theorem ms_try (hst : X.stack = X.env :: X.outer) (hfr : X.env.frame = some X.env.locals) (hex : X.ex = []) (hN : X.N.Nodup) (hi : X.N[i]? = some n) (hj : X.N[j]? = some y) (hln : X.env.kindOf n = some .local)
    (hx : Loc X.env.scope y) (hf : X.fn y = true ∨ X.env.scope.names.lookup y = some .local) (hv : Vis X.env.scope n)
    (hc : Names X x c) (tk : Takes X W) (hm : ∀ n cls b, Cn X.K n cls → mt n = some b → PySem.W.exmOne X.K cls c = some b)
    (hb : ∀ (W' : WX) (pn : List (Addr × Obj)) (xe : Value → Shared → Prop), Takes (X.tr pn xe) W' → MSs Y (X.tr pn xe) W' body (tb W') gb)
    (hd : (n == ("__debug__" : Str)) = false := by decide) (hcd : (n == ("__classdict__" : Str)) = false := by decide) (hs : swapsWith (.Name n p2) (some (.Name y p1)) pos2.line X.env = pure false := by rfl) :
    MS Y X W (.Try body [.ExceptHandler (some (.Name x np)) (some n) [.Assign [.Name y p1] (.Name n p2) pos2] pos'] [] [] pos)
      (fun D σ H => tb (wTrk X.K c i (fun _ => tAsg (tVar i) (L2.gName j)) W D) D σ H) (sTry mt i j gb) :=
  ⟨ps_try_trk hst hfr hex hN hi hln hc tk (fun W' pn xe t _ => (hb W' pn xe t).pe)
    (fun a oe pn => pss_one (ps_set (X := X.suite a ((a, oe) :: pn)) hN hj hx (pe_var (X := X.suite a ((a, oe) :: pn)) hi hv hd hcd) hs hf)),
   sok_try hm fun W' => (hb W' [] (fun u s => XE (X.tr [] fun _ _ => True) W' u s) fun u s' ⟨a, B, sI, pins, σ, H, cls, d, e, I, nb, up, sky, na, os, ag, w⟩ =>
     ⟨a, B, sI, pins, σ, H, cls, d, e, ⟨I.ok.ofTry.toTry _ _, I.os, I.bare, I.base, I.loc, I.cell, I.free, I.freeC, I.pin, I.hok, I.len⟩, nb, up, sky, na, os, ag, w⟩).ok⟩
end
end FX

set_option Elab.async false
set_option linter.all false
set_option maxRecDepth 100000
set_option maxHeartbeats 2000000
namespace FX
open PySem PySem.Spec L2
/-- isinstance(e, c), e a caught error -/
def rIsEH (K : PySem.W.Frag) : List V → Hp → VK → Prop := fun xs H Q => ∃ (a D : Addr) (c : V) (cv : Value) (b : Bool), xs = [.ref a, c] ∧ H a = some (ErO (.ref D) a) ∧ ExcC K D ∧ (∀ u, RelV c u → u = cv) ∧ PySem.W.kitOne K (.ref D) cv = some b ∧ Q (.bl b) H
/-- isinstance(None, c) -/
def rIsNo (K : PySem.W.Frag) : List V → Hp → VK → Prop := fun xs H Q => ∃ (c : V) (cv : Value) (b : Bool), xs = [.non, c] ∧ (∀ u, RelV c u → u = cv) ∧ PySem.W.kitOne K (.type "NoneType") cv = some b ∧ Q (.bl b) H
theorem call_isEH {X : Cx} : CallR X (.builtin "isinstance") (rIsEH X.K) := by
  intro pins s σ H xs us Q I r h
  obtain ⟨a, D, c, cv, b, rfl, ha, C, hcv, e, q⟩ := h
  obtain ⟨u1, u2, rfl, r1, r2⟩ := vals2 r
  cases (show u1 = Value.ref a from r1)
  have ec := hcv _ r2
  subst ec
  obtain ⟨⟨oe, hget, hz, vs, hv⟩, _⟩ := I.hok a _ ha
  have J : PySem.W.InstAt s.heap a oe D none := by
    obtain ⟨oc, od, oda, osl⟩ := oe
    obtain ⟨h1, h2⟩ := hz
    dsimp only at h1 h2 hv
    subst h1 h2 hv
    exact ⟨hget, rfl, rfl, trivial⟩
  exact PySem.W.kia_one (PySem.W.handS_kitx_exc C.hg C.hk C.hs C.hd C.ha C.hn C.ht C.hm) I.kIn J e (fun z => nomatch z) fun tk => ⟨.bl b, H, I.tok tk, rfl, q⟩
theorem call_isNo {X : Cx} : CallR X (.builtin "isinstance") (rIsNo X.K) := by
  intro pins s σ H xs us Q I r h
  obtain ⟨c, cv, b, rfl, hcv, e, q⟩ := h
  obtain ⟨u1, u2, rfl, r1, r2⟩ := vals2 r
  cases (show u1 = Value.none from r1)
  have ec := hcv _ r2
  subst ec
  exact PySem.W.kia_one PySem.W.kitx_none I.kIn True.intro e (fun z => nomatch z) fun tk => ⟨.bl b, H, I.tok tk, rfl, q⟩
def rIsX (K : PySem.W.Frag) : List V → Hp → VK → Prop := fun xs H Q => rIsEH K xs H Q ∨ rIsNo K xs H Q
theorem call_isX {X : Cx} : CallR X (.builtin "isinstance") (rIsX X.K) := by
  intro pins s σ H xs us Q I r h
  exact h.elim (fun h => call_isEH pins s σ H xs us Q I r h) fun h => call_isNo pins s σ H xs us Q I r h
/-- isinstance of what was caught, or of None: tab tells it of the errors -/
def gIsE {Y : Sys} (tab : Str → Option Bool) (g : GE Y) : GE Y := bd g fun r Γ s => match r with
  | .e n => match tab n with
    | some b => some (.ok (.v (.bool b)), Γ, s)
    | none => none
  | .v .none => some (.ok (.v (.bool false)), Γ, s)
  | _ => none
/-- `is None` of what was caught, or of data -/
def gIsNoE {Y : Sys} (neg : Bool) (g : GE Y) : GE Y := bd g fun r Γ s => match r with
  | .e _ => some (.ok (.v (.bool neg)), Γ, s)
  | .v .none => some (.ok (.v (.bool (!neg))), Γ, s)
  | _ => none
section
variable {Y : Sys} {X : Cx} {W : WX} {e : Expr} {pos p p2 p3 : Pos} {te : TE} {ge : GE Y} {c : V} {cv : Value} {x : Str} {tab : Str → Option Bool}
theorem me_isE (hg : Gl X "isinstance") (hm : X.mg "isinstance" = none) (hc : PE X (.Name x p3) (tC c)) (hcv : ∀ u, RelV c u → u = cv) (he : ME Y X W e te ge)
    (hn : PySem.W.kitOne X.K (.type "NoneType") cv = some false)
    (ht : ∀ n cls b, Cn X.K n cls → tab n = some b → ∃ D, cls = .ref D ∧ ExcC X.K D ∧ PySem.W.kitOne X.K (.ref D) cv = some b)
    (hse : starEach (e :: [.Name x p3]) X.env = (false, eval e X.env) :: starEach [.Name x p3] X.env := by rfl) (hs2 : starEach [.Name x p3] X.env = (false, eval (.Name x p3) X.env) :: starEach [] X.env := by rfl) (hpl : (backTo p2 (starEach [.Name x p3] X.env)).any (·.1) = false := by rfl) :
    ME Y X W (.Call (.Name "isinstance" p) [e, .Name x p3] [] p2) (tCB (rIsX X.K) (tCons te (tCons (tC c) tNil))) (gIsE tab ge) := by
  refine ⟨pe_callB call_isX hg hm (by decide +kernel) (pa_cons he.pe (pa_cons hc pa_nil hs2) hse) (by decide) (by decide) hse hpl, fun B w σ Γ s out Q Wh N e p => ?_⟩
  refine he.ok.go (Q := fun x H1 => rIsX X.K [x, c] H1 Q) Wh N e p fun r Γ1 s1 x w1 W1 N1 l1 R1 e1 p1 => ?_
  split at e1
  · rename_i n
    split at e1
    · rename_i b eb
      cases e1
      obtain ⟨a, cls, rfl, q, hcn⟩ := (show SlR X.K B w1 x (.e n) from R1)
      obtain ⟨D, rfl, C, k⟩ := ht n cls b hcn eb
      exact .inl ⟨a, D, c, cv, b, rfl, W1.sF _ _ q, C, hcv, k, p1 w1 W1 N1 (.refl _) _ (show Rp _ _ _ _ from .bl _)⟩
    · cases e1
  · cases e1
    cases (show Rp X.K w1.F x .none from R1)
    exact .inr ⟨c, cv, false, rfl, hcv, hn, p1 w1 W1 N1 (.refl _) _ (show Rp _ _ _ _ from .bl _)⟩
  · cases e1
theorem isnoe {te : TE} (b : Bool) (he : EOk Y X.K W te ge) : EOk Y X.K W (tOp (fun x y H Q => y = .non ∧ Q (.bl (xor b (decide (x = .non)))) H) te (tC .non)) (gIsNoE b ge) := by
  intro B w σ Γ s out Q Wh N e p
  refine he.go (Q := fun x H1 => V.non = .non ∧ Q (.bl (xor b (decide (x = .non)))) H1) Wh N e p fun r Γ1 s1 x w1 W1 N1 l1 R1 e1 p1 => ?_
  split at e1
  · rename_i n
    cases e1
    obtain ⟨a, cls, rfl, q, hcn⟩ := (show SlR X.K B w1 x (.e n) from R1)
    have := p1 w1 W1 N1 (.refl _) (.bl b) (show Rp _ _ _ _ from .bl _)
    refine ⟨rfl, ?_⟩
    rw [decide_eq_false (fun z => nomatch z), Bool.xor_false]
    exact this
  · cases e1
    cases (show Rp X.K w1.F x .none from R1)
    have := p1 w1 W1 N1 (.refl _) (.bl !b) (show Rp _ _ _ _ from .bl _)
    refine ⟨rfl, ?_⟩
    rw [decide_eq_true rfl, Bool.xor_true]
    exact this
  · cases e1
end
end FX
namespace FX
open PySem PySem.Spec L2
section
variable {Y : Sys} {X : Cx} {W : WX} {e : Expr} {pos p0 : Pos} {j : Nat} {te : TE} {ge : GE Y}
theorem eok_isE (he : EOk Y X.K W te ge) : EOk Y X.K W (tOp (fun x y H Q => y = .non ∧ Q (.bl (decide (x = .non))) H) te (tC .non)) (gIsNoE false ge) := by
  intro B w σ Γ s out Q Wh N e p
  refine isnoe false he B w σ Γ s out Q Wh N e p |> fun h => ?_
  have z : (fun (x y : V) (H : Hp) (Q : VK) => y = .non ∧ Q (.bl (xor false (decide (x = .non)))) H) = fun x y H Q => y = .non ∧ Q (.bl (decide (x = .non))) H := by
    funext x y H Q; rw [Bool.false_xor]
  rw [z] at h
  exact h
theorem eok_notE (he : EOk Y X.K W te ge) : EOk Y X.K W (tOp (fun x y H Q => y = .non ∧ Q (.bl (!decide (x = .non))) H) te (tC .non)) (gIsNoE true ge) := by
  intro B w σ Γ s out Q Wh N e p
  refine isnoe true he B w σ Γ s out Q Wh N e p |> fun h => ?_
  have z : (fun (x y : V) (H : Hp) (Q : VK) => y = .non ∧ Q (.bl (xor true (decide (x = .non)))) H) = fun x y H Q => y = .non ∧ Q (.bl (!decide (x = .non))) H := by
    funext x y H Q; rw [Bool.true_xor]
  rw [z] at h
  exact h
theorem me_isNE (he : ME Y X W e te ge) : ME Y X W (.Compare e [.Is] [.Constant .none j p0] pos) (tOp (fun x y H Q => y = .non ∧ Q (.bl (decide (x = .non))) H) te (tC .non)) (gIsNoE false ge) :=
  ⟨pe_cmpR op_isN he.pe pe_non (nomark _), eok_isE he.ok⟩
theorem me_notNE (he : ME Y X W e te ge) : ME Y X W (.Compare e [.IsNot] [.Constant .none j p0] pos) (tOp (fun x y H Q => y = .non ∧ Q (.bl (!decide (x = .non))) H) te (tC .non)) (gIsNoE true ge) :=
  ⟨pe_cmpR op_notN he.pe pe_non (nomark _), eok_notE he.ok⟩
theorem mt_isNE (he : ME Y X W e te ge) : MT Y X W (.Compare e [.Is] [.Constant .none j p0] pos) (tTest (tOp (fun x y H Q => y = .non ∧ Q (.bl (decide (x = .non))) H) te (tC .non))) (gTst (gIsNoE false ge)) :=
  ⟨pt_cmpR op_isN he.pe pe_non (nomark _), tok_tst (eok_isE he.ok)⟩
theorem mt_notNE (he : ME Y X W e te ge) : MT Y X W (.Compare e [.IsNot] [.Constant .none j p0] pos) (tTest (tOp (fun x y H Q => y = .non ∧ Q (.bl (!decide (x = .non))) H) te (tC .non))) (gTst (gIsNoE true ge)) :=
  ⟨pt_cmpR op_notN he.pe pe_non (nomark _), tok_tst (eok_notE he.ok)⟩
end
section
variable {K : PySem.W.Frag} {c cv : Value} {a : Str} {D : Addr} {r : Bool} {t : Str → Option Bool}
theorem eh_nil : ∀ (n : Str) (cls : Value) (b : Bool), Cn K n cls → (none : Option Bool) = some b → PySem.W.exmOne K cls c = some b := fun _ _ _ _ z => nomatch z
theorem eh_cons (h : Cn K a (.ref D)) (e : PySem.W.exmOne K (.ref D) c = some r) (k : ∀ (n : Str) (cls : Value) (b : Bool), Cn K n cls → t n = some b → PySem.W.exmOne K cls c = some b) :
    ∀ (n : Str) (cls : Value) (b : Bool), Cn K n cls → (if n = a then some r else t n) = some b → PySem.W.exmOne K cls c = some b := fun n cls b hc z => by
  by_cases q : n = a
  · subst q
    rw [if_pos rfl] at z
    cases z
    cases hc.uniq h
    exact e
  · rw [if_neg q] at z; exact k n cls b hc z
theorem ei_nil : ∀ (n : Str) (cls : Value) (b : Bool), Cn K n cls → (none : Option Bool) = some b → ∃ D, cls = .ref D ∧ ExcC K D ∧ PySem.W.kitOne K (.ref D) cv = some b := fun _ _ _ _ z => nomatch z
theorem ei_cons (h : ErC K a D) (e : PySem.W.kitOne K (.ref D) cv = some r) (k : ∀ (n : Str) (cls : Value) (b : Bool), Cn K n cls → t n = some b → ∃ D, cls = .ref D ∧ ExcC K D ∧ PySem.W.kitOne K (.ref D) cv = some b) :
    ∀ (n : Str) (cls : Value) (b : Bool), Cn K n cls → (if n = a then some r else t n) = some b → ∃ D, cls = .ref D ∧ ExcC K D ∧ PySem.W.kitOne K (.ref D) cv = some b := fun n cls b hc z => by
  by_cases q : n = a
  · subst q
    rw [if_pos rfl] at z
    cases z
    cases hc.uniq h.cn
    exact ⟨D, rfl, h.e, e⟩
  · rw [if_neg q] at z; exact k n cls b hc z
end
theorem relTy {T : String} (u : Value) (h : RelV (.ty T) u) : u = .type T := h
theorem relRef {a : Addr} (u : Value) (h : RelV (.ref a) u) : u = .ref a := h
end FX

set_option Elab.async false
set_option linter.all false
set_option maxRecDepth 100000
set_option maxHeartbeats 1000000
namespace FX
open PySem PySem.Spec L2
theorem ixN_seq {n j : Nat} {k : Int} (h : ixN n k = some j) : seqIndex? k n = some j ∧ j < n := by
  unfold ixN at h
  unfold seqIndex?
  split at h
  · split at h
    · rename_i a b
      cases h
      have a' : ¬ k < 0 := by simpa using a
      simp only [if_neg a']
      refine ⟨?_, by omega⟩
      rw [if_pos]
      simp; omega
    · cases h
  · split at h
    · rename_i a b
      cases h
      have a' : k < 0 := by omega
      simp only [if_pos a']
      refine ⟨?_, by omega⟩
      rw [if_pos]
      simp; omega
    · cases h
section
variable {Y : Sys} {X : Cx} {W : WX} {e o : Expr} {pos p apos cpos : Pos} {ge : GE Y} {te : TE} {i : Nat}
theorem eok_pop1 {K : PySem.W.Frag} (he : EOk Y K W te ge) : EOk Y K W (tBM K "list" rPopAt (tVar i) (tCons te tNil)) (gPop1 i ge) := by
  intro B w σ Γ s out Q Wh N e p
  unfold gPop1 at e
  split at e
  · rename_i ds0 hi0
    obtain ⟨x, hx, q, rfl, ⟨xs, hl, ra⟩, _⟩ := N.sl i _ hi0
    refine ⟨_, hx, .inl ⟨rfl, xs, .of hl⟩, ?_⟩
    refine he.go (Q := fun y H2 => rPopAt (.ref q) [y] H2 Q) Wh N e p fun r Γ1 s1 y w1 W1 N1 l1 R1 e1 p1 => ?_
    split at e1
    · rename_i k ds ek hi
      split at e1
      · rename_i hb
        split at e1
        · rename_i j hj
          split at e1
          · rename_i d hd
            cases e1
            obtain ⟨x, hx', q', rfl, ⟨xs, hl, ra⟩, fq, bq, aq⟩ := N1.sl i _ hi
            rw [hx] at hx'; cases hx'
            cases sh_int (sh_of W1 N1 R1 ek)
            obtain ⟨b1, b2⟩ := bigI_of hb
            obtain ⟨sx, jl⟩ := ixN_seq hj
            obtain ⟨v, hv, rv⟩ := ra.get hd
            refine ⟨q, xs, k, j, v, rfl, rfl, hl, by omega, by omega, by rw [ra.length]; exact sx, hv, ?_⟩
            exact p1 { w1 with H := upd w1.H q (.lst (xs.eraseIdx j)) } (W1.st fq bq aq) (N1.st hi hx ⟨_, upd_same, ra.erase j⟩) ⟨Same.refl _, [], by simp⟩ v rv
          · cases e1
        · cases e1
      · cases e1
    · cases e1
  · cases e
theorem me_pop1 (ho : PE X o (tVar i)) (he : ME Y X W e te ge) (hbase : attributeBase o "pop" X.env (eval o X.env) = eval o X.env := by rfl)
    (hfew : ((backTo cpos (starEach (e :: []) X.env)).all (fun x => !x.1) && (backToKw cpos (keywordEach [] X.env)).all (fun x => x.1.isSome) && decide ((e :: []).length + ([] : List Keyword).length + (if ([] : List Keyword).isEmpty then 0 else 1) < 30)) = true := by rfl)
    (hline : (apos.endLine == cpos.line) = true := by rfl) (hs : starEach (e :: []) X.env = (false, eval e X.env) :: starEach [] X.env := by rfl) (hplain : (backTo cpos (starEach [] X.env)).any (·.1) = false := by rfl) :
    ME Y X W (.Call (.Attribute o "pop" apos) [e] [] cpos) (tBM X.K "list" rPopAt (tVar i) (tCons te tNil)) (gPop1 i ge) :=
  ⟨pe_bm PySem.F.plainAttrs_list PySem.F.slot_list_pop PySem.F.type_list_pop mt_popAt ho (pa_cons he.pe pa_nil hs) hbase hfew hline hs hplain, eok_pop1 he.ok⟩
end
def fAbs : List D → Option Rz
  | [.int i] => some (.nw (.int (if i < 0 then -i else i)))
  | _ => none
theorem s_abs {K : PySem.W.Frag} : OpN K (fun xs H Q => ∃ i, xs = [.int i] ∧ Q (.int (if i < 0 then -i else i)) H) fAbs := by
  intro F H xs ds z Q sF hx h q
  unfold fAbs at h
  split at h
  · cases h
    cases hx with
    | cons a b =>
      cases b
      cases sh_int a
      exact ⟨_, rfl, nw_int q⟩
  · cases h
end FX

set_option Elab.async false
set_option linter.all false
set_option maxRecDepth 100000
set_option maxHeartbeats 1000000
namespace FX
open PySem PySem.Spec L2
def leD (d e : D) : Bool := !PySem.W.dataLt e d
def insD (a : D) : List D → List D
  | [] => [a]
  | b :: l => if leD a b = true then a :: b :: l else b :: insD a l
def isortD : List D → List D
  | [] => []
  | a :: l => insD a (isortD l)
theorem leD_eq : PySem.W.dataLe (β := D) false id = leD := by
  funext a b
  rw [PySem.W.dataLe_eq]; rfl
theorem leD_total : PySem.W.TotalLe leD := by
  rw [← leD_eq]; exact PySem.W.sortLe_total _ _ _
theorem insD_mem {a x : D} : ∀ {l : List D}, x ∈ insD a l ↔ x = a ∨ x ∈ l
  | [] => by simp [insD]
  | b :: l => by
    unfold insD
    split
    · simp
    · simp only [List.mem_cons, insD_mem (l := l)]
      constructor
      · rintro (h | h | h)
        · exact .inr (.inl h)
        · exact .inl h
        · exact .inr (.inr h)
      · rintro (h | h | h)
        · exact .inr (.inl h)
        · exact .inl h
        · exact .inr (.inr h)
theorem insD_perm (a : D) : ∀ l : List D, (insD a l).Perm (a :: l)
  | [] => .refl _
  | b :: l => by
    unfold insD
    split
    · exact .refl _
    · exact ((insD_perm a l).cons b).trans (.swap a b l)
theorem isortD_perm : ∀ l : List D, (isortD l).Perm l
  | [] => .refl _
  | a :: l => (insD_perm a _).trans ((isortD_perm l).cons a)
theorem insD_srt (a : D) : ∀ {l : List D}, l.Pairwise (fun x y => leD x y = true) → (insD a l).Pairwise fun x y => leD x y = true
  | [], _ => List.pairwise_singleton _ _
  | b :: l, h => by
    obtain ⟨h1, h2⟩ := List.pairwise_cons.mp h
    unfold insD
    split
    · rename_i c
      refine List.pairwise_cons.mpr ⟨fun x hx => ?_, h⟩
      rcases List.mem_cons.mp hx with rfl | hx
      · exact c
      · exact leD_total.trans _ _ _ c (h1 x hx)
    · rename_i c
      refine List.pairwise_cons.mpr ⟨fun x hx => ?_, insD_srt a h2⟩
      rcases insD_mem.mp hx with rfl | hx
      · exact (leD_total.total x b).resolve_left c
      · exact h1 x hx
theorem isortD_srt : ∀ l : List D, (isortD l).Pairwise fun x y => leD x y = true
  | [] => .nil
  | a :: l => insD_srt a (isortD_srt l)
theorem insD_flt (c a : D) : ∀ {l : List D}, l.Pairwise (fun x y => leD x y = true) → (insD a l).filter (PySem.W.sameRank leD c) = (a :: l).filter (PySem.W.sameRank leD c)
  | [], _ => rfl
  | b :: l, h => by
    obtain ⟨h1, h2⟩ := List.pairwise_cons.mp h
    unfold insD
    split
    · rfl
    · rename_i k
      rw [List.filter_cons, insD_flt c a h2]
      simp only [List.filter_cons]
      by_cases q : PySem.W.sameRank leD c a = true
      · have nb : ¬ PySem.W.sameRank leD c b = true := fun z => by
          unfold PySem.W.sameRank at q z
          rw [Bool.and_eq_true] at q z
          exact k (leD_total.trans _ _ _ q.2 z.1)
        simp [q, nb]
      · simp [q]
theorem isortD_flt (c : D) : ∀ l : List D, (isortD l).filter (PySem.W.sameRank leD c) = l.filter (PySem.W.sameRank leD c)
  | [] => rfl
  | a :: l => by
    show (insD a (isortD l)).filter _ = _
    rw [insD_flt c a (isortD_srt l), List.filter_cons, List.filter_cons, isortD_flt c l]
theorem isortD_merge (l : List D) : isortD l = l.mergeSort leD := PySem.W.sort_unique leD_total (isortD_srt l) fun c => isortD_flt c l
def sortable (ds : List D) : Bool := ds.all (fun d => match d with | .tuple (_ :: _) => true | _ => false) || ds.all (fun d => match d with | .none => false | .tuple _ => false | _ => true)
def allAlike (ds : List D) : Bool := ds.all fun d => ds.all fun e => PySem.W.alike d e
theorem sortable_of {ds : List D} (h : sortable ds = true) : PySem.W.Sortable ds := by
  unfold sortable at h
  rw [Bool.or_eq_true] at h
  rcases h with h | h
  · refine .inl fun d hd => ?_
    have := List.all_eq_true.mp h d hd
    split at this
    · exact ⟨_, _, rfl⟩
    · cases this
  · refine .inr fun d hd => ?_
    have := List.all_eq_true.mp h d hd
    split at this
    · cases this
    · cases this
    · rename_i a b
      exact ⟨a, b⟩
theorem allAlike_of {ds : List D} (h : allAlike ds = true) : PySem.W.AllAlike ds := fun d hd e he => List.all_eq_true.mp (List.all_eq_true.mp h d hd) e he
def rSortedD (K : PySem.W.Frag) : List V → Hp → VK → Prop := fun vs H Q => ∃ (a : Addr) (xs : List V) (ds : List D), vs = [.ref a] ∧ SqL K H a xs ∧ RpA K H xs ds ∧ PySem.W.AllAlike ds ∧ PySem.W.Sortable ds ∧ (∀ d ∈ ds, d.depth ≤ 60) ∧
  ∀ ys p, (∀ F, RpA K F xs ds → RpA K F ys (isortD ds)) → H p = none → Q (.ref p) (upd H p (.lst ys))
theorem rpa_each {P : Program} {w : World} {K : PySem.W.Frag} {H : Hp} {h : Heap} (ok : HOk P w H h) (Z : List (V × D)) : ∀ {xs : List V} {ds : List D}, RpA K H xs ds → (∀ p ∈ xs.zip ds, p ∈ Z) → ∀ {us : List Value}, Vals xs us →
    PySem.W.EachIs (fun (u : Value) (d : D) => ∃ x, RelV x u ∧ (x, d) ∈ Z) us ds ∧ PySem.W.EachIs (fun v b => ∃ as, Reads h v (id b) as) us ds
  | _, _, .nil, _, _, e => by cases e; exact ⟨.nil, .nil⟩
  | _, _, .cons r rr, hZ, _, e => by
    cases e with
    | cons e1 e2 =>
      obtain ⟨a, b⟩ := rpa_each ok Z rr (fun p hp => hZ p (by simp [hp])) e2
      exact ⟨.cons ⟨_, e1, hZ _ (by simp)⟩ a, .cons (rp_reads ok r e1) b⟩
theorem each_rpa {K : PySem.W.Frag} (Z : List (V × D)) : ∀ {us : List Value} {ds : List D}, PySem.W.EachIs (fun (u : Value) (d : D) => ∃ x, RelV x u ∧ (x, d) ∈ Z) us ds → ∃ ys, Vals ys us ∧ ∀ F, (∀ p ∈ Z, Rp K F p.1 p.2) → RpA K F ys ds
  | _, _, .nil => ⟨[], .nil, fun _ _ => .nil⟩
  | _, _, .cons ⟨x, a, b⟩ t => by
    obtain ⟨ys, h1, h2⟩ := each_rpa Z t
    exact ⟨x :: ys, .cons a h1, fun F h => .cons (h _ b) (h2 F h)⟩
theorem rpa_zip {K : PySem.W.Frag} {F : Hp} : ∀ {xs : List V} {ds : List D}, RpA K F xs ds → ∀ p ∈ xs.zip ds, Rp K F p.1 p.2
  | _, _, .nil, p, h => by simp at h
  | _, _, .cons r rr, p, h => by
    rcases List.mem_cons.mp h with rfl | h
    · exact r
    · exact rpa_zip rr p h
theorem vals_len : ∀ {xs : List V} {us : List Value}, Vals xs us → xs.length = us.length
  | _, _, .nil => rfl
  | _, _, .cons _ t => by simp [vals_len t]
section
variable {X : Cx}
theorem cr_sortedD (hu : X.A.units + 65 < cLine) : CallR X (.builtin "sorted") (rSortedD X.K) := by
  intro pins s σ H vs us Q I r h
  obtain ⟨a, xs, ds, rfl, hs, hx, al, so, dp, q⟩ := h
  obtain ⟨its, rv, hl, hz⟩ := I.list hs
  obtain ⟨u, rfl, ru⟩ := vals1 r
  obtain rfl : u = Value.ref a := ru
  obtain ⟨ea, eb⟩ := rpa_each (K := X.K) I.hok (xs.zip ds) hx (fun p hp => hp) rv
  have hle := hx.length
  have hvl := vals_len rv
  refine PySem.W.sorted_data (β := D) (enc := id) (bs := ds) (vs := its) hl.isList ea eb (by rw [List.map_id]; exact al) (by rw [List.map_id]; exact so) (by rw [← hle]; exact hz) (fun b hb => ?_) fun out hlen ho => ?_
  · have := dp b hb
    show _ + 2 + (PyData.depth b) < _
    omega
  · rw [leD_eq, ← isortD_merge] at ho
    obtain ⟨ys, hv, hr⟩ := each_rpa (K := X.K) (xs.zip ds) ho
    obtain ⟨n, hn⟩ := PyProof.Rows.sortedAll_at s.heap its (List.toArray out)
    refine ⟨.ref _, upd H (s.heap.objs.size + 1) (.lst ys), I.laid (t' := s.toks) (fun _ _ => PyProof.Rows.sortedAll_old) (Nat.le_succ _) ⟨?_, out, n, hv, hn⟩, rfl, q ys _ (fun F hF => hr F (rpa_zip hF)) (I.hok.fresh (Nat.le_succ _))⟩
    rw [vals_len hv, hlen, ← hle]; exact hz
end
def fSrtD : List D → Option Rz
  | [.list ds] => if (allAlike ds && sortable ds && ds.all (fun d => Nat.ble d.depth 60)) = true then some (.nw (.list (isortD ds))) else none
  | _ => none
theorem s_srtD {K : PySem.W.Frag} : OpN K (rSortedD K) fSrtD := by
  intro F H xs ds z Q sF hx h q
  unfold fSrtD at h
  split at h
  · split at h
    · rename_i ds hc
      cases h
      simp only [Bool.and_eq_true] at hc
      cases hx with
      | cons a b =>
        cases b
        obtain ⟨p, xs, rfl, e1, a1⟩ := a
        exact ⟨p, xs, _, rfl, .of e1, a1.mono sF, allAlike_of hc.1.1, sortable_of hc.1.2, fun d hd => Nat.le_of_ble_eq_true (List.all_eq_true.mp hc.2 d hd), fun ys r hys nr => q r ys nr (hys F a1)⟩
    · cases h
  · cases h
end FX
namespace FX
open PySem PySem.Spec L2
section
variable {K : PySem.W.Frag} {a : Str} {c cv : Value} {r : Bool} {t : Str → Option Bool}
/-- a class that the text does not name -/
theorem eh_skip (h : PySem.W.nsIn K mainGlobals a = some none) (k : ∀ (n : Str) (cls : Value) (b : Bool), Cn K n cls → t n = some b → PySem.W.exmOne K cls c = some b) :
    ∀ (n : Str) (cls : Value) (b : Bool), Cn K n cls → (if n = a then some r else t n) = some b → PySem.W.exmOne K cls c = some b := fun n cls b hc z => by
  by_cases q : n = a
  · subst q
    unfold Cn at hc
    rw [h] at hc
    cases hc
  · rw [if_neg q] at z; exact k n cls b hc z
theorem ei_skip (h : PySem.W.nsIn K mainGlobals a = some none) (k : ∀ (n : Str) (cls : Value) (b : Bool), Cn K n cls → t n = some b → ∃ D, cls = .ref D ∧ ExcC K D ∧ PySem.W.kitOne K (.ref D) cv = some b) :
    ∀ (n : Str) (cls : Value) (b : Bool), Cn K n cls → (if n = a then some r else t n) = some b → ∃ D, cls = .ref D ∧ ExcC K D ∧ PySem.W.kitOne K (.ref D) cv = some b := fun n cls b hc z => by
  by_cases q : n = a
  · subst q
    unfold Cn at hc
    rw [h] at hc
    cases hc
  · rw [if_neg q] at z; exact k n cls b hc z
end
end FX

set_option Elab.async false
set_option linter.all false
set_option maxRecDepth 100000
namespace FX
open PySem
def et_NoEnd : Str → Option Bool := fun z => if z = PySem.Str.ofString "NoEnd" then some true else if z = PySem.Str.ofString "NoLeague" then some false else if z = PySem.Str.ofString "NoMatch" then some false else if z = PySem.Str.ofString "NoName" then some false else if z = PySem.Str.ofString "NoNumber" then some false else if z = PySem.Str.ofString "NoOutcome" then some false else if z = PySem.Str.ofString "NoPlayer" then some false else if z = PySem.Str.ofString "NoPoints" then some false else if z = PySem.Str.ofString "NoRow" then some false else if z = PySem.Str.ofString "NoText" then some false else if z = PySem.Str.ofString "TooMany" then some false else none
def et_NoLeague : Str → Option Bool := fun z => if z = PySem.Str.ofString "NoEnd" then some false else if z = PySem.Str.ofString "NoLeague" then some true else if z = PySem.Str.ofString "NoMatch" then some false else if z = PySem.Str.ofString "NoName" then some false else if z = PySem.Str.ofString "NoNumber" then some false else if z = PySem.Str.ofString "NoOutcome" then some false else if z = PySem.Str.ofString "NoPlayer" then some false else if z = PySem.Str.ofString "NoPoints" then some false else if z = PySem.Str.ofString "NoRow" then some false else if z = PySem.Str.ofString "NoText" then some false else if z = PySem.Str.ofString "TooMany" then some false else none
def et_NoMatch : Str → Option Bool := fun z => if z = PySem.Str.ofString "NoEnd" then some false else if z = PySem.Str.ofString "NoLeague" then some false else if z = PySem.Str.ofString "NoMatch" then some true else if z = PySem.Str.ofString "NoName" then some false else if z = PySem.Str.ofString "NoNumber" then some false else if z = PySem.Str.ofString "NoOutcome" then some false else if z = PySem.Str.ofString "NoPlayer" then some false else if z = PySem.Str.ofString "NoPoints" then some false else if z = PySem.Str.ofString "NoRow" then some false else if z = PySem.Str.ofString "NoText" then some false else if z = PySem.Str.ofString "TooMany" then some false else none
def et_NoName : Str → Option Bool := fun z => if z = PySem.Str.ofString "NoEnd" then some false else if z = PySem.Str.ofString "NoLeague" then some false else if z = PySem.Str.ofString "NoMatch" then some false else if z = PySem.Str.ofString "NoName" then some true else if z = PySem.Str.ofString "NoNumber" then some false else if z = PySem.Str.ofString "NoOutcome" then some false else if z = PySem.Str.ofString "NoPlayer" then some false else if z = PySem.Str.ofString "NoPoints" then some false else if z = PySem.Str.ofString "NoRow" then some false else if z = PySem.Str.ofString "NoText" then some false else if z = PySem.Str.ofString "TooMany" then some false else none
def et_NoNumber : Str → Option Bool := fun z => if z = PySem.Str.ofString "NoEnd" then some false else if z = PySem.Str.ofString "NoLeague" then some false else if z = PySem.Str.ofString "NoMatch" then some false else if z = PySem.Str.ofString "NoName" then some false else if z = PySem.Str.ofString "NoNumber" then some true else if z = PySem.Str.ofString "NoOutcome" then some false else if z = PySem.Str.ofString "NoPlayer" then some false else if z = PySem.Str.ofString "NoPoints" then some false else if z = PySem.Str.ofString "NoRow" then some false else if z = PySem.Str.ofString "NoText" then some false else if z = PySem.Str.ofString "TooMany" then some false else none
def et_NoOutcome : Str → Option Bool := fun z => if z = PySem.Str.ofString "NoEnd" then some false else if z = PySem.Str.ofString "NoLeague" then some false else if z = PySem.Str.ofString "NoMatch" then some false else if z = PySem.Str.ofString "NoName" then some false else if z = PySem.Str.ofString "NoNumber" then some false else if z = PySem.Str.ofString "NoOutcome" then some true else if z = PySem.Str.ofString "NoPlayer" then some false else if z = PySem.Str.ofString "NoPoints" then some false else if z = PySem.Str.ofString "NoRow" then some false else if z = PySem.Str.ofString "NoText" then some false else if z = PySem.Str.ofString "TooMany" then some false else none
def et_NoPlayer : Str → Option Bool := fun z => if z = PySem.Str.ofString "NoEnd" then some false else if z = PySem.Str.ofString "NoLeague" then some false else if z = PySem.Str.ofString "NoMatch" then some false else if z = PySem.Str.ofString "NoName" then some false else if z = PySem.Str.ofString "NoNumber" then some false else if z = PySem.Str.ofString "NoOutcome" then some false else if z = PySem.Str.ofString "NoPlayer" then some true else if z = PySem.Str.ofString "NoPoints" then some false else if z = PySem.Str.ofString "NoRow" then some false else if z = PySem.Str.ofString "NoText" then some false else if z = PySem.Str.ofString "TooMany" then some false else none
def et_NoPoints : Str → Option Bool := fun z => if z = PySem.Str.ofString "NoEnd" then some false else if z = PySem.Str.ofString "NoLeague" then some false else if z = PySem.Str.ofString "NoMatch" then some false else if z = PySem.Str.ofString "NoName" then some false else if z = PySem.Str.ofString "NoNumber" then some false else if z = PySem.Str.ofString "NoOutcome" then some false else if z = PySem.Str.ofString "NoPlayer" then some false else if z = PySem.Str.ofString "NoPoints" then some true else if z = PySem.Str.ofString "NoRow" then some false else if z = PySem.Str.ofString "NoText" then some false else if z = PySem.Str.ofString "TooMany" then some false else none
def et_NoRow : Str → Option Bool := fun z => if z = PySem.Str.ofString "NoEnd" then some false else if z = PySem.Str.ofString "NoLeague" then some false else if z = PySem.Str.ofString "NoMatch" then some false else if z = PySem.Str.ofString "NoName" then some false else if z = PySem.Str.ofString "NoNumber" then some false else if z = PySem.Str.ofString "NoOutcome" then some false else if z = PySem.Str.ofString "NoPlayer" then some false else if z = PySem.Str.ofString "NoPoints" then some false else if z = PySem.Str.ofString "NoRow" then some true else if z = PySem.Str.ofString "NoText" then some false else if z = PySem.Str.ofString "TooMany" then some false else none
def et_NoText : Str → Option Bool := fun z => if z = PySem.Str.ofString "NoEnd" then some false else if z = PySem.Str.ofString "NoLeague" then some false else if z = PySem.Str.ofString "NoMatch" then some false else if z = PySem.Str.ofString "NoName" then some false else if z = PySem.Str.ofString "NoNumber" then some false else if z = PySem.Str.ofString "NoOutcome" then some false else if z = PySem.Str.ofString "NoPlayer" then some false else if z = PySem.Str.ofString "NoPoints" then some false else if z = PySem.Str.ofString "NoRow" then some false else if z = PySem.Str.ofString "NoText" then some true else if z = PySem.Str.ofString "TooMany" then some false else none
def et_TooMany : Str → Option Bool := fun z => if z = PySem.Str.ofString "NoEnd" then some false else if z = PySem.Str.ofString "NoLeague" then some false else if z = PySem.Str.ofString "NoMatch" then some false else if z = PySem.Str.ofString "NoName" then some false else if z = PySem.Str.ofString "NoNumber" then some false else if z = PySem.Str.ofString "NoOutcome" then some false else if z = PySem.Str.ofString "NoPlayer" then some false else if z = PySem.Str.ofString "NoPoints" then some false else if z = PySem.Str.ofString "NoRow" then some false else if z = PySem.Str.ofString "NoText" then some false else if z = PySem.Str.ofString "TooMany" then some true else none
def et_WinError : Str → Option Bool := fun z => if z = PySem.Str.ofString "NoEnd" then some true else if z = PySem.Str.ofString "NoLeague" then some true else if z = PySem.Str.ofString "NoMatch" then some true else if z = PySem.Str.ofString "NoName" then some true else if z = PySem.Str.ofString "NoNumber" then some true else if z = PySem.Str.ofString "NoOutcome" then some true else if z = PySem.Str.ofString "NoPlayer" then some true else if z = PySem.Str.ofString "NoPoints" then some true else if z = PySem.Str.ofString "NoRow" then some true else if z = PySem.Str.ofString "NoText" then some true else if z = PySem.Str.ofString "TooMany" then some true else none
def et_ValueError : Str → Option Bool := fun z => if z = PySem.Str.ofString "NoEnd" then some true else if z = PySem.Str.ofString "NoLeague" then some true else if z = PySem.Str.ofString "NoMatch" then some true else if z = PySem.Str.ofString "NoName" then some true else if z = PySem.Str.ofString "NoNumber" then some true else if z = PySem.Str.ofString "NoOutcome" then some true else if z = PySem.Str.ofString "NoPlayer" then some true else if z = PySem.Str.ofString "NoPoints" then some true else if z = PySem.Str.ofString "NoRow" then some true else if z = PySem.Str.ofString "NoText" then some true else if z = PySem.Str.ofString "TooMany" then some true else none
def it_NoEnd : Str → Option Bool := fun z => if z = PySem.Str.ofString "NoEnd" then some true else if z = PySem.Str.ofString "NoLeague" then some false else if z = PySem.Str.ofString "NoMatch" then some false else if z = PySem.Str.ofString "NoName" then some false else if z = PySem.Str.ofString "NoNumber" then some false else if z = PySem.Str.ofString "NoOutcome" then some false else if z = PySem.Str.ofString "NoPlayer" then some false else if z = PySem.Str.ofString "NoPoints" then some false else if z = PySem.Str.ofString "NoRow" then some false else if z = PySem.Str.ofString "NoText" then some false else if z = PySem.Str.ofString "TooMany" then some false else none
def it_NoLeague : Str → Option Bool := fun z => if z = PySem.Str.ofString "NoEnd" then some false else if z = PySem.Str.ofString "NoLeague" then some true else if z = PySem.Str.ofString "NoMatch" then some false else if z = PySem.Str.ofString "NoName" then some false else if z = PySem.Str.ofString "NoNumber" then some false else if z = PySem.Str.ofString "NoOutcome" then some false else if z = PySem.Str.ofString "NoPlayer" then some false else if z = PySem.Str.ofString "NoPoints" then some false else if z = PySem.Str.ofString "NoRow" then some false else if z = PySem.Str.ofString "NoText" then some false else if z = PySem.Str.ofString "TooMany" then some false else none
def it_NoMatch : Str → Option Bool := fun z => if z = PySem.Str.ofString "NoEnd" then some false else if z = PySem.Str.ofString "NoLeague" then some false else if z = PySem.Str.ofString "NoMatch" then some true else if z = PySem.Str.ofString "NoName" then some false else if z = PySem.Str.ofString "NoNumber" then some false else if z = PySem.Str.ofString "NoOutcome" then some false else if z = PySem.Str.ofString "NoPlayer" then some false else if z = PySem.Str.ofString "NoPoints" then some false else if z = PySem.Str.ofString "NoRow" then some false else if z = PySem.Str.ofString "NoText" then some false else if z = PySem.Str.ofString "TooMany" then some false else none
def it_NoName : Str → Option Bool := fun z => if z = PySem.Str.ofString "NoEnd" then some false else if z = PySem.Str.ofString "NoLeague" then some false else if z = PySem.Str.ofString "NoMatch" then some false else if z = PySem.Str.ofString "NoName" then some true else if z = PySem.Str.ofString "NoNumber" then some false else if z = PySem.Str.ofString "NoOutcome" then some false else if z = PySem.Str.ofString "NoPlayer" then some false else if z = PySem.Str.ofString "NoPoints" then some false else if z = PySem.Str.ofString "NoRow" then some false else if z = PySem.Str.ofString "NoText" then some false else if z = PySem.Str.ofString "TooMany" then some false else none
def it_NoNumber : Str → Option Bool := fun z => if z = PySem.Str.ofString "NoEnd" then some false else if z = PySem.Str.ofString "NoLeague" then some false else if z = PySem.Str.ofString "NoMatch" then some false else if z = PySem.Str.ofString "NoName" then some false else if z = PySem.Str.ofString "NoNumber" then some true else if z = PySem.Str.ofString "NoOutcome" then some false else if z = PySem.Str.ofString "NoPlayer" then some false else if z = PySem.Str.ofString "NoPoints" then some false else if z = PySem.Str.ofString "NoRow" then some false else if z = PySem.Str.ofString "NoText" then some false else if z = PySem.Str.ofString "TooMany" then some false else none
def it_NoOutcome : Str → Option Bool := fun z => if z = PySem.Str.ofString "NoEnd" then some false else if z = PySem.Str.ofString "NoLeague" then some false else if z = PySem.Str.ofString "NoMatch" then some false else if z = PySem.Str.ofString "NoName" then some false else if z = PySem.Str.ofString "NoNumber" then some false else if z = PySem.Str.ofString "NoOutcome" then some true else if z = PySem.Str.ofString "NoPlayer" then some false else if z = PySem.Str.ofString "NoPoints" then some false else if z = PySem.Str.ofString "NoRow" then some false else if z = PySem.Str.ofString "NoText" then some false else if z = PySem.Str.ofString "TooMany" then some false else none
def it_NoPlayer : Str → Option Bool := fun z => if z = PySem.Str.ofString "NoEnd" then some false else if z = PySem.Str.ofString "NoLeague" then some false else if z = PySem.Str.ofString "NoMatch" then some false else if z = PySem.Str.ofString "NoName" then some false else if z = PySem.Str.ofString "NoNumber" then some false else if z = PySem.Str.ofString "NoOutcome" then some false else if z = PySem.Str.ofString "NoPlayer" then some true else if z = PySem.Str.ofString "NoPoints" then some false else if z = PySem.Str.ofString "NoRow" then some false else if z = PySem.Str.ofString "NoText" then some false else if z = PySem.Str.ofString "TooMany" then some false else none
def it_NoPoints : Str → Option Bool := fun z => if z = PySem.Str.ofString "NoEnd" then some false else if z = PySem.Str.ofString "NoLeague" then some false else if z = PySem.Str.ofString "NoMatch" then some false else if z = PySem.Str.ofString "NoName" then some false else if z = PySem.Str.ofString "NoNumber" then some false else if z = PySem.Str.ofString "NoOutcome" then some false else if z = PySem.Str.ofString "NoPlayer" then some false else if z = PySem.Str.ofString "NoPoints" then some true else if z = PySem.Str.ofString "NoRow" then some false else if z = PySem.Str.ofString "NoText" then some false else if z = PySem.Str.ofString "TooMany" then some false else none
def it_NoRow : Str → Option Bool := fun z => if z = PySem.Str.ofString "NoEnd" then some false else if z = PySem.Str.ofString "NoLeague" then some false else if z = PySem.Str.ofString "NoMatch" then some false else if z = PySem.Str.ofString "NoName" then some false else if z = PySem.Str.ofString "NoNumber" then some false else if z = PySem.Str.ofString "NoOutcome" then some false else if z = PySem.Str.ofString "NoPlayer" then some false else if z = PySem.Str.ofString "NoPoints" then some false else if z = PySem.Str.ofString "NoRow" then some true else if z = PySem.Str.ofString "NoText" then some false else if z = PySem.Str.ofString "TooMany" then some false else none
def it_NoText : Str → Option Bool := fun z => if z = PySem.Str.ofString "NoEnd" then some false else if z = PySem.Str.ofString "NoLeague" then some false else if z = PySem.Str.ofString "NoMatch" then some false else if z = PySem.Str.ofString "NoName" then some false else if z = PySem.Str.ofString "NoNumber" then some false else if z = PySem.Str.ofString "NoOutcome" then some false else if z = PySem.Str.ofString "NoPlayer" then some false else if z = PySem.Str.ofString "NoPoints" then some false else if z = PySem.Str.ofString "NoRow" then some false else if z = PySem.Str.ofString "NoText" then some true else if z = PySem.Str.ofString "TooMany" then some false else none
def it_TooMany : Str → Option Bool := fun z => if z = PySem.Str.ofString "NoEnd" then some false else if z = PySem.Str.ofString "NoLeague" then some false else if z = PySem.Str.ofString "NoMatch" then some false else if z = PySem.Str.ofString "NoName" then some false else if z = PySem.Str.ofString "NoNumber" then some false else if z = PySem.Str.ofString "NoOutcome" then some false else if z = PySem.Str.ofString "NoPlayer" then some false else if z = PySem.Str.ofString "NoPoints" then some false else if z = PySem.Str.ofString "NoRow" then some false else if z = PySem.Str.ofString "NoText" then some false else if z = PySem.Str.ofString "TooMany" then some true else none
def it_WinError : Str → Option Bool := fun z => if z = PySem.Str.ofString "NoEnd" then some true else if z = PySem.Str.ofString "NoLeague" then some true else if z = PySem.Str.ofString "NoMatch" then some true else if z = PySem.Str.ofString "NoName" then some true else if z = PySem.Str.ofString "NoNumber" then some true else if z = PySem.Str.ofString "NoOutcome" then some true else if z = PySem.Str.ofString "NoPlayer" then some true else if z = PySem.Str.ofString "NoPoints" then some true else if z = PySem.Str.ofString "NoRow" then some true else if z = PySem.Str.ofString "NoText" then some true else if z = PySem.Str.ofString "TooMany" then some true else none
def it_ValueError : Str → Option Bool := fun z => if z = PySem.Str.ofString "NoEnd" then some true else if z = PySem.Str.ofString "NoLeague" then some true else if z = PySem.Str.ofString "NoMatch" then some true else if z = PySem.Str.ofString "NoName" then some true else if z = PySem.Str.ofString "NoNumber" then some true else if z = PySem.Str.ofString "NoOutcome" then some true else if z = PySem.Str.ofString "NoPlayer" then some true else if z = PySem.Str.ofString "NoPoints" then some true else if z = PySem.Str.ofString "NoRow" then some true else if z = PySem.Str.ofString "NoText" then some true else if z = PySem.Str.ofString "TooMany" then some true else none
end FX
namespace FX.Pg
noncomputable section
open PySem PySem.Spec L2 FX
theorem x__law_deck {K : PySem.W.Frag} {sa : Addr} {ns : List Int} : ∃ m : Fm (DkY K sa ns), m = mDeck := ⟨_, rfl⟩
def m__law_deck {K : PySem.W.Frag} {sa : Addr} {ns : List Int} : Fm (DkY K sa ns) := Classical.choose x__law_deck
theorem q__law_deck {K : PySem.W.Frag} {sa : Addr} {ns : List Int} : m__law_deck = mDeck (K := K) (sa := sa) (ns := ns) := Classical.choose_spec x__law_deck
theorem x__law_draw {K : PySem.W.Frag} {sa : Addr} {ns : List Int} : ∃ m : Fm (DkY K sa ns), m = mDraw := ⟨_, rfl⟩
def m__law_draw {K : PySem.W.Frag} {sa : Addr} {ns : List Int} : Fm (DkY K sa ns) := Classical.choose x__law_draw
theorem q__law_draw {K : PySem.W.Frag} {sa : Addr} {ns : List Int} : m__law_draw = mDraw (K := K) (sa := sa) (ns := ns) := Classical.choose_spec x__law_draw
-- 0 thing
def b_is_whole {Y : Sys} : GS Y :=
  (sRet (gTyEq "int" (gV 0)))
theorem x_is_whole {Y : Sys} : ∃ m : Fm Y, m = mOf 1 b_is_whole := ⟨_, rfl⟩
def m_is_whole {Y : Sys} : Fm Y := Classical.choose (x_is_whole)
theorem q_is_whole {Y : Sys} : m_is_whole = mOf (Y := Y) 1 b_is_whole := Classical.choose_spec (x_is_whole)
-- 0 thing, 1 n
def b_is_player {Y : Sys} : GS Y :=
  (sRet (gAndV (gFn 1 m_is_whole (gK (gEsc (gV 0)) gN)) (gChain fLe fLt (gC (.int 0)) (gV 0) (gV 1))))
theorem x_is_player {Y : Sys} : ∃ m : Fm Y, m = mOf 2 b_is_player := ⟨_, rfl⟩
def m_is_player {Y : Sys} : Fm Y := Classical.choose (x_is_player)
theorem q_is_player {Y : Sys} : m_is_player = mOf (Y := Y) 2 b_is_player := Classical.choose_spec (x_is_player)
-- 0 thing, 1 size
def b_is_tuple_of {Y : Sys} : GS Y :=
  (sRet (gAndV (gTyEq "tuple" (gV 0)) (gBin fEq (gCall fLen (gK (gV 0) gN)) (gV 1))))
theorem x_is_tuple_of {Y : Sys} : ∃ m : Fm Y, m = mOf 2 b_is_tuple_of := ⟨_, rfl⟩
def m_is_tuple_of {Y : Sys} : Fm Y := Classical.choose (x_is_tuple_of)
theorem q_is_tuple_of {Y : Sys} : m_is_tuple_of = mOf (Y := Y) 2 b_is_tuple_of := Classical.choose_spec (x_is_tuple_of)
-- 0 n, 1 i, 2 j
def b_is_match {Y : Sys} : GS Y :=
  (sRet (gAndV (gFn 2 m_is_player (gK (gEsc (gV 1)) (gK (gEsc (gV 0)) gN))) (gAndV (gFn 2 m_is_player (gK (gEsc (gV 2)) (gK (gEsc (gV 0)) gN))) (gBin fLt (gV 1) (gV 2)))))
theorem x_is_match {Y : Sys} : ∃ m : Fm Y, m = mOf 3 b_is_match := ⟨_, rfl⟩
def m_is_match {Y : Sys} : Fm Y := Classical.choose (x_is_match)
theorem q_is_match {Y : Sys} : m_is_match = mOf (Y := Y) 3 b_is_match := Classical.choose_spec (x_is_match)
-- 0 kind, 1 i, 2 j, 3 w
def b_is_outcome {Y : Sys} : GS Y :=
  (sSeq (sIf (gTst (gBin fIsN (gV 3) (gC .none))) (sRet (gBin fEq (gV 0) (gC (.str (PySem.Str.ofString "ties"))))) sNil)
  (sRet (gAndV (gFn 1 m_is_whole (gK (gEsc (gV 3)) gN)) (gBin fIn2 (gV 3) (FX.gTup (gK (gEsc (gV 1)) (gK (gEsc (gV 2)) gN)))))))
theorem x_is_outcome {Y : Sys} : ∃ m : Fm Y, m = mOf 4 b_is_outcome := ⟨_, rfl⟩
def m_is_outcome {Y : Sys} : Fm Y := Classical.choose (x_is_outcome)
theorem q_is_outcome {Y : Sys} : m_is_outcome = mOf (Y := Y) 4 b_is_outcome := Classical.choose_spec (x_is_outcome)
-- 0 kind, 1 n, 2 match, 3 i, 4 j, 5 w
def b__is_played {Y : Sys} : GS Y :=
  (sSeq (sIf (gNot (gTst (gFn 2 m_is_tuple_of (gK (gEsc (gV 2)) (gK (gEsc (gC (.int 3))) gN))))) (sRet (gC (.bool false))) sNil)
  (sSeq (sUnp (.cons (.n 3) (.cons (.n 4) (.cons (.n 5) .nil))) (gV 2))
  (sRet (gAndV (gFn 3 m_is_match (gK (gEsc (gV 1)) (gK (gEsc (gV 3)) (gK (gEsc (gV 4)) gN)))) (gFn 4 m_is_outcome (gK (gEsc (gV 0)) (gK (gEsc (gV 3)) (gK (gEsc (gV 4)) (gK (gEsc (gV 5)) gN)))))))))
theorem x__is_played {Y : Sys} : ∃ m : Fm Y, m = mOf 6 b__is_played := ⟨_, rfl⟩
def m__is_played {Y : Sys} : Fm Y := Classical.choose (x__is_played)
theorem q__is_played {Y : Sys} : m__is_played = mOf (Y := Y) 6 b__is_played := Classical.choose_spec (x__is_played)
-- 0 kind, 1 n, 2 played, 3 before, 4 match, 5 i, 6 j, 7 _
def l__are_played_1 {Y : Sys} : GS Y :=
  (sSeq (sIf (gNot (gTst (gFn 3 m__is_played (gK (gEsc (gV 0)) (gK (gEsc (gV 1)) (gK (gEsc (gV 4)) gN)))))) (sRet (gC (.bool false))) sNil)
  (sSeq (sUnp (.cons (.n 5) (.cons (.n 6) (.cons (.n 7) .nil))) (gV 4))
  (sSeq (sIf (gTst (gBin fLe (FX.gTup (gK (gEsc (gV 5)) (gK (gEsc (gV 6)) gN))) (gV 3))) (sRet (gC (.bool false))) sNil)
  (sSet 3 (FX.gTup (gK (gEsc (gV 5)) (gK (gEsc (gV 6)) gN)))))))
def b__are_played {Y : Sys} : GS Y :=
  (sSeq (sSet 3 (FX.gTup (gK (gEsc (gUn fNeg (gC (.int 1)))) (gK (gEsc (gUn fNeg (gC (.int 1)))) gN))))
  (sSeq (sFor (.n 4) (gItL (gV 2)) l__are_played_1)
  (sRet (gC (.bool true)))))
theorem x__are_played {Y : Sys} : ∃ m : Fm Y, m = mOf 8 b__are_played := ⟨_, rfl⟩
def m__are_played {Y : Sys} : Fm Y := Classical.choose (x__are_played)
theorem q__are_played {Y : Sys} : m__are_played = mOf (Y := Y) 8 b__are_played := Classical.choose_spec (x__are_played)
def t_WORTHS : Str → Option D := fun z => if z = PySem.Str.ofString "plain" then some (.int 1) else if z = PySem.Str.ofString "ties" then some (.int 2) else none
-- 0 thing, 1 kind, 2 n, 3 played
def b_is_league {Y : Sys} : GS Y :=
  (sSeq (sIf (gNot (gTst (gFn 2 m_is_tuple_of (gK (gEsc (gV 0)) (gK (gEsc (gC (.int 3))) gN))))) (sRet (gC (.bool false))) sNil)
  (sSeq (sUnp (.cons (.n 1) (.cons (.n 2) (.cons (.n 3) .nil))) (gV 0))
  (sSeq (sIf (gOr (gTst (gTyNe "str" (gV 1))) (gTst (gUn (fKNotIn t_WORTHS) (gV 1)))) (sRet (gC (.bool false))) sNil)
  (sSeq (sIf (gOr (gNot (gTst (gFn 1 m_is_whole (gK (gEsc (gV 2)) gN)))) (gNot (gTst (gChain fLe fLe (gC (.int 2)) (gV 2) (gC (.int 6)))))) (sRet (gC (.bool false))) sNil)
  (sRet (gAndV (gTyEq "list" (gV 3)) (gFn 3 m__are_played (gK (gEsc (gV 1)) (gK (gEsc (gV 2)) (gK (gEsc (gV 3)) gN))))))))))
theorem x_is_league {Y : Sys} : ∃ m : Fm Y, m = mOf 4 b_is_league := ⟨_, rfl⟩
def m_is_league {Y : Sys} : Fm Y := Classical.choose (x_is_league)
theorem q_is_league {Y : Sys} : m_is_league = mOf (Y := Y) 4 b_is_league := Classical.choose_spec (x_is_league)
-- 0 n, 1 found, 2 j, 3 i
def e__law_pairs_1 {Y : Sys} : GE Y :=
  (gEsc (FX.gTup (gK (gEsc (gV 3)) (gK (gEsc (gV 2)) gN))))
def l__law_pairs_2 {Y : Sys} : GS Y :=
  (sDrop (gExt 1 (gComp (.n 3) [3] (gRg1 (gK (gV 2) gN)) gYes e__law_pairs_1)))
def b__law_pairs {Y : Sys} : GS Y :=
  (sSeq (sSet 1 (gLst gN))
  (sSeq (sFor (.n 2) (gRg1 (gK (gV 0) gN)) l__law_pairs_2)
  (sRet (gCall fSrt (gK (gV 1) gN)))))
theorem x__law_pairs {Y : Sys} : ∃ m : Fm Y, m = mOf 4 b__law_pairs := ⟨_, rfl⟩
def m__law_pairs {Y : Sys} : Fm Y := Classical.choose (x__law_pairs)
theorem q__law_pairs {Y : Sys} : m__law_pairs = mOf (Y := Y) 4 b__law_pairs := Classical.choose_spec (x__law_pairs)
-- 0 deck, 1 kind, 2 i, 3 j
def b__law_outcome {K : PySem.W.Frag} {sa : Addr} {ns : List Int} : GS (DkY K sa ns) :=
  (sRet (gBin fIx (gLst (gK (gEsc (gV 2)) (gK (gEsc (gV 3)) (gK (gEsc (gBin fIx (gLst (gK (gEsc (gC .none)) (gK (gEsc (gV 2)) gN))) (gCall fInt (gK (gBin fEq (gV 1) (gC (.str (PySem.Str.ofString "plain")))) gN)))) gN)))) (gFn 2 m__law_draw (gK (gEsc (gV 0)) (gK (gEsc (gC (.int 3))) gN)))))
theorem x__law_outcome {K : PySem.W.Frag} {sa : Addr} {ns : List Int} : ∃ m : Fm (DkY K sa ns), m = mOf 4 b__law_outcome := ⟨_, rfl⟩
def m__law_outcome {K : PySem.W.Frag} {sa : Addr} {ns : List Int} : Fm (DkY K sa ns) := Classical.choose (x__law_outcome)
theorem q__law_outcome {K : PySem.W.Frag} {sa : Addr} {ns : List Int} : m__law_outcome = mOf (Y := (DkY K sa ns)) 4 b__law_outcome := Classical.choose_spec (x__law_outcome)
-- 0 deck, 1 kind, 2 n, 3 way, 4 most, 5 played, 6 k, 7 pair, 8 taken
def l__law_some_league_1 {K : PySem.W.Frag} {sa : Addr} {ns : List Int} : GS (DkY K sa ns) :=
  (sSeq (sSet 8 (gBin fIx (gLst (gK (gEsc (gC (.bool false))) (gK (gEsc (gC (.bool true))) (gK (gEsc (gBin fEq (gFn 2 m__law_draw (gK (gEsc (gV 0)) (gK (gEsc (gC (.int 2))) gN))) (gC (.int 0)))) (gK (gEsc (gBin fEq (gFn 2 m__law_draw (gK (gEsc (gV 0)) (gK (gEsc (gC (.int 5))) gN))) (gC (.int 0)))) (gK (gEsc (gBin fLt (gV 6) (gV 4))) gN)))))) (gV 3)))
  (sIf (gTst (gV 8)) (sDrop (gApp 5 (FX.gTup (gK (gEsc (gBin fIx (gV 7) (gC (.int 0)))) (gK (gEsc (gBin fIx (gV 7) (gC (.int 1)))) (gK (gEsc (gFn 4 m__law_outcome (gK (gEsc (gV 0)) (gK (gEsc (gV 1)) (gK (gEsc (gBin fIx (gV 7) (gC (.int 0)))) (gK (gEsc (gBin fIx (gV 7) (gC (.int 1)))) gN)))))) gN)))))) sNil))
def b__law_some_league {K : PySem.W.Frag} {sa : Addr} {ns : List Int} : GS (DkY K sa ns) :=
  (sSeq (sSet 1 (gBin fIx (gLst (gK (gEsc (gC (.str (PySem.Str.ofString "plain")))) (gK (gEsc (gC (.str (PySem.Str.ofString "ties")))) gN))) (gFn 2 m__law_draw (gK (gEsc (gV 0)) (gK (gEsc (gC (.int 2))) gN)))))
  (sSeq (sSet 2 (gBin fIx (gLst (gK (gEsc (gBin fAdd (gC (.int 2)) (gFn 2 m__law_draw (gK (gEsc (gV 0)) (gK (gEsc (gC (.int 5))) gN))))) (gK (gEsc (gC (.int 6))) (gK (gEsc (gBin fAdd (gC (.int 4)) (gFn 2 m__law_draw (gK (gEsc (gV 0)) (gK (gEsc (gC (.int 3))) gN))))) gN)))) (gFn 2 m__law_draw (gK (gEsc (gV 0)) (gK (gEsc (gC (.int 3))) gN)))))
  (sSeq (sSet 3 (gFn 2 m__law_draw (gK (gEsc (gV 0)) (gK (gEsc (gC (.int 5))) gN))))
  (sSeq (sSet 4 (gFn 2 m__law_draw (gK (gEsc (gV 0)) (gK (gEsc (gC (.int 16))) gN))))
  (sSeq (sSet 5 (gLst gN))
  (sSeq (sFor (.t (.cons (.n 6) (.cons (.n 7) .nil))) (gEnm (gK (gEsc (gFn 1 m__law_pairs (gK (gEsc (gV 2)) gN))) gN)) l__law_some_league_1)
  (sRet (FX.gTup (gK (gEsc (gV 1)) (gK (gEsc (gV 2)) (gK (gEsc (gV 5)) gN)))))))))))
theorem x__law_some_league {K : PySem.W.Frag} {sa : Addr} {ns : List Int} : ∃ m : Fm (DkY K sa ns), m = mOf 9 b__law_some_league := ⟨_, rfl⟩
def m__law_some_league {K : PySem.W.Frag} {sa : Addr} {ns : List Int} : Fm (DkY K sa ns) := Classical.choose (x__law_some_league)
theorem q__law_some_league {K : PySem.W.Frag} {sa : Addr} {ns : List Int} : m__law_some_league = mOf (Y := (DkY K sa ns)) 9 b__law_some_league := Classical.choose_spec (x__law_some_league)
-- 0 league
def b__law_own {Y : Sys} : GS Y :=
  (sRet (FX.gTup (gK (gEsc (gBin fIx (gV 0) (gC (.int 0)))) (gK (gEsc (gBin fIx (gV 0) (gC (.int 1)))) (gK (gEsc (gCall fList (gK (gBin fIx (gV 0) (gC (.int 2))) gN))) gN)))))
theorem x__law_own {Y : Sys} : ∃ m : Fm Y, m = mOf 1 b__law_own := ⟨_, rfl⟩
def m__law_own {Y : Sys} : Fm Y := Classical.choose (x__law_own)
theorem q__law_own {Y : Sys} : m__law_own = mOf (Y := Y) 1 b__law_own := Classical.choose_spec (x__law_own)
-- 0 deck, 1 kind, 2 n, 3 match, 4 i, 5 j, 6 w, 7 some, 8 third
def b__law_no_match {K : PySem.W.Frag} {sa : Addr} {ns : List Int} : GS (DkY K sa ns) :=
  (sSeq (sUnp (.cons (.n 4) (.cons (.n 5) (.cons (.n 6) .nil))) (gV 3))
  (sSeq (sSet 7 (gLst (gK (gEsc (FX.gTup (gK (gEsc (gV 5)) (gK (gEsc (gV 4)) (gK (gEsc (gV 6)) gN))))) (gK (gEsc (FX.gTup (gK (gEsc (gV 4)) (gK (gEsc (gV 4)) (gK (gEsc (gV 6)) gN))))) (gK (gEsc (FX.gTup (gK (gEsc (gV 4)) (gK (gEsc (gV 5)) (gK (gEsc (gV 2)) gN))))) (gK (gEsc (FX.gTup (gK (gEsc (gV 4)) (gK (gEsc (gV 5)) (gK (gEsc (gUn fNeg (gC (.int 1)))) gN))))) (gK (gEsc (FX.gTup (gK (gEsc (gV 4)) (gK (gEsc (gV 2)) (gK (gEsc (gV 4)) gN))))) (gK (gEsc (FX.gTup (gK (gEsc (gUn fNeg (gC (.int 1)))) (gK (gEsc (gV 5)) (gK (gEsc (gV 5)) gN))))) (gK (gEsc (FX.gTup (gK (gEsc (gV 4)) (gK (gEsc (gV 5)) gN)))) (gK (gEsc (FX.gTup (gK (gEsc (gV 4)) (gK (gEsc (gV 5)) (gK (gEsc (gV 6)) (gK (gEsc (gC (.int 0))) gN)))))) (gK (gEsc (gLst (gK (gEsc (gV 4)) (gK (gEsc (gV 5)) (gK (gEsc (gV 6)) gN))))) (gK (gEsc (gC .none)) gN))))))))))))
  (sSeq (sSet 7 (gBin fAdd (gV 7) (gLst (gK (gEsc (FX.gTup (gK (gEsc (gV 4)) (gK (gEsc (gV 5)) (gK (gEsc (gC .none)) gN))))) (gK (gEsc (FX.gTup (gK (gEsc (gV 4)) (gK (gEsc (gV 5)) (gK (gEsc (gC (.bool true))) gN))))) (gK (gEsc (FX.gTup (gK (gEsc (gV 4)) (gK (gEsc (gV 5)) (gK (gEsc (gC (.bool false))) gN))))) (gK (gEsc (FX.gTup (gK (gEsc (gC (.bool true))) (gK (gEsc (gV 5)) (gK (gEsc (gV 5)) gN))))) (gK (gEsc (FX.gTup (gK (gEsc (gV 4)) (gK (gEsc (gC (.bool true))) (gK (gEsc (gV 4)) gN))))) (gK (gEsc (FX.gTup (gK (gEsc (gC (.bool false))) (gK (gEsc (gV 5)) (gK (gEsc (gV 5)) gN))))) (gK (gEsc (FX.gTup (gK (gEsc (gV 4)) (gK (gEsc (gV 5)) (gK (gEsc (gC (.str (PySem.Str.ofString "0")))) gN))))) gN))))))))))
  (sSeq (sSet 7 (gBin fAdd (gV 7) (gLst (gK (gEsc (FX.gTup (gK (gEsc (gV 4)) (gK (gEsc (gV 5)) (gK (gEsc (gLst (gK (gEsc (gV 4)) gN))) gN))))) (gK (gEsc (FX.gTup (gK (gEsc (gCall fStr (gK (gV 4) gN))) (gK (gEsc (gV 5)) (gK (gEsc (gV 5)) gN))))) (gK (gEsc (FX.gTup (gK (gEsc (gV 4)) (gK (gEsc (gC .none)) (gK (gEsc (gV 4)) gN))))) (gK (gEsc (gC (.str (PySem.Str.ofString "")))) (gK (gEsc (gC (.int 7))) (gK (gEsc gDic) (gK (gEsc (FX.gTup gN)) (gK (gEsc (FX.gTup (gK (gEsc (FX.gTup (gK (gEsc (gV 4)) (gK (gEsc (gV 5)) gN)))) (gK (gEsc (gV 6)) gN)))) (gK (gEsc (FX.gTup (gK (gEsc (gV 4)) (gK (gEsc (gV 5)) (gK (gEsc (FX.gTup (gK (gEsc (gV 6)) gN))) gN))))) (gK (gEsc (FX.gTup (gK (gEsc (gV 4)) (gK (gEsc (gV 5)) (gK (gEsc gDic) gN))))) gN)))))))))))))
  (sSeq (sSet 8 (gFn 2 m__law_draw (gK (gEsc (gV 0)) (gK (gEsc (gV 2)) gN))))
  (sRet (gBin fIx (gBin fAdd (gV 7) (gLst (gK (gEsc (FX.gTup (gK (gEsc (gV 4)) (gK (gEsc (gV 5)) (gK (gEsc (gV 8)) gN))))) (gK (gEsc (FX.gTup (gK (gEsc (gV 4)) (gK (gEsc (gV 8)) (gK (gEsc (gV 4)) gN))))) (gK (gEsc (FX.gTup (gK (gEsc (gV 8)) (gK (gEsc (gV 5)) (gK (gEsc (gV 5)) gN))))) gN))))) (gFn 2 m__law_draw (gK (gEsc (gV 0)) (gK (gEsc (gC (.int 30))) gN))))))))))
theorem x__law_no_match {K : PySem.W.Frag} {sa : Addr} {ns : List Int} : ∃ m : Fm (DkY K sa ns), m = mOf 9 b__law_no_match := ⟨_, rfl⟩
def m__law_no_match {K : PySem.W.Frag} {sa : Addr} {ns : List Int} : Fm (DkY K sa ns) := Classical.choose (x__law_no_match)
theorem q__law_no_match {K : PySem.W.Frag} {sa : Addr} {ns : List Int} : m__law_no_match = mOf (Y := (DkY K sa ns)) 9 b__law_no_match := Classical.choose_spec (x__law_no_match)
-- 0 deck, 1 kind, 2 n, 3 played, 4 at, 5 pairs, 6 pair, 7 fresh, 8 odd, 9 changed, 10 longer, 11 turned, 12 some
def b__law_bent {K : PySem.W.Frag} {sa : Addr} {ns : List Int} : GS (DkY K sa ns) :=
  (sSeq (sSet 4 (gFn 2 m__law_draw (gK (gEsc (gV 0)) (gK (gEsc (gBin fAdd (gCall fLen (gK (gV 3) gN)) (gC (.int 1)))) gN))))
  (sSeq (sSet 5 (gFn 1 m__law_pairs (gK (gEsc (gV 2)) gN)))
  (sSeq (sSet 6 (gBin fIx (gV 5) (gFn 2 m__law_draw (gK (gEsc (gV 0)) (gK (gEsc (gCall fLen (gK (gV 5) gN))) gN)))))
  (sSeq (sSet 7 (FX.gTup (gK (gEsc (gBin fIx (gV 6) (gC (.int 0)))) (gK (gEsc (gBin fIx (gV 6) (gC (.int 1)))) (gK (gEsc (gFn 4 m__law_outcome (gK (gEsc (gV 0)) (gK (gEsc (gV 1)) (gK (gEsc (gBin fIx (gV 6) (gC (.int 0)))) (gK (gEsc (gBin fIx (gV 6) (gC (.int 1)))) gN)))))) gN)))))
  (sSeq (sSet 8 (gFn 4 m__law_no_match (gK (gEsc (gV 0)) (gK (gEsc (gV 1)) (gK (gEsc (gV 2)) (gK (gEsc (gBin fIx (gBin fAdd (gV 3) (gLst (gK (gEsc (gV 7)) gN))) (gV 4))) gN))))))
  (sSeq (sSet 9 (gBin fAdd (gBin fAdd (gSl (gV 3) gNoP (gPart (gV 4))) (gLst (gK (gEsc (gV 8)) gN))) (gSl (gV 3) (gPart (gBin fAdd (gV 4) (gC (.int 1)))) gNoP)))
  (sSeq (sSet 10 (gBin fAdd (gBin fAdd (gSl (gV 3) gNoP (gPart (gV 4))) (gLst (gK (gEsc (gV 7)) gN))) (gSl (gV 3) (gPart (gV 4)) gNoP)))
  (sSeq (sSet 11 (gBin fAdd (gBin fAdd (gSl (gV 3) gNoP (gPart (gV 4))) (gUn fRev (gSl (gV 3) (gPart (gV 4)) (gPart (gBin fAdd (gV 4) (gC (.int 2))))))) (gSl (gV 3) (gPart (gBin fAdd (gV 4) (gC (.int 2)))) gNoP)))
  (sSeq (sSet 12 (gLst (gK (gEsc (gV 9)) (gK (gEsc (gV 9)) (gK (gEsc (gV 9)) (gK (gEsc (gV 10)) (gK (gEsc (gBin fAdd (gBin fAdd (gSl (gV 3) gNoP (gPart (gV 4))) (gLst (gK (gEsc (gV 8)) gN))) (gSl (gV 3) (gPart (gV 4)) gNoP))) (gK (gEsc (gV 11)) (gK (gEsc (gBin fAdd (gSl (gV 3) gNoP (gPart (gV 4))) (gSl (gV 3) (gPart (gBin fAdd (gV 4) (gC (.int 1)))) gNoP))) gN)))))))))
  (sSeq (sSet 12 (gBin fAdd (gV 12) (gLst (gK (gEsc (gBin fAdd (gBin fAdd (gSl (gV 3) gNoP (gPart (gV 4))) (gSl (gV 3) (gPart (gV 4)) (gPart (gBin fAdd (gV 4) (gC (.int 1)))))) (gSl (gV 3) (gPart (gV 4)) gNoP))) (gK (gEsc (gUn fRev (gV 3))) (gK (gEsc (gCall fTup (gK (gV 3) gN))) gN))))))
  (sSeq (sSet 12 (gBin fAdd (gV 12) (gLst (gK (gEsc (gC .none)) (gK (gEsc gDic) (gK (gEsc (gC (.str (PySem.Str.ofString "")))) (gK (gEsc (gC (.int 0))) (gK (gEsc (gLst (gK (gEsc (gV 3)) gN))) gN))))))))
  (sRet (gBin fIx (gV 12) (gFn 2 m__law_draw (gK (gEsc (gV 0)) (gK (gEsc (gC (.int 15))) gN))))))))))))))))
theorem x__law_bent {K : PySem.W.Frag} {sa : Addr} {ns : List Int} : ∃ m : Fm (DkY K sa ns), m = mOf 13 b__law_bent := ⟨_, rfl⟩
def m__law_bent {K : PySem.W.Frag} {sa : Addr} {ns : List Int} : Fm (DkY K sa ns) := Classical.choose (x__law_bent)
theorem q__law_bent {K : PySem.W.Frag} {sa : Addr} {ns : List Int} : m__law_bent = mOf (Y := (DkY K sa ns)) 13 b__law_bent := Classical.choose_spec (x__law_bent)
-- 0 deck, 1 league, 2 kind, 3 n, 4 played, 5 way, 6 at, 7 letter, 8 kinds, 9 numbers, 10 some
def b__law_no_league {K : PySem.W.Frag} {sa : Addr} {ns : List Int} : GS (DkY K sa ns) :=
  (sSeq (sUnp (.cons (.n 2) (.cons (.n 3) (.cons (.n 4) .nil))) (gV 1))
  (sSeq (sSet 5 (gFn 2 m__law_draw (gK (gEsc (gV 0)) (gK (gEsc (gC (.int 8))) gN))))
  (sSeq (sIf (gTst (gBin fLt (gV 5) (gC (.int 4)))) (sRet (FX.gTup (gK (gEsc (gV 2)) (gK (gEsc (gV 3)) (gK (gEsc (gFn 4 m__law_bent (gK (gEsc (gV 0)) (gK (gEsc (gV 2)) (gK (gEsc (gV 3)) (gK (gEsc (gV 4)) gN)))))) gN))))) sNil)
  (sSeq (sIf (gTst (gBin fEq (gV 5) (gC (.int 4)))) (sSeq (sSet 6 (gFn 2 m__law_draw (gK (gEsc (gV 0)) (gK (gEsc (gCall fLen (gK (gV 2) gN))) gN))))
  (sSeq (sSet 7 (gBin fIx (gC (.str (PySem.Str.ofString "abcdefghijklmnopqrstuvwxyz"))) (gFn 2 m__law_draw (gK (gEsc (gV 0)) (gK (gEsc (gC (.int 26))) gN)))))
  (sSeq (sSet 8 (gLst (gK (gEsc (gBin fAdd (gBin fAdd (gSl (gV 2) gNoP (gPart (gV 6))) (gV 7)) (gSl (gV 2) (gPart (gBin fAdd (gV 6) (gC (.int 1)))) gNoP))) (gK (gEsc (gBin fAdd (gSl (gV 2) gNoP (gPart (gV 6))) (gSl (gV 2) (gPart (gBin fAdd (gV 6) (gC (.int 1)))) gNoP))) (gK (gEsc (gBin fAdd (gBin fAdd (gSl (gV 2) gNoP (gPart (gV 6))) (gV 7)) (gSl (gV 2) (gPart (gV 6)) gNoP))) (gK (gEsc (gC (.str (PySem.Str.ofString "plain")))) gN))))))
  (sSeq (sSet 8 (gBin fAdd (gV 8) (gLst (gK (gEsc (gC (.str (PySem.Str.ofString "ties")))) (gK (gEsc (gUn fUp (gV 2))) (gK (gEsc (gBin fAdd (gV 2) (gC (.str (PySem.Str.ofString " "))))) (gK (gEsc (gC (.str (PySem.Str.ofString "")))) (gK (gEsc (gC .none)) (gK (gEsc (gC (.int 0))) (gK (gEsc (gC (.bool true))) (gK (gEsc (gLst (gK (gEsc (gV 2)) gN))) (gK (gEsc gDic) (gK (gEsc (FX.gTup (gK (gEsc (gV 2)) gN))) (gK (gEsc (gBin fAdd (gC (.str (PySem.Str.ofString "\n"))) (gV 2))) gN))))))))))))))
  (sRet (FX.gTup (gK (gEsc (gBin fIx (gV 8) (gFn 2 m__law_draw (gK (gEsc (gV 0)) (gK (gEsc (gC (.int 15))) gN))))) (gK (gEsc (gV 3)) (gK (gEsc (gV 4)) gN))))))))) sNil)
  (sSeq (sIf (gTst (gBin fEq (gV 5) (gC (.int 5)))) (sSeq (sSet 9 (gLst (gK (gEsc (gBin fSub (gV 3) (gC (.int 1)))) (gK (gEsc (gBin fAdd (gV 3) (gC (.int 1)))) (gK (gEsc (gC (.int 0))) (gK (gEsc (gC (.int 1))) (gK (gEsc (gC (.int 7))) (gK (gEsc (gUn fNeg (gC (.int 1)))) (gK (gEsc (gBin fPow (gC (.int 10)) (gC (.int 25)))) (gK (gEsc (gC (.bool true))) (gK (gEsc (gC .none)) (gK (gEsc (gC (.str (PySem.Str.ofString "3")))) (gK (gEsc (gLst (gK (gEsc (gV 3)) gN))) (gK (gEsc (FX.gTup (gK (gEsc (gV 3)) gN))) (gK (gEsc (gBin fAdd (gC (.int 2)) (gFn 2 m__law_draw (gK (gEsc (gV 0)) (gK (gEsc (gC (.int 6))) gN))))) (gK (gEsc gDic) gN))))))))))))))))
  (sRet (FX.gTup (gK (gEsc (gV 2)) (gK (gEsc (gBin fIx (gV 9) (gFn 2 m__law_draw (gK (gEsc (gV 0)) (gK (gEsc (gC (.int 14))) gN))))) (gK (gEsc (gV 4)) gN)))))) sNil)
  (sSeq (sSet 10 (gLst (gK (gEsc (gLst (gK (gEsc (gV 2)) (gK (gEsc (gV 3)) (gK (gEsc (gV 4)) gN))))) (gK (gEsc (FX.gTup (gK (gEsc (gV 2)) (gK (gEsc (gV 3)) gN)))) (gK (gEsc (FX.gTup (gK (gEsc (gV 2)) (gK (gEsc (gV 3)) (gK (gEsc (gV 4)) (gK (gEsc (gC (.int 0))) gN)))))) (gK (gEsc (FX.gTup (gK (gEsc (gV 3)) (gK (gEsc (gV 2)) (gK (gEsc (gV 4)) gN))))) (gK (gEsc (FX.gTup (gK (gEsc (gV 2)) (gK (gEsc (gV 4)) (gK (gEsc (gV 3)) gN))))) (gK (gEsc (gC .none)) (gK (gEsc (gC (.str (PySem.Str.ofString "")))) (gK (gEsc (gC (.int 0))) (gK (gEsc gDic) gN)))))))))))
  (sRet (gBin fIx (gBin fAdd (gV 10) (gLst (gK (gEsc (gV 4)) (gK (gEsc (FX.gTup gN)) (gK (gEsc (gC (.bool true))) (gK (gEsc (FX.gTup (gK (gEsc (gV 2)) gN))) (gK (gEsc (gV 2)) (gK (gEsc (FX.gTup (gK (gEsc (gV 4)) (gK (gEsc (gV 3)) (gK (gEsc (gV 2)) gN))))) gN)))))))) (gFn 2 m__law_draw (gK (gEsc (gV 0)) (gK (gEsc (gC (.int 15))) gN)))))))))))
theorem x__law_no_league {K : PySem.W.Frag} {sa : Addr} {ns : List Int} : ∃ m : Fm (DkY K sa ns), m = mOf 11 b__law_no_league := ⟨_, rfl⟩
def m__law_no_league {K : PySem.W.Frag} {sa : Addr} {ns : List Int} : Fm (DkY K sa ns) := Classical.choose (x__law_no_league)
theorem q__law_no_league {K : PySem.W.Frag} {sa : Addr} {ns : List Int} : m__law_no_league = mOf (Y := (DkY K sa ns)) 11 b__law_no_league := Classical.choose_spec (x__law_no_league)
-- 0 kind, 1 n, 2 match, 3 i, 4 j, 5 w, 6 one
def l__law_is_good_match_1 {Y : Sys} : GS Y :=
  (sIf (gOr (gNot (gTst (gIsI "int" (gV 6)))) (gOr (gTst (gIsI "bool" (gV 6))) (gNot (gTst (gChain fLe fLt (gC (.int 0)) (gV 6) (gV 1)))))) (sRet (gC (.bool false))) sNil)
def b__law_is_good_match {Y : Sys} : GS Y :=
  (sSeq (sIf (gOr (gNot (gTst (gIsI "tuple" (gV 2)))) (gTst (gBin fNe (gCall fLen (gK (gV 2) gN)) (gC (.int 3))))) (sRet (gC (.bool false))) sNil)
  (sSeq (sUnp (.cons (.n 3) (.cons (.n 4) (.cons (.n 5) .nil))) (gV 2))
  (sSeq (sFor (.n 6) (gItL (gLst (gK (gEsc (gV 3)) (gK (gEsc (gV 4)) gN)))) l__law_is_good_match_1)
  (sSeq (sIf (gOr (gTst (gBin fGe (gV 3) (gV 4))) (gTst (gBin fIsN (gV 5) (gC .none)))) (sRet (gAndV (gBin fLt (gV 3) (gV 4)) (gBin fEq (gV 0) (gC (.str (PySem.Str.ofString "ties")))))) sNil)
  (sRet (gAndV (gIsI "int" (gV 5)) (gAndV (gNotV (gIsI "bool" (gV 5))) (gOrV (gBin fEq (gV 5) (gV 3)) (gBin fEq (gV 5) (gV 4))))))))))
theorem x__law_is_good_match {Y : Sys} : ∃ m : Fm Y, m = mOf 7 b__law_is_good_match := ⟨_, rfl⟩
def m__law_is_good_match {Y : Sys} : Fm Y := Classical.choose (x__law_is_good_match)
theorem q__law_is_good_match {Y : Sys} : m__law_is_good_match = mOf (Y := Y) 7 b__law_is_good_match := Classical.choose_spec (x__law_is_good_match)
-- 0 thing, 1 kind, 2 n, 3 played, 4 last, 5 match
def l__law_good_1 {Y : Sys} : GS Y :=
  (sSeq (sIf (gOr (gNot (gTst (gFn 3 m__law_is_good_match (gK (gEsc (gV 1)) (gK (gEsc (gV 2)) (gK (gEsc (gV 5)) gN)))))) (gTst (gBin fLe (gSl (gV 5) gNoP (gPart (gC (.int 2)))) (gV 4)))) (sRet (gC (.bool false))) sNil)
  (sSet 4 (gSl (gV 5) gNoP (gPart (gC (.int 2))))))
def b__law_good {Y : Sys} : GS Y :=
  (sSeq (sIf (gOr (gNot (gTst (gIsI "tuple" (gV 0)))) (gTst (gBin fNe (gCall fLen (gK (gV 0) gN)) (gC (.int 3))))) (sRet (gC (.bool false))) sNil)
  (sSeq (sUnp (.cons (.n 1) (.cons (.n 2) (.cons (.n 3) .nil))) (gV 0))
  (sSeq (sIf (gOr (gNot (gTst (gIsI "str" (gV 1)))) (gTst (gBin fNotIn2 (gV 1) (gLst (gK (gEsc (gC (.str (PySem.Str.ofString "plain")))) (gK (gEsc (gC (.str (PySem.Str.ofString "ties")))) gN)))))) (sRet (gC (.bool false))) sNil)
  (sSeq (sIf (gOr (gNot (gTst (gIsI "int" (gV 2)))) (gOr (gTst (gIsI "bool" (gV 2))) (gOr (gNot (gTst (gChain fLe fLe (gC (.int 2)) (gV 2) (gC (.int 6))))) (gNot (gTst (gIsI "list" (gV 3))))))) (sRet (gC (.bool false))) sNil)
  (sSeq (sSet 4 (FX.gTup (gK (gEsc (gUn fNeg (gC (.int 1)))) (gK (gEsc (gUn fNeg (gC (.int 1)))) gN))))
  (sSeq (sFor (.n 5) (gItL (gV 3)) l__law_good_1)
  (sRet (gC (.bool true)))))))))
theorem x__law_good {Y : Sys} : ∃ m : Fm Y, m = mOf 6 b__law_good := ⟨_, rfl⟩
def m__law_good {Y : Sys} : Fm Y := Classical.choose (x__law_good)
theorem q__law_good {Y : Sys} : m__law_good = mOf (Y := Y) 6 b__law_good := Classical.choose_spec (x__law_good)
-- 0 league
def b_check_league {Y : Sys} : GS Y :=
  (sIf (gNot (gTst (gFn 1 m_is_league (gK (gEsc (gV 0)) gN)))) (sRaise (PySem.Str.ofString "NoLeague")) sNil)
theorem x_check_league {Y : Sys} : ∃ m : Fm Y, m = mOf 1 b_check_league := ⟨_, rfl⟩
def m_check_league {Y : Sys} : Fm Y := Classical.choose (x_check_league)
theorem q_check_league {Y : Sys} : m_check_league = mOf (Y := Y) 1 b_check_league := Classical.choose_spec (x_check_league)
-- 0 kind, 1 i, 2 w
def b_shares_of {Y : Sys} : GS Y :=
  (sSeq (sIf (gTst (gBin fIsN (gV 2) (gC .none))) (sRet (FX.gTup (gK (gEsc (gC (.int 1))) (gK (gEsc (gC (.int 1))) gN)))) sNil)
  (sSeq (sIf (gTst (gBin fEq (gV 2) (gV 1))) (sRet (FX.gTup (gK (gEsc (gUn (fKGet t_WORTHS) (gV 0))) (gK (gEsc (gC (.int 0))) gN)))) sNil)
  (sRet (FX.gTup (gK (gEsc (gC (.int 0))) (gK (gEsc (gUn (fKGet t_WORTHS) (gV 0))) gN))))))
theorem x_shares_of {Y : Sys} : ∃ m : Fm Y, m = mOf 3 b_shares_of := ⟨_, rfl⟩
def m_shares_of {Y : Sys} : Fm Y := Classical.choose (x_shares_of)
theorem q_shares_of {Y : Sys} : m_shares_of = mOf (Y := Y) 3 b_shares_of := Classical.choose_spec (x_shares_of)
-- 0 points, 1 i, 2 j, 3 shares, 4 to_i, 5 to_j, 6 behind
def b_points_behind {Y : Sys} : GS Y :=
  (sSeq (sUnp (.cons (.n 4) (.cons (.n 5) .nil)) (gV 3))
  (sSeq (sSet 6 (gCall fList (gK (gV 0) gN)))
  (sSeq (sUpd 6 (fun i j => i + j) (gV 1) (gV 4))
  (sSeq (sUpd 6 (fun i j => i + j) (gV 2) (gV 5))
  (sRet (gCall fTup (gK (gV 6) gN)))))))
theorem x_points_behind {Y : Sys} : ∃ m : Fm Y, m = mOf 7 b_points_behind := ⟨_, rfl⟩
def m_points_behind {Y : Sys} : Fm Y := Classical.choose (x_points_behind)
theorem q_points_behind {Y : Sys} : m_points_behind = mOf (Y := Y) 7 b_points_behind := Classical.choose_spec (x_points_behind)
-- 0 league, 1 _, 2 n, 3 played, 4 done, 5 i, 6 j, 7 match
def e_matches_left_1 {Y : Sys} : GE Y :=
  (gEsc (FX.gTup (gK (gEsc (gV 5)) (gK (gEsc (gV 6)) gN))))
def e_matches_left_2 {Y : Sys} : GE Y :=
  (gEsc (FX.gTup (gK (gEsc (gV 5)) (gK (gEsc (gV 6)) gN))))
def e_matches_left_3 {Y : Sys} : GE Y :=
  (gEsc (gV 7))
def t_matches_left_4 {Y : Sys} : GT Y :=
  (gTst (gBin fNotIn2 (gV 7) (gV 4)))
def b_matches_left {Y : Sys} : GS Y :=
  (sSeq (sDrop (gFn 1 m_check_league (gK (gEsc (gV 0)) gN)))
  (sSeq (sUnp (.cons (.n 1) (.cons (.n 2) (.cons (.n 3) .nil))) (gV 0))
  (sSeq (sSet 4 (gComp (.t (.cons (.n 5) (.cons (.n 6) (.cons (.n 1) .nil)))) [5, 6, 1] (gItL (gV 3)) gYes e_matches_left_2))
  (sRet (gComp (.n 7) [7] (gCmb (gV 2) (gC (.int 2))) t_matches_left_4 e_matches_left_3)))))
theorem x_matches_left {Y : Sys} : ∃ m : Fm Y, m = mOf 8 b_matches_left := ⟨_, rfl⟩
def m_matches_left {Y : Sys} : Fm Y := Classical.choose (x_matches_left)
theorem q_matches_left {Y : Sys} : m_matches_left = mOf (Y := Y) 8 b_matches_left := Classical.choose_spec (x_matches_left)
-- 0 league, 1 kind, 2 n, 3 played, 4 had, 5 i, 6 j, 7 w
def l_points_had_1 {Y : Sys} : GS Y :=
  (sSet 4 (gFn 4 m_points_behind (gK (gEsc (gV 4)) (gK (gEsc (gV 5)) (gK (gEsc (gV 6)) (gK (gEsc (gFn 3 m_shares_of (gK (gEsc (gV 1)) (gK (gEsc (gV 5)) (gK (gEsc (gV 7)) gN))))) gN))))))
def b_points_had {Y : Sys} : GS Y :=
  (sSeq (sDrop (gFn 1 m_check_league (gK (gEsc (gV 0)) gN)))
  (sSeq (sUnp (.cons (.n 1) (.cons (.n 2) (.cons (.n 3) .nil))) (gV 0))
  (sSeq (sSet 4 (gBin fMul (FX.gTup (gK (gEsc (gC (.int 0))) gN)) (gV 2)))
  (sSeq (sFor (.t (.cons (.n 5) (.cons (.n 6) (.cons (.n 7) .nil)))) (gItL (gV 3)) l_points_had_1)
  (sRet (gCall fList (gK (gV 4) gN)))))))
theorem x_points_had {Y : Sys} : ∃ m : Fm Y, m = mOf 8 b_points_had := ⟨_, rfl⟩
def m_points_had {Y : Sys} : Fm Y := Classical.choose (x_points_had)
theorem q_points_had {Y : Sys} : m_points_had = mOf (Y := Y) 8 b_points_had := Classical.choose_spec (x_points_had)
-- 0 league, 1 worth, 2 found, 3 player, 4 won, 5 tied, 6 i, 7 j, 8 w
def e__law_sums_1 {Y : Sys} : GE Y :=
  (gEsc (gC (.int 1)))
def t__law_sums_2 {Y : Sys} : GT Y :=
  (gAnd (gTst (gBin fEq (gV 8) (gV 3))) (gTst (gBin fNotN (gV 8) (gC .none))))
def e__law_sums_3 {Y : Sys} : GE Y :=
  (gEsc (gC (.int 1)))
def t__law_sums_4 {Y : Sys} : GT Y :=
  (gAnd (gTst (gBin fIsN (gV 8) (gC .none))) (gTst (gBin fIn2 (gV 3) (FX.gTup (gK (gEsc (gV 6)) (gK (gEsc (gV 7)) gN))))))
def l__law_sums_5 {Y : Sys} : GS Y :=
  (sSeq (sSet 4 (gCall fLen (gK (gComp (.t (.cons (.n 6) (.cons (.n 7) (.cons (.n 8) .nil)))) [6, 7, 8] (gItL (gBin fIx (gV 0) (gC (.int 2)))) t__law_sums_2 e__law_sums_1) gN)))
  (sSeq (sSet 5 (gCall fLen (gK (gComp (.t (.cons (.n 6) (.cons (.n 7) (.cons (.n 8) .nil)))) [6, 7, 8] (gItL (gBin fIx (gV 0) (gC (.int 2)))) t__law_sums_4 e__law_sums_3) gN)))
  (sDrop (gApp 2 (gBin fAdd (gBin fMul (gV 1) (gV 4)) (gV 5))))))
def b__law_sums {Y : Sys} : GS Y :=
  (sSeq (sSet 1 (gBin fIx (gLst (gK (gEsc (gC (.int 1))) (gK (gEsc (gC (.int 2))) gN))) (gCall fInt (gK (gBin fEq (gBin fIx (gV 0) (gC (.int 0))) (gC (.str (PySem.Str.ofString "ties")))) gN))))
  (sSeq (sSet 2 (gLst gN))
  (sSeq (sFor (.n 3) (gRg1 (gK (gBin fIx (gV 0) (gC (.int 1))) gN)) l__law_sums_5)
  (sRet (gV 2)))))
theorem x__law_sums {Y : Sys} : ∃ m : Fm Y, m = mOf 9 b__law_sums := ⟨_, rfl⟩
def m__law_sums {Y : Sys} : Fm Y := Classical.choose (x__law_sums)
theorem q__law_sums {Y : Sys} : m__law_sums = mOf (Y := Y) 9 b__law_sums := Classical.choose_spec (x__law_sums)
-- 0 league, 1 points, 2 n, 3 one
def l_check_points_1 {Y : Sys} : GS Y :=
  (sIf (gNot (gTst (gFn 1 m_is_whole (gK (gEsc (gV 3)) gN)))) (sRaise (PySem.Str.ofString "NoPoints")) sNil)
def b_check_points {Y : Sys} : GS Y :=
  (sSeq (sDrop (gFn 1 m_check_league (gK (gEsc (gV 0)) gN)))
  (sSeq (sSet 2 (gBin fIx (gV 0) (gC (.int 1))))
  (sSeq (sIf (gOr (gTst (gTyNe "list" (gV 1))) (gTst (gBin fNe (gCall fLen (gK (gV 1) gN)) (gV 2)))) (sRaise (PySem.Str.ofString "NoPoints")) sNil)
  (sFor (.n 3) (gItL (gV 1)) l_check_points_1))))
theorem x_check_points {Y : Sys} : ∃ m : Fm Y, m = mOf 4 b_check_points := ⟨_, rfl⟩
def m_check_points {Y : Sys} : Fm Y := Classical.choose (x_check_points)
theorem q_check_points {Y : Sys} : m_check_points = mOf (Y := Y) 4 b_check_points := Classical.choose_spec (x_check_points)
-- 0 league, 1 thing, 2 kind, 3 n, 4 played, 5 match
def e__ends_1 {Y : Sys} : GE Y :=
  (gEsc (gBin fIn2 (gV 5) (gBin fIx (gV 1) (gC (.int 2)))))
def b__ends {Y : Sys} : GS Y :=
  (sSeq (sIf (gOr (gNot (gTst (gFn 1 m_is_league (gK (gEsc (gV 1)) gN)))) (gTst (gBin fNe (gFn 1 m_matches_left (gK (gEsc (gV 1)) gN)) (gLst gN)))) (sRet (gC (.bool false))) sNil)
  (sSeq (sUnp (.cons (.n 2) (.cons (.n 3) (.cons (.n 4) .nil))) (gV 0))
  (sSeq (sIf (gOr (gTst (gBin fNe (gBin fIx (gV 1) (gC (.int 0))) (gV 2))) (gTst (gBin fNe (gBin fIx (gV 1) (gC (.int 1))) (gV 3)))) (sRet (gC (.bool false))) sNil)
  (sRet (gCall fAll (gK (gComp (.n 5) [5] (gItL (gV 4)) gYes e__ends_1) gN))))))
theorem x__ends {Y : Sys} : ∃ m : Fm Y, m = mOf 6 b__ends := ⟨_, rfl⟩
def m__ends {Y : Sys} : Fm Y := Classical.choose (x__ends)
theorem q__ends {Y : Sys} : m__ends = mOf (Y := Y) 6 b__ends := Classical.choose_spec (x__ends)
-- 0 league, 1 points, 2 thing
def b_is_end {Y : Sys} : GS Y :=
  (sSeq (sDrop (gFn 2 m_check_points (gK (gEsc (gV 0)) (gK (gEsc (gV 1)) gN))))
  (sRet (gAndV (gFn 2 m__ends (gK (gEsc (gV 0)) (gK (gEsc (gV 2)) gN))) (gBin fEq (gFn 1 m_points_had (gK (gEsc (gV 2)) gN)) (gV 1)))))
theorem x_is_end {Y : Sys} : ∃ m : Fm Y, m = mOf 3 b_is_end := ⟨_, rfl⟩
def m_is_end {Y : Sys} : Fm Y := Classical.choose (x_is_end)
theorem q_is_end {Y : Sys} : m_is_end = mOf (Y := Y) 3 b_is_end := Classical.choose_spec (x_is_end)
-- 0 deck, 1 league, 2 kind, 3 n, 4 played, 5 done, 6 i, 7 j, 8 w, 9 found, 10 drawn
def l__law_some_end_1 {K : PySem.W.Frag} {sa : Addr} {ns : List Int} : GS (DkY K sa ns) :=
  (sPutT 5 (FX.gTup (gK (gEsc (gV 6)) (gK (gEsc (gV 7)) gN))) (gV 8))
def l__law_some_end_2 {K : PySem.W.Frag} {sa : Addr} {ns : List Int} : GS (DkY K sa ns) :=
  (sSeq (sSet 10 (gFn 4 m__law_outcome (gK (gEsc (gV 0)) (gK (gEsc (gV 2)) (gK (gEsc (gV 6)) (gK (gEsc (gV 7)) gN))))))
  (sDrop (gApp 9 (FX.gTup (gK (gEsc (gV 6)) (gK (gEsc (gV 7)) (gK (gEsc (gGet2 5 (FX.gTup (gK (gEsc (gV 6)) (gK (gEsc (gV 7)) gN))) (gV 10))) gN)))))))
def b__law_some_end {K : PySem.W.Frag} {sa : Addr} {ns : List Int} : GS (DkY K sa ns) :=
  (sSeq (sUnp (.cons (.n 2) (.cons (.n 3) (.cons (.n 4) .nil))) (gV 1))
  (sSeq (sSet 5 gDicT)
  (sSeq (sFor (.t (.cons (.n 6) (.cons (.n 7) (.cons (.n 8) .nil)))) (gItL (gV 4)) l__law_some_end_1)
  (sSeq (sSet 9 (gLst gN))
  (sSeq (sFor (.t (.cons (.n 6) (.cons (.n 7) .nil))) (gItL (gFn 1 m__law_pairs (gK (gEsc (gV 3)) gN))) l__law_some_end_2)
  (sRet (FX.gTup (gK (gEsc (gV 2)) (gK (gEsc (gV 3)) (gK (gEsc (gV 9)) gN))))))))))
theorem x__law_some_end {K : PySem.W.Frag} {sa : Addr} {ns : List Int} : ∃ m : Fm (DkY K sa ns), m = mOf 11 b__law_some_end := ⟨_, rfl⟩
def m__law_some_end {K : PySem.W.Frag} {sa : Addr} {ns : List Int} : Fm (DkY K sa ns) := Classical.choose (x__law_some_end)
theorem q__law_some_end {K : PySem.W.Frag} {sa : Addr} {ns : List Int} : m__law_some_end = mOf (Y := (DkY K sa ns)) 11 b__law_some_end := Classical.choose_spec (x__law_some_end)
-- 0 deck, 1 league, 2 found, 3 n, 4 way, 5 turn, 6 by, 7 one, 8 other, 9 at, 10 far, 11 player
def l__law_some_points_1 {K : PySem.W.Frag} {sa : Addr} {ns : List Int} : GS (DkY K sa ns) :=
  (sSeq (sSet 6 (gBin fAdd (gC (.int 1)) (gFn 2 m__law_draw (gK (gEsc (gV 0)) (gK (gEsc (gC (.int 3))) gN)))))
  (sSeq (sSet 7 (gFn 2 m__law_draw (gK (gEsc (gV 0)) (gK (gEsc (gV 3)) gN))))
  (sSeq (sSet 8 (gFn 2 m__law_draw (gK (gEsc (gV 0)) (gK (gEsc (gV 3)) gN))))
  (sSeq (sPut 2 (gV 7) (gBin fSub (gBin fIx (gV 2) (gV 7)) (gV 6)))
  (sPut 2 (gV 8) (gBin fAdd (gBin fIx (gV 2) (gV 8)) (gV 6)))))))
def e__law_some_points_2 {K : PySem.W.Frag} {sa : Addr} {ns : List Int} : GE (DkY K sa ns) :=
  (gEsc (gBin fSub (gFn 2 m__law_draw (gK (gEsc (gV 0)) (gK (gEsc (gC (.int 13))) gN))) (gC (.int 1))))
def b__law_some_points {K : PySem.W.Frag} {sa : Addr} {ns : List Int} : GS (DkY K sa ns) :=
  (sSeq (sSet 2 (gFn 1 m__law_sums (gK (gEsc (gFn 2 m__law_some_end (gK (gEsc (gV 0)) (gK (gEsc (gV 1)) gN)))) gN)))
  (sSeq (sSet 3 (gCall fLen (gK (gV 2) gN)))
  (sSeq (sSet 4 (gFn 2 m__law_draw (gK (gEsc (gV 0)) (gK (gEsc (gC (.int 9))) gN))))
  (sSeq (sFor (.n 5) (gRg1 (gK (gBin fIx (gLst (gK (gEsc (gC (.int 0))) (gK (gEsc (gC (.int 0))) (gK (gEsc (gC (.int 0))) (gK (gEsc (gC (.int 1))) (gK (gEsc (gC (.int 1))) (gK (gEsc (gC (.int 2))) (gK (gEsc (gC (.int 0))) (gK (gEsc (gC (.int 0))) (gK (gEsc (gC (.int 0))) gN)))))))))) (gV 4)) gN)) l__law_some_points_1)
  (sSeq (sSet 9 (gFn 2 m__law_draw (gK (gEsc (gV 0)) (gK (gEsc (gV 3)) gN))))
  (sSeq (sIf (gTst (gBin fEq (gV 4) (gC (.int 6)))) (sPut 2 (gV 9) (gBin fAdd (gBin fIx (gV 2) (gV 9)) (gBin fIx (gLst (gK (gEsc (gC (.int 1))) (gK (gEsc (gUn fNeg (gC (.int 1)))) gN))) (gFn 2 m__law_draw (gK (gEsc (gV 0)) (gK (gEsc (gC (.int 2))) gN)))))) sNil)
  (sSeq (sIf (gTst (gBin fEq (gV 4) (gC (.int 7)))) (sSet 2 (gComp (.n 11) [11] (gRg1 (gK (gV 3) gN)) gYes e__law_some_points_2)) sNil)
  (sSeq (sIf (gTst (gBin fEq (gV 4) (gC (.int 8)))) (sSeq (sSet 10 (gBin fIx (gLst (gK (gEsc (gBin fPow (gC (.int 10)) (gC (.int 25)))) (gK (gEsc (gUn fNeg (gBin fPow (gC (.int 10)) (gC (.int 25))))) (gK (gEsc (gBin fPow (gC (.int 10)) (gC (.int 9)))) (gK (gEsc (gUn fNeg (gC (.int 1)))) gN))))) (gFn 2 m__law_draw (gK (gEsc (gV 0)) (gK (gEsc (gC (.int 4))) gN)))))
  (sSeq (sPut 2 (gV 9) (gBin fAdd (gBin fIx (gV 2) (gV 9)) (gV 10)))
  (sIf (gTst (gBin fEq (gFn 2 m__law_draw (gK (gEsc (gV 0)) (gK (gEsc (gC (.int 2))) gN))) (gC (.int 0)))) (sPut 2 (gBin fSub (gV 9) (gC (.int 1))) (gBin fSub (gBin fIx (gV 2) (gBin fSub (gV 9) (gC (.int 1)))) (gV 10))) sNil))) sNil)
  (sRet (gV 2))))))))))
theorem x__law_some_points {K : PySem.W.Frag} {sa : Addr} {ns : List Int} : ∃ m : Fm (DkY K sa ns), m = mOf 12 b__law_some_points := ⟨_, rfl⟩
def m__law_some_points {K : PySem.W.Frag} {sa : Addr} {ns : List Int} : Fm (DkY K sa ns) := Classical.choose (x__law_some_points)
theorem q__law_some_points {K : PySem.W.Frag} {sa : Addr} {ns : List Int} : m__law_some_points = mOf (Y := (DkY K sa ns)) 12 b__law_some_points := Classical.choose_spec (x__law_some_points)
-- 0 caught, 1 due, 2 kinds, 3 k
def e__law_kinds_1 {Y : Sys} : GE Y :=
  (gEsc (gBin fEq (gV 3) (gV 1)))
def b__law_kinds {Y : Sys} : GS Y :=
  (sSeq (sSet 2 (gLst (gK (gEsc (gIsE it_NoLeague (gV 0))) (gK (gEsc (gIsE it_NoPoints (gV 0))) (gK (gEsc (gIsE it_NoNumber (gV 0))) gN)))))
  (sSeq (sSet 2 (gBin fAdd (gV 2) (gLst (gK (gEsc (gIsE it_NoEnd (gV 0))) (gK (gEsc (gIsE it_NoMatch (gV 0))) (gK (gEsc (gIsE it_NoOutcome (gV 0))) gN))))))
  (sSeq (sSet 2 (gBin fAdd (gV 2) (gLst (gK (gEsc (gIsE it_NoPlayer (gV 0))) (gK (gEsc (gIsE it_TooMany (gV 0))) (gK (gEsc (gIsE it_NoText (gV 0))) gN))))))
  (sSeq (sSet 2 (gBin fAdd (gV 2) (gLst (gK (gEsc (gIsE it_NoName (gV 0))) (gK (gEsc (gIsE it_NoRow (gV 0))) (gK (gEsc (gNotV (gIsE it_ValueError (gV 0)))) gN))))))
  (sRet (gAndV (gIsNoE true (gV 0)) (gBin fEq (gV 2) (gComp (.n 3) [3] (gRg1 (gK (gC (.int 12)) gN)) gYes e__law_kinds_1))))))))
theorem x__law_kinds {Y : Sys} : ∃ m : Fm Y, m = mOf 4 b__law_kinds := ⟨_, rfl⟩
def m__law_kinds {Y : Sys} : Fm Y := Classical.choose (x__law_kinds)
theorem q__law_kinds {Y : Sys} : m__law_kinds = mOf (Y := Y) 4 b__law_kinds := Classical.choose_spec (x__law_kinds)
-- 0 deck, 1 points, 2 at, 3 odd, 4 some
def b__law_no_points {K : PySem.W.Frag} {sa : Addr} {ns : List Int} : GS (DkY K sa ns) :=
  (sSeq (sSet 2 (gFn 2 m__law_draw (gK (gEsc (gV 0)) (gK (gEsc (gCall fLen (gK (gV 1) gN))) gN))))
  (sSeq (sSet 3 (gBin fIx (gLst (gK (gEsc (gC (.bool true))) (gK (gEsc (gC (.bool false))) (gK (gEsc (gC .none)) (gK (gEsc (gC (.str (PySem.Str.ofString "1")))) (gK (gEsc (gLst (gK (gEsc (gC (.int 1))) gN))) (gK (gEsc (FX.gTup (gK (gEsc (gC (.int 1))) gN))) (gK (gEsc gDic) (gK (gEsc (gC (.str (PySem.Str.ofString "")))) gN))))))))) (gFn 2 m__law_draw (gK (gEsc (gV 0)) (gK (gEsc (gC (.int 8))) gN)))))
  (sSeq (sSet 4 (gBin fMul (gLst (gK (gEsc (gBin fAdd (gBin fAdd (gSl (gV 1) gNoP (gPart (gV 2))) (gLst (gK (gEsc (gV 3)) gN))) (gSl (gV 1) (gPart (gBin fAdd (gV 2) (gC (.int 1)))) gNoP))) gN)) (gC (.int 3))))
  (sSeq (sSet 4 (gBin fAdd (gV 4) (gLst (gK (gEsc (gBin fAdd (gSl (gV 1) gNoP (gPart (gV 2))) (gSl (gV 1) (gPart (gBin fAdd (gV 2) (gC (.int 1)))) gNoP))) (gK (gEsc (gBin fAdd (gV 1) (gLst (gK (gEsc (gC (.int 0))) gN)))) (gK (gEsc (gBin fAdd (gBin fAdd (gSl (gV 1) gNoP (gPart (gV 2))) (gLst (gK (gEsc (gBin fIx (gV 1) (gV 2))) gN))) (gSl (gV 1) (gPart (gV 2)) gNoP))) (gK (gEsc (gCall fTup (gK (gV 1) gN))) gN)))))))
  (sRet (gBin fIx (gBin fAdd (gV 4) (gLst (gK (gEsc (gC .none)) (gK (gEsc (gC (.int 0))) (gK (gEsc (gC (.str (PySem.Str.ofString "")))) (gK (gEsc gDic) (gK (gEsc (gLst gN)) (gK (gEsc (gLst (gK (gEsc (gV 1)) gN))) (gK (gEsc (gC (.bool true))) gN))))))))) (gFn 2 m__law_draw (gK (gEsc (gV 0)) (gK (gEsc (gC (.int 14))) gN)))))))))
theorem x__law_no_points {K : PySem.W.Frag} {sa : Addr} {ns : List Int} : ∃ m : Fm (DkY K sa ns), m = mOf 5 b__law_no_points := ⟨_, rfl⟩
def m__law_no_points {K : PySem.W.Frag} {sa : Addr} {ns : List Int} : Fm (DkY K sa ns) := Classical.choose (x__law_no_points)
theorem q__law_no_points {K : PySem.W.Frag} {sa : Addr} {ns : List Int} : m__law_no_points = mOf (Y := (DkY K sa ns)) 5 b__law_no_points := Classical.choose_spec (x__law_no_points)
-- 0 league, 1 i, 2 j, 3 w, 4 ahead, 5 behind, 6 match
def e__law_with_1 {Y : Sys} : GE Y :=
  (gEsc (gV 6))
def t__law_with_2 {Y : Sys} : GT Y :=
  (gTst (gBin fLt (gSl (gV 6) gNoP (gPart (gC (.int 2)))) (FX.gTup (gK (gEsc (gV 1)) (gK (gEsc (gV 2)) gN)))))
def e__law_with_3 {Y : Sys} : GE Y :=
  (gEsc (gV 6))
def t__law_with_4 {Y : Sys} : GT Y :=
  (gTst (gBin fGt (gSl (gV 6) gNoP (gPart (gC (.int 2)))) (FX.gTup (gK (gEsc (gV 1)) (gK (gEsc (gV 2)) gN)))))
def b__law_with {Y : Sys} : GS Y :=
  (sSeq (sSet 4 (gComp (.n 6) [6] (gItL (gBin fIx (gV 0) (gC (.int 2)))) t__law_with_2 e__law_with_1))
  (sSeq (sSet 5 (gComp (.n 6) [6] (gItL (gBin fIx (gV 0) (gC (.int 2)))) t__law_with_4 e__law_with_3))
  (sRet (FX.gTup (gK (gEsc (gBin fIx (gV 0) (gC (.int 0)))) (gK (gEsc (gBin fIx (gV 0) (gC (.int 1)))) (gK (gEsc (gBin fAdd (gBin fAdd (gV 4) (gLst (gK (gEsc (FX.gTup (gK (gEsc (gV 1)) (gK (gEsc (gV 2)) (gK (gEsc (gV 3)) gN))))) gN))) (gV 5))) gN)))))))
theorem x__law_with {Y : Sys} : ∃ m : Fm Y, m = mOf 7 b__law_with := ⟨_, rfl⟩
def m__law_with {Y : Sys} : Fm Y := Classical.choose (x__law_with)
theorem q__law_with {Y : Sys} : m__law_with = mOf (Y := Y) 7 b__law_with := Classical.choose_spec (x__law_with)
-- 0 league
def b_worth_of {Y : Sys} : GS Y :=
  (sRet (gUn (fKGet t_WORTHS) (gBin fIx (gV 0) (gC (.int 0)))))
theorem x_worth_of {Y : Sys} : ∃ m : Fm Y, m = mOf 1 b_worth_of := ⟨_, rfl⟩
def m_worth_of {Y : Sys} : Fm Y := Classical.choose (x_worth_of)
theorem q_worth_of {Y : Sys} : m_worth_of = mOf (Y := Y) 1 b_worth_of := Classical.choose_spec (x_worth_of)
-- 0 league, 1 points, 2 had, 3 player
def e__points_wanted_1 {Y : Sys} : GE Y :=
  (gEsc (gBin fSub (gBin fIx (gV 1) (gV 3)) (gBin fIx (gV 2) (gV 3))))
def b__points_wanted {Y : Sys} : GS Y :=
  (sSeq (sSet 2 (gFn 1 m_points_had (gK (gEsc (gV 0)) gN)))
  (sRet (gComp (.n 3) [3] (gRg1 (gK (gCall fLen (gK (gV 1) gN)) gN)) gYes e__points_wanted_1)))
theorem x__points_wanted {Y : Sys} : ∃ m : Fm Y, m = mOf 4 b__points_wanted := ⟨_, rfl⟩
def m__points_wanted {Y : Sys} : Fm Y := Classical.choose (x__points_wanted)
theorem q__points_wanted {Y : Sys} : m__points_wanted = mOf (Y := Y) 4 b__points_wanted := Classical.choose_spec (x__points_wanted)
-- 0 worth, 1 left, 2 wanted, 3 players, 4 between, 5 least, 6 together, 7 i, 8 j, 9 player
def e__shows_1 {Y : Sys} : GE Y :=
  (gEsc (gC (.int 1)))
def t__shows_2 {Y : Sys} : GT Y :=
  (gAnd (gTst (gBin fIn2 (gV 7) (gV 3))) (gTst (gBin fIn2 (gV 8) (gV 3))))
def e__shows_3 {Y : Sys} : GE Y :=
  (gEsc (gBin fIx (gV 2) (gV 9)))
def b__shows {Y : Sys} : GS Y :=
  (sSeq (sSet 4 (gComp (.t (.cons (.n 7) (.cons (.n 8) .nil))) [7, 8] (gItL (gV 1)) t__shows_2 e__shows_1))
  (sSeq (sSet 5 (gBin fMul (gV 0) (gCall fLen (gK (gV 4) gN))))
  (sSeq (sSet 6 (gCall fSum (gK (gComp (.n 9) [9] (gItA (gV 3)) gYes e__shows_3) gN)))
  (sSeq (sIf (gTst (gBin fEq (gCall fLen (gK (gV 3) gN)) (gCall fLen (gK (gV 2) gN)))) (sRet (gBin fNe (gV 6) (gV 5))) sNil)
  (sRet (gBin fLt (gV 6) (gV 5)))))))
theorem x__shows {Y : Sys} : ∃ m : Fm Y, m = mOf 10 b__shows := ⟨_, rfl⟩
def m__shows {Y : Sys} : Fm Y := Classical.choose (x__shows)
theorem q__shows {Y : Sys} : m__shows = mOf (Y := Y) 10 b__shows := Classical.choose_spec (x__shows)
-- 0 league, 1 points, 2 n, 3 worth, 4 left, 5 wanted, 6 size, 7 players
def l_first_set_1 {Y : Sys} : GS Y :=
  (sIf (gTst (gFn 4 m__shows (gK (gEsc (gV 3)) (gK (gEsc (gV 4)) (gK (gEsc (gV 5)) (gK (gEsc (gV 7)) gN)))))) (sRet (gCall fList (gK (gV 7) gN))) sNil)
def l_first_set_2 {Y : Sys} : GS Y :=
  (sFor (.n 7) (gCmb (gV 2) (gV 6)) l_first_set_1)
def b_first_set {Y : Sys} : GS Y :=
  (sSeq (sDrop (gFn 2 m_check_points (gK (gEsc (gV 0)) (gK (gEsc (gV 1)) gN))))
  (sSeq (sSet 2 (gBin fIx (gV 0) (gC (.int 1))))
  (sSeq (sSet 3 (gFn 1 m_worth_of (gK (gEsc (gV 0)) gN)))
  (sSeq (sSet 4 (gFn 1 m_matches_left (gK (gEsc (gV 0)) gN)))
  (sSeq (sSet 5 (gFn 2 m__points_wanted (gK (gEsc (gV 0)) (gK (gEsc (gV 1)) gN))))
  (sSeq (sFor (.n 6) (gRg2 (gK (gC (.int 1)) (gK (gBin fAdd (gV 2) (gC (.int 1))) gN))) l_first_set_2)
  (sRet (gC .none))))))))
theorem x_first_set {Y : Sys} : ∃ m : Fm Y, m = mOf 8 b_first_set := ⟨_, rfl⟩
def m_first_set {Y : Sys} : Fm Y := Classical.choose (x_first_set)
theorem q_first_set {Y : Sys} : m_first_set = mOf (Y := Y) 8 b_first_set := Classical.choose_spec (x_first_set)
-- 0 league, 1 points
def b_can_be {Y : Sys} : GS Y :=
  (sRet (gBin fIsN (gFn 2 m_first_set (gK (gEsc (gV 0)) (gK (gEsc (gV 1)) gN))) (gC .none)))
theorem x_can_be {Y : Sys} : ∃ m : Fm Y, m = mOf 2 b_can_be := ⟨_, rfl⟩
def m_can_be {Y : Sys} : Fm Y := Classical.choose (x_can_be)
theorem q_can_be {Y : Sys} : m_can_be = mOf (Y := Y) 2 b_can_be := Classical.choose_spec (x_can_be)
-- 0 thing, 1 n, 2 before, 3 player
def l__is_set_1 {Y : Sys} : GS Y :=
  (sSeq (sIf (gOr (gNot (gTst (gFn 2 m_is_player (gK (gEsc (gV 3)) (gK (gEsc (gV 1)) gN))))) (gTst (gBin fLe (gV 3) (gV 2)))) (sRet (gC (.bool false))) sNil)
  (sSet 2 (gV 3)))
def b__is_set {Y : Sys} : GS Y :=
  (sSeq (sIf (gOr (gTst (gTyNe "list" (gV 0))) (gTst (gBin fEq (gV 0) (gLst gN)))) (sRet (gC (.bool false))) sNil)
  (sSeq (sSet 2 (gUn fNeg (gC (.int 1))))
  (sSeq (sFor (.n 3) (gItL (gV 0)) l__is_set_1)
  (sRet (gC (.bool true))))))
theorem x__is_set {Y : Sys} : ∃ m : Fm Y, m = mOf 4 b__is_set := ⟨_, rfl⟩
def m__is_set {Y : Sys} : Fm Y := Classical.choose (x__is_set)
theorem q__is_set {Y : Sys} : m__is_set = mOf (Y := Y) 4 b__is_set := Classical.choose_spec (x__is_set)
-- 0 league, 1 points, 2 thing
def b_set_shows {Y : Sys} : GS Y :=
  (sSeq (sDrop (gFn 2 m_check_points (gK (gEsc (gV 0)) (gK (gEsc (gV 1)) gN))))
  (sSeq (sIf (gNot (gTst (gFn 2 m__is_set (gK (gEsc (gV 2)) (gK (gEsc (gBin fIx (gV 0) (gC (.int 1)))) gN))))) (sRet (gC (.bool false))) sNil)
  (sRet (gFn 4 m__shows (gK (gEsc (gFn 1 m_worth_of (gK (gEsc (gV 0)) gN))) (gK (gEsc (gFn 1 m_matches_left (gK (gEsc (gV 0)) gN))) (gK (gEsc (gFn 2 m__points_wanted (gK (gEsc (gV 0)) (gK (gEsc (gV 1)) gN)))) (gK (gEsc (gV 2)) gN))))))))
theorem x_set_shows {Y : Sys} : ∃ m : Fm Y, m = mOf 3 b_set_shows := ⟨_, rfl⟩
def m_set_shows {Y : Sys} : Fm Y := Classical.choose (x_set_shows)
theorem q_set_shows {Y : Sys} : m_set_shows = mOf (Y := Y) 3 b_set_shows := Classical.choose_spec (x_set_shows)
-- 0 league, 1 some, 2 worth, 3 found, 4 k, 5 i, 6 j, 7 w, 8 inside, 9 one
def l__law_least_1 {Y : Sys} : GS Y :=
  (sSet 3 (gBin fAdd (gV 3) (gBin fMul (gV 2) (gV 4))))
def e__law_least_2 {Y : Sys} : GE Y :=
  (gEsc (gV 9))
def t__law_least_3 {Y : Sys} : GT Y :=
  (gTst (gBin fIn2 (gV 9) (gV 1)))
def l__law_least_4 {Y : Sys} : GS Y :=
  (sSeq (sSet 8 (gComp (.n 9) [9] (gItT (FX.gTup (gK (gEsc (gV 5)) (gK (gEsc (gV 6)) gN)))) t__law_least_3 e__law_least_2))
  (sIf (gAnd (gTst (gBin fEq (gCall fLen (gK (gV 8) gN)) (gC (.int 1)))) (gOr (gTst (gBin fIsN (gV 7) (gC .none))) (gTst (gBin fEq (gV 7) (gBin fIx (gV 8) (gC (.int 0))))))) (sSet 3 (gBin fAdd (gV 3) (gBin fIx (gLst (gK (gEsc (gV 2)) (gK (gEsc (gC (.int 1))) gN))) (gCall fInt (gK (gBin fIsN (gV 7) (gC .none)) gN))))) sNil))
def b__law_least {Y : Sys} : GS Y :=
  (sSeq (sSet 2 (gBin fIx (gLst (gK (gEsc (gC (.int 1))) (gK (gEsc (gC (.int 2))) gN))) (gCall fInt (gK (gBin fEq (gBin fIx (gV 0) (gC (.int 0))) (gC (.str (PySem.Str.ofString "ties")))) gN))))
  (sSeq (sSet 3 (gC (.int 0)))
  (sSeq (sFor (.n 4) (gRg1 (gK (gCall fLen (gK (gV 1) gN)) gN)) l__law_least_1)
  (sSeq (sFor (.t (.cons (.n 5) (.cons (.n 6) (.cons (.n 7) .nil)))) (gItL (gBin fIx (gV 0) (gC (.int 2)))) l__law_least_4)
  (sRet (gV 3))))))
theorem x__law_least {Y : Sys} : ∃ m : Fm Y, m = mOf 10 b__law_least := ⟨_, rfl⟩
def m__law_least {Y : Sys} : Fm Y := Classical.choose (x__law_least)
theorem q__law_least {Y : Sys} : m__law_least = mOf (Y := Y) 10 b__law_least := Classical.choose_spec (x__law_least)
-- 0 league, 1 points, 2 some, 3 total, 4 least, 5 player
def e__law_set_shows_1 {Y : Sys} : GE Y :=
  (gEsc (gBin fIx (gV 1) (gV 5)))
def b__law_set_shows {Y : Sys} : GS Y :=
  (sSeq (sSet 3 (gCall fSum (gK (gComp (.n 5) [5] (gItL (gV 2)) gYes e__law_set_shows_1) gN)))
  (sSeq (sSet 4 (gFn 2 m__law_least (gK (gEsc (gV 0)) (gK (gEsc (gV 2)) gN))))
  (sRet (gOrV (gBin fLt (gV 3) (gV 4)) (gAndV (gBin fEq (gCall fLen (gK (gV 2) gN)) (gBin fIx (gV 0) (gC (.int 1)))) (gBin fNe (gV 3) (gV 4)))))))
theorem x__law_set_shows {Y : Sys} : ∃ m : Fm Y, m = mOf 6 b__law_set_shows := ⟨_, rfl⟩
def m__law_set_shows {Y : Sys} : Fm Y := Classical.choose (x__law_set_shows)
theorem q__law_set_shows {Y : Sys} : m__law_set_shows = mOf (Y := Y) 6 b__law_set_shows := Classical.choose_spec (x__law_set_shows)
-- 0 kind, 1 i, 2 j, 3 w
def e_outcomes_in_order_1 {Y : Sys} : GE Y :=
  (gEsc (gV 3))
def t_outcomes_in_order_2 {Y : Sys} : GT Y :=
  (gTst (gFn 4 m_is_outcome (gK (gEsc (gV 0)) (gK (gEsc (gV 1)) (gK (gEsc (gV 2)) (gK (gEsc (gV 3)) gN))))))
def b_outcomes_in_order {Y : Sys} : GS Y :=
  (sRet (gComp (.n 3) [3] (gItT (FX.gTup (gK (gEsc (gV 1)) (gK (gEsc (gC .none)) (gK (gEsc (gV 2)) gN))))) t_outcomes_in_order_2 e_outcomes_in_order_1))
theorem x_outcomes_in_order {Y : Sys} : ∃ m : Fm Y, m = mOf 4 b_outcomes_in_order := ⟨_, rfl⟩
def m_outcomes_in_order {Y : Sys} : Fm Y := Classical.choose (x_outcomes_in_order)
theorem q_outcomes_in_order {Y : Sys} : m_outcomes_in_order = mOf (Y := Y) 4 b_outcomes_in_order := Classical.choose_spec (x_outcomes_in_order)
-- 0 script, 1 many, 2 drawn, 3 base, 4 k, 5 cell, 6 number, 7 one
def t__law_draws_1 {Y : Sys} : GT Y :=
  (gAnd (gTst (gBin fGt (gV 6) (gC (.int 0)))) (gTst (gBin fLt (gCall fLen (gK (gV 2) gN)) (gV 1))))
def l__law_draws_2 {Y : Sys} : GS Y :=
  (sSeq (sDrop (gApp 2 (gBin fMod (gV 6) (gC (.int 10007)))))
  (sSet 6 (gBin fDiv (gV 6) (gC (.int 10007)))))
def l__law_draws_3 {Y : Sys} : GS Y :=
  (sSeq (sSet 6 (gCall fAbs (gK (gV 5) gN)))
  (sSeq (sSet 3 (gBin fMod (gBin fAdd (gBin fMul (gV 3) (gC (.int 31))) (gV 6)) (gC (.int 2147483629))))
  (sIf (gTst (gBin fGe (gV 6) (gBin fPow (gC (.int 10)) (gC (.int 18))))) (whileG t__law_draws_1 l__law_draws_2 1000) (sSeq (sSet 7 (gBin fMod (gBin fMul (gBin fAdd (gBin fAdd (gBin fMod (gV 6) (gC (.int 2147483647))) (gV 4)) (gC (.int 1))) (gC (.int 48271))) (gC (.int 2147483647))))
  (sSeq (sSet 7 (gBin fMod (gBin fMul (gV 7) (gV 7)) (gC (.int 2147483629))))
  (sSeq (sDrop (gApp 2 (gBin fMod (gBin fDiv (gV 7) (gC (.int 8))) (gC (.int 10007)))))
  (sSeq (sSet 7 (gBin fMod (gBin fAdd (gBin fAdd (gBin fMul (gV 7) (gC (.int 40692))) (gBin fMul (gC (.int 2)) (gV 4))) (gC (.int 1))) (gC (.int 2147483563))))
  (sSeq (sSet 7 (gBin fMod (gBin fMul (gV 7) (gV 7)) (gC (.int 2147483647))))
  (sDrop (gApp 2 (gBin fMod (gBin fDiv (gV 7) (gC (.int 8))) (gC (.int 10007)))))))))))))
def l__law_draws_4 {Y : Sys} : GS Y :=
  (sSeq (sSet 7 (gBin fMod (gBin fAdd (gBin fAdd (gV 3) (gBin fMul (gC (.int 7919)) (gV 4))) (gC (.int 13))) (gC (.int 2147483629))))
  (sSeq (sSet 7 (gBin fMod (gBin fMul (gV 7) (gV 7)) (gC (.int 2147483647))))
  (sSeq (sSet 7 (gBin fMod (gBin fAdd (gBin fMul (gV 7) (gC (.int 69621))) (gV 4)) (gC (.int 2147483563))))
  (sDrop (gApp 2 (gBin fMod (gBin fDiv (gBin fMod (gBin fMul (gV 7) (gV 7)) (gC (.int 2147483629))) (gC (.int 8))) (gC (.int 10007))))))))
def b__law_draws {Y : Sys} : GS Y :=
  (sSeq (sSet 2 (gLst gN))
  (sSeq (sSet 3 (gC (.int 7)))
  (sSeq (sFor (.t (.cons (.n 4) (.cons (.n 5) .nil))) (gEnm (gK (gEsc (gSl (gV 0) gNoP (gPart (gC (.int 63))))) gN)) l__law_draws_3)
  (sSeq (sFor (.n 4) (gRg1 (gK (gBin fSub (gV 1) (gCall fLen (gK (gV 2) gN))) gN)) l__law_draws_4)
  (sRet (gV 2))))))
theorem x__law_draws {Y : Sys} : ∃ m : Fm Y, m = mOf 8 b__law_draws := ⟨_, rfl⟩
def m__law_draws {Y : Sys} : Fm Y := Classical.choose (x__law_draws)
theorem q__law_draws {Y : Sys} : m__law_draws = mOf (Y := Y) 8 b__law_draws := Classical.choose_spec (x__law_draws)
-- 0 store, 1 many
def b__law_take {Y : Sys} : GS Y :=
  (sSeq (sPut 0 (gC (.int 1)) (gBin fAdd (gBin fIx (gV 0) (gC (.int 1))) (gC (.int 1))))
  (sRet (gBin fMod (gBin fIx (gBin fIx (gV 0) (gC (.int 0))) (gBin fMod (gBin fSub (gBin fIx (gV 0) (gC (.int 1))) (gC (.int 1))) (gCall fLen (gK (gBin fIx (gV 0) (gC (.int 0))) gN)))) (gV 1))))
theorem x__law_take {Y : Sys} : ∃ m : Fm Y, m = mOf 2 b__law_take := ⟨_, rfl⟩
def m__law_take {Y : Sys} : Fm Y := Classical.choose (x__law_take)
theorem q__law_take {Y : Sys} : m__law_take = mOf (Y := Y) 2 b__law_take := Classical.choose_spec (x__law_take)
-- 0 league, 1 kind, 2 n, 3 played, 4 found, 5 i, 6 j, 7 some, 8 own, 9 one, 10 other, 11 w
def e__law_options_1 {Y : Sys} : GE Y :=
  (gEsc (gV 11))
def t__law_options_2 {Y : Sys} : GT Y :=
  (gTst (gBin fEq (FX.gTup (gK (gEsc (gV 9)) (gK (gEsc (gV 10)) gN))) (FX.gTup (gK (gEsc (gV 5)) (gK (gEsc (gV 6)) gN)))))
def e__law_options_3 {Y : Sys} : GE Y :=
  (gEsc (gV 11))
def t__law_options_4 {Y : Sys} : GT Y :=
  (gTst (gBin fEq (FX.gTup (gK (gEsc (gV 9)) (gK (gEsc (gV 10)) gN))) (FX.gTup (gK (gEsc (gV 5)) (gK (gEsc (gV 6)) gN)))))
def e__law_options_5 {Y : Sys} : GE Y :=
  (gEsc (gV 9))
def t__law_options_6 {Y : Sys} : GT Y :=
  (gTst (gBin fEq (gBin fIx (gV 9) (gC (.int 0))) (gBin fIx (gV 8) (gC (.int 0)))))
def l__law_options_7 {Y : Sys} : GS Y :=
  (sSeq (sSet 7 (gLst (gK (gEsc (FX.gTup (gK (gEsc (gV 5)) (gK (gEsc (gC (.int 1))) (gK (gEsc (gC (.int 0))) gN))))) (gK (gEsc (FX.gTup (gK (gEsc (gV 6)) (gK (gEsc (gC (.int 0))) (gK (gEsc (gC (.int 1))) gN))))) gN))))
  (sSeq (sIf (gTst (gBin fEq (gV 1) (gC (.str (PySem.Str.ofString "ties"))))) (sSet 7 (gLst (gK (gEsc (FX.gTup (gK (gEsc (gV 5)) (gK (gEsc (gC (.int 2))) (gK (gEsc (gC (.int 0))) gN))))) (gK (gEsc (FX.gTup (gK (gEsc (gC .none)) (gK (gEsc (gC (.int 1))) (gK (gEsc (gC (.int 1))) gN))))) (gK (gEsc (FX.gTup (gK (gEsc (gV 6)) (gK (gEsc (gC (.int 0))) (gK (gEsc (gC (.int 2))) gN))))) gN))))) sNil)
  (sSeq (sSet 8 (gComp (.t (.cons (.n 9) (.cons (.n 10) (.cons (.n 11) .nil)))) [9, 10, 11] (gItL (gV 3)) t__law_options_4 e__law_options_3))
  (sSeq (sIf (gTst (gBin fNe (gV 8) (gLst gN))) (sSet 7 (gComp (.n 9) [9] (gItL (gV 7)) t__law_options_6 e__law_options_5)) sNil)
  (sDrop (gApp 4 (FX.gTup (gK (gEsc (gV 5)) (gK (gEsc (gV 6)) (gK (gEsc (gV 7)) gN))))))))))
def l__law_options_8 {Y : Sys} : GS Y :=
  (sFor (.n 6) (gRg2 (gK (gBin fAdd (gV 5) (gC (.int 1))) (gK (gV 2) gN))) l__law_options_7)
def b__law_options {Y : Sys} : GS Y :=
  (sSeq (sUnp (.cons (.n 1) (.cons (.n 2) (.cons (.n 3) .nil))) (gV 0))
  (sSeq (sSet 4 (gLst gN))
  (sSeq (sFor (.n 5) (gRg1 (gK (gV 2) gN)) l__law_options_8)
  (sRet (gV 4)))))
theorem x__law_options {Y : Sys} : ∃ m : Fm Y, m = mOf 12 b__law_options := ⟨_, rfl⟩
def m__law_options {Y : Sys} : Fm Y := Classical.choose (x__law_options)
theorem q__law_options {Y : Sys} : m__law_options = mOf (Y := Y) 12 b__law_options := Classical.choose_spec (x__law_options)
-- 0 store, 1 league, 2 found, 3 i, 4 j, 5 some
def l__law_drawn_end_1 {Y : Sys} : GS Y :=
  (sDrop (gApp 2 (FX.gTup (gK (gEsc (gV 3)) (gK (gEsc (gV 4)) (gK (gEsc (gBin fIx (gBin fIx (gV 5) (gFn 2 m__law_take (gK (gEsc (gV 0)) (gK (gEsc (gCall fLen (gK (gV 5) gN))) gN)))) (gC (.int 0)))) gN))))))
def b__law_drawn_end {Y : Sys} : GS Y :=
  (sSeq (sSet 2 (gLst gN))
  (sSeq (sFor (.t (.cons (.n 3) (.cons (.n 4) (.cons (.n 5) .nil)))) (gItL (gFn 1 m__law_options (gK (gEsc (gV 1)) gN))) l__law_drawn_end_1)
  (sRet (FX.gTup (gK (gEsc (gBin fIx (gV 1) (gC (.int 0)))) (gK (gEsc (gBin fIx (gV 1) (gC (.int 1)))) (gK (gEsc (gV 2)) gN)))))))
theorem x__law_drawn_end {Y : Sys} : ∃ m : Fm Y, m = mOf 6 b__law_drawn_end := ⟨_, rfl⟩
def m__law_drawn_end {Y : Sys} : Fm Y := Classical.choose (x__law_drawn_end)
theorem q__law_drawn_end {Y : Sys} : m__law_drawn_end = mOf (Y := Y) 6 b__law_drawn_end := Classical.choose_spec (x__law_drawn_end)
-- 0 store, 1 x, 2 kind, 3 n, 4 often, 5 played, 6 match
def l__law_league_1 {Y : Sys} : GS Y :=
  (sIf (gTst (gBin fLt (gFn 2 m__law_take (gK (gEsc (gV 0)) (gK (gEsc (gC (.int 10))) gN))) (gV 4))) (sDrop (gApp 5 (gV 6))) sNil)
def b__law_league {Y : Sys} : GS Y :=
  (sSeq (sSet 1 (gFn 2 m__law_take (gK (gEsc (gV 0)) (gK (gEsc (gC (.int 10007))) gN))))
  (sSeq (sSet 2 (gBin fIx (gLst (gK (gEsc (gC (.str (PySem.Str.ofString "plain")))) (gK (gEsc (gC (.str (PySem.Str.ofString "ties")))) gN))) (gBin fMod (gV 1) (gC (.int 2)))))
  (sSeq (sSet 3 (gBin fIx (gLst (gK (gEsc (gBin fAdd (gC (.int 2)) (gBin fMod (gBin fDiv (gV 1) (gC (.int 2))) (gC (.int 5))))) (gK (gEsc (gC (.int 6))) (gK (gEsc (gBin fAdd (gC (.int 3)) (gBin fMod (gBin fDiv (gV 1) (gC (.int 2))) (gC (.int 4))))) gN)))) (gFn 2 m__law_take (gK (gEsc (gV 0)) (gK (gEsc (gC (.int 3))) gN)))))
  (sSeq (sSet 4 (gBin fIx (gLst (gK (gEsc (gC (.int 0))) (gK (gEsc (gC (.int 2))) (gK (gEsc (gC (.int 5))) (gK (gEsc (gC (.int 8))) gN))))) (gFn 2 m__law_take (gK (gEsc (gV 0)) (gK (gEsc (gC (.int 4))) gN)))))
  (sSeq (sSet 5 (gLst gN))
  (sSeq (sFor (.n 6) (gItL (gBin fIx (gFn 2 m__law_drawn_end (gK (gEsc (gV 0)) (gK (gEsc (FX.gTup (gK (gEsc (gV 2)) (gK (gEsc (gV 3)) (gK (gEsc (gLst gN)) gN))))) gN))) (gC (.int 2)))) l__law_league_1)
  (sRet (FX.gTup (gK (gEsc (gV 2)) (gK (gEsc (gV 3)) (gK (gEsc (gV 5)) gN)))))))))))
theorem x__law_league {Y : Sys} : ∃ m : Fm Y, m = mOf 7 b__law_league := ⟨_, rfl⟩
def m__law_league {Y : Sys} : Fm Y := Classical.choose (x__law_league)
theorem q__law_league {Y : Sys} : m__law_league = mOf (Y := Y) 7 b__law_league := Classical.choose_spec (x__law_league)
-- 0 league, 1 found, 2 i, 3 j, 4 some
def l__law_had_1 {Y : Sys} : GS Y :=
  (sIf (gTst (gBin fEq (gCall fLen (gK (gV 4) gN)) (gC (.int 1)))) (sSeq (sPut 1 (gV 2) (gBin fAdd (gBin fIx (gV 1) (gV 2)) (gBin fIx (gBin fIx (gV 4) (gC (.int 0))) (gC (.int 1)))))
  (sPut 1 (gV 3) (gBin fAdd (gBin fIx (gV 1) (gV 3)) (gBin fIx (gBin fIx (gV 4) (gC (.int 0))) (gC (.int 2)))))) sNil)
def b__law_had {Y : Sys} : GS Y :=
  (sSeq (sSet 1 (gBin fMul (gLst (gK (gEsc (gC (.int 0))) gN)) (gBin fIx (gV 0) (gC (.int 1)))))
  (sSeq (sFor (.t (.cons (.n 2) (.cons (.n 3) (.cons (.n 4) .nil)))) (gItL (gFn 1 m__law_options (gK (gEsc (gV 0)) gN))) l__law_had_1)
  (sRet (gV 1))))
theorem x__law_had {Y : Sys} : ∃ m : Fm Y, m = mOf 5 b__law_had := ⟨_, rfl⟩
def m__law_had {Y : Sys} : Fm Y := Classical.choose (x__law_had)
theorem q__law_had {Y : Sys} : m__law_had = mOf (Y := Y) 5 b__law_had := Classical.choose_spec (x__law_had)
-- 0 store, 1 league, 2 found, 3 n, 4 one, 5 other, 6 by, 7 way, 8 k
def e__law_points_1 {Y : Sys} : GE Y :=
  (gEsc (gBin fSub (gFn 2 m__law_take (gK (gEsc (gV 0)) (gK (gEsc (gC (.int 12))) gN))) (gC (.int 1))))
def b__law_points {Y : Sys} : GS Y :=
  (sSeq (sSet 2 (gFn 1 m__law_had (gK (gEsc (gFn 2 m__law_drawn_end (gK (gEsc (gV 0)) (gK (gEsc (gV 1)) gN)))) gN)))
  (sSeq (sSet 3 (gBin fIx (gV 1) (gC (.int 1))))
  (sSeq (sSet 4 (gFn 2 m__law_take (gK (gEsc (gV 0)) (gK (gEsc (gV 3)) gN))))
  (sSeq (sSet 5 (gFn 2 m__law_take (gK (gEsc (gV 0)) (gK (gEsc (gV 3)) gN))))
  (sSeq (sSet 6 (gBin fIx (gLst (gK (gEsc (gC (.int 1))) (gK (gEsc (gC (.int 1))) (gK (gEsc (gC (.int 2))) (gK (gEsc (gBin fPow (gC (.int 10)) (gC (.int 25)))) gN))))) (gFn 2 m__law_take (gK (gEsc (gV 0)) (gK (gEsc (gC (.int 4))) gN)))))
  (sSeq (sSet 7 (gFn 2 m__law_take (gK (gEsc (gV 0)) (gK (gEsc (gC (.int 8))) gN))))
  (sSeq (sIf (gTst (gBin fIn2 (gV 7) (FX.gTup (gK (gEsc (gC (.int 4))) (gK (gEsc (gC (.int 5))) gN))))) (sSeq (sPut 2 (gV 4) (gBin fAdd (gBin fIx (gV 2) (gV 4)) (gV 6)))
  (sPut 2 (gV 5) (gBin fSub (gBin fIx (gV 2) (gV 5)) (gV 6)))) sNil)
  (sSeq (sIf (gTst (gBin fEq (gV 7) (gC (.int 6)))) (sPut 2 (gV 4) (gBin fAdd (gBin fIx (gV 2) (gV 4)) (gBin fIx (gLst (gK (gEsc (gV 6)) (gK (gEsc (gBin fSub (gC (.int 0)) (gV 6))) gN))) (gFn 2 m__law_take (gK (gEsc (gV 0)) (gK (gEsc (gC (.int 2))) gN)))))) sNil)
  (sSeq (sIf (gTst (gBin fEq (gV 7) (gC (.int 7)))) (sSet 2 (gComp (.n 8) [8] (gRg1 (gK (gV 3) gN)) gYes e__law_points_1)) sNil)
  (sRet (gV 2)))))))))))
theorem x__law_points {Y : Sys} : ∃ m : Fm Y, m = mOf 9 b__law_points := ⟨_, rfl⟩
def m__law_points {Y : Sys} : Fm Y := Classical.choose (x__law_points)
theorem q__law_points {Y : Sys} : m__law_points = mOf (Y := Y) 9 b__law_points := Classical.choose_spec (x__law_points)
-- 0 league
def b__law_copy {Y : Sys} : GS Y :=
  (sRet (FX.gTup (gK (gEsc (gBin fIx (gV 0) (gC (.int 0)))) (gK (gEsc (gBin fIx (gV 0) (gC (.int 1)))) (gK (gEsc (gCall fList (gK (gBin fIx (gV 0) (gC (.int 2))) gN))) gN)))))
theorem x__law_copy {Y : Sys} : ∃ m : Fm Y, m = mOf 1 b__law_copy := ⟨_, rfl⟩
def m__law_copy {Y : Sys} : Fm Y := Classical.choose (x__law_copy)
theorem q__law_copy {Y : Sys} : m__law_copy = mOf (Y := Y) 1 b__law_copy := Classical.choose_spec (x__law_copy)
-- 0 options, 1 at, 2 needs, 3 to_i, 4 to_j, 5 i, 6 j, 7 some, 8 found
def b__law_less {Y : Sys} : GS Y :=
  (sSeq (sUnp (.cons (.n 5) (.cons (.n 6) (.cons (.n 7) .nil))) (gBin fIx (gV 0) (gV 1)))
  (sSeq (sSet 8 (gCall fList (gK (gV 2) gN)))
  (sSeq (sPut 8 (gV 5) (gBin fSub (gBin fIx (gV 8) (gV 5)) (gV 3)))
  (sSeq (sPut 8 (gV 6) (gBin fSub (gBin fIx (gV 8) (gV 6)) (gV 4)))
  (sRet (gCall fTup (gK (gV 8) gN)))))))
theorem x__law_less {Y : Sys} : ∃ m : Fm Y, m = mOf 9 b__law_less := ⟨_, rfl⟩
def m__law_less {Y : Sys} : Fm Y := Classical.choose (x__law_less)
theorem q__law_less {Y : Sys} : m__law_less = mOf (Y := Y) 9 b__law_less := Classical.choose_spec (x__law_less)
-- 0 caught, 1 due, 2 kinds, 3 k
def e__law_kinds_2_1 {Y : Sys} : GE Y :=
  (gEsc (gBin fEq (gV 3) (gV 1)))
def b__law_kinds_2 {Y : Sys} : GS Y :=
  (sSeq (sSet 2 (gLst (gK (gEsc (gIsE it_NoLeague (gV 0))) (gK (gEsc (gIsE it_NoPoints (gV 0))) (gK (gEsc (gIsE it_NoNumber (gV 0))) gN)))))
  (sSeq (sSet 2 (gBin fAdd (gV 2) (gLst (gK (gEsc (gIsE it_NoEnd (gV 0))) (gK (gEsc (gIsE it_TooMany (gV 0))) gN)))))
  (sSeq (sSet 2 (gBin fAdd (gV 2) (gLst (gK (gEsc (gIsE it_NoMatch (gV 0))) (gK (gEsc (gIsE it_NoOutcome (gV 0))) gN)))))
  (sSeq (sDrop (gApp 2 (gIsE it_NoPlayer (gV 0))))
  (sSeq (sSet 2 (gBin fAdd (gV 2) (gLst (gK (gEsc (gIsE it_NoText (gV 0))) (gK (gEsc (gIsE it_NoName (gV 0))) (gK (gEsc (gIsE it_NoRow (gV 0))) gN))))))
  (sSeq (sIf (gOr (gTst (gIsNoE false (gV 0))) (gNot (gTst (gIsE it_ValueError (gV 0))))) (sRet (gC (.bool false))) sNil)
  (sRet (gBin fEq (gV 2) (gComp (.n 3) [3] (gRg1 (gK (gC (.int 11)) gN)) gYes e__law_kinds_2_1)))))))))
theorem x__law_kinds_2 {Y : Sys} : ∃ m : Fm Y, m = mOf 4 b__law_kinds_2 := ⟨_, rfl⟩
def m__law_kinds_2 {Y : Sys} : Fm Y := Classical.choose (x__law_kinds_2)
theorem q__law_kinds_2 {Y : Sys} : m__law_kinds_2 = mOf (Y := Y) 4 b__law_kinds_2 := Classical.choose_spec (x__law_kinds_2)
-- 0 store, 1 league, 2 kind, 3 n, 4 played, 5 i, 6 odd, 7 at, 8 bad, 9 some, 10 one, 11 words, 12 two, 13 sizes, 14 three
def b__law_no_league_2 {Y : Sys} : GS Y :=
  (sSeq (sUnp (.cons (.n 2) (.cons (.n 3) (.cons (.n 4) .nil))) (gV 1))
  (sSeq (sSet 5 (gFn 2 m__law_take (gK (gEsc (gV 0)) (gK (gEsc (gV 3)) gN))))
  (sSeq (sSet 6 (gLst (gK (gEsc (FX.gTup (gK (gEsc (gV 5)) (gK (gEsc (gV 5)) (gK (gEsc (gV 5)) gN))))) (gK (gEsc (FX.gTup (gK (gEsc (gV 3)) (gK (gEsc (gBin fAdd (gV 3) (gC (.int 1)))) (gK (gEsc (gV 3)) gN))))) (gK (gEsc (FX.gTup (gK (gEsc (gC (.int 0))) (gK (gEsc (gV 3)) (gK (gEsc (gC (.int 0))) gN))))) (gK (gEsc (FX.gTup (gK (gEsc (gUn fNeg (gC (.int 1)))) (gK (gEsc (gC (.int 0))) (gK (gEsc (gC (.int 0))) gN))))) (gK (gEsc (FX.gTup (gK (gEsc (gC (.int 1))) (gK (gEsc (gC (.int 0))) (gK (gEsc (gC (.int 1))) gN))))) (gK (gEsc (FX.gTup (gK (gEsc (gC (.int 0))) (gK (gEsc (gC (.int 1))) gN)))) gN))))))))
  (sSeq (sSet 6 (gBin fAdd (gV 6) (gLst (gK (gEsc (FX.gTup (gK (gEsc (gC (.int 0))) (gK (gEsc (gC (.int 1))) (gK (gEsc (gC (.int 0))) (gK (gEsc (gC (.int 0))) gN)))))) (gK (gEsc (gLst (gK (gEsc (gC (.int 0))) (gK (gEsc (gC (.int 1))) (gK (gEsc (gC (.int 0))) gN))))) (gK (gEsc (gC .none)) (gK (gEsc (gC (.int 5))) (gK (gEsc (gC (.str (PySem.Str.ofString "0>1")))) (gK (gEsc (FX.gTup (gK (gEsc (gC (.int 0))) (gK (gEsc (gC (.int 1))) (gK (gEsc (gUn fNeg (gC (.int 1)))) gN))))) (gK (gEsc (FX.gTup (gK (gEsc (gC (.int 0))) (gK (gEsc (gC (.int 1))) (gK (gEsc (gC (.bool true))) gN))))) gN))))))))))
  (sSeq (sSet 6 (gBin fAdd (gV 6) (gLst (gK (gEsc (FX.gTup (gK (gEsc (gC (.int 0))) (gK (gEsc (gC (.int 1))) (gK (gEsc (gV 3)) gN))))) (gK (gEsc (FX.gTup (gK (gEsc (gC (.bool false))) (gK (gEsc (gC (.int 1))) (gK (gEsc (gC (.int 1))) gN))))) (gK (gEsc (FX.gTup (gK (gEsc (gC (.int 0))) (gK (gEsc (gC (.bool true))) (gK (gEsc (gC (.int 0))) gN))))) (gK (gEsc (FX.gTup (gK (gEsc (gC (.int 0))) (gK (gEsc (gC (.int 1))) (gK (gEsc (gC (.str (PySem.Str.ofString "0")))) gN))))) (gK (gEsc (FX.gTup (gK (gEsc (gC (.int 0))) (gK (gEsc (gC (.int 1))) (gK (gEsc (gC (.bool false))) gN))))) gN))))))))
  (sSeq (sSet 6 (gBin fIx (gBin fAdd (gV 6) (gLst (gK (gEsc gDic) (gK (gEsc (FX.gTup (gK (gEsc (gC (.int 0))) (gK (gEsc (gC (.int 1))) (gK (gEsc (gLst (gK (gEsc (gC (.int 0))) gN))) gN))))) (gK (gEsc (FX.gTup (gK (gEsc (gV 5)) (gK (gEsc (gV 3)) (gK (gEsc (gV 5)) gN))))) gN))))) (gFn 2 m__law_take (gK (gEsc (gV 0)) (gK (gEsc (gC (.int 21))) gN)))))
  (sSeq (sIf (gAnd (gTst (gBin fEq (gV 2) (gC (.str (PySem.Str.ofString "plain"))))) (gTst (gBin fEq (gFn 2 m__law_take (gK (gEsc (gV 0)) (gK (gEsc (gC (.int 4))) gN))) (gC (.int 0))))) (sSet 6 (FX.gTup (gK (gEsc (gC (.int 0))) (gK (gEsc (gC (.int 1))) (gK (gEsc (gC .none)) gN))))) sNil)
  (sSeq (sSet 7 (gFn 2 m__law_take (gK (gEsc (gV 0)) (gK (gEsc (gBin fAdd (gCall fLen (gK (gV 4) gN)) (gC (.int 1)))) gN))))
  (sSeq (sSet 8 (gBin fAdd (gBin fAdd (gSl (gV 4) gNoP (gPart (gV 7))) (gLst (gK (gEsc (gV 6)) gN))) (gSl (gV 4) (gPart (gV 7)) gNoP)))
  (sSeq (sSet 9 (gLst (gK (gEsc (gV 8)) (gK (gEsc (gV 8)) (gK (gEsc (gV 8)) (gK (gEsc (gV 8)) (gK (gEsc (gCall fTup (gK (gV 4) gN))) (gK (gEsc (gC .none)) (gK (gEsc gDic) (gK (gEsc (gC (.str (PySem.Str.ofString "")))) (gK (gEsc (gC (.int 0))) gN)))))))))))
  (sSeq (sIf (gTst (gBin fNe (gV 4) (gLst gN))) (sSet 9 (gBin fAdd (gV 9) (gLst (gK (gEsc (gBin fAdd (gV 4) (gSl (gV 4) (gPart (gUn fNeg (gC (.int 1)))) gNoP))) (gK (gEsc (gBin fAdd (gSl (gV 4) gNoP (gPart (gC (.int 1)))) (gV 4))) gN))))) sNil)
  (sSeq (sIf (gTst (gBin fGt (gCall fLen (gK (gV 4) gN)) (gC (.int 1)))) (sSeq (sSet 7 (gBin fAdd (gC (.int 1)) (gFn 2 m__law_take (gK (gEsc (gV 0)) (gK (gEsc (gBin fSub (gCall fLen (gK (gV 4) gN)) (gC (.int 1)))) gN)))))
  (sDrop (gApp 9 (gBin fAdd (gBin fAdd (gSl (gV 4) gNoP (gPart (gBin fSub (gV 7) (gC (.int 1))))) (gLst (gK (gEsc (gBin fIx (gV 4) (gV 7))) (gK (gEsc (gBin fIx (gV 4) (gBin fSub (gV 7) (gC (.int 1))))) gN)))) (gSl (gV 4) (gPart (gBin fAdd (gV 7) (gC (.int 1)))) gNoP))))) sNil)
  (sSeq (sSet 10 (FX.gTup (gK (gEsc (gV 2)) (gK (gEsc (gV 3)) (gK (gEsc (gBin fIx (gV 9) (gFn 2 m__law_take (gK (gEsc (gV 0)) (gK (gEsc (gCall fLen (gK (gV 9) gN))) gN))))) gN)))))
  (sSeq (sSet 11 (gLst (gK (gEsc (gC (.str (PySem.Str.ofString "")))) (gK (gEsc (gC (.str (PySem.Str.ofString "Plain")))) (gK (gEsc (gC (.str (PySem.Str.ofString "tie")))) (gK (gEsc (gC (.str (PySem.Str.ofString "plains")))) (gK (gEsc (gC (.str (PySem.Str.ofString "plain ")))) (gK (gEsc (gC (.str (PySem.Str.ofString " ties")))) (gK (gEsc (gC .none)) (gK (gEsc (gC (.bool true))) (gK (gEsc (gC (.int 0))) (gK (gEsc (gLst (gK (gEsc (gV 2)) gN))) (gK (gEsc (FX.gTup (gK (gEsc (gV 2)) gN))) (gK (gEsc gDic) gN))))))))))))))
  (sSeq (sSet 12 (FX.gTup (gK (gEsc (gBin fIx (gV 11) (gFn 2 m__law_take (gK (gEsc (gV 0)) (gK (gEsc (gC (.int 12))) gN))))) (gK (gEsc (gV 3)) (gK (gEsc (gV 4)) gN)))))
  (sSeq (sSet 13 (gLst (gK (gEsc (gC (.int 0))) (gK (gEsc (gC (.int 1))) (gK (gEsc (gC (.int 7))) (gK (gEsc (gUn fNeg (gC (.int 1)))) (gK (gEsc (gC (.bool true))) (gK (gEsc (gC .none)) (gK (gEsc (gC (.str (PySem.Str.ofString "3")))) (gK (gEsc (gLst (gK (gEsc (gV 3)) gN))) (gK (gEsc (gBin fPow (gC (.int 10)) (gC (.int 25)))) (gK (gEsc (gBin fAdd (gC (.int 7)) (gFn 2 m__law_take (gK (gEsc (gV 0)) (gK (gEsc (gC (.int 40))) gN))))) (gK (gEsc (FX.gTup (gK (gEsc (gV 3)) gN))) (gK (gEsc gDic) gN))))))))))))))
  (sSeq (sSet 14 (FX.gTup (gK (gEsc (gV 2)) (gK (gEsc (gBin fIx (gV 13) (gFn 2 m__law_take (gK (gEsc (gV 0)) (gK (gEsc (gC (.int 12))) gN))))) (gK (gEsc (gV 4)) gN)))))
  (sSeq (sSet 9 (gLst (gK (gEsc (gV 10)) (gK (gEsc (gV 10)) (gK (gEsc (gV 10)) (gK (gEsc (gV 12)) (gK (gEsc (gV 14)) (gK (gEsc (FX.gTup (gK (gEsc (gV 2)) (gK (gEsc (gV 3)) gN)))) (gK (gEsc (FX.gTup (gK (gEsc (gV 2)) (gK (gEsc (gV 3)) (gK (gEsc (gV 4)) (gK (gEsc (gLst gN)) gN)))))) gN)))))))))
  (sRet (gBin fIx (gBin fAdd (gV 9) (gLst (gK (gEsc (gLst (gK (gEsc (gV 2)) (gK (gEsc (gV 3)) (gK (gEsc (gV 4)) gN))))) (gK (gEsc (gC .none)) (gK (gEsc (gV 2)) (gK (gEsc (gV 3)) (gK (gEsc (gC (.str (PySem.Str.ofString "")))) (gK (gEsc gDic) (gK (gEsc (FX.gTup gN)) (gK (gEsc (gC (.bool true))) (gK (gEsc (gV 4)) gN))))))))))) (gFn 2 m__law_take (gK (gEsc (gV 0)) (gK (gEsc (gC (.int 16))) gN)))))))))))))))))))))))
theorem x__law_no_league_2 {Y : Sys} : ∃ m : Fm Y, m = mOf 15 b__law_no_league_2 := ⟨_, rfl⟩
def m__law_no_league_2 {Y : Sys} : Fm Y := Classical.choose (x__law_no_league_2)
theorem q__law_no_league_2 {Y : Sys} : m__law_no_league_2 = mOf (Y := Y) 15 b__law_no_league_2 := Classical.choose_spec (x__law_no_league_2)
-- 0 script, 1 k
def b__law_cell {Y : Sys} : GS Y :=
  (sSeq (sIf (gTst (gBin fLt (gV 1) (gCall fLen (gK (gV 0) gN)))) (sRet (gBin fIx (gV 0) (gV 1))) sNil)
  (sRet (gBin fAdd (gBin fAdd (gBin fMul (gBin fMul (gC (.int 7)) (gV 1)) (gV 1)) (gBin fMul (gC (.int 3)) (gV 1))) (gC (.int 11)))))
theorem x__law_cell {Y : Sys} : ∃ m : Fm Y, m = mOf 2 b__law_cell := ⟨_, rfl⟩
def m__law_cell {Y : Sys} : Fm Y := Classical.choose (x__law_cell)
theorem q__law_cell {Y : Sys} : m__law_cell = mOf (Y := Y) 2 b__law_cell := Classical.choose_spec (x__law_cell)
-- 0 cell, 1 great
def b__law_store {Y : Sys} : GS Y :=
  (sSeq (sSet 1 (gC (.int 0)))
  (sSeq (sIf (gTst (gBin fGe (gV 0) (gBin fPow (gC (.int 10)) (gC (.int 18))))) (sSet 1 (gV 0)) sNil)
  (sRet (gLst (gK (gEsc (gV 1)) (gK (gEsc (gBin fMod (gV 0) (gC (.int 2147483629)))) (gK (gEsc (gC (.int 1))) gN)))))))
theorem x__law_store {Y : Sys} : ∃ m : Fm Y, m = mOf 2 b__law_store := ⟨_, rfl⟩
def m__law_store {Y : Sys} : Fm Y := Classical.choose (x__law_store)
theorem q__law_store {Y : Sys} : m__law_store = mOf (Y := Y) 2 b__law_store := Classical.choose_spec (x__law_store)
-- 0 store, 1 many, 2 told, 3 one
def b__law_take_2 {Y : Sys} : GS Y :=
  (sSeq (sIf (gTst (gBin fGt (gBin fIx (gV 0) (gC (.int 0))) (gC (.int 0)))) (sSeq (sSet 2 (gBin fMod (gBin fIx (gV 0) (gC (.int 0))) (gV 1)))
  (sSeq (sPut 0 (gC (.int 0)) (gBin fDiv (gBin fIx (gV 0) (gC (.int 0))) (gV 1)))
  (sRet (gV 2)))) sNil)
  (sSeq (sPut 0 (gC (.int 2)) (gBin fAdd (gBin fIx (gV 0) (gC (.int 2))) (gC (.int 1))))
  (sSeq (sSet 3 (gBin fMod (gBin fMul (gBin fAdd (gBin fIx (gV 0) (gC (.int 1))) (gBin fMul (gC (.int 7919)) (gBin fIx (gV 0) (gC (.int 2))))) (gC (.int 48271))) (gC (.int 2147483647))))
  (sSeq (sSet 3 (gBin fMod (gBin fMul (gV 3) (gV 3)) (gC (.int 2147483629))))
  (sSeq (sSet 3 (gBin fMod (gBin fMul (gBin fAdd (gV 3) (gBin fMul (gC (.int 40692)) (gBin fIx (gV 0) (gC (.int 2))))) (gC (.int 69621))) (gC (.int 2147483587))))
  (sRet (gBin fMod (gBin fDiv (gV 3) (gC (.int 8))) (gV 1))))))))
theorem x__law_take_2 {Y : Sys} : ∃ m : Fm Y, m = mOf 4 b__law_take_2 := ⟨_, rfl⟩
def m__law_take_2 {Y : Sys} : Fm Y := Classical.choose (x__law_take_2)
theorem q__law_take_2 {Y : Sys} : m__law_take_2 = mOf (Y := Y) 4 b__law_take_2 := Classical.choose_spec (x__law_take_2)
-- 0 n, 1 found, 2 i, 3 j
def e__law_all_1 {Y : Sys} : GE Y :=
  (gEsc (FX.gTup (gK (gEsc (gV 2)) (gK (gEsc (gV 3)) gN))))
def l__law_all_2 {Y : Sys} : GS Y :=
  (sDrop (gExt 1 (gComp (.n 3) [3] (gRg2 (gK (gBin fAdd (gV 2) (gC (.int 1))) (gK (gV 0) gN))) gYes e__law_all_1)))
def b__law_all {Y : Sys} : GS Y :=
  (sSeq (sSet 1 (gLst gN))
  (sSeq (sFor (.n 2) (gRg1 (gK (gV 0) gN)) l__law_all_2)
  (sRet (gV 1))))
theorem x__law_all {Y : Sys} : ∃ m : Fm Y, m = mOf 4 b__law_all := ⟨_, rfl⟩
def m__law_all {Y : Sys} : Fm Y := Classical.choose (x__law_all)
theorem q__law_all {Y : Sys} : m__law_all = mOf (Y := Y) 4 b__law_all := Classical.choose_spec (x__law_all)
-- 0 kind, 1 i, 2 j
def b__law_outcomes {Y : Sys} : GS Y :=
  (sRet (gBin fIx (gLst (gK (gEsc (gLst (gK (gEsc (gV 1)) (gK (gEsc (gV 2)) gN)))) (gK (gEsc (gLst (gK (gEsc (gV 1)) (gK (gEsc (gC .none)) (gK (gEsc (gV 2)) gN))))) gN))) (gCall fInt (gK (gBin fEq (gV 0) (gC (.str (PySem.Str.ofString "ties")))) gN))))
theorem x__law_outcomes {Y : Sys} : ∃ m : Fm Y, m = mOf 3 b__law_outcomes := ⟨_, rfl⟩
def m__law_outcomes {Y : Sys} : Fm Y := Classical.choose (x__law_outcomes)
theorem q__law_outcomes {Y : Sys} : m__law_outcomes = mOf (Y := Y) 3 b__law_outcomes := Classical.choose_spec (x__law_outcomes)
-- 0 league, 1 met, 2 i, 3 j, 4 w, 5 match
def e__law_left_1 {Y : Sys} : GE Y :=
  (gEsc (FX.gTup (gK (gEsc (gV 2)) (gK (gEsc (gV 3)) gN))))
def e__law_left_2 {Y : Sys} : GE Y :=
  (gEsc (FX.gTup (gK (gEsc (gV 2)) (gK (gEsc (gV 3)) gN))))
def e__law_left_3 {Y : Sys} : GE Y :=
  (gEsc (gV 5))
def t__law_left_4 {Y : Sys} : GT Y :=
  (gTst (gBin fNotIn2 (gV 5) (gV 1)))
def b__law_left {Y : Sys} : GS Y :=
  (sSeq (sSet 1 (gComp (.t (.cons (.n 2) (.cons (.n 3) (.cons (.n 4) .nil)))) [2, 3, 4] (gItL (gBin fIx (gV 0) (gC (.int 2)))) gYes e__law_left_2))
  (sRet (gComp (.n 5) [5] (gItL (gFn 1 m__law_all (gK (gEsc (gBin fIx (gV 0) (gC (.int 1)))) gN))) t__law_left_4 e__law_left_3)))
theorem x__law_left {Y : Sys} : ∃ m : Fm Y, m = mOf 6 b__law_left := ⟨_, rfl⟩
def m__law_left {Y : Sys} : Fm Y := Classical.choose (x__law_left)
theorem q__law_left {Y : Sys} : m__law_left = mOf (Y := Y) 6 b__law_left := Classical.choose_spec (x__law_left)
-- 0 league, 1 i, 2 j, 3 w
def b__law_with_2 {Y : Sys} : GS Y :=
  (sRet (FX.gTup (gK (gEsc (gBin fIx (gV 0) (gC (.int 0)))) (gK (gEsc (gBin fIx (gV 0) (gC (.int 1)))) (gK (gEsc (gCall fSrt (gK (gBin fAdd (gBin fIx (gV 0) (gC (.int 2))) (gLst (gK (gEsc (FX.gTup (gK (gEsc (gV 1)) (gK (gEsc (gV 2)) (gK (gEsc (gV 3)) gN))))) gN))) gN))) gN)))))
theorem x__law_with_2 {Y : Sys} : ∃ m : Fm Y, m = mOf 4 b__law_with_2 := ⟨_, rfl⟩
def m__law_with_2 {Y : Sys} : Fm Y := Classical.choose (x__law_with_2)
theorem q__law_with_2 {Y : Sys} : m__law_with_2 = mOf (Y := Y) 4 b__law_with_2 := Classical.choose_spec (x__law_with_2)
-- 0 store, 1 most, 2 kind, 3 n, 4 left, 5 many, 6 played, 7 i, 8 j, 9 some
def t__law_league_2_1 {Y : Sys} : GT Y :=
  (gTst (gBin fGt (gCall fLen (gK (gV 4) gN)) (gV 5)))
def l__law_league_2_2 {Y : Sys} : GS Y :=
  (sSeq (sUnp (.cons (.n 7) (.cons (.n 8) .nil)) (gPop1 4 (gFn 2 m__law_take_2 (gK (gEsc (gV 0)) (gK (gEsc (gCall fLen (gK (gV 4) gN))) gN)))))
  (sSeq (sSet 9 (gFn 3 m__law_outcomes (gK (gEsc (gV 2)) (gK (gEsc (gV 7)) (gK (gEsc (gV 8)) gN)))))
  (sDrop (gApp 6 (FX.gTup (gK (gEsc (gV 7)) (gK (gEsc (gV 8)) (gK (gEsc (gBin fIx (gV 9) (gFn 2 m__law_take_2 (gK (gEsc (gV 0)) (gK (gEsc (gCall fLen (gK (gV 9) gN))) gN))))) gN))))))))
def b__law_league_2 {Y : Sys} : GS Y :=
  (sSeq (sSet 2 (gBin fIx (gLst (gK (gEsc (gC (.str (PySem.Str.ofString "plain")))) (gK (gEsc (gC (.str (PySem.Str.ofString "ties")))) gN))) (gFn 2 m__law_take_2 (gK (gEsc (gV 0)) (gK (gEsc (gC (.int 2))) gN)))))
  (sSeq (sSet 3 (gBin fIx (gLst (gK (gEsc (gBin fAdd (gC (.int 2)) (gFn 2 m__law_take_2 (gK (gEsc (gV 0)) (gK (gEsc (gC (.int 5))) gN))))) (gK (gEsc (gBin fAdd (gC (.int 3)) (gFn 2 m__law_take_2 (gK (gEsc (gV 0)) (gK (gEsc (gC (.int 4))) gN))))) (gK (gEsc (gC (.int 6))) gN)))) (gFn 2 m__law_take_2 (gK (gEsc (gV 0)) (gK (gEsc (gC (.int 3))) gN)))))
  (sSeq (sSet 4 (gFn 1 m__law_all (gK (gEsc (gV 3)) gN)))
  (sSeq (sSet 5 (gCall fMin2 (gK (gV 1) (gK (gBin fIx (gLst (gK (gEsc (gFn 2 m__law_take_2 (gK (gEsc (gV 0)) (gK (gEsc (gC (.int 4))) gN)))) (gK (gEsc (gFn 2 m__law_take_2 (gK (gEsc (gV 0)) (gK (gEsc (gBin fAdd (gCall fLen (gK (gV 4) gN)) (gC (.int 1)))) gN)))) (gK (gEsc (gCall fLen (gK (gV 4) gN))) gN)))) (gFn 2 m__law_take_2 (gK (gEsc (gV 0)) (gK (gEsc (gC (.int 3))) gN)))) gN))))
  (sSeq (sSet 6 (gLst gN))
  (sSeq (whileG t__law_league_2_1 l__law_league_2_2 1000)
  (sRet (FX.gTup (gK (gEsc (gV 2)) (gK (gEsc (gV 3)) (gK (gEsc (gCall fSrt (gK (gV 6) gN))) gN)))))))))))
theorem x__law_league_2 {Y : Sys} : ∃ m : Fm Y, m = mOf 10 b__law_league_2 := ⟨_, rfl⟩
def m__law_league_2 {Y : Sys} : Fm Y := Classical.choose (x__law_league_2)
theorem q__law_league_2 {Y : Sys} : m__law_league_2 = mOf (Y := Y) 10 b__law_league_2 := Classical.choose_spec (x__law_league_2)
-- 0 store, 1 league, 2 found, 3 i, 4 j, 5 some
def l__law_ended_1 {Y : Sys} : GS Y :=
  (sSeq (sSet 5 (gFn 3 m__law_outcomes (gK (gEsc (gBin fIx (gV 1) (gC (.int 0)))) (gK (gEsc (gV 3)) (gK (gEsc (gV 4)) gN)))))
  (sSet 2 (gFn 4 m__law_with_2 (gK (gEsc (gV 2)) (gK (gEsc (gV 3)) (gK (gEsc (gV 4)) (gK (gEsc (gBin fIx (gV 5) (gFn 2 m__law_take_2 (gK (gEsc (gV 0)) (gK (gEsc (gCall fLen (gK (gV 5) gN))) gN))))) gN)))))))
def b__law_ended {Y : Sys} : GS Y :=
  (sSeq (sSet 2 (gV 1))
  (sSeq (sFor (.t (.cons (.n 3) (.cons (.n 4) .nil))) (gItL (gFn 1 m__law_left (gK (gEsc (gV 1)) gN))) l__law_ended_1)
  (sRet (gV 2))))
theorem x__law_ended {Y : Sys} : ∃ m : Fm Y, m = mOf 6 b__law_ended := ⟨_, rfl⟩
def m__law_ended {Y : Sys} : Fm Y := Classical.choose (x__law_ended)
theorem q__law_ended {Y : Sys} : m__law_ended = mOf (Y := Y) 6 b__law_ended := Classical.choose_spec (x__law_ended)
-- 0 league, 1 found, 2 i, 3 j, 4 w, 5 player
def l__law_had_2_1 {Y : Sys} : GS Y :=
  (sSeq (sIf (gTst (gBin fIsN (gV 4) (gC .none))) (sPut 1 (gV 5) (gBin fAdd (gBin fIx (gV 1) (gV 5)) (gC (.int 1)))) sNil)
  (sIf (gTst (gBin fEq (gV 4) (gV 5))) (sPut 1 (gV 5) (gBin fAdd (gBin fAdd (gBin fIx (gV 1) (gV 5)) (gC (.int 1))) (gCall fInt (gK (gBin fEq (gBin fIx (gV 0) (gC (.int 0))) (gC (.str (PySem.Str.ofString "ties")))) gN)))) sNil))
def l__law_had_2_2 {Y : Sys} : GS Y :=
  (sFor (.n 5) (gItT (FX.gTup (gK (gEsc (gV 2)) (gK (gEsc (gV 3)) gN)))) l__law_had_2_1)
def b__law_had_2 {Y : Sys} : GS Y :=
  (sSeq (sSet 1 (gBin fMul (gLst (gK (gEsc (gC (.int 0))) gN)) (gBin fIx (gV 0) (gC (.int 1)))))
  (sSeq (sFor (.t (.cons (.n 2) (.cons (.n 3) (.cons (.n 4) .nil)))) (gItL (gBin fIx (gV 0) (gC (.int 2)))) l__law_had_2_2)
  (sRet (gV 1))))
theorem x__law_had_2 {Y : Sys} : ∃ m : Fm Y, m = mOf 6 b__law_had_2 := ⟨_, rfl⟩
def m__law_had_2 {Y : Sys} : Fm Y := Classical.choose (x__law_had_2)
theorem q__law_had_2 {Y : Sys} : m__law_had_2 = mOf (Y := Y) 6 b__law_had_2 := Classical.choose_spec (x__law_had_2)
-- 0 store, 1 league, 2 n, 3 found, 4 way, 5 one, 6 other, 7 by, 8 player
def e__law_points_2_1 {Y : Sys} : GE Y :=
  (gEsc (gFn 2 m__law_take_2 (gK (gEsc (gV 0)) (gK (gEsc (gBin fMul (gC (.int 2)) (gV 2))) gN))))
def b__law_points_2 {Y : Sys} : GS Y :=
  (sSeq (sSet 2 (gBin fIx (gV 1) (gC (.int 1))))
  (sSeq (sSet 3 (gFn 1 m__law_had_2 (gK (gEsc (gFn 2 m__law_ended (gK (gEsc (gV 0)) (gK (gEsc (gV 1)) gN)))) gN)))
  (sSeq (sSet 4 (gFn 2 m__law_take_2 (gK (gEsc (gV 0)) (gK (gEsc (gC (.int 10))) gN))))
  (sSeq (sSet 5 (gFn 2 m__law_take_2 (gK (gEsc (gV 0)) (gK (gEsc (gV 2)) gN))))
  (sSeq (sSet 6 (gFn 2 m__law_take_2 (gK (gEsc (gV 0)) (gK (gEsc (gV 2)) gN))))
  (sSeq (sIf (gTst (gBin fIn2 (gV 4) (FX.gTup (gK (gEsc (gC (.int 4))) (gK (gEsc (gC (.int 5))) (gK (gEsc (gC (.int 6))) gN)))))) (sSeq (sSet 7 (gBin fAdd (gC (.int 1)) (gFn 2 m__law_take_2 (gK (gEsc (gV 0)) (gK (gEsc (gC (.int 3))) gN)))))
  (sSeq (sPut 3 (gV 5) (gBin fAdd (gBin fIx (gV 3) (gV 5)) (gV 7)))
  (sPut 3 (gV 6) (gBin fSub (gBin fIx (gV 3) (gV 6)) (gV 7))))) sNil)
  (sSeq (sIf (gTst (gBin fEq (gV 4) (gC (.int 7)))) (sPut 3 (gV 5) (gBin fAdd (gBin fIx (gV 3) (gV 5)) (gBin fIx (gLst (gK (gEsc (gC (.int 1))) (gK (gEsc (gUn fNeg (gC (.int 1)))) (gK (gEsc (gBin fPow (gC (.int 10)) (gC (.int 25)))) (gK (gEsc (gBin fSub (gC (.int 0)) (gBin fPow (gC (.int 10)) (gC (.int 25))))) gN))))) (gFn 2 m__law_take_2 (gK (gEsc (gV 0)) (gK (gEsc (gC (.int 4))) gN)))))) sNil)
  (sSeq (sIf (gTst (gBin fEq (gV 4) (gC (.int 8)))) (sSet 3 (gComp (.n 8) [8] (gRg1 (gK (gV 2) gN)) gYes e__law_points_2_1)) sNil)
  (sRet (gV 3))))))))))
theorem x__law_points_2 {Y : Sys} : ∃ m : Fm Y, m = mOf 9 b__law_points_2 := ⟨_, rfl⟩
def m__law_points_2 {Y : Sys} : Fm Y := Classical.choose (x__law_points_2)
theorem q__law_points_2 {Y : Sys} : m__law_points_2 = mOf (Y := Y) 9 b__law_points_2 := Classical.choose_spec (x__law_points_2)
-- 0 store, 1 league, 2 kind, 3 n, 4 played, 5 end, 6 left, 7 keep, 8 match
def e__law_small_1 {Y : Sys} : GE Y :=
  (gEsc (gV 8))
def t__law_small_2 {Y : Sys} : GT Y :=
  (gTst (gBin fNotIn2 (gV 8) (gV 4)))
def e__law_small_3 {Y : Sys} : GE Y :=
  (gEsc (gV 8))
def t__law_small_4 {Y : Sys} : GT Y :=
  (gTst (gBin fNotIn2 (gV 8) (gV 4)))
def t__law_small_5 {Y : Sys} : GT Y :=
  (gTst (gBin fGt (gCall fLen (gK (gV 6) gN)) (gV 7)))
def l__law_small_6 {Y : Sys} : GS Y :=
  (sDrop (gPop1 6 (gFn 2 m__law_take (gK (gEsc (gV 0)) (gK (gEsc (gCall fLen (gK (gV 6) gN))) gN)))))
def e__law_small_7 {Y : Sys} : GE Y :=
  (gEsc (gV 8))
def t__law_small_8 {Y : Sys} : GT Y :=
  (gTst (gBin fNotIn2 (gV 8) (gV 6)))
def b__law_small {Y : Sys} : GS Y :=
  (sSeq (sUnp (.cons (.n 2) (.cons (.n 3) (.cons (.n 4) .nil))) (gV 1))
  (sSeq (sSet 5 (gBin fIx (gFn 2 m__law_drawn_end (gK (gEsc (gV 0)) (gK (gEsc (gV 1)) gN))) (gC (.int 2))))
  (sSeq (sSet 6 (gComp (.n 8) [8] (gItL (gV 5)) t__law_small_4 e__law_small_3))
  (sSeq (sSet 7 (gFn 2 m__law_take (gK (gEsc (gV 0)) (gK (gEsc (gC (.int 6))) gN))))
  (sSeq (whileG t__law_small_5 l__law_small_6 1000)
  (sRet (FX.gTup (gK (gEsc (gV 2)) (gK (gEsc (gV 3)) (gK (gEsc (gComp (.n 8) [8] (gItL (gV 5)) t__law_small_8 e__law_small_7)) gN))))))))))
theorem x__law_small {Y : Sys} : ∃ m : Fm Y, m = mOf 9 b__law_small := ⟨_, rfl⟩
def m__law_small {Y : Sys} : Fm Y := Classical.choose (x__law_small)
theorem q__law_small {Y : Sys} : m__law_small = mOf (Y := Y) 9 b__law_small := Classical.choose_spec (x__law_small)
-- 0 league, 1 player
def b__check_player {Y : Sys} : GS Y :=
  (sSeq (sDrop (gFn 1 m_check_league (gK (gEsc (gV 0)) gN)))
  (sIf (gNot (gTst (gFn 2 m_is_player (gK (gEsc (gV 1)) (gK (gEsc (gBin fIx (gV 0) (gC (.int 1)))) gN))))) (sRaise (PySem.Str.ofString "NoPlayer")) sNil))
theorem x__check_player {Y : Sys} : ∃ m : Fm Y, m = mOf 2 b__check_player := ⟨_, rfl⟩
def m__check_player {Y : Sys} : Fm Y := Classical.choose (x__check_player)
theorem q__check_player {Y : Sys} : m__check_player = mOf (Y := Y) 2 b__check_player := Classical.choose_spec (x__check_player)
-- 0 league, 1 player, 2 own, 3 match
def e_most_points_1 {Y : Sys} : GE Y :=
  (gEsc (gV 3))
def t_most_points_2 {Y : Sys} : GT Y :=
  (gTst (gBin fIn2 (gV 1) (gV 3)))
def b_most_points {Y : Sys} : GS Y :=
  (sSeq (sDrop (gFn 2 m__check_player (gK (gEsc (gV 0)) (gK (gEsc (gV 1)) gN))))
  (sSeq (sSet 2 (gComp (.n 3) [3] (gItL (gFn 1 m_matches_left (gK (gEsc (gV 0)) gN))) t_most_points_2 e_most_points_1))
  (sRet (gBin fAdd (gBin fIx (gFn 1 m_points_had (gK (gEsc (gV 0)) gN)) (gV 1)) (gBin fMul (gFn 1 m_worth_of (gK (gEsc (gV 0)) gN)) (gCall fLen (gK (gV 2) gN)))))))
theorem x_most_points {Y : Sys} : ∃ m : Fm Y, m = mOf 4 b_most_points := ⟨_, rfl⟩
def m_most_points {Y : Sys} : Fm Y := Classical.choose (x_most_points)
theorem q_most_points {Y : Sys} : m_most_points = mOf (Y := Y) 4 b_most_points := Classical.choose_spec (x_most_points)
-- 0 league, 1 found, 2 i, 3 j, 4 longer, 5 one, 6 w
def e__law_every_1 {Y : Sys} : GE Y :=
  (gEsc (gFn 4 m__law_with_2 (gK (gEsc (gV 5)) (gK (gEsc (gV 2)) (gK (gEsc (gV 3)) (gK (gEsc (gV 6)) gN))))))
def l__law_every_2 {Y : Sys} : GS Y :=
  (sDrop (gExt 4 (gComp (.n 6) [6] (gItL (gFn 3 m__law_outcomes (gK (gEsc (gBin fIx (gV 0) (gC (.int 0)))) (gK (gEsc (gV 2)) (gK (gEsc (gV 3)) gN))))) gYes e__law_every_1)))
def l__law_every_3 {Y : Sys} : GS Y :=
  (sSeq (sSet 4 (gLst gN))
  (sSeq (sFor (.n 5) (gItL (gV 1)) l__law_every_2)
  (sSet 1 (gV 4))))
def b__law_every {Y : Sys} : GS Y :=
  (sSeq (sSet 1 (gLst (gK (gEsc (gV 0)) gN)))
  (sSeq (sFor (.t (.cons (.n 2) (.cons (.n 3) .nil))) (gItL (gFn 1 m__law_left (gK (gEsc (gV 0)) gN))) l__law_every_3)
  (sRet (gV 1))))
theorem x__law_every {Y : Sys} : ∃ m : Fm Y, m = mOf 7 b__law_every := ⟨_, rfl⟩
def m__law_every {Y : Sys} : Fm Y := Classical.choose (x__law_every)
theorem q__law_every {Y : Sys} : m__law_every = mOf (Y := Y) 7 b__law_every := Classical.choose_spec (x__law_every)
-- 0 league, 1 player, 2 below, 3 kind, 4 n, 5 played, 6 worth, 7 left, 8 had, 9 most, 10 mask, 11 some, 12 inside, 13 free, 14 other, 15 match
def e__law_first_1 {Y : Sys} : GE Y :=
  (gEsc (gV 15))
def t__law_first_2 {Y : Sys} : GT Y :=
  (gTst (gBin fIn2 (gV 1) (gV 15)))
def e__law_first_3 {Y : Sys} : GE Y :=
  (gEsc (gV 14))
def t__law_first_4 {Y : Sys} : GT Y :=
  (gTst (gBin fEq (gBin fBand (gBin fShr (gV 10) (gV 14)) (gC (.int 1))) (gC (.int 1))))
def e__law_first_5 {Y : Sys} : GE Y :=
  (gEsc (gV 14))
def t__law_first_6 {Y : Sys} : GT Y :=
  (gTst (gBin fEq (gBin fBand (gBin fShr (gV 10) (gV 14)) (gC (.int 1))) (gC (.int 1))))
def e__law_first_7 {Y : Sys} : GE Y :=
  (gEsc (gV 15))
def t__law_first_8 {Y : Sys} : GT Y :=
  (gAnd (gTst (gBin fIn2 (gBin fIx (gV 15) (gC (.int 0))) (gV 11))) (gTst (gBin fIn2 (gBin fIx (gV 15) (gC (.int 1))) (gV 11))))
def e__law_first_9 {Y : Sys} : GE Y :=
  (gEsc (gBin fSub (gV 9) (gBin fIx (gV 8) (gV 14))))
def l__law_first_10 {Y : Sys} : GS Y :=
  (sSeq (sSet 11 (gComp (.n 14) [14] (gRg1 (gK (gV 4) gN)) t__law_first_6 e__law_first_5))
  (sSeq (sSet 12 (gCall fLen (gK (gComp (.n 15) [15] (gItL (gV 7)) t__law_first_8 e__law_first_7) gN)))
  (sSeq (sSet 13 (gCall fSum (gK (gComp (.n 14) [14] (gItL (gV 11)) gYes e__law_first_9) gN)))
  (sIf (gAnd (gTst (gBin fNotIn2 (gV 1) (gV 11))) (gTst (gBin fLt (gV 13) (gBin fMul (gV 6) (gV 12))))) (sRet (gC (.bool false))) sNil))))
def b__law_first {Y : Sys} : GS Y :=
  (sSeq (sUnp (.cons (.n 3) (.cons (.n 4) (.cons (.n 5) .nil))) (gV 0))
  (sSeq (sSet 6 (gBin fAdd (gC (.int 1)) (gCall fInt (gK (gBin fEq (gV 3) (gC (.str (PySem.Str.ofString "ties")))) gN))))
  (sSeq (sSet 7 (gFn 1 m__law_left (gK (gEsc (gV 0)) gN)))
  (sSeq (sSet 8 (gFn 1 m__law_had_2 (gK (gEsc (gV 0)) gN)))
  (sSeq (sSet 9 (gBin fSub (gBin fAdd (gBin fIx (gV 8) (gV 1)) (gBin fMul (gV 6) (gCall fLen (gK (gComp (.n 15) [15] (gItL (gV 7)) t__law_first_2 e__law_first_1) gN)))) (gV 2)))
  (sSeq (sFor (.n 10) (gRg2 (gK (gC (.int 1)) (gK (gBin fShl (gC (.int 1)) (gV 4)) gN))) l__law_first_10)
  (sRet (gC (.bool true)))))))))
theorem x__law_first {Y : Sys} : ∃ m : Fm Y, m = mOf 16 b__law_first := ⟨_, rfl⟩
def m__law_first {Y : Sys} : Fm Y := Classical.choose (x__law_first)
theorem q__law_first {Y : Sys} : m__law_first = mOf (Y := Y) 16 b__law_first := Classical.choose_spec (x__law_first)
-- 0 store, 1 league, 2 found, 3 turn, 4 player, 5 wins, 6 i, 7 j
def l__law_uneven_1 {Y : Sys} : GS Y :=
  (sIf (gAnd (gTst (gBin fIn2 (gV 4) (FX.gTup (gK (gEsc (gV 6)) (gK (gEsc (gV 7)) gN))))) (gTst (gBin fGt (gFn 2 m__law_take_2 (gK (gEsc (gV 0)) (gK (gEsc (gC (.int 3))) gN))) (gC (.int 0))))) (sSet 2 (gFn 4 m__law_with_2 (gK (gEsc (gV 2)) (gK (gEsc (gV 6)) (gK (gEsc (gV 7)) (gK (gEsc (gBin fIx (gLst (gK (gEsc (gBin fSub (gBin fAdd (gV 6) (gV 7)) (gV 4))) (gK (gEsc (gV 4)) gN))) (gV 5))) gN)))))) sNil)
def l__law_uneven_2 {Y : Sys} : GS Y :=
  (sSeq (sSet 4 (gFn 2 m__law_take_2 (gK (gEsc (gV 0)) (gK (gEsc (gBin fIx (gV 1) (gC (.int 1)))) gN))))
  (sSeq (sSet 5 (gFn 2 m__law_take_2 (gK (gEsc (gV 0)) (gK (gEsc (gC (.int 2))) gN))))
  (sFor (.t (.cons (.n 6) (.cons (.n 7) .nil))) (gItL (gFn 1 m__law_left (gK (gEsc (gV 2)) gN))) l__law_uneven_1)))
def b__law_uneven {Y : Sys} : GS Y :=
  (sSeq (sSet 2 (gV 1))
  (sSeq (sFor (.n 3) (gRg1 (gK (gBin fAdd (gC (.int 1)) (gFn 2 m__law_take_2 (gK (gEsc (gV 0)) (gK (gEsc (gC (.int 2))) gN)))) gN)) l__law_uneven_2)
  (sRet (gV 2))))
theorem x__law_uneven {Y : Sys} : ∃ m : Fm Y, m = mOf 8 b__law_uneven := ⟨_, rfl⟩
def m__law_uneven {Y : Sys} : Fm Y := Classical.choose (x__law_uneven)
theorem q__law_uneven {Y : Sys} : m__law_uneven = mOf (Y := Y) 8 b__law_uneven := Classical.choose_spec (x__law_uneven)
-- 0 league, 1 player
def b_least_points {Y : Sys} : GS Y :=
  (sSeq (sDrop (gFn 2 m__check_player (gK (gEsc (gV 0)) (gK (gEsc (gV 1)) gN))))
  (sRet (gBin fIx (gFn 1 m_points_had (gK (gEsc (gV 0)) gN)) (gV 1))))
theorem x_least_points {Y : Sys} : ∃ m : Fm Y, m = mOf 2 b_least_points := ⟨_, rfl⟩
def m_least_points {Y : Sys} : Fm Y := Classical.choose (x_least_points)
theorem q_least_points {Y : Sys} : m_least_points = mOf (Y := Y) 2 b_least_points := Classical.choose_spec (x_least_points)
-- 0 store, 1 league, 2 kind, 3 n, 4 played, 5 at, 6 i, 7 j, 8 w, 9 rest, 10 bads, 11 bad, 12 spot, 13 some, 14 good, 15 one
def e__law_no_league_3_1 {Y : Sys} : GE Y :=
  (gEsc (gV 15))
def t__law_no_league_3_2 {Y : Sys} : GT Y :=
  (gTst (gBin fNe (gSl (gV 15) gNoP (gPart (gC (.int 2)))) (FX.gTup (gK (gEsc (gV 6)) (gK (gEsc (gV 7)) gN)))))
def e__law_no_league_3_3 {Y : Sys} : GE Y :=
  (gEsc (gV 15))
def t__law_no_league_3_4 {Y : Sys} : GT Y :=
  (gTst (gBin fLt (gSl (gV 15) gNoP (gPart (gC (.int 2)))) (FX.gTup (gK (gEsc (gV 6)) (gK (gEsc (gV 7)) gN)))))
def b__law_no_league_3 {Y : Sys} : GS Y :=
  (sSeq (sUnp (.cons (.n 2) (.cons (.n 3) (.cons (.n 4) .nil))) (gV 1))
  (sSeq (sSet 5 (gFn 2 m__law_take_2 (gK (gEsc (gV 0)) (gK (gEsc (gBin fAdd (gCall fLen (gK (gV 4) gN)) (gC (.int 1)))) gN))))
  (sSeq (sSet 6 (gFn 2 m__law_take_2 (gK (gEsc (gV 0)) (gK (gEsc (gBin fSub (gV 3) (gC (.int 1)))) gN))))
  (sSeq (sSet 7 (gBin fAdd (gBin fAdd (gV 6) (gC (.int 1))) (gFn 2 m__law_take_2 (gK (gEsc (gV 0)) (gK (gEsc (gBin fSub (gBin fSub (gV 3) (gV 6)) (gC (.int 1)))) gN)))))
  (sSeq (sSet 8 (gBin fIx (gLst (gK (gEsc (gV 6)) (gK (gEsc (gV 7)) gN))) (gFn 2 m__law_take_2 (gK (gEsc (gV 0)) (gK (gEsc (gC (.int 2))) gN)))))
  (sSeq (sSet 9 (gComp (.n 15) [15] (gItL (gV 4)) t__law_no_league_3_2 e__law_no_league_3_1))
  (sSeq (sSet 10 (gLst (gK (gEsc (FX.gTup (gK (gEsc (gV 7)) (gK (gEsc (gV 6)) (gK (gEsc (gV 8)) gN))))) (gK (gEsc (FX.gTup (gK (gEsc (gV 6)) (gK (gEsc (gV 6)) (gK (gEsc (gV 6)) gN))))) (gK (gEsc (FX.gTup (gK (gEsc (gV 6)) (gK (gEsc (gV 3)) (gK (gEsc (gV 6)) gN))))) (gK (gEsc (FX.gTup (gK (gEsc (gUn fNeg (gC (.int 1)))) (gK (gEsc (gV 7)) (gK (gEsc (gV 7)) gN))))) (gK (gEsc (FX.gTup (gK (gEsc (gV 6)) (gK (gEsc (gV 7)) (gK (gEsc (gV 3)) gN))))) (gK (gEsc (FX.gTup (gK (gEsc (gV 6)) (gK (gEsc (gV 7)) (gK (gEsc (gUn fNeg (gC (.int 1)))) gN))))) (gK (gEsc (FX.gTup (gK (gEsc (gV 6)) (gK (gEsc (gV 7)) gN)))) (gK (gEsc (FX.gTup (gK (gEsc (gV 6)) (gK (gEsc (gV 7)) (gK (gEsc (gV 8)) (gK (gEsc (gV 8)) gN)))))) (gK (gEsc (gLst (gK (gEsc (gV 6)) (gK (gEsc (gV 7)) (gK (gEsc (gV 8)) gN))))) (gK (gEsc (gC .none)) gN))))))))))))
  (sSeq (sSet 10 (gBin fAdd (gV 10) (gLst (gK (gEsc (FX.gTup (gK (gEsc (gV 6)) (gK (gEsc (gV 7)) (gK (gEsc (gC (.bool true))) gN))))) (gK (gEsc (FX.gTup (gK (gEsc (gV 6)) (gK (gEsc (gV 7)) (gK (gEsc (gC (.str (PySem.Str.ofString "1")))) gN))))) (gK (gEsc (FX.gTup (gK (gEsc (gV 6)) (gK (gEsc (gV 7)) (gK (gEsc (gC (.bool false))) gN))))) (gK (gEsc (FX.gTup (gK (gEsc (gV 6)) (gK (gEsc (gV 7)) (gK (gEsc (gLst (gK (gEsc (gV 8)) gN))) gN))))) (gK (gEsc (FX.gTup (gK (gEsc (gC (.str (PySem.Str.ofString "0")))) (gK (gEsc (gV 7)) (gK (gEsc (gV 7)) gN))))) (gK (gEsc (FX.gTup (gK (gEsc (gC .none)) (gK (gEsc (gV 7)) (gK (gEsc (gV 7)) gN))))) (gK (gEsc (gC (.int 5))) (gK (gEsc (gC (.str (PySem.Str.ofString "0>1")))) (gK (gEsc (FX.gTup gN)) (gK (gEsc gDic) gN)))))))))))))
  (sSeq (sSet 10 (gBin fAdd (gV 10) (gLst (gK (gEsc (FX.gTup (gK (gEsc (gV 6)) (gK (gEsc (gV 7)) (gK (gEsc (gBin fAdd (gBin fMod (gBin fAdd (gBin fAdd (gV 6) (gC (.int 2))) (gV 3)) (gBin fAdd (gV 3) (gC (.int 2)))) (gV 3))) gN))))) (gK (gEsc (FX.gTup (gK (gEsc (gC (.bool true))) (gK (gEsc (gV 7)) (gK (gEsc (gV 7)) gN))))) (gK (gEsc (FX.gTup (gK (gEsc (gV 6)) (gK (gEsc (gC (.bool true))) (gK (gEsc (gV 6)) gN))))) gN))))))
  (sSeq (sIf (gTst (gBin fEq (gV 2) (gC (.str (PySem.Str.ofString "plain"))))) (sSet 10 (gBin fAdd (gV 10) (gBin fMul (gLst (gK (gEsc (FX.gTup (gK (gEsc (gV 6)) (gK (gEsc (gV 7)) (gK (gEsc (gC .none)) gN))))) gN)) (gC (.int 4))))) sNil)
  (sSeq (sSet 11 (gBin fIx (gV 10) (gFn 2 m__law_take_2 (gK (gEsc (gV 0)) (gK (gEsc (gCall fLen (gK (gV 10) gN))) gN)))))
  (sSeq (sSet 12 (gCall fLen (gK (gComp (.n 15) [15] (gItL (gV 9)) t__law_no_league_3_4 e__law_no_league_3_3) gN)))
  (sSeq (sSet 13 (gBin fMul (gLst (gK (gEsc (FX.gTup (gK (gEsc (gV 2)) (gK (gEsc (gV 3)) (gK (gEsc (gBin fAdd (gBin fAdd (gSl (gV 9) gNoP (gPart (gV 12))) (gLst (gK (gEsc (gV 11)) gN))) (gSl (gV 9) (gPart (gV 12)) gNoP))) gN))))) gN)) (gC (.int 6))))
  (sSeq (sSet 14 (gBin fAdd (gBin fAdd (gSl (gV 9) gNoP (gPart (gV 12))) (gLst (gK (gEsc (FX.gTup (gK (gEsc (gV 6)) (gK (gEsc (gV 7)) (gK (gEsc (gV 8)) gN))))) gN))) (gSl (gV 9) (gPart (gV 12)) gNoP)))
  (sSeq (sSet 13 (gBin fAdd (gV 13) (gLst (gK (gEsc (FX.gTup (gK (gEsc (gV 2)) (gK (gEsc (gV 3)) (gK (gEsc (gBin fAdd (gSl (gV 14) gNoP (gPart (gBin fAdd (gV 12) (gC (.int 1))))) (gSl (gV 14) (gPart (gV 12)) gNoP))) gN))))) (gK (gEsc (FX.gTup (gK (gEsc (gV 2)) (gK (gEsc (gV 3)) (gK (gEsc (gCall fTup (gK (gV 4) gN))) gN))))) (gK (gEsc (FX.gTup (gK (gEsc (gV 2)) (gK (gEsc (gV 3)) (gK (gEsc (gC .none)) gN))))) (gK (gEsc (FX.gTup (gK (gEsc (gV 2)) (gK (gEsc (gV 3)) gN)))) gN)))))))
  (sSeq (sIf (gTst (gBin fGt (gCall fLen (gK (gV 14) gN)) (gC (.int 1)))) (sSet 13 (gBin fAdd (gV 13) (gBin fMul (gLst (gK (gEsc (FX.gTup (gK (gEsc (gV 2)) (gK (gEsc (gV 3)) (gK (gEsc (gBin fAdd (gBin fAdd (gSl (gV 14) (gPart (gC (.int 1))) (gPart (gC (.int 2)))) (gSl (gV 14) gNoP (gPart (gC (.int 1))))) (gSl (gV 14) (gPart (gC (.int 2))) gNoP))) gN))))) gN)) (gC (.int 2))))) sNil)
  (sSeq (sSet 13 (gBin fAdd (gV 13) (gLst (gK (gEsc (FX.gTup (gK (gEsc (gV 2)) (gK (gEsc (gV 3)) (gK (gEsc (gV 4)) (gK (gEsc (gLst gN)) gN)))))) (gK (gEsc (gLst (gK (gEsc (gV 2)) (gK (gEsc (gV 3)) (gK (gEsc (gV 4)) gN))))) (gK (gEsc (FX.gTup (gK (gEsc (gV 2)) (gK (gEsc (gC (.int 1))) (gK (gEsc (gLst gN)) gN))))) (gK (gEsc (FX.gTup (gK (gEsc (gV 2)) (gK (gEsc (gC (.int 7))) (gK (gEsc (gLst gN)) gN))))) (gK (gEsc (FX.gTup (gK (gEsc (gV 2)) (gK (gEsc (gBin fSub (gC (.int 0)) (gV 3))) (gK (gEsc (gLst gN)) gN))))) gN))))))))
  (sSeq (sSet 13 (gBin fAdd (gV 13) (gLst (gK (gEsc (FX.gTup (gK (gEsc (gV 2)) (gK (gEsc (gC (.bool true))) (gK (gEsc (gLst gN)) gN))))) (gK (gEsc (FX.gTup (gK (gEsc (gV 2)) (gK (gEsc (gC .none)) (gK (gEsc (gLst gN)) gN))))) (gK (gEsc (FX.gTup (gK (gEsc (gV 2)) (gK (gEsc (gC (.str (PySem.Str.ofString "3")))) (gK (gEsc (gLst gN)) gN))))) (gK (gEsc (FX.gTup (gK (gEsc (gV 2)) (gK (gEsc (gLst (gK (gEsc (gV 3)) gN))) (gK (gEsc (gLst gN)) gN))))) (gK (gEsc (FX.gTup (gK (gEsc (gC (.str (PySem.Str.ofString "Plain")))) (gK (gEsc (gV 3)) (gK (gEsc (gLst gN)) gN))))) gN))))))))
  (sSeq (sSet 13 (gBin fAdd (gV 13) (gLst (gK (gEsc (FX.gTup (gK (gEsc (gC (.str (PySem.Str.ofString "tie")))) (gK (gEsc (gV 3)) (gK (gEsc (gLst gN)) gN))))) (gK (gEsc (FX.gTup (gK (gEsc (gC .none)) (gK (gEsc (gV 3)) (gK (gEsc (gLst gN)) gN))))) (gK (gEsc (FX.gTup (gK (gEsc (gC (.int 0))) (gK (gEsc (gV 3)) (gK (gEsc (gLst gN)) gN))))) (gK (gEsc (FX.gTup (gK (gEsc (gC (.str (PySem.Str.ofString "")))) (gK (gEsc (gV 3)) (gK (gEsc (gLst gN)) gN))))) (gK (gEsc (FX.gTup (gK (gEsc (gLst (gK (gEsc (gC (.str (PySem.Str.ofString "ties")))) gN))) (gK (gEsc (gV 3)) (gK (gEsc (gLst gN)) gN))))) (gK (gEsc (FX.gTup (gK (gEsc gDic) (gK (gEsc (gV 3)) (gK (gEsc (gLst gN)) gN))))) gN)))))))))
  (sSeq (sDrop (gApp 13 (FX.gTup (gK (gEsc (gC (.str (PySem.Str.ofString "plain ")))) (gK (gEsc (gV 3)) (gK (gEsc (gLst gN)) gN))))))
  (sSeq (sSet 13 (gBin fAdd (gV 13) (gLst (gK (gEsc (gC .none)) (gK (gEsc (gC (.int 0))) gN)))))
  (sRet (gBin fIx (gBin fAdd (gV 13) (gLst (gK (gEsc (gC (.str (PySem.Str.ofString "")))) (gK (gEsc (gC (.str (PySem.Str.ofString "plain 3")))) (gK (gEsc (gLst gN)) (gK (gEsc (FX.gTup gN)) (gK (gEsc gDic) (gK (gEsc (gC (.bool true))) (gK (gEsc (gV 4)) gN))))))))) (gFn 2 m__law_take_2 (gK (gEsc (gV 0)) (gK (gEsc (gBin fAdd (gCall fLen (gK (gV 13) gN)) (gC (.int 7)))) gN))))))))))))))))))))))))))
theorem x__law_no_league_3 {Y : Sys} : ∃ m : Fm Y, m = mOf 16 b__law_no_league_3 := ⟨_, rfl⟩
def m__law_no_league_3 {Y : Sys} : Fm Y := Classical.choose (x__law_no_league_3)
theorem q__law_no_league_3 {Y : Sys} : m__law_no_league_3 = mOf (Y := Y) 16 b__law_no_league_3 := Classical.choose_spec (x__law_no_league_3)
-- 0 e, 1 due, 2 kinds, 3 words, 4 found, 5 word, 6 kind
def e__law_kind_1 {Y : Sys} : GE Y :=
  (gEsc (gV 5))
def t__law_kind_2 {Y : Sys} : GT Y :=
  (gTst (gV 6))
def b__law_kind {Y : Sys} : GS Y :=
  (sSeq (sSet 2 (gLst (gK (gEsc (gIsE it_NoLeague (gV 0))) (gK (gEsc (gIsE it_NoPoints (gV 0))) (gK (gEsc (gIsE it_NoNumber (gV 0))) (gK (gEsc (gIsE it_NoEnd (gV 0))) gN))))))
  (sSeq (sSet 2 (gBin fAdd (gV 2) (gLst (gK (gEsc (gIsE it_NoMatch (gV 0))) (gK (gEsc (gIsE it_NoOutcome (gV 0))) (gK (gEsc (gIsE it_NoPlayer (gV 0))) gN))))))
  (sSeq (sSet 2 (gBin fAdd (gV 2) (gLst (gK (gEsc (gIsE it_TooMany (gV 0))) (gK (gEsc (gIsE it_NoText (gV 0))) (gK (gEsc (gIsE it_NoName (gV 0))) (gK (gEsc (gIsE it_NoRow (gV 0))) gN)))))))
  (sSeq (sSet 3 (gLst (gK (gEsc (gC (.str (PySem.Str.ofString "league")))) (gK (gEsc (gC (.str (PySem.Str.ofString "points")))) (gK (gEsc (gC (.str (PySem.Str.ofString "number")))) (gK (gEsc (gC (.str (PySem.Str.ofString "end")))) (gK (gEsc (gC (.str (PySem.Str.ofString "match")))) (gK (gEsc (gC (.str (PySem.Str.ofString "outcome")))) (gK (gEsc (gC (.str (PySem.Str.ofString "player")))) (gK (gEsc (gC (.str (PySem.Str.ofString "many")))) (gK (gEsc (gC (.str (PySem.Str.ofString "text")))) (gK (gEsc (gC (.str (PySem.Str.ofString "name")))) (gK (gEsc (gC (.str (PySem.Str.ofString "row")))) gN)))))))))))))
  (sSeq (sSet 4 (gComp (.t (.cons (.n 5) (.cons (.n 6) .nil))) [5, 6] (gZip (gK (gEsc (gV 3)) (gK (gEsc (gV 2)) gN))) t__law_kind_2 e__law_kind_1))
  (sRet (gAndV (gIsE it_ValueError (gV 0)) (gBin fEq (gV 4) (gLst (gK (gEsc (gV 1)) gN))))))))))
theorem x__law_kind {Y : Sys} : ∃ m : Fm Y, m = mOf 7 b__law_kind := ⟨_, rfl⟩
def m__law_kind {Y : Sys} : Fm Y := Classical.choose (x__law_kind)
theorem q__law_kind {Y : Sys} : m__law_kind = mOf (Y := Y) 7 b__law_kind := Classical.choose_spec (x__law_kind)
-- 0 league, 1 points, 2 kind, 3 n, 4 played, 5 worth, 6 shares, 7 i, 8 j, 9 w, 10 mask, 11 some, 12 due, 13 one, 14 other, 15 player
def l__law_can_1 {Y : Sys} : GS Y :=
  (sDrop (gApp 6 (FX.gTup (gK (gEsc (gV 7)) (gK (gEsc (gBin fIx (gLst (gK (gEsc (gBin fMul (gV 5) (gCall fInt (gK (gBin fEq (gV 9) (gV 7)) gN)))) (gK (gEsc (gC (.int 1))) gN))) (gCall fInt (gK (gBin fIsN (gV 9) (gC .none)) gN)))) (gK (gEsc (gV 8)) (gK (gEsc (gBin fIx (gLst (gK (gEsc (gBin fMul (gV 5) (gCall fInt (gK (gBin fEq (gV 9) (gV 8)) gN)))) (gK (gEsc (gC (.int 1))) gN))) (gCall fInt (gK (gBin fIsN (gV 9) (gC .none)) gN)))) gN)))))))
def e__law_can_2 {Y : Sys} : GE Y :=
  (gEsc (gV 15))
def t__law_can_3 {Y : Sys} : GT Y :=
  (gTst (gBin fEq (gBin fBand (gBin fShr (gV 10) (gV 15)) (gC (.int 1))) (gC (.int 1))))
def l__law_can_4 {Y : Sys} : GS Y :=
  (sSeq (sIf (gAnd (gTst (gBin fIn2 (gV 7) (gV 11))) (gTst (gBin fNotIn2 (gV 8) (gV 11)))) (sSet 12 (gBin fAdd (gV 12) (gV 13))) sNil)
  (sIf (gAnd (gTst (gBin fIn2 (gV 8) (gV 11))) (gTst (gBin fNotIn2 (gV 7) (gV 11)))) (sSet 12 (gBin fAdd (gV 12) (gV 14))) sNil))
def e__law_can_5 {Y : Sys} : GE Y :=
  (gEsc (gBin fIx (gV 1) (gV 15)))
def l__law_can_6 {Y : Sys} : GS Y :=
  (sSeq (sSet 11 (gComp (.n 15) [15] (gRg1 (gK (gV 3) gN)) t__law_can_3 e__law_can_2))
  (sSeq (sSet 12 (gBin fMul (gV 5) (gBin fDiv (gBin fMul (gCall fLen (gK (gV 11) gN)) (gBin fSub (gCall fLen (gK (gV 11) gN)) (gC (.int 1)))) (gC (.int 2)))))
  (sSeq (sFor (.t (.cons (.n 7) (.cons (.n 13) (.cons (.n 8) (.cons (.n 14) .nil))))) (gItL (gV 6)) l__law_can_4)
  (sIf (gTst (gBin fLt (gCall fSum (gK (gComp (.n 15) [15] (gItL (gV 11)) gYes e__law_can_5) gN)) (gV 12))) (sRet (gC (.bool false))) sNil))))
def b__law_can {Y : Sys} : GS Y :=
  (sSeq (sUnp (.cons (.n 2) (.cons (.n 3) (.cons (.n 4) .nil))) (gV 0))
  (sSeq (sSet 5 (gBin fAdd (gC (.int 1)) (gCall fInt (gK (gBin fEq (gV 2) (gC (.str (PySem.Str.ofString "ties")))) gN))))
  (sSeq (sIf (gTst (gBin fNe (gCall fSum (gK (gV 1) gN)) (gBin fMul (gV 5) (gCall fLen (gK (gFn 1 m__law_all (gK (gEsc (gV 3)) gN)) gN))))) (sRet (gC (.bool false))) sNil)
  (sSeq (sSet 6 (gLst gN))
  (sSeq (sFor (.t (.cons (.n 7) (.cons (.n 8) (.cons (.n 9) .nil)))) (gItL (gV 4)) l__law_can_1)
  (sSeq (sFor (.n 10) (gRg2 (gK (gC (.int 1)) (gK (gBin fShl (gC (.int 1)) (gV 3)) gN))) l__law_can_6)
  (sRet (gC (.bool true)))))))))
theorem x__law_can {Y : Sys} : ∃ m : Fm Y, m = mOf 16 b__law_can := ⟨_, rfl⟩
def m__law_can {Y : Sys} : Fm Y := Classical.choose (x__law_can)
theorem q__law_can {Y : Sys} : m__law_can = mOf (Y := Y) 16 b__law_can := Classical.choose_spec (x__law_can)
-- 0 league, 1 points, 2 i, 3 j, 4 one, 5 other, 6 w
def l__law_still_1 {Y : Sys} : GS Y :=
  (sIf (gTst (gBin fEq (FX.gTup (gK (gEsc (gV 4)) (gK (gEsc (gV 5)) gN))) (FX.gTup (gK (gEsc (gV 2)) (gK (gEsc (gV 3)) gN))))) (sRet (gBin fMul (gLst (gK (gEsc (gV 6)) gN)) (gCall fInt (gK (gFn 2 m__law_can (gK (gEsc (gV 0)) (gK (gEsc (gV 1)) gN))) gN)))) sNil)
def e__law_still_2 {Y : Sys} : GE Y :=
  (gEsc (gV 6))
def t__law_still_3 {Y : Sys} : GT Y :=
  (gTst (gFn 2 m__law_can (gK (gEsc (gFn 4 m__law_with_2 (gK (gEsc (gV 0)) (gK (gEsc (gV 2)) (gK (gEsc (gV 3)) (gK (gEsc (gV 6)) gN)))))) (gK (gEsc (gV 1)) gN))))
def b__law_still {Y : Sys} : GS Y :=
  (sSeq (sFor (.t (.cons (.n 4) (.cons (.n 5) (.cons (.n 6) .nil)))) (gItL (gBin fIx (gV 0) (gC (.int 2)))) l__law_still_1)
  (sRet (gComp (.n 6) [6] (gItL (gFn 3 m__law_outcomes (gK (gEsc (gBin fIx (gV 0) (gC (.int 0)))) (gK (gEsc (gV 2)) (gK (gEsc (gV 3)) gN))))) t__law_still_3 e__law_still_2)))
theorem x__law_still {Y : Sys} : ∃ m : Fm Y, m = mOf 7 b__law_still := ⟨_, rfl⟩
def m__law_still {Y : Sys} : Fm Y := Classical.choose (x__law_still)
theorem q__law_still {Y : Sys} : m__law_still = mOf (Y := Y) 7 b__law_still := Classical.choose_spec (x__law_still)
-- 0 league, 1 points, 2 found, 3 i, 4 j, 5 some, 6 w
def e__law_sure_1 {Y : Sys} : GE Y :=
  (gEsc (FX.gTup (gK (gEsc (gV 3)) (gK (gEsc (gV 4)) (gK (gEsc (gV 6)) gN)))))
def t__law_sure_2 {Y : Sys} : GT Y :=
  (gTst (gBin fEq (gCall fLen (gK (gV 5) gN)) (gC (.int 1))))
def l__law_sure_3 {Y : Sys} : GS Y :=
  (sSeq (sSet 5 (gFn 4 m__law_still (gK (gEsc (gV 0)) (gK (gEsc (gV 1)) (gK (gEsc (gV 3)) (gK (gEsc (gV 4)) gN))))))
  (sDrop (gExt 2 (gComp (.n 6) [6] (gItL (gV 5)) t__law_sure_2 e__law_sure_1))))
def b__law_sure {Y : Sys} : GS Y :=
  (sSeq (sSet 2 (gLst gN))
  (sSeq (sFor (.t (.cons (.n 3) (.cons (.n 4) .nil))) (gItL (gFn 1 m__law_left (gK (gEsc (gV 0)) gN))) l__law_sure_3)
  (sRet (gV 2))))
theorem x__law_sure {Y : Sys} : ∃ m : Fm Y, m = mOf 7 b__law_sure := ⟨_, rfl⟩
def m__law_sure {Y : Sys} : Fm Y := Classical.choose (x__law_sure)
theorem q__law_sure {Y : Sys} : m__law_sure = mOf (Y := Y) 7 b__law_sure := Classical.choose_spec (x__law_sure)
-- 0 store, 1 state, 2 league, 3 early, 4 kind, 5 n, 6 played, 7 way, 8 left, 9 i, 10 j, 11 w, 12 odd
def b__law_deed {Y : Sys} : GS Y :=
  (sSeq (sUnp (.cons (.n 2) (.cons (.n 3) .nil)) (gV 1))
  (sSeq (sUnp (.cons (.n 4) (.cons (.n 5) (.cons (.n 6) .nil))) (gV 2))
  (sSeq (sSet 7 (gFn 2 m__law_take_2 (gK (gEsc (gV 0)) (gK (gEsc (gC (.int 8))) gN))))
  (sSeq (sSet 8 (gFn 1 m__law_left (gK (gEsc (gV 2)) gN)))
  (sSeq (sIf (gOr (gTst (gBin fLt (gV 7) (gC (.int 2)))) (gAnd (gTst (gBin fEq (gV 8) (gLst gN))) (gTst (gBin fLt (gV 7) (gC (.int 6)))))) (sRet (gC .none)) sNil)
  (sSeq (sUnp (.cons (.n 9) (.cons (.n 10) .nil)) (gBin fIx (gBin fAdd (gV 8) (gSl (gFn 1 m__law_all (gK (gEsc (gV 5)) gN)) gNoP (gPart (gC (.int 1))))) (gFn 2 m__law_take_2 (gK (gEsc (gV 0)) (gK (gEsc (gCall fMax2 (gK (gC (.int 1)) (gK (gCall fLen (gK (gV 8) gN)) gN)))) gN)))))
  (sSeq (sIf (gAnd (gTst (gBin fEq (gV 7) (gC (.int 2)))) (gTst (gBin fNe (gV 6) (gLst gN)))) (sUnp (.cons (.n 9) (.cons (.n 10) .nil)) (gSl (gBin fIx (gV 6) (gFn 2 m__law_take_2 (gK (gEsc (gV 0)) (gK (gEsc (gCall fLen (gK (gV 6) gN))) gN)))) gNoP (gPart (gC (.int 2))))) sNil)
  (sSeq (sSet 11 (gFn 3 m__law_outcomes (gK (gEsc (gV 4)) (gK (gEsc (gV 9)) (gK (gEsc (gV 10)) gN)))))
  (sSeq (sSet 11 (gBin fIx (gV 11) (gFn 2 m__law_take_2 (gK (gEsc (gV 0)) (gK (gEsc (gCall fLen (gK (gV 11) gN))) gN)))))
  (sSeq (sSet 12 (gBin fIx (gLst (gK (gEsc (gUn fNeg (gC (.int 1)))) (gK (gEsc (gV 5)) (gK (gEsc (gC (.bool true))) (gK (gEsc (gC (.bool false))) (gK (gEsc (gC .none)) (gK (gEsc (gC (.str (PySem.Str.ofString "0")))) (gK (gEsc (gLst (gK (gEsc (gC (.int 0))) gN))) (gK (gEsc (FX.gTup (gK (gEsc (gC (.int 0))) gN))) (gK (gEsc gDic) (gK (gEsc (gBin fPow (gC (.int 10)) (gC (.int 25)))) gN))))))))))) (gFn 2 m__law_take_2 (gK (gEsc (gV 0)) (gK (gEsc (gC (.int 10))) gN)))))
  (sSeq (sIf (gTst (gBin fEq (gV 7) (gC (.int 3)))) (sUnp (.cons (.n 9) (.cons (.n 10) .nil)) (gBin fIx (gLst (gK (gEsc (FX.gTup (gK (gEsc (gV 10)) (gK (gEsc (gV 9)) gN)))) (gK (gEsc (FX.gTup (gK (gEsc (gV 9)) (gK (gEsc (gV 9)) gN)))) (gK (gEsc (FX.gTup (gK (gEsc (gV 12)) (gK (gEsc (gV 10)) gN)))) (gK (gEsc (FX.gTup (gK (gEsc (gV 9)) (gK (gEsc (gV 12)) gN)))) (gK (gEsc (FX.gTup (gK (gEsc (gV 12)) (gK (gEsc (gV 12)) gN)))) (gK (gEsc (FX.gTup (gK (gEsc (gV 9)) (gK (gEsc (gV 10)) gN)))) gN))))))) (gFn 2 m__law_take_2 (gK (gEsc (gV 0)) (gK (gEsc (gC (.int 6))) gN))))) sNil)
  (sSeq (sIf (gOr (gTst (gBin fEq (gV 7) (gC (.int 4)))) (gAnd (gTst (gBin fEq (gV 7) (gC (.int 3)))) (gTst (gBin fEq (gFn 2 m__law_take_2 (gK (gEsc (gV 0)) (gK (gEsc (gC (.int 2))) gN))) (gC (.int 0)))))) (sSet 11 (gBin fIx (gLst (gK (gEsc (gUn fNeg (gC (.int 1)))) (gK (gEsc (gV 5)) (gK (gEsc (gC (.bool true))) (gK (gEsc (gC (.bool false))) (gK (gEsc (gC (.str (PySem.Str.ofString "=")))) (gK (gEsc (gLst (gK (gEsc (gC (.int 0))) gN))) (gK (gEsc (FX.gTup (gK (gEsc (gC (.int 0))) gN))) (gK (gEsc gDic) (gK (gEsc (gBin fSub (gV 5) (gC (.int 1)))) (gK (gEsc (gC (.int 0))) (gK (gEsc (gC .none)) (gK (gEsc (gC (.int 1))) gN))))))))))))) (gFn 2 m__law_take_2 (gK (gEsc (gV 0)) (gK (gEsc (gC (.int 12))) gN))))) sNil)
  (sRet (FX.gTup (gK (gEsc (gV 9)) (gK (gEsc (gV 10)) (gK (gEsc (gV 11)) gN)))))))))))))))))
theorem x__law_deed {Y : Sys} : ∃ m : Fm Y, m = mOf 13 b__law_deed := ⟨_, rfl⟩
def m__law_deed {Y : Sys} : Fm Y := Classical.choose (x__law_deed)
theorem q__law_deed {Y : Sys} : m__law_deed = mOf (Y := Y) 13 b__law_deed := Classical.choose_spec (x__law_deed)
-- 0 state, 1 deed, 2 league, 3 early, 4 i, 5 j, 6 w, 7 one
def l__law_due_1 {Y : Sys} : GS Y :=
  (sIf (gOr (gNot (gTst (gIsI "int" (gV 7)))) (gTst (gIsI "bool" (gV 7)))) (sRet (gC (.str (PySem.Str.ofString "match")))) sNil)
def b__law_due {Y : Sys} : GS Y :=
  (sSeq (sUnp (.cons (.n 2) (.cons (.n 3) .nil)) (gV 0))
  (sSeq (sIf (gTst (gBin fIsN (gV 1) (gC .none))) (sSeq (sIf (gTst (gBin fEq (gV 3) (gLst gN))) (sRet (gC (.str (PySem.Str.ofString "match")))) sNil)
  (sRet (FX.gTup (gK (gEsc (gBin fIx (gV 3) (gUn fNeg (gC (.int 1))))) (gK (gEsc (gSl (gV 3) gNoP (gPart (gUn fNeg (gC (.int 1)))))) gN))))) sNil)
  (sSeq (sUnp (.cons (.n 4) (.cons (.n 5) (.cons (.n 6) .nil))) (gV 1))
  (sSeq (sFor (.n 7) (gItT (FX.gTup (gK (gEsc (gV 4)) (gK (gEsc (gV 5)) gN)))) l__law_due_1)
  (sSeq (sIf (gTst (gBin fNotIn2 (FX.gTup (gK (gEsc (gV 4)) (gK (gEsc (gV 5)) gN))) (gFn 1 m__law_left (gK (gEsc (gV 2)) gN)))) (sRet (gC (.str (PySem.Str.ofString "match")))) sNil)
  (sSeq (sIf (gAnd (gTst (gBin fNotN (gV 6) (gC .none))) (gOr (gNot (gTst (gIsI "int" (gV 6)))) (gTst (gIsI "bool" (gV 6))))) (sRet (gC (.str (PySem.Str.ofString "outcome")))) sNil)
  (sSeq (sIf (gTst (gBin fNotIn2 (gV 6) (gFn 3 m__law_outcomes (gK (gEsc (gBin fIx (gV 2) (gC (.int 0)))) (gK (gEsc (gV 4)) (gK (gEsc (gV 5)) gN)))))) (sRet (gC (.str (PySem.Str.ofString "outcome")))) sNil)
  (sRet (FX.gTup (gK (gEsc (gFn 4 m__law_with_2 (gK (gEsc (gV 2)) (gK (gEsc (gV 4)) (gK (gEsc (gV 5)) (gK (gEsc (gV 6)) gN)))))) (gK (gEsc (gBin fAdd (gV 3) (gLst (gK (gEsc (gV 2)) gN)))) gN)))))))))))
theorem x__law_due {Y : Sys} : ∃ m : Fm Y, m = mOf 8 b__law_due := ⟨_, rfl⟩
def m__law_due {Y : Sys} : Fm Y := Classical.choose (x__law_due)
theorem q__law_due {Y : Sys} : m__law_due = mOf (Y := Y) 8 b__law_due := Classical.choose_spec (x__law_due)
-- 0 store, 1 at, 2 most, 3 found, 4 left, 5 i, 6 j, 7 some
def t__law_wide_1 {Y : Sys} : GT Y :=
  (gAnd (gTst (gBin fGt (gCall fLen (gK (gV 4) gN)) (gV 2))) (gTst (gBin fEq (gBin fIx (gV 3) (gC (.int 0))) (gC (.str (PySem.Str.ofString "ties"))))))
def l__law_wide_2 {Y : Sys} : GS Y :=
  (sSeq (sUnp (.cons (.n 5) (.cons (.n 6) .nil)) (gPop1 4 (gFn 2 m__law_take_2 (gK (gEsc (gV 0)) (gK (gEsc (gCall fLen (gK (gV 4) gN))) gN)))))
  (sSeq (sSet 7 (gFn 3 m__law_outcomes (gK (gEsc (gBin fIx (gV 3) (gC (.int 0)))) (gK (gEsc (gV 5)) (gK (gEsc (gV 6)) gN)))))
  (sSet 3 (gFn 4 m__law_with_2 (gK (gEsc (gV 3)) (gK (gEsc (gV 5)) (gK (gEsc (gV 6)) (gK (gEsc (gBin fIx (gV 7) (gFn 2 m__law_take_2 (gK (gEsc (gV 0)) (gK (gEsc (gCall fLen (gK (gV 7) gN))) gN))))) gN))))))))
def b__law_wide {Y : Sys} : GS Y :=
  (sSeq (sSet 3 (gFn 2 m__law_league_2 (gK (gEsc (gV 0)) (gK (gEsc (gBin fIx (gLst (gK (gEsc (gV 2)) (gK (gEsc (gC (.int 15))) gN))) (gCall fInt (gK (gBin fEq (gV 1) (gC (.int 0))) gN)))) gN))))
  (sSeq (sSet 4 (gFn 1 m__law_left (gK (gEsc (gV 3)) gN)))
  (sSeq (whileG t__law_wide_1 l__law_wide_2 1000)
  (sRet (gV 3)))))
theorem x__law_wide {Y : Sys} : ∃ m : Fm Y, m = mOf 8 b__law_wide := ⟨_, rfl⟩
def m__law_wide {Y : Sys} : Fm Y := Classical.choose (x__law_wide)
theorem q__law_wide {Y : Sys} : m__law_wide = mOf (Y := Y) 8 b__law_wide := Classical.choose_spec (x__law_wide)
-- 0 script, 1 k
def b__law_cell_2 {Y : Sys} : GS Y :=
  (sSeq (sIf (gTst (gBin fLt (gV 1) (gCall fLen (gK (gV 0) gN)))) (sRet (gBin fIx (gV 0) (gV 1))) sNil)
  (sRet (gBin fAdd (gBin fAdd (gBin fMul (gBin fMul (gC (.int 103)) (gV 1)) (gV 1)) (gBin fMul (gC (.int 83)) (gV 1))) (gC (.int 21)))))
theorem x__law_cell_2 {Y : Sys} : ∃ m : Fm Y, m = mOf 2 b__law_cell_2 := ⟨_, rfl⟩
def m__law_cell_2 {Y : Sys} : Fm Y := Classical.choose (x__law_cell_2)
theorem q__law_cell_2 {Y : Sys} : m__law_cell_2 = mOf (Y := Y) 2 b__law_cell_2 := Classical.choose_spec (x__law_cell_2)
-- 0 cell, 1 k, 2 number, 3 some
def b__law_mixed {Y : Sys} : GS Y :=
  (sSeq (sSet 2 (gBin fMod (gBin fAdd (gBin fAdd (gBin fAdd (gBin fMul (gV 0) (gC (.int 48271))) (gBin fMul (gBin fMul (gC (.int 7919)) (gV 1)) (gV 1))) (gBin fMul (gC (.int 104729)) (gV 1))) (gC (.int 11))) (gC (.int 2147483647))))
  (sSeq (sSet 3 (gLst (gK (gEsc (gC (.int 2147483629))) (gK (gEsc (gC (.int 2147483587))) (gK (gEsc (gC (.int 2147483579))) (gK (gEsc (gC (.int 2147483563))) (gK (gEsc (gC (.int 2147483549))) (gK (gEsc (gC (.int 2147483543))) (gK (gEsc (gC (.int 2147483497))) gN)))))))))
  (sSeq (sSet 2 (gBin fMod (gBin fMul (gV 2) (gV 2)) (gBin fIx (gV 3) (gBin fMod (gV 1) (gC (.int 7))))))
  (sRet (gBin fDiv (gBin fAdd (gBin fMul (gV 2) (gC (.int 16811))) (gBin fMod (gV 0) (gC (.int 5)))) (gC (.int 8)))))))
theorem x__law_mixed {Y : Sys} : ∃ m : Fm Y, m = mOf 4 b__law_mixed := ⟨_, rfl⟩
def m__law_mixed {Y : Sys} : Fm Y := Classical.choose (x__law_mixed)
theorem q__law_mixed {Y : Sys} : m__law_mixed = mOf (Y := Y) 4 b__law_mixed := Classical.choose_spec (x__law_mixed)
-- 0 cell, 1 most, 2 n, 3 kind, 4 played, 5 i, 6 j, 7 one, 8 outcomes
def l__law_league_3_1 {Y : Sys} : GS Y :=
  (sSeq (sSet 7 (gFn 2 m__law_mixed (gK (gEsc (gV 0)) (gK (gEsc (gBin fAdd (gBin fMul (gC (.int 9)) (gV 5)) (gV 6))) gN))))
  (sIf (gTst (gBin fLt (gBin fMod (gV 7) (gC (.int 12))) (gBin fIx (gLst (gK (gEsc (gC (.int 0))) (gK (gEsc (gC (.int 4))) (gK (gEsc (gC (.int 8))) (gK (gEsc (gC (.int 11))) (gK (gEsc (gC (.int 12))) gN)))))) (gBin fMod (gBin fDiv (gV 0) (gC (.int 40))) (gC (.int 5)))))) (sSeq (sSet 8 (gSl (gLst (gK (gEsc (gV 5)) (gK (gEsc (gV 6)) (gK (gEsc (gC .none)) gN)))) gNoP (gPart (gBin fAdd (gC (.int 2)) (gBin fMod (gBin fDiv (gV 0) (gC (.int 20))) (gC (.int 2)))))))
  (sDrop (gApp 4 (FX.gTup (gK (gEsc (gV 5)) (gK (gEsc (gV 6)) (gK (gEsc (gBin fIx (gV 8) (gBin fMod (gBin fDiv (gV 7) (gC (.int 12))) (gCall fLen (gK (gV 8) gN))))) gN))))))) sNil))
def l__law_league_3_2 {Y : Sys} : GS Y :=
  (sFor (.n 6) (gRg2 (gK (gBin fAdd (gV 5) (gC (.int 1))) (gK (gV 2) gN))) l__law_league_3_1)
def b__law_league_3 {Y : Sys} : GS Y :=
  (sSeq (sSet 2 (gBin fAdd (gC (.int 2)) (gBin fMod (gV 0) (gBin fSub (gV 1) (gC (.int 1))))))
  (sSeq (sSet 3 (gBin fIx (gLst (gK (gEsc (gC (.str (PySem.Str.ofString "plain")))) (gK (gEsc (gC (.str (PySem.Str.ofString "ties")))) gN))) (gBin fMod (gBin fDiv (gV 0) (gC (.int 20))) (gC (.int 2)))))
  (sSeq (sSet 4 (gLst gN))
  (sSeq (sFor (.n 5) (gRg1 (gK (gV 2) gN)) l__law_league_3_2)
  (sRet (FX.gTup (gK (gEsc (gV 3)) (gK (gEsc (gV 2)) (gK (gEsc (gV 4)) gN)))))))))
theorem x__law_league_3 {Y : Sys} : ∃ m : Fm Y, m = mOf 9 b__law_league_3 := ⟨_, rfl⟩
def m__law_league_3 {Y : Sys} : Fm Y := Classical.choose (x__law_league_3)
theorem q__law_league_3 {Y : Sys} : m__law_league_3 = mOf (Y := Y) 9 b__law_league_3 := Classical.choose_spec (x__law_league_3)
-- 0 word, 1 letter
def e__is_name_1 {Y : Sys} : GE Y :=
  (gEsc (gChain fLe fLe (gC (.str (PySem.Str.ofString "a"))) (gV 1) (gC (.str (PySem.Str.ofString "z")))))
def b__is_name {Y : Sys} : GS Y :=
  (sRet (gAndV (gChain fLe fLe (gC (.int 1)) (gCall fLen (gK (gV 0) gN)) (gC (.int 8))) (gCall fAll (gK (gComp (.n 1) [1] (gItL (gV 0)) gYes e__is_name_1) gN))))
theorem x__is_name {Y : Sys} : ∃ m : Fm Y, m = mOf 2 b__is_name := ⟨_, rfl⟩
def m__is_name {Y : Sys} : Fm Y := Classical.choose (x__is_name)
theorem q__is_name {Y : Sys} : m__is_name = mOf (Y := Y) 2 b__is_name := Classical.choose_spec (x__is_name)
-- 0 rest
def b__read_nothing {Y : Sys} : GS Y :=
  (sSeq (sIf (gTst (gBin fNe (gV 0) (gLst gN))) (sRaise (PySem.Str.ofString "NoRow")) sNil)
  (sRet (gC .none)))
theorem x__read_nothing {Y : Sys} : ∃ m : Fm Y, m = mOf 1 b__read_nothing := ⟨_, rfl⟩
def m__read_nothing {Y : Sys} : Fm Y := Classical.choose (x__read_nothing)
theorem q__read_nothing {Y : Sys} : m__read_nothing = mOf (Y := Y) 1 b__read_nothing := Classical.choose_spec (x__read_nothing)
-- 0 rest
def b__read_text {Y : Sys} : GS Y :=
  (sSeq (sIf (gTst (gBin fEq (gV 0) (gLst gN))) (sRaise (PySem.Str.ofString "NoRow")) sNil)
  (sRet (gBin fIx (gV 0) (gC (.int 0)))))
theorem x__read_text {Y : Sys} : ∃ m : Fm Y, m = mOf 1 b__read_text := ⟨_, rfl⟩
def m__read_text {Y : Sys} : Fm Y := Classical.choose (x__read_text)
theorem q__read_text {Y : Sys} : m__read_text = mOf (Y := Y) 1 b__read_text := Classical.choose_spec (x__read_text)
-- 0 league, 1 _
def b__tell_left {Y : Sys} : GS Y :=
  (sRet (gCall fStr (gK (gCall fLen (gK (gFn 1 m_matches_left (gK (gEsc (gV 0)) gN)) gN)) gN)))
theorem x__tell_left {Y : Sys} : ∃ m : Fm Y, m = mOf 2 b__tell_left := ⟨_, rfl⟩
def m__tell_left {Y : Sys} : Fm Y := Classical.choose (x__tell_left)
theorem q__tell_left {Y : Sys} : m__tell_left = mOf (Y := Y) 2 b__tell_left := Classical.choose_spec (x__tell_left)
-- 0 league, 1 n, 2 i, 3 gone, 4 found, 5 here, 6 j, 7 w, 8 match
def e__law_left_2_1 {Y : Sys} : GE Y :=
  (gEsc (FX.gTup (gK (gEsc (gV 2)) (gK (gEsc (gV 6)) gN))))
def e__law_left_2_2 {Y : Sys} : GE Y :=
  (gEsc (FX.gTup (gK (gEsc (gV 2)) (gK (gEsc (gV 6)) gN))))
def e__law_left_2_3 {Y : Sys} : GE Y :=
  (gEsc (FX.gTup (gK (gEsc (gV 2)) (gK (gEsc (gV 6)) gN))))
def e__law_left_2_4 {Y : Sys} : GE Y :=
  (gEsc (gV 8))
def t__law_left_2_5 {Y : Sys} : GT Y :=
  (gTst (gBin fNotIn2 (gV 8) (gV 3)))
def l__law_left_2_6 {Y : Sys} : GS Y :=
  (sSeq (sSet 5 (gComp (.n 6) [6] (gRg2 (gK (gBin fAdd (gV 2) (gC (.int 1))) (gK (gV 1) gN))) gYes e__law_left_2_3))
  (sDrop (gExt 4 (gComp (.n 8) [8] (gItL (gV 5)) t__law_left_2_5 e__law_left_2_4))))
def b__law_left_2 {Y : Sys} : GS Y :=
  (sSeq (sSet 1 (gBin fIx (gV 0) (gC (.int 1))))
  (sSeq (sSet 3 (gComp (.t (.cons (.n 2) (.cons (.n 6) (.cons (.n 7) .nil)))) [2, 6, 7] (gItL (gBin fIx (gV 0) (gC (.int 2)))) gYes e__law_left_2_2))
  (sSeq (sSet 4 (gLst gN))
  (sSeq (sFor (.n 2) (gRg1 (gK (gV 1) gN)) l__law_left_2_6)
  (sRet (gV 4))))))
theorem x__law_left_2 {Y : Sys} : ∃ m : Fm Y, m = mOf 9 b__law_left_2 := ⟨_, rfl⟩
def m__law_left_2 {Y : Sys} : Fm Y := Classical.choose (x__law_left_2)
theorem q__law_left_2 {Y : Sys} : m__law_left_2 = mOf (Y := Y) 9 b__law_left_2 := Classical.choose_spec (x__law_left_2)
-- 0 league, 1 i, 2 j
def b__law_outcomes_2 {Y : Sys} : GS Y :=
  (sSeq (sIf (gTst (gBin fEq (gBin fIx (gV 0) (gC (.int 0))) (gC (.str (PySem.Str.ofString "plain"))))) (sRet (gLst (gK (gEsc (gV 1)) (gK (gEsc (gV 2)) gN)))) sNil)
  (sRet (gLst (gK (gEsc (gV 1)) (gK (gEsc (gC .none)) (gK (gEsc (gV 2)) gN))))))
theorem x__law_outcomes_2 {Y : Sys} : ∃ m : Fm Y, m = mOf 3 b__law_outcomes_2 := ⟨_, rfl⟩
def m__law_outcomes_2 {Y : Sys} : Fm Y := Classical.choose (x__law_outcomes_2)
theorem q__law_outcomes_2 {Y : Sys} : m__law_outcomes_2 = mOf (Y := Y) 3 b__law_outcomes_2 := Classical.choose_spec (x__law_outcomes_2)
-- 0 league, 1 points, 2 i, 3 j, 4 w, 5 found
def b__law_given {Y : Sys} : GS Y :=
  (sSeq (sSet 5 (gCall fList (gK (gV 1) gN)))
  (sSeq (sIf (gTst (gBin fIsN (gV 4) (gC .none))) (sSeq (sPut 5 (gV 2) (gBin fAdd (gBin fIx (gV 5) (gV 2)) (gC (.int 1))))
  (sPut 5 (gV 3) (gBin fAdd (gBin fIx (gV 5) (gV 3)) (gC (.int 1))))) (sPut 5 (gV 4) (gBin fAdd (gBin fAdd (gBin fIx (gV 5) (gV 4)) (gC (.int 1))) (gCall fInt (gK (gBin fEq (gBin fIx (gV 0) (gC (.int 0))) (gC (.str (PySem.Str.ofString "ties")))) gN)))))
  (sRet (gV 5))))
theorem x__law_given {Y : Sys} : ∃ m : Fm Y, m = mOf 6 b__law_given := ⟨_, rfl⟩
def m__law_given {Y : Sys} : Fm Y := Classical.choose (x__law_given)
theorem q__law_given {Y : Sys} : m__law_given = mOf (Y := Y) 6 b__law_given := Classical.choose_spec (x__law_given)
-- 0 league, 1 found, 2 i, 3 j, 4 w
def l__law_had_3_1 {Y : Sys} : GS Y :=
  (sSet 1 (gFn 5 m__law_given (gK (gEsc (gV 0)) (gK (gEsc (gV 1)) (gK (gEsc (gV 2)) (gK (gEsc (gV 3)) (gK (gEsc (gV 4)) gN)))))))
def b__law_had_3 {Y : Sys} : GS Y :=
  (sSeq (sSet 1 (gBin fMul (gLst (gK (gEsc (gC (.int 0))) gN)) (gBin fIx (gV 0) (gC (.int 1)))))
  (sSeq (sFor (.t (.cons (.n 2) (.cons (.n 3) (.cons (.n 4) .nil)))) (gItL (gBin fIx (gV 0) (gC (.int 2)))) l__law_had_3_1)
  (sRet (gV 1))))
theorem x__law_had_3 {Y : Sys} : ∃ m : Fm Y, m = mOf 5 b__law_had_3 := ⟨_, rfl⟩
def m__law_had_3 {Y : Sys} : Fm Y := Classical.choose (x__law_had_3)
theorem q__law_had_3 {Y : Sys} : m__law_had_3 = mOf (Y := Y) 5 b__law_had_3 := Classical.choose_spec (x__law_had_3)
-- 0 match
def b__law_pair {Y : Sys} : GS Y :=
  (sRet (gSl (gV 0) gNoP (gPart (gC (.int 2)))))
theorem x__law_pair {Y : Sys} : ∃ m : Fm Y, m = mOf 1 b__law_pair := ⟨_, rfl⟩
def m__law_pair {Y : Sys} : Fm Y := Classical.choose (x__law_pair)
theorem q__law_pair {Y : Sys} : m__law_pair = mOf (Y := Y) 1 b__law_pair := Classical.choose_spec (x__law_pair)
-- 0 row
def b__law_long {Y : Sys} : GS Y :=
  (sRet (FX.gTup (gK (gEsc (gCall fLen (gK (gV 0) gN))) (gK (gEsc (gV 0)) gN))))
theorem x__law_long {Y : Sys} : ∃ m : Fm Y, m = mOf 1 b__law_long := ⟨_, rfl⟩
def m__law_long {Y : Sys} : Fm Y := Classical.choose (x__law_long)
theorem q__law_long {Y : Sys} : m__law_long = mOf (Y := Y) 1 b__law_long := Classical.choose_spec (x__law_long)
-- 0 league, 1 points, 2 row, 3 worth, 4 need, 5 i, 6 j, 7 w, 8 here, 9 have, 10 player
def e__law_shows_1 {Y : Sys} : GE Y :=
  (gEsc (gBin fIx (gV 8) (gV 10)))
def l__law_shows_2 {Y : Sys} : GS Y :=
  (sIf (gTst (gBin fNe (gBin fIn2 (gV 5) (gV 2)) (gBin fIn2 (gV 6) (gV 2)))) (sSeq (sSet 8 (gFn 5 m__law_given (gK (gEsc (gV 0)) (gK (gEsc (gBin fMul (gLst (gK (gEsc (gC (.int 0))) gN)) (gBin fIx (gV 0) (gC (.int 1))))) (gK (gEsc (gV 5)) (gK (gEsc (gV 6)) (gK (gEsc (gV 7)) gN)))))))
  (sSet 4 (gBin fAdd (gV 4) (gCall fSum (gK (gComp (.n 10) [10] (gItL (gV 2)) gYes e__law_shows_1) gN))))) sNil)
def e__law_shows_3 {Y : Sys} : GE Y :=
  (gEsc (gBin fIx (gV 1) (gV 10)))
def b__law_shows {Y : Sys} : GS Y :=
  (sSeq (sSet 3 (gBin fAdd (gC (.int 1)) (gCall fInt (gK (gBin fEq (gBin fIx (gV 0) (gC (.int 0))) (gC (.str (PySem.Str.ofString "ties")))) gN))))
  (sSeq (sSet 4 (gBin fDiv (gBin fMul (gBin fMul (gV 3) (gCall fLen (gK (gV 2) gN))) (gBin fSub (gCall fLen (gK (gV 2) gN)) (gC (.int 1)))) (gC (.int 2))))
  (sSeq (sFor (.t (.cons (.n 5) (.cons (.n 6) (.cons (.n 7) .nil)))) (gItL (gBin fIx (gV 0) (gC (.int 2)))) l__law_shows_2)
  (sSeq (sSet 9 (gCall fSum (gK (gComp (.n 10) [10] (gItL (gV 2)) gYes e__law_shows_3) gN)))
  (sRet (gOrV (gBin fLt (gV 9) (gV 4)) (gAndV (gBin fEq (gCall fLen (gK (gV 2) gN)) (gBin fIx (gV 0) (gC (.int 1)))) (gBin fNe (gV 9) (gV 4)))))))))
theorem x__law_shows {Y : Sys} : ∃ m : Fm Y, m = mOf 11 b__law_shows := ⟨_, rfl⟩
def m__law_shows {Y : Sys} : Fm Y := Classical.choose (x__law_shows)
theorem q__law_shows {Y : Sys} : m__law_shows = mOf (Y := Y) 11 b__law_shows := Classical.choose_spec (x__law_shows)
-- 0 script, 1 k, 2 cell
def b__law_pool {Y : Sys} : GS Y :=
  (sSeq (sSet 2 (gBin fAdd (gBin fAdd (gBin fMul (gBin fMul (gC (.int 19)) (gV 1)) (gV 1)) (gBin fMul (gC (.int 7)) (gV 1))) (gC (.int 5))))
  (sSeq (sIf (gTst (gBin fLt (gV 1) (gCall fLen (gK (gV 0) gN)))) (sSet 2 (gBin fIx (gV 0) (gV 1))) sNil)
  (sRet (gLst (gK (gEsc (gBin fMul (gV 2) (gCall fInt (gK (gBin fGe (gV 2) (gBin fPow (gC (.int 10)) (gC (.int 18)))) gN)))) (gK (gEsc (gBin fMod (gV 2) (gC (.int 99999999977)))) (gK (gEsc (gC (.int 3))) gN)))))))
theorem x__law_pool {Y : Sys} : ∃ m : Fm Y, m = mOf 3 b__law_pool := ⟨_, rfl⟩
def m__law_pool {Y : Sys} : Fm Y := Classical.choose (x__law_pool)
theorem q__law_pool {Y : Sys} : m__law_pool = mOf (Y := Y) 3 b__law_pool := Classical.choose_spec (x__law_pool)
-- 0 pool, 1 many, 2 found, 3 one
def b__law_take_3 {Y : Sys} : GS Y :=
  (sSeq (sIf (gTst (gBin fGt (gBin fIx (gV 0) (gC (.int 0))) (gC (.int 0)))) (sSeq (sSet 2 (gBin fMod (gBin fIx (gV 0) (gC (.int 0))) (gV 1)))
  (sSeq (sPut 0 (gC (.int 0)) (gBin fDiv (gBin fIx (gV 0) (gC (.int 0))) (gV 1)))
  (sRet (gV 2)))) sNil)
  (sSeq (sPut 0 (gC (.int 2)) (gBin fAdd (gBin fIx (gV 0) (gC (.int 2))) (gC (.int 1))))
  (sSeq (sSet 3 (gBin fMod (gBin fAdd (gBin fIx (gV 0) (gC (.int 1))) (gBin fMul (gC (.int 7717)) (gBin fIx (gV 0) (gC (.int 2))))) (gC (.int 99999999943))))
  (sSeq (sSet 3 (gBin fMod (gBin fMul (gV 3) (gV 3)) (gC (.int 99999999907))))
  (sRet (gBin fMod (gBin fDiv (gBin fMod (gBin fMul (gV 3) (gBin fAdd (gV 3) (gC (.int 29)))) (gC (.int 9999999929))) (gC (.int 11))) (gV 1)))))))
theorem x__law_take_3 {Y : Sys} : ∃ m : Fm Y, m = mOf 4 b__law_take_3 := ⟨_, rfl⟩
def m__law_take_3 {Y : Sys} : Fm Y := Classical.choose (x__law_take_3)
theorem q__law_take_3 {Y : Sys} : m__law_take_3 = mOf (Y := Y) 4 b__law_take_3 := Classical.choose_spec (x__law_take_3)
-- 0 league, 1 i, 2 gone, 3 found, 4 j, 5 w
def e__law_left_3_1 {Y : Sys} : GE Y :=
  (gEsc (FX.gTup (gK (gEsc (gV 1)) (gK (gEsc (gV 4)) gN))))
def e__law_left_3_2 {Y : Sys} : GE Y :=
  (gEsc (FX.gTup (gK (gEsc (gV 1)) (gK (gEsc (gV 4)) gN))))
def e__law_left_3_3 {Y : Sys} : GE Y :=
  (gEsc (FX.gTup (gK (gEsc (gV 1)) (gK (gEsc (gV 4)) gN))))
def t__law_left_3_4 {Y : Sys} : GT Y :=
  (gTst (gBin fNotIn2 (FX.gTup (gK (gEsc (gV 1)) (gK (gEsc (gV 4)) gN))) (gV 2)))
def l__law_left_3_5 {Y : Sys} : GS Y :=
  (sDrop (gExt 3 (gComp (.n 4) [4] (gRg2 (gK (gBin fAdd (gV 1) (gC (.int 1))) (gK (gBin fIx (gV 0) (gC (.int 1))) gN))) t__law_left_3_4 e__law_left_3_3)))
def b__law_left_3 {Y : Sys} : GS Y :=
  (sSeq (sSet 2 (gComp (.t (.cons (.n 1) (.cons (.n 4) (.cons (.n 5) .nil)))) [1, 4, 5] (gItL (gBin fIx (gV 0) (gC (.int 2)))) gYes e__law_left_3_2))
  (sSeq (sSet 3 (gLst gN))
  (sSeq (sFor (.n 1) (gRg1 (gK (gBin fIx (gV 0) (gC (.int 1))) gN)) l__law_left_3_5)
  (sRet (gV 3)))))
theorem x__law_left_3 {Y : Sys} : ∃ m : Fm Y, m = mOf 6 b__law_left_3 := ⟨_, rfl⟩
def m__law_left_3 {Y : Sys} : Fm Y := Classical.choose (x__law_left_3)
theorem q__law_left_3 {Y : Sys} : m__law_left_3 = mOf (Y := Y) 6 b__law_left_3 := Classical.choose_spec (x__law_left_3)
end
end FX.Pg

set_option Elab.async false
set_option linter.all false
set_option maxRecDepth 100000
set_option maxHeartbeats 4000000
namespace FX.K01
noncomputable section
open PySem PySem.Spec L2 FX
def topS (i : Nat) : Stmt := PySem.Challenge.pw_wintold_k01_what_is_a_league.main.body.getD i (.Pass ⟨0, 0, 0, 0⟩)
abbrev s_is_whole : Stmt := topS 1
abbrev N_is_whole : List Str := ["thing"]
theorem sc_is_whole : FnScope N_is_whole ["thing"] (defScope s_is_whole) := ⟨rfl, rfl, rfl, by decide +kernel, rfl, by decide +kernel, by decide +kernel⟩
abbrev s_is_player : Stmt := topS 2
abbrev N_is_player : List Str := ["thing", "n"]
theorem sc_is_player : FnScope N_is_player ["thing", "n"] (defScope s_is_player) := ⟨rfl, rfl, rfl, by decide +kernel, rfl, by decide +kernel, by decide +kernel⟩
abbrev s_is_tuple_of : Stmt := topS 3
abbrev N_is_tuple_of : List Str := ["thing", "size"]
theorem sc_is_tuple_of : FnScope N_is_tuple_of ["thing", "size"] (defScope s_is_tuple_of) := ⟨rfl, rfl, rfl, by decide +kernel, rfl, by decide +kernel, by decide +kernel⟩
abbrev s_is_match : Stmt := topS 11
abbrev N_is_match : List Str := ["n", "i", "j"]
theorem sc_is_match : FnScope N_is_match ["n", "i", "j"] (defScope s_is_match) := ⟨rfl, rfl, rfl, by decide +kernel, rfl, by decide +kernel, by decide +kernel⟩
abbrev s_is_outcome : Stmt := topS 12
abbrev N_is_outcome : List Str := ["kind", "i", "j", "w"]
theorem sc_is_outcome : FnScope N_is_outcome ["kind", "i", "j", "w"] (defScope s_is_outcome) := ⟨rfl, rfl, rfl, by decide +kernel, rfl, by decide +kernel, by decide +kernel⟩
abbrev s__is_played : Stmt := topS 10
abbrev N__is_played : List Str := ["kind", "n", "match", "i", "j", "w"]
theorem sc__is_played : FnScope N__is_played ["kind", "n", "match"] (defScope s__is_played) := ⟨rfl, rfl, rfl, by decide +kernel, rfl, by decide +kernel, by decide +kernel⟩
abbrev s__are_played : Stmt := topS 9
abbrev N__are_played : List Str := ["kind", "n", "played", "before", "match", "i", "j", "_"]
theorem sc__are_played : FnScope N__are_played ["kind", "n", "played"] (defScope s__are_played) := ⟨rfl, rfl, rfl, by decide +kernel, rfl, by decide +kernel, by decide +kernel⟩
abbrev s_is_league : Stmt := topS 8
abbrev N_is_league : List Str := ["thing", "kind", "n", "played"]
theorem sc_is_league : FnScope N_is_league ["thing"] (defScope s_is_league) := ⟨rfl, rfl, rfl, by decide +kernel, rfl, by decide +kernel, by decide +kernel⟩
abbrev s__law_deck : Stmt := topS 14
abbrev N__law_deck : List Str := ["script", "pools", "k", "cell"]
theorem sc__law_deck : FnScope N__law_deck ["script"] (defScope s__law_deck) := ⟨rfl, rfl, rfl, by decide +kernel, rfl, by decide +kernel, by decide +kernel⟩
abbrev s__law_draw : Stmt := topS 15
abbrev N__law_draw : List Str := ["deck", "many", "pool", "found", "number"]
theorem sc__law_draw : FnScope N__law_draw ["deck", "many"] (defScope s__law_draw) := ⟨rfl, rfl, rfl, by decide +kernel, rfl, by decide +kernel, by decide +kernel⟩
abbrev s__law_pairs : Stmt := topS 16
abbrev N__law_pairs : List Str := ["n", "found", "j", "i"]
theorem sc__law_pairs : FnScope N__law_pairs ["n"] (defScope s__law_pairs) := ⟨rfl, rfl, rfl, by decide +kernel, rfl, by decide +kernel, by decide +kernel⟩
abbrev s__law_outcome : Stmt := topS 17
abbrev N__law_outcome : List Str := ["deck", "kind", "i", "j"]
theorem sc__law_outcome : FnScope N__law_outcome ["deck", "kind", "i", "j"] (defScope s__law_outcome) := ⟨rfl, rfl, rfl, by decide +kernel, rfl, by decide +kernel, by decide +kernel⟩
abbrev s__law_some_league : Stmt := topS 18
abbrev N__law_some_league : List Str := ["deck", "kind", "n", "way", "most", "played", "k", "pair", "taken"]
theorem sc__law_some_league : FnScope N__law_some_league ["deck"] (defScope s__law_some_league) := ⟨rfl, rfl, rfl, by decide +kernel, rfl, by decide +kernel, by decide +kernel⟩
abbrev s__law_own : Stmt := topS 19
abbrev N__law_own : List Str := ["league"]
theorem sc__law_own : FnScope N__law_own ["league"] (defScope s__law_own) := ⟨rfl, rfl, rfl, by decide +kernel, rfl, by decide +kernel, by decide +kernel⟩
abbrev s__law_no_match : Stmt := topS 20
abbrev N__law_no_match : List Str := ["deck", "kind", "n", "match", "i", "j", "w", "some", "third"]
theorem sc__law_no_match : FnScope N__law_no_match ["deck", "kind", "n", "match"] (defScope s__law_no_match) := ⟨rfl, rfl, rfl, by decide +kernel, rfl, by decide +kernel, by decide +kernel⟩
abbrev s__law_bent : Stmt := topS 21
abbrev N__law_bent : List Str := ["deck", "kind", "n", "played", "at", "pairs", "pair", "fresh", "odd", "changed", "longer", "turned", "some"]
theorem sc__law_bent : FnScope N__law_bent ["deck", "kind", "n", "played"] (defScope s__law_bent) := ⟨rfl, rfl, rfl, by decide +kernel, rfl, by decide +kernel, by decide +kernel⟩
abbrev s__law_no_league : Stmt := topS 22
abbrev N__law_no_league : List Str := ["deck", "league", "kind", "n", "played", "way", "at", "letter", "kinds", "numbers", "some"]
theorem sc__law_no_league : FnScope N__law_no_league ["deck", "league"] (defScope s__law_no_league) := ⟨rfl, rfl, rfl, by decide +kernel, rfl, by decide +kernel, by decide +kernel⟩
abbrev s__law_is_good_match : Stmt := topS 23
abbrev N__law_is_good_match : List Str := ["kind", "n", "match", "i", "j", "w", "one"]
theorem sc__law_is_good_match : FnScope N__law_is_good_match ["kind", "n", "match"] (defScope s__law_is_good_match) := ⟨rfl, rfl, rfl, by decide +kernel, rfl, by decide +kernel, by decide +kernel⟩
abbrev s__law_good : Stmt := topS 24
abbrev N__law_good : List Str := ["thing", "kind", "n", "played", "last", "match"]
theorem sc__law_good : FnScope N__law_good ["thing"] (defScope s__law_good) := ⟨rfl, rfl, rfl, by decide +kernel, rfl, by decide +kernel, by decide +kernel⟩
abbrev s__law_right : Stmt := topS 25
abbrev N__law_right : List Str := ["thing", "kept", "turn", "found"]
theorem sc__law_right : FnScope N__law_right ["thing"] (defScope s__law_right) := ⟨rfl, rfl, rfl, by decide +kernel, rfl, by decide +kernel, by decide +kernel⟩
abbrev s_law : Stmt := topS 26
abbrev N_law : List Str := ["script", "deck", "k", "league", "turn", "things", "thing"]
theorem sc_law : FnScope N_law ["script"] (defScope s_law) := ⟨rfl, rfl, rfl, by decide +kernel, rfl, by decide +kernel, by decide +kernel⟩
structure Txt (K : PySem.W.Frag) (w : World) (mg : Str → Option Value) where
  a_is_whole : Addr
  d_is_whole : FuncData
  F_is_whole : Fun K "is_whole" "is_whole" s_is_whole a_is_whole d_is_whole
  g_is_whole : mg "is_whole" = some (.ref a_is_whole)
  b_is_whole : Binds K d_is_whole ["thing"] []
  a_is_player : Addr
  d_is_player : FuncData
  F_is_player : Fun K "is_player" "is_player" s_is_player a_is_player d_is_player
  g_is_player : mg "is_player" = some (.ref a_is_player)
  b_is_player : Binds K d_is_player ["thing", "n"] []
  a_is_tuple_of : Addr
  d_is_tuple_of : FuncData
  F_is_tuple_of : Fun K "is_tuple_of" "is_tuple_of" s_is_tuple_of a_is_tuple_of d_is_tuple_of
  g_is_tuple_of : mg "is_tuple_of" = some (.ref a_is_tuple_of)
  b_is_tuple_of : Binds K d_is_tuple_of ["thing", "size"] []
  a_is_match : Addr
  d_is_match : FuncData
  F_is_match : Fun K "is_match" "is_match" s_is_match a_is_match d_is_match
  g_is_match : mg "is_match" = some (.ref a_is_match)
  b_is_match : Binds K d_is_match ["n", "i", "j"] []
  a_is_outcome : Addr
  d_is_outcome : FuncData
  F_is_outcome : Fun K "is_outcome" "is_outcome" s_is_outcome a_is_outcome d_is_outcome
  g_is_outcome : mg "is_outcome" = some (.ref a_is_outcome)
  b_is_outcome : Binds K d_is_outcome ["kind", "i", "j", "w"] []
  a__is_played : Addr
  d__is_played : FuncData
  F__is_played : Fun K "_is_played" "_is_played" s__is_played a__is_played d__is_played
  g__is_played : mg "_is_played" = some (.ref a__is_played)
  b__is_played : Binds K d__is_played ["kind", "n", "match"] []
  a__are_played : Addr
  d__are_played : FuncData
  F__are_played : Fun K "_are_played" "_are_played" s__are_played a__are_played d__are_played
  g__are_played : mg "_are_played" = some (.ref a__are_played)
  b__are_played : Binds K d__are_played ["kind", "n", "played"] []
  a_is_league : Addr
  d_is_league : FuncData
  F_is_league : Fun K "is_league" "is_league" s_is_league a_is_league d_is_league
  g_is_league : mg "is_league" = some (.ref a_is_league)
  b_is_league : Binds K d_is_league ["thing"] []
  a__law_deck : Addr
  d__law_deck : FuncData
  F__law_deck : Fun K "_law_deck" "_law_deck" s__law_deck a__law_deck d__law_deck
  g__law_deck : mg "_law_deck" = some (.ref a__law_deck)
  b__law_deck : Binds K d__law_deck ["script"] []
  a__law_draw : Addr
  d__law_draw : FuncData
  F__law_draw : Fun K "_law_draw" "_law_draw" s__law_draw a__law_draw d__law_draw
  g__law_draw : mg "_law_draw" = some (.ref a__law_draw)
  b__law_draw : Binds K d__law_draw ["deck", "many"] []
  a__law_pairs : Addr
  d__law_pairs : FuncData
  F__law_pairs : Fun K "_law_pairs" "_law_pairs" s__law_pairs a__law_pairs d__law_pairs
  g__law_pairs : mg "_law_pairs" = some (.ref a__law_pairs)
  b__law_pairs : Binds K d__law_pairs ["n"] []
  a__law_outcome : Addr
  d__law_outcome : FuncData
  F__law_outcome : Fun K "_law_outcome" "_law_outcome" s__law_outcome a__law_outcome d__law_outcome
  g__law_outcome : mg "_law_outcome" = some (.ref a__law_outcome)
  b__law_outcome : Binds K d__law_outcome ["deck", "kind", "i", "j"] []
  a__law_some_league : Addr
  d__law_some_league : FuncData
  F__law_some_league : Fun K "_law_some_league" "_law_some_league" s__law_some_league a__law_some_league d__law_some_league
  g__law_some_league : mg "_law_some_league" = some (.ref a__law_some_league)
  b__law_some_league : Binds K d__law_some_league ["deck"] []
  a__law_own : Addr
  d__law_own : FuncData
  F__law_own : Fun K "_law_own" "_law_own" s__law_own a__law_own d__law_own
  g__law_own : mg "_law_own" = some (.ref a__law_own)
  b__law_own : Binds K d__law_own ["league"] []
  a__law_no_match : Addr
  d__law_no_match : FuncData
  F__law_no_match : Fun K "_law_no_match" "_law_no_match" s__law_no_match a__law_no_match d__law_no_match
  g__law_no_match : mg "_law_no_match" = some (.ref a__law_no_match)
  b__law_no_match : Binds K d__law_no_match ["deck", "kind", "n", "match"] []
  a__law_bent : Addr
  d__law_bent : FuncData
  F__law_bent : Fun K "_law_bent" "_law_bent" s__law_bent a__law_bent d__law_bent
  g__law_bent : mg "_law_bent" = some (.ref a__law_bent)
  b__law_bent : Binds K d__law_bent ["deck", "kind", "n", "played"] []
  a__law_no_league : Addr
  d__law_no_league : FuncData
  F__law_no_league : Fun K "_law_no_league" "_law_no_league" s__law_no_league a__law_no_league d__law_no_league
  g__law_no_league : mg "_law_no_league" = some (.ref a__law_no_league)
  b__law_no_league : Binds K d__law_no_league ["deck", "league"] []
  a__law_is_good_match : Addr
  d__law_is_good_match : FuncData
  F__law_is_good_match : Fun K "_law_is_good_match" "_law_is_good_match" s__law_is_good_match a__law_is_good_match d__law_is_good_match
  g__law_is_good_match : mg "_law_is_good_match" = some (.ref a__law_is_good_match)
  b__law_is_good_match : Binds K d__law_is_good_match ["kind", "n", "match"] []
  a__law_good : Addr
  d__law_good : FuncData
  F__law_good : Fun K "_law_good" "_law_good" s__law_good a__law_good d__law_good
  g__law_good : mg "_law_good" = some (.ref a__law_good)
  b__law_good : Binds K d__law_good ["thing"] []
  a__law_right : Addr
  d__law_right : FuncData
  F__law_right : Fun K "_law_right" "_law_right" s__law_right a__law_right d__law_right
  g__law_right : mg "_law_right" = some (.ref a__law_right)
  b__law_right : Binds K d__law_right ["thing"] []
  a_law : Addr
  d_law : FuncData
  F_law : Fun K "law" "law" s_law a_law d_law
  g_law : mg "law" = some (.ref a_law)
  b_law : Binds K d_law ["script"] []
  ct_FEWEST_PLAYERS : Tok
  c_FEWEST_PLAYERS : mg "FEWEST_PLAYERS" = some (.int 2 ct_FEWEST_PLAYERS)
  ct_MOST_PLAYERS : Tok
  c_MOST_PLAYERS : mg "MOST_PLAYERS" = some (.int 6 ct_MOST_PLAYERS)
  ca_WORTHS : Addr
  c_WORTHS : mg "WORTHS" = some (.ref ca_WORTHS)
  z_bool : mg "bool" = none
  z_enumerate : mg "enumerate" = none
  z_int : mg "int" = none
  z_isinstance : mg "isinstance" = none
  z_len : mg "len" = none
  z_list : mg "list" = none
  z_max : mg "max" = none
  z_min : mg "min" = none
  z_range : mg "range" = none
  z_repr : mg "repr" = none
  z_sorted : mg "sorted" = none
  z_str : mg "str" = none
  z_tuple : mg "tuple" = none
  z_type : mg "type" = none
  t_WORTHS : KTab K w ca_WORTHS Pg.t_WORTHS
theorem ok_is_whole {P : Program} {w : World} {K : PySem.W.Frag} {mg : Str → Option Value} {base : Heap} {Y : Sys} (T : Txt K w mg) : FnOk P w K mg base (L2.CX P w) 1 T.a_is_whole T.d_is_whole ["thing"] (spM Y K 1 Pg.m_is_whole) := by
  rw [Pg.q_is_whole]
  exact fn_okM T.F_is_whole sc_is_whole fun cdv A outer s H E hr => ⟨_,
  (mss_one (ms_ret (me_tyEqK (K := K) rfl (T := "int") (by decide) (by rfl) T.z_type (by rfl) T.z_int (by decide +kernel) (me_name (pv 0)))))⟩
theorem ok_is_player {P : Program} {w : World} {K : PySem.W.Frag} {mg : Str → Option Value} {base : Heap} {Y : Sys} (T : Txt K w mg) : FnOk P w K mg base (L2.CX P w) 2 T.a_is_player T.d_is_player ["thing", "n"] (spM Y K 2 Pg.m_is_player) := by
  rw [Pg.q_is_player]
  exact fn_okM T.F_is_player sc_is_player fun cdv A outer s H E hr => ⟨_,
  (mss_one (ms_ret (me_and (me_fnK (K := K) rfl (ok_is_whole T) (hr.mono (by decide)) (by rfl) T.g_is_whole T.F_is_whole.kp T.b_is_whole (takes_of rfl rfl rfl rfl) (ma_cons (me_esc (me_name (pv 0))) ma_nil)) (me_one (me_chain (r := rLe2 K) (o_le hr.units0) s_le op_lt s_lt me_int (me_name (pv 0)) (me_name (pv 1)))))))⟩
theorem ok_is_tuple_of {P : Program} {w : World} {K : PySem.W.Frag} {mg : Str → Option Value} {base : Heap} {Y : Sys} (T : Txt K w mg) : FnOk P w K mg base (L2.CX P w) 1 T.a_is_tuple_of T.d_is_tuple_of ["thing", "size"] (spM Y K 2 Pg.m_is_tuple_of) := by
  rw [Pg.q_is_tuple_of]
  exact fn_okM T.F_is_tuple_of sc_is_tuple_of fun cdv A outer s H E hr => ⟨_,
  (mss_one (ms_ret (me_and (me_tyEqK (K := K) rfl (T := "tuple") (by decide) (by rfl) T.z_type (by rfl) T.z_tuple (by decide +kernel) (me_name (pv 0))) (me_one (me_cmp (r := rEqD K) (op_eqD hr.units) s_eq (me_callB (r := rLenL K) (CallR.or call_len_seq call_len_str) s_len (by rfl) T.z_len (by decide +kernel) (ma_cons (me_name (pv 0)) ma_nil)) (me_name (pv 1)) (nomark _))))))⟩
theorem ok_is_match {P : Program} {w : World} {K : PySem.W.Frag} {mg : Str → Option Value} {base : Heap} {Y : Sys} (T : Txt K w mg) : FnOk P w K mg base (L2.CX P w) 3 T.a_is_match T.d_is_match ["n", "i", "j"] (spM Y K 3 Pg.m_is_match) := by
  rw [Pg.q_is_match]
  exact fn_okM T.F_is_match sc_is_match fun cdv A outer s H E hr => ⟨_,
  (mss_one (ms_ret (me_and (me_fnK (K := K) rfl (ok_is_player T) (hr.mono (by decide)) (by rfl) T.g_is_player T.F_is_player.kp T.b_is_player (takes_of rfl rfl rfl rfl) (ma_cons (me_esc (me_name (pv 1))) (ma_cons (me_esc (me_name (pv 0))) ma_nil))) (me_and (me_fnK (K := K) rfl (ok_is_player T) (hr.mono (by decide)) (by rfl) T.g_is_player T.F_is_player.kp T.b_is_player (takes_of rfl rfl rfl rfl) (ma_cons (me_esc (me_name (pv 2))) (ma_cons (me_esc (me_name (pv 0))) ma_nil))) (me_one (me_cmp op_lt s_lt (me_name (pv 1)) (me_name (pv 2)) (nomark _)))))))⟩
theorem ok_is_outcome {P : Program} {w : World} {K : PySem.W.Frag} {mg : Str → Option Value} {base : Heap} {Y : Sys} (T : Txt K w mg) : FnOk P w K mg base (L2.CX P w) 2 T.a_is_outcome T.d_is_outcome ["kind", "i", "j", "w"] (spM Y K 4 Pg.m_is_outcome) := by
  rw [Pg.q_is_outcome]
  exact fn_okM T.F_is_outcome sc_is_outcome fun cdv A outer s H E hr => ⟨_,
  (mss_cons (ms_if (mt_cmp op_isN s_isN (me_name (pv 3)) me_non (nomark _)) (mss_one (ms_ret (me_cmp (r := rEqD K) (op_eqD hr.units) s_eq (me_name (pv 0)) me_str (nomark _)))) mss_nil)
  (mss_one (ms_ret (me_and (me_fnK (K := K) rfl (ok_is_whole T) (hr.mono (by decide)) (by rfl) T.g_is_whole T.F_is_whole.kp T.b_is_whole (takes_of rfl rfl rfl rfl) (ma_cons (me_esc (me_name (pv 3))) ma_nil)) (me_one (me_cmp (r := rIn2 K) (o_in (hu65 hr)) s_in2 (me_name (pv 3)) (me_tup (ma_cons (me_esc (me_name (pv 1))) (ma_cons (me_esc (me_name (pv 2))) ma_nil))) (by rfl)))))))⟩
theorem ok__is_played {P : Program} {w : World} {K : PySem.W.Frag} {mg : Str → Option Value} {base : Heap} {Y : Sys} (T : Txt K w mg) : FnOk P w K mg base (L2.CX P w) 4 T.a__is_played T.d__is_played ["kind", "n", "match"] (spM Y K 3 Pg.m__is_played) := by
  rw [Pg.q__is_played]
  exact fn_okM T.F__is_played sc__is_played fun cdv A outer s H E hr => ⟨_,
  (mss_cons (ms_if (mt_not (mt_val (me_fnK (K := K) rfl (ok_is_tuple_of T) (hr.mono (by decide)) (by rfl) T.g_is_tuple_of T.F_is_tuple_of.kp T.b_is_tuple_of (takes_of rfl rfl rfl rfl) (ma_cons (me_esc (me_name (pv 2))) (ma_cons (me_esc me_int) ma_nil))))) (mss_one (ms_ret me_bl)) mss_nil)
  (mss_cons (ms_unp (me_name (pv 2)) (mg_tupK (K := K) rfl (by rfl) (mgs_cons (mg_name (pg_name (i := 3) sc__is_played.nd rfl (by first | exact .inl rfl | exact .inr rfl))) (mgs_cons (mg_name (pg_name (i := 4) sc__is_played.nd rfl (by first | exact .inl rfl | exact .inr rfl))) (mgs_cons (mg_name (pg_name (i := 5) sc__is_played.nd rfl (by first | exact .inl rfl | exact .inr rfl))) mgs_nil))) (by rfl) (by rfl) (blS (blS (blS bl0)))))
  (mss_one (ms_ret (me_and (me_fnK (K := K) rfl (ok_is_match T) (hr.mono (by decide)) (by rfl) T.g_is_match T.F_is_match.kp T.b_is_match (takes_of rfl rfl rfl rfl) (ma_cons (me_esc (me_name (pv 1))) (ma_cons (me_esc (me_name (pv 3))) (ma_cons (me_esc (me_name (pv 4))) ma_nil)))) (me_one (me_fnK (K := K) rfl (ok_is_outcome T) (hr.mono (by decide)) (by rfl) T.g_is_outcome T.F_is_outcome.kp T.b_is_outcome (takes_of rfl rfl rfl rfl) (ma_cons (me_esc (me_name (pv 0))) (ma_cons (me_esc (me_name (pv 3))) (ma_cons (me_esc (me_name (pv 4))) (ma_cons (me_esc (me_name (pv 5))) ma_nil)))))))))))⟩
theorem ok__are_played {P : Program} {w : World} {K : PySem.W.Frag} {mg : Str → Option Value} {base : Heap} {Y : Sys} (T : Txt K w mg) : FnOk P w K mg base (L2.CX P w) 5 T.a__are_played T.d__are_played ["kind", "n", "played"] (spM Y K 3 Pg.m__are_played) := by
  rw [Pg.q__are_played]
  exact fn_okM T.F__are_played sc__are_played fun cdv A outer s H E hr => ⟨_,
  (mss_cons (ms_set (i := 3) sc__are_played.nd rfl (by first | exact .inl rfl | exact .inr rfl) (me_tup (ma_cons (me_esc (me_un un_neg s_neg me_int)) (ma_cons (me_esc (me_un un_neg s_neg me_int)) ma_nil))))
  (mss_cons (ms_for (passes_of rfl) (by rfl) (mi_listK (K := K) rfl (me_name (pv 2))) (mg_name (pg_name (i := 4) sc__are_played.nd rfl (by first | exact .inl rfl | exact .inr rfl))) (mss_cons (ms_if (mt_not (mt_val (me_fnK (K := K) rfl (ok__is_played T) (hr.mono (by decide)) (by rfl) T.g__is_played T.F__is_played.kp T.b__is_played (takes_of rfl rfl rfl rfl) (ma_cons (me_esc (me_name (pv 0))) (ma_cons (me_esc (me_name (pv 1))) (ma_cons (me_esc (me_name (pv 4))) ma_nil)))))) (mss_one (ms_ret me_bl)) mss_nil)
  (mss_cons (ms_unp (me_name (pv 4)) (mg_tupK (K := K) rfl (by rfl) (mgs_cons (mg_name (pg_name (i := 5) sc__are_played.nd rfl (by first | exact .inl rfl | exact .inr rfl))) (mgs_cons (mg_name (pg_name (i := 6) sc__are_played.nd rfl (by first | exact .inl rfl | exact .inr rfl))) (mgs_cons (mg_name (pg_name (i := 7) sc__are_played.nd rfl (by first | exact .inl rfl | exact .inr rfl))) mgs_nil))) (by rfl) (by rfl) (blS (blS (blS bl0)))))
  (mss_cons (ms_if (mt_cmp (r := rLe2 K) (o_le hr.units0) s_le (me_tup (ma_cons (me_esc (me_name (pv 5))) (ma_cons (me_esc (me_name (pv 6))) ma_nil))) (me_name (pv 3)) (nomark _)) (mss_one (ms_ret me_bl)) mss_nil)
  (mss_one (ms_set (i := 3) sc__are_played.nd rfl (by first | exact .inl rfl | exact .inr rfl) (me_tup (ma_cons (me_esc (me_name (pv 5))) (ma_cons (me_esc (me_name (pv 6))) ma_nil)))))))))
  (mss_one (ms_ret me_bl))))⟩
theorem ok_is_league {P : Program} {w : World} {K : PySem.W.Frag} {mg : Str → Option Value} {base : Heap} {Y : Sys} (T : Txt K w mg) : FnOk P w K mg base (L2.CX P w) 6 T.a_is_league T.d_is_league ["thing"] (spM Y K 1 Pg.m_is_league) := by
  rw [Pg.q_is_league]
  exact fn_okM T.F_is_league sc_is_league fun cdv A outer s H E hr => ⟨_,
  (mss_cons (ms_if (mt_not (mt_val (me_fnK (K := K) rfl (ok_is_tuple_of T) (hr.mono (by decide)) (by rfl) T.g_is_tuple_of T.F_is_tuple_of.kp T.b_is_tuple_of (takes_of rfl rfl rfl rfl) (ma_cons (me_esc (me_name (pv 0))) (ma_cons (me_esc me_int) ma_nil))))) (mss_one (ms_ret me_bl)) mss_nil)
  (mss_cons (ms_unp (me_name (pv 0)) (mg_tupK (K := K) rfl (by rfl) (mgs_cons (mg_name (pg_name (i := 1) sc_is_league.nd rfl (by first | exact .inl rfl | exact .inr rfl))) (mgs_cons (mg_name (pg_name (i := 2) sc_is_league.nd rfl (by first | exact .inl rfl | exact .inr rfl))) (mgs_cons (mg_name (pg_name (i := 3) sc_is_league.nd rfl (by first | exact .inl rfl | exact .inr rfl))) mgs_nil))) (by rfl) (by rfl) (blS (blS (blS bl0)))))
  (mss_cons (ms_if (mt_w (mw_or (mt_tyNeK (K := K) rfl (T := "str") (by decide) (by rfl) T.z_type (by rfl) T.z_str (by decide +kernel) (me_name (pv 1))) (mw_or1 (mt_kNotIn T.t_WORTHS (pe_glob (by rfl) T.c_WORTHS rfl) (me_name (pv 1)))))) (mss_one (ms_ret me_bl)) mss_nil)
  (mss_cons (ms_if (mt_w (mw_or (mt_not (mt_val (me_fnK (K := K) rfl (ok_is_whole T) (hr.mono (by decide)) (by rfl) T.g_is_whole T.F_is_whole.kp T.b_is_whole (takes_of rfl rfl rfl rfl) (ma_cons (me_esc (me_name (pv 2))) ma_nil)))) (mw_or1 (mt_not (mt_chain (r := rLe2 K) (r' := rLe2 K) (o_le hr.units0) s_le (o_le hr.units0) s_le (me_const (v := .int 2) (pe_glob (by rfl) T.c_FEWEST_PLAYERS ⟨_, rfl⟩) fun _ => .int _) (me_name (pv 2)) (me_const (v := .int 6) (pe_glob (by rfl) T.c_MOST_PLAYERS ⟨_, rfl⟩) fun _ => .int _)))))) (mss_one (ms_ret me_bl)) mss_nil)
  (mss_one (ms_ret (me_and (me_tyEqK (K := K) rfl (T := "list") (by decide) (by rfl) T.z_type (by rfl) T.z_list (by decide +kernel) (me_name (pv 3))) (me_one (me_fnK (K := K) rfl (ok__are_played T) (hr.mono (by decide)) (by rfl) T.g__are_played T.F__are_played.kp T.b__are_played (takes_of rfl rfl rfl rfl) (ma_cons (me_esc (me_name (pv 1))) (ma_cons (me_esc (me_name (pv 2))) (ma_cons (me_esc (me_name (pv 3))) ma_nil))))))))))))⟩
theorem ok__law_deck {P : Program} {w : World} {K : PySem.W.Frag} {mg : Str → Option Value} {base : Heap} {sa : Addr} {ns : List Int} (T : Txt K w mg) : FnOk P w K mg base (L2.CX P w) 1 T.a__law_deck T.d__law_deck ["script"] (spM (DkY K sa ns) K 1 Pg.m__law_deck) := by
  rw [Pg.q__law_deck]
  refine T.F__law_deck.okX sc__law_deck (fun vs H Q E h => ?_) (fun cdv A outer s H vs Q E hr h => ?_)
  · obtain ⟨B, wo, rs, st', out, rfl, Wh, ar, hl, hm, p⟩ := h
    rw [ar.length, hl]; rfl
  · refine ⟨_, pss_cons (ps_set (i := 1) sc__law_deck.nd rfl (Or.inl rfl) (pe_lst pa_nil))
      (pss_cons (ps_for (passes_of rfl) rfl (pi_range1 (by rfl) T.z_range (pa_cons (pe_callB (call_max2 rfl) (by rfl) T.z_max (by decide +kernel) (pa_cons pe_int (pa_cons
            (pe_callB (call_min2 rfl) (by rfl) T.z_min (by decide +kernel) (pa_cons pe_int (pa_cons (pe_callB call_len_seq (by rfl) T.z_len (by decide +kernel) (pa_cons (pv 0) pa_nil)) pa_nil))) pa_nil))) pa_nil))
          (pg_name (i := 2) sc__law_deck.nd rfl (Or.inl rfl))
        (pss_cons (ps_set (i := 3) sc__law_deck.nd rfl (Or.inl rfl) pe_int)
        (pss_cons (ps_if (pt_cmpR op_lt (pv 2) (pe_callB call_len_seq (by rfl) T.z_len (by decide +kernel) (pa_cons (pv 0) pa_nil)) (nomark _))
            (pss_one (ps_set (i := 3) sc__law_deck.nd rfl (Or.inl rfl) (pe_ix ix_list (pv 0) (pv 2) (fun _ _ => rfl)))) pss_nil)
        (pss_one (ps_expr (pe_bm PySem.F.plainAttrs_list PySem.F.slot_list_append PySem.F.type_list_append mt_append (pv 1) (pa_cons
          (pe_lst (pa_cons (pv 3) (pa_cons (pe_callTy call_int1 (by rfl) T.z_int (by decide +kernel) (pa_cons (pe_cmpR op_ge (pv 3) (pe_op op_pow pe_int pe_int) (nomark _)) pa_nil))
            (pa_cons (pe_op op_mul pe_int (pv 2)) pa_nil)))) pa_nil)))))))
      (pss_one (ps_ret (pe_lst (pa_cons (pv 1) (pa_cons pe_int pa_nil)))))), ?_⟩
    obtain ⟨B, wo, rs, st', out, rfl, Wh, ar, hl, hm, p⟩ := h
    obtain ⟨rfl, rfl, rfl⟩ := mDeck_some hm
    cases ar with
    | cons _ s0 ar =>
    cases ar
    cases s0
    have hS := dk_script Wh.rel
    have mr := manyOf_rng ns.length
    have hln : (ns.map V.int).length = ns.length := List.length_map _
    refine ⟨by decide, fun pp np => ?_⟩
    refine ⟨_, rfl, ?_⟩
    refine ⟨sa, _, rfl, .inl (seqL (same_new np) hS), _, _, rfl, _, _, rfl, _, rfl, ?_⟩
    have mr2 : 1 ≤ manyOf (ns.map V.int).length ∧ manyOf (ns.map V.int).length ≤ 63 := by rw [hln]; exact mr
    refine ⟨(show -2 ^ 62 ≤ manyOf (ns.map V.int).length by omega), (show manyOf (ns.map V.int).length < 2 ^ 62 by omega), ?_⟩
    refine for_range (n := (manyOf (ns.map V.int).length).toNat) (fun i σ H => ∃ x y qs, σ = [some (.ref sa), some (.ref pp), x, y] ∧ DkLoop ns wo.H pp qs i H)
      ⟨none, none, [], rfl, ⟨same_new np, np, (fun _ z => nomatch z), (List.nodup_cons.mpr ⟨(fun z => nomatch z), List.nodup_nil⟩), rfl, upd_same, (fun j q z => nomatch z)⟩⟩ ?_ ?_
    · rintro i σ H hi ⟨x, y, qs, rfl, h⟩
      have hS1 := seqL h.sm hS
      refine ⟨_, rfl, _, rfl, sa, _, rfl, .inl hS1, _, _, rfl, rfl, _, rfl, ?_⟩
      refine ite2 (fun c => ?_) (fun c => ?_)
      · have hlt : i < ns.length := by
          have := of_decide_eq_true c
          rw [hln] at this
          omega
        have hx : ns[i]? = some (ns[i]'hlt) := List.getElem?_eq_getElem hlt
        revert hx
        generalize ns[i]'hlt = z
        intro hx
        have hv : poolOf ns i = ⟨z, decide ((1000000000000000000 : Int) ≤ z), 31 * (0 + (i : Nat))⟩ := by unfold poolOf; rw [hx]; rfl
        have ha : atI (ns.map V.int) (0 + (i : Nat)) = some (.int z) := by
          rw [Int.zero_add]; exact atI_nat (by rw [List.getElem?_map, hx]; rfl)
        refine ⟨_, rfl, _, rfl, sa, _, _, _, rfl, rfl, hS1, ha, ?_⟩
        refine ⟨_, rfl, .inl ⟨rfl, _, SqL.of h.op⟩, _, rfl, _, rfl, _, _, rfl, rfl, (by unfold CPow; decide), _, _, rfl, rfl, .inr ⟨_, rfl, ?_⟩⟩
        refine ⟨_, rfl, _, _, rfl, rfl, .inl ⟨by decide, by decide⟩, (by show 3 ≤ sizeLine; decide), fun q nq => ?_⟩
        have qp : pp ≠ q := fun z => by rw [← z, h.op] at nq; cases nq
        refine ⟨pp, _, _, rfl, rfl, (upd_ne qp).trans h.op, (by rw [List.length_map, h.len]; exact Nat.lt_of_lt_of_le (m := 64) (by omega) (by decide)), ?_⟩
        exact ⟨_, _, qs ++ [q], rfl, h.step nq (by rw [hv]; rfl)⟩
      · have hlt : ns[i]? = none := by
          have : ¬ ((0 : Int) + (i : Nat) < ((ns.map V.int).length : Nat)) := fun z => c (decide_eq_true z)
          rw [hln] at this
          exact List.getElem?_eq_none (by omega)
        have hv : poolOf ns i = ⟨0, decide ((1000000000000000000 : Int) ≤ 0), 31 * (0 + (i : Nat))⟩ := by unfold poolOf; rw [hlt]; rfl
        refine ⟨_, rfl, .inl ⟨rfl, _, SqL.of h.op⟩, _, rfl, _, rfl, _, _, rfl, rfl, (by unfold CPow; decide), _, _, rfl, rfl, .inr ⟨_, rfl, ?_⟩⟩
        refine ⟨_, rfl, _, _, rfl, rfl, .inl ⟨by decide, by decide⟩, (by show 3 ≤ sizeLine; decide), fun q nq => ?_⟩
        have qp : pp ≠ q := fun z => by rw [← z, h.op] at nq; cases nq
        refine ⟨pp, _, _, rfl, rfl, (upd_ne qp).trans h.op, (by rw [List.length_map, h.len]; exact Nat.lt_of_lt_of_le (m := 64) (by omega) (by decide)), ?_⟩
        exact ⟨_, _, qs ++ [q], rfl, h.step nq (by rw [hv]; rfl)⟩
    · rintro σ H ⟨x, y, qs, rfl, h⟩
      refine ⟨_, rfl, (by show 2 ≤ sizeLine; decide), fun dp hd => ?_⟩
      rw [hln] at h
      obtain ⟨w', e, W', e2, l⟩ := DkLoop.end Wh h hd
      rw [← e]
      exact p w' (.ref dp) W' ⟨dp, by rw [e2]; rfl, rfl⟩ l

theorem ok__law_draw {P : Program} {w : World} {K : PySem.W.Frag} {mg : Str → Option Value} {base : Heap} {sa : Addr} {ns : List Int} (T : Txt K w mg) : FnOk P w K mg base (L2.CX P w) 1 T.a__law_draw T.d__law_draw ["deck", "many"] (spM (DkY K sa ns) K 2 Pg.m__law_draw) := by
  rw [Pg.q__law_draw]
  refine T.F__law_draw.okX sc__law_draw (fun vs H Q E h => ?_) (fun cdv A outer s H vs Q E hr h => ?_)
  · obtain ⟨B, wo, rs, st', out, rfl, Wh, ar, hl, hm, p⟩ := h
    rw [ar.length, hl]; rfl
  · refine ⟨_, pss_cons (ps_set (i := 2) sc__law_draw.nd rfl (Or.inl rfl)
        (pe_ix ix_list (pe_ix ix_list (pv 0) pe_int (fun _ _ => rfl))
          (pe_op op_modN (pe_ix ix_list (pv 0) pe_int (fun _ _ => rfl))
            (pe_callB call_len_seq (by rfl) T.z_len (by decide +kernel) (pa_cons (pe_ix ix_list (pv 0) pe_int (fun _ _ => rfl)) pa_nil))) (fun _ _ => rfl)))
      (pss_cons (ps_asg (pe_op op_add (pe_ix ix_list (pv 0) pe_int (fun _ _ => rfl)) pe_int) (pg_sub (pv 0) pe_int set_list))
      (pss_cons (ps_if (pw_and (pt_cmpR op_eq (pe_ix ix_list (pv 2) pe_int (fun _ _ => rfl)) pe_int (nomark _))
            (pw_and1 (pt_cmpR op_gt (pe_ix ix_list (pv 2) pe_int (fun _ _ => rfl)) pe_int (nomark _)))).pt
          (pss_cons (ps_set (i := 3) sc__law_draw.nd rfl (Or.inl rfl) (pe_op op_modN (pe_ix ix_list (pv 2) pe_int (fun _ _ => rfl)) (pv 1)))
          (pss_cons (ps_asg (pe_op op_fdivN (pe_ix ix_list (pv 2) pe_int (fun _ _ => rfl)) (pv 1)) (pg_sub (pv 2) pe_int set_list))
          (pss_one (ps_ret (pv 3)))))
          pss_nil)
      (pss_cons (ps_asg (pe_op op_add (pe_ix ix_list (pv 2) pe_int (fun _ _ => rfl)) pe_int) (pg_sub (pv 2) pe_int set_list))
      (pss_cons (ps_set (i := 4) sc__law_draw.nd rfl (Or.inl rfl) (pe_op op_modN (pe_op op_add (pe_op op_modN (pe_ix ix_list (pv 2) pe_int (fun _ _ => rfl)) pe_int) (pe_op op_mul pe_int (pe_ix ix_list (pv 2) pe_int (fun _ _ => rfl)))) pe_int))
      (pss_cons (ps_set (i := 4) sc__law_draw.nd rfl (Or.inl rfl) (pe_op op_modN (pe_op op_mul (pv 4) (pv 4)) pe_int))
      (pss_cons (ps_set (i := 4) sc__law_draw.nd rfl (Or.inl rfl) (pe_op op_modN (pe_op op_mul (pv 4) (pe_op op_add (pv 4) pe_int)) pe_int))
      (pss_one (ps_ret (pe_op op_modN (pe_op op_fdivN (pv 4) pe_int) (pv 1)))))))))), ?_⟩
    obtain ⟨B, wo, rs, st', out, rfl, Wh, ar, hl, hm, p⟩ := h
    obtain ⟨m, d, x, d', rfl, rfl, hm1, hm2, ed, rfl⟩ := mDraw_some hm
    obtain ⟨dp, pp, qs, e1, e2, D⟩ := Wh.rel
    cases ar with
    | cons _ s0 ar =>
    cases ar with
    | cons _ s1 ar =>
    cases ar
    obtain ⟨dp', e3, rfl⟩ := s0
    rw [e1] at e3
    cases e3
    cases s1
    obtain ⟨o, ep, cs⟩ := Dk.draw_cases ed
    have lj := (List.getElem?_eq_some_iff.mp ep).1
    have lq : d.i % d.ps.length < qs.length := by rw [D.len]; exact lj
    have eq : qs[d.i % d.ps.length]? = some (qs[d.i % d.ps.length]'lq) := List.getElem?_eq_getElem lq
    revert eq
    generalize qs[d.i % d.ps.length]'lq = q
    intro eq
    have hq := D.oq _ _ _ eq ep
    have nd := D.nd
    have nqd : q ≠ dp := fun z => (List.nodup_cons.mp nd).1 (by rw [← z]; simp [List.mem_of_getElem? eq])
    have npd : pp ≠ dp := fun z => (List.nodup_cons.mp nd).1 (by rw [← z]; simp)
    have hl0 : ((d.ps.length : Nat) : Int) ≠ 0 := by omega
    have at1 : atI (qs.map V.ref) (((d.i : Nat) : Int).fmod ((qs.map V.ref).length : Nat)) = some (.ref q) := by
      rw [List.length_map, D.len, fmod_nat]
      exact atI_nat (xs := qs.map V.ref) (j := d.i % d.ps.length) (by rw [List.getElem?_map, eq]; rfl)
    -- pool = deck[0][deck[1] % len(deck[0])]
    refine ⟨_, rfl, dp, _, _, _, rfl, rfl, SqL.of D.od, rfl, ?_⟩
    refine ⟨_, rfl, dp, _, _, _, rfl, rfl, SqL.of D.od, rfl, ?_⟩
    refine ⟨_, rfl, dp, _, _, _, rfl, rfl, SqL.of D.od, rfl, ?_⟩
    refine ⟨pp, _, rfl, .inl (SqL.of D.op), ?_⟩
    refine ⟨_, _, rfl, rfl, (by rw [List.length_map, D.len]; exact hl0), ?_⟩
    refine ⟨pp, _, _, _, rfl, rfl, SqL.of D.op, at1, ?_⟩
    -- deck[1] = deck[1] + 1
    refine ⟨_, rfl, dp, _, _, _, rfl, rfl, SqL.of D.od, rfl, ?_⟩
    refine ⟨_, _, rfl, rfl, ?_⟩
    refine ⟨_, rfl, dp, _, _, _, rfl, rfl, D.od, rfl, ?_⟩
    have hq1 : upd wo.H dp (.lst [.ref pp, .int ((d.i : Int) + 1)]) q = some (.lst o.vs) := by rw [upd_ne nqd]; exact hq
    have hd1 : upd wo.H dp (.lst [.ref pp, .int ((d.i : Int) + 1)]) dp = some (.lst [.ref pp, .int ((d.i + 1 : Nat) : Int)]) := by rw [upd_same]; rfl
    have ho1 : ∀ r, r ≠ dp → r ≠ q → upd wo.H dp (.lst [.ref pp, .int ((d.i : Int) + 1)]) r = wo.H r := fun r h1 _ => upd_ne h1
    show tSeq _ _ _ _ (upd wo.H dp (.lst [.ref pp, .int ((d.i : Int) + 1)]))
    revert hq1 hd1 ho1
    generalize upd wo.H dp (.lst [.ref pp, .int ((d.i : Int) + 1)]) = H1
    intro hq1 hd1 ho1
    -- if pool[1] == 1 and pool[0] > 0
    have og : decide (V.int (bi o.g) = V.int 1) = true → o.g = true := by
      cases o.g with
      | true => exact fun _ => rfl
      | false => exact fun z => nomatch z
    have mne : m ≠ 0 := by omega
    have mlt : m.natAbs < 1073741824 := by omega
    have rg : o.vs = [.int o.c, .int (bi o.g), .int o.k] := rfl
    rw [rg] at hq1
    refine ⟨_, rfl, q, _, _, _, rfl, rfl, SqL.of hq1, rfl, rfl, _, rfl, ?_⟩
    rcases cs with ⟨c1, c2, rfl, rfl⟩ | ⟨hc, rfl, rfl⟩
    · refine ite2 (fun _ => ?_) (fun z => absurd (by rw [c1]; rfl) z)
      refine ⟨_, rfl, q, _, _, _, rfl, rfl, SqL.of hq1, rfl, _, _, rfl, rfl, _, rfl, ?_⟩
      refine ite2 (fun _ => ?_) (fun z => absurd (decide_eq_true c2) z)
      refine ⟨_, rfl, q, _, _, _, rfl, rfl, SqL.of hq1, rfl, _, rfl, _, _, rfl, rfl, mne, ?_⟩
      refine ⟨_, rfl, q, _, _, _, rfl, rfl, SqL.of hq1, rfl, _, rfl, _, _, rfl, rfl, ⟨mne, mlt⟩, ?_⟩
      refine ⟨_, rfl, q, _, _, _, rfl, rfl, hq1, rfl, ?_⟩
      refine ⟨_, rfl, ?_⟩
      refine p { wo with H := _ } _ (Wh.touch (fun r hr => ?_) ⟨dp, pp, qs, e1, e2, D.put (p := { o with c := o.c.fdiv m }) eq ((upd_ne (Ne.symm nqd)).trans hd1) upd_same (fun r h1 h2 => (upd_ne h2).trans (ho1 r h1 h2))⟩) (.int _) Le.touch
      rw [e2] at hr
      have h1 : r ≠ dp := fun z => hr (by simp [z])
      have h2 : r ≠ q := fun z => hr (by simp [z, List.mem_of_getElem? eq])
      exact (upd_ne h2).trans (ho1 r h1 h2)
    · refine ite2 (fun c1 => ?_) (fun _ => ?_)
      · refine ⟨_, rfl, q, _, _, _, rfl, rfl, SqL.of hq1, rfl, _, _, rfl, rfl, _, rfl, ?_⟩
        refine ite2 (fun c2 => absurd ⟨og c1, of_decide_eq_true c2⟩ hc) (fun _ => ?_)
        refine ⟨_, rfl, q, _, _, _, rfl, rfl, SqL.of hq1, rfl, _, _, rfl, rfl, _, rfl, q, _, _, _, rfl, rfl, hq1, rfl, ?_⟩
        have hq2 : upd H1 q (.lst [.int o.c, .int (bi o.g), .int (o.k + 1)]) q = some (.lst [.int o.c, .int (bi o.g), .int (o.k + 1)]) := upd_same
        have hd2 := (upd_ne (H := H1) (o := .lst [.int o.c, .int (bi o.g), .int (o.k + 1)]) (Ne.symm nqd)).trans hd1
        have ho2 : ∀ r, r ≠ dp → r ≠ q → upd H1 q (.lst [.int o.c, .int (bi o.g), .int (o.k + 1)]) r = wo.H r := fun r h1 h2 => (upd_ne h2).trans (ho1 r h1 h2)
        show tSeq _ _ _ _ (upd H1 q (.lst [.int o.c, .int (bi o.g), .int (o.k + 1)]))
        revert hq2 hd2 ho2
        generalize upd H1 q (.lst [.int o.c, .int (bi o.g), .int (o.k + 1)]) = H2
        intro hq2 hd2 ho2
        have ra := fmod_rng (a := o.c.fmod 99999999977 + 700001 * (o.k + 1)) (m := 99999999947) (by decide)
        have rb := fmod_rng (a := mixN o.c (o.k + 1) * mixN o.c (o.k + 1)) (m := 99999999821) (by decide)
        refine ⟨_, rfl, q, _, _, _, rfl, rfl, SqL.of hq2, rfl, _, _, rfl, rfl, (show (99999999977 : Int) ≠ 0 by decide), _, rfl, q, _, _, _, rfl, rfl, SqL.of hq2, rfl, _, _, rfl, rfl, .inl ⟨by decide, by decide⟩, _, _, rfl, rfl, _, _, rfl, rfl, (show (99999999947 : Int) ≠ 0 by decide), ?_⟩
        refine ⟨_, rfl, _, rfl, _, _, rfl, rfl, .inl ⟨by omega, by omega⟩, _, _, rfl, rfl, (show (99999999821 : Int) ≠ 0 by decide), ?_⟩
        refine ⟨_, rfl, _, rfl, _, _, rfl, rfl, _, _, rfl, rfl, .inl ⟨by unfold mixN at rb; omega, by unfold mixN at rb; omega⟩, _, _, rfl, rfl, (show (9999999967 : Int) ≠ 0 by decide), ?_⟩
        refine ⟨_, rfl, _, _, rfl, rfl, ⟨by decide, by decide⟩, _, rfl, _, _, rfl, rfl, mne, ?_⟩
        refine p { wo with H := _ } _ (Wh.touch (fun r hr => ?_) ⟨dp, pp, qs, e1, e2, D.put (p := { o with k := o.k + 1 }) eq hd2 hq2 ho2⟩) (.int _) Le.touch
        rw [e2] at hr
        have h1 : r ≠ dp := fun z => hr (by simp [z])
        have h2 : r ≠ q := fun z => hr (by simp [z, List.mem_of_getElem? eq])
        exact ho2 r h1 h2
      · refine ite2 (fun z => nomatch z) (fun _ => ?_)
        refine ⟨_, rfl, q, _, _, _, rfl, rfl, SqL.of hq1, rfl, _, _, rfl, rfl, _, rfl, q, _, _, _, rfl, rfl, hq1, rfl, ?_⟩
        have hq2 : upd H1 q (.lst [.int o.c, .int (bi o.g), .int (o.k + 1)]) q = some (.lst [.int o.c, .int (bi o.g), .int (o.k + 1)]) := upd_same
        have hd2 := (upd_ne (H := H1) (o := .lst [.int o.c, .int (bi o.g), .int (o.k + 1)]) (Ne.symm nqd)).trans hd1
        have ho2 : ∀ r, r ≠ dp → r ≠ q → upd H1 q (.lst [.int o.c, .int (bi o.g), .int (o.k + 1)]) r = wo.H r := fun r h1 h2 => (upd_ne h2).trans (ho1 r h1 h2)
        show tSeq _ _ _ _ (upd H1 q (.lst [.int o.c, .int (bi o.g), .int (o.k + 1)]))
        revert hq2 hd2 ho2
        generalize upd H1 q (.lst [.int o.c, .int (bi o.g), .int (o.k + 1)]) = H2
        intro hq2 hd2 ho2
        have ra := fmod_rng (a := o.c.fmod 99999999977 + 700001 * (o.k + 1)) (m := 99999999947) (by decide)
        have rb := fmod_rng (a := mixN o.c (o.k + 1) * mixN o.c (o.k + 1)) (m := 99999999821) (by decide)
        refine ⟨_, rfl, q, _, _, _, rfl, rfl, SqL.of hq2, rfl, _, _, rfl, rfl, (show (99999999977 : Int) ≠ 0 by decide), _, rfl, q, _, _, _, rfl, rfl, SqL.of hq2, rfl, _, _, rfl, rfl, .inl ⟨by decide, by decide⟩, _, _, rfl, rfl, _, _, rfl, rfl, (show (99999999947 : Int) ≠ 0 by decide), ?_⟩
        refine ⟨_, rfl, _, rfl, _, _, rfl, rfl, .inl ⟨by omega, by omega⟩, _, _, rfl, rfl, (show (99999999821 : Int) ≠ 0 by decide), ?_⟩
        refine ⟨_, rfl, _, rfl, _, _, rfl, rfl, _, _, rfl, rfl, .inl ⟨by unfold mixN at rb; omega, by unfold mixN at rb; omega⟩, _, _, rfl, rfl, (show (9999999967 : Int) ≠ 0 by decide), ?_⟩
        refine ⟨_, rfl, _, _, rfl, rfl, ⟨by decide, by decide⟩, _, rfl, _, _, rfl, rfl, mne, ?_⟩
        refine p { wo with H := _ } _ (Wh.touch (fun r hr => ?_) ⟨dp, pp, qs, e1, e2, D.put (p := { o with k := o.k + 1 }) eq hd2 hq2 ho2⟩) (.int _) Le.touch
        rw [e2] at hr
        have h1 : r ≠ dp := fun z => hr (by simp [z])
        have h2 : r ≠ q := fun z => hr (by simp [z, List.mem_of_getElem? eq])
        exact ho2 r h1 h2

theorem ok__law_pairs {P : Program} {w : World} {K : PySem.W.Frag} {mg : Str → Option Value} {base : Heap} {Y : Sys} (T : Txt K w mg) : FnOk P w K mg base (L2.CX P w) 1 T.a__law_pairs T.d__law_pairs ["n"] (spM Y K 1 Pg.m__law_pairs) := by
  rw [Pg.q__law_pairs]
  exact fn_okM T.F__law_pairs sc__law_pairs fun cdv A outer s H E hr => ⟨_,
  (mss_cons (ms_set (i := 1) sc__law_pairs.nd rfl (by first | exact .inl rfl | exact .inr rfl) (me_lst ma_nil))
  (mss_cons (ms_for (passes_of rfl) (by rfl) (mi_range1 (by rfl) T.z_range (ma_cons (me_name (pv 0)) ma_nil)) (mg_name (pg_name (i := 2) sc__law_pairs.nd rfl (by first | exact .inl rfl | exact .inr rfl))) (mss_one (ms_expr (me_ext (pv 1) (me_lc (own := [("i", 3)]) (by rfl) sc__law_pairs.nd (mi_range1 (by rfl) T.z_range (ma_cons (me_name (pv 2)) ma_nil)) (blkOk_by (own := [("i", 3)]) (N := N__law_pairs) (sc := defScope s__law_pairs) (by decide +kernel)) (fun _ _ _ _ _ => by exact (mg_name (pg_name (i := 3) sc__law_pairs.nd rfl (by first | exact .inl rfl | exact .inr rfl)))) (fun _ _ _ _ _ => by exact (me_esc (me_tup (ma_cons (me_esc (me_name (pv 3))) (ma_cons (me_esc (me_name (pv 2))) ma_nil))))) (by decide))))))
  (mss_one (ms_ret (me_callB (r := rSortedPO K) cr_sortedPO s_srt (by rfl) T.z_sorted (by decide +kernel) (ma_cons (me_name (pv 1)) ma_nil))))))⟩
theorem ok__law_outcome {P : Program} {w : World} {K : PySem.W.Frag} {mg : Str → Option Value} {base : Heap} {sa : Addr} {ns : List Int} (T : Txt K w mg) : FnOk P w K mg base (L2.CX P w) 2 T.a__law_outcome T.d__law_outcome ["deck", "kind", "i", "j"] (spM (DkY K sa ns) K 4 Pg.m__law_outcome) := by
  rw [Pg.q__law_outcome]
  exact fn_okM T.F__law_outcome sc__law_outcome fun cdv A outer s H E hr => ⟨_,
  (mss_one (ms_ret (me_ix (r := rIx K) ix_seq s_ix (me_lst (ma_cons (me_esc (me_name (pv 2))) (ma_cons (me_esc (me_name (pv 3))) (ma_cons (me_esc (me_ix (r := rIx K) ix_seq s_ix (me_lst (ma_cons (me_esc me_non) (ma_cons (me_esc (me_name (pv 2))) ma_nil))) (me_callTy call_int1 s_int (by rfl) T.z_int (by decide +kernel) (ma_cons (me_cmp (r := rEqD K) (op_eqD hr.units) s_eq (me_name (pv 1)) me_str (nomark _)) ma_nil)) (fun _ _ => rfl))) ma_nil)))) (me_fnK (K := K) rfl (ok__law_draw T) (hr.mono (by decide)) (by rfl) T.g__law_draw T.F__law_draw.kp T.b__law_draw (takes_of rfl rfl rfl rfl) (ma_cons (me_esc (me_name (pv 0))) (ma_cons (me_esc me_int) ma_nil))) (fun _ _ => rfl))))⟩
theorem ok__law_some_league {P : Program} {w : World} {K : PySem.W.Frag} {mg : Str → Option Value} {base : Heap} {sa : Addr} {ns : List Int} (T : Txt K w mg) : FnOk P w K mg base (L2.CX P w) 3 T.a__law_some_league T.d__law_some_league ["deck"] (spM (DkY K sa ns) K 1 Pg.m__law_some_league) := by
  rw [Pg.q__law_some_league]
  exact fn_okM T.F__law_some_league sc__law_some_league fun cdv A outer s H E hr => ⟨_,
  (mss_cons (ms_set (i := 1) sc__law_some_league.nd rfl (by first | exact .inl rfl | exact .inr rfl) (me_ix (r := rIx K) ix_seq s_ix (me_lst (ma_cons (me_esc me_str) (ma_cons (me_esc me_str) ma_nil))) (me_fnK (K := K) rfl (ok__law_draw T) (hr.mono (by decide)) (by rfl) T.g__law_draw T.F__law_draw.kp T.b__law_draw (takes_of rfl rfl rfl rfl) (ma_cons (me_esc (me_name (pv 0))) (ma_cons (me_esc me_int) ma_nil))) (fun _ _ => rfl)))
  (mss_cons (ms_set (i := 2) sc__law_some_league.nd rfl (by first | exact .inl rfl | exact .inr rfl) (me_ix (r := rIx K) ix_seq s_ix (me_lst (ma_cons (me_esc (me_bin o_add s_add me_int (me_fnK (K := K) rfl (ok__law_draw T) (hr.mono (by decide)) (by rfl) T.g__law_draw T.F__law_draw.kp T.b__law_draw (takes_of rfl rfl rfl rfl) (ma_cons (me_esc (me_name (pv 0))) (ma_cons (me_esc me_int) ma_nil))))) (ma_cons (me_esc me_int) (ma_cons (me_esc (me_bin o_add s_add me_int (me_fnK (K := K) rfl (ok__law_draw T) (hr.mono (by decide)) (by rfl) T.g__law_draw T.F__law_draw.kp T.b__law_draw (takes_of rfl rfl rfl rfl) (ma_cons (me_esc (me_name (pv 0))) (ma_cons (me_esc me_int) ma_nil))))) ma_nil)))) (me_fnK (K := K) rfl (ok__law_draw T) (hr.mono (by decide)) (by rfl) T.g__law_draw T.F__law_draw.kp T.b__law_draw (takes_of rfl rfl rfl rfl) (ma_cons (me_esc (me_name (pv 0))) (ma_cons (me_esc me_int) ma_nil))) (fun _ _ => rfl)))
  (mss_cons (ms_set (i := 3) sc__law_some_league.nd rfl (by first | exact .inl rfl | exact .inr rfl) (me_fnK (K := K) rfl (ok__law_draw T) (hr.mono (by decide)) (by rfl) T.g__law_draw T.F__law_draw.kp T.b__law_draw (takes_of rfl rfl rfl rfl) (ma_cons (me_esc (me_name (pv 0))) (ma_cons (me_esc me_int) ma_nil))))
  (mss_cons (ms_set (i := 4) sc__law_some_league.nd rfl (by first | exact .inl rfl | exact .inr rfl) (me_fnK (K := K) rfl (ok__law_draw T) (hr.mono (by decide)) (by rfl) T.g__law_draw T.F__law_draw.kp T.b__law_draw (takes_of rfl rfl rfl rfl) (ma_cons (me_esc (me_name (pv 0))) (ma_cons (me_esc me_int) ma_nil))))
  (mss_cons (ms_set (i := 5) sc__law_some_league.nd rfl (by first | exact .inl rfl | exact .inr rfl) (me_lst ma_nil))
  (mss_cons (ms_for (passes_of rfl) (by rfl) (mi_enum (by rfl) T.z_enumerate (ma_cons (me_esc (me_fnK (K := K) rfl (ok__law_pairs T) (hr.mono (by decide)) (by rfl) T.g__law_pairs T.F__law_pairs.kp T.b__law_pairs (takes_of rfl rfl rfl rfl) (ma_cons (me_esc (me_name (pv 2))) ma_nil))) ma_nil)) (mg_tupK (K := K) rfl (by rfl) (mgs_cons (mg_name (pg_name (i := 6) sc__law_some_league.nd rfl (by first | exact .inl rfl | exact .inr rfl))) (mgs_cons (mg_name (pg_name (i := 7) sc__law_some_league.nd rfl (by first | exact .inl rfl | exact .inr rfl))) mgs_nil)) (by rfl) (by rfl) (blS (blS bl0))) (mss_cons (ms_set (i := 8) sc__law_some_league.nd rfl (by first | exact .inl rfl | exact .inr rfl) (me_ix (r := rIx K) ix_seq s_ix (me_lst (ma_cons (me_esc me_bl) (ma_cons (me_esc me_bl) (ma_cons (me_esc (me_cmp (r := rEqD K) (op_eqD hr.units) s_eq (me_fnK (K := K) rfl (ok__law_draw T) (hr.mono (by decide)) (by rfl) T.g__law_draw T.F__law_draw.kp T.b__law_draw (takes_of rfl rfl rfl rfl) (ma_cons (me_esc (me_name (pv 0))) (ma_cons (me_esc me_int) ma_nil))) me_int (nomark _))) (ma_cons (me_esc (me_cmp (r := rEqD K) (op_eqD hr.units) s_eq (me_fnK (K := K) rfl (ok__law_draw T) (hr.mono (by decide)) (by rfl) T.g__law_draw T.F__law_draw.kp T.b__law_draw (takes_of rfl rfl rfl rfl) (ma_cons (me_esc (me_name (pv 0))) (ma_cons (me_esc me_int) ma_nil))) me_int (nomark _))) (ma_cons (me_esc (me_cmp op_lt s_lt (me_name (pv 6)) (me_name (pv 4)) (nomark _))) ma_nil)))))) (me_name (pv 3)) (fun _ _ => rfl)))
  (mss_one (ms_if (mt_val (me_name (pv 8))) (mss_one (ms_expr (me_app (pv 5) (me_tup (ma_cons (me_esc (me_ix (r := rIx K) ix_seq s_ix (me_name (pv 7)) me_int (fun _ _ => rfl))) (ma_cons (me_esc (me_ix (r := rIx K) ix_seq s_ix (me_name (pv 7)) me_int (fun _ _ => rfl))) (ma_cons (me_esc (me_fnK (K := K) rfl (ok__law_outcome T) (hr.mono (by decide)) (by rfl) T.g__law_outcome T.F__law_outcome.kp T.b__law_outcome (takes_of rfl rfl rfl rfl) (ma_cons (me_esc (me_name (pv 0))) (ma_cons (me_esc (me_name (pv 1))) (ma_cons (me_esc (me_ix (r := rIx K) ix_seq s_ix (me_name (pv 7)) me_int (fun _ _ => rfl))) (ma_cons (me_esc (me_ix (r := rIx K) ix_seq s_ix (me_name (pv 7)) me_int (fun _ _ => rfl))) ma_nil)))))) ma_nil))))))) mss_nil))))
  (mss_one (ms_ret (me_tup (ma_cons (me_esc (me_name (pv 1))) (ma_cons (me_esc (me_name (pv 2))) (ma_cons (me_esc (me_name (pv 5))) ma_nil))))))))))))⟩
theorem ok__law_own {P : Program} {w : World} {K : PySem.W.Frag} {mg : Str → Option Value} {base : Heap} {Y : Sys} (T : Txt K w mg) : FnOk P w K mg base (L2.CX P w) 1 T.a__law_own T.d__law_own ["league"] (spM Y K 1 Pg.m__law_own) := by
  rw [Pg.q__law_own]
  exact fn_okM T.F__law_own sc__law_own fun cdv A outer s H E hr => ⟨_,
  (mss_one (ms_ret (me_tup (ma_cons (me_esc (me_ix (r := rIx K) ix_seq s_ix (me_name (pv 0)) me_int (fun _ _ => rfl))) (ma_cons (me_esc (me_ix (r := rIx K) ix_seq s_ix (me_name (pv 0)) me_int (fun _ _ => rfl))) (ma_cons (me_esc (me_callTy (r := rListO K) call_list_of s_list (by rfl) T.z_list (by decide +kernel) (ma_cons (me_ix (r := rIx K) ix_seq s_ix (me_name (pv 0)) me_int (fun _ _ => rfl)) ma_nil))) ma_nil))))))⟩
theorem ok__law_no_match {P : Program} {w : World} {K : PySem.W.Frag} {mg : Str → Option Value} {base : Heap} {sa : Addr} {ns : List Int} (T : Txt K w mg) : FnOk P w K mg base (L2.CX P w) 2 T.a__law_no_match T.d__law_no_match ["deck", "kind", "n", "match"] (spM (DkY K sa ns) K 4 Pg.m__law_no_match) := by
  rw [Pg.q__law_no_match]
  exact fn_okM T.F__law_no_match sc__law_no_match fun cdv A outer s H E hr => ⟨_,
  (mss_cons (ms_unp (me_name (pv 3)) (mg_tupK (K := K) rfl (by rfl) (mgs_cons (mg_name (pg_name (i := 4) sc__law_no_match.nd rfl (by first | exact .inl rfl | exact .inr rfl))) (mgs_cons (mg_name (pg_name (i := 5) sc__law_no_match.nd rfl (by first | exact .inl rfl | exact .inr rfl))) (mgs_cons (mg_name (pg_name (i := 6) sc__law_no_match.nd rfl (by first | exact .inl rfl | exact .inr rfl))) mgs_nil))) (by rfl) (by rfl) (blS (blS (blS bl0)))))
  (mss_cons (ms_set (i := 7) sc__law_no_match.nd rfl (by first | exact .inl rfl | exact .inr rfl) (me_lst (ma_cons (me_esc (me_tup (ma_cons (me_esc (me_name (pv 5))) (ma_cons (me_esc (me_name (pv 4))) (ma_cons (me_esc (me_name (pv 6))) ma_nil))))) (ma_cons (me_esc (me_tup (ma_cons (me_esc (me_name (pv 4))) (ma_cons (me_esc (me_name (pv 4))) (ma_cons (me_esc (me_name (pv 6))) ma_nil))))) (ma_cons (me_esc (me_tup (ma_cons (me_esc (me_name (pv 4))) (ma_cons (me_esc (me_name (pv 5))) (ma_cons (me_esc (me_name (pv 2))) ma_nil))))) (ma_cons (me_esc (me_tup (ma_cons (me_esc (me_name (pv 4))) (ma_cons (me_esc (me_name (pv 5))) (ma_cons (me_esc (me_un un_neg s_neg me_int)) ma_nil))))) (ma_cons (me_esc (me_tup (ma_cons (me_esc (me_name (pv 4))) (ma_cons (me_esc (me_name (pv 2))) (ma_cons (me_esc (me_name (pv 4))) ma_nil))))) (ma_cons (me_esc (me_tup (ma_cons (me_esc (me_un un_neg s_neg me_int)) (ma_cons (me_esc (me_name (pv 5))) (ma_cons (me_esc (me_name (pv 5))) ma_nil))))) (ma_cons (me_esc (me_tup (ma_cons (me_esc (me_name (pv 4))) (ma_cons (me_esc (me_name (pv 5))) ma_nil)))) (ma_cons (me_esc (me_tup (ma_cons (me_esc (me_name (pv 4))) (ma_cons (me_esc (me_name (pv 5))) (ma_cons (me_esc (me_name (pv 6))) (ma_cons (me_esc me_int) ma_nil)))))) (ma_cons (me_esc (me_lst (ma_cons (me_esc (me_name (pv 4))) (ma_cons (me_esc (me_name (pv 5))) (ma_cons (me_esc (me_name (pv 6))) ma_nil))))) (ma_cons (me_esc me_non) ma_nil))))))))))))
  (mss_cons (ms_set (i := 7) sc__law_no_match.nd rfl (by first | exact .inl rfl | exact .inr rfl) (me_bin o_add s_add (me_name (pv 7)) (me_lst (ma_cons (me_esc (me_tup (ma_cons (me_esc (me_name (pv 4))) (ma_cons (me_esc (me_name (pv 5))) (ma_cons (me_esc me_non) ma_nil))))) (ma_cons (me_esc (me_tup (ma_cons (me_esc (me_name (pv 4))) (ma_cons (me_esc (me_name (pv 5))) (ma_cons (me_esc me_bl) ma_nil))))) (ma_cons (me_esc (me_tup (ma_cons (me_esc (me_name (pv 4))) (ma_cons (me_esc (me_name (pv 5))) (ma_cons (me_esc me_bl) ma_nil))))) (ma_cons (me_esc (me_tup (ma_cons (me_esc me_bl) (ma_cons (me_esc (me_name (pv 5))) (ma_cons (me_esc (me_name (pv 5))) ma_nil))))) (ma_cons (me_esc (me_tup (ma_cons (me_esc (me_name (pv 4))) (ma_cons (me_esc me_bl) (ma_cons (me_esc (me_name (pv 4))) ma_nil))))) (ma_cons (me_esc (me_tup (ma_cons (me_esc me_bl) (ma_cons (me_esc (me_name (pv 5))) (ma_cons (me_esc (me_name (pv 5))) ma_nil))))) (ma_cons (me_esc (me_tup (ma_cons (me_esc (me_name (pv 4))) (ma_cons (me_esc (me_name (pv 5))) (ma_cons (me_esc me_str) ma_nil))))) ma_nil))))))))))
  (mss_cons (ms_set (i := 7) sc__law_no_match.nd rfl (by first | exact .inl rfl | exact .inr rfl) (me_bin o_add s_add (me_name (pv 7)) (me_lst (ma_cons (me_esc (me_tup (ma_cons (me_esc (me_name (pv 4))) (ma_cons (me_esc (me_name (pv 5))) (ma_cons (me_esc (me_lst (ma_cons (me_esc (me_name (pv 4))) ma_nil))) ma_nil))))) (ma_cons (me_esc (me_tup (ma_cons (me_esc (me_callTy call_str_int s_str (by rfl) T.z_str (by decide +kernel) (ma_cons (me_name (pv 4)) ma_nil))) (ma_cons (me_esc (me_name (pv 5))) (ma_cons (me_esc (me_name (pv 5))) ma_nil))))) (ma_cons (me_esc (me_tup (ma_cons (me_esc (me_name (pv 4))) (ma_cons (me_esc me_non) (ma_cons (me_esc (me_name (pv 4))) ma_nil))))) (ma_cons (me_esc me_str) (ma_cons (me_esc me_int) (ma_cons (me_esc (me_dic pe_dnewK)) (ma_cons (me_esc (me_tup ma_nil)) (ma_cons (me_esc (me_tup (ma_cons (me_esc (me_tup (ma_cons (me_esc (me_name (pv 4))) (ma_cons (me_esc (me_name (pv 5))) ma_nil)))) (ma_cons (me_esc (me_name (pv 6))) ma_nil)))) (ma_cons (me_esc (me_tup (ma_cons (me_esc (me_name (pv 4))) (ma_cons (me_esc (me_name (pv 5))) (ma_cons (me_esc (me_tup (ma_cons (me_esc (me_name (pv 6))) ma_nil))) ma_nil))))) (ma_cons (me_esc (me_tup (ma_cons (me_esc (me_name (pv 4))) (ma_cons (me_esc (me_name (pv 5))) (ma_cons (me_esc (me_dic pe_dnewK)) ma_nil))))) ma_nil)))))))))))))
  (mss_cons (ms_set (i := 8) sc__law_no_match.nd rfl (by first | exact .inl rfl | exact .inr rfl) (me_fnK (K := K) rfl (ok__law_draw T) (hr.mono (by decide)) (by rfl) T.g__law_draw T.F__law_draw.kp T.b__law_draw (takes_of rfl rfl rfl rfl) (ma_cons (me_esc (me_name (pv 0))) (ma_cons (me_esc (me_name (pv 2))) ma_nil))))
  (mss_one (ms_ret (me_ix (r := rIx K) ix_seq s_ix (me_bin o_add s_add (me_name (pv 7)) (me_lst (ma_cons (me_esc (me_tup (ma_cons (me_esc (me_name (pv 4))) (ma_cons (me_esc (me_name (pv 5))) (ma_cons (me_esc (me_name (pv 8))) ma_nil))))) (ma_cons (me_esc (me_tup (ma_cons (me_esc (me_name (pv 4))) (ma_cons (me_esc (me_name (pv 8))) (ma_cons (me_esc (me_name (pv 4))) ma_nil))))) (ma_cons (me_esc (me_tup (ma_cons (me_esc (me_name (pv 8))) (ma_cons (me_esc (me_name (pv 5))) (ma_cons (me_esc (me_name (pv 5))) ma_nil))))) ma_nil))))) (me_fnK (K := K) rfl (ok__law_draw T) (hr.mono (by decide)) (by rfl) T.g__law_draw T.F__law_draw.kp T.b__law_draw (takes_of rfl rfl rfl rfl) (ma_cons (me_esc (me_name (pv 0))) (ma_cons (me_esc me_int) ma_nil))) (fun _ _ => rfl)))))))))⟩
theorem ok__law_bent {P : Program} {w : World} {K : PySem.W.Frag} {mg : Str → Option Value} {base : Heap} {sa : Addr} {ns : List Int} (T : Txt K w mg) : FnOk P w K mg base (L2.CX P w) 3 T.a__law_bent T.d__law_bent ["deck", "kind", "n", "played"] (spM (DkY K sa ns) K 4 Pg.m__law_bent) := by
  rw [Pg.q__law_bent]
  exact fn_okM T.F__law_bent sc__law_bent fun cdv A outer s H E hr => ⟨_,
  (mss_cons (ms_set (i := 4) sc__law_bent.nd rfl (by first | exact .inl rfl | exact .inr rfl) (me_fnK (K := K) rfl (ok__law_draw T) (hr.mono (by decide)) (by rfl) T.g__law_draw T.F__law_draw.kp T.b__law_draw (takes_of rfl rfl rfl rfl) (ma_cons (me_esc (me_name (pv 0))) (ma_cons (me_esc (me_bin o_add s_add (me_callB (r := rLenL K) (CallR.or call_len_seq call_len_str) s_len (by rfl) T.z_len (by decide +kernel) (ma_cons (me_name (pv 3)) ma_nil)) me_int)) ma_nil))))
  (mss_cons (ms_set (i := 5) sc__law_bent.nd rfl (by first | exact .inl rfl | exact .inr rfl) (me_fnK (K := K) rfl (ok__law_pairs T) (hr.mono (by decide)) (by rfl) T.g__law_pairs T.F__law_pairs.kp T.b__law_pairs (takes_of rfl rfl rfl rfl) (ma_cons (me_esc (me_name (pv 2))) ma_nil)))
  (mss_cons (ms_set (i := 6) sc__law_bent.nd rfl (by first | exact .inl rfl | exact .inr rfl) (me_ix (r := rIx K) ix_seq s_ix (me_name (pv 5)) (me_fnK (K := K) rfl (ok__law_draw T) (hr.mono (by decide)) (by rfl) T.g__law_draw T.F__law_draw.kp T.b__law_draw (takes_of rfl rfl rfl rfl) (ma_cons (me_esc (me_name (pv 0))) (ma_cons (me_esc (me_callB (r := rLenL K) (CallR.or call_len_seq call_len_str) s_len (by rfl) T.z_len (by decide +kernel) (ma_cons (me_name (pv 5)) ma_nil))) ma_nil))) (fun _ _ => rfl)))
  (mss_cons (ms_set (i := 7) sc__law_bent.nd rfl (by first | exact .inl rfl | exact .inr rfl) (me_tup (ma_cons (me_esc (me_ix (r := rIx K) ix_seq s_ix (me_name (pv 6)) me_int (fun _ _ => rfl))) (ma_cons (me_esc (me_ix (r := rIx K) ix_seq s_ix (me_name (pv 6)) me_int (fun _ _ => rfl))) (ma_cons (me_esc (me_fnK (K := K) rfl (ok__law_outcome T) (hr.mono (by decide)) (by rfl) T.g__law_outcome T.F__law_outcome.kp T.b__law_outcome (takes_of rfl rfl rfl rfl) (ma_cons (me_esc (me_name (pv 0))) (ma_cons (me_esc (me_name (pv 1))) (ma_cons (me_esc (me_ix (r := rIx K) ix_seq s_ix (me_name (pv 6)) me_int (fun _ _ => rfl))) (ma_cons (me_esc (me_ix (r := rIx K) ix_seq s_ix (me_name (pv 6)) me_int (fun _ _ => rfl))) ma_nil)))))) ma_nil)))))
  (mss_cons (ms_set (i := 8) sc__law_bent.nd rfl (by first | exact .inl rfl | exact .inr rfl) (me_fnK (K := K) rfl (ok__law_no_match T) (hr.mono (by decide)) (by rfl) T.g__law_no_match T.F__law_no_match.kp T.b__law_no_match (takes_of rfl rfl rfl rfl) (ma_cons (me_esc (me_name (pv 0))) (ma_cons (me_esc (me_name (pv 1))) (ma_cons (me_esc (me_name (pv 2))) (ma_cons (me_esc (me_ix (r := rIx K) ix_seq s_ix (me_bin o_add s_add (me_name (pv 3)) (me_lst (ma_cons (me_esc (me_name (pv 7))) ma_nil))) (me_name (pv 4)) (fun _ _ => rfl))) ma_nil))))))
  (mss_cons (ms_set (i := 9) sc__law_bent.nd rfl (by first | exact .inl rfl | exact .inr rfl) (me_bin o_add s_add (me_bin o_add s_add (me_slK (K := K) rfl (me_name (pv 3)) mo_none (mo_some (me_name (pv 4)))) (me_lst (ma_cons (me_esc (me_name (pv 8))) ma_nil))) (me_slK (K := K) rfl (me_name (pv 3)) (mo_some (me_bin o_add s_add (me_name (pv 4)) me_int)) mo_none)))
  (mss_cons (ms_set (i := 10) sc__law_bent.nd rfl (by first | exact .inl rfl | exact .inr rfl) (me_bin o_add s_add (me_bin o_add s_add (me_slK (K := K) rfl (me_name (pv 3)) mo_none (mo_some (me_name (pv 4)))) (me_lst (ma_cons (me_esc (me_name (pv 7))) ma_nil))) (me_slK (K := K) rfl (me_name (pv 3)) (mo_some (me_name (pv 4))) mo_none)))
  (mss_cons (ms_set (i := 11) sc__law_bent.nd rfl (by first | exact .inl rfl | exact .inr rfl) (me_bin o_add s_add (me_bin o_add s_add (me_slK (K := K) rfl (me_name (pv 3)) mo_none (mo_some (me_name (pv 4)))) (me_rev (K := K) rfl (me_slK (K := K) rfl (me_name (pv 3)) (mo_some (me_name (pv 4))) (mo_some (me_bin o_add s_add (me_name (pv 4)) me_int))))) (me_slK (K := K) rfl (me_name (pv 3)) (mo_some (me_bin o_add s_add (me_name (pv 4)) me_int)) mo_none)))
  (mss_cons (ms_set (i := 12) sc__law_bent.nd rfl (by first | exact .inl rfl | exact .inr rfl) (me_lst (ma_cons (me_esc (me_name (pv 9))) (ma_cons (me_esc (me_name (pv 9))) (ma_cons (me_esc (me_name (pv 9))) (ma_cons (me_esc (me_name (pv 10))) (ma_cons (me_esc (me_bin o_add s_add (me_bin o_add s_add (me_slK (K := K) rfl (me_name (pv 3)) mo_none (mo_some (me_name (pv 4)))) (me_lst (ma_cons (me_esc (me_name (pv 8))) ma_nil))) (me_slK (K := K) rfl (me_name (pv 3)) (mo_some (me_name (pv 4))) mo_none))) (ma_cons (me_esc (me_name (pv 11))) (ma_cons (me_esc (me_bin o_add s_add (me_slK (K := K) rfl (me_name (pv 3)) mo_none (mo_some (me_name (pv 4)))) (me_slK (K := K) rfl (me_name (pv 3)) (mo_some (me_bin o_add s_add (me_name (pv 4)) me_int)) mo_none))) ma_nil)))))))))
  (mss_cons (ms_set (i := 12) sc__law_bent.nd rfl (by first | exact .inl rfl | exact .inr rfl) (me_bin o_add s_add (me_name (pv 12)) (me_lst (ma_cons (me_esc (me_bin o_add s_add (me_bin o_add s_add (me_slK (K := K) rfl (me_name (pv 3)) mo_none (mo_some (me_name (pv 4)))) (me_slK (K := K) rfl (me_name (pv 3)) (mo_some (me_name (pv 4))) (mo_some (me_bin o_add s_add (me_name (pv 4)) me_int)))) (me_slK (K := K) rfl (me_name (pv 3)) (mo_some (me_name (pv 4))) mo_none))) (ma_cons (me_esc (me_rev (K := K) rfl (me_name (pv 3)))) (ma_cons (me_esc (me_callTy (r := rTupO K) call_tuple_of s_tup (by rfl) T.z_tuple (by decide +kernel) (ma_cons (me_name (pv 3)) ma_nil))) ma_nil))))))
  (mss_cons (ms_set (i := 12) sc__law_bent.nd rfl (by first | exact .inl rfl | exact .inr rfl) (me_bin o_add s_add (me_name (pv 12)) (me_lst (ma_cons (me_esc me_non) (ma_cons (me_esc (me_dic pe_dnewK)) (ma_cons (me_esc me_str) (ma_cons (me_esc me_int) (ma_cons (me_esc (me_lst (ma_cons (me_esc (me_name (pv 3))) ma_nil))) ma_nil))))))))
  (mss_one (ms_ret (me_ix (r := rIx K) ix_seq s_ix (me_name (pv 12)) (me_fnK (K := K) rfl (ok__law_draw T) (hr.mono (by decide)) (by rfl) T.g__law_draw T.F__law_draw.kp T.b__law_draw (takes_of rfl rfl rfl rfl) (ma_cons (me_esc (me_name (pv 0))) (ma_cons (me_esc me_int) ma_nil))) (fun _ _ => rfl)))))))))))))))⟩
theorem ok__law_no_league {P : Program} {w : World} {K : PySem.W.Frag} {mg : Str → Option Value} {base : Heap} {sa : Addr} {ns : List Int} (T : Txt K w mg) : FnOk P w K mg base (L2.CX P w) 4 T.a__law_no_league T.d__law_no_league ["deck", "league"] (spM (DkY K sa ns) K 2 Pg.m__law_no_league) := by
  rw [Pg.q__law_no_league]
  exact fn_okM T.F__law_no_league sc__law_no_league fun cdv A outer s H E hr => ⟨_,
  (mss_cons (ms_unp (me_name (pv 1)) (mg_tupK (K := K) rfl (by rfl) (mgs_cons (mg_name (pg_name (i := 2) sc__law_no_league.nd rfl (by first | exact .inl rfl | exact .inr rfl))) (mgs_cons (mg_name (pg_name (i := 3) sc__law_no_league.nd rfl (by first | exact .inl rfl | exact .inr rfl))) (mgs_cons (mg_name (pg_name (i := 4) sc__law_no_league.nd rfl (by first | exact .inl rfl | exact .inr rfl))) mgs_nil))) (by rfl) (by rfl) (blS (blS (blS bl0)))))
  (mss_cons (ms_set (i := 5) sc__law_no_league.nd rfl (by first | exact .inl rfl | exact .inr rfl) (me_fnK (K := K) rfl (ok__law_draw T) (hr.mono (by decide)) (by rfl) T.g__law_draw T.F__law_draw.kp T.b__law_draw (takes_of rfl rfl rfl rfl) (ma_cons (me_esc (me_name (pv 0))) (ma_cons (me_esc me_int) ma_nil))))
  (mss_cons (ms_if (mt_cmp op_lt s_lt (me_name (pv 5)) me_int (nomark _)) (mss_one (ms_ret (me_tup (ma_cons (me_esc (me_name (pv 2))) (ma_cons (me_esc (me_name (pv 3))) (ma_cons (me_esc (me_fnK (K := K) rfl (ok__law_bent T) (hr.mono (by decide)) (by rfl) T.g__law_bent T.F__law_bent.kp T.b__law_bent (takes_of rfl rfl rfl rfl) (ma_cons (me_esc (me_name (pv 0))) (ma_cons (me_esc (me_name (pv 2))) (ma_cons (me_esc (me_name (pv 3))) (ma_cons (me_esc (me_name (pv 4))) ma_nil)))))) ma_nil)))))) mss_nil)
  (mss_cons (ms_if (mt_cmp (r := rEqD K) (op_eqD hr.units) s_eq (me_name (pv 5)) me_int (nomark _)) (mss_cons (ms_set (i := 6) sc__law_no_league.nd rfl (by first | exact .inl rfl | exact .inr rfl) (me_fnK (K := K) rfl (ok__law_draw T) (hr.mono (by decide)) (by rfl) T.g__law_draw T.F__law_draw.kp T.b__law_draw (takes_of rfl rfl rfl rfl) (ma_cons (me_esc (me_name (pv 0))) (ma_cons (me_esc (me_callB (r := rLenL K) (CallR.or call_len_seq call_len_str) s_len (by rfl) T.z_len (by decide +kernel) (ma_cons (me_name (pv 2)) ma_nil))) ma_nil))))
  (mss_cons (ms_set (i := 7) sc__law_no_league.nd rfl (by first | exact .inl rfl | exact .inr rfl) (me_ix (r := rIx K) ix_seq s_ix me_str (me_fnK (K := K) rfl (ok__law_draw T) (hr.mono (by decide)) (by rfl) T.g__law_draw T.F__law_draw.kp T.b__law_draw (takes_of rfl rfl rfl rfl) (ma_cons (me_esc (me_name (pv 0))) (ma_cons (me_esc me_int) ma_nil))) (fun _ _ => rfl)))
  (mss_cons (ms_set (i := 8) sc__law_no_league.nd rfl (by first | exact .inl rfl | exact .inr rfl) (me_lst (ma_cons (me_esc (me_bin o_add s_add (me_bin o_add s_add (me_slK (K := K) rfl (me_name (pv 2)) mo_none (mo_some (me_name (pv 6)))) (me_name (pv 7))) (me_slK (K := K) rfl (me_name (pv 2)) (mo_some (me_bin o_add s_add (me_name (pv 6)) me_int)) mo_none))) (ma_cons (me_esc (me_bin o_add s_add (me_slK (K := K) rfl (me_name (pv 2)) mo_none (mo_some (me_name (pv 6)))) (me_slK (K := K) rfl (me_name (pv 2)) (mo_some (me_bin o_add s_add (me_name (pv 6)) me_int)) mo_none))) (ma_cons (me_esc (me_bin o_add s_add (me_bin o_add s_add (me_slK (K := K) rfl (me_name (pv 2)) mo_none (mo_some (me_name (pv 6)))) (me_name (pv 7))) (me_slK (K := K) rfl (me_name (pv 2)) (mo_some (me_name (pv 6))) mo_none))) (ma_cons (me_esc me_str) ma_nil))))))
  (mss_cons (ms_set (i := 8) sc__law_no_league.nd rfl (by first | exact .inl rfl | exact .inr rfl) (me_bin o_add s_add (me_name (pv 8)) (me_lst (ma_cons (me_esc me_str) (ma_cons (me_esc (me_upper (me_name (pv 2)))) (ma_cons (me_esc (me_bin o_add s_add (me_name (pv 2)) me_str)) (ma_cons (me_esc me_str) (ma_cons (me_esc me_non) (ma_cons (me_esc me_int) (ma_cons (me_esc me_bl) (ma_cons (me_esc (me_lst (ma_cons (me_esc (me_name (pv 2))) ma_nil))) (ma_cons (me_esc (me_dic pe_dnewK)) (ma_cons (me_esc (me_tup (ma_cons (me_esc (me_name (pv 2))) ma_nil))) (ma_cons (me_esc (me_bin o_add s_add me_str (me_name (pv 2)))) ma_nil))))))))))))))
  (mss_one (ms_ret (me_tup (ma_cons (me_esc (me_ix (r := rIx K) ix_seq s_ix (me_name (pv 8)) (me_fnK (K := K) rfl (ok__law_draw T) (hr.mono (by decide)) (by rfl) T.g__law_draw T.F__law_draw.kp T.b__law_draw (takes_of rfl rfl rfl rfl) (ma_cons (me_esc (me_name (pv 0))) (ma_cons (me_esc me_int) ma_nil))) (fun _ _ => rfl))) (ma_cons (me_esc (me_name (pv 3))) (ma_cons (me_esc (me_name (pv 4))) ma_nil)))))))))) mss_nil)
  (mss_cons (ms_if (mt_cmp (r := rEqD K) (op_eqD hr.units) s_eq (me_name (pv 5)) me_int (nomark _)) (mss_cons (ms_set (i := 9) sc__law_no_league.nd rfl (by first | exact .inl rfl | exact .inr rfl) (me_lst (ma_cons (me_esc (me_bin op_sub s_sub (me_name (pv 3)) me_int)) (ma_cons (me_esc (me_bin o_add s_add (me_name (pv 3)) me_int)) (ma_cons (me_esc me_int) (ma_cons (me_esc me_int) (ma_cons (me_esc me_int) (ma_cons (me_esc (me_un un_neg s_neg me_int)) (ma_cons (me_esc (me_bin op_pow s_pow me_int me_int)) (ma_cons (me_esc me_bl) (ma_cons (me_esc me_non) (ma_cons (me_esc me_str) (ma_cons (me_esc (me_lst (ma_cons (me_esc (me_name (pv 3))) ma_nil))) (ma_cons (me_esc (me_tup (ma_cons (me_esc (me_name (pv 3))) ma_nil))) (ma_cons (me_esc (me_bin o_add s_add me_int (me_fnK (K := K) rfl (ok__law_draw T) (hr.mono (by decide)) (by rfl) T.g__law_draw T.F__law_draw.kp T.b__law_draw (takes_of rfl rfl rfl rfl) (ma_cons (me_esc (me_name (pv 0))) (ma_cons (me_esc me_int) ma_nil))))) (ma_cons (me_esc (me_dic pe_dnewK)) ma_nil))))))))))))))))
  (mss_one (ms_ret (me_tup (ma_cons (me_esc (me_name (pv 2))) (ma_cons (me_esc (me_ix (r := rIx K) ix_seq s_ix (me_name (pv 9)) (me_fnK (K := K) rfl (ok__law_draw T) (hr.mono (by decide)) (by rfl) T.g__law_draw T.F__law_draw.kp T.b__law_draw (takes_of rfl rfl rfl rfl) (ma_cons (me_esc (me_name (pv 0))) (ma_cons (me_esc me_int) ma_nil))) (fun _ _ => rfl))) (ma_cons (me_esc (me_name (pv 4))) ma_nil))))))) mss_nil)
  (mss_cons (ms_set (i := 10) sc__law_no_league.nd rfl (by first | exact .inl rfl | exact .inr rfl) (me_lst (ma_cons (me_esc (me_lst (ma_cons (me_esc (me_name (pv 2))) (ma_cons (me_esc (me_name (pv 3))) (ma_cons (me_esc (me_name (pv 4))) ma_nil))))) (ma_cons (me_esc (me_tup (ma_cons (me_esc (me_name (pv 2))) (ma_cons (me_esc (me_name (pv 3))) ma_nil)))) (ma_cons (me_esc (me_tup (ma_cons (me_esc (me_name (pv 2))) (ma_cons (me_esc (me_name (pv 3))) (ma_cons (me_esc (me_name (pv 4))) (ma_cons (me_esc me_int) ma_nil)))))) (ma_cons (me_esc (me_tup (ma_cons (me_esc (me_name (pv 3))) (ma_cons (me_esc (me_name (pv 2))) (ma_cons (me_esc (me_name (pv 4))) ma_nil))))) (ma_cons (me_esc (me_tup (ma_cons (me_esc (me_name (pv 2))) (ma_cons (me_esc (me_name (pv 4))) (ma_cons (me_esc (me_name (pv 3))) ma_nil))))) (ma_cons (me_esc me_non) (ma_cons (me_esc me_str) (ma_cons (me_esc me_int) (ma_cons (me_esc (me_dic pe_dnewK)) ma_nil)))))))))))
  (mss_one (ms_ret (me_ix (r := rIx K) ix_seq s_ix (me_bin o_add s_add (me_name (pv 10)) (me_lst (ma_cons (me_esc (me_name (pv 4))) (ma_cons (me_esc (me_tup ma_nil)) (ma_cons (me_esc me_bl) (ma_cons (me_esc (me_tup (ma_cons (me_esc (me_name (pv 2))) ma_nil))) (ma_cons (me_esc (me_name (pv 2))) (ma_cons (me_esc (me_tup (ma_cons (me_esc (me_name (pv 4))) (ma_cons (me_esc (me_name (pv 3))) (ma_cons (me_esc (me_name (pv 2))) ma_nil))))) ma_nil)))))))) (me_fnK (K := K) rfl (ok__law_draw T) (hr.mono (by decide)) (by rfl) T.g__law_draw T.F__law_draw.kp T.b__law_draw (takes_of rfl rfl rfl rfl) (ma_cons (me_esc (me_name (pv 0))) (ma_cons (me_esc me_int) ma_nil))) (fun _ _ => rfl))))))))))⟩
theorem ok__law_is_good_match {P : Program} {w : World} {K : PySem.W.Frag} {mg : Str → Option Value} {base : Heap} {Y : Sys} (T : Txt K w mg) : FnOk P w K mg base (L2.CX P w) 1 T.a__law_is_good_match T.d__law_is_good_match ["kind", "n", "match"] (spM Y K 3 Pg.m__law_is_good_match) := by
  rw [Pg.q__law_is_good_match]
  exact fn_okM T.F__law_is_good_match sc__law_is_good_match fun cdv A outer s H E hr => ⟨_,
  (mss_cons (ms_if (mt_w (mw_or (mt_not (mt_val (me_isIK (K := K) rfl (T := "tuple") (by rfl) T.z_isinstance (by rfl) T.z_tuple (by decide +kernel) (me_name (pv 2))))) (mw_or1 (mt_cmp (r := rNeD K) (op_neD hr.units) s_ne (me_callB (r := rLenL K) (CallR.or call_len_seq call_len_str) s_len (by rfl) T.z_len (by decide +kernel) (ma_cons (me_name (pv 2)) ma_nil)) me_int (nomark _))))) (mss_one (ms_ret me_bl)) mss_nil)
  (mss_cons (ms_unp (me_name (pv 2)) (mg_tupK (K := K) rfl (by rfl) (mgs_cons (mg_name (pg_name (i := 3) sc__law_is_good_match.nd rfl (by first | exact .inl rfl | exact .inr rfl))) (mgs_cons (mg_name (pg_name (i := 4) sc__law_is_good_match.nd rfl (by first | exact .inl rfl | exact .inr rfl))) (mgs_cons (mg_name (pg_name (i := 5) sc__law_is_good_match.nd rfl (by first | exact .inl rfl | exact .inr rfl))) mgs_nil))) (by rfl) (by rfl) (blS (blS (blS bl0)))))
  (mss_cons (ms_for (passes_of rfl) (by rfl) (mi_listK (K := K) rfl (me_lst (ma_cons (me_esc (me_name (pv 3))) (ma_cons (me_esc (me_name (pv 4))) ma_nil)))) (mg_name (pg_name (i := 6) sc__law_is_good_match.nd rfl (by first | exact .inl rfl | exact .inr rfl))) (mss_one (ms_if (mt_w (mw_or (mt_not (mt_val (me_isIK (K := K) rfl (T := "int") (by rfl) T.z_isinstance (by rfl) T.z_int (by decide +kernel) (me_name (pv 6))))) (mw_or (mt_val (me_isIK (K := K) rfl (T := "bool") (by rfl) T.z_isinstance (by rfl) T.z_bool (by decide +kernel) (me_name (pv 6)))) (mw_or1 (mt_not (mt_chain (r := rLe2 K) (o_le hr.units0) s_le op_lt s_lt me_int (me_name (pv 6)) (me_name (pv 1)))))))) (mss_one (ms_ret me_bl)) mss_nil)))
  (mss_cons (ms_if (mt_w (mw_or (mt_cmp op_ge s_ge (me_name (pv 3)) (me_name (pv 4)) (nomark _)) (mw_or1 (mt_cmp op_isN s_isN (me_name (pv 5)) me_non (nomark _))))) (mss_one (ms_ret (me_and (me_cmp op_lt s_lt (me_name (pv 3)) (me_name (pv 4)) (nomark _)) (me_one (me_cmp (r := rEqD K) (op_eqD hr.units) s_eq (me_name (pv 0)) me_str (nomark _)))))) mss_nil)
  (mss_one (ms_ret (me_and (me_isIK (K := K) rfl (T := "int") (by rfl) T.z_isinstance (by rfl) T.z_int (by decide +kernel) (me_name (pv 5))) (me_and (me_not (me_isIK (K := K) rfl (T := "bool") (by rfl) T.z_isinstance (by rfl) T.z_bool (by decide +kernel) (me_name (pv 5)))) (me_one (me_or (me_cmp (r := rEqD K) (op_eqD hr.units) s_eq (me_name (pv 5)) (me_name (pv 3)) (nomark _)) (me_one (me_cmp (r := rEqD K) (op_eqD hr.units) s_eq (me_name (pv 5)) (me_name (pv 4)) (nomark _)))))))))))))⟩
theorem ok__law_good {P : Program} {w : World} {K : PySem.W.Frag} {mg : Str → Option Value} {base : Heap} {Y : Sys} (T : Txt K w mg) : FnOk P w K mg base (L2.CX P w) 2 T.a__law_good T.d__law_good ["thing"] (spM Y K 1 Pg.m__law_good) := by
  rw [Pg.q__law_good]
  exact fn_okM T.F__law_good sc__law_good fun cdv A outer s H E hr => ⟨_,
  (mss_cons (ms_if (mt_w (mw_or (mt_not (mt_val (me_isIK (K := K) rfl (T := "tuple") (by rfl) T.z_isinstance (by rfl) T.z_tuple (by decide +kernel) (me_name (pv 0))))) (mw_or1 (mt_cmp (r := rNeD K) (op_neD hr.units) s_ne (me_callB (r := rLenL K) (CallR.or call_len_seq call_len_str) s_len (by rfl) T.z_len (by decide +kernel) (ma_cons (me_name (pv 0)) ma_nil)) me_int (nomark _))))) (mss_one (ms_ret me_bl)) mss_nil)
  (mss_cons (ms_unp (me_name (pv 0)) (mg_tupK (K := K) rfl (by rfl) (mgs_cons (mg_name (pg_name (i := 1) sc__law_good.nd rfl (by first | exact .inl rfl | exact .inr rfl))) (mgs_cons (mg_name (pg_name (i := 2) sc__law_good.nd rfl (by first | exact .inl rfl | exact .inr rfl))) (mgs_cons (mg_name (pg_name (i := 3) sc__law_good.nd rfl (by first | exact .inl rfl | exact .inr rfl))) mgs_nil))) (by rfl) (by rfl) (blS (blS (blS bl0)))))
  (mss_cons (ms_if (mt_w (mw_or (mt_not (mt_val (me_isIK (K := K) rfl (T := "str") (by rfl) T.z_isinstance (by rfl) T.z_str (by decide +kernel) (me_name (pv 1))))) (mw_or1 (mt_cmp (r := rNotIn2 K) (o_notIn (hu65 hr)) s_notIn2 (me_name (pv 1)) (me_lst (ma_cons (me_esc me_str) (ma_cons (me_esc me_str) ma_nil))) (by rfl))))) (mss_one (ms_ret me_bl)) mss_nil)
  (mss_cons (ms_if (mt_w (mw_or (mt_not (mt_val (me_isIK (K := K) rfl (T := "int") (by rfl) T.z_isinstance (by rfl) T.z_int (by decide +kernel) (me_name (pv 2))))) (mw_or (mt_val (me_isIK (K := K) rfl (T := "bool") (by rfl) T.z_isinstance (by rfl) T.z_bool (by decide +kernel) (me_name (pv 2)))) (mw_or (mt_not (mt_chain (r := rLe2 K) (r' := rLe2 K) (o_le hr.units0) s_le (o_le hr.units0) s_le me_int (me_name (pv 2)) me_int)) (mw_or1 (mt_not (mt_val (me_isIK (K := K) rfl (T := "list") (by rfl) T.z_isinstance (by rfl) T.z_list (by decide +kernel) (me_name (pv 3)))))))))) (mss_one (ms_ret me_bl)) mss_nil)
  (mss_cons (ms_set (i := 4) sc__law_good.nd rfl (by first | exact .inl rfl | exact .inr rfl) (me_tup (ma_cons (me_esc (me_un un_neg s_neg me_int)) (ma_cons (me_esc (me_un un_neg s_neg me_int)) ma_nil))))
  (mss_cons (ms_for (passes_of rfl) (by rfl) (mi_listK (K := K) rfl (me_name (pv 3))) (mg_name (pg_name (i := 5) sc__law_good.nd rfl (by first | exact .inl rfl | exact .inr rfl))) (mss_cons (ms_if (mt_w (mw_or (mt_not (mt_val (me_fnK (K := K) rfl (ok__law_is_good_match T) (hr.mono (by decide)) (by rfl) T.g__law_is_good_match T.F__law_is_good_match.kp T.b__law_is_good_match (takes_of rfl rfl rfl rfl) (ma_cons (me_esc (me_name (pv 1))) (ma_cons (me_esc (me_name (pv 2))) (ma_cons (me_esc (me_name (pv 5))) ma_nil)))))) (mw_or1 (mt_cmp (r := rLe2 K) (o_le hr.units0) s_le (me_slK (K := K) rfl (me_name (pv 5)) mo_none (mo_some me_int)) (me_name (pv 4)) (nomark _))))) (mss_one (ms_ret me_bl)) mss_nil)
  (mss_one (ms_set (i := 4) sc__law_good.nd rfl (by first | exact .inl rfl | exact .inr rfl) (me_slK (K := K) rfl (me_name (pv 5)) mo_none (mo_some me_int))))))
  (mss_one (ms_ret me_bl))))))))⟩
-- 0 thing, 1 kept, 2 turn, 3 found
def l__law_right_1 {Y : Sys} : GS Y :=
  (sSeq (sSet 3 (gFn 1 Pg.m_is_league (gK (gEsc (gV 0)) gN)))
  (sIf (gOr (gNot (gTst (gIsI "bool" (gV 3)))) (gOr (gTst (gBin fNe (gV 3) (gFn 1 Pg.m__law_good (gK (gEsc (gV 0)) gN)))) (gTst (gBin fNe (gCall fRepr (gK (gV 0) gN)) (gV 1))))) (sRet (gC (.bool false))) sNil))
def b__law_right {Y : Sys} : GS Y :=
  (sSeq (sSet 1 (gCall fRepr (gK (gV 0) gN)))
  (sSeq (sFor (.n 2) (gRg1 (gK (gC (.int 2)) gN)) l__law_right_1)
  (sRet (gC (.bool true)))))
theorem x__law_right {Y : Sys} : ∃ m : Fm Y, m = mOf 4 b__law_right := ⟨_, rfl⟩
def m__law_right {Y : Sys} : Fm Y := Classical.choose (x__law_right)
theorem q__law_right {Y : Sys} : m__law_right = mOf (Y := Y) 4 b__law_right := Classical.choose_spec (x__law_right)
theorem ok__law_right {P : Program} {w : World} {K : PySem.W.Frag} {mg : Str → Option Value} {base : Heap} {Y : Sys} (T : Txt K w mg) : FnG P w K mg base (L2.CX P w) 7 T.a__law_right T.d__law_right ["thing"] (spM Y K 1 m__law_right) := by
  rw [q__law_right]
  exact fn_okG T.F__law_right sc__law_right fun cdv A outer s H E hr hG => ⟨_,
  (mss_cons (ms_set (i := 1) sc__law_right.nd rfl (by first | exact .inl rfl | exact .inr rfl) (me_callB (r := rRepr K) (call_reprD hG (hu65 hr)) s_repr (by rfl) T.z_repr (by decide +kernel) (ma_cons (me_name (pv 0)) ma_nil)))
  (mss_cons (ms_for (passes_of rfl) (by rfl) (mi_range1 (by rfl) T.z_range (ma_cons me_int ma_nil)) (mg_name (pg_name (i := 2) sc__law_right.nd rfl (by first | exact .inl rfl | exact .inr rfl))) (mss_cons (ms_set (i := 3) sc__law_right.nd rfl (by first | exact .inl rfl | exact .inr rfl) (me_fnK (K := K) rfl (ok_is_league T) (hr.mono (by decide)) (by rfl) T.g_is_league T.F_is_league.kp T.b_is_league (takes_of rfl rfl rfl rfl) (ma_cons (me_esc (me_name (pv 0))) ma_nil)))
  (mss_one (ms_if (mt_w (mw_or (mt_not (mt_val (me_isIK (K := K) rfl (T := "bool") (by rfl) T.z_isinstance (by rfl) T.z_bool (by decide +kernel) (me_name (pv 3))))) (mw_or (mt_cmp (r := rNeD K) (op_neD hr.units) s_ne (me_name (pv 3)) (me_fnK (K := K) rfl (ok__law_good T) (hr.mono (by decide)) (by rfl) T.g__law_good T.F__law_good.kp T.b__law_good (takes_of rfl rfl rfl rfl) (ma_cons (me_esc (me_name (pv 0))) ma_nil)) (nomark _)) (mw_or1 (mt_cmp (r := rNeD K) (op_neD hr.units) s_ne (me_callB (r := rRepr K) (call_reprD hG (hu65 hr)) s_repr (by rfl) T.z_repr (by decide +kernel) (ma_cons (me_name (pv 0)) ma_nil)) (me_name (pv 1)) (nomark _)))))) (mss_one (ms_ret me_bl)) mss_nil))))
  (mss_one (ms_ret me_bl))))⟩
-- 0 script, 1 deck, 2 k, 3 league, 4 turn, 5 things, 6 thing
def l_law_1 {K : PySem.W.Frag} {sa : Addr} {ns : List Int} : GS (DkY K sa ns) :=
  (sIf (gNot (gTst (gFn 1 m__law_right (gK (gEsc (gFn 2 Pg.m__law_no_league (gK (gEsc (gV 1)) (gK (gEsc (gV 3)) gN)))) gN)))) (sRet (gC (.bool false))) sNil)
def l_law_2 {K : PySem.W.Frag} {sa : Addr} {ns : List Int} : GS (DkY K sa ns) :=
  (sSeq (sSet 3 (gFn 1 Pg.m__law_some_league (gK (gEsc (gV 1)) gN)))
  (sSeq (sIf (gTst (gBin fNotB (gFn 1 Pg.m_is_league (gK (gEsc (gFn 1 Pg.m__law_own (gK (gEsc (gV 3)) gN))) gN)) (gC (.bool true)))) (sRet (gC (.bool false))) sNil)
  (sFor (.n 4) (gRg1 (gK (gC (.int 12)) gN)) l_law_1)))
def l_law_3 {K : PySem.W.Frag} {sa : Addr} {ns : List Int} : GS (DkY K sa ns) :=
  (sIf (gNot (gTst (gFn 1 m__law_right (gK (gEsc (gV 6)) gN)))) (sRet (gC (.bool false))) sNil)
def b_law {K : PySem.W.Frag} {sa : Addr} {ns : List Int} : GS (DkY K sa ns) :=
  (sSeq (sSet 1 (gFn 1 Pg.m__law_deck (gK (gEsc (gV 0)) gN)))
  (sSeq (sFor (.n 2) (gRg1 (gK (gC (.int 12)) gN)) l_law_2)
  (sSeq (sSet 5 (gLst (gK (gEsc (gC .none)) (gK (gEsc (gC (.int 0))) (gK (gEsc (gC (.bool true))) (gK (gEsc (gC (.str (PySem.Str.ofString "")))) (gK (gEsc (gC (.str (PySem.Str.ofString "plain 2")))) (gK (gEsc (gLst gN)) (gK (gEsc (FX.gTup gN)) (gK (gEsc gDic) (gK (gEsc (FX.gTup (gK (gEsc (gC (.str (PySem.Str.ofString "plain")))) (gK (gEsc (gC (.int 2))) (gK (gEsc (gLst gN)) gN))))) (gK (gEsc (FX.gTup (gK (gEsc (gC (.str (PySem.Str.ofString "ties")))) (gK (gEsc (gC (.int 6))) (gK (gEsc (gLst gN)) gN))))) gN))))))))))))
  (sSeq (sFor (.n 6) (gItL (gBin fAdd (gV 5) (gLst (gK (gEsc (FX.gTup (gK (gEsc (gC (.str (PySem.Str.ofString "plain")))) (gK (gEsc (gC (.int 1))) (gK (gEsc (gLst gN)) gN))))) (gK (gEsc (FX.gTup (gK (gEsc (gC (.str (PySem.Str.ofString "ties")))) (gK (gEsc (gC (.int 7))) (gK (gEsc (gLst gN)) gN))))) gN))))) l_law_3)
  (sRet (gC (.bool true)))))))
theorem x_law {K : PySem.W.Frag} {sa : Addr} {ns : List Int} : ∃ m : Fm (DkY K sa ns), m = mOf 7 b_law := ⟨_, rfl⟩
def m_law {K : PySem.W.Frag} {sa : Addr} {ns : List Int} : Fm (DkY K sa ns) := Classical.choose (x_law)
theorem q_law {K : PySem.W.Frag} {sa : Addr} {ns : List Int} : m_law = mOf (Y := (DkY K sa ns)) 7 b_law := Classical.choose_spec (x_law)
theorem ok_law {P : Program} {w : World} {K : PySem.W.Frag} {mg : Str → Option Value} {base : Heap} {sa : Addr} {ns : List Int} (T : Txt K w mg) : FnG P w K mg base (L2.CX P w) 8 T.a_law T.d_law ["script"] (spM (DkY K sa ns) K 1 m_law) := by
  rw [q_law]
  exact fn_okG T.F_law sc_law fun cdv A outer s H E hr hG => ⟨_,
  (mss_cons (ms_set (i := 1) sc_law.nd rfl (by first | exact .inl rfl | exact .inr rfl) (me_fnK (K := K) rfl (ok__law_deck T) (hr.mono (by decide)) (by rfl) T.g__law_deck T.F__law_deck.kp T.b__law_deck (takes_of rfl rfl rfl rfl) (ma_cons (me_esc (me_name (pv 0))) ma_nil)))
  (mss_cons (ms_for (passes_of rfl) (by rfl) (mi_range1 (by rfl) T.z_range (ma_cons me_int ma_nil)) (mg_name (pg_name (i := 2) sc_law.nd rfl (by first | exact .inl rfl | exact .inr rfl))) (mss_cons (ms_set (i := 3) sc_law.nd rfl (by first | exact .inl rfl | exact .inr rfl) (me_fnK (K := K) rfl (ok__law_some_league T) (hr.mono (by decide)) (by rfl) T.g__law_some_league T.F__law_some_league.kp T.b__law_some_league (takes_of rfl rfl rfl rfl) (ma_cons (me_esc (me_name (pv 1))) ma_nil)))
  (mss_cons (ms_if (mt_cmp op_isnot_bl s_notB (me_fnK (K := K) rfl (ok_is_league T) (hr.mono (by decide)) (by rfl) T.g_is_league T.F_is_league.kp T.b_is_league (takes_of rfl rfl rfl rfl) (ma_cons (me_esc (me_fnK (K := K) rfl (ok__law_own T) (hr.mono (by decide)) (by rfl) T.g__law_own T.F__law_own.kp T.b__law_own (takes_of rfl rfl rfl rfl) (ma_cons (me_esc (me_name (pv 3))) ma_nil))) ma_nil)) me_bl (nomark _)) (mss_one (ms_ret me_bl)) mss_nil)
  (mss_one (ms_for (passes_of rfl) (by rfl) (mi_range1 (by rfl) T.z_range (ma_cons me_int ma_nil)) (mg_name (pg_name (i := 4) sc_law.nd rfl (by first | exact .inl rfl | exact .inr rfl))) (mss_one (ms_if (mt_not (mt_val (me_fnG (K := K) rfl (ok__law_right T) (hr.mono (by decide)) hG (by rfl) T.g__law_right T.F__law_right.kp T.b__law_right (takes_of rfl rfl rfl rfl) (ma_cons (me_esc (me_fnK (K := K) rfl (ok__law_no_league T) (hr.mono (by decide)) (by rfl) T.g__law_no_league T.F__law_no_league.kp T.b__law_no_league (takes_of rfl rfl rfl rfl) (ma_cons (me_esc (me_name (pv 1))) (ma_cons (me_esc (me_name (pv 3))) ma_nil)))) ma_nil)))) (mss_one (ms_ret me_bl)) mss_nil)))))))
  (mss_cons (ms_set (i := 5) sc_law.nd rfl (by first | exact .inl rfl | exact .inr rfl) (me_lst (ma_cons (me_esc me_non) (ma_cons (me_esc me_int) (ma_cons (me_esc me_bl) (ma_cons (me_esc me_str) (ma_cons (me_esc me_str) (ma_cons (me_esc (me_lst ma_nil)) (ma_cons (me_esc (me_tup ma_nil)) (ma_cons (me_esc (me_dic pe_dnewK)) (ma_cons (me_esc (me_tup (ma_cons (me_esc me_str) (ma_cons (me_esc me_int) (ma_cons (me_esc (me_lst ma_nil)) ma_nil))))) (ma_cons (me_esc (me_tup (ma_cons (me_esc me_str) (ma_cons (me_esc me_int) (ma_cons (me_esc (me_lst ma_nil)) ma_nil))))) ma_nil))))))))))))
  (mss_cons (ms_for (passes_of rfl) (by rfl) (mi_listK (K := K) rfl (me_bin o_add s_add (me_name (pv 5)) (me_lst (ma_cons (me_esc (me_tup (ma_cons (me_esc me_str) (ma_cons (me_esc me_int) (ma_cons (me_esc (me_lst ma_nil)) ma_nil))))) (ma_cons (me_esc (me_tup (ma_cons (me_esc me_str) (ma_cons (me_esc me_int) (ma_cons (me_esc (me_lst ma_nil)) ma_nil))))) ma_nil))))) (mg_name (pg_name (i := 6) sc_law.nd rfl (by first | exact .inl rfl | exact .inr rfl))) (mss_one (ms_if (mt_not (mt_val (me_fnG (K := K) rfl (ok__law_right T) (hr.mono (by decide)) hG (by rfl) T.g__law_right T.F__law_right.kp T.b__law_right (takes_of rfl rfl rfl rfl) (ma_cons (me_esc (me_name (pv 6))) ma_nil)))) (mss_one (ms_ret me_bl)) mss_nil)))
  (mss_one (ms_ret me_bl))))))⟩
end
end FX.K01

set_option Elab.async false
set_option linter.all false
set_option maxRecDepth 100000
set_option maxHeartbeats 1000000
namespace FX
open PySem PySem.Spec L2
/-- what a law promises -/
def spLaw (K : PySem.W.Frag) : Sp := fun vs H Q _ => ∃ (a : Addr) (ns : List Int), vs = [.ref a] ∧ SqL K H a (ns.map V.int) ∧ ns.length ≤ 63 ∧ ∀ H', Q (.bl true) H'
section
variable {P : Program} {w : World} {K : PySem.W.Frag} {mg : Str → Option Value} {base : Heap} {CX : CXT} {k : Nat} {f : Addr} {fd : FuncData} {ps : List Str}
theorem law_sp {m : ∀ (sa : Addr) (ns : List Int), Fm (DkY K sa ns)} (hm : ∀ (sa : Addr) (ns : List Int), ns.length ≤ 63 → ∃ s', m sa ns [.raw (.ref sa)] none = some (.ok (.v (.bool true)), s'))
    {vs : List V} {H : Hp} {Q : VK} {E : XK} (h : spLaw K vs H Q E) : ∃ sa ns, spM (DkY K sa ns) K 1 (m sa ns) vs H Q E := by
  obtain ⟨a, ns, rfl, hS, hn, hQ⟩ := h
  obtain ⟨wo, e1, e2, e3, W⟩ := dk_start hS hn
  obtain ⟨s', em⟩ := hm a ns hn
  refine ⟨a, ns, fun _ => none, wo, [.raw (.ref a)], none, (.ok (.v (.bool true)), s'), e1, W, .cons rfl rfl .nil, rfl, em, fun w' x W' hx l => ?_⟩
  have hx' : Rp K w'.F x (.bool true) := hx
  cases hx'
  exact hQ _
theorem law_ofG {m : ∀ (sa : Addr) (ns : List Int), Fm (DkY K sa ns)} (hm : ∀ (sa : Addr) (ns : List Int), ns.length ≤ 63 → ∃ s', m sa ns [.raw (.ref sa)] none = some (.ok (.v (.bool true)), s'))
    (hp : ps.length = 1) (F : ∀ (sa : Addr) (ns : List Int), FnG P w K mg base CX k f fd ps (spM (DkY K sa ns) K 1 (m sa ns))) : FnG P w K mg base CX k f fd ps (spLaw K) :=
  ⟨fun vs H Q E h => by obtain ⟨a, ns, rfl, _⟩ := h; exact hp.symm, fun A outer s H args us vs Q E hr hG e0 hb r h => by
    obtain ⟨sa, ns, h2⟩ := law_sp hm h
    exact (F sa ns).run A outer s H args us vs Q E hr hG e0 hb r h2⟩
theorem law_ofM {m : ∀ (sa : Addr) (ns : List Int), Fm (DkY K sa ns)} (hm : ∀ (sa : Addr) (ns : List Int), ns.length ≤ 63 → ∃ s', m sa ns [.raw (.ref sa)] none = some (.ok (.v (.bool true)), s'))
    (hp : ps.length = 1) (F : ∀ (sa : Addr) (ns : List Int), FnOk P w K mg base CX k f fd ps (spM (DkY K sa ns) K 1 (m sa ns))) : FnOk P w K mg base CX k f fd ps (spLaw K) :=
  ⟨fun vs H Q E h => by obtain ⟨a, ns, rfl, _⟩ := h; exact hp.symm, fun A outer s H args us vs Q E hr e0 hb r h => by
    obtain ⟨sa, ns, h2⟩ := law_sp hm h
    exact (F sa ns).run A outer s H args us vs Q E hr e0 hb r h2⟩
end
end FX

set_option linter.all false
namespace FX
open PySem PySem.Spec L2
theorem shI (i : Int) : SeqAt.shaped (.int i) = true := rfl
theorem shN : SeqAt.shaped .none = true := rfl
theorem shB (b : Bool) : SeqAt.shaped (.bool b) = true := rfl
theorem eqvI (i j : Int) : PyData.eqv (.int i) (.int j) = decide (i = j) := rfl
theorem eqvB (i j : Bool) : PyData.eqv (.bool i) (.bool j) = decide (i = j) := by cases i <;> cases j <;> rfl
theorem eqvS (i j : Str) : PyData.eqv (.str i) (.str j) = decide (i = j) := rfl
section
variable {Y : Sys} {g h : GS Y} {Γ Γ' : Ev} {s s' : Y.S}
theorem seq_nx (e : g Γ s = some (.nx, Γ', s')) : sSeq g h Γ s = h Γ' s' := by
  unfold sSeq; rw [e]
theorem seq_rt {r : R} (e : g Γ s = some (.rt r, Γ', s')) : sSeq g h Γ s = some (.rt r, Γ', s') := by
  unfold sSeq; rw [e]
def fin : Option (Fl × Ev × Y.S) → Option (Oc R × Y.S)
  | some (.rt r, _, s') => some (.ok r, s')
  | some (.nx, _, s') => some (.ok (.v .none), s')
  | some (.er c, _, s') => some (.er c, s')
  | _ => none
theorem fin_of {N : Nat} {body : GS Y} {rs : List R} {X : Option (Oc R × Y.S)} (h : fin (body (rs.map some ++ List.replicate (N - rs.length) none) s) = X) : mOf N body rs s = X := h
theorem for_run {T : Tg} {gi : GI Y} {body : GS Y} {ds : List D} {Γ1 : Ev} {s1 : Y.S} (e : gi Γ s = some (.ok ds, Γ1, s1)) : sFor T gi body Γ s = forG T body ds Γ1 s1 := by
  unfold sFor bdS; rw [e]
end
end FX

set_option Elab.async false
set_option linter.all false
set_option maxRecDepth 100000
namespace FX
open PySem PySem.Spec L2
section
variable {Y : Sys}
theorem forG_cons {T : Tg} {body : GS Y} {d : D} {ds : List D} {Γ Γ1 : Ev} {s : Y.S} (h : bindT T d Γ = some Γ1) : forG T body (d :: ds) Γ s = (match body Γ1 s with
      | none => none
      | some (.nx, Γ2, s2) => forG T body ds Γ2 s2
      | some (.ct, Γ2, s2) => forG T body ds Γ2 s2
      | some (.bk, Γ2, s2) => some (.nx, Γ2, s2)
      | some (.rt r, Γ2, s2) => some (.rt r, Γ2, s2)
      | some (.er c, Γ2, s2) => some (.er c, Γ2, s2)) := by
  conv => lhs; unfold forG
  rw [h] <;> rfl
theorem forG_nil {T : Tg} {body : GS Y} {Γ : Ev} {s : Y.S} : forG T body [] Γ s = some (.nx, Γ, s) := rfl
/-- what one round of a loop has to leave -/
def Rnd (I : Ev → Y.S → Prop) (Post : Fl × Ev × Y.S → Prop) : Fl × Ev × Y.S → Prop
  | (.nx, Γ, s) => I Γ s
  | (.ct, Γ, s) => I Γ s
  | (.bk, Γ, s) => Post (.nx, Γ, s)
  | (.rt r, Γ, s) => Post (.rt r, Γ, s)
  | (.er c, Γ, s) => Post (.er c, Γ, s)
/-- a loop by its invariant (of what is still to come) -/
theorem forG_inv {T : Tg} {body : GS Y} (I : List D → Ev → Y.S → Prop) (Post : Fl × Ev × Y.S → Prop) (h0 : ∀ Γ s, I [] Γ s → Post (.nx, Γ, s))
    (h1 : ∀ d ds Γ s, I (d :: ds) Γ s → ∃ Γ1 out, bindT T d Γ = some Γ1 ∧ body Γ1 s = some out ∧ Rnd (I ds) Post out) :
    ∀ ds Γ s, I ds Γ s → ∃ out, forG T body ds Γ s = some out ∧ Post out
  | [], Γ, s, h => ⟨_, rfl, h0 _ _ h⟩
  | d :: ds, Γ, s, h => by
    obtain ⟨Γ1, out, hb, e, r⟩ := h1 d ds Γ s h
    rw [forG_cons hb, e]
    obtain ⟨fl, Γ2, s2⟩ := out
    cases fl with
    | nx => exact forG_inv I Post h0 h1 ds Γ2 s2 r
    | ct => exact forG_inv I Post h0 h1 ds Γ2 s2 r
    | bk => exact ⟨_, rfl, r⟩
    | rt x => exact ⟨_, rfl, r⟩
    | er c => exact ⟨_, rfl, r⟩
/-- a loop that always goes on -/
theorem forG_nx {T : Tg} {body : GS Y} (I : List D → Ev → Y.S → Prop)
    (h1 : ∀ d ds Γ s, I (d :: ds) Γ s → ∃ Γ1 Γ2 s2, bindT T d Γ = some Γ1 ∧ body Γ1 s = some (.nx, Γ2, s2) ∧ I ds Γ2 s2) (ds : List D) (Γ : Ev) (s : Y.S) (h : I ds Γ s) :
    ∃ Γ' s', forG T body ds Γ s = some (.nx, Γ', s') ∧ I [] Γ' s' := by
  obtain ⟨⟨fl, Γ', s'⟩, e, p⟩ := forG_inv (T := T) (body := body) I (fun o => o.1 = .nx ∧ I [] o.2.1 o.2.2) (fun _ _ h => ⟨rfl, h⟩)
    (fun d ds Γ s h => by obtain ⟨Γ1, Γ2, s2, a, b, c⟩ := h1 d ds Γ s h; exact ⟨Γ1, _, a, b, c⟩) ds Γ s h
  obtain ⟨rfl, p⟩ := p
  exact ⟨_, _, e, p⟩

theorem set_wipe : ∀ (Γ : Ev) (vs : List Nat) (v : Nat) (x : Option R), wipeE (Γ.set v x) vs = if v ∈ vs then wipeE Γ vs else (wipeE Γ vs).set v x
  | Γ, [], v, x => by simp [wipeE]
  | Γ, u :: vs, v, x => by
    simp only [wipeE, set_wipe Γ vs v x]
    by_cases h : v ∈ vs
    · simp [h]
    · by_cases e : u = v
      · subst e; simp [h, List.set_set]
      · simp [h, e, Ne.symm e]
        exact List.set_comm _ _ (fun z => e z.symm)
theorem wipe_wipe : ∀ (vs : List Nat) (Γ : Ev), wipeE (wipeE Γ vs) vs = wipeE Γ vs
  | [], Γ => rfl
  | v :: vs, Γ => by
    show (wipeE ((wipeE Γ vs).set v none) vs).set v none = _
    rw [set_wipe]
    split
    · rw [wipe_wipe vs Γ]; rfl
    · rw [wipe_wipe vs Γ, List.set_set]; rfl
theorem back_set (Γ0 : Ev) : ∀ (vs : List Nat) (Γ : Ev) (v : Nat) (x : Option R), backE Γ0 (Γ.set v x) vs = if v ∈ vs then backE Γ0 Γ vs else (backE Γ0 Γ vs).set v x
  | [], Γ, v, x => by simp [backE]
  | u :: vs, Γ, v, x => by
    simp only [backE, back_set Γ0 vs Γ v x]
    by_cases h : v ∈ vs
    · simp [h]
    · by_cases e : u = v
      · subst e; simp [h, List.set_set]
      · simp [h, e, Ne.symm e]
        exact List.set_comm _ _ (fun z => e z.symm)
theorem back_wipe (Γ0 : Ev) : ∀ (vs : List Nat) (Γ : Ev), backE Γ0 (wipeE Γ vs) vs = backE Γ0 Γ vs
  | [], Γ => rfl
  | v :: vs, Γ => by
    show backE Γ0 ((wipeE Γ vs).set v none) (v :: vs) = _
    rw [back_set, if_pos (by simp)]
    simp only [backE, back_wipe Γ0 vs Γ]
/-- a comprehension without draws -/
theorem compG_pure {T : Tg} {own : List Nat} {gt : GT Y} {ge : GE Y} (f : D → Option D) (Γw : Ev) (s : Y.S) :
    ∀ (ds acc : List D) (Γ : Ev), wipeE Γ own = Γw → acc.length + ds.length ≤ 1000000 →
    (∀ d ∈ ds, ∃ Γ1 Γ2, bindT T d Γw = some Γ1 ∧ match f d with
      | none => gt Γ1 s = some (.ok false, Γ2, s) ∧ wipeE Γ2 own = Γw
      | some e => gt Γ1 s = some (.ok true, Γ2, s) ∧ ∃ Γ3, ge Γ2 s = some (.ok (.v e), Γ3, s) ∧ wipeE Γ3 own = Γw) →
    ∃ Γ', compG T own gt ge ds acc Γ s = some (acc ++ ds.filterMap f, Γ', s) ∧ wipeE Γ' own = Γw
  | [], acc, Γ, h, _, _ => ⟨Γ, by simp [compG], h⟩
  | d :: ds, acc, Γ, h, hl, hd => by
    obtain ⟨Γ1, Γ2, e1, e2⟩ := hd d (by simp)
    simp only [List.length_cons] at hl
    unfold compG
    rw [h, e1]
    cases q : f d with
    | none =>
      rw [q] at e2
      obtain ⟨e2, e3⟩ := e2
      obtain ⟨Γ', e4, e5⟩ := compG_pure f Γw s ds acc Γ2 e3 (by omega) fun d' h' => hd d' (by simp [h'])
      refine ⟨Γ', ?_, e5⟩
      simp only [e2, List.filterMap_cons, q]
      exact e4
    | some e =>
      rw [q] at e2
      obtain ⟨e2, Γ3, e3, e6⟩ := e2
      obtain ⟨Γ', e4, e5⟩ := compG_pure f Γw s ds (acc ++ [e]) Γ3 e6 (by simp; omega) fun d' h' => hd d' (by simp [h'])
      refine ⟨Γ', ?_, e5⟩
      have hz : sizeOk acc.length = true := by simp [sizeOk]; omega
      simp only [e2, e3, hz, List.filterMap_cons, q, if_true]
      rw [e4]; simp
theorem gComp_pure {T : Tg} {own : List Nat} {gi : GI Y} {gt : GT Y} {ge : GE Y} (f : D → Option D) {Γ : Ev} {s : Y.S} {ds : List D} (hi : gi Γ s = some (.ok ds, Γ, s)) (hl : ds.length ≤ 1000000)
    (hd : ∀ d ∈ ds, ∃ Γ1 Γ2, bindT T d (wipeE Γ own) = some Γ1 ∧ match f d with
      | none => gt Γ1 s = some (.ok false, Γ2, s) ∧ wipeE Γ2 own = wipeE Γ own
      | some e => gt Γ1 s = some (.ok true, Γ2, s) ∧ ∃ Γ3, ge Γ2 s = some (.ok (.v e), Γ3, s) ∧ wipeE Γ3 own = wipeE Γ own) :
    gComp T own gi gt ge Γ s = some (.ok (.o (.list (ds.filterMap f))), backE Γ (wipeE Γ own) own, s) := by
  obtain ⟨Γ', e, h⟩ := compG_pure (T := T) (own := own) (gt := gt) (ge := ge) f (wipeE Γ own) s ds [] Γ rfl (by simpa using hl) hd
  unfold gComp bd
  rw [hi]
  simp only [e, List.nil_append]
  rw [← h, back_wipe]
/-- .. without a test, each thing by its own -/
theorem gComp_map {T : Tg} {own : List Nat} {gi : GI Y} {ge : GE Y} (f : D → D) {Γ : Ev} {s : Y.S} {ds : List D} (hi : gi Γ s = some (.ok ds, Γ, s)) (hl : ds.length ≤ 1000000)
    (hd : ∀ d ∈ ds, ∃ Γ1, bindT T d (wipeE Γ own) = some Γ1 ∧ ∃ Γ3, ge Γ1 s = some (.ok (.v (f d)), Γ3, s) ∧ wipeE Γ3 own = wipeE Γ own) :
    gComp T own gi gYes ge Γ s = some (.ok (.o (.list (ds.map f))), backE Γ (wipeE Γ own) own, s) := by
  have h := gComp_pure (T := T) (own := own) (gi := gi) (gt := gYes) (ge := ge) (fun d => some (f d)) hi hl fun d m => by
    obtain ⟨Γ1, e1, Γ3, e2, e3⟩ := hd d m
    exact ⟨Γ1, Γ1, e1, rfl, Γ3, e2, e3⟩
  rw [h]
  congr
  simp
end

/-- the state with a deck -/
def dS {K : PySem.W.Frag} {sa : Addr} {ns : List Int} (d : Dk) : (DkY K sa ns).S := some d
theorem deck_mk {K : PySem.W.Frag} {sa : Addr} {ns : List Int} : Pg.m__law_deck (K := K) (sa := sa) (ns := ns) [.raw (.ref sa)] none = some (.ok (.h 0), dS (deckOf ns)) := by
  rw [Pg.q__law_deck]
  unfold mDeck
  simp only [if_true]
  rfl
def Dk.Ok (d : Dk) : Prop := d.ps ≠ []
theorem deckOf_ok (ns : List Int) : (deckOf ns).Ok := deckOf_ne ns
theorem draw_ok {K : PySem.W.Frag} {sa : Addr} {ns : List Int} {d : Dk} (h : d.Ok) {m : Int} (h0 : 0 < m) (h1 : m < 1073741824) :
    ∃ (x : Nat) (d' : Dk), Pg.m__law_draw (K := K) (sa := sa) (ns := ns) [.h 0, .v (.int m)] (dS d) = some (.ok (.v (.int (x : Int))), dS d') ∧ (x : Int) < m ∧ d'.Ok := by
  obtain ⟨x, d', e, a, b, c⟩ := Dk.draw_some h h0
  obtain ⟨k, rfl⟩ := Int.eq_ofNat_of_zero_le a
  refine ⟨k, d', ?_, b, ?_⟩
  · rw [Pg.q__law_draw]
    show mDraw _ (some d) = _
    unfold mDraw
    simp only [h0, h1, and_self, if_true, e]
    rfl
  · intro z
    have : d'.ps.length = 0 := by rw [z]; rfl
    rw [this] at c
    exact h (List.length_eq_zero_iff.mp c.symm)

theorem atI_nat {α : Type} {ds : List α} {k : Nat} : atI ds (k : Int) = ds[k]? := by
  unfold atI ixN
  by_cases h : k < ds.length
  · have h1 : (k : Int) < (ds.length : Nat) := by omega
    simp [h1]
  · have h1 : ¬ (k : Int) < (ds.length : Nat) := by omega
    simp [h1]; omega
theorem ix_mem {ds : List D} {k : Nat} (h : k < ds.length) : ∃ d, d ∈ ds ∧ ds[k]? = some d ∧ fIx (.list ds) (.int (k : Int)) = some (.old d) := by
  refine ⟨ds[k], List.getElem_mem h, List.getElem?_eq_getElem h, ?_⟩
  show (match atI ds (k : Int) with
    | some d => some (Rz.old d)
    | none => none) = _
  rw [atI_nat, List.getElem?_eq_getElem h]

structure okD (n m : Nat) (d : D) : Prop where
  ls : d.leavesShort 64 = true
  sh : d.showable = true
  w : d.weight ≤ n
  dp : d.depth ≤ m
  lf : d.leavesFit = true
theorem okD.mono {n m n' m' : Nat} {d : D} (h : okD n m d) (hn : n ≤ n') (hm : m ≤ m') : okD n' m' d := ⟨h.ls, h.sh, Nat.le_trans h.w hn, Nat.le_trans h.dp hm, h.lf⟩
theorem okRepr_of {n m : Nat} {d : D} (h : okD n m d) (hn : n ≤ 200000) (hm : m < 60) : okRepr d = true := by
  have h1 := PyData.shown_le 64 (by decide) d h.ls
  have h2 := h.w
  have h3 := h.dp
  have h4 : d.shown.length ≤ sizeLine := by
    have : sizeLine = 16777216 := rfl
    omega
  simp [okRepr, h.sh, h4]
  omega
theorem okD_none {n m : Nat} : okD n m .none := ⟨by simp [PyData.leavesShort], by simp [PyData.showable], by simp [PyData.weight], by simp [PyData.depth], by simp [PyData.leavesFit]⟩
theorem okD_bool {n m : Nat} {b : Bool} : okD n m (.bool b) := ⟨by simp [PyData.leavesShort], by simp [PyData.showable], by simp [PyData.weight], by simp [PyData.depth], by simp [PyData.leavesFit]⟩
theorem okD_dic {n m : Nat} : okD n (m + 1) (.dict []) := ⟨by simp [PyData.leavesShort, PyData.leavesShortKv], by simp [PyData.showable, PyData.showableKv], by simp [PyData.weight, PyData.weightKv], by simp [PyData.depth, PyData.depthKv], by simp [PyData.leavesFit, PyData.leavesFitKv]⟩
theorem okD_int {n m : Nat} {i : Int} (h : i.natAbs < 10 ^ 30) (hn : 100 ≤ n) : okD n m (.int i) := by
  have hl : i.natAbs.log2 < 100 := by
    by_cases h0 : i.natAbs = 0
    · rw [h0]; decide
    · rw [Nat.log2_lt h0]
      exact Nat.lt_trans h (by decide)
  refine ⟨?_, ?_, ?_, by simp [PyData.depth], ?_⟩
  · have := int_text_length_le10 (k := 30) (by decide) h
    have e : (Str.ofString (toString i)).length = (toString i).length := by first | exact ofString_length _ | exact PyProof.ofString_length _ | exact PyProof.Rows.ofString_len _ | exact (by simp [Str.ofString, Str.length])
    have : (Str.ofString (toString i)).length ≤ 64 := by rw [e]; omega
    simpa [PyData.leavesShort, PyData.shown] using this
  · simp [PyData.showable]; omega
  · simp only [PyData.weight]
    split <;> omega
  · simp only [PyData.leavesFit, decide_eq_true_eq]
    exact Nat.lt_of_lt_of_le h (Nat.pow_le_pow_right (by decide) (by decide))
theorem okD_str {n m : Nat} {z : Str} (h1 : (z.cps.toList.all fun c => decide (c < 1114112)) = true) (h2 : z.cps.size ≤ n) : okD n m (.str z) := ⟨by
  simp only [PyData.leavesShort]
  rw [List.all_eq_true] at h1 ⊢
  intro c hc
  have := h1 c hc
  simp only [decide_eq_true_eq] at this ⊢
  have e : (16 : Nat) ^ 8 = 4294967296 := by decide
  omega, by simp [PyData.showable], by simpa [PyData.weight] using h2, by simp [PyData.depth], by
  simp only [PyData.leavesFit]
  show z.cps.all (fun c => decide (c < 0x110000)) = true
  rw [← Array.all_toList]
  exact h1⟩
/-- a row of things -/
structure okA (n m : Nat) (ds : List D) : Prop where
  ls : PyData.leavesShortAll 64 ds = true
  sh : PyData.showableAll ds = true
  w : PyData.weightAll ds ≤ n
  dp : PyData.depthAll ds ≤ m
  lf : PyData.leavesFitAll ds = true
theorem okA_nil {m : Nat} : okA 0 m [] := ⟨rfl, rfl, by simp [PyData.weightAll], by simp [PyData.depthAll], rfl⟩
theorem okA_cons {n n' m : Nat} {d : D} {ds : List D} (h : okD n m d) (h' : okA n' m ds) : okA (n + 1 + n') m (d :: ds) := ⟨by
  simp [PyData.leavesShortAll, h.ls, h'.ls], by simp [PyData.showableAll, h.sh, h'.sh], by
  have a := h.w
  have b := h'.w
  simp only [PyData.weightAll]; omega, by
  have a := h.dp
  have b := h'.dp
  simp only [PyData.depthAll]; omega, by simp [PyData.leavesFitAll, h.lf, h'.lf]⟩
theorem okD_tup {n m : Nat} {ds : List D} (h : okA n m ds) : okD n (m + 1) (.tuple ds) := ⟨by simpa [PyData.leavesShort] using h.ls, by simpa [PyData.showable] using h.sh, by simpa [PyData.weight] using h.w, by
  have := h.dp
  simp only [PyData.depth]; omega, by simpa [PyData.leavesFit] using h.lf⟩
theorem okD_lst {n m : Nat} {ds : List D} (h : okA n m ds) : okD n (m + 1) (.list ds) := ⟨by simpa [PyData.leavesShort] using h.ls, by simpa [PyData.showable] using h.sh, by simpa [PyData.weight] using h.w, by
  have := h.dp
  simp only [PyData.depth]; omega, by simpa [PyData.leavesFit] using h.lf⟩
theorem okA_of {n m : Nat} : ∀ {ds : List D}, (∀ d ∈ ds, okD n m d) → okA ((n + 1) * ds.length) m ds
  | [], _ => by simpa using okA_nil
  | d :: ds, h => by
    have := okA_cons (h d (by simp)) (okA_of (ds := ds) fun x hx => h x (by simp [hx]))
    rw [List.length_cons, Nat.mul_add, Nat.mul_one, Nat.add_comm]
    exact this
theorem okA.mono {n m n' m' : Nat} {d : List D} (h : okA n m d) (hn : n ≤ n') (hm : m ≤ m') : okA n' m' d := ⟨h.ls, h.sh, Nat.le_trans h.w hn, Nat.le_trans h.dp hm, h.lf⟩
end FX

set_option Elab.async false
set_option linter.all false
set_option maxRecDepth 100000
namespace FX.Pg
open PySem FX
section
variable {Y : Sys}
def isWhole : D → Bool
  | .int _ => true
  | _ => false
def isPlayer (d : D) (n : Int) : Bool := match d with
  | .int i => decide (0 ≤ i) && decide (i < n)
  | _ => false
theorem whole_eq (d : D) (s : Y.S) : m_is_whole [.v d] s = some (.ok (.v (.bool (isWhole d))), s) := by
  rw [q_is_whole]
  cases d <;> rfl
theorem player_eq (d : D) (n : Int) (s : Y.S) : m_is_player [.v d, .v (.int n)] s = some (.ok (.v (.bool (isPlayer d n))), s) := by
  rw [q_is_player]
  cases d with
  | int i =>
    (simp [mOf, bd, bdS, gC, gV, op1, op2, opN, gBin, gUn, gEsc, gN, gK, gCall, FX.gTup, gLst, gDic, gTst, gNot, gAnd, gOr, gAndV, gOrV, gNotV, gIf, gChain, bindT, bindTs, sNil, sSeq, sDrop, sRet, sRetN, sBrk, sCnt, sIf, sStuck, sSet, sUnp, gFn, argR, rdv, Rz.r, fAdd, fSub, fMul, fDiv, fMod, fNeg, fLt, fGt, fGe, fIsN, fNotN, fEq, fNe, fLe, fIn2, fNotIn2, fIx, fLen, fInt, gTyEq, gTyNe, gIsI, gSl, gNoP, gPart, fSl, fRev, fTup, vs?, rdA, zB, tyD, shI, shN, shB, eqvI, eqvS, b_is_player, whole_eq, isPlayer, isWhole] <;> try rfl)
    by_cases h : 0 ≤ i <;> simp [h, FX.zB]
  | _ => simp only [b_is_player]; (simp [mOf, bd, bdS, gC, gV, op1, op2, opN, gBin, gUn, gEsc, gN, gK, gCall, FX.gTup, gLst, gDic, gTst, gNot, gAnd, gOr, gAndV, gOrV, gNotV, gIf, gChain, bindT, bindTs, sNil, sSeq, sDrop, sRet, sRetN, sBrk, sCnt, sIf, sStuck, sSet, sUnp, gFn, argR, rdv, Rz.r, fAdd, fSub, fMul, fDiv, fMod, fNeg, fLt, fGt, fGe, fIsN, fNotN, fEq, fNe, fLe, fIn2, fNotIn2, fIx, fLen, fInt, gTyEq, gTyNe, gIsI, gSl, gNoP, gPart, fSl, fRev, fTup, vs?, rdA, zB, tyD, shI, shN, shB, eqvI, eqvS, whole_eq, isWhole, isPlayer] <;> try rfl)
def isTupOf (d : D) (k : Nat) : Bool := match d with
  | .tuple ds => decide (ds.length = k)
  | _ => false
theorem tupOf_eq (d : D) (k : Nat) (s : Y.S) : m_is_tuple_of [.v d, .v (.int (k : Nat))] s = some (.ok (.v (.bool (isTupOf d k))), s) := by
  rw [q_is_tuple_of]
  cases d with
  | tuple ds =>
    (simp [mOf, bd, bdS, gC, gV, op1, op2, opN, gBin, gUn, gEsc, gN, gK, gCall, FX.gTup, gLst, gDic, gTst, gNot, gAnd, gOr, gAndV, gOrV, gNotV, gIf, gChain, bindT, bindTs, sNil, sSeq, sDrop, sRet, sRetN, sBrk, sCnt, sIf, sStuck, sSet, sUnp, gFn, argR, rdv, Rz.r, fAdd, fSub, fMul, fDiv, fMod, fNeg, fLt, fGt, fGe, fIsN, fNotN, fEq, fNe, fLe, fIn2, fNotIn2, fIx, fLen, fInt, gTyEq, gTyNe, gIsI, gSl, gNoP, gPart, fSl, fRev, fTup, vs?, rdA, zB, tyD, shI, shN, shB, eqvI, eqvS, b_is_tuple_of, isTupOf] <;> try rfl)
    omega
  | _ => rfl
def isOutcome (kd : Str) (i j : Int) (w : D) : Bool := match w with
  | .none => decide (kd = Str.ofString "ties")
  | .int z => decide (z = i) || decide (z = j)
  | _ => false
theorem sh_ties : SeqAt.shaped (.str (Str.ofString "ties")) = true := by decide +kernel
theorem outcome_eq (kd : Str) (hk : SeqAt.shaped (.str kd) = true) (i j : Int) (w : D) (s : Y.S) : m_is_outcome [.v (.str kd), .v (.int i), .v (.int j), .v w] s = some (.ok (.v (.bool (isOutcome kd i j w))), s) := by
  rw [q_is_outcome]
  cases w with
  | none =>
    (simp [mOf, bd, bdS, gC, gV, op1, op2, opN, gBin, gUn, gEsc, gN, gK, gCall, FX.gTup, gLst, gDic, gTst, gNot, gAnd, gOr, gAndV, gOrV, gNotV, gIf, gChain, bindT, bindTs, sNil, sSeq, sDrop, sRet, sRetN, sBrk, sCnt, sIf, sStuck, sSet, sUnp, gFn, argR, rdv, Rz.r, fAdd, fSub, fMul, fDiv, fMod, fNeg, fLt, fGt, fGe, fIsN, fNotN, fEq, fNe, fLe, fIn2, fNotIn2, fIx, fLen, fInt, gTyEq, gTyNe, gIsI, gSl, gNoP, gPart, fSl, fRev, fTup, vs?, rdA, zB, tyD, shI, shN, shB, eqvI, eqvS, b_is_outcome, isOutcome, isNo, whole_eq, isWhole, hk, sh_ties, flatD, sizeOk, argR] <;> try rfl)
    all_goals simp only [eq_comm]
  | int z =>
    (simp [mOf, bd, bdS, gC, gV, op1, op2, opN, gBin, gUn, gEsc, gN, gK, gCall, FX.gTup, gLst, gDic, gTst, gNot, gAnd, gOr, gAndV, gOrV, gNotV, gIf, gChain, bindT, bindTs, sNil, sSeq, sDrop, sRet, sRetN, sBrk, sCnt, sIf, sStuck, sSet, sUnp, gFn, argR, rdv, Rz.r, fAdd, fSub, fMul, fDiv, fMod, fNeg, fLt, fGt, fGe, fIsN, fNotN, fEq, fNe, fLe, fIn2, fNotIn2, fIx, fLen, fInt, gTyEq, gTyNe, gIsI, gSl, gNoP, gPart, fSl, fRev, fTup, vs?, rdA, zB, tyD, shI, shN, shB, eqvI, eqvS, b_is_outcome, isOutcome, isNo, whole_eq, isWhole, hk, sh_ties, flatD, sizeOk, argR] <;> try rfl)
    all_goals simp only [eq_comm]
  | _ => (simp [mOf, bd, bdS, gC, gV, op1, op2, opN, gBin, gUn, gEsc, gN, gK, gCall, FX.gTup, gLst, gDic, gTst, gNot, gAnd, gOr, gAndV, gOrV, gNotV, gIf, gChain, bindT, bindTs, sNil, sSeq, sDrop, sRet, sRetN, sBrk, sCnt, sIf, sStuck, sSet, sUnp, gFn, argR, rdv, Rz.r, fAdd, fSub, fMul, fDiv, fMod, fNeg, fLt, fGt, fGe, fIsN, fNotN, fEq, fNe, fLe, fIn2, fNotIn2, fIx, fLen, fInt, gTyEq, gTyNe, gIsI, gSl, gNoP, gPart, fSl, fRev, fTup, vs?, rdA, zB, tyD, shI, shN, shB, eqvI, eqvS, b_is_outcome, isOutcome, isNo, whole_eq, isWhole] <;> try rfl)
theorem tup3_eq (d : D) (s : Y.S) : m_is_tuple_of [.v d, .v (.int 3)] s = some (.ok (.v (.bool (isTupOf d 3))), s) := tupOf_eq d 3 s
theorem ipn (n : Int) : isPlayer .none n = false := rfl
theorem ipb (n : Int) (b : Bool) : isPlayer (.bool b) n = false := rfl
theorem ips (n : Int) (b : Str) : isPlayer (.str b) n = false := rfl
theorem ipl (n : Int) (b : List D) : isPlayer (.list b) n = false := rfl
theorem ipt (n : Int) (b : List D) : isPlayer (.tuple b) n = false := rfl
theorem ipd (n : Int) (b : List (D × D)) : isPlayer (.dict b) n = false := rfl
def isMatch (n : Int) (a b : D) : Bool := match a, b with
  | .int i, .int j => isPlayer (.int i) n && isPlayer (.int j) n && decide (i < j)
  | _, _ => false
theorem match_eq (n : Int) (a b : D) (s : Y.S) : m_is_match [.v (.int n), .v a, .v b] s = some (.ok (.v (.bool (isMatch n a b))), s) := by
  cases a with
  | int i =>
    cases b with
    | int j =>
      by_cases h1 : isPlayer (.int i) n = true
      · by_cases h2 : isPlayer (.int j) n = true
        · (simp [mOf, bd, bdS, gC, gV, op1, op2, opN, gBin, gUn, gEsc, gN, gK, gCall, FX.gTup, gLst, gDic, gTst, gNot, gAnd, gOr, gAndV, gOrV, gNotV, gIf, gChain, bindT, bindTs, sNil, sSeq, sDrop, sRet, sRetN, sBrk, sCnt, sIf, sStuck, sSet, sUnp, gFn, argR, rdv, Rz.r, fAdd, fSub, fMul, fDiv, fMod, fNeg, fLt, fGt, fGe, fIsN, fNotN, fEq, fNe, fLe, fIn2, fNotIn2, fIx, fLen, fInt, gTyEq, gTyNe, gIsI, gSl, gNoP, gPart, fSl, fRev, fTup, vs?, rdA, zB, tyD, shI, shN, shB, eqvI, eqvS, q_is_match, b_is_match, player_eq, isMatch, h1, h2] <;> try rfl)
        · (simp [mOf, bd, bdS, gC, gV, op1, op2, opN, gBin, gUn, gEsc, gN, gK, gCall, FX.gTup, gLst, gDic, gTst, gNot, gAnd, gOr, gAndV, gOrV, gNotV, gIf, gChain, bindT, bindTs, sNil, sSeq, sDrop, sRet, sRetN, sBrk, sCnt, sIf, sStuck, sSet, sUnp, gFn, argR, rdv, Rz.r, fAdd, fSub, fMul, fDiv, fMod, fNeg, fLt, fGt, fGe, fIsN, fNotN, fEq, fNe, fLe, fIn2, fNotIn2, fIx, fLen, fInt, gTyEq, gTyNe, gIsI, gSl, gNoP, gPart, fSl, fRev, fTup, vs?, rdA, zB, tyD, shI, shN, shB, eqvI, eqvS, q_is_match, b_is_match, player_eq, isMatch, h1, h2] <;> try rfl)
      · (simp [mOf, bd, bdS, gC, gV, op1, op2, opN, gBin, gUn, gEsc, gN, gK, gCall, FX.gTup, gLst, gDic, gTst, gNot, gAnd, gOr, gAndV, gOrV, gNotV, gIf, gChain, bindT, bindTs, sNil, sSeq, sDrop, sRet, sRetN, sBrk, sCnt, sIf, sStuck, sSet, sUnp, gFn, argR, rdv, Rz.r, fAdd, fSub, fMul, fDiv, fMod, fNeg, fLt, fGt, fGe, fIsN, fNotN, fEq, fNe, fLe, fIn2, fNotIn2, fIx, fLen, fInt, gTyEq, gTyNe, gIsI, gSl, gNoP, gPart, fSl, fRev, fTup, vs?, rdA, zB, tyD, shI, shN, shB, eqvI, eqvS, q_is_match, b_is_match, player_eq, isMatch, h1] <;> try rfl)
    | _ =>
      by_cases h1 : isPlayer (.int i) n = true
      · (simp [mOf, bd, bdS, gC, gV, op1, op2, opN, gBin, gUn, gEsc, gN, gK, gCall, FX.gTup, gLst, gDic, gTst, gNot, gAnd, gOr, gAndV, gOrV, gNotV, gIf, gChain, bindT, bindTs, sNil, sSeq, sDrop, sRet, sRetN, sBrk, sCnt, sIf, sStuck, sSet, sUnp, gFn, argR, rdv, Rz.r, fAdd, fSub, fMul, fDiv, fMod, fNeg, fLt, fGt, fGe, fIsN, fNotN, fEq, fNe, fLe, fIn2, fNotIn2, fIx, fLen, fInt, gTyEq, gTyNe, gIsI, gSl, gNoP, gPart, fSl, fRev, fTup, vs?, rdA, zB, tyD, shI, shN, shB, eqvI, eqvS, q_is_match, b_is_match, player_eq, isMatch, h1, ipn, ipb, ips, ipl, ipt, ipd] <;> try rfl)
      · (simp [mOf, bd, bdS, gC, gV, op1, op2, opN, gBin, gUn, gEsc, gN, gK, gCall, FX.gTup, gLst, gDic, gTst, gNot, gAnd, gOr, gAndV, gOrV, gNotV, gIf, gChain, bindT, bindTs, sNil, sSeq, sDrop, sRet, sRetN, sBrk, sCnt, sIf, sStuck, sSet, sUnp, gFn, argR, rdv, Rz.r, fAdd, fSub, fMul, fDiv, fMod, fNeg, fLt, fGt, fGe, fIsN, fNotN, fEq, fNe, fLe, fIn2, fNotIn2, fIx, fLen, fInt, gTyEq, gTyNe, gIsI, gSl, gNoP, gPart, fSl, fRev, fTup, vs?, rdA, zB, tyD, shI, shN, shB, eqvI, eqvS, q_is_match, b_is_match, player_eq, isMatch, h1, ipn, ipb, ips, ipl, ipt, ipd] <;> try rfl)
  | _ => (simp [mOf, bd, bdS, gC, gV, op1, op2, opN, gBin, gUn, gEsc, gN, gK, gCall, FX.gTup, gLst, gDic, gTst, gNot, gAnd, gOr, gAndV, gOrV, gNotV, gIf, gChain, bindT, bindTs, sNil, sSeq, sDrop, sRet, sRetN, sBrk, sCnt, sIf, sStuck, sSet, sUnp, gFn, argR, rdv, Rz.r, fAdd, fSub, fMul, fDiv, fMod, fNeg, fLt, fGt, fGe, fIsN, fNotN, fEq, fNe, fLe, fIn2, fNotIn2, fIx, fLen, fInt, gTyEq, gTyNe, gIsI, gSl, gNoP, gPart, fSl, fRev, fTup, vs?, rdA, zB, tyD, shI, shN, shB, eqvI, eqvS, q_is_match, b_is_match, player_eq, isMatch, ipn, ipb, ips, ipl, ipt, ipd] <;> try rfl)
def isPlayed (kd : Str) (n : Int) (d : D) : Bool := match d with
  | .tuple [.int i, .int j, w] => isPlayer (.int i) n && isPlayer (.int j) n && decide (i < j) && isOutcome kd i j w
  | _ => false
theorem played_eq (kd : Str) (hk : SeqAt.shaped (.str kd) = true) (n : Int) (d : D) (s : Y.S) : m__is_played [.v (.str kd), .v (.int n), .v d] s = some (.ok (.v (.bool (isPlayed kd n d))), s) := by
  cases d with
  | tuple ds =>
    match ds with
    | [] => (simp [mOf, bd, bdS, gC, gV, op1, op2, opN, gBin, gUn, gEsc, gN, gK, gCall, FX.gTup, gLst, gDic, gTst, gNot, gAnd, gOr, gAndV, gOrV, gNotV, gIf, gChain, bindT, bindTs, sNil, sSeq, sDrop, sRet, sRetN, sBrk, sCnt, sIf, sStuck, sSet, sUnp, gFn, argR, rdv, Rz.r, fAdd, fSub, fMul, fDiv, fMod, fNeg, fLt, fGt, fGe, fIsN, fNotN, fEq, fNe, fLe, fIn2, fNotIn2, fIx, fLen, fInt, gTyEq, gTyNe, gIsI, gSl, gNoP, gPart, fSl, fRev, fTup, vs?, rdA, zB, tyD, shI, shN, shB, eqvI, eqvS, q__is_played, b__is_played, tup3_eq, isTupOf, isPlayed] <;> try rfl)
    | [a] => (simp [mOf, bd, bdS, gC, gV, op1, op2, opN, gBin, gUn, gEsc, gN, gK, gCall, FX.gTup, gLst, gDic, gTst, gNot, gAnd, gOr, gAndV, gOrV, gNotV, gIf, gChain, bindT, bindTs, sNil, sSeq, sDrop, sRet, sRetN, sBrk, sCnt, sIf, sStuck, sSet, sUnp, gFn, argR, rdv, Rz.r, fAdd, fSub, fMul, fDiv, fMod, fNeg, fLt, fGt, fGe, fIsN, fNotN, fEq, fNe, fLe, fIn2, fNotIn2, fIx, fLen, fInt, gTyEq, gTyNe, gIsI, gSl, gNoP, gPart, fSl, fRev, fTup, vs?, rdA, zB, tyD, shI, shN, shB, eqvI, eqvS, q__is_played, b__is_played, tup3_eq, isTupOf, isPlayed] <;> try rfl)
    | [a, b] => (simp [mOf, bd, bdS, gC, gV, op1, op2, opN, gBin, gUn, gEsc, gN, gK, gCall, FX.gTup, gLst, gDic, gTst, gNot, gAnd, gOr, gAndV, gOrV, gNotV, gIf, gChain, bindT, bindTs, sNil, sSeq, sDrop, sRet, sRetN, sBrk, sCnt, sIf, sStuck, sSet, sUnp, gFn, argR, rdv, Rz.r, fAdd, fSub, fMul, fDiv, fMod, fNeg, fLt, fGt, fGe, fIsN, fNotN, fEq, fNe, fLe, fIn2, fNotIn2, fIx, fLen, fInt, gTyEq, gTyNe, gIsI, gSl, gNoP, gPart, fSl, fRev, fTup, vs?, rdA, zB, tyD, shI, shN, shB, eqvI, eqvS, q__is_played, b__is_played, tup3_eq, isTupOf, isPlayed] <;> try rfl)
    | [a, b, c] =>
      cases a with
      | int i =>
        cases b with
        | int j =>
          by_cases h : isMatch n (.int i) (.int j) = true
          · have h' : (isPlayer (.int i) n && isPlayer (.int j) n && decide (i < j)) = true := h
            (simp [mOf, bd, bdS, gC, gV, op1, op2, opN, gBin, gUn, gEsc, gN, gK, gCall, FX.gTup, gLst, gDic, gTst, gNot, gAnd, gOr, gAndV, gOrV, gNotV, gIf, gChain, bindT, bindTs, sNil, sSeq, sDrop, sRet, sRetN, sBrk, sCnt, sIf, sStuck, sSet, sUnp, gFn, argR, rdv, Rz.r, fAdd, fSub, fMul, fDiv, fMod, fNeg, fLt, fGt, fGe, fIsN, fNotN, fEq, fNe, fLe, fIn2, fNotIn2, fIx, fLen, fInt, gTyEq, gTyNe, gIsI, gSl, gNoP, gPart, fSl, fRev, fTup, vs?, rdA, zB, tyD, shI, shN, shB, eqvI, eqvS, q__is_played, b__is_played, tup3_eq, isTupOf, isPlayed, match_eq, h, h', outcome_eq kd hk] <;> try rfl)
          · have h1 : isMatch n (.int i) (.int j) = false := by simpa using h
            have h' : (isPlayer (.int i) n && isPlayer (.int j) n && decide (i < j)) = false := h1
            (simp [mOf, bd, bdS, gC, gV, op1, op2, opN, gBin, gUn, gEsc, gN, gK, gCall, FX.gTup, gLst, gDic, gTst, gNot, gAnd, gOr, gAndV, gOrV, gNotV, gIf, gChain, bindT, bindTs, sNil, sSeq, sDrop, sRet, sRetN, sBrk, sCnt, sIf, sStuck, sSet, sUnp, gFn, argR, rdv, Rz.r, fAdd, fSub, fMul, fDiv, fMod, fNeg, fLt, fGt, fGe, fIsN, fNotN, fEq, fNe, fLe, fIn2, fNotIn2, fIx, fLen, fInt, gTyEq, gTyNe, gIsI, gSl, gNoP, gPart, fSl, fRev, fTup, vs?, rdA, zB, tyD, shI, shN, shB, eqvI, eqvS, q__is_played, b__is_played, tup3_eq, isTupOf, isPlayed, match_eq, h1, h'] <;> try rfl)
        | _ => (simp [mOf, bd, bdS, gC, gV, op1, op2, opN, gBin, gUn, gEsc, gN, gK, gCall, FX.gTup, gLst, gDic, gTst, gNot, gAnd, gOr, gAndV, gOrV, gNotV, gIf, gChain, bindT, bindTs, sNil, sSeq, sDrop, sRet, sRetN, sBrk, sCnt, sIf, sStuck, sSet, sUnp, gFn, argR, rdv, Rz.r, fAdd, fSub, fMul, fDiv, fMod, fNeg, fLt, fGt, fGe, fIsN, fNotN, fEq, fNe, fLe, fIn2, fNotIn2, fIx, fLen, fInt, gTyEq, gTyNe, gIsI, gSl, gNoP, gPart, fSl, fRev, fTup, vs?, rdA, zB, tyD, shI, shN, shB, eqvI, eqvS, q__is_played, b__is_played, tup3_eq, isTupOf, isPlayed, match_eq, isMatch] <;> try rfl)
      | _ => (simp [mOf, bd, bdS, gC, gV, op1, op2, opN, gBin, gUn, gEsc, gN, gK, gCall, FX.gTup, gLst, gDic, gTst, gNot, gAnd, gOr, gAndV, gOrV, gNotV, gIf, gChain, bindT, bindTs, sNil, sSeq, sDrop, sRet, sRetN, sBrk, sCnt, sIf, sStuck, sSet, sUnp, gFn, argR, rdv, Rz.r, fAdd, fSub, fMul, fDiv, fMod, fNeg, fLt, fGt, fGe, fIsN, fNotN, fEq, fNe, fLe, fIn2, fNotIn2, fIx, fLen, fInt, gTyEq, gTyNe, gIsI, gSl, gNoP, gPart, fSl, fRev, fTup, vs?, rdA, zB, tyD, shI, shN, shB, eqvI, eqvS, q__is_played, b__is_played, tup3_eq, isTupOf, isPlayed, match_eq, isMatch] <;> try rfl)
    | a :: b :: c :: e :: l => (simp [mOf, bd, bdS, gC, gV, op1, op2, opN, gBin, gUn, gEsc, gN, gK, gCall, FX.gTup, gLst, gDic, gTst, gNot, gAnd, gOr, gAndV, gOrV, gNotV, gIf, gChain, bindT, bindTs, sNil, sSeq, sDrop, sRet, sRetN, sBrk, sCnt, sIf, sStuck, sSet, sUnp, gFn, argR, rdv, Rz.r, fAdd, fSub, fMul, fDiv, fMod, fNeg, fLt, fGt, fGe, fIsN, fNotN, fEq, fNe, fLe, fIn2, fNotIn2, fIx, fLen, fInt, gTyEq, gTyNe, gIsI, gSl, gNoP, gPart, fSl, fRev, fTup, vs?, rdA, zB, tyD, shI, shN, shB, eqvI, eqvS, q__is_played, b__is_played, tup3_eq, isTupOf, isPlayed] <;> try rfl)
  | _ => (simp [mOf, bd, bdS, gC, gV, op1, op2, opN, gBin, gUn, gEsc, gN, gK, gCall, FX.gTup, gLst, gDic, gTst, gNot, gAnd, gOr, gAndV, gOrV, gNotV, gIf, gChain, bindT, bindTs, sNil, sSeq, sDrop, sRet, sRetN, sBrk, sCnt, sIf, sStuck, sSet, sUnp, gFn, argR, rdv, Rz.r, fAdd, fSub, fMul, fDiv, fMod, fNeg, fLt, fGt, fGe, fIsN, fNotN, fEq, fNe, fLe, fIn2, fNotIn2, fIx, fLen, fInt, gTyEq, gTyNe, gIsI, gSl, gNoP, gPart, fSl, fRev, fTup, vs?, rdA, zB, tyD, shI, shN, shB, eqvI, eqvS, q__is_played, b__is_played, tup3_eq, isTupOf, isPlayed] <;> try rfl)
theorem isPlayed_inv {kd : Str} {n : Int} {d : D} (h : isPlayed kd n d = true) : ∃ i j w, d = .tuple [.int i, .int j, w] := by
  unfold isPlayed at h
  split at h
  · exact ⟨_, _, _, rfl⟩
  · cases h
def arePlayed (kd : Str) (n : Int) : List Int → List D → Bool
  | _, [] => true
  | b, d :: ds => match d with
    | .tuple [.int i, .int j, w] => isPlayed kd n (.tuple [.int i, .int j, w]) && !leT [i, j] b && arePlayed kd n [i, j] ds
    | _ => false
theorem bodyAP_no (kd : Str) (hk : SeqAt.shaped (.str kd) = true) (n : Int) (l d : D) (x a b c : Option R) (s : Y.S) (h : isPlayed kd n d = false) :
    l__are_played_1 [some (.v (.str kd)), some (.v (.int n)), some (.v l), x, some (.v d), a, b, c] s = some (.rt (.v (.bool false)), [some (.v (.str kd)), some (.v (.int n)), some (.v l), x, some (.v d), a, b, c], s) := by
  (simp [mOf, bd, bdS, gC, gV, op1, op2, opN, gBin, gUn, gEsc, gN, gK, gCall, FX.gTup, gLst, gDic, gTst, gNot, gAnd, gOr, gAndV, gOrV, gNotV, gIf, gChain, bindT, bindTs, sNil, sSeq, sDrop, sRet, sRetN, sBrk, sCnt, sIf, sStuck, sSet, sUnp, gFn, argR, rdv, Rz.r, fAdd, fSub, fMul, fDiv, fMod, fNeg, fLt, fGt, fGe, fIsN, fNotN, fEq, fNe, fLe, fIn2, fNotIn2, fIx, fLen, fInt, gTyEq, gTyNe, gIsI, gSl, gNoP, gPart, fSl, fRev, fTup, vs?, rdA, zB, tyD, shI, shN, shB, eqvI, eqvS, l__are_played_1, played_eq kd hk, h] <;> try rfl)
theorem bodyAP_le (kd : Str) (hk : SeqAt.shaped (.str kd) = true) (n bi bj i j : Int) (w l : D) (a b c : Option R) (s : Y.S) (h : isPlayed kd n (.tuple [.int i, .int j, w]) = true) (h2 : leT [i, j] [bi, bj] = true) :
    l__are_played_1 [some (.v (.str kd)), some (.v (.int n)), some (.v l), some (.v (.tuple [.int bi, .int bj])), some (.v (.tuple [.int i, .int j, w])), a, b, c] s =
      some (.rt (.v (.bool false)), [some (.v (.str kd)), some (.v (.int n)), some (.v l), some (.v (.tuple [.int bi, .int bj])), some (.v (.tuple [.int i, .int j, w])), some (.v (.int i)), some (.v (.int j)), some (.v w)], s) := by
  (simp [mOf, bd, bdS, gC, gV, op1, op2, opN, gBin, gUn, gEsc, gN, gK, gCall, FX.gTup, gLst, gDic, gTst, gNot, gAnd, gOr, gAndV, gOrV, gNotV, gIf, gChain, bindT, bindTs, sNil, sSeq, sDrop, sRet, sRetN, sBrk, sCnt, sIf, sStuck, sSet, sUnp, gFn, argR, rdv, Rz.r, fAdd, fSub, fMul, fDiv, fMod, fNeg, fLt, fGt, fGe, fIsN, fNotN, fEq, fNe, fLe, fIn2, fNotIn2, fIx, fLen, fInt, gTyEq, gTyNe, gIsI, gSl, gNoP, gPart, fSl, fRev, fTup, vs?, rdA, zB, tyD, shI, shN, shB, eqvI, eqvS, l__are_played_1, played_eq kd hk, h, h2, ints?, sizeOk] <;> try rfl)
theorem bodyAP_go (kd : Str) (hk : SeqAt.shaped (.str kd) = true) (n bi bj i j : Int) (w l : D) (a b c : Option R) (s : Y.S) (h : isPlayed kd n (.tuple [.int i, .int j, w]) = true) (h2 : leT [i, j] [bi, bj] = false) :
    l__are_played_1 [some (.v (.str kd)), some (.v (.int n)), some (.v l), some (.v (.tuple [.int bi, .int bj])), some (.v (.tuple [.int i, .int j, w])), a, b, c] s =
      some (.nx, [some (.v (.str kd)), some (.v (.int n)), some (.v l), some (.v (.tuple [.int i, .int j])), some (.v (.tuple [.int i, .int j, w])), some (.v (.int i)), some (.v (.int j)), some (.v w)], s) := by
  (simp [mOf, bd, bdS, gC, gV, op1, op2, opN, gBin, gUn, gEsc, gN, gK, gCall, FX.gTup, gLst, gDic, gTst, gNot, gAnd, gOr, gAndV, gOrV, gNotV, gIf, gChain, bindT, bindTs, sNil, sSeq, sDrop, sRet, sRetN, sBrk, sCnt, sIf, sStuck, sSet, sUnp, gFn, argR, rdv, Rz.r, fAdd, fSub, fMul, fDiv, fMod, fNeg, fLt, fGt, fGe, fIsN, fNotN, fEq, fNe, fLe, fIn2, fNotIn2, fIx, fLen, fInt, gTyEq, gTyNe, gIsI, gSl, gNoP, gPart, fSl, fRev, fTup, vs?, rdA, zB, tyD, shI, shN, shB, eqvI, eqvS, l__are_played_1, played_eq kd hk, h, h2, ints?, sizeOk] <;> try rfl)
theorem ap_loop (kd : Str) (hk : SeqAt.shaped (.str kd) = true) (n : Int) (l : D) : ∀ (ds : List D) (bi bj : Int) (a b c e : Option R) (s : Y.S), ∃ Γ', 
    forG (.n 4) l__are_played_1 ds [some (.v (.str kd)), some (.v (.int n)), some (.v l), some (.v (.tuple [.int bi, .int bj])), a, b, c, e] s =
      some (if arePlayed kd n [bi, bj] ds = true then .nx else .rt (.v (.bool false)), Γ', s) := by
  intro ds
  induction ds with
  | nil => exact fun bi bj a b c e s => ⟨_, rfl⟩
  | cons d ds ih =>
    intro bi bj a b c e s
    by_cases h : isPlayed kd n d = true
    · obtain ⟨i, j, w, rfl⟩ := isPlayed_inv h
      by_cases h2 : leT [i, j] [bi, bj] = true
      · have e1 : arePlayed kd n [bi, bj] (.tuple [.int i, .int j, w] :: ds) = false := by simp [arePlayed, h2]
        refine ⟨[some (.v (.str kd)), some (.v (.int n)), some (.v l), some (.v (.tuple [.int bi, .int bj])), some (.v (.tuple [.int i, .int j, w])), some (.v (.int i)), some (.v (.int j)), some (.v w)], ?_⟩
        rw [forG_cons (Γ1 := [some (.v (.str kd)), some (.v (.int n)), some (.v l), some (.v (.tuple [.int bi, .int bj])), some (.v (.tuple [.int i, .int j, w])), b, c, e]) rfl, bodyAP_le kd hk n bi bj i j w l b c e s h h2, e1]
        rfl
      · have h3 : leT [i, j] [bi, bj] = false := by simpa using h2
        obtain ⟨Γ', q⟩ := ih i j (some (.v (.tuple [.int i, .int j, w]))) (some (.v (.int i))) (some (.v (.int j))) (some (.v w)) s
        refine ⟨Γ', ?_⟩
        have e1 : arePlayed kd n [bi, bj] (.tuple [.int i, .int j, w] :: ds) = arePlayed kd n [i, j] ds := by simp [arePlayed, h, h3]
        rw [forG_cons (Γ1 := [some (.v (.str kd)), some (.v (.int n)), some (.v l), some (.v (.tuple [.int bi, .int bj])), some (.v (.tuple [.int i, .int j, w])), b, c, e]) rfl, bodyAP_go kd hk n bi bj i j w l b c e s h h3, e1, ← q]
    · have h' : isPlayed kd n d = false := by simpa using h
      have e1 : arePlayed kd n [bi, bj] (d :: ds) = false := by
        unfold arePlayed
        split
        · rename_i i j w
          simp [h']
        · rfl
      refine ⟨[some (.v (.str kd)), some (.v (.int n)), some (.v l), some (.v (.tuple [.int bi, .int bj])), some (.v d), b, c, e], ?_⟩
      rw [forG_cons (Γ1 := [some (.v (.str kd)), some (.v (.int n)), some (.v l), some (.v (.tuple [.int bi, .int bj])), some (.v d), b, c, e]) rfl, bodyAP_no kd hk n l d _ b c e s h', e1]
      rfl
theorem b_are : (b__are_played : GS Y) = (sSeq (sSet 3 (FX.gTup (gK (gEsc (gUn fNeg (gC (.int 1)))) (gK (gEsc (gUn fNeg (gC (.int 1)))) gN))))
  (sSeq (sFor (.n 4) (gItL (gV 2)) l__are_played_1) (sRet (gC (.bool true))))) := rfl
theorem are_eq (kd : Str) (hk : SeqAt.shaped (.str kd) = true) (n : Int) (ds : List D) (s : Y.S) : m__are_played [.v (.str kd), .v (.int n), .v (.list ds)] s = some (.ok (.v (.bool (arePlayed kd n [-1, -1] ds))), s) := by
  obtain ⟨Γ', q⟩ := ap_loop kd hk n (.list ds) ds (-1) (-1) none none none none s
  cases h : arePlayed kd n [-1, -1] ds with
  | true =>
    rw [h] at q
    (simp [mOf, bd, bdS, gC, gV, op1, op2, opN, gBin, gUn, gEsc, gN, gK, gCall, FX.gTup, gLst, gDic, gTst, gNot, gAnd, gOr, gAndV, gOrV, gNotV, gIf, gChain, bindT, bindTs, sNil, sSeq, sDrop, sRet, sRetN, sBrk, sCnt, sIf, sStuck, sSet, sUnp, gFn, argR, rdv, Rz.r, fAdd, fSub, fMul, fDiv, fMod, fNeg, fLt, fGt, fGe, fIsN, fNotN, fEq, fNe, fLe, fIn2, fNotIn2, fIx, fLen, fInt, gTyEq, gTyNe, gIsI, gSl, gNoP, gPart, fSl, fRev, fTup, vs?, rdA, zB, tyD, shI, shN, shB, eqvI, eqvS, q__are_played, b_are, sFor, gItL, sizeOk, q] <;> try rfl)
  | false =>
    rw [h] at q
    (simp [mOf, bd, bdS, gC, gV, op1, op2, opN, gBin, gUn, gEsc, gN, gK, gCall, FX.gTup, gLst, gDic, gTst, gNot, gAnd, gOr, gAndV, gOrV, gNotV, gIf, gChain, bindT, bindTs, sNil, sSeq, sDrop, sRet, sRetN, sBrk, sCnt, sIf, sStuck, sSet, sUnp, gFn, argR, rdv, Rz.r, fAdd, fSub, fMul, fDiv, fMod, fNeg, fLt, fGt, fGe, fIsN, fNotN, fEq, fNe, fLe, fIn2, fNotIn2, fIx, fLen, fInt, gTyEq, gTyNe, gIsI, gSl, gNoP, gPart, fSl, fRev, fTup, vs?, rdA, zB, tyD, shI, shN, shB, eqvI, eqvS, q__are_played, b_are, sFor, gItL, sizeOk, q] <;> try rfl)
theorem sh_plain : SeqAt.shaped (.str (Str.ofString "plain")) = true := by decide +kernel
def isKind (z : Str) : Bool := decide (z = Str.ofString "plain") || decide (z = Str.ofString "ties")
def isLeague (d : D) : Bool := match d with
  | .tuple [.str kd, .int n, .list ds] => isKind kd && decide (2 ≤ n) && decide (n ≤ 6) && arePlayed kd n [-1, -1] ds
  | _ => false
theorem worths_eq (z : Str) : (t_WORTHS z).isSome = isKind z := by
  unfold t_WORTHS isKind
  by_cases h1 : z = Str.ofString "plain"
  · simp [h1]
  · by_cases h2 : z = Str.ofString "ties"
    · rw [if_neg h1, if_pos h2]; simp [h2]
    · rw [if_neg h1, if_neg h2]; simp [h1, h2]
theorem kind_sh {z : Str} (h : isKind z = true) : SeqAt.shaped (.str z) = true := by
  unfold isKind at h
  simp only [Bool.or_eq_true, decide_eq_true_eq] at h
  rcases h with rfl | rfl
  · exact sh_plain
  · exact sh_ties
theorem league_eq (d : D) (s : Y.S) : m_is_league [.v d] s = some (.ok (.v (.bool (isLeague d))), s) := by
  cases d with
  | tuple ds =>
    match ds with
    | [] => (simp [mOf, bd, bdS, gC, gV, op1, op2, opN, gBin, gUn, gEsc, gN, gK, gCall, FX.gTup, gLst, gDic, gTst, gNot, gAnd, gOr, gAndV, gOrV, gNotV, gIf, gChain, bindT, bindTs, sNil, sSeq, sDrop, sRet, sRetN, sBrk, sCnt, sIf, sStuck, sSet, sUnp, gFn, argR, rdv, Rz.r, fAdd, fSub, fMul, fDiv, fMod, fNeg, fLt, fGt, fGe, fIsN, fNotN, fEq, fNe, fLe, fIn2, fNotIn2, fIx, fLen, fInt, gTyEq, gTyNe, gIsI, gSl, gNoP, gPart, fSl, fRev, fTup, vs?, rdA, zB, tyD, shI, shN, shB, eqvI, eqvS, q_is_league, b_is_league, tup3_eq, isTupOf, isLeague] <;> try rfl)
    | [a] => (simp [mOf, bd, bdS, gC, gV, op1, op2, opN, gBin, gUn, gEsc, gN, gK, gCall, FX.gTup, gLst, gDic, gTst, gNot, gAnd, gOr, gAndV, gOrV, gNotV, gIf, gChain, bindT, bindTs, sNil, sSeq, sDrop, sRet, sRetN, sBrk, sCnt, sIf, sStuck, sSet, sUnp, gFn, argR, rdv, Rz.r, fAdd, fSub, fMul, fDiv, fMod, fNeg, fLt, fGt, fGe, fIsN, fNotN, fEq, fNe, fLe, fIn2, fNotIn2, fIx, fLen, fInt, gTyEq, gTyNe, gIsI, gSl, gNoP, gPart, fSl, fRev, fTup, vs?, rdA, zB, tyD, shI, shN, shB, eqvI, eqvS, q_is_league, b_is_league, tup3_eq, isTupOf, isLeague] <;> try rfl)
    | [a, b] => (simp [mOf, bd, bdS, gC, gV, op1, op2, opN, gBin, gUn, gEsc, gN, gK, gCall, FX.gTup, gLst, gDic, gTst, gNot, gAnd, gOr, gAndV, gOrV, gNotV, gIf, gChain, bindT, bindTs, sNil, sSeq, sDrop, sRet, sRetN, sBrk, sCnt, sIf, sStuck, sSet, sUnp, gFn, argR, rdv, Rz.r, fAdd, fSub, fMul, fDiv, fMod, fNeg, fLt, fGt, fGe, fIsN, fNotN, fEq, fNe, fLe, fIn2, fNotIn2, fIx, fLen, fInt, gTyEq, gTyNe, gIsI, gSl, gNoP, gPart, fSl, fRev, fTup, vs?, rdA, zB, tyD, shI, shN, shB, eqvI, eqvS, q_is_league, b_is_league, tup3_eq, isTupOf, isLeague] <;> try rfl)
    | a :: b :: c :: e :: l => (simp [mOf, bd, bdS, gC, gV, op1, op2, opN, gBin, gUn, gEsc, gN, gK, gCall, FX.gTup, gLst, gDic, gTst, gNot, gAnd, gOr, gAndV, gOrV, gNotV, gIf, gChain, bindT, bindTs, sNil, sSeq, sDrop, sRet, sRetN, sBrk, sCnt, sIf, sStuck, sSet, sUnp, gFn, argR, rdv, Rz.r, fAdd, fSub, fMul, fDiv, fMod, fNeg, fLt, fGt, fGe, fIsN, fNotN, fEq, fNe, fLe, fIn2, fNotIn2, fIx, fLen, fInt, gTyEq, gTyNe, gIsI, gSl, gNoP, gPart, fSl, fRev, fTup, vs?, rdA, zB, tyD, shI, shN, shB, eqvI, eqvS, q_is_league, b_is_league, tup3_eq, isTupOf, isLeague] <;> try rfl)
    | [a, b, c] =>
      cases a with
      | str z =>
        cases hz : isKind z with
        | true =>
          cases b with
          | int n =>
            by_cases h1 : 2 ≤ n
            · by_cases h2 : n ≤ 6
              · cases c with
                | list l => (simp [mOf, bd, bdS, gC, gV, op1, op2, opN, gBin, gUn, gEsc, gN, gK, gCall, FX.gTup, gLst, gDic, gTst, gNot, gAnd, gOr, gAndV, gOrV, gNotV, gIf, gChain, bindT, bindTs, sNil, sSeq, sDrop, sRet, sRetN, sBrk, sCnt, sIf, sStuck, sSet, sUnp, gFn, argR, rdv, Rz.r, fAdd, fSub, fMul, fDiv, fMod, fNeg, fLt, fGt, fGe, fIsN, fNotN, fEq, fNe, fLe, fIn2, fNotIn2, fIx, fLen, fInt, gTyEq, gTyNe, gIsI, gSl, gNoP, gPart, fSl, fRev, fTup, vs?, rdA, zB, tyD, shI, shN, shB, eqvI, eqvS, q_is_league, b_is_league, tup3_eq, isTupOf, isLeague, fKNotIn, worths_eq, hz, whole_eq, isWhole, h1, h2, are_eq z (kind_sh hz) n l] <;> try rfl)
                | _ => (simp [mOf, bd, bdS, gC, gV, op1, op2, opN, gBin, gUn, gEsc, gN, gK, gCall, FX.gTup, gLst, gDic, gTst, gNot, gAnd, gOr, gAndV, gOrV, gNotV, gIf, gChain, bindT, bindTs, sNil, sSeq, sDrop, sRet, sRetN, sBrk, sCnt, sIf, sStuck, sSet, sUnp, gFn, argR, rdv, Rz.r, fAdd, fSub, fMul, fDiv, fMod, fNeg, fLt, fGt, fGe, fIsN, fNotN, fEq, fNe, fLe, fIn2, fNotIn2, fIx, fLen, fInt, gTyEq, gTyNe, gIsI, gSl, gNoP, gPart, fSl, fRev, fTup, vs?, rdA, zB, tyD, shI, shN, shB, eqvI, eqvS, q_is_league, b_is_league, tup3_eq, isTupOf, isLeague, fKNotIn, worths_eq, hz, whole_eq, isWhole, h1, h2] <;> try rfl)
              · (simp [mOf, bd, bdS, gC, gV, op1, op2, opN, gBin, gUn, gEsc, gN, gK, gCall, FX.gTup, gLst, gDic, gTst, gNot, gAnd, gOr, gAndV, gOrV, gNotV, gIf, gChain, bindT, bindTs, sNil, sSeq, sDrop, sRet, sRetN, sBrk, sCnt, sIf, sStuck, sSet, sUnp, gFn, argR, rdv, Rz.r, fAdd, fSub, fMul, fDiv, fMod, fNeg, fLt, fGt, fGe, fIsN, fNotN, fEq, fNe, fLe, fIn2, fNotIn2, fIx, fLen, fInt, gTyEq, gTyNe, gIsI, gSl, gNoP, gPart, fSl, fRev, fTup, vs?, rdA, zB, tyD, shI, shN, shB, eqvI, eqvS, q_is_league, b_is_league, tup3_eq, isTupOf, isLeague, fKNotIn, worths_eq, hz, whole_eq, isWhole, h1, h2] <;> try rfl)
                cases c <;> simp [h2]
            · (simp [mOf, bd, bdS, gC, gV, op1, op2, opN, gBin, gUn, gEsc, gN, gK, gCall, FX.gTup, gLst, gDic, gTst, gNot, gAnd, gOr, gAndV, gOrV, gNotV, gIf, gChain, bindT, bindTs, sNil, sSeq, sDrop, sRet, sRetN, sBrk, sCnt, sIf, sStuck, sSet, sUnp, gFn, argR, rdv, Rz.r, fAdd, fSub, fMul, fDiv, fMod, fNeg, fLt, fGt, fGe, fIsN, fNotN, fEq, fNe, fLe, fIn2, fNotIn2, fIx, fLen, fInt, gTyEq, gTyNe, gIsI, gSl, gNoP, gPart, fSl, fRev, fTup, vs?, rdA, zB, tyD, shI, shN, shB, eqvI, eqvS, q_is_league, b_is_league, tup3_eq, isTupOf, isLeague, fKNotIn, worths_eq, hz, whole_eq, isWhole, h1] <;> try rfl)
              cases c <;> simp [h1]
          | _ => (simp [mOf, bd, bdS, gC, gV, op1, op2, opN, gBin, gUn, gEsc, gN, gK, gCall, FX.gTup, gLst, gDic, gTst, gNot, gAnd, gOr, gAndV, gOrV, gNotV, gIf, gChain, bindT, bindTs, sNil, sSeq, sDrop, sRet, sRetN, sBrk, sCnt, sIf, sStuck, sSet, sUnp, gFn, argR, rdv, Rz.r, fAdd, fSub, fMul, fDiv, fMod, fNeg, fLt, fGt, fGe, fIsN, fNotN, fEq, fNe, fLe, fIn2, fNotIn2, fIx, fLen, fInt, gTyEq, gTyNe, gIsI, gSl, gNoP, gPart, fSl, fRev, fTup, vs?, rdA, zB, tyD, shI, shN, shB, eqvI, eqvS, q_is_league, b_is_league, tup3_eq, isTupOf, isLeague, fKNotIn, worths_eq, hz, whole_eq, isWhole] <;> try rfl)
        | false =>
          (simp [mOf, bd, bdS, gC, gV, op1, op2, opN, gBin, gUn, gEsc, gN, gK, gCall, FX.gTup, gLst, gDic, gTst, gNot, gAnd, gOr, gAndV, gOrV, gNotV, gIf, gChain, bindT, bindTs, sNil, sSeq, sDrop, sRet, sRetN, sBrk, sCnt, sIf, sStuck, sSet, sUnp, gFn, argR, rdv, Rz.r, fAdd, fSub, fMul, fDiv, fMod, fNeg, fLt, fGt, fGe, fIsN, fNotN, fEq, fNe, fLe, fIn2, fNotIn2, fIx, fLen, fInt, gTyEq, gTyNe, gIsI, gSl, gNoP, gPart, fSl, fRev, fTup, vs?, rdA, zB, tyD, shI, shN, shB, eqvI, eqvS, q_is_league, b_is_league, tup3_eq, isTupOf, isLeague, fKNotIn, worths_eq, hz] <;> try rfl)
          cases b <;> try (cases c <;> simp [hz])
      | _ => (simp [mOf, bd, bdS, gC, gV, op1, op2, opN, gBin, gUn, gEsc, gN, gK, gCall, FX.gTup, gLst, gDic, gTst, gNot, gAnd, gOr, gAndV, gOrV, gNotV, gIf, gChain, bindT, bindTs, sNil, sSeq, sDrop, sRet, sRetN, sBrk, sCnt, sIf, sStuck, sSet, sUnp, gFn, argR, rdv, Rz.r, fAdd, fSub, fMul, fDiv, fMod, fNeg, fLt, fGt, fGe, fIsN, fNotN, fEq, fNe, fLe, fIn2, fNotIn2, fIx, fLen, fInt, gTyEq, gTyNe, gIsI, gSl, gNoP, gPart, fSl, fRev, fTup, vs?, rdA, zB, tyD, shI, shN, shB, eqvI, eqvS, q_is_league, b_is_league, tup3_eq, isTupOf, isLeague] <;> try rfl)
  | _ => (simp [mOf, bd, bdS, gC, gV, op1, op2, opN, gBin, gUn, gEsc, gN, gK, gCall, FX.gTup, gLst, gDic, gTst, gNot, gAnd, gOr, gAndV, gOrV, gNotV, gIf, gChain, bindT, bindTs, sNil, sSeq, sDrop, sRet, sRetN, sBrk, sCnt, sIf, sStuck, sSet, sUnp, gFn, argR, rdv, Rz.r, fAdd, fSub, fMul, fDiv, fMod, fNeg, fLt, fGt, fGe, fIsN, fNotN, fEq, fNe, fLe, fIn2, fNotIn2, fIx, fLen, fInt, gTyEq, gTyNe, gIsI, gSl, gNoP, gPart, fSl, fRev, fTup, vs?, rdA, zB, tyD, shI, shN, shB, eqvI, eqvS, q_is_league, b_is_league, tup3_eq, isTupOf, isLeague] <;> try rfl)
end
end FX.Pg

set_option Elab.async false
set_option linter.all false
set_option maxRecDepth 100000
namespace FX.Pg
open PySem PySem.Spec L2 FX
inductive O3 where
  | a | t | b
deriving DecidableEq, Repr
def O3.d (i j : Int) : O3 → D
  | .a => .int i
  | .t => .none
  | .b => .int j
def kindS (t : Bool) : Str := if t = true then Str.ofString "ties" else Str.ofString "plain"
def pairsI (n : Nat) : List (Int × Int) := (List.range n).flatMap fun (i : Nat) => (List.range (n - 1 - i)).map fun (k : Nat) => ((i : Int), (i : Int) + 1 + (k : Int))
def encP : List (Int × Int) → List (Option O3) → List D
  | p :: ps, some o :: v => .tuple [.int p.1, .int p.2, o.d p.1 p.2] :: encP ps v
  | _ :: ps, none :: v => encP ps v
  | _, _ => []
theorem encP_nil (v : List (Option O3)) : encP [] v = [] := by cases v <;> rfl
theorem encP_append : ∀ (ps qs : List (Int × Int)) (v u : List (Option O3)), ps.length = v.length → encP (ps ++ qs) (v ++ u) = encP ps v ++ encP qs u
  | [], qs, [], u, _ => by simp [encP]
  | p :: ps, qs, some o :: v, u, h => by simp [encP, encP_append ps qs v u (by simpa using h)]
  | p :: ps, qs, none :: v, u, h => by simp [encP, encP_append ps qs v u (by simpa using h)]
structure Lg where
  t : Bool
  n : Nat
  v : List (Option O3)
def Lg.pl (l : Lg) : List D := encP (pairsI l.n) l.v
def Lg.d (l : Lg) : D := .tuple [.str (kindS l.t), .int (l.n : Nat), .list l.pl]
structure Lg.Ok (l : Lg) : Prop where
  h2 : 2 ≤ l.n
  h6 : l.n ≤ 6
  len : l.v.length = (pairsI l.n).length
  tie : l.t = false → some O3.t ∉ l.v
theorem kindS_isKind (t : Bool) : isKind (kindS t) = true := by cases t <;> decide +kernel
theorem kindS_sh (t : Bool) : SeqAt.shaped (.str (kindS t)) = true := kind_sh (kindS_isKind t)
theorem kindS_ties (t : Bool) : decide (kindS t = Str.ofString "ties") = t := by cases t <;> decide +kernel
theorem kindS_plain (t : Bool) : decide (kindS t = Str.ofString "plain") = !t := by cases t <;> decide +kernel
theorem ne_pt : (Str.ofString "ties" = Str.ofString "plain") = False := by
  simp only [eq_iff_iff, iff_false]; decide +kernel
theorem ncases {n : Nat} (h2 : 2 ≤ n) (h6 : n ≤ 6) : n = 2 ∨ n = 3 ∨ n = 4 ∨ n = 5 ∨ n = 6 := by omega
section
variable {Y : Sys}
theorem pairs_eq {n : Nat} (h2 : 2 ≤ n) (h6 : n ≤ 6) (s : Y.S) : m__law_pairs [.v (.int (n : Nat))] s = some (.ok (.o (.list ((pairsI n).map prD))), s) := by
  rw [q__law_pairs]
  rcases ncases h2 h6 with rfl | rfl | rfl | rfl | rfl <;> rfl
end
/-- pairs rise, and are players' -/
def riseP (n : Int) : Int × Int → List (Int × Int) → Prop
  | _, [] => True
  | b, p :: ps => 0 ≤ p.1 ∧ p.1 < p.2 ∧ p.2 < n ∧ (b.1 < p.1 ∨ b.1 = p.1 ∧ b.2 < p.2) ∧ riseP n p ps
instance : ∀ (n : Int) (b : Int × Int) (ps : List (Int × Int)), Decidable (riseP n b ps)
  | _, _, [] => .isTrue trivial
  | n, b, p :: ps => by
    have := instDecidableRiseP n p ps
    unfold riseP
    infer_instance
theorem pairs_rise {n : Nat} (h2 : 2 ≤ n) (h6 : n ≤ 6) : riseP n (-1, -1) (pairsI n) := by
  rcases ncases h2 h6 with rfl | rfl | rfl | rfl | rfl <;> decide +kernel
theorem leT2 (a b c d : Int) : leT [a, b] [c, d] = (decide (a < c) || (decide (a = c) && decide (b ≤ d))) := by
  unfold leT
  simp only [List.length_cons, List.length_nil, Nat.zero_add, Nat.min_self]
  unfold Ob.lexAt
  simp
  by_cases h : a = c
  · subst h
    simp [Ob.lexAt]
    by_cases h2 : b = d
    · subst h2; simp [Ob.lexAt]
    · simp [h2]
  · simp [h]; omega
theorem isOutcome_o {t : Bool} {i j : Int} {o : O3} (h : t = false → o ≠ .t) : isOutcome (kindS t) i j (o.d i j) = true := by
  cases o with
  | a => simp [O3.d, isOutcome]
  | b => simp [O3.d, isOutcome]
  | t =>
    cases t with
    | true => exact kindS_ties true
    | false => exact absurd rfl (h rfl)
theorem rise_le {n : Int} {b p : Int × Int} (h : b.1 < p.1 ∨ b.1 = p.1 ∧ b.2 < p.2) {ps : List (Int × Int)} (r : riseP n p ps) : riseP n b ps := by
  cases ps with
  | nil => trivial
  | cons q ps =>
    obtain ⟨a, c, d, e, f⟩ := r
    refine ⟨a, c, d, ?_, f⟩
    rcases h with h | h <;> rcases e with e | e <;> omega
theorem arePlayed_enc {t : Bool} {n : Int} : ∀ (ps : List (Int × Int)) (v : List (Option O3)) (b : Int × Int), riseP n b ps → (t = false → some O3.t ∉ v) → arePlayed (kindS t) n [b.1, b.2] (encP ps v) = true
  | [], v, b, _, _ => by rw [encP_nil]; rfl
  | p :: ps, [], b, _, _ => rfl
  | p :: ps, none :: v, b, r, h => by
    simp only [encP]
    exact arePlayed_enc ps v b (rise_le r.2.2.2.1 r.2.2.2.2) fun z q => h z (by simp [q])
  | p :: ps, some o :: v, b, r, h => by
    simp only [encP]
    obtain ⟨a, c, d, e, f⟩ := r
    have ih := arePlayed_enc ps v p f fun z q => h z (by simp [q])
    have ho : isOutcome (kindS t) p.1 p.2 (o.d p.1 p.2) = true := isOutcome_o fun z q => h z (by simp [q])
    unfold arePlayed
    simp only [ih, isPlayed, isPlayer, ho, leT2]
    rcases e with e | e
    · simp; omega
    · simp; omega
theorem Lg.Ok.isLeague {l : Lg} (h : l.Ok) : isLeague l.d = true := by
  have h1 := arePlayed_enc (t := l.t) (n := l.n) (pairsI l.n) l.v (-1, -1) (pairs_rise h.h2 h.h6) h.tie
  have h2 := h.h2
  have h3 := h.h6
  have e : arePlayed (kindS l.t) (l.n : Nat) [-1, -1] l.pl = true := h1
  unfold Lg.d Pg.isLeague
  simp only [kindS_isKind, e]
  simp; omega
section
variable {K : PySem.W.Frag} {sa : Addr} {ns : List Int}
theorem outcome_ok {d : Dk} (hd : d.Ok) (t : Bool) (i j : Int) : ∃ (o : O3) (d' : Dk), m__law_outcome (K := K) (sa := sa) (ns := ns) [.h 0, .v (.str (kindS t)), .v (.int i), .v (.int j)] (dS d) =
    some (.ok (.v (o.d i j)), dS d') ∧ (t = false → o ≠ .t) ∧ d'.Ok := by
  obtain ⟨x, d', e, hx, hd'⟩ := draw_ok (K := K) (sa := sa) (ns := ns) hd (m := 3) (by decide) (by decide)
  have : x = 0 ∨ x = 1 ∨ x = 2 := by omega
  rcases this with rfl | rfl | rfl
  · refine ⟨.a, d', ?_, by simp, hd'⟩
    cases t <;> (simp [mOf, bd, bdS, gC, gV, op1, op2, opN, gBin, gUn, gEsc, gN, gK, gCall, FX.gTup, gLst, gDic, gTst, gNot, gAnd, gOr, gAndV, gOrV, gNotV, gIf, gChain, bindT, bindTs, sNil, sSeq, sDrop, sRet, sRetN, sBrk, sCnt, sIf, sStuck, sSet, sUnp, gFn, argR, rdv, Rz.r, fAdd, fSub, fMul, fDiv, fMod, fNeg, fLt, fGt, fGe, fIsN, fNotN, fEq, fNe, fLe, fIn2, fNotIn2, fIx, fLen, fInt, gTyEq, gTyNe, gIsI, gSl, gNoP, gPart, fSl, fRev, fTup, vs?, rdA, zB, tyD, shI, shN, shB, eqvI, eqvS, q__law_outcome, b__law_outcome, e, kindS_sh, sh_plain, sh_ties, O3.d, sizeOk, kindS, ne_pt, atI, ixN] <;> try rfl) <;> rfl
  · refine ⟨.b, d', ?_, by simp, hd'⟩
    cases t <;> (simp [mOf, bd, bdS, gC, gV, op1, op2, opN, gBin, gUn, gEsc, gN, gK, gCall, FX.gTup, gLst, gDic, gTst, gNot, gAnd, gOr, gAndV, gOrV, gNotV, gIf, gChain, bindT, bindTs, sNil, sSeq, sDrop, sRet, sRetN, sBrk, sCnt, sIf, sStuck, sSet, sUnp, gFn, argR, rdv, Rz.r, fAdd, fSub, fMul, fDiv, fMod, fNeg, fLt, fGt, fGe, fIsN, fNotN, fEq, fNe, fLe, fIn2, fNotIn2, fIx, fLen, fInt, gTyEq, gTyNe, gIsI, gSl, gNoP, gPart, fSl, fRev, fTup, vs?, rdA, zB, tyD, shI, shN, shB, eqvI, eqvS, q__law_outcome, b__law_outcome, e, kindS_sh, sh_plain, sh_ties, O3.d, sizeOk, kindS, ne_pt, atI, ixN] <;> try rfl) <;> rfl
  · cases t with
    | true =>
      refine ⟨.t, d', ?_, by simp, hd'⟩
      (simp [mOf, bd, bdS, gC, gV, op1, op2, opN, gBin, gUn, gEsc, gN, gK, gCall, FX.gTup, gLst, gDic, gTst, gNot, gAnd, gOr, gAndV, gOrV, gNotV, gIf, gChain, bindT, bindTs, sNil, sSeq, sDrop, sRet, sRetN, sBrk, sCnt, sIf, sStuck, sSet, sUnp, gFn, argR, rdv, Rz.r, fAdd, fSub, fMul, fDiv, fMod, fNeg, fLt, fGt, fGe, fIsN, fNotN, fEq, fNe, fLe, fIn2, fNotIn2, fIx, fLen, fInt, gTyEq, gTyNe, gIsI, gSl, gNoP, gPart, fSl, fRev, fTup, vs?, rdA, zB, tyD, shI, shN, shB, eqvI, eqvS, q__law_outcome, b__law_outcome, e, kindS_sh, sh_plain, sh_ties, O3.d, sizeOk, kindS, ne_pt, atI, ixN] <;> try rfl) <;> rfl
    | false =>
      refine ⟨.a, d', ?_, by simp, hd'⟩
      (simp [mOf, bd, bdS, gC, gV, op1, op2, opN, gBin, gUn, gEsc, gN, gK, gCall, FX.gTup, gLst, gDic, gTst, gNot, gAnd, gOr, gAndV, gOrV, gNotV, gIf, gChain, bindT, bindTs, sNil, sSeq, sDrop, sRet, sRetN, sBrk, sCnt, sIf, sStuck, sSet, sUnp, gFn, argR, rdv, Rz.r, fAdd, fSub, fMul, fDiv, fMod, fNeg, fLt, fGt, fGe, fIsN, fNotN, fEq, fNe, fLe, fIn2, fNotIn2, fIx, fLen, fInt, gTyEq, gTyNe, gIsI, gSl, gNoP, gPart, fSl, fRev, fTup, vs?, rdA, zB, tyD, shI, shN, shB, eqvI, eqvS, q__law_outcome, b__law_outcome, e, kindS_sh, sh_plain, sh_ties, O3.d, sizeOk, kindS, ne_pt, atI, ixN] <;> try rfl) <;> rfl
end
end FX.Pg

set_option Elab.async false
set_option linter.all false
set_option maxRecDepth 100000
namespace FX.Pg
open PySem PySem.Spec L2 FX
section
variable {K : PySem.W.Frag} {sa : Addr} {ns : List Int}
/-- the state of the loop: done the pairs gone through -/
structure SlI (t : Bool) (n : Nat) (way most : Nat) (ps : List (Int × Int)) (rest : List D) (Γ : Ev) (s : (DkY K sa ns).S) : Prop where
  ex : ∃ (dn rs : List (Int × Int)) (v : List (Option O3)) (x6 x7 x8 : Option R) (d : Dk), ps = dn ++ rs ∧ rest = enumD dn.length (rs.map prD) ∧
    Γ = [some (.h 0), some (.v (.str (kindS t))), some (.v (.int (n : Nat))), some (.v (.int (way : Nat))), some (.v (.int (most : Nat))), some (.o (.list (encP dn v))), x6, x7, x8] ∧
    s = dS d ∧ d.Ok ∧ v.length = dn.length ∧ (t = false → some O3.t ∉ v)
theorem encP_len : ∀ (ps : List (Int × Int)) (v : List (Option O3)), (encP ps v).length ≤ ps.length
  | [], v => by rw [encP_nil]; simp
  | p :: ps, [] => by simp [encP]
  | p :: ps, none :: v => by
    have := encP_len ps v
    simp only [encP, List.length_cons]; omega
  | p :: ps, some o :: v => by
    have := encP_len ps v
    simp only [encP, List.length_cons]; omega
theorem sl_body (t : Bool) (n way most : Nat) (hw : way < 5) (k : Nat) (p : Int × Int) (acc : List D) (ha : acc.length ≤ 1000) (x6 x7 x8 : Option R) (d : Dk) (hd : d.Ok) :
    ∃ (o : Option O3) (z6 z7 z8 : Option R) (d' : Dk), l__law_some_league_1 (K := K) (sa := sa) (ns := ns)
      [some (.h 0), some (.v (.str (kindS t))), some (.v (.int (n : Nat))), some (.v (.int (way : Nat))), some (.v (.int (most : Nat))), some (.o (.list acc)), some (.v (.int (k : Nat))), some (.v (prD p)), x8] (dS d) =
      some (.nx, [some (.h 0), some (.v (.str (kindS t))), some (.v (.int (n : Nat))), some (.v (.int (way : Nat))), some (.v (.int (most : Nat))), some (.o (.list (acc ++ encP [p] [o]))), z6, z7, z8], dS d') ∧ (t = false → o ≠ some .t) ∧ d'.Ok := by
  obtain ⟨y1, d1, e1, hy1, hd1⟩ := draw_ok (K := K) (sa := sa) (ns := ns) hd (m := 2) (by decide) (by decide)
  obtain ⟨y2, d2, e2, hy2, hd2⟩ := draw_ok (K := K) (sa := sa) (ns := ns) hd1 (m := 5) (by decide) (by decide)
  obtain ⟨o, d3, e3, ho, hd3⟩ := outcome_ok (K := K) (sa := sa) (ns := ns) hd2 t p.1 p.2
  have key : ∃ b : Bool, atI [PyData.bool false, PyData.bool true, PyData.bool (decide (y1 = 0)), PyData.bool (decide (y2 = 0)), PyData.bool (decide (k < most))] (way : Int) = some (.bool b) := by
    rw [atI_nat]
    have : way = 0 ∨ way = 1 ∨ way = 2 ∨ way = 3 ∨ way = 4 := by omega
    rcases this with rfl | rfl | rfl | rfl | rfl <;> exact ⟨_, rfl⟩
  obtain ⟨b, hb⟩ := key
  cases b with
  | false =>
    refine ⟨none, some (.v (.int (k : Nat))), some (.v (prD p)), some (.v (.bool false)), d2, ?_, by simp, hd2⟩
    (simp [mOf, bd, bdS, gC, gV, op1, op2, opN, gBin, gUn, gEsc, gN, gK, gCall, FX.gTup, gLst, gDic, gTst, gNot, gAnd, gOr, gAndV, gOrV, gNotV, gIf, gChain, bindT, bindTs, sNil, sSeq, sDrop, sRet, sRetN, sBrk, sCnt, sIf, sStuck, sSet, sUnp, gFn, argR, rdv, Rz.r, fAdd, fSub, fMul, fDiv, fMod, fNeg, fLt, fGt, fGe, fIsN, fNotN, fEq, fNe, fLe, fIn2, fNotIn2, fIx, fLen, fInt, gTyEq, gTyNe, gIsI, gSl, gNoP, gPart, fSl, fRev, fTup, vs?, rdA, zB, tyD, shI, shN, shB, eqvI, eqvS, l__law_some_league_1, e1, e2, hb, sizeOk, encP] <;> try rfl)
  | true =>
    refine ⟨some o, some (.v (.int (k : Nat))), some (.v (prD p)), some (.v (.bool true)), d3, ?_, by simpa using ho, hd3⟩
    have a0 : atI [PyData.int p.1, PyData.int p.2] 0 = some (.int p.1) := rfl
    have a1 : atI [PyData.int p.1, PyData.int p.2] 1 = some (.int p.2) := rfl
    have hz : acc.length ≤ 1000000 := by omega
    (simp [mOf, bd, bdS, gC, gV, op1, op2, opN, gBin, gUn, gEsc, gN, gK, gCall, FX.gTup, gLst, gDic, gTst, gNot, gAnd, gOr, gAndV, gOrV, gNotV, gIf, gChain, bindT, bindTs, sNil, sSeq, sDrop, sRet, sRetN, sBrk, sCnt, sIf, sStuck, sSet, sUnp, gFn, argR, rdv, Rz.r, fAdd, fSub, fMul, fDiv, fMod, fNeg, fLt, fGt, fGe, fIsN, fNotN, fEq, fNe, fLe, fIn2, fNotIn2, fIx, fLen, fInt, gTyEq, gTyNe, gIsI, gSl, gNoP, gPart, fSl, fRev, fTup, vs?, rdA, zB, tyD, shI, shN, shB, eqvI, eqvS, l__law_some_league_1, e1, e2, hb, sizeOk, encP, gApp, prD, a0, a1, e3, hz] <;> try rfl)
theorem enumD_cons (k : Nat) (d : D) (ds : List D) : enumD k (d :: ds) = .tuple [.int (k : Nat), d] :: enumD (k + 1) ds := rfl
theorem pairs_len {n : Nat} (h2 : 2 ≤ n) (h6 : n ≤ 6) : (pairsI n).length ≤ 15 := by
  rcases ncases h2 h6 with rfl | rfl | rfl | rfl | rfl <;> decide +kernel
theorem sl_loop (t : Bool) (n way most : Nat) (hw : way < 5) (h2 : 2 ≤ n) (h6 : n ≤ 6) (ds : List D) (Γ : Ev) (s : (DkY K sa ns).S) (h : SlI t n way most (pairsI n) ds Γ s) :
    ∃ Γ' s', forG (.t (.cons (.n 6) (.cons (.n 7) .nil))) l__law_some_league_1 ds Γ s = some (.nx, Γ', s') ∧ SlI t n way most (pairsI n) [] Γ' s' := by
  refine forG_nx (SlI t n way most (pairsI n)) (fun d0 ds Γ s h => ?_) ds Γ s h
  obtain ⟨dn, rs, v, x6, x7, x8, d, hp, hr, rfl, rfl, hd, hv, ht⟩ := h.ex
  cases rs with
  | nil => cases hr
  | cons p rs =>
    rw [List.map_cons, enumD_cons] at hr
    cases hr
    have hl := pairs_len h2 h6
    have hl2 := encP_len dn v
    rw [hp] at hl
    simp only [List.length_append] at hl
    obtain ⟨o, y6, y7, y8, d', e, ho, hd'⟩ := sl_body (K := K) (sa := sa) (ns := ns) t n way most hw dn.length p (encP dn v) (by omega) x6 x7 x8 d hd
    refine ⟨_, _, _, rfl, e, ⟨dn ++ [p], rs, v ++ [o], y6, y7, y8, d', by rw [hp]; simp, by simp, ?_, rfl, hd', by simp [hv], fun z q => ?_⟩⟩
    · rw [encP_append _ _ _ _ hv.symm]
    · rcases List.mem_append.mp q with q | q
      · exact ht z q
      · simp at q; exact ho z q.symm
theorem some_league_ok {d : Dk} (hd : d.Ok) : ∃ (l : Lg) (d' : Dk), l.Ok ∧ d'.Ok ∧ m__law_some_league (K := K) (sa := sa) (ns := ns) [.h 0] (dS d) = some (.ok (.v l.d), dS d') := by
  obtain ⟨y1, d1, e1, hy1, hd1⟩ := draw_ok (K := K) (sa := sa) (ns := ns) hd (m := 2) (by decide) (by decide)
  obtain ⟨y2, d2, e2, hy2, hd2⟩ := draw_ok (K := K) (sa := sa) (ns := ns) hd1 (m := 5) (by decide) (by decide)
  obtain ⟨y3, d3, e3, hy3, hd3⟩ := draw_ok (K := K) (sa := sa) (ns := ns) hd2 (m := 3) (by decide) (by decide)
  obtain ⟨y4, d4, e4, hy4, hd4⟩ := draw_ok (K := K) (sa := sa) (ns := ns) hd3 (m := 3) (by decide) (by decide)
  obtain ⟨y5, d5, e5, hy5, hd5⟩ := draw_ok (K := K) (sa := sa) (ns := ns) hd4 (m := 5) (by decide) (by decide)
  obtain ⟨y6, d6, e6, hy6, hd6⟩ := draw_ok (K := K) (sa := sa) (ns := ns) hd5 (m := 16) (by decide) (by decide)
  have k1 : ∃ t : Bool, atI [PyData.str (Str.ofString "plain"), PyData.str (Str.ofString "ties")] (y1 : Int) = some (.str (kindS t)) := by
    rw [atI_nat]
    have : y1 = 0 ∨ y1 = 1 := by omega
    rcases this with rfl | rfl
    · exact ⟨false, rfl⟩
    · exact ⟨true, rfl⟩
  have k2 : ∃ n : Nat, 2 ≤ n ∧ n ≤ 6 ∧ atI [PyData.int (2 + (y2 : Int)), PyData.int 6, PyData.int (4 + (y3 : Int))] (y4 : Int) = some (.int (n : Nat)) := by
    rw [atI_nat]
    have : y4 = 0 ∨ y4 = 1 ∨ y4 = 2 := by omega
    rcases this with rfl | rfl | rfl
    · exact ⟨2 + y2, by omega, by omega, rfl⟩
    · exact ⟨6, by omega, by omega, rfl⟩
    · exact ⟨4 + y3, by omega, by omega, rfl⟩
  obtain ⟨t, k1⟩ := k1
  obtain ⟨n, h2, h6, k2⟩ := k2
  obtain ⟨Γ', s', el, hI⟩ := sl_loop (K := K) (sa := sa) (ns := ns) t n y5 y6 (by omega) h2 h6 (enumD 0 ((pairsI n).map prD))
    [some (.h 0), some (.v (.str (kindS t))), some (.v (.int (n : Nat))), some (.v (.int (y5 : Nat))), some (.v (.int (y6 : Nat))), some (.o (.list [])), none, none, none] (dS d6)
    ⟨[], pairsI n, [], none, none, none, d6, rfl, rfl, rfl, rfl, hd6, rfl, by simp⟩
  obtain ⟨dn, rs, v, x6, x7, x8, d', hp, hr, rfl, rfl, hd', hv, ht⟩ := hI.ex
  cases rs with
  | cons p rs => cases hr
  | nil =>
    rw [List.append_nil] at hp
    subst hp
    refine ⟨⟨t, n, v⟩, d', ⟨h2, h6, hv, ht⟩, hd', ?_⟩
    rw [q__law_some_league]
    refine fin_of (body := b__law_some_league) ?_
    unfold b__law_some_league
    (refine' Eq.trans (congrArg FX.fin (FX.seq_nx ?hst)) ?_; (case hst => (simp [mOf, bd, bdS, gC, gV, op1, op2, opN, gBin, gUn, gEsc, gN, gK, gCall, FX.gTup, gLst, gDic, gTst, gNot, gAnd, gOr, gAndV, gOrV, gNotV, gIf, gChain, bindT, bindTs, sNil, sSeq, sDrop, sRet, sRetN, sBrk, sCnt, sIf, sStuck, sSet, sUnp, gFn, argR, rdv, Rz.r, fAdd, fSub, fMul, fDiv, fMod, fNeg, fLt, fGt, fGe, fIsN, fNotN, fEq, fNe, fLe, fIn2, fNotIn2, fIx, fLen, fInt, gTyEq, gTyNe, gIsI, gSl, gNoP, gPart, fSl, fRev, fTup, vs?, rdA, zB, tyD, shI, shN, shB, eqvI, eqvS, e1, k1, sizeOk]; try exact ⟨rfl, rfl⟩)))
    (refine' Eq.trans (congrArg FX.fin (FX.seq_nx ?hst)) ?_; (case hst => (simp [mOf, bd, bdS, gC, gV, op1, op2, opN, gBin, gUn, gEsc, gN, gK, gCall, FX.gTup, gLst, gDic, gTst, gNot, gAnd, gOr, gAndV, gOrV, gNotV, gIf, gChain, bindT, bindTs, sNil, sSeq, sDrop, sRet, sRetN, sBrk, sCnt, sIf, sStuck, sSet, sUnp, gFn, argR, rdv, Rz.r, fAdd, fSub, fMul, fDiv, fMod, fNeg, fLt, fGt, fGe, fIsN, fNotN, fEq, fNe, fLe, fIn2, fNotIn2, fIx, fLen, fInt, gTyEq, gTyNe, gIsI, gSl, gNoP, gPart, fSl, fRev, fTup, vs?, rdA, zB, tyD, shI, shN, shB, eqvI, eqvS, e2, e3, e4, k2, sizeOk]; try exact ⟨rfl, rfl⟩)))
    (refine' Eq.trans (congrArg FX.fin (FX.seq_nx ?hst)) ?_; (case hst => (simp [mOf, bd, bdS, gC, gV, op1, op2, opN, gBin, gUn, gEsc, gN, gK, gCall, FX.gTup, gLst, gDic, gTst, gNot, gAnd, gOr, gAndV, gOrV, gNotV, gIf, gChain, bindT, bindTs, sNil, sSeq, sDrop, sRet, sRetN, sBrk, sCnt, sIf, sStuck, sSet, sUnp, gFn, argR, rdv, Rz.r, fAdd, fSub, fMul, fDiv, fMod, fNeg, fLt, fGt, fGe, fIsN, fNotN, fEq, fNe, fLe, fIn2, fNotIn2, fIx, fLen, fInt, gTyEq, gTyNe, gIsI, gSl, gNoP, gPart, fSl, fRev, fTup, vs?, rdA, zB, tyD, shI, shN, shB, eqvI, eqvS, e5]; try exact ⟨rfl, rfl⟩)))
    (refine' Eq.trans (congrArg FX.fin (FX.seq_nx ?hst)) ?_; (case hst => (simp [mOf, bd, bdS, gC, gV, op1, op2, opN, gBin, gUn, gEsc, gN, gK, gCall, FX.gTup, gLst, gDic, gTst, gNot, gAnd, gOr, gAndV, gOrV, gNotV, gIf, gChain, bindT, bindTs, sNil, sSeq, sDrop, sRet, sRetN, sBrk, sCnt, sIf, sStuck, sSet, sUnp, gFn, argR, rdv, Rz.r, fAdd, fSub, fMul, fDiv, fMod, fNeg, fLt, fGt, fGe, fIsN, fNotN, fEq, fNe, fLe, fIn2, fNotIn2, fIx, fLen, fInt, gTyEq, gTyNe, gIsI, gSl, gNoP, gPart, fSl, fRev, fTup, vs?, rdA, zB, tyD, shI, shN, shB, eqvI, eqvS, e6]; try exact ⟨rfl, rfl⟩)))
    (refine' Eq.trans (congrArg FX.fin (FX.seq_nx ?hst)) ?_; (case hst => (simp [mOf, bd, bdS, gC, gV, op1, op2, opN, gBin, gUn, gEsc, gN, gK, gCall, FX.gTup, gLst, gDic, gTst, gNot, gAnd, gOr, gAndV, gOrV, gNotV, gIf, gChain, bindT, bindTs, sNil, sSeq, sDrop, sRet, sRetN, sBrk, sCnt, sIf, sStuck, sSet, sUnp, gFn, argR, rdv, Rz.r, fAdd, fSub, fMul, fDiv, fMod, fNeg, fLt, fGt, fGe, fIsN, fNotN, fEq, fNe, fLe, fIn2, fNotIn2, fIx, fLen, fInt, gTyEq, gTyNe, gIsI, gSl, gNoP, gPart, fSl, fRev, fTup, vs?, rdA, zB, tyD, shI, shN, shB, eqvI, eqvS, sizeOk]; try exact ⟨rfl, rfl⟩)))
    have eg : gEnm (Y := DkY K sa ns) (gK (gEsc (gFn 1 m__law_pairs (gK (gEsc (gV 2)) gN))) gN) [some (.h 0), some (.v (.str (kindS t))), some (.v (.int (n : Nat))), some (.v (.int (y5 : Nat))), some (.v (.int (y6 : Nat))), some (.o (.list [])), none, none, none] (dS d6) =
      some (.ok (enumD 0 ((pairsI n).map prD)), [some (.h 0), some (.v (.str (kindS t))), some (.v (.int (n : Nat))), some (.v (.int (y5 : Nat))), some (.v (.int (y6 : Nat))), some (.o (.list [])), none, none, none], dS d6) := by
      (simp [mOf, bd, bdS, gC, gV, op1, op2, opN, gBin, gUn, gEsc, gN, gK, gCall, FX.gTup, gLst, gDic, gTst, gNot, gAnd, gOr, gAndV, gOrV, gNotV, gIf, gChain, bindT, bindTs, sNil, sSeq, sDrop, sRet, sRetN, sBrk, sCnt, sIf, sStuck, sSet, sUnp, gFn, argR, rdv, Rz.r, fAdd, fSub, fMul, fDiv, fMod, fNeg, fLt, fGt, fGe, fIsN, fNotN, fEq, fNe, fLe, fIn2, fNotIn2, fIx, fLen, fInt, gTyEq, gTyNe, gIsI, gSl, gNoP, gPart, fSl, fRev, fTup, vs?, rdA, zB, tyD, shI, shN, shB, eqvI, eqvS, gEnm, pairs_eq h2 h6] <;> try rfl)
    refine' Eq.trans (congrArg fin (seq_nx ?hst)) ?_
    case hst => exact (for_run eg).trans el
    (simp [mOf, bd, bdS, gC, gV, op1, op2, opN, gBin, gUn, gEsc, gN, gK, gCall, FX.gTup, gLst, gDic, gTst, gNot, gAnd, gOr, gAndV, gOrV, gNotV, gIf, gChain, bindT, bindTs, sNil, sSeq, sDrop, sRet, sRetN, sBrk, sCnt, sIf, sStuck, sSet, sUnp, gFn, argR, rdv, Rz.r, fAdd, fSub, fMul, fDiv, fMod, fNeg, fLt, fGt, fGe, fIsN, fNotN, fEq, fNe, fLe, fIn2, fNotIn2, fIx, fLen, fInt, gTyEq, gTyNe, gIsI, gSl, gNoP, gPart, fSl, fRev, fTup, vs?, rdA, zB, tyD, shI, shN, shB, eqvI, eqvS, fin, Lg.d, Lg.pl, sizeOk] <;> try rfl)
end
end FX.Pg

set_option Elab.async false
set_option linter.all false
set_option maxRecDepth 100000
namespace FX
open PySem PySem.Spec L2
section
variable {Y : Sys} {g h : GS Y} {Γ Γ' Γ1 Γ2 : Ev} {s s' s1 s2 : Y.S} {Ψ : Fl × Ev × Y.S → Prop} {Φ : Oc R → Y.S → Prop}
def Wp (o : Option (Fl × Ev × Y.S)) (Ψ : Fl × Ev × Y.S → Prop) : Prop := ∃ out, o = some out ∧ Ψ out
def Rt (Φ : Oc R → Y.S → Prop) : Fl × Ev × Y.S → Prop
  | (.rt r, _, s') => Φ (.ok r) s'
  | (.nx, _, s') => Φ (.ok (.v .none)) s'
  | (.er c, _, s') => Φ (.er c) s'
  | _ => False
/-- a def tells what its body leaves -/
theorem wp_fn {N : Nat} {body : GS Y} {rs : List R} (h : Wp (body (rs.map some ++ List.replicate (N - rs.length) none) s) (Rt Φ)) : ∃ r s', mOf N body rs s = some (r, s') ∧ Φ r s' := by
  obtain ⟨⟨fl, Γ', s'⟩, e, p⟩ := h
  unfold mOf
  rw [e]
  cases fl with
  | nx => exact ⟨_, _, rfl, p⟩
  | rt r => exact ⟨_, _, rfl, p⟩
  | er c => exact ⟨_, _, rfl, p⟩
  | bk => exact p.elim
  | ct => exact p.elim
theorem wp_of {o : Option (Fl × Ev × Y.S)} {out : Fl × Ev × Y.S} (e : o = some out) (p : Ψ out) : Wp o Ψ := ⟨_, e, p⟩
theorem wp_seq (e : g Γ s = some (.nx, Γ', s')) (p : Wp (h Γ' s') Ψ) : Wp (sSeq g h Γ s) Ψ := by
  rw [seq_nx e]; exact p
/-- one statement's wish, and the rest's -/
def Th (h : GS Y) (Ψ : Fl × Ev × Y.S → Prop) : Fl × Ev × Y.S → Prop
  | (.nx, Γ', s') => Wp (h Γ' s') Ψ
  | o => Ψ o
theorem wp_then (p : Wp (g Γ s) (Th h Ψ)) : Wp (sSeq g h Γ s) Ψ := by
  obtain ⟨⟨fl, Γ', s'⟩, e, p⟩ := p
  unfold sSeq
  rw [e]
  cases fl with
  | nx => exact p
  | rt r => exact ⟨_, rfl, p⟩
  | er c => exact ⟨_, rfl, p⟩
  | bk => exact ⟨_, rfl, p⟩
  | ct => exact ⟨_, rfl, p⟩
theorem wp_nil (p : Ψ (.nx, Γ, s)) : Wp (sNil Γ s) Ψ := ⟨_, rfl, p⟩
theorem wp_if {t : GT Y} {b : Bool} (e : t Γ s = some (.ok b, Γ', s')) (p : b = true → Wp (g Γ' s') Ψ) (q : b = false → Wp (h Γ' s') Ψ) : Wp (sIf t g h Γ s) Ψ := by
  unfold sIf bdS
  rw [e]
  cases b with
  | true => exact p rfl
  | false => exact q rfl
theorem wp_for {T : Tg} {gi : GI Y} {ds : List D} (I : List D → Ev → Y.S → Prop) (e : gi Γ s = some (.ok ds, Γ', s')) (hI : I ds Γ' s') (h0 : ∀ Γ s, I [] Γ s → Ψ (.nx, Γ, s))
    (h1 : ∀ d ds Γ s, I (d :: ds) Γ s → ∃ Γ1, bindT T d Γ = some Γ1 ∧ Wp (g Γ1 s) (Rnd (I ds) Ψ)) : Wp (sFor T gi g Γ s) Ψ := by
  rw [for_run e]
  exact forG_inv I Ψ h0 (fun d ds Γ s h => by
    obtain ⟨Γ1, a, out, b, c⟩ := h1 d ds Γ s h
    exact ⟨Γ1, out, a, b, c⟩) ds Γ' s' hI
theorem wp_mono {o : Option (Fl × Ev × Y.S)} {Ψ' : Fl × Ev × Y.S → Prop} (h : Wp o Ψ) (m : ∀ x, Ψ x → Ψ' x) : Wp o Ψ' := by
  obtain ⟨x, e, p⟩ := h
  exact ⟨x, e, m x p⟩
theorem wp_ret {ge : GE Y} {d : D} (e : ge Γ s = some (.ok (.v d), Γ', s')) (p : Ψ (.rt (.v d), Γ', s')) : Wp (sRet ge Γ s) Ψ := by
  unfold sRet bdS
  rw [e]
  exact ⟨_, rfl, p⟩
theorem wp_reto {ge : GE Y} {d : D} (e : ge Γ s = some (.ok (.o d), Γ', s')) (p : Ψ (.rt (.o d), Γ', s')) : Wp (sRet ge Γ s) Ψ := by
  unfold sRet bdS
  rw [e]
  exact ⟨_, rfl, p⟩
theorem set_o {ge : GE Y} {d : D} {i : Nat} (e : ge Γ s = some (.ok (.o d), Γ', s')) : sSet i ge Γ s = some (.nx, Γ'.set i (some (.o d)), s') := by
  unfold sSet bdS
  rw [e]
theorem set_v {ge : GE Y} {d : D} {i : Nat} (e : ge Γ s = some (.ok (.v d), Γ', s')) : sSet i ge Γ s = some (.nx, Γ'.set i (some (.v d)), s') := by
  unfold sSet bdS
  rw [e]
/-- a thing of a list, by a drawn number -/
theorem wp_ix {P : D → Prop} {ga gb : GE Y} {r : R} {ds : List D} {x : Nat} (ha : ga Γ s = some (.ok r, Γ1, s1)) (hb : gb Γ1 s1 = some (.ok (.v (.int (x : Int))), Γ2, s2))
    (hr : rdv Γ2 r = some (.list ds)) (hx : x < ds.length) (hP : ∀ v ∈ ds, P v) (p : ∀ v, P v → Ψ (.rt (.v v), Γ2, s2)) : Wp (sRet (gBin fIx ga gb) Γ s) Ψ := by
  obtain ⟨v, hv, _, e⟩ := ix_mem hx
  refine ⟨(.rt (.v v), Γ2, s2), ?_, p v (hP v hv)⟩
  unfold sRet gBin bdS bd
  simp only [ha, bd, hb, op2, hr]
  rw [show rdv Γ2 (.v (.int (x : Int))) = some (.int (x : Int)) from rfl]
  simp only [e, Rz.r]
theorem wp_t0 {P : D → Prop} {ga gb : GE Y} {gr : GA Y} {r : R} {ds : List D} {x : Nat} (ha : ga Γ s = some (.ok r, Γ1, s1)) (hb : gb Γ1 s1 = some (.ok (.v (.int (x : Int))), Γ2, s2))
    (hr : rdv Γ2 r = some (.list ds)) (hx : x < ds.length) (hP : ∀ v ∈ ds, P v) (p : ∀ v, P v → Wp (sRet (FX.gTup (gK (gEsc (gC v)) gr)) Γ2 s2) Ψ) : Wp (sRet (FX.gTup (gK (gEsc (gBin fIx ga gb)) gr)) Γ s) Ψ := by
  obtain ⟨v, hv, _, e⟩ := ix_mem hx
  have q := p v (hP v hv)
  have h1 : gBin fIx ga gb Γ s = some (.ok (.v v), Γ2, s2) := by
    unfold gBin bd
    simp only [ha, bd, hb, op2, hr]
    rw [show rdv Γ2 (.v (.int (x : Int))) = some (.int (x : Int)) from rfl]
    simp only [e, Rz.r]
  have h2 : sRet (FX.gTup (gK (gEsc (gBin fIx ga gb)) gr)) Γ s = sRet (FX.gTup (gK (gEsc (gC v)) gr)) Γ2 s2 := by
    unfold sRet FX.gTup gK gEsc bdS bd gC
    simp only [h1]
  rw [h2]; exact q
theorem wp_t1 {P : D → Prop} {g0 ga gb : GE Y} {gr : GA Y} {r : R} {d0 : D} {Γ0 : Ev} {s0 : Y.S} {ds : List D} {x : Nat} (h0 : g0 Γ s = some (.ok (.v d0), Γ0, s0)) (ha : ga Γ0 s0 = some (.ok r, Γ1, s1)) (hb : gb Γ1 s1 = some (.ok (.v (.int (x : Int))), Γ2, s2))
    (hr : rdv Γ2 r = some (.list ds)) (hx : x < ds.length) (hP : ∀ v ∈ ds, P v) (p : ∀ v, P v → Wp (sRet (FX.gTup (gK (gEsc (gC d0)) (gK (gEsc (gC v)) gr))) Γ2 s2) Ψ) : Wp (sRet (FX.gTup (gK (gEsc g0) (gK (gEsc (gBin fIx ga gb)) gr))) Γ s) Ψ := by
  obtain ⟨v, hv, _, e⟩ := ix_mem hx
  have q := p v (hP v hv)
  have h1 : gBin fIx ga gb Γ0 s0 = some (.ok (.v v), Γ2, s2) := by
    unfold gBin bd
    simp only [ha, bd, hb, op2, hr]
    rw [show rdv Γ2 (.v (.int (x : Int))) = some (.int (x : Int)) from rfl]
    simp only [e, Rz.r]
  have h2 : sRet (FX.gTup (gK (gEsc g0) (gK (gEsc (gBin fIx ga gb)) gr))) Γ s = sRet (FX.gTup (gK (gEsc (gC d0)) (gK (gEsc (gC v)) gr))) Γ2 s2 := by
    unfold sRet FX.gTup gK gEsc bdS bd gC
    simp only [h0, h1]
  rw [h2]; exact q
theorem compG_yes {T : Tg} {own : List Nat} {ge : GE Y} (Γw : Ev) (I : List D → Y.S → Prop) : ∀ (ds acc : List D) (Γ : Ev) (s : Y.S), wipeE Γ own = Γw → acc.length + ds.length ≤ 1000000 → I acc s →
    (∀ d ∈ ds, ∃ Γ1, bindT T d Γw = some Γ1 ∧ ∀ acc s, I acc s → ∃ e Γ3 s3, ge Γ1 s = some (.ok (.v e), Γ3, s3) ∧ wipeE Γ3 own = Γw ∧ I (acc ++ [e]) s3) →
    ∃ acc' Γ' s', compG T own gYes ge ds acc Γ s = some (acc', Γ', s') ∧ wipeE Γ' own = Γw ∧ I acc' s' ∧ acc'.length = acc.length + ds.length
  | [], acc, Γ, s, h, _, hI, _ => ⟨acc, Γ, s, rfl, h, hI, rfl⟩
  | d :: ds, acc, Γ, s, h, hl, hI, hd => by
    obtain ⟨Γ1, e1, f⟩ := hd d (by simp)
    obtain ⟨e, Γ3, s3, e2, h3, hI3⟩ := f acc s hI
    simp only [List.length_cons] at hl
    obtain ⟨acc', Γ', s', e4, h4, hI4, hl4⟩ := compG_yes (T := T) (own := own) (ge := ge) Γw I ds (acc ++ [e]) Γ3 s3 h3 (by simp; omega) hI3 fun d' h' => hd d' (by simp [h'])
    refine ⟨acc', Γ', s', ?_, h4, hI4, by simp at hl4 ⊢; omega⟩
    have hz : sizeOk acc.length = true := by simp [sizeOk]; omega
    unfold compG
    rw [h, e1]
    simp only [gYes, e2, hz, if_true]
    exact e4
theorem gComp_yes {T : Tg} {own : List Nat} {gi : GI Y} {ge : GE Y} (I : List D → Y.S → Prop) {ds : List D} {s0 : Y.S} (hi : gi Γ s0 = some (.ok ds, Γ, s)) (hl : ds.length ≤ 1000000) (hI : I [] s)
    (hd : ∀ d ∈ ds, ∃ Γ1, bindT T d (wipeE Γ own) = some Γ1 ∧ ∀ acc s, I acc s → ∃ e Γ3 s3, ge Γ1 s = some (.ok (.v e), Γ3, s3) ∧ wipeE Γ3 own = wipeE Γ own ∧ I (acc ++ [e]) s3) :
    ∃ acc s', gComp T own gi gYes ge Γ s0 = some (.ok (.o (.list acc)), backE Γ (wipeE Γ own) own, s') ∧ I acc s' ∧ acc.length = ds.length := by
  obtain ⟨acc, Γ', s', e, h, hI', hl'⟩ := compG_yes (T := T) (own := own) (ge := ge) (wipeE Γ own) I ds [] Γ s rfl (by simpa using hl) hI hd
  refine ⟨acc, s', ?_, hI', by simpa using hl'⟩
  unfold gComp bd
  rw [hi]
  simp only [e]
  rw [← h, back_wipe]
theorem bin_of {f : D → D → Option Rz} {ga gb : GE Y} {ra rb : R} {d e : D} {z : Rz} (ha : ga Γ s = some (.ok ra, Γ1, s1)) (hb : gb Γ1 s1 = some (.ok rb, Γ2, s2)) (hd : rdv Γ2 ra = some d) (he : rdv Γ2 rb = some e) (hf : f d e = some z) :
    gBin f ga gb Γ s = some (.ok z.r, Γ2, s2) := by
  unfold gBin bd
  simp only [ha, bd, hb, op2, hd, he, hf]
theorem tst_of {g : GE Y} {b : Bool} (h : g Γ s = some (.ok (.v (.bool b)), Γ', s')) : gTst g Γ s = some (.ok b, Γ', s') := by
  unfold gTst bd
  simp only [h, rdv]
theorem andv_t {g h : GE Y} {r : R} (a : g Γ s = some (.ok (.v (.bool true)), Γ', s')) (b : h Γ' s' = some (.ok r, Γ1, s1)) : gAndV g h Γ s = some (.ok r, Γ1, s1) := by
  unfold gAndV bd
  simp only [tst_of a, if_true, b]
theorem andv_f {g h : GE Y} (a : g Γ s = some (.ok (.v (.bool false)), Γ', s')) : gAndV g h Γ s = some (.ok (.v (.bool false)), Γ', s') := by
  unfold gAndV bd
  simp only [tst_of a, Bool.false_eq_true, if_false]
theorem seq_assoc {k : GS Y} : sSeq (sSeq g h) k = sSeq g (sSeq h k) := by
  funext Γ s
  unfold sSeq
  cases g Γ s with
  | none => rfl
  | some o =>
    obtain ⟨fl, a, b⟩ := o
    cases fl <;> rfl
end
end FX

set_option Elab.async false
set_option linter.all false
set_option maxRecDepth 100000
namespace FX.Pg
open PySem PySem.Spec L2 FX
def okS (k : Nat) (z : Str) : Prop := (z.cps.toList.all fun c => decide (c < 1114112)) = true ∧ z.cps.size ≤ k
theorem okS.d {n m : Nat} {z : Str} (h : okS n z) : okD n m (.str z) := okD_str h.1 h.2
theorem okS.mono {n m : Nat} {z : Str} (h : okS n z) (e : n ≤ m) : okS m z := ⟨h.1, Nat.le_trans h.2 e⟩
theorem okS_app {a b : Nat} {x y : Str} (h : okS a x) (h' : okS b y) : okS (a + b) (x ++ y) := by
  have e : (x ++ y).cps = x.cps ++ y.cps := rfl
  refine ⟨?_, ?_⟩
  · rw [e]
    simp only [Array.toList_append, List.all_append, h.1, h'.1, Bool.and_self]
  · rw [e, Array.size_append]
    have := h.2
    have := h'.2
    omega
theorem okS_one {c : Nat} (h : c < 1114112) : okS 1 ⟨#[c]⟩ := ⟨by simpa using h, by simp⟩
theorem okS_cut {k : Nat} {z : Str} {lo hi : Option Int} (h : okS k z) : okS k (cutS z lo hi) := by
  have e : (cutS z lo hi).cps.toList = (z.cps.toList.drop (HT.sIx z.length 0 lo)).take (HT.sIx z.length z.length hi - HT.sIx z.length 0 lo) := by
    unfold cutS
    first
      | rfl
      | simp
  have h1 := h.1
  have h2 := h.2
  refine ⟨?_, ?_⟩
  · rw [e]
    rw [List.all_eq_true] at h1 ⊢
    exact fun x hx => h1 x (List.mem_of_mem_drop (List.mem_of_mem_take hx))
  · have e2 : (cutS z lo hi).cps.size = (cutS z lo hi).cps.toList.length := by simp
    rw [e2, e, List.length_take, List.length_drop]
    have : z.cps.size = z.cps.toList.length := by simp
    omega
theorem okS_int {i : Int} (h : i.natAbs < 1000000) : okS 7 (Str.ofString (toString i)) := by
  have e : (Str.ofString (toString i)).length = (toString i).length := ofString_length _
  have := int_text_length_le10 (k := 6) (by decide) h
  refine ⟨?_, ?_⟩
  · rw [Str.ofString_eq_toList]
    simp only [List.all_map, List.all_eq_true]
    intro c _
    simp only [Function.comp, decide_eq_true_eq]
    have h := c.valid
    simp only [UInt32.isValidChar, Nat.isValidChar] at h
    have : c.toNat = c.val.toNat := rfl
    omega
  · have : (Str.ofString (toString i)).cps.size = (Str.ofString (toString i)).length := rfl
    omega
theorem okS_kind (t : Bool) : okS 5 (kindS t) := by
  cases t
  · exact ⟨by decide +kernel, by decide +kernel⟩
  · exact ⟨by decide +kernel, by decide +kernel⟩
theorem okI {m : Nat} {i : Int} (h : i.natAbs < 1000000) : okD 21 m (.int i) := by
  have hl : i.natAbs.log2 < 20 := by
    by_cases h0 : i.natAbs = 0
    · rw [h0]; decide
    · rw [Nat.log2_lt h0]
      exact Nat.lt_trans h (by decide)
  have a := okD_int (n := 100) (m := m) (i := i) (Nat.lt_trans h (by decide)) (by decide)
  refine ⟨a.ls, a.sh, ?_, a.dp, a.lf⟩
  simp only [PyData.weight]
  split <;> omega
theorem okc {n m : Nat} {d : D} {ds : List D} (h : okD 100 m d) (h' : okA n m ds) : okA (n + 101) m (d :: ds) := (okA_cons h h').mono (by omega) (Nat.le_refl _)
theorem okS_of {k : Nat} {z : Str} (h : (z.cps.toList.all fun c => decide (c < 1114112)) = true ∧ z.cps.size ≤ k) : okS k z := h
theorem okn {n m : Nat} : okA n m [] := okA_nil.mono (by omega) (Nat.le_refl _)
theorem oki {n m : Nat} {d : D} {ds : List D} (h : okD 21 m d) (h' : okA n m ds) : okA (n + 22) m (d :: ds) := (okA_cons h h').mono (by omega) (Nat.le_refl _)
theorem all_nil {P : D → Prop} : ∀ v ∈ ([] : List D), P v := fun _ h => nomatch h
theorem all_cons {P : D → Prop} {d : D} {ds : List D} (h : P d) (h' : ∀ v ∈ ds, P v) : ∀ v ∈ d :: ds, P v := fun v hv => by
  rcases List.mem_cons.mp hv with rfl | hv
  · exact h
  · exact h' v hv
theorem o_ok {m : Nat} {i j : Int} (hi : i.natAbs < 1000000) (hj : j.natAbs < 1000000) (o : O3) : okD 21 m (o.d i j) := by
  cases o
  · exact okI hi
  · exact okD_none
  · exact okI hj
theorem okI' {n m : Nat} {i : Int} (h : i.natAbs < 1000000) (hn : 21 ≤ n) : okD n m (.int i) := (okI (m := m) h).mono hn (Nat.le_refl _)
theorem okO' {n m : Nat} {i j : Int} {o : O3} (hi : i.natAbs < 1000000) (hj : j.natAbs < 1000000) (hn : 21 ≤ n) : okD n m (o.d i j) := (o_ok (m := m) hi hj o).mono hn (Nat.le_refl _)
theorem okT' {n m : Nat} {i : Int} (h : i.natAbs < 1000000) (hn : 7 ≤ n) : okD n m (.str (Str.ofString (i.repr))) := okS.d ((okS_int h).mono hn)
theorem okL' {n m : Nat} {z : Str} (h : (z.cps.toList.all fun c => decide (c < 1114112)) = true ∧ z.cps.size ≤ 7) (hn : 7 ≤ n) : okD n m (.str z) := okS.d (okS.mono h hn)
section
variable {K : PySem.W.Frag} {sa : Addr} {ns : List Int} {Y : Sys}
theorem no_match_ok {d : Dk} (hd : d.Ok) {n : Nat} (h2 : 2 ≤ n) (h6 : n ≤ 6) {i j : Int} (hi : i.natAbs < 1000000) (hj : j.natAbs < 1000000) (o : O3) (kd : D) :
    ∃ (x : D) (d' : Dk), m__law_no_match (K := K) (sa := sa) (ns := ns) [.h 0, .v kd, .v (.int (n : Nat)), .v (.tuple [.int i, .int j, o.d i j])] (dS d) = some (.ok (.v x), dS d') ∧ okD 410 4 x ∧ d'.Ok := by
  obtain ⟨y1, d1, e1, hy1, hd1⟩ := draw_ok (K := K) (sa := sa) (ns := ns) hd (m := (n : Nat)) (by omega) (by omega)
  obtain ⟨y2, d2, e2, hy2, hd2⟩ := draw_ok (K := K) (sa := sa) (ns := ns) hd1 (m := 30) (by decide) (by decide)
  have hl : i.natAbs.log2 < 1920 := by
    by_cases h0 : i.natAbs = 0
    · rw [h0]; decide
    · rw [Nat.log2_lt h0]
      exact Nat.lt_trans hi (by decide +kernel)
  have key : ∃ r s', mOf 9 b__law_no_match [R.h 0, .v kd, .v (.int (n : Nat)), .v (.tuple [.int i, .int j, o.d i j])] (dS (K := K) (sa := sa) (ns := ns) d) = some (r, s') ∧ (s' = dS d2 ∧ ∃ x, r = .ok (.v x) ∧ okD 410 4 x) := by
    refine wp_fn ?_
    unfold b__law_no_match
    (refine' FX.wp_seq ?hst ?_; (case hst => (simp [mOf, bd, bdS, gC, gV, op1, op2, opN, gBin, gUn, gEsc, gN, gK, gCall, FX.gTup, gLst, gDic, gTst, gNot, gAnd, gOr, gAndV, gOrV, gNotV, gIf, gChain, bindT, bindTs, sNil, sSeq, sDrop, sRet, sRetN, sBrk, sCnt, sIf, sStuck, sSet, sUnp, gFn, argR, rdv, Rz.r, fAdd, fSub, fMul, fDiv, fMod, fNeg, fLt, fGt, fGe, fIsN, fNotN, fEq, fNe, fLe, fIn2, fNotIn2, fIx, fLen, fInt, gTyEq, gTyNe, gIsI, gSl, gNoP, gPart, fSl, fRev, fTup, vs?, rdA, zB, tyD, shI, shN, shB, eqvI, eqvS]; try exact ⟨rfl, rfl⟩)))
    (refine' FX.wp_seq ?hst ?_; (case hst => (simp [mOf, bd, bdS, gC, gV, op1, op2, opN, gBin, gUn, gEsc, gN, gK, gCall, FX.gTup, gLst, gDic, gTst, gNot, gAnd, gOr, gAndV, gOrV, gNotV, gIf, gChain, bindT, bindTs, sNil, sSeq, sDrop, sRet, sRetN, sBrk, sCnt, sIf, sStuck, sSet, sUnp, gFn, argR, rdv, Rz.r, fAdd, fSub, fMul, fDiv, fMod, fNeg, fLt, fGt, fGe, fIsN, fNotN, fEq, fNe, fLe, fIn2, fNotIn2, fIx, fLen, fInt, gTyEq, gTyNe, gIsI, gSl, gNoP, gPart, fSl, fRev, fTup, vs?, rdA, zB, tyD, shI, shN, shB, eqvI, eqvS, sizeOk]; try exact ⟨rfl, rfl⟩)))
    (refine' FX.wp_seq ?hst ?_; (case hst => (simp [mOf, bd, bdS, gC, gV, op1, op2, opN, gBin, gUn, gEsc, gN, gK, gCall, FX.gTup, gLst, gDic, gTst, gNot, gAnd, gOr, gAndV, gOrV, gNotV, gIf, gChain, bindT, bindTs, sNil, sSeq, sDrop, sRet, sRetN, sBrk, sCnt, sIf, sStuck, sSet, sUnp, gFn, argR, rdv, Rz.r, fAdd, fSub, fMul, fDiv, fMod, fNeg, fLt, fGt, fGe, fIsN, fNotN, fEq, fNe, fLe, fIn2, fNotIn2, fIx, fLen, fInt, gTyEq, gTyNe, gIsI, gSl, gNoP, gPart, fSl, fRev, fTup, vs?, rdA, zB, tyD, shI, shN, shB, eqvI, eqvS, sizeOk]; try exact ⟨rfl, rfl⟩)))
    (refine' FX.wp_seq ?hst ?_; (case hst => (simp [mOf, bd, bdS, gC, gV, op1, op2, opN, gBin, gUn, gEsc, gN, gK, gCall, FX.gTup, gLst, gDic, gTst, gNot, gAnd, gOr, gAndV, gOrV, gNotV, gIf, gChain, bindT, bindTs, sNil, sSeq, sDrop, sRet, sRetN, sBrk, sCnt, sIf, sStuck, sSet, sUnp, gFn, argR, rdv, Rz.r, fAdd, fSub, fMul, fDiv, fMod, fNeg, fLt, fGt, fGe, fIsN, fNotN, fEq, fNe, fLe, fIn2, fNotIn2, fIx, fLen, fInt, gTyEq, gTyNe, gIsI, gSl, gNoP, gPart, fSl, fRev, fTup, vs?, rdA, zB, tyD, shI, shN, shB, eqvI, eqvS, sizeOk, fStr, hl]; try exact ⟨rfl, rfl⟩)))
    (refine' FX.wp_seq ?hst ?_; (case hst => (simp [mOf, bd, bdS, gC, gV, op1, op2, opN, gBin, gUn, gEsc, gN, gK, gCall, FX.gTup, gLst, gDic, gTst, gNot, gAnd, gOr, gAndV, gOrV, gNotV, gIf, gChain, bindT, bindTs, sNil, sSeq, sDrop, sRet, sRetN, sBrk, sCnt, sIf, sStuck, sSet, sUnp, gFn, argR, rdv, Rz.r, fAdd, fSub, fMul, fDiv, fMod, fNeg, fLt, fGt, fGe, fIsN, fNotN, fEq, fNe, fLe, fIn2, fNotIn2, fIx, fLen, fInt, gTyEq, gTyNe, gIsI, gSl, gNoP, gPart, fSl, fRev, fTup, vs?, rdA, zB, tyD, shI, shN, shB, eqvI, eqvS, e1]; try exact ⟨rfl, rfl⟩)))
    (refine' FX.wp_ix (P := okD 410 4) ?hsa ?hsb ?hsr ?hxx ?hPP ?_; (case hsa => (simp [mOf, bd, bdS, gC, gV, op1, op2, opN, gBin, gUn, gEsc, gN, gK, gCall, FX.gTup, gLst, gDic, gTst, gNot, gAnd, gOr, gAndV, gOrV, gNotV, gIf, gChain, bindT, bindTs, sNil, sSeq, sDrop, sRet, sRetN, sBrk, sCnt, sIf, sStuck, sSet, sUnp, gFn, argR, rdv, Rz.r, fAdd, fSub, fMul, fDiv, fMod, fNeg, fLt, fGt, fGe, fIsN, fNotN, fEq, fNe, fLe, fIn2, fNotIn2, fIx, fLen, fInt, gTyEq, gTyNe, gIsI, gSl, gNoP, gPart, fSl, fRev, fTup, vs?, rdA, zB, tyD, shI, shN, shB, eqvI, eqvS, sizeOk, e2]; try exact ⟨rfl, rfl, rfl⟩)); (case hsb => (simp [mOf, bd, bdS, gC, gV, op1, op2, opN, gBin, gUn, gEsc, gN, gK, gCall, FX.gTup, gLst, gDic, gTst, gNot, gAnd, gOr, gAndV, gOrV, gNotV, gIf, gChain, bindT, bindTs, sNil, sSeq, sDrop, sRet, sRetN, sBrk, sCnt, sIf, sStuck, sSet, sUnp, gFn, argR, rdv, Rz.r, fAdd, fSub, fMul, fDiv, fMod, fNeg, fLt, fGt, fGe, fIsN, fNotN, fEq, fNe, fLe, fIn2, fNotIn2, fIx, fLen, fInt, gTyEq, gTyNe, gIsI, gSl, gNoP, gPart, fSl, fRev, fTup, vs?, rdA, zB, tyD, shI, shN, shB, eqvI, eqvS, sizeOk, e2]; try exact ⟨rfl, rfl, rfl⟩)); (case hsr => rfl))
    case hxx => show y2 < 30; omega
    case hPP => (repeat' (first | exact all_nil | refine all_cons ?_ ?_ | exact okD_none | exact okD_bool | exact okD_dic | exact okI' (by omega) (by decide) | exact okO' (by omega) (by omega) (by decide) | exact okT' (by omega) (by decide) | exact okL' (by decide +kernel) (by decide) | exact okn | refine okc ?_ ?_ | refine oki ?_ ?_ | refine okD_tup ?_ | refine okD_lst ?_))
    exact fun v hv => ⟨rfl, v, rfl, hv⟩
  obtain ⟨r, s', e, rfl, x, rfl, hx⟩ := key
  exact ⟨x, d2, by rw [q__law_no_match]; exact e, hx, hd2⟩

def mD (p : Int × Int) (o : O3) : D := .tuple [.int p.1, .int p.2, o.d p.1 p.2]
def isM (d : D) : Prop := ∃ (p : Int × Int) (o : O3), p.1.natAbs < 1000000 ∧ p.2.natAbs < 1000000 ∧ d = mD p o
theorem isM.ok {d : D} (h : isM d) : okD 410 4 d := by
  obtain ⟨p, o, h1, h2, rfl⟩ := h
  unfold mD
  (repeat' (first | exact all_nil | refine all_cons ?_ ?_ | exact okD_none | exact okD_bool | exact okD_dic | exact okI' (by omega) (by decide) | exact okO' (by omega) (by omega) (by decide) | exact okT' (by omega) (by decide) | exact okL' (by decide +kernel) (by decide) | exact okn | refine okc ?_ ?_ | refine oki ?_ ?_ | refine okD_tup ?_ | refine okD_lst ?_))
structure Row (k : Nat) (L : List D) : Prop where
  len : L.length ≤ k
  ok : ∀ d ∈ L, okD 410 4 d
theorem Row.d {L : List D} (h : Row 40 L) : okD 20000 6 (.list L) := (okD_lst (okA_of h.ok)).mono (by
  have := h.len
  show (410 + 1) * L.length ≤ 20000
  omega) (by decide)
theorem Row.t {L : List D} (h : Row 40 L) : okD 20000 6 (.tuple L) := (okD_tup (okA_of h.ok)).mono (by
  have := h.len
  show (410 + 1) * L.length ≤ 20000
  omega) (by decide)
theorem Row.app {a b : Nat} {L M : List D} (h : Row a L) (h' : Row b M) : Row (a + b) (L ++ M) := ⟨by
  have := h.len
  have := h'.len
  rw [List.length_append]; omega, fun d hd => by
  rcases List.mem_append.mp hd with q | q
  · exact h.ok d q
  · exact h'.ok d q⟩
theorem Row.mono {a b : Nat} {L : List D} (h : Row a L) (e : a ≤ b) : Row b L := ⟨Nat.le_trans h.len e, h.ok⟩
theorem Row.cut {a : Nat} {L : List D} (h : Row a L) (lo hi : Option Int) : Row a (cutD L lo hi) := ⟨by
  have := h.len
  unfold cutD
  rw [List.length_take, List.length_drop]; omega, fun d hd => h.ok d (List.mem_of_mem_drop (List.mem_of_mem_take hd))⟩
theorem Row.rev {a : Nat} {L : List D} (h : Row a L) : Row a L.reverse := ⟨by rw [List.length_reverse]; exact h.len, fun d hd => h.ok d (List.mem_reverse.mp hd)⟩
theorem Row.one {d : D} (h : okD 410 4 d) : Row 1 [d] := ⟨Nat.le_refl _, fun x hx => by
  rcases List.mem_singleton.mp hx with rfl
  exact h⟩
theorem Row.d' {L : List D} (h : Row 49 L) : okD 30000 8 (.list L) := (okD_lst (okA_of h.ok)).mono (by
  have := h.len
  show (410 + 1) * L.length ≤ 30000
  omega) (by decide)
theorem Row.t' {L : List D} (h : Row 49 L) : okD 30000 8 (.tuple L) := (okD_tup (okA_of h.ok)).mono (by
  have := h.len
  show (410 + 1) * L.length ≤ 30000
  omega) (by decide)
theorem Row.two {L : List D} (h : Row 15 L) : okD 30000 8 (.list [.list L]) := (okD_lst (okA_cons (okD_lst (okA_of h.ok)) (okn (n := 0)))).mono (by
  have := h.len
  show (410 + 1) * L.length + 1 + 0 ≤ 30000
  omega) (by decide)
theorem Row.app' {a : Nat} {L M : List D} (h : Row 16 L) (h' : Row a M) : Row (a + 16) (L ++ M) := (h.app h').mono (by omega)
theorem Row.cons {a : Nat} {d : D} {L : List D} (h : okD 410 4 d) (h' : Row a L) : Row (a + 1) (d :: L) := ((Row.one h).app h').mono (by omega)
theorem encP_isM {n : Nat} (h6 : n ≤ 6) : ∀ (ps : List (Int × Int)) (v : List (Option O3)) (b : Int × Int), riseP n b ps → ∀ d ∈ encP ps v, isM d
  | [], v, b, _, d, h => by rw [encP_nil] at h; cases h
  | p :: ps, [], b, _, d, h => by cases h
  | p :: ps, none :: v, b, r, d, h => encP_isM h6 ps v p r.2.2.2.2 d h
  | p :: ps, some o :: v, b, r, d, h => by
    rcases List.mem_cons.mp h with rfl | h
    · obtain ⟨h1, h2, h3, _, _⟩ := r
      exact ⟨p, o, by omega, by omega, rfl⟩
    · exact encP_isM h6 ps v p r.2.2.2.2 d h
theorem Lg.Ok.isM {l : Lg} (h : l.Ok) : l.pl.length ≤ 15 ∧ ∀ d ∈ l.pl, isM d := ⟨Nat.le_trans (encP_len _ _) (pairs_len h.h2 h.h6), encP_isM h.h6 _ _ _ (pairs_rise h.h2 h.h6)⟩
theorem sizeOk_true {n : Nat} (h : n ≤ 1000000) : sizeOk n = true := by simpa [sizeOk] using h
theorem pairs_mem {n : Nat} (h2 : 2 ≤ n) (h6 : n ≤ 6) : ∀ p ∈ pairsI n, 0 ≤ p.1 ∧ p.1 < p.2 ∧ p.2 < (n : Nat) := by
  have key : ∀ (ps : List (Int × Int)) (b : Int × Int), riseP n b ps → ∀ p ∈ ps, 0 ≤ p.1 ∧ p.1 < p.2 ∧ p.2 < (n : Nat) := by
    intro ps
    induction ps with
    | nil => intro b _ p h; cases h
    | cons q ps ih =>
      intro b r p h
      obtain ⟨h1, h2, h3, _, h5⟩ := r
      rcases List.mem_cons.mp h with rfl | h
      · exact ⟨h1, h2, h3⟩
      · exact ih q h5 p h
  exact key _ _ (pairs_rise h2 h6)
theorem pairs_pos {n : Nat} (h2 : 2 ≤ n) (h6 : n ≤ 6) : 0 < (pairsI n).length := by
  rcases ncases h2 h6 with rfl | rfl | rfl | rfl | rfl <;> decide +kernel
theorem bent_ok {d : Dk} (hd : d.Ok) {n : Nat} (h2 : 2 ≤ n) (h6 : n ≤ 6) (t : Bool) {pl : List D} (hl : pl.length ≤ 15) (hm : ∀ d ∈ pl, isM d) :
    ∃ (x : D) (d' : Dk), m__law_bent (K := K) (sa := sa) (ns := ns) [.h 0, .v (.str (kindS t)), .v (.int (n : Nat)), .v (.list pl)] (dS d) = some (.ok (.v x), dS d') ∧ okD 30000 8 x ∧ d'.Ok := by
  have hpl := pairs_len h2 h6
  have hpp := pairs_pos h2 h6
  obtain ⟨y1, d1, e1, hy1, hd1⟩ := draw_ok (K := K) (sa := sa) (ns := ns) hd (m := (pl.length : Nat) + 1) (by omega) (by omega)
  obtain ⟨y2, d2, e2, hy2, hd2⟩ := draw_ok (K := K) (sa := sa) (ns := ns) hd1 (m := ((pairsI n).length : Nat)) (by omega) (by omega)
  have q2 : y2 < (pairsI n).length := by omega
  obtain ⟨p, hp, ep⟩ : ∃ p, p ∈ pairsI n ∧ atI ((pairsI n).map prD) (y2 : Int) = some (prD p) := ⟨(pairsI n)[y2], List.getElem_mem q2, by
    rw [atI_nat, List.getElem?_map, List.getElem?_eq_getElem q2]; rfl⟩
  obtain ⟨b1, b2, b3⟩ := pairs_mem h2 h6 p hp
  obtain ⟨o, d3, e3, ho, hd3⟩ := outcome_ok (K := K) (sa := sa) (ns := ns) hd2 t p.1 p.2
  have fM : isM (mD p o) := ⟨p, o, by omega, by omega, rfl⟩
  obtain ⟨q, o2, c1, c2, eq⟩ : ∃ (q : Int × Int) (o2 : O3), q.1.natAbs < 1000000 ∧ q.2.natAbs < 1000000 ∧ atI (pl ++ [mD p o]) (y1 : Int) = some (mD q o2) := by
    have hlt : y1 < (pl ++ [mD p o]).length := by simp; omega
    rw [atI_nat, List.getElem?_eq_getElem hlt]
    have hm' : isM (pl ++ [mD p o])[y1] := by
      rcases List.mem_append.mp (List.getElem_mem hlt) with z | z
      · exact hm _ z
      · rw [List.mem_singleton.mp z]; exact fM
    obtain ⟨q, o2, c1, c2, e⟩ := hm'
    exact ⟨q, o2, c1, c2, by rw [e]⟩
  obtain ⟨x, d4, e4, hx, hd4⟩ := no_match_ok (K := K) (sa := sa) (ns := ns) hd3 h2 h6 c1 c2 o2 (.str (kindS t))
  obtain ⟨y5, d5, e5, hy5, hd5⟩ := draw_ok (K := K) (sa := sa) (ns := ns) hd4 (m := 15) (by decide) (by decide)
  have HR : Row 15 pl := ⟨hl, fun d h => (hm d h).ok⟩
  have Rx : Row 1 [x] := Row.one hx
  have Rf : Row 1 [mD p o] := Row.one fM.ok
  have key : ∃ r s', mOf 13 b__law_bent [R.h 0, .v (.str (kindS t)), .v (.int (n : Nat)), .v (.list pl)] (dS (K := K) (sa := sa) (ns := ns) d) = some (r, s') ∧ (s' = dS d5 ∧ ∃ x, r = .ok (.v x) ∧ okD 30000 8 x) := by
    refine wp_fn ?_
    unfold b__law_bent
    have a0 : atI [PyData.int p.1, PyData.int p.2] 0 = some (.int p.1) := rfl
    have a1 : atI [PyData.int p.1, PyData.int p.2] 1 = some (.int p.2) := rfl
    have eq' : atI (pl ++ [PyData.tuple [PyData.int p.1, PyData.int p.2, o.d p.1 p.2]]) (y1 : Int) = some (.tuple [.int q.1, .int q.2, o2.d q.1 q.2]) := eq
    have z1 := (HR.cut none (some (y1 : Int))).len
    have z2 := (HR.cut (some ((y1 : Int) + 1)) none).len
    have z3 := (HR.cut (some (y1 : Int)) none).len
    have z4 := (HR.cut (some (y1 : Int)) (some ((y1 : Int) + 2))).len
    have z5 := (HR.cut (some ((y1 : Int) + 2)) none).len
    have z6 := (HR.cut (some (y1 : Int)) (some ((y1 : Int) + 1))).len
    (refine' FX.wp_seq ?hst ?_; (case hst => (simp [mOf, bd, bdS, gC, gV, op1, op2, opN, gBin, gUn, gEsc, gN, gK, gCall, FX.gTup, gLst, gDic, gTst, gNot, gAnd, gOr, gAndV, gOrV, gNotV, gIf, gChain, bindT, bindTs, sNil, sSeq, sDrop, sRet, sRetN, sBrk, sCnt, sIf, sStuck, sSet, sUnp, gFn, argR, rdv, Rz.r, fAdd, fSub, fMul, fDiv, fMod, fNeg, fLt, fGt, fGe, fIsN, fNotN, fEq, fNe, fLe, fIn2, fNotIn2, fIx, fLen, fInt, gTyEq, gTyNe, gIsI, gSl, gNoP, gPart, fSl, fRev, fTup, vs?, rdA, zB, tyD, shI, shN, shB, eqvI, eqvS, e1]; try exact ⟨rfl, rfl⟩)))
    (refine' FX.wp_seq ?hst ?_; (case hst => (simp [mOf, bd, bdS, gC, gV, op1, op2, opN, gBin, gUn, gEsc, gN, gK, gCall, FX.gTup, gLst, gDic, gTst, gNot, gAnd, gOr, gAndV, gOrV, gNotV, gIf, gChain, bindT, bindTs, sNil, sSeq, sDrop, sRet, sRetN, sBrk, sCnt, sIf, sStuck, sSet, sUnp, gFn, argR, rdv, Rz.r, fAdd, fSub, fMul, fDiv, fMod, fNeg, fLt, fGt, fGe, fIsN, fNotN, fEq, fNe, fLe, fIn2, fNotIn2, fIx, fLen, fInt, gTyEq, gTyNe, gIsI, gSl, gNoP, gPart, fSl, fRev, fTup, vs?, rdA, zB, tyD, shI, shN, shB, eqvI, eqvS, pairs_eq h2 h6]; try exact ⟨rfl, rfl⟩)))
    (refine' FX.wp_seq ?hst ?_; (case hst => (simp [mOf, bd, bdS, gC, gV, op1, op2, opN, gBin, gUn, gEsc, gN, gK, gCall, FX.gTup, gLst, gDic, gTst, gNot, gAnd, gOr, gAndV, gOrV, gNotV, gIf, gChain, bindT, bindTs, sNil, sSeq, sDrop, sRet, sRetN, sBrk, sCnt, sIf, sStuck, sSet, sUnp, gFn, argR, rdv, Rz.r, fAdd, fSub, fMul, fDiv, fMod, fNeg, fLt, fGt, fGe, fIsN, fNotN, fEq, fNe, fLe, fIn2, fNotIn2, fIx, fLen, fInt, gTyEq, gTyNe, gIsI, gSl, gNoP, gPart, fSl, fRev, fTup, vs?, rdA, zB, tyD, shI, shN, shB, eqvI, eqvS, e2, ep]; try exact ⟨rfl, rfl⟩)))
    (refine' FX.wp_seq ?hst ?_; (case hst => (simp [mOf, bd, bdS, gC, gV, op1, op2, opN, gBin, gUn, gEsc, gN, gK, gCall, FX.gTup, gLst, gDic, gTst, gNot, gAnd, gOr, gAndV, gOrV, gNotV, gIf, gChain, bindT, bindTs, sNil, sSeq, sDrop, sRet, sRetN, sBrk, sCnt, sIf, sStuck, sSet, sUnp, gFn, argR, rdv, Rz.r, fAdd, fSub, fMul, fDiv, fMod, fNeg, fLt, fGt, fGe, fIsN, fNotN, fEq, fNe, fLe, fIn2, fNotIn2, fIx, fLen, fInt, gTyEq, gTyNe, gIsI, gSl, gNoP, gPart, fSl, fRev, fTup, vs?, rdA, zB, tyD, shI, shN, shB, eqvI, eqvS, prD, a0, a1, e3, sizeOk]; try exact ⟨rfl, rfl⟩)))
    (refine' FX.wp_seq ?hst ?_; (case hst => (simp [mOf, bd, bdS, gC, gV, op1, op2, opN, gBin, gUn, gEsc, gN, gK, gCall, FX.gTup, gLst, gDic, gTst, gNot, gAnd, gOr, gAndV, gOrV, gNotV, gIf, gChain, bindT, bindTs, sNil, sSeq, sDrop, sRet, sRetN, sBrk, sCnt, sIf, sStuck, sSet, sUnp, gFn, argR, rdv, Rz.r, fAdd, fSub, fMul, fDiv, fMod, fNeg, fLt, fGt, fGe, fIsN, fNotN, fEq, fNe, fLe, fIn2, fNotIn2, fIx, fLen, fInt, gTyEq, gTyNe, gIsI, gSl, gNoP, gPart, fSl, fRev, fTup, vs?, rdA, zB, tyD, shI, shN, shB, eqvI, eqvS, prD, eq', e4, sizeOk]; (repeat' (rw [if_pos (by omega)]; try simp [mOf, bd, bdS, gC, gV, op1, op2, opN, gBin, gUn, gEsc, gN, gK, gCall, FX.gTup, gLst, gDic, gTst, gNot, gAnd, gOr, gAndV, gOrV, gNotV, gIf, gChain, bindT, bindTs, sNil, sSeq, sDrop, sRet, sRetN, sBrk, sCnt, sIf, sStuck, sSet, sUnp, gFn, argR, rdv, Rz.r, fAdd, fSub, fMul, fDiv, fMod, fNeg, fLt, fGt, fGe, fIsN, fNotN, fEq, fNe, fLe, fIn2, fNotIn2, fIx, fLen, fInt, gTyEq, gTyNe, gIsI, gSl, gNoP, gPart, fSl, fRev, fTup, vs?, rdA, zB, tyD, shI, shN, shB, eqvI, eqvS, prD, eq', e4, sizeOk])); try exact ⟨rfl, rfl⟩)))
    (refine' FX.wp_seq ?hst ?_; (case hst => (simp [mOf, bd, bdS, gC, gV, op1, op2, opN, gBin, gUn, gEsc, gN, gK, gCall, FX.gTup, gLst, gDic, gTst, gNot, gAnd, gOr, gAndV, gOrV, gNotV, gIf, gChain, bindT, bindTs, sNil, sSeq, sDrop, sRet, sRetN, sBrk, sCnt, sIf, sStuck, sSet, sUnp, gFn, argR, rdv, Rz.r, fAdd, fSub, fMul, fDiv, fMod, fNeg, fLt, fGt, fGe, fIsN, fNotN, fEq, fNe, fLe, fIn2, fNotIn2, fIx, fLen, fInt, gTyEq, gTyNe, gIsI, gSl, gNoP, gPart, fSl, fRev, fTup, vs?, rdA, zB, tyD, shI, shN, shB, eqvI, eqvS, fSl, sizeOk, fRev, fTup]; (repeat' (rw [if_pos (by omega)]; try simp [mOf, bd, bdS, gC, gV, op1, op2, opN, gBin, gUn, gEsc, gN, gK, gCall, FX.gTup, gLst, gDic, gTst, gNot, gAnd, gOr, gAndV, gOrV, gNotV, gIf, gChain, bindT, bindTs, sNil, sSeq, sDrop, sRet, sRetN, sBrk, sCnt, sIf, sStuck, sSet, sUnp, gFn, argR, rdv, Rz.r, fAdd, fSub, fMul, fDiv, fMod, fNeg, fLt, fGt, fGe, fIsN, fNotN, fEq, fNe, fLe, fIn2, fNotIn2, fIx, fLen, fInt, gTyEq, gTyNe, gIsI, gSl, gNoP, gPart, fSl, fRev, fTup, vs?, rdA, zB, tyD, shI, shN, shB, eqvI, eqvS, fSl, sizeOk, fRev, fTup])); try exact ⟨rfl, rfl⟩)))
    (refine' FX.wp_seq ?hst ?_; (case hst => (simp [mOf, bd, bdS, gC, gV, op1, op2, opN, gBin, gUn, gEsc, gN, gK, gCall, FX.gTup, gLst, gDic, gTst, gNot, gAnd, gOr, gAndV, gOrV, gNotV, gIf, gChain, bindT, bindTs, sNil, sSeq, sDrop, sRet, sRetN, sBrk, sCnt, sIf, sStuck, sSet, sUnp, gFn, argR, rdv, Rz.r, fAdd, fSub, fMul, fDiv, fMod, fNeg, fLt, fGt, fGe, fIsN, fNotN, fEq, fNe, fLe, fIn2, fNotIn2, fIx, fLen, fInt, gTyEq, gTyNe, gIsI, gSl, gNoP, gPart, fSl, fRev, fTup, vs?, rdA, zB, tyD, shI, shN, shB, eqvI, eqvS, fSl, sizeOk, fRev, fTup]; (repeat' (rw [if_pos (by omega)]; try simp [mOf, bd, bdS, gC, gV, op1, op2, opN, gBin, gUn, gEsc, gN, gK, gCall, FX.gTup, gLst, gDic, gTst, gNot, gAnd, gOr, gAndV, gOrV, gNotV, gIf, gChain, bindT, bindTs, sNil, sSeq, sDrop, sRet, sRetN, sBrk, sCnt, sIf, sStuck, sSet, sUnp, gFn, argR, rdv, Rz.r, fAdd, fSub, fMul, fDiv, fMod, fNeg, fLt, fGt, fGe, fIsN, fNotN, fEq, fNe, fLe, fIn2, fNotIn2, fIx, fLen, fInt, gTyEq, gTyNe, gIsI, gSl, gNoP, gPart, fSl, fRev, fTup, vs?, rdA, zB, tyD, shI, shN, shB, eqvI, eqvS, fSl, sizeOk, fRev, fTup])); try exact ⟨rfl, rfl⟩)))
    (refine' FX.wp_seq ?hst ?_; (case hst => (simp [mOf, bd, bdS, gC, gV, op1, op2, opN, gBin, gUn, gEsc, gN, gK, gCall, FX.gTup, gLst, gDic, gTst, gNot, gAnd, gOr, gAndV, gOrV, gNotV, gIf, gChain, bindT, bindTs, sNil, sSeq, sDrop, sRet, sRetN, sBrk, sCnt, sIf, sStuck, sSet, sUnp, gFn, argR, rdv, Rz.r, fAdd, fSub, fMul, fDiv, fMod, fNeg, fLt, fGt, fGe, fIsN, fNotN, fEq, fNe, fLe, fIn2, fNotIn2, fIx, fLen, fInt, gTyEq, gTyNe, gIsI, gSl, gNoP, gPart, fSl, fRev, fTup, vs?, rdA, zB, tyD, shI, shN, shB, eqvI, eqvS, fSl, sizeOk, fRev, fTup]; (repeat' (rw [if_pos (by omega)]; try simp [mOf, bd, bdS, gC, gV, op1, op2, opN, gBin, gUn, gEsc, gN, gK, gCall, FX.gTup, gLst, gDic, gTst, gNot, gAnd, gOr, gAndV, gOrV, gNotV, gIf, gChain, bindT, bindTs, sNil, sSeq, sDrop, sRet, sRetN, sBrk, sCnt, sIf, sStuck, sSet, sUnp, gFn, argR, rdv, Rz.r, fAdd, fSub, fMul, fDiv, fMod, fNeg, fLt, fGt, fGe, fIsN, fNotN, fEq, fNe, fLe, fIn2, fNotIn2, fIx, fLen, fInt, gTyEq, gTyNe, gIsI, gSl, gNoP, gPart, fSl, fRev, fTup, vs?, rdA, zB, tyD, shI, shN, shB, eqvI, eqvS, fSl, sizeOk, fRev, fTup])); try exact ⟨rfl, rfl⟩)))
    (refine' FX.wp_seq ?hst ?_; (case hst => (simp [mOf, bd, bdS, gC, gV, op1, op2, opN, gBin, gUn, gEsc, gN, gK, gCall, FX.gTup, gLst, gDic, gTst, gNot, gAnd, gOr, gAndV, gOrV, gNotV, gIf, gChain, bindT, bindTs, sNil, sSeq, sDrop, sRet, sRetN, sBrk, sCnt, sIf, sStuck, sSet, sUnp, gFn, argR, rdv, Rz.r, fAdd, fSub, fMul, fDiv, fMod, fNeg, fLt, fGt, fGe, fIsN, fNotN, fEq, fNe, fLe, fIn2, fNotIn2, fIx, fLen, fInt, gTyEq, gTyNe, gIsI, gSl, gNoP, gPart, fSl, fRev, fTup, vs?, rdA, zB, tyD, shI, shN, shB, eqvI, eqvS, fSl, sizeOk, fRev, fTup]; (repeat' (rw [if_pos (by omega)]; try simp [mOf, bd, bdS, gC, gV, op1, op2, opN, gBin, gUn, gEsc, gN, gK, gCall, FX.gTup, gLst, gDic, gTst, gNot, gAnd, gOr, gAndV, gOrV, gNotV, gIf, gChain, bindT, bindTs, sNil, sSeq, sDrop, sRet, sRetN, sBrk, sCnt, sIf, sStuck, sSet, sUnp, gFn, argR, rdv, Rz.r, fAdd, fSub, fMul, fDiv, fMod, fNeg, fLt, fGt, fGe, fIsN, fNotN, fEq, fNe, fLe, fIn2, fNotIn2, fIx, fLen, fInt, gTyEq, gTyNe, gIsI, gSl, gNoP, gPart, fSl, fRev, fTup, vs?, rdA, zB, tyD, shI, shN, shB, eqvI, eqvS, fSl, sizeOk, fRev, fTup])); try exact ⟨rfl, rfl⟩)))
    (refine' FX.wp_seq ?hst ?_; (case hst => (simp [mOf, bd, bdS, gC, gV, op1, op2, opN, gBin, gUn, gEsc, gN, gK, gCall, FX.gTup, gLst, gDic, gTst, gNot, gAnd, gOr, gAndV, gOrV, gNotV, gIf, gChain, bindT, bindTs, sNil, sSeq, sDrop, sRet, sRetN, sBrk, sCnt, sIf, sStuck, sSet, sUnp, gFn, argR, rdv, Rz.r, fAdd, fSub, fMul, fDiv, fMod, fNeg, fLt, fGt, fGe, fIsN, fNotN, fEq, fNe, fLe, fIn2, fNotIn2, fIx, fLen, fInt, gTyEq, gTyNe, gIsI, gSl, gNoP, gPart, fSl, fRev, fTup, vs?, rdA, zB, tyD, shI, shN, shB, eqvI, eqvS, fSl, sizeOk, fRev, fTup]; (repeat' (rw [if_pos (by omega)]; try simp [mOf, bd, bdS, gC, gV, op1, op2, opN, gBin, gUn, gEsc, gN, gK, gCall, FX.gTup, gLst, gDic, gTst, gNot, gAnd, gOr, gAndV, gOrV, gNotV, gIf, gChain, bindT, bindTs, sNil, sSeq, sDrop, sRet, sRetN, sBrk, sCnt, sIf, sStuck, sSet, sUnp, gFn, argR, rdv, Rz.r, fAdd, fSub, fMul, fDiv, fMod, fNeg, fLt, fGt, fGe, fIsN, fNotN, fEq, fNe, fLe, fIn2, fNotIn2, fIx, fLen, fInt, gTyEq, gTyNe, gIsI, gSl, gNoP, gPart, fSl, fRev, fTup, vs?, rdA, zB, tyD, shI, shN, shB, eqvI, eqvS, fSl, sizeOk, fRev, fTup])); try exact ⟨rfl, rfl⟩)))
    (refine' FX.wp_seq ?hst ?_; (case hst => (simp [mOf, bd, bdS, gC, gV, op1, op2, opN, gBin, gUn, gEsc, gN, gK, gCall, FX.gTup, gLst, gDic, gTst, gNot, gAnd, gOr, gAndV, gOrV, gNotV, gIf, gChain, bindT, bindTs, sNil, sSeq, sDrop, sRet, sRetN, sBrk, sCnt, sIf, sStuck, sSet, sUnp, gFn, argR, rdv, Rz.r, fAdd, fSub, fMul, fDiv, fMod, fNeg, fLt, fGt, fGe, fIsN, fNotN, fEq, fNe, fLe, fIn2, fNotIn2, fIx, fLen, fInt, gTyEq, gTyNe, gIsI, gSl, gNoP, gPart, fSl, fRev, fTup, vs?, rdA, zB, tyD, shI, shN, shB, eqvI, eqvS, fSl, sizeOk, fRev, fTup]; (repeat' (rw [if_pos (by omega)]; try simp [mOf, bd, bdS, gC, gV, op1, op2, opN, gBin, gUn, gEsc, gN, gK, gCall, FX.gTup, gLst, gDic, gTst, gNot, gAnd, gOr, gAndV, gOrV, gNotV, gIf, gChain, bindT, bindTs, sNil, sSeq, sDrop, sRet, sRetN, sBrk, sCnt, sIf, sStuck, sSet, sUnp, gFn, argR, rdv, Rz.r, fAdd, fSub, fMul, fDiv, fMod, fNeg, fLt, fGt, fGe, fIsN, fNotN, fEq, fNe, fLe, fIn2, fNotIn2, fIx, fLen, fInt, gTyEq, gTyNe, gIsI, gSl, gNoP, gPart, fSl, fRev, fTup, vs?, rdA, zB, tyD, shI, shN, shB, eqvI, eqvS, fSl, sizeOk, fRev, fTup])); try exact ⟨rfl, rfl⟩)))
    (refine' FX.wp_ix (P := okD 30000 8) ?hsa ?hsb ?hsr ?hxx ?hPP ?_; (case hsa => (simp [mOf, bd, bdS, gC, gV, op1, op2, opN, gBin, gUn, gEsc, gN, gK, gCall, FX.gTup, gLst, gDic, gTst, gNot, gAnd, gOr, gAndV, gOrV, gNotV, gIf, gChain, bindT, bindTs, sNil, sSeq, sDrop, sRet, sRetN, sBrk, sCnt, sIf, sStuck, sSet, sUnp, gFn, argR, rdv, Rz.r, fAdd, fSub, fMul, fDiv, fMod, fNeg, fLt, fGt, fGe, fIsN, fNotN, fEq, fNe, fLe, fIn2, fNotIn2, fIx, fLen, fInt, gTyEq, gTyNe, gIsI, gSl, gNoP, gPart, fSl, fRev, fTup, vs?, rdA, zB, tyD, shI, shN, shB, eqvI, eqvS, sizeOk, e5]; try exact ⟨rfl, rfl, rfl⟩)); (case hsb => (simp [mOf, bd, bdS, gC, gV, op1, op2, opN, gBin, gUn, gEsc, gN, gK, gCall, FX.gTup, gLst, gDic, gTst, gNot, gAnd, gOr, gAndV, gOrV, gNotV, gIf, gChain, bindT, bindTs, sNil, sSeq, sDrop, sRet, sRetN, sBrk, sCnt, sIf, sStuck, sSet, sUnp, gFn, argR, rdv, Rz.r, fAdd, fSub, fMul, fDiv, fMod, fNeg, fLt, fGt, fGe, fIsN, fNotN, fEq, fNe, fLe, fIn2, fNotIn2, fIx, fLen, fInt, gTyEq, gTyNe, gIsI, gSl, gNoP, gPart, fSl, fRev, fTup, vs?, rdA, zB, tyD, shI, shN, shB, eqvI, eqvS, sizeOk, e5]; try exact ⟨rfl, rfl, rfl⟩)); (case hsr => rfl))
    case hxx => show y5 < 15; omega
    case hPP =>
      have fM' : okD 410 4 (.tuple [.int p.1, .int p.2, o.d p.1 p.2]) := fM.ok
      repeat' (first | exact all_nil | refine all_cons ?_ ?_ | exact okD_none | exact okD_dic | exact okI' (by omega) (by decide) | exact okL' (by decide +kernel) (by decide) | exact Row.two HR | exact Row.d' (HR.rev.mono (by decide)) | exact Row.t' (HR.mono (by decide)) | refine Row.d' ?_ | exact (HR.cut _ _).mono (by decide) | exact HR.rev.mono (by decide) | exact (HR.cut _ _).rev.mono (by decide) | refine Row.app' ?_ ?_ | exact Row.cons hx ((HR.cut _ _).mono (by decide)) | exact Row.cons fM' ((HR.cut _ _).mono (by decide)))
    exact fun v hv => ⟨rfl, v, rfl, hv⟩
  obtain ⟨r, s', e, rfl, x, rfl, hx⟩ := key
  exact ⟨x, d5, by rw [q__law_bent]; exact e, hx, hd5⟩
end
end FX.Pg

set_option Elab.async false
set_option linter.all false
set_option maxRecDepth 100000
namespace FX.Pg
open PySem PySem.Spec L2 FX
section
variable {K : PySem.W.Frag} {sa : Addr} {ns : List Int} {Y : Sys}
theorem kind_len (t : Bool) : 0 < (kindS t).length ∧ (kindS t).length ≤ 5 := by cases t <;> decide +kernel
theorem okS.len {k : Nat} {z : Str} (h : okS k z) : z.length ≤ k := h.2
theorem abc_at {y : Nat} (h : y < 26) : ∃ c, atI (Str.ofString "abcdefghijklmnopqrstuvwxyz").cps.toList (y : Int) = some c ∧ c < 1114112 := by
  have hl : (Str.ofString "abcdefghijklmnopqrstuvwxyz").cps.toList.length = 26 := by decide +kernel
  rw [atI_nat, List.getElem?_eq_getElem (by omega)]
  refine ⟨_, rfl, ?_⟩
  have : ((Str.ofString "abcdefghijklmnopqrstuvwxyz").cps.toList.all fun c => decide (c < 1114112)) = true := by decide +kernel
  exact of_decide_eq_true (List.all_eq_true.mp this _ (List.getElem_mem _))
theorem okU (t : Bool) : okS 7 (Txt.upper (kindS t)) := by
  cases t
  · exact ⟨by decide +kernel, by decide +kernel⟩
  · exact ⟨by decide +kernel, by decide +kernel⟩
theorem okS_len {a b : Nat} {x y : Str} (h : okS a x) (h' : okS b y) (e : a + b ≤ 1000) : x.length + y.length ≤ 1000000 := by
  have := h.len
  have := h'.len
  omega
theorem okw {n m : Nat} {d : D} {ds : List D} (h : okD 20000 m d) (h' : okA n m ds) : okA (n + 20001) m (d :: ds) := (okA_cons h h').mono (by omega) (Nat.le_refl _)
theorem no_league_ok {d : Dk} (hd : d.Ok) {l : Lg} (hl : l.Ok) :
    ∃ (x : D) (d' : Dk), m__law_no_league (K := K) (sa := sa) (ns := ns) [.h 0, .v l.d] (dS d) = some (.ok (.v x), dS d') ∧ okD 100000 10 x ∧ d'.Ok := by
  obtain ⟨y1, d1, e1, hy1, hd1⟩ := draw_ok (K := K) (sa := sa) (ns := ns) hd (m := 8) (by decide) (by decide)
  obtain ⟨t, n, v⟩ := l
  obtain ⟨pl, hpl⟩ : ∃ pl, pl = (⟨t, n, v⟩ : Lg).pl := ⟨_, rfl⟩
  have hd0 : (⟨t, n, v⟩ : Lg).d = .tuple [.str (kindS t), .int (n : Nat), .list pl] := by rw [hpl]; rfl
  obtain ⟨hl1, hl2⟩ := hl.isM
  rw [← hpl] at hl1 hl2
  have h2 : 2 ≤ n := hl.h2
  have h6 : n ≤ 6 := hl.h6
  rw [hd0]
  have okP : okD 20000 5 (.list pl) := (okD_lst (okA_of (n := 410) (m := 4) fun d h => (hl2 d h).ok)).mono (by
    show (410 + 1) * pl.length ≤ 20000
    omega) (by decide)
  have okK : okS 5 (kindS t) := okS_kind t
  have key : ∃ r s', mOf 11 b__law_no_league [R.h 0, .v (.tuple [.str (kindS t), .int (n : Nat), .list pl])] (dS (K := K) (sa := sa) (ns := ns) d) = some (r, s') ∧ (∃ x d', r = .ok (.v x) ∧ s' = dS d' ∧ okD 100000 10 x ∧ d'.Ok) := by
    refine wp_fn ?_
    unfold b__law_no_league
    (refine' FX.wp_seq ?hst ?_; (case hst => (simp [mOf, bd, bdS, gC, gV, op1, op2, opN, gBin, gUn, gEsc, gN, gK, gCall, FX.gTup, gLst, gDic, gTst, gNot, gAnd, gOr, gAndV, gOrV, gNotV, gIf, gChain, bindT, bindTs, sNil, sSeq, sDrop, sRet, sRetN, sBrk, sCnt, sIf, sStuck, sSet, sUnp, gFn, argR, rdv, Rz.r, fAdd, fSub, fMul, fDiv, fMod, fNeg, fLt, fGt, fGe, fIsN, fNotN, fEq, fNe, fLe, fIn2, fNotIn2, fIx, fLen, fInt, gTyEq, gTyNe, gIsI, gSl, gNoP, gPart, fSl, fRev, fTup, vs?, rdA, zB, tyD, shI, shN, shB, eqvI, eqvS]; try exact ⟨rfl, rfl⟩)))
    (refine' FX.wp_seq ?hst ?_; (case hst => (simp [mOf, bd, bdS, gC, gV, op1, op2, opN, gBin, gUn, gEsc, gN, gK, gCall, FX.gTup, gLst, gDic, gTst, gNot, gAnd, gOr, gAndV, gOrV, gNotV, gIf, gChain, bindT, bindTs, sNil, sSeq, sDrop, sRet, sRetN, sBrk, sCnt, sIf, sStuck, sSet, sUnp, gFn, argR, rdv, Rz.r, fAdd, fSub, fMul, fDiv, fMod, fNeg, fLt, fGt, fGe, fIsN, fNotN, fEq, fNe, fLe, fIn2, fNotIn2, fIx, fLen, fInt, gTyEq, gTyNe, gIsI, gSl, gNoP, gPart, fSl, fRev, fTup, vs?, rdA, zB, tyD, shI, shN, shB, eqvI, eqvS, e1]; try exact ⟨rfl, rfl⟩)))
    by_cases c1 : (y1 : Int) < 4
    · obtain ⟨x, d2, e2, hx, hd2⟩ := bent_ok (K := K) (sa := sa) (ns := ns) hd1 h2 h6 t hl1 hl2
      refine wp_then ?_
      (refine' FX.wp_if ?hst ?hpo ?hne; (case hst => (simp [mOf, bd, bdS, gC, gV, op1, op2, opN, gBin, gUn, gEsc, gN, gK, gCall, FX.gTup, gLst, gDic, gTst, gNot, gAnd, gOr, gAndV, gOrV, gNotV, gIf, gChain, bindT, bindTs, sNil, sSeq, sDrop, sRet, sRetN, sBrk, sCnt, sIf, sStuck, sSet, sUnp, gFn, argR, rdv, Rz.r, fAdd, fSub, fMul, fDiv, fMod, fNeg, fLt, fGt, fGe, fIsN, fNotN, fEq, fNe, fLe, fIn2, fNotIn2, fIx, fLen, fInt, gTyEq, gTyNe, gIsI, gSl, gNoP, gPart, fSl, fRev, fTup, vs?, rdA, zB, tyD, shI, shN, shB, eqvI, eqvS, c1]; try exact ⟨rfl, rfl, rfl⟩)))
      case hne => intro h; cases h
      case hpo =>
        intro _
        (refine' FX.wp_ret ?hst ?_; (case hst => (simp [mOf, bd, bdS, gC, gV, op1, op2, opN, gBin, gUn, gEsc, gN, gK, gCall, FX.gTup, gLst, gDic, gTst, gNot, gAnd, gOr, gAndV, gOrV, gNotV, gIf, gChain, bindT, bindTs, sNil, sSeq, sDrop, sRet, sRetN, sBrk, sCnt, sIf, sStuck, sSet, sUnp, gFn, argR, rdv, Rz.r, fAdd, fSub, fMul, fDiv, fMod, fNeg, fLt, fGt, fGe, fIsN, fNotN, fEq, fNe, fLe, fIn2, fNotIn2, fIx, fLen, fInt, gTyEq, gTyNe, gIsI, gSl, gNoP, gPart, fSl, fRev, fTup, vs?, rdA, zB, tyD, shI, shN, shB, eqvI, eqvS, e2, sizeOk]; try exact ⟨rfl, rfl, rfl⟩)))
        refine ⟨_, _, rfl, rfl, ?_, hd2⟩
        exact okD_tup ((okA_cons (okK.d (m := 9)) (okA_cons (okI (m := 9) (by omega)) (okA_cons (hx.mono (Nat.le_refl _) (by decide)) (okn (n := 0) (m := 9))))).mono (by decide) (by decide))
    (refine' FX.wp_seq ?hst ?_; (case hst => (simp [mOf, bd, bdS, gC, gV, op1, op2, opN, gBin, gUn, gEsc, gN, gK, gCall, FX.gTup, gLst, gDic, gTst, gNot, gAnd, gOr, gAndV, gOrV, gNotV, gIf, gChain, bindT, bindTs, sNil, sSeq, sDrop, sRet, sRetN, sBrk, sCnt, sIf, sStuck, sSet, sUnp, gFn, argR, rdv, Rz.r, fAdd, fSub, fMul, fDiv, fMod, fNeg, fLt, fGt, fGe, fIsN, fNotN, fEq, fNe, fLe, fIn2, fNotIn2, fIx, fLen, fInt, gTyEq, gTyNe, gIsI, gSl, gNoP, gPart, fSl, fRev, fTup, vs?, rdA, zB, tyD, shI, shN, shB, eqvI, eqvS, c1]; try exact ⟨rfl, rfl⟩)))
    by_cases c2 : (y1 : Int) = 4
    · have hk := kind_len t
      have hk5 : (kindS t).length ≤ 1000000 := by omega
      obtain ⟨y2, d2, e2, hy2, hd2⟩ := draw_ok (K := K) (sa := sa) (ns := ns) hd1 (m := ((kindS t).length : Nat)) (by omega) (by omega)
      obtain ⟨y3, d3, e3, hy3, hd3⟩ := draw_ok (K := K) (sa := sa) (ns := ns) hd2 (m := 26) (by decide) (by decide)
      obtain ⟨y4, d4, e4, hy4, hd4⟩ := draw_ok (K := K) (sa := sa) (ns := ns) hd3 (m := 15) (by decide) (by decide)
      obtain ⟨c, ec, hc⟩ := abc_at (y := y3) (by omega)
      have habc : (Str.ofString "abcdefghijklmnopqrstuvwxyz").length ≤ 1000000 := by decide +kernel
      have oc : okS 1 ⟨#[c]⟩ := okS_one hc
      have oA : okS 5 (cutS (kindS t) none (some (y2 : Int))) := okS_cut okK
      have oB : okS 5 (cutS (kindS t) (some ((y2 : Int) + 1)) none) := okS_cut okK
      have oC : okS 5 (cutS (kindS t) (some (y2 : Int)) none) := okS_cut okK
      refine wp_then ?_
      (refine' FX.wp_if ?hst ?hpo ?hne; (case hst => (simp [mOf, bd, bdS, gC, gV, op1, op2, opN, gBin, gUn, gEsc, gN, gK, gCall, FX.gTup, gLst, gDic, gTst, gNot, gAnd, gOr, gAndV, gOrV, gNotV, gIf, gChain, bindT, bindTs, sNil, sSeq, sDrop, sRet, sRetN, sBrk, sCnt, sIf, sStuck, sSet, sUnp, gFn, argR, rdv, Rz.r, fAdd, fSub, fMul, fDiv, fMod, fNeg, fLt, fGt, fGe, fIsN, fNotN, fEq, fNe, fLe, fIn2, fNotIn2, fIx, fLen, fInt, gTyEq, gTyNe, gIsI, gSl, gNoP, gPart, fSl, fRev, fTup, vs?, rdA, zB, tyD, shI, shN, shB, eqvI, eqvS, c2]; try exact ⟨rfl, rfl, rfl⟩)))
      case hne => intro h; cases h
      case hpo =>
        intro _
        (refine' FX.wp_seq ?hst ?_; (case hst => (simp [mOf, bd, bdS, gC, gV, op1, op2, opN, gBin, gUn, gEsc, gN, gK, gCall, FX.gTup, gLst, gDic, gTst, gNot, gAnd, gOr, gAndV, gOrV, gNotV, gIf, gChain, bindT, bindTs, sNil, sSeq, sDrop, sRet, sRetN, sBrk, sCnt, sIf, sStuck, sSet, sUnp, gFn, argR, rdv, Rz.r, fAdd, fSub, fMul, fDiv, fMod, fNeg, fLt, fGt, fGe, fIsN, fNotN, fEq, fNe, fLe, fIn2, fNotIn2, fIx, fLen, fInt, gTyEq, gTyNe, gIsI, gSl, gNoP, gPart, fSl, fRev, fTup, vs?, rdA, zB, tyD, shI, shN, shB, eqvI, eqvS, e2, hk5, sizeOk]; try exact ⟨rfl, rfl⟩)))
        (refine' FX.wp_seq ?hst ?_; (case hst => (simp [mOf, bd, bdS, gC, gV, op1, op2, opN, gBin, gUn, gEsc, gN, gK, gCall, FX.gTup, gLst, gDic, gTst, gNot, gAnd, gOr, gAndV, gOrV, gNotV, gIf, gChain, bindT, bindTs, sNil, sSeq, sDrop, sRet, sRetN, sBrk, sCnt, sIf, sStuck, sSet, sUnp, gFn, argR, rdv, Rz.r, fAdd, fSub, fMul, fDiv, fMod, fNeg, fLt, fGt, fGe, fIsN, fNotN, fEq, fNe, fLe, fIn2, fNotIn2, fIx, fLen, fInt, gTyEq, gTyNe, gIsI, gSl, gNoP, gPart, fSl, fRev, fTup, vs?, rdA, zB, tyD, shI, shN, shB, eqvI, eqvS, e3, habc, ec, sizeOk]; try exact ⟨rfl, rfl⟩)))
        (refine' FX.wp_seq ?hst ?_; (case hst => (simp [mOf, bd, bdS, gC, gV, op1, op2, opN, gBin, gUn, gEsc, gN, gK, gCall, FX.gTup, gLst, gDic, gTst, gNot, gAnd, gOr, gAndV, gOrV, gNotV, gIf, gChain, bindT, bindTs, sNil, sSeq, sDrop, sRet, sRetN, sBrk, sCnt, sIf, sStuck, sSet, sUnp, gFn, argR, rdv, Rz.r, fAdd, fSub, fMul, fDiv, fMod, fNeg, fLt, fGt, fGe, fIsN, fNotN, fEq, fNe, fLe, fIn2, fNotIn2, fIx, fLen, fInt, gTyEq, gTyNe, gIsI, gSl, gNoP, gPart, fSl, fRev, fTup, vs?, rdA, zB, tyD, shI, shN, shB, eqvI, eqvS, okS_len oA oc (by decide), okS_len (okS_app oA oc) oB (by decide), okS_len oA oB (by decide), okS_len (okS_app oA oc) oC (by decide), hk5, sizeOk]; try exact ⟨rfl, rfl⟩)))
        have o1 : okS 1 (Str.ofString " ") := ⟨by decide +kernel, by decide +kernel⟩
        have o2 : okS 1 (Str.ofString "\n") := ⟨by decide +kernel, by decide +kernel⟩
        (refine' FX.wp_seq ?hst ?_; (case hst => (simp [mOf, bd, bdS, gC, gV, op1, op2, opN, gBin, gUn, gEsc, gN, gK, gCall, FX.gTup, gLst, gDic, gTst, gNot, gAnd, gOr, gAndV, gOrV, gNotV, gIf, gChain, bindT, bindTs, sNil, sSeq, sDrop, sRet, sRetN, sBrk, sCnt, sIf, sStuck, sSet, sUnp, gFn, argR, rdv, Rz.r, fAdd, fSub, fMul, fDiv, fMod, fNeg, fLt, fGt, fGe, fIsN, fNotN, fEq, fNe, fLe, fIn2, fNotIn2, fIx, fLen, fInt, gTyEq, gTyNe, gIsI, gSl, gNoP, gPart, fSl, fRev, fTup, vs?, rdA, zB, tyD, shI, shN, shB, eqvI, eqvS, okS_len okK o1 (by decide), okS_len o2 okK (by decide), hk5, sizeOk, fUp]; try exact ⟨rfl, rfl⟩)))
        (refine' FX.wp_t0 (P := okD 60 2) ?hsa ?hsb ?hsr ?hxx ?hPP ?_; (case hsa => (simp [mOf, bd, bdS, gC, gV, op1, op2, opN, gBin, gUn, gEsc, gN, gK, gCall, FX.gTup, gLst, gDic, gTst, gNot, gAnd, gOr, gAndV, gOrV, gNotV, gIf, gChain, bindT, bindTs, sNil, sSeq, sDrop, sRet, sRetN, sBrk, sCnt, sIf, sStuck, sSet, sUnp, gFn, argR, rdv, Rz.r, fAdd, fSub, fMul, fDiv, fMod, fNeg, fLt, fGt, fGe, fIsN, fNotN, fEq, fNe, fLe, fIn2, fNotIn2, fIx, fLen, fInt, gTyEq, gTyNe, gIsI, gSl, gNoP, gPart, fSl, fRev, fTup, vs?, rdA, zB, tyD, shI, shN, shB, eqvI, eqvS, e4, sizeOk]; try exact ⟨rfl, rfl, rfl⟩)); (case hsb => (simp [mOf, bd, bdS, gC, gV, op1, op2, opN, gBin, gUn, gEsc, gN, gK, gCall, FX.gTup, gLst, gDic, gTst, gNot, gAnd, gOr, gAndV, gOrV, gNotV, gIf, gChain, bindT, bindTs, sNil, sSeq, sDrop, sRet, sRetN, sBrk, sCnt, sIf, sStuck, sSet, sUnp, gFn, argR, rdv, Rz.r, fAdd, fSub, fMul, fDiv, fMod, fNeg, fLt, fGt, fGe, fIsN, fNotN, fEq, fNe, fLe, fIn2, fNotIn2, fIx, fLen, fInt, gTyEq, gTyNe, gIsI, gSl, gNoP, gPart, fSl, fRev, fTup, vs?, rdA, zB, tyD, shI, shN, shB, eqvI, eqvS, e4, sizeOk]; try exact ⟨rfl, rfl, rfl⟩)); (case hsr => rfl))
        case hxx => show y4 < 15; omega
        case hPP =>
          have oK1 : okS 7 (kindS t ++ Str.ofString " ") := (okS_app okK o1).mono (by decide)
          have oK2 : okS 7 (Str.ofString "\n" ++ kindS t) := (okS_app o2 okK).mono (by decide)
          have oK3 : okS 30 (cutS (kindS t) none (some (y2 : Int)) ++ ⟨#[c]⟩ ++ cutS (kindS t) (some ((y2 : Int) + 1)) none) := (okS_app (okS_app oA oc) oB).mono (by decide)
          have oK4 : okS 30 (cutS (kindS t) none (some (y2 : Int)) ++ cutS (kindS t) (some ((y2 : Int) + 1)) none) := (okS_app oA oB).mono (by decide)
          have oK5 : okS 30 (cutS (kindS t) none (some (y2 : Int)) ++ ⟨#[c]⟩ ++ cutS (kindS t) (some (y2 : Int)) none) := (okS_app (okS_app oA oc) oC).mono (by decide)
          have oK6 := okU t
          repeat' (first | exact all_nil | refine all_cons ?_ ?_ | exact okD_none | exact okD_bool | exact okD_dic | exact okI' (by omega) (by decide) | exact okL' (by decide +kernel) (by decide) | exact (oK1.mono (by decide)).d | exact (oK2.mono (by decide)).d | exact (oK3.mono (by decide)).d | exact (oK4.mono (by decide)).d | exact (oK5.mono (by decide)).d | exact (oK6.mono (by decide)).d | exact okD_lst (okA_cons (okK.d (m := 1)) (okn (n := 54))) | exact okD_tup (okA_cons (okK.d (m := 1)) (okn (n := 54))))
        intro v hv
        (refine' FX.wp_ret ?hst ?_; (case hst => (simp [mOf, bd, bdS, gC, gV, op1, op2, opN, gBin, gUn, gEsc, gN, gK, gCall, FX.gTup, gLst, gDic, gTst, gNot, gAnd, gOr, gAndV, gOrV, gNotV, gIf, gChain, bindT, bindTs, sNil, sSeq, sDrop, sRet, sRetN, sBrk, sCnt, sIf, sStuck, sSet, sUnp, gFn, argR, rdv, Rz.r, fAdd, fSub, fMul, fDiv, fMod, fNeg, fLt, fGt, fGe, fIsN, fNotN, fEq, fNe, fLe, fIn2, fNotIn2, fIx, fLen, fInt, gTyEq, gTyNe, gIsI, gSl, gNoP, gPart, fSl, fRev, fTup, vs?, rdA, zB, tyD, shI, shN, shB, eqvI, eqvS, sizeOk]; try exact ⟨rfl, rfl, rfl⟩)))
        exact ⟨_, _, rfl, rfl, okD_tup ((okA_cons (hv.mono (Nat.le_refl _) (by decide)) (okA_cons (okI (m := 9) (by omega)) (okA_cons (okP.mono (Nat.le_refl _) (by decide)) (okn (n := 0) (m := 9))))).mono (by decide) (by decide)), hd4⟩
    (refine' FX.wp_seq ?hst ?_; (case hst => (simp [mOf, bd, bdS, gC, gV, op1, op2, opN, gBin, gUn, gEsc, gN, gK, gCall, FX.gTup, gLst, gDic, gTst, gNot, gAnd, gOr, gAndV, gOrV, gNotV, gIf, gChain, bindT, bindTs, sNil, sSeq, sDrop, sRet, sRetN, sBrk, sCnt, sIf, sStuck, sSet, sUnp, gFn, argR, rdv, Rz.r, fAdd, fSub, fMul, fDiv, fMod, fNeg, fLt, fGt, fGe, fIsN, fNotN, fEq, fNe, fLe, fIn2, fNotIn2, fIx, fLen, fInt, gTyEq, gTyNe, gIsI, gSl, gNoP, gPart, fSl, fRev, fTup, vs?, rdA, zB, tyD, shI, shN, shB, eqvI, eqvS, c2]; try exact ⟨rfl, rfl⟩)))
    by_cases c3 : (y1 : Int) = 5
    · obtain ⟨y2, d2, e2, hy2, hd2⟩ := draw_ok (K := K) (sa := sa) (ns := ns) hd1 (m := 6) (by decide) (by decide)
      obtain ⟨y3, d3, e3, hy3, hd3⟩ := draw_ok (K := K) (sa := sa) (ns := ns) hd2 (m := 14) (by decide) (by decide)
      refine wp_then ?_
      (refine' FX.wp_if ?hst ?hpo ?hne; (case hst => (simp [mOf, bd, bdS, gC, gV, op1, op2, opN, gBin, gUn, gEsc, gN, gK, gCall, FX.gTup, gLst, gDic, gTst, gNot, gAnd, gOr, gAndV, gOrV, gNotV, gIf, gChain, bindT, bindTs, sNil, sSeq, sDrop, sRet, sRetN, sBrk, sCnt, sIf, sStuck, sSet, sUnp, gFn, argR, rdv, Rz.r, fAdd, fSub, fMul, fDiv, fMod, fNeg, fLt, fGt, fGe, fIsN, fNotN, fEq, fNe, fLe, fIn2, fNotIn2, fIx, fLen, fInt, gTyEq, gTyNe, gIsI, gSl, gNoP, gPart, fSl, fRev, fTup, vs?, rdA, zB, tyD, shI, shN, shB, eqvI, eqvS, c3]; try exact ⟨rfl, rfl, rfl⟩)))
      case hne => intro h; cases h
      case hpo =>
        intro _
        (refine' FX.wp_seq ?hst ?_; (case hst => (simp [mOf, bd, bdS, gC, gV, op1, op2, opN, gBin, gUn, gEsc, gN, gK, gCall, FX.gTup, gLst, gDic, gTst, gNot, gAnd, gOr, gAndV, gOrV, gNotV, gIf, gChain, bindT, bindTs, sNil, sSeq, sDrop, sRet, sRetN, sBrk, sCnt, sIf, sStuck, sSet, sUnp, gFn, argR, rdv, Rz.r, fAdd, fSub, fMul, fDiv, fMod, fNeg, fLt, fGt, fGe, fIsN, fNotN, fEq, fNe, fLe, fIn2, fNotIn2, fIx, fLen, fInt, gTyEq, gTyNe, gIsI, gSl, gNoP, gPart, fSl, fRev, fTup, vs?, rdA, zB, tyD, shI, shN, shB, eqvI, eqvS, e2, fPow, sizeOk]; try exact ⟨rfl, rfl⟩)))
        (refine' FX.wp_t1 (P := okD 120 2) ?hs0 ?hsa ?hsb ?hsr ?hxx ?hPP ?_; (case hs0 => (simp [mOf, bd, bdS, gC, gV, op1, op2, opN, gBin, gUn, gEsc, gN, gK, gCall, FX.gTup, gLst, gDic, gTst, gNot, gAnd, gOr, gAndV, gOrV, gNotV, gIf, gChain, bindT, bindTs, sNil, sSeq, sDrop, sRet, sRetN, sBrk, sCnt, sIf, sStuck, sSet, sUnp, gFn, argR, rdv, Rz.r, fAdd, fSub, fMul, fDiv, fMod, fNeg, fLt, fGt, fGe, fIsN, fNotN, fEq, fNe, fLe, fIn2, fNotIn2, fIx, fLen, fInt, gTyEq, gTyNe, gIsI, gSl, gNoP, gPart, fSl, fRev, fTup, vs?, rdA, zB, tyD, shI, shN, shB, eqvI, eqvS, e3, sizeOk]; try exact ⟨rfl, rfl, rfl⟩)); (case hsa => (simp [mOf, bd, bdS, gC, gV, op1, op2, opN, gBin, gUn, gEsc, gN, gK, gCall, FX.gTup, gLst, gDic, gTst, gNot, gAnd, gOr, gAndV, gOrV, gNotV, gIf, gChain, bindT, bindTs, sNil, sSeq, sDrop, sRet, sRetN, sBrk, sCnt, sIf, sStuck, sSet, sUnp, gFn, argR, rdv, Rz.r, fAdd, fSub, fMul, fDiv, fMod, fNeg, fLt, fGt, fGe, fIsN, fNotN, fEq, fNe, fLe, fIn2, fNotIn2, fIx, fLen, fInt, gTyEq, gTyNe, gIsI, gSl, gNoP, gPart, fSl, fRev, fTup, vs?, rdA, zB, tyD, shI, shN, shB, eqvI, eqvS, e3, sizeOk]; try exact ⟨rfl, rfl, rfl⟩)); (case hsb => (simp [mOf, bd, bdS, gC, gV, op1, op2, opN, gBin, gUn, gEsc, gN, gK, gCall, FX.gTup, gLst, gDic, gTst, gNot, gAnd, gOr, gAndV, gOrV, gNotV, gIf, gChain, bindT, bindTs, sNil, sSeq, sDrop, sRet, sRetN, sBrk, sCnt, sIf, sStuck, sSet, sUnp, gFn, argR, rdv, Rz.r, fAdd, fSub, fMul, fDiv, fMod, fNeg, fLt, fGt, fGe, fIsN, fNotN, fEq, fNe, fLe, fIn2, fNotIn2, fIx, fLen, fInt, gTyEq, gTyNe, gIsI, gSl, gNoP, gPart, fSl, fRev, fTup, vs?, rdA, zB, tyD, shI, shN, shB, eqvI, eqvS, e3, sizeOk]; try exact ⟨rfl, rfl, rfl⟩)); (case hsr => rfl))
        case hxx => show y3 < 14; omega
        case hPP =>
          repeat' (first | exact all_nil | refine all_cons ?_ ?_ | exact okD_none | exact okD_bool | exact okD_dic | exact okI' (by omega) (by decide) | exact okL' (by decide +kernel) (by decide) | exact okD_int (by decide) (by decide) | exact okD_lst (okA_cons (okI (m := 1) (by omega)) (okn (n := 98))) | exact okD_tup (okA_cons (okI (m := 1) (by omega)) (okn (n := 98))))
        intro v hv
        (refine' FX.wp_ret ?hst ?_; (case hst => (simp [mOf, bd, bdS, gC, gV, op1, op2, opN, gBin, gUn, gEsc, gN, gK, gCall, FX.gTup, gLst, gDic, gTst, gNot, gAnd, gOr, gAndV, gOrV, gNotV, gIf, gChain, bindT, bindTs, sNil, sSeq, sDrop, sRet, sRetN, sBrk, sCnt, sIf, sStuck, sSet, sUnp, gFn, argR, rdv, Rz.r, fAdd, fSub, fMul, fDiv, fMod, fNeg, fLt, fGt, fGe, fIsN, fNotN, fEq, fNe, fLe, fIn2, fNotIn2, fIx, fLen, fInt, gTyEq, gTyNe, gIsI, gSl, gNoP, gPart, fSl, fRev, fTup, vs?, rdA, zB, tyD, shI, shN, shB, eqvI, eqvS, sizeOk]; try exact ⟨rfl, rfl, rfl⟩)))
        exact ⟨_, _, rfl, rfl, okD_tup ((okA_cons (okK.d (m := 9)) (okA_cons (hv.mono (Nat.le_refl _) (by decide)) (okA_cons (okP.mono (Nat.le_refl _) (by decide)) (okn (n := 0) (m := 9))))).mono (by decide) (by decide)), hd3⟩
    (refine' FX.wp_seq ?hst ?_; (case hst => (simp [mOf, bd, bdS, gC, gV, op1, op2, opN, gBin, gUn, gEsc, gN, gK, gCall, FX.gTup, gLst, gDic, gTst, gNot, gAnd, gOr, gAndV, gOrV, gNotV, gIf, gChain, bindT, bindTs, sNil, sSeq, sDrop, sRet, sRetN, sBrk, sCnt, sIf, sStuck, sSet, sUnp, gFn, argR, rdv, Rz.r, fAdd, fSub, fMul, fDiv, fMod, fNeg, fLt, fGt, fGe, fIsN, fNotN, fEq, fNe, fLe, fIn2, fNotIn2, fIx, fLen, fInt, gTyEq, gTyNe, gIsI, gSl, gNoP, gPart, fSl, fRev, fTup, vs?, rdA, zB, tyD, shI, shN, shB, eqvI, eqvS, c3]; try exact ⟨rfl, rfl⟩)))
    obtain ⟨y2, d2, e2, hy2, hd2⟩ := draw_ok (K := K) (sa := sa) (ns := ns) hd1 (m := 15) (by decide) (by decide)
    (refine' FX.wp_seq ?hst ?_; (case hst => (simp [mOf, bd, bdS, gC, gV, op1, op2, opN, gBin, gUn, gEsc, gN, gK, gCall, FX.gTup, gLst, gDic, gTst, gNot, gAnd, gOr, gAndV, gOrV, gNotV, gIf, gChain, bindT, bindTs, sNil, sSeq, sDrop, sRet, sRetN, sBrk, sCnt, sIf, sStuck, sSet, sUnp, gFn, argR, rdv, Rz.r, fAdd, fSub, fMul, fDiv, fMod, fNeg, fLt, fGt, fGe, fIsN, fNotN, fEq, fNe, fLe, fIn2, fNotIn2, fIx, fLen, fInt, gTyEq, gTyNe, gIsI, gSl, gNoP, gPart, fSl, fRev, fTup, vs?, rdA, zB, tyD, shI, shN, shB, eqvI, eqvS, sizeOk]; try exact ⟨rfl, rfl⟩)))
    (refine' FX.wp_ix (P := okD 100000 10) ?hsa ?hsb ?hsr ?hxx ?hPP ?_; (case hsa => (simp [mOf, bd, bdS, gC, gV, op1, op2, opN, gBin, gUn, gEsc, gN, gK, gCall, FX.gTup, gLst, gDic, gTst, gNot, gAnd, gOr, gAndV, gOrV, gNotV, gIf, gChain, bindT, bindTs, sNil, sSeq, sDrop, sRet, sRetN, sBrk, sCnt, sIf, sStuck, sSet, sUnp, gFn, argR, rdv, Rz.r, fAdd, fSub, fMul, fDiv, fMod, fNeg, fLt, fGt, fGe, fIsN, fNotN, fEq, fNe, fLe, fIn2, fNotIn2, fIx, fLen, fInt, gTyEq, gTyNe, gIsI, gSl, gNoP, gPart, fSl, fRev, fTup, vs?, rdA, zB, tyD, shI, shN, shB, eqvI, eqvS, e2, sizeOk]; try exact ⟨rfl, rfl, rfl⟩)); (case hsb => (simp [mOf, bd, bdS, gC, gV, op1, op2, opN, gBin, gUn, gEsc, gN, gK, gCall, FX.gTup, gLst, gDic, gTst, gNot, gAnd, gOr, gAndV, gOrV, gNotV, gIf, gChain, bindT, bindTs, sNil, sSeq, sDrop, sRet, sRetN, sBrk, sCnt, sIf, sStuck, sSet, sUnp, gFn, argR, rdv, Rz.r, fAdd, fSub, fMul, fDiv, fMod, fNeg, fLt, fGt, fGe, fIsN, fNotN, fEq, fNe, fLe, fIn2, fNotIn2, fIx, fLen, fInt, gTyEq, gTyNe, gIsI, gSl, gNoP, gPart, fSl, fRev, fTup, vs?, rdA, zB, tyD, shI, shN, shB, eqvI, eqvS, e2, sizeOk]; try exact ⟨rfl, rfl, rfl⟩)); (case hsr => rfl))
    case hxx => show y2 < 15; omega
    case hPP =>
      have okK' : okD 20000 9 (.str (kindS t)) := (okK.mono (by decide)).d
      have okP' : okD 20000 9 (.list pl) := okP.mono (Nat.le_refl _) (by decide)
      have okN : okD 20000 9 (.int (n : Nat)) := okI' (by omega) (by decide)
      have ok0 : okD 20000 9 (.int 0) := okI' (by omega) (by decide)
      have okP2 : okD 100000 10 (.list pl) := okP.mono (by decide) (by decide)
      have okK2 : okD 100000 10 (.str (kindS t)) := (okK.mono (by decide)).d
      repeat' (first | exact all_nil | refine all_cons ?_ ?_ | exact okD_none | exact okD_bool | exact okD_dic | exact okI' (by omega) (by decide) | exact okL' (by decide +kernel) (by decide) | exact okP2 | exact okK2 | exact okK' | exact okP' | exact okN | exact ok0 | exact okn | refine okw ?_ ?_ | refine okD_tup ?_ | refine okD_lst ?_)
    exact fun v hv => ⟨_, _, rfl, rfl, hv, hd2⟩
  obtain ⟨r, s', e, x, d', rfl, rfl, hx, hd'⟩ := key
  exact ⟨x, d', by rw [q__law_no_league]; exact e, hx, hd'⟩
end
end FX.Pg

set_option Elab.async false
set_option linter.all false
set_option maxRecDepth 100000
namespace FX.Pg
open PySem PySem.Spec L2 FX
theorem kb (a b : String) (r : Option Bool) (h : kitB a b = r) (d : D) (e : tyD d = a) : isI d b = r := by unfold isI; rw [e]; exact h
theorem k_nn_int : kitB "NoneType" "int" = some false := by decide +kernel
theorem k_bl_int : kitB "bool" "int" = some true := by decide +kernel
theorem k_it_int : kitB "int" "int" = some true := by decide +kernel
theorem k_st_int : kitB "str" "int" = some false := by decide +kernel
theorem k_ls_int : kitB "list" "int" = some false := by decide +kernel
theorem k_tp_int : kitB "tuple" "int" = some false := by decide +kernel
theorem k_dc_int : kitB "dict" "int" = some false := by decide +kernel
theorem k_nn_bl : kitB "NoneType" "bool" = some false := by decide +kernel
theorem k_bl_bl : kitB "bool" "bool" = some true := by decide +kernel
theorem k_it_bl : kitB "int" "bool" = some false := by decide +kernel
theorem k_nn_tp : kitB "NoneType" "tuple" = some false := by decide +kernel
theorem k_bl_tp : kitB "bool" "tuple" = some false := by decide +kernel
theorem k_it_tp : kitB "int" "tuple" = some false := by decide +kernel
theorem k_st_tp : kitB "str" "tuple" = some false := by decide +kernel
theorem k_ls_tp : kitB "list" "tuple" = some false := by decide +kernel
theorem k_tp_tp : kitB "tuple" "tuple" = some true := by decide +kernel
theorem k_dc_tp : kitB "dict" "tuple" = some false := by decide +kernel
theorem k_nn_st : kitB "NoneType" "str" = some false := by decide +kernel
theorem k_bl_st : kitB "bool" "str" = some false := by decide +kernel
theorem k_it_st : kitB "int" "str" = some false := by decide +kernel
theorem k_st_st : kitB "str" "str" = some true := by decide +kernel
theorem k_ls_st : kitB "list" "str" = some false := by decide +kernel
theorem k_tp_st : kitB "tuple" "str" = some false := by decide +kernel
theorem k_dc_st : kitB "dict" "str" = some false := by decide +kernel
theorem k_nn_ls : kitB "NoneType" "list" = some false := by decide +kernel
theorem k_bl_ls : kitB "bool" "list" = some false := by decide +kernel
theorem k_it_ls : kitB "int" "list" = some false := by decide +kernel
theorem k_st_ls : kitB "str" "list" = some false := by decide +kernel
theorem k_ls_ls : kitB "list" "list" = some true := by decide +kernel
theorem k_tp_ls : kitB "tuple" "list" = some false := by decide +kernel
theorem k_dc_ls : kitB "dict" "list" = some false := by decide +kernel
section
variable {Y : Sys}
theorem gm_body (kd : Str) (n : Int) (d a b c one : D) (s : Y.S) : l__law_is_good_match_1 [some (.v (.str kd)), some (.v (.int n)), some (.v d), some (.v a), some (.v b), some (.v c), some (.v one)] s =
    some (if isPlayer one n = true then .nx else .rt (.v (.bool false)), [some (.v (.str kd)), some (.v (.int n)), some (.v d), some (.v a), some (.v b), some (.v c), some (.v one)], s) := by
  cases one with
  | int i =>
    by_cases h1 : 0 ≤ i
    · by_cases h2 : i < n
      · have h3 : ¬ n ≤ i := by omega
        (simp [mOf, bd, bdS, gC, gV, op1, op2, opN, gBin, gUn, gEsc, gN, gK, gCall, FX.gTup, gLst, gDic, gTst, gNot, gAnd, gOr, gAndV, gOrV, gNotV, gIf, gChain, bindT, bindTs, sNil, sSeq, sDrop, sRet, sRetN, sBrk, sCnt, sIf, sStuck, sSet, sUnp, gFn, argR, rdv, Rz.r, fAdd, fSub, fMul, fDiv, fMod, fNeg, fLt, fGt, fGe, fIsN, fNotN, fEq, fNe, fLe, fIn2, fNotIn2, fIx, fLen, fInt, gTyEq, gTyNe, gIsI, gSl, gNoP, gPart, fSl, fRev, fTup, vs?, rdA, zB, tyD, shI, shN, shB, eqvI, eqvS, l__law_is_good_match_1, isI, k_nn_int, k_bl_int, k_it_int, k_st_int, k_ls_int, k_tp_int, k_dc_int, k_nn_bl, k_bl_bl, k_it_bl, k_nn_tp, k_bl_tp, k_it_tp, k_st_tp, k_ls_tp, k_tp_tp, k_dc_tp, k_nn_st, k_bl_st, k_it_st, k_st_st, k_ls_st, k_tp_st, k_dc_st, k_nn_ls, k_bl_ls, k_it_ls, k_st_ls, k_ls_ls, k_tp_ls, k_dc_ls, isPlayer, h1, h2, h3] <;> try rfl)
      · have h3 : n ≤ i := by omega
        (simp [mOf, bd, bdS, gC, gV, op1, op2, opN, gBin, gUn, gEsc, gN, gK, gCall, FX.gTup, gLst, gDic, gTst, gNot, gAnd, gOr, gAndV, gOrV, gNotV, gIf, gChain, bindT, bindTs, sNil, sSeq, sDrop, sRet, sRetN, sBrk, sCnt, sIf, sStuck, sSet, sUnp, gFn, argR, rdv, Rz.r, fAdd, fSub, fMul, fDiv, fMod, fNeg, fLt, fGt, fGe, fIsN, fNotN, fEq, fNe, fLe, fIn2, fNotIn2, fIx, fLen, fInt, gTyEq, gTyNe, gIsI, gSl, gNoP, gPart, fSl, fRev, fTup, vs?, rdA, zB, tyD, shI, shN, shB, eqvI, eqvS, l__law_is_good_match_1, isI, k_nn_int, k_bl_int, k_it_int, k_st_int, k_ls_int, k_tp_int, k_dc_int, k_nn_bl, k_bl_bl, k_it_bl, k_nn_tp, k_bl_tp, k_it_tp, k_st_tp, k_ls_tp, k_tp_tp, k_dc_tp, k_nn_st, k_bl_st, k_it_st, k_st_st, k_ls_st, k_tp_st, k_dc_st, k_nn_ls, k_bl_ls, k_it_ls, k_st_ls, k_ls_ls, k_tp_ls, k_dc_ls, isPlayer, h1, h2, h3] <;> try rfl)
    · have h3 : i < 0 := by omega
      (simp [mOf, bd, bdS, gC, gV, op1, op2, opN, gBin, gUn, gEsc, gN, gK, gCall, FX.gTup, gLst, gDic, gTst, gNot, gAnd, gOr, gAndV, gOrV, gNotV, gIf, gChain, bindT, bindTs, sNil, sSeq, sDrop, sRet, sRetN, sBrk, sCnt, sIf, sStuck, sSet, sUnp, gFn, argR, rdv, Rz.r, fAdd, fSub, fMul, fDiv, fMod, fNeg, fLt, fGt, fGe, fIsN, fNotN, fEq, fNe, fLe, fIn2, fNotIn2, fIx, fLen, fInt, gTyEq, gTyNe, gIsI, gSl, gNoP, gPart, fSl, fRev, fTup, vs?, rdA, zB, tyD, shI, shN, shB, eqvI, eqvS, l__law_is_good_match_1, isI, k_nn_int, k_bl_int, k_it_int, k_st_int, k_ls_int, k_tp_int, k_dc_int, k_nn_bl, k_bl_bl, k_it_bl, k_nn_tp, k_bl_tp, k_it_tp, k_st_tp, k_ls_tp, k_tp_tp, k_dc_tp, k_nn_st, k_bl_st, k_it_st, k_st_st, k_ls_st, k_tp_st, k_dc_st, k_nn_ls, k_bl_ls, k_it_ls, k_st_ls, k_ls_ls, k_tp_ls, k_dc_ls, isPlayer, h1, h3] <;> try rfl)
  | _ => (simp [mOf, bd, bdS, gC, gV, op1, op2, opN, gBin, gUn, gEsc, gN, gK, gCall, FX.gTup, gLst, gDic, gTst, gNot, gAnd, gOr, gAndV, gOrV, gNotV, gIf, gChain, bindT, bindTs, sNil, sSeq, sDrop, sRet, sRetN, sBrk, sCnt, sIf, sStuck, sSet, sUnp, gFn, argR, rdv, Rz.r, fAdd, fSub, fMul, fDiv, fMod, fNeg, fLt, fGt, fGe, fIsN, fNotN, fEq, fNe, fLe, fIn2, fNotIn2, fIx, fLen, fInt, gTyEq, gTyNe, gIsI, gSl, gNoP, gPart, fSl, fRev, fTup, vs?, rdA, zB, tyD, shI, shN, shB, eqvI, eqvS, l__law_is_good_match_1, isI, k_nn_int, k_bl_int, k_it_int, k_st_int, k_ls_int, k_tp_int, k_dc_int, k_nn_bl, k_bl_bl, k_it_bl, k_nn_tp, k_bl_tp, k_it_tp, k_st_tp, k_ls_tp, k_tp_tp, k_dc_tp, k_nn_st, k_bl_st, k_it_st, k_st_st, k_ls_st, k_tp_st, k_dc_st, k_nn_ls, k_bl_ls, k_it_ls, k_st_ls, k_ls_ls, k_tp_ls, k_dc_ls, isPlayer] <;> try rfl)
theorem gm_three (kd : Str) (hk : SeqAt.shaped (.str kd) = true) (n : Int) (a b c : D) (s : Y.S) :
    Wp (b__law_is_good_match [some (.v (.str kd)), some (.v (.int n)), some (.v (.tuple [a, b, c])), none, none, none, none] s) (Rt fun r s' => s' = s ∧ r = .ok (.v (.bool (isPlayed kd n (.tuple [a, b, c]))))) := by
  unfold b__law_is_good_match
  (refine' FX.wp_seq ?hst ?_; (case hst => (simp [mOf, bd, bdS, gC, gV, op1, op2, opN, gBin, gUn, gEsc, gN, gK, gCall, FX.gTup, gLst, gDic, gTst, gNot, gAnd, gOr, gAndV, gOrV, gNotV, gIf, gChain, bindT, bindTs, sNil, sSeq, sDrop, sRet, sRetN, sBrk, sCnt, sIf, sStuck, sSet, sUnp, gFn, argR, rdv, Rz.r, fAdd, fSub, fMul, fDiv, fMod, fNeg, fLt, fGt, fGe, fIsN, fNotN, fEq, fNe, fLe, fIn2, fNotIn2, fIx, fLen, fInt, gTyEq, gTyNe, gIsI, gSl, gNoP, gPart, fSl, fRev, fTup, vs?, rdA, zB, tyD, shI, shN, shB, eqvI, eqvS, isI, k_nn_int, k_bl_int, k_it_int, k_st_int, k_ls_int, k_tp_int, k_dc_int, k_nn_bl, k_bl_bl, k_it_bl, k_nn_tp, k_bl_tp, k_it_tp, k_st_tp, k_ls_tp, k_tp_tp, k_dc_tp, k_nn_st, k_bl_st, k_it_st, k_st_st, k_ls_st, k_tp_st, k_dc_st, k_nn_ls, k_bl_ls, k_it_ls, k_st_ls, k_ls_ls, k_tp_ls, k_dc_ls]; try exact ⟨rfl, rfl⟩)))
  (refine' FX.wp_seq ?hst ?_; (case hst => (simp [mOf, bd, bdS, gC, gV, op1, op2, opN, gBin, gUn, gEsc, gN, gK, gCall, FX.gTup, gLst, gDic, gTst, gNot, gAnd, gOr, gAndV, gOrV, gNotV, gIf, gChain, bindT, bindTs, sNil, sSeq, sDrop, sRet, sRetN, sBrk, sCnt, sIf, sStuck, sSet, sUnp, gFn, argR, rdv, Rz.r, fAdd, fSub, fMul, fDiv, fMod, fNeg, fLt, fGt, fGe, fIsN, fNotN, fEq, fNe, fLe, fIn2, fNotIn2, fIx, fLen, fInt, gTyEq, gTyNe, gIsI, gSl, gNoP, gPart, fSl, fRev, fTup, vs?, rdA, zB, tyD, shI, shN, shB, eqvI, eqvS]; try exact ⟨rfl, rfl⟩)))
  have eg : gItL (Y := Y) (gLst (gK (gEsc (gV 3)) (gK (gEsc (gV 4)) gN))) [some (.v (.str kd)), some (.v (.int n)), some (.v (.tuple [a, b, c])), some (.v a), some (.v b), some (.v c), none] s =
    some (.ok [a, b], [some (.v (.str kd)), some (.v (.int n)), some (.v (.tuple [a, b, c])), some (.v a), some (.v b), some (.v c), none], s) := by (simp [mOf, bd, bdS, gC, gV, op1, op2, opN, gBin, gUn, gEsc, gN, gK, gCall, FX.gTup, gLst, gDic, gTst, gNot, gAnd, gOr, gAndV, gOrV, gNotV, gIf, gChain, bindT, bindTs, sNil, sSeq, sDrop, sRet, sRetN, sBrk, sCnt, sIf, sStuck, sSet, sUnp, gFn, argR, rdv, Rz.r, fAdd, fSub, fMul, fDiv, fMod, fNeg, fLt, fGt, fGe, fIsN, fNotN, fEq, fNe, fLe, fIn2, fNotIn2, fIx, fLen, fInt, gTyEq, gTyNe, gIsI, gSl, gNoP, gPart, fSl, fRev, fTup, vs?, rdA, zB, tyD, shI, shN, shB, eqvI, eqvS, gItL, sizeOk] <;> try rfl)
  refine wp_then ?_
  rw [for_run eg, forG_cons (Γ1 := [some (.v (.str kd)), some (.v (.int n)), some (.v (.tuple [a, b, c])), some (.v a), some (.v b), some (.v c), some (.v a)]) rfl, gm_body]
  by_cases ha : isPlayer a n = true
  · rw [if_pos ha]
    simp only
    rw [forG_cons (Γ1 := [some (.v (.str kd)), some (.v (.int n)), some (.v (.tuple [a, b, c])), some (.v a), some (.v b), some (.v c), some (.v b)]) rfl, gm_body]
    by_cases hb : isPlayer b n = true
    · rw [if_pos hb]
      simp only [forG]
      refine wp_of rfl ?_
      show Wp _ _
      cases a with
      | int i =>
        cases b with
        | int j =>
          by_cases hij : i < j
          · have h2 : ¬ j ≤ i := by omega
            have h3 : j > i := hij
            cases c with
            | none =>
              refine wp_then ?_
              (refine' FX.wp_if ?hst ?hpo ?hne; (case hst => (simp [mOf, bd, bdS, gC, gV, op1, op2, opN, gBin, gUn, gEsc, gN, gK, gCall, FX.gTup, gLst, gDic, gTst, gNot, gAnd, gOr, gAndV, gOrV, gNotV, gIf, gChain, bindT, bindTs, sNil, sSeq, sDrop, sRet, sRetN, sBrk, sCnt, sIf, sStuck, sSet, sUnp, gFn, argR, rdv, Rz.r, fAdd, fSub, fMul, fDiv, fMod, fNeg, fLt, fGt, fGe, fIsN, fNotN, fEq, fNe, fLe, fIn2, fNotIn2, fIx, fLen, fInt, gTyEq, gTyNe, gIsI, gSl, gNoP, gPart, fSl, fRev, fTup, vs?, rdA, zB, tyD, shI, shN, shB, eqvI, eqvS, isNo, h2]; try exact ⟨rfl, rfl, rfl⟩)))
              case hne => intro h; cases h
              case hpo =>
                intro _
                (refine' FX.wp_ret ?hst ?_; (case hst => (simp [mOf, bd, bdS, gC, gV, op1, op2, opN, gBin, gUn, gEsc, gN, gK, gCall, FX.gTup, gLst, gDic, gTst, gNot, gAnd, gOr, gAndV, gOrV, gNotV, gIf, gChain, bindT, bindTs, sNil, sSeq, sDrop, sRet, sRetN, sBrk, sCnt, sIf, sStuck, sSet, sUnp, gFn, argR, rdv, Rz.r, fAdd, fSub, fMul, fDiv, fMod, fNeg, fLt, fGt, fGe, fIsN, fNotN, fEq, fNe, fLe, fIn2, fNotIn2, fIx, fLen, fInt, gTyEq, gTyNe, gIsI, gSl, gNoP, gPart, fSl, fRev, fTup, vs?, rdA, zB, tyD, shI, shN, shB, eqvI, eqvS, hij, hk, sh_ties]; try exact ⟨rfl, rfl, rfl⟩)))
                refine ⟨rfl, ?_⟩
                simp [isPlayed, ha, hb, hij, isOutcome]
            | int z =>
              (refine' FX.wp_seq ?hst ?_; (case hst => (simp [mOf, bd, bdS, gC, gV, op1, op2, opN, gBin, gUn, gEsc, gN, gK, gCall, FX.gTup, gLst, gDic, gTst, gNot, gAnd, gOr, gAndV, gOrV, gNotV, gIf, gChain, bindT, bindTs, sNil, sSeq, sDrop, sRet, sRetN, sBrk, sCnt, sIf, sStuck, sSet, sUnp, gFn, argR, rdv, Rz.r, fAdd, fSub, fMul, fDiv, fMod, fNeg, fLt, fGt, fGe, fIsN, fNotN, fEq, fNe, fLe, fIn2, fNotIn2, fIx, fLen, fInt, gTyEq, gTyNe, gIsI, gSl, gNoP, gPart, fSl, fRev, fTup, vs?, rdA, zB, tyD, shI, shN, shB, eqvI, eqvS, isNo, h2]; try exact ⟨rfl, rfl⟩)))
              by_cases h4 : z = i
              · (refine' FX.wp_ret ?hst ?_; (case hst => (simp [mOf, bd, bdS, gC, gV, op1, op2, opN, gBin, gUn, gEsc, gN, gK, gCall, FX.gTup, gLst, gDic, gTst, gNot, gAnd, gOr, gAndV, gOrV, gNotV, gIf, gChain, bindT, bindTs, sNil, sSeq, sDrop, sRet, sRetN, sBrk, sCnt, sIf, sStuck, sSet, sUnp, gFn, argR, rdv, Rz.r, fAdd, fSub, fMul, fDiv, fMod, fNeg, fLt, fGt, fGe, fIsN, fNotN, fEq, fNe, fLe, fIn2, fNotIn2, fIx, fLen, fInt, gTyEq, gTyNe, gIsI, gSl, gNoP, gPart, fSl, fRev, fTup, vs?, rdA, zB, tyD, shI, shN, shB, eqvI, eqvS, isI, k_nn_int, k_bl_int, k_it_int, k_st_int, k_ls_int, k_tp_int, k_dc_int, k_nn_bl, k_bl_bl, k_it_bl, k_nn_tp, k_bl_tp, k_it_tp, k_st_tp, k_ls_tp, k_tp_tp, k_dc_tp, k_nn_st, k_bl_st, k_it_st, k_st_st, k_ls_st, k_tp_st, k_dc_st, k_nn_ls, k_bl_ls, k_it_ls, k_st_ls, k_ls_ls, k_tp_ls, k_dc_ls, h4]; try exact ⟨rfl, rfl, rfl⟩)))
                refine ⟨rfl, ?_⟩
                simp [isPlayed, ha, hb, hij, isOutcome, h4]
              · (refine' FX.wp_ret ?hst ?_; (case hst => (simp [mOf, bd, bdS, gC, gV, op1, op2, opN, gBin, gUn, gEsc, gN, gK, gCall, FX.gTup, gLst, gDic, gTst, gNot, gAnd, gOr, gAndV, gOrV, gNotV, gIf, gChain, bindT, bindTs, sNil, sSeq, sDrop, sRet, sRetN, sBrk, sCnt, sIf, sStuck, sSet, sUnp, gFn, argR, rdv, Rz.r, fAdd, fSub, fMul, fDiv, fMod, fNeg, fLt, fGt, fGe, fIsN, fNotN, fEq, fNe, fLe, fIn2, fNotIn2, fIx, fLen, fInt, gTyEq, gTyNe, gIsI, gSl, gNoP, gPart, fSl, fRev, fTup, vs?, rdA, zB, tyD, shI, shN, shB, eqvI, eqvS, isI, k_nn_int, k_bl_int, k_it_int, k_st_int, k_ls_int, k_tp_int, k_dc_int, k_nn_bl, k_bl_bl, k_it_bl, k_nn_tp, k_bl_tp, k_it_tp, k_st_tp, k_ls_tp, k_tp_tp, k_dc_tp, k_nn_st, k_bl_st, k_it_st, k_st_st, k_ls_st, k_tp_st, k_dc_st, k_nn_ls, k_bl_ls, k_it_ls, k_st_ls, k_ls_ls, k_tp_ls, k_dc_ls, h4]; try exact ⟨rfl, rfl, rfl⟩)))
                refine ⟨rfl, ?_⟩
                simp [isPlayed, ha, hb, hij, isOutcome, h4]
            | _ =>
              (refine' FX.wp_seq ?hst ?_; (case hst => (simp [mOf, bd, bdS, gC, gV, op1, op2, opN, gBin, gUn, gEsc, gN, gK, gCall, FX.gTup, gLst, gDic, gTst, gNot, gAnd, gOr, gAndV, gOrV, gNotV, gIf, gChain, bindT, bindTs, sNil, sSeq, sDrop, sRet, sRetN, sBrk, sCnt, sIf, sStuck, sSet, sUnp, gFn, argR, rdv, Rz.r, fAdd, fSub, fMul, fDiv, fMod, fNeg, fLt, fGt, fGe, fIsN, fNotN, fEq, fNe, fLe, fIn2, fNotIn2, fIx, fLen, fInt, gTyEq, gTyNe, gIsI, gSl, gNoP, gPart, fSl, fRev, fTup, vs?, rdA, zB, tyD, shI, shN, shB, eqvI, eqvS, isNo, h2]; try exact ⟨rfl, rfl⟩)))
              (refine' FX.wp_ret ?hst ?_; (case hst => (simp [mOf, bd, bdS, gC, gV, op1, op2, opN, gBin, gUn, gEsc, gN, gK, gCall, FX.gTup, gLst, gDic, gTst, gNot, gAnd, gOr, gAndV, gOrV, gNotV, gIf, gChain, bindT, bindTs, sNil, sSeq, sDrop, sRet, sRetN, sBrk, sCnt, sIf, sStuck, sSet, sUnp, gFn, argR, rdv, Rz.r, fAdd, fSub, fMul, fDiv, fMod, fNeg, fLt, fGt, fGe, fIsN, fNotN, fEq, fNe, fLe, fIn2, fNotIn2, fIx, fLen, fInt, gTyEq, gTyNe, gIsI, gSl, gNoP, gPart, fSl, fRev, fTup, vs?, rdA, zB, tyD, shI, shN, shB, eqvI, eqvS, isI, k_nn_int, k_bl_int, k_it_int, k_st_int, k_ls_int, k_tp_int, k_dc_int, k_nn_bl, k_bl_bl, k_it_bl, k_nn_tp, k_bl_tp, k_it_tp, k_st_tp, k_ls_tp, k_tp_tp, k_dc_tp, k_nn_st, k_bl_st, k_it_st, k_st_st, k_ls_st, k_tp_st, k_dc_st, k_nn_ls, k_bl_ls, k_it_ls, k_st_ls, k_ls_ls, k_tp_ls, k_dc_ls]; try exact ⟨rfl, rfl, rfl⟩)))
              refine ⟨rfl, ?_⟩
              simp [isPlayed, ha, hb, hij, isOutcome]
          · have h2 : j ≤ i := by omega
            refine wp_then ?_
            (refine' FX.wp_if ?hst ?hpo ?hne; (case hst => (simp [mOf, bd, bdS, gC, gV, op1, op2, opN, gBin, gUn, gEsc, gN, gK, gCall, FX.gTup, gLst, gDic, gTst, gNot, gAnd, gOr, gAndV, gOrV, gNotV, gIf, gChain, bindT, bindTs, sNil, sSeq, sDrop, sRet, sRetN, sBrk, sCnt, sIf, sStuck, sSet, sUnp, gFn, argR, rdv, Rz.r, fAdd, fSub, fMul, fDiv, fMod, fNeg, fLt, fGt, fGe, fIsN, fNotN, fEq, fNe, fLe, fIn2, fNotIn2, fIx, fLen, fInt, gTyEq, gTyNe, gIsI, gSl, gNoP, gPart, fSl, fRev, fTup, vs?, rdA, zB, tyD, shI, shN, shB, eqvI, eqvS, h2]; try exact ⟨rfl, rfl, rfl⟩)))
            case hne => intro h; cases h
            case hpo =>
              intro _
              (refine' FX.wp_ret ?hst ?_; (case hst => (simp [mOf, bd, bdS, gC, gV, op1, op2, opN, gBin, gUn, gEsc, gN, gK, gCall, FX.gTup, gLst, gDic, gTst, gNot, gAnd, gOr, gAndV, gOrV, gNotV, gIf, gChain, bindT, bindTs, sNil, sSeq, sDrop, sRet, sRetN, sBrk, sCnt, sIf, sStuck, sSet, sUnp, gFn, argR, rdv, Rz.r, fAdd, fSub, fMul, fDiv, fMod, fNeg, fLt, fGt, fGe, fIsN, fNotN, fEq, fNe, fLe, fIn2, fNotIn2, fIx, fLen, fInt, gTyEq, gTyNe, gIsI, gSl, gNoP, gPart, fSl, fRev, fTup, vs?, rdA, zB, tyD, shI, shN, shB, eqvI, eqvS, hij]; try exact ⟨rfl, rfl, rfl⟩)))
              refine ⟨rfl, ?_⟩
              simp [isPlayed, ha, hb, hij]
        | _ => cases hb
      | _ => cases ha
    · rw [if_neg hb]
      refine wp_of rfl ⟨rfl, ?_⟩
      cases a with
      | int i =>
        cases b with
        | int j => simp [isPlayed, ha, hb]
        | _ => rfl
      | _ => rfl
  · rw [if_neg ha]
    refine wp_of rfl ⟨rfl, ?_⟩
    cases a with
    | int i =>
      cases b with
      | int j => simp [isPlayed, ha]
      | _ => rfl
    | _ => rfl
theorem good_match_eq (kd : Str) (hk : SeqAt.shaped (.str kd) = true) (n : Int) (d : D) (s : Y.S) : m__law_is_good_match [.v (.str kd), .v (.int n), .v d] s = some (.ok (.v (.bool (isPlayed kd n d))), s) := by
  have key : ∃ r s', mOf 7 b__law_is_good_match [.v (.str kd), .v (.int n), .v d] s = some (r, s') ∧ (s' = s ∧ r = .ok (.v (.bool (isPlayed kd n d)))) := by
    refine wp_fn ?_
    have no : isPlayed kd n d = false → (gOr (gNot (gTst (gIsI "tuple" (gV 2)))) (gTst (gBin fNe (gCall fLen (gK (gV 2) gN)) (gC (.int 3)))) : GT Y) ([some (.v (.str kd)), some (.v (.int n)), some (.v d), none, none, none, none]) s = some (.ok true, [some (.v (.str kd)), some (.v (.int n)), some (.v d), none, none, none, none], s) →
      Wp (b__law_is_good_match [some (.v (.str kd)), some (.v (.int n)), some (.v d), none, none, none, none] s) (Rt fun r s' => s' = s ∧ r = .ok (.v (.bool (isPlayed kd n d)))) := by
      intro h e
      unfold b__law_is_good_match
      refine wp_then (wp_if e (fun _ => ?_) fun h => nomatch h)
      (refine' FX.wp_ret ?hst ?_; (case hst => (simp [mOf, bd, bdS, gC, gV, op1, op2, opN, gBin, gUn, gEsc, gN, gK, gCall, FX.gTup, gLst, gDic, gTst, gNot, gAnd, gOr, gAndV, gOrV, gNotV, gIf, gChain, bindT, bindTs, sNil, sSeq, sDrop, sRet, sRetN, sBrk, sCnt, sIf, sStuck, sSet, sUnp, gFn, argR, rdv, Rz.r, fAdd, fSub, fMul, fDiv, fMod, fNeg, fLt, fGt, fGe, fIsN, fNotN, fEq, fNe, fLe, fIn2, fNotIn2, fIx, fLen, fInt, gTyEq, gTyNe, gIsI, gSl, gNoP, gPart, fSl, fRev, fTup, vs?, rdA, zB, tyD, shI, shN, shB, eqvI, eqvS]; try exact ⟨rfl, rfl, rfl⟩)))
      exact ⟨rfl, by rw [h]⟩
    cases d with
    | tuple ds =>
      by_cases hl : ds.length = 3
      · match ds, hl with
        | [a, b, c], _ => exact gm_three kd hk n a b c s
      · have hl2 : ¬ (ds.length : Int) = 3 := by omega
        refine no ?_ ?_
        · unfold isPlayed
          split
          · rename_i e
            cases e
            exact absurd (show ([PyData.int _, .int _, _] : List D).length = 3 from rfl) hl
          · rfl
        · (simp [mOf, bd, bdS, gC, gV, op1, op2, opN, gBin, gUn, gEsc, gN, gK, gCall, FX.gTup, gLst, gDic, gTst, gNot, gAnd, gOr, gAndV, gOrV, gNotV, gIf, gChain, bindT, bindTs, sNil, sSeq, sDrop, sRet, sRetN, sBrk, sCnt, sIf, sStuck, sSet, sUnp, gFn, argR, rdv, Rz.r, fAdd, fSub, fMul, fDiv, fMod, fNeg, fLt, fGt, fGe, fIsN, fNotN, fEq, fNe, fLe, fIn2, fNotIn2, fIx, fLen, fInt, gTyEq, gTyNe, gIsI, gSl, gNoP, gPart, fSl, fRev, fTup, vs?, rdA, zB, tyD, shI, shN, shB, eqvI, eqvS, isI, k_nn_int, k_bl_int, k_it_int, k_st_int, k_ls_int, k_tp_int, k_dc_int, k_nn_bl, k_bl_bl, k_it_bl, k_nn_tp, k_bl_tp, k_it_tp, k_st_tp, k_ls_tp, k_tp_tp, k_dc_tp, k_nn_st, k_bl_st, k_it_st, k_st_st, k_ls_st, k_tp_st, k_dc_st, k_nn_ls, k_bl_ls, k_it_ls, k_st_ls, k_ls_ls, k_tp_ls, k_dc_ls, hl2] <;> try rfl)
    | _ => exact no rfl (by (simp [mOf, bd, bdS, gC, gV, op1, op2, opN, gBin, gUn, gEsc, gN, gK, gCall, FX.gTup, gLst, gDic, gTst, gNot, gAnd, gOr, gAndV, gOrV, gNotV, gIf, gChain, bindT, bindTs, sNil, sSeq, sDrop, sRet, sRetN, sBrk, sCnt, sIf, sStuck, sSet, sUnp, gFn, argR, rdv, Rz.r, fAdd, fSub, fMul, fDiv, fMod, fNeg, fLt, fGt, fGe, fIsN, fNotN, fEq, fNe, fLe, fIn2, fNotIn2, fIx, fLen, fInt, gTyEq, gTyNe, gIsI, gSl, gNoP, gPart, fSl, fRev, fTup, vs?, rdA, zB, tyD, shI, shN, shB, eqvI, eqvS, isI, k_nn_int, k_bl_int, k_it_int, k_st_int, k_ls_int, k_tp_int, k_dc_int, k_nn_bl, k_bl_bl, k_it_bl, k_nn_tp, k_bl_tp, k_it_tp, k_st_tp, k_ls_tp, k_tp_tp, k_dc_tp, k_nn_st, k_bl_st, k_it_st, k_st_st, k_ls_st, k_tp_st, k_dc_st, k_nn_ls, k_bl_ls, k_it_ls, k_st_ls, k_ls_ls, k_tp_ls, k_dc_ls] <;> try rfl))
  obtain ⟨r, s', e, rfl, rfl⟩ := key
  rw [q__law_is_good_match]; exact e
theorem cut2 (a b c : D) : cutD [a, b, c] none (some 2) = [a, b] := rfl
theorem six0 : HT.sIx 3 0 none = 0 := rfl
theorem six2 : HT.sIx 3 3 (some 2) = 2 := rfl
theorem lg_no (kd : Str) (hk : SeqAt.shaped (.str kd) = true) (n : Int) (th pl d x : D) (s : Y.S) (h : isPlayed kd n d = false) :
    l__law_good_1 [some (.v th), some (.v (.str kd)), some (.v (.int n)), some (.v pl), some (.v x), some (.v d)] s =
      some (.rt (.v (.bool false)), [some (.v th), some (.v (.str kd)), some (.v (.int n)), some (.v pl), some (.v x), some (.v d)], s) := by
  (simp [mOf, bd, bdS, gC, gV, op1, op2, opN, gBin, gUn, gEsc, gN, gK, gCall, FX.gTup, gLst, gDic, gTst, gNot, gAnd, gOr, gAndV, gOrV, gNotV, gIf, gChain, bindT, bindTs, sNil, sSeq, sDrop, sRet, sRetN, sBrk, sCnt, sIf, sStuck, sSet, sUnp, gFn, argR, rdv, Rz.r, fAdd, fSub, fMul, fDiv, fMod, fNeg, fLt, fGt, fGe, fIsN, fNotN, fEq, fNe, fLe, fIn2, fNotIn2, fIx, fLen, fInt, gTyEq, gTyNe, gIsI, gSl, gNoP, gPart, fSl, fRev, fTup, vs?, rdA, zB, tyD, shI, shN, shB, eqvI, eqvS, l__law_good_1, good_match_eq kd hk, h] <;> try rfl)
theorem lg_le (kd : Str) (hk : SeqAt.shaped (.str kd) = true) (n i j bi bj : Int) (th pl w : D) (s : Y.S) (h : isPlayed kd n (.tuple [.int i, .int j, w]) = true) (h2 : leT [i, j] [bi, bj] = true) :
    l__law_good_1 [some (.v th), some (.v (.str kd)), some (.v (.int n)), some (.v pl), some (.v (.tuple [.int bi, .int bj])), some (.v (.tuple [.int i, .int j, w]))] s =
      some (.rt (.v (.bool false)), [some (.v th), some (.v (.str kd)), some (.v (.int n)), some (.v pl), some (.v (.tuple [.int bi, .int bj])), some (.v (.tuple [.int i, .int j, w]))], s) := by
  (simp [mOf, bd, bdS, gC, gV, op1, op2, opN, gBin, gUn, gEsc, gN, gK, gCall, FX.gTup, gLst, gDic, gTst, gNot, gAnd, gOr, gAndV, gOrV, gNotV, gIf, gChain, bindT, bindTs, sNil, sSeq, sDrop, sRet, sRetN, sBrk, sCnt, sIf, sStuck, sSet, sUnp, gFn, argR, rdv, Rz.r, fAdd, fSub, fMul, fDiv, fMod, fNeg, fLt, fGt, fGe, fIsN, fNotN, fEq, fNe, fLe, fIn2, fNotIn2, fIx, fLen, fInt, gTyEq, gTyNe, gIsI, gSl, gNoP, gPart, fSl, fRev, fTup, vs?, rdA, zB, tyD, shI, shN, shB, eqvI, eqvS, l__law_good_1, good_match_eq kd hk, h, six0, six2, cut2, ints?, h2] <;> try rfl)
theorem lg_go (kd : Str) (hk : SeqAt.shaped (.str kd) = true) (n i j bi bj : Int) (th pl w : D) (s : Y.S) (h : isPlayed kd n (.tuple [.int i, .int j, w]) = true) (h2 : leT [i, j] [bi, bj] = false) :
    l__law_good_1 [some (.v th), some (.v (.str kd)), some (.v (.int n)), some (.v pl), some (.v (.tuple [.int bi, .int bj])), some (.v (.tuple [.int i, .int j, w]))] s =
      some (.nx, [some (.v th), some (.v (.str kd)), some (.v (.int n)), some (.v pl), some (.v (.tuple [.int i, .int j])), some (.v (.tuple [.int i, .int j, w]))], s) := by
  (simp [mOf, bd, bdS, gC, gV, op1, op2, opN, gBin, gUn, gEsc, gN, gK, gCall, FX.gTup, gLst, gDic, gTst, gNot, gAnd, gOr, gAndV, gOrV, gNotV, gIf, gChain, bindT, bindTs, sNil, sSeq, sDrop, sRet, sRetN, sBrk, sCnt, sIf, sStuck, sSet, sUnp, gFn, argR, rdv, Rz.r, fAdd, fSub, fMul, fDiv, fMod, fNeg, fLt, fGt, fGe, fIsN, fNotN, fEq, fNe, fLe, fIn2, fNotIn2, fIx, fLen, fInt, gTyEq, gTyNe, gIsI, gSl, gNoP, gPart, fSl, fRev, fTup, vs?, rdA, zB, tyD, shI, shN, shB, eqvI, eqvS, l__law_good_1, good_match_eq kd hk, h, six0, six2, cut2, ints?, h2] <;> try rfl)
theorem lg_loop (kd : Str) (hk : SeqAt.shaped (.str kd) = true) (n : Int) (th pl : D) : ∀ (ds : List D) (bi bj : Int) (a : Option R) (s : Y.S), ∃ Γ',
    forG (.n 5) l__law_good_1 ds [some (.v th), some (.v (.str kd)), some (.v (.int n)), some (.v pl), some (.v (.tuple [.int bi, .int bj])), a] s =
      some (if arePlayed kd n [bi, bj] ds = true then .nx else .rt (.v (.bool false)), Γ', s) := by
  intro ds
  induction ds with
  | nil => exact fun bi bj a s => ⟨_, rfl⟩
  | cons d ds ih =>
    intro bi bj a s
    by_cases h : isPlayed kd n d = true
    · obtain ⟨i, j, w, rfl⟩ := isPlayed_inv h
      by_cases h2 : leT [i, j] [bi, bj] = true
      · have e1 : arePlayed kd n [bi, bj] (.tuple [.int i, .int j, w] :: ds) = false := by simp [arePlayed, h2]
        refine ⟨[some (.v th), some (.v (.str kd)), some (.v (.int n)), some (.v pl), some (.v (.tuple [.int bi, .int bj])), some (.v (.tuple [.int i, .int j, w]))], ?_⟩
        rw [forG_cons (Γ1 := [some (.v th), some (.v (.str kd)), some (.v (.int n)), some (.v pl), some (.v (.tuple [.int bi, .int bj])), some (.v (.tuple [.int i, .int j, w]))]) rfl, lg_le kd hk n i j bi bj th pl w s h h2, e1]
        rfl
      · have h3 : leT [i, j] [bi, bj] = false := by simpa using h2
        obtain ⟨Γ', q⟩ := ih i j (some (.v (.tuple [.int i, .int j, w]))) s
        refine ⟨Γ', ?_⟩
        have e1 : arePlayed kd n [bi, bj] (.tuple [.int i, .int j, w] :: ds) = arePlayed kd n [i, j] ds := by simp [arePlayed, h, h3]
        rw [forG_cons (Γ1 := [some (.v th), some (.v (.str kd)), some (.v (.int n)), some (.v pl), some (.v (.tuple [.int bi, .int bj])), some (.v (.tuple [.int i, .int j, w]))]) rfl, lg_go kd hk n i j bi bj th pl w s h h3, e1, ← q]
    · have h' : isPlayed kd n d = false := by simpa using h
      have e1 : arePlayed kd n [bi, bj] (d :: ds) = false := by
        unfold arePlayed
        split
        · rename_i i j w
          simp [h']
        · rfl
      refine ⟨[some (.v th), some (.v (.str kd)), some (.v (.int n)), some (.v pl), some (.v (.tuple [.int bi, .int bj])), some (.v d)], ?_⟩
      rw [forG_cons (Γ1 := [some (.v th), some (.v (.str kd)), some (.v (.int n)), some (.v pl), some (.v (.tuple [.int bi, .int bj])), some (.v d)]) rfl, lg_no kd hk n th pl d _ s h', e1]
      rfl
/-- things of which == may be asked: what small data give -/
def strOks (d : D) : Prop := d.leavesFit = true
theorem kd_any (z : Str) : ([PyData.str (Str.ofString "plain"), .str (Str.ofString "ties")].any fun y => PyData.eqv y (.str z)) = isKind z := by
  simp only [List.any_cons, List.any_nil, eqvS, Bool.or_false, isKind]
  rw [show decide (Str.ofString "plain" = z) = decide (z = Str.ofString "plain") from by simp only [eq_comm], show decide (Str.ofString "ties" = z) = decide (z = Str.ofString "ties") from by simp only [eq_comm]]
theorem sh_kinds : SeqAt.shaped (.list [.str (Str.ofString "plain"), .str (Str.ofString "ties")]) = true := by decide +kernel
theorem sh_str {z : Str} (h : (PyData.str z).leavesFit = true) : SeqAt.shaped (.str z) = true := by
  have : (PyData.str z).canLay0 = true := by
    simp only [PyData.leavesFit] at h
    simpa [PyData.canLay0] using h
  simp [SeqAt.shaped, this, PyData.depth]
theorem noKind {z : Str} (b c : D) (h : isKind z = false) : isLeague (.tuple [.str z, b, c]) = false := by
  cases b <;> cases c <;> simp [isLeague, h]
theorem good_eq (d : D) (hd : d.leavesFit = true) (s : Y.S) : m__law_good [.v d] s = some (.ok (.v (.bool (isLeague d))), s) := by
  have key : ∃ r s', mOf 6 b__law_good [.v d] s = some (r, s') ∧ (s' = s ∧ r = .ok (.v (.bool (isLeague d)))) := by
    refine wp_fn ?_
    have no : isLeague d = false → (gOr (gNot (gTst (gIsI "tuple" (gV 0)))) (gTst (gBin fNe (gCall fLen (gK (gV 0) gN)) (gC (.int 3)))) : GT Y) ([some (.v d), none, none, none, none, none]) s = some (.ok true, [some (.v d), none, none, none, none, none], s) →
      Wp (b__law_good [some (.v d), none, none, none, none, none] s) (Rt fun r s' => s' = s ∧ r = .ok (.v (.bool (isLeague d)))) := by
      intro h e
      unfold b__law_good
      refine wp_then (wp_if e (fun _ => ?_) fun h => nomatch h)
      (refine' FX.wp_ret ?hst ?_; (case hst => (simp [mOf, bd, bdS, gC, gV, op1, op2, opN, gBin, gUn, gEsc, gN, gK, gCall, FX.gTup, gLst, gDic, gTst, gNot, gAnd, gOr, gAndV, gOrV, gNotV, gIf, gChain, bindT, bindTs, sNil, sSeq, sDrop, sRet, sRetN, sBrk, sCnt, sIf, sStuck, sSet, sUnp, gFn, argR, rdv, Rz.r, fAdd, fSub, fMul, fDiv, fMod, fNeg, fLt, fGt, fGe, fIsN, fNotN, fEq, fNe, fLe, fIn2, fNotIn2, fIx, fLen, fInt, gTyEq, gTyNe, gIsI, gSl, gNoP, gPart, fSl, fRev, fTup, vs?, rdA, zB, tyD, shI, shN, shB, eqvI, eqvS]; try exact ⟨rfl, rfl, rfl⟩)))
      exact ⟨rfl, by rw [h]⟩
    cases d with
    | tuple ds =>
      by_cases hl : ds.length = 3
      · match ds, hl with
        | [a, b, c], _ =>
          unfold b__law_good
          (refine' FX.wp_seq ?hst ?_; (case hst => (simp [mOf, bd, bdS, gC, gV, op1, op2, opN, gBin, gUn, gEsc, gN, gK, gCall, FX.gTup, gLst, gDic, gTst, gNot, gAnd, gOr, gAndV, gOrV, gNotV, gIf, gChain, bindT, bindTs, sNil, sSeq, sDrop, sRet, sRetN, sBrk, sCnt, sIf, sStuck, sSet, sUnp, gFn, argR, rdv, Rz.r, fAdd, fSub, fMul, fDiv, fMod, fNeg, fLt, fGt, fGe, fIsN, fNotN, fEq, fNe, fLe, fIn2, fNotIn2, fIx, fLen, fInt, gTyEq, gTyNe, gIsI, gSl, gNoP, gPart, fSl, fRev, fTup, vs?, rdA, zB, tyD, shI, shN, shB, eqvI, eqvS, isI, k_nn_int, k_bl_int, k_it_int, k_st_int, k_ls_int, k_tp_int, k_dc_int, k_nn_bl, k_bl_bl, k_it_bl, k_nn_tp, k_bl_tp, k_it_tp, k_st_tp, k_ls_tp, k_tp_tp, k_dc_tp, k_nn_st, k_bl_st, k_it_st, k_st_st, k_ls_st, k_tp_st, k_dc_st, k_nn_ls, k_bl_ls, k_it_ls, k_st_ls, k_ls_ls, k_tp_ls, k_dc_ls]; try exact ⟨rfl, rfl⟩)))
          (refine' FX.wp_seq ?hst ?_; (case hst => (simp [mOf, bd, bdS, gC, gV, op1, op2, opN, gBin, gUn, gEsc, gN, gK, gCall, FX.gTup, gLst, gDic, gTst, gNot, gAnd, gOr, gAndV, gOrV, gNotV, gIf, gChain, bindT, bindTs, sNil, sSeq, sDrop, sRet, sRetN, sBrk, sCnt, sIf, sStuck, sSet, sUnp, gFn, argR, rdv, Rz.r, fAdd, fSub, fMul, fDiv, fMod, fNeg, fLt, fGt, fGe, fIsN, fNotN, fEq, fNe, fLe, fIn2, fNotIn2, fIx, fLen, fInt, gTyEq, gTyNe, gIsI, gSl, gNoP, gPart, fSl, fRev, fTup, vs?, rdA, zB, tyD, shI, shN, shB, eqvI, eqvS]; try exact ⟨rfl, rfl⟩)))
          cases a with
          | str z =>
            have hz : SeqAt.shaped (.str z) = true := sh_str (by
              simp only [PyData.leavesFit, PyData.leavesFitAll, Bool.and_eq_true] at hd ⊢
              exact hd.1)
            cases hk : isKind z with
            | false =>
              have n1 : ¬ Str.ofString "plain" = z := fun e => by rw [← e] at hk; exact absurd hk (by decide +kernel)
              have n2 : ¬ Str.ofString "ties" = z := fun e => by rw [← e] at hk; exact absurd hk (by decide +kernel)
              refine wp_then ?_
              (refine' FX.wp_if ?hst ?hpo ?hne; (case hst => (simp [mOf, bd, bdS, gC, gV, op1, op2, opN, gBin, gUn, gEsc, gN, gK, gCall, FX.gTup, gLst, gDic, gTst, gNot, gAnd, gOr, gAndV, gOrV, gNotV, gIf, gChain, bindT, bindTs, sNil, sSeq, sDrop, sRet, sRetN, sBrk, sCnt, sIf, sStuck, sSet, sUnp, gFn, argR, rdv, Rz.r, fAdd, fSub, fMul, fDiv, fMod, fNeg, fLt, fGt, fGe, fIsN, fNotN, fEq, fNe, fLe, fIn2, fNotIn2, fIx, fLen, fInt, gTyEq, gTyNe, gIsI, gSl, gNoP, gPart, fSl, fRev, fTup, vs?, rdA, zB, tyD, shI, shN, shB, eqvI, eqvS, isI, k_nn_int, k_bl_int, k_it_int, k_st_int, k_ls_int, k_tp_int, k_dc_int, k_nn_bl, k_bl_bl, k_it_bl, k_nn_tp, k_bl_tp, k_it_tp, k_st_tp, k_ls_tp, k_tp_tp, k_dc_tp, k_nn_st, k_bl_st, k_it_st, k_st_st, k_ls_st, k_tp_st, k_dc_st, k_nn_ls, k_bl_ls, k_it_ls, k_st_ls, k_ls_ls, k_tp_ls, k_dc_ls, n1, n2, hz, sh_kinds, sizeOk]; try exact ⟨rfl, rfl, rfl⟩)))
              case hne => intro h; cases h
              case hpo =>
                intro _
                (refine' FX.wp_ret ?hst ?_; (case hst => (simp [mOf, bd, bdS, gC, gV, op1, op2, opN, gBin, gUn, gEsc, gN, gK, gCall, FX.gTup, gLst, gDic, gTst, gNot, gAnd, gOr, gAndV, gOrV, gNotV, gIf, gChain, bindT, bindTs, sNil, sSeq, sDrop, sRet, sRetN, sBrk, sCnt, sIf, sStuck, sSet, sUnp, gFn, argR, rdv, Rz.r, fAdd, fSub, fMul, fDiv, fMod, fNeg, fLt, fGt, fGe, fIsN, fNotN, fEq, fNe, fLe, fIn2, fNotIn2, fIx, fLen, fInt, gTyEq, gTyNe, gIsI, gSl, gNoP, gPart, fSl, fRev, fTup, vs?, rdA, zB, tyD, shI, shN, shB, eqvI, eqvS]; try exact ⟨rfl, rfl, rfl⟩)))
                exact ⟨rfl, by rw [noKind b c hk]⟩
            | true =>
              have hq : (¬Str.ofString "plain" = z ∧ ¬Str.ofString "ties" = z) = False := by
                simp only [isKind, Bool.or_eq_true, decide_eq_true_eq] at hk
                simp only [eq_iff_iff, iff_false, not_and, Classical.not_not]
                intro h
                rcases hk with rfl | rfl
                · exact absurd rfl h
                · rfl
              (refine' FX.wp_seq ?hst ?_; (case hst => (simp [mOf, bd, bdS, gC, gV, op1, op2, opN, gBin, gUn, gEsc, gN, gK, gCall, FX.gTup, gLst, gDic, gTst, gNot, gAnd, gOr, gAndV, gOrV, gNotV, gIf, gChain, bindT, bindTs, sNil, sSeq, sDrop, sRet, sRetN, sBrk, sCnt, sIf, sStuck, sSet, sUnp, gFn, argR, rdv, Rz.r, fAdd, fSub, fMul, fDiv, fMod, fNeg, fLt, fGt, fGe, fIsN, fNotN, fEq, fNe, fLe, fIn2, fNotIn2, fIx, fLen, fInt, gTyEq, gTyNe, gIsI, gSl, gNoP, gPart, fSl, fRev, fTup, vs?, rdA, zB, tyD, shI, shN, shB, eqvI, eqvS, isI, k_nn_int, k_bl_int, k_it_int, k_st_int, k_ls_int, k_tp_int, k_dc_int, k_nn_bl, k_bl_bl, k_it_bl, k_nn_tp, k_bl_tp, k_it_tp, k_st_tp, k_ls_tp, k_tp_tp, k_dc_tp, k_nn_st, k_bl_st, k_it_st, k_st_st, k_ls_st, k_tp_st, k_dc_st, k_nn_ls, k_bl_ls, k_it_ls, k_st_ls, k_ls_ls, k_tp_ls, k_dc_ls, hq, hz, sh_kinds, sizeOk]; try exact ⟨rfl, rfl⟩)))
              cases b with
              | int n =>
                by_cases h1 : 2 ≤ n
                · by_cases h2 : n ≤ 6
                  · cases c with
                    | list l =>
                      (refine' FX.wp_seq ?hst ?_; (case hst => (simp [mOf, bd, bdS, gC, gV, op1, op2, opN, gBin, gUn, gEsc, gN, gK, gCall, FX.gTup, gLst, gDic, gTst, gNot, gAnd, gOr, gAndV, gOrV, gNotV, gIf, gChain, bindT, bindTs, sNil, sSeq, sDrop, sRet, sRetN, sBrk, sCnt, sIf, sStuck, sSet, sUnp, gFn, argR, rdv, Rz.r, fAdd, fSub, fMul, fDiv, fMod, fNeg, fLt, fGt, fGe, fIsN, fNotN, fEq, fNe, fLe, fIn2, fNotIn2, fIx, fLen, fInt, gTyEq, gTyNe, gIsI, gSl, gNoP, gPart, fSl, fRev, fTup, vs?, rdA, zB, tyD, shI, shN, shB, eqvI, eqvS, isI, k_nn_int, k_bl_int, k_it_int, k_st_int, k_ls_int, k_tp_int, k_dc_int, k_nn_bl, k_bl_bl, k_it_bl, k_nn_tp, k_bl_tp, k_it_tp, k_st_tp, k_ls_tp, k_tp_tp, k_dc_tp, k_nn_st, k_bl_st, k_it_st, k_st_st, k_ls_st, k_tp_st, k_dc_st, k_nn_ls, k_bl_ls, k_it_ls, k_st_ls, k_ls_ls, k_tp_ls, k_dc_ls, h1, h2]; try exact ⟨rfl, rfl⟩)))
                      (refine' FX.wp_seq ?hst ?_; (case hst => (simp [mOf, bd, bdS, gC, gV, op1, op2, opN, gBin, gUn, gEsc, gN, gK, gCall, FX.gTup, gLst, gDic, gTst, gNot, gAnd, gOr, gAndV, gOrV, gNotV, gIf, gChain, bindT, bindTs, sNil, sSeq, sDrop, sRet, sRetN, sBrk, sCnt, sIf, sStuck, sSet, sUnp, gFn, argR, rdv, Rz.r, fAdd, fSub, fMul, fDiv, fMod, fNeg, fLt, fGt, fGe, fIsN, fNotN, fEq, fNe, fLe, fIn2, fNotIn2, fIx, fLen, fInt, gTyEq, gTyNe, gIsI, gSl, gNoP, gPart, fSl, fRev, fTup, vs?, rdA, zB, tyD, shI, shN, shB, eqvI, eqvS, sizeOk]; try exact ⟨rfl, rfl⟩)))
                      obtain ⟨Γ', el⟩ := lg_loop z hz n (.tuple [.str z, .int n, .list l]) (.list l) l (-1) (-1) none s
                      have eg : gItL (Y := Y) (gV 3) [some (.v (.tuple [.str z, .int n, .list l])), some (.v (.str z)), some (.v (.int n)), some (.v (.list l)), some (.v (.tuple [.int (-1), .int (-1)])), none] s =
                        some (.ok l, [some (.v (.tuple [.str z, .int n, .list l])), some (.v (.str z)), some (.v (.int n)), some (.v (.list l)), some (.v (.tuple [.int (-1), .int (-1)])), none], s) := by (simp [mOf, bd, bdS, gC, gV, op1, op2, opN, gBin, gUn, gEsc, gN, gK, gCall, FX.gTup, gLst, gDic, gTst, gNot, gAnd, gOr, gAndV, gOrV, gNotV, gIf, gChain, bindT, bindTs, sNil, sSeq, sDrop, sRet, sRetN, sBrk, sCnt, sIf, sStuck, sSet, sUnp, gFn, argR, rdv, Rz.r, fAdd, fSub, fMul, fDiv, fMod, fNeg, fLt, fGt, fGe, fIsN, fNotN, fEq, fNe, fLe, fIn2, fNotIn2, fIx, fLen, fInt, gTyEq, gTyNe, gIsI, gSl, gNoP, gPart, fSl, fRev, fTup, vs?, rdA, zB, tyD, shI, shN, shB, eqvI, eqvS, gItL] <;> try rfl)
                      refine wp_then ?_
                      rw [for_run eg, el]
                      cases hp : arePlayed z n [-1, -1] l with
                      | true =>
                        refine wp_of rfl ?_
                        show Wp _ _
                        (refine' FX.wp_ret ?hst ?_; (case hst => (simp [mOf, bd, bdS, gC, gV, op1, op2, opN, gBin, gUn, gEsc, gN, gK, gCall, FX.gTup, gLst, gDic, gTst, gNot, gAnd, gOr, gAndV, gOrV, gNotV, gIf, gChain, bindT, bindTs, sNil, sSeq, sDrop, sRet, sRetN, sBrk, sCnt, sIf, sStuck, sSet, sUnp, gFn, argR, rdv, Rz.r, fAdd, fSub, fMul, fDiv, fMod, fNeg, fLt, fGt, fGe, fIsN, fNotN, fEq, fNe, fLe, fIn2, fNotIn2, fIx, fLen, fInt, gTyEq, gTyNe, gIsI, gSl, gNoP, gPart, fSl, fRev, fTup, vs?, rdA, zB, tyD, shI, shN, shB, eqvI, eqvS]; try exact ⟨rfl, rfl, rfl⟩)))
                        exact ⟨rfl, by simp [isLeague, hk, h1, h2, hp]⟩
                      | false =>
                        refine wp_of rfl ?_
                        exact ⟨rfl, by simp [isLeague, hk, h1, h2, hp]⟩
                    | _ =>
                      refine wp_then ?_
                      (refine' FX.wp_if ?hst ?hpo ?hne; (case hst => (simp [mOf, bd, bdS, gC, gV, op1, op2, opN, gBin, gUn, gEsc, gN, gK, gCall, FX.gTup, gLst, gDic, gTst, gNot, gAnd, gOr, gAndV, gOrV, gNotV, gIf, gChain, bindT, bindTs, sNil, sSeq, sDrop, sRet, sRetN, sBrk, sCnt, sIf, sStuck, sSet, sUnp, gFn, argR, rdv, Rz.r, fAdd, fSub, fMul, fDiv, fMod, fNeg, fLt, fGt, fGe, fIsN, fNotN, fEq, fNe, fLe, fIn2, fNotIn2, fIx, fLen, fInt, gTyEq, gTyNe, gIsI, gSl, gNoP, gPart, fSl, fRev, fTup, vs?, rdA, zB, tyD, shI, shN, shB, eqvI, eqvS, isI, k_nn_int, k_bl_int, k_it_int, k_st_int, k_ls_int, k_tp_int, k_dc_int, k_nn_bl, k_bl_bl, k_it_bl, k_nn_tp, k_bl_tp, k_it_tp, k_st_tp, k_ls_tp, k_tp_tp, k_dc_tp, k_nn_st, k_bl_st, k_it_st, k_st_st, k_ls_st, k_tp_st, k_dc_st, k_nn_ls, k_bl_ls, k_it_ls, k_st_ls, k_ls_ls, k_tp_ls, k_dc_ls, h1, h2]; try exact ⟨rfl, rfl, rfl⟩)))
                      case hne => intro h; cases h
                      case hpo =>
                        intro _
                        (refine' FX.wp_ret ?hst ?_; (case hst => (simp [mOf, bd, bdS, gC, gV, op1, op2, opN, gBin, gUn, gEsc, gN, gK, gCall, FX.gTup, gLst, gDic, gTst, gNot, gAnd, gOr, gAndV, gOrV, gNotV, gIf, gChain, bindT, bindTs, sNil, sSeq, sDrop, sRet, sRetN, sBrk, sCnt, sIf, sStuck, sSet, sUnp, gFn, argR, rdv, Rz.r, fAdd, fSub, fMul, fDiv, fMod, fNeg, fLt, fGt, fGe, fIsN, fNotN, fEq, fNe, fLe, fIn2, fNotIn2, fIx, fLen, fInt, gTyEq, gTyNe, gIsI, gSl, gNoP, gPart, fSl, fRev, fTup, vs?, rdA, zB, tyD, shI, shN, shB, eqvI, eqvS]; try exact ⟨rfl, rfl, rfl⟩)))
                        exact ⟨rfl, rfl⟩
                  · refine wp_then ?_
                    (refine' FX.wp_if ?hst ?hpo ?hne; (case hst => (simp [mOf, bd, bdS, gC, gV, op1, op2, opN, gBin, gUn, gEsc, gN, gK, gCall, FX.gTup, gLst, gDic, gTst, gNot, gAnd, gOr, gAndV, gOrV, gNotV, gIf, gChain, bindT, bindTs, sNil, sSeq, sDrop, sRet, sRetN, sBrk, sCnt, sIf, sStuck, sSet, sUnp, gFn, argR, rdv, Rz.r, fAdd, fSub, fMul, fDiv, fMod, fNeg, fLt, fGt, fGe, fIsN, fNotN, fEq, fNe, fLe, fIn2, fNotIn2, fIx, fLen, fInt, gTyEq, gTyNe, gIsI, gSl, gNoP, gPart, fSl, fRev, fTup, vs?, rdA, zB, tyD, shI, shN, shB, eqvI, eqvS, isI, k_nn_int, k_bl_int, k_it_int, k_st_int, k_ls_int, k_tp_int, k_dc_int, k_nn_bl, k_bl_bl, k_it_bl, k_nn_tp, k_bl_tp, k_it_tp, k_st_tp, k_ls_tp, k_tp_tp, k_dc_tp, k_nn_st, k_bl_st, k_it_st, k_st_st, k_ls_st, k_tp_st, k_dc_st, k_nn_ls, k_bl_ls, k_it_ls, k_st_ls, k_ls_ls, k_tp_ls, k_dc_ls, h1, h2]; try exact ⟨rfl, rfl, rfl⟩)))
                    case hne => intro h; cases h
                    case hpo =>
                      intro _
                      (refine' FX.wp_ret ?hst ?_; (case hst => (simp [mOf, bd, bdS, gC, gV, op1, op2, opN, gBin, gUn, gEsc, gN, gK, gCall, FX.gTup, gLst, gDic, gTst, gNot, gAnd, gOr, gAndV, gOrV, gNotV, gIf, gChain, bindT, bindTs, sNil, sSeq, sDrop, sRet, sRetN, sBrk, sCnt, sIf, sStuck, sSet, sUnp, gFn, argR, rdv, Rz.r, fAdd, fSub, fMul, fDiv, fMod, fNeg, fLt, fGt, fGe, fIsN, fNotN, fEq, fNe, fLe, fIn2, fNotIn2, fIx, fLen, fInt, gTyEq, gTyNe, gIsI, gSl, gNoP, gPart, fSl, fRev, fTup, vs?, rdA, zB, tyD, shI, shN, shB, eqvI, eqvS]; try exact ⟨rfl, rfl, rfl⟩)))
                      exact ⟨rfl, by cases c <;> simp [isLeague, h2]⟩
                · refine wp_then ?_
                  (refine' FX.wp_if ?hst ?hpo ?hne; (case hst => (simp [mOf, bd, bdS, gC, gV, op1, op2, opN, gBin, gUn, gEsc, gN, gK, gCall, FX.gTup, gLst, gDic, gTst, gNot, gAnd, gOr, gAndV, gOrV, gNotV, gIf, gChain, bindT, bindTs, sNil, sSeq, sDrop, sRet, sRetN, sBrk, sCnt, sIf, sStuck, sSet, sUnp, gFn, argR, rdv, Rz.r, fAdd, fSub, fMul, fDiv, fMod, fNeg, fLt, fGt, fGe, fIsN, fNotN, fEq, fNe, fLe, fIn2, fNotIn2, fIx, fLen, fInt, gTyEq, gTyNe, gIsI, gSl, gNoP, gPart, fSl, fRev, fTup, vs?, rdA, zB, tyD, shI, shN, shB, eqvI, eqvS, isI, k_nn_int, k_bl_int, k_it_int, k_st_int, k_ls_int, k_tp_int, k_dc_int, k_nn_bl, k_bl_bl, k_it_bl, k_nn_tp, k_bl_tp, k_it_tp, k_st_tp, k_ls_tp, k_tp_tp, k_dc_tp, k_nn_st, k_bl_st, k_it_st, k_st_st, k_ls_st, k_tp_st, k_dc_st, k_nn_ls, k_bl_ls, k_it_ls, k_st_ls, k_ls_ls, k_tp_ls, k_dc_ls, h1]; try exact ⟨rfl, rfl, rfl⟩)))
                  case hne => intro h; cases h
                  case hpo =>
                    intro _
                    (refine' FX.wp_ret ?hst ?_; (case hst => (simp [mOf, bd, bdS, gC, gV, op1, op2, opN, gBin, gUn, gEsc, gN, gK, gCall, FX.gTup, gLst, gDic, gTst, gNot, gAnd, gOr, gAndV, gOrV, gNotV, gIf, gChain, bindT, bindTs, sNil, sSeq, sDrop, sRet, sRetN, sBrk, sCnt, sIf, sStuck, sSet, sUnp, gFn, argR, rdv, Rz.r, fAdd, fSub, fMul, fDiv, fMod, fNeg, fLt, fGt, fGe, fIsN, fNotN, fEq, fNe, fLe, fIn2, fNotIn2, fIx, fLen, fInt, gTyEq, gTyNe, gIsI, gSl, gNoP, gPart, fSl, fRev, fTup, vs?, rdA, zB, tyD, shI, shN, shB, eqvI, eqvS]; try exact ⟨rfl, rfl, rfl⟩)))
                    exact ⟨rfl, by cases c <;> simp [isLeague, h1]⟩
              | _ =>
                refine wp_then ?_
                (refine' FX.wp_if ?hst ?hpo ?hne; (case hst => (simp [mOf, bd, bdS, gC, gV, op1, op2, opN, gBin, gUn, gEsc, gN, gK, gCall, FX.gTup, gLst, gDic, gTst, gNot, gAnd, gOr, gAndV, gOrV, gNotV, gIf, gChain, bindT, bindTs, sNil, sSeq, sDrop, sRet, sRetN, sBrk, sCnt, sIf, sStuck, sSet, sUnp, gFn, argR, rdv, Rz.r, fAdd, fSub, fMul, fDiv, fMod, fNeg, fLt, fGt, fGe, fIsN, fNotN, fEq, fNe, fLe, fIn2, fNotIn2, fIx, fLen, fInt, gTyEq, gTyNe, gIsI, gSl, gNoP, gPart, fSl, fRev, fTup, vs?, rdA, zB, tyD, shI, shN, shB, eqvI, eqvS, isI, k_nn_int, k_bl_int, k_it_int, k_st_int, k_ls_int, k_tp_int, k_dc_int, k_nn_bl, k_bl_bl, k_it_bl, k_nn_tp, k_bl_tp, k_it_tp, k_st_tp, k_ls_tp, k_tp_tp, k_dc_tp, k_nn_st, k_bl_st, k_it_st, k_st_st, k_ls_st, k_tp_st, k_dc_st, k_nn_ls, k_bl_ls, k_it_ls, k_st_ls, k_ls_ls, k_tp_ls, k_dc_ls]; try exact ⟨rfl, rfl, rfl⟩)))
                case hne => intro h; cases h
                case hpo =>
                  intro _
                  (refine' FX.wp_ret ?hst ?_; (case hst => (simp [mOf, bd, bdS, gC, gV, op1, op2, opN, gBin, gUn, gEsc, gN, gK, gCall, FX.gTup, gLst, gDic, gTst, gNot, gAnd, gOr, gAndV, gOrV, gNotV, gIf, gChain, bindT, bindTs, sNil, sSeq, sDrop, sRet, sRetN, sBrk, sCnt, sIf, sStuck, sSet, sUnp, gFn, argR, rdv, Rz.r, fAdd, fSub, fMul, fDiv, fMod, fNeg, fLt, fGt, fGe, fIsN, fNotN, fEq, fNe, fLe, fIn2, fNotIn2, fIx, fLen, fInt, gTyEq, gTyNe, gIsI, gSl, gNoP, gPart, fSl, fRev, fTup, vs?, rdA, zB, tyD, shI, shN, shB, eqvI, eqvS]; try exact ⟨rfl, rfl, rfl⟩)))
                  exact ⟨rfl, rfl⟩
          | _ =>
            refine wp_then ?_
            (refine' FX.wp_if ?hst ?hpo ?hne; (case hst => (simp [mOf, bd, bdS, gC, gV, op1, op2, opN, gBin, gUn, gEsc, gN, gK, gCall, FX.gTup, gLst, gDic, gTst, gNot, gAnd, gOr, gAndV, gOrV, gNotV, gIf, gChain, bindT, bindTs, sNil, sSeq, sDrop, sRet, sRetN, sBrk, sCnt, sIf, sStuck, sSet, sUnp, gFn, argR, rdv, Rz.r, fAdd, fSub, fMul, fDiv, fMod, fNeg, fLt, fGt, fGe, fIsN, fNotN, fEq, fNe, fLe, fIn2, fNotIn2, fIx, fLen, fInt, gTyEq, gTyNe, gIsI, gSl, gNoP, gPart, fSl, fRev, fTup, vs?, rdA, zB, tyD, shI, shN, shB, eqvI, eqvS, isI, k_nn_int, k_bl_int, k_it_int, k_st_int, k_ls_int, k_tp_int, k_dc_int, k_nn_bl, k_bl_bl, k_it_bl, k_nn_tp, k_bl_tp, k_it_tp, k_st_tp, k_ls_tp, k_tp_tp, k_dc_tp, k_nn_st, k_bl_st, k_it_st, k_st_st, k_ls_st, k_tp_st, k_dc_st, k_nn_ls, k_bl_ls, k_it_ls, k_st_ls, k_ls_ls, k_tp_ls, k_dc_ls]; try exact ⟨rfl, rfl, rfl⟩)))
            case hne => intro h; cases h
            case hpo =>
              intro _
              (refine' FX.wp_ret ?hst ?_; (case hst => (simp [mOf, bd, bdS, gC, gV, op1, op2, opN, gBin, gUn, gEsc, gN, gK, gCall, FX.gTup, gLst, gDic, gTst, gNot, gAnd, gOr, gAndV, gOrV, gNotV, gIf, gChain, bindT, bindTs, sNil, sSeq, sDrop, sRet, sRetN, sBrk, sCnt, sIf, sStuck, sSet, sUnp, gFn, argR, rdv, Rz.r, fAdd, fSub, fMul, fDiv, fMod, fNeg, fLt, fGt, fGe, fIsN, fNotN, fEq, fNe, fLe, fIn2, fNotIn2, fIx, fLen, fInt, gTyEq, gTyNe, gIsI, gSl, gNoP, gPart, fSl, fRev, fTup, vs?, rdA, zB, tyD, shI, shN, shB, eqvI, eqvS]; try exact ⟨rfl, rfl, rfl⟩)))
              exact ⟨rfl, rfl⟩
      · have hl2 : ¬ (ds.length : Int) = 3 := by omega
        refine no ?_ ?_
        · unfold isLeague
          split
          · rename_i e
            cases e
            exact absurd (show ([PyData.str _, .int _, .list _] : List D).length = 3 from rfl) hl
          · rfl
        · (simp [mOf, bd, bdS, gC, gV, op1, op2, opN, gBin, gUn, gEsc, gN, gK, gCall, FX.gTup, gLst, gDic, gTst, gNot, gAnd, gOr, gAndV, gOrV, gNotV, gIf, gChain, bindT, bindTs, sNil, sSeq, sDrop, sRet, sRetN, sBrk, sCnt, sIf, sStuck, sSet, sUnp, gFn, argR, rdv, Rz.r, fAdd, fSub, fMul, fDiv, fMod, fNeg, fLt, fGt, fGe, fIsN, fNotN, fEq, fNe, fLe, fIn2, fNotIn2, fIx, fLen, fInt, gTyEq, gTyNe, gIsI, gSl, gNoP, gPart, fSl, fRev, fTup, vs?, rdA, zB, tyD, shI, shN, shB, eqvI, eqvS, isI, k_nn_int, k_bl_int, k_it_int, k_st_int, k_ls_int, k_tp_int, k_dc_int, k_nn_bl, k_bl_bl, k_it_bl, k_nn_tp, k_bl_tp, k_it_tp, k_st_tp, k_ls_tp, k_tp_tp, k_dc_tp, k_nn_st, k_bl_st, k_it_st, k_st_st, k_ls_st, k_tp_st, k_dc_st, k_nn_ls, k_bl_ls, k_it_ls, k_st_ls, k_ls_ls, k_tp_ls, k_dc_ls, hl2] <;> try rfl)
    | _ => exact no rfl (by (simp [mOf, bd, bdS, gC, gV, op1, op2, opN, gBin, gUn, gEsc, gN, gK, gCall, FX.gTup, gLst, gDic, gTst, gNot, gAnd, gOr, gAndV, gOrV, gNotV, gIf, gChain, bindT, bindTs, sNil, sSeq, sDrop, sRet, sRetN, sBrk, sCnt, sIf, sStuck, sSet, sUnp, gFn, argR, rdv, Rz.r, fAdd, fSub, fMul, fDiv, fMod, fNeg, fLt, fGt, fGe, fIsN, fNotN, fEq, fNe, fLe, fIn2, fNotIn2, fIx, fLen, fInt, gTyEq, gTyNe, gIsI, gSl, gNoP, gPart, fSl, fRev, fTup, vs?, rdA, zB, tyD, shI, shN, shB, eqvI, eqvS, isI, k_nn_int, k_bl_int, k_it_int, k_st_int, k_ls_int, k_tp_int, k_dc_int, k_nn_bl, k_bl_bl, k_it_bl, k_nn_tp, k_bl_tp, k_it_tp, k_st_tp, k_ls_tp, k_tp_tp, k_dc_tp, k_nn_st, k_bl_st, k_it_st, k_st_st, k_ls_st, k_tp_st, k_dc_st, k_nn_ls, k_bl_ls, k_it_ls, k_st_ls, k_ls_ls, k_tp_ls, k_dc_ls] <;> try rfl))
  obtain ⟨r, s', e, rfl, rfl⟩ := key
  rw [q__law_good]; exact e
end
end FX.Pg

set_option Elab.async false
set_option linter.all false
set_option maxRecDepth 100000
namespace FX
open PySem PySem.Spec L2
def okC (z : Str) : Prop := ∀ c ∈ z.cps.toList, c < 1114112
theorem okC_of (s : String) : okC (Str.ofString s) := by
  intro c hc
  rw [Str.ofString_eq_toList] at hc
  simp only [List.mem_map] at hc
  obtain ⟨x, _, rfl⟩ := hc
  have h := x.valid
  simp only [UInt32.isValidChar, Nat.isValidChar] at h
  have : x.toNat = x.val.toNat := rfl
  omega
theorem okC_app {x y : Str} (h : okC x) (h' : okC y) : okC (x ++ y) := by
  intro c hc
  have e : (x ++ y).cps = x.cps ++ y.cps := rfl
  rw [e, Array.toList_append] at hc
  rcases List.mem_append.mp hc with q | q
  · exact h c q
  · exact h' c q
theorem okC_textFrom : ∀ (ts : List Str) (k : Nat) (acc : Str), okC acc → (∀ t ∈ ts, okC t) → okC (textFrom k acc ts)
  | [], _, _, h, _ => h
  | t :: r, k, acc, h, h' => by
    show okC (textFrom (k + 1) (acc ++ (if k > 0 then ", " else "" : String) ++ t) r)
    refine okC_textFrom r (k + 1) _ (okC_app (okC_app h ?_) (h' t (by simp))) fun u hu => h' u (by simp [hu])
    exact okC_of _
theorem okC_list {ts : List Str} (h : ∀ t ∈ ts, okC t) : okC (listText ts) := okC_app (okC_textFrom ts 0 _ (okC_of _) h) (okC_of _)
theorem okC_join : ∀ {ts : List Str}, (∀ t ∈ ts, okC t) → okC (Str.join ", " ts)
  | [], _ => fun c hc => by simp [Str.join, Str.empty] at hc
  | [x], h => h x (by simp)
  | x :: y :: r, h => okC_app (okC_app (h x (by simp)) (okC_of _)) (okC_join (ts := y :: r) fun t ht => h t (by
      rcases List.mem_cons.mp ht with rfl | ht
      · simp
      · simp [ht]))
theorem okC_tup {ts : List Str} (h : ∀ t ∈ ts, okC t) : okC (tupleText ts) := okC_app (okC_app (okC_of _) (okC_join h)) (okC_of _)
theorem okC_dict {ts : List Str} (h : ∀ t ∈ ts, okC t) : okC (dictText ts) := okC_app (okC_app (okC_of _) (okC_join h)) (okC_of _)
theorem hex_ok {w c : Nat} : ∀ x ∈ (List.replicate (w - ((Nat.toDigits 16 c).map Char.toNat).length) 48 ++ (Nat.toDigits 16 c).map Char.toNat), x < 1114112 := by
  intro x hx
  rcases List.mem_append.mp hx with q | q
  · have := (List.mem_replicate.mp q).2
    omega
  · obtain ⟨y, _, rfl⟩ := List.mem_map.mp q
    have h := y.valid
    simp only [UInt32.isValidChar, Nat.isValidChar] at h
    have : y.toNat = y.val.toNat := rfl
    omega
theorem reprChar_ok {q c : Nat} (hc : c < 1114112) : ∀ x ∈ Builtin.Str.reprChar q c, x < 1114112 := by
  unfold Builtin.Str.reprChar
  intro x hx
  dsimp only at hx
  repeat' split at hx
  all_goals simp only [List.mem_append, List.mem_cons, List.not_mem_nil, or_false] at hx
  all_goals first
    | omega
    | (rcases hx with (hx | hx) | hx | hx
       · omega
       · omega
       · exact hex_ok x (List.mem_append.mpr (.inl hx))
       · exact hex_ok (w := 0) x (List.mem_append.mpr (.inr hx)))
theorem foldl_ok (q : Nat) : ∀ (l : List Nat) (acc : Array Nat), (∀ c ∈ l, c < 1114112) → (∀ c ∈ acc.toList, c < 1114112) → ∀ c ∈ (l.foldl (fun out c => out ++ (Builtin.Str.reprChar q c).toArray) acc).toList, c < 1114112
  | [], acc, _, h => h
  | c :: r, acc, h, h' => by
    refine foldl_ok q r _ (fun d hd => h d (by simp [hd])) ?_
    intro x hx
    simp only [Array.toList_append] at hx
    rcases List.mem_append.mp hx with z | z
    · exact h' x z
    · exact reprChar_ok (h c (by simp)) x z
theorem okC_repr {x : Str} (h : okC x) : okC (reprText x) := by
  unfold reprText okC
  have hq : reprQuote x < 1114112 := by
    unfold reprQuote
    split <;> decide
  intro c hc
  simp only [Array.toList_push] at hc
  rcases List.mem_append.mp hc with z | z
  · rw [← Array.foldl_toList] at z
    refine foldl_ok _ _ _ h (fun c hc => ?_) c z
    have : c = reprQuote x := by simpa using hc
    omega
  · have : c = reprQuote x := by simpa using z
    omega
theorem okC_strOk {z : Str} : okC z ↔ PyData.strOk z = true := by
  show _ ↔ z.cps.all (fun c => decide (c < 0x110000)) = true
  rw [← Array.all_toList, List.all_eq_true]
  constructor
  · exact fun h c hc => decide_eq_true (h c hc)
  · exact fun h c hc => of_decide_eq_true (h c hc)
mutual
theorem okC_shown : ∀ (d : D), d.leavesFit = true → okC d.shown
  | .none, _ => by simp only [PyData.shown]; exact okC_of _
  | .bool b, _ => by
    simp only [PyData.shown]
    cases b
    · exact okC_of _
    · exact okC_of _
  | .int i, _ => by simp only [PyData.shown]; exact okC_of _
  | .str x, h => by
    simp only [PyData.shown]
    simp only [PyData.leavesFit] at h
    exact okC_repr (okC_strOk.mpr h)
  | .list xs, h => by
    simp only [PyData.shown]
    simp only [PyData.leavesFit] at h
    exact okC_list (okC_all xs h)
  | .tuple xs, h => by
    simp only [PyData.shown]
    simp only [PyData.leavesFit] at h
    exact okC_tup (okC_all xs h)
  | .dict kvs, h => by
    simp only [PyData.shown]
    simp only [PyData.leavesFit] at h
    exact okC_dict (okC_kv kvs h)
theorem okC_all : ∀ (xs : List D), PyData.leavesFitAll xs = true → ∀ t ∈ PyData.shownAll xs, okC t
  | [], _, t, ht => by simp [PyData.shownAll] at ht
  | x :: xs, h, t, ht => by
    simp only [PyData.leavesFitAll, Bool.and_eq_true] at h
    simp only [PyData.shownAll] at ht
    rcases List.mem_cons.mp ht with rfl | ht
    · exact okC_shown x h.1
    · exact okC_all xs h.2 t ht
theorem okC_kv : ∀ (xs : List (D × D)), PyData.leavesFitKv xs = true → ∀ t ∈ PyData.shownKv xs, okC t
  | [], _, t, ht => by simp [PyData.shownKv] at ht
  | (k, v) :: xs, h, t, ht => by
    simp only [PyData.leavesFitKv, Bool.and_eq_true] at h
    simp only [PyData.shownKv] at ht
    rcases List.mem_cons.mp ht with rfl | ht
    · exact okC_app (okC_app (okC_shown k h.1.1) (okC_of _)) (okC_shown v h.1.2)
    · exact okC_kv xs h.2 t ht
end
theorem sh_shown {d : D} (h : d.leavesFit = true) : SeqAt.shaped (.str d.shown) = true := by
  have h1 := okC_strOk.mp (okC_shown d h)
  have : (PyData.str d.shown).canLay0 = true := by simpa [PyData.canLay0] using h1
  simp [SeqAt.shaped, this, PyData.depth]
end FX

set_option Elab.async false
set_option linter.all false
set_option maxRecDepth 100000
namespace FX.K01
open PySem PySem.Spec L2 FX FX.Pg
section
variable {Y : Sys}
theorem right_body (d : D) (hd : okRepr d = true) (hf : d.leavesFit = true) (x2 x3 : Option R) (s : Y.S) :
    l__law_right_1 [some (.v d), some (.v (.str d.shown)), x2, x3] s = some (.nx, [some (.v d), some (.v (.str d.shown)), x2, some (.v (.bool (isLeague d)))], s) := by
  have hs := sh_shown hf
  unfold l__law_right_1
  refine Eq.trans (seq_nx (Γ' := [some (.v d), some (.v (.str d.shown)), x2, some (.v (.bool (isLeague d)))]) (s' := s) ?_) ?_
  · (simp [mOf, bd, bdS, gC, gV, op1, op2, opN, gBin, gUn, gEsc, gN, gK, gCall, FX.gTup, gLst, gDic, gTst, gNot, gAnd, gOr, gAndV, gOrV, gNotV, gIf, gChain, bindT, bindTs, sNil, sSeq, sDrop, sRet, sRetN, sBrk, sCnt, sIf, sStuck, sSet, sUnp, gFn, argR, rdv, Rz.r, fAdd, fSub, fMul, fDiv, fMod, fNeg, fLt, fGt, fGe, fIsN, fNotN, fEq, fNe, fLe, fIn2, fNotIn2, fIx, fLen, fInt, gTyEq, gTyNe, gIsI, gSl, gNoP, gPart, fSl, fRev, fTup, vs?, rdA, zB, tyD, shI, shN, shB, eqvI, eqvS, league_eq] <;> try rfl)
  · (simp [mOf, bd, bdS, gC, gV, op1, op2, opN, gBin, gUn, gEsc, gN, gK, gCall, FX.gTup, gLst, gDic, gTst, gNot, gAnd, gOr, gAndV, gOrV, gNotV, gIf, gChain, bindT, bindTs, sNil, sSeq, sDrop, sRet, sRetN, sBrk, sCnt, sIf, sStuck, sSet, sUnp, gFn, argR, rdv, Rz.r, fAdd, fSub, fMul, fDiv, fMod, fNeg, fLt, fGt, fGe, fIsN, fNotN, fEq, fNe, fLe, fIn2, fNotIn2, fIx, fLen, fInt, gTyEq, gTyNe, gIsI, gSl, gNoP, gPart, fSl, fRev, fTup, vs?, rdA, zB, tyD, shI, shN, shB, eqvI, eqvS, isI, k_nn_int, k_bl_int, k_it_int, k_st_int, k_ls_int, k_tp_int, k_dc_int, k_nn_bl, k_bl_bl, k_it_bl, k_nn_tp, k_bl_tp, k_it_tp, k_st_tp, k_ls_tp, k_tp_tp, k_dc_tp, k_nn_st, k_bl_st, k_it_st, k_st_st, k_ls_st, k_tp_st, k_dc_st, k_nn_ls, k_bl_ls, k_it_ls, k_st_ls, k_ls_ls, k_tp_ls, k_dc_ls, good_eq d hf, fRepr, hd, hs, eqvB] <;> try rfl)
theorem right_eq (d : D) (hd : okRepr d = true) (hf : d.leavesFit = true) (s : Y.S) : m__law_right [.v d] s = some (.ok (.v (.bool true)), s) := by
  have key : ∃ r s', mOf 4 b__law_right [.v d] s = some (r, s') ∧ (s' = s ∧ r = .ok (.v (.bool true))) := by
    refine wp_fn ?_
    unfold b__law_right
    (refine' FX.wp_seq ?hst ?_; (case hst => (simp [mOf, bd, bdS, gC, gV, op1, op2, opN, gBin, gUn, gEsc, gN, gK, gCall, FX.gTup, gLst, gDic, gTst, gNot, gAnd, gOr, gAndV, gOrV, gNotV, gIf, gChain, bindT, bindTs, sNil, sSeq, sDrop, sRet, sRetN, sBrk, sCnt, sIf, sStuck, sSet, sUnp, gFn, argR, rdv, Rz.r, fAdd, fSub, fMul, fDiv, fMod, fNeg, fLt, fGt, fGe, fIsN, fNotN, fEq, fNe, fLe, fIn2, fNotIn2, fIx, fLen, fInt, gTyEq, gTyNe, gIsI, gSl, gNoP, gPart, fSl, fRev, fTup, vs?, rdA, zB, tyD, shI, shN, shB, eqvI, eqvS, fRepr, hd]; try exact ⟨rfl, rfl⟩)))
    have eg : gRg1 (Y := Y) (gK (gC (.int 2)) gN) [some (.v d), some (.v (.str d.shown)), none, none] s = some (.ok [.int 0, .int 1], [some (.v d), some (.v (.str d.shown)), none, none], s) := rfl
    refine wp_then ?_
    rw [for_run eg, forG_cons (Γ1 := [some (.v d), some (.v (.str d.shown)), some (.v (.int 0)), none]) rfl, right_body d hd hf]
    simp only
    rw [forG_cons (Γ1 := [some (.v d), some (.v (.str d.shown)), some (.v (.int 1)), some (.v (.bool (isLeague d)))]) rfl, right_body d hd hf]
    refine wp_of rfl ?_
    show Wp _ _
    (refine' FX.wp_ret ?hst ?_; (case hst => (simp [mOf, bd, bdS, gC, gV, op1, op2, opN, gBin, gUn, gEsc, gN, gK, gCall, FX.gTup, gLst, gDic, gTst, gNot, gAnd, gOr, gAndV, gOrV, gNotV, gIf, gChain, bindT, bindTs, sNil, sSeq, sDrop, sRet, sRetN, sBrk, sCnt, sIf, sStuck, sSet, sUnp, gFn, argR, rdv, Rz.r, fAdd, fSub, fMul, fDiv, fMod, fNeg, fLt, fGt, fGe, fIsN, fNotN, fEq, fNe, fLe, fIn2, fNotIn2, fIx, fLen, fInt, gTyEq, gTyNe, gIsI, gSl, gNoP, gPart, fSl, fRev, fTup, vs?, rdA, zB, tyD, shI, shN, shB, eqvI, eqvS]; try exact ⟨rfl, rfl, rfl⟩)))
    exact ⟨rfl, rfl⟩
  obtain ⟨r, s', e, rfl, rfl⟩ := key
  rw [q__law_right]; exact e
end
section
variable {K : PySem.W.Frag} {sa : Addr} {ns : List Int}
theorem own_eq {Y : Sys} (l : Lg) (s : Y.S) : m__law_own [.v l.d] s = some (.ok (.v l.d), s) := by
  have a0 : atI [PyData.str (kindS l.t), .int (l.n : Nat), .list l.pl] 0 = some (.str (kindS l.t)) := rfl
  have a1 : atI [PyData.str (kindS l.t), .int (l.n : Nat), .list l.pl] 1 = some (.int (l.n : Nat)) := rfl
  have a2 : atI [PyData.str (kindS l.t), .int (l.n : Nat), .list l.pl] 2 = some (.list l.pl) := rfl
  (simp [mOf, bd, bdS, gC, gV, op1, op2, opN, gBin, gUn, gEsc, gN, gK, gCall, FX.gTup, gLst, gDic, gTst, gNot, gAnd, gOr, gAndV, gOrV, gNotV, gIf, gChain, bindT, bindTs, sNil, sSeq, sDrop, sRet, sRetN, sBrk, sCnt, sIf, sStuck, sSet, sUnp, gFn, argR, rdv, Rz.r, fAdd, fSub, fMul, fDiv, fMod, fNeg, fLt, fGt, fGe, fIsN, fNotN, fEq, fNe, fLe, fIn2, fNotIn2, fIx, fLen, fInt, gTyEq, gTyNe, gIsI, gSl, gNoP, gPart, fSl, fRev, fTup, vs?, rdA, zB, tyD, shI, shN, shB, eqvI, eqvS, q__law_own, b__law_own, Lg.d, a0, a1, a2, fList, sizeOk] <;> try rfl)
def In1 (l : Lg) (ds : List D) (Γ : Ev) (s : (DkY K sa ns).S) : Prop := ∃ (x2 x4 : Option R) (d : Dk), Γ = [some (.raw (.ref sa)), some (.h 0), x2, some (.v l.d), x4, none, none] ∧ s = dS d ∧ d.Ok
theorem body1 {l : Lg} (hl : l.Ok) (x2 x4 : Option R) {d : Dk} (hd : d.Ok) : ∃ d' : Dk, d'.Ok ∧ l_law_1 (K := K) (sa := sa) (ns := ns) [some (.raw (.ref sa)), some (.h 0), x2, some (.v l.d), x4, none, none] (dS d) =
    some (.nx, [some (.raw (.ref sa)), some (.h 0), x2, some (.v l.d), x4, none, none], dS d') := by
  obtain ⟨x, d', e, hx, hd'⟩ := no_league_ok (K := K) (sa := sa) (ns := ns) hd hl
  have hr := right_eq (Y := DkY K sa ns) x (okRepr_of hx (by decide) (by decide)) hx.lf (dS d')
  refine ⟨d', hd', ?_⟩
  (simp [mOf, bd, bdS, gC, gV, op1, op2, opN, gBin, gUn, gEsc, gN, gK, gCall, FX.gTup, gLst, gDic, gTst, gNot, gAnd, gOr, gAndV, gOrV, gNotV, gIf, gChain, bindT, bindTs, sNil, sSeq, sDrop, sRet, sRetN, sBrk, sCnt, sIf, sStuck, sSet, sUnp, gFn, argR, rdv, Rz.r, fAdd, fSub, fMul, fDiv, fMod, fNeg, fLt, fGt, fGe, fIsN, fNotN, fEq, fNe, fLe, fIn2, fNotIn2, fIx, fLen, fInt, gTyEq, gTyNe, gIsI, gSl, gNoP, gPart, fSl, fRev, fTup, vs?, rdA, zB, tyD, shI, shN, shB, eqvI, eqvS, l_law_1, e, hr] <;> try rfl)
def In2 (ds : List D) (Γ : Ev) (s : (DkY K sa ns).S) : Prop := ∃ (x2 x3 x4 : Option R) (d : Dk), Γ = [some (.raw (.ref sa)), some (.h 0), x2, x3, x4, none, none] ∧ s = dS d ∧ d.Ok
theorem body2 (x2 x3 x4 : Option R) {d : Dk} (hd : d.Ok) (I : Ev → (DkY K sa ns).S → Prop) (hI : ∀ (x2 x3 x4 : Option R) (d : Dk), d.Ok → I [some (.raw (.ref sa)), some (.h 0), x2, x3, x4, none, none] (dS d)) (Ψ : Fl × Ev × (DkY K sa ns).S → Prop) :
    Wp (l_law_2 (K := K) (sa := sa) (ns := ns) [some (.raw (.ref sa)), some (.h 0), x2, x3, x4, none, none] (dS d)) (Rnd I Ψ) := by
  obtain ⟨l, d1, hl, hd1, e1⟩ := some_league_ok (K := K) (sa := sa) (ns := ns) hd
  have e2 := own_eq (Y := DkY K sa ns) l (dS d1)
  have e3 := league_eq (Y := DkY K sa ns) l.d (dS d1)
  rw [hl.isLeague] at e3
  unfold l_law_2
  (refine' FX.wp_seq ?hst ?_; (case hst => (simp [mOf, bd, bdS, gC, gV, op1, op2, opN, gBin, gUn, gEsc, gN, gK, gCall, FX.gTup, gLst, gDic, gTst, gNot, gAnd, gOr, gAndV, gOrV, gNotV, gIf, gChain, bindT, bindTs, sNil, sSeq, sDrop, sRet, sRetN, sBrk, sCnt, sIf, sStuck, sSet, sUnp, gFn, argR, rdv, Rz.r, fAdd, fSub, fMul, fDiv, fMod, fNeg, fLt, fGt, fGe, fIsN, fNotN, fEq, fNe, fLe, fIn2, fNotIn2, fIx, fLen, fInt, gTyEq, gTyNe, gIsI, gSl, gNoP, gPart, fSl, fRev, fTup, vs?, rdA, zB, tyD, shI, shN, shB, eqvI, eqvS, e1]; try exact ⟨rfl, rfl⟩)))
  (refine' FX.wp_seq ?hst ?_; (case hst => (simp [mOf, bd, bdS, gC, gV, op1, op2, opN, gBin, gUn, gEsc, gN, gK, gCall, FX.gTup, gLst, gDic, gTst, gNot, gAnd, gOr, gAndV, gOrV, gNotV, gIf, gChain, bindT, bindTs, sNil, sSeq, sDrop, sRet, sRetN, sBrk, sCnt, sIf, sStuck, sSet, sUnp, gFn, argR, rdv, Rz.r, fAdd, fSub, fMul, fDiv, fMod, fNeg, fLt, fGt, fGe, fIsN, fNotN, fEq, fNe, fLe, fIn2, fNotIn2, fIx, fLen, fInt, gTyEq, gTyNe, gIsI, gSl, gNoP, gPart, fSl, fRev, fTup, vs?, rdA, zB, tyD, shI, shN, shB, eqvI, eqvS, e2, e3, fNotB]; try exact ⟨rfl, rfl⟩)))
  have eg : gRg1 (Y := DkY K sa ns) (gK (gC (.int 12)) gN) [some (.raw (.ref sa)), some (.h 0), x2, some (.v l.d), x4, none, none] (dS d1) = some (.ok (rangeD 0 12), [some (.raw (.ref sa)), some (.h 0), x2, some (.v l.d), x4, none, none], dS d1) := rfl
  refine wp_for (In1 l) eg ⟨x2, x4, d1, rfl, rfl, hd1⟩ ?_ ?_
  · rintro Γ s ⟨x2, x4, d, rfl, rfl, hd⟩
    exact hI _ _ _ _ hd
  · rintro v ds Γ s ⟨x2, x4, d, rfl, rfl, hd⟩
    obtain ⟨d', hd', e⟩ := body1 (K := K) (sa := sa) (ns := ns) hl x2 (some (.v v)) hd
    exact ⟨_, rfl, wp_of e ⟨x2, _, d', rfl, rfl, hd'⟩⟩
def In3 (x2 x3 x4 : Option R) (ds : List D) (Γ : Ev) (s : (DkY K sa ns).S) : Prop := ∃ (x5 x6 : Option R) (d : Dk), Γ = [some (.raw (.ref sa)), some (.h 0), x2, x3, x4, x5, x6] ∧ s = dS d ∧ ∀ v ∈ ds, okD 1000 5 v
theorem law_true (ns : List Int) (h : ns.length ≤ 63) : ∃ s', m_law (K := K) (sa := sa) (ns := ns) [.raw (.ref sa)] none = some (.ok (.v (.bool true)), s') := by
  have key : ∃ r s', mOf 7 (b_law (K := K) (sa := sa) (ns := ns)) [.raw (.ref sa)] none = some (r, s') ∧ (r = .ok (.v (.bool true))) := by
    refine wp_fn ?_
    unfold b_law
    (refine' FX.wp_seq ?hst ?_; (case hst => (simp [mOf, bd, bdS, gC, gV, op1, op2, opN, gBin, gUn, gEsc, gN, gK, gCall, FX.gTup, gLst, gDic, gTst, gNot, gAnd, gOr, gAndV, gOrV, gNotV, gIf, gChain, bindT, bindTs, sNil, sSeq, sDrop, sRet, sRetN, sBrk, sCnt, sIf, sStuck, sSet, sUnp, gFn, argR, rdv, Rz.r, fAdd, fSub, fMul, fDiv, fMod, fNeg, fLt, fGt, fGe, fIsN, fNotN, fEq, fNe, fLe, fIn2, fNotIn2, fIx, fLen, fInt, gTyEq, gTyNe, gIsI, gSl, gNoP, gPart, fSl, fRev, fTup, vs?, rdA, zB, tyD, shI, shN, shB, eqvI, eqvS, deck_mk]; try exact ⟨rfl, rfl⟩)))
    refine wp_then ?_
    have eg : gRg1 (Y := DkY K sa ns) (gK (gC (.int 12)) gN) [some (.raw (.ref sa)), some (.h 0), none, none, none, none, none] (dS (deckOf ns)) = some (.ok (rangeD 0 12), [some (.raw (.ref sa)), some (.h 0), none, none, none, none, none], dS (deckOf ns)) := rfl
    refine wp_for In2 eg ⟨none, none, none, _, rfl, rfl, deckOf_ok ns⟩ ?_ ?_
    · rintro Γ s ⟨x2, x3, x4, d, rfl, rfl, hd⟩
      show Wp _ _
      (refine' FX.wp_seq ?hst ?_; (case hst => (simp [mOf, bd, bdS, gC, gV, op1, op2, opN, gBin, gUn, gEsc, gN, gK, gCall, FX.gTup, gLst, gDic, gTst, gNot, gAnd, gOr, gAndV, gOrV, gNotV, gIf, gChain, bindT, bindTs, sNil, sSeq, sDrop, sRet, sRetN, sBrk, sCnt, sIf, sStuck, sSet, sUnp, gFn, argR, rdv, Rz.r, fAdd, fSub, fMul, fDiv, fMod, fNeg, fLt, fGt, fGe, fIsN, fNotN, fEq, fNe, fLe, fIn2, fNotIn2, fIx, fLen, fInt, gTyEq, gTyNe, gIsI, gSl, gNoP, gPart, fSl, fRev, fTup, vs?, rdA, zB, tyD, shI, shN, shB, eqvI, eqvS, sizeOk]; try exact ⟨rfl, rfl⟩)))
      refine wp_then ?_
      refine' wp_for (In3 x2 x3 x4) ?hst ?hI ?h0 ?h1
      case hst => (simp [mOf, bd, bdS, gC, gV, op1, op2, opN, gBin, gUn, gEsc, gN, gK, gCall, FX.gTup, gLst, gDic, gTst, gNot, gAnd, gOr, gAndV, gOrV, gNotV, gIf, gChain, bindT, bindTs, sNil, sSeq, sDrop, sRet, sRetN, sBrk, sCnt, sIf, sStuck, sSet, sUnp, gFn, argR, rdv, Rz.r, fAdd, fSub, fMul, fDiv, fMod, fNeg, fLt, fGt, fGe, fIsN, fNotN, fEq, fNe, fLe, fIn2, fNotIn2, fIx, fLen, fInt, gTyEq, gTyNe, gIsI, gSl, gNoP, gPart, fSl, fRev, fTup, vs?, rdA, zB, tyD, shI, shN, shB, eqvI, eqvS, gItL, sizeOk]); exact ⟨rfl, rfl, rfl⟩
      case hI =>
        refine ⟨_, _, _, rfl, rfl, ?_⟩
        (repeat' (first | exact all_nil | refine all_cons ?_ ?_ | exact okD_none | exact okD_bool | exact okD_dic | exact okI' (by omega) (by decide) | exact okO' (by omega) (by omega) (by decide) | exact okT' (by omega) (by decide) | exact okL' (by decide +kernel) (by decide) | exact okn | refine okc ?_ ?_ | refine oki ?_ ?_ | refine okD_tup ?_ | refine okD_lst ?_))
      case h0 =>
        rintro Γ s ⟨x5, x6, d, rfl, rfl, _⟩
        show Wp _ _
        (refine' FX.wp_ret ?hst ?_; (case hst => (simp [mOf, bd, bdS, gC, gV, op1, op2, opN, gBin, gUn, gEsc, gN, gK, gCall, FX.gTup, gLst, gDic, gTst, gNot, gAnd, gOr, gAndV, gOrV, gNotV, gIf, gChain, bindT, bindTs, sNil, sSeq, sDrop, sRet, sRetN, sBrk, sCnt, sIf, sStuck, sSet, sUnp, gFn, argR, rdv, Rz.r, fAdd, fSub, fMul, fDiv, fMod, fNeg, fLt, fGt, fGe, fIsN, fNotN, fEq, fNe, fLe, fIn2, fNotIn2, fIx, fLen, fInt, gTyEq, gTyNe, gIsI, gSl, gNoP, gPart, fSl, fRev, fTup, vs?, rdA, zB, tyD, shI, shN, shB, eqvI, eqvS]; try exact ⟨rfl, rfl, rfl⟩)))
        rfl
      case h1 =>
        rintro v ds Γ s ⟨x5, x6, d, rfl, rfl, hv⟩
        have hx := hv v (by simp)
        have hr := right_eq (Y := DkY K sa ns) v (okRepr_of hx (by decide) (by decide)) hx.lf (dS d)
        have e : l_law_3 (K := K) (sa := sa) (ns := ns) [some (.raw (.ref sa)), some (.h 0), x2, x3, x4, x5, some (.v v)] (dS d) = some (.nx, [some (.raw (.ref sa)), some (.h 0), x2, x3, x4, x5, some (.v v)], dS d) := by
          (simp [mOf, bd, bdS, gC, gV, op1, op2, opN, gBin, gUn, gEsc, gN, gK, gCall, FX.gTup, gLst, gDic, gTst, gNot, gAnd, gOr, gAndV, gOrV, gNotV, gIf, gChain, bindT, bindTs, sNil, sSeq, sDrop, sRet, sRetN, sBrk, sCnt, sIf, sStuck, sSet, sUnp, gFn, argR, rdv, Rz.r, fAdd, fSub, fMul, fDiv, fMod, fNeg, fLt, fGt, fGe, fIsN, fNotN, fEq, fNe, fLe, fIn2, fNotIn2, fIx, fLen, fInt, gTyEq, gTyNe, gIsI, gSl, gNoP, gPart, fSl, fRev, fTup, vs?, rdA, zB, tyD, shI, shN, shB, eqvI, eqvS, l_law_3, hr] <;> try rfl)
        exact ⟨_, rfl, wp_of e ⟨x5, some (.v v), d, rfl, rfl, fun u hu => hv u (by simp [hu])⟩⟩
    · rintro v ds Γ s ⟨x2, x3, x4, d, rfl, rfl, hd⟩
      exact ⟨_, rfl, body2 _ _ _ hd _ (fun x2 x3 x4 d hd => ⟨x2, x3, x4, d, rfl, rfl, hd⟩) _⟩
  obtain ⟨r, s', e, rfl⟩ := key
  exact ⟨s', by rw [q_law]; exact e⟩
end
end FX.K01

set_option Elab.async false
set_option linter.all false
set_option maxRecDepth 100000
set_option maxHeartbeats 4000000
namespace FX.K01
open PySem PySem.Spec L2 FX
theorem all_mk {l : PySem.W.OpenLaw} {w : World} {K : PySem.W.Frag} {h : Heap} {mg : Str → Option Value} {fa : Addr} (X : K.In h) (G : h.Ns mainGlobals mg) (hfa : mg "law" = some (.ref fa))
    {oc_is_whole kV_is_whole dc_is_whole pm_is_whole cd_is_whole ct_is_whole : Value} {od_is_whole an_is_whole : Option Addr} {sl_is_whole : Array (Option Value)} {f_is_whole : Addr}
    {oc_is_player kV_is_player dc_is_player pm_is_player cd_is_player ct_is_player : Value} {od_is_player an_is_player : Option Addr} {sl_is_player : Array (Option Value)} {f_is_player : Addr}
    {oc_is_tuple_of kV_is_tuple_of dc_is_tuple_of pm_is_tuple_of cd_is_tuple_of ct_is_tuple_of : Value} {od_is_tuple_of an_is_tuple_of : Option Addr} {sl_is_tuple_of : Array (Option Value)} {f_is_tuple_of : Addr}
    {oc_is_match kV_is_match dc_is_match pm_is_match cd_is_match ct_is_match : Value} {od_is_match an_is_match : Option Addr} {sl_is_match : Array (Option Value)} {f_is_match : Addr}
    {oc_is_outcome kV_is_outcome dc_is_outcome pm_is_outcome cd_is_outcome ct_is_outcome : Value} {od_is_outcome an_is_outcome : Option Addr} {sl_is_outcome : Array (Option Value)} {f_is_outcome : Addr}
    {oc__is_played kV__is_played dc__is_played pm__is_played cd__is_played ct__is_played : Value} {od__is_played an__is_played : Option Addr} {sl__is_played : Array (Option Value)} {f__is_played : Addr}
    {oc__are_played kV__are_played dc__are_played pm__are_played cd__are_played ct__are_played : Value} {od__are_played an__are_played : Option Addr} {sl__are_played : Array (Option Value)} {f__are_played : Addr}
    {oc_is_league kV_is_league dc_is_league pm_is_league cd_is_league ct_is_league : Value} {od_is_league an_is_league : Option Addr} {sl_is_league : Array (Option Value)} {f_is_league : Addr}
    {oc__law_deck kV__law_deck dc__law_deck pm__law_deck cd__law_deck ct__law_deck : Value} {od__law_deck an__law_deck : Option Addr} {sl__law_deck : Array (Option Value)} {f__law_deck : Addr}
    {oc__law_draw kV__law_draw dc__law_draw pm__law_draw cd__law_draw ct__law_draw : Value} {od__law_draw an__law_draw : Option Addr} {sl__law_draw : Array (Option Value)} {f__law_draw : Addr}
    {oc__law_pairs kV__law_pairs dc__law_pairs pm__law_pairs cd__law_pairs ct__law_pairs : Value} {od__law_pairs an__law_pairs : Option Addr} {sl__law_pairs : Array (Option Value)} {f__law_pairs : Addr}
    {oc__law_outcome kV__law_outcome dc__law_outcome pm__law_outcome cd__law_outcome ct__law_outcome : Value} {od__law_outcome an__law_outcome : Option Addr} {sl__law_outcome : Array (Option Value)} {f__law_outcome : Addr}
    {oc__law_some_league kV__law_some_league dc__law_some_league pm__law_some_league cd__law_some_league ct__law_some_league : Value} {od__law_some_league an__law_some_league : Option Addr} {sl__law_some_league : Array (Option Value)} {f__law_some_league : Addr}
    {oc__law_own kV__law_own dc__law_own pm__law_own cd__law_own ct__law_own : Value} {od__law_own an__law_own : Option Addr} {sl__law_own : Array (Option Value)} {f__law_own : Addr}
    {oc__law_no_match kV__law_no_match dc__law_no_match pm__law_no_match cd__law_no_match ct__law_no_match : Value} {od__law_no_match an__law_no_match : Option Addr} {sl__law_no_match : Array (Option Value)} {f__law_no_match : Addr}
    {oc__law_bent kV__law_bent dc__law_bent pm__law_bent cd__law_bent ct__law_bent : Value} {od__law_bent an__law_bent : Option Addr} {sl__law_bent : Array (Option Value)} {f__law_bent : Addr}
    {oc__law_no_league kV__law_no_league dc__law_no_league pm__law_no_league cd__law_no_league ct__law_no_league : Value} {od__law_no_league an__law_no_league : Option Addr} {sl__law_no_league : Array (Option Value)} {f__law_no_league : Addr}
    {oc__law_is_good_match kV__law_is_good_match dc__law_is_good_match pm__law_is_good_match cd__law_is_good_match ct__law_is_good_match : Value} {od__law_is_good_match an__law_is_good_match : Option Addr} {sl__law_is_good_match : Array (Option Value)} {f__law_is_good_match : Addr}
    {oc__law_good kV__law_good dc__law_good pm__law_good cd__law_good ct__law_good : Value} {od__law_good an__law_good : Option Addr} {sl__law_good : Array (Option Value)} {f__law_good : Addr}
    {oc__law_right kV__law_right dc__law_right pm__law_right cd__law_right ct__law_right : Value} {od__law_right an__law_right : Option Addr} {sl__law_right : Array (Option Value)} {f__law_right : Addr}
    {oc_law kV_law dc_law pm_law cd_law ct_law : Value} {od_law an_law : Option Addr} {sl_law : Array (Option Value)} {f_law : Addr}
    {ct_FEWEST_PLAYERS : Tok}
    {ct_MOST_PLAYERS : Tok}
    {ca_WORTHS : Addr} {es_WORTHS : Array DictEntry} {en_WORTHS : Nat}
    (a_is_whole : PySem.W.nsIn K mainGlobals "is_whole" = some (some (.ref f_is_whole)))
    (l_is_whole : K.lookup f_is_whole = some ⟨oc_is_whole, od_is_whole, .func (PySem.W.fnOf "is_whole" "is_whole" (defArgs s_is_whole) (defBody s_is_whole) (defScope s_is_whole) .none kV_is_whole dc_is_whole pm_is_whole an_is_whole cd_is_whole ct_is_whole), sl_is_whole⟩)
    (cc_is_whole : PySem.W.codeIn K cd_is_whole "is_whole" = true)
    (k_is_whole : PySem.W.keepIn K (.ref f_is_whole) = true)
    (a_is_player : PySem.W.nsIn K mainGlobals "is_player" = some (some (.ref f_is_player)))
    (l_is_player : K.lookup f_is_player = some ⟨oc_is_player, od_is_player, .func (PySem.W.fnOf "is_player" "is_player" (defArgs s_is_player) (defBody s_is_player) (defScope s_is_player) .none kV_is_player dc_is_player pm_is_player an_is_player cd_is_player ct_is_player), sl_is_player⟩)
    (cc_is_player : PySem.W.codeIn K cd_is_player "is_player" = true)
    (k_is_player : PySem.W.keepIn K (.ref f_is_player) = true)
    (a_is_tuple_of : PySem.W.nsIn K mainGlobals "is_tuple_of" = some (some (.ref f_is_tuple_of)))
    (l_is_tuple_of : K.lookup f_is_tuple_of = some ⟨oc_is_tuple_of, od_is_tuple_of, .func (PySem.W.fnOf "is_tuple_of" "is_tuple_of" (defArgs s_is_tuple_of) (defBody s_is_tuple_of) (defScope s_is_tuple_of) .none kV_is_tuple_of dc_is_tuple_of pm_is_tuple_of an_is_tuple_of cd_is_tuple_of ct_is_tuple_of), sl_is_tuple_of⟩)
    (cc_is_tuple_of : PySem.W.codeIn K cd_is_tuple_of "is_tuple_of" = true)
    (k_is_tuple_of : PySem.W.keepIn K (.ref f_is_tuple_of) = true)
    (a_is_match : PySem.W.nsIn K mainGlobals "is_match" = some (some (.ref f_is_match)))
    (l_is_match : K.lookup f_is_match = some ⟨oc_is_match, od_is_match, .func (PySem.W.fnOf "is_match" "is_match" (defArgs s_is_match) (defBody s_is_match) (defScope s_is_match) .none kV_is_match dc_is_match pm_is_match an_is_match cd_is_match ct_is_match), sl_is_match⟩)
    (cc_is_match : PySem.W.codeIn K cd_is_match "is_match" = true)
    (k_is_match : PySem.W.keepIn K (.ref f_is_match) = true)
    (a_is_outcome : PySem.W.nsIn K mainGlobals "is_outcome" = some (some (.ref f_is_outcome)))
    (l_is_outcome : K.lookup f_is_outcome = some ⟨oc_is_outcome, od_is_outcome, .func (PySem.W.fnOf "is_outcome" "is_outcome" (defArgs s_is_outcome) (defBody s_is_outcome) (defScope s_is_outcome) .none kV_is_outcome dc_is_outcome pm_is_outcome an_is_outcome cd_is_outcome ct_is_outcome), sl_is_outcome⟩)
    (cc_is_outcome : PySem.W.codeIn K cd_is_outcome "is_outcome" = true)
    (k_is_outcome : PySem.W.keepIn K (.ref f_is_outcome) = true)
    (a__is_played : PySem.W.nsIn K mainGlobals "_is_played" = some (some (.ref f__is_played)))
    (l__is_played : K.lookup f__is_played = some ⟨oc__is_played, od__is_played, .func (PySem.W.fnOf "_is_played" "_is_played" (defArgs s__is_played) (defBody s__is_played) (defScope s__is_played) .none kV__is_played dc__is_played pm__is_played an__is_played cd__is_played ct__is_played), sl__is_played⟩)
    (cc__is_played : PySem.W.codeIn K cd__is_played "_is_played" = true)
    (k__is_played : PySem.W.keepIn K (.ref f__is_played) = true)
    (a__are_played : PySem.W.nsIn K mainGlobals "_are_played" = some (some (.ref f__are_played)))
    (l__are_played : K.lookup f__are_played = some ⟨oc__are_played, od__are_played, .func (PySem.W.fnOf "_are_played" "_are_played" (defArgs s__are_played) (defBody s__are_played) (defScope s__are_played) .none kV__are_played dc__are_played pm__are_played an__are_played cd__are_played ct__are_played), sl__are_played⟩)
    (cc__are_played : PySem.W.codeIn K cd__are_played "_are_played" = true)
    (k__are_played : PySem.W.keepIn K (.ref f__are_played) = true)
    (a_is_league : PySem.W.nsIn K mainGlobals "is_league" = some (some (.ref f_is_league)))
    (l_is_league : K.lookup f_is_league = some ⟨oc_is_league, od_is_league, .func (PySem.W.fnOf "is_league" "is_league" (defArgs s_is_league) (defBody s_is_league) (defScope s_is_league) .none kV_is_league dc_is_league pm_is_league an_is_league cd_is_league ct_is_league), sl_is_league⟩)
    (cc_is_league : PySem.W.codeIn K cd_is_league "is_league" = true)
    (k_is_league : PySem.W.keepIn K (.ref f_is_league) = true)
    (a__law_deck : PySem.W.nsIn K mainGlobals "_law_deck" = some (some (.ref f__law_deck)))
    (l__law_deck : K.lookup f__law_deck = some ⟨oc__law_deck, od__law_deck, .func (PySem.W.fnOf "_law_deck" "_law_deck" (defArgs s__law_deck) (defBody s__law_deck) (defScope s__law_deck) .none kV__law_deck dc__law_deck pm__law_deck an__law_deck cd__law_deck ct__law_deck), sl__law_deck⟩)
    (cc__law_deck : PySem.W.codeIn K cd__law_deck "_law_deck" = true)
    (k__law_deck : PySem.W.keepIn K (.ref f__law_deck) = true)
    (a__law_draw : PySem.W.nsIn K mainGlobals "_law_draw" = some (some (.ref f__law_draw)))
    (l__law_draw : K.lookup f__law_draw = some ⟨oc__law_draw, od__law_draw, .func (PySem.W.fnOf "_law_draw" "_law_draw" (defArgs s__law_draw) (defBody s__law_draw) (defScope s__law_draw) .none kV__law_draw dc__law_draw pm__law_draw an__law_draw cd__law_draw ct__law_draw), sl__law_draw⟩)
    (cc__law_draw : PySem.W.codeIn K cd__law_draw "_law_draw" = true)
    (k__law_draw : PySem.W.keepIn K (.ref f__law_draw) = true)
    (a__law_pairs : PySem.W.nsIn K mainGlobals "_law_pairs" = some (some (.ref f__law_pairs)))
    (l__law_pairs : K.lookup f__law_pairs = some ⟨oc__law_pairs, od__law_pairs, .func (PySem.W.fnOf "_law_pairs" "_law_pairs" (defArgs s__law_pairs) (defBody s__law_pairs) (defScope s__law_pairs) .none kV__law_pairs dc__law_pairs pm__law_pairs an__law_pairs cd__law_pairs ct__law_pairs), sl__law_pairs⟩)
    (cc__law_pairs : PySem.W.codeIn K cd__law_pairs "_law_pairs" = true)
    (k__law_pairs : PySem.W.keepIn K (.ref f__law_pairs) = true)
    (a__law_outcome : PySem.W.nsIn K mainGlobals "_law_outcome" = some (some (.ref f__law_outcome)))
    (l__law_outcome : K.lookup f__law_outcome = some ⟨oc__law_outcome, od__law_outcome, .func (PySem.W.fnOf "_law_outcome" "_law_outcome" (defArgs s__law_outcome) (defBody s__law_outcome) (defScope s__law_outcome) .none kV__law_outcome dc__law_outcome pm__law_outcome an__law_outcome cd__law_outcome ct__law_outcome), sl__law_outcome⟩)
    (cc__law_outcome : PySem.W.codeIn K cd__law_outcome "_law_outcome" = true)
    (k__law_outcome : PySem.W.keepIn K (.ref f__law_outcome) = true)
    (a__law_some_league : PySem.W.nsIn K mainGlobals "_law_some_league" = some (some (.ref f__law_some_league)))
    (l__law_some_league : K.lookup f__law_some_league = some ⟨oc__law_some_league, od__law_some_league, .func (PySem.W.fnOf "_law_some_league" "_law_some_league" (defArgs s__law_some_league) (defBody s__law_some_league) (defScope s__law_some_league) .none kV__law_some_league dc__law_some_league pm__law_some_league an__law_some_league cd__law_some_league ct__law_some_league), sl__law_some_league⟩)
    (cc__law_some_league : PySem.W.codeIn K cd__law_some_league "_law_some_league" = true)
    (k__law_some_league : PySem.W.keepIn K (.ref f__law_some_league) = true)
    (a__law_own : PySem.W.nsIn K mainGlobals "_law_own" = some (some (.ref f__law_own)))
    (l__law_own : K.lookup f__law_own = some ⟨oc__law_own, od__law_own, .func (PySem.W.fnOf "_law_own" "_law_own" (defArgs s__law_own) (defBody s__law_own) (defScope s__law_own) .none kV__law_own dc__law_own pm__law_own an__law_own cd__law_own ct__law_own), sl__law_own⟩)
    (cc__law_own : PySem.W.codeIn K cd__law_own "_law_own" = true)
    (k__law_own : PySem.W.keepIn K (.ref f__law_own) = true)
    (a__law_no_match : PySem.W.nsIn K mainGlobals "_law_no_match" = some (some (.ref f__law_no_match)))
    (l__law_no_match : K.lookup f__law_no_match = some ⟨oc__law_no_match, od__law_no_match, .func (PySem.W.fnOf "_law_no_match" "_law_no_match" (defArgs s__law_no_match) (defBody s__law_no_match) (defScope s__law_no_match) .none kV__law_no_match dc__law_no_match pm__law_no_match an__law_no_match cd__law_no_match ct__law_no_match), sl__law_no_match⟩)
    (cc__law_no_match : PySem.W.codeIn K cd__law_no_match "_law_no_match" = true)
    (k__law_no_match : PySem.W.keepIn K (.ref f__law_no_match) = true)
    (a__law_bent : PySem.W.nsIn K mainGlobals "_law_bent" = some (some (.ref f__law_bent)))
    (l__law_bent : K.lookup f__law_bent = some ⟨oc__law_bent, od__law_bent, .func (PySem.W.fnOf "_law_bent" "_law_bent" (defArgs s__law_bent) (defBody s__law_bent) (defScope s__law_bent) .none kV__law_bent dc__law_bent pm__law_bent an__law_bent cd__law_bent ct__law_bent), sl__law_bent⟩)
    (cc__law_bent : PySem.W.codeIn K cd__law_bent "_law_bent" = true)
    (k__law_bent : PySem.W.keepIn K (.ref f__law_bent) = true)
    (a__law_no_league : PySem.W.nsIn K mainGlobals "_law_no_league" = some (some (.ref f__law_no_league)))
    (l__law_no_league : K.lookup f__law_no_league = some ⟨oc__law_no_league, od__law_no_league, .func (PySem.W.fnOf "_law_no_league" "_law_no_league" (defArgs s__law_no_league) (defBody s__law_no_league) (defScope s__law_no_league) .none kV__law_no_league dc__law_no_league pm__law_no_league an__law_no_league cd__law_no_league ct__law_no_league), sl__law_no_league⟩)
    (cc__law_no_league : PySem.W.codeIn K cd__law_no_league "_law_no_league" = true)
    (k__law_no_league : PySem.W.keepIn K (.ref f__law_no_league) = true)
    (a__law_is_good_match : PySem.W.nsIn K mainGlobals "_law_is_good_match" = some (some (.ref f__law_is_good_match)))
    (l__law_is_good_match : K.lookup f__law_is_good_match = some ⟨oc__law_is_good_match, od__law_is_good_match, .func (PySem.W.fnOf "_law_is_good_match" "_law_is_good_match" (defArgs s__law_is_good_match) (defBody s__law_is_good_match) (defScope s__law_is_good_match) .none kV__law_is_good_match dc__law_is_good_match pm__law_is_good_match an__law_is_good_match cd__law_is_good_match ct__law_is_good_match), sl__law_is_good_match⟩)
    (cc__law_is_good_match : PySem.W.codeIn K cd__law_is_good_match "_law_is_good_match" = true)
    (k__law_is_good_match : PySem.W.keepIn K (.ref f__law_is_good_match) = true)
    (a__law_good : PySem.W.nsIn K mainGlobals "_law_good" = some (some (.ref f__law_good)))
    (l__law_good : K.lookup f__law_good = some ⟨oc__law_good, od__law_good, .func (PySem.W.fnOf "_law_good" "_law_good" (defArgs s__law_good) (defBody s__law_good) (defScope s__law_good) .none kV__law_good dc__law_good pm__law_good an__law_good cd__law_good ct__law_good), sl__law_good⟩)
    (cc__law_good : PySem.W.codeIn K cd__law_good "_law_good" = true)
    (k__law_good : PySem.W.keepIn K (.ref f__law_good) = true)
    (a__law_right : PySem.W.nsIn K mainGlobals "_law_right" = some (some (.ref f__law_right)))
    (l__law_right : K.lookup f__law_right = some ⟨oc__law_right, od__law_right, .func (PySem.W.fnOf "_law_right" "_law_right" (defArgs s__law_right) (defBody s__law_right) (defScope s__law_right) .none kV__law_right dc__law_right pm__law_right an__law_right cd__law_right ct__law_right), sl__law_right⟩)
    (cc__law_right : PySem.W.codeIn K cd__law_right "_law_right" = true)
    (k__law_right : PySem.W.keepIn K (.ref f__law_right) = true)
    (a_law : PySem.W.nsIn K mainGlobals "law" = some (some (.ref f_law)))
    (l_law : K.lookup f_law = some ⟨oc_law, od_law, .func (PySem.W.fnOf "law" "law" (defArgs s_law) (defBody s_law) (defScope s_law) .none kV_law dc_law pm_law an_law cd_law ct_law), sl_law⟩)
    (cc_law : PySem.W.codeIn K cd_law "law" = true)
    (k_law : PySem.W.keepIn K (.ref f_law) = true)
    (c_FEWEST_PLAYERS : PySem.W.nsIn K mainGlobals "FEWEST_PLAYERS" = some (some (.int 2 ct_FEWEST_PLAYERS)))
    (c_MOST_PLAYERS : PySem.W.nsIn K mainGlobals "MOST_PLAYERS" = some (some (.int 6 ct_MOST_PLAYERS)))
    (c_WORTHS : PySem.W.nsIn K mainGlobals "WORTHS" = some (some (.ref ca_WORTHS)))
    (cl_WORTHS : K.lookup ca_WORTHS = some ⟨.type "dict", none, .dict es_WORTHS en_WORTHS, #[]⟩)
    (ck_WORTHS : PySem.W.KeysLit w.params es_WORTHS.toList)
    (cs_WORTHS : (ca_WORTHS == sysModules) = false)
    (ce_WORTHS : TabOk es_WORTHS.toList FX.Pg.t_WORTHS)
    (z_bool : PySem.W.nsIn K mainGlobals "bool" = some none)
    (z_enumerate : PySem.W.nsIn K mainGlobals "enumerate" = some none)
    (z_int : PySem.W.nsIn K mainGlobals "int" = some none)
    (z_isinstance : PySem.W.nsIn K mainGlobals "isinstance" = some none)
    (z_len : PySem.W.nsIn K mainGlobals "len" = some none)
    (z_list : PySem.W.nsIn K mainGlobals "list" = some none)
    (z_max : PySem.W.nsIn K mainGlobals "max" = some none)
    (z_min : PySem.W.nsIn K mainGlobals "min" = some none)
    (z_range : PySem.W.nsIn K mainGlobals "range" = some none)
    (z_repr : PySem.W.nsIn K mainGlobals "repr" = some none)
    (z_sorted : PySem.W.nsIn K mainGlobals "sorted" = some none)
    (z_str : PySem.W.nsIn K mainGlobals "str" = some none)
    (z_tuple : PySem.W.nsIn K mainGlobals "tuple" = some none)
    (z_type : PySem.W.nsIn K mainGlobals "type" = some none) :
    ∃ fd : FuncData, (∀ (s : Shared) (v : Value), BindsTo s fd ⟨[v], []⟩ [("script", v)]) ∧ ∀ base : Heap, K.In base → base.Ns mainGlobals mg → FnG l.prog w K mg base (L2.CX l.prog w) 8 fa fd ["script"] (FX.spLaw K) := by
  have e := hfa.symm.trans (PySem.W.mg_of X G a_law)
  cases e
  have T : Txt K w mg := {
    a_is_whole := f_is_whole, d_is_whole := _, F_is_whole := fun_mk (st := s_is_whole) l_is_whole cc_is_whole k_is_whole, g_is_whole := PySem.W.mg_of X G a_is_whole,
    b_is_whole := (fun_mk (st := s_is_whole) l_is_whole cc_is_whole k_is_whole).binds (ps := ["thing"]) (fun _ _ _ _ _ _ us hl => match us, hl with | [_], _ => rfl),
    a_is_player := f_is_player, d_is_player := _, F_is_player := fun_mk (st := s_is_player) l_is_player cc_is_player k_is_player, g_is_player := PySem.W.mg_of X G a_is_player,
    b_is_player := (fun_mk (st := s_is_player) l_is_player cc_is_player k_is_player).binds (ps := ["thing", "n"]) (fun _ _ _ _ _ _ us hl => match us, hl with | [_, _], _ => rfl),
    a_is_tuple_of := f_is_tuple_of, d_is_tuple_of := _, F_is_tuple_of := fun_mk (st := s_is_tuple_of) l_is_tuple_of cc_is_tuple_of k_is_tuple_of, g_is_tuple_of := PySem.W.mg_of X G a_is_tuple_of,
    b_is_tuple_of := (fun_mk (st := s_is_tuple_of) l_is_tuple_of cc_is_tuple_of k_is_tuple_of).binds (ps := ["thing", "size"]) (fun _ _ _ _ _ _ us hl => match us, hl with | [_, _], _ => rfl),
    a_is_match := f_is_match, d_is_match := _, F_is_match := fun_mk (st := s_is_match) l_is_match cc_is_match k_is_match, g_is_match := PySem.W.mg_of X G a_is_match,
    b_is_match := (fun_mk (st := s_is_match) l_is_match cc_is_match k_is_match).binds (ps := ["n", "i", "j"]) (fun _ _ _ _ _ _ us hl => match us, hl with | [_, _, _], _ => rfl),
    a_is_outcome := f_is_outcome, d_is_outcome := _, F_is_outcome := fun_mk (st := s_is_outcome) l_is_outcome cc_is_outcome k_is_outcome, g_is_outcome := PySem.W.mg_of X G a_is_outcome,
    b_is_outcome := (fun_mk (st := s_is_outcome) l_is_outcome cc_is_outcome k_is_outcome).binds (ps := ["kind", "i", "j", "w"]) (fun _ _ _ _ _ _ us hl => match us, hl with | [_, _, _, _], _ => rfl),
    a__is_played := f__is_played, d__is_played := _, F__is_played := fun_mk (st := s__is_played) l__is_played cc__is_played k__is_played, g__is_played := PySem.W.mg_of X G a__is_played,
    b__is_played := (fun_mk (st := s__is_played) l__is_played cc__is_played k__is_played).binds (ps := ["kind", "n", "match"]) (fun _ _ _ _ _ _ us hl => match us, hl with | [_, _, _], _ => rfl),
    a__are_played := f__are_played, d__are_played := _, F__are_played := fun_mk (st := s__are_played) l__are_played cc__are_played k__are_played, g__are_played := PySem.W.mg_of X G a__are_played,
    b__are_played := (fun_mk (st := s__are_played) l__are_played cc__are_played k__are_played).binds (ps := ["kind", "n", "played"]) (fun _ _ _ _ _ _ us hl => match us, hl with | [_, _, _], _ => rfl),
    a_is_league := f_is_league, d_is_league := _, F_is_league := fun_mk (st := s_is_league) l_is_league cc_is_league k_is_league, g_is_league := PySem.W.mg_of X G a_is_league,
    b_is_league := (fun_mk (st := s_is_league) l_is_league cc_is_league k_is_league).binds (ps := ["thing"]) (fun _ _ _ _ _ _ us hl => match us, hl with | [_], _ => rfl),
    a__law_deck := f__law_deck, d__law_deck := _, F__law_deck := fun_mk (st := s__law_deck) l__law_deck cc__law_deck k__law_deck, g__law_deck := PySem.W.mg_of X G a__law_deck,
    b__law_deck := (fun_mk (st := s__law_deck) l__law_deck cc__law_deck k__law_deck).binds (ps := ["script"]) (fun _ _ _ _ _ _ us hl => match us, hl with | [_], _ => rfl),
    a__law_draw := f__law_draw, d__law_draw := _, F__law_draw := fun_mk (st := s__law_draw) l__law_draw cc__law_draw k__law_draw, g__law_draw := PySem.W.mg_of X G a__law_draw,
    b__law_draw := (fun_mk (st := s__law_draw) l__law_draw cc__law_draw k__law_draw).binds (ps := ["deck", "many"]) (fun _ _ _ _ _ _ us hl => match us, hl with | [_, _], _ => rfl),
    a__law_pairs := f__law_pairs, d__law_pairs := _, F__law_pairs := fun_mk (st := s__law_pairs) l__law_pairs cc__law_pairs k__law_pairs, g__law_pairs := PySem.W.mg_of X G a__law_pairs,
    b__law_pairs := (fun_mk (st := s__law_pairs) l__law_pairs cc__law_pairs k__law_pairs).binds (ps := ["n"]) (fun _ _ _ _ _ _ us hl => match us, hl with | [_], _ => rfl),
    a__law_outcome := f__law_outcome, d__law_outcome := _, F__law_outcome := fun_mk (st := s__law_outcome) l__law_outcome cc__law_outcome k__law_outcome, g__law_outcome := PySem.W.mg_of X G a__law_outcome,
    b__law_outcome := (fun_mk (st := s__law_outcome) l__law_outcome cc__law_outcome k__law_outcome).binds (ps := ["deck", "kind", "i", "j"]) (fun _ _ _ _ _ _ us hl => match us, hl with | [_, _, _, _], _ => rfl),
    a__law_some_league := f__law_some_league, d__law_some_league := _, F__law_some_league := fun_mk (st := s__law_some_league) l__law_some_league cc__law_some_league k__law_some_league, g__law_some_league := PySem.W.mg_of X G a__law_some_league,
    b__law_some_league := (fun_mk (st := s__law_some_league) l__law_some_league cc__law_some_league k__law_some_league).binds (ps := ["deck"]) (fun _ _ _ _ _ _ us hl => match us, hl with | [_], _ => rfl),
    a__law_own := f__law_own, d__law_own := _, F__law_own := fun_mk (st := s__law_own) l__law_own cc__law_own k__law_own, g__law_own := PySem.W.mg_of X G a__law_own,
    b__law_own := (fun_mk (st := s__law_own) l__law_own cc__law_own k__law_own).binds (ps := ["league"]) (fun _ _ _ _ _ _ us hl => match us, hl with | [_], _ => rfl),
    a__law_no_match := f__law_no_match, d__law_no_match := _, F__law_no_match := fun_mk (st := s__law_no_match) l__law_no_match cc__law_no_match k__law_no_match, g__law_no_match := PySem.W.mg_of X G a__law_no_match,
    b__law_no_match := (fun_mk (st := s__law_no_match) l__law_no_match cc__law_no_match k__law_no_match).binds (ps := ["deck", "kind", "n", "match"]) (fun _ _ _ _ _ _ us hl => match us, hl with | [_, _, _, _], _ => rfl),
    a__law_bent := f__law_bent, d__law_bent := _, F__law_bent := fun_mk (st := s__law_bent) l__law_bent cc__law_bent k__law_bent, g__law_bent := PySem.W.mg_of X G a__law_bent,
    b__law_bent := (fun_mk (st := s__law_bent) l__law_bent cc__law_bent k__law_bent).binds (ps := ["deck", "kind", "n", "played"]) (fun _ _ _ _ _ _ us hl => match us, hl with | [_, _, _, _], _ => rfl),
    a__law_no_league := f__law_no_league, d__law_no_league := _, F__law_no_league := fun_mk (st := s__law_no_league) l__law_no_league cc__law_no_league k__law_no_league, g__law_no_league := PySem.W.mg_of X G a__law_no_league,
    b__law_no_league := (fun_mk (st := s__law_no_league) l__law_no_league cc__law_no_league k__law_no_league).binds (ps := ["deck", "league"]) (fun _ _ _ _ _ _ us hl => match us, hl with | [_, _], _ => rfl),
    a__law_is_good_match := f__law_is_good_match, d__law_is_good_match := _, F__law_is_good_match := fun_mk (st := s__law_is_good_match) l__law_is_good_match cc__law_is_good_match k__law_is_good_match, g__law_is_good_match := PySem.W.mg_of X G a__law_is_good_match,
    b__law_is_good_match := (fun_mk (st := s__law_is_good_match) l__law_is_good_match cc__law_is_good_match k__law_is_good_match).binds (ps := ["kind", "n", "match"]) (fun _ _ _ _ _ _ us hl => match us, hl with | [_, _, _], _ => rfl),
    a__law_good := f__law_good, d__law_good := _, F__law_good := fun_mk (st := s__law_good) l__law_good cc__law_good k__law_good, g__law_good := PySem.W.mg_of X G a__law_good,
    b__law_good := (fun_mk (st := s__law_good) l__law_good cc__law_good k__law_good).binds (ps := ["thing"]) (fun _ _ _ _ _ _ us hl => match us, hl with | [_], _ => rfl),
    a__law_right := f__law_right, d__law_right := _, F__law_right := fun_mk (st := s__law_right) l__law_right cc__law_right k__law_right, g__law_right := PySem.W.mg_of X G a__law_right,
    b__law_right := (fun_mk (st := s__law_right) l__law_right cc__law_right k__law_right).binds (ps := ["thing"]) (fun _ _ _ _ _ _ us hl => match us, hl with | [_], _ => rfl),
    a_law := fa, d_law := _, F_law := fun_mk (st := s_law) l_law cc_law k_law, g_law := PySem.W.mg_of X G a_law,
    b_law := (fun_mk (st := s_law) l_law cc_law k_law).binds (ps := ["script"]) (fun _ _ _ _ _ _ us hl => match us, hl with | [_], _ => rfl),
    ct_FEWEST_PLAYERS := ct_FEWEST_PLAYERS, c_FEWEST_PLAYERS := PySem.W.mg_of X G c_FEWEST_PLAYERS,
    ct_MOST_PLAYERS := ct_MOST_PLAYERS, c_MOST_PLAYERS := PySem.W.mg_of X G c_MOST_PLAYERS,
    ca_WORTHS := ca_WORTHS, c_WORTHS := PySem.W.mg_of X G c_WORTHS,
    t_WORTHS := ktab_mk ⟨cl_WORTHS, ck_WORTHS, cs_WORTHS⟩ ce_WORTHS,
    z_bool := PySem.W.mg_none_of X G z_bool,
    z_enumerate := PySem.W.mg_none_of X G z_enumerate,
    z_int := PySem.W.mg_none_of X G z_int,
    z_isinstance := PySem.W.mg_none_of X G z_isinstance,
    z_len := PySem.W.mg_none_of X G z_len,
    z_list := PySem.W.mg_none_of X G z_list,
    z_max := PySem.W.mg_none_of X G z_max,
    z_min := PySem.W.mg_none_of X G z_min,
    z_range := PySem.W.mg_none_of X G z_range,
    z_repr := PySem.W.mg_none_of X G z_repr,
    z_sorted := PySem.W.mg_none_of X G z_sorted,
    z_str := PySem.W.mg_none_of X G z_str,
    z_tuple := PySem.W.mg_none_of X G z_tuple,
    z_type := PySem.W.mg_none_of X G z_type }
  have ea : T.a_law = fa := by
    have z := T.g_law.symm.trans hfa
    injection z with z
    injection z
  obtain ⟨_, _, _, _, _, _, _, _, _, hfd, _⟩ := T.F_law.ex
  refine ⟨T.d_law, fun s v => ?_, fun base kb nb => by rw [← ea]; exact FX.law_ofG (m := fun sa ns => m_law) (fun sa ns h => law_true ns h) rfl fun sa ns => ok_law T⟩
  rw [hfd]
  exact BindsTo.of_eq rfl
end FX.K01
open PySem PySem.W PyProof.Rows
set_option maxHeartbeats 0 in
theorem PySem.Challenge.cw_wintold_k01_what_is_a_league_holds : PySem.Challenge.rw_wintold_k01_what_is_a_league.Holds := by
  w_on; o_law; k_head; (case hw => w_witness2)
  k_fill
  refine FX.walk_ofG (l := PySem.Challenge.rw_wintold_k01_what_is_a_league) (n := 63) (k := 8) (x := "script") (CX := fun w => L2.CX (PySem.Challenge.rw_wintold_k01_what_is_a_league).prog w) (sp := fun w => FX.spLaw _) rfl (by decide) rfl ⟨rfl, by decide, by decide⟩ (fun w h Y => PySem.W.kIn_of Y) ?F (fun _ _ a ns hl _ hS => ⟨a, ns, rfl, hS, hl, fun _ => rfl⟩) (fun w H s e s' h => by obtain ⟨_, _, _, _, _, _, _, _, _, _, _, _, z⟩ := h; exact z)
  case F =>
    intro w mg fa h KX G hmg
    refine' FX.K01.all_mk KX G hmg ?a_is_whole ?l_is_whole ?cc_is_whole ?k_is_whole ?a_is_player ?l_is_player ?cc_is_player ?k_is_player ?a_is_tuple_of ?l_is_tuple_of ?cc_is_tuple_of ?k_is_tuple_of ?a_is_match ?l_is_match ?cc_is_match ?k_is_match ?a_is_outcome ?l_is_outcome ?cc_is_outcome ?k_is_outcome ?a__is_played ?l__is_played ?cc__is_played ?k__is_played ?a__are_played ?l__are_played ?cc__are_played ?k__are_played ?a_is_league ?l_is_league ?cc_is_league ?k_is_league ?a__law_deck ?l__law_deck ?cc__law_deck ?k__law_deck ?a__law_draw ?l__law_draw ?cc__law_draw ?k__law_draw ?a__law_pairs ?l__law_pairs ?cc__law_pairs ?k__law_pairs ?a__law_outcome ?l__law_outcome ?cc__law_outcome ?k__law_outcome ?a__law_some_league ?l__law_some_league ?cc__law_some_league ?k__law_some_league ?a__law_own ?l__law_own ?cc__law_own ?k__law_own ?a__law_no_match ?l__law_no_match ?cc__law_no_match ?k__law_no_match ?a__law_bent ?l__law_bent ?cc__law_bent ?k__law_bent ?a__law_no_league ?l__law_no_league ?cc__law_no_league ?k__law_no_league ?a__law_is_good_match ?l__law_is_good_match ?cc__law_is_good_match ?k__law_is_good_match ?a__law_good ?l__law_good ?cc__law_good ?k__law_good ?a__law_right ?l__law_right ?cc__law_right ?k__law_right ?a_law ?l_law ?cc_law ?k_law ?c_FEWEST_PLAYERS ?c_MOST_PLAYERS ?c_WORTHS ?cl_WORTHS ?ck_WORTHS ?cs_WORTHS ?ce_WORTHS ?z_bool ?z_enumerate ?z_int ?z_isinstance ?z_len ?z_list ?z_max ?z_min ?z_range ?z_repr ?z_sorted ?z_str ?z_tuple ?z_type
    (case a_is_whole => k_is)
    (case l_is_whole => k_is)
    (case cc_is_whole => k_is)
    (case k_is_whole => k_is)
    (case a_is_player => k_is)
    (case l_is_player => k_is)
    (case cc_is_player => k_is)
    (case k_is_player => k_is)
    (case a_is_tuple_of => k_is)
    (case l_is_tuple_of => k_is)
    (case cc_is_tuple_of => k_is)
    (case k_is_tuple_of => k_is)
    (case a_is_match => k_is)
    (case l_is_match => k_is)
    (case cc_is_match => k_is)
    (case k_is_match => k_is)
    (case a_is_outcome => k_is)
    (case l_is_outcome => k_is)
    (case cc_is_outcome => k_is)
    (case k_is_outcome => k_is)
    (case a__is_played => k_is)
    (case l__is_played => k_is)
    (case cc__is_played => k_is)
    (case k__is_played => k_is)
    (case a__are_played => k_is)
    (case l__are_played => k_is)
    (case cc__are_played => k_is)
    (case k__are_played => k_is)
    (case a_is_league => k_is)
    (case l_is_league => k_is)
    (case cc_is_league => k_is)
    (case k_is_league => k_is)
    (case a__law_deck => k_is)
    (case l__law_deck => k_is)
    (case cc__law_deck => k_is)
    (case k__law_deck => k_is)
    (case a__law_draw => k_is)
    (case l__law_draw => k_is)
    (case cc__law_draw => k_is)
    (case k__law_draw => k_is)
    (case a__law_pairs => k_is)
    (case l__law_pairs => k_is)
    (case cc__law_pairs => k_is)
    (case k__law_pairs => k_is)
    (case a__law_outcome => k_is)
    (case l__law_outcome => k_is)
    (case cc__law_outcome => k_is)
    (case k__law_outcome => k_is)
    (case a__law_some_league => k_is)
    (case l__law_some_league => k_is)
    (case cc__law_some_league => k_is)
    (case k__law_some_league => k_is)
    (case a__law_own => k_is)
    (case l__law_own => k_is)
    (case cc__law_own => k_is)
    (case k__law_own => k_is)
    (case a__law_no_match => k_is)
    (case l__law_no_match => k_is)
    (case cc__law_no_match => k_is)
    (case k__law_no_match => k_is)
    (case a__law_bent => k_is)
    (case l__law_bent => k_is)
    (case cc__law_bent => k_is)
    (case k__law_bent => k_is)
    (case a__law_no_league => k_is)
    (case l__law_no_league => k_is)
    (case cc__law_no_league => k_is)
    (case k__law_no_league => k_is)
    (case a__law_is_good_match => k_is)
    (case l__law_is_good_match => k_is)
    (case cc__law_is_good_match => k_is)
    (case k__law_is_good_match => k_is)
    (case a__law_good => k_is)
    (case l__law_good => k_is)
    (case cc__law_good => k_is)
    (case k__law_good => k_is)
    (case a__law_right => k_is)
    (case l__law_right => k_is)
    (case cc__law_right => k_is)
    (case k__law_right => k_is)
    (case a_law => k_is)
    (case l_law => k_is)
    (case cc_law => k_is)
    (case k_law => k_is)
    (case c_FEWEST_PLAYERS => k_is)
    (case c_MOST_PLAYERS => k_is)
    (case c_WORTHS => k_is)
    (case cl_WORTHS => k_is)
    (case ck_WORTHS => ((repeat (unfold PySem.W.KeysLit; refine ⟨⟨_, _, rfl, rfl⟩, ?_⟩)); first | trivial | (unfold PySem.W.KeysLit; trivial)))
    (case cs_WORTHS => first | k_is | rfl | decide +kernel)
    (case ce_WORTHS => exact FX.tab_t (FX.tab_cons (.int 1) ⟨_, rfl⟩ (fun _ _ => .int _) (FX.tab_cons (.int 2) ⟨_, rfl⟩ (fun _ _ => .int _) FX.tab_nil)) rfl)
    (case z_bool => k_is)
    (case z_enumerate => k_is)
    (case z_int => k_is)
    (case z_isinstance => k_is)
    (case z_len => k_is)
    (case z_list => k_is)
    (case z_max => k_is)
    (case z_min => k_is)
    (case z_range => k_is)
    (case z_repr => k_is)
    (case z_sorted => k_is)
    (case z_str => k_is)
    (case z_tuple => k_is)
    (case z_type => k_is)
