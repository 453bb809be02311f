import PyProof.Rows.All
import Wide.All
import OpenK.AllK
import Wide.FinOn
import HandS.TupMul
import HandS.ForMost
import HandS.Exc
import HandS.TryOnly
import HandS.ExcOwn
import HandS.WordsExc
import HandS.Deep
import HandS.TupLe
import HandS.Wide
import HandS.Conv
import HandS.Sort
import HandS.RepeatKit
import HandS.Zip
import HandS.IsInst
import HandS.SortRule
import HandS.More
import PyProof.TypeEq
import PyProof.InstEq
import HandS.Text
import HandS.TupAny
import PyProof.ReprRoads
import PyProof.ReprReads
import HandS.RaiseMore
import HandS.Style
import HandS.Dict
import HandS.ExcIs
import KE.SortData
import HandS.TupLen
import KE.DataCmp
import KE.KDictPairs
import HandS.SetFor
import PyProof.Rows.SortShell
import HandS.Flt
import HandS.Lambda
import KE.SortKeyHeap
import KE.KSortKey
import PyProof.Rows.TupSub
import PyProof.Rows.RowHeap
import HandS.SortKw
import HandS.Iter
import HandS.Comp
import KE.KDictDisplayH
import PyProof.Rows.TupDisplay
import PyProof.DictCompW
import HandS.DictComp
import PyProof.StrLawsRepr
import KE.RegKIsAll
import KE.RegKTryMore
import PySem.Challenge.RW_wintold_k25_points_counted
set_option Elab.async false
set_option linter.all false
set_option maxRecDepth 100000
set_option maxHeartbeats 1000000
namespace FX
open PySem PySem.Spec L2
abbrev D := PyData
def ErO (cls : Value) (a : Addr) : HO := .ext fun h => ∃ oe : Obj, h.get? a = some oe ∧ Zc cls none oe ∧ ∃ vs, oe.data = .fields vs
def Cn (K : PySem.W.Frag) (n : Str) (c : Value) : Prop := PySem.W.nsIn K mainGlobals n = some (some c)
theorem Cn.uniq {K : PySem.W.Frag} {n : Str} {c d : Value} (h : Cn K n c) (k : Cn K n d) : c = d := by
  unfold Cn at h k
  rw [h] at k
  cases k; rfl
def keyD : Key → D
  | .inl i => .int i
  | .inr z => .str z
def entV (ks : List (Key × Int)) : List (Key × V) := ks.map fun p => (p.1, .int p.2)
def entD (ks : List (Key × Int)) : List (D × D) := ks.map fun p => (keyD p.1, .int p.2)
def tbV (ks : List (List Key)) : List (List Key × V) := ks.map fun k => (k, .bl true)
def tbD (ks : List (List Key)) : List (D × D) := ks.map fun k => (.tuple (k.map keyD), .bool true)
mutual
inductive Rp (K : PySem.W.Frag) (F : Hp) : V → D → Prop
  | non : Rp K F .non .none
  | bl (b : Bool) : Rp K F (.bl b) (.bool b)
  | int (i : Int) : Rp K F (.int i) (.int i)
  | str (x : Str) : Rp K F (.str x) (.str x)
  | lst {a : Addr} {xs : List V} {ds : List D} : F a = some (.lst xs) → RpA K F xs ds → Rp K F (.ref a) (.list ds)
  | tup {a : Addr} {xs : List V} {ds : List D} : F a = some (.tup xs) → RpA K F xs ds → Rp K F (.ref a) (.tuple ds)
  | dic {a : Addr} : F a = some (.dK []) → Rp K F (.ref a) (.dict [])
  | dcI {a : Addr} (ks : List (Key × Int)) : F a = some (.dK (entV ks)) → Rp K F (.ref a) (.dict (entD ks))
  | dcB {a : Addr} (od : Obj) (ks : List (List Key)) : ks ≠ [] → F a = some (.frz od (.dT (tbV ks))) → Rp K F (.ref a) (.dict (tbD ks))
inductive RpA (K : PySem.W.Frag) (F : Hp) : List V → List D → Prop
  | nil : RpA K F [] []
  | cons {v : V} {vs : List V} {d : D} {ds : List D} : Rp K F v d → RpA K F vs ds → RpA K F (v :: vs) (d :: ds)
end
section
variable {K : PySem.W.Frag} {F G : Hp}
theorem seqT {H H' : Hp} {a : Addr} {xs : List V} (e : Same H H') (h : SqT K H a xs) : SqT K H' a xs := by
  rcases h with (h | ⟨o, h⟩) | h
  · exact .inl (.inl (e _ _ h))
  · exact .inl (.inr ⟨o, e _ _ h⟩)
  · exact .inr h
mutual
theorem Rp.mono (e : Same F G) : ∀ {d : D} {v : V}, Rp K F v d → Rp K G v d
  | .none, _, h => by cases h; exact .non
  | .bool _, _, h => by cases h; exact .bl _
  | .int _, _, h => by cases h; exact .int _
  | .str _, _, h => by cases h; exact .str _
  | .list _, _, h => by cases h with | lst a b => exact .lst (e _ _ a) (RpA.mono e b)
  | .tuple _, _, h => by cases h with | tup a b => exact .tup (e _ _ a) (RpA.mono e b)
  | .dict _, _, h => by
    cases h with
    | dic a => exact .dic (e _ _ a)
    | dcI ks a => exact .dcI ks (e _ _ a)
    | dcB od ks n a => exact .dcB od ks n (e _ _ a)
theorem RpA.mono (e : Same F G) : ∀ {ds : List D} {vs : List V}, RpA K F vs ds → RpA K G vs ds
  | [], _, h => by cases h; exact .nil
  | _ :: _, _, h => by cases h with | cons a b => exact .cons (Rp.mono e a) (RpA.mono e b)
end
theorem RpA.length : ∀ {vs : List V} {ds : List D}, RpA K F vs ds → vs.length = ds.length
  | _, _, .nil => rfl
  | _, _, .cons _ t => by simp [RpA.length t]
theorem RpA.get : ∀ {vs : List V} {ds : List D} {i : Nat} {d : D}, RpA K F vs ds → ds[i]? = some d → ∃ v, vs[i]? = some v ∧ Rp K F v d
  | _, _, _, _, .nil, e => by simp at e
  | _, _, 0, _, .cons r _, e => by simp at e; subst e; exact ⟨_, rfl, r⟩
  | _, _, i + 1, d, .cons _ t, e => by
    obtain ⟨u, h1, h2⟩ := RpA.get (i := i) (d := d) t (by simpa using e)
    exact ⟨u, by simpa using h1, h2⟩
theorem RpA.append : ∀ {vs us : List V} {ds es : List D}, RpA K F vs ds → RpA K F us es → RpA K F (vs ++ us) (ds ++ es)
  | _, _, _, _, .nil, h => h
  | _, _, _, _, .cons a b, h => .cons a (RpA.append b h)
theorem RpA.set : ∀ {vs : List V} {ds : List D} (i : Nat) {v : V} {d : D}, RpA K F vs ds → Rp K F v d → RpA K F (vs.set i v) (ds.set i d)
  | _, _, _, _, _, .nil, _ => .nil
  | _, _, 0, _, _, .cons _ b, h => .cons h b
  | _, _, i + 1, _, _, .cons a b, h => .cons a (RpA.set i b h)
theorem RpA.take : ∀ {vs : List V} {ds : List D} (n : Nat), RpA K F vs ds → RpA K F (vs.take n) (ds.take n)
  | _, _, 0, _ => .nil
  | _, _, _ + 1, .nil => .nil
  | _, _, n + 1, .cons a b => .cons a (RpA.take n b)
theorem RpA.drop : ∀ {vs : List V} {ds : List D} (n : Nat), RpA K F vs ds → RpA K F (vs.drop n) (ds.drop n)
  | _, _, 0, h => h
  | _, _, _ + 1, .nil => .nil
  | _, _, n + 1, .cons _ b => RpA.drop n b
theorem RpA.rev : ∀ {vs : List V} {ds : List D}, RpA K F vs ds → RpA K F vs.reverse ds.reverse
  | _, _, .nil => .nil
  | _, _, .cons a b => by
    simp only [List.reverse_cons]
    exact RpA.append (RpA.rev b) (.cons a .nil)
end
def keyT (k : List Key) : D := .tuple (k.map keyD)
inductive RpT (K : PySem.W.Frag) (F : Hp) : List (List Key × V) → List (D × D) → Prop
  | nil : RpT K F [] []
  | cons {k : List Key} {v : V} {d : D} {es : List (List Key × V)} {kvs : List (D × D)} : Rp K F v d → RpT K F es kvs → RpT K F ((k, v) :: es) ((keyT k, d) :: kvs)
theorem RpT.mono {K : PySem.W.Frag} {F G : Hp} (e : Same F G) : ∀ {es : List (List Key × V)} {kvs : List (D × D)}, RpT K F es kvs → RpT K G es kvs
  | _, _, .nil => .nil
  | _, _, .cons a b => .cons (a.mono e) (RpT.mono e b)
structure Sys where
  S : Type
  rel : S → Hp → List Addr → List Addr → Hp → Prop
  frame : ∀ {s F F' et A H H'}, rel s F et A H → Same F F' → (∀ p ∈ A, H' p = H p) → rel s F' et A H'
  live : ∀ {s F et A H}, rel s F et A H → ∀ p ∈ A, H p ≠ none
  notup : ∀ {s F et A H}, rel s F et A H → ∀ p ∈ A, ∀ xs, H p ≠ some (.tup xs)
structure Wo where
  F : Hp
  A : List Addr
  et : List Addr
  H : Hp
structure Wd (Y : Sys) (B : Hp) (w : Wo) (s : Y.S) : Prop where
  sF : Same w.F w.H
  sB : Same B w.H
  dj : ∀ p o, w.F p = some o → B p = none ∨ ∃ xs, o = .tup xs
  dA : ∀ p ∈ w.A, w.F p = none ∧ B p = none
  rel : Y.rel s w.F w.et w.A w.H
structure Le (w w' : Wo) : Prop where
  F : Same w.F w'.F
  et : ∃ m, w'.et = w.et ++ m
theorem Le.refl (w : Wo) : Le w w := ⟨Same.refl _, [], by simp⟩
theorem Le.trans {u v w : Wo} (a : Le u v) (b : Le v w) : Le u w := ⟨a.F.trans b.F, by
  obtain ⟨m, e⟩ := a.et
  obtain ⟨n, f⟩ := b.et
  exact ⟨m ++ n, by rw [f, e, List.append_assoc]⟩⟩
inductive R where
  | v (d : D) | o (d : D) | h (i : Nat) | raw (x : V) | b (i : Nat) | e (n : Str)
abbrev Ev := List (Option R)
inductive Oc (α : Type) where
  | ok (a : α) | er (c : Str)
def Own (K : PySem.W.Frag) (F H : Hp) (p : Addr) : D → Prop
  | .list ds => ∃ xs, H p = some (.lst xs) ∧ RpA K F xs ds
  | .dict kvs => ∃ es, H p = some (.dT es) ∧ RpT K F es kvs
  | _ => False
def SlR (K : PySem.W.Frag) (B : Hp) (w : Wo) (x : V) : R → Prop
  | .v d => Rp K w.F x d
  | .o d => ∃ p, x = .ref p ∧ Own K w.F w.H p d ∧ w.F p = none ∧ B p = none ∧ p ∉ w.A
  | .h i => ∃ p, w.et[i]? = some p ∧ x = .ref p
  | .raw y => x = y
  | .e n => ∃ p cls, x = .ref p ∧ w.F p = some (ErO cls p) ∧ Cn K n cls
  | .b _ => False
structure EnvR (K : PySem.W.Frag) (B : Hp) (w : Wo) (σ : St) (Γ : Ev) : Prop where
  len : σ.length = Γ.length
  sl : ∀ (i : Nat) (r : R), Γ[i]? = some (some r) → ∃ x, σ[i]? = some (some x) ∧ SlR K B w x r
  inj : ∀ (i j : Nat) (d e : D) (x : V), Γ[i]? = some (some (R.o d)) → Γ[j]? = some (some (R.o e)) → σ[i]? = some (some x) → σ[j]? = some (some x) → i = j
def ResR (K : PySem.W.Frag) (B : Hp) (w : Wo) (σ : St) (Γ : Ev) (x : V) : R → Prop
  | .b i => σ[i]? = some (some x)
  | .o d => SlR K B w x (.o d) ∧ ∀ (i : Nat) (e : D), Γ[i]? = some (some (R.o e)) → σ[i]? ≠ some (some x)
  | r => SlR K B w x r
section
variable {K : PySem.W.Frag} {B B' : Hp} {w w' : Wo} {Y : Sys} {s s' : Y.S} {σ : St} {Γ Γ' : Ev} {x : V} {r : R}
theorem Own.obj {F H : Hp} {p : Addr} : ∀ {d : D}, Own K F H p d → ∃ o, H p = some o
  | .list _, ⟨xs, e, _⟩ => ⟨_, e⟩
  | .none, h => h.elim
  | .bool _, h => h.elim
  | .int _, h => h.elim
  | .str _, h => h.elim
  | .tuple _, h => h.elim
  | .dict _, ⟨es, e, _⟩ => ⟨_, e⟩
theorem Own.obj' {F H : Hp} {p : Addr} : ∀ {d : D}, Own K F H p d → ∃ o, H p = some o ∧ ∀ xs, o ≠ .tup xs
  | .list _, ⟨xs, e, _⟩ => ⟨_, e, fun _ z => nomatch z⟩
  | .none, h => h.elim
  | .bool _, h => h.elim
  | .int _, h => h.elim
  | .str _, h => h.elim
  | .tuple _, h => h.elim
  | .dict _, ⟨es, e, _⟩ => ⟨_, e, fun _ z => nomatch z⟩
theorem Own.move {F F' H H' : Hp} {p : Addr} (f : Same F F') (e : H' p = H p) : ∀ {d : D}, Own K F H p d → Own K F' H' p d
  | .list _, ⟨xs, e1, a⟩ => ⟨xs, e.trans e1, a.mono f⟩
  | .none, h => h.elim
  | .bool _, h => h.elim
  | .int _, h => h.elim
  | .str _, h => h.elim
  | .tuple _, h => h.elim
  | .dict _, ⟨es, e1, a⟩ => ⟨es, e.trans e1, a.mono f⟩
theorem Wd.weak (h : Wd Y B' w s) (e : Same B B') : Wd Y B w s := ⟨h.sF, fun p o q => h.sB p o (e p o q), fun p o q => by
  rcases h.dj p o q with z | z
  · exact .inl (e.free z)
  · exact .inr z, fun p q => ⟨(h.dA p q).1, e.free (h.dA p q).2⟩, h.rel⟩
theorem Wd.apart {Y : Sys} {B : Hp} {w : Wo} {s : Y.S} (h : Wd Y B w s) {p : Addr} {o : HO} (hb : B p = some o) (hn : ∀ xs, o ≠ .tup xs) : w.F p = none := by
  cases q : w.F p with
  | none => rfl
  | some u =>
    exfalso
    rcases h.dj p u q with z | ⟨xs, z⟩
    · rw [hb] at z; cases z
    · have a := h.sF p u q
      have b := h.sB p o hb
      rw [a] at b
      cases b
      exact hn xs z
theorem SlR.weak (e : Same B B') : ∀ {r : R}, SlR K B' w x r → SlR K B w x r
  | .v _, h => h
  | .o _, ⟨p, a, b, c, d, f⟩ => ⟨p, a, b, c, e.free d, f⟩
  | .h _, h => h
  | .raw _, h => h
  | .e _, h => h
  | .b _, h => h
theorem EnvR.weak (h : EnvR K B' w σ Γ) (e : Same B B') : EnvR K B w σ Γ := ⟨h.len, fun i r q => by
  obtain ⟨x, a, b⟩ := h.sl i r q
  exact ⟨x, a, b.weak e⟩, h.inj⟩
theorem ResR.weak (e : Same B B') : ∀ {r : R}, ResR K B' w σ Γ x r → ResR K B w σ Γ x r
  | .v _, h => h
  | .o _, h => ⟨SlR.weak e h.1, h.2⟩
  | .h _, h => h
  | .raw _, h => h
  | .e _, h => h
  | .b _, h => h
theorem keep (W : Wd Y B w s) (N : EnvR K B w σ Γ) : ∀ {r : R} {x : V}, ResR K B w σ Γ x r → ∃ B2, Same B B2 ∧ Wd Y B2 w s ∧ EnvR K B2 w σ Γ ∧
    (∀ {w' : Wo} {s' : Y.S} {Γ' : Ev}, Wd Y B2 w' s' → EnvR K B2 w' σ Γ' → Le w w' → ResR K B w' σ Γ' x r) ∧ (∀ d p, r = .o d → x = .ref p → B2 p ≠ none)
  | .v d, x, h => ⟨B, Same.refl _, W, N, fun _ _ l => Rp.mono l.F h, fun _ _ e => nomatch e⟩
  | .h i, x, h => ⟨B, Same.refl _, W, N, fun _ _ l => by
    obtain ⟨p, e, q⟩ := h
    obtain ⟨m, em⟩ := l.et
    refine ⟨p, ?_, q⟩
    rw [em, List.getElem?_append_left (by
      have := (List.getElem?_eq_some_iff.mp e).1
      exact this)]
    exact e, fun _ _ e => nomatch e⟩
  | .raw y, x, h => ⟨B, Same.refl _, W, N, fun _ _ _ => h, fun _ _ e => nomatch e⟩
  | .e n, x, h => ⟨B, Same.refl _, W, N, fun _ _ l => by
    obtain ⟨p, cls, e, q, c⟩ := h
    exact ⟨p, cls, e, l.F _ _ q, c⟩, fun _ _ e => nomatch e⟩
  | .b i, x, h => ⟨B, Same.refl _, W, N, fun _ _ _ => h, fun _ _ e => nomatch e⟩
  | .o d, x, h => by
    obtain ⟨⟨p, rfl, own, fp, bp, ap⟩, oth⟩ := h
    obtain ⟨o, ho, hnt⟩ := own.obj'
    have sm : Same B (upd B p o) := fun q u e => by rw [upd_ne (ne_of_none e bp)]; exact e
    have W2 : Wd Y (upd B p o) w s := by
      refine ⟨W.sF, fun q u e => ?_, fun q u e => ?_, fun q e => ⟨(W.dA q e).1, ?_⟩, W.rel⟩
      · by_cases hq : q = p
        · subst hq; rw [upd_same] at e; cases e; exact ho
        · rw [upd_ne hq] at e; exact W.sB q u e
      · have hq : q ≠ p := fun z => by subst z; rw [fp] at e; cases e
        rw [upd_ne hq]; exact W.dj q u e
      · have hq : q ≠ p := fun z => by subst z; exact ap e
        rw [upd_ne hq]; exact (W.dA q e).2
    refine ⟨upd B p o, sm, W2, ⟨N.len, fun i r e => ?_, N.inj⟩, fun {w' s' Γ'} W' N' l => ?_, fun e q hr hx => ?_⟩
    · obtain ⟨y, a, b⟩ := N.sl i r e
      refine ⟨y, a, ?_⟩
      cases r with
      | o d2 =>
        obtain ⟨q, rfl, own2, fq, bq, aq⟩ := b
        have hq : q ≠ p := fun z => by subst z; exact oth i d2 e a
        exact ⟨q, rfl, own2, fq, by rw [upd_ne hq]; exact bq, aq⟩
      | v _ => exact b
      | h _ => exact b
      | raw _ => exact b
      | e _ => exact b
      | b _ => exact b
    · have hb : upd B p o p = some o := upd_same
      have hH : w'.H p = some o := W'.sB p o hb
      have fp' : w'.F p = none := W'.apart hb hnt
      refine ⟨⟨p, rfl, own.move l.F (hH.trans ho.symm), fp', bp, fun z => ?_⟩, fun i e hi hs => ?_⟩
      · have := (W'.dA p z).2
        rw [hb] at this; cases this
      · obtain ⟨y, a, b⟩ := N'.sl i _ hi
        obtain ⟨q, rfl, _, _, bq, _⟩ := b
        rw [hs] at a; cases a
        rw [hb] at bq; cases bq
    · cases hx; rw [upd_same]; exact fun z => nomatch z
end
def rdv (Γ : Ev) : R → Option D
  | .v d => some d
  | .o (.list ds) => some (.list ds)
  | .b i => match Γ[i]? with
    | some (some (.v d)) => some d
    | some (some (.o (.list ds))) => some (.list ds)
    | _ => none
  | _ => none
def Sh (K : PySem.W.Frag) (F H : Hp) (x : V) : D → Prop
  | .list ds => ∃ p xs, x = .ref p ∧ H p = some (.lst xs) ∧ RpA K F xs ds
  | .tuple ds => ∃ p xs, x = .ref p ∧ F p = some (.tup xs) ∧ RpA K F xs ds
  | d => Rp K F x d
section
variable {K : PySem.W.Frag} {B : Hp} {w : Wo} {Y : Sys} {s : Y.S} {σ : St} {Γ : Ev} {x : V} {r : R}
theorem Sh.ofRp {F H : Hp} (e : Same F H) : ∀ {d : D}, Rp K F x d → Sh K F H x d
  | .list _, h => by cases h with | lst a b => exact ⟨_, _, rfl, e _ _ a, b⟩
  | .tuple _, h => by cases h with | tup a b => exact ⟨_, _, rfl, a, b⟩
  | .none, h => h
  | .bool _, h => h
  | .int _, h => h
  | .str _, h => h
  | .dict _, h => h
theorem Sh.ofOwn {F H : Hp} {p : Addr} {ds : List D} : Own K F H p (.list ds) → Sh K F H (.ref p) (.list ds)
  | ⟨xs, e, a⟩ => ⟨p, xs, rfl, e, a⟩
theorem sh_of (W : Wd Y B w s) (N : EnvR K B w σ Γ) (h : ResR K B w σ Γ x r) {d : D} (e : rdv Γ r = some d) : Sh K w.F w.H x d := by
  cases r with
  | v d' => cases e; exact Sh.ofRp W.sF h
  | o d' =>
    cases d' with
    | list ds =>
      cases e
      obtain ⟨⟨p, rfl, own, _⟩, _⟩ := h
      exact Sh.ofOwn own
    | _ => cases e
  | h i => cases e
  | raw y => cases e
  | e y => cases e
  | b i =>
    have hx : σ[i]? = some (some x) := h
    unfold rdv at e
    simp only at e
    split at e
    · rename_i d' he
      cases e
      obtain ⟨y, a, b⟩ := N.sl i _ he
      rw [hx] at a; cases a
      exact Sh.ofRp W.sF b
    · rename_i d' he
      cases e
      obtain ⟨y, a, b⟩ := N.sl i _ he
      rw [hx] at a; cases a
      obtain ⟨p, rfl, own, _⟩ := b
      exact Sh.ofOwn own
    · cases e
end
inductive Rz where
  | nw (d : D) | old (d : D)
def Rz.r : Rz → R
  | .nw (.list ds) => .o (.list ds)
  | .nw d => .v d
  | .old d => .v d
def NwQ (K : PySem.W.Frag) (F H : Hp) (Q : VK) : D → Prop
  | .list ds => ∀ p xs, H p = none → RpA K F xs ds → Q (.ref p) (upd H p (.lst xs))
  | .tuple ds => ∀ p xs, H p = none → RpA K F xs ds → Q (.ref p) (upd H p (.tup xs))
  | .dict [] => ∀ p, H p = none → Q (.ref p) (upd H p (.dK []))
  | .dict (e :: es) => ∀ p ks, H p = none → e :: es = entD ks → Q (.ref p) (upd H p (.dK (entV ks)))
  | d => ∀ x, Rp K F x d → Q x H
def RzQ (K : PySem.W.Frag) (F H : Hp) (Q : VK) : Rz → Prop
  | .nw d => NwQ K F H Q d
  | .old d => ∀ x, Rp K F x d → Q x H
def PoG {α : Type} (Y : Sys) (K : PySem.W.Frag) (W : WX) (B : Hp) (w : Wo) (σ : St) (ok : α → Ev → Wo → Prop) : Oc α × Ev × Y.S → Prop
  | (.ok r, Γ', s') => ∀ w', Wd Y B w' s' → EnvR K B w' σ Γ' → Le w w' → ok r Γ' w'
  | (.er n, Γ', s') => ∀ w', Wd Y B w' s' → EnvR K B w' σ Γ' → Le w w' → ∀ c, Cn K n c → W c none σ w'.H
abbrev PoE (Y : Sys) (K : PySem.W.Frag) (W : WX) (B : Hp) (w : Wo) (σ : St) (Q : VK) : Oc R × Ev × Y.S → Prop := PoG Y K W B w σ fun r Γ' w' => ∀ x, ResR K B w' σ Γ' x r → Q x w'.H
section
variable {K : PySem.W.Frag} {B : Hp} {w : Wo} {Y : Sys} {s : Y.S} {σ : St} {Γ : Ev}
theorem Wd.newH (W : Wd Y B w s) {p : Addr} {o : HO} (np : w.H p = none) : Wd Y B { w with H := upd w.H p o } s := by
  refine ⟨fun q u e => ?_, fun q u e => ?_, W.dj, W.dA, Y.frame W.rel (Same.refl _) fun q hq => ?_⟩
  · have := W.sF q u e
    show upd w.H p o q = some u
    rw [upd_ne (ne_of_none this np)]; exact this
  · have := W.sB q u e
    show upd w.H p o q = some u
    rw [upd_ne (ne_of_none this np)]; exact this
  · show upd w.H p o q = w.H q
    rw [upd_ne]
    rintro rfl
    exact Y.live W.rel _ hq np
theorem SlR.newH {p : Addr} {o : HO} (np : w.H p = none) {x : V} : ∀ {r : R}, SlR K B w x r → SlR K B { w with H := upd w.H p o } x r
  | .v _, h => h
  | .o _, ⟨q, a, b, c, d, f⟩ => ⟨q, a, b.move (Same.refl _) (by
      obtain ⟨u, hu⟩ := b.obj
      show upd w.H p o q = w.H q
      rw [upd_ne (ne_of_none hu np)]), c, d, f⟩
  | .h _, h => h
  | .raw _, h => h
  | .e _, h => h
  | .b _, h => h
theorem EnvR.newH (N : EnvR K B w σ Γ) {p : Addr} {o : HO} (np : w.H p = none) : EnvR K B { w with H := upd w.H p o } σ Γ := ⟨N.len, fun i r e => by
  obtain ⟨x, a, b⟩ := N.sl i r e
  exact ⟨x, a, b.newH np⟩, N.inj⟩
theorem Wd.newF (W : Wd Y B w s) {p : Addr} {o : HO} (np : w.H p = none) : Wd Y B { w with F := upd w.F p o, H := upd w.H p o } s := by
  have Fn : w.F p = none := W.sF.free np
  have Bn : B p = none := W.sB.free np
  refine ⟨fun q u e => ?_, fun q u e => ?_, fun q u e => ?_, fun q hq => ?_, Y.frame W.rel (fun q u e => (upd_ne (ne_of_none e Fn)).trans e) fun q hq => ?_⟩
  · show upd w.H p o q = some u
    by_cases hq : q = p
    · subst hq; rw [upd_same]; have e : upd w.F q o q = some u := e; rw [upd_same] at e; exact e
    · rw [upd_ne hq]; have e : upd w.F p o q = some u := e; rw [upd_ne hq] at e; exact W.sF q u e
  · have := W.sB q u e
    show upd w.H p o q = some u
    rw [upd_ne (ne_of_none this np)]; exact this
  · by_cases hq : q = p
    · subst hq; exact .inl Bn
    · have e : upd w.F p o q = some u := e
      rw [upd_ne hq] at e; exact W.dj q u e
  · have hqp : q ≠ p := by rintro rfl; exact Y.live W.rel _ hq np
    exact ⟨(upd_ne hqp).trans (W.dA q hq).1, (W.dA q hq).2⟩
  · show upd w.H p o q = w.H q
    rw [upd_ne]
    rintro rfl
    exact Y.live W.rel _ hq np
theorem Le.newF {p : Addr} {o : HO} (Fn : w.F p = none) : Le w { w with F := upd w.F p o, H := upd w.H p o } := ⟨fun q u e => by
  show upd w.F p o q = some u
  rw [upd_ne (ne_of_none e Fn)]; exact e, [], by simp⟩
theorem EnvR.newF (W : Wd Y B w s) (N : EnvR K B w σ Γ) {p : Addr} {o : HO} (np : w.H p = none) : EnvR K B { w with F := upd w.F p o, H := upd w.H p o } σ Γ := ⟨N.len, fun i r e => by
  have Fn : w.F p = none := W.sF.free np
  have sm : Same w.F (upd w.F p o) := fun q u e => by rw [upd_ne (ne_of_none e Fn)]; exact e
  obtain ⟨x, a, b⟩ := N.sl i r e
  refine ⟨x, a, ?_⟩
  cases r with
  | v d => exact Rp.mono sm b
  | o d =>
    obtain ⟨q, rfl, own, fq, bq, aq⟩ := b
    obtain ⟨u, hu⟩ := own.obj
    have hq : q ≠ p := ne_of_none hu np
    exact ⟨q, rfl, own.move sm (upd_ne hq), (upd_ne hq).trans fq, bq, aq⟩
  | h _ => exact b
  | raw _ => exact b
  | e _ =>
    obtain ⟨p', cls, e1, q, c⟩ := b
    exact ⟨p', cls, e1, sm _ _ q, c⟩
  | b _ => exact b, N.inj⟩
theorem upd_sm {F : Hp} {p : Addr} {o : HO} (Fn : F p = none) : Same F (upd F p o) := fun q u e => by rw [upd_ne (ne_of_none e Fn)]; exact e
theorem rz_use {Q : VK} (W : Wd Y B w s) (N : EnvR K B w σ Γ) {Wx : WX} {w0 : Wo} (l : Le w0 w) {z : Rz} (h : PoE Y K Wx B w0 σ Q (.ok z.r, Γ, s)) : RzQ K w.F w.H Q z := by
  have here : ∀ {d : D}, (∀ x, Rp K w.F x d → ResR K B w σ Γ x z.r) → ∀ x, Rp K w.F x d → Q x w.H := fun k x r => h w W N l x (k x r)
  cases z with
  | old d => exact here fun x r => r
  | nw d =>
    cases d with
    | none => exact here fun x r => r
    | bool _ => exact here fun x r => r
    | int _ => exact here fun x r => r
    | str _ => exact here fun x r => r
    | dict kvs =>
      cases kvs with
      | nil =>
        intro p np
        have Fn : w.F p = none := W.sF.free np
        exact h { w with F := upd w.F p (.dK []), H := upd w.H p (.dK []) } (W.newF np) (N.newF W np) (l.trans (Le.newF Fn)) _ (Rp.dic upd_same)
      | cons a b =>
        intro p ks np ek
        have Fn : w.F p = none := W.sF.free np
        exact h { w with F := upd w.F p (.dK (entV ks)), H := upd w.H p (.dK (entV ks)) } (W.newF np) (N.newF W np) (l.trans (Le.newF Fn)) _ (by
          show Rp K _ _ (.dict (a :: b))
          rw [ek]; exact Rp.dcI ks upd_same)
    | tuple ds =>
      intro p xs np rp
      have Fn : w.F p = none := W.sF.free np
      exact h { w with F := upd w.F p (.tup xs), H := upd w.H p (.tup xs) } (W.newF np) (N.newF W np) (l.trans (Le.newF Fn)) _ (Rp.tup upd_same (rp.mono (upd_sm Fn)))
    | list ds =>
      intro p xs np rp
      have Fn : w.F p = none := W.sF.free np
      have Bn : B p = none := W.sB.free np
      refine h { w with H := upd w.H p (.lst xs) } (W.newH np) (N.newH np) (l.trans ⟨Same.refl _, [], by simp⟩) _ ⟨⟨p, rfl, ⟨xs, upd_same, rp⟩, Fn, Bn, fun z => Y.live W.rel _ z np⟩, fun i e hi hs => ?_⟩
      obtain ⟨y, a, b⟩ := N.sl i _ hi
      obtain ⟨q, rfl, own, _⟩ := b
      rw [hs] at a; cases a
      obtain ⟨u, hu⟩ := own.obj
      rw [np] at hu; cases hu
end
end FX
set_option Elab.async false
set_option linter.all false
set_option maxRecDepth 100000
set_option maxHeartbeats 1000000
namespace FX
open PySem PySem.Spec L2
def bd {S α β : Type} (g : Ev → S → Option (Oc α × Ev × S)) (k : α → Ev → S → Option (Oc β × Ev × S)) : Ev → S → Option (Oc β × Ev × S) := fun Γ s =>
  match g Γ s with
  | none => none
  | some (.ok a, Γ', s') => k a Γ' s'
  | some (.er c, Γ', s') => some (.er c, Γ', s')
abbrev GE (Y : Sys) := Ev → Y.S → Option (Oc R × Ev × Y.S)
abbrev GT (Y : Sys) := Ev → Y.S → Option (Oc Bool × Ev × Y.S)
abbrev GA (Y : Sys) := Ev → Y.S → Option (Oc (List R) × Ev × Y.S)
inductive RsA (K : PySem.W.Frag) (B : Hp) (w : Wo) (σ : St) (Γ : Ev) : List V → List R → Prop
  | nil : RsA K B w σ Γ [] []
  | cons {x : V} {xs : List V} {r : R} {rs : List R} : ResR K B w σ Γ x r → RsA K B w σ Γ xs rs → RsA K B w σ Γ (x :: xs) (r :: rs)
def EOk (Y : Sys) (K : PySem.W.Frag) (W : WX) (t : TE) (g : GE Y) : Prop := ∀ (B : Hp) (w : Wo) (σ : St) (Γ : Ev) (s : Y.S) (out : Oc R × Ev × Y.S) (Q : VK),
  Wd Y B w s → EnvR K B w σ Γ → g Γ s = some out → PoE Y K W B w σ Q out → t σ w.H Q
def TOk (Y : Sys) (K : PySem.W.Frag) (W : WX) (t : TT) (g : GT Y) : Prop := ∀ (B : Hp) (w : Wo) (σ : St) (Γ : Ev) (s : Y.S) (out : Oc Bool × Ev × Y.S) (Q : Bool → Hp → Prop),
  Wd Y B w s → EnvR K B w σ Γ → g Γ s = some out → PoG Y K W B w σ (fun b _ w' => Q b w'.H) out → t σ w.H Q
def AOk (Y : Sys) (K : PySem.W.Frag) (W : WX) (t : TA) (g : GA Y) : Prop := ∀ (B : Hp) (w : Wo) (σ : St) (Γ : Ev) (s : Y.S) (out : Oc (List R) × Ev × Y.S) (Q : List V → Hp → Prop),
  Wd Y B w s → EnvR K B w σ Γ → g Γ s = some out → PoG Y K W B w σ (fun rs Γ' w' => ∀ xs, RsA K B w' σ Γ' xs rs → Q xs w'.H) out → t σ w.H Q
structure ME (Y : Sys) (X : Cx) (W : WX) (e : Expr) (t : TE) (g : GE Y) : Prop where
  pe : PE X e t
  ok : EOk Y X.K W t g
structure MT (Y : Sys) (X : Cx) (W : WX) (e : Expr) (t : TT) (g : GT Y) : Prop where
  pe : PT X e t
  ok : TOk Y X.K W t g
structure MW (Y : Sys) (X : Cx) (W : WX) (e : Expr) (t : TT) (g : GT Y) : Prop where
  pe : PW X e t
  ok : TOk Y X.K W t g
structure MA (Y : Sys) (X : Cx) (W : WX) (es : List Expr) (t : TA) (g : GA Y) : Prop where
  pe : PA X es t
  ok : AOk Y X.K W t g
section
variable {Y : Sys} {K : PySem.W.Frag} {W : WX} {B B2 : Hp} {w w1 : Wo} {σ : St} {Γ : Ev} {s : Y.S} {α β : Type} {ok : α → Ev → Wo → Prop}
theorem PoG.le {out : Oc α × Ev × Y.S} (p : PoG Y K W B w σ ok out) (l : Le w w1) : PoG Y K W B w1 σ ok out := by
  obtain ⟨o, Γ', s'⟩ := out
  cases o with
  | ok a => exact fun w' W' N' l' => p w' W' N' (l.trans l')
  | er c => exact fun w' W' N' l' => p w' W' N' (l.trans l')
theorem PoG.imp {ok2 : α → Ev → Wo → Prop} {out : Oc α × Ev × Y.S} (p : PoG Y K W B w σ ok out) (e : Same B B2) (h : ∀ a Γ' w', ok a Γ' w' → ok2 a Γ' w') : PoG Y K W B2 w σ ok2 out := by
  obtain ⟨o, Γ', s'⟩ := out
  cases o with
  | ok a => exact fun w' W' N' l' => h _ _ _ (p w' (W'.weak e) (N'.weak e) l')
  | er c => exact fun w' W' N' l' => p w' (W'.weak e) (N'.weak e) l'
theorem PoE.strong {Q : VK} {out : Oc R × Ev × Y.S} (p : PoE Y K W B w σ Q out) (e : Same B B2) : PoE Y K W B2 w σ Q out := PoG.imp p e fun a Γ' w' h x r => h x (r.weak e)
theorem EOk.go {t : TE} {g : GE Y} (h : EOk Y K W t g) (Wh : Wd Y B w s) (N : EnvR K B w σ Γ) {k : R → Ev → Y.S → Option (Oc α × Ev × Y.S)} {out : Oc α × Ev × Y.S} {Q : VK}
    (e : bd g k Γ s = some out) (p : PoG Y K W B w σ ok out)
    (c : ∀ r Γ1 s1 x w1, Wd Y B w1 s1 → EnvR K B w1 σ Γ1 → Le w w1 → ResR K B w1 σ Γ1 x r → k r Γ1 s1 = some out → PoG Y K W B w1 σ ok out → Q x w1.H) : t σ w.H Q := by
  unfold bd at e
  cases eg : g Γ s with
  | none => rw [eg] at e; cases e
  | some o =>
    obtain ⟨o, Γ1, s1⟩ := o
    rw [eg] at e
    cases o with
    | ok r =>
      exact h B w σ Γ s _ Q Wh N eg fun w1 W1 N1 l x r1 => c r Γ1 s1 x w1 W1 N1 l r1 e (p.le l)
    | er z =>
      cases e
      exact h B w σ Γ s _ Q Wh N eg fun w1 W1 N1 l => p w1 W1 N1 l
theorem TOk.go {t : TT} {g : GT Y} (h : TOk Y K W t g) (Wh : Wd Y B w s) (N : EnvR K B w σ Γ) {k : Bool → Ev → Y.S → Option (Oc α × Ev × Y.S)} {out : Oc α × Ev × Y.S} {Q : Bool → Hp → Prop}
    (e : bd g k Γ s = some out) (p : PoG Y K W B w σ ok out)
    (c : ∀ b Γ1 s1 w1, Wd Y B w1 s1 → EnvR K B w1 σ Γ1 → Le w w1 → k b Γ1 s1 = some out → PoG Y K W B w1 σ ok out → Q b w1.H) : t σ w.H Q := by
  unfold bd at e
  cases eg : g Γ s with
  | none => rw [eg] at e; cases e
  | some o =>
    obtain ⟨o, Γ1, s1⟩ := o
    rw [eg] at e
    cases o with
    | ok r => exact h B w σ Γ s _ Q Wh N eg fun w1 W1 N1 l => c r Γ1 s1 w1 W1 N1 l e (p.le l)
    | er z =>
      cases e
      exact h B w σ Γ s _ Q Wh N eg fun w1 W1 N1 l => p w1 W1 N1 l
theorem AOk.go {t : TA} {g : GA Y} (h : AOk Y K W t g) (Wh : Wd Y B w s) (N : EnvR K B w σ Γ) {k : List R → Ev → Y.S → Option (Oc α × Ev × Y.S)} {out : Oc α × Ev × Y.S} {Q : List V → Hp → Prop}
    (e : bd g k Γ s = some out) (p : PoG Y K W B w σ ok out)
    (c : ∀ rs Γ1 s1 xs w1, Wd Y B w1 s1 → EnvR K B w1 σ Γ1 → Le w w1 → RsA K B w1 σ Γ1 xs rs → k rs Γ1 s1 = some out → PoG Y K W B w1 σ ok out → Q xs w1.H) : t σ w.H Q := by
  unfold bd at e
  cases eg : g Γ s with
  | none => rw [eg] at e; cases e
  | some o =>
    obtain ⟨o, Γ1, s1⟩ := o
    rw [eg] at e
    cases o with
    | ok r =>
      exact h B w σ Γ s _ Q Wh N eg fun w1 W1 N1 l x r1 => c r Γ1 s1 x w1 W1 N1 l r1 e (p.le l)
    | er z =>
      cases e
      exact h B w σ Γ s _ Q Wh N eg fun w1 W1 N1 l => p w1 W1 N1 l
theorem EOk.two {ta tb : TE} {ga gb : GE Y} (ha : EOk Y K W ta ga) (hb : EOk Y K W tb gb) (Wh : Wd Y B w s) (N : EnvR K B w σ Γ) {k : R → R → Ev → Y.S → Option (Oc α × Ev × Y.S)} {out : Oc α × Ev × Y.S} {T : V → V → Hp → Prop}
    (e : bd ga (fun ra => bd gb fun rb => k ra rb) Γ s = some out) (p : PoG Y K W B w σ ok out)
    (c : ∀ ra rb Γ1 s1 x y w1, Wd Y B w1 s1 → EnvR K B w1 σ Γ1 → Le w w1 → ResR K B w1 σ Γ1 x ra → ResR K B w1 σ Γ1 y rb → k ra rb Γ1 s1 = some out → PoG Y K W B w1 σ ok out → T x y w1.H) :
    ta σ w.H fun x H1 => tb σ H1 fun y H2 => T x y H2 := by
  refine ha.go Wh N e p fun ra Γ1 s1 x w1 W1 N1 l1 R1 e1 p1 => ?_
  obtain ⟨B2, sB, W1b, N1b, kp, _⟩ := keep W1 N1 R1
  refine hb.go W1b N1b e1 (p1.imp sB fun _ _ _ q => q) fun rb Γ2 s2 y w2 W2 N2 l2 R2 e2 p2 => ?_
  exact c ra rb Γ2 s2 x y w2 (W2.weak sB) (N2.weak sB) (l1.trans l2) (kp W2 N2 l2) (R2.weak sB) e2 (p1.le l2)
end
def gC {Y : Sys} (d : D) : GE Y := fun Γ s => some (.ok (.v d), Γ, s)
def gV {Y : Sys} (i : Nat) : GE Y := fun Γ s => match Γ[i]? with
  | some (some (.v d)) => some (.ok (.v d), Γ, s)
  | some (some (.o _)) => some (.ok (.b i), Γ, s)
  | some (some (.h k)) => some (.ok (.h k), Γ, s)
  | some (some (.raw x)) => some (.ok (.raw x), Γ, s)
  | some (some (.e n)) => some (.ok (.e n), Γ, s)
  | _ => none
section
variable {Y : Sys} {X : Cx} {W : WX} {e a b c : Expr} {pos : Pos} {ga gb gc : GE Y}
theorem me_const {v : V} {d : D} (h : PE X e (tC v)) (r : ∀ F, Rp X.K F v d) : ME Y X W e (tC v) (gC d) :=
  ⟨h, fun B w σ Γ s out Q Wh N eg p => by cases eg; exact p w Wh N (.refl _) _ (r _)⟩
theorem me_int {i : Int} {j} : ME Y X W (.Constant (.int i) j pos) (tC (.int i)) (gC (.int i)) := me_const pe_int fun _ => .int _
theorem me_bl {b : Bool} {j} : ME Y X W (.Constant (.bool b) j pos) (tC (.bl b)) (gC (.bool b)) := me_const pe_bl fun _ => .bl _
theorem me_non {j} : ME Y X W (.Constant .none j pos) (tC .non) (gC .none) := me_const pe_non fun _ => .non
theorem me_str {x : Str} {j} : ME Y X W (.Constant (.str x) j pos) (tC (.str x)) (gC (.str x)) := me_const pe_str fun _ => .str _
theorem me_name {i : Nat} (h : PE X e (tVar i)) : ME Y X W e (tVar i) (gV i) := by
  refine ⟨h, fun B w σ Γ s out Q Wh N eg p => ?_⟩
  unfold gV at eg
  split at eg
  · rename_i d hd
    cases eg
    obtain ⟨x, hx, rx⟩ := N.sl i _ hd
    exact ⟨x, hx, p w Wh N (.refl _) _ rx⟩
  · rename_i d hd
    cases eg
    obtain ⟨x, hx, rx⟩ := N.sl i _ hd
    exact ⟨x, hx, p w Wh N (.refl _) _ hx⟩
  · rename_i d hd
    cases eg
    obtain ⟨x, hx, rx⟩ := N.sl i _ hd
    exact ⟨x, hx, p w Wh N (.refl _) _ rx⟩
  · rename_i d hd
    cases eg
    obtain ⟨x, hx, rx⟩ := N.sl i _ hd
    exact ⟨x, hx, p w Wh N (.refl _) _ rx⟩
  · rename_i d hd
    cases eg
    obtain ⟨x, hx, rx⟩ := N.sl i _ hd
    exact ⟨x, hx, p w Wh N (.refl _) _ rx⟩
  · cases eg
def op1 {Y : Sys} (f : D → Option Rz) (r : R) : GE Y := fun Γ s => match rdv Γ r with
  | none => none
  | some d => match f d with
    | none => none
    | some z => some (.ok z.r, Γ, s)
def op2 {Y : Sys} (f : D → D → Option Rz) (r q : R) : GE Y := fun Γ s => match rdv Γ r, rdv Γ q with
  | some d, some e => match f d e with
    | none => none
    | some z => some (.ok z.r, Γ, s)
  | _, _ => none
def rdA (Γ : Ev) : List R → Option (List D)
  | [] => some []
  | r :: rs => match rdv Γ r, rdA Γ rs with
    | some d, some ds => some (d :: ds)
    | _, _ => none
def opN {Y : Sys} (f : List D → Option Rz) (rs : List R) : GE Y := fun Γ s => match rdA Γ rs with
  | some ds => match f ds with
    | none => none
    | some z => some (.ok z.r, Γ, s)
  | none => none
def Op2 (K : PySem.W.Frag) (r : R2) (f : D → D → Option Rz) : Prop := ∀ (F H : Hp) (x y : V) (d e : D) (z : Rz) (Q : VK), Same F H → Sh K F H x d → Sh K F H y e → f d e = some z → RzQ K F H Q z → r x y H Q
def Op1 (K : PySem.W.Frag) (r : V → Hp → VK → Prop) (f : D → Option Rz) : Prop := ∀ (F H : Hp) (x : V) (d : D) (z : Rz) (Q : VK), Same F H → Sh K F H x d → f d = some z → RzQ K F H Q z → r x H Q
inductive ShA (K : PySem.W.Frag) (F H : Hp) : List V → List D → Prop
  | nil : ShA K F H [] []
  | cons {x : V} {xs : List V} {d : D} {ds : List D} : Sh K F H x d → ShA K F H xs ds → ShA K F H (x :: xs) (d :: ds)
def OpN (K : PySem.W.Frag) (r : List V → Hp → VK → Prop) (f : List D → Option Rz) : Prop := ∀ (F H : Hp) (xs : List V) (ds : List D) (z : Rz) (Q : VK), Same F H → ShA K F H xs ds → f ds = some z → RzQ K F H Q z → r xs H Q
def gBin {Y : Sys} (f : D → D → Option Rz) (ga gb : GE Y) : GE Y := bd ga fun ra => bd gb fun rb => op2 f ra rb
theorem eok_bin {K : PySem.W.Frag} {r : R2} {f : D → D → Option Rz} {ta tb : TE} (hf : Op2 K r f) (ha : EOk Y K W ta ga) (hb : EOk Y K W tb gb) : EOk Y K W (tOp r ta tb) (gBin f ga gb) := by
  intro B w σ Γ s out Q Wh N e p
  refine ha.two (T := fun x y H => r x y H Q) hb Wh N e p fun ra rb Γ1 s1 x y w1 W1 N1 l1 Ra Rb e1 p1 => ?_
  unfold op2 at e1
  split at e1
  · rename_i d d' ed ed'
    split at e1
    · cases e1
    · rename_i z ez
      cases e1
      exact hf _ _ _ _ _ _ _ _ W1.sF (sh_of W1 N1 Ra ed) (sh_of W1 N1 Rb ed') ez (rz_use W1 N1 (.refl _) p1)
  · cases e1
theorem me_bin {op : Operator} {r : R2} {f : D → D → Option Rz} (ho : OpR X (binaryOp op) r) (hf : Op2 X.K r f) {te_ha : TE} (ha : ME Y X W a te_ha ga) {te_hb : TE} (hb : ME Y X W b te_hb gb) : ME Y X W (.BinOp a op b pos) (tOp r te_ha te_hb) (gBin f ga gb) := by
  obtain ⟨pa, ha⟩ := ha
  obtain ⟨pb, hb⟩ := hb
  exact ⟨pe_op ho pa pb, eok_bin hf ha hb⟩
theorem me_cmp {op : CmpOp} {r : R2} {f : D → D → Option Rz} (ho : OpR X (compareOp op) r) (hf : Op2 X.K r f) {te_ha : TE} (ha : ME Y X W a te_ha ga) {te_hb : TE} (hb : ME Y X W b te_hb gb) (hm : behindInMarks op b = false) : ME Y X W (.Compare a [op] [b] pos) (tOp r te_ha te_hb) (gBin f ga gb) := by
  obtain ⟨pa, ha⟩ := ha
  obtain ⟨pb, hb⟩ := hb
  exact ⟨pe_cmpR ho pa pb hm, eok_bin hf ha hb⟩
theorem me_ix {r : R2} {f : D → D → Option Rz} (ho : IxR X r) (hf : Op2 X.K r f) {te_ha : TE} (ha : ME Y X W a te_ha ga) {te_hb : TE} (hb : ME Y X W b te_hb gb) (hs : PlainIx b) : ME Y X W (.Subscript a b pos) (tOp r te_ha te_hb) (gBin f ga gb) := by
  obtain ⟨pa, ha⟩ := ha
  obtain ⟨pb, hb⟩ := hb
  exact ⟨pe_ix ho pa pb hs, eok_bin hf ha hb⟩
def gUn {Y : Sys} (f : D → Option Rz) (ga : GE Y) : GE Y := bd ga fun ra => op1 f ra
theorem eok_un {K : PySem.W.Frag} {r : V → Hp → VK → Prop} {f : D → Option Rz} {ta : TE} (hf : Op1 K r f) (ha : EOk Y K W ta ga) : EOk Y K W (tUn r ta) (gUn f ga) := by
  intro B w σ Γ s out Q Wh N e p
  refine ha.go (Q := fun x H => r x H Q) Wh N e p fun ra Γ1 s1 x w1 W1 N1 l1 Ra e1 p1 => ?_
  unfold op1 at e1
  split at e1
  · cases e1
  · rename_i d ed
    split at e1
    · cases e1
    · rename_i z ez
      cases e1
      exact hf _ _ _ _ _ _ W1.sF (sh_of W1 N1 Ra ed) ez (rz_use W1 N1 (.refl _) p1)
theorem me_un {op : UnaryOp} {r : V → Hp → VK → Prop} {f : D → Option Rz} (ho : UnR X (unaryOp op) r) (hf : Op1 X.K r f) {te_ha : TE} (ha : ME Y X W a te_ha ga) : ME Y X W (.UnaryOp op a pos) (tUn r te_ha) (gUn f ga) := by
  obtain ⟨pa, ha⟩ := ha
  exact ⟨pe_un ho pa, eok_un hf ha⟩
end
end FX
set_option Elab.async false
set_option linter.all false
set_option maxRecDepth 100000
set_option maxHeartbeats 1000000
namespace FX
open PySem PySem.Spec L2
def gEsc {Y : Sys} (g : GE Y) : GE Y := bd g fun r Γ s => match r with
  | .v d => some (.ok (.v d), Γ, s)
  | .o (.list ds) => some (.ok (.v (.list ds)), Γ, s)
  | .o _ => none
  | .h i => some (.ok (.h i), Γ, s)
  | .raw x => some (.ok (.raw x), Γ, s)
  | .e n => some (.ok (.e n), Γ, s)
  | .b i => match Γ[i]? with
    | some (some (.o (.list ds))) => some (.ok (.v (.list ds)), Γ.set i (some (.v (.list ds))), s)
    | some (some (.v d)) => some (.ok (.v d), Γ, s)
    | _ => none
section
variable {Y : Sys} {K : PySem.W.Frag} {W : WX} {B B2 : Hp} {w w1 : Wo} {σ : St} {Γ : Ev} {s : Y.S}
theorem Own.rp {F H : Hp} {p : Addr} (h : F p = none) {ds : List D} {o : HO} : Own K F H p (.list ds) → H p = some o → Rp K (upd F p o) (.ref p) (.list ds)
  | ⟨xs, e, a⟩, e2 => by
    rw [e] at e2; cases e2
    exact .lst upd_same (a.mono (upd_sm h))
theorem upd_sm' {F : Hp} {p : Addr} {o : HO} (Fn : F p = none) {q : Addr} {u : HO} (e : F q = some u) : upd F p o q = some u := upd_sm Fn q u e
theorem Wd.fz (Wh : Wd Y B w s) {p : Addr} {o : HO} (hp : w.H p = some o) (bp : B p = none) (ap : p ∉ w.A) (fp : w.F p = none) : Wd Y B { w with F := upd w.F p o } s := by
  refine ⟨fun q u e => ?_, Wh.sB, fun q u e => ?_, fun q hq => ?_, Y.frame Wh.rel (fun q u e => (upd_sm' fp e)) fun _ _ => rfl⟩
  · have e : upd w.F p o q = some u := e
    by_cases hq : q = p
    · subst hq; rw [upd_same] at e; cases e; exact hp
    · rw [upd_ne hq] at e; exact Wh.sF q u e
  · have e : upd w.F p o q = some u := e
    by_cases hq : q = p
    · subst hq; exact .inl bp
    · rw [upd_ne hq] at e; exact Wh.dj q u e
  · have hqp : q ≠ p := by rintro rfl; exact ap hq
    exact ⟨(upd_ne hqp).trans (Wh.dA q hq).1, (Wh.dA q hq).2⟩
theorem Le.fz {p : Addr} {o : HO} (fp : w.F p = none) : Le w { w with F := upd w.F p o } := ⟨upd_sm fp, [], by simp⟩
theorem EnvR.fzT (N : EnvR K B w σ Γ) {p : Addr} {o : HO} (fp : w.F p = none) (oth : ∀ (i : Nat) (e : D), Γ[i]? = some (some (R.o e)) → σ[i]? ≠ some (some (.ref p))) : EnvR K B { w with F := upd w.F p o } σ Γ := ⟨N.len, fun i r e => by
  obtain ⟨x, a, b⟩ := N.sl i r e
  refine ⟨x, a, ?_⟩
  cases r with
  | v d => exact Rp.mono (upd_sm fp) b
  | o d =>
    obtain ⟨q, rfl, own, fq, bq, aq⟩ := b
    have hq : q ≠ p := fun z => by subst z; exact oth i d e a
    exact ⟨q, rfl, own.move (upd_sm fp) rfl, (upd_ne hq).trans fq, bq, aq⟩
  | h _ => exact b
  | raw _ => exact b
  | e _ =>
    obtain ⟨p', cls, e1, q, c⟩ := b
    exact ⟨p', cls, e1, upd_sm fp _ _ q, c⟩
  | b _ => exact b, N.inj⟩
theorem getSet {α : Type} {l : List α} {i j : Nat} {a x : α} (h : (l.set i a)[j]? = some x) : (i = j ∧ x = a) ∨ (i ≠ j ∧ l[j]? = some x) := by
  by_cases e : i = j
  · subst e
    rw [List.getElem?_set_self (by
      have := (List.getElem?_eq_some_iff.mp h).1
      simpa using this)] at h
    cases h; exact .inl ⟨rfl, rfl⟩
  · rw [List.getElem?_set_ne e] at h; exact .inr ⟨e, h⟩
theorem EnvR.fzS (N : EnvR K B w σ Γ) {i : Nat} {ds : List D} {p : Addr} {o : HO} (hi : Γ[i]? = some (some (.o (.list ds)))) (hp : σ[i]? = some (some (.ref p))) (ho : w.H p = some o) :
    EnvR K B { w with F := upd w.F p o } σ (Γ.set i (some (.v (.list ds)))) := by
  obtain ⟨x, hx, q, rfl, own, fq, bq, aq⟩ := N.sl i _ hi
  rw [hp] at hx; cases hx
  refine ⟨by rw [List.length_set]; exact N.len, fun j r e => ?_, fun j k d' e' x hj hk hx hy => ?_⟩
  · rcases getSet e with ⟨rfl, z⟩ | ⟨ne, e⟩
    · cases z
      exact ⟨_, hp, own.rp fq ho⟩
    · obtain ⟨x, a, b⟩ := N.sl j r e
      refine ⟨x, a, ?_⟩
      cases r with
      | v d => exact Rp.mono (upd_sm fq) b
      | o d' =>
        obtain ⟨q', rfl, own', fq', bq', aq'⟩ := b
        have hq : q' ≠ p := fun z => by subst z; exact ne (N.inj i j _ _ _ hi e hp a)
        exact ⟨q', rfl, own'.move (upd_sm fq) rfl, (upd_ne hq).trans fq', bq', aq'⟩
      | h _ => exact b
      | raw _ => exact b
      | e _ =>
        obtain ⟨p', cls, e1, q, c⟩ := b
        exact ⟨p', cls, e1, upd_sm fq _ _ q, c⟩
      | b _ => exact b
  · rcases getSet hj with ⟨rfl, z⟩ | ⟨ne, hj⟩
    · cases z
    · rcases getSet hk with ⟨rfl, z⟩ | ⟨ne', hk⟩
      · cases z
      · exact N.inj j k _ _ _ hj hk hx hy
theorem eok_esc {t : TE} {g : GE Y} (h : EOk Y K W t g) : EOk Y K W t (gEsc g) := by
  intro B w σ Γ s out Q Wh N e p
  refine h.go Wh N e p fun r Γ1 s1 x w1 W1 N1 l1 R1 e1 p1 => ?_
  cases r with
  | v d => cases e1; exact p1 w1 W1 N1 (.refl _) x R1
  | h d => cases e1; exact p1 w1 W1 N1 (.refl _) x R1
  | raw d => cases e1; exact p1 w1 W1 N1 (.refl _) x R1
  | e d => cases e1; exact p1 w1 W1 N1 (.refl _) x R1
  | o d =>
    cases d with
    | list ds =>
      cases e1
      obtain ⟨⟨q, rfl, own, fq, bq, aq⟩, oth⟩ := R1
      obtain ⟨o, ho⟩ := own.obj
      exact p1 { w1 with F := upd w1.F q o } (W1.fz ho bq aq fq) (N1.fzT fq oth) (Le.fz fq) _ (own.rp fq ho)
    | _ => cases e1
  | b i =>
    simp only at e1
    split at e1
    · rename_i d hd
      cases e1
      obtain ⟨y, hy, q, rfl, own, fq, bq, aq⟩ := N1.sl i _ hd
      have hx : σ[i]? = some (some x) := R1
      rw [hx] at hy; cases hy
      obtain ⟨o, ho⟩ := own.obj
      exact p1 { w1 with F := upd w1.F q o } (W1.fz ho bq aq fq) (N1.fzS hd hx ho) (Le.fz fq) _ (own.rp fq ho)
    · rename_i d hd
      cases e1
      obtain ⟨y, hy, b⟩ := N1.sl i _ hd
      have hx : σ[i]? = some (some x) := R1
      rw [hx] at hy; cases hy
      exact p1 w1 W1 N1 (.refl _) _ b
    · cases e1
end
section
variable {Y : Sys} {X : Cx} {W : WX} {e a b c : Expr} {es rest : List Expr} {pos : Pos} {ga gb gc : GE Y} {gr : GA Y} {gt gu : GT Y}
theorem me_esc {te_h : TE} (h : ME Y X W e te_h ga) : ME Y X W e te_h (gEsc ga) := by
  obtain ⟨p, h⟩ := h
  exact ⟨p, eok_esc h⟩
theorem RsA.weak {K : PySem.W.Frag} {B B' : Hp} {w : Wo} {σ : St} {Γ : Ev} (e : Same B B') : ∀ {xs : List V} {rs : List R}, RsA K B' w σ Γ xs rs → RsA K B w σ Γ xs rs
  | _, _, .nil => .nil
  | _, _, .cons q t => .cons (q.weak e) (RsA.weak e t)
def gN {Y : Sys} : GA Y := fun Γ s => some (.ok [], Γ, s)
def gK {Y : Sys} (ga : GE Y) (gr : GA Y) : GA Y := bd ga fun r => bd gr fun rs Γ s => some (.ok (r :: rs), Γ, s)
theorem ma_nil : MA Y X W [] tNil gN := ⟨pa_nil, fun B w σ Γ s out Q Wh N e p => by cases e; exact p w Wh N (.refl _) _ .nil⟩
theorem ma_cons {te_ha : TE} (ha : ME Y X W e te_ha ga) {ta_hr : TA} (hr : MA Y X W es ta_hr gr) (hs : starEach (e :: es) X.env = (false, eval e X.env) :: starEach es X.env := by rfl) : MA Y X W (e :: es) (tCons te_ha ta_hr) (gK ga gr) := by
  obtain ⟨pa, ha⟩ := ha
  obtain ⟨pr, hr⟩ := hr
  refine ⟨pa_cons pa pr hs, fun B w σ Γ s out Q Wh N e p => ?_⟩
  refine ha.go (Q := fun x H1 => ta_hr σ H1 fun xs H2 => Q (x :: xs) H2) Wh N e p fun r Γ1 s1 x w1 W1 N1 l1 R1 e1 p1 => ?_
  obtain ⟨B2, sB, W1b, N1b, kp, _⟩ := keep W1 N1 R1
  refine hr.go (Q := fun xs H2 => Q (x :: xs) H2) W1b N1b e1 (p1.imp sB fun _ _ _ q => q) fun rs Γ2 s2 xs w2 W2 N2 l2 Rs e2 p2 => ?_
  cases e2
  exact p1 w2 (W2.weak sB) (N2.weak sB) l2 _ (.cons (kp W2 N2 l2) (Rs.weak sB))
theorem sha_of {B : Hp} {w : Wo} {σ : St} {Γ : Ev} {s : Y.S} (Wh : Wd Y B w s) (N : EnvR X.K B w σ Γ) : ∀ {xs : List V} {rs : List R} {ds : List D}, RsA X.K B w σ Γ xs rs → rdA Γ rs = some ds → ShA X.K w.F w.H xs ds
  | _, _, _, .nil, e => by cases e; exact .nil
  | _, r :: rs, _, .cons q t, e => by
    unfold rdA at e
    split at e
    · rename_i d ds e1 e2
      cases e
      exact .cons (sh_of Wh N q e1) (sha_of Wh N t e2)
    · cases e
def gCall {Y : Sys} (f : List D → Option Rz) (gr : GA Y) : GE Y := bd gr fun rs => opN f rs
theorem eok_call {K : PySem.W.Frag} {r : List V → Hp → VK → Prop} {f : List D → Option Rz} {t : TA} (hf : OpN X.K r f) (h : AOk Y X.K W t gr) : EOk Y X.K W (tCB r t) (gCall f gr) := by
  intro B w σ Γ s out Q Wh N e p
  refine h.go (Q := fun xs H => r xs H Q) Wh N e p fun rs Γ1 s1 xs w1 W1 N1 l1 Rs e1 p1 => ?_
  unfold opN at e1
  split at e1
  · rename_i ds ed
    split at e1
    · cases e1
    · rename_i z ez
      cases e1
      exact hf _ _ _ _ _ _ W1.sF (sha_of W1 N1 Rs ed) ez (rz_use W1 N1 (.refl _) p1)
  · cases e1
theorem me_callB {id : String} {x : Str} {p : Pos} {r : List V → Hp → VK → Prop} {f : List D → Option Rz} (hc : CallR X (.builtin id) r) (hf : OpN X.K r f) (hg : Gl X x) (hm : X.mg x = none) (hv : bootBuiltins x = some (.builtin id)) {ta_ha : TA} (ha : MA Y X W (e :: es) ta_ha gr)
    (hn : x ≠ "__name__" := by decide) (hdb : (x == ("__debug__" : Str)) = false := by decide) (he : starEach (e :: es) X.env = (false, eval e X.env) :: starEach es X.env := by rfl) (hpl : (backTo pos (starEach es X.env)).any (·.1) = false := by rfl) :
    ME Y X W (.Call (.Name x p) (e :: es) [] pos) (tCB r ta_ha) (gCall f gr) := by
  obtain ⟨pa, h⟩ := ha
  exact ⟨pe_callB hc hg hm hv pa hn hdb he hpl, eok_call (K := X.K) hf h⟩
theorem me_callTy {T : String} {x : Str} {p : Pos} {r : List V → Hp → VK → Prop} {f : List D → Option Rz} (hc : CallR X (.type T) r) (hf : OpN X.K r f) (hg : Gl X x) (hm : X.mg x = none) (hv : bootBuiltins x = some (.type T)) {ta_ha : TA} (ha : MA Y X W (e :: es) ta_ha gr)
    (hn : x ≠ "__name__" := by decide) (hdb : (x == ("__debug__" : Str)) = false := by decide) (he : starEach (e :: es) X.env = (false, eval e X.env) :: starEach es X.env := by rfl) (hpl : (backTo pos (starEach es X.env)).any (·.1) = false := by rfl) :
    ME Y X W (.Call (.Name x p) (e :: es) [] pos) (tCB r ta_ha) (gCall f gr) := by
  obtain ⟨pa, h⟩ := ha
  exact ⟨pe_callTy hc hg hm hv pa hn hdb he hpl, eok_call (K := X.K) hf h⟩
def vs? : List R → Option (List D)
  | [] => some []
  | .v d :: rs => match vs? rs with
    | some ds => some (d :: ds)
    | none => none
  | _ :: _ => none
theorem rpa_of {K : PySem.W.Frag} {B : Hp} {w : Wo} {σ : St} {Γ : Ev} : ∀ {xs : List V} {rs : List R} {ds : List D}, RsA K B w σ Γ xs rs → vs? rs = some ds → RpA K w.F xs ds
  | _, _, _, .nil, e => by cases e; exact .nil
  | _, .v d :: rs, _, .cons q t, e => by
    unfold vs? at e
    split at e
    · rename_i ds e1
      cases e
      exact .cons q (rpa_of t e1)
    · cases e
  | _, .o _ :: _, _, .cons _ _, e => by cases e
  | _, .h _ :: _, _, .cons _ _, e => by cases e
  | _, .raw _ :: _, _, .cons _ _, e => by cases e
  | _, .e _ :: _, _, .cons _ _, e => by cases e
  | _, .b _ :: _, _, .cons _ _, e => by cases e
def sizeOk (n : Nat) : Bool := decide (n ≤ 1000000)
theorem sizeOk_le {n : Nat} (h : sizeOk n = true) : n ≤ sizeLine := Nat.le_trans (of_decide_eq_true h) (by decide)
theorem sizeOk_lt {n : Nat} (h : sizeOk n = true) : n < sizeLine := Nat.lt_of_le_of_lt (of_decide_eq_true h) (by decide)
def gTup {Y : Sys} (gr : GA Y) : GE Y := bd gr fun rs Γ s => match vs? rs with
  | some ds => if sizeOk ds.length = true then some (.ok (.v (.tuple ds)), Γ, s) else none
  | none => none
def gLst {Y : Sys} (gr : GA Y) : GE Y := bd gr fun rs Γ s => match vs? rs with
  | some ds => if sizeOk ds.length = true then some (.ok (.o (.list ds)), Γ, s) else none
  | none => none
theorem me_tup {x1} {ta_h : TA} (h : MA Y X W es ta_h gr) : ME Y X W (.Tuple es x1 pos) (tTup ta_h) (gTup gr) := by
  obtain ⟨pa, h⟩ := h
  refine ⟨pe_tup pa, fun B w σ Γ s out Q Wh N e p => ?_⟩
  refine h.go (Q := fun xs H1 => xs.length ≤ sizeLine ∧ ∀ p, H1 p = none → Q (.ref p) (upd H1 p (.tup xs))) Wh N e p fun rs Γ1 s1 xs w1 W1 N1 l1 Rs e1 p1 => ?_
  try simp only at e1
  split at e1
  · rename_i ds ed
    split at e1
    · rename_i hz
      cases e1
      have rp := rpa_of Rs ed
      refine ⟨by rw [rp.length]; exact sizeOk_le hz, fun p np => rz_use (z := .nw (.tuple ds)) (Q := Q) W1 N1 (.refl _) p1 p xs np rp⟩
    · cases e1
  · cases e1
theorem me_lst {ta_h : TA} (h : MA Y X W es ta_h gr) : ME Y X W (.List es pos) (tLst ta_h) (gLst gr) := by
  obtain ⟨pa, h⟩ := h
  refine ⟨pe_lst pa, fun B w σ Γ s out Q Wh N e p => ?_⟩
  refine h.go (Q := fun xs H1 => xs.length ≤ sizeLine ∧ ∀ p, H1 p = none → Q (.ref p) (upd H1 p (.lst xs))) Wh N e p fun rs Γ1 s1 xs w1 W1 N1 l1 Rs e1 p1 => ?_
  try simp only at e1
  split at e1
  · rename_i ds ed
    split at e1
    · rename_i hz
      cases e1
      have rp := rpa_of Rs ed
      refine ⟨by rw [rp.length]; exact sizeOk_le hz, fun p np => rz_use (z := .nw (.list ds)) (Q := Q) W1 N1 (.refl _) p1 p xs np rp⟩
    · cases e1
  · cases e1
def gDic {Y : Sys} : GE Y := fun Γ s => some (.ok (.v (.dict [])), Γ, s)
def gTst {Y : Sys} (g : GE Y) : GT Y := bd g fun r Γ s => match rdv Γ r with
  | some (.bool b) => some (.ok b, Γ, s)
  | _ => none
theorem sh_bool {K : PySem.W.Frag} {F H : Hp} {x : V} {b : Bool} (h : Sh K F H x (.bool b)) : x = .bl b := by cases (show Rp K F x (.bool b) from h); rfl
theorem tok_tst {K : PySem.W.Frag} {t : TE} {g : GE Y} (h : EOk Y K W t g) : TOk Y K W (tTest t) (gTst g) := by
  intro B w σ Γ s out Q Wh N e p
  refine h.go (Q := fun x H' => ∃ k, x = .bl k ∧ Q k H') Wh N e p fun r Γ1 s1 x w1 W1 N1 l1 R1 e1 p1 => ?_
  try simp only at e1
  split at e1
  · rename_i b hb
    cases e1
    exact ⟨b, sh_bool (sh_of W1 N1 R1 hb), p1 w1 W1 N1 (.refl _)⟩
  · cases e1
theorem mt_val {te_h : TE} (h : ME Y X W e te_h ga) (he : ∀ whole, isTrue e X.env whole = (do let v ← whole; standAt e.pos; holding [v] (truthy v)) := by intro _; rfl) : MT Y X W e (tB te_h) (gTst ga) := by
  obtain ⟨p, h⟩ := h
  exact ⟨pt_val p he, tok_tst h⟩
theorem mt_cmp {op : CmpOp} {r : R2} {f : D → D → Option Rz} (ho : OpR X (compareOp op) r) (hf : Op2 X.K r f) {te_ha : TE} (ha : ME Y X W a te_ha ga) {te_hb : TE} (hb : ME Y X W b te_hb gb) (hm : behindInMarks op b = false) : MT Y X W (.Compare a [op] [b] pos) (tTest (tOp r te_ha te_hb)) (gTst (gBin f ga gb)) := by
  obtain ⟨pa, ha⟩ := ha
  obtain ⟨pb, hb⟩ := hb
  exact ⟨pt_cmpR ho pa pb hm, tok_tst (eok_bin hf ha hb)⟩
def gNot {Y : Sys} (g : GT Y) : GT Y := bd g fun b Γ s => some (.ok (!b), Γ, s)
def gAnd {Y : Sys} (g h : GT Y) : GT Y := bd g fun b Γ s => if b = true then h Γ s else some (.ok false, Γ, s)
def gOr {Y : Sys} (g h : GT Y) : GT Y := bd g fun b Γ s => if b = true then some (.ok true, Γ, s) else h Γ s
theorem mt_not {tt_h : TT} (h : MT Y X W a tt_h gt) : MT Y X W (.UnaryOp .Not a pos) (tNot tt_h) (gNot gt) := by
  obtain ⟨p, h⟩ := h
  refine ⟨pt_not p, fun B w σ Γ s out Q Wh N e p => ?_⟩
  refine h.go (Q := fun c H1 => Q (!c) H1) Wh N e p fun b Γ1 s1 w1 W1 N1 l1 e1 p1 => ?_
  cases e1
  exact p1 w1 W1 N1 (.refl _)
theorem mw_and1 {tt_h : TT} (h : MT Y X W a tt_h gt) : MW Y X W (.BoolOp .And [a] pos) tt_h gt := by
  obtain ⟨p, h⟩ := h
  exact ⟨pw_and1 p, h⟩
theorem mw_or1 {tt_h : TT} (h : MT Y X W a tt_h gt) : MW Y X W (.BoolOp .Or [a] pos) tt_h gt := by
  obtain ⟨p, h⟩ := h
  exact ⟨pw_or1 p, h⟩
theorem mw_and {tt_h : TT} (h : MT Y X W a tt_h gt) {tt_h2 : TT} (h2 : MW Y X W (.BoolOp .And (b :: rest) pos) tt_h2 gu) : MW Y X W (.BoolOp .And (a :: b :: rest) pos) (tAnd tt_h tt_h2) (gAnd gt gu) := by
  obtain ⟨p, h⟩ := h
  obtain ⟨q, h2⟩ := h2
  refine ⟨pw_and p q, fun B w σ Γ s out Q Wh N e p => ?_⟩
  refine h.go (Q := fun c H1 => if c = true then tt_h2 σ H1 Q else Q false H1) Wh N e p fun b Γ1 s1 w1 W1 N1 l1 e1 p1 => ?_
  cases b with
  | true => exact h2 B w1 σ Γ1 s1 _ Q W1 N1 e1 p1
  | false => cases e1; exact p1 w1 W1 N1 (.refl _)
theorem mw_or {tt_h : TT} (h : MT Y X W a tt_h gt) {tt_h2 : TT} (h2 : MW Y X W (.BoolOp .Or (b :: rest) pos) tt_h2 gu) : MW Y X W (.BoolOp .Or (a :: b :: rest) pos) (tOr tt_h tt_h2) (gOr gt gu) := by
  obtain ⟨p, h⟩ := h
  obtain ⟨q, h2⟩ := h2
  refine ⟨pw_or p q, fun B w σ Γ s out Q Wh N e p => ?_⟩
  refine h.go (Q := fun c H1 => if c = true then Q true H1 else tt_h2 σ H1 Q) Wh N e p fun b Γ1 s1 w1 W1 N1 l1 e1 p1 => ?_
  cases b with
  | false => exact h2 B w1 σ Γ1 s1 _ Q W1 N1 e1 p1
  | true => cases e1; exact p1 w1 W1 N1 (.refl _)
theorem mt_w {tt_h : TT} (h : MW Y X W e tt_h gt) : MT Y X W e tt_h gt := by
  obtain ⟨p, h⟩ := h
  exact ⟨p.pt, h⟩
def gAndV {Y : Sys} (g h : GE Y) : GE Y := bd (gTst g) fun b Γ s => if b = true then h Γ s else some (.ok (.v (.bool false)), Γ, s)
def gOrV {Y : Sys} (g h : GE Y) : GE Y := bd (gTst g) fun b Γ s => if b = true then some (.ok (.v (.bool true)), Γ, s) else h Γ s
def gNotV {Y : Sys} (g : GE Y) : GE Y := bd (gTst g) fun b Γ s => some (.ok (.v (.bool !b)), Γ, s)
theorem me_one {op} {te_h : TE} (h : ME Y X W a te_h ga) : ME Y X W (.BoolOp op [a] pos) te_h ga := by
  obtain ⟨p, h⟩ := h
  exact ⟨pe_one p, h⟩
theorem me_and {te_h : TE} (h : ME Y X W a te_h ga) {te_h2 : TE} (h2 : ME Y X W (.BoolOp .And (b :: rest) pos) te_h2 gb) : ME Y X W (.BoolOp .And (a :: b :: rest) pos) (tAndV te_h te_h2) (gAndV ga gb) := by
  obtain ⟨p, h⟩ := h
  obtain ⟨q, h2⟩ := h2
  refine ⟨pe_and p q, fun B w σ Γ s out Q Wh N e p => ?_⟩
  refine (tok_tst h).go (Q := fun c H1 => if c = true then te_h2 σ H1 Q else Q (.bl false) H1) Wh N e p fun b Γ1 s1 w1 W1 N1 l1 e1 p1 => ?_
  cases b with
  | true => exact h2 B w1 σ Γ1 s1 _ Q W1 N1 e1 p1
  | false => cases e1; exact p1 w1 W1 N1 (.refl _) _ (.bl _)
def gIf {Y : Sys} (t : GT Y) (a b : GE Y) : GE Y := bd t fun c => if c = true then a else b
def zB : Rz → Option Bool
  | .nw (.bool b) => some b
  | .old (.bool b) => some b
  | _ => none
def gChain {Y : Sys} (f f' : D → D → Option Rz) (ga gb gc : GE Y) : GE Y := bd ga fun ra => bd gb fun rb Γ s => match rdv Γ ra, rdv Γ rb with
  | some d, some e => match f d e with
    | none => none
    | some z => match zB z with
      | none => none
      | some true => bd gc (fun rc => op2 f' rb rc) Γ s
      | some false => some (.ok (.v (.bool false)), Γ, s)
  | _, _ => none
theorem rz_bool {K : PySem.W.Frag} {F H : Hp} {Q : VK} : ∀ {z : Rz} {b : Bool}, zB z = some b → Q (.bl b) H → RzQ K F H Q z
  | .nw (.bool _), _, e, q => by cases e; intro x r; cases r; exact q
  | .old (.bool _), _, e, q => by cases e; intro x r; cases r; exact q
  | .nw .none, _, e, _ => by cases e
  | .nw (.int _), _, e, _ => by cases e
  | .nw (.str _), _, e, _ => by cases e
  | .nw (.list _), _, e, _ => by cases e
  | .nw (.tuple _), _, e, _ => by cases e
  | .nw (.dict _), _, e, _ => by cases e
  | .old .none, _, e, _ => by cases e
  | .old (.int _), _, e, _ => by cases e
  | .old (.str _), _, e, _ => by cases e
  | .old (.list _), _, e, _ => by cases e
  | .old (.tuple _), _, e, _ => by cases e
  | .old (.dict _), _, e, _ => by cases e
theorem eok_chain {K : PySem.W.Frag} {r r' : R2} {f f' : D → D → Option Rz} {ta tb tc : TE} (hf : Op2 K r f) (hf' : Op2 K r' f') (ha : EOk Y K W ta ga) (hb : EOk Y K W tb gb) (hc : EOk Y K W tc gc) : EOk Y K W (tChain r r' ta tb tc) (gChain f f' ga gb gc) := by
  intro B w σ Γ s out Q Wh N e p
  refine ha.two (T := fun x y H2 => r x y H2 fun z H3 => ∃ k, z = .bl k ∧ (if k = true then tc σ H3 fun w' H4 => r' y w' H4 Q else Q (.bl false) H3)) hb Wh N e p fun ra rb Γ1 s1 x y w1 W1 N1 l1 Ra Rb e1 p1 => ?_
  try simp only at e1
  split at e1
  · rename_i d d' ed ed'
    split at e1
    · cases e1
    · rename_i z ez
      split at e1
      · cases e1
      · rename_i hz
        refine hf _ _ _ _ _ _ _ _ W1.sF (sh_of W1 N1 Ra ed) (sh_of W1 N1 Rb ed') ez (rz_bool hz ⟨true, rfl, ?_⟩)
        rw [if_pos rfl]
        obtain ⟨B2, sB, W1b, N1b, kp, _⟩ := keep W1 N1 Rb
        refine hc.go (Q := fun w' H4 => r' y w' H4 Q) W1b N1b e1 (PoE.strong p1 sB) fun rc Γ2 s2 v w2 W2 N2 l2 Rc e2 p2 => ?_
        unfold op2 at e2
        split at e2
        · rename_i d2 d3 ed2 ed3
          split at e2
          · cases e2
          · rename_i z2 ez2
            cases e2
            exact hf' _ _ _ _ _ _ _ _ W2.sF (sh_of (W2.weak sB) (N2.weak sB) (kp W2 N2 l2) ed2) (sh_of W2 N2 Rc ed3) ez2 (rz_use W2 N2 (.refl _) p2)
        · cases e2
      · rename_i hz
        cases e1
        refine hf _ _ _ _ _ _ _ _ W1.sF (sh_of W1 N1 Ra ed) (sh_of W1 N1 Rb ed') ez (rz_bool hz ⟨false, rfl, ?_⟩)
        rw [if_neg Bool.false_ne_true]
        exact p1 w1 W1 N1 (.refl _) _ (.bl _)
  · cases e1
theorem me_chain {op op' : CmpOp} {r r' : R2} {f f' : D → D → Option Rz} (ho : OpR X (compareOp op) r) (hf : Op2 X.K r f) (ho' : OpR X (compareOp op') r') (hf' : Op2 X.K r' f') {te_ha : TE} (ha : ME Y X W a te_ha ga) {te_hb : TE} (hb : ME Y X W b te_hb gb) {te_hc : TE} (hc : ME Y X W c te_hc gc)
    (hm : lastMarks [op, op'] [b, c] = false := by with_unfolding_all rfl) : ME Y X W (.Compare a [op, op'] [b, c] pos) (tChain r r' te_ha te_hb te_hc) (gChain f f' ga gb gc) := by
  obtain ⟨pa, ha⟩ := ha
  obtain ⟨pb, hb⟩ := hb
  obtain ⟨pc, hc⟩ := hc
  exact ⟨pe_chain ho ho' pa pb pc hm, eok_chain hf hf' ha hb hc⟩
theorem mt_chain {op op' : CmpOp} {r r' : R2} {f f' : D → D → Option Rz} (ho : OpR X (compareOp op) r) (hf : Op2 X.K r f) (ho' : OpR X (compareOp op') r') (hf' : Op2 X.K r' f') {te_ha : TE} (ha : ME Y X W a te_ha ga) {te_hb : TE} (hb : ME Y X W b te_hb gb) {te_hc : TE} (hc : ME Y X W c te_hc gc)
    (hm : lastMarks [op, op'] [b, c] = false := by with_unfolding_all rfl) : MT Y X W (.Compare a [op, op'] [b, c] pos) (tTest (tChain r r' te_ha te_hb te_hc)) (gTst (gChain f f' ga gb gc)) := by
  obtain ⟨pa, ha⟩ := ha
  obtain ⟨pb, hb⟩ := hb
  obtain ⟨pc, hc⟩ := hc
  exact ⟨pt_chain ho ho' pa pb pc hm, tok_tst (eok_chain hf hf' ha hb hc)⟩
end
end FX
set_option Elab.async false
set_option linter.all false
set_option maxRecDepth 100000
set_option maxHeartbeats 1000000
namespace FX
open PySem PySem.Spec L2
inductive Fl where
  | nx | rt (r : R) | bk | ct | er (c : Str)
abbrev GS (Y : Sys) := Ev → Y.S → Option (Fl × Ev × Y.S)
def PoS (Y : Sys) (K : PySem.W.Frag) (W : WX) (B : Hp) (w : Wo) (D : Ends) : Fl × Ev × Y.S → Prop
  | (.nx, Γ', s') => ∀ w' σ', Wd Y B w' s' → EnvR K B w' σ' Γ' → Le w w' → D.nx σ' w'.H
  | (.bk, Γ', s') => ∀ w' σ', Wd Y B w' s' → EnvR K B w' σ' Γ' → Le w w' → D.bk σ' w'.H
  | (.ct, Γ', s') => ∀ w' σ', Wd Y B w' s' → EnvR K B w' σ' Γ' → Le w w' → D.ct σ' w'.H
  | (.rt r, _, s') => ∀ w' x, Wd Y B w' s' → SlR K B w' x r → Le w w' → D.rt x w'.H
  | (.er n, Γ', s') => ∀ w' σ', Wd Y B w' s' → EnvR K B w' σ' Γ' → Le w w' → ∀ c, Cn K n c → W c none σ' w'.H
def SOk (Y : Sys) (K : PySem.W.Frag) (W : WX) (t : TS) (g : GS Y) : Prop := ∀ (B : Hp) (w : Wo) (σ : St) (Γ : Ev) (s : Y.S) (out : Fl × Ev × Y.S) (D : Ends),
  Wd Y B w s → EnvR K B w σ Γ → g Γ s = some out → PoS Y K W B w D out → t D σ w.H
structure MS (Y : Sys) (X : Cx) (W : WX) (st : Stmt) (t : TS) (g : GS Y) : Prop where
  pe : PS X st t
  ok : SOk Y X.K W t g
structure MSs (Y : Sys) (X : Cx) (W : WX) (st : List Stmt) (t : TS) (g : GS Y) : Prop where
  pe : PSs X st t
  ok : SOk Y X.K W t g
def bdS {S α : Type} (g : Ev → S → Option (Oc α × Ev × S)) (k : α → Ev → S → Option (Fl × Ev × S)) : Ev → S → Option (Fl × Ev × S) := fun Γ s =>
  match g Γ s with
  | none => none
  | some (.ok a, Γ', s') => k a Γ' s'
  | some (.er c, Γ', s') => some (.er c, Γ', s')
section
variable {Y : Sys} {K : PySem.W.Frag} {W : WX} {B B2 : Hp} {w w1 : Wo} {σ : St} {Γ : Ev} {s : Y.S} {D : Ends}
theorem PoS.le {out : Fl × Ev × Y.S} (p : PoS Y K W B w D out) (l : Le w w1) : PoS Y K W B w1 D out := by
  obtain ⟨o, Γ', s'⟩ := out
  cases o <;> exact fun w' x W' N' l' => p w' x W' N' (l.trans l')
theorem PoS.strong {out : Fl × Ev × Y.S} (p : PoS Y K W B w D out) (e : Same B B2) : PoS Y K W B2 w D out := by
  obtain ⟨o, Γ', s'⟩ := out
  cases o with
  | rt r => exact fun w' x W' r' l' => p w' x (W'.weak e) (r'.weak e) l'
  | nx => exact fun w' x W' N' l' => p w' x (W'.weak e) (N'.weak e) l'
  | bk => exact fun w' x W' N' l' => p w' x (W'.weak e) (N'.weak e) l'
  | ct => exact fun w' x W' N' l' => p w' x (W'.weak e) (N'.weak e) l'
  | er c => exact fun w' x W' N' l' => p w' x (W'.weak e) (N'.weak e) l'
theorem EOk.goS {t : TE} {g : GE Y} (h : EOk Y K W t g) (Wh : Wd Y B w s) (N : EnvR K B w σ Γ) {k : R → Ev → Y.S → Option (Fl × Ev × Y.S)} {out : Fl × Ev × Y.S} {Q : VK}
    (e : bdS g k Γ s = some out) (p : PoS Y K W B w D out)
    (c : ∀ r Γ1 s1 x w1, Wd Y B w1 s1 → EnvR K B w1 σ Γ1 → Le w w1 → ResR K B w1 σ Γ1 x r → k r Γ1 s1 = some out → PoS Y K W B w1 D out → Q x w1.H) : t σ w.H Q := by
  unfold bdS at e
  cases eg : g Γ s with
  | none => rw [eg] at e; cases e
  | some o =>
    obtain ⟨o, Γ1, s1⟩ := o
    rw [eg] at e
    cases o with
    | ok r => exact h B w σ Γ s _ Q Wh N eg fun w1 W1 N1 l x r1 => c r Γ1 s1 x w1 W1 N1 l r1 e (p.le l)
    | er z =>
      cases e
      exact h B w σ Γ s _ Q Wh N eg fun w1 W1 N1 l => p w1 σ W1 N1 l
theorem TOk.goS {t : TT} {g : GT Y} (h : TOk Y K W t g) (Wh : Wd Y B w s) (N : EnvR K B w σ Γ) {k : Bool → Ev → Y.S → Option (Fl × Ev × Y.S)} {out : Fl × Ev × Y.S} {Q : Bool → Hp → Prop}
    (e : bdS g k Γ s = some out) (p : PoS Y K W B w D out)
    (c : ∀ b Γ1 s1 w1, Wd Y B w1 s1 → EnvR K B w1 σ Γ1 → Le w w1 → k b Γ1 s1 = some out → PoS Y K W B w1 D out → Q b w1.H) : t σ w.H Q := by
  unfold bdS at e
  cases eg : g Γ s with
  | none => rw [eg] at e; cases e
  | some o =>
    obtain ⟨o, Γ1, s1⟩ := o
    rw [eg] at e
    cases o with
    | ok r => exact h B w σ Γ s _ Q Wh N eg fun w1 W1 N1 l => c r Γ1 s1 w1 W1 N1 l e (p.le l)
    | er z =>
      cases e
      exact h B w σ Γ s _ Q Wh N eg fun w1 W1 N1 l => p w1 σ W1 N1 l
end
section
variable {Y : Sys} {K : PySem.W.Frag} {W : WX} {B B2 : Hp} {w w1 : Wo} {σ : St} {Γ : Ev} {s : Y.S}
theorem setLen {σ : St} {Γ : Ev} (h : σ.length = Γ.length) (i : Nat) (a : Option V) (b : Option R) : (σ.set i a).length = (Γ.set i b).length := by
  rw [List.length_set, List.length_set]; exact h
theorem getPut {σ : St} {Γ : Ev} (h : σ.length = Γ.length) {i j : Nat} {a : Option V} {b r : Option R} (e : (Γ.set i b)[j]? = some r) :
    (i = j ∧ r = b ∧ (σ.set i a)[j]? = some a) ∨ (i ≠ j ∧ Γ[j]? = some r ∧ (σ.set i a)[j]? = σ[j]?) := by
  have hj : j < (Γ.set i b).length := (List.getElem?_eq_some_iff.mp e).1
  rw [List.length_set, ← h] at hj
  rcases getSet e with ⟨rfl, rfl⟩ | ⟨ne, e⟩
  · exact .inl ⟨rfl, rfl, by rw [List.getElem?_set_self hj]⟩
  · exact .inr ⟨ne, e, List.getElem?_set_ne ne⟩
theorem EnvR.put (N : EnvR K B w σ Γ) {x : V} {r : R} (h : ResR K B w σ Γ x r) (hb : ∀ k, r ≠ .b k) (i : Nat) : EnvR K B w (σ.set i (some x)) (Γ.set i (some r)) := by
  have hs : SlR K B w x r := by
    cases r with
    | o d => exact h.1
    | b k => exact absurd rfl (hb k)
    | v _ => exact h
    | h _ => exact h
    | raw _ => exact h
    | e _ => exact h
  refine ⟨setLen N.len _ _ _, fun j r' e => ?_, fun j k d e x' hj hk hx hy => ?_⟩
  · rcases getPut (a := some x) N.len e with ⟨rfl, z, e2⟩ | ⟨ne, e1, e2⟩
    · cases z; exact ⟨x, e2, hs⟩
    · rw [e2]; exact N.sl j r' e1
  · rcases getPut (a := some x) N.len hj with ⟨rfl, z, e2⟩ | ⟨ne, e1, e2⟩
    · rcases getPut (a := some x) N.len hk with ⟨rfl, z', e2'⟩ | ⟨ne', e1', e2'⟩
      · rfl
      · cases z
        rw [e2] at hx; cases hx
        rw [e2'] at hy
        exact absurd hy (h.2 k e e1')
    · rcases getPut (a := some x) N.len hk with ⟨rfl, z', e2'⟩ | ⟨ne', e1', e2'⟩
      · cases z'
        rw [e2'] at hy; cases hy
        rw [e2] at hx
        exact absurd hx (h.2 j d e1)
      · rw [e2] at hx; rw [e2'] at hy
        exact N.inj j k d e x' e1 e1' hx hy
theorem EnvR.del (N : EnvR K B w σ Γ) (i : Nat) (x : Option V) : EnvR K B w (σ.set i x) (Γ.set i none) := by
  refine ⟨setLen N.len _ _ _, fun j r' e => ?_, fun j k d e x' hj hk hx hy => ?_⟩
  · rcases getPut (a := x) N.len e with ⟨rfl, z, e2⟩ | ⟨ne, e1, e2⟩
    · cases z
    · rw [e2]; exact N.sl j r' e1
  · rcases getPut (a := x) N.len hj with ⟨rfl, z, e2⟩ | ⟨ne, e1, e2⟩
    · cases z
    · rcases getPut (a := x) N.len hk with ⟨rfl, z', e2'⟩ | ⟨ne', e1', e2'⟩
      · cases z'
      · rw [e2] at hx; rw [e2'] at hy
        exact N.inj j k d e x' e1 e1' hx hy
end
mutual
inductive Tg where
  | n (i : Nat) | t (l : Tgs)
inductive Tgs where
  | nil | cons (a : Tg) (l : Tgs)
end
mutual
def bindT : Tg → D → Ev → Option Ev
  | .n i, d, Γ => some (Γ.set i (some (.v d)))
  | .t l, .tuple ds, Γ => bindTs l ds Γ
  | .t _, _, _ => none
def bindTs : Tgs → List D → Ev → Option Ev
  | .nil, [], Γ => some Γ
  | .cons a l, d :: ds, Γ => match bindT a d Γ with
    | some Γ' => bindTs l ds Γ'
    | none => none
  | _, _, _ => none
end
mutual
def Tg.sl : Tg → List Nat
  | .n i => [i]
  | .t l => l.sl
def Tgs.sl : Tgs → List Nat
  | .nil => []
  | .cons a l => a.sl ++ l.sl
end
theorem wipe_set {σ : St} {i : Nat} {x : Option V} : ∀ {vs : List Nat}, i ∈ vs → wipe (σ.set i x) vs = wipe σ vs
  | [], h => by cases h
  | v :: vs, h => by
    show (wipe (σ.set i x) vs).set v none = (wipe σ vs).set v none
    by_cases hi : i ∈ vs
    · rw [wipe_set hi]
    · have hv : i = v := (List.mem_cons.mp h).resolve_right hi
      subst hv
      clear h
      have key : ∀ (us : List Nat), wipe (σ.set i x) us = (wipe σ us).set i (if i ∈ us then none else x) := by
        intro us
        induction us with
        | nil => rfl
        | cons u us ih =>
          show (wipe (σ.set i x) us).set u none = ((wipe σ us).set u none).set i _
          rw [ih]
          by_cases hu : i = u
          · subst hu
            simp [List.set_set]
          · rw [List.set_comm _ _ hu]
            simp [hu]
      rw [key, List.set_set]
def GOk (Y : Sys) (K : PySem.W.Frag) (g : TG) (T : Tg) : Prop := ∀ (B : Hp) (w : Wo) (σ : St) (Γ Γ' : Ev) (s : Y.S) (x : V) (d : D) (Q : St → Hp → Prop),
  Wd Y B w s → EnvR K B w σ Γ → Rp K w.F x d → bindT T d Γ = some Γ' → (∀ σ', EnvR K B w σ' Γ' → (∀ vs : List Nat, (∀ i ∈ T.sl, i ∈ vs) → wipe σ' vs = wipe σ vs) → Q σ' w.H) → g x σ w.H Q
def GsOk (Y : Sys) (K : PySem.W.Frag) (g : TGs) (T : Tgs) : Prop := ∀ (B : Hp) (w : Wo) (σ : St) (Γ Γ' : Ev) (s : Y.S) (xs : List V) (ds : List D) (Q : St → Hp → Prop),
  Wd Y B w s → EnvR K B w σ Γ → RpA K w.F xs ds → bindTs T ds Γ = some Γ' → (∀ σ', EnvR K B w σ' Γ' → (∀ vs : List Nat, (∀ i ∈ T.sl, i ∈ vs) → wipe σ' vs = wipe σ vs) → Q σ' w.H) → g xs σ w.H Q
structure MG (Y : Sys) (X : Cx) (e : Expr) (g : TG) (T : Tg) : Prop where
  pe : PG X e g
  ok : GOk Y X.K g T
structure MGs (Y : Sys) (X : Cx) (es : List Expr) (g : TGs) (T : Tgs) : Prop where
  pe : PGs X es g
  ok : GsOk Y X.K g T
section
variable {Y : Sys} {X : Cx} {e : Expr} {es : List Expr} {pos : Pos}
theorem mg_name {i : Nat} (h : PG X e (L2.gName i)) : MG Y X e (L2.gName i) (.n i) :=
  ⟨h, fun B w σ Γ Γ' s x d Q Wh N r e q => by
    cases e
    exact q _ (N.put (r := .v d) r (fun _ z => nomatch z) i) fun vs hv => wipe_set (hv i (by simp [Tg.sl]))⟩
theorem mgs_nil : MGs Y X [] gNil .nil :=
  ⟨pgs_nil, fun B w σ Γ Γ' s xs ds Q Wh N r e q => by
    cases r with
    | nil => cases e; exact ⟨rfl, q σ N fun _ _ => rfl⟩
    | cons a b => cases e⟩
theorem mgs_cons {a : Tg} {l : Tgs} {tg_h : TG} {tg_h2 : TGs} (h : MG Y X e tg_h a) (h2 : MGs Y X es tg_h2 l) (hs : (assignEach (e :: es) X.env).map (·.2) = assign e X.env :: (assignEach es X.env).map (·.2) := by rfl) : MGs Y X (e :: es) (gCons tg_h tg_h2) (.cons a l) := by
  obtain ⟨pg, h⟩ := h
  obtain ⟨pgs, h2⟩ := h2
  refine ⟨pgs_cons pg pgs hs, fun B w σ Γ Γ' s xs ds Q Wh N r e q => ?_⟩
  cases r with
  | nil => cases e
  | cons r rs =>
    unfold bindTs at e
    split at e
    · rename_i Γ1 e1
      refine ⟨_, _, rfl, h B w σ Γ Γ1 s _ _ _ Wh N r e1 fun σ1 N1 z1 => ?_⟩
      exact h2 B w σ1 Γ1 Γ' s _ _ _ Wh N1 rs e fun σ2 N2 z2 => q σ2 N2 fun vs hv => (z2 vs fun i hi => hv i (by simp [Tgs.sl, hi])).trans (z1 vs fun i hi => hv i (by simp [Tgs.sl, hi]))
    · cases e
theorem mg_tup {k : Nat} {l : Tgs} {n : Nat} {tg_h : TGs} (hc : X.calm = true) (h : MGs Y X es tg_h l) (hn : (assignEach es X.env).length = n := by rfl) (hst : (assignEach es X.env).findIdx? (·.1) = none := by rfl)
    (hl : ∀ ds Γ Γ', bindTs l ds Γ = some Γ' → ds.length = n) : MG Y X (.Tuple es k pos) (L2.gTup X.K n tg_h) (.t l) := by
  obtain ⟨pg, h⟩ := h
  refine ⟨pg_tup hc pg hn hst, fun B w σ Γ Γ' s x d Q Wh N r e q => ?_⟩
  cases r with
  | tup a b =>
    exact ⟨_, _, rfl, .of (Wh.sF _ _ a), by rw [b.length]; exact hl _ _ _ e, h B w σ Γ Γ' s _ _ _ Wh N b e fun σ' N' z => q σ' N' fun vs hv => z vs hv⟩
  | _ => cases e
theorem bl0 : ∀ ds Γ Γ', bindTs .nil ds Γ = some Γ' → ds.length = 0
  | [], _, _, _ => rfl
  | _ :: _, _, _, e => by cases e
theorem blS {a : Tg} {l : Tgs} {n : Nat} (h : ∀ ds Γ Γ', bindTs l ds Γ = some Γ' → ds.length = n) : ∀ ds Γ Γ', bindTs (.cons a l) ds Γ = some Γ' → ds.length = n + 1
  | [], _, _, e => by cases e
  | d :: ds, _, _, e => by
    unfold bindTs at e
    split at e
    · exact congrArg (· + 1) (h _ _ _ e)
    · cases e
end
def sNil {Y : Sys} : GS Y := fun Γ s => some (.nx, Γ, s)
def sSeq {Y : Sys} (g h : GS Y) : GS Y := fun Γ s => match g Γ s with
  | none => none
  | some (.nx, Γ', s') => h Γ' s'
  | some (.rt r, Γ', s') => some (.rt r, Γ', s')
  | some (.bk, Γ', s') => some (.bk, Γ', s')
  | some (.ct, Γ', s') => some (.ct, Γ', s')
  | some (.er c, Γ', s') => some (.er c, Γ', s')
def sDrop {Y : Sys} (g : GE Y) : GS Y := bdS g fun _ Γ s => some (.nx, Γ, s)
def sRet {Y : Sys} (g : GE Y) : GS Y := bdS g fun r Γ s => match r with
  | .b i => match Γ[i]? with
    | some (some (.o d)) => some (.rt (.o d), Γ, s)
    | some (some (.v d)) => some (.rt (.v d), Γ, s)
    | _ => none
  | r => some (.rt r, Γ, s)
def sRetN {Y : Sys} : GS Y := fun Γ s => some (.rt (.v .none), Γ, s)
def sBrk {Y : Sys} : GS Y := fun Γ s => some (.bk, Γ, s)
def sCnt {Y : Sys} : GS Y := fun Γ s => some (.ct, Γ, s)
def sIf {Y : Sys} (t : GT Y) (a b : GS Y) : GS Y := bdS t fun c => if c = true then a else b
def sRaise {Y : Sys} (c : Str) : GS Y := fun Γ s => some (.er c, Γ, s)
def sStuck {Y : Sys} : GS Y := fun _ _ => none
def sSet {Y : Sys} (i : Nat) (g : GE Y) : GS Y := bdS g fun r Γ s => match r with
  | .b j => match Γ[j]? with
    | some (some (.o (.list ds))) => some (.nx, (Γ.set j (some (.v (.list ds)))).set i (some (.v (.list ds))), s)
    | some (some (.v d)) => some (.nx, Γ.set i (some (.v d)), s)
    | _ => none
  | r => some (.nx, Γ.set i (some r), s)
def sUnp {Y : Sys} (l : Tgs) (g : GE Y) : GS Y := bdS g fun r Γ s => match r with
  | .v d => match bindT (.t l) d Γ with
    | some Γ' => some (.nx, Γ', s)
    | none => none
  | _ => none
section
variable {Y : Sys} {X : Cx} {W : WX} {st : Stmt} {sts rest : List Stmt} {e a b c : Expr} {es : List Expr} {pos : Pos} {ga gb gc : GE Y} {gt : GT Y} {g h : GS Y}
theorem mss_nil : MSs Y X W [] tNext sNil := ⟨pss_nil, fun B w σ Γ s out D Wh N e p => by cases e; exact p w σ Wh N (.refl _)⟩
theorem sok_seq {K : PySem.W.Frag} {t u : TS} (h1 : SOk Y K W t g) (h2 : SOk Y K W u h) : SOk Y K W (tSeq t u) (sSeq g h) := by
  intro B w σ Γ s out D Wh N e p
  unfold sSeq at e
  cases eg : g Γ s with
  | none => rw [eg] at e; cases e
  | some o =>
    obtain ⟨o, Γ1, s1⟩ := o
    rw [eg] at e
    refine h1 B w σ Γ s _ { D with nx := u D } Wh N eg ?_
    cases o with
    | nx => exact fun w1 σ1 W1 N1 l1 => h2 B w1 σ1 Γ1 s1 _ D W1 N1 e (p.le l1)
    | rt r => cases e; exact p
    | bk => cases e; exact p
    | ct => cases e; exact p
    | er c => cases e; exact p
theorem mss_cons {ts_h1 : TS} (h1 : MS Y X W st ts_h1 g) {ts_h2 : TS} (h2 : MSs Y X W rest ts_h2 h) : MSs Y X W (st :: rest) (tSeq ts_h1 ts_h2) (sSeq g h) := by
  obtain ⟨pt, h1⟩ := h1
  obtain ⟨pu, h2⟩ := h2
  exact ⟨pss_cons pt pu, sok_seq h1 h2⟩
theorem mss_one {ts_h1 : TS} (h1 : MS Y X W st ts_h1 g) : MSs Y X W [st] ts_h1 g := by
  obtain ⟨pt, h1⟩ := h1
  exact ⟨pss_one pt, h1⟩
theorem ms_expr {te_he : TE} (he : ME Y X W e te_he ga) (hs : swapsWith e none pos.line X.env = pure false := by rfl) : MS Y X W (.Expr e pos) (tDrop te_he) (sDrop ga) := by
  obtain ⟨p, he⟩ := he
  refine ⟨ps_expr p hs, fun B w σ Γ s out D Wh N e p => ?_⟩
  exact he.goS (Q := fun _ H1 => D.nx σ H1) Wh N e p fun r Γ1 s1 x w1 W1 N1 l1 R1 e1 p1 => by cases e1; exact p1 w1 σ W1 N1 (.refl _)
theorem ms_ret {te_he : TE} (he : ME Y X W e te_he ga) : MS Y X W (.Return (some e) pos) (tRet te_he) (sRet ga) := by
  obtain ⟨p, he⟩ := he
  refine ⟨ps_ret p, fun B w σ Γ s out D Wh N e p => ?_⟩
  refine he.goS (Q := D.rt) Wh N e p fun r Γ1 s1 x w1 W1 N1 l1 R1 e1 p1 => ?_
  cases r with
  | v d => cases e1; exact p1 w1 x W1 R1 (.refl _)
  | h d => cases e1; exact p1 w1 x W1 R1 (.refl _)
  | raw d => cases e1; exact p1 w1 x W1 R1 (.refl _)
  | e d => cases e1; exact p1 w1 x W1 R1 (.refl _)
  | o d => cases e1; exact p1 w1 x W1 R1.1 (.refl _)
  | b i =>
    have hx : σ[i]? = some (some x) := R1
    simp only at e1
    split at e1
    · rename_i d hd
      cases e1
      obtain ⟨y, hy, q⟩ := N1.sl i _ hd
      rw [hx] at hy; cases hy
      exact p1 w1 x W1 q (.refl _)
    · rename_i d hd
      cases e1
      obtain ⟨y, hy, q⟩ := N1.sl i _ hd
      rw [hx] at hy; cases hy
      exact p1 w1 x W1 q (.refl _)
    · cases e1
theorem ms_if {tt_hc : TT} (hc : MT Y X W c tt_hc gt) {ts_ha : TS} (ha : MSs Y X W sts ts_ha g) {ts_hb : TS} (hb : MSs Y X W rest ts_hb h) : MS Y X W (.If c sts rest pos) (tIfS tt_hc ts_ha ts_hb) (sIf gt g h) := by
  obtain ⟨p, hc⟩ := hc
  obtain ⟨pa, ha⟩ := ha
  obtain ⟨pb, hb⟩ := hb
  refine ⟨ps_if p pa pb, fun B w σ Γ s out D Wh N e p => ?_⟩
  refine hc.goS (Q := fun b H1 => if b = true then ts_ha D σ H1 else ts_hb D σ H1) Wh N e p fun b Γ1 s1 w1 W1 N1 l1 e1 p1 => ?_
  cases b with
  | true => exact ha B w1 σ Γ1 s1 _ D W1 N1 e1 p1
  | false => exact hb B w1 σ Γ1 s1 _ D W1 N1 e1 p1
theorem sok_set {K : PySem.W.Frag} {te : TE} {i : Nat} (he : EOk Y K W te ga) : SOk Y K W (tAsg te (L2.gName i)) (sSet i ga) := by
  intro B w σ Γ s out D Wh N e p
  refine he.goS (Q := fun x H1 => D.nx (σ.set i (some x)) H1) Wh N e p fun r Γ1 s1 x w1 W1 N1 l1 R1 e1 p1 => ?_
  cases r with
  | v d => cases e1; exact p1 w1 _ W1 (N1.put R1 (fun _ z => nomatch z) i) (.refl _)
  | h d => cases e1; exact p1 w1 _ W1 (N1.put R1 (fun _ z => nomatch z) i) (.refl _)
  | raw d => cases e1; exact p1 w1 _ W1 (N1.put R1 (fun _ z => nomatch z) i) (.refl _)
  | e d => cases e1; exact p1 w1 _ W1 (N1.put R1 (fun _ z => nomatch z) i) (.refl _)
  | o d => cases e1; exact p1 w1 _ W1 (N1.put R1 (fun _ z => nomatch z) i) (.refl _)
  | b j =>
    have hx : σ[j]? = some (some x) := R1
    simp only at e1
    split at e1
    · rename_i d hd
      cases e1
      obtain ⟨y, hy, q, rfl, own, fq, bq, aq⟩ := N1.sl j _ hd
      rw [hx] at hy; cases hy
      obtain ⟨o, ho⟩ := own.obj
      exact p1 { w1 with F := upd w1.F q o } _ (W1.fz ho bq aq fq) ((N1.fzS hd hx ho).put (r := .v (.list d)) (own.rp fq ho) (fun _ z => nomatch z) i) (Le.fz fq)
    · rename_i d hd
      cases e1
      obtain ⟨y, hy, q⟩ := N1.sl j _ hd
      rw [hx] at hy; cases hy
      exact p1 w1 _ W1 (N1.put (r := .v d) q (fun _ z => nomatch z) i) (.refl _)
    · cases e1
theorem ms_set {i : Nat} {x : Str} {pos' : Pos} (hN : X.N.Nodup) (hi : X.N[i]? = some x) (hx : Loc X.env.scope x) {te_he : TE} (he : ME Y X W e te_he ga) (hs : swapsWith e (some (.Name x pos')) pos.line X.env = pure false := by rfl) (hf : X.fn x = true ∨ X.env.scope.names.lookup x = some .local := by first | exact .inl rfl | exact .inr rfl | assumption) :
    MS Y X W (.Assign [.Name x pos'] e pos) (tAsg te_he (L2.gName i)) (sSet i ga) := by
  obtain ⟨p, he⟩ := he
  exact ⟨ps_set hN hi hx p hs hf, sok_set he⟩
theorem ms_unp {k : Nat} {l : Tgs} {tpos : Pos} {te_he : TE} (he : ME Y X W e te_he ga) {tg_hg : TG} (hg : MG Y X (.Tuple es k tpos) tg_hg (.t l)) (hs : swapsWithSole [.Tuple es k tpos] e pos.line X.env = pure false := by rfl) (hw : swappedStores [.Tuple es k tpos] e X.env = pure none := by rfl)
    (h1 : (assignEach [.Tuple es k tpos] X.env).map (·.2) = [assign (.Tuple es k tpos) X.env] := by rfl) : MS Y X W (.Assign [.Tuple es k tpos] e pos) (tAsg te_he tg_hg) (sUnp l ga) := by
  obtain ⟨p, he⟩ := he
  obtain ⟨pg, hg⟩ := hg
  refine ⟨ps_asg p pg hs hw h1, fun B w σ Γ s out D Wh N e p => ?_⟩
  refine he.goS (Q := fun x H1 => tg_hg x σ H1 D.nx) Wh N e p fun r Γ1 s1 x w1 W1 N1 l1 R1 e1 p1 => ?_
  cases r with
  | v d =>
    simp only at e1
    split at e1
    · rename_i Γ' eb
      cases e1
      exact hg B w1 σ Γ1 Γ' s1 x d D.nx W1 N1 R1 eb fun σ' N' _ => p1 w1 σ' W1 N' (.refl _)
    · cases e1
  | _ => cases e1
theorem ms_raise {n : Str} {c : Value} (hn : Cn X.K n c) (hr : PS X st (fun _ σ H => W c none σ H)) : MS Y X W st (fun _ σ H => W c none σ H) (sRaise n) := ⟨hr, fun B w σ Γ s out D Wh N e p => by cases e; exact p w σ Wh N (.refl _) c hn⟩
end
end FX
set_option Elab.async false
set_option linter.all false
set_option maxRecDepth 100000
set_option maxHeartbeats 1000000
namespace FX
open PySem PySem.Spec L2
section
variable {Y : Sys} {K : PySem.W.Frag} {B : Hp} {w : Wo} {s : Y.S} {σ : St} {Γ : Ev}
theorem same_tup (W : Wd Y B w s) {t : Addr} {xs : List V} (ht : w.H t = some (.tup xs)) : Same w.F (upd w.F t (.tup xs)) := fun q u e => by
  by_cases hq : q = t
  · subst hq
    have := W.sF q u e
    rw [ht] at this; cases this
    exact upd_same
  · rw [upd_ne hq]; exact e
theorem Wd.fzT (W : Wd Y B w s) {t : Addr} {xs : List V} (ht : w.H t = some (.tup xs)) : Wd Y B { w with F := upd w.F t (.tup xs) } s := by
  have ta : t ∉ w.A := fun z => Y.notup W.rel t z xs ht
  refine ⟨fun q u e => ?_, W.sB, fun q u e => ?_, fun q hq => ?_, Y.frame W.rel (same_tup W ht) fun _ _ => rfl⟩
  · have e : upd w.F t (.tup xs) q = some u := e
    by_cases hq : q = t
    · subst hq; rw [upd_same] at e; cases e; exact ht
    · rw [upd_ne hq] at e; exact W.sF q u e
  · have e : upd w.F t (.tup xs) q = some u := e
    by_cases hq : q = t
    · subst hq; rw [upd_same] at e; cases e; exact .inr ⟨xs, rfl⟩
    · rw [upd_ne hq] at e; exact W.dj q u e
  · have hqt : q ≠ t := fun z => by subst z; exact ta hq
    exact ⟨(upd_ne hqt).trans (W.dA q hq).1, (W.dA q hq).2⟩
theorem Le.fzT (W : Wd Y B w s) {t : Addr} {xs : List V} (ht : w.H t = some (.tup xs)) : Le w { w with F := upd w.F t (.tup xs) } := ⟨same_tup W ht, [], by simp⟩
theorem EnvR.fzK (W : Wd Y B w s) (N : EnvR K B w σ Γ) {t : Addr} {xs : List V} (ht : w.H t = some (.tup xs)) : EnvR K B { w with F := upd w.F t (.tup xs) } σ Γ := ⟨N.len, fun i r e => by
  have sm := same_tup W ht
  obtain ⟨x, a, b⟩ := N.sl i r e
  refine ⟨x, a, ?_⟩
  cases r with
  | v d => exact Rp.mono sm b
  | o d =>
    obtain ⟨q, rfl, own, fq, bq, aq⟩ := b
    obtain ⟨o, ho, hn⟩ := own.obj'
    have hq : q ≠ t := fun z => by subst z; rw [ht] at ho; cases ho; exact hn xs rfl
    exact ⟨q, rfl, own.move sm rfl, (upd_ne hq).trans fq, bq, aq⟩
  | h _ => exact b
  | raw _ => exact b
  | e _ =>
    obtain ⟨p', cls, e1, q, c⟩ := b
    exact ⟨p', cls, e1, sm _ _ q, c⟩
  | b _ => exact b, N.inj⟩
end
def ItOk (K : PySem.W.Frag) (J : It) (F0 : Hp) (ds : List D) : Prop := ∀ (F H : Hp), Same F0 F → Same F H → ∀ i : Nat, (i < ds.length → J.go i H) ∧ (ds.length ≤ i → J.stop i H) ∧
  ∀ x H', J.yld i H x H' → ∀ d, ds[i]? = some d → (H' = H ∧ Rp K F x d) ∨ (∃ T xs es, H T = none ∧ H' = upd H T (.tup xs) ∧ x = .ref T ∧ d = .tuple es ∧ RpA K F xs es) ∨ ∃ T xs es, H' = H ∧ H T = some (.tup xs) ∧ x = .ref T ∧ d = .tuple es ∧ RpA K F xs es
abbrev GI (Y : Sys) := Ev → Y.S → Option (Oc (List D) × Ev × Y.S)
def IOk (Y : Sys) (K : PySem.W.Frag) (W : WX) (wi : TI) (g : GI Y) : Prop := ∀ (B : Hp) (w : Wo) (σ : St) (Γ : Ev) (s : Y.S) (out : Oc (List D) × Ev × Y.S) (Q : It → Hp → Prop),
  Wd Y B w s → EnvR K B w σ Γ → g Γ s = some out → PoG Y K W B w σ (fun ds _ w' => ∀ J, ItOk K J w'.F ds → Q J w'.H) out → wi σ w.H Q
structure MI (Y : Sys) (X : Cx) (W : WX) (tg iter : Expr) (wi : TI) (g : GI Y) : Prop where
  pe : PI X tg iter wi
  ok : IOk Y X.K W wi g
def gItL {Y : Sys} (g : GE Y) : GI Y := bd (gEsc g) fun r Γ s => match r with
  | .v (.list ds) => some (.ok ds, Γ, s)
  | _ => none
def gItT {Y : Sys} (g : GE Y) : GI Y := bd (gEsc g) fun r Γ s => match r with
  | .v (.tuple ds) => some (.ok ds, Γ, s)
  | _ => none
def rangeD (lo : Int) (n : Nat) : List D := (List.range n).map fun i => .int (lo + (i : Nat))
theorem rangeD_len (lo : Int) (n : Nat) : (rangeD lo n).length = n := by simp [rangeD]
theorem rangeD_get {lo : Int} {n i : Nat} {d : D} (h : (rangeD lo n)[i]? = some d) : i < n ∧ d = .int (lo + (i : Nat)) := by
  unfold rangeD at h
  rw [List.getElem?_map] at h
  have hi : i < n := by
    cases q : (List.range n)[i]? with
    | none => rw [q] at h; cases h
    | some k => simpa using (List.getElem?_eq_some_iff.mp q).1
  rw [List.getElem?_range hi] at h
  cases h
  exact ⟨hi, rfl⟩
def bigI (i : Int) : Bool := Nat.ble (i.natAbs + 1) 4611686018427387904
theorem bigI_of {i : Int} (h : bigI i = true) : -(2 ^ 62) ≤ i ∧ i < 2 ^ 62 := by
  unfold bigI at h
  have := Nat.le_of_ble_eq_true h
  omega
theorem bigI_mk {i : Int} (h : i.natAbs < 4611686018427387904) : bigI i = true := Nat.ble_eq_true_of_le h
def gRg1 {Y : Sys} (g : GA Y) : GI Y := bd g fun rs Γ s => match rdA Γ rs with
  | some [.int j] => if bigI j = true then some (.ok (rangeD 0 j.toNat), Γ, s) else none
  | _ => none
def gRg2 {Y : Sys} (g : GA Y) : GI Y := bd g fun rs Γ s => match rdA Γ rs with
  | some [.int i, .int j] => if bigI i = true ∧ bigI j = true then some (.ok (rangeD i (j - i).toNat), Γ, s) else none
  | _ => none
def enumD (k : Nat) : List D → List D
  | [] => []
  | d :: ds => .tuple [.int (k : Nat), d] :: enumD (k + 1) ds
theorem enumD_len : ∀ (k : Nat) (ds : List D), (enumD k ds).length = ds.length
  | _, [] => rfl
  | k, _ :: ds => by simp [enumD, enumD_len (k + 1) ds]
theorem enumD_get : ∀ {k : Nat} {ds : List D} {i : Nat} {d : D}, (enumD k ds)[i]? = some d → ∃ e, ds[i]? = some e ∧ d = .tuple [.int ((k + i : Nat) : Int), e]
  | _, [], _, _, h => by simp [enumD] at h
  | k, e :: ds, 0, d, h => by
    simp [enumD] at h
    exact ⟨e, rfl, by simp [← h]⟩
  | k, e :: ds, i + 1, d, h => by
    obtain ⟨e', h1, h2⟩ := enumD_get (k := k + 1) (ds := ds) (i := i) (d := d) (by simpa [enumD] using h)
    exact ⟨e', by simpa using h1, by rw [h2, show k + 1 + i = k + (i + 1) by omega]⟩
def gEnm {Y : Sys} (g : GA Y) : GI Y := bd g fun rs Γ s => match rs with
  | [.v (.list ds)] => some (.ok (enumD 0 ds), Γ, s)
  | _ => none
section
variable {Y : Sys} {X : Cx} {W : WX} {tg e a b : Expr} {es : List Expr} {pos p : Pos} {ga gb : GE Y} {gr : GA Y}
theorem it_list {K : PySem.W.Frag} {F : Hp} {q : Addr} {xs : List V} {ds : List D} (h : SqL K F q xs) (r : RpA K F xs ds) : ItOk K (Itl K q) F ds := fun F1 H e1 e2 i => by
  have hH : SqL K H q xs := (e1.trans e2).seq h
  have hl := r.length
  refine ⟨fun hi => ?_, fun hi => ⟨xs, hH, by omega⟩, fun x H' y d hd => ?_⟩
  · have hi' : i < xs.length := by omega
    exact ⟨xs, xs[i], hH, List.getElem?_eq_getElem hi'⟩
  · obtain ⟨e, y⟩ := y
    obtain ⟨v, hv, rv⟩ := r.get hd
    have : x = v := Option.some.inj ((y xs hH).symm.trans hv)
    subst this
    exact .inl ⟨e, rv.mono e1⟩
theorem it_tup {K : PySem.W.Frag} {F : Hp} {q : Addr} {xs : List V} {ds : List D} (h : SqT K F q xs) (r : RpA K F xs ds) : ItOk K (Itt K q) F ds := fun F1 H e1 e2 i => by
  have hH : SqT K H q xs := seqT (e1.trans e2) h
  have hl := r.length
  refine ⟨fun hi => ?_, fun hi => ⟨xs, hH, by omega⟩, fun x H' y d hd => ?_⟩
  · have hi' : i < xs.length := by omega
    exact ⟨xs, xs[i], hH, List.getElem?_eq_getElem hi'⟩
  · obtain ⟨e, y⟩ := y
    obtain ⟨v, hv, rv⟩ := r.get hd
    have : x = v := Option.some.inj ((y xs hH).symm.trans hv)
    subst this
    exact .inl ⟨e, rv.mono e1⟩
theorem it_range {K : PySem.W.Frag} {F : Hp} (lo : Int) (n : Nat) : ItOk K (Itr lo n) F (rangeD lo n) := fun F1 H e1 e2 i => by
  refine ⟨fun hi => by rw [rangeD_len] at hi; exact hi, fun hi => by rw [rangeD_len] at hi; exact hi, fun x H' y d hd => ?_⟩
  obtain ⟨e, rfl⟩ := y
  obtain ⟨_, rfl⟩ := rangeD_get hd
  exact .inl ⟨e, .int _⟩
theorem it_enum {K : PySem.W.Frag} {F : Hp} {q : Addr} {xs : List V} {ds : List D} (h : SqL K F q xs) (r : RpA K F xs ds) : ItOk K (Ite K q) F (enumD 0 ds) := fun F1 H e1 e2 i => by
  have hH : SqL K H q xs := (e1.trans e2).seq h
  have hl := r.length
  refine ⟨fun hi => ?_, fun hi => ⟨xs, hH, by rw [enumD_len] at hi; omega⟩, fun x H' y d hd => ?_⟩
  · rw [enumD_len] at hi
    have hi' : i < xs.length := by omega
    exact ⟨xs, xs[i], hH, List.getElem?_eq_getElem hi'⟩
  · obtain ⟨T, z, rfl, nT, rfl, y⟩ := y
    obtain ⟨e, he, rfl⟩ := enumD_get hd
    obtain ⟨v, hv, rv⟩ := r.get he
    have : z = v := Option.some.inj ((y xs hH).symm.trans hv)
    subst this
    refine .inr (.inl ⟨T, _, _, nT, rfl, rfl, rfl, ?_⟩)
    rw [Nat.zero_add]
    exact .cons (.int _) (.cons (rv.mono e1) .nil)
theorem mi_list {te : TE} (h : ME Y X W e te ga) : MI Y X W tg e (iList X.K te) (gItL ga) := by
  obtain ⟨pe, h⟩ := h
  refine ⟨pi_list pe, fun B w σ Γ s out Q Wh N e p => ?_⟩
  refine (eok_esc h).go (Q := fun x H1 => ∃ a, x = .ref a ∧ (∃ xs, SqL X.K H1 a xs) ∧ Q (Itl X.K a) H1) Wh N e p fun r Γ1 s1 x w1 W1 N1 l1 R1 e1 p1 => ?_
  try simp only at e1
  split at e1
  · cases e1
    cases (show Rp X.K w1.F x (.list _) from R1) with
    | lst h r => exact ⟨_, rfl, ⟨_, .of (W1.sF _ _ h)⟩, p1 w1 W1 N1 (.refl _) _ (it_list (.of h) r)⟩
  · cases e1
theorem mi_tup {te : TE} (h : ME Y X W e te ga) : MI Y X W tg e (iTup X.K te) (gItT ga) := by
  obtain ⟨pe, h⟩ := h
  refine ⟨pi_tup pe, fun B w σ Γ s out Q Wh N e p => ?_⟩
  refine (eok_esc h).go (Q := fun x H1 => ∃ a, x = .ref a ∧ (∃ xs, SqT X.K H1 a xs) ∧ Q (Itt X.K a) H1) Wh N e p fun r Γ1 s1 x w1 W1 N1 l1 R1 e1 p1 => ?_
  try simp only at e1
  split at e1
  · cases e1
    cases (show Rp X.K w1.F x (.tuple _) from R1) with
    | tup h r => exact ⟨_, rfl, ⟨_, .of (W1.sF _ _ h)⟩, p1 w1 W1 N1 (.refl _) _ (it_tup (.of h) r)⟩
  · cases e1
theorem sh_int {K : PySem.W.Frag} {F H : Hp} {x : V} {b : Int} (h : Sh K F H x (.int b)) : x = .int b := by cases (show Rp K F x (.int b) from h); rfl
theorem sh_str {K : PySem.W.Frag} {F H : Hp} {x : V} {b : Str} (h : Sh K F H x (.str b)) : x = .str b := by cases (show Rp K F x (.str b) from h); rfl
theorem sh_non {K : PySem.W.Frag} {F H : Hp} {x : V} (h : Sh K F H x .none) : x = .non := by cases (show Rp K F x .none from h); rfl
theorem mi_range1 {ta : TA} (hg : Gl X "range") (hm : X.mg "range" = none) (h : MA Y X W [a] ta gr) (hs : starEach [a] X.env = [(false, eval a X.env)] := by rfl) : MI Y X W tg (.Call (.Name "range" p) [a] [] pos) (iRng1 ta) (gRg1 gr) := by
  obtain ⟨pe, h⟩ := h
  refine ⟨pi_range1 hg hm pe hs, fun B w σ Γ s out Q Wh N e p => ?_⟩
  refine h.go (Q := fun vs H1 => ∃ j : Int, vs = [.int j] ∧ -(2 ^ 62) ≤ j ∧ j < 2 ^ 62 ∧ Q (Itr 0 j.toNat) H1) Wh N e p fun rs Γ1 s1 xs w1 W1 N1 l1 R1 e1 p1 => ?_
  try simp only at e1
  split at e1
  · rename_i j ed
    split at e1
    · rename_i hb
      cases e1
      obtain ⟨b1, b2⟩ := bigI_of hb
      cases sha_of W1 N1 R1 ed with
      | cons q t =>
        cases t
        cases sh_int q
        exact ⟨j, rfl, b1, b2, p1 w1 W1 N1 (.refl _) _ (it_range 0 j.toNat)⟩
    · cases e1
  · cases e1
theorem mi_range2 {ta : TA} (hg : Gl X "range") (hm : X.mg "range" = none) (h : MA Y X W [a, b] ta gr) (hs : starEach [a, b] X.env = [(false, eval a X.env), (false, eval b X.env)] := by rfl) (hs2 : starEach [b] X.env = [(false, eval b X.env)] := by rfl) :
    MI Y X W tg (.Call (.Name "range" p) [a, b] [] pos) (iRng2 ta) (gRg2 gr) := by
  obtain ⟨pe, h⟩ := h
  refine ⟨pi_range2 hg hm pe hs hs2, fun B w σ Γ s out Q Wh N e p => ?_⟩
  refine h.go (Q := fun vs H1 => ∃ i j : Int, vs = [.int i, .int j] ∧ (-(2 ^ 62) ≤ i ∧ i < 2 ^ 62 ∧ -(2 ^ 62) ≤ j ∧ j < 2 ^ 62) ∧ Q (Itr i (j - i).toNat) H1) Wh N e p fun rs Γ1 s1 xs w1 W1 N1 l1 R1 e1 p1 => ?_
  try simp only at e1
  split at e1
  · rename_i i j ed
    split at e1
    · rename_i hb
      cases e1
      obtain ⟨b1, b2⟩ := bigI_of hb.1
      obtain ⟨b3, b4⟩ := bigI_of hb.2
      cases sha_of W1 N1 R1 ed with
      | cons q t =>
        cases t with
        | cons q2 t =>
          cases t
          cases sh_int q
          cases sh_int q2
          exact ⟨i, j, rfl, ⟨b1, b2, b3, b4⟩, p1 w1 W1 N1 (.refl _) _ (it_range i _)⟩
    · cases e1
  · cases e1
theorem mi_enum {ta : TA} {elts : List Expr} {kk : Nat} {tpos : Pos} (hg : Gl X "enumerate") (hm : X.mg "enumerate" = none) (h : MA Y X W [e] ta gr) (hs : starEach [e] X.env = [(false, eval e X.env)] := by rfl) :
    MI Y X W (.Tuple elts kk tpos) (.Call (.Name "enumerate" p) [e] [] pos) (iEnum X.K ta) (gEnm gr) := by
  obtain ⟨pe, h⟩ := h
  refine ⟨pi_enum hg hm pe hs, fun B w σ Γ s out Q Wh N e p => ?_⟩
  refine h.go (Q := fun vs H1 => ∃ a xs, vs = [.ref a] ∧ SqL X.K H1 a xs ∧ Q (Ite X.K a) H1) Wh N e p fun rs Γ1 s1 xs w1 W1 N1 l1 R1 e1 p1 => ?_
  try simp only at e1
  split at e1
  · cases e1
    cases R1 with
    | cons q t =>
      cases t
      cases (show Rp X.K w1.F _ (.list _) from q) with
      | lst h r => exact ⟨_, _, rfl, .of (W1.sF _ _ h), p1 w1 W1 N1 (.refl _) _ (it_enum (.of h) r)⟩
  · cases e1
end
def forG {Y : Sys} (T : Tg) (body : GS Y) : List D → GS Y
  | [], Γ, s => some (.nx, Γ, s)
  | d :: ds, Γ, s => match bindT T d Γ with
    | none => none
    | some Γ1 => match body Γ1 s with
      | none => none
      | some (.nx, Γ2, s2) => forG T body ds Γ2 s2
      | some (.ct, Γ2, s2) => forG T body ds Γ2 s2
      | some (.bk, Γ2, s2) => some (.nx, Γ2, s2)
      | some (.rt r, Γ2, s2) => some (.rt r, Γ2, s2)
      | some (.er c, Γ2, s2) => some (.er c, Γ2, s2)
def sFor {Y : Sys} (T : Tg) (gi : GI Y) (body : GS Y) : GS Y := bdS gi fun ds => forG T body ds
theorem IOk.goS {Y : Sys} {K : PySem.W.Frag} {W : WX} {B : Hp} {w : Wo} {σ : St} {Γ : Ev} {s : Y.S} {D' : Ends} {wi : TI} {g : GI Y} (h : IOk Y K W wi g) (Wh : Wd Y B w s) (N : EnvR K B w σ Γ) {k : List D → Ev → Y.S → Option (Fl × Ev × Y.S)} {out : Fl × Ev × Y.S} {Q : It → Hp → Prop}
    (e : bdS g k Γ s = some out) (p : PoS Y K W B w D' out)
    (c : ∀ ds Γ1 s1 J w1, Wd Y B w1 s1 → EnvR K B w1 σ Γ1 → Le w w1 → ItOk K J w1.F ds → k ds Γ1 s1 = some out → PoS Y K W B w1 D' out → Q J w1.H) : wi σ w.H Q := by
  unfold bdS at e
  cases eg : g Γ s with
  | none => rw [eg] at e; cases e
  | some o =>
    obtain ⟨o, Γ1, s1⟩ := o
    rw [eg] at e
    cases o with
    | ok r => exact h B w σ Γ s _ Q Wh N eg fun w1 W1 N1 l J r1 => c r Γ1 s1 J w1 W1 N1 l r1 e (p.le l)
    | er z =>
      cases e
      exact h B w σ Γ s _ Q Wh N eg fun w1 W1 N1 l => p w1 σ W1 N1 l
theorem it_turn {Y : Sys} {K : PySem.W.Frag} {B : Hp} {w : Wo} {σ : St} {Γ : Ev} {s : Y.S} {J : It} {F0 : Hp} {ds : List D} (It : ItOk K J F0 ds) (Wh : Wd Y B w s) (N : EnvR K B w σ Γ) (e : Same F0 w.F) {i : Nat} {x : V} {H' : Hp} (y : J.yld i w.H x H') {d : D} (hd : ds[i]? = some d) :
    ∃ w', w'.H = H' ∧ Wd Y B w' s ∧ EnvR K B w' σ Γ ∧ Le w w' ∧ Rp K w'.F x d := by
  rcases (It w.F w.H e Wh.sF i).2.2 x H' y d hd with ⟨rfl, r⟩ | ⟨T, xs, es, nT, rfl, rfl, rfl, r⟩ | ⟨T, xs, es, rfl, hT, rfl, rfl, r⟩
  · exact ⟨w, rfl, Wh, N, .refl _, r⟩
  · have Fn : w.F T = none := Wh.sF.free nT
    exact ⟨{ w with F := upd w.F T (.tup xs), H := upd w.H T (.tup xs) }, rfl, Wh.newF nT, N.newF Wh nT, Le.newF Fn, Rp.tup upd_same (r.mono (upd_sm Fn))⟩
  · exact ⟨{ w with F := upd w.F T (.tup xs) }, rfl, Wh.fzT hT, N.fzK Wh hT, Le.fzT Wh hT, Rp.tup upd_same (r.mono (same_tup Wh hT))⟩
theorem sok_for {Y : Sys} {K : PySem.W.Frag} {W : WX} {wi : TI} {gi : GI Y} {g : TG} {T : Tg} {tb : TS} {body : GS Y} (hi : IOk Y K W wi gi) (hg : GOk Y K g T) (hb : SOk Y K W tb body) : SOk Y K W (tFor wi g tb) (sFor T gi body) := by
  intro B w σ Γ s out D Wh N e p
  refine hi.goS (Q := fun J H1 => ∃ W : Nat → Nat → St → Hp → Prop, (∃ m, W 0 m σ H1) ∧ ∀ i m σ H, W i m σ H →
    (J.stop i H ∧ D.nx σ H) ∨ (J.go i H ∧ ∃ N : St → Hp → Prop, (∀ σ' H', N σ' H' → ∃ m', m' < m ∧ W (i + 1) m' σ' H') ∧ ∀ x H', J.yld i H x H' → g x σ H' fun σ2 H2 => tb { D with nx := N, ct := N, bk := D.nx } σ2 H2)) Wh N e p
    fun ds Γ1 s1 J w1 W1 N1 l1 It e1 p1 => ?_
  refine ⟨fun i m σ H => ∃ w' Γ' s', w'.H = H ∧ Wd Y B w' s' ∧ EnvR K B w' σ Γ' ∧ Le w1 w' ∧ m = ds.length - i ∧ i ≤ ds.length ∧ forG T body (ds.drop i) Γ' s' = some out,
    ⟨ds.length, w1, Γ1, s1, rfl, W1, N1, .refl _, rfl, Nat.zero_le _, by rw [List.drop_zero]; exact e1⟩, ?_⟩
  rintro i m σ H ⟨w', Γ', s', rfl, W', N', l', rfl, hle, e'⟩
  by_cases hlt : i < ds.length
  · have hd : ds[i]? = some ds[i] := List.getElem?_eq_getElem hlt
    rw [List.drop_eq_getElem_cons hlt] at e'
    unfold forG at e'
    split at e'
    · cases e'
    · rename_i Γ2 eb
      refine .inr ⟨(It w'.F w'.H l'.F W'.sF i).1 hlt, fun σ H => ∃ w' Γ' s', w'.H = H ∧ Wd Y B w' s' ∧ EnvR K B w' σ Γ' ∧ Le w1 w' ∧ forG T body (ds.drop (i + 1)) Γ' s' = some out, fun σ' H' ⟨w2, Γ2, s2, h1, h2, h3, h4, h5⟩ => ⟨ds.length - (i + 1), by omega, w2, Γ2, s2, h1, h2, h3, h4, rfl, hlt, h5⟩, fun x H' y => ?_⟩
      obtain ⟨w2, rfl, W2, N2, l2, r2⟩ := it_turn It W' N' l'.F y hd
      refine hg B w2 σ Γ' Γ2 s' x _ _ W2 N2 r2 eb fun σ3 N3 _ => ?_
      split at e'
      · cases e'
      · rename_i Γ4 s4 eo
        exact hb B w2 σ3 Γ2 s' _ _ W2 N3 eo fun w4 σ4 W4 N4 l4 => ⟨w4, Γ4, s4, rfl, W4, N4, (l'.trans l2).trans l4, e'⟩
      · rename_i Γ4 s4 eo
        exact hb B w2 σ3 Γ2 s' _ _ W2 N3 eo fun w4 σ4 W4 N4 l4 => ⟨w4, Γ4, s4, rfl, W4, N4, (l'.trans l2).trans l4, e'⟩
      · rename_i Γ4 s4 eo
        cases e'
        exact hb B w2 σ3 Γ2 s' _ _ W2 N3 eo fun w4 σ4 W4 N4 l4 => p1 w4 σ4 W4 N4 ((l'.trans l2).trans l4)
      · rename_i r Γ4 s4 eo
        cases e'
        exact hb B w2 σ3 Γ2 s' _ _ W2 N3 eo fun w4 x W4 N4 l4 => p1 w4 x W4 N4 ((l'.trans l2).trans l4)
      · rename_i c Γ4 s4 eo
        cases e'
        exact hb B w2 σ3 Γ2 s' _ _ W2 N3 eo fun w4 σ4 W4 N4 l4 => p1 w4 σ4 W4 N4 ((l'.trans l2).trans l4)
  · have ei : i = ds.length := by omega
    subst ei
    rw [List.drop_length] at e'
    cases e'
    exact .inl ⟨(It w'.F w'.H l'.F W'.sF _).2.1 (Nat.le_refl _), p1 w' σ W' N' l'⟩
theorem ms_for {Y : Sys} {X : Cx} {W : WX} {tg iter : Expr} {body : List Stmt} {wi : TI} {g : TG} {tb : TS} {gi : GI Y} {T : Tg} {gb : GS Y} {pos : Pos} (hp : PassesOwn (model X.prog X.w) X.A X.env X.xe) (hc : X.calm = true)
    (hi : MI Y X W tg iter wi gi) (hg : MG Y X tg g T) (hb : MSs Y X W body tb gb) (hs : ∀ x, foldedSetIterable iter X.env x = pure x := by intro _; rfl) : MS Y X W (.For tg iter body [] pos) (tFor wi g tb) (sFor T gi gb) :=
  ⟨ps_for hp hc hi.pe hg.pe hb.pe hs, sok_for hi.ok hg.ok hb.ok⟩
def whileG {Y : Sys} (t : GT Y) (body : GS Y) : Nat → GS Y
  | 0, _, _ => none
  | n + 1, Γ, s => match t Γ s with
    | none => none
    | some (.er c, Γ1, s1) => some (.er c, Γ1, s1)
    | some (.ok false, Γ1, s1) => some (.nx, Γ1, s1)
    | some (.ok true, Γ1, s1) => match body Γ1 s1 with
      | none => none
      | some (.nx, Γ2, s2) => whileG t body n Γ2 s2
      | some (.ct, Γ2, s2) => whileG t body n Γ2 s2
      | some (.bk, Γ2, s2) => some (.nx, Γ2, s2)
      | some (.rt r, Γ2, s2) => some (.rt r, Γ2, s2)
      | some (.er c, Γ2, s2) => some (.er c, Γ2, s2)
theorem sok_while {Y : Sys} {K : PySem.W.Frag} {W : WX} {tc : TT} {tb : TS} {gt : GT Y} {gb : GS Y} (n : Nat) (hc : TOk Y K W tc gt) (hb : SOk Y K W tb gb) : SOk Y K W (tWhile tc tb) (whileG gt gb n) := by
  intro B w σ Γ s out D Wh N e p
  refine ⟨fun m σ H => ∃ w' Γ' s', w'.H = H ∧ Wd Y B w' s' ∧ EnvR K B w' σ Γ' ∧ Le w w' ∧ whileG gt gb m Γ' s' = some out, ⟨n, w, Γ, s, rfl, Wh, N, .refl _, e⟩, ?_⟩
  rintro m σ H ⟨w', Γ', s', rfl, W', N', l', e'⟩
  cases m with
  | zero => cases e'
  | succ m =>
    unfold whileG at e'
    split at e'
    · cases e'
    · rename_i c Γ1 s1 et
      cases e'
      exact hc B w' σ Γ' s' _ _ W' N' et fun w1 W1 N1 l1 => p w1 σ W1 N1 (l'.trans l1)
    · rename_i Γ1 s1 et
      cases e'
      refine hc B w' σ Γ' s' _ _ W' N' et fun w1 W1 N1 l1 => ?_
      exact iteF (p w1 σ W1 N1 (l'.trans l1))
    · rename_i Γ1 s1 et
      refine hc B w' σ Γ' s' _ _ W' N' et fun w1 W1 N1 l1 => ?_
      refine iteT ⟨fun σ H => ∃ w' Γ' s', w'.H = H ∧ Wd Y B w' s' ∧ EnvR K B w' σ Γ' ∧ Le w w' ∧ whileG gt gb m Γ' s' = some out, fun σ' H' h => ⟨m, Nat.lt_succ_self _, h⟩, ?_⟩
      split at e'
      · cases e'
      · rename_i Γ4 s4 eo
        exact hb B w1 σ Γ1 s1 _ _ W1 N1 eo fun w4 σ4 W4 N4 l4 => ⟨w4, Γ4, s4, rfl, W4, N4, (l'.trans l1).trans l4, e'⟩
      · rename_i Γ4 s4 eo
        exact hb B w1 σ Γ1 s1 _ _ W1 N1 eo fun w4 σ4 W4 N4 l4 => ⟨w4, Γ4, s4, rfl, W4, N4, (l'.trans l1).trans l4, e'⟩
      · rename_i Γ4 s4 eo
        cases e'
        exact hb B w1 σ Γ1 s1 _ _ W1 N1 eo fun w4 σ4 W4 N4 l4 => p w4 σ4 W4 N4 ((l'.trans l1).trans l4)
      · rename_i r Γ4 s4 eo
        cases e'
        exact hb B w1 σ Γ1 s1 _ _ W1 N1 eo fun w4 x W4 N4 l4 => p w4 x W4 N4 ((l'.trans l1).trans l4)
      · rename_i c Γ4 s4 eo
        cases e'
        exact hb B w1 σ Γ1 s1 _ _ W1 N1 eo fun w4 σ4 W4 N4 l4 => p w4 σ4 W4 N4 ((l'.trans l1).trans l4)
theorem ms_while {Y : Sys} {X : Cx} {W : WX} {c : Expr} {body : List Stmt} {tc : TT} {tb : TS} {gt : GT Y} {gb : GS Y} {pos : Pos} (n : Nat) (hp : PassesOwn (model X.prog X.w) X.A X.env X.xe) (hc : MT Y X W c tc gt) (hb : MSs Y X W body tb gb) :
    MS Y X W (.While c body [] pos) (tWhile tc tb) (whileG gt gb n) := ⟨ps_while hp hc.pe hb.pe, sok_while n hc.ok hb.ok⟩
end FX
set_option Elab.async false
set_option linter.all false
set_option maxRecDepth 100000
set_option maxHeartbeats 1000000
namespace FX
open PySem PySem.Spec L2
def wipeE (Γ : Ev) : List Nat → Ev
  | [] => Γ
  | v :: vs => (wipeE Γ vs).set v none
def backE (Γ0 Γt : Ev) : List Nat → Ev
  | [] => Γt
  | v :: vs => (backE Γ0 Γt vs).set v (match Γ0[v]? with
    | some (some (.v d)) => some (.v d)
    | some (some (.h k)) => some (.h k)
    | some (some (.raw x)) => some (.raw x)
    | _ => none)
def compG {Y : Sys} (T : Tg) (own : List Nat) (gt : GT Y) (ge : GE Y) : List D → List D → Ev → Y.S → Option (List D × Ev × Y.S)
  | [], acc, Γ, s => some (acc, Γ, s)
  | d :: ds, acc, Γ, s => match bindT T d (wipeE Γ own) with
    | none => none
    | some Γ1 => match gt Γ1 s with
      | some (.ok true, Γ2, s2) => match ge Γ2 s2 with
        | some (.ok (.v e), Γ3, s3) => if sizeOk acc.length = true then compG T own gt ge ds (acc ++ [e]) Γ3 s3 else none
        | _ => none
      | some (.ok false, Γ2, s2) => compG T own gt ge ds acc Γ2 s2
      | _ => none
def gComp {Y : Sys} (T : Tg) (own : List Nat) (gi : GI Y) (gt : GT Y) (ge : GE Y) : GE Y := bd gi fun ds Γ s => match compG T own gt ge ds [] Γ s with
  | some (acc, Γ', s') => some (.ok (.o (.list acc)), backE Γ Γ' own, s')
  | none => none
def gYes {Y : Sys} : GT Y := fun Γ s => some (.ok true, Γ, s)
section
variable {Y : Sys} {K : PySem.W.Frag} {W : WX} {B : Hp} {w w' : Wo} {σ σ' : St} {Γ Γ' Γ0 Γt : Ev} {s s' : Y.S}
theorem EnvR.wipe (N : EnvR K B w σ Γ) : ∀ vs : List Nat, EnvR K B w (L2.wipe σ vs) (wipeE Γ vs)
  | [] => N
  | v :: vs => (EnvR.wipe N vs).del v none
theorem wipe_get {vs : List Nat} {i : Nat} (h : i ∉ vs) : (L2.wipe σ vs)[i]? = σ[i]? := by
  induction vs with
  | nil => rfl
  | cons v vs ih =>
    show ((L2.wipe σ vs).set v none)[i]? = σ[i]?
    rw [List.getElem?_set_ne (by rintro rfl; exact h List.mem_cons_self)]
    exact ih fun z => h (List.mem_cons_of_mem _ z)
theorem backE_eq (Γ0 Γt : Ev) : ∀ vs : List Nat, ∀ {i : Nat} {r : R}, (backE Γ0 Γt vs)[i]? = some (some r) → (i ∉ vs ∧ Γt[i]? = some (some r)) ∨ (i ∈ vs ∧ Γ0[i]? = some (some r) ∧ ∀ d, r ≠ .o d ∧ ∀ k, r ≠ .b k)
  | [], _, _, h => .inl ⟨by simp, h⟩
  | v :: vs, i, r, h => by
    have h : ((backE Γ0 Γt vs).set v _)[i]? = some (some r) := h
    rcases getSet h with ⟨rfl, z⟩ | ⟨ne, h⟩
    · refine .inr ⟨List.mem_cons_self, ?_⟩
      split at z
      · rename_i e; cases z; exact ⟨e, fun d => ⟨fun z => (nomatch z), fun k z => (nomatch z)⟩⟩
      · rename_i e; cases z; exact ⟨e, fun d => ⟨fun z => (nomatch z), fun k z => (nomatch z)⟩⟩
      · rename_i e; cases z; exact ⟨e, fun d => ⟨fun z => (nomatch z), fun k z => (nomatch z)⟩⟩
      · cases z
    · rcases backE_eq Γ0 Γt vs h with ⟨a, b⟩ | ⟨a, b⟩
      · exact .inl ⟨by simp only [List.mem_cons, not_or]; exact ⟨fun z => ne z.symm, a⟩, b⟩
      · exact .inr ⟨List.mem_cons_of_mem _ a, b⟩
theorem SlR.le (l : Le w w') {x : V} : ∀ {r : R}, (∀ d, r ≠ .o d ∧ ∀ k, r ≠ .b k) → SlR K B w x r → SlR K B w' x r
  | .v d, _, h => Rp.mono l.F h
  | .h i, _, ⟨p, e, q⟩ => by
    obtain ⟨m, em⟩ := l.et
    refine ⟨p, ?_, q⟩
    rw [em, List.getElem?_append_left (List.getElem?_eq_some_iff.mp e).1]
    exact e
  | .raw _, _, h => h
  | .e _, _, ⟨p, cls, e, q, c⟩ => ⟨p, cls, e, l.F _ _ q, c⟩
  | .o d, n, _ => absurd rfl (n d).1
  | .b k, n, _ => absurd rfl ((n .none).2 k)
theorem backE_len (Γ0 Γt : Ev) : ∀ vs : List Nat, (backE Γ0 Γt vs).length = Γt.length
  | [] => rfl
  | v :: vs => by unfold backE; rw [List.length_set, backE_len Γ0 Γt vs]
theorem EnvR.back {vs : List Nat} (N0 : EnvR K B w σ Γ0) (l : Le w w') (N : EnvR K B w' σ' Γt) (hσ : L2.wipe σ' vs = L2.wipe σ vs) : EnvR K B w' σ (backE Γ0 Γt vs) := by
  have hl : σ'.length = σ.length := by
    have := congrArg List.length hσ
    rw [L2.wipe_length, L2.wipe_length] at this
    exact this
  have out : ∀ {i : Nat}, i ∉ vs → σ[i]? = σ'[i]? := fun {i} h => by
    rw [← wipe_get (σ := σ) h, ← hσ, wipe_get h]
  refine ⟨by rw [backE_len, ← N.len, hl], fun i r h => ?_, fun i j d e x hi hj hx hy => ?_⟩
  · rcases backE_eq Γ0 Γt vs h with ⟨a, b⟩ | ⟨a, b, c⟩
    · obtain ⟨x, hx, q⟩ := N.sl i r b
      exact ⟨x, by rw [out a]; exact hx, q⟩
    · obtain ⟨x, hx, q⟩ := N0.sl i r b
      exact ⟨x, hx, q.le l c⟩
  · rcases backE_eq Γ0 Γt vs hi with ⟨a, b⟩ | ⟨a, b, c⟩
    · rcases backE_eq Γ0 Γt vs hj with ⟨a', b'⟩ | ⟨a', b', c'⟩
      · exact N.inj i j d e x b b' (by rw [← out a]; exact hx) (by rw [← out a']; exact hy)
      · exact absurd rfl (c' e).1
    · exact absurd rfl (c d).1
theorem Wd.hold (Wh : Wd Y B w s) {p : Addr} {o : HO} (hp : w.H p = some o) (fp : w.F p = none) (ap : p ∉ w.A) (bp : B p = none) : Wd Y (upd B p o) w s := by
  refine ⟨Wh.sF, fun q u e => ?_, fun q u e => ?_, fun q e => ⟨(Wh.dA q e).1, ?_⟩, Wh.rel⟩
  · by_cases hq : q = p
    · subst hq; rw [upd_same] at e; cases e; exact hp
    · rw [upd_ne hq] at e; exact Wh.sB q u e
  · have hq : q ≠ p := fun z => by subst z; rw [fp] at e; cases e
    rw [upd_ne hq]; exact Wh.dj q u e
  · have hq : q ≠ p := fun z => by subst z; exact ap e
    rw [upd_ne hq]; exact (Wh.dA q e).2
theorem EnvR.hold (N : EnvR K B w σ Γ) {p : Addr} {o : HO} (oth : ∀ (i : Nat) (e : D), Γ[i]? = some (some (R.o e)) → σ[i]? ≠ some (some (.ref p))) : EnvR K (upd B p o) w σ Γ := ⟨N.len, fun i r e => by
  obtain ⟨y, a, b⟩ := N.sl i r e
  refine ⟨y, a, ?_⟩
  cases r with
  | o d2 =>
    obtain ⟨q, rfl, own2, fq, bq, aq⟩ := b
    have hq : q ≠ p := fun z => by subst z; exact oth i d2 e a
    exact ⟨q, rfl, own2, fq, by rw [upd_ne hq]; exact bq, aq⟩
  | v _ => exact b
  | h _ => exact b
  | raw _ => exact b
  | e _ => exact b
  | b _ => exact b, N.inj⟩
theorem Wd.bump {p : Addr} {o o' : HO} (Wh : Wd Y (upd B p o) w s) (hnt : ∀ xs, o ≠ .tup xs) : Wd Y (upd B p o') { w with H := upd w.H p o' } s := by
  have hp : upd B p o p = some o := upd_same
  have fp : w.F p = none := Wh.apart hp hnt
  have ap : p ∉ w.A := fun z => by
    have := (Wh.dA p z).2
    rw [hp] at this; cases this
  refine ⟨fun q u e => ?_, fun q u e => ?_, fun q u e => ?_, fun q e => ⟨(Wh.dA q e).1, ?_⟩, Y.frame Wh.rel (Same.refl _) fun q hq => ?_⟩
  · show upd w.H p o' q = some u
    rw [upd_ne (ne_of_none e fp)]; exact Wh.sF q u e
  · show upd w.H p o' q = some u
    by_cases hq : q = p
    · subst hq; rw [upd_same] at e ⊢; exact e
    · rw [upd_ne hq] at e ⊢; exact Wh.sB q u (by rw [upd_ne hq]; exact e)
  · have hq : q ≠ p := fun z => by subst z; rw [fp] at e; cases e
    have := Wh.dj q u e
    rw [upd_ne hq] at this ⊢; exact this
  · have hq : q ≠ p := fun z => by subst z; exact ap e
    have := (Wh.dA q e).2
    rw [upd_ne hq] at this ⊢; exact this
  · show upd w.H p o' q = w.H q
    rw [upd_ne (by rintro rfl; exact ap hq)]
theorem EnvR.bump {p : Addr} {o o' : HO} (N : EnvR K (upd B p o) w σ Γ) : EnvR K (upd B p o') { w with H := upd w.H p o' } σ Γ := ⟨N.len, fun i r e => by
  obtain ⟨y, a, b⟩ := N.sl i r e
  refine ⟨y, a, ?_⟩
  cases r with
  | o d2 =>
    obtain ⟨q, rfl, own2, fq, bq, aq⟩ := b
    have hq : q ≠ p := fun z => by subst z; rw [upd_same] at bq; cases bq
    rw [upd_ne hq] at bq
    exact ⟨q, rfl, own2.move (Same.refl _) (upd_ne hq), fq, by rw [upd_ne hq]; exact bq, aq⟩
  | v _ => exact b
  | h _ => exact b
  | raw _ => exact b
  | e _ => exact b
  | b _ => exact b, N.inj⟩
abbrev W0 : WX := fun _ _ _ _ => False
theorem eok_lc {wi : TI} {gi : GI Y} {g : TG} {T : Tg} {tt : TT} {gt : GT Y} {te : TE} {ge : GE Y} {own : List Nat} (hi : IOk Y K W wi gi) (hg : GOk Y K g T) (ht : TOk Y K W0 tt gt) (he : EOk Y K W0 te ge) (hs : ∀ i ∈ T.sl, i ∈ own) :
    EOk Y K W (tLc wi g tt te own) (gComp T own gi gt ge) := by
  intro B w σ Γ s out Q Wh N e p
  unfold gComp bd at e
  cases eg : gi Γ s with
  | none => rw [eg] at e; cases e
  | some o =>
    obtain ⟨o, Γ1, s1⟩ := o
    rw [eg] at e
    cases o with
    | er z =>
      cases e
      exact hi B w σ Γ s _ _ Wh N eg fun w1 W1 N1 l => p w1 W1 N1 l
    | ok ds =>
      simp only at e
      split at e
      · rename_i acc Γe se ec
        cases e
        refine hi B w σ Γ s _ _ Wh N eg fun w1 W1 N1 l J It => ?_
        intro L nL
        have fL : w1.F L = none := W1.sF.free nL
        have bL : B L = none := W1.sB.free nL
        have aL : L ∉ w1.A := fun z => Y.live W1.rel _ z nL
        have oL : ∀ {σ : St} {Γ : Ev}, EnvR K B w1 σ Γ → ∀ (i : Nat) (e : D), Γ[i]? = some (some (R.o e)) → σ[i]? ≠ some (some (.ref L)) := fun N i e hi hs => by
          obtain ⟨y, a, q, rfl, own, _⟩ := N.sl i _ hi
          rw [hs] at a; cases a
          obtain ⟨u, hu⟩ := own.obj
          rw [nL] at hu; cases hu
        refine ⟨fun i m H => ∃ w' Γ' s' xs ac, w'.H = H ∧ Wd Y (upd B L (.lst xs)) w' s' ∧ EnvR K (upd B L (.lst xs)) w' (L2.wipe σ own) (wipeE Γ' own) ∧ EnvR K (upd B L (.lst xs)) w' σ (backE Γ1 Γ' own) ∧ Le w1 w' ∧ RpA K w'.F xs ac ∧ m = ds.length - i ∧ i ≤ ds.length ∧ compG T own gt ge (ds.drop i) ac Γ' s' = some (acc, Γe, se),
          ⟨ds.length, { w1 with H := upd w1.H L (.lst []) }, Γ1, s1, [], [], rfl, (W1.newH nL).hold upd_same fL aL bL, ((N1.newH nL).hold (oL N1)).wipe own, ?_, ⟨Same.refl _, [], by simp⟩, .nil, rfl, Nat.zero_le _, by rw [List.drop_zero]; exact ec⟩, ?_⟩
        · exact EnvR.back (w := { w1 with H := upd w1.H L (.lst []) }) ((N1.newH nL).hold (oL N1)) (.refl _) ((N1.newH nL).hold (oL N1)) rfl
        rintro i m H ⟨w', Γ', s', xs, ac, rfl, W', N', Nb, l', ra, rfl, hle, e'⟩
        have hL : w'.H L = some (.lst xs) := W'.sB L _ upd_same
        have fL' : w'.F L = none := W'.apart (upd_same (o := .lst xs)) fun _ z => nomatch z
        have aL' : L ∉ w'.A := fun z => by
          have := (W'.dA L z).2
          rw [upd_same] at this; cases this
        have sm : Same B (upd B L (.lst xs)) := upd_sm bL
        by_cases hlt : i < ds.length
        · have hd : ds[i]? = some ds[i] := List.getElem?_eq_getElem hlt
          rw [List.drop_eq_getElem_cons hlt] at e'
          unfold compG at e'
          split at e'
          · cases e'
          · rename_i Γ2 eb
            refine .inr ⟨(It w'.F w'.H l'.F W'.sF i).1 hlt, fun H => ∃ w' Γ' s' xs ac, w'.H = H ∧ Wd Y (upd B L (.lst xs)) w' s' ∧ EnvR K (upd B L (.lst xs)) w' (L2.wipe σ own) (wipeE Γ' own) ∧ EnvR K (upd B L (.lst xs)) w' σ (backE Γ1 Γ' own) ∧ Le w1 w' ∧ RpA K w'.F xs ac ∧ compG T own gt ge (ds.drop (i + 1)) ac Γ' s' = some (acc, Γe, se),
              fun H' ⟨w2, Γ2, s2, xs2, ac2, h1, h2, h3, h3', h4, h5, h6⟩ => ⟨ds.length - (i + 1), by omega, w2, Γ2, s2, xs2, ac2, h1, h2, h3, h3', h4, h5, rfl, hlt, h6⟩, fun x H' y => ?_⟩
            obtain ⟨w2, rfl, W2, N2, l2, r2⟩ := it_turn It W' N' l'.F y hd
            refine hg _ w2 _ _ Γ2 s' x _ _ W2 N2 r2 eb fun σ3 N3 hw => ?_
            have hww : L2.wipe σ3 own = L2.wipe σ own := (hw own hs).trans (by
              have set_in : ∀ (us : List Nat) (σ : St) (v : Nat), L2.wipe (σ.set v none) us = (L2.wipe σ us).set v none := by
                intro us
                induction us with
                | nil => exact fun _ _ => rfl
                | cons u us ih =>
                  intro σ v
                  show (L2.wipe (σ.set v none) us).set u none = ((L2.wipe σ us).set u none).set v none
                  rw [ih]
                  by_cases h : v = u
                  · subst h; rfl
                  · rw [List.set_comm _ _ h]
              have : ∀ (vs : List Nat) (σ : St), L2.wipe (L2.wipe σ vs) vs = L2.wipe σ vs := by
                intro vs
                induction vs with
                | nil => exact fun _ => rfl
                | cons v vs ih =>
                  intro σ
                  show (L2.wipe ((L2.wipe σ vs).set v none) vs).set v none = (L2.wipe σ vs).set v none
                  rw [set_in, ih, List.set_set]
              exact this own σ)
            refine ⟨hww, ?_⟩
            have again : ∀ {w4 : Wo} {Γ4 : Ev} {s4 : Y.S} {ys : List V} {bc : List D}, Wd Y (upd B L (.lst ys)) w4 s4 → EnvR K (upd B L (.lst ys)) w4 σ3 Γ4 → Le w1 w4 → RpA K w4.F ys bc → compG T own gt ge (ds.drop (i + 1)) bc Γ4 s4 = some (acc, Γe, se) →
                ∃ w' Γ' s' xs ac, w'.H = w4.H ∧ Wd Y (upd B L (.lst xs)) w' s' ∧ EnvR K (upd B L (.lst xs)) w' (L2.wipe σ own) (wipeE Γ' own) ∧ EnvR K (upd B L (.lst xs)) w' σ (backE Γ1 Γ' own) ∧ Le w1 w' ∧ RpA K w'.F xs ac ∧ compG T own gt ge (ds.drop (i + 1)) ac Γ' s' = some (acc, Γe, se) := fun {w4 Γ4 s4 ys bc} W4 N4 l4 r4 e4 => by
              refine ⟨w4, Γ4, s4, ys, bc, rfl, W4, ?_, ?_, l4, r4, e4⟩
              · rw [← hww]; exact N4.wipe own
              · have Nx : EnvR K (upd B L (.lst ys)) { w1 with H := upd w1.H L (.lst ys) } σ Γ1 := (N1.newH nL).hold (oL N1)
                exact EnvR.back Nx ⟨l4.F, l4.et⟩ N4 hww
            split at e'
            · rename_i Γ4 s4 et
              split at e'
              · rename_i ev Γ5 s5 ee
                split at e'
                · rename_i hz
                  refine ht _ w2 σ3 Γ2 s' _ _ W2 N3 et fun w4 W4 N4 l4 => iteT ?_
                  refine he _ w4 σ3 Γ4 s4 _ _ W4 N4 ee fun w5 W5 N5 l5 v rv => ?_
                  have hL5 : w5.H L = some (.lst xs) := W5.sB L _ upd_same
                  have ra5 : RpA K w5.F xs ac := ra.mono ((l2.trans (l4.trans l5)).F)
                  refine ⟨xs, hL5, by rw [ra.length]; exact sizeOk_lt hz, ?_⟩
                  obtain ⟨wa, Γa, sa, xa, aa, h1, h⟩ := again (W5.bump (o' := .lst (xs ++ [v])) fun _ z => nomatch z) N5.bump (w4 := { w5 with H := upd w5.H L (.lst (xs ++ [v])) }) ⟨((l'.trans l2).trans (l4.trans l5)).F, ((l'.trans l2).trans (l4.trans l5)).et⟩ (ra5.append (.cons rv .nil)) e'
                  exact ⟨wa, Γa, sa, xa, aa, h1, h⟩
                · cases e'
              · cases e'
            · rename_i Γ4 s4 et
              exact ht _ w2 σ3 Γ2 s' _ _ W2 N3 et fun w4 W4 N4 l4 => iteF (again W4 N4 ((l'.trans l2).trans l4) (ra.mono (l2.trans l4).F) e')
            · cases e'
        · have ei : i = ds.length := by omega
          subst ei
          rw [List.drop_length] at e'
          cases e'
          refine .inl ⟨(It w'.F w'.H l'.F W'.sF _).2.1 (Nat.le_refl _), ?_⟩
          refine p w' (W'.weak sm) (Nb.weak sm) (l.trans l') _ ⟨⟨L, rfl, ⟨xs, hL, ra⟩, fL', bL, aL'⟩, fun i e hi hs => ?_⟩
          obtain ⟨y, a, q, rfl, own, _, bq, _⟩ := Nb.sl i _ hi
          rw [hs] at a; cases a
          rw [upd_same] at bq; cases bq
      · cases e
end
end FX
set_option Elab.async false
set_option linter.all false
set_option maxRecDepth 100000
set_option maxHeartbeats 1000000
namespace FX
open PySem PySem.Spec L2
section
variable {Y : Sys} {X : Cx} {W : WX} {tg iter elt e : Expr} {es : List Expr} {pos p : Pos}
theorem me_lc {scope : Scope} {own : List (Str × Nat)} {wi : TI} {gi : GI Y} {g : TG} {T : Tg} {te : TE} {ge : GE Y} (hc : X.calm = true) (hN : X.N.Nodup) (hi : MI Y X W tg iter wi gi) (ok : BlkOk X.N X.env.scope scope own)
    (hg : ∀ (s : Shared) (H : Hp) (C : Addr) (cl : List (Str × Addr)) (fp : List Addr), MG Y (X.blk s H scope (compEnvC scope cl C X.env) fp) tg g T)
    (he : ∀ (s : Shared) (H : Hp) (C : Addr) (cl : List (Str × Addr)) (fp : List Addr), ME Y (X.blk s H scope (compEnvC scope cl C X.env) fp) W0 elt te ge) (hs : ∀ i ∈ T.sl, i ∈ own.map (·.2))
    (hf : ∀ x, foldedSetIterable iter X.env x = pure x := by intro _; rfl) :
    ME Y X W (.ListComp elt [⟨tg, iter, [], 0⟩] scope pos) (tLc wi g tYes te (own.map (·.2))) (gComp T (own.map (·.2)) gi gYes ge) :=
  ⟨pe_lc hc hN hi.pe ok (fun s H C cl fp => (hg s H C cl fp).pe) (fun _ _ _ _ _ => pts_nil) (fun s H C cl fp => (he s H C cl fp).pe) hf,
    eok_lc hi.ok (hg X.s_0 X.H_0 0 [] []).ok (fun B w σ Γ s out Q Wh N e p => by cases e; exact p w Wh N (.refl _)) (he X.s_0 X.H_0 0 [] []).ok hs⟩
theorem me_lcif {c : Expr} {scope : Scope} {own : List (Str × Nat)} {wi : TI} {gi : GI Y} {g : TG} {T : Tg} {tt : TT} {gt : GT Y} {te : TE} {ge : GE Y} (hc : X.calm = true) (hN : X.N.Nodup) (hi : MI Y X W tg iter wi gi) (ok : BlkOk X.N X.env.scope scope own)
    (hg : ∀ (s : Shared) (H : Hp) (C : Addr) (cl : List (Str × Addr)) (fp : List Addr), MG Y (X.blk s H scope (compEnvC scope cl C X.env) fp) tg g T)
    (ht : ∀ (s : Shared) (H : Hp) (C : Addr) (cl : List (Str × Addr)) (fp : List Addr), MT Y (X.blk s H scope (compEnvC scope cl C X.env) fp) W0 c tt gt)
    (he : ∀ (s : Shared) (H : Hp) (C : Addr) (cl : List (Str × Addr)) (fp : List Addr), ME Y (X.blk s H scope (compEnvC scope cl C X.env) fp) W0 elt te ge) (hs : ∀ i ∈ T.sl, i ∈ own.map (·.2))
    (hf : ∀ x, foldedSetIterable iter X.env x = pure x := by intro _; rfl) :
    ME Y X W (.ListComp elt [⟨tg, iter, [c], 0⟩] scope pos) (tLc wi g tt te (own.map (·.2))) (gComp T (own.map (·.2)) gi gt ge) :=
  ⟨pe_lc hc hN hi.pe ok (fun s H C cl fp => (hg s H C cl fp).pe) (fun s H C cl fp => pts_one (ht s H C cl fp).pe) (fun s H C cl fp => (he s H C cl fp).pe) hf,
    eok_lc hi.ok (hg X.s_0 X.H_0 0 [] []).ok (ht X.s_0 X.H_0 0 [] []).ok (he X.s_0 X.H_0 0 [] []).ok hs⟩
theorem ms_setLcif {i : Nat} {y : Str} {py spos : Pos} {c : Expr} {scope : Scope} {own : List (Str × Nat)} {wi : TI} {gi : GI Y} {g : TG} {T : Tg} {tt : TT} {gt : GT Y} {te : TE} {ge : GE Y} (hc : X.calm = true) (hN : X.N.Nodup) (hy : X.N[i]? = some y) (hyl : X.env.scope.names.lookup y = some .local)
    (hsw : swapsWith (.ListComp elt [⟨tg, iter, [c], 0⟩] scope pos) (some (.Name y py)) spos.line X.env = pure true) (hi : MI Y X W tg iter wi gi) (ok : BlkOk X.N X.env.scope scope own)
    (hg : ∀ (s : Shared) (H : Hp) (C : Addr) (cl : List (Str × Addr)) (fp : List Addr), MG Y (X.blk s H scope (compEnvC scope cl C X.env) fp) tg g T)
    (ht : ∀ (s : Shared) (H : Hp) (C : Addr) (cl : List (Str × Addr)) (fp : List Addr), MT Y (X.blk s H scope (compEnvC scope cl C X.env) fp) W0 c tt gt)
    (he : ∀ (s : Shared) (H : Hp) (C : Addr) (cl : List (Str × Addr)) (fp : List Addr), ME Y (X.blk s H scope (compEnvC scope cl C X.env) fp) W0 elt te ge) (hs : ∀ i ∈ T.sl, i ∈ own.map (·.2))
    (hf : ∀ x, foldedSetIterable iter X.env x = pure x := by intro _; rfl) :
    MS Y X W (.Assign [.Name y py] (.ListComp elt [⟨tg, iter, [c], 0⟩] scope pos) spos) (tAsg (tLc wi g tt te (own.map (·.2))) (L2.gName i)) (sSet i (gComp T (own.map (·.2)) gi gt ge)) :=
  ⟨ps_setLc hc hN hy hyl hsw hi.pe ok (fun s H C cl fp => (hg s H C cl fp).pe) (fun s H C cl fp => pts_one (ht s H C cl fp).pe) (fun s H C cl fp => (he s H C cl fp).pe) hf,
    sok_set (eok_lc hi.ok (hg X.s_0 X.H_0 0 [] []).ok (ht X.s_0 X.H_0 0 [] []).ok (he X.s_0 X.H_0 0 [] []).ok hs)⟩
end
def argR : R → Bool
  | .v _ => true
  | .h _ => true
  | .raw _ => true
  | .e _ => true
  | _ => false
inductive ArA (K : PySem.W.Frag) (B : Hp) (w : Wo) : List V → List R → Prop
  | nil : ArA K B w [] []
  | cons {x : V} {xs : List V} {r : R} {rs : List R} : argR r = true → SlR K B w x r → ArA K B w xs rs → ArA K B w (x :: xs) (r :: rs)
theorem ArA.length {K : PySem.W.Frag} {B : Hp} {w : Wo} : ∀ {xs : List V} {rs : List R}, ArA K B w xs rs → xs.length = rs.length
  | _, _, .nil => rfl
  | _, _, .cons _ _ t => by simp [ArA.length t]
def PoC (Y : Sys) (K : PySem.W.Frag) (B : Hp) (w : Wo) (Q : VK) (E : XK) : Oc R × Y.S → Prop
  | (.ok r, s') => ∀ w' x, Wd Y B w' s' → SlR K B w' x r → Le w w' → Q x w'.H
  | (.er n, s') => ∀ w', Wd Y B w' s' → Le w w' → ∀ c, Cn K n c → E c none w'.H
abbrev Fm (Y : Sys) := List R → Y.S → Option (Oc R × Y.S)
def spM (Y : Sys) (K : PySem.W.Frag) (n : Nat) (m : Fm Y) : Sp := fun vs H Q E => ∃ B w rs s out, w.H = H ∧ Wd Y B w s ∧ ArA K B w vs rs ∧ rs.length = n ∧ m rs s = some out ∧ PoC Y K B w Q E out
def mOf {Y : Sys} (N : Nat) (body : GS Y) : Fm Y := fun rs s => match body (rs.map some ++ List.replicate (N - rs.length) none) s with
  | some (.rt r, _, s') => some (.ok r, s')
  | some (.nx, _, s') => some (.ok (.v .none), s')
  | some (.er c, _, s') => some (.er c, s')
  | _ => none
theorem start_env {K : PySem.W.Frag} {B : Hp} {w : Wo} {vs : List V} {rs : List R} (h : ArA K B w vs rs) (n m : Nat) (e : n = m) : EnvR K B w (vs.map some ++ List.replicate n none) (rs.map some ++ List.replicate m none) := by
  subst e
  have hl := h.length
  have key : ∀ {vs : List V} {rs : List R}, ArA K B w vs rs → ∀ (i : Nat) (r : R), (rs.map some ++ List.replicate n none)[i]? = some (some r) → ∃ x, (vs.map some ++ List.replicate n none)[i]? = some (some x) ∧ SlR K B w x r ∧ argR r = true := by
    intro vs rs h
    induction h with
    | nil =>
      intro i r e
      simp only [List.map_nil, List.nil_append] at e
      have := List.mem_replicate.mp (List.mem_of_getElem? e)
      cases this.2
    | cons a b t ih =>
      intro i r e
      cases i with
      | zero => simp at e; subst e; exact ⟨_, rfl, b, a⟩
      | succ i => exact ih i r (by simpa using e)
  refine ⟨by simp [hl], fun i r e => ?_, fun i j d e' x hi hj _ _ => ?_⟩
  · obtain ⟨x, a, b, _⟩ := key h i r e
    exact ⟨x, a, b⟩
  · obtain ⟨_, _, _, z⟩ := key h i _ hi
    cases z
section
variable {P : Program} {w : World} {K : PySem.W.Frag} {mg : Str → Option Value} {base : Heap} {Y : Sys}
theorem fn_okM {x qual : Str} {st : Stmt} {f : Addr} {fd : FuncData} {N ps : List Str} {k : Nat} (F : Fun K x qual st f fd) (S : FnScope N ps (defScope st)) {body : GS Y}
    (hb : ∀ (cdv : Value) (A : Around) (outer : List Env) (s : Shared) (H : Hp) (E : XK), Room k (A.deeper (PyProof.Rows.envOfC qual (defScope st) s.heap.objs.size f cdv)) →
      ∃ t, MSs Y (cxOf (L2.CX P w) P w K mg base N qual (defScope st) f cdv A outer s H E) (fun cls d _ H => E cls d H) (defBody st) t body) :
    FnOk P w K mg base (L2.CX P w) (k + 1) f fd ps (spM Y K ps.length (mOf N.length body)) := by
  refine F.okX S (fun vs H Q E h => ?_) (fun cdv A outer s H vs Q E hr h => ?_)
  · obtain ⟨B, wo, rs, st', out, rfl, Wh, ar, hl, hm, p⟩ := h
    rw [ar.length, hl]
  · obtain ⟨B, wo, rs, st', out, rfl, Wh, ar, hl, hm, p⟩ := h
    obtain ⟨t, pe, ok⟩ := hb cdv A outer s wo.H E hr
    refine ⟨t, pe, ?_⟩
    unfold mOf at hm
    have N0 := start_env ar (N.length - vs.length) (N.length - rs.length) (by rw [ar.length])
    split at hm
    · rename_i r Γ' s' eb
      cases hm
      exact ok B wo _ _ st' _ _ Wh N0 eb fun w' x W' r' l => p w' x W' r' l
    · rename_i Γ' s' eb
      cases hm
      exact ok B wo _ _ st' _ _ Wh N0 eb fun w' σ' W' N' l => p w' .non W' (show Rp K w'.F .non .none from .non) l
    · rename_i c Γ' s' eb
      cases hm
      exact ok B wo _ _ st' _ _ Wh N0 eb fun w' σ' W' N' l => p w' W' l
    · cases hm
end
def gFn {Y : Sys} (n : Nat) (m : Fm Y) (gr : GA Y) : GE Y := bd gr fun rs Γ s => if (rs.all argR && rs.length == n) = true then (match m rs s with
  | some (.ok (.v d), s') => some (.ok (.v d), Γ, s')
  | some (.ok (.o d), s') => some (.ok (.o d), Γ, s')
  | some (.ok (.h i), s') => some (.ok (.h i), Γ, s')
  | some (.ok (.raw x), s') => some (.ok (.raw x), Γ, s')
  | some (.ok (.e x), s') => some (.ok (.e x), Γ, s')
  | some (.er c, s') => some (.er c, Γ, s')
  | _ => none) else none
section
variable {Y : Sys} {X : Cx} {W : WX} {e : Expr} {es : List Expr} {pos p : Pos} {gr : GA Y}
theorem ara_of {K : PySem.W.Frag} {B B' : Hp} {w : Wo} {σ : St} {Γ : Ev} : ∀ {xs : List V} {rs : List R}, RsA K B w σ Γ xs rs → rs.all argR = true → ArA K B' w xs rs
  | _, _, .nil, _ => .nil
  | _, .v _ :: _, .cons q t, h => .cons rfl q (ara_of t (by simpa [argR] using h))
  | _, .h _ :: _, .cons q t, h => .cons rfl q (ara_of t (by simpa [argR] using h))
  | _, .raw _ :: _, .cons q t, h => .cons rfl q (ara_of t (by simpa [argR] using h))
  | _, .e _ :: _, .cons q t, h => .cons rfl q (ara_of t (by simpa [argR] using h))
  | _, .o _ :: _, .cons _ _, h => by simp [argR] at h
  | _, .b _ :: _, .cons _ _, h => by simp [argR] at h
def restB (w : Wo) : Hp := fun q => if q ∈ w.A then none else match w.F q with
  | some (.tup xs) => some (.tup xs)
  | some _ => none
  | none => w.H q
theorem restB_A {w : Wo} {q : Addr} (h : q ∈ w.A) : restB w q = none := if_pos h
theorem restB_F {w : Wo} {q : Addr} {o : HO} (h : w.F q = some o) : restB w q = none ∨ ∃ xs, o = .tup xs := by
  unfold restB
  split
  · exact .inl rfl
  · rw [h]
    cases o with
    | tup xs => exact .inr ⟨xs, rfl⟩
    | _ => exact .inl rfl
theorem restB_T {w : Wo} {q : Addr} {xs : List V} (h : w.F q = some (.tup xs)) (ha : q ∉ w.A) : restB w q = some (.tup xs) := by
  unfold restB
  rw [if_neg ha, h]
theorem restB_H {w : Wo} {q : Addr} {o : HO} (h : w.H q = some o) (hf : w.F q = none) (ha : q ∉ w.A) : restB w q = some o := by
  unfold restB
  rw [if_neg ha, hf]
  exact h
theorem restB_of {w : Wo} (sF : Same w.F w.H) {q : Addr} {o : HO} (h : restB w q = some o) : w.H q = some o := by
  unfold restB at h
  split at h
  · cases h
  · split at h
    · rename_i e
      cases h
      exact sF _ _ e
    · cases h
    · exact h
theorem eok_fn {K : PySem.W.Frag} {n : Nat} {m : Fm Y} {ta : TA} (ha : AOk Y K W ta gr) : EOk Y K W (tCallS (spM Y K n m) (WE W) ta) (gFn n m gr) := by
  intro B w σ Γ s out Q Wh N e p
  refine ha.go (Q := fun vs H1 => spM Y K n m vs H1 Q (WE W σ)) Wh N e p fun rs Γ1 s1 xs w1 W1 N1 l1 R1 e1 p1 => ?_
  split at e1
  · rename_i hc
    rw [Bool.and_eq_true] at hc
    have hl : rs.length = n := by simpa using hc.2
    have sB : Same B (restB w1) := fun q o h => by
      have qa : q ∉ w1.A := fun z => by
        have := (W1.dA q z).2
        rw [h] at this; cases this
      cases z : w1.F q with
      | none => exact restB_H (W1.sB q o h) z qa
      | some u =>
        rcases W1.dj q u z with k | ⟨xs, rfl⟩
        · rw [h] at k; cases k
        · have a := W1.sF q _ z
          rw [W1.sB q o h] at a
          cases a
          exact restB_T z qa
    have Wc : Wd Y (restB w1) w1 s1 := ⟨W1.sF, fun q o h => restB_of W1.sF h, fun q o h => restB_F h, fun q h => ⟨(W1.dA q h).1, restB_A h⟩, W1.rel⟩
    have Nb : ∀ {w' : Wo} {s' : Y.S}, Wd Y (restB w1) w' s' → Le w1 w' → EnvR K B w' σ Γ1 ∧ ∀ (i : Nat) (e : D) (q : Addr), Γ1[i]? = some (some (R.o e)) → restB w1 q = none → σ[i]? ≠ some (some (.ref q)) := fun {w' s'} W' l' => by
      have at' : ∀ (q : Addr) (o : HO), restB w1 q = some o → (∀ xs, o ≠ .tup xs) → w'.H q = some o ∧ w'.F q = none ∧ q ∉ w'.A := fun q o h hn => by
        refine ⟨W'.sB q o h, W'.apart h hn, fun z => ?_⟩
        · have := (W'.dA q z).2
          rw [h] at this; cases this
      refine ⟨⟨N1.len, fun i r hi => ?_, N1.inj⟩, fun i e q hi hq hs => ?_⟩
      · obtain ⟨x, a, b⟩ := N1.sl i r hi
        refine ⟨x, a, ?_⟩
        cases r with
        | o d =>
          obtain ⟨q, rfl, own, fq, bq, aq⟩ := b
          obtain ⟨o, ho, hn⟩ := own.obj'
          obtain ⟨h1, h2, h3⟩ := at' q o (restB_H ho fq aq) hn
          exact ⟨q, rfl, own.move l'.F (h1.trans ho.symm), h2, bq, h3⟩
        | v d => exact Rp.mono l'.F b
        | h k => exact SlR.le l' (fun d => ⟨fun z => (nomatch z), fun k z => (nomatch z)⟩) b
        | raw y => exact b
        | e y =>
          obtain ⟨p', cls, e1, q, c⟩ := b
          exact ⟨p', cls, e1, l'.F _ _ q, c⟩
        | b k => exact b
      · obtain ⟨x, a, b⟩ := N1.sl i _ hi
        obtain ⟨q', rfl, own, fq, bq, aq⟩ := b
        rw [hs] at a; cases a
        obtain ⟨o, ho⟩ := own.obj
        rw [restB_H ho fq aq] at hq; cases hq
    have fin : ∀ {r : R} {s' : Y.S}, PoG Y K W B w1 σ (fun r Γ' w' => ∀ x, ResR K B w' σ Γ' x r → Q x w'.H) (.ok r, Γ1, s') → (∀ k, r ≠ .b k) → m rs s1 = some (.ok r, s') → spM Y K n m xs w1.H Q (WE W σ) := fun {r s'} p1 nb em => by
      refine ⟨restB w1, w1, rs, s1, _, rfl, Wc, ara_of R1 hc.1, hl, em, fun w' x W' r' l' => ?_⟩
      obtain ⟨N2, oth⟩ := Nb W' l'
      refine p1 w' (W'.weak sB) N2 l' x ?_
      cases r with
      | o d =>
        obtain ⟨q, rfl, own, fq, bq, aq⟩ := r'
        exact ⟨⟨q, rfl, own, fq, sB.free bq, aq⟩, fun i e hi hs => oth i e q hi bq hs⟩
      | v d => exact r'
      | h d => exact r'
      | raw d => exact r'
      | e d => exact r'
      | b d => exact absurd rfl (nb d)
    split at e1
    · rename_i d s' em; cases e1; exact fin p1 (fun _ z => nomatch z) em
    · rename_i d s' em; cases e1; exact fin p1 (fun _ z => nomatch z) em
    · rename_i d s' em; cases e1; exact fin p1 (fun _ z => nomatch z) em
    · rename_i d s' em; cases e1; exact fin p1 (fun _ z => nomatch z) em
    · rename_i d s' em; cases e1; exact fin p1 (fun _ z => nomatch z) em
    · rename_i c s' em
      cases e1
      exact ⟨restB w1, w1, rs, s1, _, rfl, Wc, ara_of R1 hc.1, hl, em, fun w' W' l' => p1 w' (W'.weak sB) (Nb W' l').1 l'⟩
    · cases e1
  · cases e1
theorem me_fn {n k : Nat} {m : Fm Y} {f : Addr} {fd : FuncData} {ps : List Str} {x : Str} {ta : TA} (F : FnOk X.prog X.w X.K X.mg X.base (L2.CX X.prog X.w) k f fd ps (spM Y X.K n m)) (hr : Room k X.A) (hg : Gl X x) (hm : X.mg x = some (.ref f)) (hk : PySem.W.keepIn X.K (.ref f) = true) (hb : Binds X.K fd ps []) (tk : Takes X W)
    (ha : MA Y X W (e :: es) ta gr) (hdb : (x == ("__debug__" : Str)) = false := by decide) (he : starEach (e :: es) X.env = (false, eval e X.env) :: starEach es X.env := by rfl) (hpl : (backTo pos (starEach es X.env)).any (·.1) = false := by rfl) :
    ME Y X W (.Call (.Name x p) (e :: es) [] pos) (tCallS (spM Y X.K n m) (WE W) ta) (gFn n m gr) :=
  ⟨pe_callS F hr hg hm hk hb (fun σ => passAt tk σ) ha.pe hdb he hpl, eok_fn ha.ok⟩
end
section
variable {Y : Sys} {K : PySem.W.Frag} {W : WX} {B : Hp} {w : Wo} {σ : St} {Γ : Ev} {s : Y.S}
theorem Wd.st (Wh : Wd Y B w s) {p : Addr} {o : HO} (fp : w.F p = none) (bp : B p = none) (ap : p ∉ w.A) : Wd Y B { w with H := upd w.H p o } s := by
  refine ⟨fun q u e => ?_, fun q u e => ?_, Wh.dj, Wh.dA, Y.frame Wh.rel (Same.refl _) fun q hq => ?_⟩
  · show upd w.H p o q = some u
    rw [upd_ne (ne_of_none e fp)]; exact Wh.sF q u e
  · show upd w.H p o q = some u
    rw [upd_ne (ne_of_none e bp)]; exact Wh.sB q u e
  · show upd w.H p o q = w.H q
    rw [upd_ne (by rintro rfl; exact ap hq)]
theorem EnvR.st (N : EnvR K B w σ Γ) {i : Nat} {d d' : D} {p : Addr} {o : HO} (hi : Γ[i]? = some (some (.o d))) (hp : σ[i]? = some (some (.ref p))) (own : Own K w.F (upd w.H p o) p d') :
    EnvR K B { w with H := upd w.H p o } σ (Γ.set i (some (.o d'))) := by
  obtain ⟨x, hx, q, rfl, own0, fq, bq, aq⟩ := N.sl i _ hi
  rw [hp] at hx; cases hx
  refine ⟨by rw [List.length_set]; exact N.len, fun j r e => ?_, fun j k d' e' x hj hk hx hy => ?_⟩
  · rcases getSet e with ⟨rfl, z⟩ | ⟨ne, e⟩
    · cases z
      exact ⟨_, hp, _, rfl, own, fq, bq, aq⟩
    · obtain ⟨x, a, b⟩ := N.sl j r e
      refine ⟨x, a, ?_⟩
      cases r with
      | v d => exact b
      | o d' =>
        obtain ⟨q', rfl, own', fq', bq', aq'⟩ := b
        have hq : q' ≠ p := fun z => by subst z; exact ne (N.inj i j _ _ _ hi e hp a)
        exact ⟨q', rfl, own'.move (Same.refl _) (upd_ne hq), fq', bq', aq'⟩
      | h _ => exact b
      | raw _ => exact b
      | e _ => exact b
      | b _ => exact b
  · have back : ∀ {j : Nat} {b : D} {d' : D}, (Γ.set i (some (R.o b)))[j]? = some (some (R.o d')) → ∃ d'', Γ[j]? = some (some (R.o d'')) := fun {j b d'} h => by
      rcases getSet h with ⟨rfl, z⟩ | ⟨ne, h⟩
      · exact ⟨_, hi⟩
      · exact ⟨_, h⟩
    obtain ⟨d1, h1⟩ := back hj
    obtain ⟨d2, h2⟩ := back hk
    exact N.inj j k _ _ _ h1 h2 hx hy
end
def gApp {Y : Sys} (i : Nat) (ge : GE Y) : GE Y := fun Γ s => match Γ[i]? with
  | some (some (.o (.list _))) => bd (gEsc ge) (fun r Γ s => match r, Γ[i]? with
    | .v d, some (some (.o (.list ds))) => if sizeOk ds.length = true then some (.ok (.v .none), Γ.set i (some (.o (.list (ds ++ [d])))), s) else none
    | _, _ => none) Γ s
  | _ => none
section
variable {Y : Sys} {X : Cx} {W : WX} {e o : Expr} {pos p apos cpos : Pos} {ge : GE Y} {te : TE} {i : Nat}
theorem eok_app {K : PySem.W.Frag} (he : EOk Y K W te ge) : EOk Y K W (tBM K "list" rAppend (tVar i) (tCons te tNil)) (gApp i ge) := by
  intro B w σ Γ s out Q Wh N e p
  unfold gApp at e
  split at e
  · rename_i ds0 hi0
    obtain ⟨x, hx, q, rfl, ⟨xs, hl, ra⟩, _⟩ := N.sl i _ hi0
    refine ⟨_, hx, .inl ⟨rfl, xs, .of hl⟩, ?_⟩
    refine (eok_esc he).go (Q := fun y H2 => rAppend (.ref q) [y] H2 Q) Wh N e p fun r Γ1 s1 y w1 W1 N1 l1 R1 e1 p1 => ?_
    split at e1
    · rename_i d ds hi
      split at e1
      · rename_i hz
        cases e1
        obtain ⟨x, hx', q', rfl, ⟨xs, hl, ra⟩, fq, bq, aq⟩ := N1.sl i _ hi
        rw [hx] at hx'; cases hx'
        refine ⟨q, xs, y, rfl, rfl, hl, by rw [ra.length]; exact sizeOk_lt hz, ?_⟩
        exact p1 { w1 with H := upd w1.H q (.lst (xs ++ [y])) } (W1.st fq bq aq) (N1.st hi hx ⟨_, upd_same, ra.append (.cons R1 .nil)⟩) ⟨Same.refl _, [], by simp⟩ .non .non
      · cases e1
    · cases e1
  · cases e
theorem me_app (ho : PE X o (tVar i)) (he : ME Y X W e te ge) (hbase : attributeBase o "append" X.env (eval o X.env) = eval o X.env := by rfl)
    (hfew : ((backTo cpos (starEach (e :: []) X.env)).all (fun x => !x.1) && (backToKw cpos (keywordEach [] X.env)).all (fun x => x.1.isSome) && decide ((e :: []).length + ([] : List Keyword).length + (if ([] : List Keyword).isEmpty then 0 else 1) < 30)) = true := by rfl)
    (hline : (apos.endLine == cpos.line) = true := by rfl) (hs : starEach (e :: []) X.env = (false, eval e X.env) :: starEach [] X.env := by rfl) (hplain : (backTo cpos (starEach [] X.env)).any (·.1) = false := by rfl) :
    ME Y X W (.Call (.Attribute o "append" apos) [e] [] cpos) (tBM X.K "list" rAppend (tVar i) (tCons te tNil)) (gApp i ge) :=
  ⟨pe_bm PySem.F.plainAttrs_list PySem.F.slot_list_append PySem.F.type_list_append mt_append ho (pa_cons he.pe pa_nil hs) hbase hfew hline hs hplain, eok_app he.ok⟩
end
def sPut {Y : Sys} (i : Nat) (gk ge : GE Y) : GS Y := fun Γ s => match Γ[i]? with
  | some (some (.o (.list _))) => bdS (gEsc ge) (fun r => bdS gk fun rk Γ s => match r, rdv Γ rk, Γ[i]? with
    | .v d, some (.int k), some (some (.o (.list ds))) => match ixN ds.length k with
      | some j => some (.nx, Γ.set i (some (.o (.list (ds.set j d)))), s)
      | none => none
    | _, _, _ => none) Γ s
  | _ => none
theorem sok_put {Y : Sys} {K : PySem.W.Frag} {W : WX} {i : Nat} {te tk : TE} {ge gk : GE Y} (he : EOk Y K W te ge) (hk : EOk Y K W tk gk) : SOk Y K W (tAsg te (gSub (tVar i) tk rSetL)) (sPut i gk ge) := by
  intro B w σ Γ s out D Wh N e p
  unfold sPut at e
  split at e
  · rename_i ds0 hi0
    obtain ⟨y, hx, q, rfl, _⟩ := N.sl i _ hi0
    refine (eok_esc he).goS (Q := fun x H1 => gSub (tVar i) tk rSetL x σ H1 D.nx) Wh N e p fun r Γ1 s1 x w1 W1 N1 l1 R1 e1 p1 => ?_
    obtain ⟨B2, sB, W1b, N1b, kp, kq⟩ := keep W1 N1 R1
    clear kq
    refine ⟨_, hx, ?_⟩
    refine hk.goS (Q := fun y H3 => rSetL (.ref q) y x H3 fun H4 => D.nx σ H4) W1b N1b e1 (p1.strong sB) fun rk Γ2 s2 z w2 W2 N2 l2 R2 e2 p2 => ?_
    have R1' := kp W2 N2 l2
    split at e2
    · rename_i d k ds ek hi
      split at e2
      · rename_i j ej
        cases e2
        have N2' := N2.weak sB
        obtain ⟨y', hx', q', rfl, ⟨xs, hl, ra⟩, fq, bq, aq⟩ := N2'.sl i _ hi
        rw [hx] at hx'; cases hx'
        cases sh_int (sh_of W2 N2 R2 ek)
        refine ⟨q, xs, k, j, rfl, rfl, hl, by rw [ra.length]; exact ej, ?_⟩
        exact p1 { w2 with H := upd w2.H q (.lst (xs.set j x)) } σ ((W2.weak sB).st fq bq aq) (N2'.st hi hx ⟨_, upd_same, ra.set j R1'⟩) ⟨l2.F, l2.et⟩
      · cases e2
    · cases e2
  · cases e
theorem pget_list {X : Cx} : PGet X (rIxL X.K) := by
  intro pins s σ H x y v u Q I rx ry h
  obtain ⟨p, xs, i, z, rfl, rfl, hq, he, q⟩ := h
  cases rx
  obtain ⟨t, rfl⟩ := ry
  obtain ⟨its, r, pl, hz⟩ := I.list hq
  obtain ⟨j, h1, h2, h3, h4, h5⟩ := atI_get he
  obtain ⟨w, ew, rw'⟩ := r.get h2
  have hl := r.length
  have hn := line63
  have fin : EP X pins σ Q w s := ⟨z, H, I, rw', q⟩
  by_cases h0 : 0 ≤ i
  · have hj : i.toNat = j := by
      rw [seqIndex_of h0 h5] at h1
      exact Option.some.inj h1
    exact wpAny_getItem_list pl.isList h0 (by omega) (by rw [hj]; simpa using ew) fin
  · have hj : (i + (its.toArray.size : Int)).toNat = j := by
      rw [seqIndex_neg (by omega) h4] at h1
      rw [List.size_toArray, ← hl]
      exact Option.some.inj h1
    exact wpAny_getItem_list_neg pl.isList (by omega) (by rw [List.size_toArray] <;> omega) (by omega) (by rw [hj]; simpa using ew) fin
def sUpd {Y : Sys} (i : Nat) (f : Int → Int → Int) (gk ge : GE Y) : GS Y := fun Γ s => match Γ[i]? with
  | some (some (.o (.list _))) => bdS gk (fun rk Γ s => match rdv Γ rk, Γ[i]? with
    | some (.int k), some (some (.o (.list ds))) => match atI ds k with
      | some (.int a) => bdS ge (fun re Γ s => match rdv Γ re, Γ[i]? with
        | some (.int b), some (some (.o (.list es))) => match ixN es.length k with
          | some j => some (.nx, Γ.set i (some (.o (.list (es.set j (.int (f a b)))))), s)
          | none => none
        | _, _ => none) Γ s
      | _ => none
    | _, _ => none) Γ s
  | _ => none
theorem rpa_atI {K : PySem.W.Frag} {F : Hp} {xs : List V} {ds : List D} (r : RpA K F xs ds) {k : Int} {d : D} (h : atI ds k = some d) : ∃ v, atI xs k = some v ∧ Rp K F v d := by
  unfold atI at h ⊢
  rw [r.length]
  cases e : ixN ds.length k with
  | none => rw [e] at h; cases h
  | some j =>
    rw [e] at h
    exact r.get h
theorem sok_upd {Y : Sys} {K : PySem.W.Frag} {W : WX} {i : Nat} {f : Int → Int → Int} {te tk : TE} {ge gk : GE Y} (he : EOk Y K W te ge) (hk : EOk Y K W tk gk) : SOk Y K W (tAugS (tVar i) tk te (rIxL K) (ipI f) rSetL) (sUpd i f gk ge) := by
  intro B w σ Γ s out D Wh N e p
  unfold sUpd at e
  split at e
  · rename_i ds0 hi0
    obtain ⟨y, hx, q, rfl, _⟩ := N.sl i _ hi0
    refine ⟨_, hx, ?_⟩
    refine hk.goS (Q := fun iv H2 => rIxL K (.ref q) iv H2 fun x H3 => te σ H3 fun y H4 => ipI f x y H4 fun z H5 => rSetL (.ref q) iv z H5 fun H6 => D.nx σ H6) Wh N e p fun rk Γ1 s1 iv w1 W1 N1 l1 R1 e1 p1 => ?_
    split at e1
    · rename_i k ds ek hi
      split at e1
      · rename_i a ea
        cases sh_int (sh_of W1 N1 R1 ek)
        obtain ⟨y', hx', q', rfl, ⟨xs, hl, ra⟩, fq, bq, aq⟩ := N1.sl i _ hi
        rw [hx] at hx'; cases hx'
        obtain ⟨v, hv, rv⟩ := rpa_atI ra ea
        cases rv
        refine ⟨q, xs, k, _, rfl, rfl, .of hl, hv, ?_⟩
        refine he.goS (Q := fun y H4 => ipI f (.int a) y H4 fun z H5 => rSetL (.ref q) (.int k) z H5 fun H6 => D.nx σ H6) W1 N1 e1 p1 fun re Γ2 s2 y w2 W2 N2 l2 R2 e2 p2 => ?_
        split at e2
        · rename_i b es eb hi2
          split at e2
          · rename_i j ej
            cases e2
            cases sh_int (sh_of W2 N2 R2 eb)
            obtain ⟨y', hx', q', rfl, ⟨ys, hl2, ra2⟩, fq2, bq2, aq2⟩ := N2.sl i _ hi2
            rw [hx] at hx'; cases hx'
            refine ⟨a, b, rfl, rfl, q, ys, k, j, rfl, rfl, hl2, by rw [ra2.length]; exact ej, ?_⟩
            exact p2 { w2 with H := upd w2.H q (.lst (ys.set j (.int (f a b)))) } σ (W2.st fq2 bq2 aq2) (N2.st hi2 hx ⟨_, upd_same, ra2.set j (.int _)⟩) ⟨Same.refl _, [], by simp⟩
          · cases e2
        · cases e2
      · cases e1
    · cases e1
  · cases e
section
variable {Y : Sys} {X : Cx} {W : WX} {o k e : Expr} {pos p : Pos} {ge gk : GE Y} {te tk : TE} {i : Nat}
theorem ms_put (ho : PE X o (tVar i)) (hk : ME Y X W k tk gk) (he : ME Y X W e te ge)
    (ha : ∀ v, assign (.Subscript o k p) X.env v = (do
      let ov ← holding [v] (eval o X.env)
      let iv ← holding [v, ov] (eval k X.env)
      standAt p
      holding [v, ov, iv] (setItem ov iv v)
      release [v, ov, iv] []) := by intro _; rfl)
    (hs : swapsWithSole [.Subscript o k p] e pos.line X.env = pure false := by rfl) (hw : swappedStores [.Subscript o k p] e X.env = pure none := by rfl)
    (h1 : (assignEach [.Subscript o k p] X.env).map (·.2) = [assign (.Subscript o k p) X.env] := by rfl) :
    MS Y X W (.Assign [.Subscript o k p] e pos) (tAsg te (gSub (tVar i) tk rSetL)) (sPut i gk ge) :=
  ⟨ps_asg he.pe (pg_sub ho hk.pe set_list ha) hs hw h1, sok_put he.ok hk.ok⟩
theorem ms_upd {op : Operator} {f : Int → Int → Int} (hop : PIp X op (ipI f)) (ho : PE X o (tVar i)) (hk : ME Y X W k tk gk) (he : ME Y X W e te ge)
    (ha : ∀ ov iv new, augStore k ov iv new = (do holding [new, ov, iv] (setItem ov iv new); release [new, ov, iv] []; pure .next) := by intros; rfl) :
    MS Y X W (.AugAssign (.Subscript o k p) op e pos) (tAugS (tVar i) tk te (rIxL X.K) (ipI f) rSetL) (sUpd i f gk ge) :=
  ⟨ps_augS ho hk.pe pget_list he.pe hop set_list ha, sok_upd he.ok hk.ok⟩
end
end FX
set_option Elab.async false
set_option linter.all false
set_option maxRecDepth 100000
set_option maxHeartbeats 1000000
namespace FX
open PySem PySem.Spec L2
section
variable {K : PySem.W.Frag} {F H : Hp}
mutual
theorem Rp.dp : ∀ {d : D} {v : V}, Rp K F v d → d.canLay0 = true → Dp K F v d
  | .none, _, h, _ => by cases h; exact .non
  | .bool _, _, h, _ => by cases h; exact .bl _
  | .int _, _, h, _ => by cases h; exact .int _
  | .str _, _, h, _ => by cases h; exact .str _
  | .list _, _, h, c => by cases h with | lst a b => exact .lst (.of a) (RpA.dp b (by simpa [PyData.canLay0] using c))
  | .tuple _, _, h, c => by cases h with | tup a b => exact .tup (.of a) (RpA.dp b (by simpa [PyData.canLay0] using c))
  | .dict _, _, h, c => by simp [PyData.canLay0] at c
theorem RpA.dp : ∀ {ds : List D} {vs : List V}, RpA K F vs ds → PyData.canLayAll0 ds = true → DpAll K F vs ds
  | [], _, h, _ => by cases h; exact .nil
  | _ :: _, _, h, c => by
    simp only [PyData.canLayAll0, Bool.and_eq_true] at c
    cases h with | cons a b => exact .cons (Rp.dp a c.1) (RpA.dp b c.2)
end
mutual
theorem Dp.mo (e : Same F H) : ∀ {d : D} {v : V}, Dp K F v d → Dp K H v d
  | .none, _, h => by cases h; exact .non
  | .bool _, _, h => by cases h; exact .bl _
  | .int _, _, h => by cases h; exact .int _
  | .str _, _, h => by cases h; exact .str _
  | .list _, _, h => by cases h with | lst a b => exact .lst (e.seq a) (DpA.mo e b)
  | .tuple _, _, h => by cases h with | tup a b => exact .tup (seqT e a) (DpA.mo e b)
  | .dict _, _, h => by cases h
theorem DpA.mo (e : Same F H) : ∀ {ds : List D} {vs : List V}, DpAll K F vs ds → DpAll K H vs ds
  | [], _, h => by cases h; exact .nil
  | _ :: _, _, h => by cases h with | cons a b => exact .cons (Dp.mo e a) (DpA.mo e b)
end
theorem Sh.dp (e : Same F H) {x : V} : ∀ {d : D}, Sh K F H x d → SeqAt.shaped d = true → Dp K H x d
  | .none, h, c => Dp.mo e (Rp.dp h rfl)
  | .bool _, h, c => Dp.mo e (Rp.dp h rfl)
  | .int _, h, c => Dp.mo e (Rp.dp h rfl)
  | .str _, h, c => Dp.mo e (Rp.dp h (SeqAt.canLay_of_shaped c))
  | .list ds, h, c => by
    obtain ⟨p, xs, rfl, a, b⟩ := h
    exact .lst (.of a) (DpA.mo e (RpA.dp b (by simpa [PyData.canLay0] using SeqAt.canLay_of_shaped c)))
  | .tuple ds, h, c => by
    obtain ⟨p, xs, rfl, a, b⟩ := h
    exact .tup (.of (e _ _ a)) (DpA.mo e (RpA.dp b (by simpa [PyData.canLay0] using SeqAt.canLay_of_shaped c)))
  | .dict _, h, c => by simp [SeqAt.shaped, PyData.canLay0] at c
end
def okInt (i j : Int) : Bool := Nat.ble (i.natAbs + 1) 18446744073709551616 || Nat.ble (j.natAbs + 1) 18446744073709551616
theorem okInt_of {i j : Int} (h : okInt i j = true) : (-(2 ^ 64) < i ∧ i < 2 ^ 64) ∨ (-(2 ^ 64) < j ∧ j < 2 ^ 64) := by
  unfold okInt at h
  simp only [Bool.or_eq_true] at h
  rcases h with h | h
  · have := Nat.le_of_ble_eq_true h
    exact .inl (by omega)
  · have := Nat.le_of_ble_eq_true h
    exact .inr (by omega)
theorem okInt_l {i j : Int} (h : i.natAbs < 18446744073709551616) : okInt i j = true := by
  unfold okInt
  rw [Nat.ble_eq_true_of_le h, Bool.true_or]
theorem okInt_r {i j : Int} (h : j.natAbs < 18446744073709551616) : okInt i j = true := by
  unfold okInt
  rw [Nat.ble_eq_true_of_le h, Bool.or_true]
def fAdd : D → D → Option Rz
  | .int i, .int j => some (.nw (.int (i + j)))
  | .str x, .str y => if sizeOk (x.length + y.length) = true then some (.nw (.str (x ++ y))) else none
  | .list a, .list b => if sizeOk (a.length + b.length) = true then some (.nw (.list (a ++ b))) else none
  | _, _ => none
def fSub : D → D → Option Rz
  | .int i, .int j => some (.nw (.int (i - j)))
  | _, _ => none
def fMul : D → D → Option Rz
  | .int i, .int j => if okInt i j = true then some (.nw (.int (i * j))) else none
  | .list a, .int k => if (bigI k && sizeOk (a.length * k.toNat)) = true then some (.nw (.list (List.replicate k.toNat a).flatten)) else none
  | .tuple a, .int k => if (!a.isEmpty && decide (2 ≤ k) && decide (k ≤ 1000) && decide (a.length ≤ 1000)) = true then some (.nw (.tuple (List.replicate k.toNat a).flatten)) else none
  | _, _ => none
def fDiv : D → D → Option Rz
  | .int i, .int j => if (decide (j ≠ 0) && decide (j.natAbs < 1073741824)) = true then some (.nw (.int (i.fdiv j))) else none
  | _, _ => none
def fMod : D → D → Option Rz
  | .int i, .int j => if decide (j ≠ 0) = true then some (.nw (.int (i.fmod j))) else none
  | _, _ => none
def fPow : D → D → Option Rz
  | .int i, .int j => if (decide (0 ≤ j) && decide (j ≤ 1000) && decide (i.natAbs < 1000)) = true then some (.nw (.int (i ^ j.toNat))) else none
  | _, _ => none
def fNeg : D → Option Rz
  | .int i => some (.nw (.int (-i)))
  | _ => none
def fLt : D → D → Option Rz
  | .int i, .int j => some (.nw (.bool (decide (i < j))))
  | _, _ => none
def fGt : D → D → Option Rz
  | .int i, .int j => some (.nw (.bool (decide (j < i))))
  | _, _ => none
def fGe : D → D → Option Rz
  | .int i, .int j => some (.nw (.bool (decide (j ≤ i))))
  | _, _ => none
def ints? : List D → Option (List Int)
  | [] => some []
  | .int i :: r => match ints? r with
    | some l => some (i :: l)
    | none => none
  | _ :: _ => none
def leT (ns ms : List Int) : Bool := Ob.lexAt (fun j => decide (ns.getD j 0 = ms.getD j 0)) (fun j => decide (ns.getD j 0 ≤ ms.getD j 0)) (decide (ns.length ≤ ms.length)) 0 (min ns.length ms.length)
def fLe : D → D → Option Rz
  | .int i, .int j => some (.nw (.bool (decide (i ≤ j))))
  | .tuple a, .tuple b => match ints? a, ints? b with
    | some ns, some ms => some (.nw (.bool (leT ns ms)))
    | _, _ => none
  | _, _ => none
def fEq (d e : D) : Option Rz := if (SeqAt.shaped d && SeqAt.shaped e) = true then some (.nw (.bool (PyData.eqv d e))) else none
def fNe (d e : D) : Option Rz := if (SeqAt.shaped d && SeqAt.shaped e) = true then some (.nw (.bool (!PyData.eqv d e))) else none
def isNo : D → Bool
  | .none => true
  | _ => false
def fIsN (d e : D) : Option Rz := match e with
  | .none => some (.nw (.bool (isNo d)))
  | _ => none
def fNotN (d e : D) : Option Rz := match e with
  | .none => some (.nw (.bool (!isNo d)))
  | _ => none
def fIx : D → D → Option Rz
  | .list ds, .int i => match atI ds i with
    | some d => some (.old d)
    | none => none
  | .tuple ds, .int i => match atI ds i with
    | some d => some (.old d)
    | none => none
  | .str z, .int i => if sizeOk z.length = true then (match atI z.cps.toList i with
    | some c => some (.nw (.str ⟨#[c]⟩))
    | none => none) else none
  | _, _ => none
def fLen : List D → Option Rz
  | [.list ds] => some (.nw (.int (ds.length : Nat)))
  | [.tuple ds] => some (.nw (.int (ds.length : Nat)))
  | [.str z] => if sizeOk z.length = true then some (.nw (.int (z.length : Nat))) else none
  | _ => none
def fInt : List D → Option Rz
  | [.int i] => some (.nw (.int i))
  | [.bool b] => some (.nw (.int (if b = true then 1 else 0)))
  | _ => none
def fList : List D → Option Rz
  | [.list ds] => some (.nw (.list ds))
  | [.tuple ds] => some (.nw (.list ds))
  | _ => none
section
variable {K : PySem.W.Frag} {X : Cx}
theorem ints_of {F : Hp} : ∀ {ds : List D} {xs : List V} {ns : List Int}, RpA K F xs ds → ints? ds = some ns → xs = ns.map V.int
  | [], _, _, h, e => by cases h; cases e; rfl
  | .int i :: r, _, _, h, e => by
    unfold ints? at e
    split at e
    · rename_i l el
      cases e
      cases h with
      | cons a b => cases a; rw [ints_of b el]; rfl
    · cases e
  | .none :: _, _, _, _, e => by cases e
  | .bool _ :: _, _, _, _, e => by cases e
  | .str _ :: _, _, _, _, e => by cases e
  | .list _ :: _, _, _, _, e => by cases e
  | .tuple _ :: _, _, _, _, e => by cases e
  | .dict _ :: _, _, _, _, e => by cases e
theorem nw_int {F H : Hp} {Q : VK} {i : Int} (q : RzQ K F H Q (.nw (.int i))) : Q (.int i) H := q _ (.int i)
theorem nw_bool {F H : Hp} {Q : VK} {i : Bool} (q : RzQ K F H Q (.nw (.bool i))) : Q (.bl i) H := q _ (.bl i)
theorem nw_str {F H : Hp} {Q : VK} {i : Str} (q : RzQ K F H Q (.nw (.str i))) : Q (.str i) H := q _ (.str i)
def rStrAdd : R2 := fun x y H Q => ∃ i j, x = .str i ∧ y = .str j ∧ i.length + j.length ≤ sizeLine ∧ Q (.str (i ++ j)) H
def rAdd3 : R2 := fun x y H Q => rI0 (fun i j => .int (i + j)) x y H Q ∨ (fun x y H Q => rStrAdd x y H Q ∨ rCat x y H Q) x y H Q
theorem o_add : OpR X (binaryOp .Add) rAdd3 := op_add.or (OpR.or op_add_str op_cat)
theorem s_add : Op2 K rAdd3 fAdd := by
  intro F H x y d e z Q sF hx hy h q
  unfold fAdd at h
  split at h
  · cases h
    cases sh_int hx
    cases sh_int hy
    exact .inl ⟨_, _, rfl, rfl, nw_int q⟩
  · split at h
    · rename_i hz
      cases h
      cases sh_str hx
      cases sh_str hy
      exact .inr (.inl ⟨_, _, rfl, rfl, sizeOk_le hz, nw_str q⟩)
    · cases h
  · split at h
    · rename_i hz
      cases h
      obtain ⟨p, xs, rfl, e1, a1⟩ := hx
      obtain ⟨p2, ys, rfl, e2, a2⟩ := hy
      exact .inr (.inr ⟨p, p2, xs, ys, rfl, rfl, e1, e2, by rw [a1.length, a2.length]; exact sizeOk_le hz, fun r nr => q r _ nr (a1.append a2)⟩)
    · cases h
  · cases h
theorem s_sub : Op2 K (rI0 fun i j => .int (i - j)) fSub := by
  intro F H x y d e z Q sF hx hy h q
  unfold fSub at h
  split at h
  · cases h
    cases sh_int hx
    cases sh_int hy
    exact ⟨_, _, rfl, rfl, nw_int q⟩
  · cases h
def rMul2 (K : PySem.W.Frag) : R2 := fun x y H Q => rI CMul (fun i j => .int (i * j)) x y H Q ∨ (fun x y H Q => rRep x y H Q ∨ rRepT K x y H Q) x y H Q
theorem o_mul : OpR X (binaryOp .Mult) (rMul2 X.K) := op_mul.or (op_rep.or op_repT)
theorem RpA.rep {F : Hp} {xs : List V} {ds : List D} (r : RpA K F xs ds) : ∀ n, RpA K F (List.replicate n xs).flatten (List.replicate n ds).flatten
  | 0 => .nil
  | n + 1 => by
    simp only [List.replicate_succ, List.flatten_cons]
    exact r.append (RpA.rep r n)
theorem s_mul : Op2 K (rMul2 K) fMul := by
  intro F H x y d e z Q sF hx hy h q
  unfold fMul at h
  split at h
  · split at h
    · rename_i hz
      cases h
      cases sh_int hx
      cases sh_int hy
      refine .inl ⟨_, _, rfl, rfl, ?_, nw_int q⟩
      exact okInt_of hz
    · cases h
  · split at h
    · rename_i hz
      cases h
      rw [Bool.and_eq_true] at hz
      obtain ⟨b1, b2⟩ := bigI_of hz.1
      obtain ⟨p, xs, rfl, e1, a1⟩ := hx
      cases sh_int hy
      exact .inr (.inl ⟨p, _, xs, rfl, rfl, e1, by omega, by omega, by rw [a1.length]; exact sizeOk_le hz.2, fun r nr => q r _ nr (a1.rep _)⟩)
    · cases h
  · split at h
    · rename_i hz
      cases h
      simp only [Bool.and_eq_true, decide_eq_true_eq, Bool.not_eq_true'] at hz
      obtain ⟨p, xs, rfl, e1, a1⟩ := hx
      cases sh_int hy
      refine .inr (.inr ⟨p, _, xs, rfl, rfl, .of (sF _ _ e1), ?_, hz.1.1.2, hz.1.2, by rw [a1.length]; exact hz.2, fun r nr => q r _ nr (a1.rep _)⟩)
      intro e
      subst e
      cases a1
      exact absurd hz.1.1.1 (by decide)
    · cases h
  · cases h
theorem s_div : Op2 K (rI CDivN fun i j => .int (i.fdiv j)) fDiv := by
  intro F H x y d e z Q sF hx hy h q
  unfold fDiv at h
  split at h
  · split at h
    · rename_i hz
      cases h
      simp only [Bool.and_eq_true, decide_eq_true_eq] at hz
      cases sh_int hx
      cases sh_int hy
      exact ⟨_, _, rfl, rfl, hz, nw_int q⟩
    · cases h
  · cases h
theorem s_mod : Op2 K (rI (fun _ j => j ≠ 0) fun i j => .int (i.fmod j)) fMod := by
  intro F H x y d e z Q sF hx hy h q
  unfold fMod at h
  split at h
  · split at h
    · rename_i hz
      cases h
      simp only [decide_eq_true_eq] at hz
      cases sh_int hx
      cases sh_int hy
      exact ⟨_, _, rfl, rfl, hz, nw_int q⟩
    · cases h
  · cases h
theorem s_pow : Op2 K (rI CPow fun i j => .int (i ^ j.toNat)) fPow := by
  intro F H x y d e z Q sF hx hy h q
  unfold fPow at h
  split at h
  · split at h
    · rename_i hz
      cases h
      simp only [Bool.and_eq_true, decide_eq_true_eq] at hz
      cases sh_int hx
      cases sh_int hy
      exact ⟨_, _, rfl, rfl, ⟨hz.1.1, by omega, by omega⟩, nw_int q⟩
    · cases h
  · cases h
theorem s_lt : Op2 K (rI0 fun i j => .bl (decide (i < j))) fLt := by
  intro F H x y d e z Q sF hx hy h q
  unfold fLt at h
  split at h
  · cases h
    cases sh_int hx
    cases sh_int hy
    exact ⟨_, _, rfl, rfl, nw_bool q⟩
  · cases h
theorem s_gt : Op2 K (rI0 fun i j => .bl (decide (j < i))) fGt := by
  intro F H x y d e z Q sF hx hy h q
  unfold fGt at h
  split at h
  · cases h
    cases sh_int hx
    cases sh_int hy
    exact ⟨_, _, rfl, rfl, nw_bool q⟩
  · cases h
theorem s_ge : Op2 K (rI0 fun i j => .bl (decide (j ≤ i))) fGe := by
  intro F H x y d e z Q sF hx hy h q
  unfold fGe at h
  split at h
  · cases h
    cases sh_int hx
    cases sh_int hy
    exact ⟨_, _, rfl, rfl, nw_bool q⟩
  · cases h
def rLe2 (K : PySem.W.Frag) : R2 := fun x y H Q => rI0 (fun i j => .bl (decide (i ≤ j))) x y H Q ∨ rLeT K x y H Q
theorem o_le (hu : X.A.units < cLine) : OpR X (compareOp .LtE) (rLe2 X.K) := op_le.or (op_leT hu)
theorem s_le : Op2 K (rLe2 K) fLe := by
  intro F H x y d e z Q sF hx hy h q
  unfold fLe at h
  split at h
  · cases h
    cases sh_int hx
    cases sh_int hy
    exact .inl ⟨_, _, rfl, rfl, nw_bool q⟩
  · split at h
    · rename_i ns ms e1 e2
      cases h
      obtain ⟨p, xs, rfl, t1, a1⟩ := hx
      obtain ⟨p2, ys, rfl, t2, a2⟩ := hy
      rw [ints_of a1 e1] at t1
      rw [ints_of a2 e2] at t2
      exact .inr ⟨p, p2, ns, ms, rfl, rfl, .of (sF _ _ t1), .of (sF _ _ t2), nw_bool q⟩
    · cases h
  · cases h
theorem s_eq : Op2 K (rEqD K) fEq := by
  intro F H x y d e z Q sF hx hy h q
  unfold fEq at h
  split at h
  · rename_i hz
    cases h
    rw [Bool.and_eq_true] at hz
    exact ⟨d, e, hx.dp sF hz.1, hy.dp sF hz.2, hz.1, hz.2, nw_bool q⟩
  · cases h
theorem s_ne : Op2 K (rNeD K) fNe := by
  intro F H x y d e z Q sF hx hy h q
  unfold fNe at h
  split at h
  · rename_i hz
    cases h
    rw [Bool.and_eq_true] at hz
    exact ⟨d, e, hx.dp sF hz.1, hy.dp sF hz.2, hz.1, hz.2, nw_bool q⟩
  · cases h
theorem isNo_of {F H : Hp} {x : V} : ∀ {d : D}, Sh K F H x d → decide (x = .non) = isNo d
  | .none, h => by cases sh_non h; rfl
  | .bool b, h => by cases sh_bool h; rfl
  | .int _, h => by cases sh_int h; rfl
  | .str _, h => by cases sh_str h; rfl
  | .list _, h => by obtain ⟨p, xs, rfl, _⟩ := h; rfl
  | .tuple _, h => by obtain ⟨p, xs, rfl, _⟩ := h; rfl
  | .dict _, h => by cases (show Rp K F x (.dict _) from h) <;> rfl
theorem s_isN : Op2 K (fun x y H Q => y = .non ∧ Q (.bl (decide (x = .non))) H) fIsN := by
  intro F H x y d e z Q sF hx hy h q
  unfold fIsN at h
  split at h
  · cases h
    exact ⟨sh_non hy, by rw [isNo_of hx]; exact nw_bool q⟩
  · cases h
theorem s_ix : Op2 K (rIx K) fIx := by
  intro F H x y d e z Q sF hx hy h q
  unfold fIx at h
  split at h
  · split at h
    · rename_i d ed
      cases h
      obtain ⟨p, xs, rfl, e1, a1⟩ := hx
      cases sh_int hy
      obtain ⟨v, hv, rv⟩ := rpa_atI a1 ed
      exact .inl ⟨p, xs, _, v, rfl, rfl, .of e1, hv, q v rv⟩
    · cases h
  · split at h
    · rename_i d ed
      cases h
      obtain ⟨p, xs, rfl, e1, a1⟩ := hx
      cases sh_int hy
      obtain ⟨v, hv, rv⟩ := rpa_atI a1 ed
      exact .inr (.inl ⟨p, xs, _, v, rfl, rfl, .of (sF _ _ e1), hv, q v rv⟩)
    · cases h
  · split at h
    · rename_i hz
      split at h
      · rename_i c ec
        cases h
        exact .inr (.inr ⟨_, _, c, sh_str hx, sh_int hy, sizeOk_le hz, ec, nw_str q⟩)
      · cases h
    · cases h
  · cases h
theorem s_neg : Op1 K (rU fun i => .int (-i)) fNeg := by
  intro F H x d z Q sF hx h q
  unfold fNeg at h
  split at h
  · cases h
    exact ⟨_, sh_int hx, nw_int q⟩
  · cases h
theorem s_len : OpN K (fun xs H Q => (∃ p ys, xs = [.ref p] ∧ (SqL K H p ys ∨ SqT K H p ys) ∧ Q (.int ys.length) H) ∨ ∃ z, xs = [.str z] ∧ z.length ≤ sizeLine ∧ Q (.int z.length) H) fLen := by
  intro F H xs ds z Q sF hx h q
  unfold fLen at h
  split at h
  · cases h
    cases hx with
    | cons a b =>
      cases b
      obtain ⟨p, xs, rfl, e1, a1⟩ := a
      exact .inl ⟨p, xs, rfl, .inl (.of e1), by rw [a1.length]; exact nw_int q⟩
  · cases h
    cases hx with
    | cons a b =>
      cases b
      obtain ⟨p, xs, rfl, e1, a1⟩ := a
      exact .inl ⟨p, xs, rfl, .inr (.of (sF _ _ e1)), by rw [a1.length]; exact nw_int q⟩
  · split at h
    · rename_i hz
      cases h
      cases hx with
      | cons a b =>
        cases b
        exact .inr ⟨_, by rw [sh_str a], sizeOk_le hz, nw_int q⟩
    · cases h
  · cases h
theorem s_int : OpN K (fun xs H Q => (∃ i, xs = [.int i] ∧ Q (.int i) H) ∨ ∃ k, xs = [.bl k] ∧ Q (.int (if k then 1 else 0)) H) fInt := by
  intro F H xs ds z Q sF hx h q
  unfold fInt at h
  split at h
  · cases h
    cases hx with
    | cons a b =>
      cases b
      cases sh_int a
      exact .inl ⟨_, rfl, nw_int q⟩
  · cases h
    cases hx with
    | cons a b =>
      cases b
      cases sh_bool a
      exact .inr ⟨_, rfl, nw_int q⟩
  · cases h
theorem s_list : OpN K (fun xs H Q => ∃ p ys, xs = [.ref p] ∧ (SqL K H p ys ∨ SqT K H p ys) ∧ ∀ l, H l = none → Q (.ref l) (upd H l (.lst ys))) fList := by
  intro F H xs ds z Q sF hx h q
  unfold fList at h
  split at h
  · cases h
    cases hx with
    | cons a b =>
      cases b
      obtain ⟨p, xs, rfl, e1, a1⟩ := a
      exact ⟨p, xs, rfl, .inl (.of e1), fun r nr => q r _ nr a1⟩
  · cases h
    cases hx with
    | cons a b =>
      cases b
      obtain ⟨p, xs, rfl, e1, a1⟩ := a
      exact ⟨p, xs, rfl, .inr (.of (sF _ _ e1)), fun r nr => q r _ nr a1⟩
  · cases h
end
end FX
set_option Elab.async false
set_option linter.all false
set_option maxRecDepth 100000
set_option maxHeartbeats 4000000
namespace Cmb
open PySem PySem.Spec
open Sem (wp)
theorem mro_c : mroOf (.type "itertools.combinations") = pure [.type "itertools.combinations", .type "object"] := by rw [mroOf_type]; kernel_rfl
theorem lookup_c_new : typeLookup (.type "itertools.combinations") "__new__" = pure (some (.builtin "itertools.combinations.__new__")) := by rw [typeLookup_type, builtinLookup_eq_fast]; kernel_rfl
theorem slot_c_init : Slot "itertools.combinations" "__init__" "object.__init__" :=
  .of (owner := "object") (n := "__init__") (by rw [typeLookup_type, builtinLookup_eq_fast]; kernel_rfl) (by decide +kernel) (by decide +kernel) (by decide +kernel)
    (by first | exact .inl (by decide +kernel) | exact .inr (by decide +kernel)) (by rw [isSubtype_type]; kernel_rfl)
theorem sub_c : isSubtype (.type "itertools.combinations") (.type "itertools.combinations") = pure true := by rw [isSubtype_type]; kernel_rfl
theorem called_c : TypeCalled "itertools.combinations" "itertools.combinations.__new__" "object.__init__" :=
  ⟨by decide +kernel, by decide +kernel, ⟨_, _, mro_c⟩, madeBy_type mro_c lookup_c_new (by decide +kernel), by decide +kernel, sub_c, slot_c_init⟩
theorem typeCall_c (a b : Value) : checkTypeCall "itertools.combinations" ⟨[a, b], []⟩ = pure () := by kernel_rfl
theorem newCall_c (a b : Value) : checkBuiltinCall "itertools.combinations.__new__" ⟨[.type "itertools.combinations", a, b], []⟩ = pure () := by kernel_rfl
theorem entry_c_new : entryFor table "itertools.combinations.__new__" = some Builtin.«itertools.combinations.__new__» := entryFor_of_tree (by kernel_rfl)
theorem plain_c_new : plainId "itertools.combinations.__new__" = true := by decide +kernel
theorem slot_c_iter : Slot "itertools.combinations" "__iter__" "itertools.combinations.__iter__" :=
  .of (owner := "itertools.combinations") (n := "__iter__") (by rw [typeLookup_type, builtinLookup_eq_fast]; kernel_rfl) (by decide +kernel) (by decide +kernel) (by decide +kernel)
    (by first | exact .inl (by decide +kernel) | exact .inr (by decide +kernel)) sub_c
theorem slot_c_next : Slot "itertools.combinations" "__next__" "itertools.combinations.__next__" :=
  .of (owner := "itertools.combinations") (n := "__next__") (by rw [typeLookup_type, builtinLookup_eq_fast]; kernel_rfl) (by decide +kernel) (by decide +kernel) (by decide +kernel)
    (by first | exact .inl (by decide +kernel) | exact .inr (by decide +kernel)) sub_c
theorem entry_c_iter : entryFor table "itertools.combinations.__iter__" = some Builtin.«dict_keyiterator.__iter__» :=
  entryFor_alias (id' := "dict_keyiterator.__iter__") (by kernel_rfl) (by first | rfl | decide +kernel | (unfold String.splitOn; simp +decide [String.splitOnAux])) (by decide +kernel) (by kernel_rfl)
theorem entry_c_next : entryFor table "itertools.combinations.__next__" = some Builtin.«itertools.combinations.__next__» := entryFor_of_tree (by kernel_rfl)
theorem owner_c : Manifest.owners.lookup (String.ofList ['s','n','o','i','t','a','n','i','b','m','o','c','.','s','l','o','o','t','r','e','t','i'].reverse) = some Manifest.sig_itertools_combinations := by kernel_rfl
theorem args_c_iter (a : Value) : argsOk "itertools.combinations.__iter__" ⟨[a], []⟩ := by
  unfold argsOk; rw [signature?_of (id := "itertools.combinations.__iter__") (n := ['_', '_', 'r', 'e', 't', 'i', '_', '_']) (o := ['s','n','o','i','t','a','n','i','b','m','o','c','.','s','l','o','o','t','r','e','t','i']) (by kernel_rfl) owner_c]; kernel_rfl
theorem args_c_next (a : Value) : argsOk "itertools.combinations.__next__" ⟨[a], []⟩ := by
  unfold argsOk; rw [signature?_of (id := "itertools.combinations.__next__") (n := ['_', '_', 't', 'x', 'e', 'n', '_', '_']) (o := ['s','n','o','i','t','a','n','i','b','m','o','c','.','s','l','o','o','t','r','e','t','i']) (by kernel_rfl) owner_c]; kernel_rfl
theorem noDict_c : typeHasDict (.type "itertools.combinations") = false := by decide +kernel
def nextC (n : Nat) (ix : List Nat) : Option (List Nat) :=
  let r := ix.length
  match (List.range r).reverse.find? fun i => ix.getD i 0 != i + n - r with
  | none => none
  | some i => some (ix.take i ++ (List.range (r - i)).map (ix.getD i 0 + 1 + ·))
theorem next_eq (args : Args) : Builtin.«itertools.combinations.__next__» args = (do
  let (self, _) ← slotArgs "__next__" 0 args
  let pool ← field self 0
  let indices ← Builtin.Itertools.itNumbersFrom self 3
  let handOut (indices : List Nat) : Sem Fin := do
    let result ← (do
      let items ← Builtin.Itertools.itPoolItems pool
      newTuple (indices.map fun i => items.getD i .none))
    let before ← field self 2
    setField self 2 result
    letGo [before] [result]
    ret result
  match ← Builtin.Itertools.itIntField self 1 with
  | 0 => setField self 1 (rawInt 1); handOut indices
  | 1 =>
    match nextC (← Builtin.Itertools.itPoolItems pool).size indices with
    | some next => Builtin.Itertools.itSetNumbersFrom self 3 next; handOut next
    | none => setField self 1 (rawInt 2); Builtin.Itertools.itStop
  | _ => rule "itertools.combinations.ended"; Builtin.Itertools.itStop) := rfl
end Cmb
set_option Elab.async false
set_option linter.all false
set_option maxRecDepth 100000
set_option maxHeartbeats 4000000
namespace Cmb
open PySem PySem.Spec
open Sem (wp)
def flds (pool : Addr) (st : Int) (last : Value) (ix : List Nat) : Array Value := ([.ref pool, rawInt st, last] ++ ix.map fun (i : Nat) => rawInt i).toArray
abbrev IsC (h : Heap) (it pool : Addr) (st : Int) (last : Value) (ix : List Nat) : Prop := h.get? it = some { cls := .type "itertools.combinations", dict := none, data := .fields (flds pool st last ix), slots := #[] }
abbrev IsP (h : Heap) (pool : Addr) (items : Array Value) : Prop := h.get? pool = some { cls := .type "tuple", data := .seq items }
def pickV (items : Array Value) (ix : List Nat) : List Value := ix.map fun i => items.getD i .none
section
variable {M : Model} {A : Around} {E : Value → Shared → Prop} {s : Shared} {it pool : Addr} {st : Int} {last : Value} {ix ix' : List Nat} {items : Array Value}
theorem fl0 : (flds pool st last ix)[0]? = some (.ref pool) := by simp [flds]
theorem fl1 : (flds pool st last ix)[1]? = some (rawInt st) := by simp [flds]
theorem fl2 : (flds pool st last ix)[2]? = some last := by simp [flds]
theorem fsz : 3 ≤ (flds pool st last ix).size := by simp [flds]
theorem numbers_ok {Q : List Nat → Shared → Prop} (h : IsC s.heap it pool st last ix) (q : Q ix s) : wpAny M A (Builtin.Itertools.itNumbersFrom (.ref it) 3) Q E s := by
  unfold Builtin.Itertools.itNumbersFrom
  refine wpAny_bind (wpAny_load h ?_)
  refine wpAny_pure ?_
  refine (congrArg (fun l => Q l s) (?_ : _ = ix)).mpr q
  simp only [flds, List.cons_append, List.nil_append, List.drop_succ_cons, List.drop_zero, List.map_map]
  conv => rhs; rw [← List.map_id ix]
  apply List.map_congr_left
  intro a _
  show Int.toNat (a : Int) = a
  simp
theorem pool_ok {Q : Array Value → Shared → Prop} (h : IsP s.heap pool items) (q : Q items s) : wpAny M A (Builtin.Itertools.itPoolItems (.ref pool)) Q E s := by
  unfold Builtin.Itertools.itPoolItems
  exact wpAny_bind (wpAny_seqItems h rfl (wpAny_pure q))
theorem intf_ok {Q : Int → Shared → Prop} (h : IsC s.heap it pool st last ix) (q : Q st s) : wpAny M A (Builtin.Itertools.itIntField (.ref it) 1) Q E s := by
  unfold Builtin.Itertools.itIntField
  exact wpAny_bind (wpAny_field h rfl fl1 (wpAny_pure q))
theorem setSt {h : Heap} (hc : IsC h it pool st last ix) (st' : Int) : IsC (h.update it (Obj.mapFields (·.setIfInBounds 1 (rawInt st')))) it pool st' last ix := by
  have e := Heap.get?_update_self (Obj.mapFields (·.setIfInBounds 1 (rawInt st'))) hc rfl
  refine e.trans ?_
  simp [Obj.mapFields, flds, List.setIfInBounds_toArray]
theorem setLast {h : Heap} (hc : IsC h it pool st last ix) (l' : Value) : IsC (h.update it (Obj.mapFields (·.setIfInBounds 2 l'))) it pool st l' ix := by
  have e := Heap.get?_update_self (Obj.mapFields (·.setIfInBounds 2 l')) hc rfl
  refine e.trans ?_
  simp [Obj.mapFields, flds, List.setIfInBounds_toArray]
theorem setIx {h : Heap} (hc : IsC h it pool st last ix) (ix' : List Nat) : IsC (h.update it (Obj.mapFields fun fs => fs.extract 0 3 ++ (ix'.map fun (n : Nat) => rawInt n).toArray)) it pool st last ix' := by
  have e := Heap.get?_update_self (Obj.mapFields fun fs => fs.extract 0 3 ++ (ix'.map fun (n : Nat) => rawInt n).toArray) hc rfl
  refine e.trans ?_
  simp [Obj.mapFields, flds]
theorem hand_ok {Q : Value → Shared → Prop} (hc : IsC s.heap it pool st last ix) (hp : IsP s.heap pool items) (js : List Nat) (hj : js.length ≤ 1000)
    (q : ∀ h', IsC h' it pool st (.ref s.heap.objs.size) ix → h'.get? s.heap.objs.size = some { cls := .type "tuple", data := .seq (pickV items js).toArray } → h'.objs.size = s.heap.objs.size + 1 → (∀ b o, b ≠ it → s.heap.get? b = some o → h'.get? b = some o) → Q (.ref s.heap.objs.size) { s with heap := h' }) :
    wpAny M A (do
      let result ← (do
        let items ← Builtin.Itertools.itPoolItems (.ref pool)
        newTuple (js.map fun i => items.getD i .none))
      let before ← field (.ref it) 2
      setField (.ref it) 2 result
      letGo [before] [result]
      ret result) (fun fin s' => ∃ v, fin = .done (.ret v) ∧ Q v s') E s := by
  refine wpAny_bind (wpAny_bind (pool_ok hp (wpAny_newTuple ?_ (by rw [List.length_map]; exact Nat.le_trans hj (by decide)))))
  have hc1 : IsC (s.heap.push { cls := .type "tuple", data := .seq (pickV items js).toArray }) it pool st last ix := Heap.get?_push_of_some _ hc
  refine wpAny_bind (wpAny_field hc1 rfl fl2 ?_)
  refine wpAny_bind (wpAny_setField hc1 rfl fsz ?_)
  refine wpAny_bind (wpAny_letGo ?_)
  refine wpAny_pure ⟨_, rfl, ?_⟩
  have hlt : it < s.heap.objs.size := Heap.lt_size hc
  refine q _ (setLast hc1 _) ?_ ?_ fun b o hb e => ?_
  · rw [Heap.get?_update_other _ _ (Nat.ne_of_lt hlt)]
    exact Heap.get?_push_size _ rfl
  · rw [Heap.size_update, Heap.size_push]
  · rw [Heap.get?_update_other _ _ (Ne.symm hb)]
    exact Heap.get?_push_of_some _ e
end
section
variable {prog : Program} {w : World} {A : Around} {E : Value → Shared → Prop} {s : Shared} {it pool : Addr} {st : Int} {last : Value} {ix ix' : List Nat} {items : Array Value}
theorem next_first {Q : Option Value → Shared → Prop} (hc : IsC s.heap it pool 0 last ix) (hp : IsP s.heap pool items) (hpi : pool ≠ it) (hj : ix.length ≤ 1000)
    (q : ∀ h', IsC h' it pool 1 (.ref s.heap.objs.size) ix → h'.get? s.heap.objs.size = some { cls := .type "tuple", data := .seq (pickV items ix).toArray } → h'.objs.size = s.heap.objs.size + 1 → (∀ b o, b ≠ it → s.heap.get? b = some o → h'.get? b = some o) → Q (some (.ref s.heap.objs.size)) { s with heap := h' }) :
    wpAny (model prog w) A (pyNext (.ref it)) Q E s := by
  have hT : s.TypeIs (.ref it) "itertools.combinations" := ⟨_, hc, rfl⟩
  unfold pyNext
  refine wpAny_bind (wpAny_attempt (wpAny_callSpecial?_slot (name := Str.ofString "__next__") hT slot_c_next (wpAny_call_entry slot_c_next hT entry_c_next ?_ (args_c_next _))))
  rw [next_eq]
  show wpAny _ _ (field (.ref it) 0 >>= _) _ _ s
  refine wpAny_bind (wpAny_field hc rfl fl0 ?_)
  refine wpAny_bind (numbers_ok hc ?_)
  refine wpAny_bind (intf_ok hc ?_)
  show wpAny _ _ (setField (.ref it) 1 (rawInt 1) >>= _) _ _ s
  refine wpAny_bind (wpAny_setField hc rfl (Nat.lt_of_lt_of_le (by decide) fsz) ?_)
  have hsz : (s.heap.update it (Obj.mapFields (·.setIfInBounds 1 (rawInt 1)))).objs.size = s.heap.objs.size := Heap.size_update ..
  refine hand_ok (setSt hc 1) (items := items) ?_ ix hj fun h' a b c d => ?_
  · show (s.heap.update it _).get? pool = _
    rw [Heap.get?_update_other _ _ (Ne.symm hpi)]; exact hp
  · simp only [hsz] at a b c d ⊢
    exact wpAny_pure (q h' a b c fun b' o hb e => d b' o hb (by rw [Heap.get?_update_other _ _ (Ne.symm hb)]; exact e))
theorem next_more {Q : Option Value → Shared → Prop} (hc : IsC s.heap it pool 1 last ix) (hp : IsP s.heap pool items) (hpi : pool ≠ it) (hn : nextC items.size ix = some ix') (hj : ix'.length ≤ 1000)
    (q : ∀ h', IsC h' it pool 1 (.ref s.heap.objs.size) ix' → h'.get? s.heap.objs.size = some { cls := .type "tuple", data := .seq (pickV items ix').toArray } → h'.objs.size = s.heap.objs.size + 1 → (∀ b o, b ≠ it → s.heap.get? b = some o → h'.get? b = some o) → Q (some (.ref s.heap.objs.size)) { s with heap := h' }) :
    wpAny (model prog w) A (pyNext (.ref it)) Q E s := by
  have hT : s.TypeIs (.ref it) "itertools.combinations" := ⟨_, hc, rfl⟩
  unfold pyNext
  refine wpAny_bind (wpAny_attempt (wpAny_callSpecial?_slot (name := Str.ofString "__next__") hT slot_c_next (wpAny_call_entry slot_c_next hT entry_c_next ?_ (args_c_next _))))
  rw [next_eq]
  show wpAny _ _ (field (.ref it) 0 >>= _) _ _ s
  refine wpAny_bind (wpAny_field hc rfl fl0 ?_)
  refine wpAny_bind (numbers_ok hc ?_)
  refine wpAny_bind (intf_ok hc ?_)
  show wpAny _ _ (Builtin.Itertools.itPoolItems (.ref pool) >>= _) _ _ s
  refine wpAny_bind (pool_ok hp ?_)
  rw [hn]
  show wpAny _ _ (Builtin.Itertools.itSetNumbersFrom (.ref it) 3 ix' >>= _) _ _ s
  refine wpAny_bind ?_
  unfold Builtin.Itertools.itSetNumbersFrom
  refine wpAny_updateFields hc rfl ?_ ?_
  · have hsz : (s.heap.update it (Obj.mapFields fun fs => fs.extract 0 3 ++ (ix'.map fun (n : Nat) => rawInt n).toArray)).objs.size = s.heap.objs.size := Heap.size_update ..
    refine hand_ok (setIx hc ix') (items := items) ?_ ix' hj fun h' a b c d => ?_
    · show (s.heap.update it _).get? pool = _
      rw [Heap.get?_update_other _ _ (Ne.symm hpi)]; exact hp
    · simp only [hsz] at a b c d ⊢
      exact wpAny_pure (q h' a b c fun b' o hb e => d b' o hb (by rw [Heap.get?_update_other _ _ (Ne.symm hb)]; exact e))
  · simp [flds]
    exact Nat.le_trans hj (by decide)
theorem next_end {Q : Option Value → Shared → Prop} (hh : A.handled = none) (hc : IsC s.heap it pool 1 last ix) (hp : IsP s.heap pool items) (hn : nextC items.size ix = none)
    (q : ∀ h', Heap.ExtBut it s.heap h' → Q none { s with heap := h' }) : wpAny (model prog w) A (pyNext (.ref it)) Q E s := by
  have hT : s.TypeIs (.ref it) "itertools.combinations" := ⟨_, hc, rfl⟩
  unfold pyNext
  refine wpAny_bind (wpAny_attempt (wpAny_callSpecial?_slot (name := Str.ofString "__next__") hT slot_c_next (wpAny_call_entry slot_c_next hT entry_c_next ?_ (args_c_next _))))
  rw [next_eq]
  show wpAny _ _ (field (.ref it) 0 >>= _) _ _ s
  refine wpAny_bind (wpAny_field hc rfl fl0 ?_)
  refine wpAny_bind (numbers_ok hc ?_)
  refine wpAny_bind (intf_ok hc ?_)
  show wpAny _ _ (Builtin.Itertools.itPoolItems (.ref pool) >>= _) _ _ s
  refine wpAny_bind (pool_ok hp ?_)
  rw [hn]
  show wpAny _ _ (setField (.ref it) 1 (rawInt 2) >>= _) _ _ s
  refine wpAny_bind (wpAny_setField hc rfl (Nat.lt_of_lt_of_le (by decide) fsz) ?_)
  show wpAny _ _ (newExc (.type "StopIteration") [] >>= _) _ _ _
  refine wpAny_bind ?_
  simp only [newExc, newTuple]
  refine wpAny_bind (wpAny_newObj_type ?_ (by size_fits))
  refine wpAny_bind (m := firstArgMember _ _) (wpAny_of_eq (a := Value.none) (by first | rfl | (simp only [firstArgMember]; rfl)) ?_)
  refine wpAny_newObj_type ?_ (by size_fits)
  simp only [raiseNew]
  refine wpAny_bind (wpAny_handled ?_)
  first | rw [show A.in1.handled = none from hh] | rw [hh]
  refine wpAny_bind (wpAny_pure (wpAny_throw ?_))
  refine wpAny_bind (wpAny_isInstance (T := "StopIteration") (b := true) ⟨_, Heap.get?_push_size _ rfl, rfl⟩ isSubtype_stop ?_)
  exact wpAny_pure (q _ (((Heap.SameBut.update ..).extBut.push _).push _))
theorem iter_self {Q : Value → Shared → Prop} (hc : IsC s.heap it pool st last ix) (h : Q (.ref it) s) : wpAny (model prog w) A (pyIter (.ref it)) Q E s := by
  have hT : s.TypeIs (.ref it) "itertools.combinations" := ⟨_, hc, rfl⟩
  refine wpAny_pyIter_slot hT slot_c_iter (wpAny_call_entry slot_c_iter hT entry_c_iter ?_ (args_c_iter _))
  show wpAny _ _ (ret (.ref it)) _ _ s
  exact wpAny_pure ⟨_, rfl, "itertools.combinations", _, hT, slot_c_next.lookup, h⟩
end
end Cmb
set_option Elab.async false
set_option linter.all false
set_option maxRecDepth 100000
set_option maxHeartbeats 4000000
namespace Cmb
open PySem PySem.Spec
open Sem (wp)
abbrev newH (h : Heap) (acc : Array Value) (k : Nat) : Heap := (h.push { cls := .type "tuple", data := .seq acc }).push { cls := .type "itertools.combinations", data := .fields (flds h.objs.size 0 .none (List.range k)) }
section
variable {prog : Program} {w : World} {A : Around} {E : Value → Shared → Prop} {s : Shared} {r : Addr} {a b c : Int} {t u v tk : Tok} {n : Nat} {k : Int}
theorem code_new {Q₁ : Value → Shared → Prop} (hh : A.handled = none) (hr : IsRange s.heap r a b c t u v) (hsmall : Builtin.Range.small a b c = true) (hn : Builtin.Range.rangeSize a b c = n) (hlen : n ≤ 1000) (hk0 : 0 ≤ k) (hk : k ≤ n)
    (h : ∀ (h' : Heap) (tk : Nat) (acc : Array Value), (∀ b o, s.heap.get? b = some o → h'.get? b = some o) → ItemsOf (fun i v => ∃ t, v = .int (a + i * c) t) acc n → Q₁ (.ref (h'.objs.size + 1)) { s with heap := newH h' acc k.toNat, toks := tk }) :
    codeAny (model prog w) A (.call (.builtin "itertools.combinations.__new__") ⟨[.type "itertools.combinations", .ref r, .int k tk], []⟩) (wants Q₁ E) s := by
  refine codeAny_of_tree ?_
  show wpAny _ A.in1 (do checkBuiltinCall "itertools.combinations.__new__" ⟨[.type "itertools.combinations", .ref r, .int k tk], []⟩; again (.builtin "itertools.combinations.__new__" ⟨[.type "itertools.combinations", .ref r, .int k tk], []⟩)) _ _ s
  refine wpAny_bind (wpAny_of_eq (newCall_c _ _) (wpAny_pure ⟨plainId_quiet plain_c_new _, codeAny_builtin entry_c_new ?_⟩))
  rw [Around.under_plainId plain_c_new _]
  have hsub := sub_c
  have hsub2 : isSubtype (.type "itertools.combinations") (.type ("itertools." ++ "combinations")) = pure true := by rw [show ("itertools." ++ "combinations") = "itertools.combinations" from by decide]; exact sub_c
  have hd := noDict_c
  have hTI : s.TypeIs (.ref r) "range" := ⟨_, hr, rfl⟩
  have hh1 : A.in1.handled = none := hh
  have e1 : (decide (k < -(2 ^ 63 : Int)) || decide (k ≥ 2 ^ 63)) = false := by
    rw [decide_eq_false (by omega), decide_eq_false (by omega)]; rfl
  have e3 : Builtin.Itertools.itTooMany k = false := by
    unfold Builtin.Itertools.itTooMany
    exact decide_eq_false (by omega)
  wp_walk using wpAny_typeOf hTI
  rw [if_neg (by rw [e1]; exact Bool.false_ne_true)]
  refine wpAny_pure ?_
  show wpAny _ _ (collect (.ref r) >>= _) _ _ _
  refine wpAny_bind (L2.collect_range (A := A.in1) hh1 hr hsmall hn (Nat.le_trans hlen (by decide)) fun h' tk' acc hk' hacc => ?_)
  have e4 : ¬ k < 0 := by omega
  have e5 : ¬ (Builtin.Itertools.itTooMany k = true) := by rw [e3]; exact Bool.false_ne_true
  rw [if_neg e4, if_neg e5]
  have hsz : acc.toList.length = n := by rw [Array.length_toList]; exact hacc.1
  refine wpAny_bind (wpAny_newTuple ?_ (by rw [hsz]; exact Nat.le_trans hlen (by decide)))
  refine wpAny_pure ?_
  show wpAny _ _ (Builtin.Itertools.itNewRecord (.type "itertools.combinations") _ >>= fun v => ret v) _ _ _
  refine wpAny_bind ?_
  unfold Builtin.Itertools.itNewRecord
  rw [hd]
  have e6 : ¬ (k.toNat > acc.toList.length) := by rw [hsz]; omega
  rw [if_neg e6]
  rw [if_pos (show (!false) = true from rfl)]
  refine wpAny_newObj_type ?_ ?_
  · refine wpAny_pure ?_
    have hq := h h' tk' acc hk' hacc
    have e7 : acc.toList.toArray = acc := by simp
    have e8 : (h'.push { cls := .type "tuple", data := .seq acc }).objs.size = h'.objs.size + 1 := Heap.size_push ..
    simp only [e7, e8]
    exact hq
  · show _ ≤ _
    simp
    exact Nat.le_trans (show k.toNat + 1 ≤ 1001 by omega) (by decide)
end
end Cmb
set_option Elab.async false
set_option linter.all false
set_option maxRecDepth 100000
set_option maxHeartbeats 4000000
namespace Cmb
open PySem PySem.Spec PyProof.Rows
theorem call_comb {prog : Program} {w : World} {A : Around} {E : Value → Shared → Prop} {s : Shared} {r : Addr} {a b c : Int} {t u v tk : Tok} {n : Nat} {k : Int} {Q : Value → Shared → Prop} (hh : A.handled = none) (hr : IsRange s.heap r a b c t u v)
    (hsmall : Builtin.Range.small a b c = true) (hn : Builtin.Range.rangeSize a b c = n) (hlen : n ≤ 1000) (hk0 : 0 ≤ k) (hk : k ≤ n)
    (h : ∀ (h' : Heap) (tk : Nat) (acc : Array Value), (∀ b o, s.heap.get? b = some o → h'.get? b = some o) → ItemsOf (fun i v => ∃ t, v = .int (a + i * c) t) acc n → Q (.ref (h'.objs.size + 1)) { s with heap := newH h' acc k.toNat, toks := tk }) :
    wpAny (model prog w) A (call (.type "itertools.combinations") [.ref r, .int k tk]) Q E s := by
  refine callType_codes (Q₁ := fun obj s₁ => s₁.TypeIs obj "itertools.combinations" ∧ Q obj s₁) called_c (typeCall_c _ _) F.entry_object_init
    (code_new (A := A.in1) hh hr hsmall hn hlen hk0 hk fun h' tk acc hk' hacc => ⟨?_, h h' tk acc hk' hacc⟩) fun obj s₁ h₁ => ?_
  · refine ⟨{ cls := .type "itertools.combinations", data := .fields (flds h'.objs.size 0 .none (List.range k.toNat)) }, ?_, rfl⟩
    have e : (h'.push { cls := .type "tuple", data := .seq acc }).objs.size = h'.objs.size + 1 := Heap.size_push ..
    show (newH h' acc k.toNat).get? (h'.objs.size + 1) = some _
    rw [← e]
    exact Heap.get?_push_size _ rfl
  · exact ⟨h₁.1, F.args_object_init_3 obj _ _, object_init_meets called_c.init.lookup called_c.made (by decide) prog w A.in1 _ s₁ ⟨h₁.1, rfl, h₁.2⟩⟩
def okC (n k : Nat) (L : List (List Nat)) : Bool := decide (L[0]? = some (List.range k)) && (List.range L.length).all (fun i => decide (nextC n (L.getD i []) = L[i + 1]?)) && L.all (fun c => c.all (fun j => decide (j < n)) && decide (c.length ≤ 1000))
theorem okC_of {n k : Nat} {L : List (List Nat)} (h : okC n k L = true) : L[0]? = some (List.range k) ∧ (∀ i, i < L.length → nextC n (L.getD i []) = L[i + 1]?) ∧ ∀ c ∈ L, (∀ j ∈ c, j < n) ∧ c.length ≤ 1000 := by
  unfold okC at h
  simp only [Bool.and_eq_true, decide_eq_true_eq, List.all_eq_true, List.mem_range] at h
  exact ⟨h.1.1, h.1.2, h.2⟩
open L2
def Itc (lo : Int) (L : List (List Nat)) : It := ⟨fun i _ => i < L.length, fun i H x H' => ∃ T c, L[i]? = some c ∧ x = .ref T ∧ H T = none ∧ H' = upd H T (.tup (c.map fun (k : Nat) => V.int (lo + k))), fun i _ => L.length ≤ i⟩
theorem vals_pick {lo : Int} {n : Nat} {acc : Array Value} (hacc : ItemsOf (fun i v => ∃ t, v = Value.int (lo + i * 1) t) acc n) : ∀ {c : List Nat}, (∀ j ∈ c, j < n) → Vals (c.map fun (k : Nat) => V.int (lo + k)) (pickV acc c)
  | [], _ => .nil
  | j :: c, h => by
    refine .cons ?_ (vals_pick hacc fun i hi => h i (List.mem_cons_of_mem _ hi))
    have hj : j < n := h j List.mem_cons_self
    obtain ⟨hsz, hit⟩ := hacc
    have hjs : j < acc.size := by rw [hsz]; exact hj
    obtain ⟨t, e⟩ := hit j acc[j] (Array.getElem?_eq_getElem hjs)
    refine ⟨t, ?_⟩
    show acc.getD j .none = _
    rw [Array.getD_eq_getD_getElem?, Array.getElem?_eq_getElem hjs]
    show acc[j] = _
    rw [e, Int.mul_one]
theorem turn_comb {P : Program} {w : World} {K : PySem.W.Frag} {tg : Expr} (it pool : Addr) (lo : Int) (n k : Nat) (L : List (List Nat)) (hL : okC n k L = true) :
    Turn P w K tg (Itc lo L) [it, pool] it (fun i h => pool ≠ it ∧ i ≤ L.length ∧ (∃ acc, IsP h pool acc ∧ ItemsOf (fun i v => ∃ t, v = Value.int (lo + i * 1) t) acc n) ∧ ∃ last, IsC h it pool (if i = 0 then 0 else 1) last (L.getD (i - 1) [])) where
  mem := by simp
  obj := fun i h st b hb => by
    obtain ⟨_, _, ⟨acc, hp, _⟩, last, hc⟩ := st
    have e' : b = it ∨ b = pool := by simpa using hb
    rcases e' with z | z
    · rw [z]; exact ⟨_, hc, fun v q => nomatch q⟩
    · rw [z]; exact ⟨_, hp, fun v q => nomatch q⟩
  keep := fun i h h' st kk => let ⟨a, b, ⟨acc, hp, hi⟩, last, hc⟩ := st; ⟨a, b, ⟨acc, kk pool (by simp) _ hp, hi⟩, last, kk it (by simp) _ hc⟩
  item := by
    intro X hP hw hK hc i pins s σ H E I hf st hg
    subst hP hw hK
    obtain ⟨l0, ln, lb⟩ := okC_of hL
    obtain ⟨hne, hle, ⟨acc, hp, hacc⟩, last, hcc⟩ := st
    have hi : i < L.length := hg
    have hgi : L[i]? = some L[i] := List.getElem?_eq_getElem hi
    obtain ⟨c1, c2⟩ := lb L[i] (List.getElem_mem hi)
    have hsz : acc.size = n := hacc.1
    have go : ∀ h', IsC h' it pool 1 (.ref s.heap.objs.size) L[i] → h'.get? s.heap.objs.size = some { cls := .type "tuple", data := .seq (pickV acc L[i]).toArray } → h'.objs.size = s.heap.objs.size + 1 → (∀ b o, b ≠ it → s.heap.get? b = some o → h'.get? b = some o) →
        ∃ u, (some (Value.ref s.heap.objs.size) : Option Value) = some u ∧ wpAny (model X.prog X.w) X.A (letOwnedTupleGo tg (.ref it) u) (fun _ s2 => ∃ x H', Inv X pins σ H' s2 ∧ RelV x u ∧ (Itc lo L).yld i H x H' ∧
          (fun i h => pool ≠ it ∧ i ≤ L.length ∧ (∃ acc, IsP h pool acc ∧ ItemsOf (fun i v => ∃ t, v = Value.int (lo + i * 1) t) acc n) ∧ ∃ last, IsC h it pool (if i = 0 then 0 else 1) last (L.getD (i - 1) [])) (i + 1) s2.heap ∧ ∀ b ∈ [it, pool], H' b = none) E { s with heap := h' } := fun h' a b c d => by
      have new : ObjOk X.prog X.w (upd H s.heap.objs.size (.tup (L[i].map fun (k : Nat) => V.int (lo + k)))) h' s.heap.objs.size (.tup (L[i].map fun (k : Nat) => V.int (lo + k))) :=
        ⟨by rw [List.length_map]; exact Nat.le_trans c2 (by decide), pickV acc L[i], vals_pick hacc c1, ⟨_, b, rfl, _, rfl⟩⟩
      have I1 : Inv X pins σ (upd H s.heap.objs.size (.tup (L[i].map fun (k : Nat) => V.int (lo + k)))) { s with heap := h', toks := s.toks } :=
        I.turnedNew (ch := [it]) (fun b ob hb q => d b ob (fun z => hb (by simp [z])) q) (fun b hb => hf b (by simp at hb; simp [hb])) (Nat.le_refl _) new
      refine ⟨_, rfl, go_of (s := { s with heap := h' }) a rfl rfl (by decide) ⟨.ref s.heap.objs.size, _, I1, rfl, ⟨_, _, hgi, rfl, I.hok.fresh (Nat.le_refl _), rfl⟩, ⟨hne, hi, ⟨acc, d pool _ hne hp, hacc⟩, .ref s.heap.objs.size, ?_⟩, fun b' hb' => ?_⟩⟩
      · show IsC h' it pool (if i + 1 = 0 then 0 else 1) _ (L.getD (i + 1 - 1) [])
        rw [if_neg (Nat.succ_ne_zero i), Nat.add_sub_cancel, List.getD_eq_getElem?_getD, hgi]
        exact a
      · have hlt : b' < s.heap.objs.size := by
          have e' : b' = it ∨ b' = pool := by simpa using hb'
          rcases e' with z | z
          · rw [z]; exact Heap.lt_size hcc
          · rw [z]; exact Heap.lt_size hp
        rw [upd_ne (Nat.ne_of_lt hlt)]
        exact (hf b' hb').1
    cases i with
    | zero =>
      have e0 : L.getD (0 - 1) [] = L[0] := by rw [List.getD_eq_getElem?_getD, hgi]; rfl
      rw [if_pos rfl, e0] at hcc
      exact next_first hcc hp hne c2 go
    | succ i =>
      have hi' : i < L.length := Nat.lt_of_succ_lt hi
      rw [if_neg (Nat.succ_ne_zero i), Nat.add_sub_cancel] at hcc
      exact next_more hcc hp hne (by rw [hsz, ln i hi']; exact hgi) c2 go
  done := by
    intro X hP hw hK hc i pins s σ H E I hf st hg
    subst hP hw hK
    obtain ⟨l0, ln, lb⟩ := okC_of hL
    obtain ⟨hne, hle, ⟨acc, hp, hacc⟩, last, hcc⟩ := st
    have hi : L.length ≤ i := hg
    have ei : i = L.length := Nat.le_antisymm hle hi
    obtain ⟨f0, f1, f2, f3, f4, f5⟩ := hf it (by simp)
    have hpos : 0 < L.length := by
      cases q : L with
      | nil => rw [q] at l0; simp at l0
      | cons x r => simp
    have hi0 : i ≠ 0 := by omega
    rw [if_neg hi0] at hcc
    refine next_end (I.ok.hd hc) hcc hp ?_ fun h' eb => ⟨rfl, I.turned (t' := s.toks) (fun b o hb e => eb b o hb e) f0 f1 f3 f4 f5⟩
    rw [show acc.size = n from hacc.1, ln (i - 1) (by omega)]
    exact List.getElem?_eq_none (by omega)
  self := fun A i s Q E st h => let ⟨_, _, _, last, hc⟩ := st; iter_self hc h
theorem cr_range1 {X : Cx} : CallR X (.type "range") (fun vs H Q => ∃ j, vs = [V.int j] ∧ ∀ p, H p = none → Q (.ref p) (upd H p (.rng 0 j))) := by
  intro pins s σ H vs us Q I r h
  obtain ⟨j, rfl, q⟩ := h
  cases r with
  | cons r rr =>
    cases rr
    obtain ⟨t, rfl⟩ := r
    refine call_range_1 ⟨.ref s.heap.objs.size, upd H s.heap.objs.size (.rng 0 j), I.laid (fun b o e => Heap.get?_push_of_some _ e) (Nat.le_refl _) ?_, rfl, q _ (I.hok.fresh (Nat.le_refl _))⟩
    exact ⟨_, _, _, Heap.get?_push_size _ rfl⟩
def iComb (ta : TA) : TI := fun σ H R => ta σ H fun vs H1 => ∃ (a : Addr) (lo hi k : Int) (L : List (List Nat)), vs = [.ref a, .int k] ∧ H1 a = some (.rng lo hi) ∧ (-(2 ^ 62) ≤ lo ∧ lo < 2 ^ 62 ∧ -(2 ^ 62) ≤ hi ∧ hi < 2 ^ 62) ∧ (hi - lo).toNat ≤ 1000 ∧ 0 ≤ k ∧ k.toNat ≤ (hi - lo).toNat ∧ okC (hi - lo).toNat k.toNat L = true ∧ R (Itc lo L) H1
theorem pi_comb {X : Cx} {tg a b : Expr} {ta : TA} {x : Str} {p pos : Pos} (hg : Gl X x) (hm : X.mg x = some (.type "itertools.combinations")) (hc : X.calm = true) (ha : PA X [a, b] ta) (hd : (x == ("__debug__" : Str)) = false := by decide)
    (hs : starEach [a, b] X.env = (false, eval a X.env) :: starEach [b] X.env := by rfl) (hpl : (backTo pos (starEach [b] X.env)).any (·.1) = false := by rfl) : PI X tg (.Call (.Name x p) [a, b] [] pos) (iComb ta) := by
  refine ⟨fun pins s σ H R I h => ?_⟩
  refine Call_ (ld_glob I hg hm (PyProof.Rows.callWith_type1 (thn (ha.run pos pins s σ H _ I h) fun us s1 ⟨vs, H1, I1, r1, q1⟩ => ?_) hs hpl) hd)
  obtain ⟨ra, lo, hi, k, L, e, hr, ⟨b1, b2, b3, b4⟩, hlen, hk0, hk, hL, q⟩ := q1
  subst e
  cases r1 with
  | cons r rr =>
    cases rr with
    | cons r' rr =>
      cases rr
      cases r
      obtain ⟨tk, rfl⟩ := r'
      obtain ⟨t, u, v, hrg⟩ := I1.hok ra _ hr
      have hsz : Builtin.Range.rangeSize lo hi 1 = (((hi - lo).toNat : Nat) : Int) := by rw [rangeSize_one]; split <;> omega
      refine call_comb (I1.ok.hd hc) (show IsRange s1.heap ra lo hi 1 t u v from hrg) (small_one b1 b2 b3 b4) hsz hlen hk0 (by omega) fun h' tk' acc hk' hacc => ?_
      have I2 : Inv X pins σ H1 { s1 with heap := h', toks := tk' } := I1.kept hk'
      have ez : (h'.push { cls := .type "tuple", data := .seq acc }).objs.size = h'.objs.size + 1 := Heap.size_push ..
      have hc2 : IsC (newH h' acc k.toNat) (h'.objs.size + 1) h'.objs.size 0 .none (List.range k.toNat) := by
        show (newH h' acc k.toNat).get? (h'.objs.size + 1) = _
        rw [← ez]
        exact Heap.get?_push_size _ rfl
      have hp2 : IsP (newH h' acc k.toNat) h'.objs.size acc := Heap.get?_push_of_some _ (Heap.get?_push_size _ rfl)
      have I3 : Inv X pins σ H1 { s1 with heap := newH h' acc k.toNat, toks := tk' } := I2.kept fun b o e => Heap.get?_push_of_some _ (Heap.get?_push_of_some _ e)
      refine iter_self hc2 ?_
      refine ⟨h'.objs.size + 1, [h'.objs.size + 1, h'.objs.size], _, _, H1, rfl, I3, turn_comb (h'.objs.size + 1) h'.objs.size lo _ k.toNat L hL, ⟨Nat.ne_of_lt (Nat.lt_succ_self _), Nat.zero_le _, ⟨acc, hp2, hacc⟩, .none, ?_⟩, fun b hb => ?_, q⟩
      · have l0 := (okC_of hL).1
        have e0 : L.getD (0 - 1) [] = List.range k.toNat := by rw [List.getD_eq_getElem?_getD, l0]; rfl
        rw [e0]
        exact hc2
      · have hle : h'.objs.size ≤ b := by
          have e' : b = h'.objs.size + 1 ∨ b = h'.objs.size := by simpa using hb
          rcases e' with z | z
          · rw [z]; exact Nat.le_succ _
          · rw [z]; exact Nat.le_refl _
        exact I2.fpOk (s := { s1 with heap := h', toks := tk' }) hle (I2.hok.fresh hle)
end Cmb
set_option maxRecDepth 100000
namespace TyNe
open PySem PySem.TypeEq
open Sem (wp)
theorem slot_type_ne : Slot "type" (cmpInfo .NotEq).2.1 "object.__ne__" :=
  .of (owner := "object") (n := "__ne__") (by rw [typeLookup_type, builtinLookup_eq_fast]; kernel_rfl) (by decide +kernel) (by decide +kernel) (by decide +kernel)
    (by first | exact .inl (by decide +kernel) | exact .inr (by decide +kernel)) (by rw [isSubtype_type]; kernel_rfl)
theorem slot_type_ne_refl : Slot "type" (cmpInfo .NotEq).2.2 "object.__ne__" :=
  .of (owner := "object") (n := "__ne__") (by rw [typeLookup_type, builtinLookup_eq_fast]; kernel_rfl) (by decide +kernel) (by decide +kernel) (by decide +kernel)
    (by first | exact .inl (by decide +kernel) | exact .inr (by decide +kernel)) (by rw [isSubtype_type]; kernel_rfl)
section
variable {M : Model} {A : Around} {E : Value → Shared → Prop} {s : Shared}
theorem ne_decline {a b : Value} {T id : String} {k : Bool} {Q : Value → Shared → Prop} (ha : ∀ s' : Shared, s'.TypeIs a T) (hb : ∀ s' : Shared, s'.TypeIs b T)
    (h1 : Slot T (cmpInfo .NotEq).2.1 id) (h2 : Slot T (cmpInfo .NotEq).2.2 id) (hv : [a, b].any Value.onHeap = false) (hk : isSame a b = pure k)
    (hc : wpAny M A (call (.builtin id) [a, b]) (fun v s₁ => v = .notImplemented ∧ wpAny M A (call (.builtin id) [b, a]) (fun v s₂ => v = .notImplemented ∧ Q (.bool (!k)) s₂) E s₁) E s) :
    wpAny M A (richCompare .NotEq a b) Q E s := by
  rcases hi : cmpInfo CmpOp.NotEq with ⟨sym, f, r⟩
  rw [hi] at h1 h2
  simp only [richCompare, hi, (ha s).oneThing_none]
  try with_reducible refine wpAny_holding ?_
  refine wpAny_bind (wpAny_cRoomFor_or (.inl hv) ?_)
  refine wpAny_bind (wpAny_typeOf (ha s) (wpAny_bind (wpAny_typeOf (hb s) ?_)))
  simp only [bne_self_eq_false, Bool.false_eq_true, if_false, pure_bind, Bool.not_false, if_true]
  refine wpAny_bind (m := tryCompare a _ b) (wpAny_tryCompare_declines (ha s) h1 (wpAny_mono hc (fun v s₁ h₁ => ⟨h₁.1, ?_⟩) fun _ _ x => x))
  refine wpAny_bind (m := tryCompare b _ a) (wpAny_tryCompare_declines (hb s₁) h2 (wpAny_mono h₁.2 (fun v s₂ h₂ => ⟨h₂.1, ?_⟩) fun _ _ x => x))
  refine wpAny_bind (wpAny_rule (wpAny_bind (wpAny_of_eq hk (wpAny_pure h₂.2))))
end
section
variable {prog : Program} {w : World} {A : Around} {E : Value → Shared → Prop} {s : Shared} {Q : Value → Shared → Prop}
theorem ent_same {X : String} {Q : Fin → Shared → Prop} (hX : ∀ s' : Shared, s'.TypeIs (.type X) "type") (h : Q (.done (.ret (.bool false))) s) : wpAny (model prog w) A (Builtin.«object.__ne__» ⟨[.type X, .type X], []⟩) Q E s := by
  unfold Builtin.«object.__ne__»
  show wpAny _ _ (cRoomFor "comparison" _ >>= _) _ _ _
  refine wpAny_bind (wpAny_cRoomFor_or (.inl rfl) ?_)
  refine wpAny_bind (m := callSpecialIfBound? _ _ _) (wpAny_callSpecialIfBound?_slot (hX s) slot_type_eq (call_gives slot_type_eq (hX s) F.entry_object_eq (F.args_object_eq_2 _ _) (object_eq_same rfl (by simp)) ?_))
  show wpAny _ _ (truthy (.bool true) >>= _) _ _ _
  exact wpAny_bind (wpAny_truthy_bool (wpAny_pure h))
theorem ent_other {X Y : String} {Q : Fin → Shared → Prop} (hX : ∀ s' : Shared, s'.TypeIs (.type X) "type") (hne : (Value.type X == Value.type Y) = false) (h : Q (.done (.ret .notImplemented)) s) : wpAny (model prog w) A (Builtin.«object.__ne__» ⟨[.type X, .type Y], []⟩) Q E s := by
  unfold Builtin.«object.__ne__»
  show wpAny _ _ (cRoomFor "comparison" _ >>= _) _ _ _
  refine wpAny_bind (wpAny_cRoomFor_or (.inl rfl) ?_)
  refine wpAny_bind (m := callSpecialIfBound? _ _ _) (wpAny_callSpecialIfBound?_slot (hX s) slot_type_eq (call_gives slot_type_eq (hX s) F.entry_object_eq (F.args_object_eq_2 _ _) (object_eq_other rfl hne) ?_))
  exact wpAny_pure h
theorem ne_type_same {X : String} (hX : ∀ s' : Shared, s'.TypeIs (.type X) "type") (h : Q (.bool false) s) : wpAny (model prog w) A (compareOp .NotEq (.type X) (.type X)) Q E s := by
  show wpAny _ A (richCompare .NotEq _ _) Q E s
  exact wpAny_richCompare_same (T := "type") (hX s) (hX s) slot_type_ne
    (wpAny_call_entry slot_type_ne (hX s) F.cmpEntry_ne (ent_same hX ⟨_, rfl, (by intro e; cases e), h⟩) (F.cmpArgs_ne _ _))
theorem ne_type_other {X Y : String} (hX : ∀ s' : Shared, s'.TypeIs (.type X) "type") (hY : ∀ s' : Shared, s'.TypeIs (.type Y) "type") (hne : (Value.type X == Value.type Y) = false) (h : Q (.bool true) s) : wpAny (model prog w) A (compareOp .NotEq (.type X) (.type Y)) Q E s := by
  have hne' : (Value.type Y == Value.type X) = false := by
    rw [Bool.eq_false_iff] at hne ⊢
    intro e
    exact hne (by rw [beq_iff_eq] at e ⊢; exact e.symm)
  show wpAny _ A (richCompare .NotEq _ _) Q E s
  exact ne_decline (T := "type") (k := false) hX hY slot_type_ne slot_type_ne_refl rfl (by rw [isSame_plain rfl, hne])
    (wpAny_call_entry slot_type_ne (hX s) F.cmpEntry_ne (ent_other hX hne ⟨_, rfl, rfl, wpAny_call_entry slot_type_ne_refl (hY s) F.cmpEntry_ne (ent_other hY hne' ⟨_, rfl, rfl, h⟩) (F.cmpArgs_ne _ _)⟩) (F.cmpArgs_ne _ _))
end
end TyNe
set_option Elab.async false
set_option linter.all false
set_option maxRecDepth 100000
set_option maxHeartbeats 1000000
namespace FX
open PySem PySem.Spec L2
def tyD : D → String
  | .none => "NoneType"
  | .bool _ => "bool"
  | .int _ => "int"
  | .str _ => "str"
  | .list _ => "list"
  | .tuple _ => "tuple"
  | .dict _ => "dict"
theorem nbf : ∀ d : D, (Value.type (tyD d) == Value.type "builtin_function_or_method") = false
  | .none => by show (Value.type "NoneType" == _) = false; decide +kernel
  | .bool _ => by show (Value.type "bool" == _) = false; decide +kernel
  | .int _ => by show (Value.type "int" == _) = false; decide +kernel
  | .str _ => by show (Value.type "str" == _) = false; decide +kernel
  | .list _ => by show (Value.type "list" == _) = false; decide +kernel
  | .tuple _ => by show (Value.type "tuple" == _) = false; decide +kernel
  | .dict _ => by show (Value.type "dict" == _) = false; decide +kernel
section
variable {X : Cx} {pins : List (Addr × Obj)} {σ : L2.St} {H F : Hp} {s : Shared}
theorem sh_type (I : Inv X pins σ H s) (sF : Same F H) {x : V} {u : Value} : ∀ {d : D}, Sh X.K F H x d → RelV x u → s.TypeIs u (tyD d) ∧ (Value.type (tyD d) == Value.type "builtin_function_or_method") = false
  | .none, h, r => by
    cases sh_non h; cases r
    exact ⟨by first | exact rfl | exact typeIs_none s | (show Shared.TypeIs _ _ _; trivial), nbf _⟩
  | .bool b, h, r => by
    cases sh_bool h; cases r
    exact ⟨by first | exact rfl | exact typeIs_bool s b | (show Shared.TypeIs _ _ _; trivial), nbf _⟩
  | .int i, h, r => by
    cases sh_int h
    obtain ⟨t, rfl⟩ := r
    exact ⟨typeIs_int s i t, nbf _⟩
  | .str i, h, r => by
    cases sh_str h
    obtain ⟨t, rfl⟩ := r
    exact ⟨typeIs_str s i t, nbf _⟩
  | .list ds, h, r => by
    obtain ⟨p, xs, rfl, e, _⟩ := h
    cases r
    obtain ⟨its, rv, pl, _⟩ := I.list (.of e)
    exact ⟨pl.isList.typeIs, nbf _⟩
  | .tuple ds, h, r => by
    obtain ⟨p, xs, rfl, e, _⟩ := h
    cases r
    obtain ⟨its, rv, pl, _⟩ := I.tuple (.of (sF _ _ e))
    exact ⟨pl.typeIs, nbf _⟩
  | .dict ds, h, r => by
    cases (show Rp X.K F x (.dict ds) from h) with
    | dic e =>
      cases r
      obtain ⟨_, _, vs, _, hd⟩ := I.hok _ _ (sF _ _ e)
      exact ⟨hd.typeIs, nbf _⟩
    | dcI ks e =>
      cases r
      obtain ⟨_, _, vs, _, hd⟩ := I.hok _ _ (sF _ _ e)
      exact ⟨hd.typeIs, nbf _⟩
    | dcB od ks n e =>
      cases r
      obtain ⟨_, _, _, xs, _, o, es, ep, h1, h2, _⟩ := (show ObjOk X.prog X.w _ s.heap _ (.frz od (.dT (tbV ks))) from I.hok _ _ (sF _ _ e))
      exact ⟨⟨o, h1, h2.1⟩, nbf _⟩
def rTyX (K : PySem.W.Frag) : List V → Hp → VK → Prop := fun xs H Q => ∃ F x d, Same F H ∧ xs = [x] ∧ Sh K F H x d ∧ Q (.ty (tyD d)) H
theorem call_tyX : CallR X (.type "type") (rTyX X.K) := by
  intro pins s σ H xs us Q I r h
  obtain ⟨F, x, d, sF, rfl, hx, q⟩ := h
  obtain ⟨u, rfl, rx⟩ := vals1 r
  obtain ⟨h1, h2⟩ := sh_type I sF hx rx
  exact call_type_of h1 h2 ⟨.ty _, H, I, rfl, q⟩
def tyNames : List String := ["NoneType", "bool", "int", "str", "list", "tuple", "dict"]
theorem ty_type {T : String} (h : T ∈ tyNames) (s : Shared) : s.TypeIs (.type T) "type" := by
  simp only [tyNames, List.mem_cons, List.not_mem_nil, or_false] at h
  rcases h with rfl | rfl | rfl | rfl | rfl | rfl | rfl <;> exact rfl
theorem tyD_mem (d : D) : tyD d ∈ tyNames := by cases d <;> simp [tyD, tyNames]
def rTyEq : R2 := fun x y H Q => ∃ a b, x = .ty a ∧ y = .ty b ∧ a ∈ tyNames ∧ b ∈ tyNames ∧ Q (.bl (decide (a = b))) H
theorem op_tyEq : OpR X (compareOp .Eq) rTyEq := by
  intro pins s σ H x y v u Q I rx ry h
  obtain ⟨a, b, rfl, rfl, ha, hb, q⟩ := h
  cases rx
  cases ry
  by_cases e : a = b
  · subst e
    rw [decide_eq_true rfl] at q
    exact PySem.TypeEq.eq_type_same (fun s' => ty_type ha s') ⟨.bl true, H, I, rfl, q⟩
  · rw [decide_eq_false e] at q
    exact PySem.TypeEq.eq_type_other (fun s' => ty_type ha s') (fun s' => ty_type hb s') (beq_eq_false_iff_ne.mpr fun z => e (Value.type.inj z)) ⟨.bl false, H, I, rfl, q⟩
def rTyNe : R2 := fun x y H Q => ∃ a b, x = .ty a ∧ y = .ty b ∧ a ∈ tyNames ∧ b ∈ tyNames ∧ Q (.bl (!decide (a = b))) H
end
def gTyEq {Y : Sys} (T : String) (g : GE Y) : GE Y := bd g fun r Γ s => match rdv Γ r with
  | some d => some (.ok (.v (.bool (decide (tyD d = T)))), Γ, s)
  | none => none
section
variable {Y : Sys} {X : Cx} {W : WX} {e : Expr} {pos p p2 p3 : Pos} {te : TE} {ge : GE Y} {T : String} {Ts : Str}
theorem eok_tyEq {K : PySem.W.Frag} (hT : T ∈ tyNames) (he : EOk Y K W te ge) : EOk Y K W (tOp rTyEq (tCB (rTyX K) (tCons te tNil)) (tC (.ty T))) (gTyEq T ge) := by
  intro B w σ Γ s out Q Wh N e p
  refine he.go (Q := fun x H1 => rTyX K [x] H1 fun x H1 => rTyEq x (.ty T) H1 Q) Wh N e p fun r Γ1 s1 x w1 W1 N1 l1 R1 e1 p1 => ?_
  split at e1
  · rename_i d ed
    cases e1
    exact ⟨w1.F, x, d, W1.sF, rfl, sh_of W1 N1 R1 ed, _, _, rfl, rfl, tyD_mem d, hT, p1 w1 W1 N1 (.refl _) _ (.bl _)⟩
  · cases e1
theorem pe_tyEq (hg : Gl X "type") (hm : X.mg "type" = none) (hgT : Gl X Ts) (hmT : X.mg Ts = none) (hv : bootBuiltins Ts = some (.type T)) (he : PE X e te) (hn : Ts ≠ "__name__" := by decide) (hd : (Ts == ("__debug__" : Str)) = false := by decide)
    (hse : starEach (e :: []) X.env = (false, eval e X.env) :: starEach [] X.env := by rfl) (hpl : (backTo p2 (starEach [] X.env)).any (·.1) = false := by rfl) :
    PE X (.Compare (.Call (.Name "type" p) [e] [] p2) [.Eq] [.Name Ts p3] pos) (tOp rTyEq (tCB (rTyX X.K) (tCons te tNil)) (tC (.ty T))) :=
  pe_cmpR op_tyEq (pe_callTy call_tyX hg hm (by decide +kernel) (pa_cons he pa_nil hse) (by decide) (by decide) hse hpl) (pe_bltn hgT hmT hv rfl hn hd) (nomark _)
theorem me_tyEq (hT : T ∈ tyNames) (hg : Gl X "type") (hm : X.mg "type" = none) (hgT : Gl X Ts) (hmT : X.mg Ts = none) (hv : bootBuiltins Ts = some (.type T)) (he : ME Y X W e te ge) (hn : Ts ≠ "__name__" := by decide) (hd : (Ts == ("__debug__" : Str)) = false := by decide)
    (hse : starEach (e :: []) X.env = (false, eval e X.env) :: starEach [] X.env := by rfl) (hpl : (backTo p2 (starEach [] X.env)).any (·.1) = false := by rfl) :
    ME Y X W (.Compare (.Call (.Name "type" p) [e] [] p2) [.Eq] [.Name Ts p3] pos) (tOp rTyEq (tCB (rTyX X.K) (tCons te tNil)) (tC (.ty T))) (gTyEq T ge) :=
  ⟨pe_tyEq hg hm hgT hmT hv he.pe hn hd hse hpl, eok_tyEq hT he.ok⟩
theorem op_tyNe : OpR X (compareOp .NotEq) rTyNe := by
  intro pins s σ H x y v u Q I rx ry h
  obtain ⟨a, b, rfl, rfl, ha, hb, q⟩ := h
  cases rx
  cases ry
  by_cases e : a = b
  · subst e
    rw [decide_eq_true rfl] at q
    exact TyNe.ne_type_same (fun s' => ty_type ha s') ⟨.bl false, H, I, rfl, q⟩
  · rw [decide_eq_false e] at q
    exact TyNe.ne_type_other (fun s' => ty_type ha s') (fun s' => ty_type hb s') (beq_eq_false_iff_ne.mpr fun z => e (Value.type.inj z)) ⟨.bl true, H, I, rfl, q⟩
def gTyNe {Y : Sys} (T : String) (g : GE Y) : GE Y := bd g fun r Γ s => match rdv Γ r with
  | some d => some (.ok (.v (.bool (!decide (tyD d = T)))), Γ, s)
  | none => none
theorem eok_tyNe {K : PySem.W.Frag} (hT : T ∈ tyNames) (he : EOk Y K W te ge) : EOk Y K W (tOp rTyNe (tCB (rTyX K) (tCons te tNil)) (tC (.ty T))) (gTyNe T ge) := by
  intro B w σ Γ s out Q Wh N e p
  refine he.go (Q := fun x H1 => rTyX K [x] H1 fun x H1 => rTyNe x (.ty T) H1 Q) Wh N e p fun r Γ1 s1 x w1 W1 N1 l1 R1 e1 p1 => ?_
  split at e1
  · rename_i d ed
    cases e1
    exact ⟨w1.F, x, d, W1.sF, rfl, sh_of W1 N1 R1 ed, _, _, rfl, rfl, tyD_mem d, hT, p1 w1 W1 N1 (.refl _) _ (.bl _)⟩
  · cases e1
theorem mt_tyNe (hT : T ∈ tyNames) (hg : Gl X "type") (hm : X.mg "type" = none) (hgT : Gl X Ts) (hmT : X.mg Ts = none) (hv : bootBuiltins Ts = some (.type T)) (he : ME Y X W e te ge) (hn : Ts ≠ "__name__" := by decide) (hd : (Ts == ("__debug__" : Str)) = false := by decide)
    (hse : starEach (e :: []) X.env = (false, eval e X.env) :: starEach [] X.env := by rfl) (hpl : (backTo p2 (starEach [] X.env)).any (·.1) = false := by rfl) :
    MT Y X W (.Compare (.Call (.Name "type" p) [e] [] p2) [.NotEq] [.Name Ts p3] pos) (tTest (tOp rTyNe (tCB (rTyX X.K) (tCons te tNil)) (tC (.ty T)))) (gTst (gTyNe T ge)) :=
  ⟨pt_cmpR op_tyNe (pe_callTy call_tyX hg hm (by decide +kernel) (pa_cons he.pe pa_nil hse) (by decide) (by decide) hse hpl) (pe_bltn hgT hmT hv rfl hn hd) (nomark _), tok_tst (eok_tyNe hT he.ok)⟩
inductive TyZ (K : PySem.W.Frag) (H : Hp) : V → Value → Prop where
  | x {x : V} {t : Value} (h : TyX K H x t) : TyZ K H x t
  | fT {a : Addr} {od : Obj} {kvs : List (List Key × V)} (e : H a = some (.frz od (.dT kvs))) : TyZ K H (.ref a) (.type "dict")
def rIsiZ (K : PySem.W.Frag) : List V → Hp → VK → Prop := fun ys H Q => ∃ (x c : V) (t u : Value) (b : Bool), ys = [x, c] ∧ ClsV c u ∧ TyZ K H x t ∧ PySem.W.kitOne K t u = some b ∧ Q (.bl b) H
theorem call_isiZ {X : Cx} : CallR X (.builtin "isinstance") (rIsiZ X.K) := by
  intro pins σ0 st H ys us Q J rv hh
  obtain ⟨x, c, t, u, b, rfl, kc, tz, ek, q⟩ := hh
  obtain ⟨v1, v2, rfl, q1, q2⟩ := vals2 rv
  have e2 := kc.eq q2
  subst e2
  cases tz with
  | x tx =>
    obtain ⟨P, Z, p, hx⟩ := kit_of J q1 tx
    exact PySem.W.kia_one Z J.kIn p ek hx fun tk => ⟨.bl b, H, J.tok tk, rfl, q⟩
  | fT ea =>
    cases q1
    obtain ⟨_, _, _, xs, _, o, es, ep, h1, h2, _⟩ := (show ObjOk X.prog X.w H _ _ (.frz _ (.dT _)) from J.hok _ _ ea)
    exact PySem.W.kia_one PySem.W.kitx_dict J.kIn ⟨o, h1, h2.1⟩ ek (fun z => nomatch z) fun tk => ⟨.bl b, H, J.tok tk, rfl, q⟩
theorem sh_tyx0 {K : PySem.W.Frag} {F H : Hp} (sF : Same F H) {x : V} : ∀ {d : D}, Sh K F H x d → (∀ kvs, d ≠ .dict kvs) → TyX K H x (.type (tyD d))
  | .none, h, _ => by cases sh_non h; exact .base .non
  | .bool b, h, _ => by cases sh_bool h; exact .base (.bl _)
  | .int i, h, _ => by cases sh_int h; exact .base (.int _)
  | .str i, h, _ => by cases sh_str h; exact .base (.str _)
  | .list ds, h, _ => by
    obtain ⟨p, xs, rfl, e, _⟩ := h
    exact .base (.lst e)
  | .tuple ds, h, _ => by
    obtain ⟨p, xs, rfl, e, _⟩ := h
    exact .base (.tup (sF _ _ e))
  | .dict ds, h, n => absurd rfl (n ds)
theorem sh_tyx {K : PySem.W.Frag} {F H : Hp} (sF : Same F H) {x : V} {d : D} (h : Sh K F H x d) : TyZ K H x (.type (tyD d)) := by
  cases d with
  | dict ds =>
    cases (show Rp K F x (.dict ds) from h) with
    | dic e => exact .x (.base (.dK (sF _ _ e)))
    | dcI ks e => exact .x (.base (.dK (sF _ _ e)))
    | dcB od ks n e => exact .fT (sF _ _ e)
  | _ => exact .x (sh_tyx0 sF h fun _ z => nomatch z)
def isI (d : D) (T : String) : Option Bool := kitB (tyD d) T
def gIsI {Y : Sys} (T : String) (g : GE Y) : GE Y := bd g fun r Γ s => match rdv Γ r with
  | some d => match isI d T with
    | some b => some (.ok (.v (.bool b)), Γ, s)
    | none => none
  | none => none
theorem me_isI (hg : Gl X "isinstance") (hm : X.mg "isinstance" = none) (hgT : Gl X Ts) (hmT : X.mg Ts = none) (hv : bootBuiltins Ts = some (.type T)) (he : ME Y X W e te ge) (hn : Ts ≠ "__name__" := by decide) (hd : (Ts == ("__debug__" : Str)) = false := by decide)
    (hse : starEach (e :: [.Name Ts p3]) X.env = (false, eval e X.env) :: starEach [.Name Ts p3] X.env := by rfl) (hs2 : starEach [.Name Ts p3] X.env = (false, eval (.Name Ts p3) X.env) :: starEach [] X.env := by rfl) (hpl : (backTo p2 (starEach [.Name Ts p3] X.env)).any (·.1) = false := by rfl) :
    ME Y X W (.Call (.Name "isinstance" p) [e, .Name Ts p3] [] p2) (tCB (rIsiZ X.K) (tCons te (tCons (tC (.ty T)) tNil))) (gIsI T ge) := by
  refine ⟨pe_callB call_isiZ hg hm (by decide +kernel) (pa_cons he.pe (pa_cons (pe_bltn hgT hmT hv rfl hn hd) pa_nil hs2) hse) (by decide) (by decide) hse hpl, fun B w σ Γ s out Q Wh N e p => ?_⟩
  refine he.ok.go (Q := fun x H1 => rIsiZ X.K [x, .ty T] H1 Q) Wh N e p fun r Γ1 s1 x w1 W1 N1 l1 R1 e1 p1 => ?_
  split at e1
  · rename_i d ed
    split at e1
    · rename_i b eb
      cases e1
      exact ⟨x, .ty T, .type (tyD d), .type T, b, rfl, .ty T, sh_tyx W1.sF (sh_of W1 N1 R1 ed), kit_ty eb, p1 w1 W1 N1 (.refl _) _ (.bl _)⟩
    · cases e1
  · cases e1
end
structure KTab (K : PySem.W.Frag) (w : World) (d : Addr) (t : Str → Option D) : Prop where
  kd : ∃ es n, KDict K w d es n
  at' : ∀ z, ∃ r, PySem.W.nsIn K d z = some r ∧ (t z = none → r = none) ∧ ∀ e, t z = some e → ∃ u v, r = some u ∧ RelV v u ∧ ∀ F, Rp K F v e
def fKNotIn (t : Str → Option D) : D → Option Rz
  | .str z => some (.nw (.bool (!(t z).isSome)))
  | _ => none
def fKGet (t : Str → Option D) : D → Option Rz
  | .str z => match t z with
    | some e => some (.old e)
    | none => none
  | _ => none
section
variable {Y : Sys} {X : Cx} {W : WX} {e o : Expr} {pos p p2 p3 : Pos} {te : TE} {ge : GE Y} {d : Addr} {t : Str → Option D}
theorem ktab_some {K : PySem.W.Frag} {w : World} (T : KTab K w d t) (z : Str) : ∃ r, PySem.W.nsIn K d z = some r ∧ r.isSome = (t z).isSome := by
  obtain ⟨r, h, h1, h2⟩ := T.at' z
  refine ⟨r, h, ?_⟩
  cases q : t z with
  | none => rw [h1 q]; rfl
  | some e => obtain ⟨u, v, rfl, _⟩ := h2 e q; rfl
theorem mt_kNotIn (T : KTab X.K X.w d t) (ho : PE X o (tC (.ref d))) (he : ME Y X W e te ge) (hm : behindInMarks .NotIn o = false := by rfl) :
    MT Y X W (.Compare e [.NotIn] [o] pos) (tTest (tOp (fun x y H Q => ∃ (z : Str) (r : Option Value), x = .str z ∧ y = .ref d ∧ PySem.W.nsIn X.K d z = some r ∧ Q (.bl (!r.isSome)) H) te (tC (.ref d)))) (gTst (gUn (fKNotIn t) ge)) := by
  obtain ⟨es, n, kd⟩ := T.kd
  refine ⟨pt_cmpR (op_notIn_kd kd) he.pe ho hm, tok_tst fun B w σ Γ s out Q Wh N e p => ?_⟩
  refine he.ok.go (Q := fun x H1 => ∃ (z : Str) (r : Option Value), x = .str z ∧ V.ref d = .ref d ∧ PySem.W.nsIn X.K d z = some r ∧ Q (.bl (!r.isSome)) H1) Wh N e p fun r Γ1 s1 x w1 W1 N1 l1 R1 e1 p1 => ?_
  unfold op1 at e1
  split at e1
  · cases e1
  · rename_i dd ed
    split at e1
    · cases e1
    · rename_i zz ez
      cases e1
      unfold fKNotIn at ez
      split at ez
      · rename_i z
        cases ez
        obtain ⟨r, h, hs⟩ := ktab_some T z
        exact ⟨z, r, sh_str (sh_of W1 N1 R1 ed), rfl, h, by rw [hs]; exact p1 w1 W1 N1 (.refl _) _ (.bl _)⟩
      · cases ez
theorem me_kGet (T : KTab X.K X.w d t) (ho : PE X o (tC (.ref d))) (he : ME Y X W e te ge) (hs : PlainIx e) :
    ME Y X W (.Subscript o e pos) (tOp (rIxD X.K X.w) (tC (.ref d)) te) (gUn (fKGet t) ge) := by
  refine ⟨pe_ix ix_kdict ho he.pe hs, fun B w σ Γ s out Q Wh N e p => ?_⟩
  refine he.ok.go (Q := fun y H1 => rIxD X.K X.w (.ref d) y H1 Q) Wh N e p fun r Γ1 s1 x w1 W1 N1 l1 R1 e1 p1 => ?_
  unfold op1 at e1
  split at e1
  · cases e1
  · rename_i dd ed
    split at e1
    · cases e1
    · rename_i zz ez
      cases e1
      unfold fKGet at ez
      split at ez
      · rename_i z
        split at ez
        · rename_i ev hev
          cases ez
          obtain ⟨es, n, kd⟩ := T.kd
          obtain ⟨r, h, _, h2⟩ := T.at' z
          obtain ⟨u, v, rfl, rv, re⟩ := h2 ev hev
          exact ⟨d, z, v, rfl, sh_str (sh_of W1 N1 R1 ed), ⟨es, n, u, kd.at_, kd.lit, h, rv⟩, p1 w1 W1 N1 (.refl _) _ (re w1.F)⟩
        · cases ez
      · cases ez
end
def itC (n : Nat) : Nat → List Nat → List (List Nat)
  | 0, _ => []
  | f + 1, c => c :: match Cmb.nextC n c with
    | none => []
    | some c' => itC n f c'
def combL (n k : Nat) : List (List Nat) := itC n 100 (List.range k)
def combD (n k : Nat) : List D := (combL n k).map fun c => .tuple (c.map fun (j : Nat) => .int (0 + (j : Int)))
def gCmb {Y : Sys} (ga gk : GE Y) : GI Y := bd ga fun ra Γ s => match rdv Γ ra with
  | some (.int n) => bd gk (fun rk Γ s => match rdv Γ rk with
    | some (.int k) => if (decide (0 ≤ k) && decide (k ≤ n) && decide (n ≤ 60) && Cmb.okC n.toNat k.toNat (combL n.toNat k.toNat)) = true then some (.ok (combD n.toNat k.toNat), Γ, s) else none
    | _ => none) Γ s
  | _ => none
theorem it_comb {K : PySem.W.Frag} {F : Hp} (n k : Nat) : ItOk K (Cmb.Itc 0 (combL n k)) F (combD n k) := fun F1 H e1 e2 i => by
  have hl : (combD n k).length = (combL n k).length := by simp [combD]
  refine ⟨fun hi => by rw [hl] at hi; exact hi, fun hi => by rw [hl] at hi; exact hi, fun x H' y d hd => ?_⟩
  obtain ⟨T, c, hc, rfl, nT, rfl⟩ := y
  unfold combD at hd
  rw [List.getElem?_map, hc] at hd
  cases hd
  refine .inr (.inl ⟨T, _, _, nT, rfl, rfl, rfl, ?_⟩)
  clear hc
  induction c with
  | nil => exact .nil
  | cons j c ih => exact .cons (.int _) ih
section
variable {Y : Sys} {X : Cx} {W : WX} {tg a b : Expr} {pos p p2 p3 : Pos} {ta tb : TE} {ga gb : GE Y} {x : Str}
def tRg1 (ta : TE) : TE := tCB (fun vs H Q => ∃ j, vs = [V.int j] ∧ ∀ p, H p = none → Q (.ref p) (upd H p (.rng 0 j))) (tCons ta tNil)
theorem pe_rg1 (hg : Gl X "range") (hm : X.mg "range" = none) (ha : PE X a ta) (hse : starEach (a :: []) X.env = (false, eval a X.env) :: starEach [] X.env := by rfl) (hpl : (backTo p2 (starEach [] X.env)).any (·.1) = false := by rfl) : PE X (.Call (.Name "range" p3) [a] [] p2) (tRg1 ta) :=
  pe_callTy Cmb.cr_range1 hg hm (by decide +kernel) (pa_cons ha pa_nil hse) (by decide) (by decide) hse hpl
theorem mi_comb (hg : Gl X x) (hm : X.mg x = some (.type "itertools.combinations")) (hc : X.calm = true) (hgr : Gl X "range") (hmr : X.mg "range" = none) (ha : ME Y X W a ta ga) (hb : ME Y X W b tb gb) (hd : (x == ("__debug__" : Str)) = false := by decide)
    (hse : starEach (a :: []) X.env = (false, eval a X.env) :: starEach [] X.env := by rfl) (hpl0 : (backTo p2 (starEach [] X.env)).any (·.1) = false := by rfl)
    (hs : starEach [.Call (.Name "range" p3) [a] [] p2, b] X.env = (false, eval (.Call (.Name "range" p3) [a] [] p2) X.env) :: starEach [b] X.env := by rfl) (hs2 : starEach [b] X.env = (false, eval b X.env) :: starEach [] X.env := by rfl) (hpl : (backTo pos (starEach [b] X.env)).any (·.1) = false := by rfl) :
    MI Y X W tg (.Call (.Name x p) [.Call (.Name "range" p3) [a] [] p2, b] [] pos) (Cmb.iComb (tCons (tRg1 ta) (tCons tb tNil))) (gCmb ga gb) := by
  refine ⟨Cmb.pi_comb hg hm hc (pa_cons (pe_rg1 hgr hmr ha.pe hse hpl0) (pa_cons hb.pe pa_nil hs2) hs) hd hs hpl, fun B w σ Γ s out Q Wh N e p => ?_⟩
  refine ha.ok.go (Q := fun y H1 => ∃ j, [y] = [V.int j] ∧ ∀ q, H1 q = none → tb σ (upd H1 q (.rng 0 j)) fun z H2 => ∃ (a : Addr) (lo hi k : Int) (L : List (List Nat)), [V.ref q, z] = [.ref a, .int k] ∧ H2 a = some (.rng lo hi) ∧ (-(2 ^ 62) ≤ lo ∧ lo < 2 ^ 62 ∧ -(2 ^ 62) ≤ hi ∧ hi < 2 ^ 62) ∧ (hi - lo).toNat ≤ 1000 ∧ 0 ≤ k ∧ k.toNat ≤ (hi - lo).toNat ∧ Cmb.okC (hi - lo).toNat k.toNat L = true ∧ Q (Cmb.Itc lo L) H2) Wh N e p fun ra Γ1 s1 y w1 W1 N1 l1 R1 e1 p1 => ?_
  split at e1
  · rename_i n en
    cases sh_int (sh_of W1 N1 R1 en)
    refine ⟨n, rfl, fun q nq => ?_⟩
    have fq : w1.F q = none := W1.sF.free nq
    have bq : B q = none := W1.sB.free nq
    have aq : q ∉ w1.A := fun z => Y.live W1.rel _ z nq
    have oq : ∀ (i : Nat) (e : D), Γ1[i]? = some (some (R.o e)) → σ[i]? ≠ some (some (.ref q)) := fun i e hi hs => by
      obtain ⟨y, a, q', rfl, own, _⟩ := N1.sl i _ hi
      rw [hs] at a; cases a
      obtain ⟨u, hu⟩ := own.obj
      rw [nq] at hu; cases hu
    have W2 : Wd Y (upd B q (.rng 0 n)) { w1 with H := upd w1.H q (.rng 0 n) } s1 := (W1.newH nq).hold upd_same fq aq bq
    have N2 : EnvR X.K (upd B q (.rng 0 n)) { w1 with H := upd w1.H q (.rng 0 n) } σ Γ1 := (N1.newH nq).hold oq
    have sB : Same B (upd B q (.rng 0 n)) := upd_sm bq
    have p2 : PoG Y X.K W (upd B q (.rng 0 n)) { w1 with H := upd w1.H q (.rng 0 n) } σ (fun ds _ w' => ∀ J, ItOk X.K J w'.F ds → Q J w'.H) out := (p1.le (w1 := { w1 with H := upd w1.H q (.rng 0 n) }) ⟨Same.refl _, [], by simp⟩).imp sB fun _ _ _ z => z
    refine hb.ok.go (Q := fun z H2 => ∃ (a : Addr) (lo hi k : Int) (L : List (List Nat)), [V.ref q, z] = [.ref a, .int k] ∧ H2 a = some (.rng lo hi) ∧ (-(2 ^ 62) ≤ lo ∧ lo < 2 ^ 62 ∧ -(2 ^ 62) ≤ hi ∧ hi < 2 ^ 62) ∧ (hi - lo).toNat ≤ 1000 ∧ 0 ≤ k ∧ k.toNat ≤ (hi - lo).toNat ∧ Cmb.okC (hi - lo).toNat k.toNat L = true ∧ Q (Cmb.Itc lo L) H2) W2 N2 e1 p2 fun rk Γ3 s3 z w3 W3 N3 l3 R3 e3 p3 => ?_
    split at e3
    · rename_i k ek
      split at e3
      · rename_i hz
        cases e3
        simp only [Bool.and_eq_true, decide_eq_true_eq] at hz
        obtain ⟨⟨⟨k0, k1⟩, k2⟩, k3⟩ := hz
        cases sh_int (sh_of W3 N3 R3 ek)
        have e0 : n - 0 = n := Int.sub_zero n
        refine ⟨q, 0, n, k, combL n.toNat k.toNat, rfl, W3.sB q _ upd_same, ⟨by decide, by decide, by omega, by omega⟩, by omega, k0, by omega, by rw [e0]; exact k3, ?_⟩
        exact p3 w3 W3 N3 (.refl _) _ (it_comb _ _)
      · cases e3
    · cases e3
  · cases e1
end
end FX
set_option Elab.async false
set_option linter.all false
set_option maxRecDepth 100000
set_option maxHeartbeats 1000000
namespace FX
open PySem PySem.Spec L2
def cutD (xs : List D) (lo hi : Option Int) : List D := (xs.drop (HT.sIx xs.length 0 lo)).take (HT.sIx xs.length xs.length hi - HT.sIx xs.length 0 lo)
def fSl : D → Option Int → Option Int → Option Rz
  | .list ds, lo, hi => some (.nw (.list (cutD ds lo hi)))
  | .tuple ds, lo, hi => if HT.sIx ds.length 0 lo = 0 ∧ HT.sIx ds.length ds.length hi = ds.length then some (.old (.tuple ds)) else some (.nw (.tuple (cutD ds lo hi)))
  | .str z, lo, hi => if sizeOk z.length = true then some (.nw (.str (cutS z lo hi))) else none
  | _, _, _ => none
abbrev GO (Y : Sys) := Ev → Y.S → Option (Oc (Option Int) × Ev × Y.S)
def gNoP {Y : Sys} : GO Y := fun Γ s => some (.ok none, Γ, s)
def gPart {Y : Sys} (g : GE Y) : GO Y := bd g fun r Γ s => match rdv Γ r with
  | some (.int i) => some (.ok (some i), Γ, s)
  | _ => none
def gSl {Y : Sys} (g : GE Y) (gl gh : GO Y) : GE Y := bd g fun r => bd gl fun lo => bd gh fun hi Γ s => match rdv Γ r with
  | some d => match fSl d lo hi with
    | some z => some (.ok z.r, Γ, s)
    | none => none
  | none => none
section
variable {Y : Sys} {X : Cx} {W : WX} {e : Expr} {lo hi : Option Expr} {pos p2 : Pos} {te : TE} {tl th : TO} {ge : GE Y} {gl gh : GO Y}
def OOk (Y : Sys) (K : PySem.W.Frag) (W : WX) (t : TO) (g : GO Y) : Prop := ∀ (B : Hp) (w : Wo) (σ : L2.St) (Γ : Ev) (s : Y.S) (out : Oc (Option Int) × Ev × Y.S) (Q : Option Int → Hp → Prop),
  Wd Y B w s → EnvR K B w σ Γ → g Γ s = some out → PoG Y K W B w σ (fun b _ w' => Q b w'.H) out → t σ w.H Q
structure MO (Y : Sys) (X : Cx) (W : WX) (e : Option Expr) (t : TO) (g : GO Y) : Prop where
  pe : PO X e t
  ok : OOk Y X.K W t g
theorem OOk.go {α : Type} {K : PySem.W.Frag} {B : Hp} {w : Wo} {σ : L2.St} {Γ : Ev} {s : Y.S} {ok : α → Ev → Wo → Prop} {t : TO} {g : GO Y} (h : OOk Y K W t g) (Wh : Wd Y B w s) (N : EnvR K B w σ Γ) {k : Option Int → Ev → Y.S → Option (Oc α × Ev × Y.S)} {out : Oc α × Ev × Y.S} {Q : Option Int → Hp → Prop}
    (e : bd g k Γ s = some out) (p : PoG Y K W B w σ ok out)
    (c : ∀ b Γ1 s1 w1, Wd Y B w1 s1 → EnvR K B w1 σ Γ1 → Le w w1 → k b Γ1 s1 = some out → PoG Y K W B w1 σ ok out → Q b w1.H) : t σ w.H Q := by
  unfold bd at e
  cases eg : g Γ s with
  | none => rw [eg] at e; cases e
  | some o =>
    obtain ⟨o, Γ1, s1⟩ := o
    rw [eg] at e
    cases o with
    | ok r => exact h B w σ Γ s _ Q Wh N eg fun w1 W1 N1 l => c r Γ1 s1 w1 W1 N1 l e (p.le l)
    | er z =>
      cases e
      exact h B w σ Γ s _ Q Wh N eg fun w1 W1 N1 l => p w1 W1 N1 l
theorem RpA.cut {K : PySem.W.Frag} {F : Hp} {xs : List V} {ds : List D} (r : RpA K F xs ds) (lo hi : Option Int) : RpA K F (cutV xs lo hi) (cutD ds lo hi) := by
  unfold cutV cutD
  rw [r.length]
  exact (r.drop _).take _
def rSl3 (K : PySem.W.Frag) : V → Option Int → Option Int → Hp → VK → Prop := fun x lo hi H Q => rSlL K x lo hi H Q ∨ (fun x lo hi H Q => rSlA K x lo hi H Q ∨ rSlS x lo hi H Q) x lo hi H Q
theorem sl3 : L2.SlR X (rSl3 X.K) := L2.SlR.or sl_list (L2.SlR.or sl_tupA sl_str)
end
def flatD : D → Bool
  | .none => true
  | .bool _ => true
  | .int _ => true
  | .str _ => true
  | _ => false
def fIn2 (d e : D) : Option Rz := match e with
  | .list ds => if (SeqAt.shaped d && SeqAt.shaped (.list ds)) = true then some (.nw (.bool (ds.any fun z => PyData.eqv z d))) else none
  | .tuple ds => if (flatD d && ds.all flatD) = true then some (.nw (.bool (ds.any fun z => PyData.eqv z d))) else none
  | _ => none
def fNotIn2 (d e : D) : Option Rz := match e with
  | .list ds => if (SeqAt.shaped d && SeqAt.shaped (.list ds)) = true then some (.nw (.bool (!ds.any fun z => PyData.eqv z d))) else none
  | .tuple ds => if (flatD d && ds.all flatD) = true then some (.nw (.bool (!ds.any fun z => PyData.eqv z d))) else none
  | _ => none
section
variable {K : PySem.W.Frag} {X : Cx} {F H : Hp}
theorem sh_flat {x : V} : ∀ {d : D}, Sh K F H x d → flatD d = true → flatV x = true
  | .none, h, _ => by cases sh_non h; rfl
  | .bool _, h, _ => by cases sh_bool h; rfl
  | .int _, h, _ => by cases sh_int h; rfl
  | .str _, h, _ => by cases sh_str h; rfl
  | .list _, _, c => by cases c
  | .tuple _, _, c => by cases c
  | .dict _, _, c => by cases c
theorem rp_flat {x : V} {d : D} (h : Rp K F x d) (c : flatD d = true) : flatV x = true := by
  cases h <;> first | rfl | cases c
theorem flat_eqv {x y : V} {d e : D} (hx : Rp K F x d) (hy : Rp K F y e) (c : flatD d = true) (c2 : flatD e = true) : eqV x y = PyData.eqv d e := by
  cases hx <;> first | (cases hy <;> first | rfl | cases c2 | simp [eqV, PyData.eqv]) | cases c
theorem sh_rp {x : V} : ∀ {d : D}, Sh K F H x d → flatD d = true → Rp K F x d
  | .none, h, _ => h
  | .bool _, h, _ => h
  | .int _, h, _ => h
  | .str _, h, _ => h
  | .list _, _, c => by cases c
  | .tuple _, _, c => by cases c
  | .dict _, _, c => by cases c
theorem any_flat {x : V} {d : D} (hx : Rp K F x d) (c : flatD d = true) : ∀ {ds : List D} {xs : List V}, RpA K F xs ds → ds.all flatD = true → xs.all flatV = true ∧ inV x xs = ds.any fun z => PyData.eqv z d
  | [], _, h, _ => by cases h; exact ⟨rfl, rfl⟩
  | e :: ds, _, h, c2 => by
    cases h with
    | cons a b =>
      simp only [List.all_cons, Bool.and_eq_true] at c2
      obtain ⟨h1, h2⟩ := any_flat hx c b c2.2
      refine ⟨by simp only [List.all_cons, Bool.and_eq_true]; exact ⟨rp_flat a c2.1, h1⟩, ?_⟩
      unfold inV at h2 ⊢
      simp only [List.any_cons]
      rw [h2, flat_eqv a hx c2.1 c]
def rIn2 (K : PySem.W.Frag) : R2 := fun x y H Q => rInD K x y H Q ∨ rIn K false x y H Q
def rNotIn2 (K : PySem.W.Frag) : R2 := fun x y H Q => rNotInD K x y H Q ∨ rIn K true x y H Q
theorem hu65 {k : Nat} {A : Around} (r : Room k A) : A.units + 65 < cLine := by have := r.un; omega
theorem o_in (hu : X.A.units + 65 < cLine) : OpR X (compareOp .In) (rIn2 X.K) := (op_inD hu).or op_in_seq
theorem o_notIn (hu : X.A.units + 65 < cLine) : OpR X (compareOp .NotIn) (rNotIn2 X.K) := (op_notInD hu).or op_notIn_seq
theorem s_in2 : Op2 K (rIn2 K) fIn2 := by
  intro F H x y d e z Q sF hx hy h q
  unfold fIn2 at h
  split at h
  · split at h
    · rename_i hz
      cases h
      rw [Bool.and_eq_true] at hz
      exact .inl ⟨d, _, hx.dp sF hz.1, hy.dp sF hz.2, hz.1, hz.2, nw_bool q⟩
    · cases h
  · split at h
    · rename_i hz
      cases h
      rw [Bool.and_eq_true] at hz
      obtain ⟨p, xs, rfl, e1, ra⟩ := hy
      obtain ⟨f1, f2⟩ := any_flat (sh_rp hx hz.1) hz.1 ra hz.2
      exact .inr ⟨p, xs, rfl, .inr (.of (sF _ _ e1)), sh_flat hx hz.1, f1, by rw [if_neg Bool.false_ne_true, f2]; exact nw_bool q⟩
    · cases h
  · cases h
theorem s_notIn2 : Op2 K (rNotIn2 K) fNotIn2 := by
  intro F H x y d e z Q sF hx hy h q
  unfold fNotIn2 at h
  split at h
  · split at h
    · rename_i hz
      cases h
      rw [Bool.and_eq_true] at hz
      exact .inl ⟨d, _, hx.dp sF hz.1, hy.dp sF hz.2, hz.1, hz.2, nw_bool q⟩
    · cases h
  · split at h
    · rename_i hz
      cases h
      rw [Bool.and_eq_true] at hz
      obtain ⟨p, xs, rfl, e1, ra⟩ := hy
      obtain ⟨f1, f2⟩ := any_flat (sh_rp hx hz.1) hz.1 ra hz.2
      exact .inr ⟨p, xs, rfl, .inr (.of (sF _ _ e1)), sh_flat hx hz.1, f1, by rw [if_pos rfl, f2]; exact nw_bool q⟩
    · cases h
  · cases h
end
def prD (p : Int × Int) : D := .tuple [.int p.1, .int p.2]
def keyH (H : Hp) : V → Int × Int
  | .ref t => match H t with
    | some (.tup [.int i, .int j]) => (i, j)
    | _ => (0, 0)
  | _ => (0, 0)
end FX
set_option Elab.async false
set_option linter.all false
set_option maxRecDepth 100000
set_option maxHeartbeats 1000000
namespace FX
open PySem PySem.Spec L2
abbrev rLenL (K : PySem.W.Frag) : List V → Hp → VK → Prop := fun xs H Q => (∃ p ys, xs = [.ref p] ∧ (SqL K H p ys ∨ SqT K H p ys) ∧ Q (.int ys.length) H) ∨ ∃ z, xs = [.str z] ∧ z.length ≤ sizeLine ∧ Q (.int z.length) H
abbrev rListO (K : PySem.W.Frag) : List V → Hp → VK → Prop := fun xs H Q => ∃ p ys, xs = [.ref p] ∧ (SqL K H p ys ∨ SqT K H p ys) ∧ ∀ l, H l = none → Q (.ref l) (upd H l (.lst ys))
section
variable {Y : Sys} {X : Cx} {W : WX} {e o a b tg : Expr} {es : List Expr} {pos p p2 p3 apos cpos : Pos} {te ta : TE} {ge ga : GE Y} {gr : GA Y} {T : String} {Ts : Str} {K : PySem.W.Frag}
theorem me_fnK {n k : Nat} {m : Fm Y} {f : Addr} {fd : FuncData} {ps : List Str} {x : Str} {ta : TA} (hK : X.K = K) (F : FnOk X.prog X.w X.K X.mg X.base (L2.CX X.prog X.w) k f fd ps (spM Y X.K n m)) (hr : Room k X.A) (hg : Gl X x) (hm : X.mg x = some (.ref f)) (hk : PySem.W.keepIn X.K (.ref f) = true) (hb : Binds X.K fd ps []) (tk : Takes X W)
    (ha : MA Y X W (e :: es) ta gr) (hdb : (x == ("__debug__" : Str)) = false := by decide) (he : starEach (e :: es) X.env = (false, eval e X.env) :: starEach es X.env := by rfl) (hpl : (backTo pos (starEach es X.env)).any (·.1) = false := by rfl) :
    ME Y X W (.Call (.Name x p) (e :: es) [] pos) (tCallS (spM Y K n m) (WE W) ta) (gFn n m gr) := by
  subst hK
  exact me_fn F hr hg hm hk hb tk ha hdb he hpl
theorem mg_tupK {tg_h : TGs} {k : Nat} {l : Tgs} {n : Nat} (hK : X.K = K) (hc : X.calm = true) (h : MGs Y X es tg_h l) (hn : (assignEach es X.env).length = n) (hst : (assignEach es X.env).findIdx? (·.1) = none)
    (hl : ∀ ds Γ Γ', bindTs l ds Γ = some Γ' → ds.length = n) : MG Y X (.Tuple es k pos) (L2.gTup K n tg_h) (.t l) := by
  subst hK
  exact mg_tup hc h hn hst hl
theorem me_tyEqK (hK : X.K = K) (hT : T ∈ tyNames) (hg : Gl X "type") (hm : X.mg "type" = none) (hgT : Gl X Ts) (hmT : X.mg Ts = none) (hv : bootBuiltins Ts = some (.type T)) (he : ME Y X W e te ge) (hn : Ts ≠ "__name__" := by decide) (hd : (Ts == ("__debug__" : Str)) = false := by decide)
    (hse : starEach (e :: []) X.env = (false, eval e X.env) :: starEach [] X.env := by rfl) (hpl : (backTo p2 (starEach [] X.env)).any (·.1) = false := by rfl) :
    ME Y X W (.Compare (.Call (.Name "type" p) [e] [] p2) [.Eq] [.Name Ts p3] pos) (tOp rTyEq (tCB (rTyX K) (tCons te tNil)) (tC (.ty T))) (gTyEq T ge) := by
  subst hK
  exact me_tyEq hT hg hm hgT hmT hv he hn hd hse hpl
theorem mt_tyNeK (hK : X.K = K) (hT : T ∈ tyNames) (hg : Gl X "type") (hm : X.mg "type" = none) (hgT : Gl X Ts) (hmT : X.mg Ts = none) (hv : bootBuiltins Ts = some (.type T)) (he : ME Y X W e te ge) (hn : Ts ≠ "__name__" := by decide) (hd : (Ts == ("__debug__" : Str)) = false := by decide)
    (hse : starEach (e :: []) X.env = (false, eval e X.env) :: starEach [] X.env := by rfl) (hpl : (backTo p2 (starEach [] X.env)).any (·.1) = false := by rfl) :
    MT Y X W (.Compare (.Call (.Name "type" p) [e] [] p2) [.NotEq] [.Name Ts p3] pos) (tTest (tOp rTyNe (tCB (rTyX K) (tCons te tNil)) (tC (.ty T)))) (gTst (gTyNe T ge)) := by
  subst hK
  exact mt_tyNe hT hg hm hgT hmT hv he hn hd hse hpl
theorem me_isIK (hK : X.K = K) (hg : Gl X "isinstance") (hm : X.mg "isinstance" = none) (hgT : Gl X Ts) (hmT : X.mg Ts = none) (hv : bootBuiltins Ts = some (.type T)) (he : ME Y X W e te ge) (hn : Ts ≠ "__name__" := by decide) (hd : (Ts == ("__debug__" : Str)) = false := by decide)
    (hse : starEach (e :: [.Name Ts p3]) X.env = (false, eval e X.env) :: starEach [.Name Ts p3] X.env := by rfl) (hs2 : starEach [.Name Ts p3] X.env = (false, eval (.Name Ts p3) X.env) :: starEach [] X.env := by rfl) (hpl : (backTo p2 (starEach [.Name Ts p3] X.env)).any (·.1) = false := by rfl) :
    ME Y X W (.Call (.Name "isinstance" p) [e, .Name Ts p3] [] p2) (tCB (rIsiZ K) (tCons te (tCons (tC (.ty T)) tNil))) (gIsI T ge) := by
  subst hK
  exact me_isI hg hm hgT hmT hv he hn hd hse hs2 hpl
theorem me_kGetK {d : Addr} {t : Str → Option D} {w : World} (hK : X.K = K) (hw : X.w = w) (T : KTab X.K X.w d t) (ho : PE X o (tC (.ref d))) (he : ME Y X W e te ge) (hs : PlainIx e) :
    ME Y X W (.Subscript o e pos) (tOp (rIxD K w) (tC (.ref d)) te) (gUn (fKGet t) ge) := by
  subst hK hw
  exact me_kGet T ho he hs
theorem mi_listK (hK : X.K = K) (h : ME Y X W e te ga) : MI Y X W tg e (iList K te) (gItL ga) := by
  subst hK
  exact mi_list h
theorem mi_tupK (hK : X.K = K) (h : ME Y X W e te ga) : MI Y X W tg e (iTup K te) (gItT ga) := by
  subst hK
  exact mi_tup h
end
end FX
namespace FX
open PySem PySem.Spec L2
def TabOk (es : List DictEntry) (t : Str → Option D) : Prop := es.any (·.refKey) = false ∧ ∀ z, match es.find? (·.key.isStr z) with
  | some e => ∃ d v, t z = some d ∧ RelV v e.val ∧ ∀ K F, Rp K F v d
  | none => t z = none
theorem ktab_mk {K : PySem.W.Frag} {w : World} {d : Addr} {es : Array DictEntry} {n : Nat} {t : Str → Option D} (k : KDict K w d es n) (h : TabOk es.toList t) : KTab K w d t := by
  refine ⟨⟨es, n, k⟩, fun z => ?_⟩
  have e : PySem.W.nsIn K d z = (match es.toList.find? (·.key.isStr z) with
      | some e => some (some e.val)
      | none => if es.toList.any (·.refKey) then none else some none) := by
    unfold PySem.W.nsIn
    rw [k.at_]
    rfl
  have hz := h.2 z
  cases q : es.toList.find? (·.key.isStr z) with
  | none =>
    rw [q] at e hz
    rw [h.1] at e
    refine ⟨none, by simpa using e, fun _ => rfl, fun d hd => ?_⟩
    rw [hd] at hz; cases hz
  | some en =>
    rw [q] at e hz
    obtain ⟨dd, v, h1, h2, h3⟩ := hz
    refine ⟨some en.val, e, fun hn => ?_, fun d hd => ?_⟩
    · rw [hn] at h1; cases h1
    · rw [h1] at hd; cases hd
      exact ⟨en.val, v, rfl, h2, h3 K⟩
end FX
set_option Elab.async false
set_option linter.all false
namespace FX
open PySem PySem.Spec L2
theorem tab_nil : TabOk [] (fun _ => none) := ⟨rfl, fun z => rfl⟩
theorem tab_cons {h : Int} {s : Str} {tok : Tok} {u : Value} {es : List DictEntry} {t : Str → Option D} {d : D} (v : V) (hv : RelV v u) (hd : ∀ K F, Rp K F v d) (T : TabOk es t) :
    TabOk (⟨h, .str s tok, u⟩ :: es) (fun z => if z = s then some d else t z) := by
  refine ⟨by rw [List.any_cons]; exact T.1, fun z => ?_⟩
  rw [List.find?_cons]
  by_cases hz : z = s
  · subst hz
    simp only [Value.isStr, BEq.rfl]
    exact ⟨d, v, by simp, hv, hd⟩
  · have : (s == z) = false := by
      rw [beq_eq_false_iff_ne]; exact fun e => hz e.symm
    simp only [Value.isStr, this, hz, if_false]
    exact T.2 z
theorem tab_t {es : List DictEntry} {t t' : Str → Option D} (T : TabOk es t) (e : t = t') : TabOk es t' := e ▸ T
example (P : Params) (a b : Tok) : PySem.W.KeysLit P [⟨PyData.keyHash P "plain", .str "plain" a, .int 1 b⟩, ⟨PyData.keyHash P "x", .str "x" a, .int 1 b⟩] := by
  ((repeat (unfold PySem.W.KeysLit; refine ⟨⟨_, _, rfl, rfl⟩, ?_⟩)); first | trivial | (unfold PySem.W.KeysLit; trivial))
end FX
set_option Elab.async false
set_option linter.all false
set_option maxRecDepth 100000
set_option maxHeartbeats 1000000
namespace FX
open PySem PySem.Spec L2
structure Pool where
  c : Int
  g : Bool
  k : Int
structure Dk where
  ps : List Pool
  i : Nat
def bi (b : Bool) : Int := if b = true then 1 else 0
def Pool.vs (p : Pool) : List V := [.int p.c, .int (bi p.g), .int p.k]
structure DkAt (d : Dk) (dp pp : Addr) (qs : List Addr) (H : Hp) : Prop where
  nd : (dp :: pp :: qs).Nodup
  od : H dp = some (.lst [.ref pp, .int (d.i : Nat)])
  op : H pp = some (.lst (qs.map V.ref))
  len : qs.length = d.ps.length
  oq : ∀ (j : Nat) (q : Addr) (p : Pool), qs[j]? = some q → d.ps[j]? = some p → H q = some (.lst p.vs)
theorem DkAt.frame {d : Dk} {dp pp : Addr} {qs : List Addr} {H H' : Hp} (h : DkAt d dp pp qs H) (e : ∀ p ∈ dp :: pp :: qs, H' p = H p) : DkAt d dp pp qs H' :=
  ⟨h.nd, (e _ (by simp)).trans h.od, (e _ (by simp)).trans h.op, h.len, fun j q p a b => (e _ (by simp [List.mem_of_getElem? a])).trans (h.oq j q p a b)⟩
def DkY (K : PySem.W.Frag) (sa : Addr) (ns : List Int) : Sys where
  S := Option Dk
  rel := fun s _ et A H => match s with
    | none => et = [] ∧ (∀ p ∈ A, H p ≠ none ∧ ∀ xs, H p ≠ some (.tup xs)) ∧ ((sa ∈ A ∧ Rd H sa (.lst (ns.map V.int))) ∨ ∀ G, SqL K G sa (ns.map V.int)) ∧ ns.length ≤ 63
    | some d => ∃ dp pp qs, et = [dp] ∧ A = dp :: pp :: qs ∧ DkAt d dp pp qs H
  frame := fun {s F F' et A H H'} h _ e => by
    match s, h with
    | none, ⟨a, b, c, f⟩ =>
      refine ⟨a, fun p hp => ⟨by rw [e p hp]; exact (b p hp).1, fun xs => by rw [e p hp]; exact (b p hp).2 xs⟩, ?_, f⟩
      rcases c with ⟨c, r⟩ | c
      · refine .inl ⟨c, ?_⟩
        unfold Rd at r ⊢
        rw [e sa c]; exact r
      · exact .inr c
    | some d, ⟨dp, pp, qs, a, b, c⟩ => exact ⟨dp, pp, qs, a, b, c.frame fun p hp => e p (by rw [b]; exact hp)⟩
  live := fun {s F et A H} h => by
    match s, h with
    | none, ⟨a, b, c, f⟩ => exact fun p hp => (b p hp).1
    | some d, ⟨dp, pp, qs, a, b, c⟩ =>
      subst b
      intro p hp
      rcases List.mem_cons.mp hp with rfl | hp
      · rw [c.od]; exact fun z => nomatch z
      rcases List.mem_cons.mp hp with rfl | hp
      · rw [c.op]; exact fun z => nomatch z
      · obtain ⟨j, hj⟩ := List.getElem?_of_mem hp
        have hl := (List.getElem?_eq_some_iff.mp hj).1
        have hp2 : d.ps[j]? = some (d.ps[j]'(by rw [← c.len]; exact hl)) := List.getElem?_eq_getElem _
        rw [c.oq j _ _ hj hp2]; exact fun z => nomatch z
  notup := fun {s F et A H} h => by
    match s, h with
    | none, ⟨a, b, c, f⟩ => exact fun p hp => (b p hp).2
    | some d, ⟨dp, pp, qs, a, b, c⟩ =>
      subst b
      intro p hp xs
      rcases List.mem_cons.mp hp with rfl | hp
      · rw [c.od]; exact fun z => nomatch z
      rcases List.mem_cons.mp hp with rfl | hp
      · rw [c.op]; exact fun z => nomatch z
      · obtain ⟨j, hj⟩ := List.getElem?_of_mem hp
        have hl := (List.getElem?_eq_some_iff.mp hj).1
        have hp2 : d.ps[j]? = some (d.ps[j]'(by rw [← c.len]; exact hl)) := List.getElem?_eq_getElem _
        rw [c.oq j _ _ hj hp2]; exact fun z => nomatch z
theorem DkAt.put {d : Dk} {dp pp : Addr} {qs : List Addr} {H : Hp} (h : DkAt d dp pp qs H) {j : Nat} {q : Addr} {p : Pool} (hq : qs[j]? = some q) {H' : Hp} {n : Nat}
    (hd : H' dp = some (.lst [.ref pp, .int (n : Nat)])) (hH : H' q = some (.lst p.vs)) (ho : ∀ r, r ≠ dp → r ≠ q → H' r = H r) : DkAt ⟨d.ps.set j p, n⟩ dp pp qs H' := by
  have nd := h.nd
  have n1 := (List.nodup_cons.mp nd).1
  have n2 := (List.nodup_cons.mp nd).2
  have n3 := (List.nodup_cons.mp n2).1
  have n4 := (List.nodup_cons.mp n2).2
  have mq := List.mem_of_getElem? hq
  refine ⟨nd, hd, ?_, by simp [h.len], fun j' q' p' a b => ?_⟩
  · rw [ho pp (fun z => n1 (by rw [← z]; simp)) (fun z => n3 (by rw [z]; exact mq))]; exact h.op
  · by_cases e : j' = j
    · subst e
      rw [hq] at a; cases a
      have hl : j' < d.ps.length := by rw [← h.len]; exact (List.getElem?_eq_some_iff.mp hq).1
      simp only [List.getElem?_set_self hl] at b
      cases b; exact hH
    · have hne : q' ≠ q := fun z => by
        subst z
        obtain ⟨l1, e1⟩ := List.getElem?_eq_some_iff.mp hq
        obtain ⟨l2, e2⟩ := List.getElem?_eq_some_iff.mp a
        exact e ((List.getElem_inj n4).mp (e2.trans e1.symm))
      rw [ho q' (fun z => n1 (by rw [← z]; simp [List.mem_of_getElem? a])) hne]
      exact h.oq j' q' p' a (by rwa [List.getElem?_set_ne (fun z => e z.symm)] at b)
def poolOf (ns : List Int) (i : Nat) : Pool := ⟨(ns[i]?).getD 0, decide ((1000000000000000000 : Int) ≤ (ns[i]?).getD 0), 31 * (0 + (i : Nat))⟩
def manyOf (n : Nat) : Int := if (if (n : Int) < 63 then (n : Int) else 63) > 1 then (if (n : Int) < 63 then (n : Int) else 63) else 1
def deckOf (ns : List Int) : Dk := ⟨(List.range (manyOf ns.length).toNat).map (poolOf ns), 0⟩
structure DkLoop (ns : List Int) (H0 : Hp) (pp : Addr) (qs : List Addr) (i : Nat) (H : Hp) : Prop where
  sm : Same H0 H
  np : H0 pp = none
  nq : ∀ q ∈ qs, H0 q = none
  nd : (pp :: qs).Nodup
  len : qs.length = i
  op : H pp = some (.lst (qs.map V.ref))
  oq : ∀ (j : Nat) (q : Addr), qs[j]? = some q → H q = some (.lst (poolOf ns j).vs)
theorem DkLoop.step {ns : List Int} {H0 : Hp} {pp : Addr} {qs : List Addr} {i : Nat} {H : Hp} (h : DkLoop ns H0 pp qs i H) {q : Addr} (hq : H q = none) {vs : List V} (e : vs = (poolOf ns i).vs) :
    DkLoop ns H0 pp (qs ++ [q]) (i + 1) (upd (upd H q (.lst vs)) pp (.lst (qs.map V.ref ++ [.ref q]))) := by
  have qp : q ≠ pp := fun z => by subst z; rw [h.op] at hq; cases hq
  have qn : q ∉ qs := fun z => by
    obtain ⟨j, hj⟩ := List.getElem?_of_mem z
    rw [h.oq j q hj] at hq; cases hq
  have h0 : H0 q = none := by
    cases e0 : H0 q with
    | none => rfl
    | some o => rw [h.sm q o e0] at hq; cases hq
  have n1 := (List.nodup_cons.mp h.nd).1
  have n2 := (List.nodup_cons.mp h.nd).2
  refine ⟨fun r o er => ?_, h.np, fun r hr => ?_, ?_, by simp [h.len], ?_, fun j r hj => ?_⟩
  · rw [upd_ne (fun z => by subst z; rw [h.np] at er; cases er), upd_ne (fun z => by subst z; rw [h0] at er; cases er)]
    exact h.sm r o er
  · rcases List.mem_append.mp hr with hr | hr
    · exact h.nq r hr
    · have : r = q := by simpa using hr
      subst this; exact h0
  · refine List.nodup_cons.mpr ⟨fun z => ?_, List.nodup_append.mpr ⟨n2, by simp, fun a ha b hb => ?_⟩⟩
    · rcases List.mem_append.mp z with z | z
      · exact n1 z
      · exact qp (List.mem_singleton.mp z).symm
    · have : b = q := by simpa using hb
      subst this; exact fun z => qn (by rw [← z]; exact ha)
  · rw [upd_same]; simp
  · by_cases hl : j < qs.length
    · rw [List.getElem?_append_left hl] at hj
      have hm := List.mem_of_getElem? hj
      rw [upd_ne (fun z => n1 (by rw [← z]; exact hm)), upd_ne (fun z => qn (by rw [← z]; exact hm))]
      exact h.oq j r hj
    · rw [List.getElem?_append_right (by omega)] at hj
      have h1 := (List.getElem?_eq_some_iff.mp hj).1
      simp at h1
      have h2 : j = i := by rw [← h.len]; omega
      subst h2
      have h3 : r = q := by
        rw [← h.len] at hj
        simpa using hj.symm
      subst h3
      rw [upd_ne qp, upd_same, e]
theorem DkLoop.end {K : PySem.W.Frag} {sa : Addr} {ns : List Int} {B : Hp} {w : Wo} {pp : Addr} {qs : List Addr} {H : Hp} (W : Wd (DkY K sa ns) B w none)
    (h : DkLoop ns w.H pp qs (manyOf ns.length).toNat H) {dp : Addr} (hd : H dp = none) :
    ∃ w' : Wo, w'.H = upd H dp (.lst [.ref pp, .int 0]) ∧ Wd (DkY K sa ns) B w' (some (deckOf ns)) ∧ w'.et = [dp] ∧ Le w w' := by
  have h0 : w.H dp = none := by
    cases e0 : w.H dp with
    | none => rfl
    | some o => rw [h.sm dp o e0] at hd; cases hd
  have dpp : dp ≠ pp := fun z => by subst z; rw [h.op] at hd; cases hd
  have dq : dp ∉ qs := fun z => by
    obtain ⟨j, hj⟩ := List.getElem?_of_mem z
    rw [h.oq j dp hj] at hd; cases hd
  have sm : Same w.H (upd H dp (.lst [.ref pp, .int 0])) := fun r o er => by
    rw [upd_ne (fun z => by subst z; rw [h0] at er; cases er)]; exact h.sm r o er
  have et0 : w.et = [] := W.rel.1
  have new : ∀ p ∈ dp :: pp :: qs, w.H p = none := fun p hp => by
    rcases List.mem_cons.mp hp with rfl | hp
    · exact h0
    rcases List.mem_cons.mp hp with rfl | hp
    · exact h.np
    · exact h.nq p hp
  refine ⟨⟨w.F, dp :: pp :: qs, [dp], upd H dp (.lst [.ref pp, .int 0])⟩, rfl, ⟨W.sF.trans sm, W.sB.trans sm, W.dj, fun p hp => ⟨?_, ?_⟩, dp, pp, qs, rfl, rfl, ?_⟩, rfl, ⟨Same.refl _, [dp], by rw [et0]; rfl⟩⟩
  · cases e : w.F p with
    | none => rfl
    | some o => have := W.sF p o e; rw [new p hp] at this; cases this
  · cases e : B p with
    | none => rfl
    | some o => have := W.sB p o e; rw [new p hp] at this; cases this
  · refine ⟨List.nodup_cons.mpr ⟨fun z => ?_, h.nd⟩, upd_same, ?_, ?_, fun j q p a b => ?_⟩
    · rcases List.mem_cons.mp z with z | z
      · exact dpp z
      · exact dq z
    · exact (upd_ne (Ne.symm dpp)).trans h.op
    · simp [deckOf, h.len]
    · have hm := List.mem_of_getElem? a
      refine ((upd_ne (fun z => dq (by rw [← z]; exact hm))).trans (h.oq j q a)).trans ?_
      have hj := (List.getElem?_eq_some_iff.mp a).1
      rw [h.len] at hj
      unfold deckOf at b
      simp only [List.getElem?_map, List.getElem?_range hj, Option.map_some, Option.some.injEq] at b
      rw [b]
end FX
set_option Elab.async false
set_option linter.all false
set_option maxRecDepth 100000
set_option maxHeartbeats 1000000
namespace FX
open PySem PySem.Spec L2
structure FnG (P : Program) (w : World) (K : PySem.W.Frag) (mg : Str → Option Value) (base : Heap) (CX : CXT) (k : Nat) (f : Addr) (fd : FuncData) (ps : List Str) (sp : Sp) : Prop where
  len : ∀ (vs : List V) (H : Hp) (Q : VK) (E : XK), sp vs H Q E → vs.length = ps.length
  run : ∀ (A : Around) (outer : List Env) (s : Shared) (H : Hp) (args : Args) (us : List Value) (vs : List V) (Q : VK) (E : XK), Room k A → A.guards = some [] → Env0 P w K mg base A outer s H →
    BindsTo s fd args (ps.zip us) → Vals vs us → sp vs H Q E → codeAny (model P w) A (.call (.ref f) args) (CR CX outer P w H s Q E) s
theorem FnG.of {P : Program} {w : World} {K : PySem.W.Frag} {mg : Str → Option Value} {base : Heap} {CX : CXT} {k : Nat} {f : Addr} {fd : FuncData} {ps : List Str} {sp : Sp} (F : FnOk P w K mg base CX k f fd ps sp) : FnG P w K mg base CX k f fd ps sp :=
  ⟨F.len, fun A outer s H args us vs Q E hr _ => F.run A outer s H args us vs Q E hr⟩
end FX
set_option Elab.async false
set_option linter.all false
set_option maxRecDepth 100000
set_option maxHeartbeats 1000000
namespace FX
open PySem PySem.Spec L2
end FX
set_option Elab.async false
set_option linter.all false
set_option maxRecDepth 100000
set_option maxHeartbeats 1000000
namespace FX
open PySem PySem.Spec L2
end FX
set_option Elab.async false
set_option linter.all false
set_option maxRecDepth 100000
set_option maxHeartbeats 1000000
namespace FX
open PySem PySem.Spec L2
section
variable {K : PySem.W.Frag}
theorem Sh.rp {F H : Hp} (e : Same F H) {x : V} : ∀ {d : D}, Sh K F H x d → Rp K H x d
  | .none, h => Rp.mono e h
  | .bool _, h => Rp.mono e h
  | .int _, h => Rp.mono e h
  | .str _, h => Rp.mono e h
  | .dict _, h => Rp.mono e h
  | .list _, ⟨p, xs, hx, a, b⟩ => by subst hx; exact .lst a (b.mono e)
  | .tuple _, ⟨p, xs, hx, a, b⟩ => by subst hx; exact .tup (e _ _ a) (b.mono e)
end
end FX
set_option Elab.async false
set_option linter.all false
set_option maxRecDepth 100000
set_option maxHeartbeats 1000000
namespace FX
open PySem PySem.Spec L2
section
variable {K : PySem.W.Frag}
def fTup : List D → Option Rz
  | [.list ds] => some (.nw (.tuple ds))
  | [.tuple ds] => some (.old (.tuple ds))
  | _ => none
abbrev rTupO (K : PySem.W.Frag) : List V → Hp → VK → Prop := fun xs H Q => ∃ p ys, xs = [.ref p] ∧ ((SqL K H p ys ∧ ∀ l, H l = none → Q (.ref l) (upd H l (.tup ys))) ∨ (SqT K H p ys ∧ Q (.ref p) H))
theorem s_tup : OpN K (rTupO K) fTup := by
  intro F H xs ds z Q sF hx h q
  unfold fTup at h
  split at h
  · cases h
    cases hx with
    | cons a b =>
      cases b
      obtain ⟨p, xs, rfl, e1, a1⟩ := a
      exact ⟨p, xs, rfl, .inl ⟨.of e1, fun l nl => q l _ nl a1⟩⟩
  · cases h
    cases hx with
    | cons a b =>
      cases b
      obtain ⟨p, xs, rfl, e1, a1⟩ := a
      exact ⟨p, xs, rfl, .inr ⟨.of (sF _ _ e1), q _ (.tup e1 a1)⟩⟩
  · cases h
def fRev : D → Option Rz
  | .list ds => some (.nw (.list ds.reverse))
  | _ => none
def rRev (K : PySem.W.Frag) : V → Hp → VK → Prop := fun x H Q => ∃ a xs, x = .ref a ∧ SqL K H a xs ∧ ∀ p, H p = none → Q (.ref p) (upd H p (.lst xs.reverse))
theorem s_rev : Op1 K (rRev K) fRev := by
  intro F H x d z Q sF hx h q
  unfold fRev at h
  split at h
  · cases h
    obtain ⟨p, xs, rfl, e1, a1⟩ := hx
    exact ⟨p, xs, rfl, .of e1, fun l nl => q l _ nl a1.rev⟩
  · cases h
end
section
variable {Y : Sys} {X : Cx} {W : WX} {e o : Expr} {pos p2 p3 p1 apos cpos : Pos} {te : TE} {ge : GE Y} {k : Nat} {K : PySem.W.Frag}
theorem me_rev (hK : X.K = K) (h : ME Y X W e te ge) : ME Y X W (.Subscript e (.Slice none none (some (.UnaryOp .USub (.Constant (.int 1) k p1) p2)) p3) pos) (tUn (rRev K) te) (gUn fRev ge) := by
  subst hK
  exact ⟨pe_revL h.pe, eok_un s_rev h.ok⟩
end
end FX
set_option Elab.async false
set_option linter.all false
set_option maxRecDepth 100000
set_option maxHeartbeats 1000000
namespace FX
open PySem PySem.Spec L2
section
variable {K : PySem.W.Frag}
def tkey1? : D → Option Key
  | .int i => some (.inl i)
  | .str z => some (.inr z)
  | _ => none
def tkeys? : List D → Option (List Key)
  | [] => some []
  | d :: ds => match tkey1? d, tkeys? ds with
    | some k, some l => some (k :: l)
    | _, _ => none
def tkey? : D → Option (List Key)
  | .tuple ds => tkeys? ds
  | _ => none
theorem tkey1_d : ∀ k : Key, tkey1? (keyD k) = some k
  | .inl _ => rfl
  | .inr _ => rfl
theorem tkeys_d : ∀ k : List Key, tkeys? (k.map keyD) = some k
  | [] => rfl
  | a :: r => by simp only [List.map_cons, tkeys?, tkey1_d, tkeys_d r]
theorem tkey_d (k : List Key) : tkey? (keyT k) = some k := tkeys_d k
theorem key_v {F : Hp} : ∀ {ds : List D} {xs : List V} {k : List Key}, RpA K F xs ds → tkeys? ds = some k → xs = k.map kV
  | [], _, _, h, e => by cases h; cases e; rfl
  | d :: ds, _, _, h, e => by
    unfold tkeys? at e
    split at e
    · rename_i k l e1 e2
      cases e
      cases h with
      | cons a b =>
        rw [key_v b e2]
        cases d with
        | int i => cases e1; cases a; rfl
        | str z => cases e1; cases a; rfl
        | _ => cases e1
    · cases e
def isKey (k : List Key) (y : D) : Bool := decide (tkey? y = some k)
def dGet (kvs : List (D × D)) (k : List Key) : Option D := (kvs.find? fun kv => isKey k kv.1).map (·.2)
def dPut (kvs : List (D × D)) (k : List Key) (d : D) : List (D × D) :=
  if (kvs.any fun kv => isKey k kv.1) = true then kvs.map (fun kv => if isKey k kv.1 = true then (kv.1, d) else kv) else kvs ++ [(keyT k, d)]
theorem isKey_T (k j : List Key) : isKey k (keyT j) = decide (j = k) := by
  unfold isKey
  rw [tkey_d]
  simp only [Option.some.injEq]
theorem RpT.len {F : Hp} : ∀ {es : List (List Key × V)} {kvs : List (D × D)}, RpT K F es kvs → es.length = kvs.length
  | _, _, .nil => rfl
  | _, _, .cons _ b => by simp only [List.length_cons, RpT.len b]
theorem RpT.any {F : Hp} (k : List Key) : ∀ {es : List (List Key × V)} {kvs : List (D × D)}, RpT K F es kvs → (es.any fun kv => decide (kv.1 = k)) = kvs.any fun kv => isKey k kv.1
  | _, _, .nil => rfl
  | _, _, .cons _ b => by
    simp only [List.any_cons, isKey_T, RpT.any k b]
theorem RpT.get {F : Hp} (k : List Key) : ∀ {es : List (List Key × V)} {kvs : List (D × D)}, RpT K F es kvs → match dGet kvs k with
    | some d => ∃ v, valV es k = some v ∧ Rp K F v d
    | none => valV es k = none
  | _, _, .nil => rfl
  | _, _, .cons (k := j) (v := v) (d := d) (es := es) (kvs := kvs) a b => by
    have ih := RpT.get k b
    by_cases e : j = k
    · have h1 : dGet ((keyT j, d) :: kvs) k = some d := by
        unfold dGet
        simp [List.find?_cons, isKey_T, e]
      rw [h1]
      exact ⟨v, valV_pos e, a⟩
    · have h1 : dGet ((keyT j, d) :: kvs) k = dGet kvs k := by
        unfold dGet
        simp [List.find?_cons, isKey_T, e]
      rw [h1, valV_neg (p := (j, v)) e]
      exact ih
theorem RpT.map {F : Hp} (k : List Key) {x : V} {d : D} (h : Rp K F x d) : ∀ {es : List (List Key × V)} {kvs : List (D × D)}, RpT K F es kvs →
    RpT K F (es.map fun kv => if kv.1 = k then (kv.1, x) else kv) (kvs.map fun kv => if isKey k kv.1 = true then (kv.1, d) else kv)
  | _, _, .nil => .nil
  | _, _, .cons (k := j) (v := v) (d := d') (es := es) (kvs := kvs) a b => by
    simp only [List.map_cons, isKey_T]
    by_cases e : j = k
    · simp only [e, decide_true, if_true]
      exact .cons h (RpT.map k h b)
    · simp only [e, decide_false, if_false]
      exact .cons a (RpT.map k h b)
theorem RpT.snoc {F : Hp} {k : List Key} {x : V} {d : D} (h : Rp K F x d) : ∀ {es : List (List Key × V)} {kvs : List (D × D)}, RpT K F es kvs → RpT K F (es ++ [(k, x)]) (kvs ++ [(keyT k, d)])
  | _, _, .nil => .cons h .nil
  | _, _, .cons a b => .cons a (RpT.snoc h b)
theorem RpT.put {F : Hp} {k : List Key} {x : V} {d : D} (h : Rp K F x d) {es : List (List Key × V)} {kvs : List (D × D)} (r : RpT K F es kvs) : RpT K F (putK es k x) (dPut kvs k d) := by
  unfold putK dPut
  rw [r.any k]
  by_cases e : (kvs.any fun kv => isKey k kv.1) = true
  · rw [if_pos e, if_pos e]; exact r.map k h
  · rw [if_neg e, if_neg e]; exact r.snoc h
end
def gDicT {Y : Sys} : GE Y := fun Γ s => some (.ok (.o (.dict [])), Γ, s)
def sPutT {Y : Sys} (i : Nat) (gk ge : GE Y) : GS Y := bdS (gEsc ge) fun r Γ s => match r, Γ[i]? with
  | .v d, some (some (.o (.dict _))) => bdS gk (fun rk Γ s => match rk, Γ[i]? with
    | .v (.tuple ks), some (some (.o (.dict kvs))) => match tkeys? ks with
      | some k => if sizeOk kvs.length = true then some (.nx, Γ.set i (some (.o (.dict (dPut kvs k d)))), s) else none
      | none => none
    | _, _ => none) Γ s
  | _, _ => none
section
variable {Y : Sys} {X : Cx} {W : WX} {e o : Expr} {pos p apos cpos pos' : Pos} {gk ge gx : GE Y} {te tk tx : TE} {i : Nat}
theorem me_dicT (h : PE X e tDNewT) : ME Y X W e tDNewT gDicT := by
  refine ⟨h, fun B w σ Γ s out Q Wh N eq p => ?_⟩
  cases eq
  intro q nq
  have Fn : w.F q = none := Wh.sF.free nq
  have Bn : B q = none := Wh.sB.free nq
  refine p { w with H := upd w.H q (.dT []) } (Wh.newH nq) (N.newH nq) ⟨Same.refl _, [], by simp⟩ _ ⟨⟨q, rfl, ⟨[], upd_same, .nil⟩, Fn, Bn, fun z => Y.live Wh.rel _ z nq⟩, fun j e hi hs => ?_⟩
  obtain ⟨y, a, b⟩ := N.sl j _ hi
  obtain ⟨q', rfl, own, _⟩ := b
  rw [hs] at a; cases a
  obtain ⟨u, hu⟩ := own.obj
  rw [nq] at hu; cases hu
theorem sok_putT {K : PySem.W.Frag} (he : EOk Y K W te ge) (hk : EOk Y K W tk gk) : SOk Y K W (sDPut (tVar i) tk te) (sPutT i gk ge) := by
  intro B w σ Γ s out D Wh N e p
  refine (eok_esc he).goS (Q := fun v H1 => tVar i σ H1 fun x H2 => tk σ H2 fun y H3 => ∃ a H4, x = .ref a ∧ DPut H3 a y v H4 ∧ D.nx σ H4) Wh N e p fun r Γ1 s1 v w1 W1 N1 l1 R1 e1 p1 => ?_
  split at e1
  · rename_i d kvs0 hi0
    obtain ⟨y, hx, q, rfl, _⟩ := N1.sl i _ hi0
    refine ⟨_, hx, ?_⟩
    refine hk.goS (Q := fun y H3 => ∃ a H4, V.ref q = .ref a ∧ DPut H3 a y v H4 ∧ D.nx σ H4) W1 N1 e1 p1 fun rk Γ2 s2 z w2 W2 N2 l2 R2 e2 p2 => ?_
    split at e2
    · rename_i ks kvs hi
      split at e2
      · rename_i k ek
        split at e2
        · rename_i hz
          cases e2
          obtain ⟨y', hx', q', rfl, ⟨es, hl, ra⟩, fq, bq, aq⟩ := N2.sl i _ hi
          rw [hx] at hx'; cases hx'
          cases (show Rp K w2.F z (.tuple ks) from R2) with
          | tup hb rk =>
            rename_i b ys
            have := key_v rk ek
            subst this
            refine ⟨q, _, rfl, DPut.t (v := v) hl (W2.sF _ _ hb) (by rw [ra.len]; exact sizeOk_lt hz), ?_⟩
            exact p2 { w2 with H := upd w2.H q (.dT (putK es k v)) } σ (W2.st fq bq aq) (N2.st hi hx ⟨_, upd_same, ra.put (Rp.mono l2.F R1)⟩) ⟨Same.refl _, [], by simp⟩
        · cases e2
      · cases e2
    · cases e2
  · cases e1
theorem ms_putT (hu : X.A.units + 1 < cLine) (ho : PE X o (tVar i)) (hk : ME Y X W p' tk gk) (he : ME Y X W e te ge) (hs : swapsWith e (some (.Subscript o p' pos')) pos.line X.env = pure false := by rfl) :
    MS Y X W (.Assign [.Subscript o p' pos'] e pos) (sDPut (tVar i) tk te) (sPutT i gk ge) := ⟨ps_dput hu ho hk.pe he.pe hs, sok_putT he.ok hk.ok⟩
end
end FX
set_option Elab.async false
set_option linter.all false
set_option maxRecDepth 100000
set_option maxHeartbeats 1000000
namespace FX
open PySem PySem.Spec L2
def gPop1 {Y : Sys} (i : Nat) (gk : GE Y) : GE Y := fun Γ s => match Γ[i]? with
  | some (some (.o (.list _))) => bd gk (fun rk Γ s => match rdv Γ rk, Γ[i]? with
    | some (.int k), some (some (.o (.list ds))) => if bigI k = true then (match ixN ds.length k with
      | some j => match ds[j]? with
        | some d => some (.ok (.v d), Γ.set i (some (.o (.list (ds.eraseIdx j)))), s)
        | none => none
      | none => none) else none
    | _, _ => none) Γ s
  | _ => none
section
variable {K : PySem.W.Frag}
theorem RpA.erase {F : Hp} : ∀ {xs : List V} {ds : List D} (j : Nat), RpA K F xs ds → RpA K F (xs.eraseIdx j) (ds.eraseIdx j)
  | _, _, _, .nil => .nil
  | _, _, 0, .cons _ b => b
  | _, _, j + 1, .cons a b => .cons a (RpA.erase j b)
end
end FX
set_option Elab.async false
set_option linter.all false
set_option maxRecDepth 100000
set_option maxHeartbeats 2000000
namespace FX
open PySem PySem.Spec L2
end FX
set_option Elab.async false
set_option linter.all false
set_option maxRecDepth 100000
set_option maxHeartbeats 2000000
namespace FX
open PySem PySem.Spec L2
structure ErC (K : PySem.W.Frag) (n : Str) (C : Addr) : Prop where
  cn : Cn K n (.ref C)
  x : PySem.W.excIn K C [.type "ValueError", .type "Exception", .type "BaseException", .type "object"] "ValueError.__new__" = true
  k : PySem.W.keepIn K (.ref C) = true
  b : PySem.W.subIn K (.ref C) (.type "BaseException") = some true
  t : PySem.W.typeIn K (.ref C) = some (.type "type")
  e : ExcC K C
section
variable {Y : Sys} {X : Cx} {W : WX}
theorem ms_raiseN {n m : Str} {C : Addr} {j : Nat} {p p2 pos pos2 : Pos} (hc : X.calm = true) (tk : Takes X W) (T : ErC X.K n C) (gC : X.mg n = some (.ref C)) (hg : Gl X n) (hd : (n == ("__debug__" : Str)) = false := by decide) :
    MS Y X W (.Raise (some (.Call (.Name n p) [.Constant (.str m) j p2] [] pos)) none pos2) (fun _ σ H => W (.ref C) none σ H) (sRaise n) :=
  ms_raise T.cn (ps_raise hc tk (pmk_own PySem.F.excBase_ValueError T.x gC T.k (raises_own T.b T.t) hg hd))
end
end FX
set_option Elab.async false
set_option linter.all false
set_option maxRecDepth 100000
set_option maxHeartbeats 2000000
namespace FX
open PySem PySem.Spec L2
end FX
namespace FX
open PySem PySem.Spec L2
end FX
set_option Elab.async false
set_option linter.all false
set_option maxRecDepth 100000
set_option maxHeartbeats 1000000
namespace FX
open PySem PySem.Spec L2
theorem ixN_seq {n j : Nat} {k : Int} (h : ixN n k = some j) : seqIndex? k n = some j ∧ j < n := by
  unfold ixN at h
  unfold seqIndex?
  split at h
  · split at h
    · rename_i a b
      cases h
      have a' : ¬ k < 0 := by simpa using a
      simp only [if_neg a']
      refine ⟨?_, by omega⟩
      rw [if_pos]
      simp; omega
    · cases h
  · split at h
    · rename_i a b
      cases h
      have a' : k < 0 := by omega
      simp only [if_pos a']
      refine ⟨?_, by omega⟩
      rw [if_pos]
      simp; omega
    · cases h
section
variable {Y : Sys} {X : Cx} {W : WX} {e o : Expr} {pos p apos cpos : Pos} {ge : GE Y} {te : TE} {i : Nat}
theorem eok_pop1 {K : PySem.W.Frag} (he : EOk Y K W te ge) : EOk Y K W (tBM K "list" rPopAt (tVar i) (tCons te tNil)) (gPop1 i ge) := by
  intro B w σ Γ s out Q Wh N e p
  unfold gPop1 at e
  split at e
  · rename_i ds0 hi0
    obtain ⟨x, hx, q, rfl, ⟨xs, hl, ra⟩, _⟩ := N.sl i _ hi0
    refine ⟨_, hx, .inl ⟨rfl, xs, .of hl⟩, ?_⟩
    refine he.go (Q := fun y H2 => rPopAt (.ref q) [y] H2 Q) Wh N e p fun r Γ1 s1 y w1 W1 N1 l1 R1 e1 p1 => ?_
    split at e1
    · rename_i k ds ek hi
      split at e1
      · rename_i hb
        split at e1
        · rename_i j hj
          split at e1
          · rename_i d hd
            cases e1
            obtain ⟨x, hx', q', rfl, ⟨xs, hl, ra⟩, fq, bq, aq⟩ := N1.sl i _ hi
            rw [hx] at hx'; cases hx'
            cases sh_int (sh_of W1 N1 R1 ek)
            obtain ⟨b1, b2⟩ := bigI_of hb
            obtain ⟨sx, jl⟩ := ixN_seq hj
            obtain ⟨v, hv, rv⟩ := ra.get hd
            refine ⟨q, xs, k, j, v, rfl, rfl, hl, by omega, by omega, by rw [ra.length]; exact sx, hv, ?_⟩
            exact p1 { w1 with H := upd w1.H q (.lst (xs.eraseIdx j)) } (W1.st fq bq aq) (N1.st hi hx ⟨_, upd_same, ra.erase j⟩) ⟨Same.refl _, [], by simp⟩ v rv
          · cases e1
        · cases e1
      · cases e1
    · cases e1
  · cases e
theorem me_pop1 (ho : PE X o (tVar i)) (he : ME Y X W e te ge) (hbase : attributeBase o "pop" X.env (eval o X.env) = eval o X.env := by rfl)
    (hfew : ((backTo cpos (starEach (e :: []) X.env)).all (fun x => !x.1) && (backToKw cpos (keywordEach [] X.env)).all (fun x => x.1.isSome) && decide ((e :: []).length + ([] : List Keyword).length + (if ([] : List Keyword).isEmpty then 0 else 1) < 30)) = true := by rfl)
    (hline : (apos.endLine == cpos.line) = true := by rfl) (hs : starEach (e :: []) X.env = (false, eval e X.env) :: starEach [] X.env := by rfl) (hplain : (backTo cpos (starEach [] X.env)).any (·.1) = false := by rfl) :
    ME Y X W (.Call (.Attribute o "pop" apos) [e] [] cpos) (tBM X.K "list" rPopAt (tVar i) (tCons te tNil)) (gPop1 i ge) :=
  ⟨pe_bm PySem.F.plainAttrs_list PySem.F.slot_list_pop PySem.F.type_list_pop mt_popAt ho (pa_cons he.pe pa_nil hs) hbase hfew hline hs hplain, eok_pop1 he.ok⟩
end
def fAbs : List D → Option Rz
  | [.int i] => some (.nw (.int (if i < 0 then -i else i)))
  | _ => none
theorem s_abs {K : PySem.W.Frag} : OpN K (fun xs H Q => ∃ i, xs = [.int i] ∧ Q (.int (if i < 0 then -i else i)) H) fAbs := by
  intro F H xs ds z Q sF hx h q
  unfold fAbs at h
  split at h
  · cases h
    cases hx with
    | cons a b =>
      cases b
      cases sh_int a
      exact ⟨_, rfl, nw_int q⟩
  · cases h
end FX
set_option Elab.async false
set_option linter.all false
set_option maxRecDepth 100000
set_option maxHeartbeats 1000000
namespace FX
open PySem PySem.Spec L2
def leD (d e : D) : Bool := !PySem.W.dataLt e d
def insD (a : D) : List D → List D
  | [] => [a]
  | b :: l => if leD a b = true then a :: b :: l else b :: insD a l
def isortD : List D → List D
  | [] => []
  | a :: l => insD a (isortD l)
theorem leD_eq : PySem.W.dataLe (β := D) false id = leD := by
  funext a b
  rw [PySem.W.dataLe_eq]; rfl
theorem leD_total : PySem.W.TotalLe leD := by
  rw [← leD_eq]; exact PySem.W.sortLe_total _ _ _
theorem insD_mem {a x : D} : ∀ {l : List D}, x ∈ insD a l ↔ x = a ∨ x ∈ l
  | [] => by simp [insD]
  | b :: l => by
    unfold insD
    split
    · simp
    · simp only [List.mem_cons, insD_mem (l := l)]
      constructor
      · rintro (h | h | h)
        · exact .inr (.inl h)
        · exact .inl h
        · exact .inr (.inr h)
      · rintro (h | h | h)
        · exact .inr (.inl h)
        · exact .inl h
        · exact .inr (.inr h)
theorem insD_perm (a : D) : ∀ l : List D, (insD a l).Perm (a :: l)
  | [] => .refl _
  | b :: l => by
    unfold insD
    split
    · exact .refl _
    · exact ((insD_perm a l).cons b).trans (.swap a b l)
theorem isortD_perm : ∀ l : List D, (isortD l).Perm l
  | [] => .refl _
  | a :: l => (insD_perm a _).trans ((isortD_perm l).cons a)
theorem insD_srt (a : D) : ∀ {l : List D}, l.Pairwise (fun x y => leD x y = true) → (insD a l).Pairwise fun x y => leD x y = true
  | [], _ => List.pairwise_singleton _ _
  | b :: l, h => by
    obtain ⟨h1, h2⟩ := List.pairwise_cons.mp h
    unfold insD
    split
    · rename_i c
      refine List.pairwise_cons.mpr ⟨fun x hx => ?_, h⟩
      rcases List.mem_cons.mp hx with rfl | hx
      · exact c
      · exact leD_total.trans _ _ _ c (h1 x hx)
    · rename_i c
      refine List.pairwise_cons.mpr ⟨fun x hx => ?_, insD_srt a h2⟩
      rcases insD_mem.mp hx with rfl | hx
      · exact (leD_total.total x b).resolve_left c
      · exact h1 x hx
theorem isortD_srt : ∀ l : List D, (isortD l).Pairwise fun x y => leD x y = true
  | [] => .nil
  | a :: l => insD_srt a (isortD_srt l)
theorem insD_flt (c a : D) : ∀ {l : List D}, l.Pairwise (fun x y => leD x y = true) → (insD a l).filter (PySem.W.sameRank leD c) = (a :: l).filter (PySem.W.sameRank leD c)
  | [], _ => rfl
  | b :: l, h => by
    obtain ⟨h1, h2⟩ := List.pairwise_cons.mp h
    unfold insD
    split
    · rfl
    · rename_i k
      rw [List.filter_cons, insD_flt c a h2]
      simp only [List.filter_cons]
      by_cases q : PySem.W.sameRank leD c a = true
      · have nb : ¬ PySem.W.sameRank leD c b = true := fun z => by
          unfold PySem.W.sameRank at q z
          rw [Bool.and_eq_true] at q z
          exact k (leD_total.trans _ _ _ q.2 z.1)
        simp [q, nb]
      · simp [q]
theorem isortD_flt (c : D) : ∀ l : List D, (isortD l).filter (PySem.W.sameRank leD c) = l.filter (PySem.W.sameRank leD c)
  | [] => rfl
  | a :: l => by
    show (insD a (isortD l)).filter _ = _
    rw [insD_flt c a (isortD_srt l), List.filter_cons, List.filter_cons, isortD_flt c l]
theorem isortD_merge (l : List D) : isortD l = l.mergeSort leD := PySem.W.sort_unique leD_total (isortD_srt l) fun c => isortD_flt c l
def sortable (ds : List D) : Bool := ds.all (fun d => match d with | .tuple (_ :: _) => true | _ => false) || ds.all (fun d => match d with | .none => false | .tuple _ => false | _ => true)
def allAlike (ds : List D) : Bool := ds.all fun d => ds.all fun e => PySem.W.alike d e
theorem sortable_of {ds : List D} (h : sortable ds = true) : PySem.W.Sortable ds := by
  unfold sortable at h
  rw [Bool.or_eq_true] at h
  rcases h with h | h
  · refine .inl fun d hd => ?_
    have := List.all_eq_true.mp h d hd
    split at this
    · exact ⟨_, _, rfl⟩
    · cases this
  · refine .inr fun d hd => ?_
    have := List.all_eq_true.mp h d hd
    split at this
    · cases this
    · cases this
    · rename_i a b
      exact ⟨a, b⟩
theorem allAlike_of {ds : List D} (h : allAlike ds = true) : PySem.W.AllAlike ds := fun d hd e he => List.all_eq_true.mp (List.all_eq_true.mp h d hd) e he
theorem each_rpa {K : PySem.W.Frag} (Z : List (V × D)) : ∀ {us : List Value} {ds : List D}, PySem.W.EachIs (fun (u : Value) (d : D) => ∃ x, RelV x u ∧ (x, d) ∈ Z) us ds → ∃ ys, Vals ys us ∧ ∀ F, (∀ p ∈ Z, Rp K F p.1 p.2) → RpA K F ys ds
  | _, _, .nil => ⟨[], .nil, fun _ _ => .nil⟩
  | _, _, .cons ⟨x, a, b⟩ t => by
    obtain ⟨ys, h1, h2⟩ := each_rpa Z t
    exact ⟨x :: ys, .cons a h1, fun F h => .cons (h _ b) (h2 F h)⟩
theorem rpa_zip {K : PySem.W.Frag} {F : Hp} : ∀ {xs : List V} {ds : List D}, RpA K F xs ds → ∀ p ∈ xs.zip ds, Rp K F p.1 p.2
  | _, _, .nil, p, h => by simp at h
  | _, _, .cons r rr, p, h => by
    rcases List.mem_cons.mp h with rfl | h
    · exact r
    · exact rpa_zip rr p h
theorem vals_len : ∀ {xs : List V} {us : List Value}, Vals xs us → xs.length = us.length
  | _, _, .nil => rfl
  | _, _, .cons _ t => by simp [vals_len t]
end FX
namespace FX
open PySem PySem.Spec L2
end FX
set_option Elab.async false
set_option linter.all false
set_option maxRecDepth 100000
set_option maxHeartbeats 1000000
namespace FX
open PySem PySem.Spec L2
end FX
set_option Elab.async false
set_option linter.all false
set_option maxRecDepth 100000
set_option maxHeartbeats 1000000
namespace FX
open PySem PySem.Spec L2
end FX
set_option Elab.async false
set_option linter.all false
set_option maxRecDepth 100000
set_option maxHeartbeats 1000000
namespace FX
open PySem PySem.Spec L2
section
variable {Y : Sys} {K : PySem.W.Frag} {B : Hp} {w : Wo} {s : Y.S} {σ : St} {Γ : Ev}
theorem rpa_keyV {F : Hp} : ∀ k : List Key, RpA K F (k.map kV) (k.map keyD)
  | [] => .nil
  | .inl i :: k => .cons (.int i) (rpa_keyV k)
  | .inr x :: k => .cons (.str x) (rpa_keyV k)
theorem fz_keys : ∀ {kvs : List (List Key × V)} {bs : List Addr} {w : Wo}, IsKeys w.H kvs bs → Wd Y B w s → EnvR K B w σ Γ → ∃ w', w'.H = w.H ∧ w'.A = w.A ∧ w'.et = w.et ∧ Wd Y B w' s ∧ EnvR K B w' σ Γ ∧ Le w w' ∧ RpA K w'.F (bs.map V.ref) (kvs.map fun p => keyT p.1)
  | _, _, w, .nil, W, N => ⟨w, rfl, rfl, rfl, W, N, .refl _, .nil⟩
  | _, _, w, .cons (a := p) (b := b) h t, W, N => by
    have W1 := W.fzT h
    have N1 := N.fzK W h
    obtain ⟨w', e1, e2, e3, W', N', l', r'⟩ := fz_keys (w := { w with F := upd w.F b (.tup (p.1.map kV)) }) t W1 N1
    refine ⟨w', e1, e2, e3, W', N', (Le.fzT W h).trans l', .cons (.tup (l'.F _ _ upd_same) (rpa_keyV p.1)) r'⟩
end
def rSortedT (K : PySem.W.Frag) : List V → Hp → VK → Prop := fun vs H Q => ∃ (d : Addr) (kvs : List (List Key × V)), vs = [.ref d] ∧ Rd H d (.dT kvs) ∧ PySem.W.AllAlike (kvs.map fun p => keyT p.1) ∧ PySem.W.Sortable (kvs.map fun p => keyT p.1) ∧ (∀ d ∈ kvs.map (fun p => keyT p.1), d.depth ≤ 60) ∧
  ∀ p bs ys, H p = none → IsKeys H kvs bs → (∀ F, RpA K F (bs.map V.ref) (kvs.map fun p => keyT p.1) → RpA K F ys (isortD (kvs.map fun p => keyT p.1))) → Q (.ref p) (upd H p (.lst ys))
theorem flat_reads {h : Heap} : ∀ {k : List Key} {us : List Value}, Vals (k.map kV) us → ReadsAll h us (k.map keyD) []
  | [], _, e => by cases e; exact .nil
  | .inl i :: k, _, e => by
    cases e with
    | cons e1 e2 =>
      obtain ⟨t, rfl⟩ := e1
      exact .cons (as := []) (bs := []) (.int i t) (flat_reads e2)
  | .inr x :: k, _, e => by
    cases e with
    | cons e1 e2 =>
      obtain ⟨t, rfl⟩ := e1
      exact .cons (as := []) (bs := []) (.str x t) (flat_reads e2)
theorem isk_reads {P : Program} {w : World} {H : Hp} {h : Heap} (ok : HOk P w H h) (Z : List (V × D)) {a : Addr} : ∀ {kvs : List (List Key × V)} {bs : List Addr}, IsKeys H kvs bs → (∀ p ∈ (bs.map V.ref).zip (kvs.map fun p => keyT p.1), p ∈ Z) →
    PySem.W.EachIs (fun (u : Value) (d : D) => ∃ x, RelV x u ∧ (x, d) ∈ Z) (bs.map Value.ref) (kvs.map fun p => keyT p.1) ∧ PySem.W.EachIs (fun v b => ∃ as, Reads h v (id b) as ∧ a ∉ as) (bs.map Value.ref) (kvs.map fun p => keyT p.1)
  | _, _, .nil, _ => ⟨.nil, .nil⟩
  | _, _, .cons (a := p) (b := b) hb t, hZ => by
    obtain ⟨x1, x2⟩ := isk_reads ok Z t fun q hq => hZ q (by simp [hq])
    refine ⟨.cons ⟨.ref b, rfl, hZ _ (by simp)⟩ x1, .cons ?_ x2⟩
    obtain ⟨_, its, hv, o, hg, hc, n, hd⟩ := ok b _ hb
    exact ⟨[], .tuple hg hc hd (by simpa using flat_reads hv), by simp⟩
theorem isk_len {H : Hp} : ∀ {kvs : List (List Key × V)} {bs : List Addr}, IsKeys H kvs bs → bs.length = kvs.length
  | _, _, .nil => rfl
  | _, _, .cons _ t => by simp [isk_len t]
section
variable {X : Cx}
theorem cr_sortedT (hc : X.calm = true) (hu : X.A.units + 65 < cLine) : CallR X (.builtin "sorted") (rSortedT X.K) := by
  intro pins s σ H vs us Q I r h
  obtain ⟨d, kvs, rfl, hd, al, so, dp, q⟩ := h
  obtain ⟨u, rfl, rx⟩ := vals1 r
  cases rx
  obtain ⟨z, hs, ks, pr, o, es, ep, ho, hx, hdt, he, hn⟩ := (show ObjOk X.prog X.w H s.heap d (.dT kvs) from rd_of I.hok hd)
  have l1 : es.size = ks.length := size_of_entries he
  have l2 : kvs.length = ks.length := Paired.length pr
  refine Calls.call_function_entry PyProof.Rows.kind_sorted PyProof.Rows.plain_sorted PyProof.Rows.entry_sorted (PyProof.Rows.args_sorted1 _) ?_
  unfold Builtin.«sorted»
  refine wpAny_bind (m := checkCount "sorted" 1 1 _) (wpAny_pure ?_)
  refine wpAny_bind (PySem.W.kdu_collect (A := X.A.in1) (kdl_raw hs hx hdt) (I.ok.hd hc) ho (by omega) fun h' tk acc hk it => ?_)
  have ea : acc.toList = ks.map fun x => Value.ref x.2.1 := by
    have hl : acc.toList.length = ks.length := by rw [Array.length_toList, it.1]; exact l1
    apply List.ext_getElem?
    intro j
    rw [List.getElem?_map]
    cases hj : acc.toList[j]? with
    | none =>
      have h1 := List.getElem?_eq_none_iff.mp hj
      rw [List.getElem?_eq_none (by omega)]
      all_goals rfl
    | some v =>
      obtain ⟨en, hen, hv⟩ := it.2 j v (by rw [← Array.getElem?_toList]; exact hj)
      have qe := entry_at he j
      rw [hen] at qe
      cases hb : ks[j]? with
      | none =>
        rw [hb] at qe
        exact nomatch (show some en = none from qe)
      | some b =>
        rw [hb] at qe
        have e2 : en = entryOfKey (tupleKind (mixKind X.prog X.w)) b := Option.some.inj qe
        rw [hv, e2]
        all_goals rfl
  have eb : acc.toList = (ks.map fun x => x.2.1).map Value.ref := by rw [ea, List.map_map]; all_goals rfl
  have ik := isKeys_of pr
  generalize (ks.map fun x => x.2.1) = bs at eb ik
  have lb := isk_len ik
  have I1 : Inv X pins σ H { s with heap := h', toks := tk } := I.kept hk
  refine wpAny_bind (wpAny_newList ?_ (by rw [eb, List.length_map, lb]; omega))
  have hoL : (h'.push (PyProof.Rows.seqObj "list" acc.toList.toArray 0)).get? h'.objs.size = some (PyProof.Rows.seqObj "list" acc.toList.toArray 0) := Heap.get?_push_size _ rfl
  show wpAny _ _ _ _ _ { s with heap := h'.push (PyProof.Rows.seqObj "list" acc.toList.toArray 0), toks := tk }
  have ok2 : HOk X.prog X.w H (h'.push (PyProof.Rows.seqObj "list" acc.toList.toArray 0)) := I1.hok.kept fun b u e => Heap.get?_push_of_some _ e
  obtain ⟨ra, rb⟩ := isk_reads (a := h'.objs.size) ok2 ((bs.map V.ref).zip (kvs.map fun p => keyT p.1)) ik fun p hp => hp
  rw [← eb] at ra rb
  refine wpAny_bind (wpAny_holding (PySem.W.list_sort_data (s := { s with heap := h'.push (PyProof.Rows.seqObj "list" acc.toList.toArray 0), toks := tk }) (β := D) (enc := id) (bs := kvs.map fun p => keyT p.1) (vs := acc.toList) hoL ra rb (by rw [List.map_id]; exact al) (by rw [List.map_id]; exact so) (by rw [List.length_map]; omega) (fun b hb => ?_) fun out hlen ho => ?_))
  · have := dp b hb
    have e1 : X.A.in1.units = X.A.units + 1 := rfl
    show X.A.in1.units + 1 + (PyData.depth b) < _
    omega
  · rw [leD_eq, ← isortD_merge] at ho
    obtain ⟨ys, hv, hr⟩ := each_rpa (K := X.K) _ ho
    obtain ⟨e', he'⟩ := PyProof.Rows.sortedHeap_at (vs := acc.toList) (out := List.toArray out) hoL
    have hlen2 : ys.length ≤ sizeLine := by
      rw [vals_len hv, hlen, List.length_map]; omega
    refine wpAny_pure ⟨_, rfl, .ref h'.objs.size, upd H h'.objs.size (.lst ys), I1.laid (t' := tk) (fun b u e => ?_) (Nat.le_refl _) (show ObjOk X.prog X.w _ _ _ (.lst ys) from ⟨hlen2, out, e', hv, he'⟩), rfl, q _ bs ys (I1.hok.fresh (Nat.le_refl _)) ik fun F hF => hr F (rpa_zip hF)⟩
    have hb : b < h'.objs.size := Heap.lt_size e
    rw [PyProof.Rows.sortedHeap_old (Nat.ne_of_lt hb) (by rw [PyProof.Rows.size_push']; exact Nat.lt_succ_of_lt hb)]
    exact Heap.get?_push_of_some _ e
end
theorem RpT.keys {K : PySem.W.Frag} {F : Hp} : ∀ {es : List (List Key × V)} {kvs : List (D × D)}, RpT K F es kvs → es.map (fun p => keyT p.1) = kvs.map (·.1)
  | _, _, .nil => rfl
  | _, _, .cons _ b => by simp [RpT.keys b]
end FX
set_option Elab.async false
set_option linter.all false
set_option maxRecDepth 100000
set_option maxHeartbeats 1000000
namespace FX
open PySem PySem.Spec L2
section
variable {Y : Sys} {X : Cx} {K : PySem.W.Frag} {W : WX} {e o : Expr} {pos p apos cpos : Pos} {ge : GE Y} {te : TE} {i j : Nat}
theorem me_pop1K (hK : X.K = K) (ho : PE X o (tVar i)) (he : ME Y X W e te ge) (hbase : attributeBase o "pop" X.env (eval o X.env) = eval o X.env := by rfl)
    (hfew : ((backTo cpos (starEach (e :: []) X.env)).all (fun x => !x.1) && (backToKw cpos (keywordEach [] X.env)).all (fun x => x.1.isSome) && decide ((e :: []).length + ([] : List Keyword).length + (if ([] : List Keyword).isEmpty then 0 else 1) < 30)) = true := by rfl)
    (hline : (apos.endLine == cpos.line) = true := by rfl) (hs : starEach (e :: []) X.env = (false, eval e X.env) :: starEach [] X.env := by rfl) (hplain : (backTo cpos (starEach [] X.env)).any (·.1) = false := by rfl) :
    ME Y X W (.Call (.Attribute o "pop" apos) [e] [] cpos) (tBM K "list" rPopAt (tVar i) (tCons te tNil)) (gPop1 i ge) := by
  subst hK
  exact me_pop1 ho he hbase hfew hline hs hplain
theorem AOk.goS {B : Hp} {w : Wo} {σ : St} {Γ : Ev} {s : Y.S} {D : Ends} {t : TA} {g : GA Y} (h : AOk Y K W t g) (Wh : Wd Y B w s) (N : EnvR K B w σ Γ) {k : List R → Ev → Y.S → Option (Fl × Ev × Y.S)} {out : Fl × Ev × Y.S} {Q : List V → Hp → Prop}
    (e : bdS g k Γ s = some out) (p : PoS Y K W B w D out)
    (c : ∀ rs Γ1 s1 xs w1, Wd Y B w1 s1 → EnvR K B w1 σ Γ1 → Le w w1 → RsA K B w1 σ Γ1 xs rs → k rs Γ1 s1 = some out → PoS Y K W B w1 D out → Q xs w1.H) : t σ w.H Q := by
  unfold bdS at e
  cases eg : g Γ s with
  | none => rw [eg] at e; cases e
  | some o =>
    obtain ⟨o, Γ1, s1⟩ := o
    rw [eg] at e
    cases o with
    | ok r => exact h B w σ Γ s _ Q Wh N eg fun w1 W1 N1 l x r1 => c r Γ1 s1 x w1 W1 N1 l r1 e (p.le l)
    | er z =>
      cases e
      exact h B w σ Γ s _ Q Wh N eg fun w1 W1 N1 l => p w1 σ W1 N1 l
end
end FX
set_option Elab.async false
set_option linter.all false
namespace FX
open PySem PySem.Spec L2
end FX
set_option Elab.async false
set_option linter.all false
set_option maxRecDepth 100000
set_option maxHeartbeats 1000000
namespace FX
open PySem PySem.Spec L2
end FX
set_option Elab.async false
set_option linter.all false
set_option maxRecDepth 100000
set_option maxHeartbeats 1000000
namespace FX
open PySem PySem.Spec L2
structure CeR (K : PySem.W.Frag) (sa : Addr) (ns : List Int) (s : List (List D)) (F : Hp) (et A : List Addr) (H : Hp) : Prop where
  len : et.length = s.length
  nd : et.Nodup
  at' : ∀ (k : Nat) (p : Addr) (ds : List D), et[k]? = some p → s[k]? = some ds → ∃ xs, H p = some (.lst xs) ∧ RpA K F xs ds
  n63 : ns.length ≤ 63
  sc : (A = sa :: et ∧ sa ∉ et ∧ Rd H sa (.lst (ns.map V.int))) ∨ (A = et ∧ ∀ G, SqL K G sa (ns.map V.int))
theorem CeR.sub {K : PySem.W.Frag} {sa : Addr} {ns : List Int} {s : List (List D)} {F : Hp} {et A : List Addr} {H : Hp} (h : CeR K sa ns s F et A H) {p : Addr} (hp : p ∈ et) : p ∈ A := by
  rcases h.sc with ⟨e, _, _⟩ | ⟨e, _⟩
  · rw [e]; exact List.mem_cons_of_mem _ hp
  · rw [e]; exact hp
theorem CeR.cell {K : PySem.W.Frag} {sa : Addr} {ns : List Int} {s : List (List D)} {F : Hp} {et A : List Addr} {H : Hp} (h : CeR K sa ns s F et A H) {p : Addr} (hp : p ∈ et) : ∃ xs, H p = some (.lst xs) := by
  obtain ⟨k, hk⟩ := List.getElem?_of_mem hp
  have hl := (List.getElem?_eq_some_iff.mp hk).1
  obtain ⟨xs, e, _⟩ := h.at' k p _ hk (List.getElem?_eq_getElem (by rw [← h.len]; exact hl))
  exact ⟨xs, e⟩
def ceSnoc (s : List (List D)) (ds : List D) : List (List D) := s ++ [ds]
theorem CeR.snoc {K : PySem.W.Frag} {sa : Addr} {ns : List Int} {s : List (List D)} {F : Hp} {et A : List Addr} {H : Hp} (rel : CeR K sa ns s F et A H) {q : Addr} {xs : List V} {ds : List D} (hq : H q = some (.lst xs)) (ra : RpA K F xs ds) (aq : q ∉ A) :
    CeR K sa ns (ceSnoc s ds) F (et ++ [q]) (A ++ [q]) H := by
  have qe : q ∉ et := fun z => aq (rel.sub z)
  unfold ceSnoc
  refine ⟨by simp [rel.len], List.nodup_append.mpr ⟨rel.nd, by simp, fun a ha b hb => ?_⟩, fun k p' ds' a b => ?_, rel.n63, ?_⟩
  · have : b = q := by simpa using hb
    subst this
    exact fun z => qe (by rw [← z]; exact ha)
  · by_cases hk : k < et.length
    · rw [List.getElem?_append_left hk] at a
      rw [List.getElem?_append_left (by rw [← rel.len]; exact hk)] at b
      exact rel.at' k p' ds' a b
    · rw [List.getElem?_append_right (by omega)] at a
      rw [List.getElem?_append_right (by rw [← rel.len]; omega)] at b
      have hz : k - et.length = 0 := by
        have := (List.getElem?_eq_some_iff.mp a).1
        simp at this; omega
      rw [hz] at a
      rw [← rel.len, hz] at b
      cases a; cases b
      exact ⟨xs, hq, ra⟩
  · rcases rel.sc with ⟨a, b, c⟩ | ⟨a, c⟩
    · refine .inl ⟨by rw [a]; rfl, fun z => ?_, c⟩
      rcases List.mem_append.mp z with z | z
      · exact b z
      · have : sa = q := by simpa using z
        subst this
        exact aq (by rw [a]; simp)
    · exact .inr ⟨by rw [a], c⟩
theorem CeR.put {K : PySem.W.Frag} {sa : Addr} {ns : List Int} {s : List (List D)} {F : Hp} {et A : List Addr} {H : Hp} (rel : CeR K sa ns s F et A H) {q : Addr} {k : Nat} {ys : List V} {ds es : List D} (hq : et[k]? = some q) (hs : s[k]? = some ds) (ra : RpA K F ys es) :
    CeR K sa ns (s.set k es) F et A (upd H q (.lst ys)) := by
  refine ⟨by rw [List.length_set]; exact rel.len, rel.nd, fun k' p' ds' a b => ?_, rel.n63, ?_⟩
  · by_cases hkk : k' = k
    · subst hkk
      rw [hq] at a; cases a
      have hl : k' < s.length := (List.getElem?_eq_some_iff.mp hs).1
      rw [List.getElem?_set_self hl] at b
      cases b
      exact ⟨ys, upd_same, ra⟩
    · rw [List.getElem?_set_ne (Ne.symm hkk)] at b
      have hne : p' ≠ q := fun z => by
        subst z
        obtain ⟨l1', e1'⟩ := List.getElem?_eq_some_iff.mp hq
        obtain ⟨l2', e2'⟩ := List.getElem?_eq_some_iff.mp a
        exact hkk ((List.getElem_inj rel.nd).mp (e2'.trans e1'.symm))
      rw [upd_ne hne]
      exact rel.at' k' p' ds' a b
  · rcases rel.sc with ⟨a, b, c⟩ | c
    · refine .inl ⟨a, b, ?_⟩
      have hne : sa ≠ q := fun z => b (by rw [z]; exact List.mem_of_getElem? hq)
      unfold Rd at c ⊢
      rw [upd_ne hne]; exact c
    · exact .inr c
end FX
set_option Elab.async false
set_option linter.all false
set_option maxRecDepth 100000
set_option maxHeartbeats 1000000
namespace FX
open PySem PySem.Spec L2
section
variable {sa : Addr} {ns : List Int} {X : Cx} {W : WX} {e o k : Expr} {pos p : Pos} {te tk : TE} {i : Nat} {K : PySem.W.Frag}
theorem rpa_ints {K : PySem.W.Frag} {F : Hp} : ∀ l : List Int, RpA K F (l.map V.int) (l.map PyData.int)
  | [] => .nil
  | a :: l => .cons (.int a) (rpa_ints l)
end
end FX
set_option Elab.async false
set_option linter.all false
set_option maxRecDepth 100000
set_option maxHeartbeats 1000000
namespace FX
open PySem PySem.Spec L2
end FX
set_option Elab.async false
set_option linter.all false
set_option maxRecDepth 100000
set_option maxHeartbeats 1000000
namespace FX
open PySem PySem.Spec L2
end FX
set_option Elab.async false
set_option linter.all false
set_option maxRecDepth 100000
set_option maxHeartbeats 4000000
namespace Cmb
open PySem PySem.Spec
open Sem (wp)
open PyProof.Rows
open L2
end Cmb
set_option Elab.async false
set_option linter.all false
set_option maxRecDepth 100000
set_option maxHeartbeats 1000000
namespace FX
open PySem PySem.Spec L2
end FX
set_option Elab.async false
set_option linter.all false
set_option maxRecDepth 100000
set_option maxHeartbeats 1000000
namespace FX
open PySem PySem.Spec L2
abbrev Tri := (Int × Int) × Option Int
def wV : Option Int → V
  | some i => .int i
  | none => .non
section
variable {prog : Program} {w : World} {A : Around} {s : Shared}
def IsTri (h : Heap) (v : Value) (t : Tri) : Prop := ∃ a o u1 u2 wv n, v = .ref a ∧ h.get? a = some o ∧ o.cls = .type "tuple" ∧ o.data = .seq #[.int t.1.1 u1, .int t.1.2 u2, wv] n ∧ RelV (wV t.2) wv
theorem IsTri.keeps {h h' : Heap} {v : Value} {t : Tri} (p : IsTri h v t) (k : ∀ b o, h.get? b = some o → o.cls = .type "tuple" → h'.get? b = some o) : IsTri h' v t := by
  obtain ⟨a, o, t, u, wv, n, e, ho, hc, hd⟩ := p
  exact ⟨a, o, t, u, wv, n, e, k _ _ ho hc, hc, hd⟩
end
end FX
set_option Elab.async false
set_option linter.all false
set_option maxRecDepth 100000
set_option maxHeartbeats 1000000
namespace FX
open PySem PySem.Spec L2
inductive It where
  | d (d : D) | h (k : Nat)
inductive Cell where
  | lst (ds : List D)
  | tup (its : List It)
  | lsh (its : List It)
  | dT (kvs : List (D × D))
  | ins (c : Str) (fs : List (Str × It))
def ItR (K : PySem.W.Frag) (F : Hp) (et : List Addr) (x : V) : It → Prop
  | .d d => Rp K F x d
  | .h k => ∃ p, et[k]? = some p ∧ x = .ref p
inductive ItA (K : PySem.W.Frag) (F : Hp) (et : List Addr) : List V → List It → Prop
  | nil : ItA K F et [] []
  | cons {x : V} {xs : List V} {i : It} {is : List It} : ItR K F et x i → ItA K F et xs is → ItA K F et (x :: xs) (i :: is)
def TabF (F H : Hp) (P : Addr) (q : Str) : Prop := ∃ ps : Array Value, H P = some (.tbl ps) ∧ TriplesOk ps.toList ∧ ∀ (pos : Pos) (cv : Value), codeAmong pos ps.toList = some cv → ∃ c, cv = .ref c ∧ F c = some (LamX.CodeO c q)
def CellR (K : PySem.W.Frag) (F : Hp) (et A : List Addr) (H : Hp) (p : Addr) : Cell → Prop
  | .lst ds => p ∈ A ∧ ∃ xs, H p = some (.lst xs) ∧ RpA K F xs ds
  | .tup its => ∃ xs, F p = some (.tup xs) ∧ ItA K F et xs its
  | .lsh its => p ∈ A ∧ ∃ xs, H p = some (.lst xs) ∧ ItA K F et xs its
  | .dT kvs => p ∈ A ∧ ∃ es, H p = some (.dT es) ∧ RpT K F es kvs
  | .ins c fs => p ∈ A ∧ ∃ (C dx : Addr) (es : List (Str × V)), Cn K c (.ref C) ∧ H p = some (.ins C dx es) ∧ H dx = some (.own p) ∧ dx ∈ A ∧ es.map (·.1) = fs.map (·.1) ∧ ItA K F et (es.map (·.2)) (fs.map (·.2))
section
variable {K : PySem.W.Frag} {F F' : Hp} {et et' A : List Addr} {H H' : Hp}
theorem ItR.mono (f : Same F F') (e : ∃ m, et' = et ++ m) {x : V} : ∀ {i : It}, ItR K F et x i → ItR K F' et' x i
  | .d _, h => Rp.mono f h
  | .h k, ⟨p, a, b⟩ => by
    obtain ⟨m, rfl⟩ := e
    refine ⟨p, ?_, b⟩
    rw [List.getElem?_append_left (List.getElem?_eq_some_iff.mp a).1]
    exact a
theorem ItA.mono (f : Same F F') (e : ∃ m, et' = et ++ m) : ∀ {xs : List V} {is : List It}, ItA K F et xs is → ItA K F' et' xs is
  | _, _, .nil => .nil
  | _, _, .cons a b => .cons (a.mono f e) (b.mono f e)
theorem ItA.length : ∀ {xs : List V} {is : List It}, ItA K F et xs is → xs.length = is.length
  | _, _, .nil => rfl
  | _, _, .cons _ b => by simp [b.length]
theorem ItA.get : ∀ {xs : List V} {is : List It} {n : Nat} {i : It}, ItA K F et xs is → is[n]? = some i → ∃ x, xs[n]? = some x ∧ ItR K F et x i
  | _, _, _, _, .nil, e => by simp at e
  | _, _, 0, _, .cons a _, e => by simp at e; subst e; exact ⟨_, rfl, a⟩
  | _, _, n + 1, _, .cons _ b, e => by
    obtain ⟨x, h1, h2⟩ := b.get (n := n) (by simpa using e)
    exact ⟨x, by simpa using h1, h2⟩
theorem TabF.mono {P : Addr} {q : Str} (h : TabF F H P q) (f : Same F F') (e : H' P = H P) : TabF F' H' P q := by
  obtain ⟨ps, a, b, c⟩ := h
  refine ⟨ps, e.trans a, b, fun pos cv hc => ?_⟩
  obtain ⟨c', d, g⟩ := c pos cv hc
  exact ⟨c', d, f _ _ g⟩
theorem CellR.mono (f : Same F F') (e : ∃ m, et' = et ++ m) {A' : List Addr} (hA : ∀ p ∈ A, p ∈ A') (hH : ∀ p ∈ A, H' p = H p) {p : Addr} : ∀ {c : Cell}, CellR K F et A H p c → CellR K F' et' A' H' p c
  | .lst _, ⟨a, xs, b, c⟩ => ⟨hA _ a, xs, (hH _ a).trans b, c.mono f⟩
  | .tup _, ⟨xs, b, c⟩ => ⟨xs, f _ _ b, c.mono f e⟩
  | .lsh _, ⟨a, xs, b, c⟩ => ⟨hA _ a, xs, (hH _ a).trans b, c.mono f e⟩
  | .dT _, ⟨a, xs, b, c⟩ => ⟨hA _ a, xs, (hH _ a).trans b, c.mono f⟩
  | .ins _ _, ⟨a, C, dx, es, b, c, d, g, h, i⟩ => ⟨hA _ a, C, dx, es, b, (hH _ a).trans c, (hH _ g).trans d, hA _ g, h, i.mono f e⟩
end
structure ClR (K : PySem.W.Frag) (sa : Addr) (ns : List Int) (T : List (Addr × Str)) (s : List Cell) (F : Hp) (et A : List Addr) (H : Hp) : Prop where
  len : et.length = s.length
  nd : et.Nodup
  at' : ∀ (k : Nat) (p : Addr) (c : Cell), et[k]? = some p → s[k]? = some c → CellR K F et A H p c
  av : ∀ p ∈ A, H p ≠ none ∧ ∀ xs, H p ≠ some (.tup xs)
  n63 : ns.length ≤ 63
  sc : (sa ∈ A ∧ sa ∉ et ∧ Rd H sa (.lst (ns.map V.int))) ∨ (∀ G, SqL K G sa (ns.map V.int))
  tb : ∀ q ∈ T, q.1 ∈ A ∧ TabF F H q.1 q.2
def ClY (K : PySem.W.Frag) (sa : Addr) (ns : List Int) (T : List (Addr × Str)) : Sys where
  S := List Cell
  rel := ClR K sa ns T
  frame := fun {s F F' et A H H'} h f e => by
    refine ⟨h.len, h.nd, fun k p c a b => (h.at' k p c a b).mono f ⟨[], by simp⟩ (fun _ h => h) e, fun p hp => by rw [e p hp]; exact h.av p hp, h.n63, ?_, fun q hq => ⟨(h.tb q hq).1, (h.tb q hq).2.mono f (e _ (h.tb q hq).1)⟩⟩
    rcases h.sc with ⟨a, b, c⟩ | c
    · refine .inl ⟨a, b, ?_⟩
      unfold Rd at c ⊢
      rw [e sa a]; exact c
    · exact .inr c
  live := fun {s F et A H} h p hp => (h.av p hp).1
  notup := fun {s F et A H} h p hp => (h.av p hp).2
section
variable {K : PySem.W.Frag} {sa : Addr} {ns : List Int} {T : List (Addr × Str)} {s : List Cell} {F : Hp} {et A : List Addr} {H : Hp}
theorem cl_script (h : (ClY K sa ns T).rel s F et A H) : SqL K H sa (ns.map V.int) := by
  rcases h.sc with ⟨_, _, c⟩ | c
  · exact .inl c
  · exact c H
theorem ClR.snoc (rel : ClR K sa ns T s F et A H) {q : Addr} {c : Cell} {B : List Addr} (hq : q ∉ et) (hB : ∀ p ∈ B, H p ≠ none ∧ ∀ xs, H p ≠ some (.tup xs)) (hs : q ≠ sa ∨ ∀ G, SqL K G sa (ns.map V.int)) (hc : CellR K F (et ++ [q]) (A ++ B) H q c) :
    ClR K sa ns T (s ++ [c]) F (et ++ [q]) (A ++ B) H := by
  refine ⟨by simp [rel.len], List.nodup_append.mpr ⟨rel.nd, by simp, fun a ha b hb => ?_⟩, fun k p' c' a b => ?_, fun p hp => ?_, rel.n63, ?_, fun q hq => ⟨List.mem_append_left _ (rel.tb q hq).1, (rel.tb q hq).2⟩⟩
  · have : b = q := by simpa using hb
    subst this
    exact fun z => hq (by rw [← z]; exact ha)
  · by_cases hk : k < et.length
    · rw [List.getElem?_append_left hk] at a
      rw [List.getElem?_append_left (by rw [← rel.len]; exact hk)] at b
      exact (rel.at' k p' c' a b).mono (Same.refl _) ⟨[q], rfl⟩ (fun _ h => List.mem_append_left _ h) fun _ _ => rfl
    · rw [List.getElem?_append_right (by omega)] at a
      rw [List.getElem?_append_right (by rw [← rel.len]; omega)] at b
      have hz : k - et.length = 0 := by
        have := (List.getElem?_eq_some_iff.mp a).1
        simp at this; omega
      rw [hz] at a
      rw [← rel.len, hz] at b
      cases a; cases b
      exact hc
  · rcases List.mem_append.mp hp with h | h
    · exact rel.av p h
    · exact hB p h
  · rcases hs with hs | hs
    · rcases rel.sc with ⟨a, b, c⟩ | c
      · refine .inl ⟨List.mem_append_left _ a, fun z => ?_, c⟩
        rcases List.mem_append.mp z with z | z
        · exact b z
        · have : sa = q := by simpa using z
          exact hs this.symm
      · exact .inr c
    · exact .inr hs
theorem ClR.put (rel : ClR K sa ns T s F et A H) {q : Addr} {k : Nat} {c c' : Cell} {o : HO} (hq : et[k]? = some q) (hs : s[k]? = some c) (hA : q ∈ A) (ho : ∀ xs, o ≠ .tup xs) (hn : ∀ p, H q ≠ some (.own p)) (hT : ∀ ps, H q ≠ some (.tbl ps))
    (hc : CellR K F et A (upd H q o) q c') : ClR K sa ns T (s.set k c') F et A (upd H q o) := by
  refine ⟨by rw [List.length_set]; exact rel.len, rel.nd, fun k' p' c2 a b => ?_, fun p hp => ?_, rel.n63, ?_, fun t ht => ⟨(rel.tb t ht).1, ?_⟩⟩
  · by_cases hkk : k' = k
    · subst hkk
      rw [hq] at a; cases a
      have hl : k' < s.length := (List.getElem?_eq_some_iff.mp hs).1
      rw [List.getElem?_set_self hl] at b
      cases b
      exact hc
    · rw [List.getElem?_set_ne (Ne.symm hkk)] at b
      have hne : p' ≠ q := fun z => by
        subst z
        obtain ⟨l1', e1'⟩ := List.getElem?_eq_some_iff.mp hq
        obtain ⟨l2', e2'⟩ := List.getElem?_eq_some_iff.mp a
        exact hkk ((List.getElem_inj rel.nd).mp (e2'.trans e1'.symm))
      have h := rel.at' k' p' c2 a b
      cases c2 with
      | lst ds => obtain ⟨m, xs, x1, x2⟩ := h; exact ⟨m, xs, (upd_ne hne).trans x1, x2⟩
      | tup its => exact h
      | lsh its => obtain ⟨m, xs, x1, x2⟩ := h; exact ⟨m, xs, (upd_ne hne).trans x1, x2⟩
      | dT kvs => obtain ⟨m, xs, x1, x2⟩ := h; exact ⟨m, xs, (upd_ne hne).trans x1, x2⟩
      | ins n fs =>
        obtain ⟨m, C, dx, es, x1, x2, x3, x4, x5, x6⟩ := h
        exact ⟨m, C, dx, es, x1, (upd_ne hne).trans x2, (upd_ne fun z => by subst z; exact hn _ x3).trans x3, x4, x5, x6⟩
  · by_cases z : p = q
    · subst z; rw [upd_same]; exact ⟨(fun z => nomatch z), fun xs z => ho xs (Option.some.inj z)⟩
    · rw [upd_ne z]; exact rel.av p hp
  · rcases rel.sc with ⟨a, b, c⟩ | c
    · refine .inl ⟨a, b, ?_⟩
      have hne : sa ≠ q := fun z => b (by rw [z]; exact List.mem_of_getElem? hq)
      unfold Rd at c ⊢
      rw [upd_ne hne]; exact c
    · exact .inr c
  · obtain ⟨ps, x1, x2, x3⟩ := (rel.tb t ht).2
    exact ⟨ps, (upd_ne fun z => by rw [z] at x1; exact hT _ x1).trans x1, x2, x3⟩
theorem cl_start (h : SqL K H sa (ns.map V.int)) (hn : ns.length ≤ 63) :
    ∃ w : Wo, w.H = H ∧ w.F = (fun _ => none) ∧ w.et = [] ∧ Wd (ClY K sa ns []) (fun _ => none) w [] := by
  have ne : ∀ {u : List V}, Rd H sa (.lst u) → H sa ≠ none ∧ ∀ xs, H sa ≠ some (.tup xs) := fun {u} h => by
    rcases h with h | ⟨o, h⟩
    · rw [h]; exact ⟨fun z => (nomatch z), fun ys z => nomatch z⟩
    · rw [h]; exact ⟨fun z => (nomatch z), fun ys z => nomatch z⟩
  rcases h with h | h
  · exact ⟨⟨fun _ => none, [sa], [], H⟩, rfl, rfl, rfl, ⟨(fun p o e => nomatch e), (fun p o e => nomatch e), (fun p o e => nomatch e), (fun p _ => ⟨rfl, rfl⟩), ⟨rfl, .nil, (fun k p c a => by simp at a), (fun p hp => by
      rw [List.mem_singleton.mp hp]; exact ne h), hn, .inl ⟨by simp, by simp, h⟩, fun q hq => nomatch hq⟩⟩⟩
  · exact ⟨⟨fun _ => none, [], [], H⟩, rfl, rfl, rfl, ⟨(fun p o e => nomatch e), (fun p o e => nomatch e), (fun p o e => nomatch e), (fun p _ => ⟨rfl, rfl⟩), ⟨rfl, .nil, (fun k p c a => by simp at a), (fun p hp => nomatch hp), hn, .inr fun G => .inr h, fun q hq => nomatch hq⟩⟩⟩
end
end FX
set_option Elab.async false
set_option linter.all false
set_option maxRecDepth 100000
set_option maxHeartbeats 1000000
namespace FX
open PySem PySem.Spec L2
section
variable {K : PySem.W.Frag} {sa : Addr} {ns : List Int} {T : List (Addr × Str)} {s : List Cell} {F : Hp} {et A : List Addr} {H : Hp} {W : WX} {B : Hp} {w : Wo} {σ : St} {Γ : Ev}
theorem ClR.off (rel : ClR K sa ns T s F et A H) {q : Addr} (fq : F q = none) (aq : q ∉ A) : q ∉ et := fun z => by
  obtain ⟨k, hk⟩ := List.getElem?_of_mem z
  have hl := (List.getElem?_eq_some_iff.mp hk).1
  have h := rel.at' k q _ hk (List.getElem?_eq_getElem (by rw [← rel.len]; exact hl))
  generalize s[k]'(by rw [← rel.len]; exact hl) = c at h
  cases c with
  | lst ds => exact aq h.1
  | tup its => obtain ⟨xs, x1, _⟩ := h; rw [fq] at x1; cases x1
  | lsh its => exact aq h.1
  | dT kvs => exact aq h.1
  | ins n fs => exact aq h.1
def clSnoc (s : List Cell) (c : Cell) : List Cell := s ++ [c]
theorem EnvR.grow (N : EnvR K B w σ Γ) {m E : List Addr} (h : ∀ (i : Nat) (d : D) (q : Addr), Γ[i]? = some (some (R.o d)) → σ[i]? = some (some (V.ref q)) → q ∉ m) : EnvR K B { w with A := w.A ++ m, et := w.et ++ E } σ Γ := ⟨N.len, fun j r hj => by
  obtain ⟨y, a, b⟩ := N.sl j r hj
  refine ⟨y, a, ?_⟩
  cases r with
  | v d => exact b
  | o d =>
    obtain ⟨p', rfl, own, f', b', a'⟩ := b
    refine ⟨p', rfl, own, f', b', fun z => ?_⟩
    rcases List.mem_append.mp z with z | z
    · exact a' z
    · exact h j d p' hj a z
  | h k =>
    obtain ⟨p', e', z⟩ := b
    refine ⟨p', ?_, z⟩
    show (w.et ++ E)[k]? = _
    rw [List.getElem?_append_left (List.getElem?_eq_some_iff.mp e').1]
    exact e'
  | raw y => exact b
  | e y => exact b
  | b k => exact b, N.inj⟩
def gCell (g : GE (ClY K sa ns T)) : GE (ClY K sa ns T) := bd g fun r Γ (s : List Cell) => match r with
  | .o (.list ds) => some (.ok (.h s.length), Γ, (clSnoc s (Cell.lst ds)))
  | .o (.dict kvs) => some (.ok (.h s.length), Γ, (clSnoc s (Cell.dT kvs)))
  | _ => none
theorem own_cell {s1 : List Cell} {w1 : Wo} (W1 : Wd (ClY K sa ns T) B w1 s1) (N1 : EnvR K B w1 σ Γ) {q : Addr} {c : Cell} (lv : w1.H q ≠ none) (hn : ∀ xs, w1.H q ≠ some (.tup xs)) (fq : w1.F q = none) (bq : B q = none) (aq : q ∉ w1.A) (oth : ∀ (i : Nat) (e : D), Γ[i]? = some (some (R.o e)) → σ[i]? ≠ some (some (V.ref q)))
    (hc : CellR K w1.F (w1.et ++ [q]) (w1.A ++ [q]) w1.H q c) (hq : q ∉ w1.et) :
    ∃ w2 : Wo, w2.H = w1.H ∧ w2.et[s1.length]? = some q ∧ Wd (ClY K sa ns T) B w2 (clSnoc s1 c) ∧ EnvR K B w2 σ Γ ∧ Le w1 w2 := by
  have rel : ClR K sa ns T s1 w1.F w1.et w1.A w1.H := W1.rel
  have hsa : q ≠ sa ∨ ∀ G, SqL K G sa (ns.map V.int) := by
    rcases rel.sc with ⟨a, _, _⟩ | c
    · exact .inl fun z => aq (by rw [z]; exact a)
    · exact .inr c
  refine ⟨{ w1 with A := w1.A ++ [q], et := w1.et ++ [q] }, rfl, ?_, ⟨W1.sF, W1.sB, W1.dj, fun p' hp' => ?_, rel.snoc hq (fun p hp => by rw [List.mem_singleton.mp hp]; exact ⟨lv, hn⟩) hsa hc⟩, N1.grow fun i d q' hi hs z => ?_, ⟨Same.refl _, [q], rfl⟩⟩
  · show (w1.et ++ [q])[s1.length]? = _
    rw [← rel.len, List.getElem?_append_right (Nat.le_refl _)]
    simp
  · rcases List.mem_append.mp hp' with z | z
    · exact W1.dA p' z
    · rw [List.mem_singleton.mp z]; exact ⟨fq, bq⟩
  · rw [List.mem_singleton.mp z] at hs
    exact oth i d hi hs
theorem eok_cell {te : TE} {g : GE (ClY K sa ns T)} (he : EOk (ClY K sa ns T) K W te g) : EOk (ClY K sa ns T) K W te (gCell g) := by
  intro B w σ Γ s out Q Wh N e p
  refine he.go (Q := Q) Wh N e p fun r Γ1 s1 x w1 W1 N1 l1 R1 e1 p1 => ?_
  have rel : ClR K sa ns T s1 w1.F w1.et w1.A w1.H := W1.rel
  split at e1
  · rename_i ds
    cases e1
    obtain ⟨⟨q, rfl, ⟨xs, hq, ra⟩, fq, bq, aq⟩, oth⟩ := R1
    have qe : q ∉ w1.et := rel.off fq aq
    obtain ⟨w2, e1, e2, W2, N2, l2⟩ := own_cell W1 N1 (c := .lst ds) (by rw [hq]; exact fun z => nomatch z) (fun xs z => by rw [hq] at z; cases z) fq bq aq oth ⟨by simp, xs, hq, ra⟩ qe
    have := p1 w2 W2 N2 l2 (V.ref q) ⟨q, e2, rfl⟩
    rw [e1] at this
    exact this
  · rename_i kvs
    cases e1
    obtain ⟨⟨q, rfl, ⟨xs, hq, ra⟩, fq, bq, aq⟩, oth⟩ := R1
    have qe : q ∉ w1.et := rel.off fq aq
    obtain ⟨w2, e1, e2, W2, N2, l2⟩ := own_cell W1 N1 (c := .dT kvs) (by rw [hq]; exact fun z => nomatch z) (fun xs z => by rw [hq] at z; cases z) fq bq aq oth ⟨by simp, xs, hq, ra⟩ qe
    have := p1 w2 W2 N2 l2 (V.ref q) ⟨q, e2, rfl⟩
    rw [e1] at this
    exact this
  · cases e1
def gIxC (i : Nat) (gk : GE (ClY K sa ns T)) : GE (ClY K sa ns T) := fun Γ s => match Γ[i]? with
  | some (some (.h _)) => bd gk (fun rk Γ (s : List Cell) => match rdv Γ rk, Γ[i]? with
    | some (.int j), some (some (.h k)) => match s[k]? with
      | some (.lst ds) => match atI ds j with
        | some d => some (.ok (.v d), Γ, s)
        | none => none
      | _ => none
    | _, _ => none) Γ s
  | _ => none
theorem eok_ixC {tk : TE} {i : Nat} {gk : GE (ClY K sa ns T)} (hk : EOk (ClY K sa ns T) K W tk gk) : EOk (ClY K sa ns T) K W (tOp (rIx K) (tVar i) tk) (gIxC i gk) := by
  intro B w σ Γ s out Q Wh N e p
  unfold gIxC at e
  split at e
  · rename_i k0 hi0
    obtain ⟨x, hx, _⟩ := N.sl i _ hi0
    refine ⟨x, hx, ?_⟩
    refine hk.go (Q := fun y H2 => rIx K x y H2 Q) Wh N e p fun rk Γ1 s1 y w1 W1 N1 l1 R1 e1 p1 => ?_
    split at e1
    · rename_i j k ek hi
      split at e1
      · rename_i ds hs
        split at e1
        · rename_i d hd
          cases e1
          obtain ⟨x', hx', q, hq, rfl⟩ := N1.sl i _ hi
          rw [hx] at hx'; cases hx'
          obtain ⟨_, xs, hH, ra⟩ := (show ClR K sa ns T s1 w1.F w1.et w1.A w1.H from W1.rel).at' k q _ hq hs
          cases sh_int (sh_of W1 N1 R1 ek)
          obtain ⟨v, hv, rv⟩ := rpa_atI ra hd
          exact .inl ⟨q, xs, j, v, rfl, rfl, .of hH, hv, p1 w1 W1 N1 (.refl _) v rv⟩
        · cases e1
      · cases e1
    · cases e1
  · cases e
theorem cell_write {s2 : List Cell} {w2 : Wo} (W2 : Wd (ClY K sa ns T) B w2 s2) (N2 : EnvR K B w2 σ Γ) {q : Addr} {k : Nat} {c c' : Cell} {o : HO} (hq : w2.et[k]? = some q) (hs : s2[k]? = some c) (hA : q ∈ w2.A) (ho : ∀ xs, o ≠ .tup xs) (hn : ∀ p, w2.H q ≠ some (.own p)) (hT : ∀ ps, w2.H q ≠ some (.tbl ps))
    (hc : CellR K w2.F w2.et w2.A (upd w2.H q o) q c') : Wd (ClY K sa ns T) B { w2 with H := upd w2.H q o } (@List.set Cell s2 k c') ∧ EnvR K B { w2 with H := upd w2.H q o } σ Γ := by
  have rel : ClR K sa ns T s2 w2.F w2.et w2.A w2.H := W2.rel
  have ag : ∀ p', p' ∉ w2.A → upd w2.H q o p' = w2.H p' := fun p' hp' => upd_ne fun z => hp' (by rw [z]; exact hA)
  refine ⟨⟨fun p' o e' => ?_, fun p' o e' => ?_, W2.dj, W2.dA, rel.put hq hs hA ho hn hT hc⟩, ⟨N2.len, fun j' r' hj' => ?_, N2.inj⟩⟩
  · show upd _ _ _ p' = some o
    rw [ag p' fun z => by rw [(W2.dA p' z).1] at e'; cases e']
    exact W2.sF p' o e'
  · show upd _ _ _ p' = some o
    rw [ag p' fun z => by rw [(W2.dA p' z).2] at e'; cases e']
    exact W2.sB p' o e'
  · obtain ⟨y, a, b⟩ := N2.sl j' r' hj'
    refine ⟨y, a, ?_⟩
    cases r' with
    | v d => exact b
    | o d =>
      obtain ⟨p', rfl, own, f', b', a'⟩ := b
      exact ⟨p', rfl, own.move (Same.refl _) (ag p' a'), f', b', a'⟩
    | h k => exact b
    | raw y => exact b
    | e y => exact b
    | b k => exact b
def sPutC (i : Nat) (gk ge : GE (ClY K sa ns T)) : GS (ClY K sa ns T) := fun Γ s => match Γ[i]? with
  | some (some (.h _)) => bdS (gEsc ge) (fun r => bdS gk fun rk Γ (s : List Cell) => match r, rdv Γ rk, Γ[i]? with
    | .v d, some (.int j), some (some (.h k)) => match s[k]? with
      | some (.lst ds) => match ixN ds.length j with
        | some n => some (.nx, Γ, (s.set k (.lst (ds.set n d)) : List Cell))
        | none => none
      | _ => none
    | _, _, _ => none) Γ s
  | _ => none
theorem sok_putC {tk te : TE} {i : Nat} {gk ge : GE (ClY K sa ns T)} (he : EOk (ClY K sa ns T) K W te ge) (hk : EOk (ClY K sa ns T) K W tk gk) : SOk (ClY K sa ns T) K W (tAsg te (gSub (tVar i) tk rSetL)) (sPutC i gk ge) := by
  intro B w σ Γ s out Dn Wh N e p
  unfold sPutC at e
  split at e
  · rename_i k0 hi0
    obtain ⟨y, hx, _⟩ := N.sl i _ hi0
    refine (eok_esc he).goS (Q := fun x H1 => gSub (tVar i) tk rSetL x σ H1 Dn.nx) Wh N e p fun r Γ1 s1 x w1 W1 N1 l1 R1 e1 p1 => ?_
    obtain ⟨B2, sB, W1b, N1b, kp, kq⟩ := keep W1 N1 R1
    clear kq
    refine ⟨_, hx, ?_⟩
    refine hk.goS (Q := fun z H3 => rSetL y z x H3 fun H4 => Dn.nx σ H4) W1b N1b e1 (p1.strong sB) fun rk Γ2 s2 z w2 W2 N2 l2 R2 e2 p2 => ?_
    have R1' := kp W2 N2 l2
    split at e2
    · rename_i d j k ek hi
      split at e2
      · rename_i ds hs
        split at e2
        · rename_i n hn
          cases e2
          have N2' := N2.weak sB
          have W2' := W2.weak sB
          obtain ⟨y', hx', q, hq, rfl⟩ := N2'.sl i _ hi
          rw [hx] at hx'; cases hx'
          have rel : ClR K sa ns T s2 w2.F w2.et w2.A w2.H := W2'.rel
          obtain ⟨qA, xs, hH, ra⟩ := rel.at' k q _ hq hs
          cases sh_int (sh_of W2 N2 R2 ek)
          refine ⟨q, xs, j, n, rfl, rfl, hH, by rw [ra.length]; exact hn, ?_⟩
          obtain ⟨W3, N3⟩ := cell_write W2' N2' (c' := .lst (ds.set n d)) (o := .lst (xs.set n x)) hq hs qA (fun _ z => nomatch z) (fun _ z => by rw [hH] at z; cases z) (fun _ z => by rw [hH] at z; cases z) ⟨qA, _, upd_same, ra.set n R1'⟩
          exact p1 _ σ W3 N3 ⟨l2.F, l2.et⟩
        · cases e2
      · cases e2
    · cases e2
  · cases e
end
end FX
set_option Elab.async false
set_option linter.all false
set_option maxRecDepth 100000
set_option maxHeartbeats 1000000
namespace FX
open PySem PySem.Spec L2
def spLaw (K : PySem.W.Frag) : Sp := fun vs H Q _ => ∃ (a : Addr) (ns : List Int), vs = [.ref a] ∧ SqL K H a (ns.map V.int) ∧ ns.length ≤ 63 ∧ ∀ H', Q (.bl true) H'
end FX
set_option Elab.async false
set_option linter.all false
set_option maxRecDepth 100000
set_option maxHeartbeats 1000000
namespace FX
open PySem PySem.Spec L2
def Y0 : Sys where
  S := Unit
  rel := fun _ _ _ A _ => A = []
  frame := fun h _ _ => h
  live := fun h p hp => by rw [h] at hp; cases hp
  notup := fun h p hp => by rw [h] at hp; cases hp
end FX
set_option Elab.async false
set_option linter.all false
set_option maxRecDepth 100000
set_option maxHeartbeats 1000000
namespace FX
open PySem PySem.Spec L2
section
variable {sa : Addr} {ns : List Int} {T : List (Addr × Str)} {X : Cx} {W : WX} {e o k : Expr} {es : List Expr} {pos p p2 apos cpos : Pos} {te tk : TE} {i : Nat} {K : PySem.W.Frag}
theorem me_cellK {g : GE (ClY K sa ns T)} (hK : X.K = K) (he : ME (ClY K sa ns T) X W e te g) : ME (ClY K sa ns T) X W e te (gCell g) := by
  subst hK
  exact ⟨he.pe, eok_cell he.ok⟩
theorem me_ixCK {gk : GE (ClY K sa ns T)} (hK : X.K = K) (ho : PE X o (tVar i)) (hk : ME (ClY K sa ns T) X W k tk gk) (hs : PlainIx k) : ME (ClY K sa ns T) X W (.Subscript o k pos) (tOp (rIx K) (tVar i) tk) (gIxC i gk) := by
  subst hK
  exact ⟨pe_ix ix_seq ho hk.pe hs, eok_ixC hk.ok⟩
theorem ms_putCK {gk ge : GE (ClY K sa ns T)} (hK : X.K = K) (ho : PE X o (tVar i)) (hk : ME (ClY K sa ns T) X W k tk gk) (he : ME (ClY K sa ns T) X W e te ge)
    (ha : ∀ v, assign (.Subscript o k p) X.env v = (do
      let ov ← holding [v] (eval o X.env)
      let iv ← holding [v, ov] (eval k X.env)
      standAt p
      holding [v, ov, iv] (setItem ov iv v)
      release [v, ov, iv] []) := by intro _; rfl)
    (hs : swapsWithSole [.Subscript o k p] e pos.line X.env = pure false := by rfl) (hw : swappedStores [.Subscript o k p] e X.env = pure none := by rfl)
    (h1 : (assignEach [.Subscript o k p] X.env).map (·.2) = [assign (.Subscript o k p) X.env] := by rfl) :
    MS (ClY K sa ns T) X W (.Assign [.Subscript o k p] e pos) (tAsg te (gSub (tVar i) tk rSetL)) (sPutC i gk ge) := by
  subst hK
  exact ⟨ps_asg he.pe (pg_sub ho hk.pe set_list ha) hs hw h1, sok_putC he.ok hk.ok⟩
end
section
variable {P : Program} {w : World} {K : PySem.W.Frag} {mg : Str → Option Value} {base : Heap} {CX : CXT} {k : Nat} {f : Addr} {fd : FuncData} {ps : List Str}
theorem law_spL {m : ∀ (sa : Addr) (ns : List Int), Fm (ClY K sa ns [])} (hm : ∀ (sa : Addr) (ns : List Int), ns.length ≤ 63 → ∃ s', m sa ns [.raw (.ref sa)] ([] : List Cell) = some (.ok (.v (.bool true)), s'))
    {vs : List V} {H : Hp} {Q : VK} {E : XK} (h : spLaw K vs H Q E) : ∃ sa ns, spM (ClY K sa ns []) K 1 (m sa ns) vs H Q E := by
  obtain ⟨a, ns, rfl, hS, hn, hQ⟩ := h
  obtain ⟨wo, e1, e2, e3, W⟩ := cl_start hS hn
  obtain ⟨s', em⟩ := hm a ns hn
  refine ⟨a, ns, fun _ => none, wo, [.raw (.ref a)], ([] : List Cell), (.ok (.v (.bool true)), s'), e1, W, .cons rfl rfl .nil, rfl, em, fun w' x W' hx l => ?_⟩
  have hx' : Rp K w'.F x (.bool true) := hx
  cases hx'
  exact hQ _
theorem law_ofML {m : ∀ (sa : Addr) (ns : List Int), Fm (ClY K sa ns [])} (hm : ∀ (sa : Addr) (ns : List Int), ns.length ≤ 63 → ∃ s', m sa ns [.raw (.ref sa)] ([] : List Cell) = some (.ok (.v (.bool true)), s'))
    (hp : ps.length = 1) (F : ∀ (sa : Addr) (ns : List Int), FnOk P w K mg base CX k f fd ps (spM (ClY K sa ns []) K 1 (m sa ns))) : FnOk P w K mg base CX k f fd ps (spLaw K) :=
  ⟨fun vs H Q E h => by obtain ⟨a, ns, rfl, _⟩ := h; exact hp.symm, fun A outer s H args us vs Q E hr e0 hb r h => by
    obtain ⟨sa, ns, h2⟩ := law_spL hm h
    exact (F sa ns).run A outer s H args us vs Q E hr e0 hb r h2⟩
end
end FX
set_option Elab.async false
set_option linter.all false
set_option maxRecDepth 100000
set_option maxHeartbeats 1000000
namespace FX
open PySem PySem.Spec L2
end FX
set_option Elab.async false
set_option linter.all false
set_option maxRecDepth 100000
set_option maxHeartbeats 1000000
namespace FX
open PySem PySem.Spec L2
end FX
set_option Elab.async false
set_option linter.all false
set_option maxRecDepth 100000
set_option maxHeartbeats 1000000
namespace FX
open PySem PySem.Spec L2
end FX
set_option Elab.async false
set_option linter.all false
set_option maxRecDepth 100000
set_option maxHeartbeats 1000000
namespace FX
open PySem PySem.Spec L2
structure TabAt (K : PySem.W.Frag) (h : Heap) (fd : FuncData) (c p : Addr) : Prop where
  code : fd.code = .ref c
  out : K.lookup p = none
  at' : h.get? p = some { cls := .none, data := .fields #[] }
  hd : PySem.W.CodeHd h c p
end FX
set_option Elab.async false
set_option linter.all false
set_option maxRecDepth 100000
set_option maxHeartbeats 1000000
namespace FX
open PySem PySem.Spec L2
def isTr : D → Bool
  | .bool true => true
  | _ => false
def tbB (kvs : List (D × D)) : Bool := !kvs.isEmpty && kvs.all fun p => isTr p.2
theorem tb_of {K : PySem.W.Frag} {F : Hp} : ∀ {es : List (List Key × V)} {kvs : List (D × D)}, RpT K F es kvs → (kvs.all fun p => isTr p.2) = true → ∃ ks, es = tbV ks ∧ kvs = tbD ks
  | _, _, .nil, _ => ⟨[], rfl, rfl⟩
  | _, _, .cons (k := k) (d := d) a b, h => by
    rw [List.all_cons, Bool.and_eq_true] at h
    obtain ⟨ks, e1, e2⟩ := tb_of b h.2
    obtain ⟨h1, _⟩ := h
    unfold isTr at h1
    simp only at h1
    split at h1
    · cases a
      exact ⟨k :: ks, by rw [e1]; rfl, by rw [e2]; rfl⟩
    · cases h1
def tFz (t : TE) : TE := fun σ H Q => t σ H fun x H1 => Q x H1 ∨ ∃ d es, x = .ref d ∧ H1 d = some (.dT es) ∧ ∀ od, Q x (upd H1 d (.frz od (.dT es)))
theorem pe_fz {X : Cx} {e : Expr} {t : TE} (h : PE X e t) : PE X e (tFz t) := by
  refine ⟨fun pins st σ0 H0 Q J hw => ?_⟩
  refine thn (h.run pins st σ0 H0 _ J hw) fun v s1 ⟨x, H1, J2, rv, q⟩ => ?_
  rcases q with q | ⟨d, es, rfl, hd, q⟩
  · exact ⟨x, H1, J2, rv, q⟩
  · obtain ⟨od, J3⟩ := J2.lock hd (show Mut (some (HO.dT es)) from True.intro)
    exact ⟨_, _, J3, rv, q od⟩
section
variable {Y : Sys} {K : PySem.W.Frag} {W : WX} {B : Hp} {w : Wo} {σ : St} {Γ : Ev} {s : Y.S}
theorem Wd.fzL (Wh : Wd Y B w s) {p : Addr} {o : HO} (bp : B p = none) (ap : p ∉ w.A) (fp : w.F p = none) : Wd Y B { w with F := upd w.F p o, H := upd w.H p o } s := by
  refine ⟨fun q u e => ?_, fun q u e => ?_, fun q u e => ?_, fun q hq => ?_, Y.frame Wh.rel (fun q u e => (upd_sm' fp e)) fun q hq => ?_⟩
  · show upd w.H p o q = some u
    have e : upd w.F p o q = some u := e
    by_cases hq : q = p
    · subst hq; rw [upd_same] at e ⊢; exact e
    · rw [upd_ne hq] at e ⊢; exact Wh.sF q u e
  · show upd w.H p o q = some u
    rw [upd_ne (ne_of_none e bp)]; exact Wh.sB q u e
  · have e : upd w.F p o q = some u := e
    by_cases hq : q = p
    · subst hq; exact .inl bp
    · rw [upd_ne hq] at e; exact Wh.dj q u e
  · have hqp : q ≠ p := by rintro rfl; exact ap hq
    exact ⟨(upd_ne hqp).trans (Wh.dA q hq).1, (Wh.dA q hq).2⟩
  · show upd w.H p o q = w.H q
    rw [upd_ne (by rintro rfl; exact ap hq)]
theorem Le.fzL {p : Addr} {o : HO} (fp : w.F p = none) : Le w { w with F := upd w.F p o, H := upd w.H p o } := ⟨upd_sm fp, [], by simp⟩
theorem EnvR.fzLT (N : EnvR K B w σ Γ) {p : Addr} {o : HO} (fp : w.F p = none) (oth : ∀ (i : Nat) (e : D), Γ[i]? = some (some (R.o e)) → σ[i]? ≠ some (some (.ref p))) : EnvR K B { w with F := upd w.F p o, H := upd w.H p o } σ Γ := ⟨N.len, fun i r e => by
  obtain ⟨x, a, b⟩ := N.sl i r e
  refine ⟨x, a, ?_⟩
  cases r with
  | v d => exact Rp.mono (upd_sm fp) b
  | o d =>
    obtain ⟨q, rfl, own, fq, bq, aq⟩ := b
    have hq : q ≠ p := fun z => by subst z; exact oth i d e a
    exact ⟨q, rfl, own.move (upd_sm fp) (upd_ne hq), (upd_ne hq).trans fq, bq, aq⟩
  | h _ => exact b
  | raw _ => exact b
  | e _ =>
    obtain ⟨p', cls, e1, q, c⟩ := b
    exact ⟨p', cls, e1, upd_sm fp _ _ q, c⟩
  | b _ => exact b, N.inj⟩
theorem Own.rpD {F : Hp} {p : Addr} {ks : List (List Key)} (od : Obj) (hb : tbB (tbD ks) = true) : Rp K (upd F p (.frz od (.dT (tbV ks)))) (.ref p) (.dict (tbD ks)) := by
  unfold tbB at hb
  rw [Bool.and_eq_true] at hb
  refine .dcB od ks (fun z => ?_) upd_same
  subst z
  exact absurd hb.1 (by decide)
theorem EnvR.fzLD (N : EnvR K B w σ Γ) {i : Nat} {ks : List (List Key)} (od : Obj) (hb : tbB (tbD ks) = true) {p : Addr} (hi : Γ[i]? = some (some (.o (.dict (tbD ks))))) (hp : σ[i]? = some (some (.ref p))) :
    EnvR K B { w with F := upd w.F p (.frz od (.dT (tbV ks))), H := upd w.H p (.frz od (.dT (tbV ks))) } σ (Γ.set i (some (.v (.dict (tbD ks))))) := by
  obtain ⟨x, hx, q, rfl, own, fq, bq, aq⟩ := N.sl i _ hi
  rw [hp] at hx; cases hx
  refine ⟨by rw [List.length_set]; exact N.len, fun j r e => ?_, fun j k d' e' x hj hk hx hy => ?_⟩
  · rcases getSet e with ⟨rfl, z⟩ | ⟨ne, e⟩
    · cases z
      exact ⟨_, hp, Own.rpD od hb⟩
    · obtain ⟨x, a, b⟩ := N.sl j r e
      refine ⟨x, a, ?_⟩
      cases r with
      | v d => exact Rp.mono (upd_sm fq) b
      | o d' =>
        obtain ⟨q', rfl, own', fq', bq', aq'⟩ := b
        have hq : q' ≠ p := fun z => by subst z; exact ne (N.inj i j _ _ _ hi e hp a)
        exact ⟨q', rfl, own'.move (upd_sm fq) (upd_ne hq), (upd_ne hq).trans fq', bq', aq'⟩
      | h _ => exact b
      | raw _ => exact b
      | e _ =>
        obtain ⟨p', cls, e1, q, c⟩ := b
        exact ⟨p', cls, e1, upd_sm fq _ _ q, c⟩
      | b _ => exact b
  · rcases getSet hj with ⟨rfl, z⟩ | ⟨ne, hj⟩
    · cases z
    · rcases getSet hk with ⟨rfl, z⟩ | ⟨ne', hk⟩
      · cases z
      · exact N.inj j k _ _ _ hj hk hx hy
def gEscT (g : GE Y) : GE Y := bd g fun r Γ s => match r with
  | .v d => some (.ok (.v d), Γ, s)
  | .o (.dict kvs) => if tbB kvs = true then some (.ok (.v (.dict kvs)), Γ, s) else none
  | .b i => match Γ[i]? with
    | some (some (.o (.dict kvs))) => if tbB kvs = true then some (.ok (.v (.dict kvs)), Γ.set i (some (.v (.dict kvs))), s) else none
    | some (some (.v d)) => some (.ok (.v d), Γ, s)
    | _ => none
  | _ => none
theorem eok_escT {t : TE} {g : GE Y} (h : EOk Y K W t g) : EOk Y K W (tFz t) (gEscT g) := by
  intro B w σ Γ s out Q Wh N e p
  refine h.go (Q := fun x H1 => Q x H1 ∨ ∃ d es, x = .ref d ∧ H1 d = some (.dT es) ∧ ∀ od, Q x (upd H1 d (.frz od (.dT es)))) Wh N e p fun r Γ1 s1 x w1 W1 N1 l1 R1 e1 p1 => ?_
  split at e1
  · cases e1; exact .inl (p1 w1 W1 N1 (.refl _) x R1)
  · rename_i kvs
    split at e1
    · rename_i hb
      cases e1
      obtain ⟨⟨q, rfl, ⟨es, hq, ra⟩, fq, bq, aq⟩, oth⟩ := R1
      obtain ⟨ks, rfl, rfl⟩ := tb_of ra (by unfold tbB at hb; rw [Bool.and_eq_true] at hb; exact hb.2)
      exact .inr ⟨q, _, rfl, hq, fun od => p1 { w1 with F := upd w1.F q (.frz od (.dT (tbV ks))), H := upd w1.H q (.frz od (.dT (tbV ks))) } (W1.fzL bq aq fq) (N1.fzLT fq oth) (Le.fzL fq) _ (Own.rpD od hb)⟩
    · cases e1
  · rename_i i
    split at e1
    · rename_i kvs hi
      split at e1
      · rename_i hb
        cases e1
        have hx : σ[i]? = some (some x) := R1
        obtain ⟨y, hy, q, rfl, ⟨es, hq, ra⟩, fq, bq, aq⟩ := N1.sl i _ hi
        rw [hx] at hy; cases hy
        obtain ⟨ks, rfl, rfl⟩ := tb_of ra (by unfold tbB at hb; rw [Bool.and_eq_true] at hb; exact hb.2)
        exact .inr ⟨q, _, rfl, hq, fun od => p1 { w1 with F := upd w1.F q (.frz od (.dT (tbV ks))), H := upd w1.H q (.frz od (.dT (tbV ks))) } (W1.fzL bq aq fq) (N1.fzLD od hb hi hx) (Le.fzL fq) _ (Own.rpD od hb)⟩
      · cases e1
    · rename_i d hi
      cases e1
      have hx : σ[i]? = some (some x) := R1
      obtain ⟨y, hy, b⟩ := N1.sl i _ hi
      rw [hx] at hy; cases hy
      exact .inl (p1 w1 W1 N1 (.refl _) x b)
    · cases e1
  · cases e1
theorem me_escT {X : Cx} {e : Expr} {t : TE} {g : GE Y} (h : ME Y X W e t g) : ME Y X W e (tFz t) (gEscT g) := ⟨pe_fz h.pe, eok_escT h.ok⟩
theorem dcb_of {F : Hp} {x : V} {kvs : List (D × D)} (h : Rp K F x (.dict kvs)) (hb : tbB kvs = true) : ∃ a od ks, x = .ref a ∧ kvs = tbD ks ∧ F a = some (.frz od (.dT (tbV ks))) := by
  cases h with
  | dic e => exact absurd hb (by decide)
  | dcI ks e =>
    cases ks with
    | nil => exact absurd hb (by decide)
    | cons k ks =>
      unfold tbB at hb
      simp [entD, isTr] at hb
  | dcB od ks n e => exact ⟨_, od, ks, rfl, rfl, e⟩
theorem tbD_keys (ks : List (List Key)) : (tbD ks).map (·.1) = ks.map keyT := by
  unfold tbD
  rw [List.map_map]
  rfl
theorem it_keysT {F : Hp} {d : Addr} {od : Obj} {ks : List (List Key)} (hd : F d = some (.frz od (.dT (tbV ks)))) : ItOk K (Itkt d od (tbV ks)) F (ks.map keyT) := fun F1 H e1 e2 i => by
  have hH := e2 _ _ (e1 _ _ hd)
  have hl : (tbV ks).length = (ks.map keyT).length := by simp [tbV]
  refine ⟨fun hi => ⟨hH, by rw [hl]; exact hi⟩, fun hi => ⟨hH, by rw [hl]; exact hi⟩, fun x H' y d' hd' => ?_⟩
  obtain ⟨rfl, k, v, q, hk, rfl, hq⟩ := y
  unfold tbV at hk
  rw [List.getElem?_map] at hk hd'
  cases hz : ks[i]? with
  | none => rw [hz] at hk; cases hk
  | some k0 =>
    rw [hz] at hk hd'
    cases hk
    cases hd'
    exact .inr (.inr ⟨q, _, _, rfl, hq, rfl, rfl, rpa_keyV _⟩)
def gItD (g : GE Y) : GI Y := bd g fun r Γ s => match r with
  | .v (.dict kvs) => if tbB kvs = true then some (.ok (kvs.map (·.1)), Γ, s) else none
  | _ => none
theorem iok_keysT {t : TE} {g : GE Y} (h : EOk Y K W t g) : IOk Y K W (iKeys t) (gItD g) := by
  intro B w σ Γ s out Q Wh N e p
  refine h.go (Q := fun x H1 => ∃ d o, x = .ref d ∧ ((∃ kvs, H1 d = some (.frz o (.dK kvs)) ∧ Q (Itk d o kvs) H1) ∨ ∃ kvs, H1 d = some (.frz o (.dT kvs)) ∧ Q (Itkt d o kvs) H1)) Wh N e p fun r Γ1 s1 x w1 W1 N1 l1 R1 e1 p1 => ?_
  split at e1
  · rename_i kvs
    split at e1
    · rename_i hb
      cases e1
      obtain ⟨a, od, ks, rfl, rfl, ha⟩ := dcb_of (show Rp K w1.F x (.dict kvs) from R1) hb
      refine ⟨a, od, rfl, .inr ⟨_, W1.sF _ _ ha, p1 w1 W1 N1 (.refl _) _ ?_⟩⟩
      rw [tbD_keys]
      exact it_keysT ha
    · cases e1
  · cases e1
theorem mi_keysT {X : Cx} {tg e : Expr} {t : TE} {g : GE Y} (h : ME Y X W e t g) : MI Y X W tg e (iKeys t) (gItD g) := ⟨pi_keys h.pe, iok_keysT h.ok⟩
def rLenTR : List V → Hp → VK → Prop := fun xs H Q => ∃ (p : Addr) (kvs : List (List Key × V)), xs = [.ref p] ∧ Rd H p (.dT kvs) ∧ Q (.int ((kvs.length : Nat) : Int)) H
theorem call_lenTR {X : Cx} : CallR X (.builtin "len") rLenTR := by
  intro pins σ0 st H ys us Q J rv hh
  obtain ⟨p, kvs, rfl, hp, q⟩ := hh
  obtain ⟨u, rfl, rx⟩ := vals1 rv
  obtain rfl : u = .ref p := rx
  obtain ⟨z, hd, zs, rel, dd⟩ := dt_rd J.hok hp
  have hl : kvs.length = zs.length := Paired.length rel
  refine call_len_dictH hd dd (by rw [← hl]; rw [sizeLine_eq] at z; omega) ?_
  rw [← hl]
  exact ⟨.int ((kvs.length : Nat) : Int), H, J.tok _, ⟨_, rfl⟩, q⟩
def gLenT (g : GE Y) : GE Y := bd g fun r Γ s => match r with
  | .v (.dict kvs) => if tbB kvs = true then some (.ok (.v (.int ((kvs.length : Nat) : Int))), Γ, s) else none
  | _ => none
theorem eok_lenT {t : TE} {g : GE Y} (h : EOk Y K W t g) : EOk Y K W (tCB rLenTR (tCons t tNil)) (gLenT g) := by
  intro B w σ Γ s out Q Wh N e p
  refine h.go (Q := fun x H1 => rLenTR [x] H1 Q) Wh N e p fun r Γ1 s1 x w1 W1 N1 l1 R1 e1 p1 => ?_
  split at e1
  · rename_i kvs
    split at e1
    · rename_i hb
      cases e1
      obtain ⟨a, od, ks, rfl, rfl, ha⟩ := dcb_of (show Rp K w1.F x (.dict kvs) from R1) hb
      refine ⟨a, _, rfl, .inr ⟨od, W1.sF _ _ ha⟩, ?_⟩
      have hl : (tbV ks).length = (tbD ks).length := by simp [tbV, tbD]
      rw [hl]
      exact p1 w1 W1 N1 (.refl _) _ (.int _)
    · cases e1
  · cases e1
def gSrtV (g : GE Y) : GE Y := bd g fun r Γ s => match r with
  | .v (.dict kvs) => if (tbB kvs && (allAlike (kvs.map (·.1)) && sortable (kvs.map (·.1)) && (kvs.map (·.1)).all (fun d => Nat.ble d.depth 60))) = true then some (.ok (.o (.list (isortD (kvs.map (·.1))))), Γ, s) else none
  | _ => none
theorem eok_srtV {t : TE} {g : GE Y} (h : EOk Y K W t g) : EOk Y K W (tCB (rSortedT K) (tCons t tNil)) (gSrtV g) := by
  intro B w σ Γ s out Q Wh N e p
  refine h.go (Q := fun x H1 => rSortedT K [x] H1 Q) Wh N e p fun r Γ1 s1 x w1 W1 N1 l1 R1 e1 p1 => ?_
  split at e1
  · rename_i kvs
    split at e1
    · rename_i hc
      cases e1
      rw [Bool.and_eq_true] at hc
      obtain ⟨a, od, ks, rfl, rfl, ha⟩ := dcb_of (show Rp K w1.F x (.dict kvs) from R1) hc.1
      have ek : ((tbV ks).map fun p => keyT p.1) = (tbD ks).map (·.1) := by
        rw [tbD_keys]; unfold tbV; rw [List.map_map]; rfl
      have hc := hc.2
      rw [← ek] at hc p1
      simp only [Bool.and_eq_true] at hc
      refine ⟨a, _, rfl, .inr ⟨od, W1.sF _ _ ha⟩, allAlike_of hc.1.1, sortable_of hc.1.2, fun d hd => Nat.le_of_ble_eq_true (List.all_eq_true.mp hc.2 d hd), fun r bs ys nr ik hys => ?_⟩
      obtain ⟨w', e1, e2, e3, W', N', l', r'⟩ := fz_keys ik W1 N1
      have rr := hys w'.F r'
      have z := rz_use (z := .nw (.list (isortD ((tbV ks).map fun p => keyT p.1)))) (Q := Q) W' N' l' p1
      have z := z r ys (by rw [e1]; exact nr) rr
      rw [e1] at z
      exact z
    · cases e1
  · cases e1
end
section
variable {Y : Sys} {X : Cx} {W : WX} {e : Expr} {pos p : Pos} {g : GE Y} {t : TE}
theorem me_lenT (hg : Gl X "len") (hm : X.mg "len" = none) (h : ME Y X W e t g)
    (he : starEach (e :: []) X.env = (false, eval e X.env) :: starEach [] X.env := by rfl) (hpl : (backTo pos (starEach [] X.env)).any (·.1) = false := by rfl) :
    ME Y X W (.Call (.Name "len" p) [e] [] pos) (tCB rLenTR (tCons t tNil)) (gLenT g) :=
  ⟨pe_callB call_lenTR hg hm (by decide +kernel) (pa_cons h.pe pa_nil he) (by decide) (by decide) he hpl, eok_lenT h.ok⟩
theorem me_srtV (hc : X.calm = true) (hu : X.A.units + 65 < cLine) (hg : Gl X "sorted") (hm : X.mg "sorted" = none) (h : ME Y X W e t g)
    (he : starEach (e :: []) X.env = (false, eval e X.env) :: starEach [] X.env := by rfl) (hpl : (backTo pos (starEach [] X.env)).any (·.1) = false := by rfl) :
    ME Y X W (.Call (.Name "sorted" p) [e] [] pos) (tCB (rSortedT X.K) (tCons t tNil)) (gSrtV g) :=
  ⟨pe_callB (cr_sortedT hc hu) hg hm (by decide +kernel) (pa_cons h.pe pa_nil he) (by decide) (by decide) he hpl, eok_srtV h.ok⟩
end
end FX
set_option Elab.async false
set_option linter.all false
set_option maxRecDepth 100000
set_option maxHeartbeats 1000000
namespace FX
open PySem PySem.Spec L2
def turnC (C : Expr) (i : Nat) (t : Expr) (p : Pos) (acc : Value) (env : Env) (tail : Value → Sem PySem.Fin) : Prop := ∀ it, compTurn C i it acc env = (do
  standAt p
  match ← pyNext it with
  | none => pure (.done .next)
  | some v =>
    letOwnedTupleGo t it v
    assign t env v
    tail it)
def tail0 (C i1 : Expr) (acc : Value) (env : Env) (it : Value) : Sem PySem.Fin := do
  let mut ok := true
  for c in ([] : List Expr) do
    if ok then ok ← isTrue c env (eval c env)
  if ok then
    let x ← eval i1 env
    standAt i1.pos
    let x ← foldedSetIterable i1 env x
    let _ ← runOwn (.compStart C 1 (← holding [x] (pyIter x)) acc env) env
  again (.compLoop C 0 it acc env)
def tail1 (C kx vx : Expr) (D : Addr) (env : Env) (it : Value) : Sem PySem.Fin := do
  let mut ok := true
  for c in ([] : List Expr) do
    if ok then ok ← isTrue c env (eval c env)
  if ok then
    (do
      let kv ← eval kx env
      let vv ← holding [kv] (eval vx env)
      standAt { kx.pos with endLine := vx.pos.endLine, endCol := vx.pos.endCol }
      holding [kv, vv] (dictSet D kv vv))
  again (.compLoop C 1 it (.ref D) env)
theorem turn0 (kx vx t0 i0 t1 i1 : Expr) (scope : Scope) (pos : Pos) (acc : Value) (env : Env) :
    turnC (.DictComp kx vx [⟨t0, i0, [], 0⟩, ⟨t1, i1, [], 0⟩] scope pos) 0 t0 i0.pos acc env (tail0 (.DictComp kx vx [⟨t0, i0, [], 0⟩, ⟨t1, i1, [], 0⟩] scope pos) i1 acc env) := fun it => by rfl
theorem turn1 (kx vx t0 i0 t1 i1 : Expr) (scope : Scope) (pos : Pos) (D : Addr) (env : Env) :
    turnC (.DictComp kx vx [⟨t0, i0, [], 0⟩, ⟨t1, i1, [], 0⟩] scope pos) 1 t1 i1.pos (.ref D) env (tail1 (.DictComp kx vx [⟨t0, i0, [], 0⟩, ⟨t1, i1, [], 0⟩] scope pos) kx vx D env) := fun it => by rfl
def Kn (σ σ2 : St) : Prop := σ.length = σ2.length ∧ ∀ (j : Nat) v, σ[j]? = some (some v) → σ2[j]? = some (some v)
def Lp (J : L2.It) (g : TG) (σ : St) (H : Hp) (Fin : Hp → Prop) (Bd : (Hp → Prop) → St → Hp → Prop) : Prop := ∃ W : Nat → Nat → Hp → Prop, (∃ m, W 0 m H) ∧ ∀ i m H, W i m H →
  (J.stop i H ∧ Fin H) ∨ (J.go i H ∧ ∃ Nx : Hp → Prop, (∀ H', Nx H' → ∃ m', m' < m ∧ W (i + 1) m' H') ∧ ∀ x H', J.yld i H x H' → g x σ H' (Bd Nx))
theorem clause {Z : Cx} {kx vx : Expr} {gens : List Comprehension} {scope : Scope} {pos : Pos} {t : Expr} {i : Nat} {p : Pos} {acc : Value} {tail : Value → Sem PySem.Fin} (hT : turnC (.DictComp kx vx gens scope pos) i t p acc Z.env tail) (hc : Z.calm = true) (hx : Z.xe = fun _ _ => False) {pins : List (Addr × Obj)} {σ : St} {H : Hp} {st : Shared}
    {J : L2.It} {fp : List Addr} {it : Addr} {tn : Nat → Heap → Prop} {g : TG} {Fin : Hp → Prop} {Bd : (Hp → Prop) → St → Hp → Prop} (T : Turn Z.prog Z.w Z.K t J fp it tn) (t0 : tn 0 st.heap) (ff : ∀ b ∈ fp, FpOk Z pins H b) (V0 : Inv Z pins σ H st) (pg : PG Z t g) (lp : Lp J g σ H Fin Bd)
    (hb : ∀ Nx pins' σ2 H2 s2, Inv Z pins' σ2 H2 s2 → Bd Nx σ2 H2 → wpAny (model Z.prog Z.w) Z.A (tail (.ref it)) (fun f s3 => f = .again (.compLoop (.DictComp kx vx gens scope pos) i (.ref it) acc Z.env) ∧ ∃ σ3 H3, Inv Z pins' σ3 H3 s3 ∧ Kn σ σ3 ∧ Nx H3) (fun _ _ => False) s2) :
    codeAny (model Z.prog Z.w) Z.A (.compLoop (.DictComp kx vx gens scope pos) i (.ref it) acc Z.env) (fun r s2 => match r with
      | .ok f => f = .next ∧ ∃ H2, Inv Z pins σ H2 s2 ∧ Fin H2
      | .error _ => False) st := by
  obtain ⟨W, ⟨m0, w0⟩, turn⟩ := lp
  refine codeAny_loop rfl (fun n s2 => ∃ k H2, Inv Z pins σ H2 s2 ∧ tn k s2.heap ∧ (∀ b ∈ fp, H2 b = none) ∧ W k n H2) ?_ m0 ⟨0, H, V0, t0, fun b hb => (ff b hb).1, w0⟩
  rintro n s2 ⟨k, H2, V2, t2, n2, w2⟩
  have f2 : ∀ b ∈ fp, FpOk Z pins H2 b := fun b hb => ⟨n2 b hb, (ff b hb).2⟩
  show wpAny _ Z.A ((compTurn (.DictComp kx vx gens scope pos) i (.ref it) acc Z.env).onRaise (fun x => do noteFrame x Z.env; theTreesLotGoes x)) _ _ s2
  refine wpAny_noted ?_
  rw [hT]
  refine wpAny_bind (wpAny_standAt (wpAny_bind ?_))
  rcases turn k n H2 w2 with ⟨sp, q⟩ | ⟨go, Nx, hN, step⟩
  · refine thnF (T.done Z rfl rfl rfl hc k pins s2 σ H2 (fun _ _ => False) V2 f2 t2 sp) fun r s3 ⟨hr, V3⟩ => ?_
    subst hr
    exact wpAny_pure ⟨rfl, H2, V3, q⟩
  · refine thnF (T.item Z rfl rfl rfl hc k pins s2 σ H2 (fun _ _ => False) V2 f2 t2 go) fun r s3 ⟨u, hr, h3⟩ => ?_
    subst hr
    refine wpAny_bind (thnF h3 fun _ s4 ⟨x, H4, V4, r4, y4, t4, n4⟩ => ?_)
    have V4p := V4.pinned (fun b hb => (⟨n4 b hb, (ff b hb).2⟩ : FpOk Z pins H4 b)) (T.obj _ _ t4)
    have hg := pg.run _ s4 _ H4 x u _ V4p r4 (step x H4 y4)
    rw [hx] at hg
    refine wpAny_bind (thnF hg fun _ s5 ⟨σ5, H5, V5, bd⟩ => ?_)
    refine thnF (hb Nx _ σ5 H5 s5 V5 bd) fun f s6 ⟨ef, σ6, H6, V6, kn, nx⟩ => ?_
    subst ef
    obtain ⟨m', hm, w'⟩ := hN H6 nx
    have pin' : ∀ b ∈ fp, ∀ o, s4.heap.get? b = some o → s6.heap.get? b = some o ∧ H6 b = none := fun b hb o e =>
      have z := V6.pin (b, o) (List.mem_append_right _ (List.mem_append_right _ (mem_pinsAt hb e)))
      ⟨z.1, z.2.1⟩
    refine ⟨rfl, m', hm, k + 1, H6, V6.unpinned.weak kn.1 kn.2, T.keep _ _ _ t4 fun b hb o e => (pin' b hb o e).1, fun b hb => ?_, w'⟩
    obtain ⟨o, e, _⟩ := T.obj _ _ t4 b hb
    exact (pin' b hb o e).2
theorem start1 {prog : Program} {w : World} {A : Around} {R : Result → Shared → Prop} {st : Shared} {kx vx t0 i0 t1 i1 : Expr} {scope : Scope} {pos : Pos} {it acc : Value} {env : Env}
    (a : codeAny (model prog w) A (.compLoop (.DictComp kx vx [⟨t0, i0, [], 0⟩, ⟨t1, i1, [], 0⟩] scope pos) 1 it acc env) R st)
    (b : wpAny (model prog w) A (pyIter it) (fun it2 s2 => codeAny (model prog w) A (.compLoop (.DictComp kx vx [⟨t0, i0, [], 0⟩, ⟨t1, i1, [], 0⟩] scope pos) 1 it2 acc env) R s2) (notedBy (model prog w) A env fun x s2 => R (.error x) s2) st) :
    codeAny (model prog w) A (.compStart (.DictComp kx vx [⟨t0, i0, [], 0⟩, ⟨t1, i1, [], 0⟩] scope pos) 1 it acc env) R st := by
  refine codeAny_of_tree ?_
  show wpAny (model prog w) A ((compStart (.DictComp kx vx [⟨t0, i0, [], 0⟩, ⟨t1, i1, [], 0⟩] scope pos) 1 it acc env).onRaise (fun x => do noteFrame x env; standAt theWindowsPlace)) _ _ st
  refine wpAny_notedAt ?_
  unfold compStart
  refine wpAny_bind (m := ask) (wpAny_askSetting (wpAny_ite ?_))
  split
  · first
      | exact wpAny_bind (wpAny_pure (wpAny_pure ⟨rfl, a⟩))
      | exact wpAny_pure ⟨rfl, a⟩
  · refine wpAny_bind (wpAny_rule ?_)
    refine wpAny_bind (m := standAt i1.pos) (wpAny_standAt (wpAny_bind (wpAny_mono b (fun _ _ k => wpAny_pure ⟨rfl, k⟩) fun _ _ z => z)))
theorem dictSetT {X : Cx} {pins : List (Addr × Obj)} {σ : St} {H : Hp} {st : Shared} {E : Value → Shared → Prop} {D b : Addr} {ws : List (List Key × V)} {k : List Key} {v : V} {r : Value} {Q : Unit → Shared → Prop} (hu : X.A.units < cLine) (V0 : Inv X pins σ H st)
    (hD : H D = some (.dT ws)) (hb : H b = some (.tup (k.map kV))) (hz : ws.length < sizeLine) (rv : RelV v r) (hQ : ∀ s2, Inv X pins σ (upd H D (.dT (putK ws k v))) s2 → Q () s2) : wpAny (model X.prog X.w) X.A (dictSet D (.ref b) r) Q E st := by
  obtain ⟨z, nd, xs, rel, dd⟩ := dt_of V0.hok hD
  have lx : xs.length ≤ sizeLine := by rw [← Paired.length rel]; exact z
  have lp := length_putK ws k v
  refine wpAny_dictSet_heap (hsz := lx) (knd := tupleKind (mixKind X.prog X.w)) hu (key_of V0.hok hb) dd fun h2 d2 sb => hQ _ ?_
  obtain ⟨q, es, ep, g1, g2, g3, g4, _, g6⟩ := d2
  refine d_write V0 (by rw [hD]; exact True.intro) sb ⟨q, g1⟩ ⟨by omega, nd, _, (rel.put k hb rv).keeps fun c ys ec => ?_, q, es, ep, g1, g2, g3, g4, g6⟩
  exact (upd_ne (ne_of ec hD (fun z => nomatch z))).trans ec
section
variable {X : Cx}
def bd1 (tk tv : TE) (D : Addr) (Nx : Hp → Prop) (σ : St) (H : Hp) : Prop := tk σ H fun y H1 => tv σ H1 fun z H2 => ∃ ws k b, y = .ref b ∧ H2 D = some (.dT ws) ∧ H2 b = some (.tup (k.map kV)) ∧ ws.length < sizeLine ∧ Nx (upd H2 D (.dT (putK ws k z)))
def bd0 (wi1 : TI) (g1 : TG) (tk tv : TE) (D : Addr) (vs1 : List Nat) (Nx : Hp → Prop) (σ : St) (H : Hp) : Prop := wi1 σ H fun J1 H1 => Lp J1 g1 (wipe σ vs1) H1 Nx fun Nx1 σ3 H3 => wipe σ3 vs1 = wipe σ vs1 ∧ bd1 tk tv D Nx1 σ3 H3
def tDc2 (wi : TI) (g : TG) (wi1 : TI) (g1 : TG) (tk tv : TE) (vs vs1 : List Nat) : TE := fun σ H Q => wi σ H fun J H1 => ∀ D, H1 D = none →
  Lp J g (wipe σ vs) (upd H1 D (.dT [])) (Q (.ref D)) fun Nx σ2 H2 => wipe σ2 vs = wipe σ vs ∧ bd0 wi1 g1 tk tv D vs1 Nx σ2 H2
theorem kn_of {σ σ2 : St} {vs : List Nat} (h : wipe σ2 vs = wipe σ vs) : Kn (wipe σ vs) σ2 := ⟨by rw [← h, wipe_length], fun j v e => by rw [← h] at e; exact (wipe_some e).1⟩
theorem kn_sub {σ σ2 : St} {vs us : List Nat} (h : wipe σ2 vs = wipe σ vs) (hs : ∀ i ∈ us, i ∈ vs) : Kn (wipe σ vs) (wipe σ2 us) := ⟨by rw [← h, wipe_length, wipe_length], fun j v e => by
  rw [← h] at e
  obtain ⟨e1, e2⟩ := wipe_some e
  exact (wipe_out fun z => e2 (hs j z)).trans e1⟩
theorem hb1 {Z : Cx} {kx vx : Expr} {tk tv : TE} {D : Addr} (hu : Z.A.units < cLine) (hx : Z.xe = fun _ _ => False) (pk : PE Z kx tk) (pv : PE Z vx tv) {σ : St} {vs : List Nat} (Nx : Hp → Prop) (pins : List (Addr × Obj)) (σ2 : St) (H2 : Hp) (s2 : Shared) (V2 : Inv Z pins σ2 H2 s2)
    (bd : wipe σ2 vs = wipe σ vs ∧ bd1 tk tv D Nx σ2 H2) (C : Expr) (it : Value) : wpAny (model Z.prog Z.w) Z.A (tail1 C kx vx D Z.env it) (fun f s3 => f = .again (.compLoop C 1 it (.ref D) Z.env) ∧ ∃ σ3 H3, Inv Z pins σ3 H3 s3 ∧ Kn (wipe σ vs) σ3 ∧ Nx H3) (fun _ _ => False) s2 := by
  obtain ⟨e, bd⟩ := bd
  unfold tail1
  simp only [List.forIn_nil]
  refine wpAny_bind (wpAny_pure ?_)
  rw [if_pos rfl]
  have hk := pk.run pins s2 σ2 H2 _ V2 bd
  rw [hx] at hk
  refine wpAny_bind (wpAny_bind (thn hk fun kv s3 ⟨y, H3, V3, r3, q3⟩ => ?_))
  have hv := pv.run pins s3 σ2 H3 _ V3 q3
  rw [hx] at hv
  refine wpAny_bind (wpAny_holding (thn hv fun vv s4 ⟨z, H4, V4, r4, ws, k, b, ey, hD, hb, hz, nx⟩ => ?_))
  subst ey
  obtain rfl : kv = Value.ref b := r3
  exact wpAny_bind (wpAny_standAt (wpAny_holding (dictSetT hu V4 hD hb hz r4 fun s5 V5 => wpAny_pure ⟨rfl, σ2, _, V5, kn_of e, nx⟩)))
theorem hb0 {Z : Cx} {kx vx t0 i0 t1 i1 : Expr} {scope : Scope} {pos : Pos} {wi1 : TI} {g1 : TG} {tk tv : TE} {D : Addr} (hc : Z.calm = true) (hu : Z.A.units < cLine) (hx : Z.xe = fun _ _ => False) (pi1 : PI Z t1 i1 wi1) (pg1 : PG Z t1 g1) (pk : PE Z kx tk) (pv : PE Z vx tv) (hs1 : ∀ env x, foldedSetIterable i1 env x = pure x)
    {σ : St} {vs vs1 : List Nat} (hv : ∀ i ∈ vs1, i ∈ vs) (Nx : Hp → Prop) (pins : List (Addr × Obj)) (σ2 : St) (H2 : Hp) (s2 : Shared) (V2 : Inv Z pins σ2 H2 s2) (bd : wipe σ2 vs = wipe σ vs ∧ bd0 wi1 g1 tk tv D vs1 Nx σ2 H2) (it : Value) :
    wpAny (model Z.prog Z.w) Z.A (tail0 (.DictComp kx vx [⟨t0, i0, [], 0⟩, ⟨t1, i1, [], 0⟩] scope pos) i1 (.ref D) Z.env it) (fun f s3 => f = .again (.compLoop (.DictComp kx vx [⟨t0, i0, [], 0⟩, ⟨t1, i1, [], 0⟩] scope pos) 0 it (.ref D) Z.env) ∧ ∃ σ3 H3, Inv Z pins σ3 H3 s3 ∧ Kn (wipe σ vs) σ3 ∧ Nx H3) (fun _ _ => False) s2 := by
  obtain ⟨e, bd⟩ := bd
  unfold tail0
  simp only [List.forIn_nil]
  refine wpAny_bind (wpAny_pure ?_)
  rw [if_pos rfl]
  have hi := pi1.run pins s2 σ2 H2 _ V2 bd
  rw [hx] at hi
  refine wpAny_bind (thn hi fun xv s3 h3 => ?_)
  refine wpAny_bind (wpAny_standAt (wpAny_bind (wpAny_of_eq (hs1 _ xv) (wpAny_bind (wpAny_holding (thn h3 fun itv s4 h4 => ?_))))))
  obtain ⟨it1, fp1, tn1, J1, H4, e1, V4, T1, t4, f4, lp⟩ := h4
  subst e1
  have V4w : Inv Z pins (wipe σ2 vs1) H4 s4 := V4.weak (wipe_length _ _) fun j v e => (wipe_some e).1
  have loop := clause (turn1 kx vx t0 i0 t1 i1 scope pos D Z.env) hc hx T1 t4 f4 V4w pg1 lp (fun N p a b c d f => hb1 (σ := σ2) (vs := vs1) hu hx pk pv N p a b c d f _ _)
  refine wpAny_bind (wpAny_runOwn ?_)
  rw [Around.mark_none]
  refine codeAny_mono (start1 loop (T1.self Z.A 0 _ _ _ t4 loop)) fun r s5 hr => ?_
  cases r with
  | error _ => exact hr.elim
  | ok f =>
    obtain ⟨rfl, H5, V5, nx⟩ := hr
    first
      | exact wpAny_pure ⟨rfl, _, H5, V5, kn_sub e hv, nx⟩
      | exact wpAny_bind (wpAny_pure (wpAny_pure ⟨rfl, _, H5, V5, kn_sub e hv, nx⟩))
end
end FX
set_option Elab.async false
set_option linter.all false
set_option maxRecDepth 100000
set_option maxHeartbeats 1000000
namespace FX
open PySem PySem.Spec L2
theorem inBlock {Z : Cx} {kx vx t0 i0 t1 i1 : Expr} {scope : Scope} {pos : Pos} {wi1 : TI} {g g1 : TG} {tk tv : TE} {D : Addr} (hc : Z.calm = true) (hu : Z.A.units < cLine) (hx : Z.xe = fun _ _ => False) (pg : PG Z t0 g) (pi1 : PI Z t1 i1 wi1) (pg1 : PG Z t1 g1) (pk : PE Z kx tk) (pv : PE Z vx tv)
    (hs1 : ∀ env x, foldedSetIterable i1 env x = pure x) {σ : St} {H : Hp} {st : Shared} {vs vs1 : List Nat} (hv : ∀ i ∈ vs1, i ∈ vs) {J : L2.It} {fp : List Addr} {it : Addr} {tn : Nat → Heap → Prop} {Fin : Hp → Prop} (T : Turn Z.prog Z.w Z.K t0 J fp it tn) (tt : tn 0 st.heap) (ff : ∀ b ∈ fp, FpOk Z [] H b)
    (V0 : Inv Z [] (wipe σ vs) H st) (lp : Lp J g (wipe σ vs) H Fin fun Nx σ2 H2 => wipe σ2 vs = wipe σ vs ∧ bd0 wi1 g1 tk tv D vs1 Nx σ2 H2) :
    codeAny (model Z.prog Z.w) Z.A (.compStart (.DictComp kx vx [⟨t0, i0, [], 0⟩, ⟨t1, i1, [], 0⟩] scope pos) 0 (.ref it) (.ref D) Z.env) (fun r s2 => match r with
      | .ok f => f = .next ∧ ∃ H2, Inv Z [] (wipe σ vs) H2 s2 ∧ Fin H2
      | .error _ => False) st := by
  have loop := clause (turn0 kx vx t0 i0 t1 i1 scope pos (.ref D) Z.env) hc hx T tt ff V0 pg lp (fun N p a b c d f => hb0 hc hu hx pi1 pg1 pk pv hs1 hv N p a b c d f _)
  exact codeAny_compStart_dict loop (T.self Z.A 0 _ _ _ tt loop)
section
variable {X : Cx}
theorem pe_dc2 {kx vx t0 i0 t1 i1 : Expr} {scope : Scope} {own : List (Str × Nat)} {vs1 : List Nat} {pos : Pos} {wi wi1 : TI} {g g1 : TG} {tk tv : TE} (hc : X.calm = true) (hN : X.N.Nodup) (hu : X.A.units < cLine) (hi : PI X t0 i0 wi) (ok : BlkOk X.N X.env.scope scope own) (hv : ∀ i ∈ vs1, i ∈ own.map (·.2))
    (hg : ∀ (s : Shared) (H : Hp) (C : Addr) (cl : List (Str × Addr)) (fp : List Addr), PG (X.blk s H scope (compEnvC scope cl C X.env) fp) t0 g) (hi1 : ∀ (s : Shared) (H : Hp) (C : Addr) (cl : List (Str × Addr)) (fp : List Addr), PI (X.blk s H scope (compEnvC scope cl C X.env) fp) t1 i1 wi1)
    (hg1 : ∀ (s : Shared) (H : Hp) (C : Addr) (cl : List (Str × Addr)) (fp : List Addr), PG (X.blk s H scope (compEnvC scope cl C X.env) fp) t1 g1) (hk : ∀ (s : Shared) (H : Hp) (C : Addr) (cl : List (Str × Addr)) (fp : List Addr), PE (X.blk s H scope (compEnvC scope cl C X.env) fp) kx tk)
    (he : ∀ (s : Shared) (H : Hp) (C : Addr) (cl : List (Str × Addr)) (fp : List Addr), PE (X.blk s H scope (compEnvC scope cl C X.env) fp) vx tv) (hs : ∀ x, foldedSetIterable i0 X.env x = pure x) (hs1 : ∀ env x, foldedSetIterable i1 env x = pure x) :
    PE X (.DictComp kx vx [⟨t0, i0, [], 0⟩, ⟨t1, i1, [], 0⟩] scope pos) (tDc2 wi g wi1 g1 tk tv (own.map (·.2)) vs1) := by
  refine ⟨fun pins st σ H Q V0 h => ?_⟩
  rw [arm_eval_DictComp]
  have hf : ∀ y ∈ scope.names, y.2 = .free → ∃ c, X.env.cells.lookup y.1 = some c := fun y hy e => V0.ok.has _ (ok.free y hy e)
  refine wpAny_comprehension_free (use := none) rfl hs (closure_ok hf) ok.kind (fun y hy e => by rw [ok.uniq y hy, e]) (thn (hi.run pins st σ H _ V0 h) fun xv s1 hx => thn hx fun itv s2 h2 => ?_)
  obtain ⟨it, fp, tn, J, H2, e, V2, T, t2, f2, q⟩ := h2
  subst e
  refine wpAny_newObj_type (newEnv_comp ?_)
  have lp := q s2.heap.objs.size (V2.hok.fresh (Nat.le_refl _))
  have V3 : Inv X pins σ (upd H2 s2.heap.objs.size (.dT [])) { s2 with heap := s2.heap.push { cls := .type "dict", data := .dict #[] } } := V2.laid (t' := s2.toks) (fun _ _ z => Heap.get?_push_of_some _ z) (Nat.le_refl _) (dt_empty s2.heap V2.big)
  have small : ∀ b ∈ fp, b < s2.heap.objs.size := fun b hb => by
    obtain ⟨o, z, _⟩ := T.obj _ _ t2 b hb
    exact Heap.lt_size z
  generalize e3 : ({ s2 with heap := s2.heap.push { cls := .type "dict", data := .dict #[] } } : Shared) = s3 at V3
  have h3 : s3.heap = s2.heap.push { cls := .type "dict", data := .dict #[] } := by rw [← e3]
  have f3 : ∀ b ∈ fp, FpOk X pins (upd H2 s2.heap.objs.size (.dT [])) b ∧ b < s3.heap.objs.size := fun b hb =>
    ⟨⟨(upd_ne (Nat.ne_of_lt (small b hb))).trans (f2 b hb).1, (f2 b hb).2⟩, by rw [h3, Heap.size_push]; exact Nat.lt_succ_of_lt (small b hb)⟩
  have t3 : tn 0 s3.heap := T.keep _ _ _ t2 fun b _ o z => by rw [h3]; exact Heap.get?_push_of_some _ z
  have V4 := block_start V3 ok hN f3
  show codeAny _ _ (.compStart (.DictComp kx vx [⟨t0, i0, [], 0⟩, ⟨t1, i1, [], 0⟩] scope pos) 0 (.ref it) (.ref s2.heap.objs.size) (compEnvC scope (cellsFrom (s3.heap.objs.size + 1) scope.names (cloFrom X.env.cells scope.names [])) s3.heap.objs.size X.env)) (compPost (model X.prog X.w) X.A X.xe none _ (.ref s2.heap.objs.size) s3.heap.objs.size) _
  have ff : ∀ b ∈ fp, FpOk (X.blk s3 (upd H2 s2.heap.objs.size (.dT [])) scope (compEnvC scope (cellsFrom (s3.heap.objs.size + 1) scope.names (cloFrom X.env.cells scope.names [])) s3.heap.objs.size X.env) fp) [] (upd H2 s2.heap.objs.size (.dT [])) b := fun b hb =>
    ⟨(f3 b hb).1.1, (V4.ok.exf b hb).1, V4.ok.exfs b hb, .inl hb, fun x c e => (V4.ok.exf b hb).2 x c e, fun p hp => absurd (show p ∈ ([] : List (Addr × Obj)) ++ [] from hp) (by simp)⟩
  have t4 : tn 0 (pushCells (s3.heap.push { cls := .type "dict", data := .dict #[] }) scope.names) := T.keep _ _ _ t3 fun b _ o z => pushCells_keeps _ _ _ _ (Heap.get?_push_of_some _ z)
  have run := inBlock (Z := X.blk s3 (upd H2 s2.heap.objs.size (.dT [])) scope (compEnvC scope (cellsFrom (s3.heap.objs.size + 1) scope.names (cloFrom X.env.cells scope.names [])) s3.heap.objs.size X.env) fp) (scope := scope) (pos := pos) (i0 := i0) hc hu rfl (hg _ _ _ _ _) (hi1 _ _ _ _ _) (hg1 _ _ _ _ _) (hk _ _ _ _ _) (he _ _ _ _ _) hs1 hv T t4 ff V4 lp
  refine codeAny_mono run fun r s5 hr => ?_
  cases r with
  | error _ => exact hr.elim
  | ok f =>
    obtain ⟨rfl, H5, V5, qq⟩ := hr
    have V6 : Inv X pins σ H5 s5 := V3.call' (ch := fp) V5.os V5.base V5.hok V5.bare fun b hb => ⟨(f3 b hb).1.2.2.2.1, (f3 b hb).1.2.1, (f3 b hb).1.2.2.2.2.1, (f3 b hb).1.2.2.2.2.2⟩
    have nC : H5 s3.heap.objs.size = none := V5.free
    obtain ⟨m, hn, _⟩ := V5.loc
    obtain ⟨g0, g1, g2, g3, g4, g5⟩ := V3.fpOk (Nat.le_refl _) nC
    exact ⟨m, hn, fun h6 sb => ⟨.ref _, H5, V6.turned (t' := s5.toks) (fun b o hb z => (sb.2 b hb).trans z) g0 g1 g3 g4 g5, rfl, qq⟩⟩
def tDispT (tk tv : TE) : TE := fun σ H Q => ∀ p, H p = none → tPairs [(tk, tv)] σ (upd H p (.dT [])) fun ps H2 => ∃ k b z, ps = [(.ref b, z)] ∧ H2 p = some (.dT []) ∧ H2 b = some (.tup (k.map kV)) ∧ Q (.ref p) (upd H2 p (.dT [(k, z)]))
theorem pe_dispT {kx vx : Expr} {pos : Pos} {tk tv : TE} (hu : X.A.units < cLine) (hk : PE X kx tk) (hv : PE X vx tv) : PE X (.Dict [some kx] [vx] pos) (tDispT tk tv) := by
  refine ⟨fun pins st σ H Q V0 h => ?_⟩
  have hn := V0.hok.fresh (Nat.le_refl st.heap.objs.size)
  have V1 := V0.laid (a := st.heap.objs.size) (o := .dT []) (h' := st.heap.push { cls := .type "dict", data := .dict #[] }) (t' := st.toks) (fun _ _ z => Heap.get?_push_of_some _ z) (Nat.le_refl _) (dt_empty st.heap V0.big)
  refine wpAny_Dict_any rfl rfl (by simp) (by show 1 ≤ 15; decide) (thn ((pps_cons (pos := pos) hk hv pps_nil).run pins _ σ _ _ V1 (h _ hn)) fun ws s2 ⟨ps, H2, V2, rel, k, b, z, ep, e, eb, q⟩ => ?_)
  · subst ep
    cases rel with
    | @cons _ c0 _ _ r1 r2 =>
      cases r2
      obtain ⟨c1, c2⟩ := c0
      obtain ⟨rk, rv⟩ := r1
      obtain rfl : c1 = Value.ref b := rk
      obtain ⟨_, nd, xs, r0, dd⟩ := dt_of V2.hok e
      cases r0
      refine wpAny_storeAllH (knd := tupleKind (mixKind X.prog X.w)) hu [(.ref b, c2)] [(k, b, c2)] [] s2 _ ⟨rfl, rfl, key_of V2.hok eb, trivial⟩ dd (by show 0 + 1 ≤ sizeLine; decide) fun h' tk' d2 sb => ⟨.ref st.heap.objs.size, _, ?_, rfl, q⟩
      obtain ⟨q', es, ep, g1, g2, g3, g4, _, g6⟩ := d2
      refine d_write V2 (by rw [e]; exact True.intro) sb ⟨q', g1⟩ ⟨by show 1 ≤ sizeLine; decide, nd, _, Paired.cons ⟨rfl, ?_, rv⟩ .nil, q', es, ep, g1, g2, g3, g4, g6⟩
      exact (upd_ne (ne_of eb e (fun z => nomatch z))).trans eb
end
end FX
set_option Elab.async false
set_option linter.all false
set_option maxRecDepth 100000
set_option maxHeartbeats 1000000
namespace FX
open PySem PySem.Spec L2
def gDispT {Y : Sys} (gk : GE Y) : GE Y := bd gk fun rk Γ s => match rk with
  | .v (.tuple ks) => match tkeys? ks with
    | some k => some (.ok (.o (.dict [(keyT k, .bool true)])), Γ, s)
    | none => none
  | _ => none
def dcG1 {Y : Sys} (T : Tg) (own : List Nat) (gk : GE Y) : List D → List (D × D) → Ev → Y.S → Option (List (D × D) × Ev × Y.S)
  | [], acc, Γ, s => some (acc, Γ, s)
  | d :: ds, acc, Γ, s => match bindT T d (wipeE Γ own) with
    | none => none
    | some Γ1 => match gk Γ1 s with
      | some (.ok (.v (.tuple ks)), Γ3, s3) => match tkeys? ks with
        | some k => if sizeOk acc.length = true then dcG1 T own gk ds (dPut acc k (.bool true)) Γ3 s3 else none
        | none => none
      | _ => none
def dcG0 {Y : Sys} (T : Tg) (own : List Nat) (T1 : Tg) (own1 : List Nat) (gi1 : GI Y) (gk : GE Y) : List D → List (D × D) → Ev → Y.S → Option (List (D × D) × Ev × Y.S)
  | [], acc, Γ, s => some (acc, Γ, s)
  | d :: ds, acc, Γ, s => match bindT T d (wipeE Γ own) with
    | none => none
    | some Γ1 => match gi1 Γ1 s with
      | some (.ok ds1, Γ2, s2) => match dcG1 T1 own1 gk ds1 acc Γ2 s2 with
        | some (acc', Γ3, s3) => dcG0 T own T1 own1 gi1 gk ds acc' Γ3 s3
        | none => none
      | _ => none
def gDc2 {Y : Sys} (T : Tg) (own : List Nat) (T1 : Tg) (own1 : List Nat) (gi gi1 : GI Y) (gk : GE Y) : GE Y := bd gi fun ds Γ s => match dcG0 T own T1 own1 gi1 gk ds [] Γ s with
  | some (acc, Γ', s') => some (.ok (.o (.dict acc)), backE Γ Γ' own, s')
  | none => none
section
variable {Y : Sys} {K : PySem.W.Frag} {W : WX} {tk : TE} {gk : GE Y}
theorem wipe_in : ∀ {vs : List Nat} {σ : St} {i : Nat}, i ∈ vs → i < σ.length → (wipe σ vs)[i]? = some none
  | v :: vs, σ, i, h, hl => by
    show ((wipe σ vs).set v none)[i]? = some none
    by_cases e : v = i
    · subst e
      rw [List.getElem?_set_self (by rw [wipe_length]; exact hl)]
    · rw [List.getElem?_set_ne e]
      rcases List.mem_cons.mp h with z | z
      · exact absurd z.symm e
      · exact wipe_in z hl
theorem wipe_sub2 {us vs : List Nat} (h : ∀ i ∈ us, i ∈ vs) (σ : St) : wipe (wipe σ us) vs = wipe σ vs := by
  apply List.ext_getElem?
  intro i
  by_cases hl : i < σ.length
  · by_cases hv : i ∈ vs
    · rw [wipe_in hv (by rw [wipe_length]; exact hl), wipe_in hv hl]
    · rw [wipe_get hv, wipe_get hv, wipe_get fun z => hv (h i z)]
  · rw [List.getElem?_eq_none (by rw [wipe_length, wipe_length]; omega), List.getElem?_eq_none (by rw [wipe_length]; omega)]
theorem heldDict {B : Hp} {w : Wo} {σ : St} {Γ : Ev} {s : Y.S} {L : Addr} {es : List (List Key × V)} {ac : List (D × D)} (bL : B L = none) (W1 : Wd Y (upd B L (.dT es)) w s) (N1 : EnvR K (upd B L (.dT es)) w σ Γ) (ra : RpT K w.F es ac) : ResR K B w σ Γ (.ref L) (.o (.dict ac)) := by
  have hL : w.H L = some (.dT es) := W1.sB L _ upd_same
  refine ⟨⟨L, rfl, ⟨es, hL, ra⟩, W1.apart upd_same (fun _ z => nomatch z), bL, fun z => ?_⟩, fun i e hi hs => ?_⟩
  · have := (W1.dA L z).2
    rw [upd_same] at this; cases this
  · obtain ⟨y, a, q, rfl, own, _, bq, _⟩ := N1.sl i _ hi
    rw [hs] at a; cases a
    rw [upd_same] at bq; cases bq
theorem newOth {w : Wo} {B : Hp} {σ : St} {Γ : Ev} {L : Addr} (nL : w.H L = none) (N : EnvR K B w σ Γ) (i : Nat) (e : D) (hi : Γ[i]? = some (some (R.o e))) : σ[i]? ≠ some (some (.ref L)) := fun hs => by
  obtain ⟨y, a, q, rfl, own, _⟩ := N.sl i _ hi
  rw [hs] at a; cases a
  obtain ⟨u, hu⟩ := own.obj
  rw [nL] at hu; cases hu
theorem eok_dispT (hk : EOk Y K W tk gk) : EOk Y K W (tDispT tk (tC (.bl true))) (gDispT gk) := by
  intro B w σ Γ s out Q Wh N e p
  intro q nq
  have fq : w.F q = none := Wh.sF.free nq
  have bq : B q = none := Wh.sB.free nq
  have aq : q ∉ w.A := fun z => Y.live Wh.rel _ z nq
  have sm : Same B (upd B q (.dT [])) := upd_sm bq
  refine hk.go (w := { w with H := upd w.H q (.dT []) }) (Q := fun x H1 => ∃ k b z, [(x, V.bl true)] = [(.ref b, z)] ∧ H1 q = some (.dT []) ∧ H1 b = some (.tup (k.map kV)) ∧ Q (.ref q) (upd H1 q (.dT [(k, z)]))) ((Wh.newH nq).hold upd_same fq aq bq) ((N.newH nq).hold (newOth nq N)) e ((p.strong sm).le ⟨Same.refl _, [], by simp⟩) fun rk Γ1 s1 x w1 W1 N1 l1 R1 e1 p1 => ?_
  split at e1
  · rename_i ks
    split at e1
    · rename_i k ek
      cases e1
      cases (show Rp K w1.F x (.tuple ks) from R1) with
      | tup hb rk =>
        have := key_v rk ek
        subst this
        refine ⟨k, _, _, rfl, W1.sB q _ upd_same, W1.sF _ _ hb, ?_⟩
        have W2 := W1.bump (o' := .dT [(k, .bl true)]) fun _ z => nomatch z
        have N2 := N1.bump (o' := .dT [(k, .bl true)])
        exact p { w1 with H := upd w1.H q (.dT [(k, .bl true)]) } (W2.weak (upd_sm bq)) (N2.weak (upd_sm bq)) ⟨l1.F, l1.et⟩ _ (heldDict bq W2 N2 (.cons (.bl true) .nil))
    · cases e1
  · cases e1
theorem eok_dc2 {wi wi1 : TI} {gi gi1 : GI Y} {g g1 : TG} {T T1 : Tg} {own own1 : List Nat} (hi : IOk Y K W wi gi) (hg : GOk Y K g T) (hi1 : IOk Y K W0 wi1 gi1) (hg1 : GOk Y K g1 T1) (hk : EOk Y K W0 tk gk) (hs : ∀ i ∈ T.sl, i ∈ own) (hs1 : ∀ i ∈ T1.sl, i ∈ own1) (ho : ∀ i ∈ own1, i ∈ own) :
    EOk Y K W (tDc2 wi g wi1 g1 tk (tC (.bl true)) own own1) (gDc2 T own T1 own1 gi gi1 gk) := by
  intro B w σ Γ s out Q Wh N e p
  unfold gDc2 bd at e
  cases eg : gi Γ s with
  | none => rw [eg] at e; cases e
  | some o =>
    obtain ⟨o, Γ1, s1⟩ := o
    rw [eg] at e
    cases o with
    | er z =>
      cases e
      exact hi B w σ Γ s _ _ Wh N eg fun w1 W1 N1 l => p w1 W1 N1 l
    | ok ds =>
      simp only at e
      split at e
      · rename_i acc Γe se ec
        cases e
        refine hi B w σ Γ s _ _ Wh N eg fun w1 W1 N1 l J It => ?_
        intro L nL
        have fL : w1.F L = none := W1.sF.free nL
        have bL : B L = none := W1.sB.free nL
        have aL : L ∉ w1.A := fun z => Y.live W1.rel _ z nL
        have base : ∀ es, EnvR K (upd B L (.dT es)) { w1 with H := upd w1.H L (.dT es) } σ Γ1 := fun es => (N1.newH nL).hold (newOth nL N1)
        -- the def's own slots behind a turn
        have two : ∀ {w4 : Wo} {σ3 : St} {Γ4 : Ev} {es : List (List Key × V)}, EnvR K (upd B L (.dT es)) w4 σ3 Γ4 → Le w1 w4 → wipe σ3 own = wipe σ own → EnvR K (upd B L (.dT es)) w4 (wipe σ own) (wipeE Γ4 own) ∧ EnvR K (upd B L (.dT es)) w4 σ (backE Γ1 Γ4 own) := fun {w4 σ3 Γ4 es} N4 l4 hw => by
          refine ⟨by rw [← hw]; exact N4.wipe own, EnvR.back (base es) ⟨l4.F, l4.et⟩ N4 hw⟩
        refine ⟨fun i m H => ∃ w' Γ' s' es ac, w'.H = H ∧ Wd Y (upd B L (.dT es)) w' s' ∧ EnvR K (upd B L (.dT es)) w' (wipe σ own) (wipeE Γ' own) ∧ EnvR K (upd B L (.dT es)) w' σ (backE Γ1 Γ' own) ∧ Le w1 w' ∧ RpT K w'.F es ac ∧ m = ds.length - i ∧ i ≤ ds.length ∧ dcG0 T own T1 own1 gi1 gk (ds.drop i) ac Γ' s' = some (acc, Γe, se),
          ⟨ds.length, { w1 with H := upd w1.H L (.dT []) }, Γ1, s1, [], [], rfl, (W1.newH nL).hold upd_same fL aL bL, (base []).wipe own, EnvR.back (base []) (.refl _) (base []) rfl, ⟨Same.refl _, [], by simp⟩, .nil, rfl, Nat.zero_le _, by rw [List.drop_zero]; exact ec⟩, ?_⟩
        rintro i m H ⟨w', Γ', s', es, ac, rfl, W', N', Nb, l', ra, rfl, hle, e'⟩
        by_cases hlt : i < ds.length
        · have hd : ds[i]? = some ds[i] := List.getElem?_eq_getElem hlt
          rw [List.drop_eq_getElem_cons hlt] at e'
          unfold dcG0 at e'
          split at e'
          · cases e'
          · rename_i Γ2 eb
            refine .inr ⟨(It w'.F w'.H l'.F W'.sF i).1 hlt, fun H => ∃ w' Γ' s' es ac, w'.H = H ∧ Wd Y (upd B L (.dT es)) w' s' ∧ EnvR K (upd B L (.dT es)) w' (wipe σ own) (wipeE Γ' own) ∧ EnvR K (upd B L (.dT es)) w' σ (backE Γ1 Γ' own) ∧ Le w1 w' ∧ RpT K w'.F es ac ∧ dcG0 T own T1 own1 gi1 gk (ds.drop (i + 1)) ac Γ' s' = some (acc, Γe, se),
              fun H' ⟨w2, Γ2, s2, es2, ac2, h1, h2, h3, h3', h4, h5, h6⟩ => ⟨ds.length - (i + 1), by omega, w2, Γ2, s2, es2, ac2, h1, h2, h3, h3', h4, h5, rfl, hlt, h6⟩, fun x H' y => ?_⟩
            obtain ⟨w2, rfl, W2, N2, l2, r2⟩ := it_turn It W' N' l'.F y hd
            refine hg _ w2 _ _ Γ2 s' x _ _ W2 N2 r2 eb fun σ3 N3 hw => ?_
            have hww : wipe σ3 own = wipe σ own := (hw own hs).trans (wipe_sub2 (fun _ z => z) σ)
            refine ⟨hww, ?_⟩
            split at e'
            · rename_i ds1 Γ4 s4 et
              split at e'
              · rename_i ac5 Γ5 s5 ed
                refine hi1 _ w2 σ3 Γ2 s' _ _ W2 N3 et fun w4 W4 N4 l4 J1 It1 => ?_
                have l14 : Le w1 w4 := (l'.trans l2).trans l4
                obtain ⟨t1, t2⟩ := two N4 l14 hww
                refine ⟨fun j m H => ∃ w' Γ' s' es ac, w'.H = H ∧ Wd Y (upd B L (.dT es)) w' s' ∧ EnvR K (upd B L (.dT es)) w' (wipe σ3 own1) (wipeE Γ' own1) ∧ EnvR K (upd B L (.dT es)) w' (wipe σ own) (wipeE Γ' own) ∧ EnvR K (upd B L (.dT es)) w' σ (backE Γ1 Γ' own) ∧ Le w4 w' ∧ RpT K w'.F es ac ∧ m = ds1.length - j ∧ j ≤ ds1.length ∧ dcG1 T1 own1 gk (ds1.drop j) ac Γ' s' = some (ac5, Γ5, s5),
                  ⟨ds1.length, w4, Γ4, s4, es, ac, rfl, W4, N4.wipe own1, t1, t2, .refl _, ra.mono (l2.trans l4).F, rfl, Nat.zero_le _, by rw [List.drop_zero]; exact ed⟩, ?_⟩
                rintro j m H ⟨w6, Γ6, s6, es6, ac6, rfl, W6, N6, N6a, N6b, l6, ra6, rfl, hle6, e6⟩
                by_cases hlt1 : j < ds1.length
                · have hd1 : ds1[j]? = some ds1[j] := List.getElem?_eq_getElem hlt1
                  rw [List.drop_eq_getElem_cons hlt1] at e6
                  unfold dcG1 at e6
                  split at e6
                  · cases e6
                  · rename_i Γ7 eb7
                    refine .inr ⟨(It1 w6.F w6.H l6.F W6.sF j).1 hlt1, fun H => ∃ w' Γ' s' es ac, w'.H = H ∧ Wd Y (upd B L (.dT es)) w' s' ∧ EnvR K (upd B L (.dT es)) w' (wipe σ3 own1) (wipeE Γ' own1) ∧ EnvR K (upd B L (.dT es)) w' (wipe σ own) (wipeE Γ' own) ∧ EnvR K (upd B L (.dT es)) w' σ (backE Γ1 Γ' own) ∧ Le w4 w' ∧ RpT K w'.F es ac ∧ dcG1 T1 own1 gk (ds1.drop (j + 1)) ac Γ' s' = some (ac5, Γ5, s5),
                      fun H' ⟨w2, Γ2, s2, es2, ac2, h1, h2, h3, h3', h3'', h4, h5, h6⟩ => ⟨ds1.length - (j + 1), by omega, w2, Γ2, s2, es2, ac2, h1, h2, h3, h3', h3'', h4, h5, rfl, hlt1, h6⟩, fun x7 H7 y7 => ?_⟩
                    obtain ⟨w7, rfl, W7, N7, l7, r7⟩ := it_turn It1 W6 N6 l6.F y7 hd1
                    refine hg1 _ w7 _ _ Γ7 s6 x7 _ _ W7 N7 r7 eb7 fun σ8 N8 hw8 => ?_
                    have hw1 : wipe σ8 own1 = wipe σ3 own1 := (hw8 own1 hs1).trans (wipe_sub2 (fun _ z => z) σ3)
                    have hw0 : wipe σ8 own = wipe σ own := (hw8 own fun i hi => ho i (hs1 i hi)).trans ((wipe_sub2 ho σ3).trans hww)
                    refine ⟨hw1, ?_⟩
                    split at e6
                    · rename_i ks Γ9 s9 ek
                      split at e6
                      · rename_i k ekk
                        split at e6
                        · rename_i hz
                          refine hk _ w7 σ8 Γ7 s6 _ _ W7 N8 ek fun w9 W9 N9 l9 v rv => ?_
                          cases (show Rp K w9.F v (.tuple ks) from rv) with
                          | tup hb rk =>
                            have := key_v rk ekk
                            subst this
                            have hL9 : w9.H L = some (.dT es6) := W9.sB L _ upd_same
                            have ra9 : RpT K w9.F es6 ac6 := ra6.mono (l7.trans l9).F
                            refine ⟨es6, k, _, rfl, hL9, W9.sF _ _ hb, by rw [ra6.len]; exact sizeOk_lt hz, ?_⟩
                            have W10 := W9.bump (o' := .dT (putK es6 k (.bl true))) fun _ z => nomatch z
                            have N10 := N9.bump (o' := .dT (putK es6 k (.bl true)))
                            have l19 : Le w1 w9 := (l14.trans l6).trans (l7.trans l9)
                            have l49 : Le w4 w9 := l6.trans (l7.trans l9)
                            obtain ⟨q1, q2⟩ := two (w4 := { w9 with H := upd w9.H L (.dT (putK es6 k (.bl true))) }) N10 ⟨l19.F, l19.et⟩ hw0
                            exact ⟨{ w9 with H := upd w9.H L (.dT (putK es6 k (.bl true))) }, Γ9, s9, _, _, rfl, W10, by rw [← hw1]; exact N10.wipe own1, q1, q2, ⟨l49.F, l49.et⟩, ra9.put (.bl true), e6⟩
                        · cases e6
                      · cases e6
                    · cases e6
                · have ej : j = ds1.length := by omega
                  subst ej
                  rw [List.drop_length] at e6
                  cases e6
                  exact .inl ⟨(It1 w6.F w6.H l6.F W6.sF _).2.1 (Nat.le_refl _), w6, _, _, es6, _, rfl, W6, N6a, N6b, l14.trans l6, ra6, e'⟩
              · cases e'
            · cases e'
        · have ei : i = ds.length := by omega
          subst ei
          rw [List.drop_length] at e'
          cases e'
          exact .inl ⟨(It w'.F w'.H l'.F W'.sF _).2.1 (Nat.le_refl _), p w' (W'.weak (upd_sm bL)) (Nb.weak (upd_sm bL)) (l.trans l') _ (heldDict bL W' Nb ra)⟩
      · cases e
end
section
variable {Y : Sys} {X : Cx} {W : WX} {K : PySem.W.Frag} {kx : Expr} {pos p : Pos} {gk : GE Y} {tk : TE}
theorem me_dispT {b : Expr} (hu : X.A.units < cLine) (hk : ME Y X W kx tk gk) (hb : PE X b (tC (.bl true))) : ME Y X W (.Dict [some kx] [b] pos) (tDispT tk (tC (.bl true))) (gDispT gk) :=
  ⟨pe_dispT hu hk.pe hb, eok_dispT hk.ok⟩
theorem me_dc2 {t0 i0 t1 i1 vx : Expr} {scope : Scope} {own : List (Str × Nat)} {own1 : List Nat} {wi wi1 : TI} {gi gi1 : GI Y} {g g1 : TG} {T T1 : Tg} (hc : X.calm = true) (hN : X.N.Nodup) (hu : X.A.units < cLine) (hi : MI Y X W t0 i0 wi gi) (ok : BlkOk X.N X.env.scope scope own)
    (hg : ∀ (s : Shared) (H : Hp) (C : Addr) (cl : List (Str × Addr)) (fp : List Addr), MG Y (X.blk s H scope (compEnvC scope cl C X.env) fp) t0 g T)
    (hi1 : ∀ (s : Shared) (H : Hp) (C : Addr) (cl : List (Str × Addr)) (fp : List Addr), MI Y (X.blk s H scope (compEnvC scope cl C X.env) fp) W0 t1 i1 wi1 gi1)
    (hg1 : ∀ (s : Shared) (H : Hp) (C : Addr) (cl : List (Str × Addr)) (fp : List Addr), MG Y (X.blk s H scope (compEnvC scope cl C X.env) fp) t1 g1 T1)
    (hk : ∀ (s : Shared) (H : Hp) (C : Addr) (cl : List (Str × Addr)) (fp : List Addr), ME Y (X.blk s H scope (compEnvC scope cl C X.env) fp) W0 kx tk gk)
    (hb : ∀ (s : Shared) (H : Hp) (C : Addr) (cl : List (Str × Addr)) (fp : List Addr), PE (X.blk s H scope (compEnvC scope cl C X.env) fp) vx (tC (.bl true)))
    (hs : ∀ i ∈ T.sl, i ∈ own.map (·.2)) (hs1 : ∀ i ∈ T1.sl, i ∈ own1) (ho : ∀ i ∈ own1, i ∈ own.map (·.2)) (hf : ∀ x, foldedSetIterable i0 X.env x = pure x := by intro _; rfl) (hf1 : ∀ env x, foldedSetIterable i1 env x = pure x := by intro _ _; rfl) :
    ME Y X W (.DictComp kx vx [⟨t0, i0, [], 0⟩, ⟨t1, i1, [], 0⟩] scope pos) (tDc2 wi g wi1 g1 tk (tC (.bl true)) (own.map (·.2)) own1) (gDc2 T (own.map (·.2)) T1 own1 gi gi1 gk) :=
  ⟨pe_dc2 hc hN hu hi.pe ok ho (fun s H C cl fp => (hg s H C cl fp).pe) (fun s H C cl fp => (hi1 s H C cl fp).pe) (fun s H C cl fp => (hg1 s H C cl fp).pe) (fun s H C cl fp => (hk s H C cl fp).pe) hb hf hf1,
    eok_dc2 hi.ok (hg X.s_0 X.H_0 0 [] []).ok (hi1 X.s_0 X.H_0 0 [] []).ok (hg1 X.s_0 X.H_0 0 [] []).ok (hk X.s_0 X.H_0 0 [] []).ok hs hs1 ho⟩
end
end FX
set_option Elab.async false
set_option linter.all false
set_option maxRecDepth 100000
set_option maxHeartbeats 1000000
namespace FX
open PySem PySem.Spec L2
section
variable {sa : Addr} {ns : List Int} {T : List (Addr × Str)} {X : Cx} {W : WX} {o k : Expr} {pos p p2 : Pos} {te tk : TE} {i : Nat} {K : PySem.W.Frag}
def gSlSC (i : Nat) (n : Int) : GE (ClY K sa ns T) := fun Γ s => match Γ[i]? with
  | some (some (.raw (.ref a))) => if a = sa then some (.ok (.o (.list (cutD (ns.map PyData.int) none (some n)))), Γ, s) else none
  | _ => none
theorem me_slSCK {n : Int} (hK : X.K = K) (ho : PE X o (tVar i)) (hk : PE X k (tC (.int n))) : ME (ClY K sa ns T) X W (.Subscript o (.Slice none (some k) none p2) pos) (tSl (rSl3 K) (tVar i) tNoPart (tPart (tC (.int n)))) (gSlSC i n) := by
  subst hK
  refine ⟨pe_slice sl3 ho po_none (po_some hk), fun B w σ Γ s out Q Wh N e p => ?_⟩
  unfold gSlSC at e
  split at e
  · rename_i a hi
    split at e
    · rename_i ha
      cases e
      obtain ⟨x, hx, rfl⟩ := N.sl i _ hi
      have z := rz_use (z := .nw (.list (cutD (ns.map PyData.int) none (some n)))) (Q := Q) Wh N (.refl _) p
      refine ⟨_, hx, n, rfl, .inl ⟨a, ns.map V.int, rfl, by rw [ha]; exact cl_script Wh.rel, fun q nq => ?_⟩⟩
      exact z q _ nq (RpA.cut (rpa_ints (K := X.K) (F := w.F) ns) none (some n))
    · cases e
  · cases e
theorem me_srtVK {Y : Sys} {e : Expr} {g : GE Y} (hK : X.K = K) (hc : X.calm = true) (hu : X.A.units + 65 < cLine) (hg : Gl X "sorted") (hm : X.mg "sorted" = none) (h : ME Y X W e te g)
    (he : starEach (e :: []) X.env = (false, eval e X.env) :: starEach [] X.env := by rfl) (hpl : (backTo pos (starEach [] X.env)).any (·.1) = false := by rfl) :
    ME Y X W (.Call (.Name "sorted" p) [e] [] pos) (tCB (rSortedT K) (tCons te tNil)) (gSrtV g) := by
  subst hK
  exact me_srtV hc hu hg hm h he hpl
end
end FX
set_option Elab.async false
set_option linter.all false
set_option maxRecDepth 100000
namespace FX
open PySem
def et_NoLeague : Str → Option Bool := fun z => if z = PySem.Str.ofString "NoEnd" then some false else if z = PySem.Str.ofString "NoLeague" then some true else if z = PySem.Str.ofString "NoMatch" then some false else if z = PySem.Str.ofString "NoName" then some false else if z = PySem.Str.ofString "NoNumber" then some false else if z = PySem.Str.ofString "NoOutcome" then some false else if z = PySem.Str.ofString "NoPlayer" then some false else if z = PySem.Str.ofString "NoPoints" then some false else if z = PySem.Str.ofString "NoRow" then some false else if z = PySem.Str.ofString "NoText" then some false else if z = PySem.Str.ofString "TooMany" then some false else none
end FX
namespace FX.Pg
noncomputable section
open PySem PySem.Spec L2 FX
def b_is_whole {Y : Sys} : GS Y :=
  (sRet (gTyEq "int" (gV 0)))
theorem x_is_whole {Y : Sys} : ∃ m : Fm Y, m = mOf 1 b_is_whole := ⟨_, rfl⟩
def m_is_whole {Y : Sys} : Fm Y := Classical.choose (x_is_whole)
theorem q_is_whole {Y : Sys} : m_is_whole = mOf (Y := Y) 1 b_is_whole := Classical.choose_spec (x_is_whole)
def b_is_player {Y : Sys} : GS Y :=
  (sRet (gAndV (gFn 1 m_is_whole (gK (gEsc (gV 0)) gN)) (gChain fLe fLt (gC (.int 0)) (gV 0) (gV 1))))
theorem x_is_player {Y : Sys} : ∃ m : Fm Y, m = mOf 2 b_is_player := ⟨_, rfl⟩
def m_is_player {Y : Sys} : Fm Y := Classical.choose (x_is_player)
theorem q_is_player {Y : Sys} : m_is_player = mOf (Y := Y) 2 b_is_player := Classical.choose_spec (x_is_player)
def b_is_tuple_of {Y : Sys} : GS Y :=
  (sRet (gAndV (gTyEq "tuple" (gV 0)) (gBin fEq (gCall fLen (gK (gV 0) gN)) (gV 1))))
theorem x_is_tuple_of {Y : Sys} : ∃ m : Fm Y, m = mOf 2 b_is_tuple_of := ⟨_, rfl⟩
def m_is_tuple_of {Y : Sys} : Fm Y := Classical.choose (x_is_tuple_of)
theorem q_is_tuple_of {Y : Sys} : m_is_tuple_of = mOf (Y := Y) 2 b_is_tuple_of := Classical.choose_spec (x_is_tuple_of)
def b_is_match {Y : Sys} : GS Y :=
  (sRet (gAndV (gFn 2 m_is_player (gK (gEsc (gV 1)) (gK (gEsc (gV 0)) gN))) (gAndV (gFn 2 m_is_player (gK (gEsc (gV 2)) (gK (gEsc (gV 0)) gN))) (gBin fLt (gV 1) (gV 2)))))
theorem x_is_match {Y : Sys} : ∃ m : Fm Y, m = mOf 3 b_is_match := ⟨_, rfl⟩
def m_is_match {Y : Sys} : Fm Y := Classical.choose (x_is_match)
theorem q_is_match {Y : Sys} : m_is_match = mOf (Y := Y) 3 b_is_match := Classical.choose_spec (x_is_match)
def b_is_outcome {Y : Sys} : GS Y :=
  (sSeq (sIf (gTst (gBin fIsN (gV 3) (gC .none))) (sRet (gBin fEq (gV 0) (gC (.str (PySem.Str.ofString "ties"))))) sNil)
  (sRet (gAndV (gFn 1 m_is_whole (gK (gEsc (gV 3)) gN)) (gBin fIn2 (gV 3) (FX.gTup (gK (gEsc (gV 1)) (gK (gEsc (gV 2)) gN)))))))
theorem x_is_outcome {Y : Sys} : ∃ m : Fm Y, m = mOf 4 b_is_outcome := ⟨_, rfl⟩
def m_is_outcome {Y : Sys} : Fm Y := Classical.choose (x_is_outcome)
theorem q_is_outcome {Y : Sys} : m_is_outcome = mOf (Y := Y) 4 b_is_outcome := Classical.choose_spec (x_is_outcome)
def b__is_played {Y : Sys} : GS Y :=
  (sSeq (sIf (gNot (gTst (gFn 2 m_is_tuple_of (gK (gEsc (gV 2)) (gK (gEsc (gC (.int 3))) gN))))) (sRet (gC (.bool false))) sNil)
  (sSeq (sUnp (.cons (.n 3) (.cons (.n 4) (.cons (.n 5) .nil))) (gV 2))
  (sRet (gAndV (gFn 3 m_is_match (gK (gEsc (gV 1)) (gK (gEsc (gV 3)) (gK (gEsc (gV 4)) gN)))) (gFn 4 m_is_outcome (gK (gEsc (gV 0)) (gK (gEsc (gV 3)) (gK (gEsc (gV 4)) (gK (gEsc (gV 5)) gN)))))))))
theorem x__is_played {Y : Sys} : ∃ m : Fm Y, m = mOf 6 b__is_played := ⟨_, rfl⟩
def m__is_played {Y : Sys} : Fm Y := Classical.choose (x__is_played)
theorem q__is_played {Y : Sys} : m__is_played = mOf (Y := Y) 6 b__is_played := Classical.choose_spec (x__is_played)
def l__are_played_1 {Y : Sys} : GS Y :=
  (sSeq (sIf (gNot (gTst (gFn 3 m__is_played (gK (gEsc (gV 0)) (gK (gEsc (gV 1)) (gK (gEsc (gV 4)) gN)))))) (sRet (gC (.bool false))) sNil)
  (sSeq (sUnp (.cons (.n 5) (.cons (.n 6) (.cons (.n 7) .nil))) (gV 4))
  (sSeq (sIf (gTst (gBin fLe (FX.gTup (gK (gEsc (gV 5)) (gK (gEsc (gV 6)) gN))) (gV 3))) (sRet (gC (.bool false))) sNil)
  (sSet 3 (FX.gTup (gK (gEsc (gV 5)) (gK (gEsc (gV 6)) gN)))))))
def b__are_played {Y : Sys} : GS Y :=
  (sSeq (sSet 3 (FX.gTup (gK (gEsc (gUn fNeg (gC (.int 1)))) (gK (gEsc (gUn fNeg (gC (.int 1)))) gN))))
  (sSeq (sFor (.n 4) (gItL (gV 2)) l__are_played_1)
  (sRet (gC (.bool true)))))
theorem x__are_played {Y : Sys} : ∃ m : Fm Y, m = mOf 8 b__are_played := ⟨_, rfl⟩
def m__are_played {Y : Sys} : Fm Y := Classical.choose (x__are_played)
theorem q__are_played {Y : Sys} : m__are_played = mOf (Y := Y) 8 b__are_played := Classical.choose_spec (x__are_played)
def t_WORTHS : Str → Option D := fun z => if z = PySem.Str.ofString "plain" then some (.int 1) else if z = PySem.Str.ofString "ties" then some (.int 2) else none
def b_is_league {Y : Sys} : GS Y :=
  (sSeq (sIf (gNot (gTst (gFn 2 m_is_tuple_of (gK (gEsc (gV 0)) (gK (gEsc (gC (.int 3))) gN))))) (sRet (gC (.bool false))) sNil)
  (sSeq (sUnp (.cons (.n 1) (.cons (.n 2) (.cons (.n 3) .nil))) (gV 0))
  (sSeq (sIf (gOr (gTst (gTyNe "str" (gV 1))) (gTst (gUn (fKNotIn t_WORTHS) (gV 1)))) (sRet (gC (.bool false))) sNil)
  (sSeq (sIf (gOr (gNot (gTst (gFn 1 m_is_whole (gK (gEsc (gV 2)) gN)))) (gNot (gTst (gChain fLe fLe (gC (.int 2)) (gV 2) (gC (.int 6)))))) (sRet (gC (.bool false))) sNil)
  (sRet (gAndV (gTyEq "list" (gV 3)) (gFn 3 m__are_played (gK (gEsc (gV 1)) (gK (gEsc (gV 2)) (gK (gEsc (gV 3)) gN))))))))))
theorem x_is_league {Y : Sys} : ∃ m : Fm Y, m = mOf 4 b_is_league := ⟨_, rfl⟩
def m_is_league {Y : Sys} : Fm Y := Classical.choose (x_is_league)
theorem q_is_league {Y : Sys} : m_is_league = mOf (Y := Y) 4 b_is_league := Classical.choose_spec (x_is_league)
def b_check_league {Y : Sys} : GS Y :=
  (sIf (gNot (gTst (gFn 1 m_is_league (gK (gEsc (gV 0)) gN)))) (sRaise (PySem.Str.ofString "NoLeague")) sNil)
theorem x_check_league {Y : Sys} : ∃ m : Fm Y, m = mOf 1 b_check_league := ⟨_, rfl⟩
def m_check_league {Y : Sys} : Fm Y := Classical.choose (x_check_league)
theorem q_check_league {Y : Sys} : m_check_league = mOf (Y := Y) 1 b_check_league := Classical.choose_spec (x_check_league)
def b_shares_of {Y : Sys} : GS Y :=
  (sSeq (sIf (gTst (gBin fIsN (gV 2) (gC .none))) (sRet (FX.gTup (gK (gEsc (gC (.int 1))) (gK (gEsc (gC (.int 1))) gN)))) sNil)
  (sSeq (sIf (gTst (gBin fEq (gV 2) (gV 1))) (sRet (FX.gTup (gK (gEsc (gUn (fKGet t_WORTHS) (gV 0))) (gK (gEsc (gC (.int 0))) gN)))) sNil)
  (sRet (FX.gTup (gK (gEsc (gC (.int 0))) (gK (gEsc (gUn (fKGet t_WORTHS) (gV 0))) gN))))))
theorem x_shares_of {Y : Sys} : ∃ m : Fm Y, m = mOf 3 b_shares_of := ⟨_, rfl⟩
def m_shares_of {Y : Sys} : Fm Y := Classical.choose (x_shares_of)
theorem q_shares_of {Y : Sys} : m_shares_of = mOf (Y := Y) 3 b_shares_of := Classical.choose_spec (x_shares_of)
def b_points_behind {Y : Sys} : GS Y :=
  (sSeq (sUnp (.cons (.n 4) (.cons (.n 5) .nil)) (gV 3))
  (sSeq (sSet 6 (gCall fList (gK (gV 0) gN)))
  (sSeq (sUpd 6 (fun i j => i + j) (gV 1) (gV 4))
  (sSeq (sUpd 6 (fun i j => i + j) (gV 2) (gV 5))
  (sRet (gCall fTup (gK (gV 6) gN)))))))
theorem x_points_behind {Y : Sys} : ∃ m : Fm Y, m = mOf 7 b_points_behind := ⟨_, rfl⟩
def m_points_behind {Y : Sys} : Fm Y := Classical.choose (x_points_behind)
theorem q_points_behind {Y : Sys} : m_points_behind = mOf (Y := Y) 7 b_points_behind := Classical.choose_spec (x_points_behind)
def e_matches_left_2 {Y : Sys} : GE Y :=
  (gEsc (FX.gTup (gK (gEsc (gV 5)) (gK (gEsc (gV 6)) gN))))
def e_matches_left_3 {Y : Sys} : GE Y :=
  (gEsc (gV 7))
def t_matches_left_4 {Y : Sys} : GT Y :=
  (gTst (gBin fNotIn2 (gV 7) (gV 4)))
def b_matches_left {Y : Sys} : GS Y :=
  (sSeq (sDrop (gFn 1 m_check_league (gK (gEsc (gV 0)) gN)))
  (sSeq (sUnp (.cons (.n 1) (.cons (.n 2) (.cons (.n 3) .nil))) (gV 0))
  (sSeq (sSet 4 (gComp (.t (.cons (.n 5) (.cons (.n 6) (.cons (.n 1) .nil)))) [5, 6, 1] (gItL (gV 3)) gYes e_matches_left_2))
  (sRet (gComp (.n 7) [7] (gCmb (gV 2) (gC (.int 2))) t_matches_left_4 e_matches_left_3)))))
theorem x_matches_left {Y : Sys} : ∃ m : Fm Y, m = mOf 8 b_matches_left := ⟨_, rfl⟩
def m_matches_left {Y : Sys} : Fm Y := Classical.choose (x_matches_left)
theorem q_matches_left {Y : Sys} : m_matches_left = mOf (Y := Y) 8 b_matches_left := Classical.choose_spec (x_matches_left)
def l_points_had_1 {Y : Sys} : GS Y :=
  (sSet 4 (gFn 4 m_points_behind (gK (gEsc (gV 4)) (gK (gEsc (gV 5)) (gK (gEsc (gV 6)) (gK (gEsc (gFn 3 m_shares_of (gK (gEsc (gV 1)) (gK (gEsc (gV 5)) (gK (gEsc (gV 7)) gN))))) gN))))))
def b_points_had {Y : Sys} : GS Y :=
  (sSeq (sDrop (gFn 1 m_check_league (gK (gEsc (gV 0)) gN)))
  (sSeq (sUnp (.cons (.n 1) (.cons (.n 2) (.cons (.n 3) .nil))) (gV 0))
  (sSeq (sSet 4 (gBin fMul (FX.gTup (gK (gEsc (gC (.int 0))) gN)) (gV 2)))
  (sSeq (sFor (.t (.cons (.n 5) (.cons (.n 6) (.cons (.n 7) .nil)))) (gItL (gV 3)) l_points_had_1)
  (sRet (gCall fList (gK (gV 4) gN)))))))
theorem x_points_had {Y : Sys} : ∃ m : Fm Y, m = mOf 8 b_points_had := ⟨_, rfl⟩
def m_points_had {Y : Sys} : Fm Y := Classical.choose (x_points_had)
theorem q_points_had {Y : Sys} : m_points_had = mOf (Y := Y) 8 b_points_had := Classical.choose_spec (x_points_had)
def e_outcomes_in_order_1 {Y : Sys} : GE Y :=
  (gEsc (gV 3))
def t_outcomes_in_order_2 {Y : Sys} : GT Y :=
  (gTst (gFn 4 m_is_outcome (gK (gEsc (gV 0)) (gK (gEsc (gV 1)) (gK (gEsc (gV 2)) (gK (gEsc (gV 3)) gN))))))
def b_outcomes_in_order {Y : Sys} : GS Y :=
  (sRet (gComp (.n 3) [3] (gItT (FX.gTup (gK (gEsc (gV 1)) (gK (gEsc (gC .none)) (gK (gEsc (gV 2)) gN))))) t_outcomes_in_order_2 e_outcomes_in_order_1))
theorem x_outcomes_in_order {Y : Sys} : ∃ m : Fm Y, m = mOf 4 b_outcomes_in_order := ⟨_, rfl⟩
def m_outcomes_in_order {Y : Sys} : Fm Y := Classical.choose (x_outcomes_in_order)
theorem q_outcomes_in_order {Y : Sys} : m_outcomes_in_order = mOf (Y := Y) 4 b_outcomes_in_order := Classical.choose_spec (x_outcomes_in_order)
def t__law_draws_1 {K : PySem.W.Frag} {sa : Addr} {ns : List Int} {tb : List (Addr × Str)} : GT (ClY K sa ns tb) :=
  (gAnd (gTst (gBin fGt (gV 6) (gC (.int 0)))) (gTst (gBin fLt (gCall fLen (gK (gV 2) gN)) (gV 1))))
def l__law_draws_2 {K : PySem.W.Frag} {sa : Addr} {ns : List Int} {tb : List (Addr × Str)} : GS (ClY K sa ns tb) :=
  (sSeq (sDrop (gApp 2 (gBin fMod (gV 6) (gC (.int 10007)))))
  (sSet 6 (gBin fDiv (gV 6) (gC (.int 10007)))))
def l__law_draws_3 {K : PySem.W.Frag} {sa : Addr} {ns : List Int} {tb : List (Addr × Str)} : GS (ClY K sa ns tb) :=
  (sSeq (sSet 6 (gCall fAbs (gK (gV 5) gN)))
  (sSeq (sSet 3 (gBin fMod (gBin fAdd (gBin fMul (gV 3) (gC (.int 31))) (gV 6)) (gC (.int 2147483629))))
  (sIf (gTst (gBin fGe (gV 6) (gBin fPow (gC (.int 10)) (gC (.int 18))))) (whileG t__law_draws_1 l__law_draws_2 1000) (sSeq (sSet 7 (gBin fMod (gBin fMul (gBin fAdd (gBin fAdd (gBin fMod (gV 6) (gC (.int 2147483647))) (gV 4)) (gC (.int 1))) (gC (.int 48271))) (gC (.int 2147483647))))
  (sSeq (sSet 7 (gBin fMod (gBin fMul (gV 7) (gV 7)) (gC (.int 2147483629))))
  (sSeq (sDrop (gApp 2 (gBin fMod (gBin fDiv (gV 7) (gC (.int 8))) (gC (.int 10007)))))
  (sSeq (sSet 7 (gBin fMod (gBin fAdd (gBin fAdd (gBin fMul (gV 7) (gC (.int 40692))) (gBin fMul (gC (.int 2)) (gV 4))) (gC (.int 1))) (gC (.int 2147483563))))
  (sSeq (sSet 7 (gBin fMod (gBin fMul (gV 7) (gV 7)) (gC (.int 2147483647))))
  (sDrop (gApp 2 (gBin fMod (gBin fDiv (gV 7) (gC (.int 8))) (gC (.int 10007)))))))))))))
def l__law_draws_4 {K : PySem.W.Frag} {sa : Addr} {ns : List Int} {tb : List (Addr × Str)} : GS (ClY K sa ns tb) :=
  (sSeq (sSet 7 (gBin fMod (gBin fAdd (gBin fAdd (gV 3) (gBin fMul (gC (.int 7919)) (gV 4))) (gC (.int 13))) (gC (.int 2147483629))))
  (sSeq (sSet 7 (gBin fMod (gBin fMul (gV 7) (gV 7)) (gC (.int 2147483647))))
  (sSeq (sSet 7 (gBin fMod (gBin fAdd (gBin fMul (gV 7) (gC (.int 69621))) (gV 4)) (gC (.int 2147483563))))
  (sDrop (gApp 2 (gBin fMod (gBin fDiv (gBin fMod (gBin fMul (gV 7) (gV 7)) (gC (.int 2147483629))) (gC (.int 8))) (gC (.int 10007))))))))
def b__law_draws {K : PySem.W.Frag} {sa : Addr} {ns : List Int} {tb : List (Addr × Str)} : GS (ClY K sa ns tb) :=
  (sSeq (sSet 2 (gLst gN))
  (sSeq (sSet 3 (gC (.int 7)))
  (sSeq (sFor (.t (.cons (.n 4) (.cons (.n 5) .nil))) (gEnm (gK (gEsc (gSlSC 0 63)) gN)) l__law_draws_3)
  (sSeq (sFor (.n 4) (gRg1 (gK (gBin fSub (gV 1) (gCall fLen (gK (gV 2) gN))) gN)) l__law_draws_4)
  (sRet (gV 2))))))
theorem x__law_draws {K : PySem.W.Frag} {sa : Addr} {ns : List Int} {tb : List (Addr × Str)} : ∃ m : Fm (ClY K sa ns tb), m = mOf 8 b__law_draws := ⟨_, rfl⟩
def m__law_draws {K : PySem.W.Frag} {sa : Addr} {ns : List Int} {tb : List (Addr × Str)} : Fm (ClY K sa ns tb) := Classical.choose (x__law_draws)
theorem q__law_draws {K : PySem.W.Frag} {sa : Addr} {ns : List Int} {tb : List (Addr × Str)} : m__law_draws = mOf (Y := (ClY K sa ns tb)) 8 b__law_draws := Classical.choose_spec (x__law_draws)
def b__law_take {K : PySem.W.Frag} {sa : Addr} {ns : List Int} {tb : List (Addr × Str)} : GS (ClY K sa ns tb) :=
  (sSeq (sPutC 0 (gC (.int 1)) (gBin fAdd (gIxC 0 (gC (.int 1))) (gC (.int 1))))
  (sRet (gBin fMod (gBin fIx (gIxC 0 (gC (.int 0))) (gBin fMod (gBin fSub (gIxC 0 (gC (.int 1))) (gC (.int 1))) (gCall fLen (gK (gIxC 0 (gC (.int 0))) gN)))) (gV 1))))
theorem x__law_take {K : PySem.W.Frag} {sa : Addr} {ns : List Int} {tb : List (Addr × Str)} : ∃ m : Fm (ClY K sa ns tb), m = mOf 2 b__law_take := ⟨_, rfl⟩
def m__law_take {K : PySem.W.Frag} {sa : Addr} {ns : List Int} {tb : List (Addr × Str)} : Fm (ClY K sa ns tb) := Classical.choose (x__law_take)
theorem q__law_take {K : PySem.W.Frag} {sa : Addr} {ns : List Int} {tb : List (Addr × Str)} : m__law_take = mOf (Y := (ClY K sa ns tb)) 2 b__law_take := Classical.choose_spec (x__law_take)
def e__law_options_3 {Y : Sys} : GE Y :=
  (gEsc (gV 11))
def t__law_options_4 {Y : Sys} : GT Y :=
  (gTst (gBin fEq (FX.gTup (gK (gEsc (gV 9)) (gK (gEsc (gV 10)) gN))) (FX.gTup (gK (gEsc (gV 5)) (gK (gEsc (gV 6)) gN)))))
def e__law_options_5 {Y : Sys} : GE Y :=
  (gEsc (gV 9))
def t__law_options_6 {Y : Sys} : GT Y :=
  (gTst (gBin fEq (gBin fIx (gV 9) (gC (.int 0))) (gBin fIx (gV 8) (gC (.int 0)))))
def l__law_options_7 {Y : Sys} : GS Y :=
  (sSeq (sSet 7 (gLst (gK (gEsc (FX.gTup (gK (gEsc (gV 5)) (gK (gEsc (gC (.int 1))) (gK (gEsc (gC (.int 0))) gN))))) (gK (gEsc (FX.gTup (gK (gEsc (gV 6)) (gK (gEsc (gC (.int 0))) (gK (gEsc (gC (.int 1))) gN))))) gN))))
  (sSeq (sIf (gTst (gBin fEq (gV 1) (gC (.str (PySem.Str.ofString "ties"))))) (sSet 7 (gLst (gK (gEsc (FX.gTup (gK (gEsc (gV 5)) (gK (gEsc (gC (.int 2))) (gK (gEsc (gC (.int 0))) gN))))) (gK (gEsc (FX.gTup (gK (gEsc (gC .none)) (gK (gEsc (gC (.int 1))) (gK (gEsc (gC (.int 1))) gN))))) (gK (gEsc (FX.gTup (gK (gEsc (gV 6)) (gK (gEsc (gC (.int 0))) (gK (gEsc (gC (.int 2))) gN))))) gN))))) sNil)
  (sSeq (sSet 8 (gComp (.t (.cons (.n 9) (.cons (.n 10) (.cons (.n 11) .nil)))) [9, 10, 11] (gItL (gV 3)) t__law_options_4 e__law_options_3))
  (sSeq (sIf (gTst (gBin fNe (gV 8) (gLst gN))) (sSet 7 (gComp (.n 9) [9] (gItL (gV 7)) t__law_options_6 e__law_options_5)) sNil)
  (sDrop (gApp 4 (FX.gTup (gK (gEsc (gV 5)) (gK (gEsc (gV 6)) (gK (gEsc (gV 7)) gN))))))))))
def l__law_options_8 {Y : Sys} : GS Y :=
  (sFor (.n 6) (gRg2 (gK (gBin fAdd (gV 5) (gC (.int 1))) (gK (gV 2) gN))) l__law_options_7)
def b__law_options {Y : Sys} : GS Y :=
  (sSeq (sUnp (.cons (.n 1) (.cons (.n 2) (.cons (.n 3) .nil))) (gV 0))
  (sSeq (sSet 4 (gLst gN))
  (sSeq (sFor (.n 5) (gRg1 (gK (gV 2) gN)) l__law_options_8)
  (sRet (gV 4)))))
theorem x__law_options {Y : Sys} : ∃ m : Fm Y, m = mOf 12 b__law_options := ⟨_, rfl⟩
def m__law_options {Y : Sys} : Fm Y := Classical.choose (x__law_options)
theorem q__law_options {Y : Sys} : m__law_options = mOf (Y := Y) 12 b__law_options := Classical.choose_spec (x__law_options)
def l__law_drawn_end_1 {K : PySem.W.Frag} {sa : Addr} {ns : List Int} {tb : List (Addr × Str)} : GS (ClY K sa ns tb) :=
  (sDrop (gApp 2 (FX.gTup (gK (gEsc (gV 3)) (gK (gEsc (gV 4)) (gK (gEsc (gBin fIx (gBin fIx (gV 5) (gFn 2 m__law_take (gK (gEsc (gV 0)) (gK (gEsc (gCall fLen (gK (gV 5) gN))) gN)))) (gC (.int 0)))) gN))))))
def b__law_drawn_end {K : PySem.W.Frag} {sa : Addr} {ns : List Int} {tb : List (Addr × Str)} : GS (ClY K sa ns tb) :=
  (sSeq (sSet 2 (gLst gN))
  (sSeq (sFor (.t (.cons (.n 3) (.cons (.n 4) (.cons (.n 5) .nil)))) (gItL (gFn 1 m__law_options (gK (gEsc (gV 1)) gN))) l__law_drawn_end_1)
  (sRet (FX.gTup (gK (gEsc (gBin fIx (gV 1) (gC (.int 0)))) (gK (gEsc (gBin fIx (gV 1) (gC (.int 1)))) (gK (gEsc (gV 2)) gN)))))))
theorem x__law_drawn_end {K : PySem.W.Frag} {sa : Addr} {ns : List Int} {tb : List (Addr × Str)} : ∃ m : Fm (ClY K sa ns tb), m = mOf 6 b__law_drawn_end := ⟨_, rfl⟩
def m__law_drawn_end {K : PySem.W.Frag} {sa : Addr} {ns : List Int} {tb : List (Addr × Str)} : Fm (ClY K sa ns tb) := Classical.choose (x__law_drawn_end)
theorem q__law_drawn_end {K : PySem.W.Frag} {sa : Addr} {ns : List Int} {tb : List (Addr × Str)} : m__law_drawn_end = mOf (Y := (ClY K sa ns tb)) 6 b__law_drawn_end := Classical.choose_spec (x__law_drawn_end)
def l__law_league_1 {K : PySem.W.Frag} {sa : Addr} {ns : List Int} {tb : List (Addr × Str)} : GS (ClY K sa ns tb) :=
  (sIf (gTst (gBin fLt (gFn 2 m__law_take (gK (gEsc (gV 0)) (gK (gEsc (gC (.int 10))) gN))) (gV 4))) (sDrop (gApp 5 (gV 6))) sNil)
def b__law_league {K : PySem.W.Frag} {sa : Addr} {ns : List Int} {tb : List (Addr × Str)} : GS (ClY K sa ns tb) :=
  (sSeq (sSet 1 (gFn 2 m__law_take (gK (gEsc (gV 0)) (gK (gEsc (gC (.int 10007))) gN))))
  (sSeq (sSet 2 (gBin fIx (gLst (gK (gEsc (gC (.str (PySem.Str.ofString "plain")))) (gK (gEsc (gC (.str (PySem.Str.ofString "ties")))) gN))) (gBin fMod (gV 1) (gC (.int 2)))))
  (sSeq (sSet 3 (gBin fIx (gLst (gK (gEsc (gBin fAdd (gC (.int 2)) (gBin fMod (gBin fDiv (gV 1) (gC (.int 2))) (gC (.int 5))))) (gK (gEsc (gC (.int 6))) (gK (gEsc (gBin fAdd (gC (.int 3)) (gBin fMod (gBin fDiv (gV 1) (gC (.int 2))) (gC (.int 4))))) gN)))) (gFn 2 m__law_take (gK (gEsc (gV 0)) (gK (gEsc (gC (.int 3))) gN)))))
  (sSeq (sSet 4 (gBin fIx (gLst (gK (gEsc (gC (.int 0))) (gK (gEsc (gC (.int 2))) (gK (gEsc (gC (.int 5))) (gK (gEsc (gC (.int 8))) gN))))) (gFn 2 m__law_take (gK (gEsc (gV 0)) (gK (gEsc (gC (.int 4))) gN)))))
  (sSeq (sSet 5 (gLst gN))
  (sSeq (sFor (.n 6) (gItL (gBin fIx (gFn 2 m__law_drawn_end (gK (gEsc (gV 0)) (gK (gEsc (FX.gTup (gK (gEsc (gV 2)) (gK (gEsc (gV 3)) (gK (gEsc (gLst gN)) gN))))) gN))) (gC (.int 2)))) l__law_league_1)
  (sRet (FX.gTup (gK (gEsc (gV 2)) (gK (gEsc (gV 3)) (gK (gEsc (gV 5)) gN)))))))))))
theorem x__law_league {K : PySem.W.Frag} {sa : Addr} {ns : List Int} {tb : List (Addr × Str)} : ∃ m : Fm (ClY K sa ns tb), m = mOf 7 b__law_league := ⟨_, rfl⟩
def m__law_league {K : PySem.W.Frag} {sa : Addr} {ns : List Int} {tb : List (Addr × Str)} : Fm (ClY K sa ns tb) := Classical.choose (x__law_league)
theorem q__law_league {K : PySem.W.Frag} {sa : Addr} {ns : List Int} {tb : List (Addr × Str)} : m__law_league = mOf (Y := (ClY K sa ns tb)) 7 b__law_league := Classical.choose_spec (x__law_league)
def b__law_copy {Y : Sys} : GS Y :=
  (sRet (FX.gTup (gK (gEsc (gBin fIx (gV 0) (gC (.int 0)))) (gK (gEsc (gBin fIx (gV 0) (gC (.int 1)))) (gK (gEsc (gCall fList (gK (gBin fIx (gV 0) (gC (.int 2))) gN))) gN)))))
theorem x__law_copy {Y : Sys} : ∃ m : Fm Y, m = mOf 1 b__law_copy := ⟨_, rfl⟩
def m__law_copy {Y : Sys} : Fm Y := Classical.choose (x__law_copy)
theorem q__law_copy {Y : Sys} : m__law_copy = mOf (Y := Y) 1 b__law_copy := Classical.choose_spec (x__law_copy)
def b__points_at_first {Y : Sys} : GS Y :=
  (sRet (gEscT (gDispT (gCall fTup (gK (gFn 1 m_points_had (gK (gEsc (gV 0)) gN)) gN)))))
theorem x__points_at_first {Y : Sys} : ∃ m : Fm Y, m = mOf 1 b__points_at_first := ⟨_, rfl⟩
def m__points_at_first {Y : Sys} : Fm Y := Classical.choose (x__points_at_first)
theorem q__points_at_first {Y : Sys} : m__points_at_first = mOf (Y := Y) 1 b__points_at_first := Classical.choose_spec (x__points_at_first)
def e__points_after_2 {Y : Sys} : GE Y :=
  (gEsc (gFn 3 m_shares_of (gK (gEsc (gV 0)) (gK (gEsc (gV 3)) (gK (gEsc (gV 6)) gN)))))
def e__points_after_3 {Y : Sys} : GE Y :=
  (gFn 4 m_points_behind (gK (gEsc (gV 7)) (gK (gEsc (gV 3)) (gK (gEsc (gV 4)) (gK (gEsc (gV 8)) gN)))))
def b__points_after {Y : Sys} : GS Y :=
  (sSeq (sUnp (.cons (.n 3) (.cons (.n 4) .nil)) (gV 2))
  (sSeq (sSet 5 (gComp (.n 6) [6] (gItL (gFn 3 m_outcomes_in_order (gK (gEsc (gV 0)) (gK (gEsc (gV 3)) (gK (gEsc (gV 4)) gN))))) gYes e__points_after_2))
  (sRet (gEscT (gDc2 (.n 7) [7, 8] (.n 8) [8] (gItD (gV 1)) (gItL (gV 5)) e__points_after_3)))))
theorem x__points_after {Y : Sys} : ∃ m : Fm Y, m = mOf 9 b__points_after := ⟨_, rfl⟩
def m__points_after {Y : Sys} : Fm Y := Classical.choose (x__points_after)
theorem q__points_after {Y : Sys} : m__points_after = mOf (Y := Y) 9 b__points_after := Classical.choose_spec (x__points_after)
def l_count_points_1 {Y : Sys} : GS Y :=
  (sSet 1 (gFn 3 m__points_after (gK (gEsc (gBin fIx (gV 0) (gC (.int 0)))) (gK (gEsc (gV 1)) (gK (gEsc (gV 2)) gN)))))
def b_count_points {Y : Sys} : GS Y :=
  (sSeq (sDrop (gFn 1 m_check_league (gK (gEsc (gV 0)) gN)))
  (sSeq (sSet 1 (gFn 1 m__points_at_first (gK (gEsc (gV 0)) gN)))
  (sSeq (sFor (.n 2) (gItL (gFn 1 m_matches_left (gK (gEsc (gV 0)) gN))) l_count_points_1)
  (sRet (gLenT (gV 1))))))
theorem x_count_points {Y : Sys} : ∃ m : Fm Y, m = mOf 3 b_count_points := ⟨_, rfl⟩
def m_count_points {Y : Sys} : Fm Y := Classical.choose (x_count_points)
theorem q_count_points {Y : Sys} : m_count_points = mOf (Y := Y) 3 b_count_points := Classical.choose_spec (x_count_points)
def e__law_small_3 {K : PySem.W.Frag} {sa : Addr} {ns : List Int} {tb : List (Addr × Str)} : GE (ClY K sa ns tb) :=
  (gEsc (gV 8))
def t__law_small_4 {K : PySem.W.Frag} {sa : Addr} {ns : List Int} {tb : List (Addr × Str)} : GT (ClY K sa ns tb) :=
  (gTst (gBin fNotIn2 (gV 8) (gV 4)))
def t__law_small_5 {K : PySem.W.Frag} {sa : Addr} {ns : List Int} {tb : List (Addr × Str)} : GT (ClY K sa ns tb) :=
  (gTst (gBin fGt (gCall fLen (gK (gV 6) gN)) (gV 7)))
def l__law_small_6 {K : PySem.W.Frag} {sa : Addr} {ns : List Int} {tb : List (Addr × Str)} : GS (ClY K sa ns tb) :=
  (sDrop (gPop1 6 (gFn 2 m__law_take (gK (gEsc (gV 0)) (gK (gEsc (gCall fLen (gK (gV 6) gN))) gN)))))
def e__law_small_7 {K : PySem.W.Frag} {sa : Addr} {ns : List Int} {tb : List (Addr × Str)} : GE (ClY K sa ns tb) :=
  (gEsc (gV 8))
def t__law_small_8 {K : PySem.W.Frag} {sa : Addr} {ns : List Int} {tb : List (Addr × Str)} : GT (ClY K sa ns tb) :=
  (gTst (gBin fNotIn2 (gV 8) (gV 6)))
def b__law_small {K : PySem.W.Frag} {sa : Addr} {ns : List Int} {tb : List (Addr × Str)} : GS (ClY K sa ns tb) :=
  (sSeq (sUnp (.cons (.n 2) (.cons (.n 3) (.cons (.n 4) .nil))) (gV 1))
  (sSeq (sSet 5 (gBin fIx (gFn 2 m__law_drawn_end (gK (gEsc (gV 0)) (gK (gEsc (gV 1)) gN))) (gC (.int 2))))
  (sSeq (sSet 6 (gComp (.n 8) [8] (gItL (gV 5)) t__law_small_4 e__law_small_3))
  (sSeq (sSet 7 (gFn 2 m__law_take (gK (gEsc (gV 0)) (gK (gEsc (gC (.int 6))) gN))))
  (sSeq (whileG t__law_small_5 l__law_small_6 1000)
  (sRet (FX.gTup (gK (gEsc (gV 2)) (gK (gEsc (gV 3)) (gK (gEsc (gComp (.n 8) [8] (gItL (gV 5)) t__law_small_8 e__law_small_7)) gN))))))))))
theorem x__law_small {K : PySem.W.Frag} {sa : Addr} {ns : List Int} {tb : List (Addr × Str)} : ∃ m : Fm (ClY K sa ns tb), m = mOf 9 b__law_small := ⟨_, rfl⟩
def m__law_small {K : PySem.W.Frag} {sa : Addr} {ns : List Int} {tb : List (Addr × Str)} : Fm (ClY K sa ns tb) := Classical.choose (x__law_small)
theorem q__law_small {K : PySem.W.Frag} {sa : Addr} {ns : List Int} {tb : List (Addr × Str)} : m__law_small = mOf (Y := (ClY K sa ns tb)) 9 b__law_small := Classical.choose_spec (x__law_small)
end
end FX.Pg
set_option Elab.async false
set_option linter.all false
set_option maxRecDepth 100000
set_option maxHeartbeats 4000000
namespace FX.K25
noncomputable section
open PySem PySem.Spec L2 FX
def topS (i : Nat) : Stmt := PySem.Challenge.pw_wintold_k25_points_counted.main.body.getD i (.Pass ⟨0, 0, 0, 0⟩)
abbrev s_is_whole : Stmt := topS 5
abbrev N_is_whole : List Str := ["thing"]
theorem sc_is_whole : FnScope N_is_whole ["thing"] (defScope s_is_whole) := ⟨rfl, rfl, rfl, by decide +kernel, rfl, by decide +kernel, by decide +kernel⟩
abbrev s_is_player : Stmt := topS 6
abbrev N_is_player : List Str := ["thing", "n"]
theorem sc_is_player : FnScope N_is_player ["thing", "n"] (defScope s_is_player) := ⟨rfl, rfl, rfl, by decide +kernel, rfl, by decide +kernel, by decide +kernel⟩
abbrev s_is_tuple_of : Stmt := topS 7
abbrev N_is_tuple_of : List Str := ["thing", "size"]
theorem sc_is_tuple_of : FnScope N_is_tuple_of ["thing", "size"] (defScope s_is_tuple_of) := ⟨rfl, rfl, rfl, by decide +kernel, rfl, by decide +kernel, by decide +kernel⟩
abbrev s_is_match : Stmt := topS 15
abbrev N_is_match : List Str := ["n", "i", "j"]
theorem sc_is_match : FnScope N_is_match ["n", "i", "j"] (defScope s_is_match) := ⟨rfl, rfl, rfl, by decide +kernel, rfl, by decide +kernel, by decide +kernel⟩
abbrev s_is_outcome : Stmt := topS 16
abbrev N_is_outcome : List Str := ["kind", "i", "j", "w"]
theorem sc_is_outcome : FnScope N_is_outcome ["kind", "i", "j", "w"] (defScope s_is_outcome) := ⟨rfl, rfl, rfl, by decide +kernel, rfl, by decide +kernel, by decide +kernel⟩
abbrev s__is_played : Stmt := topS 14
abbrev N__is_played : List Str := ["kind", "n", "match", "i", "j", "w"]
theorem sc__is_played : FnScope N__is_played ["kind", "n", "match"] (defScope s__is_played) := ⟨rfl, rfl, rfl, by decide +kernel, rfl, by decide +kernel, by decide +kernel⟩
abbrev s__are_played : Stmt := topS 13
abbrev N__are_played : List Str := ["kind", "n", "played", "before", "match", "i", "j", "_"]
theorem sc__are_played : FnScope N__are_played ["kind", "n", "played"] (defScope s__are_played) := ⟨rfl, rfl, rfl, by decide +kernel, rfl, by decide +kernel, by decide +kernel⟩
abbrev s_is_league : Stmt := topS 12
abbrev N_is_league : List Str := ["thing", "kind", "n", "played"]
theorem sc_is_league : FnScope N_is_league ["thing"] (defScope s_is_league) := ⟨rfl, rfl, rfl, by decide +kernel, rfl, by decide +kernel, by decide +kernel⟩
abbrev s_check_league : Stmt := topS 17
abbrev N_check_league : List Str := ["league"]
theorem sc_check_league : FnScope N_check_league ["league"] (defScope s_check_league) := ⟨rfl, rfl, rfl, by decide +kernel, rfl, by decide +kernel, by decide +kernel⟩
abbrev s_outcomes_in_order : Stmt := topS 18
abbrev N_outcomes_in_order : List Str := ["kind", "i", "j", "w"]
theorem sc_outcomes_in_order : FnScope N_outcomes_in_order ["kind", "i", "j"] (defScope s_outcomes_in_order) := ⟨rfl, rfl, rfl, by decide +kernel, rfl, by decide +kernel, by decide +kernel⟩
abbrev s_shares_of : Stmt := topS 19
abbrev N_shares_of : List Str := ["kind", "i", "w"]
theorem sc_shares_of : FnScope N_shares_of ["kind", "i", "w"] (defScope s_shares_of) := ⟨rfl, rfl, rfl, by decide +kernel, rfl, by decide +kernel, by decide +kernel⟩
abbrev s_points_behind : Stmt := topS 20
abbrev N_points_behind : List Str := ["points", "i", "j", "shares", "to_i", "to_j", "behind"]
theorem sc_points_behind : FnScope N_points_behind ["points", "i", "j", "shares"] (defScope s_points_behind) := ⟨rfl, rfl, rfl, by decide +kernel, rfl, by decide +kernel, by decide +kernel⟩
abbrev s_matches_left : Stmt := topS 21
abbrev N_matches_left : List Str := ["league", "_", "n", "played", "done", "i", "j", "match"]
theorem sc_matches_left : FnScope N_matches_left ["league"] (defScope s_matches_left) := ⟨rfl, rfl, rfl, by decide +kernel, rfl, by decide +kernel, by decide +kernel⟩
abbrev s_points_had : Stmt := topS 22
abbrev N_points_had : List Str := ["league", "kind", "n", "played", "had", "i", "j", "w"]
theorem sc_points_had : FnScope N_points_had ["league"] (defScope s_points_had) := ⟨rfl, rfl, rfl, by decide +kernel, rfl, by decide +kernel, by decide +kernel⟩
abbrev s__points_at_first : Stmt := topS 25
abbrev N__points_at_first : List Str := ["league"]
theorem sc__points_at_first : FnScope N__points_at_first ["league"] (defScope s__points_at_first) := ⟨rfl, rfl, rfl, by decide +kernel, rfl, by decide +kernel, by decide +kernel⟩
abbrev s__points_after : Stmt := topS 26
abbrev N__points_after : List Str := ["kind", "found", "match", "i", "j", "shares", "w", "points", "share"]
theorem sc__points_after : FnScope N__points_after ["kind", "found", "match"] (defScope s__points_after) := ⟨rfl, rfl, rfl, by decide +kernel, rfl, by decide +kernel, by decide +kernel⟩
abbrev s_count_points : Stmt := topS 24
abbrev N_count_points : List Str := ["league", "found", "match"]
theorem sc_count_points : FnScope N_count_points ["league"] (defScope s_count_points) := ⟨rfl, rfl, rfl, by decide +kernel, rfl, by decide +kernel, by decide +kernel⟩
abbrev s__law_draws : Stmt := topS 28
abbrev N__law_draws : List Str := ["script", "many", "drawn", "base", "k", "cell", "number", "one"]
theorem sc__law_draws : FnScope N__law_draws ["script", "many"] (defScope s__law_draws) := ⟨rfl, rfl, rfl, by decide +kernel, rfl, by decide +kernel, by decide +kernel⟩
abbrev s__law_take : Stmt := topS 29
abbrev N__law_take : List Str := ["store", "many"]
theorem sc__law_take : FnScope N__law_take ["store", "many"] (defScope s__law_take) := ⟨rfl, rfl, rfl, by decide +kernel, rfl, by decide +kernel, by decide +kernel⟩
abbrev s__law_options : Stmt := topS 30
abbrev N__law_options : List Str := ["league", "kind", "n", "played", "found", "i", "j", "some", "own", "one", "other", "w"]
theorem sc__law_options : FnScope N__law_options ["league"] (defScope s__law_options) := ⟨rfl, rfl, rfl, by decide +kernel, rfl, by decide +kernel, by decide +kernel⟩
abbrev s__law_drawn_end : Stmt := topS 31
abbrev N__law_drawn_end : List Str := ["store", "league", "found", "i", "j", "some"]
theorem sc__law_drawn_end : FnScope N__law_drawn_end ["store", "league"] (defScope s__law_drawn_end) := ⟨rfl, rfl, rfl, by decide +kernel, rfl, by decide +kernel, by decide +kernel⟩
abbrev s__law_league : Stmt := topS 32
abbrev N__law_league : List Str := ["store", "x", "kind", "n", "often", "played", "match"]
theorem sc__law_league : FnScope N__law_league ["store"] (defScope s__law_league) := ⟨rfl, rfl, rfl, by decide +kernel, rfl, by decide +kernel, by decide +kernel⟩
abbrev s__law_copy : Stmt := topS 35
abbrev N__law_copy : List Str := ["league"]
theorem sc__law_copy : FnScope N__law_copy ["league"] (defScope s__law_copy) := ⟨rfl, rfl, rfl, by decide +kernel, rfl, by decide +kernel, by decide +kernel⟩
abbrev s__law_reach : Stmt := topS 36
abbrev N__law_reach : List Str := ["league", "found", "i", "j", "some", "more", "points", "w", "to_i", "to_j", "here"]
theorem sc__law_reach : FnScope N__law_reach ["league"] (defScope s__law_reach) := ⟨rfl, rfl, rfl, by decide +kernel, rfl, by decide +kernel, by decide +kernel⟩
abbrev s__law_small : Stmt := topS 37
abbrev N__law_small : List Str := ["store", "league", "kind", "n", "played", "end", "left", "keep", "match"]
theorem sc__law_small : FnScope N__law_small ["store", "league"] (defScope s__law_small) := ⟨rfl, rfl, rfl, by decide +kernel, rfl, by decide +kernel, by decide +kernel⟩
abbrev s_law : Stmt := topS 38
abbrev N_law : List Str := ["script", "store", "turn", "league", "handed", "due", "again", "found"]
theorem sc_law : FnScope N_law ["script"] (defScope s_law) := ⟨rfl, rfl, rfl, by decide +kernel, rfl, by decide +kernel, by decide +kernel⟩
structure Txt (K : PySem.W.Frag) (w : World) (mg : Str → Option Value) where
  a_is_whole : Addr
  d_is_whole : FuncData
  F_is_whole : Fun K "is_whole" "is_whole" s_is_whole a_is_whole d_is_whole
  g_is_whole : mg "is_whole" = some (.ref a_is_whole)
  b_is_whole : Binds K d_is_whole ["thing"] []
  a_is_player : Addr
  d_is_player : FuncData
  F_is_player : Fun K "is_player" "is_player" s_is_player a_is_player d_is_player
  g_is_player : mg "is_player" = some (.ref a_is_player)
  b_is_player : Binds K d_is_player ["thing", "n"] []
  a_is_tuple_of : Addr
  d_is_tuple_of : FuncData
  F_is_tuple_of : Fun K "is_tuple_of" "is_tuple_of" s_is_tuple_of a_is_tuple_of d_is_tuple_of
  g_is_tuple_of : mg "is_tuple_of" = some (.ref a_is_tuple_of)
  b_is_tuple_of : Binds K d_is_tuple_of ["thing", "size"] []
  a_is_match : Addr
  d_is_match : FuncData
  F_is_match : Fun K "is_match" "is_match" s_is_match a_is_match d_is_match
  g_is_match : mg "is_match" = some (.ref a_is_match)
  b_is_match : Binds K d_is_match ["n", "i", "j"] []
  a_is_outcome : Addr
  d_is_outcome : FuncData
  F_is_outcome : Fun K "is_outcome" "is_outcome" s_is_outcome a_is_outcome d_is_outcome
  g_is_outcome : mg "is_outcome" = some (.ref a_is_outcome)
  b_is_outcome : Binds K d_is_outcome ["kind", "i", "j", "w"] []
  a__is_played : Addr
  d__is_played : FuncData
  F__is_played : Fun K "_is_played" "_is_played" s__is_played a__is_played d__is_played
  g__is_played : mg "_is_played" = some (.ref a__is_played)
  b__is_played : Binds K d__is_played ["kind", "n", "match"] []
  a__are_played : Addr
  d__are_played : FuncData
  F__are_played : Fun K "_are_played" "_are_played" s__are_played a__are_played d__are_played
  g__are_played : mg "_are_played" = some (.ref a__are_played)
  b__are_played : Binds K d__are_played ["kind", "n", "played"] []
  a_is_league : Addr
  d_is_league : FuncData
  F_is_league : Fun K "is_league" "is_league" s_is_league a_is_league d_is_league
  g_is_league : mg "is_league" = some (.ref a_is_league)
  b_is_league : Binds K d_is_league ["thing"] []
  a_check_league : Addr
  d_check_league : FuncData
  F_check_league : Fun K "check_league" "check_league" s_check_league a_check_league d_check_league
  g_check_league : mg "check_league" = some (.ref a_check_league)
  b_check_league : Binds K d_check_league ["league"] []
  a_outcomes_in_order : Addr
  d_outcomes_in_order : FuncData
  F_outcomes_in_order : Fun K "outcomes_in_order" "outcomes_in_order" s_outcomes_in_order a_outcomes_in_order d_outcomes_in_order
  g_outcomes_in_order : mg "outcomes_in_order" = some (.ref a_outcomes_in_order)
  b_outcomes_in_order : Binds K d_outcomes_in_order ["kind", "i", "j"] []
  a_shares_of : Addr
  d_shares_of : FuncData
  F_shares_of : Fun K "shares_of" "shares_of" s_shares_of a_shares_of d_shares_of
  g_shares_of : mg "shares_of" = some (.ref a_shares_of)
  b_shares_of : Binds K d_shares_of ["kind", "i", "w"] []
  a_points_behind : Addr
  d_points_behind : FuncData
  F_points_behind : Fun K "points_behind" "points_behind" s_points_behind a_points_behind d_points_behind
  g_points_behind : mg "points_behind" = some (.ref a_points_behind)
  b_points_behind : Binds K d_points_behind ["points", "i", "j", "shares"] []
  a_matches_left : Addr
  d_matches_left : FuncData
  F_matches_left : Fun K "matches_left" "matches_left" s_matches_left a_matches_left d_matches_left
  g_matches_left : mg "matches_left" = some (.ref a_matches_left)
  b_matches_left : Binds K d_matches_left ["league"] []
  a_points_had : Addr
  d_points_had : FuncData
  F_points_had : Fun K "points_had" "points_had" s_points_had a_points_had d_points_had
  g_points_had : mg "points_had" = some (.ref a_points_had)
  b_points_had : Binds K d_points_had ["league"] []
  a__points_at_first : Addr
  d__points_at_first : FuncData
  F__points_at_first : Fun K "_points_at_first" "_points_at_first" s__points_at_first a__points_at_first d__points_at_first
  g__points_at_first : mg "_points_at_first" = some (.ref a__points_at_first)
  b__points_at_first : Binds K d__points_at_first ["league"] []
  a__points_after : Addr
  d__points_after : FuncData
  F__points_after : Fun K "_points_after" "_points_after" s__points_after a__points_after d__points_after
  g__points_after : mg "_points_after" = some (.ref a__points_after)
  b__points_after : Binds K d__points_after ["kind", "found", "match"] []
  a_count_points : Addr
  d_count_points : FuncData
  F_count_points : Fun K "count_points" "count_points" s_count_points a_count_points d_count_points
  g_count_points : mg "count_points" = some (.ref a_count_points)
  b_count_points : Binds K d_count_points ["league"] []
  a__law_draws : Addr
  d__law_draws : FuncData
  F__law_draws : Fun K "_law_draws" "_law_draws" s__law_draws a__law_draws d__law_draws
  g__law_draws : mg "_law_draws" = some (.ref a__law_draws)
  b__law_draws : Binds K d__law_draws ["script", "many"] []
  a__law_take : Addr
  d__law_take : FuncData
  F__law_take : Fun K "_law_take" "_law_take" s__law_take a__law_take d__law_take
  g__law_take : mg "_law_take" = some (.ref a__law_take)
  b__law_take : Binds K d__law_take ["store", "many"] []
  a__law_options : Addr
  d__law_options : FuncData
  F__law_options : Fun K "_law_options" "_law_options" s__law_options a__law_options d__law_options
  g__law_options : mg "_law_options" = some (.ref a__law_options)
  b__law_options : Binds K d__law_options ["league"] []
  a__law_drawn_end : Addr
  d__law_drawn_end : FuncData
  F__law_drawn_end : Fun K "_law_drawn_end" "_law_drawn_end" s__law_drawn_end a__law_drawn_end d__law_drawn_end
  g__law_drawn_end : mg "_law_drawn_end" = some (.ref a__law_drawn_end)
  b__law_drawn_end : Binds K d__law_drawn_end ["store", "league"] []
  a__law_league : Addr
  d__law_league : FuncData
  F__law_league : Fun K "_law_league" "_law_league" s__law_league a__law_league d__law_league
  g__law_league : mg "_law_league" = some (.ref a__law_league)
  b__law_league : Binds K d__law_league ["store"] []
  a__law_copy : Addr
  d__law_copy : FuncData
  F__law_copy : Fun K "_law_copy" "_law_copy" s__law_copy a__law_copy d__law_copy
  g__law_copy : mg "_law_copy" = some (.ref a__law_copy)
  b__law_copy : Binds K d__law_copy ["league"] []
  a__law_reach : Addr
  d__law_reach : FuncData
  F__law_reach : Fun K "_law_reach" "_law_reach" s__law_reach a__law_reach d__law_reach
  g__law_reach : mg "_law_reach" = some (.ref a__law_reach)
  b__law_reach : Binds K d__law_reach ["league"] []
  a__law_small : Addr
  d__law_small : FuncData
  F__law_small : Fun K "_law_small" "_law_small" s__law_small a__law_small d__law_small
  g__law_small : mg "_law_small" = some (.ref a__law_small)
  b__law_small : Binds K d__law_small ["store", "league"] []
  a_law : Addr
  d_law : FuncData
  F_law : Fun K "law" "law" s_law a_law d_law
  g_law : mg "law" = some (.ref a_law)
  b_law : Binds K d_law ["script"] []
  ct_FEWEST_PLAYERS : Tok
  c_FEWEST_PLAYERS : mg "FEWEST_PLAYERS" = some (.int 2 ct_FEWEST_PLAYERS)
  ct_MOST_PLAYERS : Tok
  c_MOST_PLAYERS : mg "MOST_PLAYERS" = some (.int 6 ct_MOST_PLAYERS)
  ca_WORTHS : Addr
  c_WORTHS : mg "WORTHS" = some (.ref ca_WORTHS)
  i_combinations : mg "combinations" = some (.type "itertools.combinations")
  z_abs : mg "abs" = none
  z_bool : mg "bool" = none
  z_enumerate : mg "enumerate" = none
  z_int : mg "int" = none
  z_isinstance : mg "isinstance" = none
  z_len : mg "len" = none
  z_list : mg "list" = none
  z_max : mg "max" = none
  z_min : mg "min" = none
  z_range : mg "range" = none
  z_sorted : mg "sorted" = none
  z_str : mg "str" = none
  z_tuple : mg "tuple" = none
  z_type : mg "type" = none
  ea_NoLeague : Addr
  t_WORTHS : KTab K w ca_WORTHS Pg.t_WORTHS
  eg_NoLeague : mg "NoLeague" = some (.ref ea_NoLeague)
  E_NoLeague : ErC K "NoLeague" ea_NoLeague
theorem ok_is_whole {P : Program} {w : World} {K : PySem.W.Frag} {mg : Str → Option Value} {base : Heap} {Y : Sys} (T : Txt K w mg) : FnOk P w K mg base (L2.CX P w) 1 T.a_is_whole T.d_is_whole ["thing"] (spM Y K 1 Pg.m_is_whole) := by
  rw [Pg.q_is_whole]
  exact fn_okM T.F_is_whole sc_is_whole fun cdv A outer s H E hr => ⟨_,
  (mss_one (ms_ret (me_tyEqK (K := K) rfl (T := "int") (by decide) (by rfl) T.z_type (by rfl) T.z_int (by decide +kernel) (me_name (pv 0)))))⟩
theorem ok_is_player {P : Program} {w : World} {K : PySem.W.Frag} {mg : Str → Option Value} {base : Heap} {Y : Sys} (T : Txt K w mg) : FnOk P w K mg base (L2.CX P w) 2 T.a_is_player T.d_is_player ["thing", "n"] (spM Y K 2 Pg.m_is_player) := by
  rw [Pg.q_is_player]
  exact fn_okM T.F_is_player sc_is_player fun cdv A outer s H E hr => ⟨_,
  (mss_one (ms_ret (me_and (me_fnK (K := K) rfl (ok_is_whole T) (hr.mono (by decide)) (by rfl) T.g_is_whole T.F_is_whole.kp T.b_is_whole (takes_of rfl rfl rfl rfl) (ma_cons (me_esc (me_name (pv 0))) ma_nil)) (me_one (me_chain (r := rLe2 K) (o_le hr.units0) s_le op_lt s_lt me_int (me_name (pv 0)) (me_name (pv 1)))))))⟩
theorem ok_is_tuple_of {P : Program} {w : World} {K : PySem.W.Frag} {mg : Str → Option Value} {base : Heap} {Y : Sys} (T : Txt K w mg) : FnOk P w K mg base (L2.CX P w) 1 T.a_is_tuple_of T.d_is_tuple_of ["thing", "size"] (spM Y K 2 Pg.m_is_tuple_of) := by
  rw [Pg.q_is_tuple_of]
  exact fn_okM T.F_is_tuple_of sc_is_tuple_of fun cdv A outer s H E hr => ⟨_,
  (mss_one (ms_ret (me_and (me_tyEqK (K := K) rfl (T := "tuple") (by decide) (by rfl) T.z_type (by rfl) T.z_tuple (by decide +kernel) (me_name (pv 0))) (me_one (me_cmp (r := rEqD K) (op_eqD hr.units) s_eq (me_callB (r := rLenL K) (CallR.or call_len_seq call_len_str) s_len (by rfl) T.z_len (by decide +kernel) (ma_cons (me_name (pv 0)) ma_nil)) (me_name (pv 1)) (nomark _))))))⟩
theorem ok_is_match {P : Program} {w : World} {K : PySem.W.Frag} {mg : Str → Option Value} {base : Heap} {Y : Sys} (T : Txt K w mg) : FnOk P w K mg base (L2.CX P w) 3 T.a_is_match T.d_is_match ["n", "i", "j"] (spM Y K 3 Pg.m_is_match) := by
  rw [Pg.q_is_match]
  exact fn_okM T.F_is_match sc_is_match fun cdv A outer s H E hr => ⟨_,
  (mss_one (ms_ret (me_and (me_fnK (K := K) rfl (ok_is_player T) (hr.mono (by decide)) (by rfl) T.g_is_player T.F_is_player.kp T.b_is_player (takes_of rfl rfl rfl rfl) (ma_cons (me_esc (me_name (pv 1))) (ma_cons (me_esc (me_name (pv 0))) ma_nil))) (me_and (me_fnK (K := K) rfl (ok_is_player T) (hr.mono (by decide)) (by rfl) T.g_is_player T.F_is_player.kp T.b_is_player (takes_of rfl rfl rfl rfl) (ma_cons (me_esc (me_name (pv 2))) (ma_cons (me_esc (me_name (pv 0))) ma_nil))) (me_one (me_cmp op_lt s_lt (me_name (pv 1)) (me_name (pv 2)) (nomark _)))))))⟩
theorem ok_is_outcome {P : Program} {w : World} {K : PySem.W.Frag} {mg : Str → Option Value} {base : Heap} {Y : Sys} (T : Txt K w mg) : FnOk P w K mg base (L2.CX P w) 2 T.a_is_outcome T.d_is_outcome ["kind", "i", "j", "w"] (spM Y K 4 Pg.m_is_outcome) := by
  rw [Pg.q_is_outcome]
  exact fn_okM T.F_is_outcome sc_is_outcome fun cdv A outer s H E hr => ⟨_,
  (mss_cons (ms_if (mt_cmp op_isN s_isN (me_name (pv 3)) me_non (nomark _)) (mss_one (ms_ret (me_cmp (r := rEqD K) (op_eqD hr.units) s_eq (me_name (pv 0)) me_str (nomark _)))) mss_nil)
  (mss_one (ms_ret (me_and (me_fnK (K := K) rfl (ok_is_whole T) (hr.mono (by decide)) (by rfl) T.g_is_whole T.F_is_whole.kp T.b_is_whole (takes_of rfl rfl rfl rfl) (ma_cons (me_esc (me_name (pv 3))) ma_nil)) (me_one (me_cmp (r := rIn2 K) (o_in (hu65 hr)) s_in2 (me_name (pv 3)) (me_tup (ma_cons (me_esc (me_name (pv 1))) (ma_cons (me_esc (me_name (pv 2))) ma_nil))) (by rfl)))))))⟩
theorem ok__is_played {P : Program} {w : World} {K : PySem.W.Frag} {mg : Str → Option Value} {base : Heap} {Y : Sys} (T : Txt K w mg) : FnOk P w K mg base (L2.CX P w) 4 T.a__is_played T.d__is_played ["kind", "n", "match"] (spM Y K 3 Pg.m__is_played) := by
  rw [Pg.q__is_played]
  exact fn_okM T.F__is_played sc__is_played fun cdv A outer s H E hr => ⟨_,
  (mss_cons (ms_if (mt_not (mt_val (me_fnK (K := K) rfl (ok_is_tuple_of T) (hr.mono (by decide)) (by rfl) T.g_is_tuple_of T.F_is_tuple_of.kp T.b_is_tuple_of (takes_of rfl rfl rfl rfl) (ma_cons (me_esc (me_name (pv 2))) (ma_cons (me_esc me_int) ma_nil))))) (mss_one (ms_ret me_bl)) mss_nil)
  (mss_cons (ms_unp (me_name (pv 2)) (mg_tupK (K := K) rfl (by rfl) (mgs_cons (mg_name (pg_name (i := 3) sc__is_played.nd rfl (by first | exact .inl rfl | exact .inr rfl))) (mgs_cons (mg_name (pg_name (i := 4) sc__is_played.nd rfl (by first | exact .inl rfl | exact .inr rfl))) (mgs_cons (mg_name (pg_name (i := 5) sc__is_played.nd rfl (by first | exact .inl rfl | exact .inr rfl))) mgs_nil))) (by rfl) (by rfl) (blS (blS (blS bl0)))))
  (mss_one (ms_ret (me_and (me_fnK (K := K) rfl (ok_is_match T) (hr.mono (by decide)) (by rfl) T.g_is_match T.F_is_match.kp T.b_is_match (takes_of rfl rfl rfl rfl) (ma_cons (me_esc (me_name (pv 1))) (ma_cons (me_esc (me_name (pv 3))) (ma_cons (me_esc (me_name (pv 4))) ma_nil)))) (me_one (me_fnK (K := K) rfl (ok_is_outcome T) (hr.mono (by decide)) (by rfl) T.g_is_outcome T.F_is_outcome.kp T.b_is_outcome (takes_of rfl rfl rfl rfl) (ma_cons (me_esc (me_name (pv 0))) (ma_cons (me_esc (me_name (pv 3))) (ma_cons (me_esc (me_name (pv 4))) (ma_cons (me_esc (me_name (pv 5))) ma_nil)))))))))))⟩
theorem ok__are_played {P : Program} {w : World} {K : PySem.W.Frag} {mg : Str → Option Value} {base : Heap} {Y : Sys} (T : Txt K w mg) : FnOk P w K mg base (L2.CX P w) 5 T.a__are_played T.d__are_played ["kind", "n", "played"] (spM Y K 3 Pg.m__are_played) := by
  rw [Pg.q__are_played]
  exact fn_okM T.F__are_played sc__are_played fun cdv A outer s H E hr => ⟨_,
  (mss_cons (ms_set (i := 3) sc__are_played.nd rfl (by first | exact .inl rfl | exact .inr rfl) (me_tup (ma_cons (me_esc (me_un un_neg s_neg me_int)) (ma_cons (me_esc (me_un un_neg s_neg me_int)) ma_nil))))
  (mss_cons (ms_for (passes_of rfl) (by rfl) (mi_listK (K := K) rfl (me_name (pv 2))) (mg_name (pg_name (i := 4) sc__are_played.nd rfl (by first | exact .inl rfl | exact .inr rfl))) (mss_cons (ms_if (mt_not (mt_val (me_fnK (K := K) rfl (ok__is_played T) (hr.mono (by decide)) (by rfl) T.g__is_played T.F__is_played.kp T.b__is_played (takes_of rfl rfl rfl rfl) (ma_cons (me_esc (me_name (pv 0))) (ma_cons (me_esc (me_name (pv 1))) (ma_cons (me_esc (me_name (pv 4))) ma_nil)))))) (mss_one (ms_ret me_bl)) mss_nil)
  (mss_cons (ms_unp (me_name (pv 4)) (mg_tupK (K := K) rfl (by rfl) (mgs_cons (mg_name (pg_name (i := 5) sc__are_played.nd rfl (by first | exact .inl rfl | exact .inr rfl))) (mgs_cons (mg_name (pg_name (i := 6) sc__are_played.nd rfl (by first | exact .inl rfl | exact .inr rfl))) (mgs_cons (mg_name (pg_name (i := 7) sc__are_played.nd rfl (by first | exact .inl rfl | exact .inr rfl))) mgs_nil))) (by rfl) (by rfl) (blS (blS (blS bl0)))))
  (mss_cons (ms_if (mt_cmp (r := rLe2 K) (o_le hr.units0) s_le (me_tup (ma_cons (me_esc (me_name (pv 5))) (ma_cons (me_esc (me_name (pv 6))) ma_nil))) (me_name (pv 3)) (nomark _)) (mss_one (ms_ret me_bl)) mss_nil)
  (mss_one (ms_set (i := 3) sc__are_played.nd rfl (by first | exact .inl rfl | exact .inr rfl) (me_tup (ma_cons (me_esc (me_name (pv 5))) (ma_cons (me_esc (me_name (pv 6))) ma_nil)))))))))
  (mss_one (ms_ret me_bl))))⟩
theorem ok_is_league {P : Program} {w : World} {K : PySem.W.Frag} {mg : Str → Option Value} {base : Heap} {Y : Sys} (T : Txt K w mg) : FnOk P w K mg base (L2.CX P w) 6 T.a_is_league T.d_is_league ["thing"] (spM Y K 1 Pg.m_is_league) := by
  rw [Pg.q_is_league]
  exact fn_okM T.F_is_league sc_is_league fun cdv A outer s H E hr => ⟨_,
  (mss_cons (ms_if (mt_not (mt_val (me_fnK (K := K) rfl (ok_is_tuple_of T) (hr.mono (by decide)) (by rfl) T.g_is_tuple_of T.F_is_tuple_of.kp T.b_is_tuple_of (takes_of rfl rfl rfl rfl) (ma_cons (me_esc (me_name (pv 0))) (ma_cons (me_esc me_int) ma_nil))))) (mss_one (ms_ret me_bl)) mss_nil)
  (mss_cons (ms_unp (me_name (pv 0)) (mg_tupK (K := K) rfl (by rfl) (mgs_cons (mg_name (pg_name (i := 1) sc_is_league.nd rfl (by first | exact .inl rfl | exact .inr rfl))) (mgs_cons (mg_name (pg_name (i := 2) sc_is_league.nd rfl (by first | exact .inl rfl | exact .inr rfl))) (mgs_cons (mg_name (pg_name (i := 3) sc_is_league.nd rfl (by first | exact .inl rfl | exact .inr rfl))) mgs_nil))) (by rfl) (by rfl) (blS (blS (blS bl0)))))
  (mss_cons (ms_if (mt_w (mw_or (mt_tyNeK (K := K) rfl (T := "str") (by decide) (by rfl) T.z_type (by rfl) T.z_str (by decide +kernel) (me_name (pv 1))) (mw_or1 (mt_kNotIn T.t_WORTHS (pe_glob (by rfl) T.c_WORTHS rfl) (me_name (pv 1)))))) (mss_one (ms_ret me_bl)) mss_nil)
  (mss_cons (ms_if (mt_w (mw_or (mt_not (mt_val (me_fnK (K := K) rfl (ok_is_whole T) (hr.mono (by decide)) (by rfl) T.g_is_whole T.F_is_whole.kp T.b_is_whole (takes_of rfl rfl rfl rfl) (ma_cons (me_esc (me_name (pv 2))) ma_nil)))) (mw_or1 (mt_not (mt_chain (r := rLe2 K) (r' := rLe2 K) (o_le hr.units0) s_le (o_le hr.units0) s_le (me_const (v := .int 2) (pe_glob (by rfl) T.c_FEWEST_PLAYERS ⟨_, rfl⟩) fun _ => .int _) (me_name (pv 2)) (me_const (v := .int 6) (pe_glob (by rfl) T.c_MOST_PLAYERS ⟨_, rfl⟩) fun _ => .int _)))))) (mss_one (ms_ret me_bl)) mss_nil)
  (mss_one (ms_ret (me_and (me_tyEqK (K := K) rfl (T := "list") (by decide) (by rfl) T.z_type (by rfl) T.z_list (by decide +kernel) (me_name (pv 3))) (me_one (me_fnK (K := K) rfl (ok__are_played T) (hr.mono (by decide)) (by rfl) T.g__are_played T.F__are_played.kp T.b__are_played (takes_of rfl rfl rfl rfl) (ma_cons (me_esc (me_name (pv 1))) (ma_cons (me_esc (me_name (pv 2))) (ma_cons (me_esc (me_name (pv 3))) ma_nil))))))))))))⟩
theorem ok_check_league {P : Program} {w : World} {K : PySem.W.Frag} {mg : Str → Option Value} {base : Heap} {Y : Sys} (T : Txt K w mg) : FnOk P w K mg base (L2.CX P w) 7 T.a_check_league T.d_check_league ["league"] (spM Y K 1 Pg.m_check_league) := by
  rw [Pg.q_check_league]
  exact fn_okM T.F_check_league sc_check_league fun cdv A outer s H E hr => ⟨_,
  (mss_one (ms_if (mt_not (mt_val (me_fnK (K := K) rfl (ok_is_league T) (hr.mono (by decide)) (by rfl) T.g_is_league T.F_is_league.kp T.b_is_league (takes_of rfl rfl rfl rfl) (ma_cons (me_esc (me_name (pv 0))) ma_nil)))) (mss_one (ms_raiseN rfl (takes_of rfl rfl rfl rfl) T.E_NoLeague T.eg_NoLeague (by rfl))) mss_nil))⟩
theorem ok_outcomes_in_order {P : Program} {w : World} {K : PySem.W.Frag} {mg : Str → Option Value} {base : Heap} {Y : Sys} (T : Txt K w mg) : FnOk P w K mg base (L2.CX P w) 3 T.a_outcomes_in_order T.d_outcomes_in_order ["kind", "i", "j"] (spM Y K 3 Pg.m_outcomes_in_order) := by
  rw [Pg.q_outcomes_in_order]
  exact fn_okM T.F_outcomes_in_order sc_outcomes_in_order fun cdv A outer s H E hr => ⟨_,
  (mss_one (ms_ret (me_lcif (own := [("w", 3)]) (by rfl) sc_outcomes_in_order.nd (mi_tupK (K := K) rfl (me_tup (ma_cons (me_esc (me_name (pv 1))) (ma_cons (me_esc me_non) (ma_cons (me_esc (me_name (pv 2))) ma_nil))))) (blkOk_by (own := [("w", 3)]) (N := N_outcomes_in_order) (sc := defScope s_outcomes_in_order) (by decide +kernel)) (fun _ _ _ _ _ => by exact (mg_name (pg_name (i := 3) sc_outcomes_in_order.nd rfl (by first | exact .inl rfl | exact .inr rfl)))) (fun _ _ _ _ _ => by exact (mt_val (me_fnK (K := K) rfl (ok_is_outcome T) (hr.mono (by decide)) (by rfl) T.g_is_outcome T.F_is_outcome.kp T.b_is_outcome takes0 (ma_cons (me_esc (me_name (pv 0))) (ma_cons (me_esc (me_name (pv 1))) (ma_cons (me_esc (me_name (pv 2))) (ma_cons (me_esc (me_name (pv 3))) ma_nil))))))) (fun _ _ _ _ _ => by exact (me_esc (me_name (pv 3)))) (by decide))))⟩
theorem ok_shares_of {P : Program} {w : World} {K : PySem.W.Frag} {mg : Str → Option Value} {base : Heap} {Y : Sys} (T : Txt K w mg) : FnOk P w K mg base (L2.CX P w) 1 T.a_shares_of T.d_shares_of ["kind", "i", "w"] (spM Y K 3 Pg.m_shares_of) := by
  rw [Pg.q_shares_of]
  exact fn_okM T.F_shares_of sc_shares_of fun cdv A outer s H E hr => ⟨_,
  (mss_cons (ms_if (mt_cmp op_isN s_isN (me_name (pv 2)) me_non (nomark _)) (mss_one (ms_ret (me_tup (ma_cons (me_esc me_int) (ma_cons (me_esc me_int) ma_nil))))) mss_nil)
  (mss_cons (ms_if (mt_cmp (r := rEqD K) (op_eqD hr.units) s_eq (me_name (pv 2)) (me_name (pv 1)) (nomark _)) (mss_one (ms_ret (me_tup (ma_cons (me_esc (me_kGetK (K := K) (w := w) rfl rfl T.t_WORTHS (pe_glob (by rfl) T.c_WORTHS rfl) (me_name (pv 0)) (fun _ _ => rfl))) (ma_cons (me_esc me_int) ma_nil))))) mss_nil)
  (mss_one (ms_ret (me_tup (ma_cons (me_esc me_int) (ma_cons (me_esc (me_kGetK (K := K) (w := w) rfl rfl T.t_WORTHS (pe_glob (by rfl) T.c_WORTHS rfl) (me_name (pv 0)) (fun _ _ => rfl))) ma_nil)))))))⟩
theorem ok_points_behind {P : Program} {w : World} {K : PySem.W.Frag} {mg : Str → Option Value} {base : Heap} {Y : Sys} (T : Txt K w mg) : FnOk P w K mg base (L2.CX P w) 1 T.a_points_behind T.d_points_behind ["points", "i", "j", "shares"] (spM Y K 4 Pg.m_points_behind) := by
  rw [Pg.q_points_behind]
  exact fn_okM T.F_points_behind sc_points_behind fun cdv A outer s H E hr => ⟨_,
  (mss_cons (ms_unp (me_name (pv 3)) (mg_tupK (K := K) rfl (by rfl) (mgs_cons (mg_name (pg_name (i := 4) sc_points_behind.nd rfl (by first | exact .inl rfl | exact .inr rfl))) (mgs_cons (mg_name (pg_name (i := 5) sc_points_behind.nd rfl (by first | exact .inl rfl | exact .inr rfl))) mgs_nil)) (by rfl) (by rfl) (blS (blS bl0))))
  (mss_cons (ms_set (i := 6) sc_points_behind.nd rfl (by first | exact .inl rfl | exact .inr rfl) (me_callTy (r := rListO K) call_list_of s_list (by rfl) T.z_list (by decide +kernel) (ma_cons (me_name (pv 0)) ma_nil)))
  (mss_cons (ms_upd ip_add (pv 6) (me_name (pv 1)) (me_name (pv 4)))
  (mss_cons (ms_upd ip_add (pv 6) (me_name (pv 2)) (me_name (pv 5)))
  (mss_one (ms_ret (me_callTy (r := rTupO K) call_tuple_of s_tup (by rfl) T.z_tuple (by decide +kernel) (ma_cons (me_name (pv 6)) ma_nil))))))))⟩
theorem ok_matches_left {P : Program} {w : World} {K : PySem.W.Frag} {mg : Str → Option Value} {base : Heap} {Y : Sys} (T : Txt K w mg) : FnOk P w K mg base (L2.CX P w) 8 T.a_matches_left T.d_matches_left ["league"] (spM Y K 1 Pg.m_matches_left) := by
  rw [Pg.q_matches_left]
  exact fn_okM T.F_matches_left sc_matches_left fun cdv A outer s H E hr => ⟨_,
  (mss_cons (ms_expr (me_fnK (K := K) rfl (ok_check_league T) (hr.mono (by decide)) (by rfl) T.g_check_league T.F_check_league.kp T.b_check_league (takes_of rfl rfl rfl rfl) (ma_cons (me_esc (me_name (pv 0))) ma_nil)))
  (mss_cons (ms_unp (me_name (pv 0)) (mg_tupK (K := K) rfl (by rfl) (mgs_cons (mg_name (pg_name (i := 1) sc_matches_left.nd rfl (by first | exact .inl rfl | exact .inr rfl))) (mgs_cons (mg_name (pg_name (i := 2) sc_matches_left.nd rfl (by first | exact .inl rfl | exact .inr rfl))) (mgs_cons (mg_name (pg_name (i := 3) sc_matches_left.nd rfl (by first | exact .inl rfl | exact .inr rfl))) mgs_nil))) (by rfl) (by rfl) (blS (blS (blS bl0)))))
  (mss_cons (ms_set (i := 4) sc_matches_left.nd rfl (by first | exact .inl rfl | exact .inr rfl) (me_lc (own := [("i", 5), ("j", 6), ("_", 1)]) (by rfl) sc_matches_left.nd (mi_listK (K := K) rfl (me_name (pv 3))) (blkOk_by (own := [("i", 5), ("j", 6), ("_", 1)]) (N := N_matches_left) (sc := defScope s_matches_left) (by decide +kernel)) (fun _ _ _ _ _ => by exact (mg_tupK (K := K) rfl (by rfl) (mgs_cons (mg_name (pg_name (i := 5) sc_matches_left.nd rfl (by first | exact .inl rfl | exact .inr rfl))) (mgs_cons (mg_name (pg_name (i := 6) sc_matches_left.nd rfl (by first | exact .inl rfl | exact .inr rfl))) (mgs_cons (mg_name (pg_name (i := 1) sc_matches_left.nd rfl (by first | exact .inl rfl | exact .inr rfl))) mgs_nil))) (by rfl) (by rfl) (blS (blS (blS bl0))))) (fun _ _ _ _ _ => by exact (me_esc (me_tup (ma_cons (me_esc (me_name (pv 5))) (ma_cons (me_esc (me_name (pv 6))) ma_nil))))) (by decide)))
  (mss_one (ms_ret (me_lcif (own := [("match", 7)]) (by rfl) sc_matches_left.nd (mi_comb (by rfl) T.i_combinations (by rfl) (by rfl) T.z_range (me_name (pv 2)) me_int) (blkOk_by (own := [("match", 7)]) (N := N_matches_left) (sc := defScope s_matches_left) (by decide +kernel)) (fun _ _ _ _ _ => by exact (mg_name (pg_name (i := 7) sc_matches_left.nd rfl (by first | exact .inl rfl | exact .inr rfl)))) (fun _ _ _ _ _ => by exact (mt_cmp (r := rNotIn2 K) (o_notIn (hu65 hr)) s_notIn2 (me_name (pv 7)) (me_name (pv 4)) (by rfl))) (fun _ _ _ _ _ => by exact (me_esc (me_name (pv 7)))) (by decide)))))))⟩
theorem ok_points_had {P : Program} {w : World} {K : PySem.W.Frag} {mg : Str → Option Value} {base : Heap} {Y : Sys} (T : Txt K w mg) : FnOk P w K mg base (L2.CX P w) 8 T.a_points_had T.d_points_had ["league"] (spM Y K 1 Pg.m_points_had) := by
  rw [Pg.q_points_had]
  exact fn_okM T.F_points_had sc_points_had fun cdv A outer s H E hr => ⟨_,
  (mss_cons (ms_expr (me_fnK (K := K) rfl (ok_check_league T) (hr.mono (by decide)) (by rfl) T.g_check_league T.F_check_league.kp T.b_check_league (takes_of rfl rfl rfl rfl) (ma_cons (me_esc (me_name (pv 0))) ma_nil)))
  (mss_cons (ms_unp (me_name (pv 0)) (mg_tupK (K := K) rfl (by rfl) (mgs_cons (mg_name (pg_name (i := 1) sc_points_had.nd rfl (by first | exact .inl rfl | exact .inr rfl))) (mgs_cons (mg_name (pg_name (i := 2) sc_points_had.nd rfl (by first | exact .inl rfl | exact .inr rfl))) (mgs_cons (mg_name (pg_name (i := 3) sc_points_had.nd rfl (by first | exact .inl rfl | exact .inr rfl))) mgs_nil))) (by rfl) (by rfl) (blS (blS (blS bl0)))))
  (mss_cons (ms_set (i := 4) sc_points_had.nd rfl (by first | exact .inl rfl | exact .inr rfl) (me_bin o_mul s_mul (me_tup (ma_cons (me_esc me_int) ma_nil)) (me_name (pv 2))))
  (mss_cons (ms_for (passes_of rfl) (by rfl) (mi_listK (K := K) rfl (me_name (pv 3))) (mg_tupK (K := K) rfl (by rfl) (mgs_cons (mg_name (pg_name (i := 5) sc_points_had.nd rfl (by first | exact .inl rfl | exact .inr rfl))) (mgs_cons (mg_name (pg_name (i := 6) sc_points_had.nd rfl (by first | exact .inl rfl | exact .inr rfl))) (mgs_cons (mg_name (pg_name (i := 7) sc_points_had.nd rfl (by first | exact .inl rfl | exact .inr rfl))) mgs_nil))) (by rfl) (by rfl) (blS (blS (blS bl0)))) (mss_one (ms_set (i := 4) sc_points_had.nd rfl (by first | exact .inl rfl | exact .inr rfl) (me_fnK (K := K) rfl (ok_points_behind T) (hr.mono (by decide)) (by rfl) T.g_points_behind T.F_points_behind.kp T.b_points_behind (takes_of rfl rfl rfl rfl) (ma_cons (me_esc (me_name (pv 4))) (ma_cons (me_esc (me_name (pv 5))) (ma_cons (me_esc (me_name (pv 6))) (ma_cons (me_esc (me_fnK (K := K) rfl (ok_shares_of T) (hr.mono (by decide)) (by rfl) T.g_shares_of T.F_shares_of.kp T.b_shares_of (takes_of rfl rfl rfl rfl) (ma_cons (me_esc (me_name (pv 1))) (ma_cons (me_esc (me_name (pv 5))) (ma_cons (me_esc (me_name (pv 7))) ma_nil))))) ma_nil))))))))
  (mss_one (ms_ret (me_callTy (r := rListO K) call_list_of s_list (by rfl) T.z_list (by decide +kernel) (ma_cons (me_name (pv 4)) ma_nil))))))))⟩
theorem ok__points_at_first {P : Program} {w : World} {K : PySem.W.Frag} {mg : Str → Option Value} {base : Heap} {Y : Sys} (T : Txt K w mg) : FnOk P w K mg base (L2.CX P w) 9 T.a__points_at_first T.d__points_at_first ["league"] (spM Y K 1 Pg.m__points_at_first) := by
  rw [Pg.q__points_at_first]
  exact fn_okM T.F__points_at_first sc__points_at_first fun cdv A outer s H E hr => ⟨_,
  (mss_one (ms_ret (me_escT (me_dispT hr.units0 (me_callTy (r := rTupO K) call_tuple_of s_tup (by rfl) T.z_tuple (by decide +kernel) (ma_cons (me_fnK (K := K) rfl (ok_points_had T) (hr.mono (by decide)) (by rfl) T.g_points_had T.F_points_had.kp T.b_points_had (takes_of rfl rfl rfl rfl) (ma_cons (me_esc (me_name (pv 0))) ma_nil)) ma_nil)) (me_bl (Y := Y0) (W := W0)).pe))))⟩
theorem ok__points_after {P : Program} {w : World} {K : PySem.W.Frag} {mg : Str → Option Value} {base : Heap} {Y : Sys} (T : Txt K w mg) : FnOk P w K mg base (L2.CX P w) 4 T.a__points_after T.d__points_after ["kind", "found", "match"] (spM Y K 3 Pg.m__points_after) := by
  rw [Pg.q__points_after]
  exact fn_okM T.F__points_after sc__points_after fun cdv A outer s H E hr => ⟨_,
  (mss_cons (ms_unp (me_name (pv 2)) (mg_tupK (K := K) rfl (by rfl) (mgs_cons (mg_name (pg_name (i := 3) sc__points_after.nd rfl (by first | exact .inl rfl | exact .inr rfl))) (mgs_cons (mg_name (pg_name (i := 4) sc__points_after.nd rfl (by first | exact .inl rfl | exact .inr rfl))) mgs_nil)) (by rfl) (by rfl) (blS (blS bl0))))
  (mss_cons (ms_set (i := 5) sc__points_after.nd rfl (by first | exact .inl rfl | exact .inr rfl) (me_lc (own := [("w", 6)]) (by rfl) sc__points_after.nd (mi_listK (K := K) rfl (me_fnK (K := K) rfl (ok_outcomes_in_order T) (hr.mono (by decide)) (by rfl) T.g_outcomes_in_order T.F_outcomes_in_order.kp T.b_outcomes_in_order (takes_of rfl rfl rfl rfl) (ma_cons (me_esc (me_name (pv 0))) (ma_cons (me_esc (me_name (pv 3))) (ma_cons (me_esc (me_name (pv 4))) ma_nil))))) (blkOk_by (own := [("w", 6)]) (N := N__points_after) (sc := defScope s__points_after) (by decide +kernel)) (fun _ _ _ _ _ => by exact (mg_name (pg_name (i := 6) sc__points_after.nd rfl (by first | exact .inl rfl | exact .inr rfl)))) (fun _ _ _ _ _ => by exact (me_esc (me_fnK (K := K) rfl (ok_shares_of T) (hr.mono (by decide)) (by rfl) T.g_shares_of T.F_shares_of.kp T.b_shares_of takes0 (ma_cons (me_esc (me_name (pv 0))) (ma_cons (me_esc (me_name (pv 3))) (ma_cons (me_esc (me_name (pv 6))) ma_nil)))))) (by decide)))
  (mss_one (ms_ret (me_escT (me_dc2 (own := [("points", 7), ("share", 8)]) (own1 := [8]) (by rfl) sc__points_after.nd hr.units0 (mi_keysT (me_name (pv 1))) (blkOk_by (own := [("points", 7), ("share", 8)]) (N := N__points_after) (sc := defScope s__points_after) (by decide +kernel)) (fun _ _ _ _ _ => by exact (mg_name (pg_name (i := 7) sc__points_after.nd rfl (by first | exact .inl rfl | exact .inr rfl)))) (fun _ _ _ _ _ => by exact (mi_listK (K := K) rfl (me_name (pv 5)))) (fun _ _ _ _ _ => by exact (mg_name (pg_name (i := 8) sc__points_after.nd rfl (by first | exact .inl rfl | exact .inr rfl)))) (fun _ _ _ _ _ => by exact (me_fnK (K := K) rfl (ok_points_behind T) (hr.mono (by decide)) (by rfl) T.g_points_behind T.F_points_behind.kp T.b_points_behind takes0 (ma_cons (me_esc (me_name (pv 7))) (ma_cons (me_esc (me_name (pv 3))) (ma_cons (me_esc (me_name (pv 4))) (ma_cons (me_esc (me_name (pv 8))) ma_nil)))))) (fun _ _ _ _ _ => by exact (me_bl (Y := Y0) (W := W0)).pe) (by decide) (by decide) (by decide)))))))⟩
theorem ok_count_points {P : Program} {w : World} {K : PySem.W.Frag} {mg : Str → Option Value} {base : Heap} {Y : Sys} (T : Txt K w mg) : FnOk P w K mg base (L2.CX P w) 10 T.a_count_points T.d_count_points ["league"] (spM Y K 1 Pg.m_count_points) := by
  rw [Pg.q_count_points]
  exact fn_okM T.F_count_points sc_count_points fun cdv A outer s H E hr => ⟨_,
  (mss_cons (ms_expr (me_fnK (K := K) rfl (ok_check_league T) (hr.mono (by decide)) (by rfl) T.g_check_league T.F_check_league.kp T.b_check_league (takes_of rfl rfl rfl rfl) (ma_cons (me_esc (me_name (pv 0))) ma_nil)))
  (mss_cons (ms_set (i := 1) sc_count_points.nd rfl (by first | exact .inl rfl | exact .inr rfl) (me_fnK (K := K) rfl (ok__points_at_first T) (hr.mono (by decide)) (by rfl) T.g__points_at_first T.F__points_at_first.kp T.b__points_at_first (takes_of rfl rfl rfl rfl) (ma_cons (me_esc (me_name (pv 0))) ma_nil)))
  (mss_cons (ms_for (passes_of rfl) (by rfl) (mi_listK (K := K) rfl (me_fnK (K := K) rfl (ok_matches_left T) (hr.mono (by decide)) (by rfl) T.g_matches_left T.F_matches_left.kp T.b_matches_left (takes_of rfl rfl rfl rfl) (ma_cons (me_esc (me_name (pv 0))) ma_nil))) (mg_name (pg_name (i := 2) sc_count_points.nd rfl (by first | exact .inl rfl | exact .inr rfl))) (mss_one (ms_set (i := 1) sc_count_points.nd rfl (by first | exact .inl rfl | exact .inr rfl) (me_fnK (K := K) rfl (ok__points_after T) (hr.mono (by decide)) (by rfl) T.g__points_after T.F__points_after.kp T.b__points_after (takes_of rfl rfl rfl rfl) (ma_cons (me_esc (me_ix (r := rIx K) ix_seq s_ix (me_name (pv 0)) me_int (fun _ _ => rfl))) (ma_cons (me_esc (me_name (pv 1))) (ma_cons (me_esc (me_name (pv 2))) ma_nil)))))))
  (mss_one (ms_ret (me_lenT (by rfl) T.z_len (me_name (pv 1))))))))⟩
theorem ok__law_draws {P : Program} {w : World} {K : PySem.W.Frag} {mg : Str → Option Value} {base : Heap} {sa : Addr} {ns : List Int} {tb : List (Addr × Str)} (T : Txt K w mg) : FnOk P w K mg base (L2.CX P w) 1 T.a__law_draws T.d__law_draws ["script", "many"] (spM (ClY K sa ns tb) K 2 Pg.m__law_draws) := by
  rw [Pg.q__law_draws]
  exact fn_okM T.F__law_draws sc__law_draws fun cdv A outer s H E hr => ⟨_,
  (mss_cons (ms_set (i := 2) sc__law_draws.nd rfl (by first | exact .inl rfl | exact .inr rfl) (me_lst ma_nil))
  (mss_cons (ms_set (i := 3) sc__law_draws.nd rfl (by first | exact .inl rfl | exact .inr rfl) me_int)
  (mss_cons (ms_for (passes_of rfl) (by rfl) (mi_enum (by rfl) T.z_enumerate (ma_cons (me_esc (me_slSCK (K := K) rfl (pv 0) (me_int (Y := Y0) (W := W0)).pe)) ma_nil)) (mg_tupK (K := K) rfl (by rfl) (mgs_cons (mg_name (pg_name (i := 4) sc__law_draws.nd rfl (by first | exact .inl rfl | exact .inr rfl))) (mgs_cons (mg_name (pg_name (i := 5) sc__law_draws.nd rfl (by first | exact .inl rfl | exact .inr rfl))) mgs_nil)) (by rfl) (by rfl) (blS (blS bl0))) (mss_cons (ms_set (i := 6) sc__law_draws.nd rfl (by first | exact .inl rfl | exact .inr rfl) (me_callB call_abs s_abs (by rfl) T.z_abs (by decide +kernel) (ma_cons (me_name (pv 5)) ma_nil)))
  (mss_cons (ms_set (i := 3) sc__law_draws.nd rfl (by first | exact .inl rfl | exact .inr rfl) (me_bin op_modN s_mod (me_bin o_add s_add (me_bin o_mul s_mul (me_name (pv 3)) me_int) (me_name (pv 6))) me_int))
  (mss_one (ms_if (mt_cmp op_ge s_ge (me_name (pv 6)) (me_bin op_pow s_pow me_int me_int) (nomark _)) (mss_one (ms_while 1000 (passes_of rfl) (mt_w (mw_and (mt_cmp op_gt s_gt (me_name (pv 6)) me_int (nomark _)) (mw_and1 (mt_cmp op_lt s_lt (me_callB (r := rLenL K) (CallR.or call_len_seq call_len_str) s_len (by rfl) T.z_len (by decide +kernel) (ma_cons (me_name (pv 2)) ma_nil)) (me_name (pv 1)) (nomark _))))) (mss_cons (ms_expr (me_app (pv 2) (me_bin op_modN s_mod (me_name (pv 6)) me_int)))
  (mss_one (ms_set (i := 6) sc__law_draws.nd rfl (by first | exact .inl rfl | exact .inr rfl) (me_bin op_fdivN s_div (me_name (pv 6)) me_int)))))) (mss_cons (ms_set (i := 7) sc__law_draws.nd rfl (by first | exact .inl rfl | exact .inr rfl) (me_bin op_modN s_mod (me_bin o_mul s_mul (me_bin o_add s_add (me_bin o_add s_add (me_bin op_modN s_mod (me_name (pv 6)) me_int) (me_name (pv 4))) me_int) me_int) me_int))
  (mss_cons (ms_set (i := 7) sc__law_draws.nd rfl (by first | exact .inl rfl | exact .inr rfl) (me_bin op_modN s_mod (me_bin o_mul s_mul (me_name (pv 7)) (me_name (pv 7))) me_int))
  (mss_cons (ms_expr (me_app (pv 2) (me_bin op_modN s_mod (me_bin op_fdivN s_div (me_name (pv 7)) me_int) me_int)))
  (mss_cons (ms_set (i := 7) sc__law_draws.nd rfl (by first | exact .inl rfl | exact .inr rfl) (me_bin op_modN s_mod (me_bin o_add s_add (me_bin o_add s_add (me_bin o_mul s_mul (me_name (pv 7)) me_int) (me_bin o_mul s_mul me_int (me_name (pv 4)))) me_int) me_int))
  (mss_cons (ms_set (i := 7) sc__law_draws.nd rfl (by first | exact .inl rfl | exact .inr rfl) (me_bin op_modN s_mod (me_bin o_mul s_mul (me_name (pv 7)) (me_name (pv 7))) me_int))
  (mss_one (ms_expr (me_app (pv 2) (me_bin op_modN s_mod (me_bin op_fdivN s_div (me_name (pv 7)) me_int) me_int))))))))))))))
  (mss_cons (ms_for (passes_of rfl) (by rfl) (mi_range1 (by rfl) T.z_range (ma_cons (me_bin op_sub s_sub (me_name (pv 1)) (me_callB (r := rLenL K) (CallR.or call_len_seq call_len_str) s_len (by rfl) T.z_len (by decide +kernel) (ma_cons (me_name (pv 2)) ma_nil))) ma_nil)) (mg_name (pg_name (i := 4) sc__law_draws.nd rfl (by first | exact .inl rfl | exact .inr rfl))) (mss_cons (ms_set (i := 7) sc__law_draws.nd rfl (by first | exact .inl rfl | exact .inr rfl) (me_bin op_modN s_mod (me_bin o_add s_add (me_bin o_add s_add (me_name (pv 3)) (me_bin o_mul s_mul me_int (me_name (pv 4)))) me_int) me_int))
  (mss_cons (ms_set (i := 7) sc__law_draws.nd rfl (by first | exact .inl rfl | exact .inr rfl) (me_bin op_modN s_mod (me_bin o_mul s_mul (me_name (pv 7)) (me_name (pv 7))) me_int))
  (mss_cons (ms_set (i := 7) sc__law_draws.nd rfl (by first | exact .inl rfl | exact .inr rfl) (me_bin op_modN s_mod (me_bin o_add s_add (me_bin o_mul s_mul (me_name (pv 7)) me_int) (me_name (pv 4))) me_int))
  (mss_one (ms_expr (me_app (pv 2) (me_bin op_modN s_mod (me_bin op_fdivN s_div (me_bin op_modN s_mod (me_bin o_mul s_mul (me_name (pv 7)) (me_name (pv 7))) me_int) me_int) me_int))))))))
  (mss_one (ms_ret (me_name (pv 2))))))))⟩
theorem ok__law_take {P : Program} {w : World} {K : PySem.W.Frag} {mg : Str → Option Value} {base : Heap} {sa : Addr} {ns : List Int} {tb : List (Addr × Str)} (T : Txt K w mg) : FnOk P w K mg base (L2.CX P w) 1 T.a__law_take T.d__law_take ["store", "many"] (spM (ClY K sa ns tb) K 2 Pg.m__law_take) := by
  rw [Pg.q__law_take]
  exact fn_okM T.F__law_take sc__law_take fun cdv A outer s H E hr => ⟨_,
  (mss_cons (ms_putCK (K := K) rfl (pv 0) me_int (me_bin o_add s_add (me_ixCK (K := K) rfl (pv 0) me_int (fun _ _ => rfl)) me_int))
  (mss_one (ms_ret (me_bin op_modN s_mod (me_ix (r := rIx K) ix_seq s_ix (me_ixCK (K := K) rfl (pv 0) me_int (fun _ _ => rfl)) (me_bin op_modN s_mod (me_bin op_sub s_sub (me_ixCK (K := K) rfl (pv 0) me_int (fun _ _ => rfl)) me_int) (me_callB (r := rLenL K) (CallR.or call_len_seq call_len_str) s_len (by rfl) T.z_len (by decide +kernel) (ma_cons (me_ixCK (K := K) rfl (pv 0) me_int (fun _ _ => rfl)) ma_nil))) (fun _ _ => rfl)) (me_name (pv 1))))))⟩
theorem ok__law_options {P : Program} {w : World} {K : PySem.W.Frag} {mg : Str → Option Value} {base : Heap} {Y : Sys} (T : Txt K w mg) : FnOk P w K mg base (L2.CX P w) 1 T.a__law_options T.d__law_options ["league"] (spM Y K 1 Pg.m__law_options) := by
  rw [Pg.q__law_options]
  exact fn_okM T.F__law_options sc__law_options fun cdv A outer s H E hr => ⟨_,
  (mss_cons (ms_unp (me_name (pv 0)) (mg_tupK (K := K) rfl (by rfl) (mgs_cons (mg_name (pg_name (i := 1) sc__law_options.nd rfl (by first | exact .inl rfl | exact .inr rfl))) (mgs_cons (mg_name (pg_name (i := 2) sc__law_options.nd rfl (by first | exact .inl rfl | exact .inr rfl))) (mgs_cons (mg_name (pg_name (i := 3) sc__law_options.nd rfl (by first | exact .inl rfl | exact .inr rfl))) mgs_nil))) (by rfl) (by rfl) (blS (blS (blS bl0)))))
  (mss_cons (ms_set (i := 4) sc__law_options.nd rfl (by first | exact .inl rfl | exact .inr rfl) (me_lst ma_nil))
  (mss_cons (ms_for (passes_of rfl) (by rfl) (mi_range1 (by rfl) T.z_range (ma_cons (me_name (pv 2)) ma_nil)) (mg_name (pg_name (i := 5) sc__law_options.nd rfl (by first | exact .inl rfl | exact .inr rfl))) (mss_one (ms_for (passes_of rfl) (by rfl) (mi_range2 (by rfl) T.z_range (ma_cons (me_bin o_add s_add (me_name (pv 5)) me_int) (ma_cons (me_name (pv 2)) ma_nil))) (mg_name (pg_name (i := 6) sc__law_options.nd rfl (by first | exact .inl rfl | exact .inr rfl))) (mss_cons (ms_set (i := 7) sc__law_options.nd rfl (by first | exact .inl rfl | exact .inr rfl) (me_lst (ma_cons (me_esc (me_tup (ma_cons (me_esc (me_name (pv 5))) (ma_cons (me_esc me_int) (ma_cons (me_esc me_int) ma_nil))))) (ma_cons (me_esc (me_tup (ma_cons (me_esc (me_name (pv 6))) (ma_cons (me_esc me_int) (ma_cons (me_esc me_int) ma_nil))))) ma_nil))))
  (mss_cons (ms_if (mt_cmp (r := rEqD K) (op_eqD hr.units) s_eq (me_name (pv 1)) me_str (nomark _)) (mss_one (ms_set (i := 7) sc__law_options.nd rfl (by first | exact .inl rfl | exact .inr rfl) (me_lst (ma_cons (me_esc (me_tup (ma_cons (me_esc (me_name (pv 5))) (ma_cons (me_esc me_int) (ma_cons (me_esc me_int) ma_nil))))) (ma_cons (me_esc (me_tup (ma_cons (me_esc me_non) (ma_cons (me_esc me_int) (ma_cons (me_esc me_int) ma_nil))))) (ma_cons (me_esc (me_tup (ma_cons (me_esc (me_name (pv 6))) (ma_cons (me_esc me_int) (ma_cons (me_esc me_int) ma_nil))))) ma_nil)))))) mss_nil)
  (mss_cons (ms_set (i := 8) sc__law_options.nd rfl (by first | exact .inl rfl | exact .inr rfl) (me_lcif (own := [("one", 9), ("other", 10), ("w", 11)]) (by rfl) sc__law_options.nd (mi_listK (K := K) rfl (me_name (pv 3))) (blkOk_by (own := [("one", 9), ("other", 10), ("w", 11)]) (N := N__law_options) (sc := defScope s__law_options) (by decide +kernel)) (fun _ _ _ _ _ => by exact (mg_tupK (K := K) rfl (by rfl) (mgs_cons (mg_name (pg_name (i := 9) sc__law_options.nd rfl (by first | exact .inl rfl | exact .inr rfl))) (mgs_cons (mg_name (pg_name (i := 10) sc__law_options.nd rfl (by first | exact .inl rfl | exact .inr rfl))) (mgs_cons (mg_name (pg_name (i := 11) sc__law_options.nd rfl (by first | exact .inl rfl | exact .inr rfl))) mgs_nil))) (by rfl) (by rfl) (blS (blS (blS bl0))))) (fun _ _ _ _ _ => by exact (mt_cmp (r := rEqD K) (op_eqD hr.units) s_eq (me_tup (ma_cons (me_esc (me_name (pv 9))) (ma_cons (me_esc (me_name (pv 10))) ma_nil))) (me_tup (ma_cons (me_esc (me_name (pv 5))) (ma_cons (me_esc (me_name (pv 6))) ma_nil))) (nomark _))) (fun _ _ _ _ _ => by exact (me_esc (me_name (pv 11)))) (by decide)))
  (mss_cons (ms_if (mt_cmp (r := rNeD K) (op_neD hr.units) s_ne (me_name (pv 8)) (me_lst ma_nil) (nomark _)) (mss_one (ms_setLcif (i := 7) (own := [("one", 9)]) (by rfl) sc__law_options.nd rfl rfl (sw_true rfl rfl rfl (by decide +kernel)) (mi_listK (K := K) rfl (me_name (pv 7))) (blkOk_by (own := [("one", 9)]) (N := N__law_options) (sc := defScope s__law_options) (by decide +kernel)) (fun _ _ _ _ _ => by exact (mg_name (pg_name (i := 9) sc__law_options.nd rfl (by first | exact .inl rfl | exact .inr rfl)))) (fun _ _ _ _ _ => by exact (mt_cmp (r := rEqD K) (op_eqD hr.units) s_eq (me_ix (r := rIx K) ix_seq s_ix (me_name (pv 9)) me_int (fun _ _ => rfl)) (me_ix (r := rIx K) ix_seq s_ix (me_name (pv 8)) me_int (fun _ _ => rfl)) (nomark _))) (fun _ _ _ _ _ => by exact (me_esc (me_name (pv 9)))) (by decide))) mss_nil)
  (mss_one (ms_expr (me_app (pv 4) (me_tup (ma_cons (me_esc (me_name (pv 5))) (ma_cons (me_esc (me_name (pv 6))) (ma_cons (me_esc (me_name (pv 7))) ma_nil))))))))))))))
  (mss_one (ms_ret (me_name (pv 4)))))))⟩
theorem ok__law_drawn_end {P : Program} {w : World} {K : PySem.W.Frag} {mg : Str → Option Value} {base : Heap} {sa : Addr} {ns : List Int} {tb : List (Addr × Str)} (T : Txt K w mg) : FnOk P w K mg base (L2.CX P w) 2 T.a__law_drawn_end T.d__law_drawn_end ["store", "league"] (spM (ClY K sa ns tb) K 2 Pg.m__law_drawn_end) := by
  rw [Pg.q__law_drawn_end]
  exact fn_okM T.F__law_drawn_end sc__law_drawn_end fun cdv A outer s H E hr => ⟨_,
  (mss_cons (ms_set (i := 2) sc__law_drawn_end.nd rfl (by first | exact .inl rfl | exact .inr rfl) (me_lst ma_nil))
  (mss_cons (ms_for (passes_of rfl) (by rfl) (mi_listK (K := K) rfl (me_fnK (K := K) rfl (ok__law_options T) (hr.mono (by decide)) (by rfl) T.g__law_options T.F__law_options.kp T.b__law_options (takes_of rfl rfl rfl rfl) (ma_cons (me_esc (me_name (pv 1))) ma_nil))) (mg_tupK (K := K) rfl (by rfl) (mgs_cons (mg_name (pg_name (i := 3) sc__law_drawn_end.nd rfl (by first | exact .inl rfl | exact .inr rfl))) (mgs_cons (mg_name (pg_name (i := 4) sc__law_drawn_end.nd rfl (by first | exact .inl rfl | exact .inr rfl))) (mgs_cons (mg_name (pg_name (i := 5) sc__law_drawn_end.nd rfl (by first | exact .inl rfl | exact .inr rfl))) mgs_nil))) (by rfl) (by rfl) (blS (blS (blS bl0)))) (mss_one (ms_expr (me_app (pv 2) (me_tup (ma_cons (me_esc (me_name (pv 3))) (ma_cons (me_esc (me_name (pv 4))) (ma_cons (me_esc (me_ix (r := rIx K) ix_seq s_ix (me_ix (r := rIx K) ix_seq s_ix (me_name (pv 5)) (me_fnK (K := K) rfl (ok__law_take T) (hr.mono (by decide)) (by rfl) T.g__law_take T.F__law_take.kp T.b__law_take (takes_of rfl rfl rfl rfl) (ma_cons (me_esc (me_name (pv 0))) (ma_cons (me_esc (me_callB (r := rLenL K) (CallR.or call_len_seq call_len_str) s_len (by rfl) T.z_len (by decide +kernel) (ma_cons (me_name (pv 5)) ma_nil))) ma_nil))) (fun _ _ => rfl)) me_int (fun _ _ => rfl))) ma_nil))))))))
  (mss_one (ms_ret (me_tup (ma_cons (me_esc (me_ix (r := rIx K) ix_seq s_ix (me_name (pv 1)) me_int (fun _ _ => rfl))) (ma_cons (me_esc (me_ix (r := rIx K) ix_seq s_ix (me_name (pv 1)) me_int (fun _ _ => rfl))) (ma_cons (me_esc (me_name (pv 2))) ma_nil))))))))⟩
theorem ok__law_league {P : Program} {w : World} {K : PySem.W.Frag} {mg : Str → Option Value} {base : Heap} {sa : Addr} {ns : List Int} {tb : List (Addr × Str)} (T : Txt K w mg) : FnOk P w K mg base (L2.CX P w) 3 T.a__law_league T.d__law_league ["store"] (spM (ClY K sa ns tb) K 1 Pg.m__law_league) := by
  rw [Pg.q__law_league]
  exact fn_okM T.F__law_league sc__law_league fun cdv A outer s H E hr => ⟨_,
  (mss_cons (ms_set (i := 1) sc__law_league.nd rfl (by first | exact .inl rfl | exact .inr rfl) (me_fnK (K := K) rfl (ok__law_take T) (hr.mono (by decide)) (by rfl) T.g__law_take T.F__law_take.kp T.b__law_take (takes_of rfl rfl rfl rfl) (ma_cons (me_esc (me_name (pv 0))) (ma_cons (me_esc me_int) ma_nil))))
  (mss_cons (ms_set (i := 2) sc__law_league.nd rfl (by first | exact .inl rfl | exact .inr rfl) (me_ix (r := rIx K) ix_seq s_ix (me_lst (ma_cons (me_esc me_str) (ma_cons (me_esc me_str) ma_nil))) (me_bin op_modN s_mod (me_name (pv 1)) me_int) (fun _ _ => rfl)))
  (mss_cons (ms_set (i := 3) sc__law_league.nd rfl (by first | exact .inl rfl | exact .inr rfl) (me_ix (r := rIx K) ix_seq s_ix (me_lst (ma_cons (me_esc (me_bin o_add s_add me_int (me_bin op_modN s_mod (me_bin op_fdivN s_div (me_name (pv 1)) me_int) me_int))) (ma_cons (me_esc me_int) (ma_cons (me_esc (me_bin o_add s_add me_int (me_bin op_modN s_mod (me_bin op_fdivN s_div (me_name (pv 1)) me_int) me_int))) ma_nil)))) (me_fnK (K := K) rfl (ok__law_take T) (hr.mono (by decide)) (by rfl) T.g__law_take T.F__law_take.kp T.b__law_take (takes_of rfl rfl rfl rfl) (ma_cons (me_esc (me_name (pv 0))) (ma_cons (me_esc me_int) ma_nil))) (fun _ _ => rfl)))
  (mss_cons (ms_set (i := 4) sc__law_league.nd rfl (by first | exact .inl rfl | exact .inr rfl) (me_ix (r := rIx K) ix_seq s_ix (me_lst (ma_cons (me_esc me_int) (ma_cons (me_esc me_int) (ma_cons (me_esc me_int) (ma_cons (me_esc me_int) ma_nil))))) (me_fnK (K := K) rfl (ok__law_take T) (hr.mono (by decide)) (by rfl) T.g__law_take T.F__law_take.kp T.b__law_take (takes_of rfl rfl rfl rfl) (ma_cons (me_esc (me_name (pv 0))) (ma_cons (me_esc me_int) ma_nil))) (fun _ _ => rfl)))
  (mss_cons (ms_set (i := 5) sc__law_league.nd rfl (by first | exact .inl rfl | exact .inr rfl) (me_lst ma_nil))
  (mss_cons (ms_for (passes_of rfl) (by rfl) (mi_listK (K := K) rfl (me_ix (r := rIx K) ix_seq s_ix (me_fnK (K := K) rfl (ok__law_drawn_end T) (hr.mono (by decide)) (by rfl) T.g__law_drawn_end T.F__law_drawn_end.kp T.b__law_drawn_end (takes_of rfl rfl rfl rfl) (ma_cons (me_esc (me_name (pv 0))) (ma_cons (me_esc (me_tup (ma_cons (me_esc (me_name (pv 2))) (ma_cons (me_esc (me_name (pv 3))) (ma_cons (me_esc (me_lst ma_nil)) ma_nil))))) ma_nil))) me_int (fun _ _ => rfl))) (mg_name (pg_name (i := 6) sc__law_league.nd rfl (by first | exact .inl rfl | exact .inr rfl))) (mss_one (ms_if (mt_cmp op_lt s_lt (me_fnK (K := K) rfl (ok__law_take T) (hr.mono (by decide)) (by rfl) T.g__law_take T.F__law_take.kp T.b__law_take (takes_of rfl rfl rfl rfl) (ma_cons (me_esc (me_name (pv 0))) (ma_cons (me_esc me_int) ma_nil))) (me_name (pv 4)) (nomark _)) (mss_one (ms_expr (me_app (pv 5) (me_name (pv 6))))) mss_nil)))
  (mss_one (ms_ret (me_tup (ma_cons (me_esc (me_name (pv 2))) (ma_cons (me_esc (me_name (pv 3))) (ma_cons (me_esc (me_name (pv 5))) ma_nil))))))))))))⟩
theorem ok__law_copy {P : Program} {w : World} {K : PySem.W.Frag} {mg : Str → Option Value} {base : Heap} {Y : Sys} (T : Txt K w mg) : FnOk P w K mg base (L2.CX P w) 1 T.a__law_copy T.d__law_copy ["league"] (spM Y K 1 Pg.m__law_copy) := by
  rw [Pg.q__law_copy]
  exact fn_okM T.F__law_copy sc__law_copy fun cdv A outer s H E hr => ⟨_,
  (mss_one (ms_ret (me_tup (ma_cons (me_esc (me_ix (r := rIx K) ix_seq s_ix (me_name (pv 0)) me_int (fun _ _ => rfl))) (ma_cons (me_esc (me_ix (r := rIx K) ix_seq s_ix (me_name (pv 0)) me_int (fun _ _ => rfl))) (ma_cons (me_esc (me_callTy (r := rListO K) call_list_of s_list (by rfl) T.z_list (by decide +kernel) (ma_cons (me_ix (r := rIx K) ix_seq s_ix (me_name (pv 0)) me_int (fun _ _ => rfl)) ma_nil))) ma_nil))))))⟩
def l__law_reach_1 {Y : Sys} : GS Y :=
  (sSeq (sSet 10 (gCall fList (gK (gV 6) gN)))
  (sSeq (sPut 10 (gV 2) (gBin fAdd (gBin fIx (gV 10) (gV 2)) (gV 8)))
  (sSeq (sPut 10 (gV 3) (gBin fAdd (gBin fIx (gV 10) (gV 3)) (gV 9)))
  (sPutT 5 (gCall fTup (gK (gV 10) gN)) (gC (.bool true))))))
def l__law_reach_2 {Y : Sys} : GS Y :=
  (sFor (.t (.cons (.n 7) (.cons (.n 8) (.cons (.n 9) .nil)))) (gItL (gV 4)) l__law_reach_1)
def l__law_reach_3 {Y : Sys} : GS Y :=
  (sSeq (sSet 5 gDicT)
  (sSeq (sFor (.n 6) (gItD (gV 1)) l__law_reach_2)
  (sSet 1 (gEscT (gV 5)))))
def e__law_reach_4 {Y : Sys} : GE Y :=
  (gEsc (gCall fList (gK (gV 6) gN)))
def b__law_reach {Y : Sys} : GS Y :=
  (sSeq (sSet 1 (gEscT (gDispT (gCall fTup (gK (gBin fMul (gLst (gK (gEsc (gC (.int 0))) gN)) (gBin fIx (gV 0) (gC (.int 1)))) gN)))))
  (sSeq (sFor (.t (.cons (.n 2) (.cons (.n 3) (.cons (.n 4) .nil)))) (gItL (gUn fRev (gFn 1 Pg.m__law_options (gK (gEsc (gV 0)) gN)))) l__law_reach_3)
  (sRet (gComp (.n 6) [6] (gItL (gSrtV (gV 1))) gYes e__law_reach_4))))
theorem x__law_reach {Y : Sys} : ∃ m : Fm Y, m = mOf 11 b__law_reach := ⟨_, rfl⟩
def m__law_reach {Y : Sys} : Fm Y := Classical.choose (x__law_reach)
theorem q__law_reach {Y : Sys} : m__law_reach = mOf (Y := Y) 11 b__law_reach := Classical.choose_spec (x__law_reach)
theorem ok__law_reach {P : Program} {w : World} {K : PySem.W.Frag} {mg : Str → Option Value} {base : Heap} {Y : Sys} (T : Txt K w mg) : FnOk P w K mg base (L2.CX P w) 2 T.a__law_reach T.d__law_reach ["league"] (spM Y K 1 m__law_reach) := by
  rw [q__law_reach]
  exact fn_okM T.F__law_reach sc__law_reach fun cdv A outer s H E hr => ⟨_,
  (mss_cons (ms_set (i := 1) sc__law_reach.nd rfl (by first | exact .inl rfl | exact .inr rfl) (me_escT (me_dispT hr.units0 (me_callTy (r := rTupO K) call_tuple_of s_tup (by rfl) T.z_tuple (by decide +kernel) (ma_cons (me_bin o_mul s_mul (me_lst (ma_cons (me_esc me_int) ma_nil)) (me_ix (r := rIx K) ix_seq s_ix (me_name (pv 0)) me_int (fun _ _ => rfl))) ma_nil)) (me_bl (Y := Y0) (W := W0)).pe)))
  (mss_cons (ms_for (passes_of rfl) (by rfl) (mi_listK (K := K) rfl (me_rev (K := K) rfl (me_fnK (K := K) rfl (ok__law_options T) (hr.mono (by decide)) (by rfl) T.g__law_options T.F__law_options.kp T.b__law_options (takes_of rfl rfl rfl rfl) (ma_cons (me_esc (me_name (pv 0))) ma_nil)))) (mg_tupK (K := K) rfl (by rfl) (mgs_cons (mg_name (pg_name (i := 2) sc__law_reach.nd rfl (by first | exact .inl rfl | exact .inr rfl))) (mgs_cons (mg_name (pg_name (i := 3) sc__law_reach.nd rfl (by first | exact .inl rfl | exact .inr rfl))) (mgs_cons (mg_name (pg_name (i := 4) sc__law_reach.nd rfl (by first | exact .inl rfl | exact .inr rfl))) mgs_nil))) (by rfl) (by rfl) (blS (blS (blS bl0)))) (mss_cons (ms_set (i := 5) sc__law_reach.nd rfl (by first | exact .inl rfl | exact .inr rfl) (me_dicT pe_dnewT))
  (mss_cons (ms_for (passes_of rfl) (by rfl) (mi_keysT (me_name (pv 1))) (mg_name (pg_name (i := 6) sc__law_reach.nd rfl (by first | exact .inl rfl | exact .inr rfl))) (mss_one (ms_for (passes_of rfl) (by rfl) (mi_listK (K := K) rfl (me_name (pv 4))) (mg_tupK (K := K) rfl (by rfl) (mgs_cons (mg_name (pg_name (i := 7) sc__law_reach.nd rfl (by first | exact .inl rfl | exact .inr rfl))) (mgs_cons (mg_name (pg_name (i := 8) sc__law_reach.nd rfl (by first | exact .inl rfl | exact .inr rfl))) (mgs_cons (mg_name (pg_name (i := 9) sc__law_reach.nd rfl (by first | exact .inl rfl | exact .inr rfl))) mgs_nil))) (by rfl) (by rfl) (blS (blS (blS bl0)))) (mss_cons (ms_set (i := 10) sc__law_reach.nd rfl (by first | exact .inl rfl | exact .inr rfl) (me_callTy (r := rListO K) call_list_of s_list (by rfl) T.z_list (by decide +kernel) (ma_cons (me_name (pv 6)) ma_nil)))
  (mss_cons (ms_put (pv 10) (me_name (pv 2)) (me_bin o_add s_add (me_ix (r := rIx K) ix_seq s_ix (me_name (pv 10)) (me_name (pv 2)) (fun _ _ => rfl)) (me_name (pv 8))))
  (mss_cons (ms_put (pv 10) (me_name (pv 3)) (me_bin o_add s_add (me_ix (r := rIx K) ix_seq s_ix (me_name (pv 10)) (me_name (pv 3)) (fun _ _ => rfl)) (me_name (pv 9))))
  (mss_one (ms_putT (hu_of hr) (pv 5) (me_callTy (r := rTupO K) call_tuple_of s_tup (by rfl) T.z_tuple (by decide +kernel) (ma_cons (me_name (pv 10)) ma_nil)) me_bl))))))))
  (mss_one (ms_set (i := 1) sc__law_reach.nd rfl (by first | exact .inl rfl | exact .inr rfl) (me_escT (me_name (pv 5))))))))
  (mss_one (ms_ret (me_lc (own := [("points", 6)]) (by rfl) sc__law_reach.nd (mi_listK (K := K) rfl (me_srtVK (K := K) rfl (by rfl) (hu65 hr) (by rfl) T.z_sorted (me_name (pv 1)))) (blkOk_by (own := [("points", 6)]) (N := N__law_reach) (sc := defScope s__law_reach) (by decide +kernel)) (fun _ _ _ _ _ => by exact (mg_name (pg_name (i := 6) sc__law_reach.nd rfl (by first | exact .inl rfl | exact .inr rfl)))) (fun _ _ _ _ _ => by exact (me_esc (me_callTy (r := rListO K) call_list_of s_list (by rfl) T.z_list (by decide +kernel) (ma_cons (me_name (pv 6)) ma_nil)))) (by decide))))))⟩
theorem ok__law_small {P : Program} {w : World} {K : PySem.W.Frag} {mg : Str → Option Value} {base : Heap} {sa : Addr} {ns : List Int} {tb : List (Addr × Str)} (T : Txt K w mg) : FnOk P w K mg base (L2.CX P w) 3 T.a__law_small T.d__law_small ["store", "league"] (spM (ClY K sa ns tb) K 2 Pg.m__law_small) := by
  rw [Pg.q__law_small]
  exact fn_okM T.F__law_small sc__law_small fun cdv A outer s H E hr => ⟨_,
  (mss_cons (ms_unp (me_name (pv 1)) (mg_tupK (K := K) rfl (by rfl) (mgs_cons (mg_name (pg_name (i := 2) sc__law_small.nd rfl (by first | exact .inl rfl | exact .inr rfl))) (mgs_cons (mg_name (pg_name (i := 3) sc__law_small.nd rfl (by first | exact .inl rfl | exact .inr rfl))) (mgs_cons (mg_name (pg_name (i := 4) sc__law_small.nd rfl (by first | exact .inl rfl | exact .inr rfl))) mgs_nil))) (by rfl) (by rfl) (blS (blS (blS bl0)))))
  (mss_cons (ms_set (i := 5) sc__law_small.nd rfl (by first | exact .inl rfl | exact .inr rfl) (me_ix (r := rIx K) ix_seq s_ix (me_fnK (K := K) rfl (ok__law_drawn_end T) (hr.mono (by decide)) (by rfl) T.g__law_drawn_end T.F__law_drawn_end.kp T.b__law_drawn_end (takes_of rfl rfl rfl rfl) (ma_cons (me_esc (me_name (pv 0))) (ma_cons (me_esc (me_name (pv 1))) ma_nil))) me_int (fun _ _ => rfl)))
  (mss_cons (ms_set (i := 6) sc__law_small.nd rfl (by first | exact .inl rfl | exact .inr rfl) (me_lcif (own := [("match", 8)]) (by rfl) sc__law_small.nd (mi_listK (K := K) rfl (me_name (pv 5))) (blkOk_by (own := [("match", 8)]) (N := N__law_small) (sc := defScope s__law_small) (by decide +kernel)) (fun _ _ _ _ _ => by exact (mg_name (pg_name (i := 8) sc__law_small.nd rfl (by first | exact .inl rfl | exact .inr rfl)))) (fun _ _ _ _ _ => by exact (mt_cmp (r := rNotIn2 K) (o_notIn (hu65 hr)) s_notIn2 (me_name (pv 8)) (me_name (pv 4)) (by rfl))) (fun _ _ _ _ _ => by exact (me_esc (me_name (pv 8)))) (by decide)))
  (mss_cons (ms_set (i := 7) sc__law_small.nd rfl (by first | exact .inl rfl | exact .inr rfl) (me_fnK (K := K) rfl (ok__law_take T) (hr.mono (by decide)) (by rfl) T.g__law_take T.F__law_take.kp T.b__law_take (takes_of rfl rfl rfl rfl) (ma_cons (me_esc (me_name (pv 0))) (ma_cons (me_esc me_int) ma_nil))))
  (mss_cons (ms_while 1000 (passes_of rfl) (mt_cmp op_gt s_gt (me_callB (r := rLenL K) (CallR.or call_len_seq call_len_str) s_len (by rfl) T.z_len (by decide +kernel) (ma_cons (me_name (pv 6)) ma_nil)) (me_name (pv 7)) (nomark _)) (mss_one (ms_expr (me_pop1K (K := K) rfl (pv 6) (me_fnK (K := K) rfl (ok__law_take T) (hr.mono (by decide)) (by rfl) T.g__law_take T.F__law_take.kp T.b__law_take (takes_of rfl rfl rfl rfl) (ma_cons (me_esc (me_name (pv 0))) (ma_cons (me_esc (me_callB (r := rLenL K) (CallR.or call_len_seq call_len_str) s_len (by rfl) T.z_len (by decide +kernel) (ma_cons (me_name (pv 6)) ma_nil))) ma_nil)))))))
  (mss_one (ms_ret (me_tup (ma_cons (me_esc (me_name (pv 2))) (ma_cons (me_esc (me_name (pv 3))) (ma_cons (me_esc (me_lcif (own := [("match", 8)]) (by rfl) sc__law_small.nd (mi_listK (K := K) rfl (me_name (pv 5))) (blkOk_by (own := [("match", 8)]) (N := N__law_small) (sc := defScope s__law_small) (by decide +kernel)) (fun _ _ _ _ _ => by exact (mg_name (pg_name (i := 8) sc__law_small.nd rfl (by first | exact .inl rfl | exact .inr rfl)))) (fun _ _ _ _ _ => by exact (mt_cmp (r := rNotIn2 K) (o_notIn (hu65 hr)) s_notIn2 (me_name (pv 8)) (me_name (pv 6)) (by rfl))) (fun _ _ _ _ _ => by exact (me_esc (me_name (pv 8)))) (by decide))) ma_nil)))))))))))⟩
def l_law_1 {K : PySem.W.Frag} {sa : Addr} {ns : List Int} {tb : List (Addr × Str)} : GS (ClY K sa ns tb) :=
  (sSeq (sSet 7 (gFn 1 Pg.m_count_points (gK (gEsc (gV 4)) gN)))
  (sIf (gOr (gNot (gTst (gIsI "int" (gV 7)))) (gOr (gTst (gIsI "bool" (gV 7))) (gTst (gBin fNe (gV 7) (gV 5))))) (sRet (gC (.bool false))) sNil))
def l_law_2 {K : PySem.W.Frag} {sa : Addr} {ns : List Int} {tb : List (Addr × Str)} : GS (ClY K sa ns tb) :=
  (sSeq (sSet 3 (gFn 1 Pg.m__law_league (gK (gEsc (gV 1)) gN)))
  (sSeq (sIf (gAnd (gTst (gBin fGt (gV 2) (gC (.int 0)))) (gAnd (gTst (gBin fEq (gBin fIx (gV 3) (gC (.int 0))) (gC (.str (PySem.Str.ofString "ties"))))) (gTst (gBin fLt (gBin fAdd (gCall fLen (gK (gBin fIx (gV 3) (gC (.int 2))) gN)) (gC (.int 10))) (gCall fLen (gK (gFn 1 Pg.m__law_options (gK (gEsc (gV 3)) gN)) gN)))))) (sSet 3 (gFn 2 Pg.m__law_small (gK (gEsc (gV 1)) (gK (gEsc (gV 3)) gN)))) sNil)
  (sSeq (sSet 4 (gFn 1 Pg.m__law_copy (gK (gEsc (gV 3)) gN)))
  (sSeq (sSet 5 (gCall fLen (gK (gFn 1 m__law_reach (gK (gEsc (gV 3)) gN)) gN)))
  (sSeq (sFor (.n 6) (gRg1 (gK (gBin fSub (gC (.int 2)) (gCall fInt (gK (gBin fGt (gV 5) (gBin fPow (gC (.int 10)) (gC (.int 4)))) gN))) gN)) l_law_1)
  (sIf (gTst (gBin fNe (gV 4) (gV 3))) (sRet (gC (.bool false))) sNil))))))
def b_law {K : PySem.W.Frag} {sa : Addr} {ns : List Int} {tb : List (Addr × Str)} : GS (ClY K sa ns tb) :=
  (sSeq (sSet 1 (gCell (gLst (gK (gEsc (gFn 2 Pg.m__law_draws (gK (gEsc (gV 0)) (gK (gEsc (gC (.int 400))) gN)))) (gK (gEsc (gC (.int 0))) gN)))))
  (sSeq (sFor (.n 2) (gRg1 (gK (gC (.int 4)) gN)) l_law_2)
  (sRet (gC (.bool true)))))
theorem x_law {K : PySem.W.Frag} {sa : Addr} {ns : List Int} {tb : List (Addr × Str)} : ∃ m : Fm (ClY K sa ns tb), m = mOf 8 b_law := ⟨_, rfl⟩
def m_law {K : PySem.W.Frag} {sa : Addr} {ns : List Int} {tb : List (Addr × Str)} : Fm (ClY K sa ns tb) := Classical.choose (x_law)
theorem q_law {K : PySem.W.Frag} {sa : Addr} {ns : List Int} {tb : List (Addr × Str)} : m_law = mOf (Y := (ClY K sa ns tb)) 8 b_law := Classical.choose_spec (x_law)
theorem ok_law {P : Program} {w : World} {K : PySem.W.Frag} {mg : Str → Option Value} {base : Heap} {sa : Addr} {ns : List Int} {tb : List (Addr × Str)} (T : Txt K w mg) : FnOk P w K mg base (L2.CX P w) 11 T.a_law T.d_law ["script"] (spM (ClY K sa ns tb) K 1 m_law) := by
  rw [q_law]
  exact fn_okM T.F_law sc_law fun cdv A outer s H E hr => ⟨_,
  (mss_cons (ms_set (i := 1) sc_law.nd rfl (by first | exact .inl rfl | exact .inr rfl) (me_cellK (K := K) rfl (me_lst (ma_cons (me_esc (me_fnK (K := K) rfl (ok__law_draws T) (hr.mono (by decide)) (by rfl) T.g__law_draws T.F__law_draws.kp T.b__law_draws (takes_of rfl rfl rfl rfl) (ma_cons (me_esc (me_name (pv 0))) (ma_cons (me_esc me_int) ma_nil)))) (ma_cons (me_esc me_int) ma_nil)))))
  (mss_cons (ms_for (passes_of rfl) (by rfl) (mi_range1 (by rfl) T.z_range (ma_cons me_int ma_nil)) (mg_name (pg_name (i := 2) sc_law.nd rfl (by first | exact .inl rfl | exact .inr rfl))) (mss_cons (ms_set (i := 3) sc_law.nd rfl (by first | exact .inl rfl | exact .inr rfl) (me_fnK (K := K) rfl (ok__law_league T) (hr.mono (by decide)) (by rfl) T.g__law_league T.F__law_league.kp T.b__law_league (takes_of rfl rfl rfl rfl) (ma_cons (me_esc (me_name (pv 1))) ma_nil)))
  (mss_cons (ms_if (mt_w (mw_and (mt_cmp op_gt s_gt (me_name (pv 2)) me_int (nomark _)) (mw_and (mt_cmp (r := rEqD K) (op_eqD hr.units) s_eq (me_ix (r := rIx K) ix_seq s_ix (me_name (pv 3)) me_int (fun _ _ => rfl)) me_str (nomark _)) (mw_and1 (mt_cmp op_lt s_lt (me_bin o_add s_add (me_callB (r := rLenL K) (CallR.or call_len_seq call_len_str) s_len (by rfl) T.z_len (by decide +kernel) (ma_cons (me_ix (r := rIx K) ix_seq s_ix (me_name (pv 3)) me_int (fun _ _ => rfl)) ma_nil)) me_int) (me_callB (r := rLenL K) (CallR.or call_len_seq call_len_str) s_len (by rfl) T.z_len (by decide +kernel) (ma_cons (me_fnK (K := K) rfl (ok__law_options T) (hr.mono (by decide)) (by rfl) T.g__law_options T.F__law_options.kp T.b__law_options (takes_of rfl rfl rfl rfl) (ma_cons (me_esc (me_name (pv 3))) ma_nil)) ma_nil)) (nomark _)))))) (mss_one (ms_set (i := 3) sc_law.nd rfl (by first | exact .inl rfl | exact .inr rfl) (me_fnK (K := K) rfl (ok__law_small T) (hr.mono (by decide)) (by rfl) T.g__law_small T.F__law_small.kp T.b__law_small (takes_of rfl rfl rfl rfl) (ma_cons (me_esc (me_name (pv 1))) (ma_cons (me_esc (me_name (pv 3))) ma_nil))))) mss_nil)
  (mss_cons (ms_set (i := 4) sc_law.nd rfl (by first | exact .inl rfl | exact .inr rfl) (me_fnK (K := K) rfl (ok__law_copy T) (hr.mono (by decide)) (by rfl) T.g__law_copy T.F__law_copy.kp T.b__law_copy (takes_of rfl rfl rfl rfl) (ma_cons (me_esc (me_name (pv 3))) ma_nil)))
  (mss_cons (ms_set (i := 5) sc_law.nd rfl (by first | exact .inl rfl | exact .inr rfl) (me_callB (r := rLenL K) (CallR.or call_len_seq call_len_str) s_len (by rfl) T.z_len (by decide +kernel) (ma_cons (me_fnK (K := K) rfl (ok__law_reach T) (hr.mono (by decide)) (by rfl) T.g__law_reach T.F__law_reach.kp T.b__law_reach (takes_of rfl rfl rfl rfl) (ma_cons (me_esc (me_name (pv 3))) ma_nil)) ma_nil)))
  (mss_cons (ms_for (passes_of rfl) (by rfl) (mi_range1 (by rfl) T.z_range (ma_cons (me_bin op_sub s_sub me_int (me_callTy call_int1 s_int (by rfl) T.z_int (by decide +kernel) (ma_cons (me_cmp op_gt s_gt (me_name (pv 5)) (me_bin op_pow s_pow me_int me_int) (nomark _)) ma_nil))) ma_nil)) (mg_name (pg_name (i := 6) sc_law.nd rfl (by first | exact .inl rfl | exact .inr rfl))) (mss_cons (ms_set (i := 7) sc_law.nd rfl (by first | exact .inl rfl | exact .inr rfl) (me_fnK (K := K) rfl (ok_count_points T) (hr.mono (by decide)) (by rfl) T.g_count_points T.F_count_points.kp T.b_count_points (takes_of rfl rfl rfl rfl) (ma_cons (me_esc (me_name (pv 4))) ma_nil)))
  (mss_one (ms_if (mt_w (mw_or (mt_not (mt_val (me_isIK (K := K) rfl (T := "int") (by rfl) T.z_isinstance (by rfl) T.z_int (by decide +kernel) (me_name (pv 7))))) (mw_or (mt_val (me_isIK (K := K) rfl (T := "bool") (by rfl) T.z_isinstance (by rfl) T.z_bool (by decide +kernel) (me_name (pv 7)))) (mw_or1 (mt_cmp (r := rNeD K) (op_neD hr.units) s_ne (me_name (pv 7)) (me_name (pv 5)) (nomark _)))))) (mss_one (ms_ret me_bl)) mss_nil))))
  (mss_one (ms_if (mt_cmp (r := rNeD K) (op_neD hr.units) s_ne (me_name (pv 4)) (me_name (pv 3)) (nomark _)) (mss_one (ms_ret me_bl)) mss_nil))))))))
  (mss_one (ms_ret me_bl))))⟩
end
end FX.K25
set_option linter.all false
namespace FX
open PySem PySem.Spec L2
theorem shI (i : Int) : SeqAt.shaped (.int i) = true := rfl
theorem shN : SeqAt.shaped .none = true := rfl
theorem shB (b : Bool) : SeqAt.shaped (.bool b) = true := rfl
theorem eqvI (i j : Int) : PyData.eqv (.int i) (.int j) = decide (i = j) := rfl
theorem eqvS (i j : Str) : PyData.eqv (.str i) (.str j) = decide (i = j) := rfl
section
variable {Y : Sys} {g h : GS Y} {Γ Γ' : Ev} {s s' : Y.S}
theorem seq_nx (e : g Γ s = some (.nx, Γ', s')) : sSeq g h Γ s = h Γ' s' := by
  unfold sSeq; rw [e]
def fin : Option (Fl × Ev × Y.S) → Option (Oc R × Y.S)
  | some (.rt r, _, s') => some (.ok r, s')
  | some (.nx, _, s') => some (.ok (.v .none), s')
  | some (.er c, _, s') => some (.er c, s')
  | _ => none
theorem fin_of {N : Nat} {body : GS Y} {rs : List R} {X : Option (Oc R × Y.S)} (h : fin (body (rs.map some ++ List.replicate (N - rs.length) none) s) = X) : mOf N body rs s = X := h
theorem for_run {T : Tg} {gi : GI Y} {body : GS Y} {ds : List D} {Γ1 : Ev} {s1 : Y.S} (e : gi Γ s = some (.ok ds, Γ1, s1)) : sFor T gi body Γ s = forG T body ds Γ1 s1 := by
  unfold sFor bdS; rw [e]
end
end FX
set_option Elab.async false
set_option linter.all false
set_option maxRecDepth 100000
namespace FX
open PySem PySem.Spec L2
section
variable {Y : Sys}
theorem forG_cons {T : Tg} {body : GS Y} {d : D} {ds : List D} {Γ Γ1 : Ev} {s : Y.S} (h : bindT T d Γ = some Γ1) : forG T body (d :: ds) Γ s = (match body Γ1 s with
      | none => none
      | some (.nx, Γ2, s2) => forG T body ds Γ2 s2
      | some (.ct, Γ2, s2) => forG T body ds Γ2 s2
      | some (.bk, Γ2, s2) => some (.nx, Γ2, s2)
      | some (.rt r, Γ2, s2) => some (.rt r, Γ2, s2)
      | some (.er c, Γ2, s2) => some (.er c, Γ2, s2)) := by
  conv => lhs; unfold forG
  rw [h] <;> rfl
theorem forG_nil {T : Tg} {body : GS Y} {Γ : Ev} {s : Y.S} : forG T body [] Γ s = some (.nx, Γ, s) := rfl
theorem back_set (Γ0 : Ev) : ∀ (vs : List Nat) (Γ : Ev) (v : Nat) (x : Option R), backE Γ0 (Γ.set v x) vs = if v ∈ vs then backE Γ0 Γ vs else (backE Γ0 Γ vs).set v x
  | [], Γ, v, x => by simp [backE]
  | u :: vs, Γ, v, x => by
    simp only [backE, back_set Γ0 vs Γ v x]
    by_cases h : v ∈ vs
    · simp [h]
    · by_cases e : u = v
      · subst e; simp [h, List.set_set]
      · simp [h, e, Ne.symm e]
        exact List.set_comm _ _ (fun z => e z.symm)
theorem back_wipe (Γ0 : Ev) : ∀ (vs : List Nat) (Γ : Ev), backE Γ0 (wipeE Γ vs) vs = backE Γ0 Γ vs
  | [], Γ => rfl
  | v :: vs, Γ => by
    show backE Γ0 ((wipeE Γ vs).set v none) (v :: vs) = _
    rw [back_set, if_pos (by simp)]
    simp only [backE, back_wipe Γ0 vs Γ]
theorem compG_pure {T : Tg} {own : List Nat} {gt : GT Y} {ge : GE Y} (f : D → Option D) (Γw : Ev) (s : Y.S) :
    ∀ (ds acc : List D) (Γ : Ev), wipeE Γ own = Γw → acc.length + ds.length ≤ 1000000 →
    (∀ d ∈ ds, ∃ Γ1 Γ2, bindT T d Γw = some Γ1 ∧ match f d with
      | none => gt Γ1 s = some (.ok false, Γ2, s) ∧ wipeE Γ2 own = Γw
      | some e => gt Γ1 s = some (.ok true, Γ2, s) ∧ ∃ Γ3, ge Γ2 s = some (.ok (.v e), Γ3, s) ∧ wipeE Γ3 own = Γw) →
    ∃ Γ', compG T own gt ge ds acc Γ s = some (acc ++ ds.filterMap f, Γ', s) ∧ wipeE Γ' own = Γw
  | [], acc, Γ, h, _, _ => ⟨Γ, by simp [compG], h⟩
  | d :: ds, acc, Γ, h, hl, hd => by
    obtain ⟨Γ1, Γ2, e1, e2⟩ := hd d (by simp)
    simp only [List.length_cons] at hl
    unfold compG
    rw [h, e1]
    cases q : f d with
    | none =>
      rw [q] at e2
      obtain ⟨e2, e3⟩ := e2
      obtain ⟨Γ', e4, e5⟩ := compG_pure f Γw s ds acc Γ2 e3 (by omega) fun d' h' => hd d' (by simp [h'])
      refine ⟨Γ', ?_, e5⟩
      simp only [e2, List.filterMap_cons, q]
      exact e4
    | some e =>
      rw [q] at e2
      obtain ⟨e2, Γ3, e3, e6⟩ := e2
      obtain ⟨Γ', e4, e5⟩ := compG_pure f Γw s ds (acc ++ [e]) Γ3 e6 (by simp; omega) fun d' h' => hd d' (by simp [h'])
      refine ⟨Γ', ?_, e5⟩
      have hz : sizeOk acc.length = true := by simp [sizeOk]; omega
      simp only [e2, e3, hz, List.filterMap_cons, q, if_true]
      rw [e4]; simp
theorem gComp_pure {T : Tg} {own : List Nat} {gi : GI Y} {gt : GT Y} {ge : GE Y} (f : D → Option D) {Γ : Ev} {s : Y.S} {ds : List D} (hi : gi Γ s = some (.ok ds, Γ, s)) (hl : ds.length ≤ 1000000)
    (hd : ∀ d ∈ ds, ∃ Γ1 Γ2, bindT T d (wipeE Γ own) = some Γ1 ∧ match f d with
      | none => gt Γ1 s = some (.ok false, Γ2, s) ∧ wipeE Γ2 own = wipeE Γ own
      | some e => gt Γ1 s = some (.ok true, Γ2, s) ∧ ∃ Γ3, ge Γ2 s = some (.ok (.v e), Γ3, s) ∧ wipeE Γ3 own = wipeE Γ own) :
    gComp T own gi gt ge Γ s = some (.ok (.o (.list (ds.filterMap f))), backE Γ (wipeE Γ own) own, s) := by
  obtain ⟨Γ', e, h⟩ := compG_pure (T := T) (own := own) (gt := gt) (ge := ge) f (wipeE Γ own) s ds [] Γ rfl (by simpa using hl) hd
  unfold gComp bd
  rw [hi]
  simp only [e, List.nil_append]
  rw [← h, back_wipe]
theorem gComp_map {T : Tg} {own : List Nat} {gi : GI Y} {ge : GE Y} (f : D → D) {Γ : Ev} {s : Y.S} {ds : List D} (hi : gi Γ s = some (.ok ds, Γ, s)) (hl : ds.length ≤ 1000000)
    (hd : ∀ d ∈ ds, ∃ Γ1, bindT T d (wipeE Γ own) = some Γ1 ∧ ∃ Γ3, ge Γ1 s = some (.ok (.v (f d)), Γ3, s) ∧ wipeE Γ3 own = wipeE Γ own) :
    gComp T own gi gYes ge Γ s = some (.ok (.o (.list (ds.map f))), backE Γ (wipeE Γ own) own, s) := by
  have h := gComp_pure (T := T) (own := own) (gi := gi) (gt := gYes) (ge := ge) (fun d => some (f d)) hi hl fun d m => by
    obtain ⟨Γ1, e1, Γ3, e2, e3⟩ := hd d m
    exact ⟨Γ1, Γ1, e1, rfl, Γ3, e2, e3⟩
  rw [h]
  congr
  simp
end
def dS {K : PySem.W.Frag} {sa : Addr} {ns : List Int} (d : Dk) : (DkY K sa ns).S := some d
def Dk.Ok (d : Dk) : Prop := d.ps ≠ []
theorem atI_nat {α : Type} {ds : List α} {k : Nat} : atI ds (k : Int) = ds[k]? := by
  unfold atI ixN
  by_cases h : k < ds.length
  · have h1 : (k : Int) < (ds.length : Nat) := by omega
    simp [h1]
  · have h1 : ¬ (k : Int) < (ds.length : Nat) := by omega
    simp [h1]; omega
structure okD (n m : Nat) (d : D) : Prop where
  ls : d.leavesShort 64 = true
  sh : d.showable = true
  w : d.weight ≤ n
  dp : d.depth ≤ m
  lf : d.leavesFit = true
theorem okD.mono {n m n' m' : Nat} {d : D} (h : okD n m d) (hn : n ≤ n') (hm : m ≤ m') : okD n' m' d := ⟨h.ls, h.sh, Nat.le_trans h.w hn, Nat.le_trans h.dp hm, h.lf⟩
theorem okD_none {n m : Nat} : okD n m .none := ⟨by simp [PyData.leavesShort], by simp [PyData.showable], by simp [PyData.weight], by simp [PyData.depth], by simp [PyData.leavesFit]⟩
theorem okD_bool {n m : Nat} {b : Bool} : okD n m (.bool b) := ⟨by simp [PyData.leavesShort], by simp [PyData.showable], by simp [PyData.weight], by simp [PyData.depth], by simp [PyData.leavesFit]⟩
theorem okD_dic {n m : Nat} : okD n (m + 1) (.dict []) := ⟨by simp [PyData.leavesShort, PyData.leavesShortKv], by simp [PyData.showable, PyData.showableKv], by simp [PyData.weight, PyData.weightKv], by simp [PyData.depth, PyData.depthKv], by simp [PyData.leavesFit, PyData.leavesFitKv]⟩
theorem okD_int {n m : Nat} {i : Int} (h : i.natAbs < 10 ^ 30) (hn : 100 ≤ n) : okD n m (.int i) := by
  have hl : i.natAbs.log2 < 100 := by
    by_cases h0 : i.natAbs = 0
    · rw [h0]; decide
    · rw [Nat.log2_lt h0]
      exact Nat.lt_trans h (by decide)
  refine ⟨?_, ?_, ?_, by simp [PyData.depth], ?_⟩
  · have := int_text_length_le10 (k := 30) (by decide) h
    have e : (Str.ofString (toString i)).length = (toString i).length := by first | exact ofString_length _ | exact PyProof.ofString_length _ | exact PyProof.Rows.ofString_len _ | exact (by simp [Str.ofString, Str.length])
    have : (Str.ofString (toString i)).length ≤ 64 := by rw [e]; omega
    simpa [PyData.leavesShort, PyData.shown] using this
  · simp [PyData.showable]; omega
  · simp only [PyData.weight]
    split <;> omega
  · simp only [PyData.leavesFit, decide_eq_true_eq]
    exact Nat.lt_of_lt_of_le h (Nat.pow_le_pow_right (by decide) (by decide))
theorem okD_str {n m : Nat} {z : Str} (h1 : (z.cps.toList.all fun c => decide (c < 1114112)) = true) (h2 : z.cps.size ≤ n) : okD n m (.str z) := ⟨by
  simp only [PyData.leavesShort]
  rw [List.all_eq_true] at h1 ⊢
  intro c hc
  have := h1 c hc
  simp only [decide_eq_true_eq] at this ⊢
  have e : (16 : Nat) ^ 8 = 4294967296 := by decide
  omega, by simp [PyData.showable], by simpa [PyData.weight] using h2, by simp [PyData.depth], by
  simp only [PyData.leavesFit]
  show z.cps.all (fun c => decide (c < 0x110000)) = true
  rw [← Array.all_toList]
  exact h1⟩
structure okA (n m : Nat) (ds : List D) : Prop where
  ls : PyData.leavesShortAll 64 ds = true
  sh : PyData.showableAll ds = true
  w : PyData.weightAll ds ≤ n
  dp : PyData.depthAll ds ≤ m
  lf : PyData.leavesFitAll ds = true
theorem okA_nil {m : Nat} : okA 0 m [] := ⟨rfl, rfl, by simp [PyData.weightAll], by simp [PyData.depthAll], rfl⟩
theorem okA_cons {n n' m : Nat} {d : D} {ds : List D} (h : okD n m d) (h' : okA n' m ds) : okA (n + 1 + n') m (d :: ds) := ⟨by
  simp [PyData.leavesShortAll, h.ls, h'.ls], by simp [PyData.showableAll, h.sh, h'.sh], by
  have a := h.w
  have b := h'.w
  simp only [PyData.weightAll]; omega, by
  have a := h.dp
  have b := h'.dp
  simp only [PyData.depthAll]; omega, by simp [PyData.leavesFitAll, h.lf, h'.lf]⟩
theorem okD_tup {n m : Nat} {ds : List D} (h : okA n m ds) : okD n (m + 1) (.tuple ds) := ⟨by simpa [PyData.leavesShort] using h.ls, by simpa [PyData.showable] using h.sh, by simpa [PyData.weight] using h.w, by
  have := h.dp
  simp only [PyData.depth]; omega, by simpa [PyData.leavesFit] using h.lf⟩
theorem okD_lst {n m : Nat} {ds : List D} (h : okA n m ds) : okD n (m + 1) (.list ds) := ⟨by simpa [PyData.leavesShort] using h.ls, by simpa [PyData.showable] using h.sh, by simpa [PyData.weight] using h.w, by
  have := h.dp
  simp only [PyData.depth]; omega, by simpa [PyData.leavesFit] using h.lf⟩
theorem okA_of {n m : Nat} : ∀ {ds : List D}, (∀ d ∈ ds, okD n m d) → okA ((n + 1) * ds.length) m ds
  | [], _ => by simpa using okA_nil
  | d :: ds, h => by
    have := okA_cons (h d (by simp)) (okA_of (ds := ds) fun x hx => h x (by simp [hx]))
    rw [List.length_cons, Nat.mul_add, Nat.mul_one, Nat.add_comm]
    exact this
theorem okA.mono {n m n' m' : Nat} {d : List D} (h : okA n m d) (hn : n ≤ n') (hm : m ≤ m') : okA n' m' d := ⟨h.ls, h.sh, Nat.le_trans h.w hn, Nat.le_trans h.dp hm, h.lf⟩
end FX
set_option Elab.async false
set_option linter.all false
set_option maxRecDepth 100000
namespace FX.Pg
open PySem FX
section
variable {Y : Sys}
def isWhole : D → Bool
  | .int _ => true
  | _ => false
def isPlayer (d : D) (n : Int) : Bool := match d with
  | .int i => decide (0 ≤ i) && decide (i < n)
  | _ => false
theorem whole_eq (d : D) (s : Y.S) : m_is_whole [.v d] s = some (.ok (.v (.bool (isWhole d))), s) := by
  rw [q_is_whole]
  cases d <;> rfl
theorem player_eq (d : D) (n : Int) (s : Y.S) : m_is_player [.v d, .v (.int n)] s = some (.ok (.v (.bool (isPlayer d n))), s) := by
  rw [q_is_player]
  cases d with
  | int i =>
    (simp [mOf, bd, bdS, gC, gV, op1, op2, opN, gBin, gUn, gEsc, gN, gK, gCall, FX.gTup, gLst, gDic, gTst, gNot, gAnd, gOr, gAndV, gOrV, gNotV, gIf, gChain, bindT, bindTs, sNil, sSeq, sDrop, sRet, sRetN, sBrk, sCnt, sIf, sStuck, sSet, sUnp, gFn, argR, rdv, Rz.r, fAdd, fSub, fMul, fDiv, fMod, fNeg, fLt, fGt, fGe, fIsN, fNotN, fEq, fNe, fLe, fIn2, fNotIn2, fIx, fLen, fInt, gTyEq, gTyNe, gIsI, gSl, gNoP, gPart, fSl, fRev, fTup, vs?, rdA, zB, tyD, shI, shN, shB, eqvI, eqvS, b_is_player, whole_eq, isPlayer, isWhole] <;> try rfl)
    by_cases h : 0 ≤ i <;> simp [h, FX.zB]
  | _ => simp only [b_is_player]; (simp [mOf, bd, bdS, gC, gV, op1, op2, opN, gBin, gUn, gEsc, gN, gK, gCall, FX.gTup, gLst, gDic, gTst, gNot, gAnd, gOr, gAndV, gOrV, gNotV, gIf, gChain, bindT, bindTs, sNil, sSeq, sDrop, sRet, sRetN, sBrk, sCnt, sIf, sStuck, sSet, sUnp, gFn, argR, rdv, Rz.r, fAdd, fSub, fMul, fDiv, fMod, fNeg, fLt, fGt, fGe, fIsN, fNotN, fEq, fNe, fLe, fIn2, fNotIn2, fIx, fLen, fInt, gTyEq, gTyNe, gIsI, gSl, gNoP, gPart, fSl, fRev, fTup, vs?, rdA, zB, tyD, shI, shN, shB, eqvI, eqvS, whole_eq, isWhole, isPlayer] <;> try rfl)
def isTupOf (d : D) (k : Nat) : Bool := match d with
  | .tuple ds => decide (ds.length = k)
  | _ => false
theorem tupOf_eq (d : D) (k : Nat) (s : Y.S) : m_is_tuple_of [.v d, .v (.int (k : Nat))] s = some (.ok (.v (.bool (isTupOf d k))), s) := by
  rw [q_is_tuple_of]
  cases d with
  | tuple ds =>
    (simp [mOf, bd, bdS, gC, gV, op1, op2, opN, gBin, gUn, gEsc, gN, gK, gCall, FX.gTup, gLst, gDic, gTst, gNot, gAnd, gOr, gAndV, gOrV, gNotV, gIf, gChain, bindT, bindTs, sNil, sSeq, sDrop, sRet, sRetN, sBrk, sCnt, sIf, sStuck, sSet, sUnp, gFn, argR, rdv, Rz.r, fAdd, fSub, fMul, fDiv, fMod, fNeg, fLt, fGt, fGe, fIsN, fNotN, fEq, fNe, fLe, fIn2, fNotIn2, fIx, fLen, fInt, gTyEq, gTyNe, gIsI, gSl, gNoP, gPart, fSl, fRev, fTup, vs?, rdA, zB, tyD, shI, shN, shB, eqvI, eqvS, b_is_tuple_of, isTupOf] <;> try rfl)
    omega
  | _ => rfl
def isOutcome (kd : Str) (i j : Int) (w : D) : Bool := match w with
  | .none => decide (kd = Str.ofString "ties")
  | .int z => decide (z = i) || decide (z = j)
  | _ => false
theorem sh_ties : SeqAt.shaped (.str (Str.ofString "ties")) = true := by decide +kernel
theorem outcome_eq (kd : Str) (hk : SeqAt.shaped (.str kd) = true) (i j : Int) (w : D) (s : Y.S) : m_is_outcome [.v (.str kd), .v (.int i), .v (.int j), .v w] s = some (.ok (.v (.bool (isOutcome kd i j w))), s) := by
  rw [q_is_outcome]
  cases w with
  | none =>
    (simp [mOf, bd, bdS, gC, gV, op1, op2, opN, gBin, gUn, gEsc, gN, gK, gCall, FX.gTup, gLst, gDic, gTst, gNot, gAnd, gOr, gAndV, gOrV, gNotV, gIf, gChain, bindT, bindTs, sNil, sSeq, sDrop, sRet, sRetN, sBrk, sCnt, sIf, sStuck, sSet, sUnp, gFn, argR, rdv, Rz.r, fAdd, fSub, fMul, fDiv, fMod, fNeg, fLt, fGt, fGe, fIsN, fNotN, fEq, fNe, fLe, fIn2, fNotIn2, fIx, fLen, fInt, gTyEq, gTyNe, gIsI, gSl, gNoP, gPart, fSl, fRev, fTup, vs?, rdA, zB, tyD, shI, shN, shB, eqvI, eqvS, b_is_outcome, isOutcome, isNo, whole_eq, isWhole, hk, sh_ties, flatD, sizeOk, argR] <;> try rfl)
    all_goals simp only [eq_comm]
  | int z =>
    (simp [mOf, bd, bdS, gC, gV, op1, op2, opN, gBin, gUn, gEsc, gN, gK, gCall, FX.gTup, gLst, gDic, gTst, gNot, gAnd, gOr, gAndV, gOrV, gNotV, gIf, gChain, bindT, bindTs, sNil, sSeq, sDrop, sRet, sRetN, sBrk, sCnt, sIf, sStuck, sSet, sUnp, gFn, argR, rdv, Rz.r, fAdd, fSub, fMul, fDiv, fMod, fNeg, fLt, fGt, fGe, fIsN, fNotN, fEq, fNe, fLe, fIn2, fNotIn2, fIx, fLen, fInt, gTyEq, gTyNe, gIsI, gSl, gNoP, gPart, fSl, fRev, fTup, vs?, rdA, zB, tyD, shI, shN, shB, eqvI, eqvS, b_is_outcome, isOutcome, isNo, whole_eq, isWhole, hk, sh_ties, flatD, sizeOk, argR] <;> try rfl)
    all_goals simp only [eq_comm]
  | _ => (simp [mOf, bd, bdS, gC, gV, op1, op2, opN, gBin, gUn, gEsc, gN, gK, gCall, FX.gTup, gLst, gDic, gTst, gNot, gAnd, gOr, gAndV, gOrV, gNotV, gIf, gChain, bindT, bindTs, sNil, sSeq, sDrop, sRet, sRetN, sBrk, sCnt, sIf, sStuck, sSet, sUnp, gFn, argR, rdv, Rz.r, fAdd, fSub, fMul, fDiv, fMod, fNeg, fLt, fGt, fGe, fIsN, fNotN, fEq, fNe, fLe, fIn2, fNotIn2, fIx, fLen, fInt, gTyEq, gTyNe, gIsI, gSl, gNoP, gPart, fSl, fRev, fTup, vs?, rdA, zB, tyD, shI, shN, shB, eqvI, eqvS, b_is_outcome, isOutcome, isNo, whole_eq, isWhole] <;> try rfl)
theorem tup3_eq (d : D) (s : Y.S) : m_is_tuple_of [.v d, .v (.int 3)] s = some (.ok (.v (.bool (isTupOf d 3))), s) := tupOf_eq d 3 s
theorem ipn (n : Int) : isPlayer .none n = false := rfl
theorem ipb (n : Int) (b : Bool) : isPlayer (.bool b) n = false := rfl
theorem ips (n : Int) (b : Str) : isPlayer (.str b) n = false := rfl
theorem ipl (n : Int) (b : List D) : isPlayer (.list b) n = false := rfl
theorem ipt (n : Int) (b : List D) : isPlayer (.tuple b) n = false := rfl
theorem ipd (n : Int) (b : List (D × D)) : isPlayer (.dict b) n = false := rfl
def isMatch (n : Int) (a b : D) : Bool := match a, b with
  | .int i, .int j => isPlayer (.int i) n && isPlayer (.int j) n && decide (i < j)
  | _, _ => false
theorem match_eq (n : Int) (a b : D) (s : Y.S) : m_is_match [.v (.int n), .v a, .v b] s = some (.ok (.v (.bool (isMatch n a b))), s) := by
  cases a with
  | int i =>
    cases b with
    | int j =>
      by_cases h1 : isPlayer (.int i) n = true
      · by_cases h2 : isPlayer (.int j) n = true
        · (simp [mOf, bd, bdS, gC, gV, op1, op2, opN, gBin, gUn, gEsc, gN, gK, gCall, FX.gTup, gLst, gDic, gTst, gNot, gAnd, gOr, gAndV, gOrV, gNotV, gIf, gChain, bindT, bindTs, sNil, sSeq, sDrop, sRet, sRetN, sBrk, sCnt, sIf, sStuck, sSet, sUnp, gFn, argR, rdv, Rz.r, fAdd, fSub, fMul, fDiv, fMod, fNeg, fLt, fGt, fGe, fIsN, fNotN, fEq, fNe, fLe, fIn2, fNotIn2, fIx, fLen, fInt, gTyEq, gTyNe, gIsI, gSl, gNoP, gPart, fSl, fRev, fTup, vs?, rdA, zB, tyD, shI, shN, shB, eqvI, eqvS, q_is_match, b_is_match, player_eq, isMatch, h1, h2] <;> try rfl)
        · (simp [mOf, bd, bdS, gC, gV, op1, op2, opN, gBin, gUn, gEsc, gN, gK, gCall, FX.gTup, gLst, gDic, gTst, gNot, gAnd, gOr, gAndV, gOrV, gNotV, gIf, gChain, bindT, bindTs, sNil, sSeq, sDrop, sRet, sRetN, sBrk, sCnt, sIf, sStuck, sSet, sUnp, gFn, argR, rdv, Rz.r, fAdd, fSub, fMul, fDiv, fMod, fNeg, fLt, fGt, fGe, fIsN, fNotN, fEq, fNe, fLe, fIn2, fNotIn2, fIx, fLen, fInt, gTyEq, gTyNe, gIsI, gSl, gNoP, gPart, fSl, fRev, fTup, vs?, rdA, zB, tyD, shI, shN, shB, eqvI, eqvS, q_is_match, b_is_match, player_eq, isMatch, h1, h2] <;> try rfl)
      · (simp [mOf, bd, bdS, gC, gV, op1, op2, opN, gBin, gUn, gEsc, gN, gK, gCall, FX.gTup, gLst, gDic, gTst, gNot, gAnd, gOr, gAndV, gOrV, gNotV, gIf, gChain, bindT, bindTs, sNil, sSeq, sDrop, sRet, sRetN, sBrk, sCnt, sIf, sStuck, sSet, sUnp, gFn, argR, rdv, Rz.r, fAdd, fSub, fMul, fDiv, fMod, fNeg, fLt, fGt, fGe, fIsN, fNotN, fEq, fNe, fLe, fIn2, fNotIn2, fIx, fLen, fInt, gTyEq, gTyNe, gIsI, gSl, gNoP, gPart, fSl, fRev, fTup, vs?, rdA, zB, tyD, shI, shN, shB, eqvI, eqvS, q_is_match, b_is_match, player_eq, isMatch, h1] <;> try rfl)
    | _ =>
      by_cases h1 : isPlayer (.int i) n = true
      · (simp [mOf, bd, bdS, gC, gV, op1, op2, opN, gBin, gUn, gEsc, gN, gK, gCall, FX.gTup, gLst, gDic, gTst, gNot, gAnd, gOr, gAndV, gOrV, gNotV, gIf, gChain, bindT, bindTs, sNil, sSeq, sDrop, sRet, sRetN, sBrk, sCnt, sIf, sStuck, sSet, sUnp, gFn, argR, rdv, Rz.r, fAdd, fSub, fMul, fDiv, fMod, fNeg, fLt, fGt, fGe, fIsN, fNotN, fEq, fNe, fLe, fIn2, fNotIn2, fIx, fLen, fInt, gTyEq, gTyNe, gIsI, gSl, gNoP, gPart, fSl, fRev, fTup, vs?, rdA, zB, tyD, shI, shN, shB, eqvI, eqvS, q_is_match, b_is_match, player_eq, isMatch, h1, ipn, ipb, ips, ipl, ipt, ipd] <;> try rfl)
      · (simp [mOf, bd, bdS, gC, gV, op1, op2, opN, gBin, gUn, gEsc, gN, gK, gCall, FX.gTup, gLst, gDic, gTst, gNot, gAnd, gOr, gAndV, gOrV, gNotV, gIf, gChain, bindT, bindTs, sNil, sSeq, sDrop, sRet, sRetN, sBrk, sCnt, sIf, sStuck, sSet, sUnp, gFn, argR, rdv, Rz.r, fAdd, fSub, fMul, fDiv, fMod, fNeg, fLt, fGt, fGe, fIsN, fNotN, fEq, fNe, fLe, fIn2, fNotIn2, fIx, fLen, fInt, gTyEq, gTyNe, gIsI, gSl, gNoP, gPart, fSl, fRev, fTup, vs?, rdA, zB, tyD, shI, shN, shB, eqvI, eqvS, q_is_match, b_is_match, player_eq, isMatch, h1, ipn, ipb, ips, ipl, ipt, ipd] <;> try rfl)
  | _ => (simp [mOf, bd, bdS, gC, gV, op1, op2, opN, gBin, gUn, gEsc, gN, gK, gCall, FX.gTup, gLst, gDic, gTst, gNot, gAnd, gOr, gAndV, gOrV, gNotV, gIf, gChain, bindT, bindTs, sNil, sSeq, sDrop, sRet, sRetN, sBrk, sCnt, sIf, sStuck, sSet, sUnp, gFn, argR, rdv, Rz.r, fAdd, fSub, fMul, fDiv, fMod, fNeg, fLt, fGt, fGe, fIsN, fNotN, fEq, fNe, fLe, fIn2, fNotIn2, fIx, fLen, fInt, gTyEq, gTyNe, gIsI, gSl, gNoP, gPart, fSl, fRev, fTup, vs?, rdA, zB, tyD, shI, shN, shB, eqvI, eqvS, q_is_match, b_is_match, player_eq, isMatch, ipn, ipb, ips, ipl, ipt, ipd] <;> try rfl)
def isPlayed (kd : Str) (n : Int) (d : D) : Bool := match d with
  | .tuple [.int i, .int j, w] => isPlayer (.int i) n && isPlayer (.int j) n && decide (i < j) && isOutcome kd i j w
  | _ => false
theorem played_eq (kd : Str) (hk : SeqAt.shaped (.str kd) = true) (n : Int) (d : D) (s : Y.S) : m__is_played [.v (.str kd), .v (.int n), .v d] s = some (.ok (.v (.bool (isPlayed kd n d))), s) := by
  cases d with
  | tuple ds =>
    match ds with
    | [] => (simp [mOf, bd, bdS, gC, gV, op1, op2, opN, gBin, gUn, gEsc, gN, gK, gCall, FX.gTup, gLst, gDic, gTst, gNot, gAnd, gOr, gAndV, gOrV, gNotV, gIf, gChain, bindT, bindTs, sNil, sSeq, sDrop, sRet, sRetN, sBrk, sCnt, sIf, sStuck, sSet, sUnp, gFn, argR, rdv, Rz.r, fAdd, fSub, fMul, fDiv, fMod, fNeg, fLt, fGt, fGe, fIsN, fNotN, fEq, fNe, fLe, fIn2, fNotIn2, fIx, fLen, fInt, gTyEq, gTyNe, gIsI, gSl, gNoP, gPart, fSl, fRev, fTup, vs?, rdA, zB, tyD, shI, shN, shB, eqvI, eqvS, q__is_played, b__is_played, tup3_eq, isTupOf, isPlayed] <;> try rfl)
    | [a] => (simp [mOf, bd, bdS, gC, gV, op1, op2, opN, gBin, gUn, gEsc, gN, gK, gCall, FX.gTup, gLst, gDic, gTst, gNot, gAnd, gOr, gAndV, gOrV, gNotV, gIf, gChain, bindT, bindTs, sNil, sSeq, sDrop, sRet, sRetN, sBrk, sCnt, sIf, sStuck, sSet, sUnp, gFn, argR, rdv, Rz.r, fAdd, fSub, fMul, fDiv, fMod, fNeg, fLt, fGt, fGe, fIsN, fNotN, fEq, fNe, fLe, fIn2, fNotIn2, fIx, fLen, fInt, gTyEq, gTyNe, gIsI, gSl, gNoP, gPart, fSl, fRev, fTup, vs?, rdA, zB, tyD, shI, shN, shB, eqvI, eqvS, q__is_played, b__is_played, tup3_eq, isTupOf, isPlayed] <;> try rfl)
    | [a, b] => (simp [mOf, bd, bdS, gC, gV, op1, op2, opN, gBin, gUn, gEsc, gN, gK, gCall, FX.gTup, gLst, gDic, gTst, gNot, gAnd, gOr, gAndV, gOrV, gNotV, gIf, gChain, bindT, bindTs, sNil, sSeq, sDrop, sRet, sRetN, sBrk, sCnt, sIf, sStuck, sSet, sUnp, gFn, argR, rdv, Rz.r, fAdd, fSub, fMul, fDiv, fMod, fNeg, fLt, fGt, fGe, fIsN, fNotN, fEq, fNe, fLe, fIn2, fNotIn2, fIx, fLen, fInt, gTyEq, gTyNe, gIsI, gSl, gNoP, gPart, fSl, fRev, fTup, vs?, rdA, zB, tyD, shI, shN, shB, eqvI, eqvS, q__is_played, b__is_played, tup3_eq, isTupOf, isPlayed] <;> try rfl)
    | [a, b, c] =>
      cases a with
      | int i =>
        cases b with
        | int j =>
          by_cases h : isMatch n (.int i) (.int j) = true
          · have h' : (isPlayer (.int i) n && isPlayer (.int j) n && decide (i < j)) = true := h
            (simp [mOf, bd, bdS, gC, gV, op1, op2, opN, gBin, gUn, gEsc, gN, gK, gCall, FX.gTup, gLst, gDic, gTst, gNot, gAnd, gOr, gAndV, gOrV, gNotV, gIf, gChain, bindT, bindTs, sNil, sSeq, sDrop, sRet, sRetN, sBrk, sCnt, sIf, sStuck, sSet, sUnp, gFn, argR, rdv, Rz.r, fAdd, fSub, fMul, fDiv, fMod, fNeg, fLt, fGt, fGe, fIsN, fNotN, fEq, fNe, fLe, fIn2, fNotIn2, fIx, fLen, fInt, gTyEq, gTyNe, gIsI, gSl, gNoP, gPart, fSl, fRev, fTup, vs?, rdA, zB, tyD, shI, shN, shB, eqvI, eqvS, q__is_played, b__is_played, tup3_eq, isTupOf, isPlayed, match_eq, h, h', outcome_eq kd hk] <;> try rfl)
          · have h1 : isMatch n (.int i) (.int j) = false := by simpa using h
            have h' : (isPlayer (.int i) n && isPlayer (.int j) n && decide (i < j)) = false := h1
            (simp [mOf, bd, bdS, gC, gV, op1, op2, opN, gBin, gUn, gEsc, gN, gK, gCall, FX.gTup, gLst, gDic, gTst, gNot, gAnd, gOr, gAndV, gOrV, gNotV, gIf, gChain, bindT, bindTs, sNil, sSeq, sDrop, sRet, sRetN, sBrk, sCnt, sIf, sStuck, sSet, sUnp, gFn, argR, rdv, Rz.r, fAdd, fSub, fMul, fDiv, fMod, fNeg, fLt, fGt, fGe, fIsN, fNotN, fEq, fNe, fLe, fIn2, fNotIn2, fIx, fLen, fInt, gTyEq, gTyNe, gIsI, gSl, gNoP, gPart, fSl, fRev, fTup, vs?, rdA, zB, tyD, shI, shN, shB, eqvI, eqvS, q__is_played, b__is_played, tup3_eq, isTupOf, isPlayed, match_eq, h1, h'] <;> try rfl)
        | _ => (simp [mOf, bd, bdS, gC, gV, op1, op2, opN, gBin, gUn, gEsc, gN, gK, gCall, FX.gTup, gLst, gDic, gTst, gNot, gAnd, gOr, gAndV, gOrV, gNotV, gIf, gChain, bindT, bindTs, sNil, sSeq, sDrop, sRet, sRetN, sBrk, sCnt, sIf, sStuck, sSet, sUnp, gFn, argR, rdv, Rz.r, fAdd, fSub, fMul, fDiv, fMod, fNeg, fLt, fGt, fGe, fIsN, fNotN, fEq, fNe, fLe, fIn2, fNotIn2, fIx, fLen, fInt, gTyEq, gTyNe, gIsI, gSl, gNoP, gPart, fSl, fRev, fTup, vs?, rdA, zB, tyD, shI, shN, shB, eqvI, eqvS, q__is_played, b__is_played, tup3_eq, isTupOf, isPlayed, match_eq, isMatch] <;> try rfl)
      | _ => (simp [mOf, bd, bdS, gC, gV, op1, op2, opN, gBin, gUn, gEsc, gN, gK, gCall, FX.gTup, gLst, gDic, gTst, gNot, gAnd, gOr, gAndV, gOrV, gNotV, gIf, gChain, bindT, bindTs, sNil, sSeq, sDrop, sRet, sRetN, sBrk, sCnt, sIf, sStuck, sSet, sUnp, gFn, argR, rdv, Rz.r, fAdd, fSub, fMul, fDiv, fMod, fNeg, fLt, fGt, fGe, fIsN, fNotN, fEq, fNe, fLe, fIn2, fNotIn2, fIx, fLen, fInt, gTyEq, gTyNe, gIsI, gSl, gNoP, gPart, fSl, fRev, fTup, vs?, rdA, zB, tyD, shI, shN, shB, eqvI, eqvS, q__is_played, b__is_played, tup3_eq, isTupOf, isPlayed, match_eq, isMatch] <;> try rfl)
    | a :: b :: c :: e :: l => (simp [mOf, bd, bdS, gC, gV, op1, op2, opN, gBin, gUn, gEsc, gN, gK, gCall, FX.gTup, gLst, gDic, gTst, gNot, gAnd, gOr, gAndV, gOrV, gNotV, gIf, gChain, bindT, bindTs, sNil, sSeq, sDrop, sRet, sRetN, sBrk, sCnt, sIf, sStuck, sSet, sUnp, gFn, argR, rdv, Rz.r, fAdd, fSub, fMul, fDiv, fMod, fNeg, fLt, fGt, fGe, fIsN, fNotN, fEq, fNe, fLe, fIn2, fNotIn2, fIx, fLen, fInt, gTyEq, gTyNe, gIsI, gSl, gNoP, gPart, fSl, fRev, fTup, vs?, rdA, zB, tyD, shI, shN, shB, eqvI, eqvS, q__is_played, b__is_played, tup3_eq, isTupOf, isPlayed] <;> try rfl)
  | _ => (simp [mOf, bd, bdS, gC, gV, op1, op2, opN, gBin, gUn, gEsc, gN, gK, gCall, FX.gTup, gLst, gDic, gTst, gNot, gAnd, gOr, gAndV, gOrV, gNotV, gIf, gChain, bindT, bindTs, sNil, sSeq, sDrop, sRet, sRetN, sBrk, sCnt, sIf, sStuck, sSet, sUnp, gFn, argR, rdv, Rz.r, fAdd, fSub, fMul, fDiv, fMod, fNeg, fLt, fGt, fGe, fIsN, fNotN, fEq, fNe, fLe, fIn2, fNotIn2, fIx, fLen, fInt, gTyEq, gTyNe, gIsI, gSl, gNoP, gPart, fSl, fRev, fTup, vs?, rdA, zB, tyD, shI, shN, shB, eqvI, eqvS, q__is_played, b__is_played, tup3_eq, isTupOf, isPlayed] <;> try rfl)
theorem isPlayed_inv {kd : Str} {n : Int} {d : D} (h : isPlayed kd n d = true) : ∃ i j w, d = .tuple [.int i, .int j, w] := by
  unfold isPlayed at h
  split at h
  · exact ⟨_, _, _, rfl⟩
  · cases h
def arePlayed (kd : Str) (n : Int) : List Int → List D → Bool
  | _, [] => true
  | b, d :: ds => match d with
    | .tuple [.int i, .int j, w] => isPlayed kd n (.tuple [.int i, .int j, w]) && !leT [i, j] b && arePlayed kd n [i, j] ds
    | _ => false
theorem bodyAP_no (kd : Str) (hk : SeqAt.shaped (.str kd) = true) (n : Int) (l d : D) (x a b c : Option R) (s : Y.S) (h : isPlayed kd n d = false) :
    l__are_played_1 [some (.v (.str kd)), some (.v (.int n)), some (.v l), x, some (.v d), a, b, c] s = some (.rt (.v (.bool false)), [some (.v (.str kd)), some (.v (.int n)), some (.v l), x, some (.v d), a, b, c], s) := by
  (simp [mOf, bd, bdS, gC, gV, op1, op2, opN, gBin, gUn, gEsc, gN, gK, gCall, FX.gTup, gLst, gDic, gTst, gNot, gAnd, gOr, gAndV, gOrV, gNotV, gIf, gChain, bindT, bindTs, sNil, sSeq, sDrop, sRet, sRetN, sBrk, sCnt, sIf, sStuck, sSet, sUnp, gFn, argR, rdv, Rz.r, fAdd, fSub, fMul, fDiv, fMod, fNeg, fLt, fGt, fGe, fIsN, fNotN, fEq, fNe, fLe, fIn2, fNotIn2, fIx, fLen, fInt, gTyEq, gTyNe, gIsI, gSl, gNoP, gPart, fSl, fRev, fTup, vs?, rdA, zB, tyD, shI, shN, shB, eqvI, eqvS, l__are_played_1, played_eq kd hk, h] <;> try rfl)
theorem bodyAP_le (kd : Str) (hk : SeqAt.shaped (.str kd) = true) (n bi bj i j : Int) (w l : D) (a b c : Option R) (s : Y.S) (h : isPlayed kd n (.tuple [.int i, .int j, w]) = true) (h2 : leT [i, j] [bi, bj] = true) :
    l__are_played_1 [some (.v (.str kd)), some (.v (.int n)), some (.v l), some (.v (.tuple [.int bi, .int bj])), some (.v (.tuple [.int i, .int j, w])), a, b, c] s =
      some (.rt (.v (.bool false)), [some (.v (.str kd)), some (.v (.int n)), some (.v l), some (.v (.tuple [.int bi, .int bj])), some (.v (.tuple [.int i, .int j, w])), some (.v (.int i)), some (.v (.int j)), some (.v w)], s) := by
  (simp [mOf, bd, bdS, gC, gV, op1, op2, opN, gBin, gUn, gEsc, gN, gK, gCall, FX.gTup, gLst, gDic, gTst, gNot, gAnd, gOr, gAndV, gOrV, gNotV, gIf, gChain, bindT, bindTs, sNil, sSeq, sDrop, sRet, sRetN, sBrk, sCnt, sIf, sStuck, sSet, sUnp, gFn, argR, rdv, Rz.r, fAdd, fSub, fMul, fDiv, fMod, fNeg, fLt, fGt, fGe, fIsN, fNotN, fEq, fNe, fLe, fIn2, fNotIn2, fIx, fLen, fInt, gTyEq, gTyNe, gIsI, gSl, gNoP, gPart, fSl, fRev, fTup, vs?, rdA, zB, tyD, shI, shN, shB, eqvI, eqvS, l__are_played_1, played_eq kd hk, h, h2, ints?, sizeOk] <;> try rfl)
theorem bodyAP_go (kd : Str) (hk : SeqAt.shaped (.str kd) = true) (n bi bj i j : Int) (w l : D) (a b c : Option R) (s : Y.S) (h : isPlayed kd n (.tuple [.int i, .int j, w]) = true) (h2 : leT [i, j] [bi, bj] = false) :
    l__are_played_1 [some (.v (.str kd)), some (.v (.int n)), some (.v l), some (.v (.tuple [.int bi, .int bj])), some (.v (.tuple [.int i, .int j, w])), a, b, c] s =
      some (.nx, [some (.v (.str kd)), some (.v (.int n)), some (.v l), some (.v (.tuple [.int i, .int j])), some (.v (.tuple [.int i, .int j, w])), some (.v (.int i)), some (.v (.int j)), some (.v w)], s) := by
  (simp [mOf, bd, bdS, gC, gV, op1, op2, opN, gBin, gUn, gEsc, gN, gK, gCall, FX.gTup, gLst, gDic, gTst, gNot, gAnd, gOr, gAndV, gOrV, gNotV, gIf, gChain, bindT, bindTs, sNil, sSeq, sDrop, sRet, sRetN, sBrk, sCnt, sIf, sStuck, sSet, sUnp, gFn, argR, rdv, Rz.r, fAdd, fSub, fMul, fDiv, fMod, fNeg, fLt, fGt, fGe, fIsN, fNotN, fEq, fNe, fLe, fIn2, fNotIn2, fIx, fLen, fInt, gTyEq, gTyNe, gIsI, gSl, gNoP, gPart, fSl, fRev, fTup, vs?, rdA, zB, tyD, shI, shN, shB, eqvI, eqvS, l__are_played_1, played_eq kd hk, h, h2, ints?, sizeOk] <;> try rfl)
theorem ap_loop (kd : Str) (hk : SeqAt.shaped (.str kd) = true) (n : Int) (l : D) : ∀ (ds : List D) (bi bj : Int) (a b c e : Option R) (s : Y.S), ∃ Γ', 
    forG (.n 4) l__are_played_1 ds [some (.v (.str kd)), some (.v (.int n)), some (.v l), some (.v (.tuple [.int bi, .int bj])), a, b, c, e] s =
      some (if arePlayed kd n [bi, bj] ds = true then .nx else .rt (.v (.bool false)), Γ', s) := by
  intro ds
  induction ds with
  | nil => exact fun bi bj a b c e s => ⟨_, rfl⟩
  | cons d ds ih =>
    intro bi bj a b c e s
    by_cases h : isPlayed kd n d = true
    · obtain ⟨i, j, w, rfl⟩ := isPlayed_inv h
      by_cases h2 : leT [i, j] [bi, bj] = true
      · have e1 : arePlayed kd n [bi, bj] (.tuple [.int i, .int j, w] :: ds) = false := by simp [arePlayed, h2]
        refine ⟨[some (.v (.str kd)), some (.v (.int n)), some (.v l), some (.v (.tuple [.int bi, .int bj])), some (.v (.tuple [.int i, .int j, w])), some (.v (.int i)), some (.v (.int j)), some (.v w)], ?_⟩
        rw [forG_cons (Γ1 := [some (.v (.str kd)), some (.v (.int n)), some (.v l), some (.v (.tuple [.int bi, .int bj])), some (.v (.tuple [.int i, .int j, w])), b, c, e]) rfl, bodyAP_le kd hk n bi bj i j w l b c e s h h2, e1]
        rfl
      · have h3 : leT [i, j] [bi, bj] = false := by simpa using h2
        obtain ⟨Γ', q⟩ := ih i j (some (.v (.tuple [.int i, .int j, w]))) (some (.v (.int i))) (some (.v (.int j))) (some (.v w)) s
        refine ⟨Γ', ?_⟩
        have e1 : arePlayed kd n [bi, bj] (.tuple [.int i, .int j, w] :: ds) = arePlayed kd n [i, j] ds := by simp [arePlayed, h, h3]
        rw [forG_cons (Γ1 := [some (.v (.str kd)), some (.v (.int n)), some (.v l), some (.v (.tuple [.int bi, .int bj])), some (.v (.tuple [.int i, .int j, w])), b, c, e]) rfl, bodyAP_go kd hk n bi bj i j w l b c e s h h3, e1, ← q]
    · have h' : isPlayed kd n d = false := by simpa using h
      have e1 : arePlayed kd n [bi, bj] (d :: ds) = false := by
        unfold arePlayed
        split
        · rename_i i j w
          simp [h']
        · rfl
      refine ⟨[some (.v (.str kd)), some (.v (.int n)), some (.v l), some (.v (.tuple [.int bi, .int bj])), some (.v d), b, c, e], ?_⟩
      rw [forG_cons (Γ1 := [some (.v (.str kd)), some (.v (.int n)), some (.v l), some (.v (.tuple [.int bi, .int bj])), some (.v d), b, c, e]) rfl, bodyAP_no kd hk n l d _ b c e s h', e1]
      rfl
theorem b_are : (b__are_played : GS Y) = (sSeq (sSet 3 (FX.gTup (gK (gEsc (gUn fNeg (gC (.int 1)))) (gK (gEsc (gUn fNeg (gC (.int 1)))) gN))))
  (sSeq (sFor (.n 4) (gItL (gV 2)) l__are_played_1) (sRet (gC (.bool true))))) := rfl
theorem are_eq (kd : Str) (hk : SeqAt.shaped (.str kd) = true) (n : Int) (ds : List D) (s : Y.S) : m__are_played [.v (.str kd), .v (.int n), .v (.list ds)] s = some (.ok (.v (.bool (arePlayed kd n [-1, -1] ds))), s) := by
  obtain ⟨Γ', q⟩ := ap_loop kd hk n (.list ds) ds (-1) (-1) none none none none s
  cases h : arePlayed kd n [-1, -1] ds with
  | true =>
    rw [h] at q
    (simp [mOf, bd, bdS, gC, gV, op1, op2, opN, gBin, gUn, gEsc, gN, gK, gCall, FX.gTup, gLst, gDic, gTst, gNot, gAnd, gOr, gAndV, gOrV, gNotV, gIf, gChain, bindT, bindTs, sNil, sSeq, sDrop, sRet, sRetN, sBrk, sCnt, sIf, sStuck, sSet, sUnp, gFn, argR, rdv, Rz.r, fAdd, fSub, fMul, fDiv, fMod, fNeg, fLt, fGt, fGe, fIsN, fNotN, fEq, fNe, fLe, fIn2, fNotIn2, fIx, fLen, fInt, gTyEq, gTyNe, gIsI, gSl, gNoP, gPart, fSl, fRev, fTup, vs?, rdA, zB, tyD, shI, shN, shB, eqvI, eqvS, q__are_played, b_are, sFor, gItL, sizeOk, q] <;> try rfl)
  | false =>
    rw [h] at q
    (simp [mOf, bd, bdS, gC, gV, op1, op2, opN, gBin, gUn, gEsc, gN, gK, gCall, FX.gTup, gLst, gDic, gTst, gNot, gAnd, gOr, gAndV, gOrV, gNotV, gIf, gChain, bindT, bindTs, sNil, sSeq, sDrop, sRet, sRetN, sBrk, sCnt, sIf, sStuck, sSet, sUnp, gFn, argR, rdv, Rz.r, fAdd, fSub, fMul, fDiv, fMod, fNeg, fLt, fGt, fGe, fIsN, fNotN, fEq, fNe, fLe, fIn2, fNotIn2, fIx, fLen, fInt, gTyEq, gTyNe, gIsI, gSl, gNoP, gPart, fSl, fRev, fTup, vs?, rdA, zB, tyD, shI, shN, shB, eqvI, eqvS, q__are_played, b_are, sFor, gItL, sizeOk, q] <;> try rfl)
theorem sh_plain : SeqAt.shaped (.str (Str.ofString "plain")) = true := by decide +kernel
def isKind (z : Str) : Bool := decide (z = Str.ofString "plain") || decide (z = Str.ofString "ties")
def isLeague (d : D) : Bool := match d with
  | .tuple [.str kd, .int n, .list ds] => isKind kd && decide (2 ≤ n) && decide (n ≤ 6) && arePlayed kd n [-1, -1] ds
  | _ => false
theorem worths_eq (z : Str) : (t_WORTHS z).isSome = isKind z := by
  unfold t_WORTHS isKind
  by_cases h1 : z = Str.ofString "plain"
  · simp [h1]
  · by_cases h2 : z = Str.ofString "ties"
    · rw [if_neg h1, if_pos h2]; simp [h2]
    · rw [if_neg h1, if_neg h2]; simp [h1, h2]
theorem kind_sh {z : Str} (h : isKind z = true) : SeqAt.shaped (.str z) = true := by
  unfold isKind at h
  simp only [Bool.or_eq_true, decide_eq_true_eq] at h
  rcases h with rfl | rfl
  · exact sh_plain
  · exact sh_ties
theorem league_eq (d : D) (s : Y.S) : m_is_league [.v d] s = some (.ok (.v (.bool (isLeague d))), s) := by
  cases d with
  | tuple ds =>
    match ds with
    | [] => (simp [mOf, bd, bdS, gC, gV, op1, op2, opN, gBin, gUn, gEsc, gN, gK, gCall, FX.gTup, gLst, gDic, gTst, gNot, gAnd, gOr, gAndV, gOrV, gNotV, gIf, gChain, bindT, bindTs, sNil, sSeq, sDrop, sRet, sRetN, sBrk, sCnt, sIf, sStuck, sSet, sUnp, gFn, argR, rdv, Rz.r, fAdd, fSub, fMul, fDiv, fMod, fNeg, fLt, fGt, fGe, fIsN, fNotN, fEq, fNe, fLe, fIn2, fNotIn2, fIx, fLen, fInt, gTyEq, gTyNe, gIsI, gSl, gNoP, gPart, fSl, fRev, fTup, vs?, rdA, zB, tyD, shI, shN, shB, eqvI, eqvS, q_is_league, b_is_league, tup3_eq, isTupOf, isLeague] <;> try rfl)
    | [a] => (simp [mOf, bd, bdS, gC, gV, op1, op2, opN, gBin, gUn, gEsc, gN, gK, gCall, FX.gTup, gLst, gDic, gTst, gNot, gAnd, gOr, gAndV, gOrV, gNotV, gIf, gChain, bindT, bindTs, sNil, sSeq, sDrop, sRet, sRetN, sBrk, sCnt, sIf, sStuck, sSet, sUnp, gFn, argR, rdv, Rz.r, fAdd, fSub, fMul, fDiv, fMod, fNeg, fLt, fGt, fGe, fIsN, fNotN, fEq, fNe, fLe, fIn2, fNotIn2, fIx, fLen, fInt, gTyEq, gTyNe, gIsI, gSl, gNoP, gPart, fSl, fRev, fTup, vs?, rdA, zB, tyD, shI, shN, shB, eqvI, eqvS, q_is_league, b_is_league, tup3_eq, isTupOf, isLeague] <;> try rfl)
    | [a, b] => (simp [mOf, bd, bdS, gC, gV, op1, op2, opN, gBin, gUn, gEsc, gN, gK, gCall, FX.gTup, gLst, gDic, gTst, gNot, gAnd, gOr, gAndV, gOrV, gNotV, gIf, gChain, bindT, bindTs, sNil, sSeq, sDrop, sRet, sRetN, sBrk, sCnt, sIf, sStuck, sSet, sUnp, gFn, argR, rdv, Rz.r, fAdd, fSub, fMul, fDiv, fMod, fNeg, fLt, fGt, fGe, fIsN, fNotN, fEq, fNe, fLe, fIn2, fNotIn2, fIx, fLen, fInt, gTyEq, gTyNe, gIsI, gSl, gNoP, gPart, fSl, fRev, fTup, vs?, rdA, zB, tyD, shI, shN, shB, eqvI, eqvS, q_is_league, b_is_league, tup3_eq, isTupOf, isLeague] <;> try rfl)
    | a :: b :: c :: e :: l => (simp [mOf, bd, bdS, gC, gV, op1, op2, opN, gBin, gUn, gEsc, gN, gK, gCall, FX.gTup, gLst, gDic, gTst, gNot, gAnd, gOr, gAndV, gOrV, gNotV, gIf, gChain, bindT, bindTs, sNil, sSeq, sDrop, sRet, sRetN, sBrk, sCnt, sIf, sStuck, sSet, sUnp, gFn, argR, rdv, Rz.r, fAdd, fSub, fMul, fDiv, fMod, fNeg, fLt, fGt, fGe, fIsN, fNotN, fEq, fNe, fLe, fIn2, fNotIn2, fIx, fLen, fInt, gTyEq, gTyNe, gIsI, gSl, gNoP, gPart, fSl, fRev, fTup, vs?, rdA, zB, tyD, shI, shN, shB, eqvI, eqvS, q_is_league, b_is_league, tup3_eq, isTupOf, isLeague] <;> try rfl)
    | [a, b, c] =>
      cases a with
      | str z =>
        cases hz : isKind z with
        | true =>
          cases b with
          | int n =>
            by_cases h1 : 2 ≤ n
            · by_cases h2 : n ≤ 6
              · cases c with
                | list l => (simp [mOf, bd, bdS, gC, gV, op1, op2, opN, gBin, gUn, gEsc, gN, gK, gCall, FX.gTup, gLst, gDic, gTst, gNot, gAnd, gOr, gAndV, gOrV, gNotV, gIf, gChain, bindT, bindTs, sNil, sSeq, sDrop, sRet, sRetN, sBrk, sCnt, sIf, sStuck, sSet, sUnp, gFn, argR, rdv, Rz.r, fAdd, fSub, fMul, fDiv, fMod, fNeg, fLt, fGt, fGe, fIsN, fNotN, fEq, fNe, fLe, fIn2, fNotIn2, fIx, fLen, fInt, gTyEq, gTyNe, gIsI, gSl, gNoP, gPart, fSl, fRev, fTup, vs?, rdA, zB, tyD, shI, shN, shB, eqvI, eqvS, q_is_league, b_is_league, tup3_eq, isTupOf, isLeague, fKNotIn, worths_eq, hz, whole_eq, isWhole, h1, h2, are_eq z (kind_sh hz) n l] <;> try rfl)
                | _ => (simp [mOf, bd, bdS, gC, gV, op1, op2, opN, gBin, gUn, gEsc, gN, gK, gCall, FX.gTup, gLst, gDic, gTst, gNot, gAnd, gOr, gAndV, gOrV, gNotV, gIf, gChain, bindT, bindTs, sNil, sSeq, sDrop, sRet, sRetN, sBrk, sCnt, sIf, sStuck, sSet, sUnp, gFn, argR, rdv, Rz.r, fAdd, fSub, fMul, fDiv, fMod, fNeg, fLt, fGt, fGe, fIsN, fNotN, fEq, fNe, fLe, fIn2, fNotIn2, fIx, fLen, fInt, gTyEq, gTyNe, gIsI, gSl, gNoP, gPart, fSl, fRev, fTup, vs?, rdA, zB, tyD, shI, shN, shB, eqvI, eqvS, q_is_league, b_is_league, tup3_eq, isTupOf, isLeague, fKNotIn, worths_eq, hz, whole_eq, isWhole, h1, h2] <;> try rfl)
              · (simp [mOf, bd, bdS, gC, gV, op1, op2, opN, gBin, gUn, gEsc, gN, gK, gCall, FX.gTup, gLst, gDic, gTst, gNot, gAnd, gOr, gAndV, gOrV, gNotV, gIf, gChain, bindT, bindTs, sNil, sSeq, sDrop, sRet, sRetN, sBrk, sCnt, sIf, sStuck, sSet, sUnp, gFn, argR, rdv, Rz.r, fAdd, fSub, fMul, fDiv, fMod, fNeg, fLt, fGt, fGe, fIsN, fNotN, fEq, fNe, fLe, fIn2, fNotIn2, fIx, fLen, fInt, gTyEq, gTyNe, gIsI, gSl, gNoP, gPart, fSl, fRev, fTup, vs?, rdA, zB, tyD, shI, shN, shB, eqvI, eqvS, q_is_league, b_is_league, tup3_eq, isTupOf, isLeague, fKNotIn, worths_eq, hz, whole_eq, isWhole, h1, h2] <;> try rfl)
                cases c <;> simp [h2]
            · (simp [mOf, bd, bdS, gC, gV, op1, op2, opN, gBin, gUn, gEsc, gN, gK, gCall, FX.gTup, gLst, gDic, gTst, gNot, gAnd, gOr, gAndV, gOrV, gNotV, gIf, gChain, bindT, bindTs, sNil, sSeq, sDrop, sRet, sRetN, sBrk, sCnt, sIf, sStuck, sSet, sUnp, gFn, argR, rdv, Rz.r, fAdd, fSub, fMul, fDiv, fMod, fNeg, fLt, fGt, fGe, fIsN, fNotN, fEq, fNe, fLe, fIn2, fNotIn2, fIx, fLen, fInt, gTyEq, gTyNe, gIsI, gSl, gNoP, gPart, fSl, fRev, fTup, vs?, rdA, zB, tyD, shI, shN, shB, eqvI, eqvS, q_is_league, b_is_league, tup3_eq, isTupOf, isLeague, fKNotIn, worths_eq, hz, whole_eq, isWhole, h1] <;> try rfl)
              cases c <;> simp [h1]
          | _ => (simp [mOf, bd, bdS, gC, gV, op1, op2, opN, gBin, gUn, gEsc, gN, gK, gCall, FX.gTup, gLst, gDic, gTst, gNot, gAnd, gOr, gAndV, gOrV, gNotV, gIf, gChain, bindT, bindTs, sNil, sSeq, sDrop, sRet, sRetN, sBrk, sCnt, sIf, sStuck, sSet, sUnp, gFn, argR, rdv, Rz.r, fAdd, fSub, fMul, fDiv, fMod, fNeg, fLt, fGt, fGe, fIsN, fNotN, fEq, fNe, fLe, fIn2, fNotIn2, fIx, fLen, fInt, gTyEq, gTyNe, gIsI, gSl, gNoP, gPart, fSl, fRev, fTup, vs?, rdA, zB, tyD, shI, shN, shB, eqvI, eqvS, q_is_league, b_is_league, tup3_eq, isTupOf, isLeague, fKNotIn, worths_eq, hz, whole_eq, isWhole] <;> try rfl)
        | false =>
          (simp [mOf, bd, bdS, gC, gV, op1, op2, opN, gBin, gUn, gEsc, gN, gK, gCall, FX.gTup, gLst, gDic, gTst, gNot, gAnd, gOr, gAndV, gOrV, gNotV, gIf, gChain, bindT, bindTs, sNil, sSeq, sDrop, sRet, sRetN, sBrk, sCnt, sIf, sStuck, sSet, sUnp, gFn, argR, rdv, Rz.r, fAdd, fSub, fMul, fDiv, fMod, fNeg, fLt, fGt, fGe, fIsN, fNotN, fEq, fNe, fLe, fIn2, fNotIn2, fIx, fLen, fInt, gTyEq, gTyNe, gIsI, gSl, gNoP, gPart, fSl, fRev, fTup, vs?, rdA, zB, tyD, shI, shN, shB, eqvI, eqvS, q_is_league, b_is_league, tup3_eq, isTupOf, isLeague, fKNotIn, worths_eq, hz] <;> try rfl)
          cases b <;> try (cases c <;> simp [hz])
      | _ => (simp [mOf, bd, bdS, gC, gV, op1, op2, opN, gBin, gUn, gEsc, gN, gK, gCall, FX.gTup, gLst, gDic, gTst, gNot, gAnd, gOr, gAndV, gOrV, gNotV, gIf, gChain, bindT, bindTs, sNil, sSeq, sDrop, sRet, sRetN, sBrk, sCnt, sIf, sStuck, sSet, sUnp, gFn, argR, rdv, Rz.r, fAdd, fSub, fMul, fDiv, fMod, fNeg, fLt, fGt, fGe, fIsN, fNotN, fEq, fNe, fLe, fIn2, fNotIn2, fIx, fLen, fInt, gTyEq, gTyNe, gIsI, gSl, gNoP, gPart, fSl, fRev, fTup, vs?, rdA, zB, tyD, shI, shN, shB, eqvI, eqvS, q_is_league, b_is_league, tup3_eq, isTupOf, isLeague] <;> try rfl)
  | _ => (simp [mOf, bd, bdS, gC, gV, op1, op2, opN, gBin, gUn, gEsc, gN, gK, gCall, FX.gTup, gLst, gDic, gTst, gNot, gAnd, gOr, gAndV, gOrV, gNotV, gIf, gChain, bindT, bindTs, sNil, sSeq, sDrop, sRet, sRetN, sBrk, sCnt, sIf, sStuck, sSet, sUnp, gFn, argR, rdv, Rz.r, fAdd, fSub, fMul, fDiv, fMod, fNeg, fLt, fGt, fGe, fIsN, fNotN, fEq, fNe, fLe, fIn2, fNotIn2, fIx, fLen, fInt, gTyEq, gTyNe, gIsI, gSl, gNoP, gPart, fSl, fRev, fTup, vs?, rdA, zB, tyD, shI, shN, shB, eqvI, eqvS, q_is_league, b_is_league, tup3_eq, isTupOf, isLeague] <;> try rfl)
end
end FX.Pg
set_option Elab.async false
set_option linter.all false
set_option maxRecDepth 100000
namespace FX.Pg
open PySem PySem.Spec L2 FX
inductive O3 where
  | a | t | b
deriving DecidableEq, Repr
def O3.d (i j : Int) : O3 → D
  | .a => .int i
  | .t => .none
  | .b => .int j
def kindS (t : Bool) : Str := if t = true then Str.ofString "ties" else Str.ofString "plain"
def pairsI (n : Nat) : List (Int × Int) := (List.range n).flatMap fun (i : Nat) => (List.range (n - 1 - i)).map fun (k : Nat) => ((i : Int), (i : Int) + 1 + (k : Int))
def encP : List (Int × Int) → List (Option O3) → List D
  | p :: ps, some o :: v => .tuple [.int p.1, .int p.2, o.d p.1 p.2] :: encP ps v
  | _ :: ps, none :: v => encP ps v
  | _, _ => []
theorem encP_nil (v : List (Option O3)) : encP [] v = [] := by cases v <;> rfl
structure Lg where
  t : Bool
  n : Nat
  v : List (Option O3)
def Lg.pl (l : Lg) : List D := encP (pairsI l.n) l.v
def Lg.d (l : Lg) : D := .tuple [.str (kindS l.t), .int (l.n : Nat), .list l.pl]
structure Lg.Ok (l : Lg) : Prop where
  h2 : 2 ≤ l.n
  h6 : l.n ≤ 6
  len : l.v.length = (pairsI l.n).length
  tie : l.t = false → some O3.t ∉ l.v
theorem kindS_isKind (t : Bool) : isKind (kindS t) = true := by cases t <;> decide +kernel
theorem kindS_sh (t : Bool) : SeqAt.shaped (.str (kindS t)) = true := kind_sh (kindS_isKind t)
theorem kindS_ties (t : Bool) : decide (kindS t = Str.ofString "ties") = t := by cases t <;> decide +kernel
theorem ncases {n : Nat} (h2 : 2 ≤ n) (h6 : n ≤ 6) : n = 2 ∨ n = 3 ∨ n = 4 ∨ n = 5 ∨ n = 6 := by omega
def riseP (n : Int) : Int × Int → List (Int × Int) → Prop
  | _, [] => True
  | b, p :: ps => 0 ≤ p.1 ∧ p.1 < p.2 ∧ p.2 < n ∧ (b.1 < p.1 ∨ b.1 = p.1 ∧ b.2 < p.2) ∧ riseP n p ps
instance : ∀ (n : Int) (b : Int × Int) (ps : List (Int × Int)), Decidable (riseP n b ps)
  | _, _, [] => .isTrue trivial
  | n, b, p :: ps => by
    have := instDecidableRiseP n p ps
    unfold riseP
    infer_instance
theorem pairs_rise {n : Nat} (h2 : 2 ≤ n) (h6 : n ≤ 6) : riseP n (-1, -1) (pairsI n) := by
  rcases ncases h2 h6 with rfl | rfl | rfl | rfl | rfl <;> decide +kernel
theorem leT2 (a b c d : Int) : leT [a, b] [c, d] = (decide (a < c) || (decide (a = c) && decide (b ≤ d))) := by
  unfold leT
  simp only [List.length_cons, List.length_nil, Nat.zero_add, Nat.min_self]
  unfold Ob.lexAt
  simp
  by_cases h : a = c
  · subst h
    simp [Ob.lexAt]
    by_cases h2 : b = d
    · subst h2; simp [Ob.lexAt]
    · simp [h2]
  · simp [h]; omega
theorem isOutcome_o {t : Bool} {i j : Int} {o : O3} (h : t = false → o ≠ .t) : isOutcome (kindS t) i j (o.d i j) = true := by
  cases o with
  | a => simp [O3.d, isOutcome]
  | b => simp [O3.d, isOutcome]
  | t =>
    cases t with
    | true => exact kindS_ties true
    | false => exact absurd rfl (h rfl)
theorem rise_le {n : Int} {b p : Int × Int} (h : b.1 < p.1 ∨ b.1 = p.1 ∧ b.2 < p.2) {ps : List (Int × Int)} (r : riseP n p ps) : riseP n b ps := by
  cases ps with
  | nil => trivial
  | cons q ps =>
    obtain ⟨a, c, d, e, f⟩ := r
    refine ⟨a, c, d, ?_, f⟩
    rcases h with h | h <;> rcases e with e | e <;> omega
theorem arePlayed_enc {t : Bool} {n : Int} : ∀ (ps : List (Int × Int)) (v : List (Option O3)) (b : Int × Int), riseP n b ps → (t = false → some O3.t ∉ v) → arePlayed (kindS t) n [b.1, b.2] (encP ps v) = true
  | [], v, b, _, _ => by rw [encP_nil]; rfl
  | p :: ps, [], b, _, _ => rfl
  | p :: ps, none :: v, b, r, h => by
    simp only [encP]
    exact arePlayed_enc ps v b (rise_le r.2.2.2.1 r.2.2.2.2) fun z q => h z (by simp [q])
  | p :: ps, some o :: v, b, r, h => by
    simp only [encP]
    obtain ⟨a, c, d, e, f⟩ := r
    have ih := arePlayed_enc ps v p f fun z q => h z (by simp [q])
    have ho : isOutcome (kindS t) p.1 p.2 (o.d p.1 p.2) = true := isOutcome_o fun z q => h z (by simp [q])
    unfold arePlayed
    simp only [ih, isPlayed, isPlayer, ho, leT2]
    rcases e with e | e
    · simp; omega
    · simp; omega
theorem Lg.Ok.isLeague {l : Lg} (h : l.Ok) : isLeague l.d = true := by
  have h1 := arePlayed_enc (t := l.t) (n := l.n) (pairsI l.n) l.v (-1, -1) (pairs_rise h.h2 h.h6) h.tie
  have h2 := h.h2
  have h3 := h.h6
  have e : arePlayed (kindS l.t) (l.n : Nat) [-1, -1] l.pl = true := h1
  unfold Lg.d Pg.isLeague
  simp only [kindS_isKind, e]
  simp; omega
end FX.Pg
set_option Elab.async false
set_option linter.all false
set_option maxRecDepth 100000
namespace FX.Pg
open PySem PySem.Spec L2 FX
section
variable {K : PySem.W.Frag} {sa : Addr} {ns : List Int}
structure SlI (t : Bool) (n : Nat) (way most : Nat) (ps : List (Int × Int)) (rest : List D) (Γ : Ev) (s : (DkY K sa ns).S) : Prop where
  ex : ∃ (dn rs : List (Int × Int)) (v : List (Option O3)) (x6 x7 x8 : Option R) (d : Dk), ps = dn ++ rs ∧ rest = enumD dn.length (rs.map prD) ∧
    Γ = [some (.h 0), some (.v (.str (kindS t))), some (.v (.int (n : Nat))), some (.v (.int (way : Nat))), some (.v (.int (most : Nat))), some (.o (.list (encP dn v))), x6, x7, x8] ∧
    s = dS d ∧ d.Ok ∧ v.length = dn.length ∧ (t = false → some O3.t ∉ v)
theorem encP_len : ∀ (ps : List (Int × Int)) (v : List (Option O3)), (encP ps v).length ≤ ps.length
  | [], v => by rw [encP_nil]; simp
  | p :: ps, [] => by simp [encP]
  | p :: ps, none :: v => by
    have := encP_len ps v
    simp only [encP, List.length_cons]; omega
  | p :: ps, some o :: v => by
    have := encP_len ps v
    simp only [encP, List.length_cons]; omega
theorem pairs_len {n : Nat} (h2 : 2 ≤ n) (h6 : n ≤ 6) : (pairsI n).length ≤ 15 := by
  rcases ncases h2 h6 with rfl | rfl | rfl | rfl | rfl <;> decide +kernel
end
end FX.Pg
set_option Elab.async false
set_option linter.all false
set_option maxRecDepth 100000
namespace FX
open PySem PySem.Spec L2
section
variable {Y : Sys} {g h : GS Y} {Γ Γ' Γ1 Γ2 : Ev} {s s' s1 s2 : Y.S} {Ψ : Fl × Ev × Y.S → Prop} {Φ : Oc R → Y.S → Prop}
def Wp (o : Option (Fl × Ev × Y.S)) (Ψ : Fl × Ev × Y.S → Prop) : Prop := ∃ out, o = some out ∧ Ψ out
def Rt (Φ : Oc R → Y.S → Prop) : Fl × Ev × Y.S → Prop
  | (.rt r, _, s') => Φ (.ok r) s'
  | (.nx, _, s') => Φ (.ok (.v .none)) s'
  | (.er c, _, s') => Φ (.er c) s'
  | _ => False
theorem wp_fn {N : Nat} {body : GS Y} {rs : List R} (h : Wp (body (rs.map some ++ List.replicate (N - rs.length) none) s) (Rt Φ)) : ∃ r s', mOf N body rs s = some (r, s') ∧ Φ r s' := by
  obtain ⟨⟨fl, Γ', s'⟩, e, p⟩ := h
  unfold mOf
  rw [e]
  cases fl with
  | nx => exact ⟨_, _, rfl, p⟩
  | rt r => exact ⟨_, _, rfl, p⟩
  | er c => exact ⟨_, _, rfl, p⟩
  | bk => exact p.elim
  | ct => exact p.elim
theorem wp_seq (e : g Γ s = some (.nx, Γ', s')) (p : Wp (h Γ' s') Ψ) : Wp (sSeq g h Γ s) Ψ := by
  rw [seq_nx e]; exact p
theorem wp_ret {ge : GE Y} {d : D} (e : ge Γ s = some (.ok (.v d), Γ', s')) (p : Ψ (.rt (.v d), Γ', s')) : Wp (sRet ge Γ s) Ψ := by
  unfold sRet bdS
  rw [e]
  exact ⟨_, rfl, p⟩
theorem wp_reto {ge : GE Y} {d : D} (e : ge Γ s = some (.ok (.o d), Γ', s')) (p : Ψ (.rt (.o d), Γ', s')) : Wp (sRet ge Γ s) Ψ := by
  unfold sRet bdS
  rw [e]
  exact ⟨_, rfl, p⟩
theorem set_o {ge : GE Y} {d : D} {i : Nat} (e : ge Γ s = some (.ok (.o d), Γ', s')) : sSet i ge Γ s = some (.nx, Γ'.set i (some (.o d)), s') := by
  unfold sSet bdS
  rw [e]
theorem set_v {ge : GE Y} {d : D} {i : Nat} (e : ge Γ s = some (.ok (.v d), Γ', s')) : sSet i ge Γ s = some (.nx, Γ'.set i (some (.v d)), s') := by
  unfold sSet bdS
  rw [e]
theorem bin_of {f : D → D → Option Rz} {ga gb : GE Y} {ra rb : R} {d e : D} {z : Rz} (ha : ga Γ s = some (.ok ra, Γ1, s1)) (hb : gb Γ1 s1 = some (.ok rb, Γ2, s2)) (hd : rdv Γ2 ra = some d) (he : rdv Γ2 rb = some e) (hf : f d e = some z) :
    gBin f ga gb Γ s = some (.ok z.r, Γ2, s2) := by
  unfold gBin bd
  simp only [ha, bd, hb, op2, hd, he, hf]
theorem tst_of {g : GE Y} {b : Bool} (h : g Γ s = some (.ok (.v (.bool b)), Γ', s')) : gTst g Γ s = some (.ok b, Γ', s') := by
  unfold gTst bd
  simp only [h, rdv]
end
end FX
set_option Elab.async false
set_option linter.all false
set_option maxRecDepth 100000
namespace FX.Pg
open PySem PySem.Spec L2 FX
def okS (k : Nat) (z : Str) : Prop := (z.cps.toList.all fun c => decide (c < 1114112)) = true ∧ z.cps.size ≤ k
theorem okS.d {n m : Nat} {z : Str} (h : okS n z) : okD n m (.str z) := okD_str h.1 h.2
theorem okS.mono {n m : Nat} {z : Str} (h : okS n z) (e : n ≤ m) : okS m z := ⟨h.1, Nat.le_trans h.2 e⟩
theorem okS_int {i : Int} (h : i.natAbs < 1000000) : okS 7 (Str.ofString (toString i)) := by
  have e : (Str.ofString (toString i)).length = (toString i).length := ofString_length _
  have := int_text_length_le10 (k := 6) (by decide) h
  refine ⟨?_, ?_⟩
  · rw [Str.ofString_eq_toList]
    simp only [List.all_map, List.all_eq_true]
    intro c _
    simp only [Function.comp, decide_eq_true_eq]
    have h := c.valid
    simp only [UInt32.isValidChar, Nat.isValidChar] at h
    have : c.toNat = c.val.toNat := rfl
    omega
  · have : (Str.ofString (toString i)).cps.size = (Str.ofString (toString i)).length := rfl
    omega
theorem okI {m : Nat} {i : Int} (h : i.natAbs < 1000000) : okD 21 m (.int i) := by
  have hl : i.natAbs.log2 < 20 := by
    by_cases h0 : i.natAbs = 0
    · rw [h0]; decide
    · rw [Nat.log2_lt h0]
      exact Nat.lt_trans h (by decide)
  have a := okD_int (n := 100) (m := m) (i := i) (Nat.lt_trans h (by decide)) (by decide)
  refine ⟨a.ls, a.sh, ?_, a.dp, a.lf⟩
  simp only [PyData.weight]
  split <;> omega
theorem okc {n m : Nat} {d : D} {ds : List D} (h : okD 100 m d) (h' : okA n m ds) : okA (n + 101) m (d :: ds) := (okA_cons h h').mono (by omega) (Nat.le_refl _)
theorem okn {n m : Nat} : okA n m [] := okA_nil.mono (by omega) (Nat.le_refl _)
theorem oki {n m : Nat} {d : D} {ds : List D} (h : okD 21 m d) (h' : okA n m ds) : okA (n + 22) m (d :: ds) := (okA_cons h h').mono (by omega) (Nat.le_refl _)
theorem all_nil {P : D → Prop} : ∀ v ∈ ([] : List D), P v := fun _ h => nomatch h
theorem all_cons {P : D → Prop} {d : D} {ds : List D} (h : P d) (h' : ∀ v ∈ ds, P v) : ∀ v ∈ d :: ds, P v := fun v hv => by
  rcases List.mem_cons.mp hv with rfl | hv
  · exact h
  · exact h' v hv
theorem o_ok {m : Nat} {i j : Int} (hi : i.natAbs < 1000000) (hj : j.natAbs < 1000000) (o : O3) : okD 21 m (o.d i j) := by
  cases o
  · exact okI hi
  · exact okD_none
  · exact okI hj
theorem okI' {n m : Nat} {i : Int} (h : i.natAbs < 1000000) (hn : 21 ≤ n) : okD n m (.int i) := (okI (m := m) h).mono hn (Nat.le_refl _)
theorem okO' {n m : Nat} {i j : Int} {o : O3} (hi : i.natAbs < 1000000) (hj : j.natAbs < 1000000) (hn : 21 ≤ n) : okD n m (o.d i j) := (o_ok (m := m) hi hj o).mono hn (Nat.le_refl _)
theorem okT' {n m : Nat} {i : Int} (h : i.natAbs < 1000000) (hn : 7 ≤ n) : okD n m (.str (Str.ofString (i.repr))) := okS.d ((okS_int h).mono hn)
theorem okL' {n m : Nat} {z : Str} (h : (z.cps.toList.all fun c => decide (c < 1114112)) = true ∧ z.cps.size ≤ 7) (hn : 7 ≤ n) : okD n m (.str z) := okS.d (okS.mono h hn)
section
variable {K : PySem.W.Frag} {sa : Addr} {ns : List Int} {Y : Sys}
def mD (p : Int × Int) (o : O3) : D := .tuple [.int p.1, .int p.2, o.d p.1 p.2]
def isM (d : D) : Prop := ∃ (p : Int × Int) (o : O3), p.1.natAbs < 1000000 ∧ p.2.natAbs < 1000000 ∧ d = mD p o
theorem isM.ok {d : D} (h : isM d) : okD 410 4 d := by
  obtain ⟨p, o, h1, h2, rfl⟩ := h
  unfold mD
  (repeat' (first | exact all_nil | refine all_cons ?_ ?_ | exact okD_none | exact okD_bool | exact okD_dic | exact okI' (by omega) (by decide) | exact okO' (by omega) (by omega) (by decide) | exact okT' (by omega) (by decide) | exact okL' (by decide +kernel) (by decide) | exact okn | refine okc ?_ ?_ | refine oki ?_ ?_ | refine okD_tup ?_ | refine okD_lst ?_))
structure Row (k : Nat) (L : List D) : Prop where
  len : L.length ≤ k
  ok : ∀ d ∈ L, okD 410 4 d
theorem Row.d {L : List D} (h : Row 40 L) : okD 20000 6 (.list L) := (okD_lst (okA_of h.ok)).mono (by
  have := h.len
  show (410 + 1) * L.length ≤ 20000
  omega) (by decide)
theorem Row.t {L : List D} (h : Row 40 L) : okD 20000 6 (.tuple L) := (okD_tup (okA_of h.ok)).mono (by
  have := h.len
  show (410 + 1) * L.length ≤ 20000
  omega) (by decide)
theorem Row.app {a b : Nat} {L M : List D} (h : Row a L) (h' : Row b M) : Row (a + b) (L ++ M) := ⟨by
  have := h.len
  have := h'.len
  rw [List.length_append]; omega, fun d hd => by
  rcases List.mem_append.mp hd with q | q
  · exact h.ok d q
  · exact h'.ok d q⟩
theorem Row.mono {a b : Nat} {L : List D} (h : Row a L) (e : a ≤ b) : Row b L := ⟨Nat.le_trans h.len e, h.ok⟩
theorem Row.cut {a : Nat} {L : List D} (h : Row a L) (lo hi : Option Int) : Row a (cutD L lo hi) := ⟨by
  have := h.len
  unfold cutD
  rw [List.length_take, List.length_drop]; omega, fun d hd => h.ok d (List.mem_of_mem_drop (List.mem_of_mem_take hd))⟩
theorem Row.rev {a : Nat} {L : List D} (h : Row a L) : Row a L.reverse := ⟨by rw [List.length_reverse]; exact h.len, fun d hd => h.ok d (List.mem_reverse.mp hd)⟩
theorem Row.one {d : D} (h : okD 410 4 d) : Row 1 [d] := ⟨Nat.le_refl _, fun x hx => by
  rcases List.mem_singleton.mp hx with rfl
  exact h⟩
theorem Row.d' {L : List D} (h : Row 49 L) : okD 30000 8 (.list L) := (okD_lst (okA_of h.ok)).mono (by
  have := h.len
  show (410 + 1) * L.length ≤ 30000
  omega) (by decide)
theorem Row.t' {L : List D} (h : Row 49 L) : okD 30000 8 (.tuple L) := (okD_tup (okA_of h.ok)).mono (by
  have := h.len
  show (410 + 1) * L.length ≤ 30000
  omega) (by decide)
theorem Row.two {L : List D} (h : Row 15 L) : okD 30000 8 (.list [.list L]) := (okD_lst (okA_cons (okD_lst (okA_of h.ok)) (okn (n := 0)))).mono (by
  have := h.len
  show (410 + 1) * L.length + 1 + 0 ≤ 30000
  omega) (by decide)
theorem Row.cons {a : Nat} {d : D} {L : List D} (h : okD 410 4 d) (h' : Row a L) : Row (a + 1) (d :: L) := ((Row.one h).app h').mono (by omega)
theorem encP_isM {n : Nat} (h6 : n ≤ 6) : ∀ (ps : List (Int × Int)) (v : List (Option O3)) (b : Int × Int), riseP n b ps → ∀ d ∈ encP ps v, isM d
  | [], v, b, _, d, h => by rw [encP_nil] at h; cases h
  | p :: ps, [], b, _, d, h => by cases h
  | p :: ps, none :: v, b, r, d, h => encP_isM h6 ps v p r.2.2.2.2 d h
  | p :: ps, some o :: v, b, r, d, h => by
    rcases List.mem_cons.mp h with rfl | h
    · obtain ⟨h1, h2, h3, _, _⟩ := r
      exact ⟨p, o, by omega, by omega, rfl⟩
    · exact encP_isM h6 ps v p r.2.2.2.2 d h
theorem Lg.Ok.isM {l : Lg} (h : l.Ok) : l.pl.length ≤ 15 ∧ ∀ d ∈ l.pl, isM d := ⟨Nat.le_trans (encP_len _ _) (pairs_len h.h2 h.h6), encP_isM h.h6 _ _ _ (pairs_rise h.h2 h.h6)⟩
theorem sizeOk_true {n : Nat} (h : n ≤ 1000000) : sizeOk n = true := by simpa [sizeOk] using h
theorem pairs_mem {n : Nat} (h2 : 2 ≤ n) (h6 : n ≤ 6) : ∀ p ∈ pairsI n, 0 ≤ p.1 ∧ p.1 < p.2 ∧ p.2 < (n : Nat) := by
  have key : ∀ (ps : List (Int × Int)) (b : Int × Int), riseP n b ps → ∀ p ∈ ps, 0 ≤ p.1 ∧ p.1 < p.2 ∧ p.2 < (n : Nat) := by
    intro ps
    induction ps with
    | nil => intro b _ p h; cases h
    | cons q ps ih =>
      intro b r p h
      obtain ⟨h1, h2, h3, _, h5⟩ := r
      rcases List.mem_cons.mp h with rfl | h
      · exact ⟨h1, h2, h3⟩
      · exact ih q h5 p h
  exact key _ _ (pairs_rise h2 h6)
end
end FX.Pg
set_option Elab.async false
set_option linter.all false
set_option maxRecDepth 100000
namespace FX.Pg
open PySem PySem.Spec L2 FX
section
variable {K : PySem.W.Frag} {sa : Addr} {ns : List Int} {Y : Sys}
theorem okS.len {k : Nat} {z : Str} (h : okS k z) : z.length ≤ k := h.2
end
end FX.Pg
set_option Elab.async false
set_option linter.all false
set_option maxRecDepth 100000
namespace FX.Pg
open PySem PySem.Spec L2 FX
theorem kb (a b : String) (r : Option Bool) (h : kitB a b = r) (d : D) (e : tyD d = a) : isI d b = r := by unfold isI; rw [e]; exact h
section
variable {Y : Sys}
theorem sh_str {z : Str} (h : (PyData.str z).leavesFit = true) : SeqAt.shaped (.str z) = true := by
  have : (PyData.str z).canLay0 = true := by
    simp only [PyData.leavesFit] at h
    simpa [PyData.canLay0] using h
  simp [SeqAt.shaped, this, PyData.depth]
end
end FX.Pg
set_option Elab.async false
set_option linter.all false
set_option maxRecDepth 100000
namespace FX.Pg
open PySem PySem.Spec L2 FX
def leftP : List (Int × Int) → List (Option O3) → List (Int × Int)
  | _ :: ps, some _ :: v => leftP ps v
  | p :: ps, none :: v => p :: leftP ps v
  | _, _ => []
def keysP : List (Int × Int) → List (Option O3) → List (Int × Int)
  | p :: ps, some _ :: v => p :: keysP ps v
  | _ :: ps, none :: v => keysP ps v
  | _, _ => []
def Lg.left (l : Lg) : List (Int × Int) := leftP (pairsI l.n) l.v
theorem keys_sub : ∀ (ps : List (Int × Int)) (v : List (Option O3)), ∀ q ∈ keysP ps v, q ∈ ps
  | [], v, q, h => by cases v <;> cases h
  | p :: ps, [], q, h => by cases h
  | p :: ps, none :: v, q, h => List.mem_cons_of_mem _ (keys_sub ps v q h)
  | p :: ps, some o :: v, q, h => by
    rcases List.mem_cons.mp h with rfl | h
    · exact List.mem_cons_self
    · exact List.mem_cons_of_mem _ (keys_sub ps v q h)
def lexP (b p : Int × Int) : Prop := b.1 < p.1 ∨ b.1 = p.1 ∧ b.2 < p.2
theorem lexP.trans {a b c : Int × Int} (h : lexP a b) (h' : lexP b c) : lexP a c := by
  unfold lexP at *
  omega
theorem rise_gt {n : Int} : ∀ {ps : List (Int × Int)} {b : Int × Int}, riseP n b ps → ∀ q ∈ ps, lexP b q
  | [], _, _, q, h => by cases h
  | p :: ps, b, r, q, h => by
    rcases List.mem_cons.mp h with rfl | h
    · exact r.2.2.2.1
    · exact lexP.trans r.2.2.2.1 (rise_gt r.2.2.2.2 q h)
theorem rise_nodup {n : Int} : ∀ {ps : List (Int × Int)} {b : Int × Int}, riseP n b ps → ps.Nodup
  | [], _, _ => List.nodup_nil
  | p :: ps, b, r => List.nodup_cons.mpr ⟨fun h => by
      have := rise_gt r.2.2.2.2 p h
      unfold lexP at this
      omega, rise_nodup r.2.2.2.2⟩
theorem pairs_nodup {n : Nat} (h2 : 2 ≤ n) (h6 : n ≤ 6) : (pairsI n).Nodup := rise_nodup (pairs_rise h2 h6)
theorem left_filter : ∀ (ps : List (Int × Int)) (v : List (Option O3)) (K : Int × Int → Bool), ps.Nodup → v.length = ps.length → (∀ q ∈ ps, K q = true ↔ q ∈ keysP ps v) → ps.filter (fun p => !K p) = leftP ps v
  | [], [], K, _, _, _ => rfl
  | p :: ps, none :: v, K, nd, hl, h => by
    have nd' := List.nodup_cons.mp nd
    have hp : K p = false := by
      cases q : K p with
      | false => rfl
      | true => exact absurd (keys_sub ps v p ((h p (by simp)).mp q)) nd'.1
    have ih := left_filter ps v K nd'.2 (by simpa using hl) fun q hq => h q (by simp [hq])
    simp [hp, leftP, ih]
  | p :: ps, some o :: v, K, nd, hl, h => by
    have nd' := List.nodup_cons.mp nd
    have hp : K p = true := (h p (by simp)).mpr (by simp [keysP])
    have ih := left_filter ps v K nd'.2 (by simpa using hl) fun q hq => by
      rw [h q (by simp [hq])]
      simp only [keysP, List.mem_cons]
      constructor
      · rintro (rfl | z)
        · exact absurd hq nd'.1
        · exact z
      · exact .inr
    simp [hp, leftP, ih]
def wth (t : Bool) : Int := if t = true then 2 else 1
def sh2 (t : Bool) : O3 → Int × Int
  | .a => (wth t, 0)
  | .t => (1, 1)
  | .b => (0, wth t)
def addI (h : List Int) (i x : Int) : List Int := h.set i.toNat (h.getD i.toNat 0 + x)
def stepH (t : Bool) (h : List Int) (p : Int × Int) (o : O3) : List Int := addI (addI h p.1 (sh2 t o).1) p.2 (sh2 t o).2
def ptsP (t : Bool) : List (Int × Int) → List (Option O3) → List Int → List Int
  | p :: ps, some o :: v, h => ptsP t ps v (stepH t h p o)
  | _ :: ps, none :: v, h => ptsP t ps v h
  | _, _, h => h
def Lg.pts (l : Lg) : List Int := ptsP l.t (pairsI l.n) l.v (List.replicate l.n 0)
def con (t : Bool) (p : Int × Int) (o : O3) (q : Int) : Int := (if p.1 = q then (sh2 t o).1 else 0) + (if p.2 = q then (sh2 t o).2 else 0)
def sumP (t : Bool) : List (Int × Int) → List (Option O3) → Int → Int
  | p :: ps, some o :: v, q => con t p o q + sumP t ps v q
  | _ :: ps, none :: v, q => sumP t ps v q
  | _, _, _ => 0
theorem addI_len (h : List Int) (i x : Int) : (addI h i x).length = h.length := by simp [addI]
theorem stepH_len (t : Bool) (h : List Int) (p : Int × Int) (o : O3) : (stepH t h p o).length = h.length := by simp [stepH, addI_len]
theorem ptsP_len (t : Bool) : ∀ (ps : List (Int × Int)) (v : List (Option O3)) (h : List Int), (ptsP t ps v h).length = h.length
  | [], v, h => by cases v <;> rfl
  | p :: ps, [], h => rfl
  | p :: ps, none :: v, h => ptsP_len t ps v h
  | p :: ps, some o :: v, h => by
    show (ptsP t ps v _).length = _
    rw [ptsP_len t ps v, stepH_len]
theorem addI_get (h : List Int) (i x : Int) (q : Nat) (hi : 0 ≤ i) (hq : q < h.length) : (addI h i x).getD q 0 = h.getD q 0 + if i = (q : Int) then x else 0 := by
  unfold addI
  by_cases e : i = (q : Int)
  · have e2 : i.toNat = q := by omega
    rw [if_pos e, e2]
    simp [List.getD_eq_getElem?_getD, List.getElem?_set, hq]
  · have e2 : i.toNat ≠ q := by omega
    rw [if_neg e]
    simp [List.getD_eq_getElem?_getD, List.getElem?_set, e2]
theorem ptsP_get (t : Bool) (q : Nat) : ∀ (ps : List (Int × Int)) (v : List (Option O3)) (h : List Int), q < h.length → (∀ p ∈ ps, 0 ≤ p.1 ∧ 0 ≤ p.2) → (ptsP t ps v h).getD q 0 = h.getD q 0 + sumP t ps v q
  | [], v, h, _, _ => by cases v <;> simp [ptsP, sumP]
  | p :: ps, [], h, _, _ => by simp [ptsP, sumP]
  | p :: ps, none :: v, h, hq, hp => by
    show (ptsP t ps v h).getD q 0 = _ + sumP t ps v q
    exact ptsP_get t q ps v h hq fun p hp' => hp p (by simp [hp'])
  | p :: ps, some o :: v, h, hq, hp => by
    have h0 := hp p (by simp)
    show (ptsP t ps v (stepH t h p o)).getD q 0 = _ + (con t p o q + sumP t ps v q)
    rw [ptsP_get t q ps v _ (by rw [stepH_len]; exact hq) fun p hp' => hp p (by simp [hp'])]
    unfold stepH
    rw [addI_get _ _ _ _ h0.2 (by rw [addI_len]; exact hq), addI_get _ _ _ _ h0.1 hq]
    unfold con
    omega
theorem Lg.pts_len (l : Lg) : l.pts.length = l.n := by simp [Lg.pts, ptsP_len]
theorem Lg.Ok.pts_eq {l : Lg} (h : l.Ok) : l.pts = (List.range l.n).map fun (q : Nat) => sumP l.t (pairsI l.n) l.v (q : Int) := by
  refine List.ext_getElem (by simp [Lg.pts_len]) fun q h1 h2 => ?_
  have hq : q < l.n := by simpa [Lg.pts_len] using h1
  have := ptsP_get l.t q (pairsI l.n) l.v (List.replicate l.n 0) (by simpa using hq) fun p hp => by
    have := pairs_mem h.h2 h.h6 p hp
    omega
  simp only [List.getElem_map, List.getElem_range]
  have e : l.pts.getD q 0 = l.pts[q] := by simp [List.getD_eq_getElem?_getD, h1]
  rw [← e]
  show (ptsP l.t (pairsI l.n) l.v (List.replicate l.n 0)).getD q 0 = _
  rw [this]
  simp [List.getD_eq_getElem?_getD, hq]
end FX.Pg
set_option Elab.async false
set_option linter.all false
set_option maxRecDepth 100000
namespace FX.Pg
open PySem PySem.Spec L2 FX
section
variable {Y : Sys} {s : Y.S}
theorem check_league_eq {l : Lg} (h : l.Ok) (s : Y.S) : m_check_league [.v l.d] s = some (.ok (.v .none), s) := by
  have e := league_eq (Y := Y) l.d s
  rw [h.isLeague] at e
  (simp [mOf, bd, bdS, gC, gV, op1, op2, opN, gBin, gUn, gEsc, gN, gK, gCall, FX.gTup, gLst, gDic, gTst, gNot, gAnd, gOr, gAndV, gOrV, gNotV, gIf, gChain, bindT, bindTs, sNil, sSeq, sDrop, sRet, sRetN, sBrk, sCnt, sIf, sStuck, sSet, sUnp, gFn, argR, rdv, Rz.r, fAdd, fSub, fMul, fDiv, fMod, fNeg, fLt, fGt, fGe, fIsN, fNotN, fEq, fNe, fLe, fIn2, fNotIn2, fIx, fLen, fInt, gTyEq, gTyNe, gIsI, gSl, gNoP, gPart, fSl, fRev, fTup, vs?, rdA, zB, tyD, shI, shN, shB, eqvI, eqvS, q_check_league, b_check_league, e] <;> try rfl)
theorem worths_kind (t : Bool) : t_WORTHS (kindS t) = some (.int (wth t)) := by cases t <;> rfl
theorem shares_eq (t : Bool) (i j : Int) (hij : i ≠ j) (o : O3) (s : Y.S) : m_shares_of [.v (.str (kindS t)), .v (.int i), .v (o.d i j)] s = some (.ok (.v (.tuple [.int (sh2 t o).1, .int (sh2 t o).2])), s) := by
  have hji : ¬ j = i := fun e => hij e.symm
  cases o with
  | a => (simp [mOf, bd, bdS, gC, gV, op1, op2, opN, gBin, gUn, gEsc, gN, gK, gCall, FX.gTup, gLst, gDic, gTst, gNot, gAnd, gOr, gAndV, gOrV, gNotV, gIf, gChain, bindT, bindTs, sNil, sSeq, sDrop, sRet, sRetN, sBrk, sCnt, sIf, sStuck, sSet, sUnp, gFn, argR, rdv, Rz.r, fAdd, fSub, fMul, fDiv, fMod, fNeg, fLt, fGt, fGe, fIsN, fNotN, fEq, fNe, fLe, fIn2, fNotIn2, fIx, fLen, fInt, gTyEq, gTyNe, gIsI, gSl, gNoP, gPart, fSl, fRev, fTup, vs?, rdA, zB, tyD, shI, shN, shB, eqvI, eqvS, q_shares_of, b_shares_of, O3.d, isNo, fKGet, worths_kind, sizeOk, sh2] <;> try rfl)
  | t => (simp [mOf, bd, bdS, gC, gV, op1, op2, opN, gBin, gUn, gEsc, gN, gK, gCall, FX.gTup, gLst, gDic, gTst, gNot, gAnd, gOr, gAndV, gOrV, gNotV, gIf, gChain, bindT, bindTs, sNil, sSeq, sDrop, sRet, sRetN, sBrk, sCnt, sIf, sStuck, sSet, sUnp, gFn, argR, rdv, Rz.r, fAdd, fSub, fMul, fDiv, fMod, fNeg, fLt, fGt, fGe, fIsN, fNotN, fEq, fNe, fLe, fIn2, fNotIn2, fIx, fLen, fInt, gTyEq, gTyNe, gIsI, gSl, gNoP, gPart, fSl, fRev, fTup, vs?, rdA, zB, tyD, shI, shN, shB, eqvI, eqvS, q_shares_of, b_shares_of, O3.d, isNo, sizeOk, sh2] <;> try rfl)
  | b => (simp [mOf, bd, bdS, gC, gV, op1, op2, opN, gBin, gUn, gEsc, gN, gK, gCall, FX.gTup, gLst, gDic, gTst, gNot, gAnd, gOr, gAndV, gOrV, gNotV, gIf, gChain, bindT, bindTs, sNil, sSeq, sDrop, sRet, sRetN, sBrk, sCnt, sIf, sStuck, sSet, sUnp, gFn, argR, rdv, Rz.r, fAdd, fSub, fMul, fDiv, fMod, fNeg, fLt, fGt, fGe, fIsN, fNotN, fEq, fNe, fLe, fIn2, fNotIn2, fIx, fLen, fInt, gTyEq, gTyNe, gIsI, gSl, gNoP, gPart, fSl, fRev, fTup, vs?, rdA, zB, tyD, shI, shN, shB, eqvI, eqvS, q_shares_of, b_shares_of, O3.d, isNo, fKGet, worths_kind, sizeOk, sh2, hji] <;> try rfl)
theorem ix_in {α : Type} {h : List α} {i : Int} (h0 : 0 ≤ i) (h1 : i < (h.length : Nat)) : ixN h.length i = some i.toNat := by
  unfold ixN
  rw [if_pos h0, if_pos h1]
theorem at_in {h : List Int} {i : Int} (h0 : 0 ≤ i) (h1 : i < (h.length : Nat)) : atI (h.map PyData.int) i = some (.int (h.getD i.toNat 0)) := by
  unfold atI
  rw [ix_in h0 (by simpa using h1)]
  have : i.toNat < h.length := by omega
  simp [List.getD_eq_getElem?_getD, this]
theorem upd_run {k : Nat} {f : Int → Int → Int} {gk ge : GE Y} {Γ : Ev} {h : List Int} {i x : Int} (hk : gk Γ s = some (.ok (.v (.int i)), Γ, s)) (hΓ : Γ[k]? = some (some (.o (.list (h.map PyData.int)))))
    (he : ge Γ s = some (.ok (.v (.int x)), Γ, s)) (h0 : 0 ≤ i) (h1 : i < (h.length : Nat)) : sUpd k f gk ge Γ s = some (.nx, Γ.set k (some (.o (.list ((h.set i.toNat (f (h.getD i.toNat 0) x)).map PyData.int)))), s) := by
  unfold sUpd
  rw [hΓ]
  simp only [bdS, hk]
  rw [show rdv Γ (.v (.int i)) = some (.int i) from rfl, hΓ]
  simp only [at_in h0 h1, he, bdS]
  rw [show rdv Γ (.v (.int x)) = some (.int x) from rfl, hΓ]
  have e := ix_in (h := h.map PyData.int) h0 (by simpa using h1)
  simp only [e]
  rw [List.map_set]
theorem behind_eq (h : List Int) (i j a b : Int) (hi : 0 ≤ i) (hi2 : i < (h.length : Nat)) (hj : 0 ≤ j) (hj2 : j < (h.length : Nat)) (s : Y.S) :
    m_points_behind [.v (.tuple (h.map PyData.int)), .v (.int i), .v (.int j), .v (.tuple [.int a, .int b])] s = some (.ok (.v (.tuple ((addI (addI h i a) j b).map PyData.int))), s) := by
  have key : ∃ r s', mOf 7 b_points_behind [.v (.tuple (h.map PyData.int)), .v (.int i), .v (.int j), .v (.tuple [.int a, .int b])] s = some (r, s') ∧ (s' = s ∧ r = .ok (.v (.tuple ((addI (addI h i a) j b).map PyData.int)))) := by
    refine wp_fn ?_
    unfold b_points_behind
    (refine' FX.wp_seq ?hst ?_; (case hst => (simp [mOf, bd, bdS, gC, gV, op1, op2, opN, gBin, gUn, gEsc, gN, gK, gCall, FX.gTup, gLst, gDic, gTst, gNot, gAnd, gOr, gAndV, gOrV, gNotV, gIf, gChain, bindT, bindTs, sNil, sSeq, sDrop, sRet, sRetN, sBrk, sCnt, sIf, sStuck, sSet, sUnp, gFn, argR, rdv, Rz.r, fAdd, fSub, fMul, fDiv, fMod, fNeg, fLt, fGt, fGe, fIsN, fNotN, fEq, fNe, fLe, fIn2, fNotIn2, fIx, fLen, fInt, gTyEq, gTyNe, gIsI, gSl, gNoP, gPart, fSl, fRev, fTup, vs?, rdA, zB, tyD, shI, shN, shB, eqvI, eqvS]; try exact ⟨rfl, rfl⟩)))
    (refine' FX.wp_seq ?hst ?_; (case hst => (simp [mOf, bd, bdS, gC, gV, op1, op2, opN, gBin, gUn, gEsc, gN, gK, gCall, FX.gTup, gLst, gDic, gTst, gNot, gAnd, gOr, gAndV, gOrV, gNotV, gIf, gChain, bindT, bindTs, sNil, sSeq, sDrop, sRet, sRetN, sBrk, sCnt, sIf, sStuck, sSet, sUnp, gFn, argR, rdv, Rz.r, fAdd, fSub, fMul, fDiv, fMod, fNeg, fLt, fGt, fGe, fIsN, fNotN, fEq, fNe, fLe, fIn2, fNotIn2, fIx, fLen, fInt, gTyEq, gTyNe, gIsI, gSl, gNoP, gPart, fSl, fRev, fTup, vs?, rdA, zB, tyD, shI, shN, shB, eqvI, eqvS, fList]; try exact ⟨rfl, rfl⟩)))
    refine wp_seq (upd_run (h := h) (i := i) (x := a) rfl rfl rfl hi hi2) ?_
    refine wp_seq (upd_run (h := addI h i a) (i := j) (x := b) rfl rfl rfl hj (by rw [addI_len]; exact hj2)) ?_
    refine wp_ret (d := .tuple ((addI (addI h i a) j b).map PyData.int)) (Γ' := _) (s' := s) rfl ⟨rfl, rfl⟩
  obtain ⟨r, s', e, rfl, rfl⟩ := key
  rw [q_points_behind]; exact e
theorem ph_loop (l : D) (t : Bool) (n : Int) (pl : D) (s : Y.S) : ∀ (ps : List (Int × Int)) (v : List (Option O3)) (h : List Int) (x5 x6 x7 : Option R), (∀ p ∈ ps, 0 ≤ p.1 ∧ p.1 < p.2 ∧ p.2 < (h.length : Nat)) →
    ∃ y5 y6 y7, forG (.t (.cons (.n 5) (.cons (.n 6) (.cons (.n 7) .nil)))) l_points_had_1 (encP ps v) [some (.v l), some (.v (.str (kindS t))), some (.v (.int n)), some (.v pl), some (.v (.tuple (h.map PyData.int))), x5, x6, x7] s =
      some (.nx, [some (.v l), some (.v (.str (kindS t))), some (.v (.int n)), some (.v pl), some (.v (.tuple ((ptsP t ps v h).map PyData.int))), y5, y6, y7], s)
  | [], v, h, x5, x6, x7, _ => by rw [encP_nil]; exact ⟨x5, x6, x7, by cases v <;> rfl⟩
  | p :: ps, [], h, x5, x6, x7, _ => ⟨x5, x6, x7, rfl⟩
  | p :: ps, none :: v, h, x5, x6, x7, hp => ph_loop l t n pl s ps v h x5 x6 x7 fun q hq => hp q (by simp [hq])
  | p :: ps, some o :: v, h, x5, x6, x7, hp => by
    have h0 := hp p (by simp)
    obtain ⟨y5, y6, y7, e⟩ := ph_loop l t n pl s ps v (stepH t h p o) (some (.v (.int p.1))) (some (.v (.int p.2))) (some (.v (o.d p.1 p.2))) fun q hq => by
      rw [stepH_len]; exact hp q (by simp [hq])
    refine ⟨y5, y6, y7, ?_⟩
    have hs := shares_eq (Y := Y) t p.1 p.2 (by omega) o s
    have hb := behind_eq (Y := Y) h p.1 p.2 (sh2 t o).1 (sh2 t o).2 h0.1 (by omega) (by omega) h0.2.2 s
    have body : l_points_had_1 [some (.v l), some (.v (.str (kindS t))), some (.v (.int n)), some (.v pl), some (.v (.tuple (h.map PyData.int))), some (.v (.int p.1)), some (.v (.int p.2)), some (.v (o.d p.1 p.2))] s =
      some (.nx, [some (.v l), some (.v (.str (kindS t))), some (.v (.int n)), some (.v pl), some (.v (.tuple ((stepH t h p o).map PyData.int))), some (.v (.int p.1)), some (.v (.int p.2)), some (.v (o.d p.1 p.2))], s) := by
      (simp [mOf, bd, bdS, gC, gV, op1, op2, opN, gBin, gUn, gEsc, gN, gK, gCall, FX.gTup, gLst, gDic, gTst, gNot, gAnd, gOr, gAndV, gOrV, gNotV, gIf, gChain, bindT, bindTs, sNil, sSeq, sDrop, sRet, sRetN, sBrk, sCnt, sIf, sStuck, sSet, sUnp, gFn, argR, rdv, Rz.r, fAdd, fSub, fMul, fDiv, fMod, fNeg, fLt, fGt, fGe, fIsN, fNotN, fEq, fNe, fLe, fIn2, fNotIn2, fIx, fLen, fInt, gTyEq, gTyNe, gIsI, gSl, gNoP, gPart, fSl, fRev, fTup, vs?, rdA, zB, tyD, shI, shN, shB, eqvI, eqvS, l_points_had_1, hs, hb, stepH] <;> try rfl)
    simp only [encP]
    rw [forG_cons (Γ1 := [some (.v l), some (.v (.str (kindS t))), some (.v (.int n)), some (.v pl), some (.v (.tuple (h.map PyData.int))), some (.v (.int p.1)), some (.v (.int p.2)), some (.v (o.d p.1 p.2))]) rfl, body]
    exact e
theorem points_had_eq {l : Lg} (hl : l.Ok) (s : Y.S) : m_points_had [.v l.d] s = some (.ok (.o (.list (l.pts.map PyData.int))), s) := by
  have h2 := hl.h2
  have h6 := hl.h6
  have hn : 2 ≤ (l.n : Int) := by omega
  have key : ∃ r s', mOf 8 b_points_had [.v l.d] s = some (r, s') ∧ (s' = s ∧ r = .ok (.o (.list (l.pts.map PyData.int)))) := by
    refine wp_fn ?_
    unfold b_points_had
    (refine' FX.wp_seq ?hst ?_; (case hst => (simp [mOf, bd, bdS, gC, gV, op1, op2, opN, gBin, gUn, gEsc, gN, gK, gCall, FX.gTup, gLst, gDic, gTst, gNot, gAnd, gOr, gAndV, gOrV, gNotV, gIf, gChain, bindT, bindTs, sNil, sSeq, sDrop, sRet, sRetN, sBrk, sCnt, sIf, sStuck, sSet, sUnp, gFn, argR, rdv, Rz.r, fAdd, fSub, fMul, fDiv, fMod, fNeg, fLt, fGt, fGe, fIsN, fNotN, fEq, fNe, fLe, fIn2, fNotIn2, fIx, fLen, fInt, gTyEq, gTyNe, gIsI, gSl, gNoP, gPart, fSl, fRev, fTup, vs?, rdA, zB, tyD, shI, shN, shB, eqvI, eqvS, check_league_eq hl]; try exact ⟨rfl, rfl⟩)))
    have hd : l.d = .tuple [.str (kindS l.t), .int (l.n : Nat), .list l.pl] := rfl
    (refine' FX.wp_seq ?hst ?_; (case hst => (simp [mOf, bd, bdS, gC, gV, op1, op2, opN, gBin, gUn, gEsc, gN, gK, gCall, FX.gTup, gLst, gDic, gTst, gNot, gAnd, gOr, gAndV, gOrV, gNotV, gIf, gChain, bindT, bindTs, sNil, sSeq, sDrop, sRet, sRetN, sBrk, sCnt, sIf, sStuck, sSet, sUnp, gFn, argR, rdv, Rz.r, fAdd, fSub, fMul, fDiv, fMod, fNeg, fLt, fGt, fGe, fIsN, fNotN, fEq, fNe, fLe, fIn2, fNotIn2, fIx, fLen, fInt, gTyEq, gTyNe, gIsI, gSl, gNoP, gPart, fSl, fRev, fTup, vs?, rdA, zB, tyD, shI, shN, shB, eqvI, eqvS, hd]; try exact ⟨rfl, rfl⟩)))
    have h1000 : (l.n : Int) ≤ 1000 := by omega
    (refine' FX.wp_seq ?hst ?_; (case hst => (simp [mOf, bd, bdS, gC, gV, op1, op2, opN, gBin, gUn, gEsc, gN, gK, gCall, FX.gTup, gLst, gDic, gTst, gNot, gAnd, gOr, gAndV, gOrV, gNotV, gIf, gChain, bindT, bindTs, sNil, sSeq, sDrop, sRet, sRetN, sBrk, sCnt, sIf, sStuck, sSet, sUnp, gFn, argR, rdv, Rz.r, fAdd, fSub, fMul, fDiv, fMod, fNeg, fLt, fGt, fGe, fIsN, fNotN, fEq, fNe, fLe, fIn2, fNotIn2, fIx, fLen, fInt, gTyEq, gTyNe, gIsI, gSl, gNoP, gPart, fSl, fRev, fTup, vs?, rdA, zB, tyD, shI, shN, shB, eqvI, eqvS, sizeOk, hn, h1000]; try exact ⟨rfl, rfl⟩)))
    have er : (List.replicate l.n (PyData.int 0)) = ((List.replicate l.n (0 : Int)).map PyData.int) := by simp
    rw [er]
    obtain ⟨y5, y6, y7, e⟩ := ph_loop (Y := Y) l.d l.t (l.n : Nat) (.list l.pl) s (pairsI l.n) l.v (List.replicate l.n 0) none none none (fun p hp => by
      have := pairs_mem h2 h6 p hp
      simp; omega)
    have eg : gItL (Y := Y) (gV 3) [some (.v l.d), some (.v (.str (kindS l.t))), some (.v (.int (l.n : Nat))), some (.v (.list l.pl)), some (.v (.tuple ((List.replicate l.n (0 : Int)).map PyData.int))), none, none, none] s =
      some (.ok l.pl, [some (.v l.d), some (.v (.str (kindS l.t))), some (.v (.int (l.n : Nat))), some (.v (.list l.pl)), some (.v (.tuple ((List.replicate l.n (0 : Int)).map PyData.int))), none, none, none], s) := rfl
    refine wp_seq ((for_run eg).trans e) ?_
    refine wp_reto (d := .list (l.pts.map PyData.int)) (Γ' := _) (s' := s) rfl ⟨rfl, rfl⟩
  obtain ⟨r, s', e, rfl, rfl⟩ := key
  rw [q_points_had]; exact e
end
end FX.Pg
set_option Elab.async false
set_option linter.all false
set_option maxRecDepth 100000
namespace FX.Pg
open PySem PySem.Spec L2 FX
mutual
/-- no truth and no dict in it -/
def plain : D → Bool
  | .none => true
  | .bool _ => false
  | .int _ => true
  | .str _ => true
  | .list ds => plains ds
  | .tuple ds => plains ds
  | .dict _ => false
def plains : List D → Bool
  | [] => true
  | d :: ds => plain d && plains ds
end
mutual
theorem eqv_plain : ∀ (d e : D), plain d = true → plain e = true → (PyData.eqv d e = true ↔ d = e)
  | .none, e, _, he => by cases e <;> simp_all [PyData.eqv, plain]
  | .bool _, _, h, _ => by simp [plain] at h
  | .int i, e, _, he => by cases e <;> simp_all [PyData.eqv, plain]
  | .str z, e, _, he => by cases e <;> simp_all [PyData.eqv, plain]
  | .dict _, _, h, _ => by simp [plain] at h
  | .list a, e, h, he => by
    cases e with
    | list b =>
      simp only [plain] at h he
      simp only [PyData.eqv, PyData.list.injEq]
      exact eqvs_plain a b h he
    | _ => simp_all [PyData.eqv, plain]
  | .tuple a, e, h, he => by
    cases e with
    | tuple b =>
      simp only [plain] at h he
      simp only [PyData.eqv, PyData.tuple.injEq]
      exact eqvs_plain a b h he
    | _ => simp_all [PyData.eqv, plain]
theorem eqvs_plain : ∀ (a b : List D), plains a = true → plains b = true → (PyData.eqvAll a b = true ↔ a = b)
  | [], [], _, _ => by simp [PyData.eqvAll]
  | [], _ :: _, _, _ => by simp [PyData.eqvAll]
  | _ :: _, [], _, _ => by simp [PyData.eqvAll]
  | d :: a, e :: b, h, h' => by
    simp only [plains, Bool.and_eq_true] at h h'
    simp only [PyData.eqvAll, Bool.and_eq_true, List.cons.injEq, eqv_plain d e h.1 h'.1, eqvs_plain a b h.2 h'.2]
end
theorem plains_of {ds : List D} (h : ∀ d ∈ ds, plain d = true) : plains ds = true := by
  induction ds with
  | nil => rfl
  | cons d ds ih =>
    simp only [plains, Bool.and_eq_true]
    exact ⟨h d (by simp), ih fun x hx => h x (by simp [hx])⟩
theorem eqv_pl {d e : D} (h : plain d = true) (h' : plain e = true) (P : Prop) [Decidable P] (hP : d = e ↔ P) : PyData.eqv d e = decide P := by
  by_cases p : P
  · rw [decide_eq_true p]; exact (eqv_plain d e h h').mpr (hP.mpr p)
  · rw [decide_eq_false p]
    cases q : PyData.eqv d e with
    | false => rfl
    | true => exact absurd (hP.mp ((eqv_plain d e h h').mp q)) p
theorem prD_inj {p q : Int × Int} : prD p = prD q ↔ p = q := by
  constructor
  · intro h
    unfold prD at h
    simp only [PyData.tuple.injEq, List.cons.injEq, PyData.int.injEq, and_true] at h
    exact Prod.ext h.1 h.2
  · rintro rfl; rfl
theorem eqv_pr (p q : Int × Int) : PyData.eqv (prD p) (prD q) = decide (p = q) := eqv_pl rfl rfl _ prD_inj
theorem any_pr (K : List (Int × Int)) (q : Int × Int) : ((K.map prD).any fun z => PyData.eqv z (prD q)) = decide (q ∈ K) := by
  induction K with
  | nil => rfl
  | cons p K ih =>
    simp only [List.map_cons, List.any_cons, ih, eqv_pr, List.mem_cons]
    by_cases h : p = q
    · simp [h]
    · simp [h, show ¬ q = p from fun e => h e.symm]
theorem lays_of {ds : List D} (h : ∀ d ∈ ds, d.canLay0 = true ∧ d.depth ≤ 40) : PyData.canLayAll0 ds = true ∧ PyData.depthAll ds ≤ 40 := by
  induction ds with
  | nil => exact ⟨rfl, by simp [PyData.depthAll]⟩
  | cons d ds ih =>
    obtain ⟨a, b⟩ := ih fun x hx => h x (by simp [hx])
    obtain ⟨c, e⟩ := h d (by simp)
    simp only [PyData.canLayAll0, PyData.depthAll, a, c]
    exact ⟨rfl, by omega⟩
theorem shp_list {ds : List D} (h : ∀ d ∈ ds, d.canLay0 = true ∧ d.depth ≤ 40) : SeqAt.shaped (.list ds) = true := by
  obtain ⟨a, b⟩ := lays_of h
  simp [SeqAt.shaped, PyData.canLay0, PyData.depth, a]
  omega
theorem lay_pr (p : Int × Int) : (prD p).canLay0 = true ∧ (prD p).depth ≤ 40 := ⟨rfl, by simp [prD, PyData.depth, PyData.depthAll]⟩
theorem sh_prs (h : List (Int × Int)) : SeqAt.shaped (.list (h.map prD)) = true := shp_list fun d hd => by
  obtain ⟨i, _, rfl⟩ := List.mem_map.mp hd; exact lay_pr i
theorem sh_pr (p : Int × Int) : SeqAt.shaped (prD p) = true := by
  have := lay_pr p
  simp [SeqAt.shaped, this.1]; omega
def pairOf : D → D
  | .tuple [i, j, _] => .tuple [i, j]
  | d => d
theorem enc_pairs : ∀ (ps : List (Int × Int)) (v : List (Option O3)), (encP ps v).map pairOf = (keysP ps v).map prD
  | [], v => by rw [encP_nil]; cases v <;> rfl
  | p :: ps, [] => rfl
  | p :: ps, none :: v => enc_pairs ps v
  | p :: ps, some o :: v => by
    simp only [encP, keysP, List.map_cons, enc_pairs ps v]
    rfl
theorem enc_mem : ∀ (ps : List (Int × Int)) (v : List (Option O3)), ∀ d ∈ encP ps v, ∃ p o, p ∈ ps ∧ d = mD p o
  | [], v, d, h => by rw [encP_nil] at h; cases h
  | p :: ps, [], d, h => by cases h
  | p :: ps, none :: v, d, h => by
    obtain ⟨q, o, hq, e⟩ := enc_mem ps v d h
    exact ⟨q, o, by simp [hq], e⟩
  | p :: ps, some o :: v, d, h => by
    rcases List.mem_cons.mp h with rfl | h
    · exact ⟨p, o, by simp, rfl⟩
    · obtain ⟨q, o, hq, e⟩ := enc_mem ps v d h
      exact ⟨q, o, by simp [hq], e⟩
section
variable {Y : Sys} {s : Y.S}
theorem cmb_ok {n : Nat} (h2 : 2 ≤ n) (h6 : n ≤ 6) : Cmb.okC n 2 (combL n 2) = true ∧ combD n 2 = (pairsI n).map prD := by
  rcases ncases h2 h6 with rfl | rfl | rfl | rfl | rfl <;> exact ⟨by decide +kernel, rfl⟩
theorem cmb_eq {n : Nat} (h2 : 2 ≤ n) (h6 : n ≤ 6) {Γ : Ev} {ga : GE Y} (h : ga Γ s = some (.ok (.v (.int (n : Nat))), Γ, s)) : gCmb (Y := Y) ga (gC (.int 2)) Γ s = some (.ok ((pairsI n).map prD), Γ, s) := by
  obtain ⟨a, b⟩ := cmb_ok h2 h6
  unfold gCmb bd
  rw [h]
  simp only
  rw [show rdv Γ (.v (.int (n : Nat))) = some (.int (n : Nat)) from rfl]
  simp only [bd, gC]
  rw [show rdv Γ (.v (.int 2)) = some (.int 2) from rfl]
  have c : (decide ((0 : Int) ≤ 2) && decide ((2 : Int) ≤ (n : Nat)) && decide (((n : Nat) : Int) ≤ 60) && Cmb.okC ((n : Nat) : Int).toNat (2 : Int).toNat (combL ((n : Nat) : Int).toNat (2 : Int).toNat)) = true := by
    have e1 : ((n : Nat) : Int).toNat = n := rfl
    have e2 : (2 : Int).toNat = 2 := rfl
    rw [e1, e2, a]
    simp; omega
  simp only [c, if_true]
  have e1 : ((n : Nat) : Int).toNat = n := rfl
  have e2 : (2 : Int).toNat = 2 := rfl
  rw [e1, e2, b]
theorem left_eq {l : Lg} (hl : l.Ok) (s : Y.S) : m_matches_left [.v l.d] s = some (.ok (.o (.list (l.left.map prD))), s) := by
  have h2 := hl.h2
  have h6 := hl.h6
  have hd : l.d = .tuple [.str (kindS l.t), .int (l.n : Nat), .list l.pl] := rfl
  have hlen := hl.isM.1
  have key : ∃ r s', mOf 8 b_matches_left [.v l.d] s = some (r, s') ∧ (s' = s ∧ r = .ok (.o (.list (l.left.map prD)))) := by
    refine wp_fn ?_
    unfold b_matches_left
    (refine' FX.wp_seq ?hst ?_; (case hst => (simp [mOf, bd, bdS, gC, gV, op1, op2, opN, gBin, gUn, gEsc, gN, gK, gCall, FX.gTup, gLst, gDic, gTst, gNot, gAnd, gOr, gAndV, gOrV, gNotV, gIf, gChain, bindT, bindTs, sNil, sSeq, sDrop, sRet, sRetN, sBrk, sCnt, sIf, sStuck, sSet, sUnp, gFn, argR, rdv, Rz.r, fAdd, fSub, fMul, fDiv, fMod, fNeg, fLt, fGt, fGe, fIsN, fNotN, fEq, fNe, fLe, fIn2, fNotIn2, fIx, fLen, fInt, gTyEq, gTyNe, gIsI, gSl, gNoP, gPart, fSl, fRev, fTup, vs?, rdA, zB, tyD, shI, shN, shB, eqvI, eqvS, check_league_eq hl]; try exact ⟨rfl, rfl⟩)))
    (refine' FX.wp_seq ?hst ?_; (case hst => (simp [mOf, bd, bdS, gC, gV, op1, op2, opN, gBin, gUn, gEsc, gN, gK, gCall, FX.gTup, gLst, gDic, gTst, gNot, gAnd, gOr, gAndV, gOrV, gNotV, gIf, gChain, bindT, bindTs, sNil, sSeq, sDrop, sRet, sRetN, sBrk, sCnt, sIf, sStuck, sSet, sUnp, gFn, argR, rdv, Rz.r, fAdd, fSub, fMul, fDiv, fMod, fNeg, fLt, fGt, fGe, fIsN, fNotN, fEq, fNe, fLe, fIn2, fNotIn2, fIx, fLen, fInt, gTyEq, gTyNe, gIsI, gSl, gNoP, gPart, fSl, fRev, fTup, vs?, rdA, zB, tyD, shI, shN, shB, eqvI, eqvS, hd]; try exact ⟨rfl, rfl⟩)))
    have c1 := gComp_map (Y := Y) (T := (.t (.cons (.n 5) (.cons (.n 6) (.cons (.n 1) .nil))))) (own := [5, 6, 1]) (gi := gItL (gV 3)) (ge := e_matches_left_2) pairOf
      (Γ := [some (.v l.d), some (.v (.str (kindS l.t))), some (.v (.int (l.n : Nat))), some (.v (.list l.pl)), none, none, none, none]) (s := s) (ds := l.pl) rfl (by omega) (fun d hd => by
        obtain ⟨p, o, _, rfl⟩ := enc_mem _ _ d hd
        refine ⟨_, rfl, [some (.v l.d), some (.v (o.d p.1 p.2)), some (.v (.int (l.n : Nat))), some (.v (.list l.pl)), none, some (.v (.int p.1)), some (.v (.int p.2)), none], ?_, rfl⟩
        (simp [mOf, bd, bdS, gC, gV, op1, op2, opN, gBin, gUn, gEsc, gN, gK, gCall, FX.gTup, gLst, gDic, gTst, gNot, gAnd, gOr, gAndV, gOrV, gNotV, gIf, gChain, bindT, bindTs, sNil, sSeq, sDrop, sRet, sRetN, sBrk, sCnt, sIf, sStuck, sSet, sUnp, gFn, argR, rdv, Rz.r, fAdd, fSub, fMul, fDiv, fMod, fNeg, fLt, fGt, fGe, fIsN, fNotN, fEq, fNe, fLe, fIn2, fNotIn2, fIx, fLen, fInt, gTyEq, gTyNe, gIsI, gSl, gNoP, gPart, fSl, fRev, fTup, vs?, rdA, zB, tyD, shI, shN, shB, eqvI, eqvS, e_matches_left_2, wipeE, pairOf, mD, sizeOk] <;> try rfl))
    have e1 : l.pl.map pairOf = (keysP (pairsI l.n) l.v).map prD := enc_pairs _ _
    rw [e1] at c1
    refine wp_seq (set_o c1) ?_
    obtain ⟨Γ2, hΓ2⟩ : ∃ Γ2, Γ2 = ([some (.v l.d), some (.v (.str (kindS l.t))), some (.v (.int (l.n : Nat))), some (.v (.list l.pl)), some (.o (.list ((keysP (pairsI l.n) l.v).map prD))), none, none, none] : Ev) := ⟨_, rfl⟩
    have c2 := gComp_pure (Y := Y) (T := .n 7) (own := [7]) (gi := gCmb (gV 2) (gC (.int 2))) (gt := t_matches_left_4) (ge := e_matches_left_3) (fun d => if ((keysP (pairsI l.n) l.v).map prD).any (fun z => PyData.eqv z d) = true then none else some d)
      (Γ := Γ2) (s := s) (ds := (pairsI l.n).map prD) (cmb_eq h2 h6 (by rw [hΓ2]; rfl)) (by have := pairs_len h2 h6; simp; omega) (fun d hd => by
        obtain ⟨p, hp, rfl⟩ := List.mem_map.mp hd
        rw [any_pr]
        have a1 := sh_pr p
        have a2 := sh_prs (keysP (pairsI l.n) l.v)
        have a3 := any_pr (keysP (pairsI l.n) l.v) p
        subst hΓ2
        refine ⟨[some (.v l.d), some (.v (.str (kindS l.t))), some (.v (.int (l.n : Nat))), some (.v (.list l.pl)), some (.o (.list ((keysP (pairsI l.n) l.v).map prD))), none, none, some (.v (prD p))], [some (.v l.d), some (.v (.str (kindS l.t))), some (.v (.int (l.n : Nat))), some (.v (.list l.pl)), some (.o (.list ((keysP (pairsI l.n) l.v).map prD))), none, none, some (.v (prD p))], rfl, ?_⟩
        have tt : t_matches_left_4 (Y := Y) [some (.v l.d), some (.v (.str (kindS l.t))), some (.v (.int (l.n : Nat))), some (.v (.list l.pl)), some (.o (.list ((keysP (pairsI l.n) l.v).map prD))), none, none, some (.v (prD p))] s =
          some (.ok (!decide (p ∈ keysP (pairsI l.n) l.v)), [some (.v l.d), some (.v (.str (kindS l.t))), some (.v (.int (l.n : Nat))), some (.v (.list l.pl)), some (.o (.list ((keysP (pairsI l.n) l.v).map prD))), none, none, some (.v (prD p))], s) := by
          unfold t_matches_left_4 gTst gBin bd gV op2 rdv fNotIn2
          simp only [List.getElem?_cons_succ, List.getElem?_cons_zero, bd, a1, a2, Bool.and_self, if_true, a3, Rz.r, rdv]
        by_cases h : p ∈ keysP (pairsI l.n) l.v
        · simp only [h, decide_true, if_true]
          rw [tt]
          simp only [h, decide_true, Bool.not_true]
          exact ⟨trivial, rfl⟩
        · simp only [h, decide_false, Bool.false_eq_true, if_false]
          rw [tt]
          simp only [h, decide_false, Bool.not_false]
          exact ⟨trivial, _, rfl, rfl⟩)
    have e2 : ((pairsI l.n).map prD).filterMap (fun d => if ((keysP (pairsI l.n) l.v).map prD).any (fun z => PyData.eqv z d) = true then none else some d) = l.left.map prD := by
      rw [List.filterMap_map]
      have : ∀ ps : List (Int × Int), List.filterMap ((fun d => if ((keysP (pairsI l.n) l.v).map prD).any (fun z => PyData.eqv z d) = true then none else some d) ∘ prD) ps = (ps.filter fun p => !decide (p ∈ keysP (pairsI l.n) l.v)).map prD := by
        intro ps
        induction ps with
        | nil => rfl
        | cons p ps ih =>
          simp only [List.filterMap_cons, Function.comp, any_pr, List.filter_cons] at ih ⊢
          by_cases h : p ∈ keysP (pairsI l.n) l.v
          · simp only [h, decide_true, if_true, Bool.not_true, Bool.false_eq_true, if_false]; exact ih
          · simp only [h, decide_false, Bool.false_eq_true, if_false, Bool.not_false, if_true, List.map_cons, ih]
      rw [this, left_filter (pairsI l.n) l.v (fun p => decide (p ∈ keysP (pairsI l.n) l.v)) (pairs_nodup h2 h6) hl.len (fun q _ => by simp)]
      rfl
    rw [e2] at c2
    subst hΓ2
    exact wp_reto c2 ⟨rfl, rfl⟩
  obtain ⟨r, s', e, rfl, rfl⟩ := key
  rw [q_matches_left]; exact e
end
end FX.Pg
set_option Elab.async false
set_option linter.all false
set_option maxRecDepth 100000
namespace FX.Pg
open PySem PySem.Spec L2 FX
section
variable {Y : Sys} {s : Y.S}
theorem mD_lay (p : Int × Int) (o : O3) : (mD p o).canLay0 = true ∧ (mD p o).depth ≤ 40 := by cases o <;> exact ⟨rfl, by simp [mD, O3.d, PyData.depth, PyData.depthAll]⟩
theorem pl_sh (l : Lg) : SeqAt.shaped (.list l.pl) = true := shp_list fun d hd => by
  obtain ⟨p, o, _, rfl⟩ := enc_mem _ _ d hd
  exact mD_lay p o
end
end FX.Pg
set_option Elab.async false
set_option linter.all false
set_option maxRecDepth 100000
namespace FX.Pg
open PySem PySem.Spec L2 FX
end FX.Pg
set_option Elab.async false
set_option linter.all false
set_option maxRecDepth 100000
namespace FX.Pg
open PySem PySem.Spec L2 FX
def fillV : List (Option O3) → List O3 → List (Option O3)
  | x :: v, o :: os => some (x.getD o) :: fillV v os
  | _, _ => []
theorem fillV_some : ∀ (v : List (Option O3)) (os : List O3), ∀ x ∈ fillV v os, x ≠ none
  | [], _, x, h => by cases h
  | _ :: _, [], x, h => by cases h
  | y :: v, o :: os, x, h => by
    rcases List.mem_cons.mp h with rfl | h
    · simp
    · exact fillV_some v os x h
structure EndOf (l e : Lg) : Prop where
  ok : e.Ok
  t : e.t = l.t
  n : e.n = l.n
  v : ∃ os : List O3, os.length = l.v.length ∧ e.v = fillV l.v os
end FX.Pg
set_option Elab.async false
set_option linter.all false
set_option maxRecDepth 100000
namespace FX.Pg
open PySem PySem.Spec L2 FX
theorem con_le (t : Bool) (p : Int × Int) (o : O3) (q : Int) : 0 ≤ con t p o q ∧ con t p o q ≤ 4 := by
  have a : 0 ≤ (sh2 t o).1 ∧ (sh2 t o).1 ≤ 2 := by cases t <;> cases o <;> decide
  have b : 0 ≤ (sh2 t o).2 ∧ (sh2 t o).2 ≤ 2 := by cases t <;> cases o <;> decide
  unfold con
  split <;> split <;> omega
theorem sumP_le (t : Bool) (q : Int) : ∀ (ps : List (Int × Int)) (v : List (Option O3)), 0 ≤ sumP t ps v q ∧ sumP t ps v q ≤ 4 * (ps.length : Nat)
  | [], v => by cases v <;> simp [sumP]
  | p :: ps, [] => by simp [sumP]; omega
  | p :: ps, none :: v => by
    have := sumP_le t q ps v
    simp only [sumP, List.length_cons]; omega
  | p :: ps, some o :: v => by
    have := sumP_le t q ps v
    have := con_le t p o q
    simp only [sumP, List.length_cons]; omega
structure Pt (n B : Nat) (h : List Int) : Prop where
  len : h.length = n
  le : ∀ x ∈ h, x.natAbs ≤ B
theorem Pt.mono {n B C : Nat} {h : List Int} (p : Pt n B h) (e : B ≤ C) : Pt n C h := ⟨p.len, fun x hx => Nat.le_trans (p.le x hx) e⟩
theorem Lg.Ok.pt {l : Lg} (h : l.Ok) : Pt l.n 60 l.pts := ⟨l.pts_len, fun x hx => by
  rw [h.pts_eq] at hx
  obtain ⟨q, _, rfl⟩ := List.mem_map.mp hx
  have := sumP_le l.t (q : Nat) (pairsI l.n) l.v
  have := pairs_len h.h2 h.h6
  omega⟩
theorem Pt.set {n B : Nat} {h : List Int} (p : Pt n B h) (j : Nat) {x : Int} (hx : x.natAbs ≤ B) : Pt n B (h.set j x) := ⟨by rw [List.length_set]; exact p.len, fun y hy => by
  rcases List.mem_or_eq_of_mem_set hy with z | rfl
  · exact p.le y z
  · exact hx⟩
theorem Pt.get {n B : Nat} {h : List Int} (p : Pt n B h) (j : Nat) : (h.getD j 0).natAbs ≤ B := by
  rw [List.getD_eq_getElem?_getD]
  cases e : h[j]? with
  | none => simp
  | some x => exact p.le x (List.mem_of_getElem? e)
section
variable {Y : Sys} {s s1 : Y.S}
theorem put_run {k : Nat} {gk ge : GE Y} {Γ : Ev} {h : List Int} {i x : Int} {j : Nat} (he : ge Γ s = some (.ok (.v (.int x)), Γ, s1)) (hk : gk Γ s1 = some (.ok (.v (.int i)), Γ, s1)) (hΓ : Γ[k]? = some (some (.o (.list (h.map PyData.int)))))
    (hj : ixN h.length i = some j) : sPut k gk ge Γ s = some (.nx, Γ.set k (some (.o (.list ((h.set j x).map PyData.int)))), s1) := by
  unfold sPut
  rw [hΓ]
  simp only [bdS, gEsc, bd, he, hk]
  rw [show rdv Γ (.v (.int i)) = some (.int i) from rfl, hΓ]
  have e : ixN (h.map PyData.int).length i = some j := by rw [List.length_map]; exact hj
  simp only [e]
  rw [List.map_set]
theorem ix_nat {n k : Nat} (h : k < n) : ixN n (k : Nat) = some k := by
  unfold ixN
  rw [if_pos (by omega), if_pos (by omega)]
  rfl
end
end FX.Pg
set_option Elab.async false
set_option linter.all false
set_option maxRecDepth 100000
namespace FX
open PySem PySem.Spec L2
def okC (z : Str) : Prop := ∀ c ∈ z.cps.toList, c < 1114112
theorem okC_of (s : String) : okC (Str.ofString s) := by
  intro c hc
  rw [Str.ofString_eq_toList] at hc
  simp only [List.mem_map] at hc
  obtain ⟨x, _, rfl⟩ := hc
  have h := x.valid
  simp only [UInt32.isValidChar, Nat.isValidChar] at h
  have : x.toNat = x.val.toNat := rfl
  omega
end FX
set_option Elab.async false
set_option linter.all false
set_option maxRecDepth 100000
namespace FX
open PySem PySem.Spec L2
end FX
namespace FX.Pg
open PySem PySem.Spec L2 FX
end FX.Pg
namespace FX
open PySem PySem.Spec L2
end FX
set_option Elab.async false
set_option linter.all false
set_option maxRecDepth 100000
namespace FX.Pg
open PySem PySem.Spec L2 FX
def nI (ps : List Nat) : List D := ps.map fun (j : Nat) => PyData.int (j : Int)
def memI (ds : List D) (i : Int) : Bool := ds.any fun z => PyData.eqv z (.int i)
def pick (ds : List D) : D → Option D
  | .tuple [.int i, .int j] => if (memI ds i && memI ds j) = true then some (.int 1) else none
  | _ => none
section
variable {Y : Sys}
def showsB (w : Int) (L : List (Int × Int)) (W : List Int) (ps : List Nat) : Bool :=
  if ps.length = W.length then !decide ((ps.map fun j => W.getD j 0).sum = w * (((L.map prD).filterMap (pick (nI ps))).length : Nat)) else decide ((ps.map fun j => W.getD j 0).sum < w * (((L.map prD).filterMap (pick (nI ps))).length : Nat))
end
end FX.Pg
set_option Elab.async false
set_option linter.all false
set_option maxRecDepth 100000
namespace FX.Pg
open PySem PySem.Spec L2 FX
section
variable {Y : Sys}
def Lg.want (l : Lg) (h : List Int) : List Int := (List.range l.n).map fun j => h.getD j 0 - l.pts.getD j 0
def setsL (n : Nat) : List (List Nat) := (List.range n).flatMap fun k => combL n (k + 1)
def Lg.shows (l : Lg) (h : List Int) (ps : List Nat) : Bool := showsB (wth l.t) l.left (l.want h) ps
def Lg.first (l : Lg) (h : List Int) : Option (List Nat) := (setsL l.n).find? (l.shows h)
end
end FX.Pg
set_option Elab.async false
set_option maxRecDepth 100000
set_option linter.all false
namespace FX.Pg
def sumO (t : Bool) : List (Int × Int) → List O3 → Int → Int
  | p :: ps, o :: os, q => con t p o q + sumO t ps os q
  | _, _, _ => 0
theorem sh2_sum {t : Bool} {o : O3} (h : t = false → o ≠ .t) : (sh2 t o).1 + (sh2 t o).2 = wth t ∧ 0 ≤ (sh2 t o).1 ∧ 0 ≤ (sh2 t o).2 := by
  cases o with
  | a => cases t <;> decide
  | b => cases t <;> decide
  | t =>
    cases t with
    | false => exact absurd rfl (h rfl)
    | true => decide
end FX.Pg
set_option Elab.async false
set_option linter.all false
set_option maxRecDepth 100000
namespace FX.Pg
open PySem PySem.Spec L2 FX
end FX.Pg
set_option Elab.async false
set_option linter.all false
set_option maxRecDepth 100000
namespace FX.Pg
open PySem PySem.Spec L2 FX
end FX.Pg
set_option Elab.async false
set_option linter.all false
set_option maxRecDepth 100000
namespace FX.Pg
open PySem PySem.Spec L2 FX
end FX.Pg
set_option Elab.async false
set_option linter.all false
set_option maxRecDepth 100000
namespace FX
open PySem PySem.Spec L2
section
variable {Y : Sys} {α : Type}
theorem compG_on {T : Tg} {own : List Nat} {gt : GT Y} {ge : GE Y} (g : α → D) (f : α → Option D) (Γw : Ev) (s : Y.S) :
    ∀ (L : List α) (acc : List D) (Γ : Ev), wipeE Γ own = Γw → acc.length + L.length ≤ 1000000 →
    (∀ a ∈ L, ∃ Γ1 Γ2, bindT T (g a) Γw = some Γ1 ∧ match f a with
      | none => gt Γ1 s = some (.ok false, Γ2, s) ∧ wipeE Γ2 own = Γw
      | some e => gt Γ1 s = some (.ok true, Γ2, s) ∧ ∃ Γ3, ge Γ2 s = some (.ok (.v e), Γ3, s) ∧ wipeE Γ3 own = Γw) →
    ∃ Γ', compG T own gt ge (L.map g) acc Γ s = some (acc ++ L.filterMap f, Γ', s) ∧ wipeE Γ' own = Γw
  | [], acc, Γ, h, _, _ => ⟨Γ, by simp [compG], h⟩
  | a :: L, acc, Γ, h, hl, hd => by
    obtain ⟨Γ1, Γ2, e1, e2⟩ := hd a (by simp)
    simp only [List.length_cons] at hl
    rw [List.map_cons]
    unfold compG
    rw [h, e1]
    cases q : f a with
    | none =>
      rw [q] at e2
      obtain ⟨e2, e3⟩ := e2
      obtain ⟨Γ', e4, e5⟩ := compG_on g f Γw s L acc Γ2 e3 (by omega) fun d' h' => hd d' (by simp [h'])
      refine ⟨Γ', ?_, e5⟩
      simp only [e2, List.filterMap_cons, q]
      exact e4
    | some e =>
      rw [q] at e2
      obtain ⟨e2, Γ3, e3, e6⟩ := e2
      obtain ⟨Γ', e4, e5⟩ := compG_on g f Γw s L (acc ++ [e]) Γ3 e6 (by simp; omega) fun d' h' => hd d' (by simp [h'])
      refine ⟨Γ', ?_, e5⟩
      have hz : sizeOk acc.length = true := by simp [sizeOk]; omega
      simp only [e2, e3, hz, List.filterMap_cons, q, if_true]
      rw [e4]; simp
theorem gComp_on {T : Tg} {own : List Nat} {gi : GI Y} {gt : GT Y} {ge : GE Y} (g : α → D) (f : α → Option D) {Γ Γ0 : Ev} {s s0 : Y.S} {L : List α} (hi : gi Γ0 s0 = some (.ok (L.map g), Γ, s)) (hl : L.length ≤ 1000000)
    (hd : ∀ a ∈ L, ∃ Γ1 Γ2, bindT T (g a) (wipeE Γ own) = some Γ1 ∧ match f a with
      | none => gt Γ1 s = some (.ok false, Γ2, s) ∧ wipeE Γ2 own = wipeE Γ own
      | some e => gt Γ1 s = some (.ok true, Γ2, s) ∧ ∃ Γ3, ge Γ2 s = some (.ok (.v e), Γ3, s) ∧ wipeE Γ3 own = wipeE Γ own) :
    gComp T own gi gt ge Γ0 s0 = some (.ok (.o (.list (L.filterMap f))), backE Γ (wipeE Γ own) own, s) := by
  obtain ⟨Γ', e, h⟩ := compG_on (T := T) (own := own) (gt := gt) (ge := ge) g f (wipeE Γ own) s L [] Γ rfl (by simpa using hl) hd
  unfold gComp bd
  rw [hi]
  simp only [e, List.nil_append]
  rw [← h, back_wipe]
theorem gComp_flt {T : Tg} {own : List Nat} {gi : GI Y} {gt : GT Y} {ge : GE Y} (g : α → D) (p : α → Bool) {Γ Γ0 : Ev} {s s0 : Y.S} {L : List α} (hi : gi Γ0 s0 = some (.ok (L.map g), Γ, s)) (hl : L.length ≤ 1000000)
    (hd : ∀ a ∈ L, ∃ Γ1 Γ2, bindT T (g a) (wipeE Γ own) = some Γ1 ∧ gt Γ1 s = some (.ok (p a), Γ2, s) ∧ wipeE Γ2 own = wipeE Γ own ∧ (p a = true → ∃ Γ3, ge Γ2 s = some (.ok (.v (g a)), Γ3, s) ∧ wipeE Γ3 own = wipeE Γ own)) :
    gComp T own gi gt ge Γ0 s0 = some (.ok (.o (.list ((L.filter p).map g))), backE Γ (wipeE Γ own) own, s) := by
  have c := gComp_on (T := T) (own := own) (gt := gt) (ge := ge) g (fun a => if p a = true then some (g a) else none) hi hl fun a ha => by
    obtain ⟨Γ1, Γ2, e1, e2, e3, e4⟩ := hd a ha
    refine ⟨Γ1, Γ2, e1, ?_⟩
    by_cases q : p a = true
    · rw [if_pos q]
      rw [q] at e2
      exact ⟨e2, e4 q⟩
    · rw [if_neg q]
      rw [show p a = false by simpa using q] at e2
      exact ⟨e2, e3⟩
  rw [c]
  have e : ∀ L : List α, L.filterMap (fun a => if p a = true then some (g a) else none) = (L.filter p).map g := by
    intro L
    induction L with
    | nil => rfl
    | cons a L ih =>
      by_cases q : p a = true
      · simp [q, ih]
      · simp [q, ih]
  rw [e]
theorem gComp_each {T : Tg} {own : List Nat} {gi : GI Y} {ge : GE Y} (g k : α → D) {Γ Γ0 : Ev} {s s0 : Y.S} {L : List α} (hi : gi Γ0 s0 = some (.ok (L.map g), Γ, s)) (hl : L.length ≤ 1000000)
    (hd : ∀ a ∈ L, ∃ Γ1, bindT T (g a) (wipeE Γ own) = some Γ1 ∧ ∃ Γ3, ge Γ1 s = some (.ok (.v (k a)), Γ3, s) ∧ wipeE Γ3 own = wipeE Γ own) :
    gComp T own gi gYes ge Γ0 s0 = some (.ok (.o (.list (L.map k))), backE Γ (wipeE Γ own) own, s) := by
  have c := gComp_on (T := T) (own := own) (gt := gYes) (ge := ge) g (fun a => some (k a)) hi hl fun a ha => by
    obtain ⟨Γ1, e1, e2⟩ := hd a ha
    exact ⟨Γ1, Γ1, e1, rfl, e2⟩
  rw [c]
  congr
  simp
end
end FX
set_option Elab.async false
set_option linter.all false
set_option maxRecDepth 100000
namespace FX.Pg
open PySem PySem.Spec L2 FX
theorem plain_pl (l : Lg) : Pg.plain (.list l.pl) = true := plains_of fun d hd => by
  have key : ∀ (ps : List (Int × Int)) (v : List (Option O3)), ∀ d ∈ encP ps v, Pg.plain d = true := by
    intro ps
    induction ps with
    | nil => intro v d h; rw [encP_nil] at h; cases h
    | cons q ps ih =>
      intro v d h
      match v with
      | [] => cases h
      | none :: v => exact ih v d h
      | some o :: v =>
        rcases List.mem_cons.mp h with rfl | h
        · cases o <;> rfl
        · exact ih v d h
  exact key _ _ d hd
theorem plain_lg (l : Lg) : Pg.plain l.d = true := by
  have := plain_pl l
  simp only [Pg.plain] at this
  simp [Lg.d, Pg.plain, plains, this]
theorem eqv_lg (l : Lg) : PyData.eqv l.d l.d = true := (eqv_plain l.d l.d (plain_lg l) (plain_lg l)).mpr rfl
theorem sh_lg (l : Lg) : SeqAt.shaped l.d = true := by
  have a := pl_sh l
  have b := kindS_sh l.t
  unfold SeqAt.shaped at a b ⊢
  rw [Bool.and_eq_true, decide_eq_true_eq] at a b
  have a2 : (PyData.list l.pl).depth ≤ 41 := by
    have key : ∀ d ∈ l.pl, d.depth ≤ 40 := fun d hd => by
      have k : ∀ (ps : List (Int × Int)) (v : List (Option O3)), ∀ d ∈ encP ps v, d.depth ≤ 40 := by
        intro ps
        induction ps with
        | nil => intro v d h; rw [encP_nil] at h; cases h
        | cons q ps ih =>
          intro v d h
          match v with
          | [] => cases h
          | none :: v => exact ih v d h
          | some o :: v =>
            rcases List.mem_cons.mp h with rfl | h
            · cases o <;> simp [O3.d, PyData.depth, PyData.depthAll]
            · exact ih v d h
      exact k _ _ d hd
    have : PyData.depthAll l.pl ≤ 40 := by
      generalize l.pl = L at key
      induction L with
      | nil => simp [PyData.depthAll]
      | cons d L ih =>
        have := ih fun x hx => key x (by simp [hx])
        have := key d (by simp)
        simp only [PyData.depthAll]; omega
    simp only [PyData.depth]; omega
  rw [Bool.and_eq_true, decide_eq_true_eq]
  refine ⟨?_, ?_⟩
  · have e : l.d.canLay0 = (PyData.canLay0 (.str (kindS l.t)) && ((PyData.int (l.n : Nat)).canLay0 && (PyData.canLay0 (.list l.pl)))) := by
      simp [Lg.d, PyData.canLay0, PyData.canLayAll0]
    rw [e, a.1, b.1]; rfl
  · simp only [Lg.d, PyData.depth, PyData.depthAll] at a2 ⊢
    omega
end FX.Pg
set_option Elab.async false
set_option linter.all false
set_option maxRecDepth 100000
namespace FX.Pg
open PySem PySem.Spec L2 FX
instance (b p : Int × Int) : Decidable (lexP b p) := by unfold lexP; infer_instance
theorem nodup_map {α β : Type} {f : α → β} : ∀ {l : List α}, (∀ a ∈ l, ∀ b ∈ l, f a = f b → a = b) → l.Nodup → (l.map f).Nodup
  | [], _, _ => .nil
  | a :: l, h, n => by
    obtain ⟨h1, h2⟩ := List.nodup_cons.mp n
    rw [List.map_cons, List.nodup_cons]
    refine ⟨fun z => ?_, nodup_map (fun x hx y hy => h x (by simp [hx]) y (by simp [hy])) h2⟩
    obtain ⟨b, hb, e⟩ := List.mem_map.mp z
    have := h b (by simp [hb]) a (by simp) e
    subst this
    exact h1 hb
structure Pm (n : Nat) (π : List Nat) : Prop where
  len : π.length = n
  nd : π.Nodup
  lt : ∀ x ∈ π, x < n
theorem Pm.of {n : Nat} {π : List Nat} (h : π.Perm (List.range n)) : Pm n π := ⟨by rw [h.length_eq, List.length_range], h.nodup_iff.mpr List.nodup_range, fun x hx => List.mem_range.mp (h.mem_iff.mp hx)⟩
def nm (π : List Nat) (q : Nat) : Nat := π.getD q 0
theorem Pm.at {n : Nat} {π : List Nat} (h : Pm n π) {q : Nat} (hq : q < n) : π[q]? = some (nm π q) := by
  have : q < π.length := by rw [h.len]; exact hq
  unfold nm
  rw [List.getD_eq_getElem?_getD, List.getElem?_eq_getElem this]
  rfl
theorem Pm.inj {n : Nat} {π : List Nat} (h : Pm n π) {a b : Nat} (ha : a < n) (hb : b < n) (e : nm π a = nm π b) : a = b := by
  have h1 : π[a]? = π[b]? := by rw [h.at ha, h.at hb, e]
  exact (List.getElem?_inj (by rw [h.len]; exact ha) h.nd).mp h1
def lookP : List (Int × Int) → List (Option O3) → Int × Int → Option O3
  | p :: ps, x :: v, q => if p = q then x else lookP ps v q
  | _, _, _ => none
theorem look_map : ∀ (ps : List (Int × Int)) (v : List (Option O3)), ps.Nodup → v.length = ps.length → v = ps.map (lookP ps v)
  | [], v, _, h => by
    have : v = [] := List.length_eq_zero_iff.mp (by simpa using h)
    subst this; rfl
  | p :: ps, [], _, h => by simp at h
  | p :: ps, x :: v, n, h => by
    obtain ⟨h1, h2⟩ := List.nodup_cons.mp n
    rw [List.map_cons]
    have e : lookP (p :: ps) (x :: v) p = x := by simp [lookP]
    rw [e]
    congr 1
    conv => lhs; rw [look_map ps v h2 (by simpa using h)]
    refine List.map_congr_left fun q hq => ?_
    have : p ≠ q := fun z => by subst z; exact h1 hq
    simp [lookP, this]
def Lg.at (l : Lg) : Int × Int → Option O3 := lookP (pairsI l.n) l.v
theorem Lg.Ok.vat {l : Lg} (h : l.Ok) : l.v = (pairsI l.n).map l.at := look_map _ _ (pairs_nodup h.h2 h.h6) h.len
theorem pts_get {l : Lg} (hl : l.Ok) {q : Nat} (hq : q < l.n) : l.pts.getD q 0 = sumP l.t (pairsI l.n) l.v (q : Nat) := by
  rw [hl.pts_eq]
  simp [List.getD_eq_getElem?_getD, hq]
end FX.Pg
set_option Elab.async false
set_option linter.all false
set_option maxRecDepth 100000
namespace FX.Pg
open PySem PySem.Spec L2 FX
section
variable {Y : Sys} {α β : Type} {Γ Γ' Γ1 Γ2 : Ev} {s s' s1 s2 : Y.S}
theorem bd_ok {g : Ev → Y.S → Option (Oc α × Ev × Y.S)} {k : α → Ev → Y.S → Option (Oc β × Ev × Y.S)} {a : α} (h : g Γ s = some (.ok a, Γ', s')) : bd g k Γ s = k a Γ' s' := by unfold bd; rw [h]
theorem gk_ok {ga : GE Y} {gr : GA Y} {r : R} {rs : List R} (ha : ga Γ s = some (.ok r, Γ1, s1)) (hr : gr Γ1 s1 = some (.ok rs, Γ2, s2)) : gK ga gr Γ s = some (.ok (r :: rs), Γ2, s2) := by
  unfold gK
  rw [bd_ok ha, bd_ok hr]
theorem esc_v {g : GE Y} {d : D} (h : g Γ s = some (.ok (.v d), Γ', s')) : gEsc g Γ s = some (.ok (.v d), Γ', s') := by
  unfold gEsc
  rw [bd_ok h]
theorem esc_o {g : GE Y} {ds : List D} (h : g Γ s = some (.ok (.o (.list ds)), Γ', s')) : gEsc g Γ s = some (.ok (.v (.list ds)), Γ', s') := by
  unfold gEsc
  rw [bd_ok h]
theorem tup_ok {gr : GA Y} {rs : List R} {ds : List D} (h : gr Γ s = some (.ok rs, Γ', s')) (e : vs? rs = some ds) (hz : ds.length ≤ 1000) : FX.gTup gr Γ s = some (.ok (.v (.tuple ds)), Γ', s') := by
  unfold FX.gTup
  rw [bd_ok h]
  have : sizeOk ds.length = true := by simp [sizeOk]; omega
  simp only [e, this, if_true]
theorem esc_h {g : GE Y} {i : Nat} (h : g Γ s = some (.ok (.h i), Γ', s')) : gEsc g Γ s = some (.ok (.h i), Γ', s') := by
  unfold gEsc
  rw [bd_ok h]
end
noncomputable section
variable {K : PySem.W.Frag} {sa : Addr} {ns : List Int}
end
section
variable {Y : Sys}
def ents : List (Int × Int) → List (Option O3) → List ((Int × Int) × O3)
  | p :: ps, some o :: v => (p, o) :: ents ps v
  | _ :: ps, none :: v => ents ps v
  | _, _ => []
theorem enc_ents : ∀ (ps : List (Int × Int)) (v : List (Option O3)), encP ps v = (ents ps v).map fun e => mD e.1 e.2
  | [], v => by rw [encP_nil]; cases v <;> rfl
  | p :: ps, [] => rfl
  | p :: ps, none :: v => enc_ents ps v
  | p :: ps, some o :: v => by simp only [encP, ents, List.map_cons, enc_ents ps v]; rfl
theorem ents_map (f : Int × Int → Option O3) : ∀ ps : List (Int × Int), ents ps (ps.map f) = ps.filterMap fun p => (f p).map fun o => (p, o)
  | [] => rfl
  | p :: ps => by
    rw [List.map_cons, List.filterMap_cons]
    cases h : f p with
    | none => simpa [ents] using ents_map f ps
    | some o => simpa [ents] using ents_map f ps
theorem ents_keys : ∀ (ps : List (Int × Int)) (v : List (Option O3)), (ents ps v).map (·.1) = keysP ps v
  | [], v => by cases v <;> rfl
  | p :: ps, [] => rfl
  | p :: ps, none :: v => ents_keys ps v
  | p :: ps, some o :: v => by simp [ents, keysP, ents_keys ps v]
theorem keys_sublist : ∀ (ps : List (Int × Int)) (v : List (Option O3)), (keysP ps v).Sublist ps
  | [], v => by cases v <;> exact .slnil
  | p :: ps, [] => List.nil_sublist _
  | p :: ps, none :: v => (keys_sublist ps v).cons p
  | p :: ps, some o :: v => (keys_sublist ps v).cons_cons p
def entD (e : (Int × Int) × O3) : D × D := (prD e.1, e.2.d e.1.1 e.1.2)
def O3.ix : O3 → Nat
  | .a => 0
  | .b => 1
  | .t => 2
theorem rise_pw {n : Int} : ∀ {ps : List (Int × Int)} {b : Int × Int}, riseP n b ps → ps.Pairwise lexP
  | [], _, _ => .nil
  | p :: ps, b, h => by
    have h' := h
    unfold riseP at h'
    exact .cons (rise_gt h'.2.2.2.2) (rise_pw h'.2.2.2.2)
theorem mem_ents {f : Int × Int → Option O3} {ps : List (Int × Int)} {p : Int × Int} {o : O3} : (p, o) ∈ ents ps (ps.map f) ↔ p ∈ ps ∧ f p = some o := by
  rw [ents_map, List.mem_filterMap]
  constructor
  · rintro ⟨q, hq, e⟩
    cases h : f q with
    | none => rw [h] at e; cases e
    | some o' =>
      rw [h] at e
      cases e
      exact ⟨hq, h⟩
  · rintro ⟨hp, e⟩
    exact ⟨p, hp, by rw [e]; rfl⟩
theorem ents_nodup {ps : List (Int × Int)} (v : List (Option O3)) (h : ps.Nodup) : ((ents ps v).map (·.1)).Nodup := by
  rw [ents_keys]
  exact h.sublist (keys_sublist ps v)
def Lg.es (l : Lg) : List ((Int × Int) × O3) := ents (pairsI l.n) l.v
theorem Lg.pl_es (l : Lg) : l.pl = l.es.map fun e => mD e.1 e.2 := enc_ents _ _
theorem Lg.Ok.mem_es {l : Lg} (h : l.Ok) {p : Int × Int} {o : O3} : (p, o) ∈ l.es ↔ p ∈ pairsI l.n ∧ l.at p = some o := by
  unfold Lg.es
  rw [h.vat]
  exact mem_ents
theorem Lg.Ok.es_nd {l : Lg} (h : l.Ok) : (l.es.map (·.1)).Nodup := ents_nodup _ (pairs_nodup h.h2 h.h6)
theorem ents_len : ∀ (ps : List (Int × Int)) (v : List (Option O3)), (ents ps v).length ≤ ps.length
  | [], v => by cases v <;> simp [ents]
  | p :: ps, [] => by simp [ents]
  | p :: ps, none :: v => by have := ents_len ps v; simp only [ents, List.length_cons]; omega
  | p :: ps, some o :: v => by have := ents_len ps v; simp only [ents, List.length_cons]; omega
theorem Lg.Ok.es_len {l : Lg} (h : l.Ok) : l.es.length ≤ 15 := Nat.le_trans (ents_len _ _) (pairs_len h.h2 h.h6)
theorem es_pw {l : Lg} (hl : l.Ok) : (l.es.map (·.1)).Pairwise lexP := by
  unfold Lg.es
  rw [ents_keys]
  exact (rise_pw (pairs_rise hl.h2 hl.h6)).sublist (keys_sublist _ _)
end
end FX.Pg
set_option Elab.async false
set_option linter.all false
set_option maxRecDepth 100000
namespace FX.Pg
open PySem PySem.Spec L2 FX
theorem left_split {p : Int × Int} : ∀ {ps : List (Int × Int)} {v : List (Option O3)}, p ∈ leftP ps v → ∃ as bs va vb, ps = as ++ p :: bs ∧ v = va ++ none :: vb ∧ as.length = va.length
  | [], v, h => by cases v <;> cases h
  | q :: ps, [], h => by cases h
  | q :: ps, some o :: v, h => by
    obtain ⟨as, bs, va, vb, e1, e2, e3⟩ := left_split (ps := ps) (v := v) h
    exact ⟨q :: as, bs, some o :: va, vb, by rw [e1]; rfl, by rw [e2]; rfl, by simp [e3]⟩
  | q :: ps, none :: v, h => by
    rcases List.mem_cons.mp h with rfl | h
    · exact ⟨[], ps, [], v, rfl, rfl, rfl⟩
    · obtain ⟨as, bs, va, vb, e1, e2, e3⟩ := left_split (ps := ps) (v := v) h
      exact ⟨q :: as, bs, none :: va, vb, by rw [e1]; rfl, by rw [e2]; rfl, by simp [e3]⟩
def putV : List (Int × Int) → List (Option O3) → Int × Int → O3 → List (Option O3)
  | q :: ps, x :: v, p, o => if q = p then some o :: v else x :: putV ps v p o
  | _, v, _, _ => v
theorem putV_split {p : Int × Int} {o : O3} {bs : List (Int × Int)} {x : Option O3} {vb : List (Option O3)} : ∀ {as : List (Int × Int)} {va : List (Option O3)}, as.length = va.length → p ∉ as → putV (as ++ p :: bs) (va ++ x :: vb) p o = va ++ some o :: vb
  | [], [], _, _ => by simp [putV]
  | [], _ :: _, h, _ => by simp at h
  | _ :: _, [], h, _ => by simp at h
  | a :: as, b :: va, h, hp => by
    have : a ≠ p := fun e => hp (by simp [e])
    simp only [List.cons_append, putV, if_neg this, List.cons.injEq, true_and]
    exact putV_split (by simpa using h) fun z => hp (by simp [z])
def Lg.put (l : Lg) (p : Int × Int) (o : O3) : Lg := ⟨l.t, l.n, putV (pairsI l.n) l.v p o⟩
structure SpAt (l : Lg) (p : Int × Int) (as bs : List (Int × Int)) (va vb : List (Option O3)) : Prop where
  ps : pairsI l.n = as ++ p :: bs
  v : l.v = va ++ none :: vb
  la : as.length = va.length
  put : ∀ o, (l.put p o).v = va ++ some o :: vb
  na : p ∉ as
  nb : p ∉ bs
  lt : ∀ q ∈ as, lexP q p
  gt : ∀ q ∈ bs, lexP p q
theorem Lg.Ok.sp {l : Lg} (h : l.Ok) {p : Int × Int} (hp : p ∈ l.left) : ∃ as bs va vb, SpAt l p as bs va vb := by
  obtain ⟨as, bs, va, vb, e1, e2, e3⟩ := left_split hp
  have nd := pairs_nodup h.h2 h.h6
  have pw := rise_pw (pairs_rise h.h2 h.h6)
  rw [e1] at nd pw
  obtain ⟨_, n2, n3⟩ := List.nodup_append.mp nd
  obtain ⟨_, w2, w3⟩ := List.pairwise_append.mp pw
  have na : p ∉ as := fun z => n3 p z p (by simp) rfl
  refine ⟨as, bs, va, vb, e1, e2, e3, fun o => ?_, na, (List.nodup_cons.mp n2).1, fun q hq => w3 q hq p (by simp), (List.pairwise_cons.mp w2).1⟩
  show putV (pairsI l.n) l.v p o = _
  rw [e1, e2, putV_split e3 na]
theorem ents_app : ∀ (ps qs : List (Int × Int)) (v u : List (Option O3)), ps.length = v.length → ents (ps ++ qs) (v ++ u) = ents ps v ++ ents qs u
  | [], qs, [], u, _ => by simp [ents]
  | [], _, _ :: _, _, h => by simp at h
  | _ :: _, _, [], _, h => by simp at h
  | p :: ps, qs, none :: v, u, h => by simp [ents, ents_app ps qs v u (by simpa using h)]
  | p :: ps, qs, some o :: v, u, h => by simp [ents, ents_app ps qs v u (by simpa using h)]
theorem left_app : ∀ (ps qs : List (Int × Int)) (v u : List (Option O3)), ps.length = v.length → leftP (ps ++ qs) (v ++ u) = leftP ps v ++ leftP qs u
  | [], qs, [], u, _ => by simp [leftP]
  | [], _, _ :: _, _, h => by simp at h
  | _ :: _, _, [], _, h => by simp at h
  | p :: ps, qs, none :: v, u, h => by simp [leftP, left_app ps qs v u (by simpa using h)]
  | p :: ps, qs, some o :: v, u, h => by simp [leftP, left_app ps qs v u (by simpa using h)]
theorem sumP_app (t : Bool) (q : Int) : ∀ (ps qs : List (Int × Int)) (v u : List (Option O3)), ps.length = v.length → sumP t (ps ++ qs) (v ++ u) q = sumP t ps v q + sumP t qs u q
  | [], qs, [], u, _ => by simp [sumP]
  | [], _, _ :: _, _, h => by simp at h
  | _ :: _, _, [], _, h => by simp at h
  | p :: ps, qs, none :: v, u, h => by simp [sumP, sumP_app t q ps qs v u (by simpa using h)]
  | p :: ps, qs, some o :: v, u, h => by simp only [List.cons_append, sumP, sumP_app t q ps qs v u (by simpa using h)]; omega
theorem left_sub : ∀ (ps : List (Int × Int)) (v : List (Option O3)), ∀ e ∈ leftP ps v, e ∈ ps
  | [], v, e, h => by cases v <;> cases h
  | p :: ps, [], e, h => by cases h
  | p :: ps, some o :: v, e, h => List.mem_cons_of_mem _ (left_sub ps v e h)
  | p :: ps, none :: v, e, h => by
    rcases List.mem_cons.mp h with rfl | h
    · exact List.mem_cons_self
    · exact List.mem_cons_of_mem _ (left_sub ps v e h)
section
variable {l : Lg} {p : Int × Int} {as bs : List (Int × Int)} {va vb : List (Option O3)}
theorem SpAt.es (h : SpAt l p as bs va vb) : l.es = ents as va ++ ents bs vb := by
  unfold Lg.es
  rw [h.ps, h.v, ents_app _ _ _ _ h.la]
  rfl
theorem SpAt.left (h : SpAt l p as bs va vb) : l.left = leftP as va ++ p :: leftP bs vb := by
  unfold Lg.left
  rw [h.ps, h.v, left_app _ _ _ _ h.la]
  rfl
theorem SpAt.left_put (h : SpAt l p as bs va vb) (o : O3) : (l.put p o).left = leftP as va ++ leftP bs vb := by
  show leftP (pairsI l.n) (l.put p o).v = _
  rw [h.ps, h.put, left_app _ _ _ _ h.la]
  rfl
theorem flt_all {α : Type} {f : α → Bool} {L : List α} (h : ∀ a ∈ L, f a = true) : L.filter f = L := List.filter_eq_self.mpr h
theorem SpAt.left_flt (h : SpAt l p as bs va vb) (o : O3) : l.left.filter (fun q => !decide (q = p)) = (l.put p o).left := by
  rw [h.left, h.left_put, List.filter_append, List.filter_cons]
  rw [flt_all fun q hq => ?_, flt_all fun q hq => ?_]
  · simp
  · have : q ≠ p := fun z => h.nb (by subst z; exact left_sub _ _ _ hq)
    simp [this]
  · have : q ≠ p := fun z => h.na (by subst z; exact left_sub _ _ _ hq)
    simp [this]
theorem Lg.Ok.put (hl : l.Ok) (h : SpAt l p as bs va vb) {o : O3} (ho : l.t = false → o ≠ .t) : (l.put p o).Ok := by
  refine ⟨hl.h2, hl.h6, ?_, fun ht hm => ?_⟩
  · have := hl.len
    show (l.put p o).v.length = (pairsI l.n).length
    rw [h.put, ← this, h.v]
    simp
  · rw [h.put] at hm
    have := hl.tie ht
    rw [h.v] at this
    simp only [List.mem_append, List.mem_cons, not_or] at this hm
    rcases hm with z | z | z
    · exact this.1 z
    · cases z; exact ho ht rfl
    · exact this.2.2 z
end
end FX.Pg
set_option Elab.async false
set_option linter.all false
set_option maxRecDepth 100000
namespace FX.Pg
open PySem PySem.Spec L2 FX
theorem sum_set : ∀ {h : List Int} {i : Nat} (x : Int), i < h.length → (h.set i (h.getD i 0 + x)).sum = h.sum + x
  | [], i, x, e => by simp at e
  | a :: h, 0, x, _ => by simp; omega
  | a :: h, i + 1, x, e => by
    have := sum_set (h := h) (i := i) x (by simpa using e)
    simp only [List.set_cons_succ, List.getD_cons_succ, List.sum_cons, this]
    omega
theorem addI_sum (h : List Int) (i x : Int) (h0 : 0 ≤ i) (h1 : i < (h.length : Nat)) : (addI h i x).sum = h.sum + x := sum_set x (by omega)
theorem ptsP_sum {t : Bool} : ∀ (ps : List (Int × Int)) (v : List (Option O3)) (h : List Int), (∀ p ∈ ps, 0 ≤ p.1 ∧ p.1 < p.2 ∧ p.2 < (h.length : Nat)) → (t = false → some O3.t ∉ v) → (ptsP t ps v h).sum = h.sum + wth t * ((ents ps v).length : Nat)
  | [], v, h, _, _ => by cases v <;> simp [ptsP, ents]
  | p :: ps, [], h, _, _ => by simp [ptsP, ents]
  | p :: ps, none :: v, h, hb, ht => ptsP_sum ps v h (fun q hq => hb q (by simp [hq])) fun e z => ht e (by simp [z])
  | p :: ps, some o :: v, h, hb, ht => by
    obtain ⟨b1, b2, b3⟩ := hb p (by simp)
    have ih := ptsP_sum ps v (stepH t h p o) (fun q hq => by rw [stepH_len]; exact hb q (by simp [hq])) fun e z => ht e (by simp [z])
    have s2 := (sh2_sum (t := t) (o := o) fun e z => ht e (by simp [z])).1
    have e1 : (stepH t h p o).sum = h.sum + wth t := by
      unfold stepH
      rw [addI_sum _ _ _ (by omega) (by rw [addI_len]; omega), addI_sum _ _ _ b1 (by omega)]
      omega
    show (ptsP t ps v (stepH t h p o)).sum = _
    rw [ih, e1]
    simp only [ents, List.length_cons]
    rw [show ((((ents ps v).length + 1 : Nat)) : Int) = ((ents ps v).length : Int) + 1 by omega, Int.mul_add]
    omega
theorem Lg.Ok.pts_sum {l : Lg} (h : l.Ok) : l.pts.sum = wth l.t * (l.es.length : Nat) := by
  unfold Lg.pts
  rw [ptsP_sum _ _ _ (by rw [List.length_replicate]; exact pairs_mem h.h2 h.h6) h.tie]
  have : (List.replicate l.n (0 : Int)).sum = 0 := by simp
  rw [this]
  show 0 + wth l.t * ((ents (pairsI l.n) l.v).length : Nat) = _
  rw [Int.zero_add]; rfl
theorem put_get {l : Lg} (hl : l.Ok) {p : Int × Int} {as bs : List (Int × Int)} {va vb : List (Option O3)} (h : SpAt l p as bs va vb) {o : O3} (ho : l.t = false → o ≠ .t) {q : Nat} (hq : q < l.n) :
    (l.put p o).pts.getD q 0 = l.pts.getD q 0 + con l.t p o (q : Nat) := by
  rw [pts_get (hl.put h ho) hq, pts_get hl hq]
  show sumP l.t (pairsI l.n) (l.put p o).v _ = sumP l.t (pairsI l.n) l.v _ + _
  rw [h.ps, h.put, h.v, sumP_app _ _ _ _ _ _ h.la, sumP_app _ _ _ _ _ _ h.la]
  simp only [sumP]
  omega
end FX.Pg
set_option Elab.async false
set_option linter.all false
set_option maxRecDepth 100000
namespace FX.Pg
open PySem PySem.Spec L2 FX
theorem fill_left : ∀ (ps : List (Int × Int)) (v : List (Option O3)), (∀ x ∈ v, x ≠ none) → leftP ps v = []
  | [], v, _ => by cases v <;> rfl
  | p :: ps, [], _ => rfl
  | p :: ps, none :: v, h => absurd rfl (h none (by simp))
  | p :: ps, some o :: v, h => fill_left ps v fun x hx => h x (by simp [hx])
theorem fill_self : ∀ (v : List (Option O3)), (∀ x ∈ v, x ≠ none) → fillV v (v.map fun _ => O3.a) = v
  | [], _ => rfl
  | none :: v, h => absurd rfl (h none (by simp))
  | some o :: v, h => by
    have := fill_self v fun x hx => h x (by simp [hx])
    simp only [List.map_cons, fillV, this, Option.getD_some]
theorem EndOf.full {l e : Lg} (hE : EndOf l e) : ∀ x ∈ e.v, x ≠ none := by
  obtain ⟨os, _, ev⟩ := hE.v
  rw [ev]
  exact fillV_some _ _
theorem EndOf.self {l e : Lg} (hE : EndOf l e) : EndOf e e := ⟨hE.ok, rfl, rfl, e.v.map fun _ => O3.a, by simp, (fill_self _ hE.full).symm⟩
theorem EndOf.left {l e : Lg} (hE : EndOf l e) : e.left = [] := fill_left _ _ hE.full
end FX.Pg
set_option Elab.async false
set_option linter.all false
set_option maxRecDepth 100000
namespace FX.Pg
open PySem PySem.Spec L2 FX
def Lg.W (l : Lg) (h : List Int) (q : Nat) : Int := h.getD q 0 - l.pts.getD q 0
end FX.Pg
set_option Elab.async false
set_option linter.all false
set_option maxRecDepth 100000
namespace FX.Pg
open PySem PySem.Spec L2 FX
theorem Pm.map {n : Nat} {π : List Nat} (h : Pm n π) : π = (List.range n).map (nm π) := by
  apply List.ext_getElem?
  intro i
  by_cases hi : i < n
  · rw [h.at hi]; simp [hi]
  · rw [List.getElem?_eq_none (by rw [h.len]; omega), List.getElem?_eq_none (by simp; omega)]
theorem alike_ints : ∀ a b : List Int, PySem.W.alikeAll (a.map PyData.int) (b.map PyData.int) = true
  | [], b => by simp [PySem.W.alikeAll]
  | _ :: _, [] => by simp [PySem.W.alikeAll]
  | x :: a, y :: b => by
    have := alike_ints a b
    simp [PySem.W.alikeAll, PySem.W.alike, this]
end FX.Pg
set_option Elab.async false
set_option linter.all false
set_option maxRecDepth 100000
namespace FX.Pg
open PySem PySem.Spec L2 FX
end FX.Pg
set_option Elab.async false
set_option linter.all false
set_option maxRecDepth 100000
namespace FX.Pg
open PySem PySem.Spec L2 FX
section
variable {Y : Sys} {Γ Γ' Γ1 Γ2 : Ev} {s s' s1 s2 : Y.S}
theorem if_yes {t : GT Y} {g h : GS Y} (e : t Γ s = some (.ok true, Γ', s')) : sIf t g h Γ s = g Γ' s' := by
  unfold sIf bdS
  rw [e]; rfl
theorem if_no {t : GT Y} {g h : GS Y} (e : t Γ s = some (.ok false, Γ', s')) : sIf t g h Γ s = h Γ' s' := by
  unfold sIf bdS
  rw [e]; rfl
theorem and_t {a b : GT Y} {r : Bool} (ha : a Γ s = some (.ok true, Γ', s')) (hb : b Γ' s' = some (.ok r, Γ1, s1)) : gAnd a b Γ s = some (.ok r, Γ1, s1) := by
  unfold gAnd
  rw [bd_ok ha]
  simpa using hb
theorem and_f {a b : GT Y} (ha : a Γ s = some (.ok false, Γ', s')) : gAnd a b Γ s = some (.ok false, Γ', s') := by
  unfold gAnd
  rw [bd_ok ha]
  rfl
theorem or_f {a b : GT Y} {r : Bool} (ha : a Γ s = some (.ok false, Γ', s')) (hb : b Γ' s' = some (.ok r, Γ1, s1)) : gOr a b Γ s = some (.ok r, Γ1, s1) := by
  unfold gOr
  rw [bd_ok ha]
  simpa using hb
theorem not_ok {a : GT Y} {r : Bool} (ha : a Γ s = some (.ok r, Γ', s')) : gNot a Γ s = some (.ok (!r), Γ', s') := by
  unfold gNot
  rw [bd_ok ha]
theorem and_b {a b : GT Y} {p q : Bool} (ha : a Γ s = some (.ok p, Γ, s)) (hb : b Γ s = some (.ok q, Γ, s)) : gAnd a b Γ s = some (.ok (p && q), Γ, s) := by
  cases p with
  | true => exact and_t ha hb
  | false => exact and_f ha
theorem fn_v {n : Nat} {m : Fm Y} {ga : GA Y} {rs : List R} {d : D} (ha : ga Γ s = some (.ok rs, Γ', s')) (hr : (rs.all argR && rs.length == n) = true) (e : m rs s' = some (.ok (.v d), s1)) : gFn n m ga Γ s = some (.ok (.v d), Γ', s1) := by
  unfold gFn
  rw [bd_ok ha]
  simp only [hr, if_true, e]
theorem fn_o {n : Nat} {m : Fm Y} {ga : GA Y} {rs : List R} {d : D} (ha : ga Γ s = some (.ok rs, Γ', s')) (hr : (rs.all argR && rs.length == n) = true) (e : m rs s' = some (.ok (.o d), s1)) : gFn n m ga Γ s = some (.ok (.o d), Γ', s1) := by
  unfold gFn
  rw [bd_ok ha]
  simp only [hr, if_true, e]
theorem call_ok {f : List D → Option Rz} {ga : GA Y} {rs : List R} {ds : List D} {z : Rz} (ha : ga Γ s = some (.ok rs, Γ', s')) (hr : rdA Γ' rs = some ds) (hf : f ds = some z) : gCall f ga Γ s = some (.ok z.r, Γ', s') := by
  unfold gCall
  rw [bd_ok ha]
  simp only [opN, hr, hf]
theorem itL_o {g : GE Y} {ds : List D} (h : g Γ s = some (.ok (.o (.list ds)), Γ', s')) : gItL g Γ s = some (.ok ds, Γ', s') := by
  unfold gItL
  rw [bd_ok (esc_o h)]
theorem itL_v {g : GE Y} {ds : List D} (h : g Γ s = some (.ok (.v (.list ds)), Γ', s')) : gItL g Γ s = some (.ok ds, Γ', s') := by
  unfold gItL
  rw [bd_ok (esc_v h)]
theorem ret_v {g : GE Y} {d : D} (h : g Γ s = some (.ok (.v d), Γ', s')) : sRet g Γ s = some (.rt (.v d), Γ', s') := by
  unfold sRet bdS
  rw [h]
theorem ret_o {g : GE Y} {d : D} (h : g Γ s = some (.ok (.o d), Γ', s')) : sRet g Γ s = some (.rt (.o d), Γ', s') := by
  unfold sRet bdS
  rw [h]
theorem drop_ok {g : GE Y} {r : R} (h : g Γ s = some (.ok r, Γ', s')) : sDrop g Γ s = some (.nx, Γ', s') := by
  unfold sDrop bdS
  rw [h]
theorem nx_seq {g h : GS Y} {out : Fl × Ev × Y.S} (e : g Γ s = some (.nx, Γ', s')) (e2 : h Γ' s' = some out) : sSeq g h Γ s = some out := by
  rw [seq_nx e, e2]
end
end FX.Pg
set_option Elab.async false
set_option linter.all false
set_option maxRecDepth 100000
namespace FX.Pg
open PySem PySem.Spec L2 FX
def outs (t : Bool) : List O3 := if t = true then [.a, .t, .b] else [.a, .b]
theorem outs_ok {t : Bool} {o : O3} : o ∈ outs t ↔ (t = false → o ≠ .t) := by cases t <;> cases o <;> decide
theorem outs_len (t : Bool) : 2 ≤ (outs t).length ∧ (outs t).length ≤ 3 := by cases t <;> decide
theorem eq_ties (t : Bool) : fEq (.str (kindS t)) (.str (Str.ofString "ties")) = some (.nw (.bool t)) := by simp [fEq, kindS_sh, sh_ties, eqvS, kindS_ties]
theorem nodup_pw : ∀ {L : List (Int × Int)}, L.Pairwise lexP → L.Nodup
  | [], _ => .nil
  | a :: L, h => by
    obtain ⟨h1, h2⟩ := List.pairwise_cons.mp h
    refine List.nodup_cons.mpr ⟨fun z => ?_, nodup_pw h2⟩
    have := h1 a z
    unfold lexP at this
    omega
theorem nd_uniq : ∀ {F : List ((Int × Int) × O3)}, (F.map (·.1)).Nodup → ∀ e ∈ F, ∀ f ∈ F, e.1 = f.1 → e = f
  | [], _, e, he, _, _, _ => by cases he
  | a :: F, h, e, he, f, hf, z => by
    obtain ⟨h1, h2⟩ := List.nodup_cons.mp h
    rcases List.mem_cons.mp he with e1 | he'
    · rcases List.mem_cons.mp hf with f1 | hf'
      · rw [e1, f1]
      · exact absurd (show a.1 ∈ F.map (·.1) from List.mem_map.mpr ⟨f, hf', by rw [← z, e1]⟩) h1
    · rcases List.mem_cons.mp hf with f1 | hf'
      · exact absurd (show a.1 ∈ F.map (·.1) from List.mem_map.mpr ⟨e, he', by rw [z, f1]⟩) h1
      · exact nd_uniq h2 e he' f hf' z
section
variable {Y : Sys}
theorem copy_eq (l : Lg) (s : Y.S) : m__law_copy [.v l.d] s = some (.ok (.v l.d), s) := by
  have a0 : atI [PyData.str (kindS l.t), .int (l.n : Nat), .list l.pl] 0 = some (.str (kindS l.t)) := rfl
  have a1 : atI [PyData.str (kindS l.t), .int (l.n : Nat), .list l.pl] 1 = some (.int (l.n : Nat)) := rfl
  have a2 : atI [PyData.str (kindS l.t), .int (l.n : Nat), .list l.pl] 2 = some (.list l.pl) := rfl
  (simp [mOf, bd, bdS, gC, gV, op1, op2, opN, gBin, gUn, gEsc, gN, gK, gCall, FX.gTup, gLst, gDic, gTst, gNot, gAnd, gOr, gAndV, gOrV, gNotV, gIf, gChain, bindT, bindTs, sNil, sSeq, sDrop, sRet, sRetN, sBrk, sCnt, sIf, sStuck, sSet, sUnp, gFn, argR, rdv, Rz.r, fAdd, fSub, fMul, fDiv, fMod, fNeg, fLt, fGt, fGe, fIsN, fNotN, fEq, fNe, fLe, fIn2, fNotIn2, fIx, fLen, fInt, gTyEq, gTyNe, gIsI, gSl, gNoP, gPart, fSl, fRev, fTup, vs?, rdA, zB, tyD, shI, shN, shB, eqvI, eqvS, q__law_copy, b__law_copy, Lg.d, a0, a1, a2, fList, sizeOk] <;> try rfl)
end
end FX.Pg
set_option Elab.async false
set_option linter.all false
set_option maxRecDepth 100000
namespace FX.Pg
open PySem PySem.Spec L2 FX
section
variable {Y : Sys}
theorem put_in {k : Nat} {gk ge : GE Y} {Γ : Ev} {s : Y.S} {h : List Int} {i x : Int} (he : ge Γ s = some (.ok (.v (.int x)), Γ, s)) (hk : gk Γ s = some (.ok (.v (.int i)), Γ, s)) (hΓ : Γ[k]? = some (some (.o (.list (h.map PyData.int)))))
    (h0 : 0 ≤ i) (h1 : i < (h.length : Nat)) : sPut k gk ge Γ s = some (.nx, Γ.set k (some (.o (.list ((h.set i.toNat x).map PyData.int)))), s) := put_run he hk hΓ (ix_in h0 h1)
end
end FX.Pg
set_option Elab.async false
set_option linter.all false
set_option maxRecDepth 100000
namespace FX.Pg
open PySem PySem.Spec L2 FX
section
variable {K : PySem.W.Frag} {sa : Addr} {ns : List Int} {tb : List (Addr × Str)}
def cS (s : List Cell) : (ClY K sa ns tb).S := s
theorem bdS_ok {Y : Sys} {α : Type} {Γ Γ' : Ev} {s s' : Y.S} {g : Ev → Y.S → Option (Oc α × Ev × Y.S)} {k : α → Ev → Y.S → Option (Fl × Ev × Y.S)} {a : α} (h : g Γ s = some (.ok a, Γ', s')) : bdS g k Γ s = k a Γ' s' := by unfold bdS; rw [h]
theorem ixH_ok {Γ : Ev} {s : List Cell} {i k : Nat} {j : Int} {ds : List D} {d : D} {gk : GE (ClY K sa ns tb)} (h : Γ[i]? = some (some (.h k))) (hs : s[k]? = some (.lst ds)) (hk : gk Γ (cS s) = some (.ok (.v (.int j)), Γ, cS s)) (hd : atI ds j = some d) :
    gIxC i gk Γ (cS s) = some (.ok (.v d), Γ, cS s) := by
  unfold gIxC
  simp only [h]
  refine (bd_ok (Y := ClY K sa ns tb) hk).trans ?_
  simp only [h]
  show (match s[k]? with | some (Cell.lst ds) => (match atI ds j with | some d => some (Oc.ok (R.v d), Γ, cS s) | none => none) | _ => none) = _
  rw [hs]
  simp only [hd]
theorem putH_ok {Γ : Ev} {s : List Cell} {i k n : Nat} {j : Int} {ds : List D} {d : D} {gk ge : GE (ClY K sa ns tb)} (h : Γ[i]? = some (some (.h k))) (hs : s[k]? = some (.lst ds)) (he : ge Γ (cS s) = some (.ok (.v d), Γ, cS s)) (hk : gk Γ (cS s) = some (.ok (.v (.int j)), Γ, cS s)) (hn : ixN ds.length j = some n) :
    sPutC i gk ge Γ (cS s) = some (.nx, Γ, cS (s.set k (.lst (ds.set n d)))) := by
  unfold sPutC
  simp only [h]
  refine (bdS_ok (Y := ClY K sa ns tb) (esc_v he)).trans ?_
  refine (bdS_ok (Y := ClY K sa ns tb) hk).trans ?_
  simp only [h]
  show (match s[k]? with | some (Cell.lst ds) => (match ixN ds.length j with | some n => some (Fl.nx, Γ, cS (s.set k (Cell.lst (ds.set n d)))) | none => none) | _ => none) = _
  rw [hs]
  simp only [hn]
def St3 (s : List Cell) (k : Nat) : Prop := ∃ g a c : Int, s[k]? = some (.lst [.int g, .int a, .int c])
theorem St3.put {s : List Cell} {k : Nat} (h : St3 s k) (g a c : Int) : St3 (s.set k (.lst [.int g, .int a, .int c])) k := by
  obtain ⟨_, _, _, e⟩ := h
  have := (List.getElem?_eq_some_iff.mp e).1
  exact ⟨g, a, c, by rw [List.getElem?_set_self this]⟩
def FrS (k : Nat) (s s' : List Cell) : Prop := s'.length = s.length ∧ ∀ j, j ≠ k → s'[j]? = s[j]?
theorem FrS.set {k : Nat} {s : List Cell} {c : Cell} : FrS k s (s.set k c) := ⟨by simp, fun j hj => List.getElem?_set_ne (Ne.symm hj)⟩
theorem lenE {α : Type} {Γ : Ev} {i : Nat} {s : List Cell} {L : List α} {f : α → D} (hi : Γ[i]? = some (some (.o (.list (L.map f)))) ∨ Γ[i]? = some (some (.v (.list (L.map f))))) : gCall (Y := ClY K sa ns tb) fLen (gK (gV i) gN) Γ (cS s) = some (.ok (.v (.int (L.length : Nat))), Γ, cS s) := by
  rcases hi with hi | hi
  · have v1 : gV (Y := ClY K sa ns tb) i Γ (cS s) = some (.ok (.b i), Γ, cS s) := by unfold gV; rw [hi]
    exact call_ok (z := .nw (.int (L.length : Nat))) (gk_ok v1 rfl) (ds := [.list (L.map f)]) (by simp [rdA, rdv, hi]) (by simp [fLen])
  · have v1 : gV (Y := ClY K sa ns tb) i Γ (cS s) = some (.ok (.v (.list (L.map f))), Γ, cS s) := by unfold gV; rw [hi]
    exact call_ok (z := .nw (.int (L.length : Nat))) (gk_ok v1 rfl) (ds := [.list (L.map f)]) (by simp [rdA, rdv]) (by simp [fLen])
theorem erase_map {α β : Type} (f : α → β) : ∀ (L : List α) (x : Nat), (L.map f).eraseIdx x = (L.eraseIdx x).map f
  | [], _ => by simp
  | a :: L, 0 => by simp
  | a :: L, x + 1 => by simp [erase_map f L x]
theorem app_ok {Y : Sys} {Γ Γ1 : Ev} {s s1 : Y.S} {i : Nat} {ge : GE Y} {d : D} {ds ds' : List D} (hi : Γ[i]? = some (some (.o (.list ds)))) (he : ge Γ s = some (.ok (.v d), Γ1, s1)) (hi' : Γ1[i]? = some (some (.o (.list ds')))) (hz : ds'.length ≤ 1000000) :
    gApp i ge Γ s = some (.ok (.v .none), Γ1.set i (some (.o (.list (ds' ++ [d])))), s1) := by
  unfold gApp
  simp only [hi]
  rw [bd_ok (esc_v he)]
  have : sizeOk ds'.length = true := sizeOk_true hz
  simp only [hi', this, if_true]
end
end FX.Pg
set_option Elab.async false
set_option linter.all false
set_option maxRecDepth 100000
namespace FX.Pg
open PySem PySem.Spec L2 FX
def lookE (E : List ((Int × Int) × O3)) (p : Int × Int) : Option O3 := (E.find? fun e => decide (e.1 = p)).map (·.2)
theorem lookE_iff {E : List ((Int × Int) × O3)} (nd : (E.map (·.1)).Nodup) {p : Int × Int} {o : O3} : lookE E p = some o ↔ (p, o) ∈ E := by
  unfold lookE
  constructor
  · intro h
    cases q : E.find? fun e => decide (e.1 = p) with
    | none => rw [q] at h; cases h
    | some e =>
      rw [q] at h
      have h1 := List.mem_of_find?_eq_some q
      have h2 := List.find?_some q
      have : e.1 = p := by simpa using h2
      have h3 : e.2 = o := by simpa using h
      rw [← this, ← h3]; exact h1
  · intro h
    cases q : E.find? fun e => decide (e.1 = p) with
    | none =>
      have := List.find?_eq_none.mp q _ h
      simp at this
    | some e =>
      have h1 := List.mem_of_find?_eq_some q
      have h2 := List.find?_some q
      have e1 : e.1 = p := by simpa using h2
      have := nd_uniq nd e h1 (p, o) h e1
      rw [this]; rfl
def lgOf (t : Bool) (n : Nat) (E : List ((Int × Int) × O3)) : Lg := ⟨t, n, (pairsI n).map (lookE E)⟩
theorem lgOf_ok {t : Bool} {n : Nat} (h2 : 2 ≤ n) (h6 : n ≤ 6) {E : List ((Int × Int) × O3)} (nd : (E.map (·.1)).Nodup) (ho : ∀ e ∈ E, t = false → e.2 ≠ .t) : (lgOf t n E).Ok := by
  refine ⟨h2, h6, by simp [lgOf], fun ht hm => ?_⟩
  obtain ⟨p, _, e⟩ := List.mem_map.mp hm
  exact ho _ ((lookE_iff nd).mp e) ht rfl
theorem nd_of_map {α β : Type} {f : α → β} : ∀ {L : List α}, (L.map f).Nodup → L.Nodup
  | [], _ => .nil
  | a :: L, h => by
    obtain ⟨h1, h2⟩ := List.nodup_cons.mp h
    exact List.nodup_cons.mpr ⟨fun z => h1 (List.mem_map.mpr ⟨a, z, rfl⟩), nd_of_map h2⟩
theorem lgOf_perm {t : Bool} {n : Nat} (h2 : 2 ≤ n) (h6 : n ≤ 6) {E : List ((Int × Int) × O3)} (nd : (E.map (·.1)).Nodup) (hs : ∀ e ∈ E, e.1 ∈ pairsI n) : E.Perm (lgOf t n E).es := by
  have n1 : E.Nodup := nd_of_map nd
  have n2 : (lgOf t n E).es.Nodup := nd_of_map (ents_nodup _ (pairs_nodup h2 h6))
  refine (List.perm_ext_iff_of_nodup n1 n2).mpr fun ⟨p, o⟩ => ?_
  have m : (p, o) ∈ (lgOf t n E).es ↔ p ∈ pairsI n ∧ lookE E p = some o := mem_ents
  rw [m, lookE_iff nd]
  exact ⟨fun h => ⟨hs _ h, h⟩, fun h => h.2⟩
end FX.Pg
set_option Elab.async false
set_option linter.all false
set_option maxRecDepth 100000
namespace FX.Pg
open PySem PySem.Spec L2 FX
structure Step (l : Lg) (p : Int × Int) (o : O3) : Prop where
  ok : (l.put p o).Ok
  t : (l.put p o).t = l.t
  n : (l.put p o).n = l.n
  left : (l.put p o).left = l.left.filter fun q => !decide (q = p)
  pts : ∀ q < l.n, (l.put p o).pts.getD q 0 = l.pts.getD q 0 + con l.t p o (q : Nat)
theorem Lg.Ok.step {l : Lg} (hl : l.Ok) {p : Int × Int} (hp : p ∈ l.left) {o : O3} (ho : l.t = false → o ≠ .t) : Step l p o := by
  obtain ⟨as, bs, va, vb, h⟩ := hl.sp hp
  exact ⟨hl.put h ho, rfl, rfl, (h.left_flt o).symm, fun q hq => put_get hl h ho hq⟩
theorem Step.rest {l : Lg} {p : Int × Int} {o : O3} (h : Step l p o) {R : List (Int × Int)} (nd : (p :: R).Nodup) (hs : ∀ q ∈ p :: R, q ∈ l.left) : ∀ q ∈ R, q ∈ (l.put p o).left := fun q hq => by
  rw [h.left, List.mem_filter]
  refine ⟨hs q (by simp [hq]), ?_⟩
  have : q ≠ p := fun z => (List.nodup_cons.mp nd).1 (by rw [← z]; exact hq)
  simp [this]
structure Filled (l e : Lg) (R : List (Int × Int)) (os : List O3) : Prop where
  ok : e.Ok
  t : e.t = l.t
  n : e.n = l.n
  left : e.left = l.left.filter fun q => !decide (q ∈ R)
  pts : ∀ q < l.n, e.pts.getD q 0 = l.pts.getD q 0 + sumO l.t R os (q : Nat)
end FX.Pg
set_option Elab.async false
set_option linter.all false
set_option maxRecDepth 100000
namespace FX.Pg
open PySem PySem.Spec L2 FX
section
variable {Y : Sys}
def Lg.own (l : Lg) (P : Nat) : List (Int × Int) := l.left.filter fun p => decide (p.1 = (P : Nat)) || decide (p.2 = (P : Nat))
def Lg.most (l : Lg) (P : Nat) : Int := l.pts.getD P 0 + wth l.t * ((l.own P).length : Nat)
end
end FX.Pg
set_option Elab.async false
set_option linter.all false
set_option maxRecDepth 100000
namespace FX.Pg
open PySem PySem.Spec L2 FX
structure FamOk (n P k : Nat) (ps : List Nat) : Prop where
  nd : ps.Nodup
  lt : ∀ j ∈ ps, j < n
  no : P ∉ ps
  len : ps.length = k
end FX.Pg
set_option Elab.async false
set_option linter.all false
set_option maxRecDepth 100000
namespace FX.Pg
open PySem PySem.Spec L2 FX
end FX.Pg
set_option Elab.async false
set_option linter.all false
set_option maxRecDepth 100000
namespace FX.Pg
open PySem PySem.Spec L2 FX
end FX.Pg
set_option Elab.async false
set_option linter.all false
set_option maxRecDepth 100000
namespace FX.Pg
open PySem PySem.Spec L2 FX
section
variable {K : PySem.W.Frag} {sa : Addr} {ns : List Int} {tb : List (Addr × Str)}
def StD (s : List Cell) (k : Nat) : Prop := ∃ (ds : List Int) (c : Nat), s[k]? = some (.lst [.list (ds.map PyData.int), .int (c : Nat)]) ∧ 0 < ds.length
theorem md_pos {z m : Int} (h : 0 < m) : fMod (.int z) (.int m) = some (.nw (.int (z.fmod m))) := by
  have : decide (m ≠ 0) = true := decide_eq_true (by omega)
  simp only [fMod, this, if_true]
theorem fm_nat (z : Int) {m : Int} (h : 0 < m) : ∃ x : Nat, z.fmod m = (x : Int) ∧ (x : Int) < m := by
  have b1 : 0 ≤ z.fmod m := Int.fmod_nonneg_of_pos z h
  have b2 : z.fmod m < m := Int.fmod_lt_of_pos z h
  obtain ⟨x, hx⟩ := Int.eq_ofNat_of_zero_le b1
  exact ⟨x, hx, by rw [← hx]; exact b2⟩
theorem takeD_ok {s : List Cell} {k : Nat} (h : StD s k) {m : Int} (h0 : 0 < m) :
    ∃ (x : Nat) (s' : List Cell), (x : Int) < m ∧ StD s' k ∧ m__law_take (K := K) (sa := sa) (ns := ns) (tb := tb) [.h k, .v (.int m)] (cS s) = some (.ok (.v (.int (x : Int))), cS s') := by
  obtain ⟨ds, c, e, hd⟩ := h
  have hk := (List.getElem?_eq_some_iff.mp e).1
  let G : Ev := [some (.h k), some (.v (.int m))]
  let s' := s.set k (.lst [.list (ds.map PyData.int), .int ((c + 1 : Nat) : Int)])
  have e' : s'[k]? = some (.lst [.list (ds.map PyData.int), .int ((c + 1 : Nat) : Int)]) := by show (s.set k _)[k]? = _; rw [List.getElem?_set_self hk]
  have c1 : gIxC (K := K) (sa := sa) (ns := ns) (T := tb) 0 (gC (.int 1)) G (cS s) = some (.ok (.v (.int (c : Nat))), G, cS s) := ixH_ok rfl e rfl rfl
  have p1 : sPutC (K := K) (sa := sa) (ns := ns) (T := tb) 0 (gC (.int 1)) (gBin fAdd (gIxC 0 (gC (.int 1))) (gC (.int 1))) G (cS s) = some (.nx, G, cS s') :=
    putH_ok (n := 1) rfl e (bin_of (f := fAdd) (gb := gC (.int 1)) c1 (rb := .v (.int 1)) rfl rfl rfl (z := .nw (.int ((c + 1 : Nat) : Int))) rfl) (rfl : gC (.int 1) _ _ = _) rfl
  have d0 : gIxC (K := K) (sa := sa) (ns := ns) (T := tb) 0 (gC (.int 0)) G (cS s') = some (.ok (.v (.list (ds.map PyData.int))), G, cS s') := ixH_ok rfl e' rfl rfl
  have d1 : gIxC (K := K) (sa := sa) (ns := ns) (T := tb) 0 (gC (.int 1)) G (cS s') = some (.ok (.v (.int ((c + 1 : Nat) : Int))), G, cS s') := ixH_ok rfl e' rfl rfl
  have l0 : gCall (Y := ClY K sa ns tb) fLen (gK (gIxC 0 (gC (.int 0))) gN) G (cS s') = some (.ok (.v (.int (ds.length : Nat))), G, cS s') := call_ok (z := .nw (.int (ds.length : Nat))) (gk_ok d0 rfl) (ds := [.list (ds.map PyData.int)]) rfl (by simp [fLen])
  have z1 := bin_of (f := fSub) (gb := gC (.int 1)) (rb := .v (.int 1)) (z := .nw (.int (c : Nat))) d1 rfl rfl rfl (by
    show some (Rz.nw (.int (((c + 1 : Nat) : Int) - 1))) = _
    rw [show ((c + 1 : Nat) : Int) - 1 = (c : Nat) by omega])
  obtain ⟨q, hq, hq2⟩ := fm_nat ((c : Nat) : Int) (m := (ds.length : Nat)) (by omega)
  have hq3 : q < ds.length := by omega
  have z2 := bin_of (f := fMod) (z := .nw (.int (q : Nat))) z1 l0 rfl rfl (by rw [md_pos (by omega), hq])
  have z3 := bin_of (f := fIx) (z := .old (.int ds[q])) d0 z2 rfl rfl (by
    show (match atI (ds.map PyData.int) (q : Int) with | some d => some (Rz.old d) | none => none) = _
    rw [atI_nat, List.getElem?_map, List.getElem?_eq_getElem hq3]
    rfl)
  obtain ⟨x, hx, hx2⟩ := fm_nat ds[q] h0
  have z4 := bin_of (f := fMod) (gb := gV 1) (rb := .v (.int m)) (z := .nw (.int (x : Nat))) z3 rfl rfl rfl (by rw [md_pos h0, hx])
  refine ⟨x, s', hx2, ⟨ds, c + 1, e', hd⟩, ?_⟩
  rw [q__law_take]
  refine fin_of ?_
  unfold b__law_take
  show fin (sSeq _ _ G (cS s)) = _
  rw [seq_nx p1, ret_v z4]
  rfl
noncomputable def Td (j : Nat) (g : GE (ClY K sa ns tb)) : GE (ClY K sa ns tb) := gFn (Y := ClY K sa ns tb) 2 m__law_take (gK (gEsc (gV j)) (gK (gEsc g) gN))
theorem takeDE {Γ : Ev} {j k : Nat} (h0 : Γ[j]? = some (some (.h k))) {s : List Cell} (h : StD s k) {g : GE (ClY K sa ns tb)} {m : Int} (hm : g Γ (cS s) = some (.ok (.v (.int m)), Γ, cS s)) (m0 : 0 < m) :
    ∃ (x : Nat) (s' : List Cell), (x : Int) < m ∧ StD s' k ∧ Td j g Γ (cS s) = some (.ok (.v (.int (x : Nat))), Γ, cS s') := by
  obtain ⟨x, s', hx, hs, e⟩ := takeD_ok (K := K) (sa := sa) (ns := ns) (tb := tb) h m0
  refine ⟨x, s', hx, hs, ?_⟩
  have a0 : gEsc (Y := ClY K sa ns tb) (gV j) Γ (cS s) = some (.ok (.h k), Γ, cS s) := esc_h (by unfold gV; rw [h0])
  exact fn_v (gk_ok a0 (gk_ok (esc_v hm) rfl)) rfl e
theorem pickDE {α : Type} {Γ Γ1 : Ev} {j k : Nat} (h0 : Γ1[j]? = some (some (.h k))) {s s1 : List Cell} (h : StD s1 k) {ga g : GE (ClY K sa ns tb)} {L : List α} {f : α → D} {r : R} (ha : ga Γ (cS s) = some (.ok r, Γ1, cS s1)) (hr : rdv Γ1 r = some (.list (L.map f)))
    (hm : g Γ1 (cS s1) = some (.ok (.v (.int (L.length : Nat))), Γ1, cS s1)) (hl : 0 < L.length) :
    ∃ (x : Nat) (a : α) (s' : List Cell), L[x]? = some a ∧ StD s' k ∧ gBin fIx ga (Td j g) Γ (cS s) = some (.ok (.v (f a)), Γ1, cS s') := by
  obtain ⟨x, s', hx, hs, e⟩ := takeDE (K := K) (sa := sa) (ns := ns) (tb := tb) h0 h hm (by omega)
  have hx' : x < L.length := by omega
  obtain ⟨a, hq⟩ : ∃ a, L[x]? = some a := ⟨_, List.getElem?_eq_getElem hx'⟩
  refine ⟨x, a, s', hq, hs, bin_of (z := .old (f a)) ha e hr rfl ?_⟩
  show (match atI (L.map f) (x : Int) with | some d => some (Rz.old d) | none => none) = _
  rw [atI_nat, List.getElem?_map, hq]
  rfl
theorem popDE {α : Type} {Γ : Ev} {i j k : Nat} (h0 : Γ[j]? = some (some (.h k))) {s : List Cell} (h : StD s k) {L : List α} {f : α → D} (hi : Γ[i]? = some (some (.o (.list (L.map f))))) (hl : 0 < L.length) (hl2 : L.length ≤ 1000) :
    ∃ (x : Nat) (a : α) (s' : List Cell), L[x]? = some a ∧ StD s' k ∧ gPop1 i (Td (K := K) (sa := sa) (ns := ns) (tb := tb) j (gCall fLen (gK (gV i) gN))) Γ (cS s) = some (.ok (.v (f a)), Γ.set i (some (.o (.list ((L.eraseIdx x).map f)))), cS s') := by
  obtain ⟨x, s', hx, hs, e⟩ := takeDE (K := K) (sa := sa) (ns := ns) (tb := tb) h0 h (lenE (.inl hi)) (by omega)
  have hx' : x < L.length := by omega
  obtain ⟨a, hq⟩ : ∃ a, L[x]? = some a := ⟨_, List.getElem?_eq_getElem hx'⟩
  refine ⟨x, a, s', hq, hs, ?_⟩
  have b1 : bigI (x : Nat) = true := bigI_mk (by omega)
  have b2 : ixN (L.map f).length (x : Nat) = some x := ix_nat (by rw [List.length_map]; exact hx')
  have b3 : (L.map f)[x]? = some (f a) := by rw [List.getElem?_map, hq]; rfl
  have b4 : (L.map f).eraseIdx x = (L.eraseIdx x).map f := erase_map f L x
  unfold gPop1
  simp only [hi]
  rw [bd_ok e]
  simp only [rdv, hi, b1, if_true, b2, b3, b4]
def DE (many : Nat) (ds : List Int) (b : Int) (x4 x5 x6 x7 : Option R) : Ev := [some (.raw (.ref sa)), some (.v (.int (many : Nat))), some (.o (.list (ds.map PyData.int))), some (.v (.int b)), x4, x5, x6, x7]
theorem app_int {Γ Γ1 : Ev} {s : List Cell} {i : Nat} {ge : GE (ClY K sa ns tb)} {x : Int} {ds : List Int} (hi : Γ[i]? = some (some (.o (.list (ds.map PyData.int))))) (he : ge Γ (cS s) = some (.ok (.v (.int x)), Γ, cS s)) (hz : ds.length ≤ 1000000) :
    sDrop (gApp i ge) Γ (cS s) = some (.nx, Γ.set i (some (.o (.list ((ds ++ [x]).map PyData.int)))), cS s) := by
  refine drop_ok (r := .v .none) ?_
  rw [app_ok hi he hi (by simpa using hz)]
  simp
theorem m_mul {Γ : Ev} {s : List Cell} {ga gb : GE (ClY K sa ns tb)} {a b : Int} (ha : ga Γ (cS s) = some (.ok (.v (.int a)), Γ, cS s)) (hb : gb Γ (cS s) = some (.ok (.v (.int b)), Γ, cS s)) (h : a.natAbs < 18446744073709551616 ∨ b.natAbs < 18446744073709551616) : gBin fMul ga gb Γ (cS s) = some (.ok (.v (.int (a * b))), Γ, cS s) :=
  bin_of (f := fMul) (z := .nw (.int (a * b))) ha hb rfl rfl (by
    have : okInt a b = true := h.elim okInt_l okInt_r
    simp only [fMul, this, if_true])
theorem m_add {Γ : Ev} {s : List Cell} {ga gb : GE (ClY K sa ns tb)} {a b : Int} (ha : ga Γ (cS s) = some (.ok (.v (.int a)), Γ, cS s)) (hb : gb Γ (cS s) = some (.ok (.v (.int b)), Γ, cS s)) : gBin fAdd ga gb Γ (cS s) = some (.ok (.v (.int (a + b))), Γ, cS s) :=
  bin_of (f := fAdd) (z := .nw (.int (a + b))) ha hb rfl rfl rfl
theorem m_mod {Γ : Ev} {s : List Cell} {ga : GE (ClY K sa ns tb)} {a m : Int} (ha : ga Γ (cS s) = some (.ok (.v (.int a)), Γ, cS s)) (h : 0 < m) : gBin fMod ga (gC (.int m)) Γ (cS s) = some (.ok (.v (.int (a.fmod m))), Γ, cS s) :=
  bin_of (f := fMod) (gb := gC (.int m)) (rb := .v (.int m)) (z := .nw (.int (a.fmod m))) ha rfl rfl rfl (md_pos h)
theorem m_div {Γ : Ev} {s : List Cell} {ga : GE (ClY K sa ns tb)} {a m : Int} (ha : ga Γ (cS s) = some (.ok (.v (.int a)), Γ, cS s)) (h : 0 < m) (h2 : m < 1073741824) : gBin fDiv ga (gC (.int m)) Γ (cS s) = some (.ok (.v (.int (a.fdiv m))), Γ, cS s) :=
  bin_of (f := fDiv) (gb := gC (.int m)) (rb := .v (.int m)) (z := .nw (.int (a.fdiv m))) ha rfl rfl rfl (by
    have : (decide (m ≠ 0) && decide (m.natAbs < 1073741824)) = true := by simp; omega
    simp only [fDiv, this, if_true])
theorem m_c (Γ : Ev) (s : List Cell) (m : Int) : gC (Y := ClY K sa ns tb) (.int m) Γ (cS s) = some (.ok (.v (.int m)), Γ, cS s) := rfl
theorem m_v {Γ : Ev} {i : Nat} (s : List Cell) {m : Int} (h : Γ[i]? = some (some (.v (.int m)))) : gV (Y := ClY K sa ns tb) i Γ (cS s) = some (.ok (.v (.int m)), Γ, cS s) := by unfold gV; rw [h]
theorem fmB (z : Int) {m : Int} (h : 0 < m) (h2 : m < 18446744073709551616) : (z.fmod m).natAbs < 18446744073709551616 := by
  have b1 : 0 ≤ z.fmod m := Int.fmod_nonneg_of_pos z h
  have b2 : z.fmod m < m := Int.fmod_lt_of_pos z h
  omega
theorem draws_while (many : Nat) (b : Int) (x4 x5 x7 : Option R) (s : List Cell) : ∀ (f : Nat) (ds : List Int) (N : Int), many < ds.length + f → ds.length + f ≤ 2000 → 0 < f →
    ∃ (ds' : List Int) (N' : Int), ds.length ≤ ds'.length ∧ ds'.length ≤ max ds.length many ∧ whileG (t__law_draws_1 (K := K) (sa := sa) (ns := ns) (tb := tb)) l__law_draws_2 f (DE (sa := sa) many ds b x4 x5 (some (.v (.int N))) x7) (cS s) = some (.nx, DE (sa := sa) many ds' b x4 x5 (some (.v (.int N'))) x7, cS s)
  | 0, _, _, _, _, h => absurd h (by omega)
  | f + 1, ds, N, h, h2, _ => by
    let G := DE (sa := sa) many ds b x4 x5 (some (.v (.int N))) x7
    have l1 : gCall (Y := ClY K sa ns tb) fLen (gK (gV 2) gN) G (cS s) = some (.ok (.v (.int (ds.length : Nat))), G, cS s) := lenE (L := ds) (f := PyData.int) (.inl rfl)
    have t1 : gTst (Y := ClY K sa ns tb) (gBin fGt (gV 6) (gC (.int 0))) G (cS s) = some (.ok (decide (0 < N)), G, cS s) := tst_of (bin_of (f := fGt) (ga := gV 6) (ra := .v (.int N)) (rb := .v (.int 0)) (z := .nw (.bool (decide (0 < N)))) rfl rfl rfl rfl (by simp [fGt]))
    have t2 : gTst (Y := ClY K sa ns tb) (gBin fLt (gCall fLen (gK (gV 2) gN)) (gV 1)) G (cS s) = some (.ok (decide (ds.length < many)), G, cS s) := tst_of (bin_of (f := fLt) (gb := gV 1) (rb := .v (.int (many : Nat))) (z := .nw (.bool (decide (ds.length < many)))) l1 rfl rfl rfl (by simp [fLt]))
    have t : t__law_draws_1 (K := K) (sa := sa) (ns := ns) (tb := tb) G (cS s) = some (.ok (decide (0 < N) && decide (ds.length < many)), G, cS s) := and_b t1 t2
    by_cases hc : 0 < N ∧ ds.length < many
    · rw [decide_eq_true hc.1, decide_eq_true hc.2] at t
      let G1 := DE (sa := sa) many (ds ++ [N.fmod 10007]) b x4 x5 (some (.v (.int N))) x7
      have a1 : sDrop (gApp 2 (gBin fMod (gV 6) (gC (.int 10007)))) G (cS s) = some (.nx, G1, cS (K := K) (sa := sa) (ns := ns) (tb := tb) s) := app_int (Γ1 := G) (ds := ds) rfl (m_mod (m_v (m := N) s rfl) (by decide)) (by omega)
      have a2 : sSet 6 (gBin fDiv (gV 6) (gC (.int 10007))) G1 (cS s) = some (.nx, DE (sa := sa) many (ds ++ [N.fmod 10007]) b x4 x5 (some (.v (.int (N.fdiv 10007)))) x7, cS (K := K) (sa := sa) (ns := ns) (tb := tb) s) := set_v (i := 6) (m_div (m_v (m := N) s rfl) (by decide) (by decide))
      obtain ⟨ds', N', c1, c2, c3⟩ := draws_while many b x4 x5 x7 s f (ds ++ [N.fmod 10007]) (N.fdiv 10007) (by simp; omega) (by simp; omega) (by omega)
      simp only [List.length_append, List.length_singleton] at c1 c2
      refine ⟨ds', N', by omega, by omega, ?_⟩
      unfold whileG
      rw [t]
      have body : l__law_draws_2 (K := K) (sa := sa) (ns := ns) (tb := tb) G (cS s) = some (.nx, DE (sa := sa) many (ds ++ [N.fmod 10007]) b x4 x5 (some (.v (.int (N.fdiv 10007)))) x7, cS s) := by
        unfold l__law_draws_2
        rw [seq_nx a1, a2]
      simp only [Bool.and_self, body]
      exact c3
    · have : (decide (0 < N) && decide (ds.length < many)) = false := by
        rw [Bool.and_eq_false_iff, decide_eq_false_iff_not, decide_eq_false_iff_not]
        by_cases h1 : 0 < N
        · exact .inr fun h2 => hc ⟨h1, h2⟩
        · exact .inl h1
      rw [this] at t
      refine ⟨ds, N, Nat.le_refl _, by omega, ?_⟩
      unfold whileG
      rw [t]
theorem draws_body (many : Nat) (hm : many ≤ 600) (ds : List Int) (hd : ds.length ≤ 900) (b : Int) (k : Nat) (c : Int) (x6 x7 : Option R) (s : List Cell) :
    ∃ (ds' : List Int) (b' : Int) (y6 y7 : Option R), ds'.length ≤ max (ds.length + 2) many ∧ l__law_draws_3 (K := K) (sa := sa) (ns := ns) (tb := tb) (DE (sa := sa) many ds b (some (.v (.int (k : Nat)))) (some (.v (.int c))) x6 x7) (cS s) = some (.nx, DE (sa := sa) many ds' b' (some (.v (.int (k : Nat)))) (some (.v (.int c))) y6 y7, cS s) := by
  let G (ds : List Int) (b : Int) (x6 x7 : Option R) : Ev := DE (sa := sa) many ds b (some (.v (.int (k : Nat)))) (some (.v (.int c))) x6 x7
  let N : Int := if c < 0 then -c else c
  have s1 : sSet (Y := ClY K sa ns tb) 6 (gCall fAbs (gK (gV 5) gN)) (G ds b x6 x7) (cS s) = some (.nx, G ds b (some (.v (.int N))) x7, cS s) := by
    have a : gCall (Y := ClY K sa ns tb) fAbs (gK (gV 5) gN) (G ds b x6 x7) (cS s) = some (.ok (.v (.int N)), G ds b x6 x7, cS s) := call_ok (z := .nw (.int N)) (gk_ok (m_v (m := c) s rfl) rfl) (ds := [.int c]) rfl rfl
    exact set_v (i := 6) a
  let b' : Int := (b * 31 + N).fmod 2147483629
  have s2 : sSet (Y := ClY K sa ns tb) 3 (gBin fMod (gBin fAdd (gBin fMul (gV 3) (gC (.int 31))) (gV 6)) (gC (.int 2147483629))) (G ds b (some (.v (.int N))) x7) (cS s) = some (.nx, G ds b' (some (.v (.int N))) x7, cS s) :=
    set_v (i := 3) (m_mod (m_add (m_mul (m_v (m := b) s rfl) (m_c _ s 31) (.inr (by decide))) (m_v (m := N) s rfl)) (by decide))
  have p1 : gBin (Y := ClY K sa ns tb) fPow (gC (.int 10)) (gC (.int 18)) (G ds b' (some (.v (.int N))) x7) (cS s) = some (.ok (.v (.int 1000000000000000000)), G ds b' (some (.v (.int N))) x7, cS s) := bin_of (ra := .v (.int 10)) (rb := .v (.int 18)) (z := .nw (.int _)) rfl rfl rfl rfl rfl
  have t1 : gTst (Y := ClY K sa ns tb) (gBin fGe (gV 6) (gBin fPow (gC (.int 10)) (gC (.int 18)))) (G ds b' (some (.v (.int N))) x7) (cS s) = some (.ok (decide (1000000000000000000 ≤ N)), G ds b' (some (.v (.int N))) x7, cS s) :=
    tst_of (bin_of (f := fGe) (z := .nw (.bool _)) (m_v (m := N) s rfl) p1 rfl rfl rfl)
  unfold l__law_draws_3
  by_cases hN : 1000000000000000000 ≤ N
  · obtain ⟨ds', N', c1, c2, c3⟩ := draws_while (K := K) (sa := sa) (ns := ns) (tb := tb) many b' (some (.v (.int (k : Nat)))) (some (.v (.int c))) x7 s 1000 ds N (by omega) (by omega) (by decide)
    refine ⟨ds', b', some (.v (.int N')), x7, by omega, ?_⟩
    exact nx_seq s1 (nx_seq s2 ((if_yes (t1.trans (by rw [decide_eq_true hN]))).trans c3))
  · let o1 : Int := ((N.fmod 2147483647 + (k : Nat) + 1) * 48271).fmod 2147483647
    let o2 : Int := (o1 * o1).fmod 2147483629
    let e1 : Int := (o2.fdiv 8).fmod 10007
    let o3 : Int := (o2 * 40692 + 2 * (k : Nat) + 1).fmod 2147483563
    let o4 : Int := (o3 * o3).fmod 2147483647
    let e2 : Int := (o4.fdiv 8).fmod 10007
    have u1 : sSet (Y := ClY K sa ns tb) 7 (gBin fMod (gBin fMul (gBin fAdd (gBin fAdd (gBin fMod (gV 6) (gC (.int 2147483647))) (gV 4)) (gC (.int 1))) (gC (.int 48271))) (gC (.int 2147483647))) (G ds b' (some (.v (.int N))) x7) (cS s) = some (.nx, G ds b' (some (.v (.int N))) (some (.v (.int o1))), cS s) :=
      set_v (i := 7) (m_mod (m_mul (m_add (m_add (m_mod (m_v (m := N) s rfl) (by decide)) (m_v (m := (k : Nat)) s rfl)) (m_c _ s 1)) (m_c _ s 48271) (.inr (by decide))) (by decide))
    have u2 : sSet (Y := ClY K sa ns tb) 7 (gBin fMod (gBin fMul (gV 7) (gV 7)) (gC (.int 2147483629))) (G ds b' (some (.v (.int N))) (some (.v (.int o1)))) (cS s) = some (.nx, G ds b' (some (.v (.int N))) (some (.v (.int o2))), cS s) :=
      set_v (i := 7) (m_mod (m_mul (m_v (m := o1) s rfl) (m_v (m := o1) s rfl) (.inl (fmB _ (by decide) (by decide)))) (by decide))
    have u3 : sDrop (Y := ClY K sa ns tb) (gApp 2 (gBin fMod (gBin fDiv (gV 7) (gC (.int 8))) (gC (.int 10007)))) (G ds b' (some (.v (.int N))) (some (.v (.int o2)))) (cS s) = some (.nx, G (ds ++ [e1]) b' (some (.v (.int N))) (some (.v (.int o2))), cS s) :=
      app_int (Γ1 := []) (ds := ds) rfl (m_mod (m_div (m_v (m := o2) s rfl) (by decide) (by decide)) (by decide)) (by omega)
    have u4 : sSet (Y := ClY K sa ns tb) 7 (gBin fMod (gBin fAdd (gBin fAdd (gBin fMul (gV 7) (gC (.int 40692))) (gBin fMul (gC (.int 2)) (gV 4))) (gC (.int 1))) (gC (.int 2147483563))) (G (ds ++ [e1]) b' (some (.v (.int N))) (some (.v (.int o2)))) (cS s) = some (.nx, G (ds ++ [e1]) b' (some (.v (.int N))) (some (.v (.int o3))), cS s) :=
      set_v (i := 7) (m_mod (m_add (m_add (m_mul (m_v (m := o2) s rfl) (m_c _ s 40692) (.inr (by decide))) (m_mul (m_c _ s 2) (m_v (m := (k : Nat)) s rfl) (.inl (by decide)))) (m_c _ s 1)) (by decide))
    have u5 : sSet (Y := ClY K sa ns tb) 7 (gBin fMod (gBin fMul (gV 7) (gV 7)) (gC (.int 2147483647))) (G (ds ++ [e1]) b' (some (.v (.int N))) (some (.v (.int o3)))) (cS s) = some (.nx, G (ds ++ [e1]) b' (some (.v (.int N))) (some (.v (.int o4))), cS s) :=
      set_v (i := 7) (m_mod (m_mul (m_v (m := o3) s rfl) (m_v (m := o3) s rfl) (.inl (fmB _ (by decide) (by decide)))) (by decide))
    have u6 : sDrop (Y := ClY K sa ns tb) (gApp 2 (gBin fMod (gBin fDiv (gV 7) (gC (.int 8))) (gC (.int 10007)))) (G (ds ++ [e1]) b' (some (.v (.int N))) (some (.v (.int o4)))) (cS s) = some (.nx, G (ds ++ [e1] ++ [e2]) b' (some (.v (.int N))) (some (.v (.int o4))), cS s) :=
      app_int (Γ1 := []) (ds := ds ++ [e1]) rfl (m_mod (m_div (m_v (m := o4) s rfl) (by decide) (by decide)) (by decide)) (by simp; omega)
    refine ⟨ds ++ [e1] ++ [e2], b', some (.v (.int N)), some (.v (.int o4)), by simp; omega, ?_⟩
    exact nx_seq s1 (nx_seq s2 ((if_no (t1.trans (by rw [decide_eq_false hN]))).trans (nx_seq u1 (nx_seq u2 (nx_seq u3 (nx_seq u4 (nx_seq u5 u6)))))))
theorem draws_loop (many : Nat) (hm : many ≤ 600) (s : List Cell) : ∀ (L : List Int) (k : Nat) (ds : List Int) (b : Int) (x4 x5 x6 x7 : Option R) (M : Nat), ds.length ≤ M → many ≤ M → M + 2 * L.length ≤ 900 →
    ∃ (ds' : List Int) (b' : Int) (y4 y5 y6 y7 : Option R), ds'.length ≤ M + 2 * L.length ∧ forG (.t (.cons (.n 4) (.cons (.n 5) .nil))) (l__law_draws_3 (K := K) (sa := sa) (ns := ns) (tb := tb)) (enumD k (L.map PyData.int)) (DE (sa := sa) many ds b x4 x5 x6 x7) (cS s) = some (.nx, DE (sa := sa) many ds' b' y4 y5 y6 y7, cS s)
  | [], k, ds, b, x4, x5, x6, x7, M, h1, _, _ => ⟨ds, b, x4, x5, x6, x7, by simpa using h1, rfl⟩
  | c :: L, k, ds, b, x4, x5, x6, x7, M, h1, h2, h3 => by
    simp only [List.length_cons] at h3
    obtain ⟨ds1, b1, y6, y7, c1, c2⟩ := draws_body (K := K) (sa := sa) (ns := ns) (tb := tb) many hm ds (by omega) b k c x6 x7 s
    obtain ⟨ds2, b2, z4, z5, z6, z7, c3, c4⟩ := draws_loop many hm s L (k + 1) ds1 b1 (some (.v (.int (k : Nat)))) (some (.v (.int c))) y6 y7 (M + 2) (by omega) (by omega) (by omega)
    refine ⟨ds2, b2, z4, z5, z6, z7, by simp only [List.length_cons]; omega, ?_⟩
    show forG _ _ (.tuple [.int (k : Nat), .int c] :: enumD (k + 1) (L.map PyData.int)) _ _ = _
    rw [forG_cons (Γ1 := DE (sa := sa) many ds b (some (.v (.int (k : Nat)))) (some (.v (.int c))) x6 x7) rfl, c2]
    exact c4
theorem draws_more (many : Nat) (b : Int) (x5 x6 : Option R) (s : List Cell) : ∀ (m lo : Nat) (ds : List Int) (x4 x7 : Option R), ds.length + m ≤ 2000 →
    ∃ (ds' : List Int) (y4 y7 : Option R), ds'.length = ds.length + m ∧ forG (.n 4) (l__law_draws_4 (K := K) (sa := sa) (ns := ns) (tb := tb)) (rangeD (lo : Nat) m) (DE (sa := sa) many ds b x4 x5 x6 x7) (cS s) = some (.nx, DE (sa := sa) many ds' b y4 x5 x6 y7, cS s)
  | 0, lo, ds, x4, x7, _ => ⟨ds, x4, x7, rfl, rfl⟩
  | m + 1, lo, ds, x4, x7, h => by
    let G (ds : List Int) (x7 : Option R) : Ev := DE (sa := sa) many ds b (some (.v (.int (lo : Nat)))) x5 x6 x7
    let o1 : Int := (b + 7919 * (lo : Nat) + 13).fmod 2147483629
    let o2 : Int := (o1 * o1).fmod 2147483647
    let o3 : Int := (o2 * 69621 + (lo : Nat)).fmod 2147483563
    let e : Int := (((o3 * o3).fmod 2147483629).fdiv 8).fmod 10007
    have u1 : sSet (Y := ClY K sa ns tb) 7 (gBin fMod (gBin fAdd (gBin fAdd (gV 3) (gBin fMul (gC (.int 7919)) (gV 4))) (gC (.int 13))) (gC (.int 2147483629))) (G ds x7) (cS s) = some (.nx, G ds (some (.v (.int o1))), cS s) :=
      set_v (i := 7) (m_mod (m_add (m_add (m_v (m := b) s rfl) (m_mul (m_c _ s 7919) (m_v (m := (lo : Nat)) s rfl) (.inl (by decide)))) (m_c _ s 13)) (by decide))
    have u2 : sSet (Y := ClY K sa ns tb) 7 (gBin fMod (gBin fMul (gV 7) (gV 7)) (gC (.int 2147483647))) (G ds (some (.v (.int o1)))) (cS s) = some (.nx, G ds (some (.v (.int o2))), cS s) :=
      set_v (i := 7) (m_mod (m_mul (m_v (m := o1) s rfl) (m_v (m := o1) s rfl) (.inl (fmB _ (by decide) (by decide)))) (by decide))
    have u3 : sSet (Y := ClY K sa ns tb) 7 (gBin fMod (gBin fAdd (gBin fMul (gV 7) (gC (.int 69621))) (gV 4)) (gC (.int 2147483563))) (G ds (some (.v (.int o2)))) (cS s) = some (.nx, G ds (some (.v (.int o3))), cS s) :=
      set_v (i := 7) (m_mod (m_add (m_mul (m_v (m := o2) s rfl) (m_c _ s 69621) (.inr (by decide))) (m_v (m := (lo : Nat)) s rfl)) (by decide))
    have u4 : sDrop (Y := ClY K sa ns tb) (gApp 2 (gBin fMod (gBin fDiv (gBin fMod (gBin fMul (gV 7) (gV 7)) (gC (.int 2147483629))) (gC (.int 8))) (gC (.int 10007)))) (G ds (some (.v (.int o3)))) (cS s) = some (.nx, G (ds ++ [e]) (some (.v (.int o3))), cS s) :=
      app_int (Γ1 := []) (ds := ds) rfl (m_mod (m_div (m_mod (m_mul (m_v (m := o3) s rfl) (m_v (m := o3) s rfl) (.inl (fmB _ (by decide) (by decide)))) (by decide)) (by decide) (by decide)) (by decide)) (by omega)
    obtain ⟨ds', y4, y7, c1, c2⟩ := draws_more many b x5 x6 s m (lo + 1) (ds ++ [e]) (some (.v (.int (lo : Nat)))) (some (.v (.int o3))) (by simp; omega)
    refine ⟨ds', y4, y7, by rw [c1]; simp; omega, ?_⟩
    have er : rangeD (lo : Nat) (m + 1) = .int (lo : Nat) :: rangeD ((lo + 1 : Nat) : Int) m := by
      unfold rangeD
      rw [List.range_succ_eq_map, List.map_cons, List.map_map]
      simp only [Int.natCast_zero, Int.add_zero, List.cons.injEq, true_and, List.map_inj_left, Function.comp]
      intro a _
      rw [show ((lo : Nat) : Int) + ((a.succ : Nat) : Int) = ((lo + 1 : Nat) : Int) + (a : Nat) by omega]
    have body : l__law_draws_4 (K := K) (sa := sa) (ns := ns) (tb := tb) (G ds x7) (cS s) = some (.nx, G (ds ++ [e]) (some (.v (.int o3))), cS s) := by
      unfold l__law_draws_4
      exact nx_seq u1 (nx_seq u2 (nx_seq u3 u4))
    rw [er, forG_cons (Γ1 := G ds x7) rfl, body]
    exact c2
theorem draws_ok (hn : ns.length ≤ 63) (many : Nat) (h1 : 1 ≤ many) (hm : many ≤ 600) (s : List Cell) : ∃ ds : List Int, 0 < ds.length ∧ m__law_draws (K := K) (sa := sa) (ns := ns) (tb := tb) [.raw (.ref sa), .v (.int (many : Nat))] (cS s) = some (.ok (.o (.list (ds.map PyData.int))), cS s) := by
  rw [q__law_draws]
  have hcut : cutD (ns.map PyData.int) none (some 63) = ns.map PyData.int := by
    show ((ns.map PyData.int).drop 0).take (min 63 (ns.map PyData.int).length - 0) = _
    rw [List.length_map, List.drop_zero, List.take_of_length_le (by simp; omega)]
  let I : Ev := [some (.raw (.ref sa)), some (.v (.int (many : Nat))), none, none, none, none, none, none]
  have s1 : sSet (Y := ClY K sa ns tb) 2 (gLst gN) I (cS s) = some (.nx, [some (.raw (.ref sa)), some (.v (.int (many : Nat))), some (.o (.list [])), none, none, none, none, none], cS s) := rfl
  have s2 : sSet (Y := ClY K sa ns tb) 3 (gC (.int 7)) [some (.raw (.ref sa)), some (.v (.int (many : Nat))), some (.o (.list [])), none, none, none, none, none] (cS s) = some (.nx, DE (sa := sa) many [] 7 none none none none, cS s) := rfl
  obtain ⟨ds1, b1, y4, y5, y6, y7, c1, c2⟩ := draws_loop (K := K) (sa := sa) (ns := ns) (tb := tb) many hm s ns 0 [] 7 none none none none many (Nat.zero_le _) (Nat.le_refl _) (by omega)
  have i1 : gEnm (Y := ClY K sa ns tb) (gK (gEsc (gSlSC 0 63)) gN) (DE (sa := sa) many [] 7 none none none none) (cS s) = some (.ok (enumD 0 (ns.map PyData.int)), DE (sa := sa) many [] 7 none none none none, cS s) := by
    unfold gEnm
    have a : gSlSC (K := K) (sa := sa) (ns := ns) (T := tb) 0 63 (DE (sa := sa) many [] 7 none none none none) (cS s) = some (.ok (.o (.list (ns.map PyData.int))), DE (sa := sa) many [] 7 none none none none, cS s) := by
      unfold gSlSC
      show (if sa = sa then some (Oc.ok (R.o (PyData.list (cutD (ns.map PyData.int) none (some 63)))), DE (sa := sa) many [] 7 none none none none, cS s) else none) = _
      rw [if_pos rfl, hcut]
    rw [bd_ok (gk_ok (esc_o a) rfl)]
  have f1 : sFor (Y := ClY K sa ns tb) (.t (.cons (.n 4) (.cons (.n 5) .nil))) (gEnm (gK (gEsc (gSlSC 0 63)) gN)) l__law_draws_3 (DE (sa := sa) many [] 7 none none none none) (cS s) = some (.nx, DE (sa := sa) many ds1 b1 y4 y5 y6 y7, cS s) := (for_run i1).trans c2
  obtain ⟨ds2, z4, z7, c3, c4⟩ := draws_more (K := K) (sa := sa) (ns := ns) (tb := tb) many b1 y5 y6 s (many - ds1.length) 0 ds1 y4 y7 (by omega)
  have l1 : gCall (Y := ClY K sa ns tb) fLen (gK (gV 2) gN) (DE (sa := sa) many ds1 b1 y4 y5 y6 y7) (cS s) = some (.ok (.v (.int (ds1.length : Nat))), DE (sa := sa) many ds1 b1 y4 y5 y6 y7, cS s) := lenE (L := ds1) (f := PyData.int) (.inl rfl)
  have i2 : gRg1 (Y := ClY K sa ns tb) (gK (gBin fSub (gV 1) (gCall fLen (gK (gV 2) gN))) gN) (DE (sa := sa) many ds1 b1 y4 y5 y6 y7) (cS s) = some (.ok (rangeD ((0 : Nat) : Int) (many - ds1.length)), DE (sa := sa) many ds1 b1 y4 y5 y6 y7, cS s) := by
    have z := bin_of (f := fSub) (ga := gV 1) (ra := .v (.int (many : Nat))) (z := .nw (.int ((many : Nat) - (ds1.length : Nat)))) (Γ := DE (sa := sa) many ds1 b1 y4 y5 y6 y7) (s := cS s) rfl l1 rfl rfl rfl
    unfold gRg1
    rw [bd_ok (gk_ok z rfl)]
    have hb : bigI (((many : Nat) : Int) - (ds1.length : Nat)) = true := bigI_mk (by omega)
    show (if bigI (((many : Nat) : Int) - (ds1.length : Nat)) = true then some (Oc.ok (rangeD 0 (((many : Nat) : Int) - (ds1.length : Nat)).toNat), DE (sa := sa) many ds1 b1 y4 y5 y6 y7, cS s) else none) = _
    rw [if_pos hb, show (((many : Nat) : Int) - (ds1.length : Nat)).toNat = many - ds1.length by omega]
    rfl
  have f2 : sFor (Y := ClY K sa ns tb) (.n 4) (gRg1 (gK (gBin fSub (gV 1) (gCall fLen (gK (gV 2) gN))) gN)) l__law_draws_4 (DE (sa := sa) many ds1 b1 y4 y5 y6 y7) (cS s) = some (.nx, DE (sa := sa) many ds2 b1 z4 y5 y6 z7, cS s) := (for_run i2).trans c4
  refine ⟨ds2, by omega, fin_of ?_⟩
  unfold b__law_draws
  show fin (sSeq _ _ I (cS s)) = _
  rw [seq_nx s1, seq_nx s2, seq_nx f1, seq_nx f2]
  rfl
end
end FX.Pg
set_option Elab.async false
set_option linter.all false
set_option maxRecDepth 100000
namespace FX.Pg
open PySem PySem.Spec L2 FX
def trip (t : Bool) (p : Int × Int) (o : O3) : D := .tuple [o.d p.1 p.2, .int (sh2 t o).1, .int (sh2 t o).2]
def optL (t : Bool) : Option O3 → List O3
  | none => outs t
  | some o => [o]
def optD (t : Bool) (p : Int × Int) (x : Option O3) : D := .tuple [.int p.1, .int p.2, .list ((optL t x).map (trip t p))]
theorem fm_one : ∀ {E : List ((Int × Int) × O3)}, (E.map (·.1)).Nodup → ∀ p : Int × Int, E.filterMap (fun e => if e.1 = p then some (e.2.d e.1.1 e.1.2) else none) = match lookE E p with
    | none => []
    | some o => [o.d p.1 p.2]
  | [], _, p => rfl
  | e :: E, nd, p => by
    obtain ⟨h1, h2⟩ := List.nodup_cons.mp (show (e.1 :: E.map (·.1)).Nodup from nd)
    have ih := fm_one h2 p
    by_cases h : e.1 = p
    · have hn : lookE E p = none := by
        unfold lookE
        rw [Option.map_eq_none_iff, List.find?_eq_none]
        intro x hx z
        exact h1 (List.mem_map.mpr ⟨x, hx, (of_decide_eq_true z).trans h.symm⟩)
      have hs : lookE (e :: E) p = some e.2 := by
        unfold lookE
        rw [List.find?_cons, decide_eq_true h]
        rfl
      rw [hs, List.filterMap_cons, if_pos h, ih, hn, h]
    · have hs : lookE (e :: E) p = lookE E p := by
        unfold lookE
        rw [List.find?_cons, decide_eq_false h]
      rw [hs, List.filterMap_cons, if_neg h]
      exact ih
theorem od_eq {i j : Int} (h : i ≠ j) (a b : O3) : fEq (a.d i j) (b.d i j) = some (.nw (.bool (decide (a = b)))) := by
  cases a <;> cases b <;> simp [fEq, O3.d, shI, shN, PyData.eqv, h, Ne.symm h] <;> rfl
theorem flt_outs {t : Bool} {o : O3} (h : o ∈ outs t) : (outs t).filter (fun x => decide (x = o)) = [o] := by
  cases t <;> cases o <;> first | decide | exact absurd h (by decide)
theorem es_outc {l : Lg} (hl : l.Ok) {p : Int × Int} {o : O3} (h : (p, o) ∈ l.es) : l.t = false → o ≠ .t := fun ht z => by
  subst z
  obtain ⟨h1, h2⟩ := hl.mem_es.mp h
  refine hl.tie ht ?_
  rw [hl.vat, List.mem_map]
  exact ⟨p, h1, h2⟩
section
variable {Y : Sys}
def OpE (l : Lg) (A : List D) (i j : Int) (x7 x8 : Option R) : Ev := [some (.v l.d), some (.v (.str (kindS l.t))), some (.v (.int (l.n : Nat))), some (.v (.list l.pl)), some (.o (.list A)), some (.v (.int i)), some (.v (.int j)), x7, x8, none, none, none]
theorem opt_body {l : Lg} (hl : l.Ok) {p : Int × Int} (hp : p.1 < p.2) (A : List D) (hA : A.length ≤ 1000) (x7 x8 : Option R) (s : Y.S) :
    ∃ y7 y8, l__law_options_7 (OpE l A p.1 p.2 x7 x8) s = some (.nx, OpE l (A ++ [optD l.t p (lookE l.es p)]) p.1 p.2 y7 y8, s) := by
  have ne : p.1 ≠ p.2 := by omega
  let S7 (L : List O3) : List D := L.map (trip l.t p)
  have s1 : sSet (Y := Y) 7 (gLst (gK (gEsc (FX.gTup (gK (gEsc (gV 5)) (gK (gEsc (gC (.int 1))) (gK (gEsc (gC (.int 0))) gN))))) (gK (gEsc (FX.gTup (gK (gEsc (gV 6)) (gK (gEsc (gC (.int 0))) (gK (gEsc (gC (.int 1))) gN))))) gN))) (OpE l A p.1 p.2 x7 x8) s = some (.nx, OpE l A p.1 p.2 (some (.o (.list [.tuple [.int p.1, .int 1, .int 0], .tuple [.int p.2, .int 0, .int 1]]))) x8, s) := rfl
  have s2 : sIf (Y := Y) (gTst (gBin fEq (gV 1) (gC (.str (PySem.Str.ofString "ties"))))) (sSet 7 (gLst (gK (gEsc (FX.gTup (gK (gEsc (gV 5)) (gK (gEsc (gC (.int 2))) (gK (gEsc (gC (.int 0))) gN))))) (gK (gEsc (FX.gTup (gK (gEsc (gC .none)) (gK (gEsc (gC (.int 1))) (gK (gEsc (gC (.int 1))) gN))))) (gK (gEsc (FX.gTup (gK (gEsc (gV 6)) (gK (gEsc (gC (.int 0))) (gK (gEsc (gC (.int 2))) gN))))) gN))))) sNil
      (OpE l A p.1 p.2 (some (.o (.list [.tuple [.int p.1, .int 1, .int 0], .tuple [.int p.2, .int 0, .int 1]]))) x8) s = some (.nx, OpE l A p.1 p.2 (some (.o (.list (S7 (outs l.t))))) x8, s) := by
    have t1 : gTst (Y := Y) (gBin fEq (gV 1) (gC (.str (PySem.Str.ofString "ties")))) (OpE l A p.1 p.2 (some (.o (.list [.tuple [.int p.1, .int 1, .int 0], .tuple [.int p.2, .int 0, .int 1]]))) x8) s = some (.ok l.t, OpE l A p.1 p.2 (some (.o (.list [.tuple [.int p.1, .int 1, .int 0], .tuple [.int p.2, .int 0, .int 1]]))) x8, s) :=
      tst_of (bin_of (f := fEq) (ga := gV 1) (ra := .v (.str (kindS l.t))) (rb := .v (.str (PySem.Str.ofString "ties"))) (z := .nw (.bool l.t)) rfl rfl rfl rfl (eq_ties l.t))
    cases ht : l.t with
    | true =>
      rw [ht] at t1
      rw [if_yes t1]
      show _ = some (Fl.nx, OpE l A p.1 p.2 (some (.o (.list ((outs true).map (trip l.t p))))) x8, s)
      rw [ht]
      rfl
    | false =>
      rw [ht] at t1
      rw [if_no t1]
      show _ = some (Fl.nx, OpE l A p.1 p.2 (some (.o (.list ((outs false).map (trip l.t p))))) x8, s)
      rw [ht]
      rfl
  let OW : List D := match lookE l.es p with
    | none => []
    | some o => [o.d p.1 p.2]
  have it : gItL (Y := Y) (gV 3) (OpE l A p.1 p.2 (some (.o (.list (S7 (outs l.t))))) x8) s = some (.ok (l.es.map fun e => mD e.1 e.2), OpE l A p.1 p.2 (some (.o (.list (S7 (outs l.t))))) x8, s) := by
    rw [← l.pl_es]; rfl
  have c1 := gComp_on (Y := Y) (T := (.t (.cons (.n 9) (.cons (.n 10) (.cons (.n 11) .nil))))) (own := [9, 10, 11]) (gt := t__law_options_4) (ge := e__law_options_3) (fun e : (Int × Int) × O3 => mD e.1 e.2) (fun e => if e.1 = p then some (e.2.d e.1.1 e.1.2) else none) it (by have := hl.es_len; omega) (fun e he => by
    let G : Ev := [some (.v l.d), some (.v (.str (kindS l.t))), some (.v (.int (l.n : Nat))), some (.v (.list l.pl)), some (.o (.list A)), some (.v (.int p.1)), some (.v (.int p.2)), some (.o (.list (S7 (outs l.t)))), x8, some (.v (.int e.1.1)), some (.v (.int e.1.2)), some (.v (e.2.d e.1.1 e.1.2))]
    have t1 : t__law_options_4 (Y := Y) G s = some (.ok (decide (e.1 = p)), G, s) :=
      tst_of (bin_of (f := fEq) (ra := .v (prD e.1)) (rb := .v (prD p)) (d := prD e.1) (e := prD p) (z := .nw (.bool (decide (e.1 = p)))) rfl rfl rfl rfl (by simp only [fEq, sh_pr, Bool.and_self, if_true, eqv_pr]))
    refine ⟨G, G, rfl, ?_⟩
    by_cases h : e.1 = p
    · rw [if_pos h]
      exact ⟨t1.trans (by rw [decide_eq_true h]), G, rfl, rfl⟩
    · rw [if_neg h]
      exact ⟨t1.trans (by rw [decide_eq_false h]), rfl⟩)
  rw [fm_one hl.es_nd p] at c1
  have s3 : sSet (Y := Y) 8 (gComp (.t (.cons (.n 9) (.cons (.n 10) (.cons (.n 11) .nil)))) [9, 10, 11] (gItL (gV 3)) t__law_options_4 e__law_options_3) (OpE l A p.1 p.2 (some (.o (.list (S7 (outs l.t))))) x8) s = some (.nx, OpE l A p.1 p.2 (some (.o (.list (S7 (outs l.t))))) (some (.o (.list OW))), s) := set_o (i := 8) c1
  have fin5 : ∀ (x : Option R) (L : List O3), (x = some (.o (.list (S7 L))) ∨ x = some (.v (.list (S7 L)))) → ∀ y8, sDrop (Y := Y) (gApp 4 (FX.gTup (gK (gEsc (gV 5)) (gK (gEsc (gV 6)) (gK (gEsc (gV 7)) gN))))) (OpE l A p.1 p.2 x y8) s = some (.nx, OpE l (A ++ [.tuple [.int p.1, .int p.2, .list (S7 L)]]) p.1 p.2 (some (.v (.list (S7 L)))) y8, s) := by
    intro x L hx y8
    have e7 : gEsc (Y := Y) (gV 7) (OpE l A p.1 p.2 x y8) s = some (.ok (.v (.list (S7 L))), OpE l A p.1 p.2 (some (.v (.list (S7 L)))) y8, s) := by
      rcases hx with rfl | rfl <;> rfl
    have e8 : FX.gTup (Y := Y) (gK (gEsc (gV 5)) (gK (gEsc (gV 6)) (gK (gEsc (gV 7)) gN))) (OpE l A p.1 p.2 x y8) s = some (.ok (.v (.tuple [.int p.1, .int p.2, .list (S7 L)])), OpE l A p.1 p.2 (some (.v (.list (S7 L)))) y8, s) :=
      tup_ok (gk_ok (esc_v (d := .int p.1) rfl) (gk_ok (esc_v (d := .int p.2) rfl) (gk_ok e7 rfl))) rfl (by simp)
    exact drop_ok (app_ok rfl e8 rfl (by omega))
  cases hk : lookE l.es p with
  | none =>
    have ow : OW = [] := by show (match lookE l.es p with | none => [] | some o => [o.d p.1 p.2]) = _; rw [hk]
    have s4 : sIf (Y := Y) (gTst (gBin fNe (gV 8) (gLst gN))) (sSet 7 (gComp (.n 9) [9] (gItL (gV 7)) t__law_options_6 e__law_options_5)) sNil (OpE l A p.1 p.2 (some (.o (.list (S7 (outs l.t))))) (some (.o (.list [])))) s = some (.nx, OpE l A p.1 p.2 (some (.o (.list (S7 (outs l.t))))) (some (.o (.list []))), s) := rfl
    rw [ow] at s3
    refine ⟨some (.v (.list (S7 (outs l.t)))), some (.o (.list [])), ?_⟩
    unfold l__law_options_7
    exact nx_seq s1 (nx_seq s2 (nx_seq s3 (nx_seq s4 (fin5 _ (outs l.t) (.inl rfl) _))))
  | some o =>
    have ow : OW = [o.d p.1 p.2] := by show (match lookE l.es p with | none => [] | some o => [o.d p.1 p.2]) = _; rw [hk]
    have ho : o ∈ outs l.t := by
      have h1 := (lookE_iff hl.es_nd).mp hk
      exact outs_ok.mpr (es_outc hl h1)
    let G0 : Ev := OpE l A p.1 p.2 (some (.o (.list (S7 (outs l.t))))) (some (.o (.list [o.d p.1 p.2])))
    let G1 : Ev := OpE l A p.1 p.2 (some (.v (.list (S7 (outs l.t))))) (some (.o (.list [o.d p.1 p.2])))
    have tt : gTst (Y := Y) (gBin fNe (gV 8) (gLst gN)) G0 s = some (.ok true, G0, s) := by
      refine tst_of (bin_of (f := fNe) (ra := .b 8) (rb := .o (.list [])) (d := .list [o.d p.1 p.2]) (e := .list []) (z := .nw (.bool true)) rfl rfl rfl rfl ?_)
      cases o <;> rfl
    have it2 : gItL (Y := Y) (gV 7) G0 s = some (.ok ((outs l.t).map (trip l.t p)), G1, s) := rfl
    have c2 := gComp_flt (Y := Y) (T := .n 9) (own := [9]) (gt := t__law_options_6) (ge := e__law_options_5) (trip l.t p) (fun x => decide (x = o)) it2 (by have := outs_len l.t; omega) (fun x hx => by
      let G : Ev := [some (.v l.d), some (.v (.str (kindS l.t))), some (.v (.int (l.n : Nat))), some (.v (.list l.pl)), some (.o (.list A)), some (.v (.int p.1)), some (.v (.int p.2)), some (.v (.list (S7 (outs l.t)))), some (.o (.list [o.d p.1 p.2])), some (.v (trip l.t p x)), none, none]
      refine ⟨G, G, rfl, ?_, rfl, fun _ => ⟨G, rfl, rfl⟩⟩
      have a1 : gBin (Y := Y) fIx (gV 9) (gC (.int 0)) G s = some (.ok (.v (x.d p.1 p.2)), G, s) := rfl
      have a2 : gBin (Y := Y) fIx (gV 8) (gC (.int 0)) G s = some (.ok (.v (o.d p.1 p.2)), G, s) := rfl
      exact tst_of (bin_of (f := fEq) (z := .nw (.bool (decide (x = o)))) a1 a2 rfl rfl (od_eq ne x o)))
    rw [flt_outs ho] at c2
    have s4 : sIf (Y := Y) (gTst (gBin fNe (gV 8) (gLst gN))) (sSet 7 (gComp (.n 9) [9] (gItL (gV 7)) t__law_options_6 e__law_options_5)) sNil G0 s = some (.nx, OpE l A p.1 p.2 (some (.o (.list (S7 [o])))) (some (.o (.list [o.d p.1 p.2]))), s) := by
      rw [if_yes tt]
      exact set_o (i := 7) c2
    rw [ow] at s3
    refine ⟨some (.v (.list (S7 [o]))), some (.o (.list [o.d p.1 p.2])), ?_⟩
    unfold l__law_options_7
    exact nx_seq s1 (nx_seq s2 (nx_seq s3 (nx_seq s4 (fin5 _ [o] (.inl rfl) _))))
theorem opt_inner {l : Lg} (hl : l.Ok) (i : Nat) (s : Y.S) : ∀ (m a : Nat) (A : List D) (x6 x7 x8 : Option R), i < a → A.length + m ≤ 1000 →
    ∃ y6 y7 y8, forG (.n 6) (l__law_options_7 (Y := Y)) (rangeD (a : Nat) m) [some (.v l.d), some (.v (.str (kindS l.t))), some (.v (.int (l.n : Nat))), some (.v (.list l.pl)), some (.o (.list A)), some (.v (.int (i : Nat))), x6, x7, x8, none, none, none] s
      = some (.nx, [some (.v l.d), some (.v (.str (kindS l.t))), some (.v (.int (l.n : Nat))), some (.v (.list l.pl)), some (.o (.list (A ++ (List.range m).map fun k => optD l.t ((i : Nat), ((a + k : Nat) : Int)) (lookE l.es ((i : Nat), ((a + k : Nat) : Int)))))), some (.v (.int (i : Nat))), y6, y7, y8, none, none, none], s)
  | 0, a, A, x6, x7, x8, _, _ => ⟨x6, x7, x8, by simp [rangeD, forG_nil]⟩
  | m + 1, a, A, x6, x7, x8, h, hz => by
    obtain ⟨z7, z8, e1⟩ := opt_body hl (p := ((i : Nat), (a : Nat))) (show (i : Int) < (a : Int) by omega) A (by omega) x7 x8 s
    obtain ⟨y6, y7, y8, e2⟩ := opt_inner hl i s m (a + 1) (A ++ [optD l.t ((i : Nat), (a : Nat)) (lookE l.es ((i : Nat), (a : Nat)))]) (some (.v (.int (a : Nat)))) z7 z8 (by omega) (by simp; omega)
    refine ⟨y6, y7, y8, ?_⟩
    have er : rangeD (a : Nat) (m + 1) = .int (a : Nat) :: rangeD ((a + 1 : Nat) : Int) m := by
      unfold rangeD
      rw [List.range_succ_eq_map, List.map_cons, List.map_map]
      simp only [Int.natCast_zero, Int.add_zero, List.cons.injEq, true_and, List.map_inj_left, Function.comp]
      intro k _
      rw [show ((a : Nat) : Int) + ((k.succ : Nat) : Int) = ((a + 1 : Nat) : Int) + (k : Nat) by omega]
    rw [er, forG_cons (Γ1 := OpE l A (i : Nat) (a : Nat) x7 x8) rfl, e1]
    refine e2.trans ?_
    rw [List.range_succ_eq_map, List.map_cons, List.map_map, List.append_assoc, List.singleton_append]
    have : ((List.range m).map fun k => optD l.t ((i : Nat), ((a + 1 + k : Nat) : Int)) (lookE l.es ((i : Nat), ((a + 1 + k : Nat) : Int)))) = (List.range m).map ((fun k => optD l.t ((i : Nat), ((a + k : Nat) : Int)) (lookE l.es ((i : Nat), ((a + k : Nat) : Int)))) ∘ Nat.succ) := List.map_congr_left fun k _ => by
      show optD _ _ _ = optD _ _ _
      rw [show a + 1 + k = a + k.succ by omega]
    rw [this]
    rfl
def rowO (l : Lg) (i : Nat) : List D := (List.range (l.n - 1 - i)).map fun k => optD l.t ((i : Nat), ((i + 1 + k : Nat) : Int)) (lookE l.es ((i : Nat), ((i + 1 + k : Nat) : Int)))
theorem opt_outer {l : Lg} (hl : l.Ok) (s : Y.S) : ∀ (m i : Nat) (A : List D) (x5 x6 x7 x8 : Option R), i + m = l.n → A.length ≤ 6 * i →
    ∃ y5 y6 y7 y8, forG (.n 5) (l__law_options_8 (Y := Y)) (rangeD (i : Nat) m) [some (.v l.d), some (.v (.str (kindS l.t))), some (.v (.int (l.n : Nat))), some (.v (.list l.pl)), some (.o (.list A)), x5, x6, x7, x8, none, none, none] s
      = some (.nx, [some (.v l.d), some (.v (.str (kindS l.t))), some (.v (.int (l.n : Nat))), some (.v (.list l.pl)), some (.o (.list (A ++ (List.range m).flatMap fun k => rowO l (i + k)))), y5, y6, y7, y8, none, none, none], s)
  | 0, i, A, x5, x6, x7, x8, _, _ => ⟨x5, x6, x7, x8, by simp [rangeD, forG_nil]⟩
  | m + 1, i, A, x5, x6, x7, x8, h, hz => by
    have h6 := hl.h6
    obtain ⟨z6, z7, z8, e1⟩ := opt_inner hl i s (l.n - 1 - i) (i + 1) A x6 x7 x8 (by omega) (by omega)
    obtain ⟨y5, y6, y7, y8, e2⟩ := opt_outer hl s m (i + 1) (A ++ rowO l i) (some (.v (.int (i : Nat)))) z6 z7 z8 (by omega) (by unfold rowO; simp; omega)
    refine ⟨y5, y6, y7, y8, ?_⟩
    have er : rangeD (i : Nat) (m + 1) = .int (i : Nat) :: rangeD ((i + 1 : Nat) : Int) m := by
      unfold rangeD
      rw [List.range_succ_eq_map, List.map_cons, List.map_map]
      simp only [Int.natCast_zero, Int.add_zero, List.cons.injEq, true_and, List.map_inj_left, Function.comp]
      intro k _
      rw [show ((i : Nat) : Int) + ((k.succ : Nat) : Int) = ((i + 1 : Nat) : Int) + (k : Nat) by omega]
    let G : Ev := [some (.v l.d), some (.v (.str (kindS l.t))), some (.v (.int (l.n : Nat))), some (.v (.list l.pl)), some (.o (.list A)), some (.v (.int (i : Nat))), x6, x7, x8, none, none, none]
    have it : gRg2 (Y := Y) (gK (gBin fAdd (gV 5) (gC (.int 1))) (gK (gV 2) gN)) G s = some (.ok (rangeD ((i + 1 : Nat) : Int) (l.n - 1 - i)), G, s) := by
      have z : gBin (Y := Y) fAdd (gV 5) (gC (.int 1)) G s = some (.ok (.v (.int ((i + 1 : Nat) : Int))), G, s) := rfl
      unfold gRg2
      rw [bd_ok (gk_ok z (gk_ok (r := .v (.int (l.n : Nat))) (Γ1 := G) (s1 := s) rfl rfl))]
      have b1 : bigI ((i + 1 : Nat) : Int) = true := bigI_mk (by omega)
      have b2 : bigI ((l.n : Nat) : Int) = true := bigI_mk (by omega)
      show (if bigI ((i + 1 : Nat) : Int) = true ∧ bigI ((l.n : Nat) : Int) = true then some (Oc.ok (rangeD ((i + 1 : Nat) : Int) (((l.n : Nat) : Int) - ((i + 1 : Nat) : Int)).toNat), G, s) else none) = _
      rw [if_pos ⟨b1, b2⟩, show (((l.n : Nat) : Int) - ((i + 1 : Nat) : Int)).toNat = l.n - 1 - i by omega]
    rw [er, forG_cons (Γ1 := G) rfl]
    have body : l__law_options_8 (Y := Y) G s = some (.nx, [some (.v l.d), some (.v (.str (kindS l.t))), some (.v (.int (l.n : Nat))), some (.v (.list l.pl)), some (.o (.list (A ++ rowO l i))), some (.v (.int (i : Nat))), z6, z7, z8, none, none, none], s) := (for_run it).trans e1
    rw [body]
    refine e2.trans ?_
    rw [List.range_succ_eq_map, List.flatMap_cons, List.flatMap_map, List.append_assoc]
    have : ((List.range m).flatMap fun k => rowO l (i + 1 + k)) = (List.range m).flatMap fun k => rowO l (i + Nat.succ k) := by
      congr 1
      funext k
      rw [show i + 1 + k = i + Nat.succ k by omega]
    rw [this]
    rfl
theorem options_eq {l : Lg} (hl : l.Ok) (s : Y.S) : m__law_options [.v l.d] s = some (.ok (.o (.list ((pairsI l.n).map fun p => optD l.t p (lookE l.es p)))), s) := by
  rw [q__law_options]
  refine fin_of ?_
  obtain ⟨y5, y6, y7, y8, e⟩ := opt_outer hl s l.n 0 [] none none none none (by omega) (by simp)
  let I : Ev := [some (.v l.d), none, none, none, none, none, none, none, none, none, none, none]
  have s1 : sUnp (Y := Y) (.cons (.n 1) (.cons (.n 2) (.cons (.n 3) .nil))) (gV 0) I s = some (.nx, [some (.v l.d), some (.v (.str (kindS l.t))), some (.v (.int (l.n : Nat))), some (.v (.list l.pl)), none, none, none, none, none, none, none, none], s) := rfl
  have s2 : sSet (Y := Y) 4 (gLst gN) [some (.v l.d), some (.v (.str (kindS l.t))), some (.v (.int (l.n : Nat))), some (.v (.list l.pl)), none, none, none, none, none, none, none, none] s = some (.nx, [some (.v l.d), some (.v (.str (kindS l.t))), some (.v (.int (l.n : Nat))), some (.v (.list l.pl)), some (.o (.list [])), none, none, none, none, none, none, none], s) := rfl
  have it : gRg1 (Y := Y) (gK (gV 2) gN) [some (.v l.d), some (.v (.str (kindS l.t))), some (.v (.int (l.n : Nat))), some (.v (.list l.pl)), some (.o (.list [])), none, none, none, none, none, none, none] s = some (.ok (rangeD ((0 : Nat) : Int) l.n), [some (.v l.d), some (.v (.str (kindS l.t))), some (.v (.int (l.n : Nat))), some (.v (.list l.pl)), some (.o (.list [])), none, none, none, none, none, none, none], s) := by
    have b2 : bigI ((l.n : Nat) : Int) = true := bigI_mk (by have := hl.h6; omega)
    unfold gRg1
    rw [bd_ok (gk_ok (r := .v (.int (l.n : Nat))) (Γ1 := [some (.v l.d), some (.v (.str (kindS l.t))), some (.v (.int (l.n : Nat))), some (.v (.list l.pl)), some (.o (.list [])), none, none, none, none, none, none, none]) (s1 := s) rfl rfl)]
    show (if bigI ((l.n : Nat) : Int) = true then some (Oc.ok (rangeD 0 ((l.n : Nat) : Int).toNat), _, s) else none) = _
    rw [if_pos b2]
    rfl
  unfold b__law_options
  show fin (sSeq _ _ I s) = _
  rw [seq_nx s1, seq_nx s2, seq_nx ((for_run it).trans e)]
  show some (Oc.ok (R.o (PyData.list _)), s) = _
  have : (([] : List D) ++ (List.range l.n).flatMap fun k => rowO l (0 + k)) = (pairsI l.n).map fun p => optD l.t p (lookE l.es p) := by
    unfold pairsI
    rw [List.nil_append, List.map_flatMap]
    congr 1
    funext i
    unfold rowO
    rw [Nat.zero_add, List.map_map]
    refine List.map_congr_left fun k _ => ?_
    show optD _ _ _ = optD _ _ _
    rw [show ((i + 1 + k : Nat) : Int) = (i : Int) + 1 + (k : Int) by omega]
  rw [this]
end
end FX.Pg
set_option Elab.async false
set_option linter.all false
set_option maxRecDepth 100000
namespace FX.Pg
open PySem PySem.Spec L2 FX
abbrev Ent := (Int × Int) × O3
def mE2 (e : Ent) : D := mD e.1 e.2
theorem mE2_plain (e : Ent) : plain (mE2 e) = true := by
  obtain ⟨p, o⟩ := e
  cases o <;> simp [mE2, mD, O3.d, plain, plains]
theorem mE2_inj {e f : Ent} (h : e.1.1 ≠ e.1.2) : mE2 e = mE2 f ↔ e = f := by
  refine ⟨fun z => ?_, fun z => by rw [z]⟩
  obtain ⟨⟨i, j⟩, o⟩ := e
  obtain ⟨⟨i', j'⟩, o'⟩ := f
  simp only [mE2, mD, PyData.tuple.injEq, List.cons.injEq, PyData.int.injEq, and_true] at z
  obtain ⟨rfl, rfl, z⟩ := z
  have h : i ≠ j := h
  cases o <;> cases o' <;> simp [O3.d, h, Ne.symm h] at z <;> rfl
theorem mE2_lay (e : Ent) : (mE2 e).canLay0 = true ∧ (mE2 e).depth ≤ 40 := by
  obtain ⟨p, o⟩ := e
  cases o <;> exact ⟨rfl, by simp [mE2, mD, O3.d, PyData.depth, PyData.depthAll]⟩
theorem mE2_sh (e : Ent) : SeqAt.shaped (mE2 e) = true := by
  have := mE2_lay e
  simp [SeqAt.shaped, this.1]; omega
theorem mE2s_sh (E : List Ent) : SeqAt.shaped (.list (E.map mE2)) = true := shp_list fun d hd => by
  obtain ⟨e, _, rfl⟩ := List.mem_map.mp hd; exact mE2_lay e
theorem mE2_any (E : List Ent) {e : Ent} (h : e.1.1 ≠ e.1.2) : ((E.map mE2).any fun z => PyData.eqv z (mE2 e)) = decide (e ∈ E) := by
  rw [List.any_map]
  induction E with
  | nil => simp
  | cons f E ih =>
    rw [List.any_cons, ih]
    have : PyData.eqv (mE2 f) (mE2 e) = decide (e = f) := eqv_pl (mE2_plain f) (mE2_plain e) _ ⟨fun z => (mE2_inj h).mp z.symm, fun z => by rw [z]⟩
    show (PyData.eqv (mE2 f) (mE2 e) || decide (e ∈ E)) = _
    rw [this]
    by_cases h1 : e = f <;> simp [h1]
theorem nin_mE2 (E : List Ent) {e : Ent} (h : e.1.1 ≠ e.1.2) : fNotIn2 (mE2 e) (.list (E.map mE2)) = some (.nw (.bool (!decide (e ∈ E)))) := by
  simp only [fNotIn2, mE2_sh, mE2s_sh, Bool.and_self, if_true, mE2_any E h]
theorem lg_sub {t : Bool} {n : Nat} (h2 : 2 ≤ n) (h6 : n ≤ 6) {E : List Ent} (hk : (E.map (·.1)).Sublist (pairsI n)) (ho : ∀ e ∈ E, t = false → e.2 ≠ .t) : (lgOf t n E).Ok ∧ (lgOf t n E).es = E ∧ (lgOf t n E).d = .tuple [.str (kindS t), .int (n : Nat), .list (E.map mE2)] := by
  have pw : (E.map (·.1)).Pairwise lexP := (rise_pw (pairs_rise h2 h6)).sublist hk
  have nd := nodup_pw pw
  have hs : ∀ e ∈ E, e.1 ∈ pairsI n := fun e he => hk.subset (List.mem_map.mpr ⟨e, he, rfl⟩)
  have ok := lgOf_ok h2 h6 nd ho (t := t)
  have pm := lgOf_perm h2 h6 nd hs (t := t)
  have pw1 : E.Pairwise fun e f => lexP e.1 f.1 := List.pairwise_map.mp pw
  have pw2 : (lgOf t n E).es.Pairwise fun e f => lexP e.1 f.1 := List.pairwise_map.mp (es_pw ok)
  have eq : E = (lgOf t n E).es := by
    refine List.Perm.eq_of_pairwise (fun a b _ _ h1 h2 => ?_) pw1 pw2 pm
    unfold lexP at h1 h2
    omega
  refine ⟨ok, eq.symm, ?_⟩
  show PyData.tuple [.str (kindS t), .int (n : Nat), .list (lgOf t n E).pl] = _
  rw [Lg.pl_es, ← eq]
  rfl
theorem left_es : ∀ (ps : List (Int × Int)) (v : List (Option O3)), v.length = ps.length → (leftP ps v).length + (ents ps v).length = ps.length
  | [], [], _ => rfl
  | p :: ps, none :: v, h => by
    have := left_es ps v (by simpa using h)
    simp only [leftP, ents, List.length_cons]; omega
  | p :: ps, some o :: v, h => by
    have := left_es ps v (by simpa using h)
    simp only [leftP, ents, List.length_cons]; omega
  | [], _ :: _, h => by simp at h
  | _ :: _, [], h => by simp at h
section
variable {K : PySem.W.Frag} {sa : Addr} {ns : List Int} {tb : List (Addr × Str)}
def DrE (k : Nat) (l : Lg) (E : List Ent) (x3 x4 x5 : Option R) : Ev := [some (.h k), some (.v l.d), some (.o (.list (E.map mE2))), x3, x4, x5]
theorem drawn_body {l : Lg} {k : Nat} {s : List Cell} (h : StD s k) (p : Int × Int) (x : Option O3) (E : List Ent) (hE : E.length ≤ 1000) :
    ∃ (o : O3) (s' : List Cell), o ∈ optL l.t x ∧ StD s' k ∧ l__law_drawn_end_1 (K := K) (sa := sa) (ns := ns) (tb := tb) (DrE k l E (some (.v (.int p.1))) (some (.v (.int p.2))) (some (.v (.list ((optL l.t x).map (trip l.t p)))))) (cS s)
      = some (.nx, DrE k l (E ++ [(p, o)]) (some (.v (.int p.1))) (some (.v (.int p.2))) (some (.v (.list ((optL l.t x).map (trip l.t p))))), cS s') := by
  let G (E : List Ent) : Ev := DrE k l E (some (.v (.int p.1))) (some (.v (.int p.2))) (some (.v (.list ((optL l.t x).map (trip l.t p)))))
  have hl : 0 < (optL l.t x).length := by
    cases x with
    | none => have := (outs_len l.t).1; show 0 < (outs l.t).length; omega
    | some o => exact Nat.zero_lt_one
  obtain ⟨y, o, s1, hy, hs1, e1⟩ := pickDE (K := K) (sa := sa) (ns := ns) (tb := tb) (Γ := G E) (Γ1 := G E) (j := 0) (s := s) (s1 := s) rfl h (ga := gV 5) (g := gCall fLen (gK (gV 5) gN)) (L := optL l.t x) (f := trip l.t p) (r := .v (.list ((optL l.t x).map (trip l.t p)))) rfl rfl (lenE (.inr rfl)) hl
  have e2 : gBin (Y := ClY K sa ns tb) fIx (gBin fIx (gV 5) (Td 0 (gCall fLen (gK (gV 5) gN)))) (gC (.int 0)) (G E) (cS s) = some (.ok (.v (o.d p.1 p.2)), G E, cS s1) := bin_of (f := fIx) (gb := gC (.int 0)) (rb := .v (.int 0)) (z := .old (o.d p.1 p.2)) e1 rfl rfl rfl rfl
  have e3 : FX.gTup (Y := ClY K sa ns tb) (gK (gEsc (gV 3)) (gK (gEsc (gV 4)) (gK (gEsc (gBin fIx (gBin fIx (gV 5) (Td 0 (gCall fLen (gK (gV 5) gN)))) (gC (.int 0)))) gN))) (G E) (cS s) = some (.ok (.v (mE2 (p, o))), G E, cS s1) :=
    tup_ok (gk_ok (esc_v (d := .int p.1) rfl) (gk_ok (esc_v (d := .int p.2) rfl) (gk_ok (esc_v e2) rfl))) rfl (by simp)
  refine ⟨o, s1, List.mem_of_getElem? hy, hs1, ?_⟩
  have := app_ok (Y := ClY K sa ns tb) (Γ := G E) (i := 2) (ds := E.map mE2) rfl e3 (ds' := E.map mE2) rfl (by rw [List.length_map]; omega)
  refine (drop_ok this).trans ?_
  simp [G, DrE]
theorem drawn_loop {l : Lg} {k : Nat} (f : Int × Int → Option O3) : ∀ (ps : List (Int × Int)) {s : List Cell} (h : StD s k) (E : List Ent) (x3 x4 x5 : Option R), E.length + ps.length ≤ 1000 →
    ∃ (Z : List Ent) (s' : List Cell) (y3 y4 y5 : Option R), Z.map (·.1) = ps ∧ (∀ e ∈ Z, e.2 ∈ optL l.t (f e.1)) ∧ StD s' k ∧
      forG (.t (.cons (.n 3) (.cons (.n 4) (.cons (.n 5) .nil)))) (l__law_drawn_end_1 (K := K) (sa := sa) (ns := ns) (tb := tb)) (ps.map fun p => optD l.t p (f p)) (DrE k l E x3 x4 x5) (cS s) = some (.nx, DrE k l (E ++ Z) y3 y4 y5, cS s')
  | [], s, h, E, x3, x4, x5, _ => ⟨[], s, x3, x4, x5, rfl, by simp, h, by simp [forG_nil]⟩
  | p :: ps, s, h, E, x3, x4, x5, hz => by
    simp only [List.length_cons] at hz
    obtain ⟨o, s1, ho, hs1, e1⟩ := drawn_body (K := K) (sa := sa) (ns := ns) (tb := tb) (l := l) h p (f p) E (by omega)
    obtain ⟨Z, s2, y3, y4, y5, hk, hZ, hs2, e2⟩ := drawn_loop f ps hs1 (E ++ [(p, o)]) (some (.v (.int p.1))) (some (.v (.int p.2))) (some (.v (.list ((optL l.t (f p)).map (trip l.t p))))) (by simp; omega)
    refine ⟨(p, o) :: Z, s2, y3, y4, y5, by simp [hk], fun e he => ?_, hs2, ?_⟩
    · rcases List.mem_cons.mp he with rfl | he
      · exact ho
      · exact hZ e he
    · rw [List.map_cons, forG_cons (Γ1 := DrE k l E (some (.v (.int p.1))) (some (.v (.int p.2))) (some (.v (.list ((optL l.t (f p)).map (trip l.t p)))))) rfl, e1]
      refine e2.trans ?_
      rw [List.append_assoc, List.singleton_append]
structure Full (l : Lg) (Z : List Ent) : Prop where
  keys : Z.map (·.1) = pairsI l.n
  outs : ∀ e ∈ Z, e.2 ∈ optL l.t (lookE l.es e.1)
theorem drawn_ok {l : Lg} (hl : l.Ok) {k : Nat} {s : List Cell} (h : StD s k) : ∃ (Z : List Ent) (s' : List Cell), Full l Z ∧ StD s' k ∧
    m__law_drawn_end (K := K) (sa := sa) (ns := ns) (tb := tb) [.h k, .v l.d] (cS s) = some (.ok (.v (.tuple [.str (kindS l.t), .int (l.n : Nat), .list (Z.map mE2)])), cS s') := by
  obtain ⟨Z, s', y3, y4, y5, hk, hZ, hs, e⟩ := drawn_loop (K := K) (sa := sa) (ns := ns) (tb := tb) (l := l) (lookE l.es) (pairsI l.n) h [] none none none (by have := pairs_len hl.h2 hl.h6; simp; omega)
  refine ⟨Z, s', ⟨hk, hZ⟩, hs, ?_⟩
  rw [q__law_drawn_end]
  refine fin_of ?_
  let G : Ev := DrE k l [] none none none
  have it : gItL (Y := ClY K sa ns tb) (gFn 1 m__law_options (gK (gEsc (gV 1)) gN)) G (cS s) = some (.ok ((pairsI l.n).map fun p => optD l.t p (lookE l.es p)), G, cS s) :=
    itL_o (fn_o (gk_ok (esc_v (d := l.d) rfl) rfl) rfl (options_eq hl _))
  have s2 : sFor (Y := ClY K sa ns tb) (.t (.cons (.n 3) (.cons (.n 4) (.cons (.n 5) .nil)))) (gItL (gFn 1 m__law_options (gK (gEsc (gV 1)) gN))) l__law_drawn_end_1 G (cS s) = some (.nx, DrE k l Z y3 y4 y5, cS s') := (for_run it).trans e
  have s1 : sSet (Y := ClY K sa ns tb) 2 (gLst gN) [some (.h k), some (.v l.d), none, none, none, none] (cS s) = some (.nx, G, cS s) := rfl
  unfold b__law_drawn_end
  show fin (sSeq _ _ [some (.h k), some (.v l.d), none, none, none, none] (cS s)) = _
  rw [seq_nx s1, seq_nx s2]
  rfl
theorem Full.len {l : Lg} {Z : List Ent} (h : Full l Z) (hl : l.Ok) : Z.length ≤ 15 := by
  have := pairs_len hl.h2 hl.h6
  have e : Z.length = (pairsI l.n).length := by rw [← h.keys, List.length_map]
  omega
theorem Full.tie {l : Lg} {Z : List Ent} (h : Full l Z) (hl : l.Ok) : ∀ e ∈ Z, l.t = false → e.2 ≠ .t := fun e he => by
  have := h.outs e he
  cases hx : lookE l.es e.1 with
  | none => rw [hx] at this; exact outs_ok.mp this
  | some o =>
    rw [hx] at this
    rw [List.mem_singleton.mp this]
    exact es_outc hl ((lookE_iff hl.es_nd).mp hx)
theorem Full.ne {l : Lg} {Z : List Ent} (h : Full l Z) (hl : l.Ok) : ∀ e ∈ Z, e.1.1 ≠ e.1.2 := fun e he => by
  have : e.1 ∈ pairsI l.n := by rw [← h.keys]; exact List.mem_map.mpr ⟨e, he, rfl⟩
  have := pairs_mem hl.h2 hl.h6 _ this
  omega
theorem Full.sub {l : Lg} {Z E : List Ent} (h : Full l Z) (hl : l.Ok) (hs : E.Sublist Z) : (lgOf l.t l.n E).Ok ∧ (lgOf l.t l.n E).es = E ∧ (lgOf l.t l.n E).d = .tuple [.str (kindS l.t), .int (l.n : Nat), .list (E.map mE2)] :=
  lg_sub hl.h2 hl.h6 (by rw [← h.keys]; exact hs.map _) fun e he => h.tie hl e (hs.subset he)
def LgE (k : Nat) (x : Int) (t : Bool) (n : Nat) (often : Nat) (E : List Ent) (x6 : Option R) : Ev := [some (.h k), some (.v (.int x)), some (.v (.str (kindS t))), some (.v (.int (n : Nat))), some (.v (.int (often : Nat))), some (.o (.list (E.map mE2))), x6]
def LgE2 (k : Nat) (x : Int) (t : Bool) (n : Nat) (often : Nat) (E : List Ent) (x6 : Option R) : Ev := [some (.h k), some (.v (.int x)), some (.v (.str (kindS t))), some (.v (.int (n : Nat))), some (.v (.int (often : Nat))), some (.v (.list (E.map mE2))), x6]
theorem lgd_loop (k : Nat) (x : Int) (t : Bool) (n : Nat) (often : Nat) : ∀ (Z : List Ent) {s : List Cell} (h : StD s k) (E : List Ent) (x6 : Option R), E.length + Z.length ≤ 1000 →
    ∃ (E' : List Ent) (s' : List Cell) (y6 : Option R), E'.Sublist Z ∧ StD s' k ∧ forG (.n 6) (l__law_league_1 (K := K) (sa := sa) (ns := ns) (tb := tb)) (Z.map mE2) (LgE k x t n often E x6) (cS s) = some (.nx, LgE k x t n often (E ++ E') y6, cS s')
  | [], s, h, E, x6, _ => ⟨[], s, x6, .slnil, h, by simp [forG_nil]⟩
  | e :: Z, s, h, E, x6, hz => by
    simp only [List.length_cons] at hz
    let G : Ev := LgE k x t n often E (some (.v (mE2 e)))
    obtain ⟨y, s1, hy, hs1, e1⟩ := takeDE (K := K) (sa := sa) (ns := ns) (tb := tb) (Γ := G) (j := 0) rfl h (g := gC (.int 10)) (m := 10) rfl (by decide)
    have t1 : gTst (Y := ClY K sa ns tb) (gBin fLt (Td 0 (gC (.int 10))) (gV 4)) G (cS s) = some (.ok (decide (y < often)), G, cS s1) := tst_of (bin_of (f := fLt) (gb := gV 4) (rb := .v (.int (often : Nat))) (z := .nw (.bool (decide (y < often)))) e1 rfl rfl rfl (by simp [fLt]))
    rw [List.map_cons, forG_cons (Γ1 := G) rfl]
    by_cases hc : y < often
    · obtain ⟨E', s2, y6, c1, c2, c3⟩ := lgd_loop k x t n often Z hs1 (E ++ [e]) (some (.v (mE2 e))) (by simp; omega)
      have a2 : sDrop (Y := ClY K sa ns tb) (gApp 5 (gV 6)) G (cS s1) = some (.nx, LgE k x t n often (E ++ [e]) (some (.v (mE2 e))), cS s1) := by
        have := app_ok (Y := ClY K sa ns tb) (Γ := G) (s := cS s1) (s1 := cS s1) (Γ1 := G) (i := 5) (ge := gV 6) (d := mE2 e) (ds := E.map mE2) rfl rfl (ds' := E.map mE2) rfl (by rw [List.length_map]; omega)
        refine (drop_ok this).trans ?_
        simp [G, LgE]
      have body : l__law_league_1 (K := K) (sa := sa) (ns := ns) (tb := tb) G (cS s) = some (.nx, LgE k x t n often (E ++ [e]) (some (.v (mE2 e))), cS s1) := (if_yes (t1.trans (by rw [decide_eq_true hc]))).trans a2
      refine ⟨e :: E', s2, y6, c1.cons_cons e, c2, ?_⟩
      rw [body]
      refine c3.trans ?_
      rw [List.append_assoc, List.singleton_append]
    · obtain ⟨E', s2, y6, c1, c2, c3⟩ := lgd_loop k x t n often Z hs1 E (some (.v (mE2 e))) (by omega)
      have body : l__law_league_1 (K := K) (sa := sa) (ns := ns) (tb := tb) G (cS s) = some (.nx, G, cS s1) := (if_no (t1.trans (by rw [decide_eq_false hc]))).trans rfl
      refine ⟨E', s2, y6, c1.cons e, c2, ?_⟩
      rw [body]
      exact c3
theorem leagueD_ok {k : Nat} {s : List Cell} (h : StD s k) : ∃ (l : Lg) (s' : List Cell), l.Ok ∧ StD s' k ∧ m__law_league (K := K) (sa := sa) (ns := ns) (tb := tb) [.h k] (cS s) = some (.ok (.v l.d), cS s') := by
  let G (x1 x2 x3 x4 x5 : Option R) : Ev := [some (.h k), x1, x2, x3, x4, x5, none]
  obtain ⟨x, s1, hx, hs1, e1⟩ := takeDE (K := K) (sa := sa) (ns := ns) (tb := tb) (Γ := G none none none none none) (j := 0) rfl h (g := gC (.int 10007)) (m := 10007) rfl (by decide)
  let A : Option R := some (.v (.int (x : Nat)))
  have t1 : sSet (Y := ClY K sa ns tb) 1 (Td 0 (gC (.int 10007))) (G none none none none none) (cS s) = some (.nx, G A none none none none, cS s1) := set_v (i := 1) e1
  obtain ⟨q, hq, hq2⟩ := fm_nat ((x : Nat) : Int) (m := 2) (by decide)
  let t : Bool := decide (q = 1)
  have t2 : sSet (Y := ClY K sa ns tb) 2 (gBin fIx (gLst (gK (gEsc (gC (.str (PySem.Str.ofString "plain")))) (gK (gEsc (gC (.str (PySem.Str.ofString "ties")))) gN))) (gBin fMod (gV 1) (gC (.int 2)))) (G A none none none none) (cS s1) = some (.nx, G A (some (.v (.str (kindS t)))) none none none, cS s1) := by
    have z1 : gBin (Y := ClY K sa ns tb) fMod (gV 1) (gC (.int 2)) (G A none none none none) (cS s1) = some (.ok (.v (.int (q : Nat))), G A none none none none, cS s1) := by
      have := m_mod (K := K) (sa := sa) (ns := ns) (tb := tb) (Γ := G A none none none none) (s := s1) (ga := gV 1) (a := (x : Nat)) (m := 2) rfl (by decide)
      rw [hq] at this; exact this
    refine set_v (i := 2) (bin_of (f := fIx) (ra := .o (.list [.str (kindS false), .str (kindS true)])) (z := .old (.str (kindS t))) rfl z1 rfl rfl ?_)
    have : q = 0 ∨ q = 1 := by omega
    rcases this with rfl | rfl <;> rfl
  let B : Option R := some (.v (.str (kindS t)))
  obtain ⟨a, ha, ha2⟩ := fm_nat (((x : Nat) : Int).fdiv 2) (m := 5) (by decide)
  obtain ⟨b, hb, hb2⟩ := fm_nat (((x : Nat) : Int).fdiv 2) (m := 4) (by decide)
  have g3 : gLst (Y := ClY K sa ns tb) (gK (gEsc (gBin fAdd (gC (.int 2)) (gBin fMod (gBin fDiv (gV 1) (gC (.int 2))) (gC (.int 5))))) (gK (gEsc (gC (.int 6))) (gK (gEsc (gBin fAdd (gC (.int 3)) (gBin fMod (gBin fDiv (gV 1) (gC (.int 2))) (gC (.int 4))))) gN))) (G A B none none none) (cS s1) = some (.ok (.o (.list ([2 + a, 6, 3 + b].map fun (m : Nat) => PyData.int (m : Int)))), G A B none none none, cS s1) := by
    have d1 := m_mod (m := 5) (m_div (K := K) (sa := sa) (ns := ns) (tb := tb) (Γ := G A B none none none) (s := s1) (ga := gV 1) (a := (x : Nat)) (m := 2) rfl (by decide) (by decide)) (by decide)
    have d2 := m_mod (m := 4) (m_div (K := K) (sa := sa) (ns := ns) (tb := tb) (Γ := G A B none none none) (s := s1) (ga := gV 1) (a := (x : Nat)) (m := 2) rfl (by decide) (by decide)) (by decide)
    rw [ha] at d1
    rw [hb] at d2
    have z1 := m_add (m_c (K := K) (sa := sa) (ns := ns) (tb := tb) (G A B none none none) s1 2) d1
    have z2 := m_add (m_c (K := K) (sa := sa) (ns := ns) (tb := tb) (G A B none none none) s1 3) d2
    unfold gLst
    rw [bd_ok (gk_ok (esc_v z1) (gk_ok (esc_v (d := .int 6) rfl) (gk_ok (esc_v z2) rfl)))]
    show some (Oc.ok (R.o (PyData.list [.int (2 + ((a : Nat) : Int)), .int 6, .int (3 + ((b : Nat) : Int))])), G A B none none none, cS s1) = some (Oc.ok (R.o (PyData.list [.int ((2 + a : Nat) : Int), .int 6, .int ((3 + b : Nat) : Int)])), G A B none none none, cS s1)
    rw [show (2 + ((a : Nat) : Int)) = ((2 + a : Nat) : Int) by omega, show (3 + ((b : Nat) : Int)) = ((3 + b : Nat) : Int) by omega]
  obtain ⟨c, n, s2, hc, hs2, e3⟩ := pickDE (K := K) (sa := sa) (ns := ns) (tb := tb) (j := 0) (k := k) (s := s1) (s1 := s1) (Γ := G A B none none none) (Γ1 := G A B none none none) rfl hs1 (g := gC (.int 3)) (L := [2 + a, 6, 3 + b]) (f := fun (m : Nat) => PyData.int (m : Int)) g3 rfl rfl (by simp)
  have hn : 2 ≤ n ∧ n ≤ 6 := by
    have := List.mem_of_getElem? hc
    simp only [List.mem_cons, List.not_mem_nil, or_false] at this
    omega
  let C : Option R := some (.v (.int (n : Nat)))
  have t3 := set_v (i := 3) e3
  obtain ⟨c4, often, s3, hc4, hs3, e4⟩ := pickDE (K := K) (sa := sa) (ns := ns) (tb := tb) (j := 0) (k := k) (s := s2) (s1 := s2) (Γ := G A B C none none) (Γ1 := G A B C none none) rfl hs2 (g := gC (.int 4)) (ga := gLst (gK (gEsc (gC (.int 0))) (gK (gEsc (gC (.int 2))) (gK (gEsc (gC (.int 5))) (gK (gEsc (gC (.int 8))) gN))))) (L := [0, 2, 5, 8]) (f := fun (m : Nat) => PyData.int (m : Int)) (r := .o (.list ([0, 2, 5, 8].map fun (m : Nat) => PyData.int (m : Int)))) rfl rfl rfl (by decide)
  have t4 := set_v (i := 4) e4
  have t5 : sSet (Y := ClY K sa ns tb) 5 (gLst gN) (G A B C (some (.v (.int (often : Nat)))) none) (cS s3) = some (.nx, LgE k (x : Nat) t n often [] none, cS s3) := rfl
  obtain ⟨l0ok, l0es, l0d⟩ := lg_sub (t := t) hn.1 hn.2 (E := []) (by simp) (by simp)
  let l0 := lgOf t n []
  obtain ⟨Z, s4, hZ, hs4, e5⟩ := drawn_ok (K := K) (sa := sa) (ns := ns) (tb := tb) l0ok hs3
  have it : gItL (Y := ClY K sa ns tb) (gBin fIx (gFn 2 m__law_drawn_end (gK (gEsc (gV 0)) (gK (gEsc (FX.gTup (gK (gEsc (gV 2)) (gK (gEsc (gV 3)) (gK (gEsc (gLst gN)) gN))))) gN))) (gC (.int 2))) (LgE k (x : Nat) t n often [] none) (cS s3) = some (.ok (Z.map mE2), LgE k (x : Nat) t n often [] none, cS s4) := by
    have a1 : FX.gTup (Y := ClY K sa ns tb) (gK (gEsc (gV 2)) (gK (gEsc (gV 3)) (gK (gEsc (gLst gN)) gN))) (LgE k (x : Nat) t n often [] none) (cS s3) = some (.ok (.v l0.d), LgE k (x : Nat) t n often [] none, cS s3) := by
      show _ = some (Oc.ok (R.v (lgOf t n []).d), _, _)
      rw [l0d]
      rfl
    have a0 : gEsc (Y := ClY K sa ns tb) (gV 0) (LgE k (x : Nat) t n often [] none) (cS s3) = some (.ok (.h k), LgE k (x : Nat) t n often [] none, cS s3) := esc_h rfl
    have a2 := fn_v (n := 2) (m := m__law_drawn_end) (gk_ok a0 (gk_ok (gr := gN) (esc_v a1) rfl)) rfl e5
    exact itL_v (bin_of (f := fIx) (gb := gC (.int 2)) (rb := .v (.int 2)) (z := .old (.list (Z.map mE2))) a2 rfl rfl rfl rfl)
  obtain ⟨E', s5, y6, hE, hs5, e6⟩ := lgd_loop (K := K) (sa := sa) (ns := ns) (tb := tb) k (x : Nat) t n often Z hs4 [] none (by have := hZ.len l0ok; simp; omega)
  have t6 : sFor (Y := ClY K sa ns tb) (.n 6) (gItL (gBin fIx (gFn 2 m__law_drawn_end (gK (gEsc (gV 0)) (gK (gEsc (FX.gTup (gK (gEsc (gV 2)) (gK (gEsc (gV 3)) (gK (gEsc (gLst gN)) gN))))) gN))) (gC (.int 2)))) l__law_league_1 (LgE k (x : Nat) t n often [] none) (cS s3) = some (.nx, LgE k (x : Nat) t n often E' y6, cS s5) := (for_run it).trans e6
  obtain ⟨ok, es, ed⟩ := hZ.sub l0ok hE
  refine ⟨lgOf t n E', s5, ok, hs5, ?_⟩
  rw [q__law_league]
  refine fin_of ?_
  unfold b__law_league
  have t7 : sRet (Y := ClY K sa ns tb) (FX.gTup (gK (gEsc (gV 2)) (gK (gEsc (gV 3)) (gK (gEsc (gV 5)) gN)))) (LgE k (x : Nat) t n often E' y6) (cS s5) = some (.rt (.v (lgOf t n E').d), LgE2 k (x : Nat) t n often E' y6, cS s5) := by
    show _ = some (Fl.rt (R.v (lgOf l0.t l0.n E').d), LgE2 k (x : Nat) t n often E' y6, cS s5)
    rw [ed]
    rfl
  exact congrArg fin (nx_seq t1 (nx_seq t2 (nx_seq t3 (nx_seq t4 (nx_seq t5 (nx_seq t6 t7))))))
end
end FX.Pg
set_option Elab.async false
set_option linter.all false
set_option maxRecDepth 100000
namespace FX.Pg
open PySem PySem.Spec L2 FX
section
variable {K : PySem.W.Frag} {sa : Addr} {ns : List Int} {tb : List (Addr × Str)}
def SmE (k : Nat) (l : Lg) (Z : List Ent) (x6 x7 : Option R) : Ev := [some (.h k), some (.v l.d), some (.v (.str (kindS l.t))), some (.v (.int (l.n : Nat))), some (.v (.list (l.es.map mE2))), some (.v (.list (Z.map mE2))), x6, x7, none]
theorem small_while (k : Nat) (l : Lg) (Z : List Ent) (q : Nat) : ∀ (f : Nat) {s : List Cell} (h : StD s k) (X : List Ent), X.length < f → X.length ≤ 1000 →
    ∃ (X' : List Ent) (s' : List Cell), X'.length ≤ q ∧ StD s' k ∧ whileG (t__law_small_5 (K := K) (sa := sa) (ns := ns) (tb := tb)) l__law_small_6 f (SmE k l Z (some (.o (.list (X.map mE2)))) (some (.v (.int (q : Nat))))) (cS s) = some (.nx, SmE k l Z (some (.o (.list (X'.map mE2)))) (some (.v (.int (q : Nat)))), cS s')
  | 0, _, _, X, h, _ => absurd h (by omega)
  | f + 1, s, h, X, hf, hz => by
    let G (X : List Ent) : Ev := SmE k l Z (some (.o (.list (X.map mE2)))) (some (.v (.int (q : Nat))))
    have tst : t__law_small_5 (K := K) (sa := sa) (ns := ns) (tb := tb) (G X) (cS s) = some (.ok (decide (q < X.length)), G X, cS s) := by
      refine tst_of (bin_of (f := fGt) (gb := gV 7) (rb := .v (.int (q : Nat))) (z := .nw (.bool (decide (q < X.length)))) (lenE (L := X) (f := mE2) (.inl rfl)) rfl rfl rfl ?_)
      simp [fGt]
    by_cases hc : q < X.length
    · obtain ⟨x, e, s1, hx, hs1, e1⟩ := popDE (K := K) (sa := sa) (ns := ns) (tb := tb) (Γ := G X) (i := 6) (j := 0) rfl h (L := X) (f := mE2) rfl (by omega) hz
      have xl := (List.getElem?_eq_some_iff.mp hx).1
      have el : (X.eraseIdx x).length + 1 = X.length := by rw [List.length_eraseIdx_of_lt xl]; omega
      obtain ⟨X', s2, c1, c2, c3⟩ := small_while k l Z q f hs1 (X.eraseIdx x) (by omega) (by omega)
      refine ⟨X', s2, c1, c2, ?_⟩
      have body : l__law_small_6 (K := K) (sa := sa) (ns := ns) (tb := tb) (G X) (cS s) = some (.nx, G (X.eraseIdx x), cS s1) := drop_ok e1
      unfold whileG
      rw [tst, decide_eq_true hc]
      simp only [body]
      exact c3
    · refine ⟨X, s, by omega, h, ?_⟩
      unfold whileG
      rw [tst, decide_eq_false hc]
theorem small_ok {l : Lg} (hl : l.Ok) {k : Nat} {s : List Cell} (h : StD s k) : ∃ (f : Lg) (s' : List Cell), f.Ok ∧ f.t = l.t ∧ f.n = l.n ∧ f.left.length ≤ 5 ∧ StD s' k ∧
    m__law_small (K := K) (sa := sa) (ns := ns) (tb := tb) [.h k, .v l.d] (cS s) = some (.ok (.v f.d), cS s') := by
  obtain ⟨Z, s1, hZ, hs1, e1⟩ := drawn_ok (K := K) (sa := sa) (ns := ns) (tb := tb) hl h
  have hz := hZ.len hl
  let I : Ev := [some (.h k), some (.v l.d), none, none, none, none, none, none, none]
  let I1 (x5 : Option R) : Ev := [some (.h k), some (.v l.d), some (.v (.str (kindS l.t))), some (.v (.int (l.n : Nat))), some (.v (.list (l.es.map mE2))), x5, none, none, none]
  have t1 : sUnp (Y := ClY K sa ns tb) (.cons (.n 2) (.cons (.n 3) (.cons (.n 4) .nil))) (gV 1) I (cS s) = some (.nx, I1 none, cS s) := by
    have hpl : l.pl = l.es.map mE2 := l.pl_es
    have r : sUnp (Y := ClY K sa ns tb) (.cons (.n 2) (.cons (.n 3) (.cons (.n 4) .nil))) (gV 1) I (cS s) = some (.nx, ([some (.h k), some (.v l.d), some (.v (.str (kindS l.t))), some (.v (.int (l.n : Nat))), some (.v (.list l.pl)), none, none, none, none] : Ev), cS s) := rfl
    rw [r, hpl]
  have a0 : gEsc (Y := ClY K sa ns tb) (gV 0) (I1 none) (cS s) = some (.ok (.h k), I1 none, cS s) := esc_h rfl
  have a2 := fn_v (n := 2) (m := m__law_drawn_end) (gk_ok a0 (gk_ok (ga := gEsc (gV 1)) (gr := gN) (esc_v (d := l.d) rfl) rfl)) rfl e1
  have t2 : sSet (Y := ClY K sa ns tb) 5 (gBin fIx (gFn 2 m__law_drawn_end (gK (gEsc (gV 0)) (gK (gEsc (gV 1)) gN))) (gC (.int 2))) (I1 none) (cS s) = some (.nx, SmE k l Z none none, cS s1) :=
    set_v (i := 5) (bin_of (f := fIx) (gb := gC (.int 2)) (rb := .v (.int 2)) (z := .old (.list (Z.map mE2))) a2 rfl rfl rfl rfl)
  have it1 : gItL (Y := ClY K sa ns tb) (gV 5) (SmE k l Z none none) (cS s1) = some (.ok (Z.map mE2), SmE k l Z none none, cS s1) := rfl
  have c1 := gComp_flt (Y := ClY K sa ns tb) (T := .n 8) (own := [8]) (gt := t__law_small_4) (ge := e__law_small_3) mE2 (fun e => !decide (e ∈ l.es)) it1 (by omega) (fun e he => by
    let G : Ev := [some (.h k), some (.v l.d), some (.v (.str (kindS l.t))), some (.v (.int (l.n : Nat))), some (.v (.list (l.es.map mE2))), some (.v (.list (Z.map mE2))), none, none, some (.v (mE2 e))]
    exact ⟨G, G, rfl, tst_of (bin_of (f := fNotIn2) (ra := .v (mE2 e)) (rb := .v (.list (l.es.map mE2))) (z := .nw (.bool (!decide (e ∈ l.es)))) rfl rfl rfl rfl (nin_mE2 l.es (hZ.ne hl e he))), rfl, fun _ => ⟨G, rfl, rfl⟩⟩)
  let X : List Ent := Z.filter fun e => !decide (e ∈ l.es)
  have hX : X.length ≤ 15 := Nat.le_trans (List.length_filter_le _ _) hz
  have t3 : sSet (Y := ClY K sa ns tb) 6 (gComp (.n 8) [8] (gItL (gV 5)) t__law_small_4 e__law_small_3) (SmE k l Z none none) (cS s1) = some (.nx, SmE k l Z (some (.o (.list (X.map mE2)))) none, cS s1) := set_o (i := 6) c1
  obtain ⟨q, s2, hq, hs2, e4⟩ := takeDE (K := K) (sa := sa) (ns := ns) (tb := tb) (Γ := SmE k l Z (some (.o (.list (X.map mE2)))) none) (j := 0) rfl hs1 (g := gC (.int 6)) (m := 6) rfl (by decide)
  have t4 : sSet (Y := ClY K sa ns tb) 7 (Td 0 (gC (.int 6))) (SmE k l Z (some (.o (.list (X.map mE2)))) none) (cS s1) = some (.nx, SmE k l Z (some (.o (.list (X.map mE2)))) (some (.v (.int (q : Nat)))), cS s2) := set_v (i := 7) e4
  obtain ⟨X', s3, hX', hs3, t5⟩ := small_while (K := K) (sa := sa) (ns := ns) (tb := tb) k l Z q 1000 hs2 X (by omega) (by omega)
  let G3 : Ev := SmE k l Z (some (.o (.list (X'.map mE2)))) (some (.v (.int (q : Nat))))
  have it2 : gItL (Y := ClY K sa ns tb) (gV 5) G3 (cS s3) = some (.ok (Z.map mE2), G3, cS s3) := rfl
  have c2 := gComp_flt (Y := ClY K sa ns tb) (T := .n 8) (own := [8]) (gt := t__law_small_8) (ge := e__law_small_7) mE2 (fun e => !decide (e ∈ X')) it2 (by omega) (fun e he => by
    let G : Ev := [some (.h k), some (.v l.d), some (.v (.str (kindS l.t))), some (.v (.int (l.n : Nat))), some (.v (.list (l.es.map mE2))), some (.v (.list (Z.map mE2))), some (.o (.list (X'.map mE2))), some (.v (.int (q : Nat))), some (.v (mE2 e))]
    exact ⟨G, G, rfl, tst_of (bin_of (f := fNotIn2) (ra := .v (mE2 e)) (rb := .b 6) (d := mE2 e) (e := .list (X'.map mE2)) (z := .nw (.bool (!decide (e ∈ X')))) rfl rfl rfl rfl (nin_mE2 X' (hZ.ne hl e he))), rfl, fun _ => ⟨G, rfl, rfl⟩⟩)
  let E : List Ent := Z.filter fun e => !decide (e ∈ X')
  obtain ⟨ok, es, ed⟩ := hZ.sub hl (E := E) List.filter_sublist
  have few : (lgOf l.t l.n E).left.length ≤ 5 := by
    have h1 := left_es (pairsI l.n) (lgOf l.t l.n E).v ok.len
    have h2 : (ents (pairsI l.n) (lgOf l.t l.n E).v).length = E.length := congrArg List.length es
    have h3 : Z.length = (pairsI l.n).length := by rw [← hZ.keys, List.length_map]
    have nd : Z.Nodup := nd_of_map (f := fun e : Ent => e.1) (by rw [hZ.keys]; exact pairs_nodup hl.h2 hl.h6)
    have h4 : (Z.filter fun e => decide (e ∈ X')).length ≤ X'.length := (nd.sublist List.filter_sublist).length_le_of_subset fun e he => of_decide_eq_true (List.mem_filter.mp he).2
    have h5 : (Z.filter fun e => decide (e ∈ X')).length + E.length = Z.length := by
      have : ∀ L : List Ent, (L.filter fun e => decide (e ∈ X')).length + (L.filter fun e => !decide (e ∈ X')).length = L.length := by
        intro L
        induction L with
        | nil => rfl
        | cons a L ih =>
          by_cases hm : a ∈ X'
          · simp [List.filter_cons, hm] at ih ⊢; omega
          · simp [List.filter_cons, hm] at ih ⊢; omega
      exact this Z
    show (leftP (pairsI l.n) (lgOf l.t l.n E).v).length ≤ 5
    omega
  refine ⟨lgOf l.t l.n E, s3, ok, rfl, rfl, few, hs3, ?_⟩
  have t6 : sRet (Y := ClY K sa ns tb) (FX.gTup (gK (gEsc (gV 2)) (gK (gEsc (gV 3)) (gK (gEsc (gComp (.n 8) [8] (gItL (gV 5)) t__law_small_8 e__law_small_7)) gN)))) G3 (cS s3) = some (.rt (.v (lgOf l.t l.n E).d), G3, cS s3) := by
    rw [ed]
    exact ret_v (tup_ok (gk_ok (esc_v (d := .str (kindS l.t)) rfl) (gk_ok (esc_v (d := .int (l.n : Nat)) rfl) (gk_ok (gr := gN) (esc_o c2) rfl))) rfl (by simp))
  rw [q__law_small]
  refine fin_of ?_
  unfold b__law_small
  exact congrArg fin (nx_seq t1 (nx_seq t2 (nx_seq t3 (nx_seq t4 (nx_seq t5 t6)))))
end
end FX.Pg
set_option Elab.async false
set_option linter.all false
set_option maxRecDepth 100000
namespace FX.Pg
open PySem PySem.Spec L2 FX
end FX.Pg
set_option Elab.async false
set_option linter.all false
set_option maxRecDepth 100000
namespace FX.Pg
open PySem PySem.Spec L2 FX
section
variable {Y : Sys}
theorem outc_eq (t : Bool) (i j : Int) (s : Y.S) : m_outcomes_in_order [.v (.str (kindS t)), .v (.int i), .v (.int j)] s = some (.ok (.o (.list ((outs t).map fun o => o.d i j))), s) := by
  rw [q_outcomes_in_order]
  refine fin_of ?_
  unfold b_outcomes_in_order
  let Γ : Ev := [some (.v (.str (kindS t))), some (.v (.int i)), some (.v (.int j)), none]
  have it : gItT (Y := Y) (FX.gTup (gK (gEsc (gV 1)) (gK (gEsc (gC .none)) (gK (gEsc (gV 2)) gN)))) Γ s = some (.ok ([O3.a, .t, .b].map fun o => o.d i j), Γ, s) := rfl
  have c := gComp_flt (Y := Y) (T := .n 3) (own := [3]) (gt := t_outcomes_in_order_2) (ge := e_outcomes_in_order_1) (fun o : O3 => o.d i j) (fun o => isOutcome (kindS t) i j (o.d i j)) it (by simp) (fun o _ => by
    refine ⟨Γ.set 3 (some (.v (o.d i j))), Γ.set 3 (some (.v (o.d i j))), rfl, ?_, rfl, fun _ => ⟨Γ.set 3 (some (.v (o.d i j))), esc_v rfl, rfl⟩⟩
    refine tst_of (fn_v (gk_ok (esc_v (d := .str (kindS t)) rfl) (gk_ok (esc_v (d := .int i) rfl) (gk_ok (esc_v (d := .int j) rfl) (gk_ok (esc_v (d := o.d i j) rfl) rfl)))) rfl (outcome_eq _ (kindS_sh t) i j _ s)))
  have ef : [O3.a, .t, .b].filter (fun o => isOutcome (kindS t) i j (o.d i j)) = outs t := by
    have h1 : isOutcome (kindS t) i j (O3.a.d i j) = true := by simp [isOutcome, O3.d]
    have h2 : isOutcome (kindS t) i j (O3.b.d i j) = true := by simp [isOutcome, O3.d]
    have h3 : isOutcome (kindS t) i j (O3.t.d i j) = t := by
      show decide (kindS t = Str.ofString "ties") = t
      cases t <;> decide +kernel
    simp only [List.filter_cons, h1, h2, h3, List.filter_nil]
    cases t <;> rfl
  rw [ef] at c
  show fin (sRet _ Γ s) = _
  rw [ret_o c]
  rfl
end
end FX.Pg
set_option Elab.async false
set_option linter.all false
set_option maxRecDepth 100000
namespace FX.Pg
open PySem PySem.Spec L2 FX
def keyH (h : List Int) : List Key := h.map Sum.inl
def hd (h : List Int) : D := .tuple (h.map PyData.int)
def FD (Hs : List (List Int)) : D := .dict (tbD (Hs.map keyH))
def insU (acc : List (List Int)) (x : List Int) : List (List Int) := if x ∈ acc then acc else acc ++ [x]
def nextA (t : Bool) (p : Int × Int) (acc : List (List Int)) (h : List Int) : List (List Int) := (outs t).foldl (fun a o => insU a (stepH t h p o)) acc
def next (t : Bool) (p : Int × Int) (Hs : List (List Int)) : List (List Int) := Hs.foldl (nextA t p) []
def reachF (t : Bool) (ps : List (Int × Int)) (Hs : List (List Int)) : List (List Int) := ps.foldl (fun H p => next t p H) Hs
theorem keyH_inj {a b : List Int} : keyH a = keyH b ↔ a = b := by
  unfold keyH
  refine ⟨fun h => ?_, fun h => by rw [h]⟩
  exact (List.map_inj_right fun x y z => by cases z; rfl).mp h
theorem keyT_H (h : List Int) : keyT (keyH h) = hd h := by
  unfold keyT keyH hd
  rw [List.map_map]
  rfl
theorem tkeys_H (h : List Int) : tkeys? (h.map PyData.int) = some (keyH h) := by
  have := tkeys_d (keyH h)
  unfold keyH at this
  rw [List.map_map] at this
  exact this
theorem put_tb (acc : List (List Int)) (x : List Int) : dPut (tbD (acc.map keyH)) (keyH x) (.bool true) = tbD ((insU acc x).map keyH) := by
  have e1 : (tbD (acc.map keyH)).any (fun kv => isKey (keyH x) kv.1) = decide (x ∈ acc) := by
    unfold tbD
    rw [List.any_map, List.any_map]
    induction acc with
    | nil => simp
    | cons a acc ih =>
      rw [List.any_cons, ih]
      show (isKey (keyH x) (keyT (keyH a)) || decide (x ∈ acc)) = _
      rw [isKey_T]
      by_cases h : a = x
      · simp [h]
      · have : keyH a ≠ keyH x := fun z => h (keyH_inj.mp z)
        simp [this, Ne.symm h]
  unfold dPut insU
  rw [e1]
  by_cases h : x ∈ acc
  · rw [if_pos (by simpa using h), if_pos h]
    unfold tbD
    rw [List.map_map]
    refine List.map_congr_left fun k _ => ?_
    show (if isKey (keyH x) (keyT k) = true then (keyT k, PyData.bool true) else (keyT k, PyData.bool true)) = (keyT k, PyData.bool true)
    split <;> rfl
  · rw [if_neg (by simpa using h), if_neg h]
    unfold tbD
    rw [List.map_append, List.map_append]
    rfl
theorem tbB_FD {Hs : List (List Int)} (h : 0 < Hs.length) : tbB (tbD (Hs.map keyH)) = true := by
  unfold tbB tbD
  rw [Bool.and_eq_true]
  constructor
  · cases Hs with
    | nil => simp at h
    | cons a Hs => rfl
  · rw [List.all_map, List.all_eq_true]
    intro k _
    rfl
theorem FD_keys (Hs : List (List Int)) : (tbD (Hs.map keyH)).map (·.1) = Hs.map hd := by
  rw [tbD_keys, List.map_map]
  exact List.map_congr_left fun h _ => keyT_H h
theorem FD_len (Hs : List (List Int)) : (tbD (Hs.map keyH)).length = Hs.length := by simp [tbD]
theorem ins_len (acc : List (List Int)) (x : List Int) : (insU acc x).length ≤ acc.length + 1 ∧ acc.length ≤ (insU acc x).length ∧ 0 < (insU acc x).length := by
  unfold insU
  split
  · rename_i h
    exact ⟨by omega, by omega, List.length_pos_of_mem h⟩
  · simp
theorem ins_mem {acc : List (List Int)} {x y : List Int} : y ∈ insU acc x ↔ y ∈ acc ∨ y = x := by
  unfold insU
  split
  · rename_i h
    constructor
    · exact .inl
    · rintro (h1 | rfl)
      · exact h1
      · exact h
  · simp
theorem ins_nd {acc : List (List Int)} {x : List Int} (h : acc.Nodup) : (insU acc x).Nodup := by
  unfold insU
  split
  · exact h
  · rename_i hx
    exact List.nodup_append.mpr ⟨h, List.nodup_cons.mpr ⟨by simp, .nil⟩, fun a ha b hb => by rw [List.mem_singleton.mp hb]; rintro rfl; exact hx ha⟩
theorem fold_ins {α : Type} (f : α → List Int) : ∀ (L : List α) (acc : List (List Int)), (L.foldl (fun a o => insU a (f o)) acc).length ≤ acc.length + L.length ∧ acc.length ≤ (L.foldl (fun a o => insU a (f o)) acc).length ∧ (∀ y, y ∈ L.foldl (fun a o => insU a (f o)) acc ↔ y ∈ acc ∨ ∃ o ∈ L, y = f o) ∧ (acc.Nodup → (L.foldl (fun a o => insU a (f o)) acc).Nodup)
  | [], acc => ⟨by simp, by simp, by simp, fun h => h⟩
  | o :: L, acc => by
    obtain ⟨a, b, c, d⟩ := fold_ins f L (insU acc (f o))
    obtain ⟨e1, e2, _⟩ := ins_len acc (f o)
    refine ⟨by simp only [List.foldl_cons, List.length_cons]; omega, by simp only [List.foldl_cons]; omega, fun y => ?_, fun h => d (ins_nd h)⟩
    simp only [List.foldl_cons]
    rw [c, ins_mem]
    simp only [List.mem_cons, exists_eq_or_imp]
    rw [or_assoc]
theorem nextA_ok (t : Bool) (p : Int × Int) (acc : List (List Int)) (h : List Int) : (nextA t p acc h).length ≤ acc.length + 3 ∧ acc.length ≤ (nextA t p acc h).length ∧ (∀ y, y ∈ nextA t p acc h ↔ y ∈ acc ∨ ∃ o ∈ outs t, y = stepH t h p o) ∧ (acc.Nodup → (nextA t p acc h).Nodup) := by
  obtain ⟨a, b, c, d⟩ := fold_ins (fun o => stepH t h p o) (outs t) acc
  have := (outs_len t).2
  exact ⟨Nat.le_trans a (by omega), b, c, d⟩
theorem foldA_ok (t : Bool) (p : Int × Int) : ∀ (Hs acc : List (List Int)), (Hs.foldl (nextA t p) acc).length ≤ acc.length + 3 * Hs.length ∧ acc.length ≤ (Hs.foldl (nextA t p) acc).length ∧ (∀ y, y ∈ Hs.foldl (nextA t p) acc ↔ y ∈ acc ∨ ∃ h ∈ Hs, ∃ o ∈ outs t, y = stepH t h p o) ∧ (acc.Nodup → (Hs.foldl (nextA t p) acc).Nodup)
  | [], acc => ⟨by simp, by simp, by simp, fun h => h⟩
  | h :: Hs, acc => by
    obtain ⟨a, b, c, d⟩ := foldA_ok t p Hs (nextA t p acc h)
    obtain ⟨a1, b1, c1, d1⟩ := nextA_ok t p acc h
    refine ⟨by simp only [List.foldl_cons, List.length_cons]; omega, by simp only [List.foldl_cons]; omega, fun y => ?_, fun n => d (d1 n)⟩
    simp only [List.foldl_cons]
    rw [c, c1]
    simp only [List.mem_cons, exists_eq_or_imp]
    rw [or_assoc]
theorem next_mem {t : Bool} {p : Int × Int} {Hs : List (List Int)} {y : List Int} : y ∈ next t p Hs ↔ ∃ h ∈ Hs, ∃ o ∈ outs t, y = stepH t h p o := by
  have := (foldA_ok t p Hs []).2.2.1 y
  simpa [next] using this
theorem next_pos {t : Bool} {p : Int × Int} {Hs : List (List Int)} (h : 0 < Hs.length) : 0 < (next t p Hs).length := by
  obtain ⟨a, ha⟩ := List.exists_mem_of_length_pos h
  obtain ⟨o, ho⟩ := List.exists_mem_of_length_pos (show 0 < (outs t).length by have := (outs_len t).1; omega)
  exact List.length_pos_of_mem (next_mem.mpr ⟨a, ha, o, ho, rfl⟩)
section
variable {Y : Sys}
def PaE (t : Bool) (Hs : List (List Int)) (p : Int × Int) (x5 x7 x8 : Option R) : Ev := [some (.v (.str (kindS t))), some (.v (FD Hs)), some (.v (prD p)), some (.v (.int p.1)), some (.v (.int p.2)), x5, none, x7, x8]
def shL (t : Bool) : List D := (outs t).map fun o => .tuple [.int (sh2 t o).1, .int (sh2 t o).2]
theorem after_in (t : Bool) (Hs : List (List Int)) (p : Int × Int) (h : List Int) (h0 : 0 ≤ p.1) (h1 : p.1 < p.2) (h2 : p.2 < (h.length : Nat)) (s : Y.S) : ∀ (L : List O3) (acc : List (List Int)) (x8 : Option R), acc.length + L.length ≤ 1000000 →
    ∃ y8, dcG1 (.n 8) [8] (e__points_after_3 (Y := Y)) (L.map fun o => PyData.tuple [.int (sh2 t o).1, .int (sh2 t o).2]) (tbD (acc.map keyH)) (PaE t Hs p (some (.v (.list (shL t)))) (some (.v (hd h))) x8) s
      = some (tbD ((L.foldl (fun a o => insU a (stepH t h p o)) acc).map keyH), PaE t Hs p (some (.v (.list (shL t)))) (some (.v (hd h))) y8, s)
  | [], acc, x8, _ => ⟨x8, rfl⟩
  | o :: L, acc, x8, hz => by
    simp only [List.length_cons] at hz
    let G : Ev := PaE t Hs p (some (.v (.list (shL t)))) (some (.v (hd h))) (some (.v (.tuple [.int (sh2 t o).1, .int (sh2 t o).2])))
    obtain ⟨y8, e⟩ := after_in t Hs p h h0 h1 h2 s L (insU acc (stepH t h p o)) (some (.v (.tuple [.int (sh2 t o).1, .int (sh2 t o).2]))) (by have := (ins_len acc (stepH t h p o)).1; omega)
    refine ⟨y8, ?_⟩
    have k1 : e__points_after_3 (Y := Y) G s = some (.ok (.v (.tuple ((stepH t h p o).map PyData.int))), G, s) :=
      fn_v (gk_ok (esc_v (d := hd h) rfl) (gk_ok (esc_v (d := .int p.1) rfl) (gk_ok (esc_v (d := .int p.2) rfl) (gk_ok (gr := gN) (esc_v (d := .tuple [.int (sh2 t o).1, .int (sh2 t o).2]) rfl) rfl)))) rfl (behind_eq h p.1 p.2 (sh2 t o).1 (sh2 t o).2 h0 (by omega) (by omega) h2 s)
    have hb : bindT (.n 8) (.tuple [.int (sh2 t o).1, .int (sh2 t o).2]) (wipeE (PaE t Hs p (some (.v (.list (shL t)))) (some (.v (hd h))) x8) [8]) = some G := rfl
    have hz2 : sizeOk (tbD (acc.map keyH)).length = true := by rw [FD_len]; simp [sizeOk]; omega
    rw [List.map_cons, List.foldl_cons]
    unfold dcG1
    simp only [hb, k1, tkeys_H, hz2, if_true, put_tb]
    exact e
theorem after_out (t : Bool) (H0 : List (List Int)) (p : Int × Int) (h0 : 0 ≤ p.1) (h1 : p.1 < p.2) (s : Y.S) : ∀ (Hs acc : List (List Int)) (x5 x7 x8 : Option R), (x5 = some (.o (.list (shL t))) ∨ x5 = some (.v (.list (shL t)))) → (∀ h ∈ Hs, p.2 < (h.length : Nat)) → acc.length + 3 * Hs.length ≤ 1000000 →
    ∃ Γ', dcG0 (.n 7) [7, 8] (.n 8) [8] (gItL (gV 5)) (e__points_after_3 (Y := Y)) (Hs.map hd) (tbD (acc.map keyH)) (PaE t H0 p x5 x7 x8) s = some (tbD ((Hs.foldl (nextA t p) acc).map keyH), Γ', s)
  | [], acc, x5, x7, x8, _, _, _ => ⟨_, rfl⟩
  | h :: Hs, acc, x5, x7, x8, hx, hp, hz => by
    simp only [List.length_cons] at hz
    let G (x5 : Option R) : Ev := PaE t H0 p x5 (some (.v (hd h))) none
    have hb : bindT (.n 7) (hd h) (wipeE (PaE t H0 p x5 x7 x8) [7, 8]) = some (G x5) := rfl
    have it : gItL (Y := Y) (gV 5) (G x5) s = some (.ok (shL t), G (some (.v (.list (shL t)))), s) := by
      rcases hx with rfl | rfl <;> rfl
    obtain ⟨y8, e1⟩ := after_in (Y := Y) t H0 p h h0 h1 (hp h (by simp)) s (outs t) acc none (by have := (outs_len t).2; omega)
    obtain ⟨Γ', e2⟩ := after_out t H0 p h0 h1 s Hs (nextA t p acc h) (some (.v (.list (shL t)))) (some (.v (hd h))) y8 (.inr rfl) (fun q hq => hp q (by simp [hq])) (by have := (nextA_ok t p acc h).1; omega)
    refine ⟨Γ', ?_⟩
    rw [List.map_cons, List.foldl_cons]
    unfold dcG0
    simp only [hb, it]
    have e1 : dcG1 (.n 8) [8] (e__points_after_3 (Y := Y)) (shL t) (tbD (acc.map keyH)) (G (some (.v (.list (shL t))))) s = some (tbD ((nextA t p acc h).map keyH), PaE t H0 p (some (.v (.list (shL t)))) (some (.v (hd h))) y8, s) := e1
    simp only [e1]
    exact e2
theorem after_eq (t : Bool) {Hs : List (List Int)} (hH : 0 < Hs.length) (hH2 : Hs.length ≤ 300000) (p : Int × Int) (h0 : 0 ≤ p.1) (h1 : p.1 < p.2) (h2 : ∀ h ∈ Hs, p.2 < (h.length : Nat)) (s : Y.S) :
    m__points_after [.v (.str (kindS t)), .v (FD Hs), .v (prD p)] s = some (.ok (.v (FD (next t p Hs))), s) := by
  rw [q__points_after]
  refine fin_of ?_
  let I : Ev := [some (.v (.str (kindS t))), some (.v (FD Hs)), some (.v (prD p)), none, none, none, none, none, none]
  have s1 : sUnp (Y := Y) (.cons (.n 3) (.cons (.n 4) .nil)) (gV 2) I s = some (.nx, PaE t Hs p none none none, s) := rfl
  have it : gItL (Y := Y) (gFn 3 m_outcomes_in_order (gK (gEsc (gV 0)) (gK (gEsc (gV 3)) (gK (gEsc (gV 4)) gN)))) (PaE t Hs p none none none) s = some (.ok ((outs t).map fun o => o.d p.1 p.2), PaE t Hs p none none none, s) :=
    itL_o (fn_o (gk_ok (esc_v (d := .str (kindS t)) rfl) (gk_ok (esc_v (d := .int p.1) rfl) (gk_ok (gr := gN) (esc_v (d := .int p.2) rfl) rfl))) rfl (outc_eq t p.1 p.2 s))
  have c1 := gComp_each (Y := Y) (T := .n 6) (own := [6]) (ge := e__points_after_2) (fun o : O3 => o.d p.1 p.2) (fun o => PyData.tuple [.int (sh2 t o).1, .int (sh2 t o).2]) it (by have := (outs_len t).2; omega) (fun o ho => by
    let G : Ev := [some (.v (.str (kindS t))), some (.v (FD Hs)), some (.v (prD p)), some (.v (.int p.1)), some (.v (.int p.2)), none, some (.v (o.d p.1 p.2)), none, none]
    refine ⟨G, rfl, G, ?_, rfl⟩
    exact esc_v (fn_v (gk_ok (esc_v (d := .str (kindS t)) rfl) (gk_ok (esc_v (d := .int p.1) rfl) (gk_ok (gr := gN) (esc_v (d := o.d p.1 p.2) rfl) rfl))) rfl (shares_eq t p.1 p.2 (by omega) o s)))
  have s2 : sSet (Y := Y) 5 (gComp (.n 6) [6] (gItL (gFn 3 m_outcomes_in_order (gK (gEsc (gV 0)) (gK (gEsc (gV 3)) (gK (gEsc (gV 4)) gN))))) gYes e__points_after_2) (PaE t Hs p none none none) s = some (.nx, PaE t Hs p (some (.o (.list (shL t)))) none none, s) := set_o (i := 5) c1
  let G : Ev := PaE t Hs p (some (.o (.list (shL t)))) none none
  have i1 : gItD (Y := Y) (gV 1) G s = some (.ok (Hs.map hd), G, s) := by
    unfold gItD
    rw [bd_ok (Y := Y) (a := .v (FD Hs)) (Γ' := G) (s' := s) rfl]
    show (if tbB (tbD (Hs.map keyH)) = true then some (Oc.ok ((tbD (Hs.map keyH)).map (·.1)), G, s) else none) = _
    rw [if_pos (tbB_FD hH), FD_keys]
  obtain ⟨Γ', e2⟩ := after_out (Y := Y) t Hs p h0 h1 s Hs [] (some (.o (.list (shL t)))) none none (.inl rfl) h2 (by simp; omega)
  have d1 : gDc2 (.n 7) [7, 8] (.n 8) [8] (gItD (gV 1)) (gItL (gV 5)) (e__points_after_3 (Y := Y)) G s = some (.ok (.o (FD (next t p Hs))), backE G Γ' [7, 8], s) := by
    unfold gDc2
    rw [bd_ok i1]
    have e2 : dcG0 (.n 7) [7, 8] (.n 8) [8] (gItL (gV 5)) (e__points_after_3 (Y := Y)) (Hs.map hd) [] G s = some (tbD ((next t p Hs).map keyH), Γ', s) := e2
    simp only [e2]
    rfl
  have d2 : gEscT (Y := Y) (gDc2 (.n 7) [7, 8] (.n 8) [8] (gItD (gV 1)) (gItL (gV 5)) e__points_after_3) G s = some (.ok (.v (FD (next t p Hs))), backE G Γ' [7, 8], s) := by
    unfold gEscT
    rw [bd_ok d1]
    show (if tbB (tbD ((next t p Hs).map keyH)) = true then _ else none) = _
    rw [if_pos (tbB_FD (next_pos hH))]
    rfl
  unfold b__points_after
  exact congrArg fin (nx_seq s1 (nx_seq s2 (ret_v d2)))
theorem first_pts {l : Lg} (hl : l.Ok) (s : Y.S) : m__points_at_first [.v l.d] s = some (.ok (.v (FD [l.pts])), s) := by
  rw [q__points_at_first]
  refine fin_of ?_
  let G : Ev := [some (.v l.d)]
  have a1 : gFn (Y := Y) 1 m_points_had (gK (gEsc (gV 0)) gN) G s = some (.ok (.o (.list (l.pts.map PyData.int))), G, s) := fn_o (gk_ok (gr := gN) (esc_v (d := l.d) rfl) rfl) rfl (points_had_eq hl s)
  have a2 : gCall (Y := Y) fTup (gK (gFn 1 m_points_had (gK (gEsc (gV 0)) gN)) gN) G s = some (.ok (.v (.tuple (l.pts.map PyData.int))), G, s) := call_ok (z := .nw (.tuple (l.pts.map PyData.int))) (gk_ok (gr := gN) a1 rfl) (ds := [.list (l.pts.map PyData.int)]) rfl rfl
  have a3 : gDispT (Y := Y) (gCall fTup (gK (gFn 1 m_points_had (gK (gEsc (gV 0)) gN)) gN)) G s = some (.ok (.o (FD [l.pts])), G, s) := by
    unfold gDispT
    rw [bd_ok a2]
    simp only [tkeys_H]
    rfl
  have a4 : gEscT (Y := Y) (gDispT (gCall fTup (gK (gFn 1 m_points_had (gK (gEsc (gV 0)) gN)) gN))) G s = some (.ok (.v (FD [l.pts])), G, s) := by
    unfold gEscT
    rw [bd_ok a3]
    show (if tbB (tbD ([l.pts].map keyH)) = true then _ else none) = _
    rw [if_pos (tbB_FD (by simp))]
    rfl
  unfold b__points_at_first
  exact congrArg fin (ret_v a4)
theorem next_hlen {t : Bool} {p : Int × Int} {Hs : List (List Int)} {n : Nat} (h : ∀ a ∈ Hs, a.length = n) : ∀ a ∈ next t p Hs, a.length = n := fun a ha => by
  obtain ⟨b, hb, o, _, rfl⟩ := next_mem.mp ha
  rw [stepH_len]
  exact h b hb
theorem count_loop {l : Lg} (hl : l.Ok) (s : Y.S) : ∀ (ps : List (Int × Int)) (Hs : List (List Int)) (x2 : Option R), (∀ p ∈ ps, 0 ≤ p.1 ∧ p.1 < p.2 ∧ p.2 < (l.n : Nat)) → 0 < Hs.length → (∀ h ∈ Hs, h.length = l.n) → (∀ a b, ps = a ++ b → (reachF l.t a Hs).length ≤ 300000) →
    ∃ y2, forG (.n 2) (l_count_points_1 (Y := Y)) (ps.map prD) [some (.v l.d), some (.v (FD Hs)), x2] s = some (.nx, [some (.v l.d), some (.v (FD (reachF l.t ps Hs))), y2], s)
  | [], Hs, x2, _, _, _, _ => ⟨x2, rfl⟩
  | p :: ps, Hs, x2, hp, h0, hn, hB => by
    have h1 := hp p (by simp)
    have ok : Hs.length ≤ 300000 := hB [] (p :: ps) rfl
    obtain ⟨y2, e⟩ := count_loop hl s ps (next l.t p Hs) (some (.v (prD p))) (fun q hq => hp q (by simp [hq])) (next_pos h0) (next_hlen hn) fun a b e => hB (p :: a) b (by rw [e]; rfl)
    refine ⟨y2, ?_⟩
    let G : Ev := [some (.v l.d), some (.v (FD Hs)), some (.v (prD p))]
    have body : l_count_points_1 (Y := Y) G s = some (.nx, [some (.v l.d), some (.v (FD (next l.t p Hs))), some (.v (prD p))], s) :=
      set_v (i := 1) (Γ' := G) (fn_v (gk_ok (esc_v (d := .str (kindS l.t)) rfl) (gk_ok (esc_v (d := FD Hs) rfl) (gk_ok (gr := gN) (esc_v (d := prD p) rfl) rfl))) rfl (after_eq l.t h0 ok p h1.1 h1.2.1 (fun h hh => by rw [hn h hh]; exact h1.2.2) s))
    rw [List.map_cons, forG_cons (Γ1 := G) rfl, body]
    exact e
theorem count_eq {l : Lg} (hl : l.Ok) (hB : ∀ a b, l.left = a ++ b → (reachF l.t a [l.pts]).length ≤ 300000) (s : Y.S) : m_count_points [.v l.d] s = some (.ok (.v (.int ((reachF l.t l.left [l.pts]).length : Nat))), s) := by
  rw [q_count_points]
  refine fin_of ?_
  let I : Ev := [some (.v l.d), none, none]
  have hp : ∀ p ∈ l.left, 0 ≤ p.1 ∧ p.1 < p.2 ∧ p.2 < (l.n : Nat) := fun p hp => pairs_mem hl.h2 hl.h6 p (left_sub _ _ _ hp)
  have s1 : sDrop (Y := Y) (gFn 1 m_check_league (gK (gEsc (gV 0)) gN)) I s = some (.nx, I, s) := drop_ok (fn_v (gk_ok (gr := gN) (esc_v (d := l.d) rfl) rfl) rfl (check_league_eq hl s))
  have s2 : sSet (Y := Y) 1 (gFn 1 m__points_at_first (gK (gEsc (gV 0)) gN)) I s = some (.nx, [some (.v l.d), some (.v (FD [l.pts])), none], s) := set_v (i := 1) (Γ' := I) (fn_v (gk_ok (gr := gN) (esc_v (d := l.d) rfl) rfl) rfl (first_pts hl s))
  have it : gItL (Y := Y) (gFn 1 m_matches_left (gK (gEsc (gV 0)) gN)) [some (.v l.d), some (.v (FD [l.pts])), none] s = some (.ok (l.left.map prD), [some (.v l.d), some (.v (FD [l.pts])), none], s) := itL_o (fn_o (gk_ok (gr := gN) (esc_v (d := l.d) rfl) rfl) rfl (left_eq hl s))
  obtain ⟨y2, e⟩ := count_loop hl s l.left [l.pts] none hp (by simp) (by simp [l.pts_len]) hB
  have s3 : sFor (Y := Y) (.n 2) (gItL (gFn 1 m_matches_left (gK (gEsc (gV 0)) gN))) l_count_points_1 [some (.v l.d), some (.v (FD [l.pts])), none] s = some (.nx, [some (.v l.d), some (.v (FD (reachF l.t l.left [l.pts]))), y2], s) := (for_run it).trans e
  have pos : 0 < (reachF l.t l.left [l.pts]).length := by
    have : ∀ (ps : List (Int × Int)) (Hs : List (List Int)), 0 < Hs.length → 0 < (reachF l.t ps Hs).length := by
      intro ps
      induction ps with
      | nil => exact fun Hs h => h
      | cons p ps ih => exact fun Hs h => ih _ (next_pos h)
    exact this _ _ (by simp)
  have s4 : sRet (Y := Y) (gLenT (gV 1)) [some (.v l.d), some (.v (FD (reachF l.t l.left [l.pts]))), y2] s = some (.rt (.v (.int ((reachF l.t l.left [l.pts]).length : Nat))), [some (.v l.d), some (.v (FD (reachF l.t l.left [l.pts]))), y2], s) := by
    refine ret_v ?_
    unfold gLenT
    rw [bd_ok (Y := Y) (a := .v (FD (reachF l.t l.left [l.pts]))) (Γ' := [some (.v l.d), some (.v (FD (reachF l.t l.left [l.pts]))), y2]) (s' := s) rfl]
    show (if tbB (tbD ((reachF l.t l.left [l.pts]).map keyH)) = true then some (Oc.ok (R.v (PyData.int ((tbD ((reachF l.t l.left [l.pts]).map keyH)).length : Nat))), _, s) else none) = _
    rw [if_pos (tbB_FD pos), FD_len]
  unfold b_count_points
  exact congrArg fin (nx_seq s1 (nx_seq s2 (nx_seq s3 s4)))
theorem copyD_eq (l : Lg) (s : Y.S) : m__law_copy [.v l.d] s = some (.ok (.v l.d), s) := copy_eq l s
end
end FX.Pg
set_option Elab.async false
set_option linter.all false
set_option maxRecDepth 100000
namespace FX.Pg
open PySem PySem.Spec L2 FX
theorem addI_comm (h : List Int) (i j x y : Int) : addI (addI h i x) j y = addI (addI h j y) i x := by
  unfold addI
  by_cases e : i.toNat = j.toNat
  · rw [e]
    by_cases hl : j.toNat < h.length
    · have g1 : ∀ z : Int, (h.set j.toNat z).getD j.toNat 0 = z := fun z => by
        rw [List.getD_eq_getElem?_getD, List.getElem?_set_self hl]; rfl
      rw [g1, g1, List.set_set, List.set_set]
      congr 1
      omega
    · have g1 : ∀ z : Int, h.set j.toNat z = h := fun z => List.set_eq_of_length_le (by omega)
      simp only [g1]
  · have g1 : ∀ z : Int, (h.set i.toNat z).getD j.toNat 0 = h.getD j.toNat 0 := fun z => by
      rw [List.getD_eq_getElem?_getD, List.getElem?_set_ne e, List.getD_eq_getElem?_getD]
    have g2 : ∀ z : Int, (h.set j.toNat z).getD i.toNat 0 = h.getD i.toNat 0 := fun z => by
      rw [List.getD_eq_getElem?_getD, List.getElem?_set_ne (Ne.symm e), List.getD_eq_getElem?_getD]
    rw [g1, g2, List.set_comm _ _ e]
def stE (t : Bool) (h : List Int) (e : Ent) : List Int := stepH t h e.1 e.2
theorem stE_comm (t : Bool) (h : List Int) (e f : Ent) : stE t (stE t h e) f = stE t (stE t h f) e := by
  unfold stE stepH
  rw [addI_comm _ e.1.2 f.1.1, addI_comm _ e.1.1 f.1.1, addI_comm _ e.1.2 f.1.2, addI_comm _ e.1.1 f.1.2]
def sumE (t : Bool) (h : List Int) (E : List Ent) : List Int := E.foldl (stE t) h
theorem sumE_perm {t : Bool} {E F : List Ent} (p : E.Perm F) (h : List Int) : sumE t h E = sumE t h F := p.foldl_eq' (fun x _ y _ z => (stE_comm t z x y)) h
theorem sumE_app (t : Bool) (h : List Int) (E F : List Ent) : sumE t h (E ++ F) = sumE t (sumE t h E) F := List.foldl_append
theorem ptsP_fold (t : Bool) : ∀ (ps : List (Int × Int)) (v : List (Option O3)) (h : List Int), ptsP t ps v h = sumE t h (ents ps v)
  | [], v, h => by cases v <;> rfl
  | p :: ps, [], h => rfl
  | p :: ps, none :: v, h => ptsP_fold t ps v h
  | p :: ps, some o :: v, h => ptsP_fold t ps v (stepH t h p o)
theorem pts_sum (l : Lg) : l.pts = sumE l.t (List.replicate l.n 0) l.es := ptsP_fold _ _ _ _
def reachO (t : Bool) (f : Int × Int → List O3) (ps : List (Int × Int)) (Hs : List (List Int)) : List (List Int) := ps.foldl (fun H p => H.foldl (fun a h => (f p).foldl (fun a o => insU a (stepH t h p o)) a) []) Hs
theorem reachF_O (t : Bool) (ps : List (Int × Int)) (Hs : List (List Int)) : reachF t ps Hs = reachO t (fun _ => outs t) ps Hs := rfl
theorem stepO {t : Bool} {L : List O3} {p : Int × Int} : ∀ (Hs acc : List (List Int)), (∀ y, y ∈ Hs.foldl (fun a h => L.foldl (fun a o => insU a (stepH t h p o)) a) acc ↔ y ∈ acc ∨ ∃ h ∈ Hs, ∃ o ∈ L, y = stepH t h p o) ∧ (acc.Nodup → (Hs.foldl (fun a h => L.foldl (fun a o => insU a (stepH t h p o)) a) acc).Nodup) ∧ (Hs.foldl (fun a h => L.foldl (fun a o => insU a (stepH t h p o)) a) acc).length ≤ acc.length + L.length * Hs.length ∧ acc.length ≤ (Hs.foldl (fun a h => L.foldl (fun a o => insU a (stepH t h p o)) a) acc).length
  | [], acc => ⟨by simp, fun h => h, by simp, by simp⟩
  | h :: Hs, acc => by
    obtain ⟨a1, b1, c1, d1⟩ := fold_ins (fun o => stepH t h p o) L acc
    obtain ⟨a, b, c, d⟩ := stepO Hs (L.foldl (fun a o => insU a (stepH t h p o)) acc) (t := t) (L := L) (p := p)
    refine ⟨fun y => ?_, fun n => b (d1 n), ?_, ?_⟩
    · simp only [List.foldl_cons]
      rw [a, c1]
      simp only [List.mem_cons, exists_eq_or_imp]
      rw [or_assoc]
    · simp only [List.foldl_cons, List.length_cons, Nat.mul_add, Nat.mul_one]
      omega
    · simp only [List.foldl_cons]
      omega
theorem reachO_mem {t : Bool} {f : Int × Int → List O3} : ∀ {ps : List (Int × Int)} {Hs : List (List Int)} {y : List Int}, y ∈ reachO t f ps Hs ↔ ∃ h ∈ Hs, ∃ E : List Ent, E.map (·.1) = ps ∧ (∀ e ∈ E, e.2 ∈ f e.1) ∧ y = sumE t h E
  | [], Hs, y => by
    show y ∈ Hs ↔ _
    constructor
    · exact fun h => ⟨y, h, [], rfl, by simp, rfl⟩
    · rintro ⟨h, hh, E, e1, _, e2⟩
      have : E = [] := by simpa using e1
      subst this
      rw [e2]; exact hh
  | p :: ps, Hs, y => by
    show y ∈ reachO t f ps (Hs.foldl (fun a h => (f p).foldl (fun a o => insU a (stepH t h p o)) a) []) ↔ _
    rw [reachO_mem (ps := ps)]
    have st := (stepO (t := t) (L := f p) (p := p) Hs []).1
    constructor
    · rintro ⟨g, hg, E, e1, e2, e3⟩
      rcases (st g).mp hg with h | ⟨h, hh, o, ho, rfl⟩
      · cases h
      · refine ⟨h, hh, (p, o) :: E, by simp [e1], fun e he => ?_, e3⟩
        rcases List.mem_cons.mp he with rfl | he
        · exact ho
        · exact e2 e he
    · rintro ⟨h, hh, E, e1, e2, e3⟩
      cases E with
      | nil => simp at e1
      | cons e E =>
        obtain ⟨q, o⟩ := e
        simp only [List.map_cons, List.cons.injEq] at e1
        obtain ⟨rfl, e1⟩ := e1
        exact ⟨stepH t h q o, (st _).mpr (.inr ⟨h, hh, o, e2 (q, o) (by simp), rfl⟩), E, e1, fun e he => e2 e (by simp [he]), e3⟩
theorem reachO_nd {t : Bool} {f : Int × Int → List O3} : ∀ {ps : List (Int × Int)} {Hs : List (List Int)}, Hs.Nodup → (reachO t f ps Hs).Nodup
  | [], Hs, h => h
  | p :: ps, Hs, h => reachO_nd (ps := ps) ((stepO (t := t) (L := f p) (p := p) Hs []).2.1 .nil)
theorem keys_split : ∀ (ps : List (Int × Int)) (v : List (Option O3)), v.length = ps.length → ((ents ps v).map (·.1) ++ leftP ps v).Perm ps
  | [], [], _ => .nil
  | p :: ps, none :: v, h => by
    have := keys_split ps v (by simpa using h)
    show ((ents ps v).map (·.1) ++ p :: leftP ps v).Perm (p :: ps)
    exact List.perm_middle.trans (this.cons p)
  | p :: ps, some o :: v, h => by
    have := keys_split ps v (by simpa using h)
    exact this.cons p
  | [], _ :: _, h => by simp at h
  | _ :: _, [], h => by simp at h
theorem Lg.Ok.split {l : Lg} (h : l.Ok) : (l.es.map (·.1) ++ l.left).Perm (pairsI l.n) := keys_split _ _ h.len
theorem ents_of_keys {E : List Ent} (nd : (E.map (·.1)).Nodup) {ps : List (Int × Int)} (hp : (E.map (·.1)).Perm ps) : ∃ F : List Ent, F.Perm E ∧ F.map (·.1) = ps := by
  let f : Int × Int → O3 := fun p => (lookE E p).getD .a
  have hm : ∀ e ∈ E, f e.1 = e.2 := fun e he => by
    show (lookE E e.1).getD .a = e.2
    rw [(lookE_iff nd).mpr (show (e.1, e.2) ∈ E from he)]
    rfl
  refine ⟨ps.map fun p => (p, f p), ?_, by rw [List.map_map]; exact List.map_id' ps⟩
  have nps : ps.Nodup := hp.nodup_iff.mp nd
  refine (List.perm_ext_iff_of_nodup (nd_of_map (f := fun e : Ent => e.1) (by rw [List.map_map]; exact (List.map_id' ps).symm ▸ nps)) (nd_of_map nd)).mpr fun e => ?_
  constructor
  · intro h
    obtain ⟨p, h1, rfl⟩ := List.mem_map.mp h
    obtain ⟨e, he, rfl⟩ := List.mem_map.mp (hp.mem_iff.mpr h1)
    rw [hm e he]; exact he
  · intro h
    exact List.mem_map.mpr ⟨e.1, hp.mem_iff.mp (List.mem_map.mpr ⟨e, h, rfl⟩), by rw [hm e h]⟩
theorem reach_same {l : Lg} (hl : l.Ok) (y : List Int) : y ∈ reachO l.t (fun p => optL l.t (lookE l.es p)) (pairsI l.n).reverse [List.replicate l.n 0] ↔ y ∈ reachF l.t l.left [l.pts] := by
  rw [reachF_O, reachO_mem, reachO_mem]
  have nd := pairs_nodup hl.h2 hl.h6
  have sp := hl.split
  have ndK : (l.es.map (·.1) ++ l.left).Nodup := sp.nodup_iff.mpr nd
  have inL : ∀ p ∈ l.left, lookE l.es p = none := fun p hp => by
    unfold lookE
    rw [Option.map_eq_none_iff, List.find?_eq_none]
    intro e he z
    have := (List.nodup_append.mp ndK).2.2 e.1 (List.mem_map.mpr ⟨e, he, rfl⟩) p hp
    exact this (of_decide_eq_true z)
  simp only [List.mem_singleton, exists_eq_left]
  constructor
  · rintro ⟨F, k1, k2, rfl⟩
    have ndF : (F.map (·.1)).Nodup := by rw [k1]; exact (List.reverse_perm _).nodup_iff.mpr nd
    -- those of the matches left
    have pK : (F.map (·.1)).Perm (l.es.map (·.1) ++ l.left) := by rw [k1]; exact (List.reverse_perm _).trans sp.symm
    obtain ⟨F', pF, kF⟩ := ents_of_keys ndF pK
    obtain ⟨A, B, rfl, kA, kB⟩ : ∃ A B : List Ent, F' = A ++ B ∧ A.map (·.1) = l.es.map (·.1) ∧ B.map (·.1) = l.left := by
      refine ⟨F'.take l.es.length, F'.drop l.es.length, (List.take_append_drop _ _).symm, ?_, ?_⟩
      · rw [List.map_take, kF]
        exact List.take_left' (by simp)
      · rw [List.map_drop, kF]
        exact List.drop_left' (by simp)
    have eA : A = l.es := by
      have ndA : (A.map (·.1)).Nodup := by rw [kA]; exact hl.es_nd
      have hA : ∀ e ∈ A, e ∈ l.es := fun e he => by
        have hF : e ∈ F := pF.mem_iff.mp (List.mem_append_left _ he)
        have ho := k2 e hF
        have hk : e.1 ∈ l.es.map (·.1) := by rw [← kA]; exact List.mem_map.mpr ⟨e, he, rfl⟩
        obtain ⟨f, hf, ef⟩ := List.mem_map.mp hk
        have lk : lookE l.es e.1 = some f.2 := by rw [← ef]; exact (lookE_iff hl.es_nd).mpr hf
        rw [lk] at ho
        have : e.2 = f.2 := List.mem_singleton.mp ho
        have : e = f := Prod.ext ef.symm this
        rw [this]; exact hf
      have : ∀ {X Z : List Ent}, X.map (·.1) = Z.map (·.1) → (Z.map (·.1)).Nodup → (∀ e ∈ X, e ∈ Z) → X = Z := by
        intro X
        induction X with
        | nil => intro Z h1 _ _; cases Z with | nil => rfl | cons _ _ => simp at h1
        | cons x X ih =>
          intro Z h1 h2 h3
          cases Z with
          | nil => simp at h1
          | cons z Z =>
            simp only [List.map_cons, List.cons.injEq] at h1
            obtain ⟨n1, n2⟩ := List.nodup_cons.mp (show (z.1 :: Z.map (·.1)).Nodup from h2)
            have xz : x = z := by
              rcases List.mem_cons.mp (h3 x (by simp)) with h | h
              · exact h
              · exact absurd (List.mem_map.mpr ⟨x, h, h1.1⟩) n1
            have := ih h1.2 n2 fun e he => by
              rcases List.mem_cons.mp (h3 e (by simp [he])) with h | h
              · exfalso
                apply n1
                rw [← h1.2]
                exact List.mem_map.mpr ⟨e, he, by rw [h]⟩
              · exact h
            rw [xz, this]
      exact this kA hl.es_nd hA
    subst eA
    refine ⟨B, kB, fun e he => ?_, ?_⟩
    · have ho := k2 e (pF.mem_iff.mp (List.mem_append_right _ he))
      have hk : e.1 ∈ l.left := by rw [← kB]; exact List.mem_map.mpr ⟨e, he, rfl⟩
      rw [inL e.1 hk] at ho
      exact ho
    · rw [pts_sum, ← sumE_app]
      exact (sumE_perm pF _).symm
  · rintro ⟨B, kB, hB, rfl⟩
    have pK : ((l.es ++ B).map (·.1)).Perm (pairsI l.n).reverse := by
      rw [List.map_append, kB]
      exact sp.trans (List.reverse_perm _).symm
    have ndE : ((l.es ++ B).map (·.1)).Nodup := by rw [List.map_append, kB]; exact ndK
    obtain ⟨F, pF, kF⟩ := ents_of_keys ndE pK
    refine ⟨F, kF, fun e he => ?_, ?_⟩
    · rcases List.mem_append.mp (pF.mem_iff.mp he) with h | h
      · show e.2 ∈ optL l.t (lookE l.es e.1)
        rw [(lookE_iff hl.es_nd).mpr (show (e.1, e.2) ∈ l.es from h)]
        exact List.mem_singleton.mpr rfl
      · have hk : e.1 ∈ l.left := by rw [← kB]; exact List.mem_map.mpr ⟨e, h, rfl⟩
        show e.2 ∈ optL l.t (lookE l.es e.1)
        rw [inL e.1 hk]
        exact hB e h
    · rw [pts_sum, ← sumE_app]
      exact (sumE_perm pF _).symm
theorem reach_len {l : Lg} (hl : l.Ok) : (reachO l.t (fun p => optL l.t (lookE l.es p)) (pairsI l.n).reverse [List.replicate l.n 0]).length = (reachF l.t l.left [l.pts]).length :=
  ((List.perm_ext_iff_of_nodup (reachO_nd (by simp)) (by rw [reachF_O]; exact reachO_nd (by simp))).mpr fun y => reach_same hl y).length_eq
end FX.Pg
set_option Elab.async false
set_option linter.all false
set_option maxRecDepth 100000
set_option maxHeartbeats 1600000
namespace FX.Pg
open PySem PySem.Spec L2 FX
def hasQ (q : Int) (p : Int × Int) : Bool := decide (p.1 = q) || decide (p.2 = q)
theorem sumP_cnt (t : Bool) (q : Int) : ∀ (ps : List (Int × Int)) (v : List (Option O3)), (∀ p ∈ ps, p.1 ≠ p.2) → 0 ≤ sumP t ps v q ∧ sumP t ps v q ≤ 2 * ((ps.filter (hasQ q)).length : Nat)
  | [], v, _ => by cases v <;> simp [sumP]
  | p :: ps, [], _ => by simp [sumP]; omega
  | p :: ps, none :: v, h => by
    obtain ⟨a, b⟩ := sumP_cnt t q ps v fun x hx => h x (by simp [hx])
    have : ((ps.filter (hasQ q)).length : Int) ≤ (((p :: ps).filter (hasQ q)).length : Nat) := by
      rw [List.filter_cons]
      split <;> simp <;> omega
    simp only [sumP]
    omega
  | p :: ps, some o :: v, h => by
    obtain ⟨a, b⟩ := sumP_cnt t q ps v fun x hx => h x (by simp [hx])
    have ne := h p (by simp)
    have hc : 0 ≤ con t p o q ∧ con t p o q ≤ 2 ∧ (hasQ q p = false → con t p o q = 0) := by
      have s1 : 0 ≤ (sh2 t o).1 ∧ (sh2 t o).1 ≤ 2 ∧ 0 ≤ (sh2 t o).2 ∧ (sh2 t o).2 ≤ 2 := by cases t <;> cases o <;> decide
      unfold con hasQ
      by_cases h1 : p.1 = q
      · have h2 : ¬ p.2 = q := fun z => ne (h1.trans z.symm)
        simp [h1, h2]; omega
      · by_cases h2 : p.2 = q
        · simp [h1, h2]; omega
        · simp [h1, h2]
    rw [List.filter_cons]
    simp only [sumP]
    by_cases hq : hasQ q p = true
    · rw [if_pos hq, List.length_cons]
      omega
    · have := hc.2.2 (by simpa using hq)
      rw [if_neg hq]
      omega
theorem pairs_five : ∀ n < 7, ∀ q < 6, ((pairsI n).filter (hasQ ((q : Nat) : Int))).length ≤ 5 := by decide +kernel
theorem pts_ten {l : Lg} (hl : l.Ok) : ∀ x ∈ l.pts, 0 ≤ x ∧ x ≤ 10 := fun x hx => by
  have h6 := hl.h6
  rw [hl.pts_eq] at hx
  obtain ⟨q, hq, rfl⟩ := List.mem_map.mp hx
  have hq := List.mem_range.mp hq
  have a := sumP_cnt l.t (q : Nat) (pairsI l.n) l.v fun p hp => by have := pairs_mem hl.h2 hl.h6 p hp; omega
  have b := pairs_five l.n (by omega) q (by omega)
  omega
def enc5 (h : List Int) : Nat := (h.getD 0 0).toNat + 11 * (h.getD 1 0).toNat + 121 * (h.getD 2 0).toNat + 1331 * (h.getD 3 0).toNat + 14641 * (h.getD 4 0).toNat
theorem getD_bd {h : List Int} (hb : ∀ x ∈ h, 0 ≤ x ∧ x ≤ 10) (i : Nat) : 0 ≤ h.getD i 0 ∧ h.getD i 0 ≤ 10 := by
  rw [List.getD_eq_getElem?_getD]
  cases e : h[i]? with
  | none => simp
  | some x => exact hb x (List.mem_of_getElem? e)
theorem enc_lt {h : List Int} (hb : ∀ x ∈ h, 0 ≤ x ∧ x ≤ 10) : enc5 h < 161051 := by
  have a := getD_bd hb 0
  have b := getD_bd hb 1
  have c := getD_bd hb 2
  have d := getD_bd hb 3
  have e := getD_bd hb 4
  unfold enc5
  omega
theorem enc_inj {n : Nat} (h6 : n ≤ 6) {h g : List Int} (lh : h.length = n) (lg : g.length = n) (hb : ∀ x ∈ h, 0 ≤ x ∧ x ≤ 10) (gb : ∀ x ∈ g, 0 ≤ x ∧ x ≤ 10) (hs : h.sum = g.sum) (e : enc5 h = enc5 g) : h = g := by
  have a := getD_bd hb 0
  have b := getD_bd hb 1
  have c := getD_bd hb 2
  have d := getD_bd hb 3
  have f := getD_bd hb 4
  have a' := getD_bd gb 0
  have b' := getD_bd gb 1
  have c' := getD_bd gb 2
  have d' := getD_bd gb 3
  have f' := getD_bd gb 4
  unfold enc5 at e
  have e4 : (h.getD 4 0).toNat = (g.getD 4 0).toNat := by omega
  have e3 : (h.getD 3 0).toNat = (g.getD 3 0).toNat := by omega
  have e2 : (h.getD 2 0).toNat = (g.getD 2 0).toNat := by omega
  have e1 : (h.getD 1 0).toNat = (g.getD 1 0).toNat := by omega
  have e0 : (h.getD 0 0).toNat = (g.getD 0 0).toNat := by omega
  have k : ∀ i < 5, h.getD i 0 = g.getD i 0 := by
    intro i hi
    have : i = 0 ∨ i = 1 ∨ i = 2 ∨ i = 3 ∨ i = 4 := by omega
    rcases this with rfl | rfl | rfl | rfl | rfl <;> omega
  have k5 : h.getD 5 0 = g.getD 5 0 := by
    have sm : ∀ x : List Int, x.length ≤ 6 → x.sum = x.getD 0 0 + x.getD 1 0 + x.getD 2 0 + x.getD 3 0 + x.getD 4 0 + x.getD 5 0 := by
      intro x hx
      rcases x with _ | ⟨x0, _ | ⟨x1, _ | ⟨x2, _ | ⟨x3, _ | ⟨x4, _ | ⟨x5, _ | ⟨x6, x⟩⟩⟩⟩⟩⟩⟩ <;> simp at hx ⊢ <;> omega
    have s1 := sm h (by omega)
    have s2 := sm g (by omega)
    have k0 := k 0 (by decide)
    have k1 := k 1 (by decide)
    have k2 := k 2 (by decide)
    have k3 := k 3 (by decide)
    have k4 := k 4 (by decide)
    omega
  apply List.ext_getElem (by omega)
  intro i h1 h2
  have : h.getD i 0 = g.getD i 0 := by
    by_cases hi : i < 5
    · exact k i hi
    · have : i = 5 := by omega
      rw [this]; exact k5
  rw [List.getD_eq_getElem?_getD, List.getD_eq_getElem?_getD, List.getElem?_eq_getElem h1, List.getElem?_eq_getElem h2] at this
  exact this
theorem many_le {t : Bool} {n m : Nat} {Hs : List (List Int)} (nd : Hs.Nodup) (h : ∀ y ∈ Hs, ∃ l : Lg, l.Ok ∧ l.t = t ∧ l.n = n ∧ l.es.length = m ∧ y = l.pts) : Hs.length ≤ 161051 := by
  have nd2 : (Hs.map enc5).Nodup := nodup_map (fun a ha b hb e => by
    obtain ⟨l, hl, ht, hn, hm, rfl⟩ := h a ha
    obtain ⟨f, hf, ft, fn, fm, rfl⟩ := h b hb
    refine enc_inj (n := n) (by have := hl.h6; omega) (by rw [l.pts_len, hn]) (by rw [f.pts_len, fn]) (pts_ten hl) (pts_ten hf) ?_ e
    rw [hl.pts_sum, hf.pts_sum, ht, ft, hm, fm]) nd
  have := nd2.length_le_of_subset (l₂ := List.range 161051) fun x hx => by
    obtain ⟨y, hy, rfl⟩ := List.mem_map.mp hx
    obtain ⟨l, hl, _, _, _, rfl⟩ := h y hy
    exact List.mem_range.mpr (enc_lt (pts_ten hl))
  simpa using this
theorem sum_lg {t : Bool} {n : Nat} (h2 : 2 ≤ n) (h6 : n ≤ 6) {E : List Ent} (nd : (E.map (·.1)).Nodup) (hs : ∀ e ∈ E, e.1 ∈ pairsI n) (ho : ∀ e ∈ E, t = false → e.2 ≠ .t) :
    ∃ l : Lg, l.Ok ∧ l.t = t ∧ l.n = n ∧ l.es.length = E.length ∧ sumE t (List.replicate n 0) E = l.pts := by
  have pm := lgOf_perm h2 h6 nd hs (t := t)
  refine ⟨lgOf t n E, lgOf_ok h2 h6 nd ho, rfl, rfl, pm.symm.length_eq, ?_⟩
  rw [pts_sum]
  exact sumE_perm pm _
theorem reach_few {l : Lg} (hl : l.Ok) {a b : List (Int × Int)} (e : l.left = a ++ b) : (reachF l.t a [l.pts]).length ≤ 161051 := by
  refine many_le (t := l.t) (n := l.n) (m := l.es.length + a.length) (by rw [reachF_O]; exact reachO_nd (by simp)) fun y hy => ?_
  rw [reachF_O, reachO_mem] at hy
  simp only [List.mem_singleton, exists_eq_left] at hy
  obtain ⟨B, kB, hB, rfl⟩ := hy
  have nd := pairs_nodup hl.h2 hl.h6
  have sp := hl.split
  have ndK : (l.es.map (·.1) ++ l.left).Nodup := sp.nodup_iff.mpr nd
  rw [e] at ndK
  have ndE : ((l.es ++ B).map (·.1)).Nodup := by
    rw [List.map_append, kB]
    exact ndK.sublist ((List.Sublist.refl _).append (List.sublist_append_left a b))
  obtain ⟨f, hf, ft, fn, fl, fe⟩ := sum_lg (t := l.t) hl.h2 hl.h6 ndE (fun x hx => by
    rcases List.mem_append.mp hx with h | h
    · exact (hl.mem_es (p := x.1) (o := x.2).mp h).1
    · refine sp.mem_iff.mp (List.mem_append_right _ ?_)
      rw [e]
      refine List.mem_append_left _ ?_
      rw [← kB]
      exact List.mem_map.mpr ⟨x, h, rfl⟩) (fun x hx => by
    rcases List.mem_append.mp hx with h | h
    · exact es_outc hl (p := x.1) (o := x.2) h
    · exact outs_ok.mp (hB x h))
  refine ⟨f, hf, ft, fn, by rw [fl, List.length_append, ← kB, List.length_map], ?_⟩
  rw [← fe, sumE_app, ← pts_sum]
theorem reachO_few {l : Lg} (hl : l.Ok) {a b : List (Int × Int)} (e : (pairsI l.n).reverse = a ++ b) : (reachO l.t (fun p => optL l.t (lookE l.es p)) a [List.replicate l.n 0]).length ≤ 161051 := by
  refine many_le (t := l.t) (n := l.n) (m := a.length) (reachO_nd (by simp)) fun y hy => ?_
  rw [reachO_mem] at hy
  simp only [List.mem_singleton, exists_eq_left] at hy
  obtain ⟨B, kB, hB, rfl⟩ := hy
  have nd : (pairsI l.n).reverse.Nodup := (List.reverse_perm _).nodup_iff.mpr (pairs_nodup hl.h2 hl.h6)
  rw [e] at nd
  obtain ⟨f, hf, ft, fn, fl, fe⟩ := sum_lg (t := l.t) hl.h2 hl.h6 (E := B) (by rw [kB]; exact nd.sublist (List.sublist_append_left a b)) (fun x hx => by
    have : x.1 ∈ a := by rw [← kB]; exact List.mem_map.mpr ⟨x, hx, rfl⟩
    have : x.1 ∈ (pairsI l.n).reverse := by rw [e]; exact List.mem_append_left _ this
    exact List.mem_reverse.mp this) (fun x hx => by
    have ho := hB x hx
    cases h : lookE l.es x.1 with
    | none => rw [h] at ho; exact outs_ok.mp ho
    | some o =>
      rw [h] at ho
      rw [List.mem_singleton.mp ho]
      exact es_outc hl ((lookE_iff hl.es_nd).mp h))
  exact ⟨f, hf, ft, fn, by rw [fl, ← kB, List.length_map], fe⟩
theorem count_all {Y : Sys} {l : Lg} (hl : l.Ok) (s : Y.S) : m_count_points [.v l.d] s = some (.ok (.v (.int ((reachF l.t l.left [l.pts]).length : Nat))), s) :=
  count_eq hl (fun a b e => Nat.le_trans (reach_few hl e) (by decide)) s
end FX.Pg
set_option Elab.async false
set_option linter.all false
set_option maxRecDepth 100000
namespace FX.Pg
open PySem PySem.Spec L2 FX
abbrev Bd (t : Bool) (n : Nat) (d : D) : Prop := isPlayed (kindS t) (n : Nat) d = false ∧ okD 410 4 d
end FX.Pg
set_option Elab.async false
set_option linter.all false
set_option maxRecDepth 100000
set_option maxHeartbeats 800000
namespace FX.K25
open PySem PySem.Spec L2 FX FX.Pg
theorem alike_ints : ∀ (a b : List Int), PySem.W.alikeAll (a.map PyData.int) (b.map PyData.int) = true
  | [], _ => rfl
  | _ :: _, [] => rfl
  | x :: a, y :: b => by
    show (PySem.W.alike (.int x) (.int y) && PySem.W.alikeAll (a.map PyData.int) (b.map PyData.int)) = true
    rw [alike_ints a b]; rfl
theorem depth_ints (a : List Int) : PyData.depthAll (a.map PyData.int) ≤ 1 := by
  induction a with
  | nil => simp [PyData.depthAll]
  | cons x a ih => simp only [List.map_cons, PyData.depthAll, PyData.depth]; omega
theorem srt_hd {Hs : List (List Int)} (h : ∀ x ∈ Hs, 0 < x.length) : (allAlike (Hs.map hd) && sortable (Hs.map hd) && (Hs.map hd).all (fun d => Nat.ble d.depth 60)) = true := by
  have a1 : allAlike (Hs.map hd) = true := List.all_eq_true.mpr fun d hd' => List.all_eq_true.mpr fun e he => by
    obtain ⟨p, _, rfl⟩ := List.mem_map.mp hd'
    obtain ⟨q, _, rfl⟩ := List.mem_map.mp he
    exact alike_ints p q
  have a2 : sortable (Hs.map hd) = true := by
    unfold sortable
    rw [Bool.or_eq_true]
    refine .inl (List.all_eq_true.mpr fun d hd' => ?_)
    obtain ⟨p, hp, rfl⟩ := List.mem_map.mp hd'
    cases p with
    | nil => exact absurd (h [] hp) (by simp)
    | cons x p => rfl
  have a3 : (Hs.map hd).all (fun d => Nat.ble d.depth 60) = true := List.all_eq_true.mpr fun d hd' => by
    obtain ⟨p, _, rfl⟩ := List.mem_map.mp hd'
    refine Nat.ble_eq_true_of_le ?_
    have := depth_ints p
    show PyData.depth (.tuple (p.map PyData.int)) ≤ 60
    simp only [PyData.depth]
    omega
  rw [a1, a2, a3]; rfl
section
variable {Y : Sys}
def RE (l : D) (Hs : List (List Int)) (p : Int × Int) (S : List D) (acc : List (List Int)) (x6 x7 x8 x9 x10 : Option R) : Ev := [some (.v l), some (.v (FD Hs)), some (.v (.int p.1)), some (.v (.int p.2)), some (.v (.list S)), some (.o (.dict (tbD (acc.map Pg.keyH)))), x6, x7, x8, x9, x10]
theorem in_body (l : D) (Hs : List (List Int)) (t : Bool) (p : Int × Int) (S : List D) (acc : List (List Int)) (h : List Int) (o : O3) (h0 : 0 ≤ p.1) (h1 : p.1 < p.2) (h2 : p.2 < (h.length : Nat)) (hz : acc.length ≤ 1000000) (x10 : Option R) (s : Y.S) :
    l__law_reach_1 (Y := Y) (RE l Hs p S acc (some (.v (hd h))) (some (.v (o.d p.1 p.2))) (some (.v (.int (sh2 t o).1))) (some (.v (.int (sh2 t o).2))) x10) s
      = some (.nx, RE l Hs p S (insU acc (stepH t h p o)) (some (.v (hd h))) (some (.v (o.d p.1 p.2))) (some (.v (.int (sh2 t o).1))) (some (.v (.int (sh2 t o).2))) (some (.o (.list ((stepH t h p o).map PyData.int)))), s) := by
  let G (acc : List (List Int)) (x : Option R) : Ev := RE l Hs p S acc (some (.v (hd h))) (some (.v (o.d p.1 p.2))) (some (.v (.int (sh2 t o).1))) (some (.v (.int (sh2 t o).2))) x
  have s1 : sSet (Y := Y) 10 (gCall fList (gK (gV 6) gN)) (G acc x10) s = some (.nx, G acc (some (.o (.list (h.map PyData.int)))), s) := rfl
  let g := addI h p.1 (sh2 t o).1
  have gl : g.length = h.length := addI_len _ _ _
  have g2 : p.2 < (g.length : Nat) := by rw [gl]; exact h2
  have g1 : p.1 < (g.length : Nat) := by rw [gl]; omega
  have s2 : sPut (Y := Y) 10 (gV 2) (gBin fAdd (gBin fIx (gV 10) (gV 2)) (gV 8)) (G acc (some (.o (.list (h.map PyData.int))))) s = some (.nx, G acc (some (.o (.list (g.map PyData.int)))), s) := by
    have z1 : gBin (Y := Y) fIx (gV 10) (gV 2) (G acc (some (.o (.list (h.map PyData.int))))) s = some (.ok (.v (.int (h.getD p.1.toNat 0))), G acc (some (.o (.list (h.map PyData.int)))), s) := bin_of (f := fIx) (ra := .b 10) (d := .list (h.map PyData.int)) (rb := .v (.int p.1)) (z := .old (.int (h.getD p.1.toNat 0))) rfl rfl rfl rfl (by
      show (match atI (h.map PyData.int) p.1 with | some d => some (Rz.old d) | none => none) = _
      rw [at_in h0 (by omega)])
    have z2 := bin_of (f := fAdd) (gb := gV 8) (rb := .v (.int (sh2 t o).1)) (z := .nw (.int (h.getD p.1.toNat 0 + (sh2 t o).1))) z1 rfl rfl rfl rfl
    exact put_in z2 rfl rfl h0 (by omega)
  have s3 : sPut (Y := Y) 10 (gV 3) (gBin fAdd (gBin fIx (gV 10) (gV 3)) (gV 9)) (G acc (some (.o (.list (g.map PyData.int))))) s = some (.nx, G acc (some (.o (.list ((stepH t h p o).map PyData.int)))), s) := by
    have z1 : gBin (Y := Y) fIx (gV 10) (gV 3) (G acc (some (.o (.list (g.map PyData.int))))) s = some (.ok (.v (.int (g.getD p.2.toNat 0))), G acc (some (.o (.list (g.map PyData.int)))), s) := bin_of (f := fIx) (ra := .b 10) (d := .list (g.map PyData.int)) (rb := .v (.int p.2)) (z := .old (.int (g.getD p.2.toNat 0))) rfl rfl rfl rfl (by
      show (match atI (g.map PyData.int) p.2 with | some d => some (Rz.old d) | none => none) = _
      rw [at_in (h := g) (by omega) g2])
    have z2 := bin_of (f := fAdd) (gb := gV 9) (rb := .v (.int (sh2 t o).2)) (z := .nw (.int (g.getD p.2.toNat 0 + (sh2 t o).2))) z1 rfl rfl rfl rfl
    exact put_in z2 rfl rfl (by omega) g2
  have s4 : sPutT (Y := Y) 5 (gCall fTup (gK (gV 10) gN)) (gC (.bool true)) (G acc (some (.o (.list ((stepH t h p o).map PyData.int))))) s = some (.nx, G (insU acc (stepH t h p o)) (some (.o (.list ((stepH t h p o).map PyData.int)))), s) := by
    let G4 : Ev := G acc (some (.o (.list ((stepH t h p o).map PyData.int))))
    have k1 : gCall (Y := Y) fTup (gK (gV 10) gN) G4 s = some (.ok (.v (.tuple ((stepH t h p o).map PyData.int))), G4, s) := call_ok (z := .nw (.tuple ((stepH t h p o).map PyData.int))) (gk_ok (ga := gV 10) (r := .b 10) rfl rfl) (ds := [.list ((stepH t h p o).map PyData.int)]) rfl rfl
    have hz2 : sizeOk (tbD (acc.map Pg.keyH)).length = true := by rw [FD_len]; simp [sizeOk]; omega
    have hi : G4[5]? = some (some (.o (.dict (tbD (acc.map Pg.keyH))))) := rfl
    unfold sPutT
    rw [bdS_ok (Y := Y) (esc_v (d := .bool true) (Γ := G4) (Γ' := G4) (s := s) (s' := s) rfl)]
    simp only [hi]
    rw [bdS_ok k1]
    simp only [hi, tkeys_H, hz2, if_true, put_tb]
    rfl
  unfold l__law_reach_1
  exact nx_seq s1 (nx_seq s2 (nx_seq s3 s4))
theorem in_loop (l : D) (Hs : List (List Int)) (t : Bool) (p : Int × Int) (S : List D) (h : List Int) (h0 : 0 ≤ p.1) (h1 : p.1 < p.2) (h2 : p.2 < (h.length : Nat)) (s : Y.S) : ∀ (L : List O3) (acc : List (List Int)) (x7 x8 x9 x10 : Option R), acc.length + L.length ≤ 1000000 →
    ∃ y7 y8 y9 y10, forG (.t (.cons (.n 7) (.cons (.n 8) (.cons (.n 9) .nil)))) (l__law_reach_1 (Y := Y)) (L.map (trip t p)) (RE l Hs p S acc (some (.v (hd h))) x7 x8 x9 x10) s = some (.nx, RE l Hs p S (L.foldl (fun a o => insU a (stepH t h p o)) acc) (some (.v (hd h))) y7 y8 y9 y10, s)
  | [], acc, x7, x8, x9, x10, _ => ⟨x7, x8, x9, x10, rfl⟩
  | o :: L, acc, x7, x8, x9, x10, hz => by
    simp only [List.length_cons] at hz
    obtain ⟨y7, y8, y9, y10, e⟩ := in_loop l Hs t p S h h0 h1 h2 s L (insU acc (stepH t h p o)) (some (.v (o.d p.1 p.2))) (some (.v (.int (sh2 t o).1))) (some (.v (.int (sh2 t o).2))) (some (.o (.list ((stepH t h p o).map PyData.int)))) (by have := (ins_len acc (stepH t h p o)).1; omega)
    refine ⟨y7, y8, y9, y10, ?_⟩
    rw [List.map_cons, List.foldl_cons, forG_cons (Γ1 := RE l Hs p S acc (some (.v (hd h))) (some (.v (o.d p.1 p.2))) (some (.v (.int (sh2 t o).1))) (some (.v (.int (sh2 t o).2))) x10) rfl, in_body l Hs t p S acc h o h0 h1 h2 (by omega)]
    exact e
theorem mid_loop (l : D) (H0 : List (List Int)) (t : Bool) (p : Int × Int) (L : List O3) (hL : L.length ≤ 3) (h0 : 0 ≤ p.1) (h1 : p.1 < p.2) (s : Y.S) : ∀ (Hs acc : List (List Int)) (x6 x7 x8 x9 x10 : Option R), (∀ h ∈ Hs, p.2 < (h.length : Nat)) → acc.length + 3 * Hs.length ≤ 1000000 →
    ∃ y6 y7 y8 y9 y10, forG (.n 6) (l__law_reach_2 (Y := Y)) (Hs.map hd) (RE l H0 p (L.map (trip t p)) acc x6 x7 x8 x9 x10) s = some (.nx, RE l H0 p (L.map (trip t p)) (Hs.foldl (fun a h => L.foldl (fun a o => insU a (stepH t h p o)) a) acc) y6 y7 y8 y9 y10, s)
  | [], acc, x6, x7, x8, x9, x10, _, _ => ⟨x6, x7, x8, x9, x10, rfl⟩
  | h :: Hs, acc, x6, x7, x8, x9, x10, hp, hz => by
    simp only [List.length_cons] at hz
    obtain ⟨z7, z8, z9, z10, e1⟩ := in_loop (Y := Y) l H0 t p (L.map (trip t p)) h h0 h1 (hp h (by simp)) s L acc x7 x8 x9 x10 (by omega)
    have lb := (fold_ins (fun o => stepH t h p o) L acc).1
    obtain ⟨y6, y7, y8, y9, y10, e2⟩ := mid_loop l H0 t p L hL h0 h1 s Hs (L.foldl (fun a o => insU a (stepH t h p o)) acc) (some (.v (hd h))) z7 z8 z9 z10 (fun q hq => hp q (by simp [hq])) (by omega)
    refine ⟨y6, y7, y8, y9, y10, ?_⟩
    let G : Ev := RE l H0 p (L.map (trip t p)) acc (some (.v (hd h))) x7 x8 x9 x10
    have it : gItL (Y := Y) (gV 4) G s = some (.ok (L.map (trip t p)), G, s) := rfl
    have body : l__law_reach_2 (Y := Y) G s = some (.nx, RE l H0 p (L.map (trip t p)) (L.foldl (fun a o => insU a (stepH t h p o)) acc) (some (.v (hd h))) z7 z8 z9 z10, s) := (for_run it).trans e1
    rw [List.map_cons, List.foldl_cons, forG_cons (Γ1 := G) rfl, body]
    exact e2
def RO (l : D) (Hs : List (List Int)) (x2 x3 x4 x5 x6 x7 x8 x9 x10 : Option R) : Ev := [some (.v l), some (.v (FD Hs)), x2, x3, x4, x5, x6, x7, x8, x9, x10]
theorem out_loop (l : D) (t : Bool) (f : Int × Int → Option O3) (n : Nat) (s : Y.S) : ∀ (ps : List (Int × Int)) (Hs : List (List Int)) (x2 x3 x4 x5 x6 x7 x8 x9 x10 : Option R), (∀ p ∈ ps, 0 ≤ p.1 ∧ p.1 < p.2 ∧ p.2 < (n : Nat)) → 0 < Hs.length → (∀ h ∈ Hs, h.length = n) → (∀ a b, ps = a ++ b → (reachO t (fun p => optL t (f p)) a Hs).length ≤ 300000) →
    ∃ y2 y3 y4 y5 y6 y7 y8 y9 y10, forG (.t (.cons (.n 2) (.cons (.n 3) (.cons (.n 4) .nil)))) (l__law_reach_3 (Y := Y)) (ps.map fun p => optD t p (f p)) (RO l Hs x2 x3 x4 x5 x6 x7 x8 x9 x10) s = some (.nx, RO l (reachO t (fun p => optL t (f p)) ps Hs) y2 y3 y4 y5 y6 y7 y8 y9 y10, s) ∧ 0 < (reachO t (fun p => optL t (f p)) ps Hs).length ∧ ∀ h ∈ reachO t (fun p => optL t (f p)) ps Hs, h.length = n
  | [], Hs, x2, x3, x4, x5, x6, x7, x8, x9, x10, _, h0, hn, _ => ⟨x2, x3, x4, x5, x6, x7, x8, x9, x10, rfl, h0, hn⟩
  | p :: ps, Hs, x2, x3, x4, x5, x6, x7, x8, x9, x10, hp, h0, hn, hB => by
    have h1 := hp p (by simp)
    have ok : Hs.length ≤ 300000 := hB [] (p :: ps) rfl
    have hL : (optL t (f p)).length ≤ 3 ∧ 0 < (optL t (f p)).length := by
      cases f p with
      | none => have := outs_len t; exact ⟨this.2, by show 0 < (outs t).length; omega⟩
      | some o => exact ⟨by show 1 ≤ 3; decide, by show 0 < 1; decide⟩
    let S : List D := (optL t (f p)).map (trip t p)
    let H1 := Hs.foldl (fun a h => (optL t (f p)).foldl (fun a o => insU a (stepH t h p o)) a) []
    have st := stepO (t := t) (L := optL t (f p)) (p := p) Hs []
    have pos : 0 < H1.length := by
      obtain ⟨a, ha⟩ := List.exists_mem_of_length_pos h0
      obtain ⟨o, ho⟩ := List.exists_mem_of_length_pos hL.2
      exact List.length_pos_of_mem ((st.1 (stepH t a p o)).mpr (.inr ⟨a, ha, o, ho, rfl⟩))
    have len1 : ∀ h ∈ H1, h.length = n := fun h hh => by
      rcases (st.1 h).mp hh with z | ⟨a, ha, o, _, rfl⟩
      · cases z
      · rw [stepH_len]; exact hn a ha
    let G0 : Ev := RO l Hs (some (.v (.int p.1))) (some (.v (.int p.2))) (some (.v (.list S))) x5 x6 x7 x8 x9 x10
    have s1 : sSet (Y := Y) 5 gDicT G0 s = some (.nx, RE l Hs p S [] x6 x7 x8 x9 x10, s) := rfl
    have it : gItD (Y := Y) (gV 1) (RE l Hs p S [] x6 x7 x8 x9 x10) s = some (.ok (Hs.map hd), RE l Hs p S [] x6 x7 x8 x9 x10, s) := by
      unfold gItD
      rw [bd_ok (Y := Y) (a := .v (FD Hs)) (Γ' := RE l Hs p S [] x6 x7 x8 x9 x10) (s' := s) rfl]
      show (if tbB (tbD (Hs.map Pg.keyH)) = true then some (Oc.ok ((tbD (Hs.map Pg.keyH)).map (·.1)), RE l Hs p S [] x6 x7 x8 x9 x10, s) else none) = _
      rw [if_pos (tbB_FD h0), FD_keys]
    obtain ⟨z6, z7, z8, z9, z10, e1⟩ := mid_loop (Y := Y) l Hs t p (optL t (f p)) hL.1 h1.1 h1.2.1 s Hs [] x6 x7 x8 x9 x10 (fun h hh => by rw [hn h hh]; exact h1.2.2) (by simp; omega)
    have s2 : sFor (Y := Y) (.n 6) (gItD (gV 1)) l__law_reach_2 (RE l Hs p S [] x6 x7 x8 x9 x10) s = some (.nx, RE l Hs p S H1 z6 z7 z8 z9 z10, s) := (for_run it).trans e1
    have s3 : sSet (Y := Y) 1 (gEscT (gV 5)) (RE l Hs p S H1 z6 z7 z8 z9 z10) s = some (.nx, RO l H1 (some (.v (.int p.1))) (some (.v (.int p.2))) (some (.v (.list S))) (some (.v (FD H1))) z6 z7 z8 z9 z10, s) := by
      have a : gEscT (Y := Y) (gV 5) (RE l Hs p S H1 z6 z7 z8 z9 z10) s = some (.ok (.v (FD H1)), RO l Hs (some (.v (.int p.1))) (some (.v (.int p.2))) (some (.v (.list S))) (some (.v (FD H1))) z6 z7 z8 z9 z10, s) := by
        unfold gEscT
        rw [bd_ok (Y := Y) (a := .b 5) (Γ' := RE l Hs p S H1 z6 z7 z8 z9 z10) (s' := s) rfl]
        have hi : (RE l Hs p S H1 z6 z7 z8 z9 z10)[5]? = some (some (.o (.dict (tbD (H1.map Pg.keyH))))) := rfl
        simp only [hi, tbB_FD pos, if_true]
        rfl
      exact set_v (i := 1) a
    obtain ⟨y2, y3, y4, y5, y6, y7, y8, y9, y10, e, q1, q2⟩ := out_loop l t f n s ps H1 (some (.v (.int p.1))) (some (.v (.int p.2))) (some (.v (.list S))) (some (.v (FD H1))) z6 z7 z8 z9 z10 (fun q hq => hp q (by simp [hq])) pos len1 (fun a b e => hB (p :: a) b (by rw [e]; rfl))
    refine ⟨y2, y3, y4, y5, y6, y7, y8, y9, y10, ?_, q1, q2⟩
    rw [List.map_cons, forG_cons (Γ1 := G0) rfl]
    have body : l__law_reach_3 (Y := Y) G0 s = some (.nx, RO l H1 (some (.v (.int p.1))) (some (.v (.int p.2))) (some (.v (.list S))) (some (.v (FD H1))) z6 z7 z8 z9 z10, s) := by
      unfold l__law_reach_3
      exact nx_seq s1 (nx_seq s2 s3)
    rw [body]
    exact e
def untup : D → D
  | .tuple ds => .list ds
  | d => d
theorem reach_eq {l : Lg} (hl : l.Ok) (s : Y.S) : ∃ X : List D, X.length = (reachF l.t l.left [l.pts]).length ∧ m__law_reach [.v l.d] s = some (.ok (.o (.list X)), s) := by
  let f : Int × Int → Option O3 := lookE l.es
  have n2 := hl.h2
  have n6 := hl.h6
  rw [q__law_reach]
  let I : Ev := [some (.v l.d), none, none, none, none, none, none, none, none, none, none]
  let Z : List Int := List.replicate l.n 0
  have zl : Z.length = l.n := by simp [Z]
  have m1 : gBin (Y := Y) fMul (gLst (gK (gEsc (gC (.int 0))) gN)) (gBin fIx (gV 0) (gC (.int 1))) I s = some (.ok (.o (.list (Z.map PyData.int))), I, s) := by
    refine bin_of (f := fMul) (ra := .o (.list [.int 0])) (rb := .v (.int (l.n : Nat))) (z := .nw (.list (Z.map PyData.int))) rfl rfl rfl rfl ?_
    have b1 : bigI ((l.n : Nat) : Int) = true := bigI_mk (by omega)
    have b2 : sizeOk ([PyData.int 0].length * ((l.n : Nat) : Int).toNat) = true := by simp [sizeOk]; omega
    simp only [fMul, b1, b2, Bool.and_self, if_true]
    congr 3
    show (List.replicate l.n [PyData.int 0]).flatten = (List.replicate l.n (0 : Int)).map PyData.int
    rw [List.map_replicate]
    have : ∀ k : Nat, (List.replicate k [PyData.int 0]).flatten = List.replicate k (PyData.int 0) := by
      intro k
      induction k with
      | zero => rfl
      | succ k ih => rw [List.replicate_succ, List.flatten_cons, ih]; rfl
    exact this l.n
  have a2 : gCall (Y := Y) fTup (gK (gBin fMul (gLst (gK (gEsc (gC (.int 0))) gN)) (gBin fIx (gV 0) (gC (.int 1)))) gN) I s = some (.ok (.v (.tuple (Z.map PyData.int))), I, s) := call_ok (z := .nw (.tuple (Z.map PyData.int))) (gk_ok (gr := gN) m1 rfl) (ds := [.list (Z.map PyData.int)]) rfl rfl
  have a3 : gDispT (Y := Y) (gCall fTup (gK (gBin fMul (gLst (gK (gEsc (gC (.int 0))) gN)) (gBin fIx (gV 0) (gC (.int 1)))) gN)) I s = some (.ok (.o (FD [Z])), I, s) := by
    unfold gDispT
    rw [bd_ok a2]
    simp only [tkeys_H]
    rfl
  have s1 : sSet (Y := Y) 1 (gEscT (gDispT (gCall fTup (gK (gBin fMul (gLst (gK (gEsc (gC (.int 0))) gN)) (gBin fIx (gV 0) (gC (.int 1)))) gN)))) I s = some (.nx, RO l.d [Z] none none none none none none none none none, s) := by
    refine set_v (i := 1) (Γ' := I) ?_
    unfold gEscT
    rw [bd_ok a3]
    show (if tbB (tbD ([Z].map Pg.keyH)) = true then _ else none) = _
    rw [if_pos (tbB_FD (by simp))]
    rfl
  have it : gItL (Y := Y) (gUn fRev (gFn 1 Pg.m__law_options (gK (gEsc (gV 0)) gN))) (RO l.d [Z] none none none none none none none none none) s = some (.ok ((pairsI l.n).reverse.map fun p => optD l.t p (f p)), RO l.d [Z] none none none none none none none none none, s) := by
    have o1 : gFn (Y := Y) 1 Pg.m__law_options (gK (gEsc (gV 0)) gN) (RO l.d [Z] none none none none none none none none none) s = some (.ok (.o (.list ((pairsI l.n).map fun p => optD l.t p (f p)))), RO l.d [Z] none none none none none none none none none, s) := fn_o (gk_ok (gr := gN) (esc_v (d := l.d) rfl) rfl) rfl (options_eq hl s)
    have o2 : gUn (Y := Y) fRev (gFn 1 Pg.m__law_options (gK (gEsc (gV 0)) gN)) (RO l.d [Z] none none none none none none none none none) s = some (.ok (.o (.list ((pairsI l.n).reverse.map fun p => optD l.t p (f p)))), RO l.d [Z] none none none none none none none none none, s) := by
      unfold gUn
      rw [bd_ok o1]
      unfold op1
      rw [List.map_reverse]
      rfl
    exact itL_o o2
  have hp : ∀ p ∈ (pairsI l.n).reverse, 0 ≤ p.1 ∧ p.1 < p.2 ∧ p.2 < (l.n : Nat) := fun p h => pairs_mem n2 n6 p (List.mem_reverse.mp h)
  obtain ⟨y2, y3, y4, y5, y6, y7, y8, y9, y10, e, pos, hn⟩ := out_loop (Y := Y) l.d l.t f l.n s (pairsI l.n).reverse [Z] none none none none none none none none none hp (by simp) (by simp [zl]) (fun a b e => Nat.le_trans (reachO_few hl e) (by decide))
  let H := reachO l.t (fun p => optL l.t (f p)) (pairsI l.n).reverse [Z]
  have s2 : sFor (Y := Y) (.t (.cons (.n 2) (.cons (.n 3) (.cons (.n 4) .nil)))) (gItL (gUn fRev (gFn 1 Pg.m__law_options (gK (gEsc (gV 0)) gN)))) l__law_reach_3 (RO l.d [Z] none none none none none none none none none) s = some (.nx, RO l.d H y2 y3 y4 y5 y6 y7 y8 y9 y10, s) := (for_run it).trans e
  let G : Ev := RO l.d H y2 y3 y4 y5 y6 y7 y8 y9 y10
  have hl2 : H.length ≤ 161051 := reachO_few hl (a := (pairsI l.n).reverse) (b := []) (by simp)
  have srt : gSrtV (Y := Y) (gV 1) G s = some (.ok (.o (.list (isortD (H.map hd)))), G, s) := by
    unfold gSrtV
    rw [bd_ok (Y := Y) (a := .v (FD H)) (Γ' := G) (s' := s) rfl]
    show (if (tbB (tbD (H.map Pg.keyH)) && (allAlike ((tbD (H.map Pg.keyH)).map (·.1)) && sortable ((tbD (H.map Pg.keyH)).map (·.1)) && ((tbD (H.map Pg.keyH)).map (·.1)).all (fun d => Nat.ble d.depth 60))) = true then some (Oc.ok (R.o (.list (isortD ((tbD (H.map Pg.keyH)).map (·.1))))), G, s) else none) = _
    rw [FD_keys, tbB_FD pos, srt_hd (fun x hx => by rw [hn x hx]; omega)]
    rfl
  have pm := isortD_perm (H.map hd)
  have c1 := gComp_each (Y := Y) (T := .n 6) (own := [6]) (ge := e__law_reach_4) (fun d : D => d) untup (itL_o (by rw [List.map_id']; exact srt)) (by rw [pm.length_eq, List.length_map]; omega) (fun d hd' => by
    obtain ⟨h, _, rfl⟩ := List.mem_map.mp (pm.mem_iff.mp hd')
    exact ⟨_, rfl, _, rfl, rfl⟩)
  refine ⟨(isortD (H.map hd)).map untup, by rw [List.length_map, pm.length_eq, List.length_map]; exact reach_len hl, fin_of ?_⟩
  unfold b__law_reach
  exact congrArg fin (nx_seq s1 (nx_seq s2 (ret_o c1)))
end
end FX.K25
set_option Elab.async false
set_option linter.all false
set_option maxRecDepth 100000
set_option maxHeartbeats 800000
namespace FX.K25
open PySem PySem.Spec L2 FX FX.Pg
theorem ne_lg (l : Lg) : fNe l.d l.d = some (.nw (.bool false)) := by
  simp [fNe, sh_lg, eqv_lg]
theorem rg_succ (lo m : Nat) : rangeD (lo : Nat) (m + 1) = .int (lo : Nat) :: rangeD ((lo + 1 : Nat) : Int) m := by
  unfold rangeD
  rw [List.range_succ_eq_map, List.map_cons, List.map_map]
  simp only [Int.natCast_zero, Int.add_zero, List.cons.injEq, true_and, List.map_inj_left, Function.comp]
  intro a _
  rw [show ((lo : Nat) : Int) + ((a.succ : Nat) : Int) = ((lo + 1 : Nat) : Int) + (a : Nat) by omega]
section
variable {K : PySem.W.Frag} {sa : Addr} {ns : List Int} {tb : List (Addr × Str)}
def TL (x2 x3 x4 x5 x6 x7 : Option R) : Ev := [some (.raw (.ref sa)), some (.h 0), x2, x3, x4, x5, x6, x7]
theorem again_loop (x2 : Option R) {l : Lg} (hl : l.Ok) (s : List Cell) : ∀ (ds : List D) (x6 x7 : Option R),
    ∃ y6 y7, forG (.n 6) (l_law_1 (K := K) (sa := sa) (ns := ns) (tb := tb)) ds (TL (sa := sa) x2 (some (.v l.d)) (some (.v l.d)) (some (.v (.int ((reachF l.t l.left [l.pts]).length : Nat)))) x6 x7) (cS s) = some (.nx, TL (sa := sa) x2 (some (.v l.d)) (some (.v l.d)) (some (.v (.int ((reachF l.t l.left [l.pts]).length : Nat)))) y6 y7, cS s)
  | [], x6, x7 => ⟨x6, x7, rfl⟩
  | d :: ds, x6, x7 => by
    let N : Int := ((reachF l.t l.left [l.pts]).length : Nat)
    let G (x6 x7 : Option R) : Ev := TL (sa := sa) x2 (some (.v l.d)) (some (.v l.d)) (some (.v (.int N))) x6 x7
    have s1 : sSet (Y := ClY K sa ns tb) 7 (gFn 1 Pg.m_count_points (gK (gEsc (gV 4)) gN)) (G (some (.v d)) x7) (cS s) = some (.nx, G (some (.v d)) (some (.v (.int N))), cS s) :=
      set_v (i := 7) (Γ' := G (some (.v d)) x7) (fn_v (gk_ok (gr := gN) (esc_v (d := l.d) rfl) rfl) rfl (count_all hl (cS s)))
    let H : Ev := G (some (.v d)) (some (.v (.int N)))
    have k1 : kitB "int" "int" = some true := by decide +kernel
    have k2 : kitB "int" "bool" = some false := by decide +kernel
    have i1 : gTst (Y := ClY K sa ns tb) (gIsI "int" (gV 7)) H (cS s) = some (.ok true, H, cS s) := by
      refine tst_of ?_
      unfold gIsI
      rw [bd_ok (Y := ClY K sa ns tb) (a := .v (.int N)) (Γ' := H) (s' := cS s) rfl]
      have e : isI (.int N) "int" = some true := k1
      show (match isI (.int N) "int" with | some b => some (Oc.ok (R.v (.bool b)), H, cS s) | none => none) = _
      rw [e]
    have i2 : gTst (Y := ClY K sa ns tb) (gIsI "bool" (gV 7)) H (cS s) = some (.ok false, H, cS s) := by
      refine tst_of ?_
      unfold gIsI
      rw [bd_ok (Y := ClY K sa ns tb) (a := .v (.int N)) (Γ' := H) (s' := cS s) rfl]
      have e : isI (.int N) "bool" = some false := k2
      show (match isI (.int N) "bool" with | some b => some (Oc.ok (R.v (.bool b)), H, cS s) | none => none) = _
      rw [e]
    have i3 : gTst (Y := ClY K sa ns tb) (gBin fNe (gV 7) (gV 5)) H (cS s) = some (.ok false, H, cS s) := tst_of (bin_of (f := fNe) (ra := .v (.int N)) (rb := .v (.int N)) (z := .nw (.bool false)) rfl rfl rfl rfl (by simp [fNe, shI, PyData.eqv]))
    have s2 : sIf (Y := ClY K sa ns tb) (gOr (gNot (gTst (gIsI "int" (gV 7)))) (gOr (gTst (gIsI "bool" (gV 7))) (gTst (gBin fNe (gV 7) (gV 5))))) (sRet (gC (.bool false))) sNil H (cS s) = some (.nx, H, cS s) := (if_no (or_f (not_ok i1) (or_f i2 i3))).trans rfl
    obtain ⟨y6, y7, e⟩ := again_loop x2 hl s ds (some (.v d)) (some (.v (.int N)))
    refine ⟨y6, y7, ?_⟩
    have body : l_law_1 (K := K) (sa := sa) (ns := ns) (tb := tb) (G (some (.v d)) x7) (cS s) = some (.nx, H, cS s) := by
      unfold l_law_1
      exact nx_seq s1 s2
    rw [forG_cons (Γ1 := G (some (.v d)) x7) rfl, body]
    exact e
theorem turn_ok (tn : Int) (x3 x4 x5 x6 x7 : Option R) {s : List Cell} (h : StD s 0) :
    ∃ (s' : List Cell) (y3 y4 y5 y6 y7 : Option R), StD s' 0 ∧ l_law_2 (K := K) (sa := sa) (ns := ns) (tb := tb) (TL (sa := sa) (some (.v (.int tn))) x3 x4 x5 x6 x7) (cS s) = some (.nx, TL (sa := sa) (some (.v (.int tn))) y3 y4 y5 y6 y7, cS s') := by
  let T : Option R := some (.v (.int tn))
  obtain ⟨l, s1, hl, h1, e1⟩ := leagueD_ok (K := K) (sa := sa) (ns := ns) (tb := tb) h
  have a1 : gEsc (Y := ClY K sa ns tb) (gV 1) (TL (sa := sa) T x3 x4 x5 x6 x7) (cS s) = some (.ok (.h 0), TL (sa := sa) T x3 x4 x5 x6 x7, cS s) := esc_h rfl
  have t1 : sSet (Y := ClY K sa ns tb) 3 (gFn 1 Pg.m__law_league (gK (gEsc (gV 1)) gN)) (TL (sa := sa) T x3 x4 x5 x6 x7) (cS s) = some (.nx, TL (sa := sa) T (some (.v l.d)) x4 x5 x6 x7, cS s1) := set_v (i := 3) (Γ' := TL (sa := sa) T x3 x4 x5 x6 x7) (fn_v (gk_ok (gr := gN) a1 rfl) rfl e1)
  let G : Ev := TL (sa := sa) T (some (.v l.d)) x4 x5 x6 x7
  obtain ⟨f, s2, hf, h2, t2⟩ : ∃ (f : Lg) (s2 : List Cell), f.Ok ∧ StD s2 0 ∧ sIf (Y := ClY K sa ns tb) (gAnd (gTst (gBin fGt (gV 2) (gC (.int 0)))) (gAnd (gTst (gBin fEq (gBin fIx (gV 3) (gC (.int 0))) (gC (.str (PySem.Str.ofString "ties"))))) (gTst (gBin fLt (gBin fAdd (gCall fLen (gK (gBin fIx (gV 3) (gC (.int 2))) gN)) (gC (.int 10))) (gCall fLen (gK (gFn 1 Pg.m__law_options (gK (gEsc (gV 3)) gN)) gN)))))) (sSet 3 (gFn 2 Pg.m__law_small (gK (gEsc (gV 1)) (gK (gEsc (gV 3)) gN)))) sNil G (cS s1) = some (.nx, TL (sa := sa) T (some (.v f.d)) x4 x5 x6 x7, cS s2) := by
    have b1 : gTst (Y := ClY K sa ns tb) (gBin fGt (gV 2) (gC (.int 0))) G (cS s1) = some (.ok (decide (0 < tn)), G, cS s1) := tst_of (bin_of (f := fGt) (ga := gV 2) (ra := .v (.int tn)) (rb := .v (.int 0)) (z := .nw (.bool (decide (0 < tn)))) rfl rfl rfl rfl (by simp [fGt]))
    have b2 : gTst (Y := ClY K sa ns tb) (gBin fEq (gBin fIx (gV 3) (gC (.int 0))) (gC (.str (PySem.Str.ofString "ties")))) G (cS s1) = some (.ok l.t, G, cS s1) := tst_of (bin_of (f := fEq) (ga := gBin fIx (gV 3) (gC (.int 0))) (ra := .v (.str (kindS l.t))) (rb := .v (.str (PySem.Str.ofString "ties"))) (z := .nw (.bool l.t)) rfl rfl rfl rfl (eq_ties l.t))
    have o1 : gFn (Y := ClY K sa ns tb) 1 Pg.m__law_options (gK (gEsc (gV 3)) gN) G (cS s1) = some (.ok (.o (.list ((pairsI l.n).map fun p => optD l.t p (lookE l.es p)))), G, cS s1) := fn_o (gk_ok (gr := gN) (esc_v (d := l.d) rfl) rfl) rfl (options_eq hl _)
    have o2 : gCall (Y := ClY K sa ns tb) fLen (gK (gFn 1 Pg.m__law_options (gK (gEsc (gV 3)) gN)) gN) G (cS s1) = some (.ok (.v (.int ((pairsI l.n).length : Nat))), G, cS s1) := call_ok (z := .nw (.int ((pairsI l.n).length : Nat))) (gk_ok (gr := gN) o1 rfl) (ds := [.list ((pairsI l.n).map fun p => optD l.t p (lookE l.es p))]) rfl (by simp [fLen])
    have o3 : gBin (Y := ClY K sa ns tb) fAdd (gCall fLen (gK (gBin fIx (gV 3) (gC (.int 2))) gN)) (gC (.int 10)) G (cS s1) = some (.ok (.v (.int ((l.pl.length : Nat) + 10))), G, cS s1) := rfl
    have b3 : gTst (Y := ClY K sa ns tb) (gBin fLt (gBin fAdd (gCall fLen (gK (gBin fIx (gV 3) (gC (.int 2))) gN)) (gC (.int 10))) (gCall fLen (gK (gFn 1 Pg.m__law_options (gK (gEsc (gV 3)) gN)) gN))) G (cS s1) = some (.ok (decide (((l.pl.length : Nat) : Int) + 10 < ((pairsI l.n).length : Nat))), G, cS s1) := tst_of (bin_of (f := fLt) (z := .nw (.bool (decide (((l.pl.length : Nat) : Int) + 10 < ((pairsI l.n).length : Nat))))) o3 o2 rfl rfl (by simp [fLt]))
    have tt := and_b b1 (and_b b2 b3)
    cases hc : (decide (0 < tn) && (l.t && decide (((l.pl.length : Nat) : Int) + 10 < ((pairsI l.n).length : Nat)))) with
    | true =>
      rw [hc] at tt
      obtain ⟨f, s2, hf, ft, fn, few, h2, e2⟩ := small_ok (K := K) (sa := sa) (ns := ns) (tb := tb) hl h1
      have a2 : gEsc (Y := ClY K sa ns tb) (gV 1) G (cS s1) = some (.ok (.h 0), G, cS s1) := esc_h rfl
      exact ⟨f, s2, hf, h2, (if_yes tt).trans (set_v (i := 3) (Γ' := G) (fn_v (gk_ok a2 (gk_ok (gr := gN) (esc_v (d := l.d) rfl) rfl)) rfl e2))⟩
    | false =>
      rw [hc] at tt
      exact ⟨l, s1, hl, h1, (if_no tt).trans rfl⟩
  let N : Int := ((reachF f.t f.left [f.pts]).length : Nat)
  have t3 : sSet (Y := ClY K sa ns tb) 4 (gFn 1 Pg.m__law_copy (gK (gEsc (gV 3)) gN)) (TL (sa := sa) T (some (.v f.d)) x4 x5 x6 x7) (cS s2) = some (.nx, TL (sa := sa) T (some (.v f.d)) (some (.v f.d)) x5 x6 x7, cS s2) := set_v (i := 4) (Γ' := TL (sa := sa) T (some (.v f.d)) x4 x5 x6 x7) (fn_v (gk_ok (gr := gN) (esc_v (d := f.d) rfl) rfl) rfl (copyD_eq f (cS s2)))
  obtain ⟨X, hX, eX⟩ := reach_eq (Y := ClY K sa ns tb) hf (cS s2)
  have r1 : gFn (Y := ClY K sa ns tb) 1 m__law_reach (gK (gEsc (gV 3)) gN) (TL (sa := sa) T (some (.v f.d)) (some (.v f.d)) x5 x6 x7) (cS s2) = some (.ok (.o (.list X)), TL (sa := sa) T (some (.v f.d)) (some (.v f.d)) x5 x6 x7, cS s2) := fn_o (gk_ok (gr := gN) (esc_v (d := f.d) rfl) rfl) rfl eX
  have t4 : sSet (Y := ClY K sa ns tb) 5 (gCall fLen (gK (gFn 1 m__law_reach (gK (gEsc (gV 3)) gN)) gN)) (TL (sa := sa) T (some (.v f.d)) (some (.v f.d)) x5 x6 x7) (cS s2) = some (.nx, TL (sa := sa) T (some (.v f.d)) (some (.v f.d)) (some (.v (.int N))) x6 x7, cS s2) := by
    refine set_v (i := 5) (Γ' := TL (sa := sa) T (some (.v f.d)) (some (.v f.d)) x5 x6 x7) ?_
    refine call_ok (z := .nw (.int N)) (gk_ok (gr := gN) r1 rfl) (ds := [.list X]) rfl ?_
    show some (Rz.nw (.int (X.length : Nat))) = _
    rw [hX]
  let H (x6 x7 : Option R) : Ev := TL (sa := sa) T (some (.v f.d)) (some (.v f.d)) (some (.v (.int N))) x6 x7
  have p1 : gBin (Y := ClY K sa ns tb) fPow (gC (.int 10)) (gC (.int 4)) (H x6 x7) (cS s2) = some (.ok (.v (.int 10000)), H x6 x7, cS s2) := bin_of (ra := .v (.int 10)) (rb := .v (.int 4)) (z := .nw (.int _)) rfl rfl rfl rfl rfl
  have p2 := bin_of (f := fGt) (ga := gV 5) (ra := .v (.int N)) (z := .nw (.bool (decide (10000 < N)))) (Γ := H x6 x7) (s := cS s2) rfl p1 rfl rfl (by simp [fGt])
  obtain ⟨q, it⟩ : ∃ q : Nat, gRg1 (Y := ClY K sa ns tb) (gK (gBin fSub (gC (.int 2)) (gCall fInt (gK (gBin fGt (gV 5) (gBin fPow (gC (.int 10)) (gC (.int 4)))) gN))) gN) (H x6 x7) (cS s2) = some (.ok (rangeD 0 q), H x6 x7, cS s2) := by
    by_cases hc : 10000 < N
    · rw [decide_eq_true hc] at p2
      have p3 : gCall (Y := ClY K sa ns tb) fInt (gK (gBin fGt (gV 5) (gBin fPow (gC (.int 10)) (gC (.int 4)))) gN) (H x6 x7) (cS s2) = some (.ok (.v (.int 1)), H x6 x7, cS s2) := call_ok (z := .nw (.int 1)) (gk_ok (gr := gN) p2 rfl) (ds := [.bool true]) rfl rfl
      have p4 := bin_of (f := fSub) (ga := gC (.int 2)) (ra := .v (.int 2)) (z := .nw (.int 1)) (Γ := H x6 x7) (s := cS s2) rfl p3 rfl rfl rfl
      refine ⟨1, ?_⟩
      unfold gRg1
      rw [bd_ok (gk_ok (gr := gN) p4 rfl)]
      rfl
    · rw [decide_eq_false hc] at p2
      have p3 : gCall (Y := ClY K sa ns tb) fInt (gK (gBin fGt (gV 5) (gBin fPow (gC (.int 10)) (gC (.int 4)))) gN) (H x6 x7) (cS s2) = some (.ok (.v (.int 0)), H x6 x7, cS s2) := call_ok (z := .nw (.int 0)) (gk_ok (gr := gN) p2 rfl) (ds := [.bool false]) rfl rfl
      have p4 := bin_of (f := fSub) (ga := gC (.int 2)) (ra := .v (.int 2)) (z := .nw (.int 2)) (Γ := H x6 x7) (s := cS s2) rfl p3 rfl rfl rfl
      refine ⟨2, ?_⟩
      unfold gRg1
      rw [bd_ok (gk_ok (gr := gN) p4 rfl)]
      rfl
  obtain ⟨y6, y7, e5⟩ := again_loop (K := K) (sa := sa) (ns := ns) (tb := tb) T hf s2 (rangeD 0 q) x6 x7
  have t5 : sFor (Y := ClY K sa ns tb) (.n 6) (gRg1 (gK (gBin fSub (gC (.int 2)) (gCall fInt (gK (gBin fGt (gV 5) (gBin fPow (gC (.int 10)) (gC (.int 4)))) gN))) gN)) l_law_1 (H x6 x7) (cS s2) = some (.nx, H y6 y7, cS s2) := (for_run it).trans e5
  have tt : gTst (Y := ClY K sa ns tb) (gBin fNe (gV 4) (gV 3)) (H y6 y7) (cS s2) = some (.ok false, H y6 y7, cS s2) := tst_of (bin_of (f := fNe) (ra := .v f.d) (rb := .v f.d) (z := .nw (.bool false)) rfl rfl rfl rfl (ne_lg f))
  refine ⟨s2, some (.v f.d), some (.v f.d), some (.v (.int N)), y6, y7, h2, ?_⟩
  unfold l_law_2
  exact nx_seq t1 (nx_seq t2 (nx_seq t3 (nx_seq t4 (nx_seq t5 ((if_no tt).trans rfl)))))
theorem turns : ∀ (m lo : Nat) (x2 x3 x4 x5 x6 x7 : Option R) {s : List Cell} (h : StD s 0),
    ∃ (s' : List Cell) (Γ' : Ev), forG (.n 2) (l_law_2 (K := K) (sa := sa) (ns := ns) (tb := tb)) (rangeD (lo : Nat) m) (TL (sa := sa) x2 x3 x4 x5 x6 x7) (cS s) = some (.nx, Γ', cS s')
  | 0, lo, x2, x3, x4, x5, x6, x7, s, h => ⟨s, _, rfl⟩
  | m + 1, lo, x2, x3, x4, x5, x6, x7, s, h => by
    obtain ⟨s1, y3, y4, y5, y6, y7, h1, e1⟩ := turn_ok (K := K) (sa := sa) (ns := ns) (tb := tb) (lo : Nat) x3 x4 x5 x6 x7 h
    obtain ⟨s2, Γ', e2⟩ := turns m (lo + 1) (some (.v (.int (lo : Nat)))) y3 y4 y5 y6 y7 h1
    refine ⟨s2, Γ', ?_⟩
    rw [rg_succ, forG_cons (Γ1 := TL (sa := sa) (some (.v (.int (lo : Nat)))) x3 x4 x5 x6 x7) rfl, e1]
    exact e2
theorem lstR {Y : Sys} {Γ Γ' : Ev} {s s' : Y.S} {gr : GA Y} {rs : List R} {ds : List D} (h : gr Γ s = some (.ok rs, Γ', s')) (e : vs? rs = some ds) (hz : sizeOk ds.length = true) : gLst gr Γ s = some (.ok (.o (.list ds)), Γ', s') := by
  unfold gLst
  rw [bd_ok h]
  simp only [e, hz, if_true]
theorem law_true (ns : List Int) (hn : ns.length ≤ 63) : ∃ s', m_law (K := K) (sa := sa) (ns := ns) (tb := tb) [.raw (.ref sa)] ([] : List Cell) = some (.ok (.v (.bool true)), s') := by
  rw [q_law]
  obtain ⟨ds, hd, e0⟩ := draws_ok (K := K) (sa := sa) (ns := ns) (tb := tb) hn 400 (by decide) (by decide) []
  let I : Ev := [some (.raw (.ref sa)), none, none, none, none, none, none, none]
  let s0 : List Cell := [.lst [.list (ds.map PyData.int), .int ((0 : Nat) : Int)]]
  have h0 : StD s0 0 := ⟨ds, 0, rfl, hd⟩
  have v0 : gEsc (Y := ClY K sa ns tb) (gV 0) I (cS []) = some (.ok (.raw (.ref sa)), I, cS []) := rfl
  have a1 : gFn (Y := ClY K sa ns tb) 2 Pg.m__law_draws (gK (gEsc (gV 0)) (gK (gEsc (gC (.int 400))) gN)) I (cS []) = some (.ok (.o (.list (ds.map PyData.int))), I, cS []) := fn_o (gk_ok v0 (gk_ok (gr := gN) (esc_v (d := .int 400) rfl) rfl)) rfl e0
  have a2 : gLst (Y := ClY K sa ns tb) (gK (gEsc (gFn 2 Pg.m__law_draws (gK (gEsc (gV 0)) (gK (gEsc (gC (.int 400))) gN)))) (gK (gEsc (gC (.int 0))) gN)) I (cS []) = some (.ok (.o (.list [.list (ds.map PyData.int), .int 0])), I, cS []) := lstR (gk_ok (esc_o a1) (gk_ok (gr := gN) (esc_v (d := .int 0) rfl) rfl)) rfl rfl
  have s1 : sSet (Y := ClY K sa ns tb) 1 (gCell (gLst (gK (gEsc (gFn 2 Pg.m__law_draws (gK (gEsc (gV 0)) (gK (gEsc (gC (.int 400))) gN)))) (gK (gEsc (gC (.int 0))) gN)))) I (cS []) = some (.nx, TL (sa := sa) none none none none none none, cS s0) := by
    have a3 : gCell (K := K) (sa := sa) (ns := ns) (T := tb) (gLst (gK (gEsc (gFn 2 Pg.m__law_draws (gK (gEsc (gV 0)) (gK (gEsc (gC (.int 400))) gN)))) (gK (gEsc (gC (.int 0))) gN))) I (cS []) = some (.ok (.h 0), I, cS s0) := (bd_ok (Y := ClY K sa ns tb) a2).trans rfl
    exact (bdS_ok (Y := ClY K sa ns tb) a3).trans rfl
  obtain ⟨s2, Γ', e2⟩ := turns (K := K) (sa := sa) (ns := ns) (tb := tb) 4 0 none none none none none none h0
  have it : gRg1 (Y := ClY K sa ns tb) (gK (gC (.int 4)) gN) (TL (sa := sa) none none none none none none) (cS s0) = some (.ok (rangeD ((0 : Nat) : Int) 4), TL (sa := sa) none none none none none none, cS s0) := rfl
  have s2' : sFor (Y := ClY K sa ns tb) (.n 2) (gRg1 (gK (gC (.int 4)) gN)) l_law_2 (TL (sa := sa) none none none none none none) (cS s0) = some (.nx, Γ', cS s2) := (for_run it).trans e2
  refine ⟨cS s2, fin_of ?_⟩
  unfold b_law
  exact congrArg fin (nx_seq s1 (nx_seq s2' (ret_v (d := .bool true) (Γ' := Γ') (s' := cS s2) rfl)))
end
end FX.K25
set_option Elab.async false
set_option linter.all false
set_option maxRecDepth 100000
set_option maxHeartbeats 4000000
namespace FX.K25
open PySem PySem.Spec L2 FX
theorem all_mk {l : PySem.W.OpenLaw} {w : World} {K : PySem.W.Frag} {h : Heap} {mg : Str → Option Value} {fa : Addr} (X : K.In h) (G : h.Ns mainGlobals mg) (hfa : mg "law" = some (.ref fa))
    {oc_is_whole kV_is_whole dc_is_whole pm_is_whole cd_is_whole ct_is_whole : Value} {od_is_whole an_is_whole : Option Addr} {sl_is_whole : Array (Option Value)} {f_is_whole : Addr}
    {oc_is_player kV_is_player dc_is_player pm_is_player cd_is_player ct_is_player : Value} {od_is_player an_is_player : Option Addr} {sl_is_player : Array (Option Value)} {f_is_player : Addr}
    {oc_is_tuple_of kV_is_tuple_of dc_is_tuple_of pm_is_tuple_of cd_is_tuple_of ct_is_tuple_of : Value} {od_is_tuple_of an_is_tuple_of : Option Addr} {sl_is_tuple_of : Array (Option Value)} {f_is_tuple_of : Addr}
    {oc_is_match kV_is_match dc_is_match pm_is_match cd_is_match ct_is_match : Value} {od_is_match an_is_match : Option Addr} {sl_is_match : Array (Option Value)} {f_is_match : Addr}
    {oc_is_outcome kV_is_outcome dc_is_outcome pm_is_outcome cd_is_outcome ct_is_outcome : Value} {od_is_outcome an_is_outcome : Option Addr} {sl_is_outcome : Array (Option Value)} {f_is_outcome : Addr}
    {oc__is_played kV__is_played dc__is_played pm__is_played cd__is_played ct__is_played : Value} {od__is_played an__is_played : Option Addr} {sl__is_played : Array (Option Value)} {f__is_played : Addr}
    {oc__are_played kV__are_played dc__are_played pm__are_played cd__are_played ct__are_played : Value} {od__are_played an__are_played : Option Addr} {sl__are_played : Array (Option Value)} {f__are_played : Addr}
    {oc_is_league kV_is_league dc_is_league pm_is_league cd_is_league ct_is_league : Value} {od_is_league an_is_league : Option Addr} {sl_is_league : Array (Option Value)} {f_is_league : Addr}
    {oc_check_league kV_check_league dc_check_league pm_check_league cd_check_league ct_check_league : Value} {od_check_league an_check_league : Option Addr} {sl_check_league : Array (Option Value)} {f_check_league : Addr}
    {oc_outcomes_in_order kV_outcomes_in_order dc_outcomes_in_order pm_outcomes_in_order cd_outcomes_in_order ct_outcomes_in_order : Value} {od_outcomes_in_order an_outcomes_in_order : Option Addr} {sl_outcomes_in_order : Array (Option Value)} {f_outcomes_in_order : Addr}
    {oc_shares_of kV_shares_of dc_shares_of pm_shares_of cd_shares_of ct_shares_of : Value} {od_shares_of an_shares_of : Option Addr} {sl_shares_of : Array (Option Value)} {f_shares_of : Addr}
    {oc_points_behind kV_points_behind dc_points_behind pm_points_behind cd_points_behind ct_points_behind : Value} {od_points_behind an_points_behind : Option Addr} {sl_points_behind : Array (Option Value)} {f_points_behind : Addr}
    {oc_matches_left kV_matches_left dc_matches_left pm_matches_left cd_matches_left ct_matches_left : Value} {od_matches_left an_matches_left : Option Addr} {sl_matches_left : Array (Option Value)} {f_matches_left : Addr}
    {oc_points_had kV_points_had dc_points_had pm_points_had cd_points_had ct_points_had : Value} {od_points_had an_points_had : Option Addr} {sl_points_had : Array (Option Value)} {f_points_had : Addr}
    {oc__points_at_first kV__points_at_first dc__points_at_first pm__points_at_first cd__points_at_first ct__points_at_first : Value} {od__points_at_first an__points_at_first : Option Addr} {sl__points_at_first : Array (Option Value)} {f__points_at_first : Addr}
    {oc__points_after kV__points_after dc__points_after pm__points_after cd__points_after ct__points_after : Value} {od__points_after an__points_after : Option Addr} {sl__points_after : Array (Option Value)} {f__points_after : Addr}
    {oc_count_points kV_count_points dc_count_points pm_count_points cd_count_points ct_count_points : Value} {od_count_points an_count_points : Option Addr} {sl_count_points : Array (Option Value)} {f_count_points : Addr}
    {oc__law_draws kV__law_draws dc__law_draws pm__law_draws cd__law_draws ct__law_draws : Value} {od__law_draws an__law_draws : Option Addr} {sl__law_draws : Array (Option Value)} {f__law_draws : Addr}
    {oc__law_take kV__law_take dc__law_take pm__law_take cd__law_take ct__law_take : Value} {od__law_take an__law_take : Option Addr} {sl__law_take : Array (Option Value)} {f__law_take : Addr}
    {oc__law_options kV__law_options dc__law_options pm__law_options cd__law_options ct__law_options : Value} {od__law_options an__law_options : Option Addr} {sl__law_options : Array (Option Value)} {f__law_options : Addr}
    {oc__law_drawn_end kV__law_drawn_end dc__law_drawn_end pm__law_drawn_end cd__law_drawn_end ct__law_drawn_end : Value} {od__law_drawn_end an__law_drawn_end : Option Addr} {sl__law_drawn_end : Array (Option Value)} {f__law_drawn_end : Addr}
    {oc__law_league kV__law_league dc__law_league pm__law_league cd__law_league ct__law_league : Value} {od__law_league an__law_league : Option Addr} {sl__law_league : Array (Option Value)} {f__law_league : Addr}
    {oc__law_copy kV__law_copy dc__law_copy pm__law_copy cd__law_copy ct__law_copy : Value} {od__law_copy an__law_copy : Option Addr} {sl__law_copy : Array (Option Value)} {f__law_copy : Addr}
    {oc__law_reach kV__law_reach dc__law_reach pm__law_reach cd__law_reach ct__law_reach : Value} {od__law_reach an__law_reach : Option Addr} {sl__law_reach : Array (Option Value)} {f__law_reach : Addr}
    {oc__law_small kV__law_small dc__law_small pm__law_small cd__law_small ct__law_small : Value} {od__law_small an__law_small : Option Addr} {sl__law_small : Array (Option Value)} {f__law_small : Addr}
    {oc_law kV_law dc_law pm_law cd_law ct_law : Value} {od_law an_law : Option Addr} {sl_law : Array (Option Value)} {f_law : Addr}
    {ct_FEWEST_PLAYERS : Tok}
    {ct_MOST_PLAYERS : Tok}
    {ca_WORTHS : Addr} {es_WORTHS : Array DictEntry} {en_WORTHS : Nat}
    {e_NoLeague : Addr}
    (a_is_whole : PySem.W.nsIn K mainGlobals "is_whole" = some (some (.ref f_is_whole)))
    (l_is_whole : K.lookup f_is_whole = some ⟨oc_is_whole, od_is_whole, .func (PySem.W.fnOf "is_whole" "is_whole" (defArgs s_is_whole) (defBody s_is_whole) (defScope s_is_whole) .none kV_is_whole dc_is_whole pm_is_whole an_is_whole cd_is_whole ct_is_whole), sl_is_whole⟩)
    (cc_is_whole : PySem.W.codeIn K cd_is_whole "is_whole" = true)
    (k_is_whole : PySem.W.keepIn K (.ref f_is_whole) = true)
    (a_is_player : PySem.W.nsIn K mainGlobals "is_player" = some (some (.ref f_is_player)))
    (l_is_player : K.lookup f_is_player = some ⟨oc_is_player, od_is_player, .func (PySem.W.fnOf "is_player" "is_player" (defArgs s_is_player) (defBody s_is_player) (defScope s_is_player) .none kV_is_player dc_is_player pm_is_player an_is_player cd_is_player ct_is_player), sl_is_player⟩)
    (cc_is_player : PySem.W.codeIn K cd_is_player "is_player" = true)
    (k_is_player : PySem.W.keepIn K (.ref f_is_player) = true)
    (a_is_tuple_of : PySem.W.nsIn K mainGlobals "is_tuple_of" = some (some (.ref f_is_tuple_of)))
    (l_is_tuple_of : K.lookup f_is_tuple_of = some ⟨oc_is_tuple_of, od_is_tuple_of, .func (PySem.W.fnOf "is_tuple_of" "is_tuple_of" (defArgs s_is_tuple_of) (defBody s_is_tuple_of) (defScope s_is_tuple_of) .none kV_is_tuple_of dc_is_tuple_of pm_is_tuple_of an_is_tuple_of cd_is_tuple_of ct_is_tuple_of), sl_is_tuple_of⟩)
    (cc_is_tuple_of : PySem.W.codeIn K cd_is_tuple_of "is_tuple_of" = true)
    (k_is_tuple_of : PySem.W.keepIn K (.ref f_is_tuple_of) = true)
    (a_is_match : PySem.W.nsIn K mainGlobals "is_match" = some (some (.ref f_is_match)))
    (l_is_match : K.lookup f_is_match = some ⟨oc_is_match, od_is_match, .func (PySem.W.fnOf "is_match" "is_match" (defArgs s_is_match) (defBody s_is_match) (defScope s_is_match) .none kV_is_match dc_is_match pm_is_match an_is_match cd_is_match ct_is_match), sl_is_match⟩)
    (cc_is_match : PySem.W.codeIn K cd_is_match "is_match" = true)
    (k_is_match : PySem.W.keepIn K (.ref f_is_match) = true)
    (a_is_outcome : PySem.W.nsIn K mainGlobals "is_outcome" = some (some (.ref f_is_outcome)))
    (l_is_outcome : K.lookup f_is_outcome = some ⟨oc_is_outcome, od_is_outcome, .func (PySem.W.fnOf "is_outcome" "is_outcome" (defArgs s_is_outcome) (defBody s_is_outcome) (defScope s_is_outcome) .none kV_is_outcome dc_is_outcome pm_is_outcome an_is_outcome cd_is_outcome ct_is_outcome), sl_is_outcome⟩)
    (cc_is_outcome : PySem.W.codeIn K cd_is_outcome "is_outcome" = true)
    (k_is_outcome : PySem.W.keepIn K (.ref f_is_outcome) = true)
    (a__is_played : PySem.W.nsIn K mainGlobals "_is_played" = some (some (.ref f__is_played)))
    (l__is_played : K.lookup f__is_played = some ⟨oc__is_played, od__is_played, .func (PySem.W.fnOf "_is_played" "_is_played" (defArgs s__is_played) (defBody s__is_played) (defScope s__is_played) .none kV__is_played dc__is_played pm__is_played an__is_played cd__is_played ct__is_played), sl__is_played⟩)
    (cc__is_played : PySem.W.codeIn K cd__is_played "_is_played" = true)
    (k__is_played : PySem.W.keepIn K (.ref f__is_played) = true)
    (a__are_played : PySem.W.nsIn K mainGlobals "_are_played" = some (some (.ref f__are_played)))
    (l__are_played : K.lookup f__are_played = some ⟨oc__are_played, od__are_played, .func (PySem.W.fnOf "_are_played" "_are_played" (defArgs s__are_played) (defBody s__are_played) (defScope s__are_played) .none kV__are_played dc__are_played pm__are_played an__are_played cd__are_played ct__are_played), sl__are_played⟩)
    (cc__are_played : PySem.W.codeIn K cd__are_played "_are_played" = true)
    (k__are_played : PySem.W.keepIn K (.ref f__are_played) = true)
    (a_is_league : PySem.W.nsIn K mainGlobals "is_league" = some (some (.ref f_is_league)))
    (l_is_league : K.lookup f_is_league = some ⟨oc_is_league, od_is_league, .func (PySem.W.fnOf "is_league" "is_league" (defArgs s_is_league) (defBody s_is_league) (defScope s_is_league) .none kV_is_league dc_is_league pm_is_league an_is_league cd_is_league ct_is_league), sl_is_league⟩)
    (cc_is_league : PySem.W.codeIn K cd_is_league "is_league" = true)
    (k_is_league : PySem.W.keepIn K (.ref f_is_league) = true)
    (a_check_league : PySem.W.nsIn K mainGlobals "check_league" = some (some (.ref f_check_league)))
    (l_check_league : K.lookup f_check_league = some ⟨oc_check_league, od_check_league, .func (PySem.W.fnOf "check_league" "check_league" (defArgs s_check_league) (defBody s_check_league) (defScope s_check_league) .none kV_check_league dc_check_league pm_check_league an_check_league cd_check_league ct_check_league), sl_check_league⟩)
    (cc_check_league : PySem.W.codeIn K cd_check_league "check_league" = true)
    (k_check_league : PySem.W.keepIn K (.ref f_check_league) = true)
    (a_outcomes_in_order : PySem.W.nsIn K mainGlobals "outcomes_in_order" = some (some (.ref f_outcomes_in_order)))
    (l_outcomes_in_order : K.lookup f_outcomes_in_order = some ⟨oc_outcomes_in_order, od_outcomes_in_order, .func (PySem.W.fnOf "outcomes_in_order" "outcomes_in_order" (defArgs s_outcomes_in_order) (defBody s_outcomes_in_order) (defScope s_outcomes_in_order) .none kV_outcomes_in_order dc_outcomes_in_order pm_outcomes_in_order an_outcomes_in_order cd_outcomes_in_order ct_outcomes_in_order), sl_outcomes_in_order⟩)
    (cc_outcomes_in_order : PySem.W.codeIn K cd_outcomes_in_order "outcomes_in_order" = true)
    (k_outcomes_in_order : PySem.W.keepIn K (.ref f_outcomes_in_order) = true)
    (a_shares_of : PySem.W.nsIn K mainGlobals "shares_of" = some (some (.ref f_shares_of)))
    (l_shares_of : K.lookup f_shares_of = some ⟨oc_shares_of, od_shares_of, .func (PySem.W.fnOf "shares_of" "shares_of" (defArgs s_shares_of) (defBody s_shares_of) (defScope s_shares_of) .none kV_shares_of dc_shares_of pm_shares_of an_shares_of cd_shares_of ct_shares_of), sl_shares_of⟩)
    (cc_shares_of : PySem.W.codeIn K cd_shares_of "shares_of" = true)
    (k_shares_of : PySem.W.keepIn K (.ref f_shares_of) = true)
    (a_points_behind : PySem.W.nsIn K mainGlobals "points_behind" = some (some (.ref f_points_behind)))
    (l_points_behind : K.lookup f_points_behind = some ⟨oc_points_behind, od_points_behind, .func (PySem.W.fnOf "points_behind" "points_behind" (defArgs s_points_behind) (defBody s_points_behind) (defScope s_points_behind) .none kV_points_behind dc_points_behind pm_points_behind an_points_behind cd_points_behind ct_points_behind), sl_points_behind⟩)
    (cc_points_behind : PySem.W.codeIn K cd_points_behind "points_behind" = true)
    (k_points_behind : PySem.W.keepIn K (.ref f_points_behind) = true)
    (a_matches_left : PySem.W.nsIn K mainGlobals "matches_left" = some (some (.ref f_matches_left)))
    (l_matches_left : K.lookup f_matches_left = some ⟨oc_matches_left, od_matches_left, .func (PySem.W.fnOf "matches_left" "matches_left" (defArgs s_matches_left) (defBody s_matches_left) (defScope s_matches_left) .none kV_matches_left dc_matches_left pm_matches_left an_matches_left cd_matches_left ct_matches_left), sl_matches_left⟩)
    (cc_matches_left : PySem.W.codeIn K cd_matches_left "matches_left" = true)
    (k_matches_left : PySem.W.keepIn K (.ref f_matches_left) = true)
    (a_points_had : PySem.W.nsIn K mainGlobals "points_had" = some (some (.ref f_points_had)))
    (l_points_had : K.lookup f_points_had = some ⟨oc_points_had, od_points_had, .func (PySem.W.fnOf "points_had" "points_had" (defArgs s_points_had) (defBody s_points_had) (defScope s_points_had) .none kV_points_had dc_points_had pm_points_had an_points_had cd_points_had ct_points_had), sl_points_had⟩)
    (cc_points_had : PySem.W.codeIn K cd_points_had "points_had" = true)
    (k_points_had : PySem.W.keepIn K (.ref f_points_had) = true)
    (a__points_at_first : PySem.W.nsIn K mainGlobals "_points_at_first" = some (some (.ref f__points_at_first)))
    (l__points_at_first : K.lookup f__points_at_first = some ⟨oc__points_at_first, od__points_at_first, .func (PySem.W.fnOf "_points_at_first" "_points_at_first" (defArgs s__points_at_first) (defBody s__points_at_first) (defScope s__points_at_first) .none kV__points_at_first dc__points_at_first pm__points_at_first an__points_at_first cd__points_at_first ct__points_at_first), sl__points_at_first⟩)
    (cc__points_at_first : PySem.W.codeIn K cd__points_at_first "_points_at_first" = true)
    (k__points_at_first : PySem.W.keepIn K (.ref f__points_at_first) = true)
    (a__points_after : PySem.W.nsIn K mainGlobals "_points_after" = some (some (.ref f__points_after)))
    (l__points_after : K.lookup f__points_after = some ⟨oc__points_after, od__points_after, .func (PySem.W.fnOf "_points_after" "_points_after" (defArgs s__points_after) (defBody s__points_after) (defScope s__points_after) .none kV__points_after dc__points_after pm__points_after an__points_after cd__points_after ct__points_after), sl__points_after⟩)
    (cc__points_after : PySem.W.codeIn K cd__points_after "_points_after" = true)
    (k__points_after : PySem.W.keepIn K (.ref f__points_after) = true)
    (a_count_points : PySem.W.nsIn K mainGlobals "count_points" = some (some (.ref f_count_points)))
    (l_count_points : K.lookup f_count_points = some ⟨oc_count_points, od_count_points, .func (PySem.W.fnOf "count_points" "count_points" (defArgs s_count_points) (defBody s_count_points) (defScope s_count_points) .none kV_count_points dc_count_points pm_count_points an_count_points cd_count_points ct_count_points), sl_count_points⟩)
    (cc_count_points : PySem.W.codeIn K cd_count_points "count_points" = true)
    (k_count_points : PySem.W.keepIn K (.ref f_count_points) = true)
    (a__law_draws : PySem.W.nsIn K mainGlobals "_law_draws" = some (some (.ref f__law_draws)))
    (l__law_draws : K.lookup f__law_draws = some ⟨oc__law_draws, od__law_draws, .func (PySem.W.fnOf "_law_draws" "_law_draws" (defArgs s__law_draws) (defBody s__law_draws) (defScope s__law_draws) .none kV__law_draws dc__law_draws pm__law_draws an__law_draws cd__law_draws ct__law_draws), sl__law_draws⟩)
    (cc__law_draws : PySem.W.codeIn K cd__law_draws "_law_draws" = true)
    (k__law_draws : PySem.W.keepIn K (.ref f__law_draws) = true)
    (a__law_take : PySem.W.nsIn K mainGlobals "_law_take" = some (some (.ref f__law_take)))
    (l__law_take : K.lookup f__law_take = some ⟨oc__law_take, od__law_take, .func (PySem.W.fnOf "_law_take" "_law_take" (defArgs s__law_take) (defBody s__law_take) (defScope s__law_take) .none kV__law_take dc__law_take pm__law_take an__law_take cd__law_take ct__law_take), sl__law_take⟩)
    (cc__law_take : PySem.W.codeIn K cd__law_take "_law_take" = true)
    (k__law_take : PySem.W.keepIn K (.ref f__law_take) = true)
    (a__law_options : PySem.W.nsIn K mainGlobals "_law_options" = some (some (.ref f__law_options)))
    (l__law_options : K.lookup f__law_options = some ⟨oc__law_options, od__law_options, .func (PySem.W.fnOf "_law_options" "_law_options" (defArgs s__law_options) (defBody s__law_options) (defScope s__law_options) .none kV__law_options dc__law_options pm__law_options an__law_options cd__law_options ct__law_options), sl__law_options⟩)
    (cc__law_options : PySem.W.codeIn K cd__law_options "_law_options" = true)
    (k__law_options : PySem.W.keepIn K (.ref f__law_options) = true)
    (a__law_drawn_end : PySem.W.nsIn K mainGlobals "_law_drawn_end" = some (some (.ref f__law_drawn_end)))
    (l__law_drawn_end : K.lookup f__law_drawn_end = some ⟨oc__law_drawn_end, od__law_drawn_end, .func (PySem.W.fnOf "_law_drawn_end" "_law_drawn_end" (defArgs s__law_drawn_end) (defBody s__law_drawn_end) (defScope s__law_drawn_end) .none kV__law_drawn_end dc__law_drawn_end pm__law_drawn_end an__law_drawn_end cd__law_drawn_end ct__law_drawn_end), sl__law_drawn_end⟩)
    (cc__law_drawn_end : PySem.W.codeIn K cd__law_drawn_end "_law_drawn_end" = true)
    (k__law_drawn_end : PySem.W.keepIn K (.ref f__law_drawn_end) = true)
    (a__law_league : PySem.W.nsIn K mainGlobals "_law_league" = some (some (.ref f__law_league)))
    (l__law_league : K.lookup f__law_league = some ⟨oc__law_league, od__law_league, .func (PySem.W.fnOf "_law_league" "_law_league" (defArgs s__law_league) (defBody s__law_league) (defScope s__law_league) .none kV__law_league dc__law_league pm__law_league an__law_league cd__law_league ct__law_league), sl__law_league⟩)
    (cc__law_league : PySem.W.codeIn K cd__law_league "_law_league" = true)
    (k__law_league : PySem.W.keepIn K (.ref f__law_league) = true)
    (a__law_copy : PySem.W.nsIn K mainGlobals "_law_copy" = some (some (.ref f__law_copy)))
    (l__law_copy : K.lookup f__law_copy = some ⟨oc__law_copy, od__law_copy, .func (PySem.W.fnOf "_law_copy" "_law_copy" (defArgs s__law_copy) (defBody s__law_copy) (defScope s__law_copy) .none kV__law_copy dc__law_copy pm__law_copy an__law_copy cd__law_copy ct__law_copy), sl__law_copy⟩)
    (cc__law_copy : PySem.W.codeIn K cd__law_copy "_law_copy" = true)
    (k__law_copy : PySem.W.keepIn K (.ref f__law_copy) = true)
    (a__law_reach : PySem.W.nsIn K mainGlobals "_law_reach" = some (some (.ref f__law_reach)))
    (l__law_reach : K.lookup f__law_reach = some ⟨oc__law_reach, od__law_reach, .func (PySem.W.fnOf "_law_reach" "_law_reach" (defArgs s__law_reach) (defBody s__law_reach) (defScope s__law_reach) .none kV__law_reach dc__law_reach pm__law_reach an__law_reach cd__law_reach ct__law_reach), sl__law_reach⟩)
    (cc__law_reach : PySem.W.codeIn K cd__law_reach "_law_reach" = true)
    (k__law_reach : PySem.W.keepIn K (.ref f__law_reach) = true)
    (a__law_small : PySem.W.nsIn K mainGlobals "_law_small" = some (some (.ref f__law_small)))
    (l__law_small : K.lookup f__law_small = some ⟨oc__law_small, od__law_small, .func (PySem.W.fnOf "_law_small" "_law_small" (defArgs s__law_small) (defBody s__law_small) (defScope s__law_small) .none kV__law_small dc__law_small pm__law_small an__law_small cd__law_small ct__law_small), sl__law_small⟩)
    (cc__law_small : PySem.W.codeIn K cd__law_small "_law_small" = true)
    (k__law_small : PySem.W.keepIn K (.ref f__law_small) = true)
    (a_law : PySem.W.nsIn K mainGlobals "law" = some (some (.ref f_law)))
    (l_law : K.lookup f_law = some ⟨oc_law, od_law, .func (PySem.W.fnOf "law" "law" (defArgs s_law) (defBody s_law) (defScope s_law) .none kV_law dc_law pm_law an_law cd_law ct_law), sl_law⟩)
    (cc_law : PySem.W.codeIn K cd_law "law" = true)
    (k_law : PySem.W.keepIn K (.ref f_law) = true)
    (c_FEWEST_PLAYERS : PySem.W.nsIn K mainGlobals "FEWEST_PLAYERS" = some (some (.int 2 ct_FEWEST_PLAYERS)))
    (c_MOST_PLAYERS : PySem.W.nsIn K mainGlobals "MOST_PLAYERS" = some (some (.int 6 ct_MOST_PLAYERS)))
    (c_WORTHS : PySem.W.nsIn K mainGlobals "WORTHS" = some (some (.ref ca_WORTHS)))
    (cl_WORTHS : K.lookup ca_WORTHS = some ⟨.type "dict", none, .dict es_WORTHS en_WORTHS, #[]⟩)
    (ck_WORTHS : PySem.W.KeysLit w.params es_WORTHS.toList)
    (cs_WORTHS : (ca_WORTHS == sysModules) = false)
    (ce_WORTHS : TabOk es_WORTHS.toList FX.Pg.t_WORTHS)
    (i_combinations : PySem.W.nsIn K mainGlobals "combinations" = some (some (.type "itertools.combinations")))
    (z_abs : PySem.W.nsIn K mainGlobals "abs" = some none)
    (z_bool : PySem.W.nsIn K mainGlobals "bool" = some none)
    (z_enumerate : PySem.W.nsIn K mainGlobals "enumerate" = some none)
    (z_int : PySem.W.nsIn K mainGlobals "int" = some none)
    (z_isinstance : PySem.W.nsIn K mainGlobals "isinstance" = some none)
    (z_len : PySem.W.nsIn K mainGlobals "len" = some none)
    (z_list : PySem.W.nsIn K mainGlobals "list" = some none)
    (z_max : PySem.W.nsIn K mainGlobals "max" = some none)
    (z_min : PySem.W.nsIn K mainGlobals "min" = some none)
    (z_range : PySem.W.nsIn K mainGlobals "range" = some none)
    (z_sorted : PySem.W.nsIn K mainGlobals "sorted" = some none)
    (z_str : PySem.W.nsIn K mainGlobals "str" = some none)
    (z_tuple : PySem.W.nsIn K mainGlobals "tuple" = some none)
    (z_type : PySem.W.nsIn K mainGlobals "type" = some none)
    (eg_NoLeague : PySem.W.nsIn K mainGlobals "NoLeague" = some (some (.ref e_NoLeague)))
    (ehn : PySem.W.specialIn K (.builtin "object.__class__") "__get__" = some (some (.builtin "getset_descriptor.__get__")))
    (eht : PySem.W.takesIn K (.builtin "object.__class__") = some true)
    (ex_NoLeague : PySem.W.excIn K e_NoLeague [.type "ValueError", .type "Exception", .type "BaseException", .type "object"] "ValueError.__new__" = true)
    (ek_NoLeague : PySem.W.keepIn K (.ref e_NoLeague) = true)
    (et_NoLeague : PySem.W.typeIn K (.ref e_NoLeague) = some (.type "type"))
    (ehg_NoLeague : PySem.W.findIn K (.ref e_NoLeague) "__getattribute__" = some (some (.builtin "BaseException.__getattribute__")))
    (ehk_NoLeague : PySem.W.findIn K (.ref e_NoLeague) "__getattr__" = some none)
    (ehs_NoLeague : PySem.W.subIn K (.ref e_NoLeague) (.type "BaseException") = some true)
    (ehd_NoLeague : PySem.W.hasDictIn K e_NoLeague = true)
    (eha_NoLeague : PySem.W.findIn K (.ref e_NoLeague) "__class__" = some (some (.builtin "object.__class__")))
    (ehm_NoLeague : PySem.W.mroIn K e_NoLeague (.type "object") = some true) :
    ∃ fd : FuncData, (∀ (s : Shared) (v : Value), BindsTo s fd ⟨[v], []⟩ [("script", v)]) ∧ ∀ base : Heap, K.In base → base.Ns mainGlobals mg → FnOk l.prog w K mg base (L2.CX l.prog w) 11 fa fd ["script"] (FX.spLaw K) := by
  have e := hfa.symm.trans (PySem.W.mg_of X G a_law)
  cases e
  have T : Txt K w mg := {
    a_is_whole := f_is_whole, d_is_whole := _, F_is_whole := fun_mk (st := s_is_whole) l_is_whole cc_is_whole k_is_whole, g_is_whole := PySem.W.mg_of X G a_is_whole,
    b_is_whole := (fun_mk (st := s_is_whole) l_is_whole cc_is_whole k_is_whole).binds (ps := ["thing"]) (fun _ _ _ _ _ _ us hl => match us, hl with | [_], _ => rfl),
    a_is_player := f_is_player, d_is_player := _, F_is_player := fun_mk (st := s_is_player) l_is_player cc_is_player k_is_player, g_is_player := PySem.W.mg_of X G a_is_player,
    b_is_player := (fun_mk (st := s_is_player) l_is_player cc_is_player k_is_player).binds (ps := ["thing", "n"]) (fun _ _ _ _ _ _ us hl => match us, hl with | [_, _], _ => rfl),
    a_is_tuple_of := f_is_tuple_of, d_is_tuple_of := _, F_is_tuple_of := fun_mk (st := s_is_tuple_of) l_is_tuple_of cc_is_tuple_of k_is_tuple_of, g_is_tuple_of := PySem.W.mg_of X G a_is_tuple_of,
    b_is_tuple_of := (fun_mk (st := s_is_tuple_of) l_is_tuple_of cc_is_tuple_of k_is_tuple_of).binds (ps := ["thing", "size"]) (fun _ _ _ _ _ _ us hl => match us, hl with | [_, _], _ => rfl),
    a_is_match := f_is_match, d_is_match := _, F_is_match := fun_mk (st := s_is_match) l_is_match cc_is_match k_is_match, g_is_match := PySem.W.mg_of X G a_is_match,
    b_is_match := (fun_mk (st := s_is_match) l_is_match cc_is_match k_is_match).binds (ps := ["n", "i", "j"]) (fun _ _ _ _ _ _ us hl => match us, hl with | [_, _, _], _ => rfl),
    a_is_outcome := f_is_outcome, d_is_outcome := _, F_is_outcome := fun_mk (st := s_is_outcome) l_is_outcome cc_is_outcome k_is_outcome, g_is_outcome := PySem.W.mg_of X G a_is_outcome,
    b_is_outcome := (fun_mk (st := s_is_outcome) l_is_outcome cc_is_outcome k_is_outcome).binds (ps := ["kind", "i", "j", "w"]) (fun _ _ _ _ _ _ us hl => match us, hl with | [_, _, _, _], _ => rfl),
    a__is_played := f__is_played, d__is_played := _, F__is_played := fun_mk (st := s__is_played) l__is_played cc__is_played k__is_played, g__is_played := PySem.W.mg_of X G a__is_played,
    b__is_played := (fun_mk (st := s__is_played) l__is_played cc__is_played k__is_played).binds (ps := ["kind", "n", "match"]) (fun _ _ _ _ _ _ us hl => match us, hl with | [_, _, _], _ => rfl),
    a__are_played := f__are_played, d__are_played := _, F__are_played := fun_mk (st := s__are_played) l__are_played cc__are_played k__are_played, g__are_played := PySem.W.mg_of X G a__are_played,
    b__are_played := (fun_mk (st := s__are_played) l__are_played cc__are_played k__are_played).binds (ps := ["kind", "n", "played"]) (fun _ _ _ _ _ _ us hl => match us, hl with | [_, _, _], _ => rfl),
    a_is_league := f_is_league, d_is_league := _, F_is_league := fun_mk (st := s_is_league) l_is_league cc_is_league k_is_league, g_is_league := PySem.W.mg_of X G a_is_league,
    b_is_league := (fun_mk (st := s_is_league) l_is_league cc_is_league k_is_league).binds (ps := ["thing"]) (fun _ _ _ _ _ _ us hl => match us, hl with | [_], _ => rfl),
    a_check_league := f_check_league, d_check_league := _, F_check_league := fun_mk (st := s_check_league) l_check_league cc_check_league k_check_league, g_check_league := PySem.W.mg_of X G a_check_league,
    b_check_league := (fun_mk (st := s_check_league) l_check_league cc_check_league k_check_league).binds (ps := ["league"]) (fun _ _ _ _ _ _ us hl => match us, hl with | [_], _ => rfl),
    a_outcomes_in_order := f_outcomes_in_order, d_outcomes_in_order := _, F_outcomes_in_order := fun_mk (st := s_outcomes_in_order) l_outcomes_in_order cc_outcomes_in_order k_outcomes_in_order, g_outcomes_in_order := PySem.W.mg_of X G a_outcomes_in_order,
    b_outcomes_in_order := (fun_mk (st := s_outcomes_in_order) l_outcomes_in_order cc_outcomes_in_order k_outcomes_in_order).binds (ps := ["kind", "i", "j"]) (fun _ _ _ _ _ _ us hl => match us, hl with | [_, _, _], _ => rfl),
    a_shares_of := f_shares_of, d_shares_of := _, F_shares_of := fun_mk (st := s_shares_of) l_shares_of cc_shares_of k_shares_of, g_shares_of := PySem.W.mg_of X G a_shares_of,
    b_shares_of := (fun_mk (st := s_shares_of) l_shares_of cc_shares_of k_shares_of).binds (ps := ["kind", "i", "w"]) (fun _ _ _ _ _ _ us hl => match us, hl with | [_, _, _], _ => rfl),
    a_points_behind := f_points_behind, d_points_behind := _, F_points_behind := fun_mk (st := s_points_behind) l_points_behind cc_points_behind k_points_behind, g_points_behind := PySem.W.mg_of X G a_points_behind,
    b_points_behind := (fun_mk (st := s_points_behind) l_points_behind cc_points_behind k_points_behind).binds (ps := ["points", "i", "j", "shares"]) (fun _ _ _ _ _ _ us hl => match us, hl with | [_, _, _, _], _ => rfl),
    a_matches_left := f_matches_left, d_matches_left := _, F_matches_left := fun_mk (st := s_matches_left) l_matches_left cc_matches_left k_matches_left, g_matches_left := PySem.W.mg_of X G a_matches_left,
    b_matches_left := (fun_mk (st := s_matches_left) l_matches_left cc_matches_left k_matches_left).binds (ps := ["league"]) (fun _ _ _ _ _ _ us hl => match us, hl with | [_], _ => rfl),
    a_points_had := f_points_had, d_points_had := _, F_points_had := fun_mk (st := s_points_had) l_points_had cc_points_had k_points_had, g_points_had := PySem.W.mg_of X G a_points_had,
    b_points_had := (fun_mk (st := s_points_had) l_points_had cc_points_had k_points_had).binds (ps := ["league"]) (fun _ _ _ _ _ _ us hl => match us, hl with | [_], _ => rfl),
    a__points_at_first := f__points_at_first, d__points_at_first := _, F__points_at_first := fun_mk (st := s__points_at_first) l__points_at_first cc__points_at_first k__points_at_first, g__points_at_first := PySem.W.mg_of X G a__points_at_first,
    b__points_at_first := (fun_mk (st := s__points_at_first) l__points_at_first cc__points_at_first k__points_at_first).binds (ps := ["league"]) (fun _ _ _ _ _ _ us hl => match us, hl with | [_], _ => rfl),
    a__points_after := f__points_after, d__points_after := _, F__points_after := fun_mk (st := s__points_after) l__points_after cc__points_after k__points_after, g__points_after := PySem.W.mg_of X G a__points_after,
    b__points_after := (fun_mk (st := s__points_after) l__points_after cc__points_after k__points_after).binds (ps := ["kind", "found", "match"]) (fun _ _ _ _ _ _ us hl => match us, hl with | [_, _, _], _ => rfl),
    a_count_points := f_count_points, d_count_points := _, F_count_points := fun_mk (st := s_count_points) l_count_points cc_count_points k_count_points, g_count_points := PySem.W.mg_of X G a_count_points,
    b_count_points := (fun_mk (st := s_count_points) l_count_points cc_count_points k_count_points).binds (ps := ["league"]) (fun _ _ _ _ _ _ us hl => match us, hl with | [_], _ => rfl),
    a__law_draws := f__law_draws, d__law_draws := _, F__law_draws := fun_mk (st := s__law_draws) l__law_draws cc__law_draws k__law_draws, g__law_draws := PySem.W.mg_of X G a__law_draws,
    b__law_draws := (fun_mk (st := s__law_draws) l__law_draws cc__law_draws k__law_draws).binds (ps := ["script", "many"]) (fun _ _ _ _ _ _ us hl => match us, hl with | [_, _], _ => rfl),
    a__law_take := f__law_take, d__law_take := _, F__law_take := fun_mk (st := s__law_take) l__law_take cc__law_take k__law_take, g__law_take := PySem.W.mg_of X G a__law_take,
    b__law_take := (fun_mk (st := s__law_take) l__law_take cc__law_take k__law_take).binds (ps := ["store", "many"]) (fun _ _ _ _ _ _ us hl => match us, hl with | [_, _], _ => rfl),
    a__law_options := f__law_options, d__law_options := _, F__law_options := fun_mk (st := s__law_options) l__law_options cc__law_options k__law_options, g__law_options := PySem.W.mg_of X G a__law_options,
    b__law_options := (fun_mk (st := s__law_options) l__law_options cc__law_options k__law_options).binds (ps := ["league"]) (fun _ _ _ _ _ _ us hl => match us, hl with | [_], _ => rfl),
    a__law_drawn_end := f__law_drawn_end, d__law_drawn_end := _, F__law_drawn_end := fun_mk (st := s__law_drawn_end) l__law_drawn_end cc__law_drawn_end k__law_drawn_end, g__law_drawn_end := PySem.W.mg_of X G a__law_drawn_end,
    b__law_drawn_end := (fun_mk (st := s__law_drawn_end) l__law_drawn_end cc__law_drawn_end k__law_drawn_end).binds (ps := ["store", "league"]) (fun _ _ _ _ _ _ us hl => match us, hl with | [_, _], _ => rfl),
    a__law_league := f__law_league, d__law_league := _, F__law_league := fun_mk (st := s__law_league) l__law_league cc__law_league k__law_league, g__law_league := PySem.W.mg_of X G a__law_league,
    b__law_league := (fun_mk (st := s__law_league) l__law_league cc__law_league k__law_league).binds (ps := ["store"]) (fun _ _ _ _ _ _ us hl => match us, hl with | [_], _ => rfl),
    a__law_copy := f__law_copy, d__law_copy := _, F__law_copy := fun_mk (st := s__law_copy) l__law_copy cc__law_copy k__law_copy, g__law_copy := PySem.W.mg_of X G a__law_copy,
    b__law_copy := (fun_mk (st := s__law_copy) l__law_copy cc__law_copy k__law_copy).binds (ps := ["league"]) (fun _ _ _ _ _ _ us hl => match us, hl with | [_], _ => rfl),
    a__law_reach := f__law_reach, d__law_reach := _, F__law_reach := fun_mk (st := s__law_reach) l__law_reach cc__law_reach k__law_reach, g__law_reach := PySem.W.mg_of X G a__law_reach,
    b__law_reach := (fun_mk (st := s__law_reach) l__law_reach cc__law_reach k__law_reach).binds (ps := ["league"]) (fun _ _ _ _ _ _ us hl => match us, hl with | [_], _ => rfl),
    a__law_small := f__law_small, d__law_small := _, F__law_small := fun_mk (st := s__law_small) l__law_small cc__law_small k__law_small, g__law_small := PySem.W.mg_of X G a__law_small,
    b__law_small := (fun_mk (st := s__law_small) l__law_small cc__law_small k__law_small).binds (ps := ["store", "league"]) (fun _ _ _ _ _ _ us hl => match us, hl with | [_, _], _ => rfl),
    a_law := fa, d_law := _, F_law := fun_mk (st := s_law) l_law cc_law k_law, g_law := PySem.W.mg_of X G a_law,
    b_law := (fun_mk (st := s_law) l_law cc_law k_law).binds (ps := ["script"]) (fun _ _ _ _ _ _ us hl => match us, hl with | [_], _ => rfl),
    ct_FEWEST_PLAYERS := ct_FEWEST_PLAYERS, c_FEWEST_PLAYERS := PySem.W.mg_of X G c_FEWEST_PLAYERS,
    ct_MOST_PLAYERS := ct_MOST_PLAYERS, c_MOST_PLAYERS := PySem.W.mg_of X G c_MOST_PLAYERS,
    ca_WORTHS := ca_WORTHS, c_WORTHS := PySem.W.mg_of X G c_WORTHS,
    t_WORTHS := ktab_mk ⟨cl_WORTHS, ck_WORTHS, cs_WORTHS⟩ ce_WORTHS,
    i_combinations := PySem.W.mg_of X G i_combinations,
    z_abs := PySem.W.mg_none_of X G z_abs,
    z_bool := PySem.W.mg_none_of X G z_bool,
    z_enumerate := PySem.W.mg_none_of X G z_enumerate,
    z_int := PySem.W.mg_none_of X G z_int,
    z_isinstance := PySem.W.mg_none_of X G z_isinstance,
    z_len := PySem.W.mg_none_of X G z_len,
    z_list := PySem.W.mg_none_of X G z_list,
    z_max := PySem.W.mg_none_of X G z_max,
    z_min := PySem.W.mg_none_of X G z_min,
    z_range := PySem.W.mg_none_of X G z_range,
    z_sorted := PySem.W.mg_none_of X G z_sorted,
    z_str := PySem.W.mg_none_of X G z_str,
    z_tuple := PySem.W.mg_none_of X G z_tuple,
    z_type := PySem.W.mg_none_of X G z_type,
    ea_NoLeague := e_NoLeague, eg_NoLeague := PySem.W.mg_of X G eg_NoLeague,
    E_NoLeague := ⟨eg_NoLeague, ex_NoLeague, ek_NoLeague, ehs_NoLeague, et_NoLeague, ⟨ehg_NoLeague, ehk_NoLeague, ehs_NoLeague, ehd_NoLeague, eha_NoLeague, ehn, eht, ehm_NoLeague⟩⟩ }
  have ea : T.a_law = fa := by
    have z := T.g_law.symm.trans hfa
    injection z with z
    injection z
  obtain ⟨_, _, _, _, _, _, _, _, _, hfd, _⟩ := T.F_law.ex
  refine ⟨T.d_law, fun s v => ?_, fun base kb nb => by rw [← ea]; exact FX.law_ofML (m := fun sa ns => m_law) (fun sa ns h => law_true ns h) rfl fun sa ns => ok_law T⟩
  rw [hfd]
  exact BindsTo.of_eq rfl
end FX.K25
open PySem PySem.W PyProof.Rows
set_option maxHeartbeats 0 in
theorem PySem.Challenge.cw_wintold_k25_points_counted_holds : PySem.Challenge.rw_wintold_k25_points_counted.Holds := by
  w_on; o_law; k_head; (case hw => w_witness2)
  k_fill
  refine L2.walk_of (l := PySem.Challenge.rw_wintold_k25_points_counted) (n := 63) (k := 11) (x := "script") (CX := fun w => L2.CX (PySem.Challenge.rw_wintold_k25_points_counted).prog w) (sp := fun w => FX.spLaw _) rfl (by decide) rfl ⟨rfl, by decide, by decide⟩ (fun w h Y => PySem.W.kIn_of Y) ?F (fun _ _ a ns hl _ hS => ⟨a, ns, rfl, hS, hl, fun _ => rfl⟩) (fun w H s e s' h => by obtain ⟨_, _, _, _, _, _, _, _, _, _, _, _, z⟩ := h; exact z)
  case F =>
    intro w mg fa h KX G hmg
    refine' FX.K25.all_mk KX G hmg ?a_is_whole ?l_is_whole ?cc_is_whole ?k_is_whole ?a_is_player ?l_is_player ?cc_is_player ?k_is_player ?a_is_tuple_of ?l_is_tuple_of ?cc_is_tuple_of ?k_is_tuple_of ?a_is_match ?l_is_match ?cc_is_match ?k_is_match ?a_is_outcome ?l_is_outcome ?cc_is_outcome ?k_is_outcome ?a__is_played ?l__is_played ?cc__is_played ?k__is_played ?a__are_played ?l__are_played ?cc__are_played ?k__are_played ?a_is_league ?l_is_league ?cc_is_league ?k_is_league ?a_check_league ?l_check_league ?cc_check_league ?k_check_league ?a_outcomes_in_order ?l_outcomes_in_order ?cc_outcomes_in_order ?k_outcomes_in_order ?a_shares_of ?l_shares_of ?cc_shares_of ?k_shares_of ?a_points_behind ?l_points_behind ?cc_points_behind ?k_points_behind ?a_matches_left ?l_matches_left ?cc_matches_left ?k_matches_left ?a_points_had ?l_points_had ?cc_points_had ?k_points_had ?a__points_at_first ?l__points_at_first ?cc__points_at_first ?k__points_at_first ?a__points_after ?l__points_after ?cc__points_after ?k__points_after ?a_count_points ?l_count_points ?cc_count_points ?k_count_points ?a__law_draws ?l__law_draws ?cc__law_draws ?k__law_draws ?a__law_take ?l__law_take ?cc__law_take ?k__law_take ?a__law_options ?l__law_options ?cc__law_options ?k__law_options ?a__law_drawn_end ?l__law_drawn_end ?cc__law_drawn_end ?k__law_drawn_end ?a__law_league ?l__law_league ?cc__law_league ?k__law_league ?a__law_copy ?l__law_copy ?cc__law_copy ?k__law_copy ?a__law_reach ?l__law_reach ?cc__law_reach ?k__law_reach ?a__law_small ?l__law_small ?cc__law_small ?k__law_small ?a_law ?l_law ?cc_law ?k_law ?c_FEWEST_PLAYERS ?c_MOST_PLAYERS ?c_WORTHS ?cl_WORTHS ?ck_WORTHS ?cs_WORTHS ?ce_WORTHS ?i_combinations ?z_abs ?z_bool ?z_enumerate ?z_int ?z_isinstance ?z_len ?z_list ?z_max ?z_min ?z_range ?z_sorted ?z_str ?z_tuple ?z_type ?eg_NoLeague ?ehn ?eht ?ex_NoLeague ?ek_NoLeague ?et_NoLeague ?ehg_NoLeague ?ehk_NoLeague ?ehs_NoLeague ?ehd_NoLeague ?eha_NoLeague ?ehm_NoLeague
    (case a_is_whole => k_is)
    (case l_is_whole => k_is)
    (case cc_is_whole => k_is)
    (case k_is_whole => k_is)
    (case a_is_player => k_is)
    (case l_is_player => k_is)
    (case cc_is_player => k_is)
    (case k_is_player => k_is)
    (case a_is_tuple_of => k_is)
    (case l_is_tuple_of => k_is)
    (case cc_is_tuple_of => k_is)
    (case k_is_tuple_of => k_is)
    (case a_is_match => k_is)
    (case l_is_match => k_is)
    (case cc_is_match => k_is)
    (case k_is_match => k_is)
    (case a_is_outcome => k_is)
    (case l_is_outcome => k_is)
    (case cc_is_outcome => k_is)
    (case k_is_outcome => k_is)
    (case a__is_played => k_is)
    (case l__is_played => k_is)
    (case cc__is_played => k_is)
    (case k__is_played => k_is)
    (case a__are_played => k_is)
    (case l__are_played => k_is)
    (case cc__are_played => k_is)
    (case k__are_played => k_is)
    (case a_is_league => k_is)
    (case l_is_league => k_is)
    (case cc_is_league => k_is)
    (case k_is_league => k_is)
    (case a_check_league => k_is)
    (case l_check_league => k_is)
    (case cc_check_league => k_is)
    (case k_check_league => k_is)
    (case a_outcomes_in_order => k_is)
    (case l_outcomes_in_order => k_is)
    (case cc_outcomes_in_order => k_is)
    (case k_outcomes_in_order => k_is)
    (case a_shares_of => k_is)
    (case l_shares_of => k_is)
    (case cc_shares_of => k_is)
    (case k_shares_of => k_is)
    (case a_points_behind => k_is)
    (case l_points_behind => k_is)
    (case cc_points_behind => k_is)
    (case k_points_behind => k_is)
    (case a_matches_left => k_is)
    (case l_matches_left => k_is)
    (case cc_matches_left => k_is)
    (case k_matches_left => k_is)
    (case a_points_had => k_is)
    (case l_points_had => k_is)
    (case cc_points_had => k_is)
    (case k_points_had => k_is)
    (case a__points_at_first => k_is)
    (case l__points_at_first => k_is)
    (case cc__points_at_first => k_is)
    (case k__points_at_first => k_is)
    (case a__points_after => k_is)
    (case l__points_after => k_is)
    (case cc__points_after => k_is)
    (case k__points_after => k_is)
    (case a_count_points => k_is)
    (case l_count_points => k_is)
    (case cc_count_points => k_is)
    (case k_count_points => k_is)
    (case a__law_draws => k_is)
    (case l__law_draws => k_is)
    (case cc__law_draws => k_is)
    (case k__law_draws => k_is)
    (case a__law_take => k_is)
    (case l__law_take => k_is)
    (case cc__law_take => k_is)
    (case k__law_take => k_is)
    (case a__law_options => k_is)
    (case l__law_options => k_is)
    (case cc__law_options => k_is)
    (case k__law_options => k_is)
    (case a__law_drawn_end => k_is)
    (case l__law_drawn_end => k_is)
    (case cc__law_drawn_end => k_is)
    (case k__law_drawn_end => k_is)
    (case a__law_league => k_is)
    (case l__law_league => k_is)
    (case cc__law_league => k_is)
    (case k__law_league => k_is)
    (case a__law_copy => k_is)
    (case l__law_copy => k_is)
    (case cc__law_copy => k_is)
    (case k__law_copy => k_is)
    (case a__law_reach => k_is)
    (case l__law_reach => k_is)
    (case cc__law_reach => k_is)
    (case k__law_reach => k_is)
    (case a__law_small => k_is)
    (case l__law_small => k_is)
    (case cc__law_small => k_is)
    (case k__law_small => k_is)
    (case a_law => k_is)
    (case l_law => k_is)
    (case cc_law => k_is)
    (case k_law => k_is)
    (case c_FEWEST_PLAYERS => k_is)
    (case c_MOST_PLAYERS => k_is)
    (case c_WORTHS => k_is)
    (case cl_WORTHS => k_is)
    (case ck_WORTHS => ((repeat (unfold PySem.W.KeysLit; refine ⟨⟨_, _, rfl, rfl⟩, ?_⟩)); first | trivial | (unfold PySem.W.KeysLit; trivial)))
    (case cs_WORTHS => first | k_is | rfl | decide +kernel)
    (case ce_WORTHS => exact FX.tab_t (FX.tab_cons (.int 1) ⟨_, rfl⟩ (fun _ _ => .int _) (FX.tab_cons (.int 2) ⟨_, rfl⟩ (fun _ _ => .int _) FX.tab_nil)) rfl)
    (case i_combinations => k_is)
    (case z_abs => k_is)
    (case z_bool => k_is)
    (case z_enumerate => k_is)
    (case z_int => k_is)
    (case z_isinstance => k_is)
    (case z_len => k_is)
    (case z_list => k_is)
    (case z_max => k_is)
    (case z_min => k_is)
    (case z_range => k_is)
    (case z_sorted => k_is)
    (case z_str => k_is)
    (case z_tuple => k_is)
    (case z_type => k_is)
    (case eg_NoLeague => k_is)
    (case ehn => k_is)
    (case eht => k_is)
    (case ex_NoLeague => k_exc)
    (case ek_NoLeague => k_is)
    (case et_NoLeague => k_is)
    (case ehg_NoLeague => k_is)
    (case ehk_NoLeague => k_is)
    (case ehs_NoLeague => k_is)
    (case ehd_NoLeague => k_is)
    (case eha_NoLeague => k_is)
    (case ehm_NoLeague => k_is)
