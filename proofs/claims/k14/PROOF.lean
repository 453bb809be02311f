import PyProof.Rows.All
import Wide.All
import OpenK.AllK
import Wide.FinOn
import HandS.TupMul
import HandS.ForMost
import HandS.Exc
import HandS.TryOnly
import HandS.ExcOwn
import HandS.WordsExc
import HandS.Deep
import HandS.TupLe
import HandS.Wide
import HandS.Conv
import HandS.Sort
import HandS.RepeatKit
import HandS.Zip
import HandS.IsInst
import HandS.SortRule
import HandS.More
import PyProof.TypeEq
import PyProof.InstEq
import HandS.Text
import HandS.TupAny
import PyProof.ReprRoads
import PyProof.ReprReads
import HandS.RaiseMore
import HandS.Style
import HandS.Dict
import HandS.ExcIs
import KE.SortData
import HandS.TupLen
import KE.DataCmp
import KE.KDictPairs
import HandS.SetFor
import PyProof.Rows.SortShell
import HandS.Flt
import HandS.Lambda
import PyProof.TupleKey
import KE.SortKeyHeap
import KE.KSortKey
import PyProof.Rows.TupSub
import PyProof.Rows.RowHeap
import HandS.SortKw
import HandS.Iter
import HandS.Comp
import KE.KDictDisplayH
import PyProof.Rows.TupDisplay
import PyProof.DictCompW
import HandS.DictComp
import KE.GoesMore
import KE.DataMinMax
import PyProof.StrLawsRepr
import KE.RegKIsAll
import KE.RegKTryMore
import PySem.Challenge.RW_wintold_k14_ends_counted
set_option Elab.async false
set_option linter.all false
set_option maxRecDepth 100000
set_option maxHeartbeats 1000000
namespace FX
open PySem PySem.Spec L2
abbrev D := PyData
def ErO (cls : Value) (a : Addr) : HO := .ext fun h => ∃ oe : Obj, h.get? a = some oe ∧ Zc cls none oe ∧ ∃ vs, oe.data = .fields vs
def Cn (K : PySem.W.Frag) (n : Str) (c : Value) : Prop := PySem.W.nsIn K mainGlobals n = some (some c)
theorem Cn.uniq {K : PySem.W.Frag} {n : Str} {c d : Value} (h : Cn K n c) (k : Cn K n d) : c = d := by
  unfold Cn at h k
  rw [h] at k
  cases k; rfl
def keyD : Key → D
  | .inl i => .int i
  | .inr z => .str z
def entV (ks : List (Key × Int)) : List (Key × V) := ks.map fun p => (p.1, .int p.2)
def entD (ks : List (Key × Int)) : List (D × D) := ks.map fun p => (keyD p.1, .int p.2)
def tbV (ks : List (List Key)) : List (List Key × V) := ks.map fun k => (k, .bl true)
def tbD (ks : List (List Key)) : List (D × D) := ks.map fun k => (.tuple (k.map keyD), .bool true)
mutual
inductive Rp (K : PySem.W.Frag) (F : Hp) : V → D → Prop
  | non : Rp K F .non .none
  | bl (b : Bool) : Rp K F (.bl b) (.bool b)
  | int (i : Int) : Rp K F (.int i) (.int i)
  | str (x : Str) : Rp K F (.str x) (.str x)
  | lst {a : Addr} {xs : List V} {ds : List D} : F a = some (.lst xs) → RpA K F xs ds → Rp K F (.ref a) (.list ds)
  | tup {a : Addr} {xs : List V} {ds : List D} : F a = some (.tup xs) → RpA K F xs ds → Rp K F (.ref a) (.tuple ds)
  | dic {a : Addr} : F a = some (.dK []) → Rp K F (.ref a) (.dict [])
  | dcI {a : Addr} (ks : List (Key × Int)) : F a = some (.dK (entV ks)) → Rp K F (.ref a) (.dict (entD ks))
  | dcB {a : Addr} (od : Obj) (ks : List (List Key)) : ks ≠ [] → F a = some (.frz od (.dT (tbV ks))) → Rp K F (.ref a) (.dict (tbD ks))
inductive RpA (K : PySem.W.Frag) (F : Hp) : List V → List D → Prop
  | nil : RpA K F [] []
  | cons {v : V} {vs : List V} {d : D} {ds : List D} : Rp K F v d → RpA K F vs ds → RpA K F (v :: vs) (d :: ds)
end
section
variable {K : PySem.W.Frag} {F G : Hp}
theorem seqT {H H' : Hp} {a : Addr} {xs : List V} (e : Same H H') (h : SqT K H a xs) : SqT K H' a xs := by
  rcases h with (h | ⟨o, h⟩) | h
  · exact .inl (.inl (e _ _ h))
  · exact .inl (.inr ⟨o, e _ _ h⟩)
  · exact .inr h
mutual
theorem Rp.mono (e : Same F G) : ∀ {d : D} {v : V}, Rp K F v d → Rp K G v d
  | .none, _, h => by cases h; exact .non
  | .bool _, _, h => by cases h; exact .bl _
  | .int _, _, h => by cases h; exact .int _
  | .str _, _, h => by cases h; exact .str _
  | .list _, _, h => by cases h with | lst a b => exact .lst (e _ _ a) (RpA.mono e b)
  | .tuple _, _, h => by cases h with | tup a b => exact .tup (e _ _ a) (RpA.mono e b)
  | .dict _, _, h => by
    cases h with
    | dic a => exact .dic (e _ _ a)
    | dcI ks a => exact .dcI ks (e _ _ a)
    | dcB od ks n a => exact .dcB od ks n (e _ _ a)
theorem RpA.mono (e : Same F G) : ∀ {ds : List D} {vs : List V}, RpA K F vs ds → RpA K G vs ds
  | [], _, h => by cases h; exact .nil
  | _ :: _, _, h => by cases h with | cons a b => exact .cons (Rp.mono e a) (RpA.mono e b)
end
theorem RpA.length : ∀ {vs : List V} {ds : List D}, RpA K F vs ds → vs.length = ds.length
  | _, _, .nil => rfl
  | _, _, .cons _ t => by simp [RpA.length t]
theorem RpA.get : ∀ {vs : List V} {ds : List D} {i : Nat} {d : D}, RpA K F vs ds → ds[i]? = some d → ∃ v, vs[i]? = some v ∧ Rp K F v d
  | _, _, _, _, .nil, e => by simp at e
  | _, _, 0, _, .cons r _, e => by simp at e; subst e; exact ⟨_, rfl, r⟩
  | _, _, i + 1, d, .cons _ t, e => by
    obtain ⟨u, h1, h2⟩ := RpA.get (i := i) (d := d) t (by simpa using e)
    exact ⟨u, by simpa using h1, h2⟩
theorem RpA.append : ∀ {vs us : List V} {ds es : List D}, RpA K F vs ds → RpA K F us es → RpA K F (vs ++ us) (ds ++ es)
  | _, _, _, _, .nil, h => h
  | _, _, _, _, .cons a b, h => .cons a (RpA.append b h)
theorem RpA.set : ∀ {vs : List V} {ds : List D} (i : Nat) {v : V} {d : D}, RpA K F vs ds → Rp K F v d → RpA K F (vs.set i v) (ds.set i d)
  | _, _, _, _, _, .nil, _ => .nil
  | _, _, 0, _, _, .cons _ b, h => .cons h b
  | _, _, i + 1, _, _, .cons a b, h => .cons a (RpA.set i b h)
theorem RpA.take : ∀ {vs : List V} {ds : List D} (n : Nat), RpA K F vs ds → RpA K F (vs.take n) (ds.take n)
  | _, _, 0, _ => .nil
  | _, _, _ + 1, .nil => .nil
  | _, _, n + 1, .cons a b => .cons a (RpA.take n b)
theorem RpA.drop : ∀ {vs : List V} {ds : List D} (n : Nat), RpA K F vs ds → RpA K F (vs.drop n) (ds.drop n)
  | _, _, 0, h => h
  | _, _, _ + 1, .nil => .nil
  | _, _, n + 1, .cons _ b => RpA.drop n b
theorem RpA.rev : ∀ {vs : List V} {ds : List D}, RpA K F vs ds → RpA K F vs.reverse ds.reverse
  | _, _, .nil => .nil
  | _, _, .cons a b => by
    simp only [List.reverse_cons]
    exact RpA.append (RpA.rev b) (.cons a .nil)
end
def keyT (k : List Key) : D := .tuple (k.map keyD)
inductive RpT (K : PySem.W.Frag) (F : Hp) : List (List Key × V) → List (D × D) → Prop
  | nil : RpT K F [] []
  | cons {k : List Key} {v : V} {d : D} {es : List (List Key × V)} {kvs : List (D × D)} : Rp K F v d → RpT K F es kvs → RpT K F ((k, v) :: es) ((keyT k, d) :: kvs)
theorem RpT.mono {K : PySem.W.Frag} {F G : Hp} (e : Same F G) : ∀ {es : List (List Key × V)} {kvs : List (D × D)}, RpT K F es kvs → RpT K G es kvs
  | _, _, .nil => .nil
  | _, _, .cons a b => .cons (a.mono e) (RpT.mono e b)
structure Sys where
  S : Type
  rel : S → Hp → List Addr → List Addr → Hp → Prop
  frame : ∀ {s F F' et A H H'}, rel s F et A H → Same F F' → (∀ p ∈ A, H' p = H p) → rel s F' et A H'
  live : ∀ {s F et A H}, rel s F et A H → ∀ p ∈ A, H p ≠ none
  notup : ∀ {s F et A H}, rel s F et A H → ∀ p ∈ A, ∀ xs, H p ≠ some (.tup xs)
structure Wo where
  F : Hp
  A : List Addr
  et : List Addr
  H : Hp
structure Wd (Y : Sys) (B : Hp) (w : Wo) (s : Y.S) : Prop where
  sF : Same w.F w.H
  sB : Same B w.H
  dj : ∀ p o, w.F p = some o → B p = none ∨ ∃ xs, o = .tup xs
  dA : ∀ p ∈ w.A, w.F p = none ∧ B p = none
  rel : Y.rel s w.F w.et w.A w.H
structure Le (w w' : Wo) : Prop where
  F : Same w.F w'.F
  et : ∃ m, w'.et = w.et ++ m
theorem Le.refl (w : Wo) : Le w w := ⟨Same.refl _, [], by simp⟩
theorem Le.trans {u v w : Wo} (a : Le u v) (b : Le v w) : Le u w := ⟨a.F.trans b.F, by
  obtain ⟨m, e⟩ := a.et
  obtain ⟨n, f⟩ := b.et
  exact ⟨m ++ n, by rw [f, e, List.append_assoc]⟩⟩
inductive R where
  | v (d : D) | o (d : D) | h (i : Nat) | raw (x : V) | b (i : Nat) | e (n : Str)
abbrev Ev := List (Option R)
inductive Oc (α : Type) where
  | ok (a : α) | er (c : Str)
def Own (K : PySem.W.Frag) (F H : Hp) (p : Addr) : D → Prop
  | .list ds => ∃ xs, H p = some (.lst xs) ∧ RpA K F xs ds
  | .dict kvs => ∃ es, H p = some (.dT es) ∧ RpT K F es kvs
  | _ => False
def SlR (K : PySem.W.Frag) (B : Hp) (w : Wo) (x : V) : R → Prop
  | .v d => Rp K w.F x d
  | .o d => ∃ p, x = .ref p ∧ Own K w.F w.H p d ∧ w.F p = none ∧ B p = none ∧ p ∉ w.A
  | .h i => ∃ p, w.et[i]? = some p ∧ x = .ref p
  | .raw y => x = y
  | .e n => ∃ p cls, x = .ref p ∧ w.F p = some (ErO cls p) ∧ Cn K n cls
  | .b _ => False
structure EnvR (K : PySem.W.Frag) (B : Hp) (w : Wo) (σ : St) (Γ : Ev) : Prop where
  len : σ.length = Γ.length
  sl : ∀ (i : Nat) (r : R), Γ[i]? = some (some r) → ∃ x, σ[i]? = some (some x) ∧ SlR K B w x r
  inj : ∀ (i j : Nat) (d e : D) (x : V), Γ[i]? = some (some (R.o d)) → Γ[j]? = some (some (R.o e)) → σ[i]? = some (some x) → σ[j]? = some (some x) → i = j
def ResR (K : PySem.W.Frag) (B : Hp) (w : Wo) (σ : St) (Γ : Ev) (x : V) : R → Prop
  | .b i => σ[i]? = some (some x)
  | .o d => SlR K B w x (.o d) ∧ ∀ (i : Nat) (e : D), Γ[i]? = some (some (R.o e)) → σ[i]? ≠ some (some x)
  | r => SlR K B w x r
section
variable {K : PySem.W.Frag} {B B' : Hp} {w w' : Wo} {Y : Sys} {s s' : Y.S} {σ : St} {Γ Γ' : Ev} {x : V} {r : R}
theorem Own.obj {F H : Hp} {p : Addr} : ∀ {d : D}, Own K F H p d → ∃ o, H p = some o
  | .list _, ⟨xs, e, _⟩ => ⟨_, e⟩
  | .none, h => h.elim
  | .bool _, h => h.elim
  | .int _, h => h.elim
  | .str _, h => h.elim
  | .tuple _, h => h.elim
  | .dict _, ⟨es, e, _⟩ => ⟨_, e⟩
theorem Own.obj' {F H : Hp} {p : Addr} : ∀ {d : D}, Own K F H p d → ∃ o, H p = some o ∧ ∀ xs, o ≠ .tup xs
  | .list _, ⟨xs, e, _⟩ => ⟨_, e, fun _ z => nomatch z⟩
  | .none, h => h.elim
  | .bool _, h => h.elim
  | .int _, h => h.elim
  | .str _, h => h.elim
  | .tuple _, h => h.elim
  | .dict _, ⟨es, e, _⟩ => ⟨_, e, fun _ z => nomatch z⟩
theorem Own.move {F F' H H' : Hp} {p : Addr} (f : Same F F') (e : H' p = H p) : ∀ {d : D}, Own K F H p d → Own K F' H' p d
  | .list _, ⟨xs, e1, a⟩ => ⟨xs, e.trans e1, a.mono f⟩
  | .none, h => h.elim
  | .bool _, h => h.elim
  | .int _, h => h.elim
  | .str _, h => h.elim
  | .tuple _, h => h.elim
  | .dict _, ⟨es, e1, a⟩ => ⟨es, e.trans e1, a.mono f⟩
theorem Wd.weak (h : Wd Y B' w s) (e : Same B B') : Wd Y B w s := ⟨h.sF, fun p o q => h.sB p o (e p o q), fun p o q => by
  rcases h.dj p o q with z | z
  · exact .inl (e.free z)
  · exact .inr z, fun p q => ⟨(h.dA p q).1, e.free (h.dA p q).2⟩, h.rel⟩
theorem Wd.apart {Y : Sys} {B : Hp} {w : Wo} {s : Y.S} (h : Wd Y B w s) {p : Addr} {o : HO} (hb : B p = some o) (hn : ∀ xs, o ≠ .tup xs) : w.F p = none := by
  cases q : w.F p with
  | none => rfl
  | some u =>
    exfalso
    rcases h.dj p u q with z | ⟨xs, z⟩
    · rw [hb] at z; cases z
    · have a := h.sF p u q
      have b := h.sB p o hb
      rw [a] at b
      cases b
      exact hn xs z
theorem SlR.weak (e : Same B B') : ∀ {r : R}, SlR K B' w x r → SlR K B w x r
  | .v _, h => h
  | .o _, ⟨p, a, b, c, d, f⟩ => ⟨p, a, b, c, e.free d, f⟩
  | .h _, h => h
  | .raw _, h => h
  | .e _, h => h
  | .b _, h => h
theorem EnvR.weak (h : EnvR K B' w σ Γ) (e : Same B B') : EnvR K B w σ Γ := ⟨h.len, fun i r q => by
  obtain ⟨x, a, b⟩ := h.sl i r q
  exact ⟨x, a, b.weak e⟩, h.inj⟩
theorem ResR.weak (e : Same B B') : ∀ {r : R}, ResR K B' w σ Γ x r → ResR K B w σ Γ x r
  | .v _, h => h
  | .o _, h => ⟨SlR.weak e h.1, h.2⟩
  | .h _, h => h
  | .raw _, h => h
  | .e _, h => h
  | .b _, h => h
theorem keep (W : Wd Y B w s) (N : EnvR K B w σ Γ) : ∀ {r : R} {x : V}, ResR K B w σ Γ x r → ∃ B2, Same B B2 ∧ Wd Y B2 w s ∧ EnvR K B2 w σ Γ ∧
    (∀ {w' : Wo} {s' : Y.S} {Γ' : Ev}, Wd Y B2 w' s' → EnvR K B2 w' σ Γ' → Le w w' → ResR K B w' σ Γ' x r) ∧ (∀ d p, r = .o d → x = .ref p → B2 p ≠ none)
  | .v d, x, h => ⟨B, Same.refl _, W, N, fun _ _ l => Rp.mono l.F h, fun _ _ e => nomatch e⟩
  | .h i, x, h => ⟨B, Same.refl _, W, N, fun _ _ l => by
    obtain ⟨p, e, q⟩ := h
    obtain ⟨m, em⟩ := l.et
    refine ⟨p, ?_, q⟩
    rw [em, List.getElem?_append_left (by
      have := (List.getElem?_eq_some_iff.mp e).1
      exact this)]
    exact e, fun _ _ e => nomatch e⟩
  | .raw y, x, h => ⟨B, Same.refl _, W, N, fun _ _ _ => h, fun _ _ e => nomatch e⟩
  | .e n, x, h => ⟨B, Same.refl _, W, N, fun _ _ l => by
    obtain ⟨p, cls, e, q, c⟩ := h
    exact ⟨p, cls, e, l.F _ _ q, c⟩, fun _ _ e => nomatch e⟩
  | .b i, x, h => ⟨B, Same.refl _, W, N, fun _ _ _ => h, fun _ _ e => nomatch e⟩
  | .o d, x, h => by
    obtain ⟨⟨p, rfl, own, fp, bp, ap⟩, oth⟩ := h
    obtain ⟨o, ho, hnt⟩ := own.obj'
    have sm : Same B (upd B p o) := fun q u e => by rw [upd_ne (ne_of_none e bp)]; exact e
    have W2 : Wd Y (upd B p o) w s := by
      refine ⟨W.sF, fun q u e => ?_, fun q u e => ?_, fun q e => ⟨(W.dA q e).1, ?_⟩, W.rel⟩
      · by_cases hq : q = p
        · subst hq; rw [upd_same] at e; cases e; exact ho
        · rw [upd_ne hq] at e; exact W.sB q u e
      · have hq : q ≠ p := fun z => by subst z; rw [fp] at e; cases e
        rw [upd_ne hq]; exact W.dj q u e
      · have hq : q ≠ p := fun z => by subst z; exact ap e
        rw [upd_ne hq]; exact (W.dA q e).2
    refine ⟨upd B p o, sm, W2, ⟨N.len, fun i r e => ?_, N.inj⟩, fun {w' s' Γ'} W' N' l => ?_, fun e q hr hx => ?_⟩
    · obtain ⟨y, a, b⟩ := N.sl i r e
      refine ⟨y, a, ?_⟩
      cases r with
      | o d2 =>
        obtain ⟨q, rfl, own2, fq, bq, aq⟩ := b
        have hq : q ≠ p := fun z => by subst z; exact oth i d2 e a
        exact ⟨q, rfl, own2, fq, by rw [upd_ne hq]; exact bq, aq⟩
      | v _ => exact b
      | h _ => exact b
      | raw _ => exact b
      | e _ => exact b
      | b _ => exact b
    · have hb : upd B p o p = some o := upd_same
      have hH : w'.H p = some o := W'.sB p o hb
      have fp' : w'.F p = none := W'.apart hb hnt
      refine ⟨⟨p, rfl, own.move l.F (hH.trans ho.symm), fp', bp, fun z => ?_⟩, fun i e hi hs => ?_⟩
      · have := (W'.dA p z).2
        rw [hb] at this; cases this
      · obtain ⟨y, a, b⟩ := N'.sl i _ hi
        obtain ⟨q, rfl, _, _, bq, _⟩ := b
        rw [hs] at a; cases a
        rw [hb] at bq; cases bq
    · cases hx; rw [upd_same]; exact fun z => nomatch z
end
def rdv (Γ : Ev) : R → Option D
  | .v d => some d
  | .o (.list ds) => some (.list ds)
  | .b i => match Γ[i]? with
    | some (some (.v d)) => some d
    | some (some (.o (.list ds))) => some (.list ds)
    | _ => none
  | _ => none
def Sh (K : PySem.W.Frag) (F H : Hp) (x : V) : D → Prop
  | .list ds => ∃ p xs, x = .ref p ∧ H p = some (.lst xs) ∧ RpA K F xs ds
  | .tuple ds => ∃ p xs, x = .ref p ∧ F p = some (.tup xs) ∧ RpA K F xs ds
  | d => Rp K F x d
section
variable {K : PySem.W.Frag} {B : Hp} {w : Wo} {Y : Sys} {s : Y.S} {σ : St} {Γ : Ev} {x : V} {r : R}
theorem Sh.ofRp {F H : Hp} (e : Same F H) : ∀ {d : D}, Rp K F x d → Sh K F H x d
  | .list _, h => by cases h with | lst a b => exact ⟨_, _, rfl, e _ _ a, b⟩
  | .tuple _, h => by cases h with | tup a b => exact ⟨_, _, rfl, a, b⟩
  | .none, h => h
  | .bool _, h => h
  | .int _, h => h
  | .str _, h => h
  | .dict _, h => h
theorem Sh.ofOwn {F H : Hp} {p : Addr} {ds : List D} : Own K F H p (.list ds) → Sh K F H (.ref p) (.list ds)
  | ⟨xs, e, a⟩ => ⟨p, xs, rfl, e, a⟩
theorem sh_of (W : Wd Y B w s) (N : EnvR K B w σ Γ) (h : ResR K B w σ Γ x r) {d : D} (e : rdv Γ r = some d) : Sh K w.F w.H x d := by
  cases r with
  | v d' => cases e; exact Sh.ofRp W.sF h
  | o d' =>
    cases d' with
    | list ds =>
      cases e
      obtain ⟨⟨p, rfl, own, _⟩, _⟩ := h
      exact Sh.ofOwn own
    | _ => cases e
  | h i => cases e
  | raw y => cases e
  | e y => cases e
  | b i =>
    have hx : σ[i]? = some (some x) := h
    unfold rdv at e
    simp only at e
    split at e
    · rename_i d' he
      cases e
      obtain ⟨y, a, b⟩ := N.sl i _ he
      rw [hx] at a; cases a
      exact Sh.ofRp W.sF b
    · rename_i d' he
      cases e
      obtain ⟨y, a, b⟩ := N.sl i _ he
      rw [hx] at a; cases a
      obtain ⟨p, rfl, own, _⟩ := b
      exact Sh.ofOwn own
    · cases e
end
inductive Rz where
  | nw (d : D) | old (d : D)
def Rz.r : Rz → R
  | .nw (.list ds) => .o (.list ds)
  | .nw d => .v d
  | .old d => .v d
def NwQ (K : PySem.W.Frag) (F H : Hp) (Q : VK) : D → Prop
  | .list ds => ∀ p xs, H p = none → RpA K F xs ds → Q (.ref p) (upd H p (.lst xs))
  | .tuple ds => ∀ p xs, H p = none → RpA K F xs ds → Q (.ref p) (upd H p (.tup xs))
  | .dict [] => ∀ p, H p = none → Q (.ref p) (upd H p (.dK []))
  | .dict (e :: es) => ∀ p ks, H p = none → e :: es = entD ks → Q (.ref p) (upd H p (.dK (entV ks)))
  | d => ∀ x, Rp K F x d → Q x H
def RzQ (K : PySem.W.Frag) (F H : Hp) (Q : VK) : Rz → Prop
  | .nw d => NwQ K F H Q d
  | .old d => ∀ x, Rp K F x d → Q x H
def PoG {α : Type} (Y : Sys) (K : PySem.W.Frag) (W : WX) (B : Hp) (w : Wo) (σ : St) (ok : α → Ev → Wo → Prop) : Oc α × Ev × Y.S → Prop
  | (.ok r, Γ', s') => ∀ w', Wd Y B w' s' → EnvR K B w' σ Γ' → Le w w' → ok r Γ' w'
  | (.er n, Γ', s') => ∀ w', Wd Y B w' s' → EnvR K B w' σ Γ' → Le w w' → ∀ c, Cn K n c → W c none σ w'.H
abbrev PoE (Y : Sys) (K : PySem.W.Frag) (W : WX) (B : Hp) (w : Wo) (σ : St) (Q : VK) : Oc R × Ev × Y.S → Prop := PoG Y K W B w σ fun r Γ' w' => ∀ x, ResR K B w' σ Γ' x r → Q x w'.H
section
variable {K : PySem.W.Frag} {B : Hp} {w : Wo} {Y : Sys} {s : Y.S} {σ : St} {Γ : Ev}
theorem Wd.newH (W : Wd Y B w s) {p : Addr} {o : HO} (np : w.H p = none) : Wd Y B { w with H := upd w.H p o } s := by
  refine ⟨fun q u e => ?_, fun q u e => ?_, W.dj, W.dA, Y.frame W.rel (Same.refl _) fun q hq => ?_⟩
  · have := W.sF q u e
    show upd w.H p o q = some u
    rw [upd_ne (ne_of_none this np)]; exact this
  · have := W.sB q u e
    show upd w.H p o q = some u
    rw [upd_ne (ne_of_none this np)]; exact this
  · show upd w.H p o q = w.H q
    rw [upd_ne]
    rintro rfl
    exact Y.live W.rel _ hq np
theorem SlR.newH {p : Addr} {o : HO} (np : w.H p = none) {x : V} : ∀ {r : R}, SlR K B w x r → SlR K B { w with H := upd w.H p o } x r
  | .v _, h => h
  | .o _, ⟨q, a, b, c, d, f⟩ => ⟨q, a, b.move (Same.refl _) (by
      obtain ⟨u, hu⟩ := b.obj
      show upd w.H p o q = w.H q
      rw [upd_ne (ne_of_none hu np)]), c, d, f⟩
  | .h _, h => h
  | .raw _, h => h
  | .e _, h => h
  | .b _, h => h
theorem EnvR.newH (N : EnvR K B w σ Γ) {p : Addr} {o : HO} (np : w.H p = none) : EnvR K B { w with H := upd w.H p o } σ Γ := ⟨N.len, fun i r e => by
  obtain ⟨x, a, b⟩ := N.sl i r e
  exact ⟨x, a, b.newH np⟩, N.inj⟩
theorem Wd.newF (W : Wd Y B w s) {p : Addr} {o : HO} (np : w.H p = none) : Wd Y B { w with F := upd w.F p o, H := upd w.H p o } s := by
  have Fn : w.F p = none := W.sF.free np
  have Bn : B p = none := W.sB.free np
  refine ⟨fun q u e => ?_, fun q u e => ?_, fun q u e => ?_, fun q hq => ?_, Y.frame W.rel (fun q u e => (upd_ne (ne_of_none e Fn)).trans e) fun q hq => ?_⟩
  · show upd w.H p o q = some u
    by_cases hq : q = p
    · subst hq; rw [upd_same]; have e : upd w.F q o q = some u := e; rw [upd_same] at e; exact e
    · rw [upd_ne hq]; have e : upd w.F p o q = some u := e; rw [upd_ne hq] at e; exact W.sF q u e
  · have := W.sB q u e
    show upd w.H p o q = some u
    rw [upd_ne (ne_of_none this np)]; exact this
  · by_cases hq : q = p
    · subst hq; exact .inl Bn
    · have e : upd w.F p o q = some u := e
      rw [upd_ne hq] at e; exact W.dj q u e
  · have hqp : q ≠ p := by rintro rfl; exact Y.live W.rel _ hq np
    exact ⟨(upd_ne hqp).trans (W.dA q hq).1, (W.dA q hq).2⟩
  · show upd w.H p o q = w.H q
    rw [upd_ne]
    rintro rfl
    exact Y.live W.rel _ hq np
theorem Le.newF {p : Addr} {o : HO} (Fn : w.F p = none) : Le w { w with F := upd w.F p o, H := upd w.H p o } := ⟨fun q u e => by
  show upd w.F p o q = some u
  rw [upd_ne (ne_of_none e Fn)]; exact e, [], by simp⟩
theorem EnvR.newF (W : Wd Y B w s) (N : EnvR K B w σ Γ) {p : Addr} {o : HO} (np : w.H p = none) : EnvR K B { w with F := upd w.F p o, H := upd w.H p o } σ Γ := ⟨N.len, fun i r e => by
  have Fn : w.F p = none := W.sF.free np
  have sm : Same w.F (upd w.F p o) := fun q u e => by rw [upd_ne (ne_of_none e Fn)]; exact e
  obtain ⟨x, a, b⟩ := N.sl i r e
  refine ⟨x, a, ?_⟩
  cases r with
  | v d => exact Rp.mono sm b
  | o d =>
    obtain ⟨q, rfl, own, fq, bq, aq⟩ := b
    obtain ⟨u, hu⟩ := own.obj
    have hq : q ≠ p := ne_of_none hu np
    exact ⟨q, rfl, own.move sm (upd_ne hq), (upd_ne hq).trans fq, bq, aq⟩
  | h _ => exact b
  | raw _ => exact b
  | e _ =>
    obtain ⟨p', cls, e1, q, c⟩ := b
    exact ⟨p', cls, e1, sm _ _ q, c⟩
  | b _ => exact b, N.inj⟩
theorem upd_sm {F : Hp} {p : Addr} {o : HO} (Fn : F p = none) : Same F (upd F p o) := fun q u e => by rw [upd_ne (ne_of_none e Fn)]; exact e
theorem rz_use {Q : VK} (W : Wd Y B w s) (N : EnvR K B w σ Γ) {Wx : WX} {w0 : Wo} (l : Le w0 w) {z : Rz} (h : PoE Y K Wx B w0 σ Q (.ok z.r, Γ, s)) : RzQ K w.F w.H Q z := by
  have here : ∀ {d : D}, (∀ x, Rp K w.F x d → ResR K B w σ Γ x z.r) → ∀ x, Rp K w.F x d → Q x w.H := fun k x r => h w W N l x (k x r)
  cases z with
  | old d => exact here fun x r => r
  | nw d =>
    cases d with
    | none => exact here fun x r => r
    | bool _ => exact here fun x r => r
    | int _ => exact here fun x r => r
    | str _ => exact here fun x r => r
    | dict kvs =>
      cases kvs with
      | nil =>
        intro p np
        have Fn : w.F p = none := W.sF.free np
        exact h { w with F := upd w.F p (.dK []), H := upd w.H p (.dK []) } (W.newF np) (N.newF W np) (l.trans (Le.newF Fn)) _ (Rp.dic upd_same)
      | cons a b =>
        intro p ks np ek
        have Fn : w.F p = none := W.sF.free np
        exact h { w with F := upd w.F p (.dK (entV ks)), H := upd w.H p (.dK (entV ks)) } (W.newF np) (N.newF W np) (l.trans (Le.newF Fn)) _ (by
          show Rp K _ _ (.dict (a :: b))
          rw [ek]; exact Rp.dcI ks upd_same)
    | tuple ds =>
      intro p xs np rp
      have Fn : w.F p = none := W.sF.free np
      exact h { w with F := upd w.F p (.tup xs), H := upd w.H p (.tup xs) } (W.newF np) (N.newF W np) (l.trans (Le.newF Fn)) _ (Rp.tup upd_same (rp.mono (upd_sm Fn)))
    | list ds =>
      intro p xs np rp
      have Fn : w.F p = none := W.sF.free np
      have Bn : B p = none := W.sB.free np
      refine h { w with H := upd w.H p (.lst xs) } (W.newH np) (N.newH np) (l.trans ⟨Same.refl _, [], by simp⟩) _ ⟨⟨p, rfl, ⟨xs, upd_same, rp⟩, Fn, Bn, fun z => Y.live W.rel _ z np⟩, fun i e hi hs => ?_⟩
      obtain ⟨y, a, b⟩ := N.sl i _ hi
      obtain ⟨q, rfl, own, _⟩ := b
      rw [hs] at a; cases a
      obtain ⟨u, hu⟩ := own.obj
      rw [np] at hu; cases hu
end
end FX
set_option Elab.async false
set_option linter.all false
set_option maxRecDepth 100000
set_option maxHeartbeats 1000000
namespace FX
open PySem PySem.Spec L2
def bd {S α β : Type} (g : Ev → S → Option (Oc α × Ev × S)) (k : α → Ev → S → Option (Oc β × Ev × S)) : Ev → S → Option (Oc β × Ev × S) := fun Γ s =>
  match g Γ s with
  | none => none
  | some (.ok a, Γ', s') => k a Γ' s'
  | some (.er c, Γ', s') => some (.er c, Γ', s')
abbrev GE (Y : Sys) := Ev → Y.S → Option (Oc R × Ev × Y.S)
abbrev GT (Y : Sys) := Ev → Y.S → Option (Oc Bool × Ev × Y.S)
abbrev GA (Y : Sys) := Ev → Y.S → Option (Oc (List R) × Ev × Y.S)
inductive RsA (K : PySem.W.Frag) (B : Hp) (w : Wo) (σ : St) (Γ : Ev) : List V → List R → Prop
  | nil : RsA K B w σ Γ [] []
  | cons {x : V} {xs : List V} {r : R} {rs : List R} : ResR K B w σ Γ x r → RsA K B w σ Γ xs rs → RsA K B w σ Γ (x :: xs) (r :: rs)
def EOk (Y : Sys) (K : PySem.W.Frag) (W : WX) (t : TE) (g : GE Y) : Prop := ∀ (B : Hp) (w : Wo) (σ : St) (Γ : Ev) (s : Y.S) (out : Oc R × Ev × Y.S) (Q : VK),
  Wd Y B w s → EnvR K B w σ Γ → g Γ s = some out → PoE Y K W B w σ Q out → t σ w.H Q
def TOk (Y : Sys) (K : PySem.W.Frag) (W : WX) (t : TT) (g : GT Y) : Prop := ∀ (B : Hp) (w : Wo) (σ : St) (Γ : Ev) (s : Y.S) (out : Oc Bool × Ev × Y.S) (Q : Bool → Hp → Prop),
  Wd Y B w s → EnvR K B w σ Γ → g Γ s = some out → PoG Y K W B w σ (fun b _ w' => Q b w'.H) out → t σ w.H Q
def AOk (Y : Sys) (K : PySem.W.Frag) (W : WX) (t : TA) (g : GA Y) : Prop := ∀ (B : Hp) (w : Wo) (σ : St) (Γ : Ev) (s : Y.S) (out : Oc (List R) × Ev × Y.S) (Q : List V → Hp → Prop),
  Wd Y B w s → EnvR K B w σ Γ → g Γ s = some out → PoG Y K W B w σ (fun rs Γ' w' => ∀ xs, RsA K B w' σ Γ' xs rs → Q xs w'.H) out → t σ w.H Q
structure ME (Y : Sys) (X : Cx) (W : WX) (e : Expr) (t : TE) (g : GE Y) : Prop where
  pe : PE X e t
  ok : EOk Y X.K W t g
structure MT (Y : Sys) (X : Cx) (W : WX) (e : Expr) (t : TT) (g : GT Y) : Prop where
  pe : PT X e t
  ok : TOk Y X.K W t g
structure MW (Y : Sys) (X : Cx) (W : WX) (e : Expr) (t : TT) (g : GT Y) : Prop where
  pe : PW X e t
  ok : TOk Y X.K W t g
structure MA (Y : Sys) (X : Cx) (W : WX) (es : List Expr) (t : TA) (g : GA Y) : Prop where
  pe : PA X es t
  ok : AOk Y X.K W t g
section
variable {Y : Sys} {K : PySem.W.Frag} {W : WX} {B B2 : Hp} {w w1 : Wo} {σ : St} {Γ : Ev} {s : Y.S} {α β : Type} {ok : α → Ev → Wo → Prop}
theorem PoG.le {out : Oc α × Ev × Y.S} (p : PoG Y K W B w σ ok out) (l : Le w w1) : PoG Y K W B w1 σ ok out := by
  obtain ⟨o, Γ', s'⟩ := out
  cases o with
  | ok a => exact fun w' W' N' l' => p w' W' N' (l.trans l')
  | er c => exact fun w' W' N' l' => p w' W' N' (l.trans l')
theorem PoG.imp {ok2 : α → Ev → Wo → Prop} {out : Oc α × Ev × Y.S} (p : PoG Y K W B w σ ok out) (e : Same B B2) (h : ∀ a Γ' w', ok a Γ' w' → ok2 a Γ' w') : PoG Y K W B2 w σ ok2 out := by
  obtain ⟨o, Γ', s'⟩ := out
  cases o with
  | ok a => exact fun w' W' N' l' => h _ _ _ (p w' (W'.weak e) (N'.weak e) l')
  | er c => exact fun w' W' N' l' => p w' (W'.weak e) (N'.weak e) l'
theorem PoE.strong {Q : VK} {out : Oc R × Ev × Y.S} (p : PoE Y K W B w σ Q out) (e : Same B B2) : PoE Y K W B2 w σ Q out := PoG.imp p e fun a Γ' w' h x r => h x (r.weak e)
theorem EOk.go {t : TE} {g : GE Y} (h : EOk Y K W t g) (Wh : Wd Y B w s) (N : EnvR K B w σ Γ) {k : R → Ev → Y.S → Option (Oc α × Ev × Y.S)} {out : Oc α × Ev × Y.S} {Q : VK}
    (e : bd g k Γ s = some out) (p : PoG Y K W B w σ ok out)
    (c : ∀ r Γ1 s1 x w1, Wd Y B w1 s1 → EnvR K B w1 σ Γ1 → Le w w1 → ResR K B w1 σ Γ1 x r → k r Γ1 s1 = some out → PoG Y K W B w1 σ ok out → Q x w1.H) : t σ w.H Q := by
  unfold bd at e
  cases eg : g Γ s with
  | none => rw [eg] at e; cases e
  | some o =>
    obtain ⟨o, Γ1, s1⟩ := o
    rw [eg] at e
    cases o with
    | ok r =>
      exact h B w σ Γ s _ Q Wh N eg fun w1 W1 N1 l x r1 => c r Γ1 s1 x w1 W1 N1 l r1 e (p.le l)
    | er z =>
      cases e
      exact h B w σ Γ s _ Q Wh N eg fun w1 W1 N1 l => p w1 W1 N1 l
theorem TOk.go {t : TT} {g : GT Y} (h : TOk Y K W t g) (Wh : Wd Y B w s) (N : EnvR K B w σ Γ) {k : Bool → Ev → Y.S → Option (Oc α × Ev × Y.S)} {out : Oc α × Ev × Y.S} {Q : Bool → Hp → Prop}
    (e : bd g k Γ s = some out) (p : PoG Y K W B w σ ok out)
    (c : ∀ b Γ1 s1 w1, Wd Y B w1 s1 → EnvR K B w1 σ Γ1 → Le w w1 → k b Γ1 s1 = some out → PoG Y K W B w1 σ ok out → Q b w1.H) : t σ w.H Q := by
  unfold bd at e
  cases eg : g Γ s with
  | none => rw [eg] at e; cases e
  | some o =>
    obtain ⟨o, Γ1, s1⟩ := o
    rw [eg] at e
    cases o with
    | ok r => exact h B w σ Γ s _ Q Wh N eg fun w1 W1 N1 l => c r Γ1 s1 w1 W1 N1 l e (p.le l)
    | er z =>
      cases e
      exact h B w σ Γ s _ Q Wh N eg fun w1 W1 N1 l => p w1 W1 N1 l
theorem AOk.go {t : TA} {g : GA Y} (h : AOk Y K W t g) (Wh : Wd Y B w s) (N : EnvR K B w σ Γ) {k : List R → Ev → Y.S → Option (Oc α × Ev × Y.S)} {out : Oc α × Ev × Y.S} {Q : List V → Hp → Prop}
    (e : bd g k Γ s = some out) (p : PoG Y K W B w σ ok out)
    (c : ∀ rs Γ1 s1 xs w1, Wd Y B w1 s1 → EnvR K B w1 σ Γ1 → Le w w1 → RsA K B w1 σ Γ1 xs rs → k rs Γ1 s1 = some out → PoG Y K W B w1 σ ok out → Q xs w1.H) : t σ w.H Q := by
  unfold bd at e
  cases eg : g Γ s with
  | none => rw [eg] at e; cases e
  | some o =>
    obtain ⟨o, Γ1, s1⟩ := o
    rw [eg] at e
    cases o with
    | ok r =>
      exact h B w σ Γ s _ Q Wh N eg fun w1 W1 N1 l x r1 => c r Γ1 s1 x w1 W1 N1 l r1 e (p.le l)
    | er z =>
      cases e
      exact h B w σ Γ s _ Q Wh N eg fun w1 W1 N1 l => p w1 W1 N1 l
theorem EOk.two {ta tb : TE} {ga gb : GE Y} (ha : EOk Y K W ta ga) (hb : EOk Y K W tb gb) (Wh : Wd Y B w s) (N : EnvR K B w σ Γ) {k : R → R → Ev → Y.S → Option (Oc α × Ev × Y.S)} {out : Oc α × Ev × Y.S} {T : V → V → Hp → Prop}
    (e : bd ga (fun ra => bd gb fun rb => k ra rb) Γ s = some out) (p : PoG Y K W B w σ ok out)
    (c : ∀ ra rb Γ1 s1 x y w1, Wd Y B w1 s1 → EnvR K B w1 σ Γ1 → Le w w1 → ResR K B w1 σ Γ1 x ra → ResR K B w1 σ Γ1 y rb → k ra rb Γ1 s1 = some out → PoG Y K W B w1 σ ok out → T x y w1.H) :
    ta σ w.H fun x H1 => tb σ H1 fun y H2 => T x y H2 := by
  refine ha.go Wh N e p fun ra Γ1 s1 x w1 W1 N1 l1 R1 e1 p1 => ?_
  obtain ⟨B2, sB, W1b, N1b, kp, _⟩ := keep W1 N1 R1
  refine hb.go W1b N1b e1 (p1.imp sB fun _ _ _ q => q) fun rb Γ2 s2 y w2 W2 N2 l2 R2 e2 p2 => ?_
  exact c ra rb Γ2 s2 x y w2 (W2.weak sB) (N2.weak sB) (l1.trans l2) (kp W2 N2 l2) (R2.weak sB) e2 (p1.le l2)
end
def gC {Y : Sys} (d : D) : GE Y := fun Γ s => some (.ok (.v d), Γ, s)
def gV {Y : Sys} (i : Nat) : GE Y := fun Γ s => match Γ[i]? with
  | some (some (.v d)) => some (.ok (.v d), Γ, s)
  | some (some (.o _)) => some (.ok (.b i), Γ, s)
  | some (some (.h k)) => some (.ok (.h k), Γ, s)
  | some (some (.raw x)) => some (.ok (.raw x), Γ, s)
  | some (some (.e n)) => some (.ok (.e n), Γ, s)
  | _ => none
section
variable {Y : Sys} {X : Cx} {W : WX} {e a b c : Expr} {pos : Pos} {ga gb gc : GE Y}
theorem me_const {v : V} {d : D} (h : PE X e (tC v)) (r : ∀ F, Rp X.K F v d) : ME Y X W e (tC v) (gC d) :=
  ⟨h, fun B w σ Γ s out Q Wh N eg p => by cases eg; exact p w Wh N (.refl _) _ (r _)⟩
theorem me_int {i : Int} {j} : ME Y X W (.Constant (.int i) j pos) (tC (.int i)) (gC (.int i)) := me_const pe_int fun _ => .int _
theorem me_bl {b : Bool} {j} : ME Y X W (.Constant (.bool b) j pos) (tC (.bl b)) (gC (.bool b)) := me_const pe_bl fun _ => .bl _
theorem me_non {j} : ME Y X W (.Constant .none j pos) (tC .non) (gC .none) := me_const pe_non fun _ => .non
theorem me_str {x : Str} {j} : ME Y X W (.Constant (.str x) j pos) (tC (.str x)) (gC (.str x)) := me_const pe_str fun _ => .str _
theorem me_name {i : Nat} (h : PE X e (tVar i)) : ME Y X W e (tVar i) (gV i) := by
  refine ⟨h, fun B w σ Γ s out Q Wh N eg p => ?_⟩
  unfold gV at eg
  split at eg
  · rename_i d hd
    cases eg
    obtain ⟨x, hx, rx⟩ := N.sl i _ hd
    exact ⟨x, hx, p w Wh N (.refl _) _ rx⟩
  · rename_i d hd
    cases eg
    obtain ⟨x, hx, rx⟩ := N.sl i _ hd
    exact ⟨x, hx, p w Wh N (.refl _) _ hx⟩
  · rename_i d hd
    cases eg
    obtain ⟨x, hx, rx⟩ := N.sl i _ hd
    exact ⟨x, hx, p w Wh N (.refl _) _ rx⟩
  · rename_i d hd
    cases eg
    obtain ⟨x, hx, rx⟩ := N.sl i _ hd
    exact ⟨x, hx, p w Wh N (.refl _) _ rx⟩
  · rename_i d hd
    cases eg
    obtain ⟨x, hx, rx⟩ := N.sl i _ hd
    exact ⟨x, hx, p w Wh N (.refl _) _ rx⟩
  · cases eg
def op1 {Y : Sys} (f : D → Option Rz) (r : R) : GE Y := fun Γ s => match rdv Γ r with
  | none => none
  | some d => match f d with
    | none => none
    | some z => some (.ok z.r, Γ, s)
def op2 {Y : Sys} (f : D → D → Option Rz) (r q : R) : GE Y := fun Γ s => match rdv Γ r, rdv Γ q with
  | some d, some e => match f d e with
    | none => none
    | some z => some (.ok z.r, Γ, s)
  | _, _ => none
def rdA (Γ : Ev) : List R → Option (List D)
  | [] => some []
  | r :: rs => match rdv Γ r, rdA Γ rs with
    | some d, some ds => some (d :: ds)
    | _, _ => none
def opN {Y : Sys} (f : List D → Option Rz) (rs : List R) : GE Y := fun Γ s => match rdA Γ rs with
  | some ds => match f ds with
    | none => none
    | some z => some (.ok z.r, Γ, s)
  | none => none
def Op2 (K : PySem.W.Frag) (r : R2) (f : D → D → Option Rz) : Prop := ∀ (F H : Hp) (x y : V) (d e : D) (z : Rz) (Q : VK), Same F H → Sh K F H x d → Sh K F H y e → f d e = some z → RzQ K F H Q z → r x y H Q
def Op1 (K : PySem.W.Frag) (r : V → Hp → VK → Prop) (f : D → Option Rz) : Prop := ∀ (F H : Hp) (x : V) (d : D) (z : Rz) (Q : VK), Same F H → Sh K F H x d → f d = some z → RzQ K F H Q z → r x H Q
inductive ShA (K : PySem.W.Frag) (F H : Hp) : List V → List D → Prop
  | nil : ShA K F H [] []
  | cons {x : V} {xs : List V} {d : D} {ds : List D} : Sh K F H x d → ShA K F H xs ds → ShA K F H (x :: xs) (d :: ds)
def OpN (K : PySem.W.Frag) (r : List V → Hp → VK → Prop) (f : List D → Option Rz) : Prop := ∀ (F H : Hp) (xs : List V) (ds : List D) (z : Rz) (Q : VK), Same F H → ShA K F H xs ds → f ds = some z → RzQ K F H Q z → r xs H Q
def gBin {Y : Sys} (f : D → D → Option Rz) (ga gb : GE Y) : GE Y := bd ga fun ra => bd gb fun rb => op2 f ra rb
theorem eok_bin {K : PySem.W.Frag} {r : R2} {f : D → D → Option Rz} {ta tb : TE} (hf : Op2 K r f) (ha : EOk Y K W ta ga) (hb : EOk Y K W tb gb) : EOk Y K W (tOp r ta tb) (gBin f ga gb) := by
  intro B w σ Γ s out Q Wh N e p
  refine ha.two (T := fun x y H => r x y H Q) hb Wh N e p fun ra rb Γ1 s1 x y w1 W1 N1 l1 Ra Rb e1 p1 => ?_
  unfold op2 at e1
  split at e1
  · rename_i d d' ed ed'
    split at e1
    · cases e1
    · rename_i z ez
      cases e1
      exact hf _ _ _ _ _ _ _ _ W1.sF (sh_of W1 N1 Ra ed) (sh_of W1 N1 Rb ed') ez (rz_use W1 N1 (.refl _) p1)
  · cases e1
theorem me_bin {op : Operator} {r : R2} {f : D → D → Option Rz} (ho : OpR X (binaryOp op) r) (hf : Op2 X.K r f) {te_ha : TE} (ha : ME Y X W a te_ha ga) {te_hb : TE} (hb : ME Y X W b te_hb gb) : ME Y X W (.BinOp a op b pos) (tOp r te_ha te_hb) (gBin f ga gb) := by
  obtain ⟨pa, ha⟩ := ha
  obtain ⟨pb, hb⟩ := hb
  exact ⟨pe_op ho pa pb, eok_bin hf ha hb⟩
theorem me_cmp {op : CmpOp} {r : R2} {f : D → D → Option Rz} (ho : OpR X (compareOp op) r) (hf : Op2 X.K r f) {te_ha : TE} (ha : ME Y X W a te_ha ga) {te_hb : TE} (hb : ME Y X W b te_hb gb) (hm : behindInMarks op b = false) : ME Y X W (.Compare a [op] [b] pos) (tOp r te_ha te_hb) (gBin f ga gb) := by
  obtain ⟨pa, ha⟩ := ha
  obtain ⟨pb, hb⟩ := hb
  exact ⟨pe_cmpR ho pa pb hm, eok_bin hf ha hb⟩
theorem me_ix {r : R2} {f : D → D → Option Rz} (ho : IxR X r) (hf : Op2 X.K r f) {te_ha : TE} (ha : ME Y X W a te_ha ga) {te_hb : TE} (hb : ME Y X W b te_hb gb) (hs : PlainIx b) : ME Y X W (.Subscript a b pos) (tOp r te_ha te_hb) (gBin f ga gb) := by
  obtain ⟨pa, ha⟩ := ha
  obtain ⟨pb, hb⟩ := hb
  exact ⟨pe_ix ho pa pb hs, eok_bin hf ha hb⟩
def gUn {Y : Sys} (f : D → Option Rz) (ga : GE Y) : GE Y := bd ga fun ra => op1 f ra
theorem eok_un {K : PySem.W.Frag} {r : V → Hp → VK → Prop} {f : D → Option Rz} {ta : TE} (hf : Op1 K r f) (ha : EOk Y K W ta ga) : EOk Y K W (tUn r ta) (gUn f ga) := by
  intro B w σ Γ s out Q Wh N e p
  refine ha.go (Q := fun x H => r x H Q) Wh N e p fun ra Γ1 s1 x w1 W1 N1 l1 Ra e1 p1 => ?_
  unfold op1 at e1
  split at e1
  · cases e1
  · rename_i d ed
    split at e1
    · cases e1
    · rename_i z ez
      cases e1
      exact hf _ _ _ _ _ _ W1.sF (sh_of W1 N1 Ra ed) ez (rz_use W1 N1 (.refl _) p1)
theorem me_un {op : UnaryOp} {r : V → Hp → VK → Prop} {f : D → Option Rz} (ho : UnR X (unaryOp op) r) (hf : Op1 X.K r f) {te_ha : TE} (ha : ME Y X W a te_ha ga) : ME Y X W (.UnaryOp op a pos) (tUn r te_ha) (gUn f ga) := by
  obtain ⟨pa, ha⟩ := ha
  exact ⟨pe_un ho pa, eok_un hf ha⟩
end
end FX
set_option Elab.async false
set_option linter.all false
set_option maxRecDepth 100000
set_option maxHeartbeats 1000000
namespace FX
open PySem PySem.Spec L2
def gEsc {Y : Sys} (g : GE Y) : GE Y := bd g fun r Γ s => match r with
  | .v d => some (.ok (.v d), Γ, s)
  | .o (.list ds) => some (.ok (.v (.list ds)), Γ, s)
  | .o _ => none
  | .h i => some (.ok (.h i), Γ, s)
  | .raw x => some (.ok (.raw x), Γ, s)
  | .e n => some (.ok (.e n), Γ, s)
  | .b i => match Γ[i]? with
    | some (some (.o (.list ds))) => some (.ok (.v (.list ds)), Γ.set i (some (.v (.list ds))), s)
    | some (some (.v d)) => some (.ok (.v d), Γ, s)
    | _ => none
section
variable {Y : Sys} {K : PySem.W.Frag} {W : WX} {B B2 : Hp} {w w1 : Wo} {σ : St} {Γ : Ev} {s : Y.S}
theorem Own.rp {F H : Hp} {p : Addr} (h : F p = none) {ds : List D} {o : HO} : Own K F H p (.list ds) → H p = some o → Rp K (upd F p o) (.ref p) (.list ds)
  | ⟨xs, e, a⟩, e2 => by
    rw [e] at e2; cases e2
    exact .lst upd_same (a.mono (upd_sm h))
theorem upd_sm' {F : Hp} {p : Addr} {o : HO} (Fn : F p = none) {q : Addr} {u : HO} (e : F q = some u) : upd F p o q = some u := upd_sm Fn q u e
theorem Wd.fz (Wh : Wd Y B w s) {p : Addr} {o : HO} (hp : w.H p = some o) (bp : B p = none) (ap : p ∉ w.A) (fp : w.F p = none) : Wd Y B { w with F := upd w.F p o } s := by
  refine ⟨fun q u e => ?_, Wh.sB, fun q u e => ?_, fun q hq => ?_, Y.frame Wh.rel (fun q u e => (upd_sm' fp e)) fun _ _ => rfl⟩
  · have e : upd w.F p o q = some u := e
    by_cases hq : q = p
    · subst hq; rw [upd_same] at e; cases e; exact hp
    · rw [upd_ne hq] at e; exact Wh.sF q u e
  · have e : upd w.F p o q = some u := e
    by_cases hq : q = p
    · subst hq; exact .inl bp
    · rw [upd_ne hq] at e; exact Wh.dj q u e
  · have hqp : q ≠ p := by rintro rfl; exact ap hq
    exact ⟨(upd_ne hqp).trans (Wh.dA q hq).1, (Wh.dA q hq).2⟩
theorem Le.fz {p : Addr} {o : HO} (fp : w.F p = none) : Le w { w with F := upd w.F p o } := ⟨upd_sm fp, [], by simp⟩
theorem EnvR.fzT (N : EnvR K B w σ Γ) {p : Addr} {o : HO} (fp : w.F p = none) (oth : ∀ (i : Nat) (e : D), Γ[i]? = some (some (R.o e)) → σ[i]? ≠ some (some (.ref p))) : EnvR K B { w with F := upd w.F p o } σ Γ := ⟨N.len, fun i r e => by
  obtain ⟨x, a, b⟩ := N.sl i r e
  refine ⟨x, a, ?_⟩
  cases r with
  | v d => exact Rp.mono (upd_sm fp) b
  | o d =>
    obtain ⟨q, rfl, own, fq, bq, aq⟩ := b
    have hq : q ≠ p := fun z => by subst z; exact oth i d e a
    exact ⟨q, rfl, own.move (upd_sm fp) rfl, (upd_ne hq).trans fq, bq, aq⟩
  | h _ => exact b
  | raw _ => exact b
  | e _ =>
    obtain ⟨p', cls, e1, q, c⟩ := b
    exact ⟨p', cls, e1, upd_sm fp _ _ q, c⟩
  | b _ => exact b, N.inj⟩
theorem getSet {α : Type} {l : List α} {i j : Nat} {a x : α} (h : (l.set i a)[j]? = some x) : (i = j ∧ x = a) ∨ (i ≠ j ∧ l[j]? = some x) := by
  by_cases e : i = j
  · subst e
    rw [List.getElem?_set_self (by
      have := (List.getElem?_eq_some_iff.mp h).1
      simpa using this)] at h
    cases h; exact .inl ⟨rfl, rfl⟩
  · rw [List.getElem?_set_ne e] at h; exact .inr ⟨e, h⟩
theorem EnvR.fzS (N : EnvR K B w σ Γ) {i : Nat} {ds : List D} {p : Addr} {o : HO} (hi : Γ[i]? = some (some (.o (.list ds)))) (hp : σ[i]? = some (some (.ref p))) (ho : w.H p = some o) :
    EnvR K B { w with F := upd w.F p o } σ (Γ.set i (some (.v (.list ds)))) := by
  obtain ⟨x, hx, q, rfl, own, fq, bq, aq⟩ := N.sl i _ hi
  rw [hp] at hx; cases hx
  refine ⟨by rw [List.length_set]; exact N.len, fun j r e => ?_, fun j k d' e' x hj hk hx hy => ?_⟩
  · rcases getSet e with ⟨rfl, z⟩ | ⟨ne, e⟩
    · cases z
      exact ⟨_, hp, own.rp fq ho⟩
    · obtain ⟨x, a, b⟩ := N.sl j r e
      refine ⟨x, a, ?_⟩
      cases r with
      | v d => exact Rp.mono (upd_sm fq) b
      | o d' =>
        obtain ⟨q', rfl, own', fq', bq', aq'⟩ := b
        have hq : q' ≠ p := fun z => by subst z; exact ne (N.inj i j _ _ _ hi e hp a)
        exact ⟨q', rfl, own'.move (upd_sm fq) rfl, (upd_ne hq).trans fq', bq', aq'⟩
      | h _ => exact b
      | raw _ => exact b
      | e _ =>
        obtain ⟨p', cls, e1, q, c⟩ := b
        exact ⟨p', cls, e1, upd_sm fq _ _ q, c⟩
      | b _ => exact b
  · rcases getSet hj with ⟨rfl, z⟩ | ⟨ne, hj⟩
    · cases z
    · rcases getSet hk with ⟨rfl, z⟩ | ⟨ne', hk⟩
      · cases z
      · exact N.inj j k _ _ _ hj hk hx hy
theorem eok_esc {t : TE} {g : GE Y} (h : EOk Y K W t g) : EOk Y K W t (gEsc g) := by
  intro B w σ Γ s out Q Wh N e p
  refine h.go Wh N e p fun r Γ1 s1 x w1 W1 N1 l1 R1 e1 p1 => ?_
  cases r with
  | v d => cases e1; exact p1 w1 W1 N1 (.refl _) x R1
  | h d => cases e1; exact p1 w1 W1 N1 (.refl _) x R1
  | raw d => cases e1; exact p1 w1 W1 N1 (.refl _) x R1
  | e d => cases e1; exact p1 w1 W1 N1 (.refl _) x R1
  | o d =>
    cases d with
    | list ds =>
      cases e1
      obtain ⟨⟨q, rfl, own, fq, bq, aq⟩, oth⟩ := R1
      obtain ⟨o, ho⟩ := own.obj
      exact p1 { w1 with F := upd w1.F q o } (W1.fz ho bq aq fq) (N1.fzT fq oth) (Le.fz fq) _ (own.rp fq ho)
    | _ => cases e1
  | b i =>
    simp only at e1
    split at e1
    · rename_i d hd
      cases e1
      obtain ⟨y, hy, q, rfl, own, fq, bq, aq⟩ := N1.sl i _ hd
      have hx : σ[i]? = some (some x) := R1
      rw [hx] at hy; cases hy
      obtain ⟨o, ho⟩ := own.obj
      exact p1 { w1 with F := upd w1.F q o } (W1.fz ho bq aq fq) (N1.fzS hd hx ho) (Le.fz fq) _ (own.rp fq ho)
    · rename_i d hd
      cases e1
      obtain ⟨y, hy, b⟩ := N1.sl i _ hd
      have hx : σ[i]? = some (some x) := R1
      rw [hx] at hy; cases hy
      exact p1 w1 W1 N1 (.refl _) _ b
    · cases e1
end
section
variable {Y : Sys} {X : Cx} {W : WX} {e a b c : Expr} {es rest : List Expr} {pos : Pos} {ga gb gc : GE Y} {gr : GA Y} {gt gu : GT Y}
theorem me_esc {te_h : TE} (h : ME Y X W e te_h ga) : ME Y X W e te_h (gEsc ga) := by
  obtain ⟨p, h⟩ := h
  exact ⟨p, eok_esc h⟩
theorem RsA.weak {K : PySem.W.Frag} {B B' : Hp} {w : Wo} {σ : St} {Γ : Ev} (e : Same B B') : ∀ {xs : List V} {rs : List R}, RsA K B' w σ Γ xs rs → RsA K B w σ Γ xs rs
  | _, _, .nil => .nil
  | _, _, .cons q t => .cons (q.weak e) (RsA.weak e t)
def gN {Y : Sys} : GA Y := fun Γ s => some (.ok [], Γ, s)
def gK {Y : Sys} (ga : GE Y) (gr : GA Y) : GA Y := bd ga fun r => bd gr fun rs Γ s => some (.ok (r :: rs), Γ, s)
theorem ma_nil : MA Y X W [] tNil gN := ⟨pa_nil, fun B w σ Γ s out Q Wh N e p => by cases e; exact p w Wh N (.refl _) _ .nil⟩
theorem ma_cons {te_ha : TE} (ha : ME Y X W e te_ha ga) {ta_hr : TA} (hr : MA Y X W es ta_hr gr) (hs : starEach (e :: es) X.env = (false, eval e X.env) :: starEach es X.env := by rfl) : MA Y X W (e :: es) (tCons te_ha ta_hr) (gK ga gr) := by
  obtain ⟨pa, ha⟩ := ha
  obtain ⟨pr, hr⟩ := hr
  refine ⟨pa_cons pa pr hs, fun B w σ Γ s out Q Wh N e p => ?_⟩
  refine ha.go (Q := fun x H1 => ta_hr σ H1 fun xs H2 => Q (x :: xs) H2) Wh N e p fun r Γ1 s1 x w1 W1 N1 l1 R1 e1 p1 => ?_
  obtain ⟨B2, sB, W1b, N1b, kp, _⟩ := keep W1 N1 R1
  refine hr.go (Q := fun xs H2 => Q (x :: xs) H2) W1b N1b e1 (p1.imp sB fun _ _ _ q => q) fun rs Γ2 s2 xs w2 W2 N2 l2 Rs e2 p2 => ?_
  cases e2
  exact p1 w2 (W2.weak sB) (N2.weak sB) l2 _ (.cons (kp W2 N2 l2) (Rs.weak sB))
theorem sha_of {B : Hp} {w : Wo} {σ : St} {Γ : Ev} {s : Y.S} (Wh : Wd Y B w s) (N : EnvR X.K B w σ Γ) : ∀ {xs : List V} {rs : List R} {ds : List D}, RsA X.K B w σ Γ xs rs → rdA Γ rs = some ds → ShA X.K w.F w.H xs ds
  | _, _, _, .nil, e => by cases e; exact .nil
  | _, r :: rs, _, .cons q t, e => by
    unfold rdA at e
    split at e
    · rename_i d ds e1 e2
      cases e
      exact .cons (sh_of Wh N q e1) (sha_of Wh N t e2)
    · cases e
def gCall {Y : Sys} (f : List D → Option Rz) (gr : GA Y) : GE Y := bd gr fun rs => opN f rs
theorem eok_call {K : PySem.W.Frag} {r : List V → Hp → VK → Prop} {f : List D → Option Rz} {t : TA} (hf : OpN X.K r f) (h : AOk Y X.K W t gr) : EOk Y X.K W (tCB r t) (gCall f gr) := by
  intro B w σ Γ s out Q Wh N e p
  refine h.go (Q := fun xs H => r xs H Q) Wh N e p fun rs Γ1 s1 xs w1 W1 N1 l1 Rs e1 p1 => ?_
  unfold opN at e1
  split at e1
  · rename_i ds ed
    split at e1
    · cases e1
    · rename_i z ez
      cases e1
      exact hf _ _ _ _ _ _ W1.sF (sha_of W1 N1 Rs ed) ez (rz_use W1 N1 (.refl _) p1)
  · cases e1
theorem me_callB {id : String} {x : Str} {p : Pos} {r : List V → Hp → VK → Prop} {f : List D → Option Rz} (hc : CallR X (.builtin id) r) (hf : OpN X.K r f) (hg : Gl X x) (hm : X.mg x = none) (hv : bootBuiltins x = some (.builtin id)) {ta_ha : TA} (ha : MA Y X W (e :: es) ta_ha gr)
    (hn : x ≠ "__name__" := by decide) (hdb : (x == ("__debug__" : Str)) = false := by decide) (he : starEach (e :: es) X.env = (false, eval e X.env) :: starEach es X.env := by rfl) (hpl : (backTo pos (starEach es X.env)).any (·.1) = false := by rfl) :
    ME Y X W (.Call (.Name x p) (e :: es) [] pos) (tCB r ta_ha) (gCall f gr) := by
  obtain ⟨pa, h⟩ := ha
  exact ⟨pe_callB hc hg hm hv pa hn hdb he hpl, eok_call (K := X.K) hf h⟩
theorem me_callTy {T : String} {x : Str} {p : Pos} {r : List V → Hp → VK → Prop} {f : List D → Option Rz} (hc : CallR X (.type T) r) (hf : OpN X.K r f) (hg : Gl X x) (hm : X.mg x = none) (hv : bootBuiltins x = some (.type T)) {ta_ha : TA} (ha : MA Y X W (e :: es) ta_ha gr)
    (hn : x ≠ "__name__" := by decide) (hdb : (x == ("__debug__" : Str)) = false := by decide) (he : starEach (e :: es) X.env = (false, eval e X.env) :: starEach es X.env := by rfl) (hpl : (backTo pos (starEach es X.env)).any (·.1) = false := by rfl) :
    ME Y X W (.Call (.Name x p) (e :: es) [] pos) (tCB r ta_ha) (gCall f gr) := by
  obtain ⟨pa, h⟩ := ha
  exact ⟨pe_callTy hc hg hm hv pa hn hdb he hpl, eok_call (K := X.K) hf h⟩
def vs? : List R → Option (List D)
  | [] => some []
  | .v d :: rs => match vs? rs with
    | some ds => some (d :: ds)
    | none => none
  | _ :: _ => none
theorem rpa_of {K : PySem.W.Frag} {B : Hp} {w : Wo} {σ : St} {Γ : Ev} : ∀ {xs : List V} {rs : List R} {ds : List D}, RsA K B w σ Γ xs rs → vs? rs = some ds → RpA K w.F xs ds
  | _, _, _, .nil, e => by cases e; exact .nil
  | _, .v d :: rs, _, .cons q t, e => by
    unfold vs? at e
    split at e
    · rename_i ds e1
      cases e
      exact .cons q (rpa_of t e1)
    · cases e
  | _, .o _ :: _, _, .cons _ _, e => by cases e
  | _, .h _ :: _, _, .cons _ _, e => by cases e
  | _, .raw _ :: _, _, .cons _ _, e => by cases e
  | _, .e _ :: _, _, .cons _ _, e => by cases e
  | _, .b _ :: _, _, .cons _ _, e => by cases e
def sizeOk (n : Nat) : Bool := decide (n ≤ 1000000)
theorem sizeOk_le {n : Nat} (h : sizeOk n = true) : n ≤ sizeLine := Nat.le_trans (of_decide_eq_true h) (by decide)
theorem sizeOk_lt {n : Nat} (h : sizeOk n = true) : n < sizeLine := Nat.lt_of_le_of_lt (of_decide_eq_true h) (by decide)
def gTup {Y : Sys} (gr : GA Y) : GE Y := bd gr fun rs Γ s => match vs? rs with
  | some ds => if sizeOk ds.length = true then some (.ok (.v (.tuple ds)), Γ, s) else none
  | none => none
def gLst {Y : Sys} (gr : GA Y) : GE Y := bd gr fun rs Γ s => match vs? rs with
  | some ds => if sizeOk ds.length = true then some (.ok (.o (.list ds)), Γ, s) else none
  | none => none
theorem me_tup {x1} {ta_h : TA} (h : MA Y X W es ta_h gr) : ME Y X W (.Tuple es x1 pos) (tTup ta_h) (gTup gr) := by
  obtain ⟨pa, h⟩ := h
  refine ⟨pe_tup pa, fun B w σ Γ s out Q Wh N e p => ?_⟩
  refine h.go (Q := fun xs H1 => xs.length ≤ sizeLine ∧ ∀ p, H1 p = none → Q (.ref p) (upd H1 p (.tup xs))) Wh N e p fun rs Γ1 s1 xs w1 W1 N1 l1 Rs e1 p1 => ?_
  try simp only at e1
  split at e1
  · rename_i ds ed
    split at e1
    · rename_i hz
      cases e1
      have rp := rpa_of Rs ed
      refine ⟨by rw [rp.length]; exact sizeOk_le hz, fun p np => rz_use (z := .nw (.tuple ds)) (Q := Q) W1 N1 (.refl _) p1 p xs np rp⟩
    · cases e1
  · cases e1
theorem me_lst {ta_h : TA} (h : MA Y X W es ta_h gr) : ME Y X W (.List es pos) (tLst ta_h) (gLst gr) := by
  obtain ⟨pa, h⟩ := h
  refine ⟨pe_lst pa, fun B w σ Γ s out Q Wh N e p => ?_⟩
  refine h.go (Q := fun xs H1 => xs.length ≤ sizeLine ∧ ∀ p, H1 p = none → Q (.ref p) (upd H1 p (.lst xs))) Wh N e p fun rs Γ1 s1 xs w1 W1 N1 l1 Rs e1 p1 => ?_
  try simp only at e1
  split at e1
  · rename_i ds ed
    split at e1
    · rename_i hz
      cases e1
      have rp := rpa_of Rs ed
      refine ⟨by rw [rp.length]; exact sizeOk_le hz, fun p np => rz_use (z := .nw (.list ds)) (Q := Q) W1 N1 (.refl _) p1 p xs np rp⟩
    · cases e1
  · cases e1
def gDic {Y : Sys} : GE Y := fun Γ s => some (.ok (.v (.dict [])), Γ, s)
def gTst {Y : Sys} (g : GE Y) : GT Y := bd g fun r Γ s => match rdv Γ r with
  | some (.bool b) => some (.ok b, Γ, s)
  | _ => none
theorem sh_bool {K : PySem.W.Frag} {F H : Hp} {x : V} {b : Bool} (h : Sh K F H x (.bool b)) : x = .bl b := by cases (show Rp K F x (.bool b) from h); rfl
theorem tok_tst {K : PySem.W.Frag} {t : TE} {g : GE Y} (h : EOk Y K W t g) : TOk Y K W (tTest t) (gTst g) := by
  intro B w σ Γ s out Q Wh N e p
  refine h.go (Q := fun x H' => ∃ k, x = .bl k ∧ Q k H') Wh N e p fun r Γ1 s1 x w1 W1 N1 l1 R1 e1 p1 => ?_
  try simp only at e1
  split at e1
  · rename_i b hb
    cases e1
    exact ⟨b, sh_bool (sh_of W1 N1 R1 hb), p1 w1 W1 N1 (.refl _)⟩
  · cases e1
theorem mt_val {te_h : TE} (h : ME Y X W e te_h ga) (he : ∀ whole, isTrue e X.env whole = (do let v ← whole; standAt e.pos; holding [v] (truthy v)) := by intro _; rfl) : MT Y X W e (tB te_h) (gTst ga) := by
  obtain ⟨p, h⟩ := h
  exact ⟨pt_val p he, tok_tst h⟩
theorem mt_cmp {op : CmpOp} {r : R2} {f : D → D → Option Rz} (ho : OpR X (compareOp op) r) (hf : Op2 X.K r f) {te_ha : TE} (ha : ME Y X W a te_ha ga) {te_hb : TE} (hb : ME Y X W b te_hb gb) (hm : behindInMarks op b = false) : MT Y X W (.Compare a [op] [b] pos) (tTest (tOp r te_ha te_hb)) (gTst (gBin f ga gb)) := by
  obtain ⟨pa, ha⟩ := ha
  obtain ⟨pb, hb⟩ := hb
  exact ⟨pt_cmpR ho pa pb hm, tok_tst (eok_bin hf ha hb)⟩
def gNot {Y : Sys} (g : GT Y) : GT Y := bd g fun b Γ s => some (.ok (!b), Γ, s)
def gAnd {Y : Sys} (g h : GT Y) : GT Y := bd g fun b Γ s => if b = true then h Γ s else some (.ok false, Γ, s)
def gOr {Y : Sys} (g h : GT Y) : GT Y := bd g fun b Γ s => if b = true then some (.ok true, Γ, s) else h Γ s
theorem mt_not {tt_h : TT} (h : MT Y X W a tt_h gt) : MT Y X W (.UnaryOp .Not a pos) (tNot tt_h) (gNot gt) := by
  obtain ⟨p, h⟩ := h
  refine ⟨pt_not p, fun B w σ Γ s out Q Wh N e p => ?_⟩
  refine h.go (Q := fun c H1 => Q (!c) H1) Wh N e p fun b Γ1 s1 w1 W1 N1 l1 e1 p1 => ?_
  cases e1
  exact p1 w1 W1 N1 (.refl _)
theorem mw_and1 {tt_h : TT} (h : MT Y X W a tt_h gt) : MW Y X W (.BoolOp .And [a] pos) tt_h gt := by
  obtain ⟨p, h⟩ := h
  exact ⟨pw_and1 p, h⟩
theorem mw_or1 {tt_h : TT} (h : MT Y X W a tt_h gt) : MW Y X W (.BoolOp .Or [a] pos) tt_h gt := by
  obtain ⟨p, h⟩ := h
  exact ⟨pw_or1 p, h⟩
theorem mw_and {tt_h : TT} (h : MT Y X W a tt_h gt) {tt_h2 : TT} (h2 : MW Y X W (.BoolOp .And (b :: rest) pos) tt_h2 gu) : MW Y X W (.BoolOp .And (a :: b :: rest) pos) (tAnd tt_h tt_h2) (gAnd gt gu) := by
  obtain ⟨p, h⟩ := h
  obtain ⟨q, h2⟩ := h2
  refine ⟨pw_and p q, fun B w σ Γ s out Q Wh N e p => ?_⟩
  refine h.go (Q := fun c H1 => if c = true then tt_h2 σ H1 Q else Q false H1) Wh N e p fun b Γ1 s1 w1 W1 N1 l1 e1 p1 => ?_
  cases b with
  | true => exact h2 B w1 σ Γ1 s1 _ Q W1 N1 e1 p1
  | false => cases e1; exact p1 w1 W1 N1 (.refl _)
theorem mw_or {tt_h : TT} (h : MT Y X W a tt_h gt) {tt_h2 : TT} (h2 : MW Y X W (.BoolOp .Or (b :: rest) pos) tt_h2 gu) : MW Y X W (.BoolOp .Or (a :: b :: rest) pos) (tOr tt_h tt_h2) (gOr gt gu) := by
  obtain ⟨p, h⟩ := h
  obtain ⟨q, h2⟩ := h2
  refine ⟨pw_or p q, fun B w σ Γ s out Q Wh N e p => ?_⟩
  refine h.go (Q := fun c H1 => if c = true then Q true H1 else tt_h2 σ H1 Q) Wh N e p fun b Γ1 s1 w1 W1 N1 l1 e1 p1 => ?_
  cases b with
  | false => exact h2 B w1 σ Γ1 s1 _ Q W1 N1 e1 p1
  | true => cases e1; exact p1 w1 W1 N1 (.refl _)
theorem mt_w {tt_h : TT} (h : MW Y X W e tt_h gt) : MT Y X W e tt_h gt := by
  obtain ⟨p, h⟩ := h
  exact ⟨p.pt, h⟩
def gAndV {Y : Sys} (g h : GE Y) : GE Y := bd (gTst g) fun b Γ s => if b = true then h Γ s else some (.ok (.v (.bool false)), Γ, s)
def gOrV {Y : Sys} (g h : GE Y) : GE Y := bd (gTst g) fun b Γ s => if b = true then some (.ok (.v (.bool true)), Γ, s) else h Γ s
def gNotV {Y : Sys} (g : GE Y) : GE Y := bd (gTst g) fun b Γ s => some (.ok (.v (.bool !b)), Γ, s)
theorem me_one {op} {te_h : TE} (h : ME Y X W a te_h ga) : ME Y X W (.BoolOp op [a] pos) te_h ga := by
  obtain ⟨p, h⟩ := h
  exact ⟨pe_one p, h⟩
theorem me_and {te_h : TE} (h : ME Y X W a te_h ga) {te_h2 : TE} (h2 : ME Y X W (.BoolOp .And (b :: rest) pos) te_h2 gb) : ME Y X W (.BoolOp .And (a :: b :: rest) pos) (tAndV te_h te_h2) (gAndV ga gb) := by
  obtain ⟨p, h⟩ := h
  obtain ⟨q, h2⟩ := h2
  refine ⟨pe_and p q, fun B w σ Γ s out Q Wh N e p => ?_⟩
  refine (tok_tst h).go (Q := fun c H1 => if c = true then te_h2 σ H1 Q else Q (.bl false) H1) Wh N e p fun b Γ1 s1 w1 W1 N1 l1 e1 p1 => ?_
  cases b with
  | true => exact h2 B w1 σ Γ1 s1 _ Q W1 N1 e1 p1
  | false => cases e1; exact p1 w1 W1 N1 (.refl _) _ (.bl _)
def gIf {Y : Sys} (t : GT Y) (a b : GE Y) : GE Y := bd t fun c => if c = true then a else b
theorem me_if {tt_h : TT} (h : MT Y X W c tt_h gt) {te_ha : TE} (ha : ME Y X W a te_ha ga) {te_hb : TE} (hb : ME Y X W b te_hb gb) : ME Y X W (.IfExp c a b pos) (tIf tt_h te_ha te_hb) (gIf gt ga gb) := by
  obtain ⟨p, h⟩ := h
  obtain ⟨pa, ha⟩ := ha
  obtain ⟨pb, hb⟩ := hb
  refine ⟨pe_ifExp p pa pb, fun B w σ Γ s out Q Wh N e p => ?_⟩
  refine h.go (Q := fun c H1 => if c = true then te_ha σ H1 Q else te_hb σ H1 Q) Wh N e p fun b Γ1 s1 w1 W1 N1 l1 e1 p1 => ?_
  cases b with
  | true => exact ha B w1 σ Γ1 s1 _ Q W1 N1 e1 p1
  | false => exact hb B w1 σ Γ1 s1 _ Q W1 N1 e1 p1
def zB : Rz → Option Bool
  | .nw (.bool b) => some b
  | .old (.bool b) => some b
  | _ => none
def gChain {Y : Sys} (f f' : D → D → Option Rz) (ga gb gc : GE Y) : GE Y := bd ga fun ra => bd gb fun rb Γ s => match rdv Γ ra, rdv Γ rb with
  | some d, some e => match f d e with
    | none => none
    | some z => match zB z with
      | none => none
      | some true => bd gc (fun rc => op2 f' rb rc) Γ s
      | some false => some (.ok (.v (.bool false)), Γ, s)
  | _, _ => none
theorem rz_bool {K : PySem.W.Frag} {F H : Hp} {Q : VK} : ∀ {z : Rz} {b : Bool}, zB z = some b → Q (.bl b) H → RzQ K F H Q z
  | .nw (.bool _), _, e, q => by cases e; intro x r; cases r; exact q
  | .old (.bool _), _, e, q => by cases e; intro x r; cases r; exact q
  | .nw .none, _, e, _ => by cases e
  | .nw (.int _), _, e, _ => by cases e
  | .nw (.str _), _, e, _ => by cases e
  | .nw (.list _), _, e, _ => by cases e
  | .nw (.tuple _), _, e, _ => by cases e
  | .nw (.dict _), _, e, _ => by cases e
  | .old .none, _, e, _ => by cases e
  | .old (.int _), _, e, _ => by cases e
  | .old (.str _), _, e, _ => by cases e
  | .old (.list _), _, e, _ => by cases e
  | .old (.tuple _), _, e, _ => by cases e
  | .old (.dict _), _, e, _ => by cases e
theorem eok_chain {K : PySem.W.Frag} {r r' : R2} {f f' : D → D → Option Rz} {ta tb tc : TE} (hf : Op2 K r f) (hf' : Op2 K r' f') (ha : EOk Y K W ta ga) (hb : EOk Y K W tb gb) (hc : EOk Y K W tc gc) : EOk Y K W (tChain r r' ta tb tc) (gChain f f' ga gb gc) := by
  intro B w σ Γ s out Q Wh N e p
  refine ha.two (T := fun x y H2 => r x y H2 fun z H3 => ∃ k, z = .bl k ∧ (if k = true then tc σ H3 fun w' H4 => r' y w' H4 Q else Q (.bl false) H3)) hb Wh N e p fun ra rb Γ1 s1 x y w1 W1 N1 l1 Ra Rb e1 p1 => ?_
  try simp only at e1
  split at e1
  · rename_i d d' ed ed'
    split at e1
    · cases e1
    · rename_i z ez
      split at e1
      · cases e1
      · rename_i hz
        refine hf _ _ _ _ _ _ _ _ W1.sF (sh_of W1 N1 Ra ed) (sh_of W1 N1 Rb ed') ez (rz_bool hz ⟨true, rfl, ?_⟩)
        rw [if_pos rfl]
        obtain ⟨B2, sB, W1b, N1b, kp, _⟩ := keep W1 N1 Rb
        refine hc.go (Q := fun w' H4 => r' y w' H4 Q) W1b N1b e1 (PoE.strong p1 sB) fun rc Γ2 s2 v w2 W2 N2 l2 Rc e2 p2 => ?_
        unfold op2 at e2
        split at e2
        · rename_i d2 d3 ed2 ed3
          split at e2
          · cases e2
          · rename_i z2 ez2
            cases e2
            exact hf' _ _ _ _ _ _ _ _ W2.sF (sh_of (W2.weak sB) (N2.weak sB) (kp W2 N2 l2) ed2) (sh_of W2 N2 Rc ed3) ez2 (rz_use W2 N2 (.refl _) p2)
        · cases e2
      · rename_i hz
        cases e1
        refine hf _ _ _ _ _ _ _ _ W1.sF (sh_of W1 N1 Ra ed) (sh_of W1 N1 Rb ed') ez (rz_bool hz ⟨false, rfl, ?_⟩)
        rw [if_neg Bool.false_ne_true]
        exact p1 w1 W1 N1 (.refl _) _ (.bl _)
  · cases e1
theorem me_chain {op op' : CmpOp} {r r' : R2} {f f' : D → D → Option Rz} (ho : OpR X (compareOp op) r) (hf : Op2 X.K r f) (ho' : OpR X (compareOp op') r') (hf' : Op2 X.K r' f') {te_ha : TE} (ha : ME Y X W a te_ha ga) {te_hb : TE} (hb : ME Y X W b te_hb gb) {te_hc : TE} (hc : ME Y X W c te_hc gc)
    (hm : lastMarks [op, op'] [b, c] = false := by with_unfolding_all rfl) : ME Y X W (.Compare a [op, op'] [b, c] pos) (tChain r r' te_ha te_hb te_hc) (gChain f f' ga gb gc) := by
  obtain ⟨pa, ha⟩ := ha
  obtain ⟨pb, hb⟩ := hb
  obtain ⟨pc, hc⟩ := hc
  exact ⟨pe_chain ho ho' pa pb pc hm, eok_chain hf hf' ha hb hc⟩
theorem mt_chain {op op' : CmpOp} {r r' : R2} {f f' : D → D → Option Rz} (ho : OpR X (compareOp op) r) (hf : Op2 X.K r f) (ho' : OpR X (compareOp op') r') (hf' : Op2 X.K r' f') {te_ha : TE} (ha : ME Y X W a te_ha ga) {te_hb : TE} (hb : ME Y X W b te_hb gb) {te_hc : TE} (hc : ME Y X W c te_hc gc)
    (hm : lastMarks [op, op'] [b, c] = false := by with_unfolding_all rfl) : MT Y X W (.Compare a [op, op'] [b, c] pos) (tTest (tChain r r' te_ha te_hb te_hc)) (gTst (gChain f f' ga gb gc)) := by
  obtain ⟨pa, ha⟩ := ha
  obtain ⟨pb, hb⟩ := hb
  obtain ⟨pc, hc⟩ := hc
  exact ⟨pt_chain ho ho' pa pb pc hm, tok_tst (eok_chain hf hf' ha hb hc)⟩
end
end FX
set_option Elab.async false
set_option linter.all false
set_option maxRecDepth 100000
set_option maxHeartbeats 1000000
namespace FX
open PySem PySem.Spec L2
inductive Fl where
  | nx | rt (r : R) | bk | ct | er (c : Str)
abbrev GS (Y : Sys) := Ev → Y.S → Option (Fl × Ev × Y.S)
def PoS (Y : Sys) (K : PySem.W.Frag) (W : WX) (B : Hp) (w : Wo) (D : Ends) : Fl × Ev × Y.S → Prop
  | (.nx, Γ', s') => ∀ w' σ', Wd Y B w' s' → EnvR K B w' σ' Γ' → Le w w' → D.nx σ' w'.H
  | (.bk, Γ', s') => ∀ w' σ', Wd Y B w' s' → EnvR K B w' σ' Γ' → Le w w' → D.bk σ' w'.H
  | (.ct, Γ', s') => ∀ w' σ', Wd Y B w' s' → EnvR K B w' σ' Γ' → Le w w' → D.ct σ' w'.H
  | (.rt r, _, s') => ∀ w' x, Wd Y B w' s' → SlR K B w' x r → Le w w' → D.rt x w'.H
  | (.er n, Γ', s') => ∀ w' σ', Wd Y B w' s' → EnvR K B w' σ' Γ' → Le w w' → ∀ c, Cn K n c → W c none σ' w'.H
def SOk (Y : Sys) (K : PySem.W.Frag) (W : WX) (t : TS) (g : GS Y) : Prop := ∀ (B : Hp) (w : Wo) (σ : St) (Γ : Ev) (s : Y.S) (out : Fl × Ev × Y.S) (D : Ends),
  Wd Y B w s → EnvR K B w σ Γ → g Γ s = some out → PoS Y K W B w D out → t D σ w.H
structure MS (Y : Sys) (X : Cx) (W : WX) (st : Stmt) (t : TS) (g : GS Y) : Prop where
  pe : PS X st t
  ok : SOk Y X.K W t g
structure MSs (Y : Sys) (X : Cx) (W : WX) (st : List Stmt) (t : TS) (g : GS Y) : Prop where
  pe : PSs X st t
  ok : SOk Y X.K W t g
def bdS {S α : Type} (g : Ev → S → Option (Oc α × Ev × S)) (k : α → Ev → S → Option (Fl × Ev × S)) : Ev → S → Option (Fl × Ev × S) := fun Γ s =>
  match g Γ s with
  | none => none
  | some (.ok a, Γ', s') => k a Γ' s'
  | some (.er c, Γ', s') => some (.er c, Γ', s')
section
variable {Y : Sys} {K : PySem.W.Frag} {W : WX} {B B2 : Hp} {w w1 : Wo} {σ : St} {Γ : Ev} {s : Y.S} {D : Ends}
theorem PoS.le {out : Fl × Ev × Y.S} (p : PoS Y K W B w D out) (l : Le w w1) : PoS Y K W B w1 D out := by
  obtain ⟨o, Γ', s'⟩ := out
  cases o <;> exact fun w' x W' N' l' => p w' x W' N' (l.trans l')
theorem PoS.strong {out : Fl × Ev × Y.S} (p : PoS Y K W B w D out) (e : Same B B2) : PoS Y K W B2 w D out := by
  obtain ⟨o, Γ', s'⟩ := out
  cases o with
  | rt r => exact fun w' x W' r' l' => p w' x (W'.weak e) (r'.weak e) l'
  | nx => exact fun w' x W' N' l' => p w' x (W'.weak e) (N'.weak e) l'
  | bk => exact fun w' x W' N' l' => p w' x (W'.weak e) (N'.weak e) l'
  | ct => exact fun w' x W' N' l' => p w' x (W'.weak e) (N'.weak e) l'
  | er c => exact fun w' x W' N' l' => p w' x (W'.weak e) (N'.weak e) l'
theorem EOk.goS {t : TE} {g : GE Y} (h : EOk Y K W t g) (Wh : Wd Y B w s) (N : EnvR K B w σ Γ) {k : R → Ev → Y.S → Option (Fl × Ev × Y.S)} {out : Fl × Ev × Y.S} {Q : VK}
    (e : bdS g k Γ s = some out) (p : PoS Y K W B w D out)
    (c : ∀ r Γ1 s1 x w1, Wd Y B w1 s1 → EnvR K B w1 σ Γ1 → Le w w1 → ResR K B w1 σ Γ1 x r → k r Γ1 s1 = some out → PoS Y K W B w1 D out → Q x w1.H) : t σ w.H Q := by
  unfold bdS at e
  cases eg : g Γ s with
  | none => rw [eg] at e; cases e
  | some o =>
    obtain ⟨o, Γ1, s1⟩ := o
    rw [eg] at e
    cases o with
    | ok r => exact h B w σ Γ s _ Q Wh N eg fun w1 W1 N1 l x r1 => c r Γ1 s1 x w1 W1 N1 l r1 e (p.le l)
    | er z =>
      cases e
      exact h B w σ Γ s _ Q Wh N eg fun w1 W1 N1 l => p w1 σ W1 N1 l
theorem TOk.goS {t : TT} {g : GT Y} (h : TOk Y K W t g) (Wh : Wd Y B w s) (N : EnvR K B w σ Γ) {k : Bool → Ev → Y.S → Option (Fl × Ev × Y.S)} {out : Fl × Ev × Y.S} {Q : Bool → Hp → Prop}
    (e : bdS g k Γ s = some out) (p : PoS Y K W B w D out)
    (c : ∀ b Γ1 s1 w1, Wd Y B w1 s1 → EnvR K B w1 σ Γ1 → Le w w1 → k b Γ1 s1 = some out → PoS Y K W B w1 D out → Q b w1.H) : t σ w.H Q := by
  unfold bdS at e
  cases eg : g Γ s with
  | none => rw [eg] at e; cases e
  | some o =>
    obtain ⟨o, Γ1, s1⟩ := o
    rw [eg] at e
    cases o with
    | ok r => exact h B w σ Γ s _ Q Wh N eg fun w1 W1 N1 l => c r Γ1 s1 w1 W1 N1 l e (p.le l)
    | er z =>
      cases e
      exact h B w σ Γ s _ Q Wh N eg fun w1 W1 N1 l => p w1 σ W1 N1 l
end
section
variable {Y : Sys} {K : PySem.W.Frag} {W : WX} {B B2 : Hp} {w w1 : Wo} {σ : St} {Γ : Ev} {s : Y.S}
theorem setLen {σ : St} {Γ : Ev} (h : σ.length = Γ.length) (i : Nat) (a : Option V) (b : Option R) : (σ.set i a).length = (Γ.set i b).length := by
  rw [List.length_set, List.length_set]; exact h
theorem getPut {σ : St} {Γ : Ev} (h : σ.length = Γ.length) {i j : Nat} {a : Option V} {b r : Option R} (e : (Γ.set i b)[j]? = some r) :
    (i = j ∧ r = b ∧ (σ.set i a)[j]? = some a) ∨ (i ≠ j ∧ Γ[j]? = some r ∧ (σ.set i a)[j]? = σ[j]?) := by
  have hj : j < (Γ.set i b).length := (List.getElem?_eq_some_iff.mp e).1
  rw [List.length_set, ← h] at hj
  rcases getSet e with ⟨rfl, rfl⟩ | ⟨ne, e⟩
  · exact .inl ⟨rfl, rfl, by rw [List.getElem?_set_self hj]⟩
  · exact .inr ⟨ne, e, List.getElem?_set_ne ne⟩
theorem EnvR.put (N : EnvR K B w σ Γ) {x : V} {r : R} (h : ResR K B w σ Γ x r) (hb : ∀ k, r ≠ .b k) (i : Nat) : EnvR K B w (σ.set i (some x)) (Γ.set i (some r)) := by
  have hs : SlR K B w x r := by
    cases r with
    | o d => exact h.1
    | b k => exact absurd rfl (hb k)
    | v _ => exact h
    | h _ => exact h
    | raw _ => exact h
    | e _ => exact h
  refine ⟨setLen N.len _ _ _, fun j r' e => ?_, fun j k d e x' hj hk hx hy => ?_⟩
  · rcases getPut (a := some x) N.len e with ⟨rfl, z, e2⟩ | ⟨ne, e1, e2⟩
    · cases z; exact ⟨x, e2, hs⟩
    · rw [e2]; exact N.sl j r' e1
  · rcases getPut (a := some x) N.len hj with ⟨rfl, z, e2⟩ | ⟨ne, e1, e2⟩
    · rcases getPut (a := some x) N.len hk with ⟨rfl, z', e2'⟩ | ⟨ne', e1', e2'⟩
      · rfl
      · cases z
        rw [e2] at hx; cases hx
        rw [e2'] at hy
        exact absurd hy (h.2 k e e1')
    · rcases getPut (a := some x) N.len hk with ⟨rfl, z', e2'⟩ | ⟨ne', e1', e2'⟩
      · cases z'
        rw [e2'] at hy; cases hy
        rw [e2] at hx
        exact absurd hx (h.2 j d e1)
      · rw [e2] at hx; rw [e2'] at hy
        exact N.inj j k d e x' e1 e1' hx hy
theorem EnvR.del (N : EnvR K B w σ Γ) (i : Nat) (x : Option V) : EnvR K B w (σ.set i x) (Γ.set i none) := by
  refine ⟨setLen N.len _ _ _, fun j r' e => ?_, fun j k d e x' hj hk hx hy => ?_⟩
  · rcases getPut (a := x) N.len e with ⟨rfl, z, e2⟩ | ⟨ne, e1, e2⟩
    · cases z
    · rw [e2]; exact N.sl j r' e1
  · rcases getPut (a := x) N.len hj with ⟨rfl, z, e2⟩ | ⟨ne, e1, e2⟩
    · cases z
    · rcases getPut (a := x) N.len hk with ⟨rfl, z', e2'⟩ | ⟨ne', e1', e2'⟩
      · cases z'
      · rw [e2] at hx; rw [e2'] at hy
        exact N.inj j k d e x' e1 e1' hx hy
end
mutual
inductive Tg where
  | n (i : Nat) | t (l : Tgs)
inductive Tgs where
  | nil | cons (a : Tg) (l : Tgs)
end
mutual
def bindT : Tg → D → Ev → Option Ev
  | .n i, d, Γ => some (Γ.set i (some (.v d)))
  | .t l, .tuple ds, Γ => bindTs l ds Γ
  | .t _, _, _ => none
def bindTs : Tgs → List D → Ev → Option Ev
  | .nil, [], Γ => some Γ
  | .cons a l, d :: ds, Γ => match bindT a d Γ with
    | some Γ' => bindTs l ds Γ'
    | none => none
  | _, _, _ => none
end
mutual
def Tg.sl : Tg → List Nat
  | .n i => [i]
  | .t l => l.sl
def Tgs.sl : Tgs → List Nat
  | .nil => []
  | .cons a l => a.sl ++ l.sl
end
theorem wipe_set {σ : St} {i : Nat} {x : Option V} : ∀ {vs : List Nat}, i ∈ vs → wipe (σ.set i x) vs = wipe σ vs
  | [], h => by cases h
  | v :: vs, h => by
    show (wipe (σ.set i x) vs).set v none = (wipe σ vs).set v none
    by_cases hi : i ∈ vs
    · rw [wipe_set hi]
    · have hv : i = v := (List.mem_cons.mp h).resolve_right hi
      subst hv
      clear h
      have key : ∀ (us : List Nat), wipe (σ.set i x) us = (wipe σ us).set i (if i ∈ us then none else x) := by
        intro us
        induction us with
        | nil => rfl
        | cons u us ih =>
          show (wipe (σ.set i x) us).set u none = ((wipe σ us).set u none).set i _
          rw [ih]
          by_cases hu : i = u
          · subst hu
            simp [List.set_set]
          · rw [List.set_comm _ _ hu]
            simp [hu]
      rw [key, List.set_set]
def GOk (Y : Sys) (K : PySem.W.Frag) (g : TG) (T : Tg) : Prop := ∀ (B : Hp) (w : Wo) (σ : St) (Γ Γ' : Ev) (s : Y.S) (x : V) (d : D) (Q : St → Hp → Prop),
  Wd Y B w s → EnvR K B w σ Γ → Rp K w.F x d → bindT T d Γ = some Γ' → (∀ σ', EnvR K B w σ' Γ' → (∀ vs : List Nat, (∀ i ∈ T.sl, i ∈ vs) → wipe σ' vs = wipe σ vs) → Q σ' w.H) → g x σ w.H Q
def GsOk (Y : Sys) (K : PySem.W.Frag) (g : TGs) (T : Tgs) : Prop := ∀ (B : Hp) (w : Wo) (σ : St) (Γ Γ' : Ev) (s : Y.S) (xs : List V) (ds : List D) (Q : St → Hp → Prop),
  Wd Y B w s → EnvR K B w σ Γ → RpA K w.F xs ds → bindTs T ds Γ = some Γ' → (∀ σ', EnvR K B w σ' Γ' → (∀ vs : List Nat, (∀ i ∈ T.sl, i ∈ vs) → wipe σ' vs = wipe σ vs) → Q σ' w.H) → g xs σ w.H Q
structure MG (Y : Sys) (X : Cx) (e : Expr) (g : TG) (T : Tg) : Prop where
  pe : PG X e g
  ok : GOk Y X.K g T
structure MGs (Y : Sys) (X : Cx) (es : List Expr) (g : TGs) (T : Tgs) : Prop where
  pe : PGs X es g
  ok : GsOk Y X.K g T
section
variable {Y : Sys} {X : Cx} {e : Expr} {es : List Expr} {pos : Pos}
theorem mg_name {i : Nat} (h : PG X e (L2.gName i)) : MG Y X e (L2.gName i) (.n i) :=
  ⟨h, fun B w σ Γ Γ' s x d Q Wh N r e q => by
    cases e
    exact q _ (N.put (r := .v d) r (fun _ z => nomatch z) i) fun vs hv => wipe_set (hv i (by simp [Tg.sl]))⟩
theorem mgs_nil : MGs Y X [] gNil .nil :=
  ⟨pgs_nil, fun B w σ Γ Γ' s xs ds Q Wh N r e q => by
    cases r with
    | nil => cases e; exact ⟨rfl, q σ N fun _ _ => rfl⟩
    | cons a b => cases e⟩
theorem mgs_cons {a : Tg} {l : Tgs} {tg_h : TG} {tg_h2 : TGs} (h : MG Y X e tg_h a) (h2 : MGs Y X es tg_h2 l) (hs : (assignEach (e :: es) X.env).map (·.2) = assign e X.env :: (assignEach es X.env).map (·.2) := by rfl) : MGs Y X (e :: es) (gCons tg_h tg_h2) (.cons a l) := by
  obtain ⟨pg, h⟩ := h
  obtain ⟨pgs, h2⟩ := h2
  refine ⟨pgs_cons pg pgs hs, fun B w σ Γ Γ' s xs ds Q Wh N r e q => ?_⟩
  cases r with
  | nil => cases e
  | cons r rs =>
    unfold bindTs at e
    split at e
    · rename_i Γ1 e1
      refine ⟨_, _, rfl, h B w σ Γ Γ1 s _ _ _ Wh N r e1 fun σ1 N1 z1 => ?_⟩
      exact h2 B w σ1 Γ1 Γ' s _ _ _ Wh N1 rs e fun σ2 N2 z2 => q σ2 N2 fun vs hv => (z2 vs fun i hi => hv i (by simp [Tgs.sl, hi])).trans (z1 vs fun i hi => hv i (by simp [Tgs.sl, hi]))
    · cases e
theorem mg_tup {k : Nat} {l : Tgs} {n : Nat} {tg_h : TGs} (hc : X.calm = true) (h : MGs Y X es tg_h l) (hn : (assignEach es X.env).length = n := by rfl) (hst : (assignEach es X.env).findIdx? (·.1) = none := by rfl)
    (hl : ∀ ds Γ Γ', bindTs l ds Γ = some Γ' → ds.length = n) : MG Y X (.Tuple es k pos) (L2.gTup X.K n tg_h) (.t l) := by
  obtain ⟨pg, h⟩ := h
  refine ⟨pg_tup hc pg hn hst, fun B w σ Γ Γ' s x d Q Wh N r e q => ?_⟩
  cases r with
  | tup a b =>
    exact ⟨_, _, rfl, .of (Wh.sF _ _ a), by rw [b.length]; exact hl _ _ _ e, h B w σ Γ Γ' s _ _ _ Wh N b e fun σ' N' z => q σ' N' fun vs hv => z vs hv⟩
  | _ => cases e
theorem bl0 : ∀ ds Γ Γ', bindTs .nil ds Γ = some Γ' → ds.length = 0
  | [], _, _, _ => rfl
  | _ :: _, _, _, e => by cases e
theorem blS {a : Tg} {l : Tgs} {n : Nat} (h : ∀ ds Γ Γ', bindTs l ds Γ = some Γ' → ds.length = n) : ∀ ds Γ Γ', bindTs (.cons a l) ds Γ = some Γ' → ds.length = n + 1
  | [], _, _, e => by cases e
  | d :: ds, _, _, e => by
    unfold bindTs at e
    split at e
    · exact congrArg (· + 1) (h _ _ _ e)
    · cases e
end
def sNil {Y : Sys} : GS Y := fun Γ s => some (.nx, Γ, s)
def sSeq {Y : Sys} (g h : GS Y) : GS Y := fun Γ s => match g Γ s with
  | none => none
  | some (.nx, Γ', s') => h Γ' s'
  | some (.rt r, Γ', s') => some (.rt r, Γ', s')
  | some (.bk, Γ', s') => some (.bk, Γ', s')
  | some (.ct, Γ', s') => some (.ct, Γ', s')
  | some (.er c, Γ', s') => some (.er c, Γ', s')
def sDrop {Y : Sys} (g : GE Y) : GS Y := bdS g fun _ Γ s => some (.nx, Γ, s)
def sRet {Y : Sys} (g : GE Y) : GS Y := bdS g fun r Γ s => match r with
  | .b i => match Γ[i]? with
    | some (some (.o d)) => some (.rt (.o d), Γ, s)
    | some (some (.v d)) => some (.rt (.v d), Γ, s)
    | _ => none
  | r => some (.rt r, Γ, s)
def sRetN {Y : Sys} : GS Y := fun Γ s => some (.rt (.v .none), Γ, s)
def sBrk {Y : Sys} : GS Y := fun Γ s => some (.bk, Γ, s)
def sCnt {Y : Sys} : GS Y := fun Γ s => some (.ct, Γ, s)
def sIf {Y : Sys} (t : GT Y) (a b : GS Y) : GS Y := bdS t fun c => if c = true then a else b
def sRaise {Y : Sys} (c : Str) : GS Y := fun Γ s => some (.er c, Γ, s)
def sStuck {Y : Sys} : GS Y := fun _ _ => none
def sSet {Y : Sys} (i : Nat) (g : GE Y) : GS Y := bdS g fun r Γ s => match r with
  | .b j => match Γ[j]? with
    | some (some (.o (.list ds))) => some (.nx, (Γ.set j (some (.v (.list ds)))).set i (some (.v (.list ds))), s)
    | some (some (.v d)) => some (.nx, Γ.set i (some (.v d)), s)
    | _ => none
  | r => some (.nx, Γ.set i (some r), s)
def sUnp {Y : Sys} (l : Tgs) (g : GE Y) : GS Y := bdS g fun r Γ s => match r with
  | .v d => match bindT (.t l) d Γ with
    | some Γ' => some (.nx, Γ', s)
    | none => none
  | _ => none
section
variable {Y : Sys} {X : Cx} {W : WX} {st : Stmt} {sts rest : List Stmt} {e a b c : Expr} {es : List Expr} {pos : Pos} {ga gb gc : GE Y} {gt : GT Y} {g h : GS Y}
theorem mss_nil : MSs Y X W [] tNext sNil := ⟨pss_nil, fun B w σ Γ s out D Wh N e p => by cases e; exact p w σ Wh N (.refl _)⟩
theorem sok_seq {K : PySem.W.Frag} {t u : TS} (h1 : SOk Y K W t g) (h2 : SOk Y K W u h) : SOk Y K W (tSeq t u) (sSeq g h) := by
  intro B w σ Γ s out D Wh N e p
  unfold sSeq at e
  cases eg : g Γ s with
  | none => rw [eg] at e; cases e
  | some o =>
    obtain ⟨o, Γ1, s1⟩ := o
    rw [eg] at e
    refine h1 B w σ Γ s _ { D with nx := u D } Wh N eg ?_
    cases o with
    | nx => exact fun w1 σ1 W1 N1 l1 => h2 B w1 σ1 Γ1 s1 _ D W1 N1 e (p.le l1)
    | rt r => cases e; exact p
    | bk => cases e; exact p
    | ct => cases e; exact p
    | er c => cases e; exact p
theorem mss_cons {ts_h1 : TS} (h1 : MS Y X W st ts_h1 g) {ts_h2 : TS} (h2 : MSs Y X W rest ts_h2 h) : MSs Y X W (st :: rest) (tSeq ts_h1 ts_h2) (sSeq g h) := by
  obtain ⟨pt, h1⟩ := h1
  obtain ⟨pu, h2⟩ := h2
  exact ⟨pss_cons pt pu, sok_seq h1 h2⟩
theorem mss_one {ts_h1 : TS} (h1 : MS Y X W st ts_h1 g) : MSs Y X W [st] ts_h1 g := by
  obtain ⟨pt, h1⟩ := h1
  exact ⟨pss_one pt, h1⟩
theorem ms_expr {te_he : TE} (he : ME Y X W e te_he ga) (hs : swapsWith e none pos.line X.env = pure false := by rfl) : MS Y X W (.Expr e pos) (tDrop te_he) (sDrop ga) := by
  obtain ⟨p, he⟩ := he
  refine ⟨ps_expr p hs, fun B w σ Γ s out D Wh N e p => ?_⟩
  exact he.goS (Q := fun _ H1 => D.nx σ H1) Wh N e p fun r Γ1 s1 x w1 W1 N1 l1 R1 e1 p1 => by cases e1; exact p1 w1 σ W1 N1 (.refl _)
theorem ms_ret {te_he : TE} (he : ME Y X W e te_he ga) : MS Y X W (.Return (some e) pos) (tRet te_he) (sRet ga) := by
  obtain ⟨p, he⟩ := he
  refine ⟨ps_ret p, fun B w σ Γ s out D Wh N e p => ?_⟩
  refine he.goS (Q := D.rt) Wh N e p fun r Γ1 s1 x w1 W1 N1 l1 R1 e1 p1 => ?_
  cases r with
  | v d => cases e1; exact p1 w1 x W1 R1 (.refl _)
  | h d => cases e1; exact p1 w1 x W1 R1 (.refl _)
  | raw d => cases e1; exact p1 w1 x W1 R1 (.refl _)
  | e d => cases e1; exact p1 w1 x W1 R1 (.refl _)
  | o d => cases e1; exact p1 w1 x W1 R1.1 (.refl _)
  | b i =>
    have hx : σ[i]? = some (some x) := R1
    simp only at e1
    split at e1
    · rename_i d hd
      cases e1
      obtain ⟨y, hy, q⟩ := N1.sl i _ hd
      rw [hx] at hy; cases hy
      exact p1 w1 x W1 q (.refl _)
    · rename_i d hd
      cases e1
      obtain ⟨y, hy, q⟩ := N1.sl i _ hd
      rw [hx] at hy; cases hy
      exact p1 w1 x W1 q (.refl _)
    · cases e1
theorem ms_if {tt_hc : TT} (hc : MT Y X W c tt_hc gt) {ts_ha : TS} (ha : MSs Y X W sts ts_ha g) {ts_hb : TS} (hb : MSs Y X W rest ts_hb h) : MS Y X W (.If c sts rest pos) (tIfS tt_hc ts_ha ts_hb) (sIf gt g h) := by
  obtain ⟨p, hc⟩ := hc
  obtain ⟨pa, ha⟩ := ha
  obtain ⟨pb, hb⟩ := hb
  refine ⟨ps_if p pa pb, fun B w σ Γ s out D Wh N e p => ?_⟩
  refine hc.goS (Q := fun b H1 => if b = true then ts_ha D σ H1 else ts_hb D σ H1) Wh N e p fun b Γ1 s1 w1 W1 N1 l1 e1 p1 => ?_
  cases b with
  | true => exact ha B w1 σ Γ1 s1 _ D W1 N1 e1 p1
  | false => exact hb B w1 σ Γ1 s1 _ D W1 N1 e1 p1
theorem sok_set {K : PySem.W.Frag} {te : TE} {i : Nat} (he : EOk Y K W te ga) : SOk Y K W (tAsg te (L2.gName i)) (sSet i ga) := by
  intro B w σ Γ s out D Wh N e p
  refine he.goS (Q := fun x H1 => D.nx (σ.set i (some x)) H1) Wh N e p fun r Γ1 s1 x w1 W1 N1 l1 R1 e1 p1 => ?_
  cases r with
  | v d => cases e1; exact p1 w1 _ W1 (N1.put R1 (fun _ z => nomatch z) i) (.refl _)
  | h d => cases e1; exact p1 w1 _ W1 (N1.put R1 (fun _ z => nomatch z) i) (.refl _)
  | raw d => cases e1; exact p1 w1 _ W1 (N1.put R1 (fun _ z => nomatch z) i) (.refl _)
  | e d => cases e1; exact p1 w1 _ W1 (N1.put R1 (fun _ z => nomatch z) i) (.refl _)
  | o d => cases e1; exact p1 w1 _ W1 (N1.put R1 (fun _ z => nomatch z) i) (.refl _)
  | b j =>
    have hx : σ[j]? = some (some x) := R1
    simp only at e1
    split at e1
    · rename_i d hd
      cases e1
      obtain ⟨y, hy, q, rfl, own, fq, bq, aq⟩ := N1.sl j _ hd
      rw [hx] at hy; cases hy
      obtain ⟨o, ho⟩ := own.obj
      exact p1 { w1 with F := upd w1.F q o } _ (W1.fz ho bq aq fq) ((N1.fzS hd hx ho).put (r := .v (.list d)) (own.rp fq ho) (fun _ z => nomatch z) i) (Le.fz fq)
    · rename_i d hd
      cases e1
      obtain ⟨y, hy, q⟩ := N1.sl j _ hd
      rw [hx] at hy; cases hy
      exact p1 w1 _ W1 (N1.put (r := .v d) q (fun _ z => nomatch z) i) (.refl _)
    · cases e1
theorem ms_set {i : Nat} {x : Str} {pos' : Pos} (hN : X.N.Nodup) (hi : X.N[i]? = some x) (hx : Loc X.env.scope x) {te_he : TE} (he : ME Y X W e te_he ga) (hs : swapsWith e (some (.Name x pos')) pos.line X.env = pure false := by rfl) (hf : X.fn x = true ∨ X.env.scope.names.lookup x = some .local := by first | exact .inl rfl | exact .inr rfl | assumption) :
    MS Y X W (.Assign [.Name x pos'] e pos) (tAsg te_he (L2.gName i)) (sSet i ga) := by
  obtain ⟨p, he⟩ := he
  exact ⟨ps_set hN hi hx p hs hf, sok_set he⟩
theorem ms_unp {k : Nat} {l : Tgs} {tpos : Pos} {te_he : TE} (he : ME Y X W e te_he ga) {tg_hg : TG} (hg : MG Y X (.Tuple es k tpos) tg_hg (.t l)) (hs : swapsWithSole [.Tuple es k tpos] e pos.line X.env = pure false := by rfl) (hw : swappedStores [.Tuple es k tpos] e X.env = pure none := by rfl)
    (h1 : (assignEach [.Tuple es k tpos] X.env).map (·.2) = [assign (.Tuple es k tpos) X.env] := by rfl) : MS Y X W (.Assign [.Tuple es k tpos] e pos) (tAsg te_he tg_hg) (sUnp l ga) := by
  obtain ⟨p, he⟩ := he
  obtain ⟨pg, hg⟩ := hg
  refine ⟨ps_asg p pg hs hw h1, fun B w σ Γ s out D Wh N e p => ?_⟩
  refine he.goS (Q := fun x H1 => tg_hg x σ H1 D.nx) Wh N e p fun r Γ1 s1 x w1 W1 N1 l1 R1 e1 p1 => ?_
  cases r with
  | v d =>
    simp only at e1
    split at e1
    · rename_i Γ' eb
      cases e1
      exact hg B w1 σ Γ1 Γ' s1 x d D.nx W1 N1 R1 eb fun σ' N' _ => p1 w1 σ' W1 N' (.refl _)
    · cases e1
  | _ => cases e1
theorem ms_raise {n : Str} {c : Value} (hn : Cn X.K n c) (hr : PS X st (fun _ σ H => W c none σ H)) : MS Y X W st (fun _ σ H => W c none σ H) (sRaise n) := ⟨hr, fun B w σ Γ s out D Wh N e p => by cases e; exact p w σ Wh N (.refl _) c hn⟩
end
end FX
set_option Elab.async false
set_option linter.all false
set_option maxRecDepth 100000
set_option maxHeartbeats 1000000
namespace FX
open PySem PySem.Spec L2
section
variable {Y : Sys} {K : PySem.W.Frag} {B : Hp} {w : Wo} {s : Y.S} {σ : St} {Γ : Ev}
theorem same_tup (W : Wd Y B w s) {t : Addr} {xs : List V} (ht : w.H t = some (.tup xs)) : Same w.F (upd w.F t (.tup xs)) := fun q u e => by
  by_cases hq : q = t
  · subst hq
    have := W.sF q u e
    rw [ht] at this; cases this
    exact upd_same
  · rw [upd_ne hq]; exact e
theorem Wd.fzT (W : Wd Y B w s) {t : Addr} {xs : List V} (ht : w.H t = some (.tup xs)) : Wd Y B { w with F := upd w.F t (.tup xs) } s := by
  have ta : t ∉ w.A := fun z => Y.notup W.rel t z xs ht
  refine ⟨fun q u e => ?_, W.sB, fun q u e => ?_, fun q hq => ?_, Y.frame W.rel (same_tup W ht) fun _ _ => rfl⟩
  · have e : upd w.F t (.tup xs) q = some u := e
    by_cases hq : q = t
    · subst hq; rw [upd_same] at e; cases e; exact ht
    · rw [upd_ne hq] at e; exact W.sF q u e
  · have e : upd w.F t (.tup xs) q = some u := e
    by_cases hq : q = t
    · subst hq; rw [upd_same] at e; cases e; exact .inr ⟨xs, rfl⟩
    · rw [upd_ne hq] at e; exact W.dj q u e
  · have hqt : q ≠ t := fun z => by subst z; exact ta hq
    exact ⟨(upd_ne hqt).trans (W.dA q hq).1, (W.dA q hq).2⟩
theorem Le.fzT (W : Wd Y B w s) {t : Addr} {xs : List V} (ht : w.H t = some (.tup xs)) : Le w { w with F := upd w.F t (.tup xs) } := ⟨same_tup W ht, [], by simp⟩
theorem EnvR.fzK (W : Wd Y B w s) (N : EnvR K B w σ Γ) {t : Addr} {xs : List V} (ht : w.H t = some (.tup xs)) : EnvR K B { w with F := upd w.F t (.tup xs) } σ Γ := ⟨N.len, fun i r e => by
  have sm := same_tup W ht
  obtain ⟨x, a, b⟩ := N.sl i r e
  refine ⟨x, a, ?_⟩
  cases r with
  | v d => exact Rp.mono sm b
  | o d =>
    obtain ⟨q, rfl, own, fq, bq, aq⟩ := b
    obtain ⟨o, ho, hn⟩ := own.obj'
    have hq : q ≠ t := fun z => by subst z; rw [ht] at ho; cases ho; exact hn xs rfl
    exact ⟨q, rfl, own.move sm rfl, (upd_ne hq).trans fq, bq, aq⟩
  | h _ => exact b
  | raw _ => exact b
  | e _ =>
    obtain ⟨p', cls, e1, q, c⟩ := b
    exact ⟨p', cls, e1, sm _ _ q, c⟩
  | b _ => exact b, N.inj⟩
end
def ItOk (K : PySem.W.Frag) (J : It) (F0 : Hp) (ds : List D) : Prop := ∀ (F H : Hp), Same F0 F → Same F H → ∀ i : Nat, (i < ds.length → J.go i H) ∧ (ds.length ≤ i → J.stop i H) ∧
  ∀ x H', J.yld i H x H' → ∀ d, ds[i]? = some d → (H' = H ∧ Rp K F x d) ∨ (∃ T xs es, H T = none ∧ H' = upd H T (.tup xs) ∧ x = .ref T ∧ d = .tuple es ∧ RpA K F xs es) ∨ ∃ T xs es, H' = H ∧ H T = some (.tup xs) ∧ x = .ref T ∧ d = .tuple es ∧ RpA K F xs es
abbrev GI (Y : Sys) := Ev → Y.S → Option (Oc (List D) × Ev × Y.S)
def IOk (Y : Sys) (K : PySem.W.Frag) (W : WX) (wi : TI) (g : GI Y) : Prop := ∀ (B : Hp) (w : Wo) (σ : St) (Γ : Ev) (s : Y.S) (out : Oc (List D) × Ev × Y.S) (Q : It → Hp → Prop),
  Wd Y B w s → EnvR K B w σ Γ → g Γ s = some out → PoG Y K W B w σ (fun ds _ w' => ∀ J, ItOk K J w'.F ds → Q J w'.H) out → wi σ w.H Q
structure MI (Y : Sys) (X : Cx) (W : WX) (tg iter : Expr) (wi : TI) (g : GI Y) : Prop where
  pe : PI X tg iter wi
  ok : IOk Y X.K W wi g
def gItL {Y : Sys} (g : GE Y) : GI Y := bd (gEsc g) fun r Γ s => match r with
  | .v (.list ds) => some (.ok ds, Γ, s)
  | _ => none
def gItT {Y : Sys} (g : GE Y) : GI Y := bd (gEsc g) fun r Γ s => match r with
  | .v (.tuple ds) => some (.ok ds, Γ, s)
  | _ => none
def rangeD (lo : Int) (n : Nat) : List D := (List.range n).map fun i => .int (lo + (i : Nat))
theorem rangeD_len (lo : Int) (n : Nat) : (rangeD lo n).length = n := by simp [rangeD]
theorem rangeD_get {lo : Int} {n i : Nat} {d : D} (h : (rangeD lo n)[i]? = some d) : i < n ∧ d = .int (lo + (i : Nat)) := by
  unfold rangeD at h
  rw [List.getElem?_map] at h
  have hi : i < n := by
    cases q : (List.range n)[i]? with
    | none => rw [q] at h; cases h
    | some k => simpa using (List.getElem?_eq_some_iff.mp q).1
  rw [List.getElem?_range hi] at h
  cases h
  exact ⟨hi, rfl⟩
def bigI (i : Int) : Bool := Nat.ble (i.natAbs + 1) 4611686018427387904
theorem bigI_of {i : Int} (h : bigI i = true) : -(2 ^ 62) ≤ i ∧ i < 2 ^ 62 := by
  unfold bigI at h
  have := Nat.le_of_ble_eq_true h
  omega
theorem bigI_mk {i : Int} (h : i.natAbs < 4611686018427387904) : bigI i = true := Nat.ble_eq_true_of_le h
def gRg1 {Y : Sys} (g : GA Y) : GI Y := bd g fun rs Γ s => match rdA Γ rs with
  | some [.int j] => if bigI j = true then some (.ok (rangeD 0 j.toNat), Γ, s) else none
  | _ => none
def gRg2 {Y : Sys} (g : GA Y) : GI Y := bd g fun rs Γ s => match rdA Γ rs with
  | some [.int i, .int j] => if bigI i = true ∧ bigI j = true then some (.ok (rangeD i (j - i).toNat), Γ, s) else none
  | _ => none
def enumD (k : Nat) : List D → List D
  | [] => []
  | d :: ds => .tuple [.int (k : Nat), d] :: enumD (k + 1) ds
theorem enumD_len : ∀ (k : Nat) (ds : List D), (enumD k ds).length = ds.length
  | _, [] => rfl
  | k, _ :: ds => by simp [enumD, enumD_len (k + 1) ds]
theorem enumD_get : ∀ {k : Nat} {ds : List D} {i : Nat} {d : D}, (enumD k ds)[i]? = some d → ∃ e, ds[i]? = some e ∧ d = .tuple [.int ((k + i : Nat) : Int), e]
  | _, [], _, _, h => by simp [enumD] at h
  | k, e :: ds, 0, d, h => by
    simp [enumD] at h
    exact ⟨e, rfl, by simp [← h]⟩
  | k, e :: ds, i + 1, d, h => by
    obtain ⟨e', h1, h2⟩ := enumD_get (k := k + 1) (ds := ds) (i := i) (d := d) (by simpa [enumD] using h)
    exact ⟨e', by simpa using h1, by rw [h2, show k + 1 + i = k + (i + 1) by omega]⟩
def gEnm {Y : Sys} (g : GA Y) : GI Y := bd g fun rs Γ s => match rs with
  | [.v (.list ds)] => some (.ok (enumD 0 ds), Γ, s)
  | _ => none
section
variable {Y : Sys} {X : Cx} {W : WX} {tg e a b : Expr} {es : List Expr} {pos p : Pos} {ga gb : GE Y} {gr : GA Y}
theorem it_list {K : PySem.W.Frag} {F : Hp} {q : Addr} {xs : List V} {ds : List D} (h : SqL K F q xs) (r : RpA K F xs ds) : ItOk K (Itl K q) F ds := fun F1 H e1 e2 i => by
  have hH : SqL K H q xs := (e1.trans e2).seq h
  have hl := r.length
  refine ⟨fun hi => ?_, fun hi => ⟨xs, hH, by omega⟩, fun x H' y d hd => ?_⟩
  · have hi' : i < xs.length := by omega
    exact ⟨xs, xs[i], hH, List.getElem?_eq_getElem hi'⟩
  · obtain ⟨e, y⟩ := y
    obtain ⟨v, hv, rv⟩ := r.get hd
    have : x = v := Option.some.inj ((y xs hH).symm.trans hv)
    subst this
    exact .inl ⟨e, rv.mono e1⟩
theorem it_tup {K : PySem.W.Frag} {F : Hp} {q : Addr} {xs : List V} {ds : List D} (h : SqT K F q xs) (r : RpA K F xs ds) : ItOk K (Itt K q) F ds := fun F1 H e1 e2 i => by
  have hH : SqT K H q xs := seqT (e1.trans e2) h
  have hl := r.length
  refine ⟨fun hi => ?_, fun hi => ⟨xs, hH, by omega⟩, fun x H' y d hd => ?_⟩
  · have hi' : i < xs.length := by omega
    exact ⟨xs, xs[i], hH, List.getElem?_eq_getElem hi'⟩
  · obtain ⟨e, y⟩ := y
    obtain ⟨v, hv, rv⟩ := r.get hd
    have : x = v := Option.some.inj ((y xs hH).symm.trans hv)
    subst this
    exact .inl ⟨e, rv.mono e1⟩
theorem it_range {K : PySem.W.Frag} {F : Hp} (lo : Int) (n : Nat) : ItOk K (Itr lo n) F (rangeD lo n) := fun F1 H e1 e2 i => by
  refine ⟨fun hi => by rw [rangeD_len] at hi; exact hi, fun hi => by rw [rangeD_len] at hi; exact hi, fun x H' y d hd => ?_⟩
  obtain ⟨e, rfl⟩ := y
  obtain ⟨_, rfl⟩ := rangeD_get hd
  exact .inl ⟨e, .int _⟩
theorem it_enum {K : PySem.W.Frag} {F : Hp} {q : Addr} {xs : List V} {ds : List D} (h : SqL K F q xs) (r : RpA K F xs ds) : ItOk K (Ite K q) F (enumD 0 ds) := fun F1 H e1 e2 i => by
  have hH : SqL K H q xs := (e1.trans e2).seq h
  have hl := r.length
  refine ⟨fun hi => ?_, fun hi => ⟨xs, hH, by rw [enumD_len] at hi; omega⟩, fun x H' y d hd => ?_⟩
  · rw [enumD_len] at hi
    have hi' : i < xs.length := by omega
    exact ⟨xs, xs[i], hH, List.getElem?_eq_getElem hi'⟩
  · obtain ⟨T, z, rfl, nT, rfl, y⟩ := y
    obtain ⟨e, he, rfl⟩ := enumD_get hd
    obtain ⟨v, hv, rv⟩ := r.get he
    have : z = v := Option.some.inj ((y xs hH).symm.trans hv)
    subst this
    refine .inr (.inl ⟨T, _, _, nT, rfl, rfl, rfl, ?_⟩)
    rw [Nat.zero_add]
    exact .cons (.int _) (.cons (rv.mono e1) .nil)
theorem mi_list {te : TE} (h : ME Y X W e te ga) : MI Y X W tg e (iList X.K te) (gItL ga) := by
  obtain ⟨pe, h⟩ := h
  refine ⟨pi_list pe, fun B w σ Γ s out Q Wh N e p => ?_⟩
  refine (eok_esc h).go (Q := fun x H1 => ∃ a, x = .ref a ∧ (∃ xs, SqL X.K H1 a xs) ∧ Q (Itl X.K a) H1) Wh N e p fun r Γ1 s1 x w1 W1 N1 l1 R1 e1 p1 => ?_
  try simp only at e1
  split at e1
  · cases e1
    cases (show Rp X.K w1.F x (.list _) from R1) with
    | lst h r => exact ⟨_, rfl, ⟨_, .of (W1.sF _ _ h)⟩, p1 w1 W1 N1 (.refl _) _ (it_list (.of h) r)⟩
  · cases e1
theorem mi_tup {te : TE} (h : ME Y X W e te ga) : MI Y X W tg e (iTup X.K te) (gItT ga) := by
  obtain ⟨pe, h⟩ := h
  refine ⟨pi_tup pe, fun B w σ Γ s out Q Wh N e p => ?_⟩
  refine (eok_esc h).go (Q := fun x H1 => ∃ a, x = .ref a ∧ (∃ xs, SqT X.K H1 a xs) ∧ Q (Itt X.K a) H1) Wh N e p fun r Γ1 s1 x w1 W1 N1 l1 R1 e1 p1 => ?_
  try simp only at e1
  split at e1
  · cases e1
    cases (show Rp X.K w1.F x (.tuple _) from R1) with
    | tup h r => exact ⟨_, rfl, ⟨_, .of (W1.sF _ _ h)⟩, p1 w1 W1 N1 (.refl _) _ (it_tup (.of h) r)⟩
  · cases e1
theorem sh_int {K : PySem.W.Frag} {F H : Hp} {x : V} {b : Int} (h : Sh K F H x (.int b)) : x = .int b := by cases (show Rp K F x (.int b) from h); rfl
theorem sh_str {K : PySem.W.Frag} {F H : Hp} {x : V} {b : Str} (h : Sh K F H x (.str b)) : x = .str b := by cases (show Rp K F x (.str b) from h); rfl
theorem sh_non {K : PySem.W.Frag} {F H : Hp} {x : V} (h : Sh K F H x .none) : x = .non := by cases (show Rp K F x .none from h); rfl
theorem mi_range1 {ta : TA} (hg : Gl X "range") (hm : X.mg "range" = none) (h : MA Y X W [a] ta gr) (hs : starEach [a] X.env = [(false, eval a X.env)] := by rfl) : MI Y X W tg (.Call (.Name "range" p) [a] [] pos) (iRng1 ta) (gRg1 gr) := by
  obtain ⟨pe, h⟩ := h
  refine ⟨pi_range1 hg hm pe hs, fun B w σ Γ s out Q Wh N e p => ?_⟩
  refine h.go (Q := fun vs H1 => ∃ j : Int, vs = [.int j] ∧ -(2 ^ 62) ≤ j ∧ j < 2 ^ 62 ∧ Q (Itr 0 j.toNat) H1) Wh N e p fun rs Γ1 s1 xs w1 W1 N1 l1 R1 e1 p1 => ?_
  try simp only at e1
  split at e1
  · rename_i j ed
    split at e1
    · rename_i hb
      cases e1
      obtain ⟨b1, b2⟩ := bigI_of hb
      cases sha_of W1 N1 R1 ed with
      | cons q t =>
        cases t
        cases sh_int q
        exact ⟨j, rfl, b1, b2, p1 w1 W1 N1 (.refl _) _ (it_range 0 j.toNat)⟩
    · cases e1
  · cases e1
theorem mi_range2 {ta : TA} (hg : Gl X "range") (hm : X.mg "range" = none) (h : MA Y X W [a, b] ta gr) (hs : starEach [a, b] X.env = [(false, eval a X.env), (false, eval b X.env)] := by rfl) (hs2 : starEach [b] X.env = [(false, eval b X.env)] := by rfl) :
    MI Y X W tg (.Call (.Name "range" p) [a, b] [] pos) (iRng2 ta) (gRg2 gr) := by
  obtain ⟨pe, h⟩ := h
  refine ⟨pi_range2 hg hm pe hs hs2, fun B w σ Γ s out Q Wh N e p => ?_⟩
  refine h.go (Q := fun vs H1 => ∃ i j : Int, vs = [.int i, .int j] ∧ (-(2 ^ 62) ≤ i ∧ i < 2 ^ 62 ∧ -(2 ^ 62) ≤ j ∧ j < 2 ^ 62) ∧ Q (Itr i (j - i).toNat) H1) Wh N e p fun rs Γ1 s1 xs w1 W1 N1 l1 R1 e1 p1 => ?_
  try simp only at e1
  split at e1
  · rename_i i j ed
    split at e1
    · rename_i hb
      cases e1
      obtain ⟨b1, b2⟩ := bigI_of hb.1
      obtain ⟨b3, b4⟩ := bigI_of hb.2
      cases sha_of W1 N1 R1 ed with
      | cons q t =>
        cases t with
        | cons q2 t =>
          cases t
          cases sh_int q
          cases sh_int q2
          exact ⟨i, j, rfl, ⟨b1, b2, b3, b4⟩, p1 w1 W1 N1 (.refl _) _ (it_range i _)⟩
    · cases e1
  · cases e1
theorem mi_enum {ta : TA} {elts : List Expr} {kk : Nat} {tpos : Pos} (hg : Gl X "enumerate") (hm : X.mg "enumerate" = none) (h : MA Y X W [e] ta gr) (hs : starEach [e] X.env = [(false, eval e X.env)] := by rfl) :
    MI Y X W (.Tuple elts kk tpos) (.Call (.Name "enumerate" p) [e] [] pos) (iEnum X.K ta) (gEnm gr) := by
  obtain ⟨pe, h⟩ := h
  refine ⟨pi_enum hg hm pe hs, fun B w σ Γ s out Q Wh N e p => ?_⟩
  refine h.go (Q := fun vs H1 => ∃ a xs, vs = [.ref a] ∧ SqL X.K H1 a xs ∧ Q (Ite X.K a) H1) Wh N e p fun rs Γ1 s1 xs w1 W1 N1 l1 R1 e1 p1 => ?_
  try simp only at e1
  split at e1
  · cases e1
    cases R1 with
    | cons q t =>
      cases t
      cases (show Rp X.K w1.F _ (.list _) from q) with
      | lst h r => exact ⟨_, _, rfl, .of (W1.sF _ _ h), p1 w1 W1 N1 (.refl _) _ (it_enum (.of h) r)⟩
  · cases e1
end
def forG {Y : Sys} (T : Tg) (body : GS Y) : List D → GS Y
  | [], Γ, s => some (.nx, Γ, s)
  | d :: ds, Γ, s => match bindT T d Γ with
    | none => none
    | some Γ1 => match body Γ1 s with
      | none => none
      | some (.nx, Γ2, s2) => forG T body ds Γ2 s2
      | some (.ct, Γ2, s2) => forG T body ds Γ2 s2
      | some (.bk, Γ2, s2) => some (.nx, Γ2, s2)
      | some (.rt r, Γ2, s2) => some (.rt r, Γ2, s2)
      | some (.er c, Γ2, s2) => some (.er c, Γ2, s2)
def sFor {Y : Sys} (T : Tg) (gi : GI Y) (body : GS Y) : GS Y := bdS gi fun ds => forG T body ds
theorem IOk.goS {Y : Sys} {K : PySem.W.Frag} {W : WX} {B : Hp} {w : Wo} {σ : St} {Γ : Ev} {s : Y.S} {D' : Ends} {wi : TI} {g : GI Y} (h : IOk Y K W wi g) (Wh : Wd Y B w s) (N : EnvR K B w σ Γ) {k : List D → Ev → Y.S → Option (Fl × Ev × Y.S)} {out : Fl × Ev × Y.S} {Q : It → Hp → Prop}
    (e : bdS g k Γ s = some out) (p : PoS Y K W B w D' out)
    (c : ∀ ds Γ1 s1 J w1, Wd Y B w1 s1 → EnvR K B w1 σ Γ1 → Le w w1 → ItOk K J w1.F ds → k ds Γ1 s1 = some out → PoS Y K W B w1 D' out → Q J w1.H) : wi σ w.H Q := by
  unfold bdS at e
  cases eg : g Γ s with
  | none => rw [eg] at e; cases e
  | some o =>
    obtain ⟨o, Γ1, s1⟩ := o
    rw [eg] at e
    cases o with
    | ok r => exact h B w σ Γ s _ Q Wh N eg fun w1 W1 N1 l J r1 => c r Γ1 s1 J w1 W1 N1 l r1 e (p.le l)
    | er z =>
      cases e
      exact h B w σ Γ s _ Q Wh N eg fun w1 W1 N1 l => p w1 σ W1 N1 l
theorem it_turn {Y : Sys} {K : PySem.W.Frag} {B : Hp} {w : Wo} {σ : St} {Γ : Ev} {s : Y.S} {J : It} {F0 : Hp} {ds : List D} (It : ItOk K J F0 ds) (Wh : Wd Y B w s) (N : EnvR K B w σ Γ) (e : Same F0 w.F) {i : Nat} {x : V} {H' : Hp} (y : J.yld i w.H x H') {d : D} (hd : ds[i]? = some d) :
    ∃ w', w'.H = H' ∧ Wd Y B w' s ∧ EnvR K B w' σ Γ ∧ Le w w' ∧ Rp K w'.F x d := by
  rcases (It w.F w.H e Wh.sF i).2.2 x H' y d hd with ⟨rfl, r⟩ | ⟨T, xs, es, nT, rfl, rfl, rfl, r⟩ | ⟨T, xs, es, rfl, hT, rfl, rfl, r⟩
  · exact ⟨w, rfl, Wh, N, .refl _, r⟩
  · have Fn : w.F T = none := Wh.sF.free nT
    exact ⟨{ w with F := upd w.F T (.tup xs), H := upd w.H T (.tup xs) }, rfl, Wh.newF nT, N.newF Wh nT, Le.newF Fn, Rp.tup upd_same (r.mono (upd_sm Fn))⟩
  · exact ⟨{ w with F := upd w.F T (.tup xs) }, rfl, Wh.fzT hT, N.fzK Wh hT, Le.fzT Wh hT, Rp.tup upd_same (r.mono (same_tup Wh hT))⟩
theorem sok_for {Y : Sys} {K : PySem.W.Frag} {W : WX} {wi : TI} {gi : GI Y} {g : TG} {T : Tg} {tb : TS} {body : GS Y} (hi : IOk Y K W wi gi) (hg : GOk Y K g T) (hb : SOk Y K W tb body) : SOk Y K W (tFor wi g tb) (sFor T gi body) := by
  intro B w σ Γ s out D Wh N e p
  refine hi.goS (Q := fun J H1 => ∃ W : Nat → Nat → St → Hp → Prop, (∃ m, W 0 m σ H1) ∧ ∀ i m σ H, W i m σ H →
    (J.stop i H ∧ D.nx σ H) ∨ (J.go i H ∧ ∃ N : St → Hp → Prop, (∀ σ' H', N σ' H' → ∃ m', m' < m ∧ W (i + 1) m' σ' H') ∧ ∀ x H', J.yld i H x H' → g x σ H' fun σ2 H2 => tb { D with nx := N, ct := N, bk := D.nx } σ2 H2)) Wh N e p
    fun ds Γ1 s1 J w1 W1 N1 l1 It e1 p1 => ?_
  refine ⟨fun i m σ H => ∃ w' Γ' s', w'.H = H ∧ Wd Y B w' s' ∧ EnvR K B w' σ Γ' ∧ Le w1 w' ∧ m = ds.length - i ∧ i ≤ ds.length ∧ forG T body (ds.drop i) Γ' s' = some out,
    ⟨ds.length, w1, Γ1, s1, rfl, W1, N1, .refl _, rfl, Nat.zero_le _, by rw [List.drop_zero]; exact e1⟩, ?_⟩
  rintro i m σ H ⟨w', Γ', s', rfl, W', N', l', rfl, hle, e'⟩
  by_cases hlt : i < ds.length
  · have hd : ds[i]? = some ds[i] := List.getElem?_eq_getElem hlt
    rw [List.drop_eq_getElem_cons hlt] at e'
    unfold forG at e'
    split at e'
    · cases e'
    · rename_i Γ2 eb
      refine .inr ⟨(It w'.F w'.H l'.F W'.sF i).1 hlt, fun σ H => ∃ w' Γ' s', w'.H = H ∧ Wd Y B w' s' ∧ EnvR K B w' σ Γ' ∧ Le w1 w' ∧ forG T body (ds.drop (i + 1)) Γ' s' = some out, fun σ' H' ⟨w2, Γ2, s2, h1, h2, h3, h4, h5⟩ => ⟨ds.length - (i + 1), by omega, w2, Γ2, s2, h1, h2, h3, h4, rfl, hlt, h5⟩, fun x H' y => ?_⟩
      obtain ⟨w2, rfl, W2, N2, l2, r2⟩ := it_turn It W' N' l'.F y hd
      refine hg B w2 σ Γ' Γ2 s' x _ _ W2 N2 r2 eb fun σ3 N3 _ => ?_
      split at e'
      · cases e'
      · rename_i Γ4 s4 eo
        exact hb B w2 σ3 Γ2 s' _ _ W2 N3 eo fun w4 σ4 W4 N4 l4 => ⟨w4, Γ4, s4, rfl, W4, N4, (l'.trans l2).trans l4, e'⟩
      · rename_i Γ4 s4 eo
        exact hb B w2 σ3 Γ2 s' _ _ W2 N3 eo fun w4 σ4 W4 N4 l4 => ⟨w4, Γ4, s4, rfl, W4, N4, (l'.trans l2).trans l4, e'⟩
      · rename_i Γ4 s4 eo
        cases e'
        exact hb B w2 σ3 Γ2 s' _ _ W2 N3 eo fun w4 σ4 W4 N4 l4 => p1 w4 σ4 W4 N4 ((l'.trans l2).trans l4)
      · rename_i r Γ4 s4 eo
        cases e'
        exact hb B w2 σ3 Γ2 s' _ _ W2 N3 eo fun w4 x W4 N4 l4 => p1 w4 x W4 N4 ((l'.trans l2).trans l4)
      · rename_i c Γ4 s4 eo
        cases e'
        exact hb B w2 σ3 Γ2 s' _ _ W2 N3 eo fun w4 σ4 W4 N4 l4 => p1 w4 σ4 W4 N4 ((l'.trans l2).trans l4)
  · have ei : i = ds.length := by omega
    subst ei
    rw [List.drop_length] at e'
    cases e'
    exact .inl ⟨(It w'.F w'.H l'.F W'.sF _).2.1 (Nat.le_refl _), p1 w' σ W' N' l'⟩
theorem ms_for {Y : Sys} {X : Cx} {W : WX} {tg iter : Expr} {body : List Stmt} {wi : TI} {g : TG} {tb : TS} {gi : GI Y} {T : Tg} {gb : GS Y} {pos : Pos} (hp : PassesOwn (model X.prog X.w) X.A X.env X.xe) (hc : X.calm = true)
    (hi : MI Y X W tg iter wi gi) (hg : MG Y X tg g T) (hb : MSs Y X W body tb gb) (hs : ∀ x, foldedSetIterable iter X.env x = pure x := by intro _; rfl) : MS Y X W (.For tg iter body [] pos) (tFor wi g tb) (sFor T gi gb) :=
  ⟨ps_for hp hc hi.pe hg.pe hb.pe hs, sok_for hi.ok hg.ok hb.ok⟩
def whileG {Y : Sys} (t : GT Y) (body : GS Y) : Nat → GS Y
  | 0, _, _ => none
  | n + 1, Γ, s => match t Γ s with
    | none => none
    | some (.er c, Γ1, s1) => some (.er c, Γ1, s1)
    | some (.ok false, Γ1, s1) => some (.nx, Γ1, s1)
    | some (.ok true, Γ1, s1) => match body Γ1 s1 with
      | none => none
      | some (.nx, Γ2, s2) => whileG t body n Γ2 s2
      | some (.ct, Γ2, s2) => whileG t body n Γ2 s2
      | some (.bk, Γ2, s2) => some (.nx, Γ2, s2)
      | some (.rt r, Γ2, s2) => some (.rt r, Γ2, s2)
      | some (.er c, Γ2, s2) => some (.er c, Γ2, s2)
theorem sok_while {Y : Sys} {K : PySem.W.Frag} {W : WX} {tc : TT} {tb : TS} {gt : GT Y} {gb : GS Y} (n : Nat) (hc : TOk Y K W tc gt) (hb : SOk Y K W tb gb) : SOk Y K W (tWhile tc tb) (whileG gt gb n) := by
  intro B w σ Γ s out D Wh N e p
  refine ⟨fun m σ H => ∃ w' Γ' s', w'.H = H ∧ Wd Y B w' s' ∧ EnvR K B w' σ Γ' ∧ Le w w' ∧ whileG gt gb m Γ' s' = some out, ⟨n, w, Γ, s, rfl, Wh, N, .refl _, e⟩, ?_⟩
  rintro m σ H ⟨w', Γ', s', rfl, W', N', l', e'⟩
  cases m with
  | zero => cases e'
  | succ m =>
    unfold whileG at e'
    split at e'
    · cases e'
    · rename_i c Γ1 s1 et
      cases e'
      exact hc B w' σ Γ' s' _ _ W' N' et fun w1 W1 N1 l1 => p w1 σ W1 N1 (l'.trans l1)
    · rename_i Γ1 s1 et
      cases e'
      refine hc B w' σ Γ' s' _ _ W' N' et fun w1 W1 N1 l1 => ?_
      exact iteF (p w1 σ W1 N1 (l'.trans l1))
    · rename_i Γ1 s1 et
      refine hc B w' σ Γ' s' _ _ W' N' et fun w1 W1 N1 l1 => ?_
      refine iteT ⟨fun σ H => ∃ w' Γ' s', w'.H = H ∧ Wd Y B w' s' ∧ EnvR K B w' σ Γ' ∧ Le w w' ∧ whileG gt gb m Γ' s' = some out, fun σ' H' h => ⟨m, Nat.lt_succ_self _, h⟩, ?_⟩
      split at e'
      · cases e'
      · rename_i Γ4 s4 eo
        exact hb B w1 σ Γ1 s1 _ _ W1 N1 eo fun w4 σ4 W4 N4 l4 => ⟨w4, Γ4, s4, rfl, W4, N4, (l'.trans l1).trans l4, e'⟩
      · rename_i Γ4 s4 eo
        exact hb B w1 σ Γ1 s1 _ _ W1 N1 eo fun w4 σ4 W4 N4 l4 => ⟨w4, Γ4, s4, rfl, W4, N4, (l'.trans l1).trans l4, e'⟩
      · rename_i Γ4 s4 eo
        cases e'
        exact hb B w1 σ Γ1 s1 _ _ W1 N1 eo fun w4 σ4 W4 N4 l4 => p w4 σ4 W4 N4 ((l'.trans l1).trans l4)
      · rename_i r Γ4 s4 eo
        cases e'
        exact hb B w1 σ Γ1 s1 _ _ W1 N1 eo fun w4 x W4 N4 l4 => p w4 x W4 N4 ((l'.trans l1).trans l4)
      · rename_i c Γ4 s4 eo
        cases e'
        exact hb B w1 σ Γ1 s1 _ _ W1 N1 eo fun w4 σ4 W4 N4 l4 => p w4 σ4 W4 N4 ((l'.trans l1).trans l4)
theorem ms_while {Y : Sys} {X : Cx} {W : WX} {c : Expr} {body : List Stmt} {tc : TT} {tb : TS} {gt : GT Y} {gb : GS Y} {pos : Pos} (n : Nat) (hp : PassesOwn (model X.prog X.w) X.A X.env X.xe) (hc : MT Y X W c tc gt) (hb : MSs Y X W body tb gb) :
    MS Y X W (.While c body [] pos) (tWhile tc tb) (whileG gt gb n) := ⟨ps_while hp hc.pe hb.pe, sok_while n hc.ok hb.ok⟩
end FX
set_option Elab.async false
set_option linter.all false
set_option maxRecDepth 100000
set_option maxHeartbeats 1000000
namespace FX
open PySem PySem.Spec L2
def wipeE (Γ : Ev) : List Nat → Ev
  | [] => Γ
  | v :: vs => (wipeE Γ vs).set v none
def backE (Γ0 Γt : Ev) : List Nat → Ev
  | [] => Γt
  | v :: vs => (backE Γ0 Γt vs).set v (match Γ0[v]? with
    | some (some (.v d)) => some (.v d)
    | some (some (.h k)) => some (.h k)
    | some (some (.raw x)) => some (.raw x)
    | _ => none)
def compG {Y : Sys} (T : Tg) (own : List Nat) (gt : GT Y) (ge : GE Y) : List D → List D → Ev → Y.S → Option (List D × Ev × Y.S)
  | [], acc, Γ, s => some (acc, Γ, s)
  | d :: ds, acc, Γ, s => match bindT T d (wipeE Γ own) with
    | none => none
    | some Γ1 => match gt Γ1 s with
      | some (.ok true, Γ2, s2) => match ge Γ2 s2 with
        | some (.ok (.v e), Γ3, s3) => if sizeOk acc.length = true then compG T own gt ge ds (acc ++ [e]) Γ3 s3 else none
        | _ => none
      | some (.ok false, Γ2, s2) => compG T own gt ge ds acc Γ2 s2
      | _ => none
def gComp {Y : Sys} (T : Tg) (own : List Nat) (gi : GI Y) (gt : GT Y) (ge : GE Y) : GE Y := bd gi fun ds Γ s => match compG T own gt ge ds [] Γ s with
  | some (acc, Γ', s') => some (.ok (.o (.list acc)), backE Γ Γ' own, s')
  | none => none
def gYes {Y : Sys} : GT Y := fun Γ s => some (.ok true, Γ, s)
section
variable {Y : Sys} {K : PySem.W.Frag} {W : WX} {B : Hp} {w w' : Wo} {σ σ' : St} {Γ Γ' Γ0 Γt : Ev} {s s' : Y.S}
theorem EnvR.wipe (N : EnvR K B w σ Γ) : ∀ vs : List Nat, EnvR K B w (L2.wipe σ vs) (wipeE Γ vs)
  | [] => N
  | v :: vs => (EnvR.wipe N vs).del v none
theorem wipe_get {vs : List Nat} {i : Nat} (h : i ∉ vs) : (L2.wipe σ vs)[i]? = σ[i]? := by
  induction vs with
  | nil => rfl
  | cons v vs ih =>
    show ((L2.wipe σ vs).set v none)[i]? = σ[i]?
    rw [List.getElem?_set_ne (by rintro rfl; exact h List.mem_cons_self)]
    exact ih fun z => h (List.mem_cons_of_mem _ z)
theorem backE_eq (Γ0 Γt : Ev) : ∀ vs : List Nat, ∀ {i : Nat} {r : R}, (backE Γ0 Γt vs)[i]? = some (some r) → (i ∉ vs ∧ Γt[i]? = some (some r)) ∨ (i ∈ vs ∧ Γ0[i]? = some (some r) ∧ ∀ d, r ≠ .o d ∧ ∀ k, r ≠ .b k)
  | [], _, _, h => .inl ⟨by simp, h⟩
  | v :: vs, i, r, h => by
    have h : ((backE Γ0 Γt vs).set v _)[i]? = some (some r) := h
    rcases getSet h with ⟨rfl, z⟩ | ⟨ne, h⟩
    · refine .inr ⟨List.mem_cons_self, ?_⟩
      split at z
      · rename_i e; cases z; exact ⟨e, fun d => ⟨fun z => (nomatch z), fun k z => (nomatch z)⟩⟩
      · rename_i e; cases z; exact ⟨e, fun d => ⟨fun z => (nomatch z), fun k z => (nomatch z)⟩⟩
      · rename_i e; cases z; exact ⟨e, fun d => ⟨fun z => (nomatch z), fun k z => (nomatch z)⟩⟩
      · cases z
    · rcases backE_eq Γ0 Γt vs h with ⟨a, b⟩ | ⟨a, b⟩
      · exact .inl ⟨by simp only [List.mem_cons, not_or]; exact ⟨fun z => ne z.symm, a⟩, b⟩
      · exact .inr ⟨List.mem_cons_of_mem _ a, b⟩
theorem SlR.le (l : Le w w') {x : V} : ∀ {r : R}, (∀ d, r ≠ .o d ∧ ∀ k, r ≠ .b k) → SlR K B w x r → SlR K B w' x r
  | .v d, _, h => Rp.mono l.F h
  | .h i, _, ⟨p, e, q⟩ => by
    obtain ⟨m, em⟩ := l.et
    refine ⟨p, ?_, q⟩
    rw [em, List.getElem?_append_left (List.getElem?_eq_some_iff.mp e).1]
    exact e
  | .raw _, _, h => h
  | .e _, _, ⟨p, cls, e, q, c⟩ => ⟨p, cls, e, l.F _ _ q, c⟩
  | .o d, n, _ => absurd rfl (n d).1
  | .b k, n, _ => absurd rfl ((n .none).2 k)
theorem backE_len (Γ0 Γt : Ev) : ∀ vs : List Nat, (backE Γ0 Γt vs).length = Γt.length
  | [] => rfl
  | v :: vs => by unfold backE; rw [List.length_set, backE_len Γ0 Γt vs]
theorem EnvR.back {vs : List Nat} (N0 : EnvR K B w σ Γ0) (l : Le w w') (N : EnvR K B w' σ' Γt) (hσ : L2.wipe σ' vs = L2.wipe σ vs) : EnvR K B w' σ (backE Γ0 Γt vs) := by
  have hl : σ'.length = σ.length := by
    have := congrArg List.length hσ
    rw [L2.wipe_length, L2.wipe_length] at this
    exact this
  have out : ∀ {i : Nat}, i ∉ vs → σ[i]? = σ'[i]? := fun {i} h => by
    rw [← wipe_get (σ := σ) h, ← hσ, wipe_get h]
  refine ⟨by rw [backE_len, ← N.len, hl], fun i r h => ?_, fun i j d e x hi hj hx hy => ?_⟩
  · rcases backE_eq Γ0 Γt vs h with ⟨a, b⟩ | ⟨a, b, c⟩
    · obtain ⟨x, hx, q⟩ := N.sl i r b
      exact ⟨x, by rw [out a]; exact hx, q⟩
    · obtain ⟨x, hx, q⟩ := N0.sl i r b
      exact ⟨x, hx, q.le l c⟩
  · rcases backE_eq Γ0 Γt vs hi with ⟨a, b⟩ | ⟨a, b, c⟩
    · rcases backE_eq Γ0 Γt vs hj with ⟨a', b'⟩ | ⟨a', b', c'⟩
      · exact N.inj i j d e x b b' (by rw [← out a]; exact hx) (by rw [← out a']; exact hy)
      · exact absurd rfl (c' e).1
    · exact absurd rfl (c d).1
theorem Wd.hold (Wh : Wd Y B w s) {p : Addr} {o : HO} (hp : w.H p = some o) (fp : w.F p = none) (ap : p ∉ w.A) (bp : B p = none) : Wd Y (upd B p o) w s := by
  refine ⟨Wh.sF, fun q u e => ?_, fun q u e => ?_, fun q e => ⟨(Wh.dA q e).1, ?_⟩, Wh.rel⟩
  · by_cases hq : q = p
    · subst hq; rw [upd_same] at e; cases e; exact hp
    · rw [upd_ne hq] at e; exact Wh.sB q u e
  · have hq : q ≠ p := fun z => by subst z; rw [fp] at e; cases e
    rw [upd_ne hq]; exact Wh.dj q u e
  · have hq : q ≠ p := fun z => by subst z; exact ap e
    rw [upd_ne hq]; exact (Wh.dA q e).2
theorem EnvR.hold (N : EnvR K B w σ Γ) {p : Addr} {o : HO} (oth : ∀ (i : Nat) (e : D), Γ[i]? = some (some (R.o e)) → σ[i]? ≠ some (some (.ref p))) : EnvR K (upd B p o) w σ Γ := ⟨N.len, fun i r e => by
  obtain ⟨y, a, b⟩ := N.sl i r e
  refine ⟨y, a, ?_⟩
  cases r with
  | o d2 =>
    obtain ⟨q, rfl, own2, fq, bq, aq⟩ := b
    have hq : q ≠ p := fun z => by subst z; exact oth i d2 e a
    exact ⟨q, rfl, own2, fq, by rw [upd_ne hq]; exact bq, aq⟩
  | v _ => exact b
  | h _ => exact b
  | raw _ => exact b
  | e _ => exact b
  | b _ => exact b, N.inj⟩
theorem Wd.bump {p : Addr} {o o' : HO} (Wh : Wd Y (upd B p o) w s) (hnt : ∀ xs, o ≠ .tup xs) : Wd Y (upd B p o') { w with H := upd w.H p o' } s := by
  have hp : upd B p o p = some o := upd_same
  have fp : w.F p = none := Wh.apart hp hnt
  have ap : p ∉ w.A := fun z => by
    have := (Wh.dA p z).2
    rw [hp] at this; cases this
  refine ⟨fun q u e => ?_, fun q u e => ?_, fun q u e => ?_, fun q e => ⟨(Wh.dA q e).1, ?_⟩, Y.frame Wh.rel (Same.refl _) fun q hq => ?_⟩
  · show upd w.H p o' q = some u
    rw [upd_ne (ne_of_none e fp)]; exact Wh.sF q u e
  · show upd w.H p o' q = some u
    by_cases hq : q = p
    · subst hq; rw [upd_same] at e ⊢; exact e
    · rw [upd_ne hq] at e ⊢; exact Wh.sB q u (by rw [upd_ne hq]; exact e)
  · have hq : q ≠ p := fun z => by subst z; rw [fp] at e; cases e
    have := Wh.dj q u e
    rw [upd_ne hq] at this ⊢; exact this
  · have hq : q ≠ p := fun z => by subst z; exact ap e
    have := (Wh.dA q e).2
    rw [upd_ne hq] at this ⊢; exact this
  · show upd w.H p o' q = w.H q
    rw [upd_ne (by rintro rfl; exact ap hq)]
theorem EnvR.bump {p : Addr} {o o' : HO} (N : EnvR K (upd B p o) w σ Γ) : EnvR K (upd B p o') { w with H := upd w.H p o' } σ Γ := ⟨N.len, fun i r e => by
  obtain ⟨y, a, b⟩ := N.sl i r e
  refine ⟨y, a, ?_⟩
  cases r with
  | o d2 =>
    obtain ⟨q, rfl, own2, fq, bq, aq⟩ := b
    have hq : q ≠ p := fun z => by subst z; rw [upd_same] at bq; cases bq
    rw [upd_ne hq] at bq
    exact ⟨q, rfl, own2.move (Same.refl _) (upd_ne hq), fq, by rw [upd_ne hq]; exact bq, aq⟩
  | v _ => exact b
  | h _ => exact b
  | raw _ => exact b
  | e _ => exact b
  | b _ => exact b, N.inj⟩
abbrev W0 : WX := fun _ _ _ _ => False
theorem eok_lc {wi : TI} {gi : GI Y} {g : TG} {T : Tg} {tt : TT} {gt : GT Y} {te : TE} {ge : GE Y} {own : List Nat} (hi : IOk Y K W wi gi) (hg : GOk Y K g T) (ht : TOk Y K W0 tt gt) (he : EOk Y K W0 te ge) (hs : ∀ i ∈ T.sl, i ∈ own) :
    EOk Y K W (tLc wi g tt te own) (gComp T own gi gt ge) := by
  intro B w σ Γ s out Q Wh N e p
  unfold gComp bd at e
  cases eg : gi Γ s with
  | none => rw [eg] at e; cases e
  | some o =>
    obtain ⟨o, Γ1, s1⟩ := o
    rw [eg] at e
    cases o with
    | er z =>
      cases e
      exact hi B w σ Γ s _ _ Wh N eg fun w1 W1 N1 l => p w1 W1 N1 l
    | ok ds =>
      simp only at e
      split at e
      · rename_i acc Γe se ec
        cases e
        refine hi B w σ Γ s _ _ Wh N eg fun w1 W1 N1 l J It => ?_
        intro L nL
        have fL : w1.F L = none := W1.sF.free nL
        have bL : B L = none := W1.sB.free nL
        have aL : L ∉ w1.A := fun z => Y.live W1.rel _ z nL
        have oL : ∀ {σ : St} {Γ : Ev}, EnvR K B w1 σ Γ → ∀ (i : Nat) (e : D), Γ[i]? = some (some (R.o e)) → σ[i]? ≠ some (some (.ref L)) := fun N i e hi hs => by
          obtain ⟨y, a, q, rfl, own, _⟩ := N.sl i _ hi
          rw [hs] at a; cases a
          obtain ⟨u, hu⟩ := own.obj
          rw [nL] at hu; cases hu
        refine ⟨fun i m H => ∃ w' Γ' s' xs ac, w'.H = H ∧ Wd Y (upd B L (.lst xs)) w' s' ∧ EnvR K (upd B L (.lst xs)) w' (L2.wipe σ own) (wipeE Γ' own) ∧ EnvR K (upd B L (.lst xs)) w' σ (backE Γ1 Γ' own) ∧ Le w1 w' ∧ RpA K w'.F xs ac ∧ m = ds.length - i ∧ i ≤ ds.length ∧ compG T own gt ge (ds.drop i) ac Γ' s' = some (acc, Γe, se),
          ⟨ds.length, { w1 with H := upd w1.H L (.lst []) }, Γ1, s1, [], [], rfl, (W1.newH nL).hold upd_same fL aL bL, ((N1.newH nL).hold (oL N1)).wipe own, ?_, ⟨Same.refl _, [], by simp⟩, .nil, rfl, Nat.zero_le _, by rw [List.drop_zero]; exact ec⟩, ?_⟩
        · exact EnvR.back (w := { w1 with H := upd w1.H L (.lst []) }) ((N1.newH nL).hold (oL N1)) (.refl _) ((N1.newH nL).hold (oL N1)) rfl
        rintro i m H ⟨w', Γ', s', xs, ac, rfl, W', N', Nb, l', ra, rfl, hle, e'⟩
        have hL : w'.H L = some (.lst xs) := W'.sB L _ upd_same
        have fL' : w'.F L = none := W'.apart (upd_same (o := .lst xs)) fun _ z => nomatch z
        have aL' : L ∉ w'.A := fun z => by
          have := (W'.dA L z).2
          rw [upd_same] at this; cases this
        have sm : Same B (upd B L (.lst xs)) := upd_sm bL
        by_cases hlt : i < ds.length
        · have hd : ds[i]? = some ds[i] := List.getElem?_eq_getElem hlt
          rw [List.drop_eq_getElem_cons hlt] at e'
          unfold compG at e'
          split at e'
          · cases e'
          · rename_i Γ2 eb
            refine .inr ⟨(It w'.F w'.H l'.F W'.sF i).1 hlt, fun H => ∃ w' Γ' s' xs ac, w'.H = H ∧ Wd Y (upd B L (.lst xs)) w' s' ∧ EnvR K (upd B L (.lst xs)) w' (L2.wipe σ own) (wipeE Γ' own) ∧ EnvR K (upd B L (.lst xs)) w' σ (backE Γ1 Γ' own) ∧ Le w1 w' ∧ RpA K w'.F xs ac ∧ compG T own gt ge (ds.drop (i + 1)) ac Γ' s' = some (acc, Γe, se),
              fun H' ⟨w2, Γ2, s2, xs2, ac2, h1, h2, h3, h3', h4, h5, h6⟩ => ⟨ds.length - (i + 1), by omega, w2, Γ2, s2, xs2, ac2, h1, h2, h3, h3', h4, h5, rfl, hlt, h6⟩, fun x H' y => ?_⟩
            obtain ⟨w2, rfl, W2, N2, l2, r2⟩ := it_turn It W' N' l'.F y hd
            refine hg _ w2 _ _ Γ2 s' x _ _ W2 N2 r2 eb fun σ3 N3 hw => ?_
            have hww : L2.wipe σ3 own = L2.wipe σ own := (hw own hs).trans (by
              have set_in : ∀ (us : List Nat) (σ : St) (v : Nat), L2.wipe (σ.set v none) us = (L2.wipe σ us).set v none := by
                intro us
                induction us with
                | nil => exact fun _ _ => rfl
                | cons u us ih =>
                  intro σ v
                  show (L2.wipe (σ.set v none) us).set u none = ((L2.wipe σ us).set u none).set v none
                  rw [ih]
                  by_cases h : v = u
                  · subst h; rfl
                  · rw [List.set_comm _ _ h]
              have : ∀ (vs : List Nat) (σ : St), L2.wipe (L2.wipe σ vs) vs = L2.wipe σ vs := by
                intro vs
                induction vs with
                | nil => exact fun _ => rfl
                | cons v vs ih =>
                  intro σ
                  show (L2.wipe ((L2.wipe σ vs).set v none) vs).set v none = (L2.wipe σ vs).set v none
                  rw [set_in, ih, List.set_set]
              exact this own σ)
            refine ⟨hww, ?_⟩
            have again : ∀ {w4 : Wo} {Γ4 : Ev} {s4 : Y.S} {ys : List V} {bc : List D}, Wd Y (upd B L (.lst ys)) w4 s4 → EnvR K (upd B L (.lst ys)) w4 σ3 Γ4 → Le w1 w4 → RpA K w4.F ys bc → compG T own gt ge (ds.drop (i + 1)) bc Γ4 s4 = some (acc, Γe, se) →
                ∃ w' Γ' s' xs ac, w'.H = w4.H ∧ Wd Y (upd B L (.lst xs)) w' s' ∧ EnvR K (upd B L (.lst xs)) w' (L2.wipe σ own) (wipeE Γ' own) ∧ EnvR K (upd B L (.lst xs)) w' σ (backE Γ1 Γ' own) ∧ Le w1 w' ∧ RpA K w'.F xs ac ∧ compG T own gt ge (ds.drop (i + 1)) ac Γ' s' = some (acc, Γe, se) := fun {w4 Γ4 s4 ys bc} W4 N4 l4 r4 e4 => by
              refine ⟨w4, Γ4, s4, ys, bc, rfl, W4, ?_, ?_, l4, r4, e4⟩
              · rw [← hww]; exact N4.wipe own
              · have Nx : EnvR K (upd B L (.lst ys)) { w1 with H := upd w1.H L (.lst ys) } σ Γ1 := (N1.newH nL).hold (oL N1)
                exact EnvR.back Nx ⟨l4.F, l4.et⟩ N4 hww
            split at e'
            · rename_i Γ4 s4 et
              split at e'
              · rename_i ev Γ5 s5 ee
                split at e'
                · rename_i hz
                  refine ht _ w2 σ3 Γ2 s' _ _ W2 N3 et fun w4 W4 N4 l4 => iteT ?_
                  refine he _ w4 σ3 Γ4 s4 _ _ W4 N4 ee fun w5 W5 N5 l5 v rv => ?_
                  have hL5 : w5.H L = some (.lst xs) := W5.sB L _ upd_same
                  have ra5 : RpA K w5.F xs ac := ra.mono ((l2.trans (l4.trans l5)).F)
                  refine ⟨xs, hL5, by rw [ra.length]; exact sizeOk_lt hz, ?_⟩
                  obtain ⟨wa, Γa, sa, xa, aa, h1, h⟩ := again (W5.bump (o' := .lst (xs ++ [v])) fun _ z => nomatch z) N5.bump (w4 := { w5 with H := upd w5.H L (.lst (xs ++ [v])) }) ⟨((l'.trans l2).trans (l4.trans l5)).F, ((l'.trans l2).trans (l4.trans l5)).et⟩ (ra5.append (.cons rv .nil)) e'
                  exact ⟨wa, Γa, sa, xa, aa, h1, h⟩
                · cases e'
              · cases e'
            · rename_i Γ4 s4 et
              exact ht _ w2 σ3 Γ2 s' _ _ W2 N3 et fun w4 W4 N4 l4 => iteF (again W4 N4 ((l'.trans l2).trans l4) (ra.mono (l2.trans l4).F) e')
            · cases e'
        · have ei : i = ds.length := by omega
          subst ei
          rw [List.drop_length] at e'
          cases e'
          refine .inl ⟨(It w'.F w'.H l'.F W'.sF _).2.1 (Nat.le_refl _), ?_⟩
          refine p w' (W'.weak sm) (Nb.weak sm) (l.trans l') _ ⟨⟨L, rfl, ⟨xs, hL, ra⟩, fL', bL, aL'⟩, fun i e hi hs => ?_⟩
          obtain ⟨y, a, q, rfl, own, _, bq, _⟩ := Nb.sl i _ hi
          rw [hs] at a; cases a
          rw [upd_same] at bq; cases bq
      · cases e
end
end FX
set_option Elab.async false
set_option linter.all false
set_option maxRecDepth 100000
set_option maxHeartbeats 1000000
namespace FX
open PySem PySem.Spec L2
section
variable {Y : Sys} {X : Cx} {W : WX} {tg iter elt e : Expr} {es : List Expr} {pos p : Pos}
theorem me_lc {scope : Scope} {own : List (Str × Nat)} {wi : TI} {gi : GI Y} {g : TG} {T : Tg} {te : TE} {ge : GE Y} (hc : X.calm = true) (hN : X.N.Nodup) (hi : MI Y X W tg iter wi gi) (ok : BlkOk X.N X.env.scope scope own)
    (hg : ∀ (s : Shared) (H : Hp) (C : Addr) (cl : List (Str × Addr)) (fp : List Addr), MG Y (X.blk s H scope (compEnvC scope cl C X.env) fp) tg g T)
    (he : ∀ (s : Shared) (H : Hp) (C : Addr) (cl : List (Str × Addr)) (fp : List Addr), ME Y (X.blk s H scope (compEnvC scope cl C X.env) fp) W0 elt te ge) (hs : ∀ i ∈ T.sl, i ∈ own.map (·.2))
    (hf : ∀ x, foldedSetIterable iter X.env x = pure x := by intro _; rfl) :
    ME Y X W (.ListComp elt [⟨tg, iter, [], 0⟩] scope pos) (tLc wi g tYes te (own.map (·.2))) (gComp T (own.map (·.2)) gi gYes ge) :=
  ⟨pe_lc hc hN hi.pe ok (fun s H C cl fp => (hg s H C cl fp).pe) (fun _ _ _ _ _ => pts_nil) (fun s H C cl fp => (he s H C cl fp).pe) hf,
    eok_lc hi.ok (hg X.s_0 X.H_0 0 [] []).ok (fun B w σ Γ s out Q Wh N e p => by cases e; exact p w Wh N (.refl _)) (he X.s_0 X.H_0 0 [] []).ok hs⟩
theorem me_lcif {c : Expr} {scope : Scope} {own : List (Str × Nat)} {wi : TI} {gi : GI Y} {g : TG} {T : Tg} {tt : TT} {gt : GT Y} {te : TE} {ge : GE Y} (hc : X.calm = true) (hN : X.N.Nodup) (hi : MI Y X W tg iter wi gi) (ok : BlkOk X.N X.env.scope scope own)
    (hg : ∀ (s : Shared) (H : Hp) (C : Addr) (cl : List (Str × Addr)) (fp : List Addr), MG Y (X.blk s H scope (compEnvC scope cl C X.env) fp) tg g T)
    (ht : ∀ (s : Shared) (H : Hp) (C : Addr) (cl : List (Str × Addr)) (fp : List Addr), MT Y (X.blk s H scope (compEnvC scope cl C X.env) fp) W0 c tt gt)
    (he : ∀ (s : Shared) (H : Hp) (C : Addr) (cl : List (Str × Addr)) (fp : List Addr), ME Y (X.blk s H scope (compEnvC scope cl C X.env) fp) W0 elt te ge) (hs : ∀ i ∈ T.sl, i ∈ own.map (·.2))
    (hf : ∀ x, foldedSetIterable iter X.env x = pure x := by intro _; rfl) :
    ME Y X W (.ListComp elt [⟨tg, iter, [c], 0⟩] scope pos) (tLc wi g tt te (own.map (·.2))) (gComp T (own.map (·.2)) gi gt ge) :=
  ⟨pe_lc hc hN hi.pe ok (fun s H C cl fp => (hg s H C cl fp).pe) (fun s H C cl fp => pts_one (ht s H C cl fp).pe) (fun s H C cl fp => (he s H C cl fp).pe) hf,
    eok_lc hi.ok (hg X.s_0 X.H_0 0 [] []).ok (ht X.s_0 X.H_0 0 [] []).ok (he X.s_0 X.H_0 0 [] []).ok hs⟩
theorem ms_setLc {i : Nat} {y : Str} {py spos : Pos} {scope : Scope} {own : List (Str × Nat)} {wi : TI} {gi : GI Y} {g : TG} {T : Tg} {te : TE} {ge : GE Y} (hc : X.calm = true) (hN : X.N.Nodup) (hy : X.N[i]? = some y) (hyl : X.env.scope.names.lookup y = some .local)
    (hsw : swapsWith (.ListComp elt [⟨tg, iter, [], 0⟩] scope pos) (some (.Name y py)) spos.line X.env = pure true) (hi : MI Y X W tg iter wi gi) (ok : BlkOk X.N X.env.scope scope own)
    (hg : ∀ (s : Shared) (H : Hp) (C : Addr) (cl : List (Str × Addr)) (fp : List Addr), MG Y (X.blk s H scope (compEnvC scope cl C X.env) fp) tg g T)
    (he : ∀ (s : Shared) (H : Hp) (C : Addr) (cl : List (Str × Addr)) (fp : List Addr), ME Y (X.blk s H scope (compEnvC scope cl C X.env) fp) W0 elt te ge) (hs : ∀ i ∈ T.sl, i ∈ own.map (·.2))
    (hf : ∀ x, foldedSetIterable iter X.env x = pure x := by intro _; rfl) :
    MS Y X W (.Assign [.Name y py] (.ListComp elt [⟨tg, iter, [], 0⟩] scope pos) spos) (tAsg (tLc wi g tYes te (own.map (·.2))) (L2.gName i)) (sSet i (gComp T (own.map (·.2)) gi gYes ge)) :=
  ⟨ps_setLc hc hN hy hyl hsw hi.pe ok (fun s H C cl fp => (hg s H C cl fp).pe) (fun _ _ _ _ _ => pts_nil) (fun s H C cl fp => (he s H C cl fp).pe) hf,
    sok_set (eok_lc hi.ok (hg X.s_0 X.H_0 0 [] []).ok (fun B w σ Γ s out Q Wh N e p => by cases e; exact p w Wh N (.refl _)) (he X.s_0 X.H_0 0 [] []).ok hs)⟩
theorem ms_setLcif {i : Nat} {y : Str} {py spos : Pos} {c : Expr} {scope : Scope} {own : List (Str × Nat)} {wi : TI} {gi : GI Y} {g : TG} {T : Tg} {tt : TT} {gt : GT Y} {te : TE} {ge : GE Y} (hc : X.calm = true) (hN : X.N.Nodup) (hy : X.N[i]? = some y) (hyl : X.env.scope.names.lookup y = some .local)
    (hsw : swapsWith (.ListComp elt [⟨tg, iter, [c], 0⟩] scope pos) (some (.Name y py)) spos.line X.env = pure true) (hi : MI Y X W tg iter wi gi) (ok : BlkOk X.N X.env.scope scope own)
    (hg : ∀ (s : Shared) (H : Hp) (C : Addr) (cl : List (Str × Addr)) (fp : List Addr), MG Y (X.blk s H scope (compEnvC scope cl C X.env) fp) tg g T)
    (ht : ∀ (s : Shared) (H : Hp) (C : Addr) (cl : List (Str × Addr)) (fp : List Addr), MT Y (X.blk s H scope (compEnvC scope cl C X.env) fp) W0 c tt gt)
    (he : ∀ (s : Shared) (H : Hp) (C : Addr) (cl : List (Str × Addr)) (fp : List Addr), ME Y (X.blk s H scope (compEnvC scope cl C X.env) fp) W0 elt te ge) (hs : ∀ i ∈ T.sl, i ∈ own.map (·.2))
    (hf : ∀ x, foldedSetIterable iter X.env x = pure x := by intro _; rfl) :
    MS Y X W (.Assign [.Name y py] (.ListComp elt [⟨tg, iter, [c], 0⟩] scope pos) spos) (tAsg (tLc wi g tt te (own.map (·.2))) (L2.gName i)) (sSet i (gComp T (own.map (·.2)) gi gt ge)) :=
  ⟨ps_setLc hc hN hy hyl hsw hi.pe ok (fun s H C cl fp => (hg s H C cl fp).pe) (fun s H C cl fp => pts_one (ht s H C cl fp).pe) (fun s H C cl fp => (he s H C cl fp).pe) hf,
    sok_set (eok_lc hi.ok (hg X.s_0 X.H_0 0 [] []).ok (ht X.s_0 X.H_0 0 [] []).ok (he X.s_0 X.H_0 0 [] []).ok hs)⟩
end
def argR : R → Bool
  | .v _ => true
  | .h _ => true
  | .raw _ => true
  | .e _ => true
  | _ => false
inductive ArA (K : PySem.W.Frag) (B : Hp) (w : Wo) : List V → List R → Prop
  | nil : ArA K B w [] []
  | cons {x : V} {xs : List V} {r : R} {rs : List R} : argR r = true → SlR K B w x r → ArA K B w xs rs → ArA K B w (x :: xs) (r :: rs)
theorem ArA.length {K : PySem.W.Frag} {B : Hp} {w : Wo} : ∀ {xs : List V} {rs : List R}, ArA K B w xs rs → xs.length = rs.length
  | _, _, .nil => rfl
  | _, _, .cons _ _ t => by simp [ArA.length t]
def PoC (Y : Sys) (K : PySem.W.Frag) (B : Hp) (w : Wo) (Q : VK) (E : XK) : Oc R × Y.S → Prop
  | (.ok r, s') => ∀ w' x, Wd Y B w' s' → SlR K B w' x r → Le w w' → Q x w'.H
  | (.er n, s') => ∀ w', Wd Y B w' s' → Le w w' → ∀ c, Cn K n c → E c none w'.H
abbrev Fm (Y : Sys) := List R → Y.S → Option (Oc R × Y.S)
def spM (Y : Sys) (K : PySem.W.Frag) (n : Nat) (m : Fm Y) : Sp := fun vs H Q E => ∃ B w rs s out, w.H = H ∧ Wd Y B w s ∧ ArA K B w vs rs ∧ rs.length = n ∧ m rs s = some out ∧ PoC Y K B w Q E out
def mOf {Y : Sys} (N : Nat) (body : GS Y) : Fm Y := fun rs s => match body (rs.map some ++ List.replicate (N - rs.length) none) s with
  | some (.rt r, _, s') => some (.ok r, s')
  | some (.nx, _, s') => some (.ok (.v .none), s')
  | some (.er c, _, s') => some (.er c, s')
  | _ => none
theorem start_env {K : PySem.W.Frag} {B : Hp} {w : Wo} {vs : List V} {rs : List R} (h : ArA K B w vs rs) (n m : Nat) (e : n = m) : EnvR K B w (vs.map some ++ List.replicate n none) (rs.map some ++ List.replicate m none) := by
  subst e
  have hl := h.length
  have key : ∀ {vs : List V} {rs : List R}, ArA K B w vs rs → ∀ (i : Nat) (r : R), (rs.map some ++ List.replicate n none)[i]? = some (some r) → ∃ x, (vs.map some ++ List.replicate n none)[i]? = some (some x) ∧ SlR K B w x r ∧ argR r = true := by
    intro vs rs h
    induction h with
    | nil =>
      intro i r e
      simp only [List.map_nil, List.nil_append] at e
      have := List.mem_replicate.mp (List.mem_of_getElem? e)
      cases this.2
    | cons a b t ih =>
      intro i r e
      cases i with
      | zero => simp at e; subst e; exact ⟨_, rfl, b, a⟩
      | succ i => exact ih i r (by simpa using e)
  refine ⟨by simp [hl], fun i r e => ?_, fun i j d e' x hi hj _ _ => ?_⟩
  · obtain ⟨x, a, b, _⟩ := key h i r e
    exact ⟨x, a, b⟩
  · obtain ⟨_, _, _, z⟩ := key h i _ hi
    cases z
section
variable {P : Program} {w : World} {K : PySem.W.Frag} {mg : Str → Option Value} {base : Heap} {Y : Sys}
theorem fn_okM {x qual : Str} {st : Stmt} {f : Addr} {fd : FuncData} {N ps : List Str} {k : Nat} (F : Fun K x qual st f fd) (S : FnScope N ps (defScope st)) {body : GS Y}
    (hb : ∀ (cdv : Value) (A : Around) (outer : List Env) (s : Shared) (H : Hp) (E : XK), Room k (A.deeper (PyProof.Rows.envOfC qual (defScope st) s.heap.objs.size f cdv)) →
      ∃ t, MSs Y (cxOf (L2.CX P w) P w K mg base N qual (defScope st) f cdv A outer s H E) (fun cls d _ H => E cls d H) (defBody st) t body) :
    FnOk P w K mg base (L2.CX P w) (k + 1) f fd ps (spM Y K ps.length (mOf N.length body)) := by
  refine F.okX S (fun vs H Q E h => ?_) (fun cdv A outer s H vs Q E hr h => ?_)
  · obtain ⟨B, wo, rs, st', out, rfl, Wh, ar, hl, hm, p⟩ := h
    rw [ar.length, hl]
  · obtain ⟨B, wo, rs, st', out, rfl, Wh, ar, hl, hm, p⟩ := h
    obtain ⟨t, pe, ok⟩ := hb cdv A outer s wo.H E hr
    refine ⟨t, pe, ?_⟩
    unfold mOf at hm
    have N0 := start_env ar (N.length - vs.length) (N.length - rs.length) (by rw [ar.length])
    split at hm
    · rename_i r Γ' s' eb
      cases hm
      exact ok B wo _ _ st' _ _ Wh N0 eb fun w' x W' r' l => p w' x W' r' l
    · rename_i Γ' s' eb
      cases hm
      exact ok B wo _ _ st' _ _ Wh N0 eb fun w' σ' W' N' l => p w' .non W' (show Rp K w'.F .non .none from .non) l
    · rename_i c Γ' s' eb
      cases hm
      exact ok B wo _ _ st' _ _ Wh N0 eb fun w' σ' W' N' l => p w' W' l
    · cases hm
end
def gFn {Y : Sys} (n : Nat) (m : Fm Y) (gr : GA Y) : GE Y := bd gr fun rs Γ s => if (rs.all argR && rs.length == n) = true then (match m rs s with
  | some (.ok (.v d), s') => some (.ok (.v d), Γ, s')
  | some (.ok (.o d), s') => some (.ok (.o d), Γ, s')
  | some (.ok (.h i), s') => some (.ok (.h i), Γ, s')
  | some (.ok (.raw x), s') => some (.ok (.raw x), Γ, s')
  | some (.ok (.e x), s') => some (.ok (.e x), Γ, s')
  | some (.er c, s') => some (.er c, Γ, s')
  | _ => none) else none
section
variable {Y : Sys} {X : Cx} {W : WX} {e : Expr} {es : List Expr} {pos p : Pos} {gr : GA Y}
theorem ara_of {K : PySem.W.Frag} {B B' : Hp} {w : Wo} {σ : St} {Γ : Ev} : ∀ {xs : List V} {rs : List R}, RsA K B w σ Γ xs rs → rs.all argR = true → ArA K B' w xs rs
  | _, _, .nil, _ => .nil
  | _, .v _ :: _, .cons q t, h => .cons rfl q (ara_of t (by simpa [argR] using h))
  | _, .h _ :: _, .cons q t, h => .cons rfl q (ara_of t (by simpa [argR] using h))
  | _, .raw _ :: _, .cons q t, h => .cons rfl q (ara_of t (by simpa [argR] using h))
  | _, .e _ :: _, .cons q t, h => .cons rfl q (ara_of t (by simpa [argR] using h))
  | _, .o _ :: _, .cons _ _, h => by simp [argR] at h
  | _, .b _ :: _, .cons _ _, h => by simp [argR] at h
def restB (w : Wo) : Hp := fun q => if q ∈ w.A then none else match w.F q with
  | some (.tup xs) => some (.tup xs)
  | some _ => none
  | none => w.H q
theorem restB_A {w : Wo} {q : Addr} (h : q ∈ w.A) : restB w q = none := if_pos h
theorem restB_F {w : Wo} {q : Addr} {o : HO} (h : w.F q = some o) : restB w q = none ∨ ∃ xs, o = .tup xs := by
  unfold restB
  split
  · exact .inl rfl
  · rw [h]
    cases o with
    | tup xs => exact .inr ⟨xs, rfl⟩
    | _ => exact .inl rfl
theorem restB_T {w : Wo} {q : Addr} {xs : List V} (h : w.F q = some (.tup xs)) (ha : q ∉ w.A) : restB w q = some (.tup xs) := by
  unfold restB
  rw [if_neg ha, h]
theorem restB_H {w : Wo} {q : Addr} {o : HO} (h : w.H q = some o) (hf : w.F q = none) (ha : q ∉ w.A) : restB w q = some o := by
  unfold restB
  rw [if_neg ha, hf]
  exact h
theorem restB_of {w : Wo} (sF : Same w.F w.H) {q : Addr} {o : HO} (h : restB w q = some o) : w.H q = some o := by
  unfold restB at h
  split at h
  · cases h
  · split at h
    · rename_i e
      cases h
      exact sF _ _ e
    · cases h
    · exact h
theorem eok_fn {K : PySem.W.Frag} {n : Nat} {m : Fm Y} {ta : TA} (ha : AOk Y K W ta gr) : EOk Y K W (tCallS (spM Y K n m) (WE W) ta) (gFn n m gr) := by
  intro B w σ Γ s out Q Wh N e p
  refine ha.go (Q := fun vs H1 => spM Y K n m vs H1 Q (WE W σ)) Wh N e p fun rs Γ1 s1 xs w1 W1 N1 l1 R1 e1 p1 => ?_
  split at e1
  · rename_i hc
    rw [Bool.and_eq_true] at hc
    have hl : rs.length = n := by simpa using hc.2
    have sB : Same B (restB w1) := fun q o h => by
      have qa : q ∉ w1.A := fun z => by
        have := (W1.dA q z).2
        rw [h] at this; cases this
      cases z : w1.F q with
      | none => exact restB_H (W1.sB q o h) z qa
      | some u =>
        rcases W1.dj q u z with k | ⟨xs, rfl⟩
        · rw [h] at k; cases k
        · have a := W1.sF q _ z
          rw [W1.sB q o h] at a
          cases a
          exact restB_T z qa
    have Wc : Wd Y (restB w1) w1 s1 := ⟨W1.sF, fun q o h => restB_of W1.sF h, fun q o h => restB_F h, fun q h => ⟨(W1.dA q h).1, restB_A h⟩, W1.rel⟩
    have Nb : ∀ {w' : Wo} {s' : Y.S}, Wd Y (restB w1) w' s' → Le w1 w' → EnvR K B w' σ Γ1 ∧ ∀ (i : Nat) (e : D) (q : Addr), Γ1[i]? = some (some (R.o e)) → restB w1 q = none → σ[i]? ≠ some (some (.ref q)) := fun {w' s'} W' l' => by
      have at' : ∀ (q : Addr) (o : HO), restB w1 q = some o → (∀ xs, o ≠ .tup xs) → w'.H q = some o ∧ w'.F q = none ∧ q ∉ w'.A := fun q o h hn => by
        refine ⟨W'.sB q o h, W'.apart h hn, fun z => ?_⟩
        · have := (W'.dA q z).2
          rw [h] at this; cases this
      refine ⟨⟨N1.len, fun i r hi => ?_, N1.inj⟩, fun i e q hi hq hs => ?_⟩
      · obtain ⟨x, a, b⟩ := N1.sl i r hi
        refine ⟨x, a, ?_⟩
        cases r with
        | o d =>
          obtain ⟨q, rfl, own, fq, bq, aq⟩ := b
          obtain ⟨o, ho, hn⟩ := own.obj'
          obtain ⟨h1, h2, h3⟩ := at' q o (restB_H ho fq aq) hn
          exact ⟨q, rfl, own.move l'.F (h1.trans ho.symm), h2, bq, h3⟩
        | v d => exact Rp.mono l'.F b
        | h k => exact SlR.le l' (fun d => ⟨fun z => (nomatch z), fun k z => (nomatch z)⟩) b
        | raw y => exact b
        | e y =>
          obtain ⟨p', cls, e1, q, c⟩ := b
          exact ⟨p', cls, e1, l'.F _ _ q, c⟩
        | b k => exact b
      · obtain ⟨x, a, b⟩ := N1.sl i _ hi
        obtain ⟨q', rfl, own, fq, bq, aq⟩ := b
        rw [hs] at a; cases a
        obtain ⟨o, ho⟩ := own.obj
        rw [restB_H ho fq aq] at hq; cases hq
    have fin : ∀ {r : R} {s' : Y.S}, PoG Y K W B w1 σ (fun r Γ' w' => ∀ x, ResR K B w' σ Γ' x r → Q x w'.H) (.ok r, Γ1, s') → (∀ k, r ≠ .b k) → m rs s1 = some (.ok r, s') → spM Y K n m xs w1.H Q (WE W σ) := fun {r s'} p1 nb em => by
      refine ⟨restB w1, w1, rs, s1, _, rfl, Wc, ara_of R1 hc.1, hl, em, fun w' x W' r' l' => ?_⟩
      obtain ⟨N2, oth⟩ := Nb W' l'
      refine p1 w' (W'.weak sB) N2 l' x ?_
      cases r with
      | o d =>
        obtain ⟨q, rfl, own, fq, bq, aq⟩ := r'
        exact ⟨⟨q, rfl, own, fq, sB.free bq, aq⟩, fun i e hi hs => oth i e q hi bq hs⟩
      | v d => exact r'
      | h d => exact r'
      | raw d => exact r'
      | e d => exact r'
      | b d => exact absurd rfl (nb d)
    split at e1
    · rename_i d s' em; cases e1; exact fin p1 (fun _ z => nomatch z) em
    · rename_i d s' em; cases e1; exact fin p1 (fun _ z => nomatch z) em
    · rename_i d s' em; cases e1; exact fin p1 (fun _ z => nomatch z) em
    · rename_i d s' em; cases e1; exact fin p1 (fun _ z => nomatch z) em
    · rename_i d s' em; cases e1; exact fin p1 (fun _ z => nomatch z) em
    · rename_i c s' em
      cases e1
      exact ⟨restB w1, w1, rs, s1, _, rfl, Wc, ara_of R1 hc.1, hl, em, fun w' W' l' => p1 w' (W'.weak sB) (Nb W' l').1 l'⟩
    · cases e1
  · cases e1
theorem me_fn {n k : Nat} {m : Fm Y} {f : Addr} {fd : FuncData} {ps : List Str} {x : Str} {ta : TA} (F : FnOk X.prog X.w X.K X.mg X.base (L2.CX X.prog X.w) k f fd ps (spM Y X.K n m)) (hr : Room k X.A) (hg : Gl X x) (hm : X.mg x = some (.ref f)) (hk : PySem.W.keepIn X.K (.ref f) = true) (hb : Binds X.K fd ps []) (tk : Takes X W)
    (ha : MA Y X W (e :: es) ta gr) (hdb : (x == ("__debug__" : Str)) = false := by decide) (he : starEach (e :: es) X.env = (false, eval e X.env) :: starEach es X.env := by rfl) (hpl : (backTo pos (starEach es X.env)).any (·.1) = false := by rfl) :
    ME Y X W (.Call (.Name x p) (e :: es) [] pos) (tCallS (spM Y X.K n m) (WE W) ta) (gFn n m gr) :=
  ⟨pe_callS F hr hg hm hk hb (fun σ => passAt tk σ) ha.pe hdb he hpl, eok_fn ha.ok⟩
end
section
variable {Y : Sys} {K : PySem.W.Frag} {W : WX} {B : Hp} {w : Wo} {σ : St} {Γ : Ev} {s : Y.S}
theorem Wd.st (Wh : Wd Y B w s) {p : Addr} {o : HO} (fp : w.F p = none) (bp : B p = none) (ap : p ∉ w.A) : Wd Y B { w with H := upd w.H p o } s := by
  refine ⟨fun q u e => ?_, fun q u e => ?_, Wh.dj, Wh.dA, Y.frame Wh.rel (Same.refl _) fun q hq => ?_⟩
  · show upd w.H p o q = some u
    rw [upd_ne (ne_of_none e fp)]; exact Wh.sF q u e
  · show upd w.H p o q = some u
    rw [upd_ne (ne_of_none e bp)]; exact Wh.sB q u e
  · show upd w.H p o q = w.H q
    rw [upd_ne (by rintro rfl; exact ap hq)]
theorem EnvR.st (N : EnvR K B w σ Γ) {i : Nat} {d d' : D} {p : Addr} {o : HO} (hi : Γ[i]? = some (some (.o d))) (hp : σ[i]? = some (some (.ref p))) (own : Own K w.F (upd w.H p o) p d') :
    EnvR K B { w with H := upd w.H p o } σ (Γ.set i (some (.o d'))) := by
  obtain ⟨x, hx, q, rfl, own0, fq, bq, aq⟩ := N.sl i _ hi
  rw [hp] at hx; cases hx
  refine ⟨by rw [List.length_set]; exact N.len, fun j r e => ?_, fun j k d' e' x hj hk hx hy => ?_⟩
  · rcases getSet e with ⟨rfl, z⟩ | ⟨ne, e⟩
    · cases z
      exact ⟨_, hp, _, rfl, own, fq, bq, aq⟩
    · obtain ⟨x, a, b⟩ := N.sl j r e
      refine ⟨x, a, ?_⟩
      cases r with
      | v d => exact b
      | o d' =>
        obtain ⟨q', rfl, own', fq', bq', aq'⟩ := b
        have hq : q' ≠ p := fun z => by subst z; exact ne (N.inj i j _ _ _ hi e hp a)
        exact ⟨q', rfl, own'.move (Same.refl _) (upd_ne hq), fq', bq', aq'⟩
      | h _ => exact b
      | raw _ => exact b
      | e _ => exact b
      | b _ => exact b
  · have back : ∀ {j : Nat} {b : D} {d' : D}, (Γ.set i (some (R.o b)))[j]? = some (some (R.o d')) → ∃ d'', Γ[j]? = some (some (R.o d'')) := fun {j b d'} h => by
      rcases getSet h with ⟨rfl, z⟩ | ⟨ne, h⟩
      · exact ⟨_, hi⟩
      · exact ⟨_, h⟩
    obtain ⟨d1, h1⟩ := back hj
    obtain ⟨d2, h2⟩ := back hk
    exact N.inj j k _ _ _ h1 h2 hx hy
end
def gApp {Y : Sys} (i : Nat) (ge : GE Y) : GE Y := fun Γ s => match Γ[i]? with
  | some (some (.o (.list _))) => bd (gEsc ge) (fun r Γ s => match r, Γ[i]? with
    | .v d, some (some (.o (.list ds))) => if sizeOk ds.length = true then some (.ok (.v .none), Γ.set i (some (.o (.list (ds ++ [d])))), s) else none
    | _, _ => none) Γ s
  | _ => none
section
variable {Y : Sys} {X : Cx} {W : WX} {e o : Expr} {pos p apos cpos : Pos} {ge : GE Y} {te : TE} {i : Nat}
theorem eok_app {K : PySem.W.Frag} (he : EOk Y K W te ge) : EOk Y K W (tBM K "list" rAppend (tVar i) (tCons te tNil)) (gApp i ge) := by
  intro B w σ Γ s out Q Wh N e p
  unfold gApp at e
  split at e
  · rename_i ds0 hi0
    obtain ⟨x, hx, q, rfl, ⟨xs, hl, ra⟩, _⟩ := N.sl i _ hi0
    refine ⟨_, hx, .inl ⟨rfl, xs, .of hl⟩, ?_⟩
    refine (eok_esc he).go (Q := fun y H2 => rAppend (.ref q) [y] H2 Q) Wh N e p fun r Γ1 s1 y w1 W1 N1 l1 R1 e1 p1 => ?_
    split at e1
    · rename_i d ds hi
      split at e1
      · rename_i hz
        cases e1
        obtain ⟨x, hx', q', rfl, ⟨xs, hl, ra⟩, fq, bq, aq⟩ := N1.sl i _ hi
        rw [hx] at hx'; cases hx'
        refine ⟨q, xs, y, rfl, rfl, hl, by rw [ra.length]; exact sizeOk_lt hz, ?_⟩
        exact p1 { w1 with H := upd w1.H q (.lst (xs ++ [y])) } (W1.st fq bq aq) (N1.st hi hx ⟨_, upd_same, ra.append (.cons R1 .nil)⟩) ⟨Same.refl _, [], by simp⟩ .non .non
      · cases e1
    · cases e1
  · cases e
theorem me_app (ho : PE X o (tVar i)) (he : ME Y X W e te ge) (hbase : attributeBase o "append" X.env (eval o X.env) = eval o X.env := by rfl)
    (hfew : ((backTo cpos (starEach (e :: []) X.env)).all (fun x => !x.1) && (backToKw cpos (keywordEach [] X.env)).all (fun x => x.1.isSome) && decide ((e :: []).length + ([] : List Keyword).length + (if ([] : List Keyword).isEmpty then 0 else 1) < 30)) = true := by rfl)
    (hline : (apos.endLine == cpos.line) = true := by rfl) (hs : starEach (e :: []) X.env = (false, eval e X.env) :: starEach [] X.env := by rfl) (hplain : (backTo cpos (starEach [] X.env)).any (·.1) = false := by rfl) :
    ME Y X W (.Call (.Attribute o "append" apos) [e] [] cpos) (tBM X.K "list" rAppend (tVar i) (tCons te tNil)) (gApp i ge) :=
  ⟨pe_bm PySem.F.plainAttrs_list PySem.F.slot_list_append PySem.F.type_list_append mt_append ho (pa_cons he.pe pa_nil hs) hbase hfew hline hs hplain, eok_app he.ok⟩
end
def sPut {Y : Sys} (i : Nat) (gk ge : GE Y) : GS Y := fun Γ s => match Γ[i]? with
  | some (some (.o (.list _))) => bdS (gEsc ge) (fun r => bdS gk fun rk Γ s => match r, rdv Γ rk, Γ[i]? with
    | .v d, some (.int k), some (some (.o (.list ds))) => match ixN ds.length k with
      | some j => some (.nx, Γ.set i (some (.o (.list (ds.set j d)))), s)
      | none => none
    | _, _, _ => none) Γ s
  | _ => none
theorem sok_put {Y : Sys} {K : PySem.W.Frag} {W : WX} {i : Nat} {te tk : TE} {ge gk : GE Y} (he : EOk Y K W te ge) (hk : EOk Y K W tk gk) : SOk Y K W (tAsg te (gSub (tVar i) tk rSetL)) (sPut i gk ge) := by
  intro B w σ Γ s out D Wh N e p
  unfold sPut at e
  split at e
  · rename_i ds0 hi0
    obtain ⟨y, hx, q, rfl, _⟩ := N.sl i _ hi0
    refine (eok_esc he).goS (Q := fun x H1 => gSub (tVar i) tk rSetL x σ H1 D.nx) Wh N e p fun r Γ1 s1 x w1 W1 N1 l1 R1 e1 p1 => ?_
    obtain ⟨B2, sB, W1b, N1b, kp, kq⟩ := keep W1 N1 R1
    clear kq
    refine ⟨_, hx, ?_⟩
    refine hk.goS (Q := fun y H3 => rSetL (.ref q) y x H3 fun H4 => D.nx σ H4) W1b N1b e1 (p1.strong sB) fun rk Γ2 s2 z w2 W2 N2 l2 R2 e2 p2 => ?_
    have R1' := kp W2 N2 l2
    split at e2
    · rename_i d k ds ek hi
      split at e2
      · rename_i j ej
        cases e2
        have N2' := N2.weak sB
        obtain ⟨y', hx', q', rfl, ⟨xs, hl, ra⟩, fq, bq, aq⟩ := N2'.sl i _ hi
        rw [hx] at hx'; cases hx'
        cases sh_int (sh_of W2 N2 R2 ek)
        refine ⟨q, xs, k, j, rfl, rfl, hl, by rw [ra.length]; exact ej, ?_⟩
        exact p1 { w2 with H := upd w2.H q (.lst (xs.set j x)) } σ ((W2.weak sB).st fq bq aq) (N2'.st hi hx ⟨_, upd_same, ra.set j R1'⟩) ⟨l2.F, l2.et⟩
      · cases e2
    · cases e2
  · cases e
theorem pget_list {X : Cx} : PGet X (rIxL X.K) := by
  intro pins s σ H x y v u Q I rx ry h
  obtain ⟨p, xs, i, z, rfl, rfl, hq, he, q⟩ := h
  cases rx
  obtain ⟨t, rfl⟩ := ry
  obtain ⟨its, r, pl, hz⟩ := I.list hq
  obtain ⟨j, h1, h2, h3, h4, h5⟩ := atI_get he
  obtain ⟨w, ew, rw'⟩ := r.get h2
  have hl := r.length
  have hn := line63
  have fin : EP X pins σ Q w s := ⟨z, H, I, rw', q⟩
  by_cases h0 : 0 ≤ i
  · have hj : i.toNat = j := by
      rw [seqIndex_of h0 h5] at h1
      exact Option.some.inj h1
    exact wpAny_getItem_list pl.isList h0 (by omega) (by rw [hj]; simpa using ew) fin
  · have hj : (i + (its.toArray.size : Int)).toNat = j := by
      rw [seqIndex_neg (by omega) h4] at h1
      rw [List.size_toArray, ← hl]
      exact Option.some.inj h1
    exact wpAny_getItem_list_neg pl.isList (by omega) (by rw [List.size_toArray] <;> omega) (by omega) (by rw [hj]; simpa using ew) fin
def sUpd {Y : Sys} (i : Nat) (f : Int → Int → Int) (gk ge : GE Y) : GS Y := fun Γ s => match Γ[i]? with
  | some (some (.o (.list _))) => bdS gk (fun rk Γ s => match rdv Γ rk, Γ[i]? with
    | some (.int k), some (some (.o (.list ds))) => match atI ds k with
      | some (.int a) => bdS ge (fun re Γ s => match rdv Γ re, Γ[i]? with
        | some (.int b), some (some (.o (.list es))) => match ixN es.length k with
          | some j => some (.nx, Γ.set i (some (.o (.list (es.set j (.int (f a b)))))), s)
          | none => none
        | _, _ => none) Γ s
      | _ => none
    | _, _ => none) Γ s
  | _ => none
theorem rpa_atI {K : PySem.W.Frag} {F : Hp} {xs : List V} {ds : List D} (r : RpA K F xs ds) {k : Int} {d : D} (h : atI ds k = some d) : ∃ v, atI xs k = some v ∧ Rp K F v d := by
  unfold atI at h ⊢
  rw [r.length]
  cases e : ixN ds.length k with
  | none => rw [e] at h; cases h
  | some j =>
    rw [e] at h
    exact r.get h
theorem sok_upd {Y : Sys} {K : PySem.W.Frag} {W : WX} {i : Nat} {f : Int → Int → Int} {te tk : TE} {ge gk : GE Y} (he : EOk Y K W te ge) (hk : EOk Y K W tk gk) : SOk Y K W (tAugS (tVar i) tk te (rIxL K) (ipI f) rSetL) (sUpd i f gk ge) := by
  intro B w σ Γ s out D Wh N e p
  unfold sUpd at e
  split at e
  · rename_i ds0 hi0
    obtain ⟨y, hx, q, rfl, _⟩ := N.sl i _ hi0
    refine ⟨_, hx, ?_⟩
    refine hk.goS (Q := fun iv H2 => rIxL K (.ref q) iv H2 fun x H3 => te σ H3 fun y H4 => ipI f x y H4 fun z H5 => rSetL (.ref q) iv z H5 fun H6 => D.nx σ H6) Wh N e p fun rk Γ1 s1 iv w1 W1 N1 l1 R1 e1 p1 => ?_
    split at e1
    · rename_i k ds ek hi
      split at e1
      · rename_i a ea
        cases sh_int (sh_of W1 N1 R1 ek)
        obtain ⟨y', hx', q', rfl, ⟨xs, hl, ra⟩, fq, bq, aq⟩ := N1.sl i _ hi
        rw [hx] at hx'; cases hx'
        obtain ⟨v, hv, rv⟩ := rpa_atI ra ea
        cases rv
        refine ⟨q, xs, k, _, rfl, rfl, .of hl, hv, ?_⟩
        refine he.goS (Q := fun y H4 => ipI f (.int a) y H4 fun z H5 => rSetL (.ref q) (.int k) z H5 fun H6 => D.nx σ H6) W1 N1 e1 p1 fun re Γ2 s2 y w2 W2 N2 l2 R2 e2 p2 => ?_
        split at e2
        · rename_i b es eb hi2
          split at e2
          · rename_i j ej
            cases e2
            cases sh_int (sh_of W2 N2 R2 eb)
            obtain ⟨y', hx', q', rfl, ⟨ys, hl2, ra2⟩, fq2, bq2, aq2⟩ := N2.sl i _ hi2
            rw [hx] at hx'; cases hx'
            refine ⟨a, b, rfl, rfl, q, ys, k, j, rfl, rfl, hl2, by rw [ra2.length]; exact ej, ?_⟩
            exact p2 { w2 with H := upd w2.H q (.lst (ys.set j (.int (f a b)))) } σ (W2.st fq2 bq2 aq2) (N2.st hi2 hx ⟨_, upd_same, ra2.set j (.int _)⟩) ⟨Same.refl _, [], by simp⟩
          · cases e2
        · cases e2
      · cases e1
    · cases e1
  · cases e
section
variable {Y : Sys} {X : Cx} {W : WX} {o k e : Expr} {pos p : Pos} {ge gk : GE Y} {te tk : TE} {i : Nat}
theorem ms_put (ho : PE X o (tVar i)) (hk : ME Y X W k tk gk) (he : ME Y X W e te ge)
    (ha : ∀ v, assign (.Subscript o k p) X.env v = (do
      let ov ← holding [v] (eval o X.env)
      let iv ← holding [v, ov] (eval k X.env)
      standAt p
      holding [v, ov, iv] (setItem ov iv v)
      release [v, ov, iv] []) := by intro _; rfl)
    (hs : swapsWithSole [.Subscript o k p] e pos.line X.env = pure false := by rfl) (hw : swappedStores [.Subscript o k p] e X.env = pure none := by rfl)
    (h1 : (assignEach [.Subscript o k p] X.env).map (·.2) = [assign (.Subscript o k p) X.env] := by rfl) :
    MS Y X W (.Assign [.Subscript o k p] e pos) (tAsg te (gSub (tVar i) tk rSetL)) (sPut i gk ge) :=
  ⟨ps_asg he.pe (pg_sub ho hk.pe set_list ha) hs hw h1, sok_put he.ok hk.ok⟩
theorem ms_upd {op : Operator} {f : Int → Int → Int} (hop : PIp X op (ipI f)) (ho : PE X o (tVar i)) (hk : ME Y X W k tk gk) (he : ME Y X W e te ge)
    (ha : ∀ ov iv new, augStore k ov iv new = (do holding [new, ov, iv] (setItem ov iv new); release [new, ov, iv] []; pure .next) := by intros; rfl) :
    MS Y X W (.AugAssign (.Subscript o k p) op e pos) (tAugS (tVar i) tk te (rIxL X.K) (ipI f) rSetL) (sUpd i f gk ge) :=
  ⟨ps_augS ho hk.pe pget_list he.pe hop set_list ha, sok_upd he.ok hk.ok⟩
end
end FX
set_option Elab.async false
set_option linter.all false
set_option maxRecDepth 100000
set_option maxHeartbeats 1000000
namespace FX
open PySem PySem.Spec L2
section
variable {K : PySem.W.Frag} {F H : Hp}
mutual
theorem Rp.dp : ∀ {d : D} {v : V}, Rp K F v d → d.canLay0 = true → Dp K F v d
  | .none, _, h, _ => by cases h; exact .non
  | .bool _, _, h, _ => by cases h; exact .bl _
  | .int _, _, h, _ => by cases h; exact .int _
  | .str _, _, h, _ => by cases h; exact .str _
  | .list _, _, h, c => by cases h with | lst a b => exact .lst (.of a) (RpA.dp b (by simpa [PyData.canLay0] using c))
  | .tuple _, _, h, c => by cases h with | tup a b => exact .tup (.of a) (RpA.dp b (by simpa [PyData.canLay0] using c))
  | .dict _, _, h, c => by simp [PyData.canLay0] at c
theorem RpA.dp : ∀ {ds : List D} {vs : List V}, RpA K F vs ds → PyData.canLayAll0 ds = true → DpAll K F vs ds
  | [], _, h, _ => by cases h; exact .nil
  | _ :: _, _, h, c => by
    simp only [PyData.canLayAll0, Bool.and_eq_true] at c
    cases h with | cons a b => exact .cons (Rp.dp a c.1) (RpA.dp b c.2)
end
mutual
theorem Dp.mo (e : Same F H) : ∀ {d : D} {v : V}, Dp K F v d → Dp K H v d
  | .none, _, h => by cases h; exact .non
  | .bool _, _, h => by cases h; exact .bl _
  | .int _, _, h => by cases h; exact .int _
  | .str _, _, h => by cases h; exact .str _
  | .list _, _, h => by cases h with | lst a b => exact .lst (e.seq a) (DpA.mo e b)
  | .tuple _, _, h => by cases h with | tup a b => exact .tup (seqT e a) (DpA.mo e b)
  | .dict _, _, h => by cases h
theorem DpA.mo (e : Same F H) : ∀ {ds : List D} {vs : List V}, DpAll K F vs ds → DpAll K H vs ds
  | [], _, h => by cases h; exact .nil
  | _ :: _, _, h => by cases h with | cons a b => exact .cons (Dp.mo e a) (DpA.mo e b)
end
theorem Sh.dp (e : Same F H) {x : V} : ∀ {d : D}, Sh K F H x d → SeqAt.shaped d = true → Dp K H x d
  | .none, h, c => Dp.mo e (Rp.dp h rfl)
  | .bool _, h, c => Dp.mo e (Rp.dp h rfl)
  | .int _, h, c => Dp.mo e (Rp.dp h rfl)
  | .str _, h, c => Dp.mo e (Rp.dp h (SeqAt.canLay_of_shaped c))
  | .list ds, h, c => by
    obtain ⟨p, xs, rfl, a, b⟩ := h
    exact .lst (.of a) (DpA.mo e (RpA.dp b (by simpa [PyData.canLay0] using SeqAt.canLay_of_shaped c)))
  | .tuple ds, h, c => by
    obtain ⟨p, xs, rfl, a, b⟩ := h
    exact .tup (.of (e _ _ a)) (DpA.mo e (RpA.dp b (by simpa [PyData.canLay0] using SeqAt.canLay_of_shaped c)))
  | .dict _, h, c => by simp [SeqAt.shaped, PyData.canLay0] at c
end
def okInt (i j : Int) : Bool := Nat.ble (i.natAbs + 1) 18446744073709551616 || Nat.ble (j.natAbs + 1) 18446744073709551616
theorem okInt_of {i j : Int} (h : okInt i j = true) : (-(2 ^ 64) < i ∧ i < 2 ^ 64) ∨ (-(2 ^ 64) < j ∧ j < 2 ^ 64) := by
  unfold okInt at h
  simp only [Bool.or_eq_true] at h
  rcases h with h | h
  · have := Nat.le_of_ble_eq_true h
    exact .inl (by omega)
  · have := Nat.le_of_ble_eq_true h
    exact .inr (by omega)
theorem okInt_l {i j : Int} (h : i.natAbs < 18446744073709551616) : okInt i j = true := by
  unfold okInt
  rw [Nat.ble_eq_true_of_le h, Bool.true_or]
theorem okInt_r {i j : Int} (h : j.natAbs < 18446744073709551616) : okInt i j = true := by
  unfold okInt
  rw [Nat.ble_eq_true_of_le h, Bool.or_true]
def fAdd : D → D → Option Rz
  | .int i, .int j => some (.nw (.int (i + j)))
  | .str x, .str y => if sizeOk (x.length + y.length) = true then some (.nw (.str (x ++ y))) else none
  | .list a, .list b => if sizeOk (a.length + b.length) = true then some (.nw (.list (a ++ b))) else none
  | _, _ => none
def fSub : D → D → Option Rz
  | .int i, .int j => some (.nw (.int (i - j)))
  | _, _ => none
def fMul : D → D → Option Rz
  | .int i, .int j => if okInt i j = true then some (.nw (.int (i * j))) else none
  | .list a, .int k => if (bigI k && sizeOk (a.length * k.toNat)) = true then some (.nw (.list (List.replicate k.toNat a).flatten)) else none
  | .tuple a, .int k => if (!a.isEmpty && decide (2 ≤ k) && decide (k ≤ 1000) && decide (a.length ≤ 1000)) = true then some (.nw (.tuple (List.replicate k.toNat a).flatten)) else none
  | _, _ => none
def fDiv : D → D → Option Rz
  | .int i, .int j => if (decide (j ≠ 0) && decide (j.natAbs < 1073741824)) = true then some (.nw (.int (i.fdiv j))) else none
  | _, _ => none
def fMod : D → D → Option Rz
  | .int i, .int j => if decide (j ≠ 0) = true then some (.nw (.int (i.fmod j))) else none
  | _, _ => none
def fPow : D → D → Option Rz
  | .int i, .int j => if (decide (0 ≤ j) && decide (j ≤ 1000) && decide (i.natAbs < 1000)) = true then some (.nw (.int (i ^ j.toNat))) else none
  | _, _ => none
def fNeg : D → Option Rz
  | .int i => some (.nw (.int (-i)))
  | _ => none
def fLt : D → D → Option Rz
  | .int i, .int j => some (.nw (.bool (decide (i < j))))
  | _, _ => none
def fGt : D → D → Option Rz
  | .int i, .int j => some (.nw (.bool (decide (j < i))))
  | _, _ => none
def fGe : D → D → Option Rz
  | .int i, .int j => some (.nw (.bool (decide (j ≤ i))))
  | _, _ => none
def ints? : List D → Option (List Int)
  | [] => some []
  | .int i :: r => match ints? r with
    | some l => some (i :: l)
    | none => none
  | _ :: _ => none
def leT (ns ms : List Int) : Bool := Ob.lexAt (fun j => decide (ns.getD j 0 = ms.getD j 0)) (fun j => decide (ns.getD j 0 ≤ ms.getD j 0)) (decide (ns.length ≤ ms.length)) 0 (min ns.length ms.length)
def fLe : D → D → Option Rz
  | .int i, .int j => some (.nw (.bool (decide (i ≤ j))))
  | .tuple a, .tuple b => match ints? a, ints? b with
    | some ns, some ms => some (.nw (.bool (leT ns ms)))
    | _, _ => none
  | _, _ => none
def fEq (d e : D) : Option Rz := if (SeqAt.shaped d && SeqAt.shaped e) = true then some (.nw (.bool (PyData.eqv d e))) else none
def fNe (d e : D) : Option Rz := if (SeqAt.shaped d && SeqAt.shaped e) = true then some (.nw (.bool (!PyData.eqv d e))) else none
def isNo : D → Bool
  | .none => true
  | _ => false
def fIsN (d e : D) : Option Rz := match e with
  | .none => some (.nw (.bool (isNo d)))
  | _ => none
def fNotN (d e : D) : Option Rz := match e with
  | .none => some (.nw (.bool (!isNo d)))
  | _ => none
def fIx : D → D → Option Rz
  | .list ds, .int i => match atI ds i with
    | some d => some (.old d)
    | none => none
  | .tuple ds, .int i => match atI ds i with
    | some d => some (.old d)
    | none => none
  | .str z, .int i => if sizeOk z.length = true then (match atI z.cps.toList i with
    | some c => some (.nw (.str ⟨#[c]⟩))
    | none => none) else none
  | _, _ => none
def fLen : List D → Option Rz
  | [.list ds] => some (.nw (.int (ds.length : Nat)))
  | [.tuple ds] => some (.nw (.int (ds.length : Nat)))
  | [.str z] => if sizeOk z.length = true then some (.nw (.int (z.length : Nat))) else none
  | _ => none
def fInt : List D → Option Rz
  | [.int i] => some (.nw (.int i))
  | [.bool b] => some (.nw (.int (if b = true then 1 else 0)))
  | _ => none
def fSum : List D → Option Rz
  | [.list ds] => match ints? ds with
    | some ns => some (.nw (.int ns.sum))
    | none => none
  | _ => none
def fList : List D → Option Rz
  | [.list ds] => some (.nw (.list ds))
  | [.tuple ds] => some (.nw (.list ds))
  | _ => none
section
variable {K : PySem.W.Frag} {X : Cx}
theorem ints_of {F : Hp} : ∀ {ds : List D} {xs : List V} {ns : List Int}, RpA K F xs ds → ints? ds = some ns → xs = ns.map V.int
  | [], _, _, h, e => by cases h; cases e; rfl
  | .int i :: r, _, _, h, e => by
    unfold ints? at e
    split at e
    · rename_i l el
      cases e
      cases h with
      | cons a b => cases a; rw [ints_of b el]; rfl
    · cases e
  | .none :: _, _, _, _, e => by cases e
  | .bool _ :: _, _, _, _, e => by cases e
  | .str _ :: _, _, _, _, e => by cases e
  | .list _ :: _, _, _, _, e => by cases e
  | .tuple _ :: _, _, _, _, e => by cases e
  | .dict _ :: _, _, _, _, e => by cases e
theorem nw_int {F H : Hp} {Q : VK} {i : Int} (q : RzQ K F H Q (.nw (.int i))) : Q (.int i) H := q _ (.int i)
theorem nw_bool {F H : Hp} {Q : VK} {i : Bool} (q : RzQ K F H Q (.nw (.bool i))) : Q (.bl i) H := q _ (.bl i)
theorem nw_str {F H : Hp} {Q : VK} {i : Str} (q : RzQ K F H Q (.nw (.str i))) : Q (.str i) H := q _ (.str i)
def rStrAdd : R2 := fun x y H Q => ∃ i j, x = .str i ∧ y = .str j ∧ i.length + j.length ≤ sizeLine ∧ Q (.str (i ++ j)) H
def rAdd3 : R2 := fun x y H Q => rI0 (fun i j => .int (i + j)) x y H Q ∨ (fun x y H Q => rStrAdd x y H Q ∨ rCat x y H Q) x y H Q
theorem o_add : OpR X (binaryOp .Add) rAdd3 := op_add.or (OpR.or op_add_str op_cat)
theorem s_add : Op2 K rAdd3 fAdd := by
  intro F H x y d e z Q sF hx hy h q
  unfold fAdd at h
  split at h
  · cases h
    cases sh_int hx
    cases sh_int hy
    exact .inl ⟨_, _, rfl, rfl, nw_int q⟩
  · split at h
    · rename_i hz
      cases h
      cases sh_str hx
      cases sh_str hy
      exact .inr (.inl ⟨_, _, rfl, rfl, sizeOk_le hz, nw_str q⟩)
    · cases h
  · split at h
    · rename_i hz
      cases h
      obtain ⟨p, xs, rfl, e1, a1⟩ := hx
      obtain ⟨p2, ys, rfl, e2, a2⟩ := hy
      exact .inr (.inr ⟨p, p2, xs, ys, rfl, rfl, e1, e2, by rw [a1.length, a2.length]; exact sizeOk_le hz, fun r nr => q r _ nr (a1.append a2)⟩)
    · cases h
  · cases h
theorem s_sub : Op2 K (rI0 fun i j => .int (i - j)) fSub := by
  intro F H x y d e z Q sF hx hy h q
  unfold fSub at h
  split at h
  · cases h
    cases sh_int hx
    cases sh_int hy
    exact ⟨_, _, rfl, rfl, nw_int q⟩
  · cases h
def rMul2 (K : PySem.W.Frag) : R2 := fun x y H Q => rI CMul (fun i j => .int (i * j)) x y H Q ∨ (fun x y H Q => rRep x y H Q ∨ rRepT K x y H Q) x y H Q
theorem o_mul : OpR X (binaryOp .Mult) (rMul2 X.K) := op_mul.or (op_rep.or op_repT)
theorem RpA.rep {F : Hp} {xs : List V} {ds : List D} (r : RpA K F xs ds) : ∀ n, RpA K F (List.replicate n xs).flatten (List.replicate n ds).flatten
  | 0 => .nil
  | n + 1 => by
    simp only [List.replicate_succ, List.flatten_cons]
    exact r.append (RpA.rep r n)
theorem s_mul : Op2 K (rMul2 K) fMul := by
  intro F H x y d e z Q sF hx hy h q
  unfold fMul at h
  split at h
  · split at h
    · rename_i hz
      cases h
      cases sh_int hx
      cases sh_int hy
      refine .inl ⟨_, _, rfl, rfl, ?_, nw_int q⟩
      exact okInt_of hz
    · cases h
  · split at h
    · rename_i hz
      cases h
      rw [Bool.and_eq_true] at hz
      obtain ⟨b1, b2⟩ := bigI_of hz.1
      obtain ⟨p, xs, rfl, e1, a1⟩ := hx
      cases sh_int hy
      exact .inr (.inl ⟨p, _, xs, rfl, rfl, e1, by omega, by omega, by rw [a1.length]; exact sizeOk_le hz.2, fun r nr => q r _ nr (a1.rep _)⟩)
    · cases h
  · split at h
    · rename_i hz
      cases h
      simp only [Bool.and_eq_true, decide_eq_true_eq, Bool.not_eq_true'] at hz
      obtain ⟨p, xs, rfl, e1, a1⟩ := hx
      cases sh_int hy
      refine .inr (.inr ⟨p, _, xs, rfl, rfl, .of (sF _ _ e1), ?_, hz.1.1.2, hz.1.2, by rw [a1.length]; exact hz.2, fun r nr => q r _ nr (a1.rep _)⟩)
      intro e
      subst e
      cases a1
      exact absurd hz.1.1.1 (by decide)
    · cases h
  · cases h
theorem s_div : Op2 K (rI CDivN fun i j => .int (i.fdiv j)) fDiv := by
  intro F H x y d e z Q sF hx hy h q
  unfold fDiv at h
  split at h
  · split at h
    · rename_i hz
      cases h
      simp only [Bool.and_eq_true, decide_eq_true_eq] at hz
      cases sh_int hx
      cases sh_int hy
      exact ⟨_, _, rfl, rfl, hz, nw_int q⟩
    · cases h
  · cases h
theorem s_mod : Op2 K (rI (fun _ j => j ≠ 0) fun i j => .int (i.fmod j)) fMod := by
  intro F H x y d e z Q sF hx hy h q
  unfold fMod at h
  split at h
  · split at h
    · rename_i hz
      cases h
      simp only [decide_eq_true_eq] at hz
      cases sh_int hx
      cases sh_int hy
      exact ⟨_, _, rfl, rfl, hz, nw_int q⟩
    · cases h
  · cases h
theorem s_pow : Op2 K (rI CPow fun i j => .int (i ^ j.toNat)) fPow := by
  intro F H x y d e z Q sF hx hy h q
  unfold fPow at h
  split at h
  · split at h
    · rename_i hz
      cases h
      simp only [Bool.and_eq_true, decide_eq_true_eq] at hz
      cases sh_int hx
      cases sh_int hy
      exact ⟨_, _, rfl, rfl, ⟨hz.1.1, by omega, by omega⟩, nw_int q⟩
    · cases h
  · cases h
theorem s_lt : Op2 K (rI0 fun i j => .bl (decide (i < j))) fLt := by
  intro F H x y d e z Q sF hx hy h q
  unfold fLt at h
  split at h
  · cases h
    cases sh_int hx
    cases sh_int hy
    exact ⟨_, _, rfl, rfl, nw_bool q⟩
  · cases h
theorem s_gt : Op2 K (rI0 fun i j => .bl (decide (j < i))) fGt := by
  intro F H x y d e z Q sF hx hy h q
  unfold fGt at h
  split at h
  · cases h
    cases sh_int hx
    cases sh_int hy
    exact ⟨_, _, rfl, rfl, nw_bool q⟩
  · cases h
theorem s_ge : Op2 K (rI0 fun i j => .bl (decide (j ≤ i))) fGe := by
  intro F H x y d e z Q sF hx hy h q
  unfold fGe at h
  split at h
  · cases h
    cases sh_int hx
    cases sh_int hy
    exact ⟨_, _, rfl, rfl, nw_bool q⟩
  · cases h
def rLe2 (K : PySem.W.Frag) : R2 := fun x y H Q => rI0 (fun i j => .bl (decide (i ≤ j))) x y H Q ∨ rLeT K x y H Q
theorem o_le (hu : X.A.units < cLine) : OpR X (compareOp .LtE) (rLe2 X.K) := op_le.or (op_leT hu)
theorem s_le : Op2 K (rLe2 K) fLe := by
  intro F H x y d e z Q sF hx hy h q
  unfold fLe at h
  split at h
  · cases h
    cases sh_int hx
    cases sh_int hy
    exact .inl ⟨_, _, rfl, rfl, nw_bool q⟩
  · split at h
    · rename_i ns ms e1 e2
      cases h
      obtain ⟨p, xs, rfl, t1, a1⟩ := hx
      obtain ⟨p2, ys, rfl, t2, a2⟩ := hy
      rw [ints_of a1 e1] at t1
      rw [ints_of a2 e2] at t2
      exact .inr ⟨p, p2, ns, ms, rfl, rfl, .of (sF _ _ t1), .of (sF _ _ t2), nw_bool q⟩
    · cases h
  · cases h
theorem s_eq : Op2 K (rEqD K) fEq := by
  intro F H x y d e z Q sF hx hy h q
  unfold fEq at h
  split at h
  · rename_i hz
    cases h
    rw [Bool.and_eq_true] at hz
    exact ⟨d, e, hx.dp sF hz.1, hy.dp sF hz.2, hz.1, hz.2, nw_bool q⟩
  · cases h
theorem s_ne : Op2 K (rNeD K) fNe := by
  intro F H x y d e z Q sF hx hy h q
  unfold fNe at h
  split at h
  · rename_i hz
    cases h
    rw [Bool.and_eq_true] at hz
    exact ⟨d, e, hx.dp sF hz.1, hy.dp sF hz.2, hz.1, hz.2, nw_bool q⟩
  · cases h
theorem isNo_of {F H : Hp} {x : V} : ∀ {d : D}, Sh K F H x d → decide (x = .non) = isNo d
  | .none, h => by cases sh_non h; rfl
  | .bool b, h => by cases sh_bool h; rfl
  | .int _, h => by cases sh_int h; rfl
  | .str _, h => by cases sh_str h; rfl
  | .list _, h => by obtain ⟨p, xs, rfl, _⟩ := h; rfl
  | .tuple _, h => by obtain ⟨p, xs, rfl, _⟩ := h; rfl
  | .dict _, h => by cases (show Rp K F x (.dict _) from h) <;> rfl
theorem s_isN : Op2 K (fun x y H Q => y = .non ∧ Q (.bl (decide (x = .non))) H) fIsN := by
  intro F H x y d e z Q sF hx hy h q
  unfold fIsN at h
  split at h
  · cases h
    exact ⟨sh_non hy, by rw [isNo_of hx]; exact nw_bool q⟩
  · cases h
theorem s_ix : Op2 K (rIx K) fIx := by
  intro F H x y d e z Q sF hx hy h q
  unfold fIx at h
  split at h
  · split at h
    · rename_i d ed
      cases h
      obtain ⟨p, xs, rfl, e1, a1⟩ := hx
      cases sh_int hy
      obtain ⟨v, hv, rv⟩ := rpa_atI a1 ed
      exact .inl ⟨p, xs, _, v, rfl, rfl, .of e1, hv, q v rv⟩
    · cases h
  · split at h
    · rename_i d ed
      cases h
      obtain ⟨p, xs, rfl, e1, a1⟩ := hx
      cases sh_int hy
      obtain ⟨v, hv, rv⟩ := rpa_atI a1 ed
      exact .inr (.inl ⟨p, xs, _, v, rfl, rfl, .of (sF _ _ e1), hv, q v rv⟩)
    · cases h
  · split at h
    · rename_i hz
      split at h
      · rename_i c ec
        cases h
        exact .inr (.inr ⟨_, _, c, sh_str hx, sh_int hy, sizeOk_le hz, ec, nw_str q⟩)
      · cases h
    · cases h
  · cases h
theorem s_neg : Op1 K (rU fun i => .int (-i)) fNeg := by
  intro F H x d z Q sF hx h q
  unfold fNeg at h
  split at h
  · cases h
    exact ⟨_, sh_int hx, nw_int q⟩
  · cases h
theorem s_len : OpN K (fun xs H Q => (∃ p ys, xs = [.ref p] ∧ (SqL K H p ys ∨ SqT K H p ys) ∧ Q (.int ys.length) H) ∨ ∃ z, xs = [.str z] ∧ z.length ≤ sizeLine ∧ Q (.int z.length) H) fLen := by
  intro F H xs ds z Q sF hx h q
  unfold fLen at h
  split at h
  · cases h
    cases hx with
    | cons a b =>
      cases b
      obtain ⟨p, xs, rfl, e1, a1⟩ := a
      exact .inl ⟨p, xs, rfl, .inl (.of e1), by rw [a1.length]; exact nw_int q⟩
  · cases h
    cases hx with
    | cons a b =>
      cases b
      obtain ⟨p, xs, rfl, e1, a1⟩ := a
      exact .inl ⟨p, xs, rfl, .inr (.of (sF _ _ e1)), by rw [a1.length]; exact nw_int q⟩
  · split at h
    · rename_i hz
      cases h
      cases hx with
      | cons a b =>
        cases b
        exact .inr ⟨_, by rw [sh_str a], sizeOk_le hz, nw_int q⟩
    · cases h
  · cases h
theorem s_int : OpN K (fun xs H Q => (∃ i, xs = [.int i] ∧ Q (.int i) H) ∨ ∃ k, xs = [.bl k] ∧ Q (.int (if k then 1 else 0)) H) fInt := by
  intro F H xs ds z Q sF hx h q
  unfold fInt at h
  split at h
  · cases h
    cases hx with
    | cons a b =>
      cases b
      cases sh_int a
      exact .inl ⟨_, rfl, nw_int q⟩
  · cases h
    cases hx with
    | cons a b =>
      cases b
      cases sh_bool a
      exact .inr ⟨_, rfl, nw_int q⟩
  · cases h
theorem s_sum : OpN K (rSum K) fSum := by
  intro F H xs ds z Q sF hx h q
  unfold fSum at h
  split at h
  · split at h
    · rename_i ns en
      cases h
      cases hx with
      | cons a b =>
        cases b
        obtain ⟨p, xs, rfl, e1, a1⟩ := a
        rw [ints_of a1 en] at e1
        exact ⟨p, ns, rfl, .of e1, nw_int q⟩
    · cases h
  · cases h
theorem s_list : OpN K (fun xs H Q => ∃ p ys, xs = [.ref p] ∧ (SqL K H p ys ∨ SqT K H p ys) ∧ ∀ l, H l = none → Q (.ref l) (upd H l (.lst ys))) fList := by
  intro F H xs ds z Q sF hx h q
  unfold fList at h
  split at h
  · cases h
    cases hx with
    | cons a b =>
      cases b
      obtain ⟨p, xs, rfl, e1, a1⟩ := a
      exact ⟨p, xs, rfl, .inl (.of e1), fun r nr => q r _ nr a1⟩
  · cases h
    cases hx with
    | cons a b =>
      cases b
      obtain ⟨p, xs, rfl, e1, a1⟩ := a
      exact ⟨p, xs, rfl, .inr (.of (sF _ _ e1)), fun r nr => q r _ nr a1⟩
  · cases h
end
end FX
set_option Elab.async false
set_option linter.all false
set_option maxRecDepth 100000
set_option maxHeartbeats 4000000
namespace Cmb
open PySem PySem.Spec
open Sem (wp)
theorem mro_c : mroOf (.type "itertools.combinations") = pure [.type "itertools.combinations", .type "object"] := by rw [mroOf_type]; kernel_rfl
theorem lookup_c_new : typeLookup (.type "itertools.combinations") "__new__" = pure (some (.builtin "itertools.combinations.__new__")) := by rw [typeLookup_type, builtinLookup_eq_fast]; kernel_rfl
theorem slot_c_init : Slot "itertools.combinations" "__init__" "object.__init__" :=
  .of (owner := "object") (n := "__init__") (by rw [typeLookup_type, builtinLookup_eq_fast]; kernel_rfl) (by decide +kernel) (by decide +kernel) (by decide +kernel)
    (by first | exact .inl (by decide +kernel) | exact .inr (by decide +kernel)) (by rw [isSubtype_type]; kernel_rfl)
theorem sub_c : isSubtype (.type "itertools.combinations") (.type "itertools.combinations") = pure true := by rw [isSubtype_type]; kernel_rfl
theorem called_c : TypeCalled "itertools.combinations" "itertools.combinations.__new__" "object.__init__" :=
  ⟨by decide +kernel, by decide +kernel, ⟨_, _, mro_c⟩, madeBy_type mro_c lookup_c_new (by decide +kernel), by decide +kernel, sub_c, slot_c_init⟩
theorem typeCall_c (a b : Value) : checkTypeCall "itertools.combinations" ⟨[a, b], []⟩ = pure () := by kernel_rfl
theorem newCall_c (a b : Value) : checkBuiltinCall "itertools.combinations.__new__" ⟨[.type "itertools.combinations", a, b], []⟩ = pure () := by kernel_rfl
theorem entry_c_new : entryFor table "itertools.combinations.__new__" = some Builtin.«itertools.combinations.__new__» := entryFor_of_tree (by kernel_rfl)
theorem plain_c_new : plainId "itertools.combinations.__new__" = true := by decide +kernel
theorem slot_c_iter : Slot "itertools.combinations" "__iter__" "itertools.combinations.__iter__" :=
  .of (owner := "itertools.combinations") (n := "__iter__") (by rw [typeLookup_type, builtinLookup_eq_fast]; kernel_rfl) (by decide +kernel) (by decide +kernel) (by decide +kernel)
    (by first | exact .inl (by decide +kernel) | exact .inr (by decide +kernel)) sub_c
theorem slot_c_next : Slot "itertools.combinations" "__next__" "itertools.combinations.__next__" :=
  .of (owner := "itertools.combinations") (n := "__next__") (by rw [typeLookup_type, builtinLookup_eq_fast]; kernel_rfl) (by decide +kernel) (by decide +kernel) (by decide +kernel)
    (by first | exact .inl (by decide +kernel) | exact .inr (by decide +kernel)) sub_c
theorem entry_c_iter : entryFor table "itertools.combinations.__iter__" = some Builtin.«dict_keyiterator.__iter__» :=
  entryFor_alias (id' := "dict_keyiterator.__iter__") (by kernel_rfl) (by first | rfl | decide +kernel | (unfold String.splitOn; simp +decide [String.splitOnAux])) (by decide +kernel) (by kernel_rfl)
theorem entry_c_next : entryFor table "itertools.combinations.__next__" = some Builtin.«itertools.combinations.__next__» := entryFor_of_tree (by kernel_rfl)
theorem owner_c : Manifest.owners.lookup (String.ofList ['s','n','o','i','t','a','n','i','b','m','o','c','.','s','l','o','o','t','r','e','t','i'].reverse) = some Manifest.sig_itertools_combinations := by kernel_rfl
theorem args_c_iter (a : Value) : argsOk "itertools.combinations.__iter__" ⟨[a], []⟩ := by
  unfold argsOk; rw [signature?_of (id := "itertools.combinations.__iter__") (n := ['_', '_', 'r', 'e', 't', 'i', '_', '_']) (o := ['s','n','o','i','t','a','n','i','b','m','o','c','.','s','l','o','o','t','r','e','t','i']) (by kernel_rfl) owner_c]; kernel_rfl
theorem args_c_next (a : Value) : argsOk "itertools.combinations.__next__" ⟨[a], []⟩ := by
  unfold argsOk; rw [signature?_of (id := "itertools.combinations.__next__") (n := ['_', '_', 't', 'x', 'e', 'n', '_', '_']) (o := ['s','n','o','i','t','a','n','i','b','m','o','c','.','s','l','o','o','t','r','e','t','i']) (by kernel_rfl) owner_c]; kernel_rfl
theorem noDict_c : typeHasDict (.type "itertools.combinations") = false := by decide +kernel
def nextC (n : Nat) (ix : List Nat) : Option (List Nat) :=
  let r := ix.length
  match (List.range r).reverse.find? fun i => ix.getD i 0 != i + n - r with
  | none => none
  | some i => some (ix.take i ++ (List.range (r - i)).map (ix.getD i 0 + 1 + ·))
theorem next_eq (args : Args) : Builtin.«itertools.combinations.__next__» args = (do
  let (self, _) ← slotArgs "__next__" 0 args
  let pool ← field self 0
  let indices ← Builtin.Itertools.itNumbersFrom self 3
  let handOut (indices : List Nat) : Sem Fin := do
    let result ← (do
      let items ← Builtin.Itertools.itPoolItems pool
      newTuple (indices.map fun i => items.getD i .none))
    let before ← field self 2
    setField self 2 result
    letGo [before] [result]
    ret result
  match ← Builtin.Itertools.itIntField self 1 with
  | 0 => setField self 1 (rawInt 1); handOut indices
  | 1 =>
    match nextC (← Builtin.Itertools.itPoolItems pool).size indices with
    | some next => Builtin.Itertools.itSetNumbersFrom self 3 next; handOut next
    | none => setField self 1 (rawInt 2); Builtin.Itertools.itStop
  | _ => rule "itertools.combinations.ended"; Builtin.Itertools.itStop) := rfl
end Cmb
set_option Elab.async false
set_option linter.all false
set_option maxRecDepth 100000
set_option maxHeartbeats 4000000
namespace Cmb
open PySem PySem.Spec
open Sem (wp)
def flds (pool : Addr) (st : Int) (last : Value) (ix : List Nat) : Array Value := ([.ref pool, rawInt st, last] ++ ix.map fun (i : Nat) => rawInt i).toArray
abbrev IsC (h : Heap) (it pool : Addr) (st : Int) (last : Value) (ix : List Nat) : Prop := h.get? it = some { cls := .type "itertools.combinations", dict := none, data := .fields (flds pool st last ix), slots := #[] }
abbrev IsP (h : Heap) (pool : Addr) (items : Array Value) : Prop := h.get? pool = some { cls := .type "tuple", data := .seq items }
def pickV (items : Array Value) (ix : List Nat) : List Value := ix.map fun i => items.getD i .none
section
variable {M : Model} {A : Around} {E : Value → Shared → Prop} {s : Shared} {it pool : Addr} {st : Int} {last : Value} {ix ix' : List Nat} {items : Array Value}
theorem fl0 : (flds pool st last ix)[0]? = some (.ref pool) := by simp [flds]
theorem fl1 : (flds pool st last ix)[1]? = some (rawInt st) := by simp [flds]
theorem fl2 : (flds pool st last ix)[2]? = some last := by simp [flds]
theorem fsz : 3 ≤ (flds pool st last ix).size := by simp [flds]
theorem numbers_ok {Q : List Nat → Shared → Prop} (h : IsC s.heap it pool st last ix) (q : Q ix s) : wpAny M A (Builtin.Itertools.itNumbersFrom (.ref it) 3) Q E s := by
  unfold Builtin.Itertools.itNumbersFrom
  refine wpAny_bind (wpAny_load h ?_)
  refine wpAny_pure ?_
  refine (congrArg (fun l => Q l s) (?_ : _ = ix)).mpr q
  simp only [flds, List.cons_append, List.nil_append, List.drop_succ_cons, List.drop_zero, List.map_map]
  conv => rhs; rw [← List.map_id ix]
  apply List.map_congr_left
  intro a _
  show Int.toNat (a : Int) = a
  simp
theorem pool_ok {Q : Array Value → Shared → Prop} (h : IsP s.heap pool items) (q : Q items s) : wpAny M A (Builtin.Itertools.itPoolItems (.ref pool)) Q E s := by
  unfold Builtin.Itertools.itPoolItems
  exact wpAny_bind (wpAny_seqItems h rfl (wpAny_pure q))
theorem intf_ok {Q : Int → Shared → Prop} (h : IsC s.heap it pool st last ix) (q : Q st s) : wpAny M A (Builtin.Itertools.itIntField (.ref it) 1) Q E s := by
  unfold Builtin.Itertools.itIntField
  exact wpAny_bind (wpAny_field h rfl fl1 (wpAny_pure q))
theorem setSt {h : Heap} (hc : IsC h it pool st last ix) (st' : Int) : IsC (h.update it (Obj.mapFields (·.setIfInBounds 1 (rawInt st')))) it pool st' last ix := by
  have e := Heap.get?_update_self (Obj.mapFields (·.setIfInBounds 1 (rawInt st'))) hc rfl
  refine e.trans ?_
  simp [Obj.mapFields, flds, List.setIfInBounds_toArray]
theorem setLast {h : Heap} (hc : IsC h it pool st last ix) (l' : Value) : IsC (h.update it (Obj.mapFields (·.setIfInBounds 2 l'))) it pool st l' ix := by
  have e := Heap.get?_update_self (Obj.mapFields (·.setIfInBounds 2 l')) hc rfl
  refine e.trans ?_
  simp [Obj.mapFields, flds, List.setIfInBounds_toArray]
theorem setIx {h : Heap} (hc : IsC h it pool st last ix) (ix' : List Nat) : IsC (h.update it (Obj.mapFields fun fs => fs.extract 0 3 ++ (ix'.map fun (n : Nat) => rawInt n).toArray)) it pool st last ix' := by
  have e := Heap.get?_update_self (Obj.mapFields fun fs => fs.extract 0 3 ++ (ix'.map fun (n : Nat) => rawInt n).toArray) hc rfl
  refine e.trans ?_
  simp [Obj.mapFields, flds]
theorem hand_ok {Q : Value → Shared → Prop} (hc : IsC s.heap it pool st last ix) (hp : IsP s.heap pool items) (js : List Nat) (hj : js.length ≤ 1000)
    (q : ∀ h', IsC h' it pool st (.ref s.heap.objs.size) ix → h'.get? s.heap.objs.size = some { cls := .type "tuple", data := .seq (pickV items js).toArray } → h'.objs.size = s.heap.objs.size + 1 → (∀ b o, b ≠ it → s.heap.get? b = some o → h'.get? b = some o) → Q (.ref s.heap.objs.size) { s with heap := h' }) :
    wpAny M A (do
      let result ← (do
        let items ← Builtin.Itertools.itPoolItems (.ref pool)
        newTuple (js.map fun i => items.getD i .none))
      let before ← field (.ref it) 2
      setField (.ref it) 2 result
      letGo [before] [result]
      ret result) (fun fin s' => ∃ v, fin = .done (.ret v) ∧ Q v s') E s := by
  refine wpAny_bind (wpAny_bind (pool_ok hp (wpAny_newTuple ?_ (by rw [List.length_map]; exact Nat.le_trans hj (by decide)))))
  have hc1 : IsC (s.heap.push { cls := .type "tuple", data := .seq (pickV items js).toArray }) it pool st last ix := Heap.get?_push_of_some _ hc
  refine wpAny_bind (wpAny_field hc1 rfl fl2 ?_)
  refine wpAny_bind (wpAny_setField hc1 rfl fsz ?_)
  refine wpAny_bind (wpAny_letGo ?_)
  refine wpAny_pure ⟨_, rfl, ?_⟩
  have hlt : it < s.heap.objs.size := Heap.lt_size hc
  refine q _ (setLast hc1 _) ?_ ?_ fun b o hb e => ?_
  · rw [Heap.get?_update_other _ _ (Nat.ne_of_lt hlt)]
    exact Heap.get?_push_size _ rfl
  · rw [Heap.size_update, Heap.size_push]
  · rw [Heap.get?_update_other _ _ (Ne.symm hb)]
    exact Heap.get?_push_of_some _ e
end
section
variable {prog : Program} {w : World} {A : Around} {E : Value → Shared → Prop} {s : Shared} {it pool : Addr} {st : Int} {last : Value} {ix ix' : List Nat} {items : Array Value}
theorem next_first {Q : Option Value → Shared → Prop} (hc : IsC s.heap it pool 0 last ix) (hp : IsP s.heap pool items) (hpi : pool ≠ it) (hj : ix.length ≤ 1000)
    (q : ∀ h', IsC h' it pool 1 (.ref s.heap.objs.size) ix → h'.get? s.heap.objs.size = some { cls := .type "tuple", data := .seq (pickV items ix).toArray } → h'.objs.size = s.heap.objs.size + 1 → (∀ b o, b ≠ it → s.heap.get? b = some o → h'.get? b = some o) → Q (some (.ref s.heap.objs.size)) { s with heap := h' }) :
    wpAny (model prog w) A (pyNext (.ref it)) Q E s := by
  have hT : s.TypeIs (.ref it) "itertools.combinations" := ⟨_, hc, rfl⟩
  unfold pyNext
  refine wpAny_bind (wpAny_attempt (wpAny_callSpecial?_slot (name := Str.ofString "__next__") hT slot_c_next (wpAny_call_entry slot_c_next hT entry_c_next ?_ (args_c_next _))))
  rw [next_eq]
  show wpAny _ _ (field (.ref it) 0 >>= _) _ _ s
  refine wpAny_bind (wpAny_field hc rfl fl0 ?_)
  refine wpAny_bind (numbers_ok hc ?_)
  refine wpAny_bind (intf_ok hc ?_)
  show wpAny _ _ (setField (.ref it) 1 (rawInt 1) >>= _) _ _ s
  refine wpAny_bind (wpAny_setField hc rfl (Nat.lt_of_lt_of_le (by decide) fsz) ?_)
  have hsz : (s.heap.update it (Obj.mapFields (·.setIfInBounds 1 (rawInt 1)))).objs.size = s.heap.objs.size := Heap.size_update ..
  refine hand_ok (setSt hc 1) (items := items) ?_ ix hj fun h' a b c d => ?_
  · show (s.heap.update it _).get? pool = _
    rw [Heap.get?_update_other _ _ (Ne.symm hpi)]; exact hp
  · simp only [hsz] at a b c d ⊢
    exact wpAny_pure (q h' a b c fun b' o hb e => d b' o hb (by rw [Heap.get?_update_other _ _ (Ne.symm hb)]; exact e))
theorem next_more {Q : Option Value → Shared → Prop} (hc : IsC s.heap it pool 1 last ix) (hp : IsP s.heap pool items) (hpi : pool ≠ it) (hn : nextC items.size ix = some ix') (hj : ix'.length ≤ 1000)
    (q : ∀ h', IsC h' it pool 1 (.ref s.heap.objs.size) ix' → h'.get? s.heap.objs.size = some { cls := .type "tuple", data := .seq (pickV items ix').toArray } → h'.objs.size = s.heap.objs.size + 1 → (∀ b o, b ≠ it → s.heap.get? b = some o → h'.get? b = some o) → Q (some (.ref s.heap.objs.size)) { s with heap := h' }) :
    wpAny (model prog w) A (pyNext (.ref it)) Q E s := by
  have hT : s.TypeIs (.ref it) "itertools.combinations" := ⟨_, hc, rfl⟩
  unfold pyNext
  refine wpAny_bind (wpAny_attempt (wpAny_callSpecial?_slot (name := Str.ofString "__next__") hT slot_c_next (wpAny_call_entry slot_c_next hT entry_c_next ?_ (args_c_next _))))
  rw [next_eq]
  show wpAny _ _ (field (.ref it) 0 >>= _) _ _ s
  refine wpAny_bind (wpAny_field hc rfl fl0 ?_)
  refine wpAny_bind (numbers_ok hc ?_)
  refine wpAny_bind (intf_ok hc ?_)
  show wpAny _ _ (Builtin.Itertools.itPoolItems (.ref pool) >>= _) _ _ s
  refine wpAny_bind (pool_ok hp ?_)
  rw [hn]
  show wpAny _ _ (Builtin.Itertools.itSetNumbersFrom (.ref it) 3 ix' >>= _) _ _ s
  refine wpAny_bind ?_
  unfold Builtin.Itertools.itSetNumbersFrom
  refine wpAny_updateFields hc rfl ?_ ?_
  · have hsz : (s.heap.update it (Obj.mapFields fun fs => fs.extract 0 3 ++ (ix'.map fun (n : Nat) => rawInt n).toArray)).objs.size = s.heap.objs.size := Heap.size_update ..
    refine hand_ok (setIx hc ix') (items := items) ?_ ix' hj fun h' a b c d => ?_
    · show (s.heap.update it _).get? pool = _
      rw [Heap.get?_update_other _ _ (Ne.symm hpi)]; exact hp
    · simp only [hsz] at a b c d ⊢
      exact wpAny_pure (q h' a b c fun b' o hb e => d b' o hb (by rw [Heap.get?_update_other _ _ (Ne.symm hb)]; exact e))
  · simp [flds]
    exact Nat.le_trans hj (by decide)
theorem next_end {Q : Option Value → Shared → Prop} (hh : A.handled = none) (hc : IsC s.heap it pool 1 last ix) (hp : IsP s.heap pool items) (hn : nextC items.size ix = none)
    (q : ∀ h', Heap.ExtBut it s.heap h' → Q none { s with heap := h' }) : wpAny (model prog w) A (pyNext (.ref it)) Q E s := by
  have hT : s.TypeIs (.ref it) "itertools.combinations" := ⟨_, hc, rfl⟩
  unfold pyNext
  refine wpAny_bind (wpAny_attempt (wpAny_callSpecial?_slot (name := Str.ofString "__next__") hT slot_c_next (wpAny_call_entry slot_c_next hT entry_c_next ?_ (args_c_next _))))
  rw [next_eq]
  show wpAny _ _ (field (.ref it) 0 >>= _) _ _ s
  refine wpAny_bind (wpAny_field hc rfl fl0 ?_)
  refine wpAny_bind (numbers_ok hc ?_)
  refine wpAny_bind (intf_ok hc ?_)
  show wpAny _ _ (Builtin.Itertools.itPoolItems (.ref pool) >>= _) _ _ s
  refine wpAny_bind (pool_ok hp ?_)
  rw [hn]
  show wpAny _ _ (setField (.ref it) 1 (rawInt 2) >>= _) _ _ s
  refine wpAny_bind (wpAny_setField hc rfl (Nat.lt_of_lt_of_le (by decide) fsz) ?_)
  show wpAny _ _ (newExc (.type "StopIteration") [] >>= _) _ _ _
  refine wpAny_bind ?_
  simp only [newExc, newTuple]
  refine wpAny_bind (wpAny_newObj_type ?_ (by size_fits))
  refine wpAny_bind (m := firstArgMember _ _) (wpAny_of_eq (a := Value.none) (by first | rfl | (simp only [firstArgMember]; rfl)) ?_)
  refine wpAny_newObj_type ?_ (by size_fits)
  simp only [raiseNew]
  refine wpAny_bind (wpAny_handled ?_)
  first | rw [show A.in1.handled = none from hh] | rw [hh]
  refine wpAny_bind (wpAny_pure (wpAny_throw ?_))
  refine wpAny_bind (wpAny_isInstance (T := "StopIteration") (b := true) ⟨_, Heap.get?_push_size _ rfl, rfl⟩ isSubtype_stop ?_)
  exact wpAny_pure (q _ (((Heap.SameBut.update ..).extBut.push _).push _))
theorem iter_self {Q : Value → Shared → Prop} (hc : IsC s.heap it pool st last ix) (h : Q (.ref it) s) : wpAny (model prog w) A (pyIter (.ref it)) Q E s := by
  have hT : s.TypeIs (.ref it) "itertools.combinations" := ⟨_, hc, rfl⟩
  refine wpAny_pyIter_slot hT slot_c_iter (wpAny_call_entry slot_c_iter hT entry_c_iter ?_ (args_c_iter _))
  show wpAny _ _ (ret (.ref it)) _ _ s
  exact wpAny_pure ⟨_, rfl, "itertools.combinations", _, hT, slot_c_next.lookup, h⟩
end
end Cmb
set_option Elab.async false
set_option linter.all false
set_option maxRecDepth 100000
set_option maxHeartbeats 4000000
namespace Cmb
open PySem PySem.Spec
open Sem (wp)
abbrev newH (h : Heap) (acc : Array Value) (k : Nat) : Heap := (h.push { cls := .type "tuple", data := .seq acc }).push { cls := .type "itertools.combinations", data := .fields (flds h.objs.size 0 .none (List.range k)) }
section
variable {prog : Program} {w : World} {A : Around} {E : Value → Shared → Prop} {s : Shared} {r : Addr} {a b c : Int} {t u v tk : Tok} {n : Nat} {k : Int}
theorem code_new {Q₁ : Value → Shared → Prop} (hh : A.handled = none) (hr : IsRange s.heap r a b c t u v) (hsmall : Builtin.Range.small a b c = true) (hn : Builtin.Range.rangeSize a b c = n) (hlen : n ≤ 1000) (hk0 : 0 ≤ k) (hk : k ≤ n)
    (h : ∀ (h' : Heap) (tk : Nat) (acc : Array Value), (∀ b o, s.heap.get? b = some o → h'.get? b = some o) → ItemsOf (fun i v => ∃ t, v = .int (a + i * c) t) acc n → Q₁ (.ref (h'.objs.size + 1)) { s with heap := newH h' acc k.toNat, toks := tk }) :
    codeAny (model prog w) A (.call (.builtin "itertools.combinations.__new__") ⟨[.type "itertools.combinations", .ref r, .int k tk], []⟩) (wants Q₁ E) s := by
  refine codeAny_of_tree ?_
  show wpAny _ A.in1 (do checkBuiltinCall "itertools.combinations.__new__" ⟨[.type "itertools.combinations", .ref r, .int k tk], []⟩; again (.builtin "itertools.combinations.__new__" ⟨[.type "itertools.combinations", .ref r, .int k tk], []⟩)) _ _ s
  refine wpAny_bind (wpAny_of_eq (newCall_c _ _) (wpAny_pure ⟨plainId_quiet plain_c_new _, codeAny_builtin entry_c_new ?_⟩))
  rw [Around.under_plainId plain_c_new _]
  have hsub := sub_c
  have hsub2 : isSubtype (.type "itertools.combinations") (.type ("itertools." ++ "combinations")) = pure true := by rw [show ("itertools." ++ "combinations") = "itertools.combinations" from by decide]; exact sub_c
  have hd := noDict_c
  have hTI : s.TypeIs (.ref r) "range" := ⟨_, hr, rfl⟩
  have hh1 : A.in1.handled = none := hh
  have e1 : (decide (k < -(2 ^ 63 : Int)) || decide (k ≥ 2 ^ 63)) = false := by
    rw [decide_eq_false (by omega), decide_eq_false (by omega)]; rfl
  have e3 : Builtin.Itertools.itTooMany k = false := by
    unfold Builtin.Itertools.itTooMany
    exact decide_eq_false (by omega)
  wp_walk using wpAny_typeOf hTI
  rw [if_neg (by rw [e1]; exact Bool.false_ne_true)]
  refine wpAny_pure ?_
  show wpAny _ _ (collect (.ref r) >>= _) _ _ _
  refine wpAny_bind (L2.collect_range (A := A.in1) hh1 hr hsmall hn (Nat.le_trans hlen (by decide)) fun h' tk' acc hk' hacc => ?_)
  have e4 : ¬ k < 0 := by omega
  have e5 : ¬ (Builtin.Itertools.itTooMany k = true) := by rw [e3]; exact Bool.false_ne_true
  rw [if_neg e4, if_neg e5]
  have hsz : acc.toList.length = n := by rw [Array.length_toList]; exact hacc.1
  refine wpAny_bind (wpAny_newTuple ?_ (by rw [hsz]; exact Nat.le_trans hlen (by decide)))
  refine wpAny_pure ?_
  show wpAny _ _ (Builtin.Itertools.itNewRecord (.type "itertools.combinations") _ >>= fun v => ret v) _ _ _
  refine wpAny_bind ?_
  unfold Builtin.Itertools.itNewRecord
  rw [hd]
  have e6 : ¬ (k.toNat > acc.toList.length) := by rw [hsz]; omega
  rw [if_neg e6]
  rw [if_pos (show (!false) = true from rfl)]
  refine wpAny_newObj_type ?_ ?_
  · refine wpAny_pure ?_
    have hq := h h' tk' acc hk' hacc
    have e7 : acc.toList.toArray = acc := by simp
    have e8 : (h'.push { cls := .type "tuple", data := .seq acc }).objs.size = h'.objs.size + 1 := Heap.size_push ..
    simp only [e7, e8]
    exact hq
  · show _ ≤ _
    simp
    exact Nat.le_trans (show k.toNat + 1 ≤ 1001 by omega) (by decide)
end
end Cmb
set_option Elab.async false
set_option linter.all false
set_option maxRecDepth 100000
set_option maxHeartbeats 4000000
namespace Cmb
open PySem PySem.Spec PyProof.Rows
theorem call_comb {prog : Program} {w : World} {A : Around} {E : Value → Shared → Prop} {s : Shared} {r : Addr} {a b c : Int} {t u v tk : Tok} {n : Nat} {k : Int} {Q : Value → Shared → Prop} (hh : A.handled = none) (hr : IsRange s.heap r a b c t u v)
    (hsmall : Builtin.Range.small a b c = true) (hn : Builtin.Range.rangeSize a b c = n) (hlen : n ≤ 1000) (hk0 : 0 ≤ k) (hk : k ≤ n)
    (h : ∀ (h' : Heap) (tk : Nat) (acc : Array Value), (∀ b o, s.heap.get? b = some o → h'.get? b = some o) → ItemsOf (fun i v => ∃ t, v = .int (a + i * c) t) acc n → Q (.ref (h'.objs.size + 1)) { s with heap := newH h' acc k.toNat, toks := tk }) :
    wpAny (model prog w) A (call (.type "itertools.combinations") [.ref r, .int k tk]) Q E s := by
  refine callType_codes (Q₁ := fun obj s₁ => s₁.TypeIs obj "itertools.combinations" ∧ Q obj s₁) called_c (typeCall_c _ _) F.entry_object_init
    (code_new (A := A.in1) hh hr hsmall hn hlen hk0 hk fun h' tk acc hk' hacc => ⟨?_, h h' tk acc hk' hacc⟩) fun obj s₁ h₁ => ?_
  · refine ⟨{ cls := .type "itertools.combinations", data := .fields (flds h'.objs.size 0 .none (List.range k.toNat)) }, ?_, rfl⟩
    have e : (h'.push { cls := .type "tuple", data := .seq acc }).objs.size = h'.objs.size + 1 := Heap.size_push ..
    show (newH h' acc k.toNat).get? (h'.objs.size + 1) = some _
    rw [← e]
    exact Heap.get?_push_size _ rfl
  · exact ⟨h₁.1, F.args_object_init_3 obj _ _, object_init_meets called_c.init.lookup called_c.made (by decide) prog w A.in1 _ s₁ ⟨h₁.1, rfl, h₁.2⟩⟩
def okC (n k : Nat) (L : List (List Nat)) : Bool := decide (L[0]? = some (List.range k)) && (List.range L.length).all (fun i => decide (nextC n (L.getD i []) = L[i + 1]?)) && L.all (fun c => c.all (fun j => decide (j < n)) && decide (c.length ≤ 1000))
theorem okC_of {n k : Nat} {L : List (List Nat)} (h : okC n k L = true) : L[0]? = some (List.range k) ∧ (∀ i, i < L.length → nextC n (L.getD i []) = L[i + 1]?) ∧ ∀ c ∈ L, (∀ j ∈ c, j < n) ∧ c.length ≤ 1000 := by
  unfold okC at h
  simp only [Bool.and_eq_true, decide_eq_true_eq, List.all_eq_true, List.mem_range] at h
  exact ⟨h.1.1, h.1.2, h.2⟩
open L2
def Itc (lo : Int) (L : List (List Nat)) : It := ⟨fun i _ => i < L.length, fun i H x H' => ∃ T c, L[i]? = some c ∧ x = .ref T ∧ H T = none ∧ H' = upd H T (.tup (c.map fun (k : Nat) => V.int (lo + k))), fun i _ => L.length ≤ i⟩
theorem vals_pick {lo : Int} {n : Nat} {acc : Array Value} (hacc : ItemsOf (fun i v => ∃ t, v = Value.int (lo + i * 1) t) acc n) : ∀ {c : List Nat}, (∀ j ∈ c, j < n) → Vals (c.map fun (k : Nat) => V.int (lo + k)) (pickV acc c)
  | [], _ => .nil
  | j :: c, h => by
    refine .cons ?_ (vals_pick hacc fun i hi => h i (List.mem_cons_of_mem _ hi))
    have hj : j < n := h j List.mem_cons_self
    obtain ⟨hsz, hit⟩ := hacc
    have hjs : j < acc.size := by rw [hsz]; exact hj
    obtain ⟨t, e⟩ := hit j acc[j] (Array.getElem?_eq_getElem hjs)
    refine ⟨t, ?_⟩
    show acc.getD j .none = _
    rw [Array.getD_eq_getD_getElem?, Array.getElem?_eq_getElem hjs]
    show acc[j] = _
    rw [e, Int.mul_one]
theorem turn_comb {P : Program} {w : World} {K : PySem.W.Frag} {tg : Expr} (it pool : Addr) (lo : Int) (n k : Nat) (L : List (List Nat)) (hL : okC n k L = true) :
    Turn P w K tg (Itc lo L) [it, pool] it (fun i h => pool ≠ it ∧ i ≤ L.length ∧ (∃ acc, IsP h pool acc ∧ ItemsOf (fun i v => ∃ t, v = Value.int (lo + i * 1) t) acc n) ∧ ∃ last, IsC h it pool (if i = 0 then 0 else 1) last (L.getD (i - 1) [])) where
  mem := by simp
  obj := fun i h st b hb => by
    obtain ⟨_, _, ⟨acc, hp, _⟩, last, hc⟩ := st
    have e' : b = it ∨ b = pool := by simpa using hb
    rcases e' with z | z
    · rw [z]; exact ⟨_, hc, fun v q => nomatch q⟩
    · rw [z]; exact ⟨_, hp, fun v q => nomatch q⟩
  keep := fun i h h' st kk => let ⟨a, b, ⟨acc, hp, hi⟩, last, hc⟩ := st; ⟨a, b, ⟨acc, kk pool (by simp) _ hp, hi⟩, last, kk it (by simp) _ hc⟩
  item := by
    intro X hP hw hK hc i pins s σ H E I hf st hg
    subst hP hw hK
    obtain ⟨l0, ln, lb⟩ := okC_of hL
    obtain ⟨hne, hle, ⟨acc, hp, hacc⟩, last, hcc⟩ := st
    have hi : i < L.length := hg
    have hgi : L[i]? = some L[i] := List.getElem?_eq_getElem hi
    obtain ⟨c1, c2⟩ := lb L[i] (List.getElem_mem hi)
    have hsz : acc.size = n := hacc.1
    have go : ∀ h', IsC h' it pool 1 (.ref s.heap.objs.size) L[i] → h'.get? s.heap.objs.size = some { cls := .type "tuple", data := .seq (pickV acc L[i]).toArray } → h'.objs.size = s.heap.objs.size + 1 → (∀ b o, b ≠ it → s.heap.get? b = some o → h'.get? b = some o) →
        ∃ u, (some (Value.ref s.heap.objs.size) : Option Value) = some u ∧ wpAny (model X.prog X.w) X.A (letOwnedTupleGo tg (.ref it) u) (fun _ s2 => ∃ x H', Inv X pins σ H' s2 ∧ RelV x u ∧ (Itc lo L).yld i H x H' ∧
          (fun i h => pool ≠ it ∧ i ≤ L.length ∧ (∃ acc, IsP h pool acc ∧ ItemsOf (fun i v => ∃ t, v = Value.int (lo + i * 1) t) acc n) ∧ ∃ last, IsC h it pool (if i = 0 then 0 else 1) last (L.getD (i - 1) [])) (i + 1) s2.heap ∧ ∀ b ∈ [it, pool], H' b = none) E { s with heap := h' } := fun h' a b c d => by
      have new : ObjOk X.prog X.w (upd H s.heap.objs.size (.tup (L[i].map fun (k : Nat) => V.int (lo + k)))) h' s.heap.objs.size (.tup (L[i].map fun (k : Nat) => V.int (lo + k))) :=
        ⟨by rw [List.length_map]; exact Nat.le_trans c2 (by decide), pickV acc L[i], vals_pick hacc c1, ⟨_, b, rfl, _, rfl⟩⟩
      have I1 : Inv X pins σ (upd H s.heap.objs.size (.tup (L[i].map fun (k : Nat) => V.int (lo + k)))) { s with heap := h', toks := s.toks } :=
        I.turnedNew (ch := [it]) (fun b ob hb q => d b ob (fun z => hb (by simp [z])) q) (fun b hb => hf b (by simp at hb; simp [hb])) (Nat.le_refl _) new
      refine ⟨_, rfl, go_of (s := { s with heap := h' }) a rfl rfl (by decide) ⟨.ref s.heap.objs.size, _, I1, rfl, ⟨_, _, hgi, rfl, I.hok.fresh (Nat.le_refl _), rfl⟩, ⟨hne, hi, ⟨acc, d pool _ hne hp, hacc⟩, .ref s.heap.objs.size, ?_⟩, fun b' hb' => ?_⟩⟩
      · show IsC h' it pool (if i + 1 = 0 then 0 else 1) _ (L.getD (i + 1 - 1) [])
        rw [if_neg (Nat.succ_ne_zero i), Nat.add_sub_cancel, List.getD_eq_getElem?_getD, hgi]
        exact a
      · have hlt : b' < s.heap.objs.size := by
          have e' : b' = it ∨ b' = pool := by simpa using hb'
          rcases e' with z | z
          · rw [z]; exact Heap.lt_size hcc
          · rw [z]; exact Heap.lt_size hp
        rw [upd_ne (Nat.ne_of_lt hlt)]
        exact (hf b' hb').1
    cases i with
    | zero =>
      have e0 : L.getD (0 - 1) [] = L[0] := by rw [List.getD_eq_getElem?_getD, hgi]; rfl
      rw [if_pos rfl, e0] at hcc
      exact next_first hcc hp hne c2 go
    | succ i =>
      have hi' : i < L.length := Nat.lt_of_succ_lt hi
      rw [if_neg (Nat.succ_ne_zero i), Nat.add_sub_cancel] at hcc
      exact next_more hcc hp hne (by rw [hsz, ln i hi']; exact hgi) c2 go
  done := by
    intro X hP hw hK hc i pins s σ H E I hf st hg
    subst hP hw hK
    obtain ⟨l0, ln, lb⟩ := okC_of hL
    obtain ⟨hne, hle, ⟨acc, hp, hacc⟩, last, hcc⟩ := st
    have hi : L.length ≤ i := hg
    have ei : i = L.length := Nat.le_antisymm hle hi
    obtain ⟨f0, f1, f2, f3, f4, f5⟩ := hf it (by simp)
    have hpos : 0 < L.length := by
      cases q : L with
      | nil => rw [q] at l0; simp at l0
      | cons x r => simp
    have hi0 : i ≠ 0 := by omega
    rw [if_neg hi0] at hcc
    refine next_end (I.ok.hd hc) hcc hp ?_ fun h' eb => ⟨rfl, I.turned (t' := s.toks) (fun b o hb e => eb b o hb e) f0 f1 f3 f4 f5⟩
    rw [show acc.size = n from hacc.1, ln (i - 1) (by omega)]
    exact List.getElem?_eq_none (by omega)
  self := fun A i s Q E st h => let ⟨_, _, _, last, hc⟩ := st; iter_self hc h
theorem cr_range1 {X : Cx} : CallR X (.type "range") (fun vs H Q => ∃ j, vs = [V.int j] ∧ ∀ p, H p = none → Q (.ref p) (upd H p (.rng 0 j))) := by
  intro pins s σ H vs us Q I r h
  obtain ⟨j, rfl, q⟩ := h
  cases r with
  | cons r rr =>
    cases rr
    obtain ⟨t, rfl⟩ := r
    refine call_range_1 ⟨.ref s.heap.objs.size, upd H s.heap.objs.size (.rng 0 j), I.laid (fun b o e => Heap.get?_push_of_some _ e) (Nat.le_refl _) ?_, rfl, q _ (I.hok.fresh (Nat.le_refl _))⟩
    exact ⟨_, _, _, Heap.get?_push_size _ rfl⟩
def iComb (ta : TA) : TI := fun σ H R => ta σ H fun vs H1 => ∃ (a : Addr) (lo hi k : Int) (L : List (List Nat)), vs = [.ref a, .int k] ∧ H1 a = some (.rng lo hi) ∧ (-(2 ^ 62) ≤ lo ∧ lo < 2 ^ 62 ∧ -(2 ^ 62) ≤ hi ∧ hi < 2 ^ 62) ∧ (hi - lo).toNat ≤ 1000 ∧ 0 ≤ k ∧ k.toNat ≤ (hi - lo).toNat ∧ okC (hi - lo).toNat k.toNat L = true ∧ R (Itc lo L) H1
theorem pi_comb {X : Cx} {tg a b : Expr} {ta : TA} {x : Str} {p pos : Pos} (hg : Gl X x) (hm : X.mg x = some (.type "itertools.combinations")) (hc : X.calm = true) (ha : PA X [a, b] ta) (hd : (x == ("__debug__" : Str)) = false := by decide)
    (hs : starEach [a, b] X.env = (false, eval a X.env) :: starEach [b] X.env := by rfl) (hpl : (backTo pos (starEach [b] X.env)).any (·.1) = false := by rfl) : PI X tg (.Call (.Name x p) [a, b] [] pos) (iComb ta) := by
  refine ⟨fun pins s σ H R I h => ?_⟩
  refine Call_ (ld_glob I hg hm (PyProof.Rows.callWith_type1 (thn (ha.run pos pins s σ H _ I h) fun us s1 ⟨vs, H1, I1, r1, q1⟩ => ?_) hs hpl) hd)
  obtain ⟨ra, lo, hi, k, L, e, hr, ⟨b1, b2, b3, b4⟩, hlen, hk0, hk, hL, q⟩ := q1
  subst e
  cases r1 with
  | cons r rr =>
    cases rr with
    | cons r' rr =>
      cases rr
      cases r
      obtain ⟨tk, rfl⟩ := r'
      obtain ⟨t, u, v, hrg⟩ := I1.hok ra _ hr
      have hsz : Builtin.Range.rangeSize lo hi 1 = (((hi - lo).toNat : Nat) : Int) := by rw [rangeSize_one]; split <;> omega
      refine call_comb (I1.ok.hd hc) (show IsRange s1.heap ra lo hi 1 t u v from hrg) (small_one b1 b2 b3 b4) hsz hlen hk0 (by omega) fun h' tk' acc hk' hacc => ?_
      have I2 : Inv X pins σ H1 { s1 with heap := h', toks := tk' } := I1.kept hk'
      have ez : (h'.push { cls := .type "tuple", data := .seq acc }).objs.size = h'.objs.size + 1 := Heap.size_push ..
      have hc2 : IsC (newH h' acc k.toNat) (h'.objs.size + 1) h'.objs.size 0 .none (List.range k.toNat) := by
        show (newH h' acc k.toNat).get? (h'.objs.size + 1) = _
        rw [← ez]
        exact Heap.get?_push_size _ rfl
      have hp2 : IsP (newH h' acc k.toNat) h'.objs.size acc := Heap.get?_push_of_some _ (Heap.get?_push_size _ rfl)
      have I3 : Inv X pins σ H1 { s1 with heap := newH h' acc k.toNat, toks := tk' } := I2.kept fun b o e => Heap.get?_push_of_some _ (Heap.get?_push_of_some _ e)
      refine iter_self hc2 ?_
      refine ⟨h'.objs.size + 1, [h'.objs.size + 1, h'.objs.size], _, _, H1, rfl, I3, turn_comb (h'.objs.size + 1) h'.objs.size lo _ k.toNat L hL, ⟨Nat.ne_of_lt (Nat.lt_succ_self _), Nat.zero_le _, ⟨acc, hp2, hacc⟩, .none, ?_⟩, fun b hb => ?_, q⟩
      · have l0 := (okC_of hL).1
        have e0 : L.getD (0 - 1) [] = List.range k.toNat := by rw [List.getD_eq_getElem?_getD, l0]; rfl
        rw [e0]
        exact hc2
      · have hle : h'.objs.size ≤ b := by
          have e' : b = h'.objs.size + 1 ∨ b = h'.objs.size := by simpa using hb
          rcases e' with z | z
          · rw [z]; exact Nat.le_succ _
          · rw [z]; exact Nat.le_refl _
        exact I2.fpOk (s := { s1 with heap := h', toks := tk' }) hle (I2.hok.fresh hle)
end Cmb
set_option maxRecDepth 100000
namespace TyNe
open PySem PySem.TypeEq
open Sem (wp)
theorem slot_type_ne : Slot "type" (cmpInfo .NotEq).2.1 "object.__ne__" :=
  .of (owner := "object") (n := "__ne__") (by rw [typeLookup_type, builtinLookup_eq_fast]; kernel_rfl) (by decide +kernel) (by decide +kernel) (by decide +kernel)
    (by first | exact .inl (by decide +kernel) | exact .inr (by decide +kernel)) (by rw [isSubtype_type]; kernel_rfl)
theorem slot_type_ne_refl : Slot "type" (cmpInfo .NotEq).2.2 "object.__ne__" :=
  .of (owner := "object") (n := "__ne__") (by rw [typeLookup_type, builtinLookup_eq_fast]; kernel_rfl) (by decide +kernel) (by decide +kernel) (by decide +kernel)
    (by first | exact .inl (by decide +kernel) | exact .inr (by decide +kernel)) (by rw [isSubtype_type]; kernel_rfl)
section
variable {M : Model} {A : Around} {E : Value → Shared → Prop} {s : Shared}
theorem ne_decline {a b : Value} {T id : String} {k : Bool} {Q : Value → Shared → Prop} (ha : ∀ s' : Shared, s'.TypeIs a T) (hb : ∀ s' : Shared, s'.TypeIs b T)
    (h1 : Slot T (cmpInfo .NotEq).2.1 id) (h2 : Slot T (cmpInfo .NotEq).2.2 id) (hv : [a, b].any Value.onHeap = false) (hk : isSame a b = pure k)
    (hc : wpAny M A (call (.builtin id) [a, b]) (fun v s₁ => v = .notImplemented ∧ wpAny M A (call (.builtin id) [b, a]) (fun v s₂ => v = .notImplemented ∧ Q (.bool (!k)) s₂) E s₁) E s) :
    wpAny M A (richCompare .NotEq a b) Q E s := by
  rcases hi : cmpInfo CmpOp.NotEq with ⟨sym, f, r⟩
  rw [hi] at h1 h2
  simp only [richCompare, hi, (ha s).oneThing_none]
  try with_reducible refine wpAny_holding ?_
  refine wpAny_bind (wpAny_cRoomFor_or (.inl hv) ?_)
  refine wpAny_bind (wpAny_typeOf (ha s) (wpAny_bind (wpAny_typeOf (hb s) ?_)))
  simp only [bne_self_eq_false, Bool.false_eq_true, if_false, pure_bind, Bool.not_false, if_true]
  refine wpAny_bind (m := tryCompare a _ b) (wpAny_tryCompare_declines (ha s) h1 (wpAny_mono hc (fun v s₁ h₁ => ⟨h₁.1, ?_⟩) fun _ _ x => x))
  refine wpAny_bind (m := tryCompare b _ a) (wpAny_tryCompare_declines (hb s₁) h2 (wpAny_mono h₁.2 (fun v s₂ h₂ => ⟨h₂.1, ?_⟩) fun _ _ x => x))
  refine wpAny_bind (wpAny_rule (wpAny_bind (wpAny_of_eq hk (wpAny_pure h₂.2))))
end
section
variable {prog : Program} {w : World} {A : Around} {E : Value → Shared → Prop} {s : Shared} {Q : Value → Shared → Prop}
theorem ent_same {X : String} {Q : Fin → Shared → Prop} (hX : ∀ s' : Shared, s'.TypeIs (.type X) "type") (h : Q (.done (.ret (.bool false))) s) : wpAny (model prog w) A (Builtin.«object.__ne__» ⟨[.type X, .type X], []⟩) Q E s := by
  unfold Builtin.«object.__ne__»
  show wpAny _ _ (cRoomFor "comparison" _ >>= _) _ _ _
  refine wpAny_bind (wpAny_cRoomFor_or (.inl rfl) ?_)
  refine wpAny_bind (m := callSpecialIfBound? _ _ _) (wpAny_callSpecialIfBound?_slot (hX s) slot_type_eq (call_gives slot_type_eq (hX s) F.entry_object_eq (F.args_object_eq_2 _ _) (object_eq_same rfl (by simp)) ?_))
  show wpAny _ _ (truthy (.bool true) >>= _) _ _ _
  exact wpAny_bind (wpAny_truthy_bool (wpAny_pure h))
theorem ent_other {X Y : String} {Q : Fin → Shared → Prop} (hX : ∀ s' : Shared, s'.TypeIs (.type X) "type") (hne : (Value.type X == Value.type Y) = false) (h : Q (.done (.ret .notImplemented)) s) : wpAny (model prog w) A (Builtin.«object.__ne__» ⟨[.type X, .type Y], []⟩) Q E s := by
  unfold Builtin.«object.__ne__»
  show wpAny _ _ (cRoomFor "comparison" _ >>= _) _ _ _
  refine wpAny_bind (wpAny_cRoomFor_or (.inl rfl) ?_)
  refine wpAny_bind (m := callSpecialIfBound? _ _ _) (wpAny_callSpecialIfBound?_slot (hX s) slot_type_eq (call_gives slot_type_eq (hX s) F.entry_object_eq (F.args_object_eq_2 _ _) (object_eq_other rfl hne) ?_))
  exact wpAny_pure h
theorem ne_type_same {X : String} (hX : ∀ s' : Shared, s'.TypeIs (.type X) "type") (h : Q (.bool false) s) : wpAny (model prog w) A (compareOp .NotEq (.type X) (.type X)) Q E s := by
  show wpAny _ A (richCompare .NotEq _ _) Q E s
  exact wpAny_richCompare_same (T := "type") (hX s) (hX s) slot_type_ne
    (wpAny_call_entry slot_type_ne (hX s) F.cmpEntry_ne (ent_same hX ⟨_, rfl, (by intro e; cases e), h⟩) (F.cmpArgs_ne _ _))
theorem ne_type_other {X Y : String} (hX : ∀ s' : Shared, s'.TypeIs (.type X) "type") (hY : ∀ s' : Shared, s'.TypeIs (.type Y) "type") (hne : (Value.type X == Value.type Y) = false) (h : Q (.bool true) s) : wpAny (model prog w) A (compareOp .NotEq (.type X) (.type Y)) Q E s := by
  have hne' : (Value.type Y == Value.type X) = false := by
    rw [Bool.eq_false_iff] at hne ⊢
    intro e
    exact hne (by rw [beq_iff_eq] at e ⊢; exact e.symm)
  show wpAny _ A (richCompare .NotEq _ _) Q E s
  exact ne_decline (T := "type") (k := false) hX hY slot_type_ne slot_type_ne_refl rfl (by rw [isSame_plain rfl, hne])
    (wpAny_call_entry slot_type_ne (hX s) F.cmpEntry_ne (ent_other hX hne ⟨_, rfl, rfl, wpAny_call_entry slot_type_ne_refl (hY s) F.cmpEntry_ne (ent_other hY hne' ⟨_, rfl, rfl, h⟩) (F.cmpArgs_ne _ _)⟩) (F.cmpArgs_ne _ _))
end
end TyNe
set_option Elab.async false
set_option linter.all false
set_option maxRecDepth 100000
set_option maxHeartbeats 1000000
namespace FX
open PySem PySem.Spec L2
def tyD : D → String
  | .none => "NoneType"
  | .bool _ => "bool"
  | .int _ => "int"
  | .str _ => "str"
  | .list _ => "list"
  | .tuple _ => "tuple"
  | .dict _ => "dict"
theorem nbf : ∀ d : D, (Value.type (tyD d) == Value.type "builtin_function_or_method") = false
  | .none => by show (Value.type "NoneType" == _) = false; decide +kernel
  | .bool _ => by show (Value.type "bool" == _) = false; decide +kernel
  | .int _ => by show (Value.type "int" == _) = false; decide +kernel
  | .str _ => by show (Value.type "str" == _) = false; decide +kernel
  | .list _ => by show (Value.type "list" == _) = false; decide +kernel
  | .tuple _ => by show (Value.type "tuple" == _) = false; decide +kernel
  | .dict _ => by show (Value.type "dict" == _) = false; decide +kernel
section
variable {X : Cx} {pins : List (Addr × Obj)} {σ : L2.St} {H F : Hp} {s : Shared}
theorem sh_type (I : Inv X pins σ H s) (sF : Same F H) {x : V} {u : Value} : ∀ {d : D}, Sh X.K F H x d → RelV x u → s.TypeIs u (tyD d) ∧ (Value.type (tyD d) == Value.type "builtin_function_or_method") = false
  | .none, h, r => by
    cases sh_non h; cases r
    exact ⟨by first | exact rfl | exact typeIs_none s | (show Shared.TypeIs _ _ _; trivial), nbf _⟩
  | .bool b, h, r => by
    cases sh_bool h; cases r
    exact ⟨by first | exact rfl | exact typeIs_bool s b | (show Shared.TypeIs _ _ _; trivial), nbf _⟩
  | .int i, h, r => by
    cases sh_int h
    obtain ⟨t, rfl⟩ := r
    exact ⟨typeIs_int s i t, nbf _⟩
  | .str i, h, r => by
    cases sh_str h
    obtain ⟨t, rfl⟩ := r
    exact ⟨typeIs_str s i t, nbf _⟩
  | .list ds, h, r => by
    obtain ⟨p, xs, rfl, e, _⟩ := h
    cases r
    obtain ⟨its, rv, pl, _⟩ := I.list (.of e)
    exact ⟨pl.isList.typeIs, nbf _⟩
  | .tuple ds, h, r => by
    obtain ⟨p, xs, rfl, e, _⟩ := h
    cases r
    obtain ⟨its, rv, pl, _⟩ := I.tuple (.of (sF _ _ e))
    exact ⟨pl.typeIs, nbf _⟩
  | .dict ds, h, r => by
    cases (show Rp X.K F x (.dict ds) from h) with
    | dic e =>
      cases r
      obtain ⟨_, _, vs, _, hd⟩ := I.hok _ _ (sF _ _ e)
      exact ⟨hd.typeIs, nbf _⟩
    | dcI ks e =>
      cases r
      obtain ⟨_, _, vs, _, hd⟩ := I.hok _ _ (sF _ _ e)
      exact ⟨hd.typeIs, nbf _⟩
    | dcB od ks n e =>
      cases r
      obtain ⟨_, _, _, xs, _, o, es, ep, h1, h2, _⟩ := (show ObjOk X.prog X.w _ s.heap _ (.frz od (.dT (tbV ks))) from I.hok _ _ (sF _ _ e))
      exact ⟨⟨o, h1, h2.1⟩, nbf _⟩
def rTyX (K : PySem.W.Frag) : List V → Hp → VK → Prop := fun xs H Q => ∃ F x d, Same F H ∧ xs = [x] ∧ Sh K F H x d ∧ Q (.ty (tyD d)) H
theorem call_tyX : CallR X (.type "type") (rTyX X.K) := by
  intro pins s σ H xs us Q I r h
  obtain ⟨F, x, d, sF, rfl, hx, q⟩ := h
  obtain ⟨u, rfl, rx⟩ := vals1 r
  obtain ⟨h1, h2⟩ := sh_type I sF hx rx
  exact call_type_of h1 h2 ⟨.ty _, H, I, rfl, q⟩
def tyNames : List String := ["NoneType", "bool", "int", "str", "list", "tuple", "dict"]
theorem ty_type {T : String} (h : T ∈ tyNames) (s : Shared) : s.TypeIs (.type T) "type" := by
  simp only [tyNames, List.mem_cons, List.not_mem_nil, or_false] at h
  rcases h with rfl | rfl | rfl | rfl | rfl | rfl | rfl <;> exact rfl
theorem tyD_mem (d : D) : tyD d ∈ tyNames := by cases d <;> simp [tyD, tyNames]
def rTyEq : R2 := fun x y H Q => ∃ a b, x = .ty a ∧ y = .ty b ∧ a ∈ tyNames ∧ b ∈ tyNames ∧ Q (.bl (decide (a = b))) H
theorem op_tyEq : OpR X (compareOp .Eq) rTyEq := by
  intro pins s σ H x y v u Q I rx ry h
  obtain ⟨a, b, rfl, rfl, ha, hb, q⟩ := h
  cases rx
  cases ry
  by_cases e : a = b
  · subst e
    rw [decide_eq_true rfl] at q
    exact PySem.TypeEq.eq_type_same (fun s' => ty_type ha s') ⟨.bl true, H, I, rfl, q⟩
  · rw [decide_eq_false e] at q
    exact PySem.TypeEq.eq_type_other (fun s' => ty_type ha s') (fun s' => ty_type hb s') (beq_eq_false_iff_ne.mpr fun z => e (Value.type.inj z)) ⟨.bl false, H, I, rfl, q⟩
def rTyNe : R2 := fun x y H Q => ∃ a b, x = .ty a ∧ y = .ty b ∧ a ∈ tyNames ∧ b ∈ tyNames ∧ Q (.bl (!decide (a = b))) H
end
def gTyEq {Y : Sys} (T : String) (g : GE Y) : GE Y := bd g fun r Γ s => match rdv Γ r with
  | some d => some (.ok (.v (.bool (decide (tyD d = T)))), Γ, s)
  | none => none
section
variable {Y : Sys} {X : Cx} {W : WX} {e : Expr} {pos p p2 p3 : Pos} {te : TE} {ge : GE Y} {T : String} {Ts : Str}
theorem eok_tyEq {K : PySem.W.Frag} (hT : T ∈ tyNames) (he : EOk Y K W te ge) : EOk Y K W (tOp rTyEq (tCB (rTyX K) (tCons te tNil)) (tC (.ty T))) (gTyEq T ge) := by
  intro B w σ Γ s out Q Wh N e p
  refine he.go (Q := fun x H1 => rTyX K [x] H1 fun x H1 => rTyEq x (.ty T) H1 Q) Wh N e p fun r Γ1 s1 x w1 W1 N1 l1 R1 e1 p1 => ?_
  split at e1
  · rename_i d ed
    cases e1
    exact ⟨w1.F, x, d, W1.sF, rfl, sh_of W1 N1 R1 ed, _, _, rfl, rfl, tyD_mem d, hT, p1 w1 W1 N1 (.refl _) _ (.bl _)⟩
  · cases e1
theorem pe_tyEq (hg : Gl X "type") (hm : X.mg "type" = none) (hgT : Gl X Ts) (hmT : X.mg Ts = none) (hv : bootBuiltins Ts = some (.type T)) (he : PE X e te) (hn : Ts ≠ "__name__" := by decide) (hd : (Ts == ("__debug__" : Str)) = false := by decide)
    (hse : starEach (e :: []) X.env = (false, eval e X.env) :: starEach [] X.env := by rfl) (hpl : (backTo p2 (starEach [] X.env)).any (·.1) = false := by rfl) :
    PE X (.Compare (.Call (.Name "type" p) [e] [] p2) [.Eq] [.Name Ts p3] pos) (tOp rTyEq (tCB (rTyX X.K) (tCons te tNil)) (tC (.ty T))) :=
  pe_cmpR op_tyEq (pe_callTy call_tyX hg hm (by decide +kernel) (pa_cons he pa_nil hse) (by decide) (by decide) hse hpl) (pe_bltn hgT hmT hv rfl hn hd) (nomark _)
theorem me_tyEq (hT : T ∈ tyNames) (hg : Gl X "type") (hm : X.mg "type" = none) (hgT : Gl X Ts) (hmT : X.mg Ts = none) (hv : bootBuiltins Ts = some (.type T)) (he : ME Y X W e te ge) (hn : Ts ≠ "__name__" := by decide) (hd : (Ts == ("__debug__" : Str)) = false := by decide)
    (hse : starEach (e :: []) X.env = (false, eval e X.env) :: starEach [] X.env := by rfl) (hpl : (backTo p2 (starEach [] X.env)).any (·.1) = false := by rfl) :
    ME Y X W (.Compare (.Call (.Name "type" p) [e] [] p2) [.Eq] [.Name Ts p3] pos) (tOp rTyEq (tCB (rTyX X.K) (tCons te tNil)) (tC (.ty T))) (gTyEq T ge) :=
  ⟨pe_tyEq hg hm hgT hmT hv he.pe hn hd hse hpl, eok_tyEq hT he.ok⟩
theorem op_tyNe : OpR X (compareOp .NotEq) rTyNe := by
  intro pins s σ H x y v u Q I rx ry h
  obtain ⟨a, b, rfl, rfl, ha, hb, q⟩ := h
  cases rx
  cases ry
  by_cases e : a = b
  · subst e
    rw [decide_eq_true rfl] at q
    exact TyNe.ne_type_same (fun s' => ty_type ha s') ⟨.bl false, H, I, rfl, q⟩
  · rw [decide_eq_false e] at q
    exact TyNe.ne_type_other (fun s' => ty_type ha s') (fun s' => ty_type hb s') (beq_eq_false_iff_ne.mpr fun z => e (Value.type.inj z)) ⟨.bl true, H, I, rfl, q⟩
def gTyNe {Y : Sys} (T : String) (g : GE Y) : GE Y := bd g fun r Γ s => match rdv Γ r with
  | some d => some (.ok (.v (.bool (!decide (tyD d = T)))), Γ, s)
  | none => none
theorem eok_tyNe {K : PySem.W.Frag} (hT : T ∈ tyNames) (he : EOk Y K W te ge) : EOk Y K W (tOp rTyNe (tCB (rTyX K) (tCons te tNil)) (tC (.ty T))) (gTyNe T ge) := by
  intro B w σ Γ s out Q Wh N e p
  refine he.go (Q := fun x H1 => rTyX K [x] H1 fun x H1 => rTyNe x (.ty T) H1 Q) Wh N e p fun r Γ1 s1 x w1 W1 N1 l1 R1 e1 p1 => ?_
  split at e1
  · rename_i d ed
    cases e1
    exact ⟨w1.F, x, d, W1.sF, rfl, sh_of W1 N1 R1 ed, _, _, rfl, rfl, tyD_mem d, hT, p1 w1 W1 N1 (.refl _) _ (.bl _)⟩
  · cases e1
theorem mt_tyNe (hT : T ∈ tyNames) (hg : Gl X "type") (hm : X.mg "type" = none) (hgT : Gl X Ts) (hmT : X.mg Ts = none) (hv : bootBuiltins Ts = some (.type T)) (he : ME Y X W e te ge) (hn : Ts ≠ "__name__" := by decide) (hd : (Ts == ("__debug__" : Str)) = false := by decide)
    (hse : starEach (e :: []) X.env = (false, eval e X.env) :: starEach [] X.env := by rfl) (hpl : (backTo p2 (starEach [] X.env)).any (·.1) = false := by rfl) :
    MT Y X W (.Compare (.Call (.Name "type" p) [e] [] p2) [.NotEq] [.Name Ts p3] pos) (tTest (tOp rTyNe (tCB (rTyX X.K) (tCons te tNil)) (tC (.ty T)))) (gTst (gTyNe T ge)) :=
  ⟨pt_cmpR op_tyNe (pe_callTy call_tyX hg hm (by decide +kernel) (pa_cons he.pe pa_nil hse) (by decide) (by decide) hse hpl) (pe_bltn hgT hmT hv rfl hn hd) (nomark _), tok_tst (eok_tyNe hT he.ok)⟩
inductive TyZ (K : PySem.W.Frag) (H : Hp) : V → Value → Prop where
  | x {x : V} {t : Value} (h : TyX K H x t) : TyZ K H x t
  | fT {a : Addr} {od : Obj} {kvs : List (List Key × V)} (e : H a = some (.frz od (.dT kvs))) : TyZ K H (.ref a) (.type "dict")
def rIsiZ (K : PySem.W.Frag) : List V → Hp → VK → Prop := fun ys H Q => ∃ (x c : V) (t u : Value) (b : Bool), ys = [x, c] ∧ ClsV c u ∧ TyZ K H x t ∧ PySem.W.kitOne K t u = some b ∧ Q (.bl b) H
theorem call_isiZ {X : Cx} : CallR X (.builtin "isinstance") (rIsiZ X.K) := by
  intro pins σ0 st H ys us Q J rv hh
  obtain ⟨x, c, t, u, b, rfl, kc, tz, ek, q⟩ := hh
  obtain ⟨v1, v2, rfl, q1, q2⟩ := vals2 rv
  have e2 := kc.eq q2
  subst e2
  cases tz with
  | x tx =>
    obtain ⟨P, Z, p, hx⟩ := kit_of J q1 tx
    exact PySem.W.kia_one Z J.kIn p ek hx fun tk => ⟨.bl b, H, J.tok tk, rfl, q⟩
  | fT ea =>
    cases q1
    obtain ⟨_, _, _, xs, _, o, es, ep, h1, h2, _⟩ := (show ObjOk X.prog X.w H _ _ (.frz _ (.dT _)) from J.hok _ _ ea)
    exact PySem.W.kia_one PySem.W.kitx_dict J.kIn ⟨o, h1, h2.1⟩ ek (fun z => nomatch z) fun tk => ⟨.bl b, H, J.tok tk, rfl, q⟩
theorem sh_tyx0 {K : PySem.W.Frag} {F H : Hp} (sF : Same F H) {x : V} : ∀ {d : D}, Sh K F H x d → (∀ kvs, d ≠ .dict kvs) → TyX K H x (.type (tyD d))
  | .none, h, _ => by cases sh_non h; exact .base .non
  | .bool b, h, _ => by cases sh_bool h; exact .base (.bl _)
  | .int i, h, _ => by cases sh_int h; exact .base (.int _)
  | .str i, h, _ => by cases sh_str h; exact .base (.str _)
  | .list ds, h, _ => by
    obtain ⟨p, xs, rfl, e, _⟩ := h
    exact .base (.lst e)
  | .tuple ds, h, _ => by
    obtain ⟨p, xs, rfl, e, _⟩ := h
    exact .base (.tup (sF _ _ e))
  | .dict ds, h, n => absurd rfl (n ds)
theorem sh_tyx {K : PySem.W.Frag} {F H : Hp} (sF : Same F H) {x : V} {d : D} (h : Sh K F H x d) : TyZ K H x (.type (tyD d)) := by
  cases d with
  | dict ds =>
    cases (show Rp K F x (.dict ds) from h) with
    | dic e => exact .x (.base (.dK (sF _ _ e)))
    | dcI ks e => exact .x (.base (.dK (sF _ _ e)))
    | dcB od ks n e => exact .fT (sF _ _ e)
  | _ => exact .x (sh_tyx0 sF h fun _ z => nomatch z)
def isI (d : D) (T : String) : Option Bool := kitB (tyD d) T
def gIsI {Y : Sys} (T : String) (g : GE Y) : GE Y := bd g fun r Γ s => match rdv Γ r with
  | some d => match isI d T with
    | some b => some (.ok (.v (.bool b)), Γ, s)
    | none => none
  | none => none
theorem me_isI (hg : Gl X "isinstance") (hm : X.mg "isinstance" = none) (hgT : Gl X Ts) (hmT : X.mg Ts = none) (hv : bootBuiltins Ts = some (.type T)) (he : ME Y X W e te ge) (hn : Ts ≠ "__name__" := by decide) (hd : (Ts == ("__debug__" : Str)) = false := by decide)
    (hse : starEach (e :: [.Name Ts p3]) X.env = (false, eval e X.env) :: starEach [.Name Ts p3] X.env := by rfl) (hs2 : starEach [.Name Ts p3] X.env = (false, eval (.Name Ts p3) X.env) :: starEach [] X.env := by rfl) (hpl : (backTo p2 (starEach [.Name Ts p3] X.env)).any (·.1) = false := by rfl) :
    ME Y X W (.Call (.Name "isinstance" p) [e, .Name Ts p3] [] p2) (tCB (rIsiZ X.K) (tCons te (tCons (tC (.ty T)) tNil))) (gIsI T ge) := by
  refine ⟨pe_callB call_isiZ hg hm (by decide +kernel) (pa_cons he.pe (pa_cons (pe_bltn hgT hmT hv rfl hn hd) pa_nil hs2) hse) (by decide) (by decide) hse hpl, fun B w σ Γ s out Q Wh N e p => ?_⟩
  refine he.ok.go (Q := fun x H1 => rIsiZ X.K [x, .ty T] H1 Q) Wh N e p fun r Γ1 s1 x w1 W1 N1 l1 R1 e1 p1 => ?_
  split at e1
  · rename_i d ed
    split at e1
    · rename_i b eb
      cases e1
      exact ⟨x, .ty T, .type (tyD d), .type T, b, rfl, .ty T, sh_tyx W1.sF (sh_of W1 N1 R1 ed), kit_ty eb, p1 w1 W1 N1 (.refl _) _ (.bl _)⟩
    · cases e1
  · cases e1
end
structure KTab (K : PySem.W.Frag) (w : World) (d : Addr) (t : Str → Option D) : Prop where
  kd : ∃ es n, KDict K w d es n
  at' : ∀ z, ∃ r, PySem.W.nsIn K d z = some r ∧ (t z = none → r = none) ∧ ∀ e, t z = some e → ∃ u v, r = some u ∧ RelV v u ∧ ∀ F, Rp K F v e
def fKNotIn (t : Str → Option D) : D → Option Rz
  | .str z => some (.nw (.bool (!(t z).isSome)))
  | _ => none
def fKGet (t : Str → Option D) : D → Option Rz
  | .str z => match t z with
    | some e => some (.old e)
    | none => none
  | _ => none
section
variable {Y : Sys} {X : Cx} {W : WX} {e o : Expr} {pos p p2 p3 : Pos} {te : TE} {ge : GE Y} {d : Addr} {t : Str → Option D}
theorem ktab_some {K : PySem.W.Frag} {w : World} (T : KTab K w d t) (z : Str) : ∃ r, PySem.W.nsIn K d z = some r ∧ r.isSome = (t z).isSome := by
  obtain ⟨r, h, h1, h2⟩ := T.at' z
  refine ⟨r, h, ?_⟩
  cases q : t z with
  | none => rw [h1 q]; rfl
  | some e => obtain ⟨u, v, rfl, _⟩ := h2 e q; rfl
theorem mt_kNotIn (T : KTab X.K X.w d t) (ho : PE X o (tC (.ref d))) (he : ME Y X W e te ge) (hm : behindInMarks .NotIn o = false := by rfl) :
    MT Y X W (.Compare e [.NotIn] [o] pos) (tTest (tOp (fun x y H Q => ∃ (z : Str) (r : Option Value), x = .str z ∧ y = .ref d ∧ PySem.W.nsIn X.K d z = some r ∧ Q (.bl (!r.isSome)) H) te (tC (.ref d)))) (gTst (gUn (fKNotIn t) ge)) := by
  obtain ⟨es, n, kd⟩ := T.kd
  refine ⟨pt_cmpR (op_notIn_kd kd) he.pe ho hm, tok_tst fun B w σ Γ s out Q Wh N e p => ?_⟩
  refine he.ok.go (Q := fun x H1 => ∃ (z : Str) (r : Option Value), x = .str z ∧ V.ref d = .ref d ∧ PySem.W.nsIn X.K d z = some r ∧ Q (.bl (!r.isSome)) H1) Wh N e p fun r Γ1 s1 x w1 W1 N1 l1 R1 e1 p1 => ?_
  unfold op1 at e1
  split at e1
  · cases e1
  · rename_i dd ed
    split at e1
    · cases e1
    · rename_i zz ez
      cases e1
      unfold fKNotIn at ez
      split at ez
      · rename_i z
        cases ez
        obtain ⟨r, h, hs⟩ := ktab_some T z
        exact ⟨z, r, sh_str (sh_of W1 N1 R1 ed), rfl, h, by rw [hs]; exact p1 w1 W1 N1 (.refl _) _ (.bl _)⟩
      · cases ez
theorem me_kGet (T : KTab X.K X.w d t) (ho : PE X o (tC (.ref d))) (he : ME Y X W e te ge) (hs : PlainIx e) :
    ME Y X W (.Subscript o e pos) (tOp (rIxD X.K X.w) (tC (.ref d)) te) (gUn (fKGet t) ge) := by
  refine ⟨pe_ix ix_kdict ho he.pe hs, fun B w σ Γ s out Q Wh N e p => ?_⟩
  refine he.ok.go (Q := fun y H1 => rIxD X.K X.w (.ref d) y H1 Q) Wh N e p fun r Γ1 s1 x w1 W1 N1 l1 R1 e1 p1 => ?_
  unfold op1 at e1
  split at e1
  · cases e1
  · rename_i dd ed
    split at e1
    · cases e1
    · rename_i zz ez
      cases e1
      unfold fKGet at ez
      split at ez
      · rename_i z
        split at ez
        · rename_i ev hev
          cases ez
          obtain ⟨es, n, kd⟩ := T.kd
          obtain ⟨r, h, _, h2⟩ := T.at' z
          obtain ⟨u, v, rfl, rv, re⟩ := h2 ev hev
          exact ⟨d, z, v, rfl, sh_str (sh_of W1 N1 R1 ed), ⟨es, n, u, kd.at_, kd.lit, h, rv⟩, p1 w1 W1 N1 (.refl _) _ (re w1.F)⟩
        · cases ez
      · cases ez
end
def itC (n : Nat) : Nat → List Nat → List (List Nat)
  | 0, _ => []
  | f + 1, c => c :: match Cmb.nextC n c with
    | none => []
    | some c' => itC n f c'
def combL (n k : Nat) : List (List Nat) := itC n 100 (List.range k)
def combD (n k : Nat) : List D := (combL n k).map fun c => .tuple (c.map fun (j : Nat) => .int (0 + (j : Int)))
def gCmb {Y : Sys} (ga gk : GE Y) : GI Y := bd ga fun ra Γ s => match rdv Γ ra with
  | some (.int n) => bd gk (fun rk Γ s => match rdv Γ rk with
    | some (.int k) => if (decide (0 ≤ k) && decide (k ≤ n) && decide (n ≤ 60) && Cmb.okC n.toNat k.toNat (combL n.toNat k.toNat)) = true then some (.ok (combD n.toNat k.toNat), Γ, s) else none
    | _ => none) Γ s
  | _ => none
theorem it_comb {K : PySem.W.Frag} {F : Hp} (n k : Nat) : ItOk K (Cmb.Itc 0 (combL n k)) F (combD n k) := fun F1 H e1 e2 i => by
  have hl : (combD n k).length = (combL n k).length := by simp [combD]
  refine ⟨fun hi => by rw [hl] at hi; exact hi, fun hi => by rw [hl] at hi; exact hi, fun x H' y d hd => ?_⟩
  obtain ⟨T, c, hc, rfl, nT, rfl⟩ := y
  unfold combD at hd
  rw [List.getElem?_map, hc] at hd
  cases hd
  refine .inr (.inl ⟨T, _, _, nT, rfl, rfl, rfl, ?_⟩)
  clear hc
  induction c with
  | nil => exact .nil
  | cons j c ih => exact .cons (.int _) ih
section
variable {Y : Sys} {X : Cx} {W : WX} {tg a b : Expr} {pos p p2 p3 : Pos} {ta tb : TE} {ga gb : GE Y} {x : Str}
def tRg1 (ta : TE) : TE := tCB (fun vs H Q => ∃ j, vs = [V.int j] ∧ ∀ p, H p = none → Q (.ref p) (upd H p (.rng 0 j))) (tCons ta tNil)
theorem pe_rg1 (hg : Gl X "range") (hm : X.mg "range" = none) (ha : PE X a ta) (hse : starEach (a :: []) X.env = (false, eval a X.env) :: starEach [] X.env := by rfl) (hpl : (backTo p2 (starEach [] X.env)).any (·.1) = false := by rfl) : PE X (.Call (.Name "range" p3) [a] [] p2) (tRg1 ta) :=
  pe_callTy Cmb.cr_range1 hg hm (by decide +kernel) (pa_cons ha pa_nil hse) (by decide) (by decide) hse hpl
theorem mi_comb (hg : Gl X x) (hm : X.mg x = some (.type "itertools.combinations")) (hc : X.calm = true) (hgr : Gl X "range") (hmr : X.mg "range" = none) (ha : ME Y X W a ta ga) (hb : ME Y X W b tb gb) (hd : (x == ("__debug__" : Str)) = false := by decide)
    (hse : starEach (a :: []) X.env = (false, eval a X.env) :: starEach [] X.env := by rfl) (hpl0 : (backTo p2 (starEach [] X.env)).any (·.1) = false := by rfl)
    (hs : starEach [.Call (.Name "range" p3) [a] [] p2, b] X.env = (false, eval (.Call (.Name "range" p3) [a] [] p2) X.env) :: starEach [b] X.env := by rfl) (hs2 : starEach [b] X.env = (false, eval b X.env) :: starEach [] X.env := by rfl) (hpl : (backTo pos (starEach [b] X.env)).any (·.1) = false := by rfl) :
    MI Y X W tg (.Call (.Name x p) [.Call (.Name "range" p3) [a] [] p2, b] [] pos) (Cmb.iComb (tCons (tRg1 ta) (tCons tb tNil))) (gCmb ga gb) := by
  refine ⟨Cmb.pi_comb hg hm hc (pa_cons (pe_rg1 hgr hmr ha.pe hse hpl0) (pa_cons hb.pe pa_nil hs2) hs) hd hs hpl, fun B w σ Γ s out Q Wh N e p => ?_⟩
  refine ha.ok.go (Q := fun y H1 => ∃ j, [y] = [V.int j] ∧ ∀ q, H1 q = none → tb σ (upd H1 q (.rng 0 j)) fun z H2 => ∃ (a : Addr) (lo hi k : Int) (L : List (List Nat)), [V.ref q, z] = [.ref a, .int k] ∧ H2 a = some (.rng lo hi) ∧ (-(2 ^ 62) ≤ lo ∧ lo < 2 ^ 62 ∧ -(2 ^ 62) ≤ hi ∧ hi < 2 ^ 62) ∧ (hi - lo).toNat ≤ 1000 ∧ 0 ≤ k ∧ k.toNat ≤ (hi - lo).toNat ∧ Cmb.okC (hi - lo).toNat k.toNat L = true ∧ Q (Cmb.Itc lo L) H2) Wh N e p fun ra Γ1 s1 y w1 W1 N1 l1 R1 e1 p1 => ?_
  split at e1
  · rename_i n en
    cases sh_int (sh_of W1 N1 R1 en)
    refine ⟨n, rfl, fun q nq => ?_⟩
    have fq : w1.F q = none := W1.sF.free nq
    have bq : B q = none := W1.sB.free nq
    have aq : q ∉ w1.A := fun z => Y.live W1.rel _ z nq
    have oq : ∀ (i : Nat) (e : D), Γ1[i]? = some (some (R.o e)) → σ[i]? ≠ some (some (.ref q)) := fun i e hi hs => by
      obtain ⟨y, a, q', rfl, own, _⟩ := N1.sl i _ hi
      rw [hs] at a; cases a
      obtain ⟨u, hu⟩ := own.obj
      rw [nq] at hu; cases hu
    have W2 : Wd Y (upd B q (.rng 0 n)) { w1 with H := upd w1.H q (.rng 0 n) } s1 := (W1.newH nq).hold upd_same fq aq bq
    have N2 : EnvR X.K (upd B q (.rng 0 n)) { w1 with H := upd w1.H q (.rng 0 n) } σ Γ1 := (N1.newH nq).hold oq
    have sB : Same B (upd B q (.rng 0 n)) := upd_sm bq
    have p2 : PoG Y X.K W (upd B q (.rng 0 n)) { w1 with H := upd w1.H q (.rng 0 n) } σ (fun ds _ w' => ∀ J, ItOk X.K J w'.F ds → Q J w'.H) out := (p1.le (w1 := { w1 with H := upd w1.H q (.rng 0 n) }) ⟨Same.refl _, [], by simp⟩).imp sB fun _ _ _ z => z
    refine hb.ok.go (Q := fun z H2 => ∃ (a : Addr) (lo hi k : Int) (L : List (List Nat)), [V.ref q, z] = [.ref a, .int k] ∧ H2 a = some (.rng lo hi) ∧ (-(2 ^ 62) ≤ lo ∧ lo < 2 ^ 62 ∧ -(2 ^ 62) ≤ hi ∧ hi < 2 ^ 62) ∧ (hi - lo).toNat ≤ 1000 ∧ 0 ≤ k ∧ k.toNat ≤ (hi - lo).toNat ∧ Cmb.okC (hi - lo).toNat k.toNat L = true ∧ Q (Cmb.Itc lo L) H2) W2 N2 e1 p2 fun rk Γ3 s3 z w3 W3 N3 l3 R3 e3 p3 => ?_
    split at e3
    · rename_i k ek
      split at e3
      · rename_i hz
        cases e3
        simp only [Bool.and_eq_true, decide_eq_true_eq] at hz
        obtain ⟨⟨⟨k0, k1⟩, k2⟩, k3⟩ := hz
        cases sh_int (sh_of W3 N3 R3 ek)
        have e0 : n - 0 = n := Int.sub_zero n
        refine ⟨q, 0, n, k, combL n.toNat k.toNat, rfl, W3.sB q _ upd_same, ⟨by decide, by decide, by omega, by omega⟩, by omega, k0, by omega, by rw [e0]; exact k3, ?_⟩
        exact p3 w3 W3 N3 (.refl _) _ (it_comb _ _)
      · cases e3
    · cases e3
  · cases e1
end
end FX
set_option Elab.async false
set_option linter.all false
set_option maxRecDepth 100000
set_option maxHeartbeats 1000000
namespace FX
open PySem PySem.Spec L2
def cutD (xs : List D) (lo hi : Option Int) : List D := (xs.drop (HT.sIx xs.length 0 lo)).take (HT.sIx xs.length xs.length hi - HT.sIx xs.length 0 lo)
def fSl : D → Option Int → Option Int → Option Rz
  | .list ds, lo, hi => some (.nw (.list (cutD ds lo hi)))
  | .tuple ds, lo, hi => if HT.sIx ds.length 0 lo = 0 ∧ HT.sIx ds.length ds.length hi = ds.length then some (.old (.tuple ds)) else some (.nw (.tuple (cutD ds lo hi)))
  | .str z, lo, hi => if sizeOk z.length = true then some (.nw (.str (cutS z lo hi))) else none
  | _, _, _ => none
abbrev GO (Y : Sys) := Ev → Y.S → Option (Oc (Option Int) × Ev × Y.S)
def gNoP {Y : Sys} : GO Y := fun Γ s => some (.ok none, Γ, s)
def gPart {Y : Sys} (g : GE Y) : GO Y := bd g fun r Γ s => match rdv Γ r with
  | some (.int i) => some (.ok (some i), Γ, s)
  | _ => none
def gSl {Y : Sys} (g : GE Y) (gl gh : GO Y) : GE Y := bd g fun r => bd gl fun lo => bd gh fun hi Γ s => match rdv Γ r with
  | some d => match fSl d lo hi with
    | some z => some (.ok z.r, Γ, s)
    | none => none
  | none => none
section
variable {Y : Sys} {X : Cx} {W : WX} {e : Expr} {lo hi : Option Expr} {pos p2 : Pos} {te : TE} {tl th : TO} {ge : GE Y} {gl gh : GO Y}
def OOk (Y : Sys) (K : PySem.W.Frag) (W : WX) (t : TO) (g : GO Y) : Prop := ∀ (B : Hp) (w : Wo) (σ : L2.St) (Γ : Ev) (s : Y.S) (out : Oc (Option Int) × Ev × Y.S) (Q : Option Int → Hp → Prop),
  Wd Y B w s → EnvR K B w σ Γ → g Γ s = some out → PoG Y K W B w σ (fun b _ w' => Q b w'.H) out → t σ w.H Q
structure MO (Y : Sys) (X : Cx) (W : WX) (e : Option Expr) (t : TO) (g : GO Y) : Prop where
  pe : PO X e t
  ok : OOk Y X.K W t g
theorem OOk.go {α : Type} {K : PySem.W.Frag} {B : Hp} {w : Wo} {σ : L2.St} {Γ : Ev} {s : Y.S} {ok : α → Ev → Wo → Prop} {t : TO} {g : GO Y} (h : OOk Y K W t g) (Wh : Wd Y B w s) (N : EnvR K B w σ Γ) {k : Option Int → Ev → Y.S → Option (Oc α × Ev × Y.S)} {out : Oc α × Ev × Y.S} {Q : Option Int → Hp → Prop}
    (e : bd g k Γ s = some out) (p : PoG Y K W B w σ ok out)
    (c : ∀ b Γ1 s1 w1, Wd Y B w1 s1 → EnvR K B w1 σ Γ1 → Le w w1 → k b Γ1 s1 = some out → PoG Y K W B w1 σ ok out → Q b w1.H) : t σ w.H Q := by
  unfold bd at e
  cases eg : g Γ s with
  | none => rw [eg] at e; cases e
  | some o =>
    obtain ⟨o, Γ1, s1⟩ := o
    rw [eg] at e
    cases o with
    | ok r => exact h B w σ Γ s _ Q Wh N eg fun w1 W1 N1 l => c r Γ1 s1 w1 W1 N1 l e (p.le l)
    | er z =>
      cases e
      exact h B w σ Γ s _ Q Wh N eg fun w1 W1 N1 l => p w1 W1 N1 l
theorem RpA.cut {K : PySem.W.Frag} {F : Hp} {xs : List V} {ds : List D} (r : RpA K F xs ds) (lo hi : Option Int) : RpA K F (cutV xs lo hi) (cutD ds lo hi) := by
  unfold cutV cutD
  rw [r.length]
  exact (r.drop _).take _
def rSl3 (K : PySem.W.Frag) : V → Option Int → Option Int → Hp → VK → Prop := fun x lo hi H Q => rSlL K x lo hi H Q ∨ (fun x lo hi H Q => rSlA K x lo hi H Q ∨ rSlS x lo hi H Q) x lo hi H Q
theorem sl3 : L2.SlR X (rSl3 X.K) := L2.SlR.or sl_list (L2.SlR.or sl_tupA sl_str)
end
def flatD : D → Bool
  | .none => true
  | .bool _ => true
  | .int _ => true
  | .str _ => true
  | _ => false
def fIn2 (d e : D) : Option Rz := match e with
  | .list ds => if (SeqAt.shaped d && SeqAt.shaped (.list ds)) = true then some (.nw (.bool (ds.any fun z => PyData.eqv z d))) else none
  | .tuple ds => if (flatD d && ds.all flatD) = true then some (.nw (.bool (ds.any fun z => PyData.eqv z d))) else none
  | _ => none
def fNotIn2 (d e : D) : Option Rz := match e with
  | .list ds => if (SeqAt.shaped d && SeqAt.shaped (.list ds)) = true then some (.nw (.bool (!ds.any fun z => PyData.eqv z d))) else none
  | .tuple ds => if (flatD d && ds.all flatD) = true then some (.nw (.bool (!ds.any fun z => PyData.eqv z d))) else none
  | _ => none
section
variable {K : PySem.W.Frag} {X : Cx} {F H : Hp}
theorem sh_flat {x : V} : ∀ {d : D}, Sh K F H x d → flatD d = true → flatV x = true
  | .none, h, _ => by cases sh_non h; rfl
  | .bool _, h, _ => by cases sh_bool h; rfl
  | .int _, h, _ => by cases sh_int h; rfl
  | .str _, h, _ => by cases sh_str h; rfl
  | .list _, _, c => by cases c
  | .tuple _, _, c => by cases c
  | .dict _, _, c => by cases c
theorem rp_flat {x : V} {d : D} (h : Rp K F x d) (c : flatD d = true) : flatV x = true := by
  cases h <;> first | rfl | cases c
theorem flat_eqv {x y : V} {d e : D} (hx : Rp K F x d) (hy : Rp K F y e) (c : flatD d = true) (c2 : flatD e = true) : eqV x y = PyData.eqv d e := by
  cases hx <;> first | (cases hy <;> first | rfl | cases c2 | simp [eqV, PyData.eqv]) | cases c
theorem sh_rp {x : V} : ∀ {d : D}, Sh K F H x d → flatD d = true → Rp K F x d
  | .none, h, _ => h
  | .bool _, h, _ => h
  | .int _, h, _ => h
  | .str _, h, _ => h
  | .list _, _, c => by cases c
  | .tuple _, _, c => by cases c
  | .dict _, _, c => by cases c
theorem any_flat {x : V} {d : D} (hx : Rp K F x d) (c : flatD d = true) : ∀ {ds : List D} {xs : List V}, RpA K F xs ds → ds.all flatD = true → xs.all flatV = true ∧ inV x xs = ds.any fun z => PyData.eqv z d
  | [], _, h, _ => by cases h; exact ⟨rfl, rfl⟩
  | e :: ds, _, h, c2 => by
    cases h with
    | cons a b =>
      simp only [List.all_cons, Bool.and_eq_true] at c2
      obtain ⟨h1, h2⟩ := any_flat hx c b c2.2
      refine ⟨by simp only [List.all_cons, Bool.and_eq_true]; exact ⟨rp_flat a c2.1, h1⟩, ?_⟩
      unfold inV at h2 ⊢
      simp only [List.any_cons]
      rw [h2, flat_eqv a hx c2.1 c]
def rIn2 (K : PySem.W.Frag) : R2 := fun x y H Q => rInD K x y H Q ∨ rIn K false x y H Q
def rNotIn2 (K : PySem.W.Frag) : R2 := fun x y H Q => rNotInD K x y H Q ∨ rIn K true x y H Q
theorem hu65 {k : Nat} {A : Around} (r : Room k A) : A.units + 65 < cLine := by have := r.un; omega
theorem o_in (hu : X.A.units + 65 < cLine) : OpR X (compareOp .In) (rIn2 X.K) := (op_inD hu).or op_in_seq
theorem o_notIn (hu : X.A.units + 65 < cLine) : OpR X (compareOp .NotIn) (rNotIn2 X.K) := (op_notInD hu).or op_notIn_seq
theorem s_in2 : Op2 K (rIn2 K) fIn2 := by
  intro F H x y d e z Q sF hx hy h q
  unfold fIn2 at h
  split at h
  · split at h
    · rename_i hz
      cases h
      rw [Bool.and_eq_true] at hz
      exact .inl ⟨d, _, hx.dp sF hz.1, hy.dp sF hz.2, hz.1, hz.2, nw_bool q⟩
    · cases h
  · split at h
    · rename_i hz
      cases h
      rw [Bool.and_eq_true] at hz
      obtain ⟨p, xs, rfl, e1, ra⟩ := hy
      obtain ⟨f1, f2⟩ := any_flat (sh_rp hx hz.1) hz.1 ra hz.2
      exact .inr ⟨p, xs, rfl, .inr (.of (sF _ _ e1)), sh_flat hx hz.1, f1, by rw [if_neg Bool.false_ne_true, f2]; exact nw_bool q⟩
    · cases h
  · cases h
theorem s_notIn2 : Op2 K (rNotIn2 K) fNotIn2 := by
  intro F H x y d e z Q sF hx hy h q
  unfold fNotIn2 at h
  split at h
  · split at h
    · rename_i hz
      cases h
      rw [Bool.and_eq_true] at hz
      exact .inl ⟨d, _, hx.dp sF hz.1, hy.dp sF hz.2, hz.1, hz.2, nw_bool q⟩
    · cases h
  · split at h
    · rename_i hz
      cases h
      rw [Bool.and_eq_true] at hz
      obtain ⟨p, xs, rfl, e1, ra⟩ := hy
      obtain ⟨f1, f2⟩ := any_flat (sh_rp hx hz.1) hz.1 ra hz.2
      exact .inr ⟨p, xs, rfl, .inr (.of (sF _ _ e1)), sh_flat hx hz.1, f1, by rw [if_pos rfl, f2]; exact nw_bool q⟩
    · cases h
  · cases h
end
def prD (p : Int × Int) : D := .tuple [.int p.1, .int p.2]
end FX
set_option Elab.async false
set_option linter.all false
set_option maxRecDepth 100000
set_option maxHeartbeats 1000000
namespace FX
open PySem PySem.Spec L2
abbrev rLenL (K : PySem.W.Frag) : List V → Hp → VK → Prop := fun xs H Q => (∃ p ys, xs = [.ref p] ∧ (SqL K H p ys ∨ SqT K H p ys) ∧ Q (.int ys.length) H) ∨ ∃ z, xs = [.str z] ∧ z.length ≤ sizeLine ∧ Q (.int z.length) H
abbrev rListO (K : PySem.W.Frag) : List V → Hp → VK → Prop := fun xs H Q => ∃ p ys, xs = [.ref p] ∧ (SqL K H p ys ∨ SqT K H p ys) ∧ ∀ l, H l = none → Q (.ref l) (upd H l (.lst ys))
section
variable {Y : Sys} {X : Cx} {W : WX} {e o a b tg : Expr} {es : List Expr} {pos p p2 p3 apos cpos : Pos} {te ta : TE} {ge ga : GE Y} {gr : GA Y} {T : String} {Ts : Str} {K : PySem.W.Frag}
theorem me_fnK {n k : Nat} {m : Fm Y} {f : Addr} {fd : FuncData} {ps : List Str} {x : Str} {ta : TA} (hK : X.K = K) (F : FnOk X.prog X.w X.K X.mg X.base (L2.CX X.prog X.w) k f fd ps (spM Y X.K n m)) (hr : Room k X.A) (hg : Gl X x) (hm : X.mg x = some (.ref f)) (hk : PySem.W.keepIn X.K (.ref f) = true) (hb : Binds X.K fd ps []) (tk : Takes X W)
    (ha : MA Y X W (e :: es) ta gr) (hdb : (x == ("__debug__" : Str)) = false := by decide) (he : starEach (e :: es) X.env = (false, eval e X.env) :: starEach es X.env := by rfl) (hpl : (backTo pos (starEach es X.env)).any (·.1) = false := by rfl) :
    ME Y X W (.Call (.Name x p) (e :: es) [] pos) (tCallS (spM Y K n m) (WE W) ta) (gFn n m gr) := by
  subst hK
  exact me_fn F hr hg hm hk hb tk ha hdb he hpl
theorem mg_tupK {tg_h : TGs} {k : Nat} {l : Tgs} {n : Nat} (hK : X.K = K) (hc : X.calm = true) (h : MGs Y X es tg_h l) (hn : (assignEach es X.env).length = n) (hst : (assignEach es X.env).findIdx? (·.1) = none)
    (hl : ∀ ds Γ Γ', bindTs l ds Γ = some Γ' → ds.length = n) : MG Y X (.Tuple es k pos) (L2.gTup K n tg_h) (.t l) := by
  subst hK
  exact mg_tup hc h hn hst hl
theorem me_tyEqK (hK : X.K = K) (hT : T ∈ tyNames) (hg : Gl X "type") (hm : X.mg "type" = none) (hgT : Gl X Ts) (hmT : X.mg Ts = none) (hv : bootBuiltins Ts = some (.type T)) (he : ME Y X W e te ge) (hn : Ts ≠ "__name__" := by decide) (hd : (Ts == ("__debug__" : Str)) = false := by decide)
    (hse : starEach (e :: []) X.env = (false, eval e X.env) :: starEach [] X.env := by rfl) (hpl : (backTo p2 (starEach [] X.env)).any (·.1) = false := by rfl) :
    ME Y X W (.Compare (.Call (.Name "type" p) [e] [] p2) [.Eq] [.Name Ts p3] pos) (tOp rTyEq (tCB (rTyX K) (tCons te tNil)) (tC (.ty T))) (gTyEq T ge) := by
  subst hK
  exact me_tyEq hT hg hm hgT hmT hv he hn hd hse hpl
theorem mt_tyNeK (hK : X.K = K) (hT : T ∈ tyNames) (hg : Gl X "type") (hm : X.mg "type" = none) (hgT : Gl X Ts) (hmT : X.mg Ts = none) (hv : bootBuiltins Ts = some (.type T)) (he : ME Y X W e te ge) (hn : Ts ≠ "__name__" := by decide) (hd : (Ts == ("__debug__" : Str)) = false := by decide)
    (hse : starEach (e :: []) X.env = (false, eval e X.env) :: starEach [] X.env := by rfl) (hpl : (backTo p2 (starEach [] X.env)).any (·.1) = false := by rfl) :
    MT Y X W (.Compare (.Call (.Name "type" p) [e] [] p2) [.NotEq] [.Name Ts p3] pos) (tTest (tOp rTyNe (tCB (rTyX K) (tCons te tNil)) (tC (.ty T)))) (gTst (gTyNe T ge)) := by
  subst hK
  exact mt_tyNe hT hg hm hgT hmT hv he hn hd hse hpl
theorem me_isIK (hK : X.K = K) (hg : Gl X "isinstance") (hm : X.mg "isinstance" = none) (hgT : Gl X Ts) (hmT : X.mg Ts = none) (hv : bootBuiltins Ts = some (.type T)) (he : ME Y X W e te ge) (hn : Ts ≠ "__name__" := by decide) (hd : (Ts == ("__debug__" : Str)) = false := by decide)
    (hse : starEach (e :: [.Name Ts p3]) X.env = (false, eval e X.env) :: starEach [.Name Ts p3] X.env := by rfl) (hs2 : starEach [.Name Ts p3] X.env = (false, eval (.Name Ts p3) X.env) :: starEach [] X.env := by rfl) (hpl : (backTo p2 (starEach [.Name Ts p3] X.env)).any (·.1) = false := by rfl) :
    ME Y X W (.Call (.Name "isinstance" p) [e, .Name Ts p3] [] p2) (tCB (rIsiZ K) (tCons te (tCons (tC (.ty T)) tNil))) (gIsI T ge) := by
  subst hK
  exact me_isI hg hm hgT hmT hv he hn hd hse hs2 hpl
theorem me_kGetK {d : Addr} {t : Str → Option D} {w : World} (hK : X.K = K) (hw : X.w = w) (T : KTab X.K X.w d t) (ho : PE X o (tC (.ref d))) (he : ME Y X W e te ge) (hs : PlainIx e) :
    ME Y X W (.Subscript o e pos) (tOp (rIxD K w) (tC (.ref d)) te) (gUn (fKGet t) ge) := by
  subst hK hw
  exact me_kGet T ho he hs
theorem mi_listK (hK : X.K = K) (h : ME Y X W e te ga) : MI Y X W tg e (iList K te) (gItL ga) := by
  subst hK
  exact mi_list h
theorem mi_tupK (hK : X.K = K) (h : ME Y X W e te ga) : MI Y X W tg e (iTup K te) (gItT ga) := by
  subst hK
  exact mi_tup h
end
end FX
namespace FX
open PySem PySem.Spec L2
def TabOk (es : List DictEntry) (t : Str → Option D) : Prop := es.any (·.refKey) = false ∧ ∀ z, match es.find? (·.key.isStr z) with
  | some e => ∃ d v, t z = some d ∧ RelV v e.val ∧ ∀ K F, Rp K F v d
  | none => t z = none
theorem ktab_mk {K : PySem.W.Frag} {w : World} {d : Addr} {es : Array DictEntry} {n : Nat} {t : Str → Option D} (k : KDict K w d es n) (h : TabOk es.toList t) : KTab K w d t := by
  refine ⟨⟨es, n, k⟩, fun z => ?_⟩
  have e : PySem.W.nsIn K d z = (match es.toList.find? (·.key.isStr z) with
      | some e => some (some e.val)
      | none => if es.toList.any (·.refKey) then none else some none) := by
    unfold PySem.W.nsIn
    rw [k.at_]
    rfl
  have hz := h.2 z
  cases q : es.toList.find? (·.key.isStr z) with
  | none =>
    rw [q] at e hz
    rw [h.1] at e
    refine ⟨none, by simpa using e, fun _ => rfl, fun d hd => ?_⟩
    rw [hd] at hz; cases hz
  | some en =>
    rw [q] at e hz
    obtain ⟨dd, v, h1, h2, h3⟩ := hz
    refine ⟨some en.val, e, fun hn => ?_, fun d hd => ?_⟩
    · rw [hn] at h1; cases h1
    · rw [h1] at hd; cases hd
      exact ⟨en.val, v, rfl, h2, h3 K⟩
end FX
set_option Elab.async false
set_option linter.all false
namespace FX
open PySem PySem.Spec L2
theorem tab_nil : TabOk [] (fun _ => none) := ⟨rfl, fun z => rfl⟩
theorem tab_cons {h : Int} {s : Str} {tok : Tok} {u : Value} {es : List DictEntry} {t : Str → Option D} {d : D} (v : V) (hv : RelV v u) (hd : ∀ K F, Rp K F v d) (T : TabOk es t) :
    TabOk (⟨h, .str s tok, u⟩ :: es) (fun z => if z = s then some d else t z) := by
  refine ⟨by rw [List.any_cons]; exact T.1, fun z => ?_⟩
  rw [List.find?_cons]
  by_cases hz : z = s
  · subst hz
    simp only [Value.isStr, BEq.rfl]
    exact ⟨d, v, by simp, hv, hd⟩
  · have : (s == z) = false := by
      rw [beq_eq_false_iff_ne]; exact fun e => hz e.symm
    simp only [Value.isStr, this, hz, if_false]
    exact T.2 z
theorem tab_t {es : List DictEntry} {t t' : Str → Option D} (T : TabOk es t) (e : t = t') : TabOk es t' := e ▸ T
example (P : Params) (a b : Tok) : PySem.W.KeysLit P [⟨PyData.keyHash P "plain", .str "plain" a, .int 1 b⟩, ⟨PyData.keyHash P "x", .str "x" a, .int 1 b⟩] := by
  ((repeat (unfold PySem.W.KeysLit; refine ⟨⟨_, _, rfl, rfl⟩, ?_⟩)); first | trivial | (unfold PySem.W.KeysLit; trivial))
end FX
set_option Elab.async false
set_option linter.all false
set_option maxRecDepth 100000
set_option maxHeartbeats 1000000
namespace FX
open PySem PySem.Spec L2
structure Pool where
  c : Int
  g : Bool
  k : Int
structure Dk where
  ps : List Pool
  i : Nat
def bi (b : Bool) : Int := if b = true then 1 else 0
def Pool.vs (p : Pool) : List V := [.int p.c, .int (bi p.g), .int p.k]
structure DkAt (d : Dk) (dp pp : Addr) (qs : List Addr) (H : Hp) : Prop where
  nd : (dp :: pp :: qs).Nodup
  od : H dp = some (.lst [.ref pp, .int (d.i : Nat)])
  op : H pp = some (.lst (qs.map V.ref))
  len : qs.length = d.ps.length
  oq : ∀ (j : Nat) (q : Addr) (p : Pool), qs[j]? = some q → d.ps[j]? = some p → H q = some (.lst p.vs)
theorem DkAt.frame {d : Dk} {dp pp : Addr} {qs : List Addr} {H H' : Hp} (h : DkAt d dp pp qs H) (e : ∀ p ∈ dp :: pp :: qs, H' p = H p) : DkAt d dp pp qs H' :=
  ⟨h.nd, (e _ (by simp)).trans h.od, (e _ (by simp)).trans h.op, h.len, fun j q p a b => (e _ (by simp [List.mem_of_getElem? a])).trans (h.oq j q p a b)⟩
def DkY (K : PySem.W.Frag) (sa : Addr) (ns : List Int) : Sys where
  S := Option Dk
  rel := fun s _ et A H => match s with
    | none => et = [] ∧ (∀ p ∈ A, H p ≠ none ∧ ∀ xs, H p ≠ some (.tup xs)) ∧ ((sa ∈ A ∧ Rd H sa (.lst (ns.map V.int))) ∨ ∀ G, SqL K G sa (ns.map V.int)) ∧ ns.length ≤ 63
    | some d => ∃ dp pp qs, et = [dp] ∧ A = dp :: pp :: qs ∧ DkAt d dp pp qs H
  frame := fun {s F F' et A H H'} h _ e => by
    match s, h with
    | none, ⟨a, b, c, f⟩ =>
      refine ⟨a, fun p hp => ⟨by rw [e p hp]; exact (b p hp).1, fun xs => by rw [e p hp]; exact (b p hp).2 xs⟩, ?_, f⟩
      rcases c with ⟨c, r⟩ | c
      · refine .inl ⟨c, ?_⟩
        unfold Rd at r ⊢
        rw [e sa c]; exact r
      · exact .inr c
    | some d, ⟨dp, pp, qs, a, b, c⟩ => exact ⟨dp, pp, qs, a, b, c.frame fun p hp => e p (by rw [b]; exact hp)⟩
  live := fun {s F et A H} h => by
    match s, h with
    | none, ⟨a, b, c, f⟩ => exact fun p hp => (b p hp).1
    | some d, ⟨dp, pp, qs, a, b, c⟩ =>
      subst b
      intro p hp
      rcases List.mem_cons.mp hp with rfl | hp
      · rw [c.od]; exact fun z => nomatch z
      rcases List.mem_cons.mp hp with rfl | hp
      · rw [c.op]; exact fun z => nomatch z
      · obtain ⟨j, hj⟩ := List.getElem?_of_mem hp
        have hl := (List.getElem?_eq_some_iff.mp hj).1
        have hp2 : d.ps[j]? = some (d.ps[j]'(by rw [← c.len]; exact hl)) := List.getElem?_eq_getElem _
        rw [c.oq j _ _ hj hp2]; exact fun z => nomatch z
  notup := fun {s F et A H} h => by
    match s, h with
    | none, ⟨a, b, c, f⟩ => exact fun p hp => (b p hp).2
    | some d, ⟨dp, pp, qs, a, b, c⟩ =>
      subst b
      intro p hp xs
      rcases List.mem_cons.mp hp with rfl | hp
      · rw [c.od]; exact fun z => nomatch z
      rcases List.mem_cons.mp hp with rfl | hp
      · rw [c.op]; exact fun z => nomatch z
      · obtain ⟨j, hj⟩ := List.getElem?_of_mem hp
        have hl := (List.getElem?_eq_some_iff.mp hj).1
        have hp2 : d.ps[j]? = some (d.ps[j]'(by rw [← c.len]; exact hl)) := List.getElem?_eq_getElem _
        rw [c.oq j _ _ hj hp2]; exact fun z => nomatch z
theorem DkAt.put {d : Dk} {dp pp : Addr} {qs : List Addr} {H : Hp} (h : DkAt d dp pp qs H) {j : Nat} {q : Addr} {p : Pool} (hq : qs[j]? = some q) {H' : Hp} {n : Nat}
    (hd : H' dp = some (.lst [.ref pp, .int (n : Nat)])) (hH : H' q = some (.lst p.vs)) (ho : ∀ r, r ≠ dp → r ≠ q → H' r = H r) : DkAt ⟨d.ps.set j p, n⟩ dp pp qs H' := by
  have nd := h.nd
  have n1 := (List.nodup_cons.mp nd).1
  have n2 := (List.nodup_cons.mp nd).2
  have n3 := (List.nodup_cons.mp n2).1
  have n4 := (List.nodup_cons.mp n2).2
  have mq := List.mem_of_getElem? hq
  refine ⟨nd, hd, ?_, by simp [h.len], fun j' q' p' a b => ?_⟩
  · rw [ho pp (fun z => n1 (by rw [← z]; simp)) (fun z => n3 (by rw [z]; exact mq))]; exact h.op
  · by_cases e : j' = j
    · subst e
      rw [hq] at a; cases a
      have hl : j' < d.ps.length := by rw [← h.len]; exact (List.getElem?_eq_some_iff.mp hq).1
      simp only [List.getElem?_set_self hl] at b
      cases b; exact hH
    · have hne : q' ≠ q := fun z => by
        subst z
        obtain ⟨l1, e1⟩ := List.getElem?_eq_some_iff.mp hq
        obtain ⟨l2, e2⟩ := List.getElem?_eq_some_iff.mp a
        exact e ((List.getElem_inj n4).mp (e2.trans e1.symm))
      rw [ho q' (fun z => n1 (by rw [← z]; simp [List.mem_of_getElem? a])) hne]
      exact h.oq j' q' p' a (by rwa [List.getElem?_set_ne (fun z => e z.symm)] at b)
def poolOf (ns : List Int) (i : Nat) : Pool := ⟨(ns[i]?).getD 0, decide ((1000000000000000000 : Int) ≤ (ns[i]?).getD 0), 31 * (0 + (i : Nat))⟩
def manyOf (n : Nat) : Int := if (if (n : Int) < 63 then (n : Int) else 63) > 1 then (if (n : Int) < 63 then (n : Int) else 63) else 1
def deckOf (ns : List Int) : Dk := ⟨(List.range (manyOf ns.length).toNat).map (poolOf ns), 0⟩
structure DkLoop (ns : List Int) (H0 : Hp) (pp : Addr) (qs : List Addr) (i : Nat) (H : Hp) : Prop where
  sm : Same H0 H
  np : H0 pp = none
  nq : ∀ q ∈ qs, H0 q = none
  nd : (pp :: qs).Nodup
  len : qs.length = i
  op : H pp = some (.lst (qs.map V.ref))
  oq : ∀ (j : Nat) (q : Addr), qs[j]? = some q → H q = some (.lst (poolOf ns j).vs)
theorem DkLoop.end {K : PySem.W.Frag} {sa : Addr} {ns : List Int} {B : Hp} {w : Wo} {pp : Addr} {qs : List Addr} {H : Hp} (W : Wd (DkY K sa ns) B w none)
    (h : DkLoop ns w.H pp qs (manyOf ns.length).toNat H) {dp : Addr} (hd : H dp = none) :
    ∃ w' : Wo, w'.H = upd H dp (.lst [.ref pp, .int 0]) ∧ Wd (DkY K sa ns) B w' (some (deckOf ns)) ∧ w'.et = [dp] ∧ Le w w' := by
  have h0 : w.H dp = none := by
    cases e0 : w.H dp with
    | none => rfl
    | some o => rw [h.sm dp o e0] at hd; cases hd
  have dpp : dp ≠ pp := fun z => by subst z; rw [h.op] at hd; cases hd
  have dq : dp ∉ qs := fun z => by
    obtain ⟨j, hj⟩ := List.getElem?_of_mem z
    rw [h.oq j dp hj] at hd; cases hd
  have sm : Same w.H (upd H dp (.lst [.ref pp, .int 0])) := fun r o er => by
    rw [upd_ne (fun z => by subst z; rw [h0] at er; cases er)]; exact h.sm r o er
  have et0 : w.et = [] := W.rel.1
  have new : ∀ p ∈ dp :: pp :: qs, w.H p = none := fun p hp => by
    rcases List.mem_cons.mp hp with rfl | hp
    · exact h0
    rcases List.mem_cons.mp hp with rfl | hp
    · exact h.np
    · exact h.nq p hp
  refine ⟨⟨w.F, dp :: pp :: qs, [dp], upd H dp (.lst [.ref pp, .int 0])⟩, rfl, ⟨W.sF.trans sm, W.sB.trans sm, W.dj, fun p hp => ⟨?_, ?_⟩, dp, pp, qs, rfl, rfl, ?_⟩, rfl, ⟨Same.refl _, [dp], by rw [et0]; rfl⟩⟩
  · cases e : w.F p with
    | none => rfl
    | some o => have := W.sF p o e; rw [new p hp] at this; cases this
  · cases e : B p with
    | none => rfl
    | some o => have := W.sB p o e; rw [new p hp] at this; cases this
  · refine ⟨List.nodup_cons.mpr ⟨fun z => ?_, h.nd⟩, upd_same, ?_, ?_, fun j q p a b => ?_⟩
    · rcases List.mem_cons.mp z with z | z
      · exact dpp z
      · exact dq z
    · exact (upd_ne (Ne.symm dpp)).trans h.op
    · simp [deckOf, h.len]
    · have hm := List.mem_of_getElem? a
      refine ((upd_ne (fun z => dq (by rw [← z]; exact hm))).trans (h.oq j q a)).trans ?_
      have hj := (List.getElem?_eq_some_iff.mp a).1
      rw [h.len] at hj
      unfold deckOf at b
      simp only [List.getElem?_map, List.getElem?_range hj, Option.map_some, Option.some.injEq] at b
      rw [b]
end FX
set_option Elab.async false
set_option linter.all false
set_option maxRecDepth 100000
set_option maxHeartbeats 1000000
namespace FX
open PySem PySem.Spec L2
structure FnG (P : Program) (w : World) (K : PySem.W.Frag) (mg : Str → Option Value) (base : Heap) (CX : CXT) (k : Nat) (f : Addr) (fd : FuncData) (ps : List Str) (sp : Sp) : Prop where
  len : ∀ (vs : List V) (H : Hp) (Q : VK) (E : XK), sp vs H Q E → vs.length = ps.length
  run : ∀ (A : Around) (outer : List Env) (s : Shared) (H : Hp) (args : Args) (us : List Value) (vs : List V) (Q : VK) (E : XK), Room k A → A.guards = some [] → Env0 P w K mg base A outer s H →
    BindsTo s fd args (ps.zip us) → Vals vs us → sp vs H Q E → codeAny (model P w) A (.call (.ref f) args) (CR CX outer P w H s Q E) s
theorem FnG.of {P : Program} {w : World} {K : PySem.W.Frag} {mg : Str → Option Value} {base : Heap} {CX : CXT} {k : Nat} {f : Addr} {fd : FuncData} {ps : List Str} {sp : Sp} (F : FnOk P w K mg base CX k f fd ps sp) : FnG P w K mg base CX k f fd ps sp :=
  ⟨F.len, fun A outer s H args us vs Q E hr _ => F.run A outer s H args us vs Q E hr⟩
end FX
set_option Elab.async false
set_option linter.all false
set_option maxRecDepth 100000
set_option maxHeartbeats 1000000
namespace FX
open PySem PySem.Spec L2
end FX
set_option Elab.async false
set_option linter.all false
set_option maxRecDepth 100000
set_option maxHeartbeats 1000000
namespace FX
open PySem PySem.Spec L2
end FX
set_option Elab.async false
set_option linter.all false
set_option maxRecDepth 100000
set_option maxHeartbeats 1000000
namespace FX
open PySem PySem.Spec L2
section
variable {K : PySem.W.Frag}
theorem Sh.rp {F H : Hp} (e : Same F H) {x : V} : ∀ {d : D}, Sh K F H x d → Rp K H x d
  | .none, h => Rp.mono e h
  | .bool _, h => Rp.mono e h
  | .int _, h => Rp.mono e h
  | .str _, h => Rp.mono e h
  | .dict _, h => Rp.mono e h
  | .list _, ⟨p, xs, hx, a, b⟩ => by subst hx; exact .lst a (b.mono e)
  | .tuple _, ⟨p, xs, hx, a, b⟩ => by subst hx; exact .tup (e _ _ a) (b.mono e)
end
end FX
set_option Elab.async false
set_option linter.all false
set_option maxRecDepth 100000
set_option maxHeartbeats 1000000
namespace FX
open PySem PySem.Spec L2
section
variable {K : PySem.W.Frag}
def fTup : List D → Option Rz
  | [.list ds] => some (.nw (.tuple ds))
  | [.tuple ds] => some (.old (.tuple ds))
  | _ => none
abbrev rTupO (K : PySem.W.Frag) : List V → Hp → VK → Prop := fun xs H Q => ∃ p ys, xs = [.ref p] ∧ ((SqL K H p ys ∧ ∀ l, H l = none → Q (.ref l) (upd H l (.tup ys))) ∨ (SqT K H p ys ∧ Q (.ref p) H))
theorem s_tup : OpN K (rTupO K) fTup := by
  intro F H xs ds z Q sF hx h q
  unfold fTup at h
  split at h
  · cases h
    cases hx with
    | cons a b =>
      cases b
      obtain ⟨p, xs, rfl, e1, a1⟩ := a
      exact ⟨p, xs, rfl, .inl ⟨.of e1, fun l nl => q l _ nl a1⟩⟩
  · cases h
    cases hx with
    | cons a b =>
      cases b
      obtain ⟨p, xs, rfl, e1, a1⟩ := a
      exact ⟨p, xs, rfl, .inr ⟨.of (sF _ _ e1), q _ (.tup e1 a1)⟩⟩
  · cases h
def fRev : D → Option Rz
  | .list ds => some (.nw (.list ds.reverse))
  | _ => none
def rRev (K : PySem.W.Frag) : V → Hp → VK → Prop := fun x H Q => ∃ a xs, x = .ref a ∧ SqL K H a xs ∧ ∀ p, H p = none → Q (.ref p) (upd H p (.lst xs.reverse))
theorem s_rev : Op1 K (rRev K) fRev := by
  intro F H x d z Q sF hx h q
  unfold fRev at h
  split at h
  · cases h
    obtain ⟨p, xs, rfl, e1, a1⟩ := hx
    exact ⟨p, xs, rfl, .of e1, fun l nl => q l _ nl a1.rev⟩
  · cases h
end
section
variable {Y : Sys} {X : Cx} {W : WX} {e o : Expr} {pos p2 p3 p1 apos cpos : Pos} {te : TE} {ge : GE Y} {k : Nat} {K : PySem.W.Frag}
theorem me_rev (hK : X.K = K) (h : ME Y X W e te ge) : ME Y X W (.Subscript e (.Slice none none (some (.UnaryOp .USub (.Constant (.int 1) k p1) p2)) p3) pos) (tUn (rRev K) te) (gUn fRev ge) := by
  subst hK
  exact ⟨pe_revL h.pe, eok_un s_rev h.ok⟩
end
end FX
set_option Elab.async false
set_option linter.all false
set_option maxRecDepth 100000
set_option maxHeartbeats 1000000
namespace FX
open PySem PySem.Spec L2
section
variable {K : PySem.W.Frag}
def bls? : List D → Option (List Bool)
  | [] => some []
  | .bool b :: r => match bls? r with
    | some l => some (b :: l)
    | none => none
  | _ :: _ => none
theorem bls_of {F : Hp} : ∀ {ds : List D} {xs : List V} {bs : List Bool}, RpA K F xs ds → bls? ds = some bs → xs = bs.map V.bl
  | [], _, _, h, e => by cases h; cases e; rfl
  | .bool b :: r, _, _, h, e => by
    unfold bls? at e
    split at e
    · rename_i l el
      cases e
      cases h with
      | cons a c => cases a; rw [bls_of c el]; rfl
    · cases e
  | .none :: _, _, _, _, e => by cases e
  | .int _ :: _, _, _, _, e => by cases e
  | .str _ :: _, _, _, _, e => by cases e
  | .list _ :: _, _, _, _, e => by cases e
  | .tuple _ :: _, _, _, _, e => by cases e
  | .dict _ :: _, _, _, _, e => by cases e
def fAll : List D → Option Rz
  | [.list ds] => match bls? ds with
    | some bs => some (.nw (.bool (bs.all id)))
    | none => none
  | _ => none
theorem s_all : OpN K (rAll K) fAll := by
  intro F H xs ds z Q sF hx h q
  unfold fAll at h
  split at h
  · split at h
    · rename_i bs eb
      cases h
      cases hx with
      | cons a b =>
        cases b
        obtain ⟨p, ys, rfl, e, r⟩ := a
        have := bls_of r eb
        subst this
        exact ⟨p, bs, rfl, .of e, q _ (.bl _)⟩
    · cases h
  · cases h
def tkey1? : D → Option Key
  | .int i => some (.inl i)
  | .str z => some (.inr z)
  | _ => none
def tkeys? : List D → Option (List Key)
  | [] => some []
  | d :: ds => match tkey1? d, tkeys? ds with
    | some k, some l => some (k :: l)
    | _, _ => none
def tkey? : D → Option (List Key)
  | .tuple ds => tkeys? ds
  | _ => none
theorem tkey1_d : ∀ k : Key, tkey1? (keyD k) = some k
  | .inl _ => rfl
  | .inr _ => rfl
theorem tkeys_d : ∀ k : List Key, tkeys? (k.map keyD) = some k
  | [] => rfl
  | a :: r => by simp only [List.map_cons, tkeys?, tkey1_d, tkeys_d r]
theorem tkey_d (k : List Key) : tkey? (keyT k) = some k := tkeys_d k
def isKey (k : List Key) (y : D) : Bool := decide (tkey? y = some k)
def dGet (kvs : List (D × D)) (k : List Key) : Option D := (kvs.find? fun kv => isKey k kv.1).map (·.2)
def dPut (kvs : List (D × D)) (k : List Key) (d : D) : List (D × D) :=
  if (kvs.any fun kv => isKey k kv.1) = true then kvs.map (fun kv => if isKey k kv.1 = true then (kv.1, d) else kv) else kvs ++ [(keyT k, d)]
theorem isKey_T (k j : List Key) : isKey k (keyT j) = decide (j = k) := by
  unfold isKey
  rw [tkey_d]
  simp only [Option.some.injEq]
theorem RpT.len {F : Hp} : ∀ {es : List (List Key × V)} {kvs : List (D × D)}, RpT K F es kvs → es.length = kvs.length
  | _, _, .nil => rfl
  | _, _, .cons _ b => by simp only [List.length_cons, RpT.len b]
theorem RpT.any {F : Hp} (k : List Key) : ∀ {es : List (List Key × V)} {kvs : List (D × D)}, RpT K F es kvs → (es.any fun kv => decide (kv.1 = k)) = kvs.any fun kv => isKey k kv.1
  | _, _, .nil => rfl
  | _, _, .cons _ b => by
    simp only [List.any_cons, isKey_T, RpT.any k b]
theorem RpT.get {F : Hp} (k : List Key) : ∀ {es : List (List Key × V)} {kvs : List (D × D)}, RpT K F es kvs → match dGet kvs k with
    | some d => ∃ v, valV es k = some v ∧ Rp K F v d
    | none => valV es k = none
  | _, _, .nil => rfl
  | _, _, .cons (k := j) (v := v) (d := d) (es := es) (kvs := kvs) a b => by
    have ih := RpT.get k b
    by_cases e : j = k
    · have h1 : dGet ((keyT j, d) :: kvs) k = some d := by
        unfold dGet
        simp [List.find?_cons, isKey_T, e]
      rw [h1]
      exact ⟨v, valV_pos e, a⟩
    · have h1 : dGet ((keyT j, d) :: kvs) k = dGet kvs k := by
        unfold dGet
        simp [List.find?_cons, isKey_T, e]
      rw [h1, valV_neg (p := (j, v)) e]
      exact ih
theorem RpT.map {F : Hp} (k : List Key) {x : V} {d : D} (h : Rp K F x d) : ∀ {es : List (List Key × V)} {kvs : List (D × D)}, RpT K F es kvs →
    RpT K F (es.map fun kv => if kv.1 = k then (kv.1, x) else kv) (kvs.map fun kv => if isKey k kv.1 = true then (kv.1, d) else kv)
  | _, _, .nil => .nil
  | _, _, .cons (k := j) (v := v) (d := d') (es := es) (kvs := kvs) a b => by
    simp only [List.map_cons, isKey_T]
    by_cases e : j = k
    · simp only [e, decide_true, if_true]
      exact .cons h (RpT.map k h b)
    · simp only [e, decide_false, if_false]
      exact .cons a (RpT.map k h b)
theorem RpT.snoc {F : Hp} {k : List Key} {x : V} {d : D} (h : Rp K F x d) : ∀ {es : List (List Key × V)} {kvs : List (D × D)}, RpT K F es kvs → RpT K F (es ++ [(k, x)]) (kvs ++ [(keyT k, d)])
  | _, _, .nil => .cons h .nil
  | _, _, .cons a b => .cons a (RpT.snoc h b)
theorem RpT.put {F : Hp} {k : List Key} {x : V} {d : D} (h : Rp K F x d) {es : List (List Key × V)} {kvs : List (D × D)} (r : RpT K F es kvs) : RpT K F (putK es k x) (dPut kvs k d) := by
  unfold putK dPut
  rw [r.any k]
  by_cases e : (kvs.any fun kv => isKey k kv.1) = true
  · rw [if_pos e, if_pos e]; exact r.map k h
  · rw [if_neg e, if_neg e]; exact r.snoc h
end
end FX
set_option Elab.async false
set_option linter.all false
set_option maxRecDepth 100000
set_option maxHeartbeats 1000000
namespace FX
open PySem PySem.Spec L2
end FX
set_option Elab.async false
set_option linter.all false
set_option maxRecDepth 100000
set_option maxHeartbeats 2000000
namespace FX
open PySem PySem.Spec L2
end FX
set_option Elab.async false
set_option linter.all false
set_option maxRecDepth 100000
set_option maxHeartbeats 2000000
namespace FX
open PySem PySem.Spec L2
structure ErC (K : PySem.W.Frag) (n : Str) (C : Addr) : Prop where
  cn : Cn K n (.ref C)
  x : PySem.W.excIn K C [.type "ValueError", .type "Exception", .type "BaseException", .type "object"] "ValueError.__new__" = true
  k : PySem.W.keepIn K (.ref C) = true
  b : PySem.W.subIn K (.ref C) (.type "BaseException") = some true
  t : PySem.W.typeIn K (.ref C) = some (.type "type")
  e : ExcC K C
section
variable {Y : Sys} {X : Cx} {W : WX}
theorem ms_raiseN {n m : Str} {C : Addr} {j : Nat} {p p2 pos pos2 : Pos} (hc : X.calm = true) (tk : Takes X W) (T : ErC X.K n C) (gC : X.mg n = some (.ref C)) (hg : Gl X n) (hd : (n == ("__debug__" : Str)) = false := by decide) :
    MS Y X W (.Raise (some (.Call (.Name n p) [.Constant (.str m) j p2] [] pos)) none pos2) (fun _ σ H => W (.ref C) none σ H) (sRaise n) :=
  ms_raise T.cn (ps_raise hc tk (pmk_own PySem.F.excBase_ValueError T.x gC T.k (raises_own T.b T.t) hg hd))
end
end FX
set_option Elab.async false
set_option linter.all false
set_option maxRecDepth 100000
set_option maxHeartbeats 2000000
namespace FX
open PySem PySem.Spec L2
end FX
namespace FX
open PySem PySem.Spec L2
end FX
set_option Elab.async false
set_option linter.all false
set_option maxRecDepth 100000
set_option maxHeartbeats 1000000
namespace FX
open PySem PySem.Spec L2
def fAbs : List D → Option Rz
  | [.int i] => some (.nw (.int (if i < 0 then -i else i)))
  | _ => none
theorem s_abs {K : PySem.W.Frag} : OpN K (fun xs H Q => ∃ i, xs = [.int i] ∧ Q (.int (if i < 0 then -i else i)) H) fAbs := by
  intro F H xs ds z Q sF hx h q
  unfold fAbs at h
  split at h
  · cases h
    cases hx with
    | cons a b =>
      cases b
      cases sh_int a
      exact ⟨_, rfl, nw_int q⟩
  · cases h
end FX
set_option Elab.async false
set_option linter.all false
set_option maxRecDepth 100000
set_option maxHeartbeats 1000000
namespace FX
open PySem PySem.Spec L2
end FX
namespace FX
open PySem PySem.Spec L2
end FX
set_option Elab.async false
set_option linter.all false
set_option maxRecDepth 100000
set_option maxHeartbeats 1000000
namespace FX
open PySem PySem.Spec L2
end FX
set_option Elab.async false
set_option linter.all false
set_option maxRecDepth 100000
set_option maxHeartbeats 1000000
namespace FX
open PySem PySem.Spec L2
end FX
set_option Elab.async false
set_option linter.all false
set_option maxRecDepth 100000
set_option maxHeartbeats 1000000
namespace FX
open PySem PySem.Spec L2
theorem RpT.keys {K : PySem.W.Frag} {F : Hp} : ∀ {es : List (List Key × V)} {kvs : List (D × D)}, RpT K F es kvs → es.map (fun p => keyT p.1) = kvs.map (·.1)
  | _, _, .nil => rfl
  | _, _, .cons _ b => by simp [RpT.keys b]
end FX
set_option Elab.async false
set_option linter.all false
set_option maxRecDepth 100000
set_option maxHeartbeats 1000000
namespace FX
open PySem PySem.Spec L2
section
variable {Y : Sys} {X : Cx} {K : PySem.W.Frag} {W : WX} {e o : Expr} {pos p apos cpos : Pos} {ge : GE Y} {te : TE} {i j : Nat}
theorem AOk.goS {B : Hp} {w : Wo} {σ : St} {Γ : Ev} {s : Y.S} {D : Ends} {t : TA} {g : GA Y} (h : AOk Y K W t g) (Wh : Wd Y B w s) (N : EnvR K B w σ Γ) {k : List R → Ev → Y.S → Option (Fl × Ev × Y.S)} {out : Fl × Ev × Y.S} {Q : List V → Hp → Prop}
    (e : bdS g k Γ s = some out) (p : PoS Y K W B w D out)
    (c : ∀ rs Γ1 s1 xs w1, Wd Y B w1 s1 → EnvR K B w1 σ Γ1 → Le w w1 → RsA K B w1 σ Γ1 xs rs → k rs Γ1 s1 = some out → PoS Y K W B w1 D out → Q xs w1.H) : t σ w.H Q := by
  unfold bdS at e
  cases eg : g Γ s with
  | none => rw [eg] at e; cases e
  | some o =>
    obtain ⟨o, Γ1, s1⟩ := o
    rw [eg] at e
    cases o with
    | ok r => exact h B w σ Γ s _ Q Wh N eg fun w1 W1 N1 l x r1 => c r Γ1 s1 x w1 W1 N1 l r1 e (p.le l)
    | er z =>
      cases e
      exact h B w σ Γ s _ Q Wh N eg fun w1 W1 N1 l => p w1 σ W1 N1 l
end
end FX
set_option Elab.async false
set_option linter.all false
namespace FX
open PySem PySem.Spec L2
end FX
set_option Elab.async false
set_option linter.all false
set_option maxRecDepth 100000
set_option maxHeartbeats 1000000
namespace FX
open PySem PySem.Spec L2
end FX
set_option Elab.async false
set_option linter.all false
set_option maxRecDepth 100000
set_option maxHeartbeats 1000000
namespace FX
open PySem PySem.Spec L2
structure CeR (K : PySem.W.Frag) (sa : Addr) (ns : List Int) (s : List (List D)) (F : Hp) (et A : List Addr) (H : Hp) : Prop where
  len : et.length = s.length
  nd : et.Nodup
  at' : ∀ (k : Nat) (p : Addr) (ds : List D), et[k]? = some p → s[k]? = some ds → ∃ xs, H p = some (.lst xs) ∧ RpA K F xs ds
  n63 : ns.length ≤ 63
  sc : (A = sa :: et ∧ sa ∉ et ∧ Rd H sa (.lst (ns.map V.int))) ∨ (A = et ∧ ∀ G, SqL K G sa (ns.map V.int))
theorem CeR.sub {K : PySem.W.Frag} {sa : Addr} {ns : List Int} {s : List (List D)} {F : Hp} {et A : List Addr} {H : Hp} (h : CeR K sa ns s F et A H) {p : Addr} (hp : p ∈ et) : p ∈ A := by
  rcases h.sc with ⟨e, _, _⟩ | ⟨e, _⟩
  · rw [e]; exact List.mem_cons_of_mem _ hp
  · rw [e]; exact hp
theorem CeR.cell {K : PySem.W.Frag} {sa : Addr} {ns : List Int} {s : List (List D)} {F : Hp} {et A : List Addr} {H : Hp} (h : CeR K sa ns s F et A H) {p : Addr} (hp : p ∈ et) : ∃ xs, H p = some (.lst xs) := by
  obtain ⟨k, hk⟩ := List.getElem?_of_mem hp
  have hl := (List.getElem?_eq_some_iff.mp hk).1
  obtain ⟨xs, e, _⟩ := h.at' k p _ hk (List.getElem?_eq_getElem (by rw [← h.len]; exact hl))
  exact ⟨xs, e⟩
def ceSnoc (s : List (List D)) (ds : List D) : List (List D) := s ++ [ds]
theorem CeR.snoc {K : PySem.W.Frag} {sa : Addr} {ns : List Int} {s : List (List D)} {F : Hp} {et A : List Addr} {H : Hp} (rel : CeR K sa ns s F et A H) {q : Addr} {xs : List V} {ds : List D} (hq : H q = some (.lst xs)) (ra : RpA K F xs ds) (aq : q ∉ A) :
    CeR K sa ns (ceSnoc s ds) F (et ++ [q]) (A ++ [q]) H := by
  have qe : q ∉ et := fun z => aq (rel.sub z)
  unfold ceSnoc
  refine ⟨by simp [rel.len], List.nodup_append.mpr ⟨rel.nd, by simp, fun a ha b hb => ?_⟩, fun k p' ds' a b => ?_, rel.n63, ?_⟩
  · have : b = q := by simpa using hb
    subst this
    exact fun z => qe (by rw [← z]; exact ha)
  · by_cases hk : k < et.length
    · rw [List.getElem?_append_left hk] at a
      rw [List.getElem?_append_left (by rw [← rel.len]; exact hk)] at b
      exact rel.at' k p' ds' a b
    · rw [List.getElem?_append_right (by omega)] at a
      rw [List.getElem?_append_right (by rw [← rel.len]; omega)] at b
      have hz : k - et.length = 0 := by
        have := (List.getElem?_eq_some_iff.mp a).1
        simp at this; omega
      rw [hz] at a
      rw [← rel.len, hz] at b
      cases a; cases b
      exact ⟨xs, hq, ra⟩
  · rcases rel.sc with ⟨a, b, c⟩ | ⟨a, c⟩
    · refine .inl ⟨by rw [a]; rfl, fun z => ?_, c⟩
      rcases List.mem_append.mp z with z | z
      · exact b z
      · have : sa = q := by simpa using z
        subst this
        exact aq (by rw [a]; simp)
    · exact .inr ⟨by rw [a], c⟩
theorem CeR.put {K : PySem.W.Frag} {sa : Addr} {ns : List Int} {s : List (List D)} {F : Hp} {et A : List Addr} {H : Hp} (rel : CeR K sa ns s F et A H) {q : Addr} {k : Nat} {ys : List V} {ds es : List D} (hq : et[k]? = some q) (hs : s[k]? = some ds) (ra : RpA K F ys es) :
    CeR K sa ns (s.set k es) F et A (upd H q (.lst ys)) := by
  refine ⟨by rw [List.length_set]; exact rel.len, rel.nd, fun k' p' ds' a b => ?_, rel.n63, ?_⟩
  · by_cases hkk : k' = k
    · subst hkk
      rw [hq] at a; cases a
      have hl : k' < s.length := (List.getElem?_eq_some_iff.mp hs).1
      rw [List.getElem?_set_self hl] at b
      cases b
      exact ⟨ys, upd_same, ra⟩
    · rw [List.getElem?_set_ne (Ne.symm hkk)] at b
      have hne : p' ≠ q := fun z => by
        subst z
        obtain ⟨l1', e1'⟩ := List.getElem?_eq_some_iff.mp hq
        obtain ⟨l2', e2'⟩ := List.getElem?_eq_some_iff.mp a
        exact hkk ((List.getElem_inj rel.nd).mp (e2'.trans e1'.symm))
      rw [upd_ne hne]
      exact rel.at' k' p' ds' a b
  · rcases rel.sc with ⟨a, b, c⟩ | c
    · refine .inl ⟨a, b, ?_⟩
      have hne : sa ≠ q := fun z => b (by rw [z]; exact List.mem_of_getElem? hq)
      unfold Rd at c ⊢
      rw [upd_ne hne]; exact c
    · exact .inr c
end FX
set_option Elab.async false
set_option linter.all false
set_option maxRecDepth 100000
set_option maxHeartbeats 1000000
namespace FX
open PySem PySem.Spec L2
section
variable {sa : Addr} {ns : List Int} {X : Cx} {W : WX} {e o k : Expr} {pos p : Pos} {te tk : TE} {i : Nat} {K : PySem.W.Frag}
theorem rpa_ints {K : PySem.W.Frag} {F : Hp} : ∀ l : List Int, RpA K F (l.map V.int) (l.map PyData.int)
  | [] => .nil
  | a :: l => .cons (.int a) (rpa_ints l)
end
end FX
set_option Elab.async false
set_option linter.all false
set_option maxRecDepth 100000
set_option maxHeartbeats 1000000
namespace FX
open PySem PySem.Spec L2
def maxI : List Int → Int
  | [] => 0
  | [a] => a
  | a :: b :: l => if a < maxI (b :: l) then maxI (b :: l) else a
def minI : List Int → Int
  | [] => 0
  | [a] => a
  | a :: b :: l => if minI (b :: l) < a then minI (b :: l) else a
theorem maxI_ok : ∀ {l : List Int}, l ≠ [] → maxI l ∈ l ∧ ∀ y ∈ l, y ≤ maxI l
  | [], h => absurd rfl h
  | [a], _ => by simp [maxI]
  | a :: b :: l, _ => by
    obtain ⟨h1, h2⟩ := maxI_ok (l := b :: l) (by simp)
    unfold maxI
    split
    · rename_i c
      exact ⟨List.mem_cons_of_mem _ h1, fun y hy => by
        rcases List.mem_cons.mp hy with rfl | hy
        · omega
        · exact h2 y hy⟩
    · rename_i c
      exact ⟨List.mem_cons_self, fun y hy => by
        rcases List.mem_cons.mp hy with rfl | hy
        · omega
        · have := h2 y hy; omega⟩
theorem minI_ok : ∀ {l : List Int}, l ≠ [] → minI l ∈ l ∧ ∀ y ∈ l, minI l ≤ y
  | [], h => absurd rfl h
  | [a], _ => by simp [minI]
  | a :: b :: l, _ => by
    obtain ⟨h1, h2⟩ := minI_ok (l := b :: l) (by simp)
    unfold minI
    split
    · rename_i c
      exact ⟨List.mem_cons_of_mem _ h1, fun y hy => by
        rcases List.mem_cons.mp hy with rfl | hy
        · omega
        · exact h2 y hy⟩
    · rename_i c
      exact ⟨List.mem_cons_self, fun y hy => by
        rcases List.mem_cons.mp hy with rfl | hy
        · omega
        · have := h2 y hy; omega⟩
end FX
set_option Elab.async false
set_option linter.all false
set_option maxRecDepth 100000
set_option maxHeartbeats 1000000
namespace FX
open PySem PySem.Spec L2
end FX
set_option Elab.async false
set_option linter.all false
set_option maxRecDepth 100000
set_option maxHeartbeats 4000000
namespace Cmb
open PySem PySem.Spec
open Sem (wp)
open PyProof.Rows
open L2
end Cmb
set_option Elab.async false
set_option linter.all false
set_option maxRecDepth 100000
set_option maxHeartbeats 1000000
namespace FX
open PySem PySem.Spec L2
end FX
set_option Elab.async false
set_option linter.all false
set_option maxRecDepth 100000
set_option maxHeartbeats 1000000
namespace FX
open PySem PySem.Spec L2
abbrev Tri := (Int × Int) × Option Int
def wV : Option Int → V
  | some i => .int i
  | none => .non
section
variable {prog : Program} {w : World} {A : Around} {s : Shared}
def IsTri (h : Heap) (v : Value) (t : Tri) : Prop := ∃ a o u1 u2 wv n, v = .ref a ∧ h.get? a = some o ∧ o.cls = .type "tuple" ∧ o.data = .seq #[.int t.1.1 u1, .int t.1.2 u2, wv] n ∧ RelV (wV t.2) wv
theorem IsTri.keeps {h h' : Heap} {v : Value} {t : Tri} (p : IsTri h v t) (k : ∀ b o, h.get? b = some o → o.cls = .type "tuple" → h'.get? b = some o) : IsTri h' v t := by
  obtain ⟨a, o, t, u, wv, n, e, ho, hc, hd⟩ := p
  exact ⟨a, o, t, u, wv, n, e, k _ _ ho hc, hc, hd⟩
end
end FX
set_option Elab.async false
set_option linter.all false
set_option maxRecDepth 100000
set_option maxHeartbeats 1000000
namespace NK
open PySem
section
variable {prog : Program} {w : World} {K : Type} [DecidableEq K] (knd : KeyKind prog w K)
def IsNest (h : Heap) (k : K × List K) (a : Addr) : Prop := ∃ (o : Obj) (v : Value) (b : Addr) (n : Nat), h.get? a = some o ∧ o.cls = .type "tuple" ∧ o.data = .seq #[v, .ref b] n ∧ knd.is k.1 v = true ∧ IsTupleKey knd h k.2 b
variable {knd}
theorem IsNest.typeIs {s : Shared} {k : K × List K} {a : Addr} (x : IsNest knd s.heap k a) : s.TypeIs (.ref a) "tuple" := let ⟨o, _, _, _, ho, hc, _⟩ := x; ⟨o, ho, hc⟩
theorem IsNest.inj {h : Heap} {a : Addr} {x y : K × List K} (hx : IsNest knd h x a) (hy : IsNest knd h y a) : x = y := by
  obtain ⟨o, v, b, n, ho, _, hd, h1, h2⟩ := hx
  obtain ⟨o', v', b', n', ho', _, hd', h1', h2'⟩ := hy
  obtain rfl : o = o' := Option.some.inj (ho.symm.trans ho')
  rw [hd] at hd'
  injection hd' with e1 _
  simp at e1
  obtain ⟨rfl, rfl⟩ := e1
  exact Prod.ext (knd.inj _ _ _ h1 h1') (h2.inj h2')
theorem IsNest.keeps {h h' : Heap} {k : K × List K} {a d : Addr} {o : Obj} {es ep} (x : IsNest knd h k a) (ho : h.get? d = some o) (hd : o.data = .dict es ep) (hs : Heap.SameBut d h h') : IsNest knd h' k a := by
  obtain ⟨o', v, b, n, ho', hc, hd', h1, h2⟩ := x
  have hne : a ≠ d := by
    rintro rfl
    obtain rfl : o' = o := Option.some.inj (ho'.symm.trans ho)
    rw [hd] at hd'; exact nomatch hd'
  exact ⟨o', v, b, n, (hs.2 a hne).trans ho', hc, hd', h1, h2.keeps ho hd hs⟩
def nestHash (knd : KeyKind prog w K) (k : K × List K) : Int := reduceHash (Builtin.Tuple.tupleHashOf [knd.hash k.1, tupleKeyHash knd k.2])
variable {A : Around} {E : Value → Shared → Prop} {s : Shared}
theorem wpAny_pyHash_nest {k : K × List K} {a : Addr} {Q : Int → Shared → Prop} (hu : A.units + 1 < cLine) (hk : IsNest knd s.heap k a) (h : Q (nestHash knd k) { s with toks := s.toks + (k.2.length + 3) }) :
    wpAny (model prog w) A (pyHash (.ref a)) Q E s := by
  have hT := hk.typeIs
  obtain ⟨o, v, b, n, ho, _, hd, h1, h2⟩ := hk
  unfold pyHash
  first | unfold pyHashByItsType | skip
  first | refine wpAny_bind (wpAny_cRoomFor_or (.inr (Nat.lt_of_succ_lt hu)) ?_) | skip
  refine wpAny_bind (wpAny_specialOf hT F.slot_tuple_hash.lookup ?_)
  show wpAny _ _ (if (some (Value.builtin "tuple.__hash__") == some Value.none) = true then _ else _) Q E s
  rw [if_neg (by rw [beq_builtin_none]; exact Bool.false_ne_true)]
  refine wpAny_bind (wpAny_specialOf hT F.slot_tuple_hash.lookup ?_)
  show wpAny _ _ (callSpecialIfBoundUnlessNone? (.ref a) "__hash__" _ >>= _) Q E s
  refine wpAny_bind (wpAny_callSpecialIfBoundUnlessNone?_slot hT F.slot_tuple_hash (wpAny_call_entry F.slot_tuple_hash hT F.entry_tuple_hash ?_ (F.args_tuple_hash_1 _)))
  show wpAny _ _ (Builtin.Tuple.tupleItemsOf (.ref a) >>= _) _ _ s
  refine wpAny_bind (wpAny_tupleItemsOf ho hd ?_)
  refine wpAny_bind ?_
  rw [← Array.forIn_toList]
  refine wpAny_forIn_list _
    (fun rest (c : Array Int) s' => (rest = [v, .ref b] ∧ c.toList = [] ∧ s' = s) ∨ (rest = [.ref b] ∧ c.toList = [knd.hash k.1] ∧ s' = { s with toks := s.toks + 1 }) ∨
      (rest = [] ∧ c.toList = [knd.hash k.1, tupleKeyHash knd k.2] ∧ s' = { s with toks := s.toks + 1 + (k.2.length + 1) }))
    _ ?_ ?_ _ _ (.inl ⟨rfl, rfl, rfl⟩)
  · rintro x rest c s' (⟨e, hb, rfl⟩ | ⟨e, hb, rfl⟩ | ⟨e, hb, rfl⟩)
    · cases e
      refine wpAny_bind (knd.pyHash h1 ?_)
      first
        | exact wpAny_pure (.inr (.inl ⟨rfl, by simp [hb], rfl⟩))
        | exact wpAny_bind (wpAny_pure (wpAny_pure (.inr (.inl ⟨rfl, by simp [hb], rfl⟩))))
    · cases e
      refine wpAny_bind (wpAny_pyHash_tuple ?_ h2 ?_)
      · first | exact hu | exact Nat.lt_of_succ_lt hu
      first
        | exact wpAny_pure (.inr (.inr ⟨rfl, by simp [hb], rfl⟩))
        | exact wpAny_bind (wpAny_pure (wpAny_pure (.inr (.inr ⟨rfl, by simp [hb], rfl⟩))))
    · cases e
  · rintro c s' (⟨e, hb, rfl⟩ | ⟨e, hb, rfl⟩ | ⟨e, hb, rfl⟩)
    · cases e
    · cases e
    show wpAny _ _ (retInt (Builtin.Tuple.tupleHashOf c.toList)) _ _ _
    rw [hb]
    have et : s.toks + 1 + (k.2.length + 1) + 1 = s.toks + (k.2.length + 3) := by omega
    refine wpAny_ret_mkInt ?_
    show wpAny _ _ (if (decide (-(2 : Int) ^ 63 ≤ Builtin.Tuple.tupleHashOf [knd.hash k.1, tupleKeyHash knd k.2]) && decide (Builtin.Tuple.tupleHashOf [knd.hash k.1, tupleKeyHash knd k.2] < 2 ^ 63)) = true then _ else _) Q E _
    unfold nestHash reduceHash at h
    by_cases hr : (decide (-(2 : Int) ^ 63 ≤ Builtin.Tuple.tupleHashOf [knd.hash k.1, tupleKeyHash knd k.2]) && decide (Builtin.Tuple.tupleHashOf [knd.hash k.1, tupleKeyHash knd k.2] < 2 ^ 63)) = true
    · rw [if_pos hr]
      rw [if_pos hr] at h
      exact wpAny_pure (by simpa only [et] using h)
    · rw [if_neg hr]
      rw [if_neg hr] at h
      exact wpAny_bind (wpAny_rule (wpAny_pure (by simpa only [et] using h)))
theorem nest_eq_tree {x y : K × List K} {a b : Addr} {P : Fin → Shared → Prop} (hu : A.units < cLine) (hx : IsNest knd s.heap x a) (hy : IsNest knd s.heap y b) (h : P (.done (.ret (.bool (decide (x = y))))) s) :
    wpAny (model prog w) A (Builtin.«tuple.__eq__» ⟨[.ref a, .ref b], []⟩) P E s := by
  have hTb := hy.typeIs
  obtain ⟨oa, va, ba, na, hoa, _, hda, hia, hja⟩ := hx
  obtain ⟨ob, vb, bb, nb, hob, _, hdb, hib, hjb⟩ := hy
  show wpAny _ _ (isInstance (.ref b) (.type "tuple") >>= _) _ _ s
  refine wpAny_bind (wpAny_isInstance hTb isSubtype_tuple_tuple ?_)
  simp only [Bool.not_true, Bool.false_eq_true, if_false]
  refine wpAny_bind (wpAny_tupleItemsOf hoa hda ?_)
  refine wpAny_bind (wpAny_tupleItemsOf hob hdb ?_)
  refine wpAny_bind ?_
  refine wpAny_forIn_list _
    (fun rest r s' => r.1 = none ∧ s' = s ∧ ((rest = [(va, vb), (.ref ba, .ref bb)]) ∨ (rest = [(.ref ba, .ref bb)] ∧ x.1 = y.1) ∨ (rest = [] ∧ x.1 = y.1 ∧ x.2 = y.2)))
    _ ?_ ?_ _ _ ⟨rfl, rfl, .inl rfl⟩
  · rintro ⟨u, v⟩ rest r s' ⟨hr, rfl, e | ⟨e, e1⟩ | ⟨e, _⟩⟩
    · cases e
      refine wpAny_bind (knd.eqBool (a := x.1) (b := y.1) hia hib ?_)
      by_cases hk : x.1 = y.1
      · rw [decide_eq_true hk]
        simp only [Bool.not_true, Bool.false_eq_true, if_false]
        exact wpAny_pure ⟨rfl, rfl, by simp [hk]⟩
      · rw [decide_eq_false hk]
        simp only [Bool.not_false, if_true]
        have hf : decide (x = y) = false := decide_eq_false fun z => hk (by rw [z])
        rw [hf] at h
        exact wpAny_bind (wpAny_pure (wpAny_pure (wpAny_pure h)))
    · cases e
      refine wpAny_bind (wpAny_eqBool_tuple (x := x.2) (y := y.2) ?_ hja hjb ?_)
      · exact hu
      by_cases hk : x.2 = y.2
      · rw [decide_eq_true hk]
        simp only [Bool.not_true, Bool.false_eq_true, if_false]
        exact wpAny_pure ⟨rfl, rfl, by simp [e1, hk]⟩
      · rw [decide_eq_false hk]
        simp only [Bool.not_false, if_true]
        have hf : decide (x = y) = false := decide_eq_false fun z => hk (by rw [z])
        rw [hf] at h
        exact wpAny_bind (wpAny_pure (wpAny_pure (wpAny_pure h)))
    · cases e
  · rintro ⟨r1, r2⟩ s' ⟨hr, rfl, e | ⟨e, e1⟩ | ⟨e, e1, e2⟩⟩
    · cases e
    · cases e
    simp only at hr
    subst hr
    refine wpAny_pure ?_
    have : decide (x = y) = true := decide_eq_true (Prod.ext e1 e2)
    rw [this] at h
    exact h
theorem wpAny_eqBool_nest {x y : K × List K} {a b : Addr} {Q : Bool → Shared → Prop} (hu : A.units + 1 < cLine) (hx : IsNest knd s.heap x a) (hy : IsNest knd s.heap y b) (h : Q (decide (x = y)) s) :
    wpAny (model prog w) A (eqBool (.ref a) (.ref b)) Q E s := by
  unfold eqBool
  try with_reducible refine wpAny_holding ?_
  show wpAny _ _ (if (Value.ref a == Value.ref b) = true then _ else _) Q E s
  by_cases hab : (Value.ref a == Value.ref b) = true
  · rw [if_pos hab]
    have e : a = b := by have := eq_of_beq hab; injection this
    subst e
    obtain rfl := hx.inj hy
    exact wpAny_bind (wpAny_rule (wpAny_pure (by simpa using h)))
  · rw [if_neg hab]
    exact wpAny_bind (wpAny_richCompare_same_room (op := .Eq) hx.typeIs hy.typeIs F.slot_tuple_eq
      (wpAny_call_entry F.slot_tuple_eq hx.typeIs F.entry_tuple_eq (nest_eq_tree hu hx hy ⟨_, rfl, (fun e => nomatch e), wpAny_truthy_bool h⟩) (F.args_tuple_eq_2 _ _)) (Nat.lt_of_succ_lt hu))
theorem wpAny_eqIsQuiet_tup (m : Nat) {ks : List K} {a : Addr} {Q : Bool → Shared → Prop} (hk : IsTupleKey knd s.heap ks a) (h : Q true s) : wpAny (model prog w) A (eqIsQuiet (m + 1) (.ref a)) Q E s := by
  have hT := hk.typeIs
  obtain ⟨o, items, n, ho, _, hd, hi⟩ := hk
  unfold eqIsQuiet
  refine wpAny_bind (wpAny_specialOf hT F.slot_tuple_eq.lookup ?_)
  show wpAny _ _ (isInstance (.ref a) (.type "tuple") >>= _) _ _ s
  refine wpAny_bind (wpAny_isInstance hT isSubtype_tuple_tuple ?_)
  simp only [Bool.not_true, Bool.false_eq_true, if_false]
  refine wpAny_bind (wpAny_seqItems ho hd ?_)
  refine wpAny_bind ?_
  show wpAny _ _ (forIn items _ _) _ _ s
  rw [← Array.forIn_toList]
  refine wpAny_forIn_list _ (fun rest r s' => r.1 = none ∧ s' = s ∧ ∀ v ∈ rest, carriedByValue v = true) _ ?_ ?_ _ _ ⟨rfl, rfl, hi.byValue⟩
  · rintro v rest r s' ⟨hr, rfl, hall⟩
    rw [eqIsQuiet_byValue _ (hall v List.mem_cons_self)]
    refine wpAny_bind (wpAny_pure ?_)
    simp only [Bool.not_true, Bool.false_eq_true, if_false]
    exact wpAny_pure ⟨rfl, rfl, fun u hu' => hall u (List.mem_cons_of_mem _ hu')⟩
  · rintro ⟨r1, r2⟩ s' ⟨hr, rfl, _⟩
    simp only at hr
    subst hr
    exact wpAny_pure h
theorem wpAny_eqIsQuiet_nest {k : K × List K} {a : Addr} {Q : Bool → Shared → Prop} (hk : IsNest knd s.heap k a) (h : Q true s) : wpAny (model prog w) A (eqIsQuiet 8 (.ref a)) Q E s := by
  have hT := hk.typeIs
  obtain ⟨o, v, b, n, ho, _, hd, h1, h2⟩ := hk
  unfold eqIsQuiet
  refine wpAny_bind (wpAny_specialOf hT F.slot_tuple_eq.lookup ?_)
  show wpAny _ _ (isInstance (.ref a) (.type "tuple") >>= _) _ _ s
  refine wpAny_bind (wpAny_isInstance hT isSubtype_tuple_tuple ?_)
  simp only [Bool.not_true, Bool.false_eq_true, if_false]
  refine wpAny_bind (wpAny_seqItems ho hd ?_)
  refine wpAny_bind ?_
  show wpAny _ _ (forIn #[v, Value.ref b] _ _) _ _ s
  rw [← Array.forIn_toList]
  refine wpAny_forIn_list _ (fun rest r s' => r.1 = none ∧ s' = s ∧ (rest = [v, .ref b] ∨ rest = [.ref b] ∨ rest = [])) _ ?_ ?_ _ _ ⟨rfl, rfl, .inl rfl⟩
  · rintro u rest r s' ⟨hr, rfl, e | e | e⟩
    · cases e
      rw [eqIsQuiet_byValue _ (knd.byValue _ _ h1)]
      refine wpAny_bind (wpAny_pure ?_)
      simp only [Bool.not_true, Bool.false_eq_true, if_false]
      exact wpAny_pure ⟨rfl, rfl, by simp⟩
    · cases e
      refine wpAny_bind (wpAny_eqIsQuiet_tup _ h2 ?_)
      simp only [Bool.not_true, Bool.false_eq_true, if_false]
      exact wpAny_pure ⟨rfl, rfl, by simp⟩
    · cases e
  · rintro ⟨r1, r2⟩ s' ⟨hr, rfl, _⟩
    simp only at hr
    subst hr
    exact wpAny_pure h
end
def nestKind {prog : Program} {w : World} {K : Type} [DecidableEq K] (knd : KeyKind prog w K) : HeapKind prog w (K × List K) where
  is := IsNest knd
  hash := nestHash knd
  draws := fun k => k.2.length + 3
  room := fun A => A.units + 1 < cLine
  inj := fun hx hy => hx.inj hy
  keeps := fun x ho hd hs => x.keeps ho hd hs
  pyHash := fun hu hk h => wpAny_pyHash_nest hu hk h
  eqBool := fun hu hx hy h => wpAny_eqBool_nest hu hx hy h
  quiet := fun hk h => wpAny_eqIsQuiet_nest hk h
end NK
set_option Elab.async false
set_option linter.all false
set_option maxRecDepth 100000
set_option maxHeartbeats 1000000
namespace L2
open PySem PySem.Spec PyProof.Rows
abbrev NKey := Int × List Int
abbrev NEnt := NKey × Addr × Value
def nhash (k : NKey) : Int := reduceHash (Builtin.Tuple.tupleHashOf [hashInt k.1, reduceHash (Builtin.Tuple.tupleHashOf (k.2.map hashInt))])
def nEntry (x : NEnt) : DictEntry := ⟨nhash x.1, .ref x.2.1, x.2.2⟩
def NDictP (p : Addr) (xs : List NEnt) (h : Heap) : Prop := xs.length ≤ sizeLine ∧ (p == sysModules) = false ∧ ∃ (o : Obj) (es : Array DictEntry) (ep : Nat), h.get? p = some o ∧ o.ExactDict ∧ o.data = .dict es ep ∧ es.toList = xs.map nEntry ∧ (xs.map (·.1)).Nodup
def NDict (p : Addr) (xs : List NEnt) : HO := .ext (NDictP p xs)
def NKeyAt (H : Hp) (k : NKey) (a : Addr) : Prop := ∃ b, H a = some (.tup [.int k.1, .ref b]) ∧ H b = some (.tup (k.2.map V.int))
def NKeys (H : Hp) (xs : List NEnt) : Prop := ∀ x ∈ xs, NKeyAt H x.1 x.2.1
section
variable {P : Program} {w : World} {H : Hp} {h : Heap} {a p : Addr} {xs : List NEnt} {k : NKey}
theorem n_items {ks : List Int} {us : List Value} (r : Vals (ks.map V.int) us) : ItemsAre (intKind P w) ks us := by
  induction ks generalizing us with
  | nil => cases r; exact .nil
  | cons k ks ih =>
    cases r with
    | cons a b =>
      obtain ⟨t, rfl⟩ := a
      exact .cons (by simp [PySem.intKind, Value.isInt]) (ih b)
theorem n_key (ok : HOk P w H h) (e : NKeyAt H k a) : NK.IsNest (intKind P w) h k a := by
  obtain ⟨b, e1, e2⟩ := e
  obtain ⟨_, its, r, o, h1, h2, n, h3⟩ := (show ObjOk P w H h a (.tup _) from ok a _ e1)
  obtain ⟨_, its2, r2, o2, g1, g2, n2, g3⟩ := (show ObjOk P w H h b (.tup _) from ok b _ e2)
  cases r with
  | cons q1 r =>
    cases r with
    | cons q2 r =>
      cases r
      obtain ⟨t, rfl⟩ := q1
      cases (show _ = Value.ref b from q2)
      exact ⟨o, _, b, n, h1, h2, h3, by simp [PySem.intKind, Value.isInt], o2, its2.toArray, n2, g1, g2, g3, by simpa using n_items r2⟩
theorem n_dict (ok : HOk P w H h) (e : H p = some (NDict p xs)) (ks : NKeys H xs) : xs.length ≤ sizeLine ∧ (p == sysModules) = false ∧ h.DictOfH (NK.nestKind (intKind P w)) p xs := by
  obtain ⟨⟨z, y, o, es, ep, h1, h2, h3, h4, h5⟩, _⟩ := (show ObjOk P w H h p (.ext _) from ok p _ e)
  exact ⟨z, y, o, es, ep, h1, h2, h3, h4, fun x hx => n_key ok (ks x hx), h5⟩
theorem n_ok {H' : Hp} (z : xs.length ≤ sizeLine) (y : (p == sysModules) = false) (d : h.DictOfH (NK.nestKind (intKind P w)) p xs) : ObjOk P w H' h p (NDict p xs) := by
  obtain ⟨o, es, ep, h1, h2, h3, h4, _, h5⟩ := d
  refine ⟨⟨z, y, o, es, ep, h1, h2, h3, h4, h5⟩, ⟨o, h1⟩, fun g1 g2 g st => ?_⟩
  obtain ⟨z, y, o, es, ep, h1, h2, h3, h4, h5⟩ := g
  exact ⟨z, y, o, es, ep, st _ h1, h2, h3, h4, h5⟩
theorem n_empty {H' : Hp} (h : Heap) (hb : sysModules < h.objs.size) : ObjOk P w H' (h.push { cls := .type "dict", data := .dict #[] }) h.objs.size (NDict h.objs.size []) :=
  n_ok (Nat.zero_le _) (beq_eq_false_iff_ne.mpr (Ne.symm (Nat.ne_of_lt hb))) ⟨_, #[], 0, Heap.get?_push_size _ rfl, ⟨rfl, rfl, rfl⟩, rfl, rfl, (fun x hx => nomatch hx), List.nodup_nil⟩
end
section
variable {X : Cx} {pins : List (Addr × Obj)} {σ : St} {H : Hp} {s : Shared} {p a : Addr} {xs : List NEnt} {k : NKey} {A : Around} {E : Value → Shared → Prop}
theorem n_room (hu : A.units + 2 < cLine) : (NK.nestKind (intKind X.prog X.w)).room A.in1 := hu
theorem n_getItem {q : Addr × Value} {Q : Value → Shared → Prop} (hu : A.units + 2 < cLine) (I : Inv X pins σ H s) (e : H p = some (NDict p xs)) (ks : NKeys H xs) (ek : NKeyAt H k a) (hq : atKey xs k = some q) (h : ∀ s', Inv X pins σ H s' → Q q.2 s') :
    wpAny (model X.prog X.w) A (getItem (.ref p) (.ref a)) Q E s := by
  obtain ⟨z, y, d⟩ := n_dict I.hok e ks
  exact wpAny_getItem_heap (n_room (X := X) hu) (n_key I.hok ek) d hq (h _ (I.tok _))
theorem n_notIn {Q : Value → Shared → Prop} (hu : A.units + 2 < cLine) (I : Inv X pins σ H s) (e : H p = some (NDict p xs)) (ks : NKeys H xs) (ek : NKeyAt H k a) (h : ∀ s', Inv X pins σ H s' → Q (.bool (!(atKey xs k).isSome)) s') :
    wpAny (model X.prog X.w) A (compareOp .NotIn (.ref a) (.ref p)) Q E s := by
  obtain ⟨z, y, d⟩ := n_dict I.hok e ks
  exact wpAny_notIn_heap (n_room (X := X) hu) (n_key I.hok ek) y d (h _ (I.tok _))
theorem n_setItem {v : Value} {Q : Unit → Shared → Prop} (hu : A.units + 2 < cLine) (I : Inv X pins σ H s) (e : H p = some (NDict p xs)) (ks : NKeys H xs) (ek : NKeyAt H k a) (hl : xs.length < sizeLine)
    (h : ∀ s', Inv X pins σ (upd H p (NDict p (storedH xs k a v))) s' → Q () s') : wpAny (model X.prog X.w) A (setItem (.ref p) (.ref a) v) Q E s := by
  obtain ⟨z, y, d⟩ := n_dict I.hok e ks
  refine wpAny_setItem_heap (hsz := z) (n_room (X := X) hu) (n_key I.hok ek) d fun h' d' hs => h _ ?_
  have he : ∃ q, h'.get? p = some q := let ⟨q, _, _, hq, _⟩ := d'; ⟨q, hq⟩
  have hl' : (storedH xs k a v).length ≤ sizeLine := by
    unfold storedH
    split <;> simp <;> omega
  exact d_write I (by rw [e]; exact True.intro) hs he (n_ok hl' y d')
end
def tNNew : TE := fun _ H Q => ∀ p, H p = none → Q (.ref p) (upd H p (NDict p []))
def NAt (H : Hp) (x y : V) (p a : Addr) (k : NKey) (xs : List NEnt) : Prop := x = .ref p ∧ y = .ref a ∧ H p = some (NDict p xs) ∧ NKeys H xs ∧ NKeyAt H k a
def tNGet (td ty : TE) : TE := fun σ H Q => td σ H fun x H1 => ty σ H1 fun y H2 => ∃ p a k xs q v, NAt H2 x y p a k xs ∧ atKey xs k = some q ∧ RelV v q.2 ∧ Q v H2
def tNNotIn (ty td : TE) : TE := fun σ H Q => ty σ H fun y H1 => td σ H1 fun x H2 => ∃ p a k xs, NAt H2 x y p a k xs ∧ Q (.bl (!(atKey xs k).isSome)) H2
def sNPut (td ty tv : TE) : TS := fun D σ H => tv σ H fun v H1 => td σ H1 fun x H2 => ty σ H2 fun y H3 => ∃ p a k xs, NAt H3 x y p a k xs ∧ xs.length < sizeLine ∧ ∀ u, RelV v u → D.nx σ (upd H3 p (NDict p (storedH xs k a u)))
section
variable {X : Cx} {o i e value : Expr} {pos pos' tpos : Pos} {td ty tv : TE}
theorem pe_nnew : PE X (.Dict [] [] pos) tNNew := ⟨fun pins s σ H Q I h =>
  wpAny_Dict_empty ⟨.ref s.heap.objs.size, _, I.laid (a := s.heap.objs.size) (o := NDict s.heap.objs.size []) (t' := s.toks) (fun _ _ q => Heap.get?_push_of_some _ q) (Nat.le_refl _) (n_empty s.heap I.big), rfl, h _ (I.hok.fresh (Nat.le_refl _))⟩⟩
theorem pe_nget (hu : X.A.units + 2 < cLine) (ho : PE X o td) (hi : PE X i ty) (hs : NoSl i) : PE X (.Subscript o i pos) (tNGet td ty) := by
  refine ⟨fun pins s σ H Q I h => ?_⟩
  refine subD_of PySem.F.slot_dict_getitem.lookup hs (thn (ho.run pins s σ H _ I h) fun u s1 ⟨x, H1, I1, rx, q1⟩ => thn (hi.run pins s1 σ H1 _ I1 q1) fun iv s2 ⟨y, H2, I2, ry, p, a, k, xs, q, v, ⟨ex, ey, e1, e2, e3⟩, hq, rv, q2⟩ => ?_)
  subst ex ey
  obtain rfl : u = Value.ref p := rx
  obtain rfl : iv = Value.ref a := ry
  exact ⟨(n_dict I2.hok e1 e2).2.2.typeIs, n_getItem hu I2 e1 e2 e3 hq fun s3 I3 => ⟨v, H2, I3, rv, q2⟩⟩
theorem pc_nnotin (hu : X.A.units + 2 < cLine) (hi : PE X i ty) (ho : PE X o td) : PC X .NotIn i o (tNNotIn ty td) := by
  refine ⟨fun pins s σ H Q I h => ?_⟩
  refine thn (hi.run pins s σ H _ I h) fun iv s1 ⟨y, H1, I1, ry, q1⟩ => thn (ho.run pins s1 σ H1 _ I1 q1) fun u s2 ⟨x, H2, I2, rx, p, a, k, xs, ⟨ex, ey, e1, e2, e3⟩, q2⟩ => ?_
  subst ex ey
  obtain rfl : u = Value.ref p := rx
  obtain rfl : iv = Value.ref a := ry
  exact n_notIn hu I2 e1 e2 e3 fun s3 I3 => ⟨.bl _, H2, I3, rfl, q2⟩
theorem ps_nput (hu : X.A.units + 2 < cLine) (ho : PE X o td) (hi : PE X i ty) (hv : PE X value tv) (hs : swapsWith value (some (.Subscript o i pos')) pos.line X.env = pure false) :
    PS X (.Assign [.Subscript o i pos'] value pos) (sNPut td ty tv) := by
  refine ⟨fun pins s σ H D I h => ?_⟩
  refine wpAny_Assign_Subscript (thn (hv.run pins s σ H _ I h) fun r s1 ⟨v, H1, I1, rv, q1⟩ => thn (ho.run pins s1 σ H1 _ I1 q1) fun u s2 ⟨x, H2, I2, rx, q2⟩ => thn (hi.run pins s2 σ H2 _ I2 q2) fun iv s3 ⟨y, H3, I3, ry, p, a, k, xs, ⟨ex, ey, e1, e2, e3⟩, hl, q3⟩ => ?_) hs
  subst ex ey
  obtain rfl : u = Value.ref p := rx
  obtain rfl : iv = Value.ref a := ry
  exact n_setItem hu I3 e1 e2 e3 hl fun s4 I4 => ⟨σ, _, I4, q3 r rv⟩
end
end L2
set_option Elab.async false
set_option linter.all false
set_option maxRecDepth 100000
set_option maxHeartbeats 1000000
namespace FX
open PySem PySem.Spec L2
inductive It where
  | d (d : D) | h (k : Nat) | e (n : Str)
inductive Cell where
  | lst (ds : List D)
  | tup (its : List It)
  | lsh (its : List It)
  | dT (kvs : List (D × D))
  | ins (c : Str) (fs : List (Str × It))
  | dN (kvs : List (NKey × Int))
def ItR (K : PySem.W.Frag) (F : Hp) (et : List Addr) (x : V) : It → Prop
  | .d d => Rp K F x d
  | .h k => ∃ p, et[k]? = some p ∧ x = .ref p
  | .e n => ∃ p cls, x = .ref p ∧ F p = some (ErO cls p) ∧ Cn K n cls
inductive ItA (K : PySem.W.Frag) (F : Hp) (et : List Addr) : List V → List It → Prop
  | nil : ItA K F et [] []
  | cons {x : V} {xs : List V} {i : It} {is : List It} : ItR K F et x i → ItA K F et xs is → ItA K F et (x :: xs) (i :: is)
def TabF (F H : Hp) (P : Addr) (q : Str) : Prop := ∃ ps : Array Value, H P = some (.tbl ps) ∧ TriplesOk ps.toList ∧ ∀ (pos : Pos) (cv : Value), codeAmong pos ps.toList = some cv → ∃ c, cv = .ref c ∧ F c = some (LamX.CodeO c q)
abbrev NVals (kvs : List (NKey × Int)) (xs : List NEnt) : Prop := Paired (fun (kv : NKey × Int) (x : NEnt) => kv.1 = x.1 ∧ ∃ t, x.2.2 = Value.int kv.2 t) kvs xs
theorem NKeyAt.mono {H H' : Hp} {k : NKey} {a : Addr} (e : Same H H') : NKeyAt H k a → NKeyAt H' k a := fun ⟨b, x, y⟩ => ⟨b, e _ _ x, e _ _ y⟩
theorem NKeys.mono {H H' : Hp} {xs : List NEnt} (e : Same H H') (h : NKeys H xs) : NKeys H' xs := fun x hx => NKeyAt.mono e (h x hx)
def CellR (K : PySem.W.Frag) (F : Hp) (et A : List Addr) (H : Hp) (p : Addr) : Cell → Prop
  | .lst ds => p ∈ A ∧ ∃ xs, H p = some (.lst xs) ∧ RpA K F xs ds
  | .tup its => ∃ xs, F p = some (.tup xs) ∧ ItA K F et xs its
  | .lsh its => p ∈ A ∧ ∃ xs, H p = some (.lst xs) ∧ ItA K F et xs its
  | .dT kvs => p ∈ A ∧ ∃ es, H p = some (.dT es) ∧ RpT K F es kvs
  | .dN kvs => p ∈ A ∧ ∃ xs, H p = some (NDict p xs) ∧ NKeys F xs ∧ NVals kvs xs
  | .ins c fs => p ∈ A ∧ ∃ (C dx : Addr) (es : List (Str × V)), Cn K c (.ref C) ∧ H p = some (.ins C dx es) ∧ H dx = some (.own p) ∧ dx ∈ A ∧ es.map (·.1) = fs.map (·.1) ∧ ItA K F et (es.map (·.2)) (fs.map (·.2))
section
variable {K : PySem.W.Frag} {F F' : Hp} {et et' A : List Addr} {H H' : Hp}
theorem ItR.mono (f : Same F F') (e : ∃ m, et' = et ++ m) {x : V} : ∀ {i : It}, ItR K F et x i → ItR K F' et' x i
  | .d _, h => Rp.mono f h
  | .h k, ⟨p, a, b⟩ => by
    obtain ⟨m, rfl⟩ := e
    refine ⟨p, ?_, b⟩
    rw [List.getElem?_append_left (List.getElem?_eq_some_iff.mp a).1]
    exact a
  | .e n, ⟨p, cls, a, b, c⟩ => ⟨p, cls, a, f _ _ b, c⟩
theorem ItA.mono (f : Same F F') (e : ∃ m, et' = et ++ m) : ∀ {xs : List V} {is : List It}, ItA K F et xs is → ItA K F' et' xs is
  | _, _, .nil => .nil
  | _, _, .cons a b => .cons (a.mono f e) (b.mono f e)
theorem ItA.length : ∀ {xs : List V} {is : List It}, ItA K F et xs is → xs.length = is.length
  | _, _, .nil => rfl
  | _, _, .cons _ b => by simp [b.length]
theorem ItA.get : ∀ {xs : List V} {is : List It} {n : Nat} {i : It}, ItA K F et xs is → is[n]? = some i → ∃ x, xs[n]? = some x ∧ ItR K F et x i
  | _, _, _, _, .nil, e => by simp at e
  | _, _, 0, _, .cons a _, e => by simp at e; subst e; exact ⟨_, rfl, a⟩
  | _, _, n + 1, _, .cons _ b, e => by
    obtain ⟨x, h1, h2⟩ := b.get (n := n) (by simpa using e)
    exact ⟨x, by simpa using h1, h2⟩
theorem TabF.mono {P : Addr} {q : Str} (h : TabF F H P q) (f : Same F F') (e : H' P = H P) : TabF F' H' P q := by
  obtain ⟨ps, a, b, c⟩ := h
  refine ⟨ps, e.trans a, b, fun pos cv hc => ?_⟩
  obtain ⟨c', d, g⟩ := c pos cv hc
  exact ⟨c', d, f _ _ g⟩
theorem CellR.mono (f : Same F F') (e : ∃ m, et' = et ++ m) {A' : List Addr} (hA : ∀ p ∈ A, p ∈ A') (hH : ∀ p ∈ A, H' p = H p) {p : Addr} : ∀ {c : Cell}, CellR K F et A H p c → CellR K F' et' A' H' p c
  | .lst _, ⟨a, xs, b, c⟩ => ⟨hA _ a, xs, (hH _ a).trans b, c.mono f⟩
  | .tup _, ⟨xs, b, c⟩ => ⟨xs, f _ _ b, c.mono f e⟩
  | .lsh _, ⟨a, xs, b, c⟩ => ⟨hA _ a, xs, (hH _ a).trans b, c.mono f e⟩
  | .dT _, ⟨a, xs, b, c⟩ => ⟨hA _ a, xs, (hH _ a).trans b, c.mono f⟩
  | .dN _, ⟨a, xs, b, c, d⟩ => ⟨hA _ a, xs, (hH _ a).trans b, NKeys.mono f c, d⟩
  | .ins _ _, ⟨a, C, dx, es, b, c, d, g, h, i⟩ => ⟨hA _ a, C, dx, es, b, (hH _ a).trans c, (hH _ g).trans d, hA _ g, h, i.mono f e⟩
end
structure ClR (K : PySem.W.Frag) (sa : Addr) (ns : List Int) (T : List (Addr × Str)) (s : List Cell) (F : Hp) (et A : List Addr) (H : Hp) : Prop where
  len : et.length = s.length
  nd : et.Nodup
  at' : ∀ (k : Nat) (p : Addr) (c : Cell), et[k]? = some p → s[k]? = some c → CellR K F et A H p c
  av : ∀ p ∈ A, H p ≠ none ∧ ∀ xs, H p ≠ some (.tup xs)
  n63 : ns.length ≤ 63
  sc : (sa ∈ A ∧ sa ∉ et ∧ Rd H sa (.lst (ns.map V.int))) ∨ (∀ G, SqL K G sa (ns.map V.int))
  tb : ∀ q ∈ T, q.1 ∈ A ∧ TabF F H q.1 q.2
def ClY (K : PySem.W.Frag) (sa : Addr) (ns : List Int) (T : List (Addr × Str)) : Sys where
  S := List Cell
  rel := ClR K sa ns T
  frame := fun {s F F' et A H H'} h f e => by
    refine ⟨h.len, h.nd, fun k p c a b => (h.at' k p c a b).mono f ⟨[], by simp⟩ (fun _ h => h) e, fun p hp => by rw [e p hp]; exact h.av p hp, h.n63, ?_, fun q hq => ⟨(h.tb q hq).1, (h.tb q hq).2.mono f (e _ (h.tb q hq).1)⟩⟩
    rcases h.sc with ⟨a, b, c⟩ | c
    · refine .inl ⟨a, b, ?_⟩
      unfold Rd at c ⊢
      rw [e sa a]; exact c
    · exact .inr c
  live := fun {s F et A H} h p hp => (h.av p hp).1
  notup := fun {s F et A H} h p hp => (h.av p hp).2
section
variable {K : PySem.W.Frag} {sa : Addr} {ns : List Int} {T : List (Addr × Str)} {s : List Cell} {F : Hp} {et A : List Addr} {H : Hp}
theorem cl_script (h : (ClY K sa ns T).rel s F et A H) : SqL K H sa (ns.map V.int) := by
  rcases h.sc with ⟨_, _, c⟩ | c
  · exact .inl c
  · exact c H
theorem ClR.snoc (rel : ClR K sa ns T s F et A H) {q : Addr} {c : Cell} {B : List Addr} (hq : q ∉ et) (hB : ∀ p ∈ B, H p ≠ none ∧ ∀ xs, H p ≠ some (.tup xs)) (hs : q ≠ sa ∨ ∀ G, SqL K G sa (ns.map V.int)) (hc : CellR K F (et ++ [q]) (A ++ B) H q c) :
    ClR K sa ns T (s ++ [c]) F (et ++ [q]) (A ++ B) H := by
  refine ⟨by simp [rel.len], List.nodup_append.mpr ⟨rel.nd, by simp, fun a ha b hb => ?_⟩, fun k p' c' a b => ?_, fun p hp => ?_, rel.n63, ?_, fun q hq => ⟨List.mem_append_left _ (rel.tb q hq).1, (rel.tb q hq).2⟩⟩
  · have : b = q := by simpa using hb
    subst this
    exact fun z => hq (by rw [← z]; exact ha)
  · by_cases hk : k < et.length
    · rw [List.getElem?_append_left hk] at a
      rw [List.getElem?_append_left (by rw [← rel.len]; exact hk)] at b
      exact (rel.at' k p' c' a b).mono (Same.refl _) ⟨[q], rfl⟩ (fun _ h => List.mem_append_left _ h) fun _ _ => rfl
    · rw [List.getElem?_append_right (by omega)] at a
      rw [List.getElem?_append_right (by rw [← rel.len]; omega)] at b
      have hz : k - et.length = 0 := by
        have := (List.getElem?_eq_some_iff.mp a).1
        simp at this; omega
      rw [hz] at a
      rw [← rel.len, hz] at b
      cases a; cases b
      exact hc
  · rcases List.mem_append.mp hp with h | h
    · exact rel.av p h
    · exact hB p h
  · rcases hs with hs | hs
    · rcases rel.sc with ⟨a, b, c⟩ | c
      · refine .inl ⟨List.mem_append_left _ a, fun z => ?_, c⟩
        rcases List.mem_append.mp z with z | z
        · exact b z
        · have : sa = q := by simpa using z
          exact hs this.symm
      · exact .inr c
    · exact .inr hs
theorem ClR.put (rel : ClR K sa ns T s F et A H) {q : Addr} {k : Nat} {c c' : Cell} {o : HO} (hq : et[k]? = some q) (hs : s[k]? = some c) (hA : q ∈ A) (ho : ∀ xs, o ≠ .tup xs) (hn : ∀ p, H q ≠ some (.own p)) (hT : ∀ ps, H q ≠ some (.tbl ps))
    (hc : CellR K F et A (upd H q o) q c') : ClR K sa ns T (s.set k c') F et A (upd H q o) := by
  refine ⟨by rw [List.length_set]; exact rel.len, rel.nd, fun k' p' c2 a b => ?_, fun p hp => ?_, rel.n63, ?_, fun t ht => ⟨(rel.tb t ht).1, ?_⟩⟩
  · by_cases hkk : k' = k
    · subst hkk
      rw [hq] at a; cases a
      have hl : k' < s.length := (List.getElem?_eq_some_iff.mp hs).1
      rw [List.getElem?_set_self hl] at b
      cases b
      exact hc
    · rw [List.getElem?_set_ne (Ne.symm hkk)] at b
      have hne : p' ≠ q := fun z => by
        subst z
        obtain ⟨l1', e1'⟩ := List.getElem?_eq_some_iff.mp hq
        obtain ⟨l2', e2'⟩ := List.getElem?_eq_some_iff.mp a
        exact hkk ((List.getElem_inj rel.nd).mp (e2'.trans e1'.symm))
      have h := rel.at' k' p' c2 a b
      cases c2 with
      | lst ds => obtain ⟨m, xs, x1, x2⟩ := h; exact ⟨m, xs, (upd_ne hne).trans x1, x2⟩
      | tup its => exact h
      | lsh its => obtain ⟨m, xs, x1, x2⟩ := h; exact ⟨m, xs, (upd_ne hne).trans x1, x2⟩
      | dT kvs => obtain ⟨m, xs, x1, x2⟩ := h; exact ⟨m, xs, (upd_ne hne).trans x1, x2⟩
      | dN kvs => obtain ⟨m, xs, x1, x2⟩ := h; exact ⟨m, xs, (upd_ne hne).trans x1, x2⟩
      | ins n fs =>
        obtain ⟨m, C, dx, es, x1, x2, x3, x4, x5, x6⟩ := h
        exact ⟨m, C, dx, es, x1, (upd_ne hne).trans x2, (upd_ne fun z => by subst z; exact hn _ x3).trans x3, x4, x5, x6⟩
  · by_cases z : p = q
    · subst z; rw [upd_same]; exact ⟨(fun z => nomatch z), fun xs z => ho xs (Option.some.inj z)⟩
    · rw [upd_ne z]; exact rel.av p hp
  · rcases rel.sc with ⟨a, b, c⟩ | c
    · refine .inl ⟨a, b, ?_⟩
      have hne : sa ≠ q := fun z => b (by rw [z]; exact List.mem_of_getElem? hq)
      unfold Rd at c ⊢
      rw [upd_ne hne]; exact c
    · exact .inr c
  · obtain ⟨ps, x1, x2, x3⟩ := (rel.tb t ht).2
    exact ⟨ps, (upd_ne fun z => by rw [z] at x1; exact hT _ x1).trans x1, x2, x3⟩
theorem cl_start (h : SqL K H sa (ns.map V.int)) (hn : ns.length ≤ 63) :
    ∃ w : Wo, w.H = H ∧ w.F = (fun _ => none) ∧ w.et = [] ∧ Wd (ClY K sa ns []) (fun _ => none) w [] := by
  have ne : ∀ {u : List V}, Rd H sa (.lst u) → H sa ≠ none ∧ ∀ xs, H sa ≠ some (.tup xs) := fun {u} h => by
    rcases h with h | ⟨o, h⟩
    · rw [h]; exact ⟨fun z => (nomatch z), fun ys z => nomatch z⟩
    · rw [h]; exact ⟨fun z => (nomatch z), fun ys z => nomatch z⟩
  rcases h with h | h
  · exact ⟨⟨fun _ => none, [sa], [], H⟩, rfl, rfl, rfl, ⟨(fun p o e => nomatch e), (fun p o e => nomatch e), (fun p o e => nomatch e), (fun p _ => ⟨rfl, rfl⟩), ⟨rfl, .nil, (fun k p c a => by simp at a), (fun p hp => by
      rw [List.mem_singleton.mp hp]; exact ne h), hn, .inl ⟨by simp, by simp, h⟩, fun q hq => nomatch hq⟩⟩⟩
  · exact ⟨⟨fun _ => none, [], [], H⟩, rfl, rfl, rfl, ⟨(fun p o e => nomatch e), (fun p o e => nomatch e), (fun p o e => nomatch e), (fun p _ => ⟨rfl, rfl⟩), ⟨rfl, .nil, (fun k p c a => by simp at a), (fun p hp => nomatch hp), hn, .inr fun G => .inr h, fun q hq => nomatch hq⟩⟩⟩
end
end FX
set_option Elab.async false
set_option linter.all false
set_option maxRecDepth 100000
set_option maxHeartbeats 1000000
namespace FX
open PySem PySem.Spec L2
section
variable {K : PySem.W.Frag} {sa : Addr} {ns : List Int} {T : List (Addr × Str)} {s : List Cell} {F : Hp} {et A : List Addr} {H : Hp} {W : WX} {B : Hp} {w : Wo} {σ : St} {Γ : Ev}
theorem ClR.off (rel : ClR K sa ns T s F et A H) {q : Addr} (fq : F q = none) (aq : q ∉ A) : q ∉ et := fun z => by
  obtain ⟨k, hk⟩ := List.getElem?_of_mem z
  have hl := (List.getElem?_eq_some_iff.mp hk).1
  have h := rel.at' k q _ hk (List.getElem?_eq_getElem (by rw [← rel.len]; exact hl))
  generalize s[k]'(by rw [← rel.len]; exact hl) = c at h
  cases c with
  | lst ds => exact aq h.1
  | tup its => obtain ⟨xs, x1, _⟩ := h; rw [fq] at x1; cases x1
  | lsh its => exact aq h.1
  | dT kvs => exact aq h.1
  | dN kvs => exact aq h.1
  | ins n fs => exact aq h.1
def clSnoc (s : List Cell) (c : Cell) : List Cell := s ++ [c]
theorem EnvR.grow (N : EnvR K B w σ Γ) {m E : List Addr} (h : ∀ (i : Nat) (d : D) (q : Addr), Γ[i]? = some (some (R.o d)) → σ[i]? = some (some (V.ref q)) → q ∉ m) : EnvR K B { w with A := w.A ++ m, et := w.et ++ E } σ Γ := ⟨N.len, fun j r hj => by
  obtain ⟨y, a, b⟩ := N.sl j r hj
  refine ⟨y, a, ?_⟩
  cases r with
  | v d => exact b
  | o d =>
    obtain ⟨p', rfl, own, f', b', a'⟩ := b
    refine ⟨p', rfl, own, f', b', fun z => ?_⟩
    rcases List.mem_append.mp z with z | z
    · exact a' z
    · exact h j d p' hj a z
  | h k =>
    obtain ⟨p', e', z⟩ := b
    refine ⟨p', ?_, z⟩
    show (w.et ++ E)[k]? = _
    rw [List.getElem?_append_left (List.getElem?_eq_some_iff.mp e').1]
    exact e'
  | raw y => exact b
  | e y => exact b
  | b k => exact b, N.inj⟩
def gCell (g : GE (ClY K sa ns T)) : GE (ClY K sa ns T) := bd g fun r Γ (s : List Cell) => match r with
  | .o (.list ds) => some (.ok (.h s.length), Γ, (clSnoc s (Cell.lst ds)))
  | .o (.dict kvs) => some (.ok (.h s.length), Γ, (clSnoc s (Cell.dT kvs)))
  | _ => none
theorem own_cell {s1 : List Cell} {w1 : Wo} (W1 : Wd (ClY K sa ns T) B w1 s1) (N1 : EnvR K B w1 σ Γ) {q : Addr} {c : Cell} (lv : w1.H q ≠ none) (hn : ∀ xs, w1.H q ≠ some (.tup xs)) (fq : w1.F q = none) (bq : B q = none) (aq : q ∉ w1.A) (oth : ∀ (i : Nat) (e : D), Γ[i]? = some (some (R.o e)) → σ[i]? ≠ some (some (V.ref q)))
    (hc : CellR K w1.F (w1.et ++ [q]) (w1.A ++ [q]) w1.H q c) (hq : q ∉ w1.et) :
    ∃ w2 : Wo, w2.H = w1.H ∧ w2.et[s1.length]? = some q ∧ Wd (ClY K sa ns T) B w2 (clSnoc s1 c) ∧ EnvR K B w2 σ Γ ∧ Le w1 w2 := by
  have rel : ClR K sa ns T s1 w1.F w1.et w1.A w1.H := W1.rel
  have hsa : q ≠ sa ∨ ∀ G, SqL K G sa (ns.map V.int) := by
    rcases rel.sc with ⟨a, _, _⟩ | c
    · exact .inl fun z => aq (by rw [z]; exact a)
    · exact .inr c
  refine ⟨{ w1 with A := w1.A ++ [q], et := w1.et ++ [q] }, rfl, ?_, ⟨W1.sF, W1.sB, W1.dj, fun p' hp' => ?_, rel.snoc hq (fun p hp => by rw [List.mem_singleton.mp hp]; exact ⟨lv, hn⟩) hsa hc⟩, N1.grow fun i d q' hi hs z => ?_, ⟨Same.refl _, [q], rfl⟩⟩
  · show (w1.et ++ [q])[s1.length]? = _
    rw [← rel.len, List.getElem?_append_right (Nat.le_refl _)]
    simp
  · rcases List.mem_append.mp hp' with z | z
    · exact W1.dA p' z
    · rw [List.mem_singleton.mp z]; exact ⟨fq, bq⟩
  · rw [List.mem_singleton.mp z] at hs
    exact oth i d hi hs
theorem eok_cell {te : TE} {g : GE (ClY K sa ns T)} (he : EOk (ClY K sa ns T) K W te g) : EOk (ClY K sa ns T) K W te (gCell g) := by
  intro B w σ Γ s out Q Wh N e p
  refine he.go (Q := Q) Wh N e p fun r Γ1 s1 x w1 W1 N1 l1 R1 e1 p1 => ?_
  have rel : ClR K sa ns T s1 w1.F w1.et w1.A w1.H := W1.rel
  split at e1
  · rename_i ds
    cases e1
    obtain ⟨⟨q, rfl, ⟨xs, hq, ra⟩, fq, bq, aq⟩, oth⟩ := R1
    have qe : q ∉ w1.et := rel.off fq aq
    obtain ⟨w2, e1, e2, W2, N2, l2⟩ := own_cell W1 N1 (c := .lst ds) (by rw [hq]; exact fun z => nomatch z) (fun xs z => by rw [hq] at z; cases z) fq bq aq oth ⟨by simp, xs, hq, ra⟩ qe
    have := p1 w2 W2 N2 l2 (V.ref q) ⟨q, e2, rfl⟩
    rw [e1] at this
    exact this
  · rename_i kvs
    cases e1
    obtain ⟨⟨q, rfl, ⟨xs, hq, ra⟩, fq, bq, aq⟩, oth⟩ := R1
    have qe : q ∉ w1.et := rel.off fq aq
    obtain ⟨w2, e1, e2, W2, N2, l2⟩ := own_cell W1 N1 (c := .dT kvs) (by rw [hq]; exact fun z => nomatch z) (fun xs z => by rw [hq] at z; cases z) fq bq aq oth ⟨by simp, xs, hq, ra⟩ qe
    have := p1 w2 W2 N2 l2 (V.ref q) ⟨q, e2, rfl⟩
    rw [e1] at this
    exact this
  · cases e1
def gIxC (i : Nat) (gk : GE (ClY K sa ns T)) : GE (ClY K sa ns T) := fun Γ s => match Γ[i]? with
  | some (some (.h _)) => bd gk (fun rk Γ (s : List Cell) => match rdv Γ rk, Γ[i]? with
    | some (.int j), some (some (.h k)) => match s[k]? with
      | some (.lst ds) => match atI ds j with
        | some d => some (.ok (.v d), Γ, s)
        | none => none
      | _ => none
    | _, _ => none) Γ s
  | _ => none
theorem eok_ixC {tk : TE} {i : Nat} {gk : GE (ClY K sa ns T)} (hk : EOk (ClY K sa ns T) K W tk gk) : EOk (ClY K sa ns T) K W (tOp (rIx K) (tVar i) tk) (gIxC i gk) := by
  intro B w σ Γ s out Q Wh N e p
  unfold gIxC at e
  split at e
  · rename_i k0 hi0
    obtain ⟨x, hx, _⟩ := N.sl i _ hi0
    refine ⟨x, hx, ?_⟩
    refine hk.go (Q := fun y H2 => rIx K x y H2 Q) Wh N e p fun rk Γ1 s1 y w1 W1 N1 l1 R1 e1 p1 => ?_
    split at e1
    · rename_i j k ek hi
      split at e1
      · rename_i ds hs
        split at e1
        · rename_i d hd
          cases e1
          obtain ⟨x', hx', q, hq, rfl⟩ := N1.sl i _ hi
          rw [hx] at hx'; cases hx'
          obtain ⟨_, xs, hH, ra⟩ := (show ClR K sa ns T s1 w1.F w1.et w1.A w1.H from W1.rel).at' k q _ hq hs
          cases sh_int (sh_of W1 N1 R1 ek)
          obtain ⟨v, hv, rv⟩ := rpa_atI ra hd
          exact .inl ⟨q, xs, j, v, rfl, rfl, .of hH, hv, p1 w1 W1 N1 (.refl _) v rv⟩
        · cases e1
      · cases e1
    · cases e1
  · cases e
theorem cell_write {s2 : List Cell} {w2 : Wo} (W2 : Wd (ClY K sa ns T) B w2 s2) (N2 : EnvR K B w2 σ Γ) {q : Addr} {k : Nat} {c c' : Cell} {o : HO} (hq : w2.et[k]? = some q) (hs : s2[k]? = some c) (hA : q ∈ w2.A) (ho : ∀ xs, o ≠ .tup xs) (hn : ∀ p, w2.H q ≠ some (.own p)) (hT : ∀ ps, w2.H q ≠ some (.tbl ps))
    (hc : CellR K w2.F w2.et w2.A (upd w2.H q o) q c') : Wd (ClY K sa ns T) B { w2 with H := upd w2.H q o } (@List.set Cell s2 k c') ∧ EnvR K B { w2 with H := upd w2.H q o } σ Γ := by
  have rel : ClR K sa ns T s2 w2.F w2.et w2.A w2.H := W2.rel
  have ag : ∀ p', p' ∉ w2.A → upd w2.H q o p' = w2.H p' := fun p' hp' => upd_ne fun z => hp' (by rw [z]; exact hA)
  refine ⟨⟨fun p' o e' => ?_, fun p' o e' => ?_, W2.dj, W2.dA, rel.put hq hs hA ho hn hT hc⟩, ⟨N2.len, fun j' r' hj' => ?_, N2.inj⟩⟩
  · show upd _ _ _ p' = some o
    rw [ag p' fun z => by rw [(W2.dA p' z).1] at e'; cases e']
    exact W2.sF p' o e'
  · show upd _ _ _ p' = some o
    rw [ag p' fun z => by rw [(W2.dA p' z).2] at e'; cases e']
    exact W2.sB p' o e'
  · obtain ⟨y, a, b⟩ := N2.sl j' r' hj'
    refine ⟨y, a, ?_⟩
    cases r' with
    | v d => exact b
    | o d =>
      obtain ⟨p', rfl, own, f', b', a'⟩ := b
      exact ⟨p', rfl, own.move (Same.refl _) (ag p' a'), f', b', a'⟩
    | h k => exact b
    | raw y => exact b
    | e y => exact b
    | b k => exact b
def sPutC (i : Nat) (gk ge : GE (ClY K sa ns T)) : GS (ClY K sa ns T) := fun Γ s => match Γ[i]? with
  | some (some (.h _)) => bdS (gEsc ge) (fun r => bdS gk fun rk Γ (s : List Cell) => match r, rdv Γ rk, Γ[i]? with
    | .v d, some (.int j), some (some (.h k)) => match s[k]? with
      | some (.lst ds) => match ixN ds.length j with
        | some n => some (.nx, Γ, (s.set k (.lst (ds.set n d)) : List Cell))
        | none => none
      | _ => none
    | _, _, _ => none) Γ s
  | _ => none
theorem sok_putC {tk te : TE} {i : Nat} {gk ge : GE (ClY K sa ns T)} (he : EOk (ClY K sa ns T) K W te ge) (hk : EOk (ClY K sa ns T) K W tk gk) : SOk (ClY K sa ns T) K W (tAsg te (gSub (tVar i) tk rSetL)) (sPutC i gk ge) := by
  intro B w σ Γ s out Dn Wh N e p
  unfold sPutC at e
  split at e
  · rename_i k0 hi0
    obtain ⟨y, hx, _⟩ := N.sl i _ hi0
    refine (eok_esc he).goS (Q := fun x H1 => gSub (tVar i) tk rSetL x σ H1 Dn.nx) Wh N e p fun r Γ1 s1 x w1 W1 N1 l1 R1 e1 p1 => ?_
    obtain ⟨B2, sB, W1b, N1b, kp, kq⟩ := keep W1 N1 R1
    clear kq
    refine ⟨_, hx, ?_⟩
    refine hk.goS (Q := fun z H3 => rSetL y z x H3 fun H4 => Dn.nx σ H4) W1b N1b e1 (p1.strong sB) fun rk Γ2 s2 z w2 W2 N2 l2 R2 e2 p2 => ?_
    have R1' := kp W2 N2 l2
    split at e2
    · rename_i d j k ek hi
      split at e2
      · rename_i ds hs
        split at e2
        · rename_i n hn
          cases e2
          have N2' := N2.weak sB
          have W2' := W2.weak sB
          obtain ⟨y', hx', q, hq, rfl⟩ := N2'.sl i _ hi
          rw [hx] at hx'; cases hx'
          have rel : ClR K sa ns T s2 w2.F w2.et w2.A w2.H := W2'.rel
          obtain ⟨qA, xs, hH, ra⟩ := rel.at' k q _ hq hs
          cases sh_int (sh_of W2 N2 R2 ek)
          refine ⟨q, xs, j, n, rfl, rfl, hH, by rw [ra.length]; exact hn, ?_⟩
          obtain ⟨W3, N3⟩ := cell_write W2' N2' (c' := .lst (ds.set n d)) (o := .lst (xs.set n x)) hq hs qA (fun _ z => nomatch z) (fun _ z => by rw [hH] at z; cases z) (fun _ z => by rw [hH] at z; cases z) ⟨qA, _, upd_same, ra.set n R1'⟩
          exact p1 _ σ W3 N3 ⟨l2.F, l2.et⟩
        · cases e2
      · cases e2
    · cases e2
  · cases e
end
end FX
set_option Elab.async false
set_option linter.all false
set_option maxRecDepth 100000
set_option maxHeartbeats 1000000
namespace FX
open PySem PySem.Spec L2
def spLaw (K : PySem.W.Frag) : Sp := fun vs H Q _ => ∃ (a : Addr) (ns : List Int), vs = [.ref a] ∧ SqL K H a (ns.map V.int) ∧ ns.length ≤ 63 ∧ ∀ H', Q (.bl true) H'
end FX
set_option Elab.async false
set_option linter.all false
set_option maxRecDepth 100000
set_option maxHeartbeats 1000000
namespace FX
open PySem PySem.Spec L2
def Y0 : Sys where
  S := Unit
  rel := fun _ _ _ A _ => A = []
  frame := fun h _ _ => h
  live := fun h p hp => by rw [h] at hp; cases hp
  notup := fun h p hp => by rw [h] at hp; cases hp
end FX
set_option Elab.async false
set_option linter.all false
set_option maxRecDepth 100000
set_option maxHeartbeats 1000000
namespace FX
open PySem PySem.Spec L2
section
variable {sa : Addr} {ns : List Int} {T : List (Addr × Str)} {X : Cx} {W : WX} {e o k : Expr} {es : List Expr} {pos p p2 apos cpos : Pos} {te tk : TE} {i : Nat} {K : PySem.W.Frag}
theorem me_cellK {g : GE (ClY K sa ns T)} (hK : X.K = K) (he : ME (ClY K sa ns T) X W e te g) : ME (ClY K sa ns T) X W e te (gCell g) := by
  subst hK
  exact ⟨he.pe, eok_cell he.ok⟩
theorem me_ixCK {gk : GE (ClY K sa ns T)} (hK : X.K = K) (ho : PE X o (tVar i)) (hk : ME (ClY K sa ns T) X W k tk gk) (hs : PlainIx k) : ME (ClY K sa ns T) X W (.Subscript o k pos) (tOp (rIx K) (tVar i) tk) (gIxC i gk) := by
  subst hK
  exact ⟨pe_ix ix_seq ho hk.pe hs, eok_ixC hk.ok⟩
theorem ms_putCK {gk ge : GE (ClY K sa ns T)} (hK : X.K = K) (ho : PE X o (tVar i)) (hk : ME (ClY K sa ns T) X W k tk gk) (he : ME (ClY K sa ns T) X W e te ge)
    (ha : ∀ v, assign (.Subscript o k p) X.env v = (do
      let ov ← holding [v] (eval o X.env)
      let iv ← holding [v, ov] (eval k X.env)
      standAt p
      holding [v, ov, iv] (setItem ov iv v)
      release [v, ov, iv] []) := by intro _; rfl)
    (hs : swapsWithSole [.Subscript o k p] e pos.line X.env = pure false := by rfl) (hw : swappedStores [.Subscript o k p] e X.env = pure none := by rfl)
    (h1 : (assignEach [.Subscript o k p] X.env).map (·.2) = [assign (.Subscript o k p) X.env] := by rfl) :
    MS (ClY K sa ns T) X W (.Assign [.Subscript o k p] e pos) (tAsg te (gSub (tVar i) tk rSetL)) (sPutC i gk ge) := by
  subst hK
  exact ⟨ps_asg he.pe (pg_sub ho hk.pe set_list ha) hs hw h1, sok_putC he.ok hk.ok⟩
end
section
variable {P : Program} {w : World} {K : PySem.W.Frag} {mg : Str → Option Value} {base : Heap} {CX : CXT} {k : Nat} {f : Addr} {fd : FuncData} {ps : List Str}
theorem law_spL {m : ∀ (sa : Addr) (ns : List Int), Fm (ClY K sa ns [])} (hm : ∀ (sa : Addr) (ns : List Int), ns.length ≤ 63 → ∃ s', m sa ns [.raw (.ref sa)] ([] : List Cell) = some (.ok (.v (.bool true)), s'))
    {vs : List V} {H : Hp} {Q : VK} {E : XK} (h : spLaw K vs H Q E) : ∃ sa ns, spM (ClY K sa ns []) K 1 (m sa ns) vs H Q E := by
  obtain ⟨a, ns, rfl, hS, hn, hQ⟩ := h
  obtain ⟨wo, e1, e2, e3, W⟩ := cl_start hS hn
  obtain ⟨s', em⟩ := hm a ns hn
  refine ⟨a, ns, fun _ => none, wo, [.raw (.ref a)], ([] : List Cell), (.ok (.v (.bool true)), s'), e1, W, .cons rfl rfl .nil, rfl, em, fun w' x W' hx l => ?_⟩
  have hx' : Rp K w'.F x (.bool true) := hx
  cases hx'
  exact hQ _
theorem law_ofML {m : ∀ (sa : Addr) (ns : List Int), Fm (ClY K sa ns [])} (hm : ∀ (sa : Addr) (ns : List Int), ns.length ≤ 63 → ∃ s', m sa ns [.raw (.ref sa)] ([] : List Cell) = some (.ok (.v (.bool true)), s'))
    (hp : ps.length = 1) (F : ∀ (sa : Addr) (ns : List Int), FnOk P w K mg base CX k f fd ps (spM (ClY K sa ns []) K 1 (m sa ns))) : FnOk P w K mg base CX k f fd ps (spLaw K) :=
  ⟨fun vs H Q E h => by obtain ⟨a, ns, rfl, _⟩ := h; exact hp.symm, fun A outer s H args us vs Q E hr e0 hb r h => by
    obtain ⟨sa, ns, h2⟩ := law_spL hm h
    exact (F sa ns).run A outer s H args us vs Q E hr e0 hb r h2⟩
end
end FX
set_option Elab.async false
set_option linter.all false
set_option maxRecDepth 100000
set_option maxHeartbeats 1000000
namespace FX
open PySem PySem.Spec L2
end FX
set_option Elab.async false
set_option linter.all false
set_option maxRecDepth 100000
set_option maxHeartbeats 1000000
namespace FX
open PySem PySem.Spec L2
end FX
set_option Elab.async false
set_option linter.all false
set_option maxRecDepth 100000
set_option maxHeartbeats 1000000
namespace FX
open PySem PySem.Spec L2
end FX
set_option Elab.async false
set_option linter.all false
set_option maxRecDepth 100000
set_option maxHeartbeats 1000000
namespace FX
open PySem PySem.Spec L2
structure TabAt (K : PySem.W.Frag) (h : Heap) (fd : FuncData) (c p : Addr) : Prop where
  code : fd.code = .ref c
  out : K.lookup p = none
  at' : h.get? p = some { cls := .none, data := .fields #[] }
  hd : PySem.W.CodeHd h c p
end FX
set_option Elab.async false
set_option linter.all false
set_option maxRecDepth 100000
set_option maxHeartbeats 1000000
namespace FX
open PySem PySem.Spec L2
end FX
set_option Elab.async false
set_option linter.all false
set_option maxRecDepth 100000
set_option maxHeartbeats 1000000
namespace FX
open PySem PySem.Spec L2
def tail1 (C kx vx : Expr) (D : Addr) (env : Env) (it : Value) : Sem PySem.Fin := do
  let mut ok := true
  for c in ([] : List Expr) do
    if ok then ok ← isTrue c env (eval c env)
  if ok then
    (do
      let kv ← eval kx env
      let vv ← holding [kv] (eval vx env)
      standAt { kx.pos with endLine := vx.pos.endLine, endCol := vx.pos.endCol }
      holding [kv, vv] (dictSet D kv vv))
  again (.compLoop C 1 it (.ref D) env)
def Kn (σ σ2 : St) : Prop := σ.length = σ2.length ∧ ∀ (j : Nat) v, σ[j]? = some (some v) → σ2[j]? = some (some v)
theorem dictSetT {X : Cx} {pins : List (Addr × Obj)} {σ : St} {H : Hp} {st : Shared} {E : Value → Shared → Prop} {D b : Addr} {ws : List (List Key × V)} {k : List Key} {v : V} {r : Value} {Q : Unit → Shared → Prop} (hu : X.A.units < cLine) (V0 : Inv X pins σ H st)
    (hD : H D = some (.dT ws)) (hb : H b = some (.tup (k.map kV))) (hz : ws.length < sizeLine) (rv : RelV v r) (hQ : ∀ s2, Inv X pins σ (upd H D (.dT (putK ws k v))) s2 → Q () s2) : wpAny (model X.prog X.w) X.A (dictSet D (.ref b) r) Q E st := by
  obtain ⟨z, nd, xs, rel, dd⟩ := dt_of V0.hok hD
  have lx : xs.length ≤ sizeLine := by rw [← Paired.length rel]; exact z
  have lp := length_putK ws k v
  refine wpAny_dictSet_heap (hsz := lx) (knd := tupleKind (mixKind X.prog X.w)) hu (key_of V0.hok hb) dd fun h2 d2 sb => hQ _ ?_
  obtain ⟨q, es, ep, g1, g2, g3, g4, _, g6⟩ := d2
  refine d_write V0 (by rw [hD]; exact True.intro) sb ⟨q, g1⟩ ⟨by omega, nd, _, (rel.put k hb rv).keeps fun c ys ec => ?_, q, es, ep, g1, g2, g3, g4, g6⟩
  exact (upd_ne (ne_of ec hD (fun z => nomatch z))).trans ec
section
variable {X : Cx}
def bd1 (tk tv : TE) (D : Addr) (Nx : Hp → Prop) (σ : St) (H : Hp) : Prop := tk σ H fun y H1 => tv σ H1 fun z H2 => ∃ ws k b, y = .ref b ∧ H2 D = some (.dT ws) ∧ H2 b = some (.tup (k.map kV)) ∧ ws.length < sizeLine ∧ Nx (upd H2 D (.dT (putK ws k z)))
theorem kn_of {σ σ2 : St} {vs : List Nat} (h : wipe σ2 vs = wipe σ vs) : Kn (wipe σ vs) σ2 := ⟨by rw [← h, wipe_length], fun j v e => by rw [← h] at e; exact (wipe_some e).1⟩
theorem hb1 {Z : Cx} {kx vx : Expr} {tk tv : TE} {D : Addr} (hu : Z.A.units < cLine) (hx : Z.xe = fun _ _ => False) (pk : PE Z kx tk) (pv : PE Z vx tv) {σ : St} {vs : List Nat} (Nx : Hp → Prop) (pins : List (Addr × Obj)) (σ2 : St) (H2 : Hp) (s2 : Shared) (V2 : Inv Z pins σ2 H2 s2)
    (bd : wipe σ2 vs = wipe σ vs ∧ bd1 tk tv D Nx σ2 H2) (C : Expr) (it : Value) : wpAny (model Z.prog Z.w) Z.A (tail1 C kx vx D Z.env it) (fun f s3 => f = .again (.compLoop C 1 it (.ref D) Z.env) ∧ ∃ σ3 H3, Inv Z pins σ3 H3 s3 ∧ Kn (wipe σ vs) σ3 ∧ Nx H3) (fun _ _ => False) s2 := by
  obtain ⟨e, bd⟩ := bd
  unfold tail1
  simp only [List.forIn_nil]
  refine wpAny_bind (wpAny_pure ?_)
  rw [if_pos rfl]
  have hk := pk.run pins s2 σ2 H2 _ V2 bd
  rw [hx] at hk
  refine wpAny_bind (wpAny_bind (thn hk fun kv s3 ⟨y, H3, V3, r3, q3⟩ => ?_))
  have hv := pv.run pins s3 σ2 H3 _ V3 q3
  rw [hx] at hv
  refine wpAny_bind (wpAny_holding (thn hv fun vv s4 ⟨z, H4, V4, r4, ws, k, b, ey, hD, hb, hz, nx⟩ => ?_))
  subst ey
  obtain rfl : kv = Value.ref b := r3
  exact wpAny_bind (wpAny_standAt (wpAny_holding (dictSetT hu V4 hD hb hz r4 fun s5 V5 => wpAny_pure ⟨rfl, σ2, _, V5, kn_of e, nx⟩)))
end
end FX
set_option Elab.async false
set_option linter.all false
set_option maxRecDepth 100000
set_option maxHeartbeats 1000000
namespace FX
open PySem PySem.Spec L2
end FX
set_option Elab.async false
set_option linter.all false
set_option maxRecDepth 100000
set_option maxHeartbeats 1000000
namespace FX
open PySem PySem.Spec L2
end FX
set_option Elab.async false
set_option linter.all false
set_option maxRecDepth 100000
set_option maxHeartbeats 1000000
namespace FX
open PySem PySem.Spec L2
section
variable {sa : Addr} {ns : List Int} {T : List (Addr × Str)} {X : Cx} {W : WX} {o k : Expr} {pos p p2 : Pos} {te tk : TE} {i : Nat} {K : PySem.W.Frag}
def gSlSC (i : Nat) (n : Int) : GE (ClY K sa ns T) := fun Γ s => match Γ[i]? with
  | some (some (.raw (.ref a))) => if a = sa then some (.ok (.o (.list (cutD (ns.map PyData.int) none (some n)))), Γ, s) else none
  | _ => none
theorem me_slSCK {n : Int} (hK : X.K = K) (ho : PE X o (tVar i)) (hk : PE X k (tC (.int n))) : ME (ClY K sa ns T) X W (.Subscript o (.Slice none (some k) none p2) pos) (tSl (rSl3 K) (tVar i) tNoPart (tPart (tC (.int n)))) (gSlSC i n) := by
  subst hK
  refine ⟨pe_slice sl3 ho po_none (po_some hk), fun B w σ Γ s out Q Wh N e p => ?_⟩
  unfold gSlSC at e
  split at e
  · rename_i a hi
    split at e
    · rename_i ha
      cases e
      obtain ⟨x, hx, rfl⟩ := N.sl i _ hi
      have z := rz_use (z := .nw (.list (cutD (ns.map PyData.int) none (some n)))) (Q := Q) Wh N (.refl _) p
      refine ⟨_, hx, n, rfl, .inl ⟨a, ns.map V.int, rfl, by rw [ha]; exact cl_script Wh.rel, fun q nq => ?_⟩⟩
      exact z q _ nq (RpA.cut (rpa_ints (K := X.K) (F := w.F) ns) none (some n))
    · cases e
  · cases e
end
end FX
set_option Elab.async false
set_option linter.all false
set_option maxRecDepth 100000
set_option maxHeartbeats 1000000
namespace FX
open PySem PySem.Spec L2
def sizeN (n : Nat) : Bool := decide (n ≤ 10000000)
theorem sizeN_lt {n : Nat} (h : sizeN n = true) : n < sizeLine := Nat.lt_of_le_of_lt (of_decide_eq_true h) (by decide)
def intsD : List D → Option (List Int)
  | [] => some []
  | .int i :: ds => match intsD ds with
    | some is => some (i :: is)
    | none => none
  | _ :: _ => none
def nkD : D → Option NKey
  | .tuple [.int i, .tuple ds] => match intsD ds with
    | some is => some (i, is)
    | none => none
  | _ => none
def nval (kvs : List (NKey × Int)) (k : NKey) : Option Int := (kvs.find? fun kv => decide (kv.1 = k)).map (·.2)
def nput (kvs : List (NKey × Int)) (k : NKey) (v : Int) : List (NKey × Int) := if (nval kvs k).isSome then kvs.map fun kv => if kv.1 = k then (kv.1, v) else kv else kvs ++ [(k, v)]
section
variable {K : PySem.W.Frag} {F H : Hp}
theorem intsD_ok : ∀ {ds : List D} {is : List Int} {xs : List V}, intsD ds = some is → RpA K F xs ds → xs = is.map V.int
  | [], is, xs, e, r => by cases e; cases r; rfl
  | .int i :: ds, is, xs, e, r => by
    unfold intsD at e
    split at e
    · rename_i is' h
      cases e
      cases r with
      | cons a b =>
        cases a
        rw [intsD_ok h b]
        rfl
    · cases e
  | .none :: _, _, _, e, _ => by cases e
  | .bool _ :: _, _, _, e, _ => by cases e
  | .str _ :: _, _, _, e, _ => by cases e
  | .list _ :: _, _, _, e, _ => by cases e
  | .tuple _ :: _, _, _, e, _ => by cases e
  | .dict _ :: _, _, _, e, _ => by cases e
theorem nkD_ok {d : D} {k : NKey} {y : V} (e : nkD d = some k) (r : Rp K F y d) : ∃ a, y = .ref a ∧ NKeyAt F k a := by
  unfold nkD at e
  split at e
  · rename_i i ds
    split at e
    · rename_i is h
      cases e
      cases r with
      | tup ha ra =>
        cases ra with
        | cons r1 ra =>
          cases r1
          cases ra with
          | cons r2 ra =>
            cases ra
            cases r2 with
            | tup hb rb =>
              cases intsD_ok h rb
              exact ⟨_, rfl, _, ha, hb⟩
    · cases e
  · cases e
theorem NVals.get {kvs : List (NKey × Int)} {xs : List NEnt} (r : NVals kvs xs) (k : NKey) : match nval kvs k with
    | some v => ∃ q, atKey xs k = some q ∧ ∃ t, q.2 = Value.int v t
    | none => atKey xs k = none := by
  induction r with
  | nil => rfl
  | @cons kv x kvs xs a b ih =>
    obtain ⟨e, t, h⟩ := a
    unfold nval atKey
    by_cases z : kv.1 = k
    · have z2 : x.1 = k := by rw [← e]; exact z
      simp only [List.find?_cons, z, z2, decide_true]
      exact ⟨_, rfl, t, h⟩
    · have z2 : ¬ x.1 = k := fun q => z (by rw [e]; exact q)
      simp only [List.find?_cons, z, z2, decide_false]
      exact ih
theorem NVals.some {kvs : List (NKey × Int)} {xs : List NEnt} (r : NVals kvs xs) (k : NKey) : (atKey xs k).isSome = (nval kvs k).isSome := by
  have h := r.get k
  cases e : nval kvs k with
  | none => rw [e] at h; rw [h]; rfl
  | some v => rw [e] at h; obtain ⟨q, h, _⟩ := h; rw [h]; rfl
theorem NVals.repl {kvs : List (NKey × Int)} {xs : List NEnt} (r : NVals kvs xs) (k : NKey) (v : Int) {u : Value} (hu : ∃ t, u = Value.int v t) : NVals (kvs.map fun kv => if kv.1 = k then (kv.1, v) else kv) (xs.map (putAt k u)) := by
  induction r with
  | nil => exact .nil
  | @cons kv x kvs xs a b ih =>
    refine .cons ?_ ih
    obtain ⟨e, t, h⟩ := a
    show (if kv.1 = k then (kv.1, v) else kv).1 = (putAt k u x).1 ∧ ∃ t, (putAt k u x).2.2 = Value.int (if kv.1 = k then (kv.1, v) else kv).2 t
    unfold putAt
    by_cases z : kv.1 = k
    · have z2 : x.1 = k := by rw [← e]; exact z
      rw [if_pos z, if_pos z2]
      exact ⟨e, hu⟩
    · have z2 : ¬ x.1 = k := fun q => z (by rw [e]; exact q)
      rw [if_neg z, if_neg z2]
      exact ⟨e, t, h⟩
theorem NVals.snoc {kvs : List (NKey × Int)} {xs : List NEnt} (r : NVals kvs xs) {kv : NKey × Int} {x : NEnt} (h : kv.1 = x.1 ∧ ∃ t, x.2.2 = Value.int kv.2 t) : NVals (kvs ++ [kv]) (xs ++ [x]) := by
  induction r with
  | nil => exact .cons h .nil
  | cons a b ih => exact .cons a ih
theorem NVals.put {kvs : List (NKey × Int)} {xs : List NEnt} (r : NVals kvs xs) (k : NKey) (a : Addr) (v : Int) {u : Value} (hu : ∃ t, u = Value.int v t) : NVals (nput kvs k v) (storedH xs k a u) := by
  unfold nput storedH
  rw [r.some k]
  split
  · exact r.repl k v hu
  · exact r.snoc ⟨rfl, hu⟩
theorem NKeys.put {xs : List NEnt} (h : NKeys F xs) {k : NKey} {a : Addr} (ha : NKeyAt F k a) (u : Value) : NKeys F (storedH xs k a u) := by
  intro x hx
  unfold storedH at hx
  split at hx
  · obtain ⟨x0, h0, rfl⟩ := List.mem_map.mp hx
    unfold putAt
    split
    · exact h x0 h0
    · exact h x0 h0
  · rcases List.mem_append.mp hx with hx | hx
    · exact h x hx
    · rw [List.mem_singleton.mp hx]; exact ha
theorem NVals.len {kvs : List (NKey × Int)} {xs : List NEnt} (r : NVals kvs xs) : kvs.length = xs.length := Paired.length r
end
section
variable {K : PySem.W.Frag} {sa : Addr} {ns : List Int} {T : List (Addr × Str)} {W : WX} {B : Hp} {w : Wo} {σ : St} {Γ : Ev} {s : List Cell}
def gNNew : GE (ClY K sa ns T) := fun Γ s => some (.ok (.h (List.length (α := Cell) s)), Γ, clSnoc s (.dN []))
def gNGet (go gk : GE (ClY K sa ns T)) : GE (ClY K sa ns T) := bd go fun ro => bd gk fun rk Γ (s : List Cell) => match ro, rk with
  | .h j, .v d => match nkD d, s[j]? with
    | some k, some (.dN kvs) => match nval kvs k with
      | some v => some (.ok (.v (.int v)), Γ, s)
      | none => none
    | _, _ => none
  | _, _ => none
def gNNot (gk go : GE (ClY K sa ns T)) : GE (ClY K sa ns T) := bd gk fun rk => bd go fun ro Γ (s : List Cell) => match ro, rk with
  | .h j, .v d => match nkD d, s[j]? with
    | some k, some (.dN kvs) => some (.ok (.v (.bool (!(nval kvs k).isSome))), Γ, s)
    | _, _ => none
  | _, _ => none
def sNPutC (go gk ge : GE (ClY K sa ns T)) : GS (ClY K sa ns T) := bdS ge fun re => bdS go fun ro => bdS gk fun rk Γ (s : List Cell) => match re, ro, rk with
  | .v (.int v), .h j, .v d => match nkD d, s[j]? with
    | some k, some (.dN kvs) => if sizeN kvs.length = true then some (.nx, Γ, (s.set j (.dN (nput kvs k v)) : List Cell)) else none
    | _, _ => none
  | _, _, _ => none
theorem eok_nnew : EOk (ClY K sa ns T) K W tNNew gNNew := by
  intro B w σ Γ s out Q Wh N e p
  cases e
  intro q np
  have rel : ClR K sa ns T s w.F w.et w.A w.H := Wh.rel
  have fq : w.F q = none := Wh.sF.free np
  have bq : B q = none := Wh.sB.free np
  have aq : q ∉ w.A := fun z => (rel.av q z).1 np
  have W1 : Wd (ClY K sa ns T) B { w with H := upd w.H q (NDict q []) } s := by
    refine ⟨fun p o h => ?_, fun p o h => ?_, Wh.dj, Wh.dA, (ClY K sa ns T).frame Wh.rel (Same.refl _) fun p hp => upd_ne fun z => aq (by rw [← z]; exact hp)⟩
    · show upd _ _ _ p = _
      rw [upd_ne (ne_of_none h fq)]; exact Wh.sF p o h
    · show upd _ _ _ p = _
      rw [upd_ne (ne_of_none h bq)]; exact Wh.sB p o h
  have N1 : EnvR K B { w with H := upd w.H q (NDict q []) } σ Γ := ⟨N.len, fun i r hi => by
    obtain ⟨y, a, b⟩ := N.sl i r hi
    refine ⟨y, a, ?_⟩
    cases r with
    | v d => exact b
    | o d =>
      obtain ⟨p', rfl, own, f', b', a'⟩ := b
      obtain ⟨o, ho⟩ := own.obj
      exact ⟨p', rfl, own.move (Same.refl _) (upd_ne (ne_of_none ho np)), f', b', a'⟩
    | h k => exact b
    | raw y => exact b
    | e y => exact b
    | b k => exact b, N.inj⟩
  have oth : ∀ (i : Nat) (e : D), Γ[i]? = some (some (R.o e)) → σ[i]? ≠ some (some (V.ref q)) := fun i e hi hs => by
    obtain ⟨y, a, b⟩ := N.sl i _ hi
    rw [hs] at a; cases a
    obtain ⟨p', z, own, _⟩ := b
    cases z
    obtain ⟨o, ho⟩ := own.obj
    rw [np] at ho; cases ho
  obtain ⟨w2, e1, e2, W2, N2, l2⟩ := own_cell W1 N1 (q := q) (c := .dN []) (by show upd _ _ _ q ≠ none; rw [upd_same]; exact fun z => nomatch z) (fun xs z => by have : upd w.H q (NDict q []) q = some (.tup xs) := z; rw [upd_same] at this; cases this) fq bq aq oth
    ⟨by simp, [], upd_same, (fun x hx => nomatch hx), .nil⟩ (rel.off fq aq)
  have := p w2 W2 N2 ⟨l2.F, l2.et⟩ (V.ref q) ⟨q, e2, rfl⟩
  rw [e1] at this
  exact this
theorem n_at (Wh : Wd (ClY K sa ns T) B w s) {x y : V} {j : Nat} {d : D} {k : NKey} {kvs : List (NKey × Int)} {F0 : Hp} {et0 : List Addr} (ho : ∃ p, et0[j]? = some p ∧ x = .ref p) (et : ∃ m, w.et = et0 ++ m) (hk : Rp K F0 y d) (f : Same F0 w.F) (ek : nkD d = some k) (hs : s[j]? = some (Cell.dN kvs)) :
    ∃ p a xs, w.et[j]? = some p ∧ NAt w.H x y p a k xs ∧ NVals kvs xs ∧ NKeys w.F xs ∧ NKeyAt w.F k a ∧ p ∈ w.A := by
  obtain ⟨p, hp, rfl⟩ := ho
  obtain ⟨m, em⟩ := et
  have hp' : w.et[j]? = some p := by
    rw [em, List.getElem?_append_left (List.getElem?_eq_some_iff.mp hp).1]; exact hp
  obtain ⟨pA, xs, hH, kN, kV⟩ := (show ClR K sa ns T s w.F w.et w.A w.H from Wh.rel).at' j p _ hp' hs
  obtain ⟨a, rfl, ka⟩ := nkD_ok ek (hk.mono f)
  exact ⟨p, a, xs, hp', ⟨rfl, rfl, hH, NKeys.mono Wh.sF kN, NKeyAt.mono Wh.sF ka⟩, kV, kN, ka, pA⟩
theorem eok_nget {td tk : TE} {go gk : GE (ClY K sa ns T)} (ho : EOk (ClY K sa ns T) K W td go) (hk : EOk (ClY K sa ns T) K W tk gk) : EOk (ClY K sa ns T) K W (tNGet td tk) (gNGet go gk) := by
  intro B w σ Γ s out Q Wh N e p
  refine ho.go (Q := fun x H1 => tk σ H1 fun y H2 => ∃ p a k xs q v, NAt H2 x y p a k xs ∧ atKey xs k = some q ∧ RelV v q.2 ∧ Q v H2) Wh N e p fun ro Γ1 s1 x w1 W1 N1 l1 R1 e1 p1 => ?_
  refine hk.go (Q := fun y H2 => ∃ p a k xs q v, NAt H2 x y p a k xs ∧ atKey xs k = some q ∧ RelV v q.2 ∧ Q v H2) W1 N1 e1 p1 fun rk Γ2 s2 y w2 W2 N2 l2 R2 e2 p2 => ?_
  split at e2
  · rename_i j d
    split at e2
    · rename_i k kvs ek hs
      split at e2
      · rename_i v hv
        cases e2
        obtain ⟨p', a, xs, _, na, kV, _⟩ := n_at W2 (show ∃ p, w1.et[j]? = some p ∧ x = .ref p from R1) l2.et (show Rp K w2.F y d from R2) (Same.refl _) ek hs
        have g := kV.get k
        rw [hv] at g
        obtain ⟨q, hq, t, ht⟩ := g
        exact ⟨p', a, k, xs, q, .int v, na, hq, ⟨t, ht⟩, p2 w2 W2 N2 (.refl _) _ (.int _)⟩
      · cases e2
    · cases e2
  · cases e2
theorem eok_nnot {td tk : TE} {go gk : GE (ClY K sa ns T)} (ho : EOk (ClY K sa ns T) K W td go) (hk : EOk (ClY K sa ns T) K W tk gk) : EOk (ClY K sa ns T) K W (tNNotIn tk td) (gNNot gk go) := by
  intro B w σ Γ s out Q Wh N e p
  refine hk.go (Q := fun y H1 => td σ H1 fun x H2 => ∃ p a k xs, NAt H2 x y p a k xs ∧ Q (.bl (!(atKey xs k).isSome)) H2) Wh N e p fun rk Γ1 s1 y w1 W1 N1 l1 R1 e1 p1 => ?_
  refine ho.go (Q := fun x H2 => ∃ p a k xs, NAt H2 x y p a k xs ∧ Q (.bl (!(atKey xs k).isSome)) H2) W1 N1 e1 p1 fun ro Γ2 s2 x w2 W2 N2 l2 R2 e2 p2 => ?_
  split at e2
  · rename_i j d
    split at e2
    · rename_i k kvs ek hs
      cases e2
      obtain ⟨p', a, xs, _, na, kV, _⟩ := n_at W2 (show ∃ p, w2.et[j]? = some p ∧ x = .ref p from R2) ⟨[], by simp⟩ (show Rp K w1.F y d from R1) l2.F ek hs
      refine ⟨p', a, k, xs, na, ?_⟩
      rw [kV.some k]
      exact p2 w2 W2 N2 (.refl _) _ (.bl _)
    · cases e2
  · cases e2
theorem sok_nput {td tk te : TE} {go gk ge : GE (ClY K sa ns T)} (ho : EOk (ClY K sa ns T) K W td go) (hk : EOk (ClY K sa ns T) K W tk gk) (he : EOk (ClY K sa ns T) K W te ge) : SOk (ClY K sa ns T) K W (sNPut td tk te) (sNPutC go gk ge) := by
  intro B w σ Γ s out Dn Wh N e p
  refine he.goS (Q := fun v H1 => td σ H1 fun x H2 => tk σ H2 fun y H3 => ∃ p a k xs, NAt H3 x y p a k xs ∧ xs.length < sizeLine ∧ ∀ u, RelV v u → Dn.nx σ (upd H3 p (NDict p (storedH xs k a u)))) Wh N e p fun re Γ1 s1 v1 w1 W1 N1 l1 R1 e1 p1 => ?_
  refine ho.goS (Q := fun x H2 => tk σ H2 fun y H3 => ∃ p a k xs, NAt H3 x y p a k xs ∧ xs.length < sizeLine ∧ ∀ u, RelV v1 u → Dn.nx σ (upd H3 p (NDict p (storedH xs k a u)))) W1 N1 e1 p1 fun ro Γ2 s2 x w2 W2 N2 l2 R2 e2 p2 => ?_
  refine hk.goS (Q := fun y H3 => ∃ p a k xs, NAt H3 x y p a k xs ∧ xs.length < sizeLine ∧ ∀ u, RelV v1 u → Dn.nx σ (upd H3 p (NDict p (storedH xs k a u)))) W2 N2 e2 p2 fun rk Γ3 s3 y w3 W3 N3 l3 R3 e3 p3 => ?_
  split at e3
  · rename_i v j d
    split at e3
    · rename_i k kvs ek hs
      split at e3
      · rename_i hz
        cases e3
        cases (show Rp K w1.F v1 (.int v) from R1)
        obtain ⟨q, a, xs, hq, na, kV, kN, ka, qA⟩ := n_at W3 (show ∃ p, w2.et[j]? = some p ∧ x = .ref p from R2) l3.et (show Rp K w3.F y d from R3) (Same.refl _) ek hs
        refine ⟨q, a, k, xs, na, by rw [← kV.len]; exact sizeN_lt hz, fun u hu => ?_⟩
        have hH : w3.H q = some (NDict q xs) := na.2.2.1
        obtain ⟨W4, N4⟩ := cell_write W3 N3 (c' := .dN (nput kvs k v)) (o := NDict q (storedH xs k a u)) hq hs qA (fun _ z => nomatch z) (fun _ z => by rw [hH] at z; cases z) (fun _ z => by rw [hH] at z; cases z) ⟨qA, _, upd_same, NKeys.put kN ka u, kV.put k a v hu⟩
        exact p3 _ σ W4 N4 ⟨Same.refl _, [], by simp⟩
      · cases e3
    · cases e3
  · cases e3
end
section
variable {sa : Addr} {ns : List Int} {T : List (Addr × Str)} {X : Cx} {W : WX} {e o k : Expr} {pos p p2 : Pos} {td te tk : TE} {K : PySem.W.Frag} {go gk ge : GE (ClY K sa ns T)}
theorem me_nnewK (hK : X.K = K) : ME (ClY K sa ns T) X W (.Dict [] [] pos) tNNew gNNew := by
  subst hK
  exact ⟨pe_nnew, eok_nnew⟩
theorem me_ngetK (hK : X.K = K) (hu : X.A.units + 2 < cLine) (ho : ME (ClY K sa ns T) X W o td go) (hk : ME (ClY K sa ns T) X W k tk gk) (hs : NoSl k) : ME (ClY K sa ns T) X W (.Subscript o k pos) (tNGet td tk) (gNGet go gk) := by
  subst hK
  exact ⟨pe_nget hu ho.pe hk.pe hs, eok_nget ho.ok hk.ok⟩
theorem mt_nnotK (hK : X.K = K) (hu : X.A.units + 2 < cLine) (ho : ME (ClY K sa ns T) X W o td go) (hk : ME (ClY K sa ns T) X W k tk gk) (hm : behindInMarks .NotIn o = false := by rfl) : MT (ClY K sa ns T) X W (.Compare k [.NotIn] [o] pos) (tB (tNNotIn tk td)) (gTst (gNNot gk go)) := by
  subst hK
  exact ⟨pt_cmp (pc_nnotin hu hk.pe ho.pe) hm, tok_tst (eok_nnot ho.ok hk.ok)⟩
theorem ms_nputK (hK : X.K = K) (hu : X.A.units + 2 < cLine) (ho : ME (ClY K sa ns T) X W o td go) (hk : ME (ClY K sa ns T) X W k tk gk) (he : ME (ClY K sa ns T) X W e te ge) (hs : swapsWith e (some (.Subscript o k p2)) pos.line X.env = pure false := by rfl) :
    MS (ClY K sa ns T) X W (.Assign [.Subscript o k p2] e pos) (sNPut td tk te) (sNPutC go gk ge) := by
  subst hK
  exact ⟨ps_nput hu ho.pe hk.pe he.pe hs, sok_nput ho.ok hk.ok he.ok⟩
end
end FX
namespace FX
open PySem PySem.Spec L2
theorem hu2 {k : Nat} {A : Around} (r : Room k A) : A.units + 2 < cLine := by have := r.un; omega
theorem fn_none {P : Program} {w : World} {K : PySem.W.Frag} {mg : Str → Option Value} {base : Heap} {CX : CXT} {k : Nat} {f : Addr} {fd : FuncData} {ps : List Str} {Y : Sys} {n : Nat} : FnOk P w K mg base CX k f fd ps (spM Y K n fun _ _ => none) :=
  ⟨fun vs H Q E h => (by obtain ⟨B, wo, rs, st, out, _, _, _, _, hm, _⟩ := h; cases hm), fun A outer s H args us vs Q E hr e0 hb r h => (by obtain ⟨B, wo, rs, st, out, _, _, _, _, hm, _⟩ := h; cases hm)⟩
end FX
set_option Elab.async false
set_option linter.all false
set_option maxRecDepth 100000
set_option maxHeartbeats 1000000
namespace FX
open PySem PySem.Spec L2
def gRvL {Y : Sys} (g : GA Y) : GI Y := bd g fun rs Γ s => match rs with
  | [.v (.list ds)] => some (.ok ds.reverse, Γ, s)
  | _ => none
theorem it_rev {K : PySem.W.Frag} {F : Hp} {q : Addr} {xs : List V} {ds : List D} (h : SqL K F q xs) (r : RpA K F xs ds) : ItOk K (Itv K q xs.length) F ds.reverse := fun F1 H e1 e2 i => by
  have hH : SqL K H q xs := (e1.trans e2).seq h
  have hl := r.length
  refine ⟨fun hi => ?_, fun hi => ?_, fun x H' y d hd => ?_⟩
  · rw [List.length_reverse] at hi
    have hi' : xs.length - 1 - i < xs.length := by omega
    exact ⟨by omega, xs, xs[xs.length - 1 - i], hH, List.getElem?_eq_getElem hi'⟩
  · rw [List.length_reverse] at hi
    show xs.length ≤ i
    omega
  · obtain ⟨e, y⟩ := y
    have hi : i < ds.length := by
      have := (List.getElem?_eq_some_iff.mp hd).1
      rwa [List.length_reverse] at this
    rw [List.getElem?_reverse hi] at hd
    obtain ⟨v, hv, rv⟩ := r.get hd
    rw [← hl] at hv
    have : x = v := Option.some.inj ((y xs hH).symm.trans hv)
    subst this
    exact .inl ⟨e, rv.mono e1⟩
section
variable {Y : Sys} {X : Cx} {W : WX} {tg e : Expr} {pos p : Pos} {gr : GA Y}
theorem mi_revL {K : PySem.W.Frag} (hK : X.K = K) {ta : TA} (hg : Gl X "reversed") (hm : X.mg "reversed" = none) (h : MA Y X W [e] ta gr) (hs : starEach [e] X.env = [(false, eval e X.env)] := by rfl) :
    MI Y X W tg (.Call (.Name "reversed" p) [e] [] pos) (iRev K ta) (gRvL gr) := by
  subst hK
  obtain ⟨pe, h⟩ := h
  refine ⟨pi_reversed hg hm pe hs, fun B w σ Γ s out Q Wh N e p => ?_⟩
  refine h.go (Q := fun vs H1 => ∃ a xs, vs = [.ref a] ∧ SqL X.K H1 a xs ∧ Q (Itv X.K a xs.length) H1) Wh N e p fun rs Γ1 s1 xs w1 W1 N1 l1 R1 e1 p1 => ?_
  try simp only at e1
  split at e1
  · cases e1
    cases R1 with
    | cons q t =>
      cases t
      cases (show Rp X.K w1.F _ (.list _) from q) with
      | lst h r => exact ⟨_, _, rfl, .of (W1.sF _ _ h), p1 w1 W1 N1 (.refl _) _ (it_rev (.of h) r)⟩
  · cases e1
end
end FX
set_option Elab.async false
set_option linter.all false
set_option maxRecDepth 100000
set_option maxHeartbeats 1000000
namespace FX
open PySem PySem.Spec L2
def putI (f : Str) (v : It) : List (Str × It) → List (Str × It)
  | [] => [(f, v)]
  | (g, x) :: r => if g = f then (g, v) :: r else (g, x) :: putI f v r
section
variable {K : PySem.W.Frag} {F H : Hp} {et A : List Addr}
theorem fld_get : ∀ {es : List (Str × V)} {fs : List (Str × It)} {f : Str} {i : It}, es.map (·.1) = fs.map (·.1) → ItA K F et (es.map (·.2)) (fs.map (·.2)) → fs.lookup f = some i → ∃ v, es.lookup f = some v ∧ ItR K F et v i
  | [], [], _, _, _, _, e => by cases e
  | [], _ :: _, _, _, h, _, _ => by cases h
  | _ :: _, [], _, _, h, _, _ => by cases h
  | (g, x) :: es, (g', y) :: fs, f, i, h, a, e => by
    have hg : g = g' := by simpa using (List.cons.inj h).1
    subst hg
    have ht : es.map (·.1) = fs.map (·.1) := (List.cons.inj h).2
    have a' : ItA K F et (x :: es.map (·.2)) (y :: fs.map (·.2)) := a
    cases a' with
    | cons a1 a2 =>
      by_cases z : (f == g) = true
      · simp only [List.lookup, z] at e ⊢
        cases e
        exact ⟨x, rfl, a1⟩
      · have z : (f == g) = false := by simpa using z
        simp only [List.lookup, z] at e ⊢
        exact fld_get ht a2 e
theorem fld_none : ∀ {es : List (Str × V)} {fs : List (Str × It)} {f : Str}, es.map (·.1) = fs.map (·.1) → fs.lookup f = none → es.lookup f = none
  | [], [], _, _, _ => rfl
  | [], _ :: _, _, h, _ => by cases h
  | _ :: _, [], _, h, _ => by cases h
  | (g, x) :: es, (g', y) :: fs, f, h, e => by
    have hg : g = g' := by simpa using (List.cons.inj h).1
    subst hg
    have ht : es.map (·.1) = fs.map (·.1) := (List.cons.inj h).2
    by_cases z : (f == g) = true
    · simp only [List.lookup, z] at e
      cases e
    · have z : (f == g) = false := by simpa using z
      simp only [List.lookup, z] at e ⊢
      exact fld_none ht e
theorem fld_put : ∀ {es : List (Str × V)} {fs : List (Str × It)} {f : Str} {v : V} {i : It}, es.map (·.1) = fs.map (·.1) → ItA K F et (es.map (·.2)) (fs.map (·.2)) → ItR K F et v i →
    (putF f v es).map (·.1) = (putI f i fs).map (·.1) ∧ ItA K F et ((putF f v es).map (·.2)) ((putI f i fs).map (·.2))
  | [], [], _, _, _, _, _, r => ⟨rfl, .cons r .nil⟩
  | [], _ :: _, _, _, _, h, _, _ => by cases h
  | _ :: _, [], _, _, _, h, _, _ => by cases h
  | (g, x) :: es, (g', y) :: fs, f, v, i, h, a, r => by
    have hg : g = g' := by simpa using (List.cons.inj h).1
    subst hg
    have ht : es.map (·.1) = fs.map (·.1) := (List.cons.inj h).2
    have a' : ItA K F et (x :: es.map (·.2)) (y :: fs.map (·.2)) := a
    cases a' with
    | cons a1 a2 =>
      unfold putF putI
      by_cases z : g = f
      · rw [if_pos z, if_pos z]
        exact ⟨by simp [ht], .cons r a2⟩
      · rw [if_neg z, if_neg z]
        obtain ⟨b1, b2⟩ := fld_put (f := f) ht a2 r
        exact ⟨by simp [b1], .cons a1 b2⟩
end
section
variable {K : PySem.W.Frag} {sa : Addr} {ns : List Int} {T : List (Addr × Str)} {W : WX} {B : Hp} {w : Wo} {σ : St} {Γ : Ev} {s : List Cell}
def gFld (c f : Str) (go : GE (ClY K sa ns T)) : GE (ClY K sa ns T) := bd go fun ro Γ (s : List Cell) => match ro with
  | .h k => match s[k]? with
    | some (.ins c' fs) => if c' = c then (match fs.lookup f with
      | some (.d d) => some (.ok (.v d), Γ, s)
      | some (.h j) => some (.ok (.h j), Γ, s)
      | _ => none) else none
    | _ => none
  | _ => none
theorem ins_at (Wh : Wd (ClY K sa ns T) B w s) {x : V} {k : Nat} {c : Str} {fs : List (Str × It)} {C : Addr} (cn : Cn K c (.ref C)) (R1 : ∃ p, w.et[k]? = some p ∧ x = .ref p) (hs : s[k]? = some (Cell.ins c fs)) :
    ∃ p dx es, w.et[k]? = some p ∧ x = .ref p ∧ p ∈ w.A ∧ w.H p = some (.ins C dx es) ∧ w.H dx = some (.own p) ∧ dx ∈ w.A ∧ es.map (·.1) = fs.map (·.1) ∧ ItA K w.F w.et (es.map (·.2)) (fs.map (·.2)) := by
  obtain ⟨p, hp, rfl⟩ := R1
  obtain ⟨pA, C', dx, es, cn', hH, hd, hdA, hm, ia⟩ := (show ClR K sa ns T s w.F w.et w.A w.H from Wh.rel).at' k p _ hp hs
  have := cn.uniq cn'
  cases this
  exact ⟨p, dx, es, hp, rfl, pA, hH, hd, hdA, hm, ia⟩
theorem eok_fld {c f : Str} {C : Addr} {td : TE} {go : GE (ClY K sa ns T)} (cn : Cn K c (.ref C)) (cl : Cls K C) (na : NoAttr K C f) (ho : EOk (ClY K sa ns T) K W td go) : EOk (ClY K sa ns T) K W (tFld K td f) (gFld c f go) := by
  intro B w σ Γ s out Q Wh N e p
  refine ho.go (Q := fun x H1 => ∃ a C dx fs v, x = .ref a ∧ H1 a = some (.ins C dx fs) ∧ Cls K C ∧ NoAttr K C f ∧ fs.lookup f = some v ∧ Q v H1) Wh N e p fun ro Γ1 s1 x w1 W1 N1 l1 R1 e1 p1 => ?_
  split at e1
  · rename_i k
    split at e1
    · rename_i c' fs hs
      split at e1
      · rename_i hc
        subst hc
        obtain ⟨q, dx, es, hq, rfl, qA, hH, hd, hdA, hm, ia⟩ := ins_at W1 cn R1 hs
        split at e1
        · rename_i d hl
          cases e1
          obtain ⟨v, hv, rv⟩ := fld_get hm ia hl
          exact ⟨q, C, dx, es, v, rfl, hH, cl, na, hv, p1 w1 W1 N1 (.refl _) v rv⟩
        · rename_i j hl
          cases e1
          obtain ⟨v, hv, rv⟩ := fld_get hm ia hl
          exact ⟨q, C, dx, es, v, rfl, hH, cl, na, hv, p1 w1 W1 N1 (.refl _) v rv⟩
        · cases e1
      · cases e1
    · cases e1
  · cases e1
def itR1 : R → Option It
  | .v d => some (.d d)
  | .h k => some (.h k)
  | _ => none
def sFldC (c f : Str) (go ge : GE (ClY K sa ns T)) : GS (ClY K sa ns T) := bdS (gEsc ge) fun re => bdS go fun ro Γ (s : List Cell) => match ro, itR1 re with
  | .h k, some i => match s[k]? with
    | some (.ins c' fs) => if c' = c then (if Nat.ble fs.length 100 = true then some (.nx, Γ, (s.set k (.ins c (putI f i fs)) : List Cell)) else none) else none
    | _ => none
  | _, _ => none
theorem sok_fld {c f : Str} {C : Addr} {td te : TE} {go ge : GE (ClY K sa ns T)} (cn : Cn K c (.ref C)) (cl : Cls K C) (na : NoAttr K C f) (ho : EOk (ClY K sa ns T) K W td go) (he : EOk (ClY K sa ns T) K W te ge) : SOk (ClY K sa ns T) K W (sFld K td te f) (sFldC c f go ge) := by
  intro B w σ Γ s out Dn Wh N e p
  refine (eok_esc he).goS (Q := fun y H1 => td σ H1 fun x H2 => ∃ a C dx fs, x = .ref a ∧ H2 a = some (.ins C dx fs) ∧ Cls K C ∧ NoAttr K C f ∧ fs.length < 1000 ∧ Dn.nx σ (upd H2 a (.ins C dx (putF f y fs)))) Wh N e p fun re Γ1 s1 y w1 W1 N1 l1 R1 e1 p1 => ?_
  refine ho.goS (Q := fun x H2 => ∃ a C dx fs, x = .ref a ∧ H2 a = some (.ins C dx fs) ∧ Cls K C ∧ NoAttr K C f ∧ fs.length < 1000 ∧ Dn.nx σ (upd H2 a (.ins C dx (putF f y fs)))) W1 N1 e1 p1 fun ro Γ2 s2 x w2 W2 N2 l2 R2 e2 p2 => ?_
  split at e2
  · rename_i k i hi
    split at e2
    · rename_i c' fs hs
      split at e2
      · rename_i hc
        subst hc
        split at e2
        · rename_i hl
          cases e2
          obtain ⟨q, dx, es, hq, rfl, qA, hH, hd, hdA, hm, ia⟩ := ins_at W2 cn R2 hs
          have ri : ItR K w2.F w2.et y i := by
            cases re with
            | v d => cases hi; exact Rp.mono l2.F R1
            | h j =>
              cases hi
              obtain ⟨p', hp', rfl⟩ := (show ∃ p, w1.et[j]? = some p ∧ y = .ref p from R1)
              obtain ⟨m, em⟩ := l2.et
              exact ⟨p', by rw [em, List.getElem?_append_left (List.getElem?_eq_some_iff.mp hp').1]; exact hp', rfl⟩
            | o d => cases hi
            | raw z => cases hi
            | b z => cases hi
            | e z => cases hi
          obtain ⟨m1, m2⟩ := fld_put (f := f) hm ia ri
          have hlen : es.length = fs.length := by
            have := congrArg List.length hm
            simpa using this
          have hl' := Nat.le_of_ble_eq_true hl
          refine ⟨q, C, dx, es, rfl, hH, cl, na, by omega, ?_⟩
          have hdq : dx ≠ q := fun z => by rw [z, hH] at hd; cases hd
          obtain ⟨W4, N4⟩ := cell_write W2 N2 (c' := .ins c' (putI f i fs)) (o := .ins C dx (putF f y es)) hq hs qA (fun _ z => nomatch z) (fun _ z => by rw [hH] at z; cases z) (fun _ z => by rw [hH] at z; cases z)
            ⟨qA, C, dx, _, cn, upd_same, (upd_ne hdq).trans hd, hdA, m1, m2⟩
          exact p2 _ σ W4 N4 ⟨Same.refl _, [], by simp⟩
        · cases e2
      · cases e2
    · cases e2
  · cases e2
end
section
variable {sa : Addr} {ns : List Int} {T : List (Addr × Str)} {X : Cx} {W : WX} {e o : Expr} {pos p2 : Pos} {td te : TE} {K : PySem.W.Frag} {go ge : GE (ClY K sa ns T)} {c f : Str} {C : Addr}
theorem me_fldK (hK : X.K = K) (cn : Cn K c (.ref C)) (cl : Cls K C) (na : NoAttr K C f) (ho : ME (ClY K sa ns T) X W o td go) (hb : attributeBase o f X.env (eval o X.env) = eval o X.env := by rfl) : ME (ClY K sa ns T) X W (.Attribute o f pos) (tFld K td f) (gFld c f go) := by
  subst hK
  exact ⟨pe_fld ho.pe hb, eok_fld cn cl na ho.ok⟩
theorem ms_fldK (hK : X.K = K) (cn : Cn K c (.ref C)) (cl : Cls K C) (na : NoAttr K C f) (ho : ME (ClY K sa ns T) X W o td go) (he : ME (ClY K sa ns T) X W e te ge) (hs : swapsWith e (some (.Attribute o f p2)) pos.line X.env = pure false := by rfl) :
    MS (ClY K sa ns T) X W (.Assign [.Attribute o f p2] e pos) (sFld K td te f) (sFldC c f go ge) := by
  subst hK
  exact ⟨ps_fld ho.pe he.pe hs, sok_fld cn cl na ho.ok he.ok⟩
end
end FX
set_option Elab.async false
set_option linter.all false
set_option maxRecDepth 100000
set_option maxHeartbeats 1000000
namespace FX
open PySem PySem.Spec L2
def EF : XK := fun _ _ _ => False
theorem passF {X : Cx} {P : Program} {w : World} : Passes (L2.CX P w) X EF := fun _ _ _ _ _ _ _ h => by
  obtain ⟨_, _, _, _, _, _, _, _, _, _, _, _, z⟩ := h
  exact z.elim
def tIns (C : Addr) (m : Str) (ta : TE) : TE := fun σ H Q => ta σ H fun x H1 => ∃ a dx fs, x = .ref a ∧ H1 a = some (.ins C dx fs) ∧ fs.lookup m = none ∧ Q x H1
section
variable {X : Cx} {k : Nat} {f C : Addr} {fd : FuncData} {ps : List Str} {sp : Sp} {x m : Str} {p pos apos : Pos} {e o : Expr} {es : List Expr} {ta : TE} {t : TA}
theorem tMeth_eq {σ : St} {H : Hp} {Q : VK} (h : tCallS sp (fun _ => EF) (tCons (tIns C m ta) t) σ H Q) : tMeth C m sp [] EF ta t σ H Q := by
  have e : tMeth C m sp [] EF ta t = fun σ H Q => ta σ H fun x H1 => ∃ a dx fs, x = .ref a ∧ H1 a = some (.ins C dx fs) ∧ fs.lookup m = none ∧ t σ H1 fun vs H2 => sp (x :: vs) H2 Q EF := by
    unfold tMeth
    simp only [List.append_nil]
  rw [e]
  exact h
theorem pe_methS {pl : Sem Bool} (he : PE X o ta) (c : Cls X.K C) (hm : Meth X.K C m f) (F : FnOk X.prog X.w X.K X.mg X.base (L2.CX X.prog X.w) k f fd ps sp) (hr : Room k X.A) (hb : Binds X.K fd ps []) (ha : PA X (e :: es) t)
    (hst : starEach (e :: es) X.env = (false, eval e X.env) :: starEach es X.env := by rfl) (hpl : (backTo pos (starEach es X.env)).any (·.1) = false := by rfl)
    (ht : eval (.Call (.Attribute o m apos) (e :: es) [] pos) X.env = (do
      let ov ← eval o X.env
      standAt apos.atName
      let (f, first) ← holding [ov] (getMethod ov m pl)
      callWith pos f first (backTo pos (starEach (e :: es) X.env)) (backToKw pos (keywordEach [] X.env))) := by rfl) :
    PE X (.Call (.Attribute o m apos) (e :: es) [] pos) (tCallS sp (fun _ => EF) (tCons (tIns C m ta) t)) :=
  ⟨fun pins s σ H Q I h => (pe_meth (pl := pl) he c hm F hr hb .nil passF ha hst hpl ht).run pins s σ H Q I (tMeth_eq h)⟩
theorem pe_methS0 {pl : Sem Bool} (he : PE X o ta) (c : Cls X.K C) (hm : Meth X.K C m f) (F : FnOk X.prog X.w X.K X.mg X.base (L2.CX X.prog X.w) k f fd ps sp) (hr : Room k X.A) (hb : Binds X.K fd ps [])
    (ht : eval (.Call (.Attribute o m apos) [] [] pos) X.env = (do
      let ov ← eval o X.env
      standAt apos.atName
      let (f, first) ← holding [ov] (getMethod ov m pl)
      callWith pos f first (backTo pos (starEach [] X.env)) (backToKw pos (keywordEach [] X.env))) := by rfl) :
    PE X (.Call (.Attribute o m apos) [] [] pos) (tCallS sp (fun _ => EF) (tCons (tIns C m ta) tNil)) :=
  ⟨fun pins s σ H Q I h => (pe_meth0 (pl := pl) he c hm F hr hb .nil passF ht).run pins s σ H Q I (tMeth_eq h)⟩
def tMk (C : Addr) (sp : Sp) (t : TA) : TE := fun σ H Q => t σ H fun vs H1 => ∀ x dx, H1 x = none → H1 dx = none → dx ≠ x → sp (.ref x :: vs) (upd (upd H1 dx (.own x)) x (.ins C dx [])) (fun v H2 => v = .non ∧ Q (.ref x) H2) EF
theorem pe_makeS (M : Mk X.K C f) (F : FnOk X.prog X.w X.K X.mg X.base (L2.CX X.prog X.w) k f fd ps sp) (hr : Room (k + 1) X.A) (hg : Gl X x) (hm : X.mg x = some (.ref C)) (hb : Binds X.K fd ps []) (ha : PA X (e :: es) t)
    (hdb : (x == ("__debug__" : Str)) = false := by decide) (he : starEach (e :: es) X.env = (false, eval e X.env) :: starEach es X.env := by rfl) (hpl : (backTo pos (starEach es X.env)).any (·.1) = false := by rfl) :
    PE X (.Call (.Name x p) (e :: es) [] pos) (tMk C sp t) := by
  have e : tMk C sp t = tMake C sp [] EF t := by
    unfold tMake tMk
    simp only [List.append_nil]
  rw [e]
  exact pe_make M F hr hg hm hb .nil passF ha hdb he hpl
end
section
variable {K : PySem.W.Frag} {Y : Sys} {W : WX} {B : Hp} {w : Wo} {σ : St} {Γ : Ev} {s : Y.S}
def gFn0 (n : Nat) (m : Fm Y) (gr : GA Y) : GE Y := bd gr fun rs Γ s => if (rs.all argR && rs.length == n) = true then (match m rs s with
  | some (.ok (.v d), s') => some (.ok (.v d), Γ, s')
  | some (.ok (.o d), s') => some (.ok (.o d), Γ, s')
  | some (.ok (.h i), s') => some (.ok (.h i), Γ, s')
  | _ => none) else none
theorem fn_sp {n : Nat} {m : Fm Y} {w1 : Wo} {s1 : Y.S} {Γ1 : Ev} {rs : List R} {xs : List V} {r : R} {s' : Y.S} {Q : VK} {E : XK} (W1 : Wd Y B w1 s1) (N1 : EnvR K B w1 σ Γ1) (R1 : RsA K B w1 σ Γ1 xs rs) (ha : rs.all argR = true) (hl : rs.length = n)
    (em : m rs s1 = some (.ok r, s')) (nb : ∀ k, r ≠ .b k) (p : ∀ w', Wd Y B w' s' → EnvR K B w' σ Γ1 → Le w1 w' → ∀ x, ResR K B w' σ Γ1 x r → Q x w'.H) : spM Y K n m xs w1.H Q E := by
  have sB : Same B (restB w1) := fun q o h => by
    have qa : q ∉ w1.A := fun z => by
      have := (W1.dA q z).2
      rw [h] at this; cases this
    cases z : w1.F q with
    | none => exact restB_H (W1.sB q o h) z qa
    | some u =>
      rcases W1.dj q u z with k | ⟨xs, rfl⟩
      · rw [h] at k; cases k
      · have a := W1.sF q _ z
        rw [W1.sB q o h] at a
        cases a
        exact restB_T z qa
  have Wc : Wd Y (restB w1) w1 s1 := ⟨W1.sF, fun q o h => restB_of W1.sF h, fun q o h => restB_F h, fun q h => ⟨(W1.dA q h).1, restB_A h⟩, W1.rel⟩
  have Nb : ∀ {w' : Wo} {s' : Y.S}, Wd Y (restB w1) w' s' → Le w1 w' → EnvR K B w' σ Γ1 ∧ ∀ (i : Nat) (e : D) (q : Addr), Γ1[i]? = some (some (R.o e)) → restB w1 q = none → σ[i]? ≠ some (some (.ref q)) := fun {w' s'} W' l' => by
    have at' : ∀ (q : Addr) (o : HO), restB w1 q = some o → (∀ xs, o ≠ .tup xs) → w'.H q = some o ∧ w'.F q = none ∧ q ∉ w'.A := fun q o h hn => by
      refine ⟨W'.sB q o h, W'.apart h hn, fun z => ?_⟩
      · have := (W'.dA q z).2
        rw [h] at this; cases this
    refine ⟨⟨N1.len, fun i r hi => ?_, N1.inj⟩, fun i e q hi hq hs => ?_⟩
    · obtain ⟨x, a, b⟩ := N1.sl i r hi
      refine ⟨x, a, ?_⟩
      cases r with
      | o d =>
        obtain ⟨q, rfl, own, fq, bq, aq⟩ := b
        obtain ⟨o, ho, hn⟩ := own.obj'
        obtain ⟨h1, h2, h3⟩ := at' q o (restB_H ho fq aq) hn
        exact ⟨q, rfl, own.move l'.F (h1.trans ho.symm), h2, bq, h3⟩
      | v d => exact Rp.mono l'.F b
      | h k => exact SlR.le l' (fun d => ⟨fun z => (nomatch z), fun k z => (nomatch z)⟩) b
      | raw y => exact b
      | e y =>
        obtain ⟨p', cls, e1, q, c⟩ := b
        exact ⟨p', cls, e1, l'.F _ _ q, c⟩
      | b k => exact b
    · obtain ⟨x, a, b⟩ := N1.sl i _ hi
      obtain ⟨q', rfl, own, fq, bq, aq⟩ := b
      rw [hs] at a; cases a
      obtain ⟨o, ho⟩ := own.obj
      rw [restB_H ho fq aq] at hq; cases hq
  refine ⟨restB w1, w1, rs, s1, _, rfl, Wc, ara_of R1 ha, hl, em, fun w' x W' r' l' => ?_⟩
  obtain ⟨N2, oth⟩ := Nb W' l'
  refine p w' (W'.weak sB) N2 l' x ?_
  cases r with
  | o d =>
    obtain ⟨q, rfl, own, fq, bq, aq⟩ := r'
    exact ⟨⟨q, rfl, own, fq, sB.free bq, aq⟩, fun i e hi hs => oth i e q hi bq hs⟩
  | v d => exact r'
  | h d => exact r'
  | raw d => exact r'
  | e d => exact r'
  | b d => exact absurd rfl (nb d)
theorem eok_fn0 {n : Nat} {m : Fm Y} {ta : TA} {gr : GA Y} (ha : AOk Y K W ta gr) : EOk Y K W (tCallS (spM Y K n m) (fun _ => EF) ta) (gFn0 n m gr) := by
  intro B w σ Γ s out Q Wh N e p
  refine ha.go (Q := fun vs H1 => spM Y K n m vs H1 Q EF) Wh N e p fun rs Γ1 s1 xs w1 W1 N1 l1 R1 e1 p1 => ?_
  split at e1
  · rename_i hc
    rw [Bool.and_eq_true] at hc
    have hl : rs.length = n := by simpa using hc.2
    split at e1
    · rename_i d s' em; cases e1; exact fn_sp W1 N1 R1 hc.1 hl em (fun _ z => nomatch z) fun w' a b c x r => p1 w' a b c x r
    · rename_i d s' em; cases e1; exact fn_sp W1 N1 R1 hc.1 hl em (fun _ z => nomatch z) fun w' a b c x r => p1 w' a b c x r
    · rename_i d s' em; cases e1; exact fn_sp W1 N1 R1 hc.1 hl em (fun _ z => nomatch z) fun w' a b c x r => p1 w' a b c x r
    · cases e1
  · cases e1
end
section
variable {K : PySem.W.Frag} {sa : Addr} {ns : List Int} {T : List (Addr × Str)} {W : WX} {B : Hp} {w : Wo} {σ : St} {Γ : Ev} {s : List Cell}
def gIns (c m : Str) (go : GE (ClY K sa ns T)) : GE (ClY K sa ns T) := bd go fun ro Γ (s : List Cell) => match ro with
  | .h k => match s[k]? with
    | some (.ins c' fs) => if c' = c then (match fs.lookup m with
      | none => some (.ok (.h k), Γ, s)
      | some _ => none) else none
    | _ => none
  | _ => none
theorem eok_ins {c m : Str} {C : Addr} {td : TE} {go : GE (ClY K sa ns T)} (cn : Cn K c (.ref C)) (ho : EOk (ClY K sa ns T) K W td go) : EOk (ClY K sa ns T) K W (tIns C m td) (gIns c m go) := by
  intro B w σ Γ s out Q Wh N e p
  refine ho.go (Q := fun x H1 => ∃ a dx fs, x = .ref a ∧ H1 a = some (.ins C dx fs) ∧ fs.lookup m = none ∧ Q x H1) Wh N e p fun ro Γ1 s1 x w1 W1 N1 l1 R1 e1 p1 => ?_
  split at e1
  · rename_i k
    split at e1
    · rename_i c' fs hs
      split at e1
      · rename_i hc
        subst hc
        split at e1
        · rename_i hl
          cases e1
          obtain ⟨q, dx, es, hq, rfl, qA, hH, hd, hdA, hm, ia⟩ := ins_at W1 cn R1 hs
          exact ⟨q, dx, es, rfl, hH, fld_none hm hl, p1 w1 W1 N1 (.refl _) _ R1⟩
        · cases e1
      · cases e1
    · cases e1
  · cases e1
def gMk (c : Str) (n : Nat) (m : Fm (ClY K sa ns T)) (gr : GA (ClY K sa ns T)) : GE (ClY K sa ns T) := bd gr fun rs Γ (s : List Cell) => if (rs.all argR && rs.length + 1 == n) = true then (match m (.h s.length :: rs) (clSnoc s (.ins c [])) with
  | some (.ok (.v .none), s') => some (.ok (.h s.length), Γ, s')
  | _ => none) else none
theorem rsa_le {w2 : Wo} {Γ : Ev} (l : Le w w2) : ∀ {xs : List V} {rs : List R}, rs.all argR = true → RsA K B w σ Γ xs rs → RsA K B w2 σ Γ xs rs
  | _, _, _, .nil => .nil
  | _, .v _ :: _, h, .cons q t => .cons (Rp.mono l.F q) (rsa_le l (by simpa [argR] using h) t)
  | _, .h _ :: _, h, .cons q t => .cons (by
      obtain ⟨p, a, b⟩ := q
      obtain ⟨m, em⟩ := l.et
      exact ⟨p, by rw [em, List.getElem?_append_left (List.getElem?_eq_some_iff.mp a).1]; exact a, b⟩) (rsa_le l (by simpa [argR] using h) t)
  | _, .raw _ :: _, h, .cons q t => .cons q (rsa_le l (by simpa [argR] using h) t)
  | _, .e _ :: _, h, .cons q t => .cons (by
      obtain ⟨p, cls, a, b, c⟩ := q
      exact ⟨p, cls, a, l.F _ _ b, c⟩) (rsa_le l (by simpa [argR] using h) t)
  | _, .o _ :: _, h, .cons _ _ => by simp [argR] at h
  | _, .b _ :: _, h, .cons _ _ => by simp [argR] at h
theorem eok_mk {c : Str} {C : Addr} {n : Nat} {m : Fm (ClY K sa ns T)} {ta : TA} {gr : GA (ClY K sa ns T)} (cn : Cn K c (.ref C)) (ha : AOk (ClY K sa ns T) K W ta gr) : EOk (ClY K sa ns T) K W (tMk C (spM (ClY K sa ns T) K n m) ta) (gMk c n m gr) := by
  intro B w σ Γ s out Q Wh N e p
  refine ha.go (Q := fun vs H1 => ∀ x dx, H1 x = none → H1 dx = none → dx ≠ x → spM (ClY K sa ns T) K n m (.ref x :: vs) (upd (upd H1 dx (.own x)) x (.ins C dx [])) (fun v H2 => v = .non ∧ Q (.ref x) H2) EF) Wh N e p fun rs Γ1 s1 xs w1 W1 N1 l1 R1 e1 p1 => ?_
  split at e1
  · rename_i hc
    rw [Bool.and_eq_true] at hc
    have hl : (R.h (List.length (α := Cell) s1) :: rs).length = n := by simpa using hc.2
    split at e1
    · rename_i s' em
      cases e1
      intro x dx nx nd ne
      have rel : ClR K sa ns T s1 w1.F w1.et w1.A w1.H := W1.rel
      have fx : w1.F x = none := W1.sF.free nx
      have fd : w1.F dx = none := W1.sF.free nd
      have bx : B x = none := W1.sB.free nx
      have bd : B dx = none := W1.sB.free nd
      have ax : x ∉ w1.A := fun z => (rel.av x z).1 nx
      have ad : dx ∉ w1.A := fun z => (rel.av dx z).1 nd
      let H2 := upd (upd w1.H dx (.own x)) x (.ins C dx [])
      have k2 : ∀ q o, w1.H q = some o → H2 q = some o := fun q o h => by
        show upd _ _ _ q = _
        rw [upd_ne (ne_of_none h nx), upd_ne (ne_of_none h nd)]; exact h
      have rel2 : ClR K sa ns T s1 w1.F w1.et w1.A H2 := (ClY K sa ns T).frame (s := s1) W1.rel (Same.refl _) fun q hq => by
        cases z : w1.H q with
        | none => exact absurd z (rel.av q hq).1
        | some o => exact k2 q o z
      have xe : x ∉ w1.et := rel.off fx ax
      have hx2 : H2 x = some (.ins C dx []) := upd_same
      have hd2 : H2 dx = some (.own x) := by
        show upd _ _ _ dx = _
        rw [upd_ne ne]; exact upd_same
      have hsa : x ≠ sa ∨ ∀ G, SqL K G sa (ns.map V.int) := by
        rcases rel.sc with ⟨a, _, _⟩ | c
        · exact .inl fun z => ax (by rw [z]; exact a)
        · exact .inr c
      have rel3 := rel2.snoc (c := .ins c []) (B := [x, dx]) xe (fun q hq => by
          rcases List.mem_cons.mp hq with z | z
          · rw [z, hx2]; exact ⟨(fun z => nomatch z), (fun _ z => nomatch z)⟩
          · rw [List.mem_singleton.mp z, hd2]; exact ⟨(fun z => nomatch z), (fun _ z => nomatch z)⟩) hsa ⟨by simp, C, dx, [], cn, hx2, hd2, by simp, rfl, .nil⟩
      let w2 : Wo := { F := w1.F, A := w1.A ++ [x, dx], et := w1.et ++ [x], H := H2 }
      have W2 : Wd (ClY K sa ns T) B w2 (clSnoc s1 (.ins c [])) := ⟨fun q o h => k2 q o (W1.sF q o h), fun q o h => k2 q o (W1.sB q o h), W1.dj, fun q hq => by
          rcases List.mem_append.mp hq with z | z
          · exact W1.dA q z
          · rcases List.mem_cons.mp z with z | z
            · rw [z]; exact ⟨fx, bx⟩
            · rw [List.mem_singleton.mp z]; exact ⟨fd, bd⟩, rel3⟩
      have N1b : EnvR K B { w1 with H := H2 } σ Γ1 := ⟨N1.len, fun i r hi => by
        obtain ⟨y, a, b⟩ := N1.sl i r hi
        refine ⟨y, a, ?_⟩
        cases r with
        | v d => exact b
        | o d =>
          obtain ⟨p', rfl, own, f', b', a'⟩ := b
          obtain ⟨o, ho⟩ := own.obj
          exact ⟨p', rfl, own.move (Same.refl _) ((k2 p' o ho).trans ho.symm), f', b', a'⟩
        | h k => exact b
        | raw y => exact b
        | e y => exact b
        | b k => exact b, N1.inj⟩
      have N2 : EnvR K B w2 σ Γ1 := N1b.grow (m := [x, dx]) (E := [x]) fun i d q hi hs z => by
        obtain ⟨y, a, b⟩ := N1.sl i _ hi
        rw [hs] at a; cases a
        obtain ⟨p', e', own, _⟩ := b
        cases e'
        obtain ⟨o, ho⟩ := own.obj
        rcases List.mem_cons.mp z with z | z
        · rw [z, nx] at ho; cases ho
        · rw [List.mem_singleton.mp z, nd] at ho; cases ho
      have l2 : Le w1 w2 := ⟨Same.refl _, [x], rfl⟩
      have hx : w2.et[List.length (α := Cell) s1]? = some x := by
        show (w1.et ++ [x])[List.length (α := Cell) s1]? = _
        rw [← rel.len, List.getElem?_append_right (Nat.le_refl _)]
        simp
      have R2 : RsA K B w2 σ Γ1 (.ref x :: xs) (.h (List.length (α := Cell) s1) :: rs) := .cons ⟨x, hx, rfl⟩ (rsa_le l2 hc.1 R1)
      refine fn_sp (w1 := w2) (r := .v .none) W2 N2 R2 (by simpa [argR] using hc.1) hl em (fun _ z => nomatch z) fun w' W' N' l' y r' => ?_
      cases (show Rp K w'.F y .none from r')
      refine ⟨rfl, p1 w' W' N' (l2.trans l') _ ⟨x, ?_, rfl⟩⟩
      obtain ⟨mm, em⟩ := l'.et
      rw [em, List.getElem?_append_left (List.getElem?_eq_some_iff.mp hx).1]
      exact hx
    · cases e1
  · cases e1
end
section
variable {sa : Addr} {ns : List Int} {T : List (Addr × Str)} {X : Cx} {W : WX} {e o : Expr} {es : List Expr} {pos p apos : Pos} {td : TE} {ta : TA} {K : PySem.W.Frag} {go : GE (ClY K sa ns T)} {gr : GA (ClY K sa ns T)} {c x mn : Str} {C f : Addr} {fd : FuncData} {ps : List Str} {k n : Nat} {m : Fm (ClY K sa ns T)}
def gMeth (c mn : Str) (n : Nat) (m : Fm (ClY K sa ns T)) (go : GE (ClY K sa ns T)) (gr : GA (ClY K sa ns T)) : GE (ClY K sa ns T) := gFn0 n m (gK (gIns c mn go) gr)
theorem aok_cons {te : TE} {t : TA} {go : GE (ClY K sa ns T)} {gr : GA (ClY K sa ns T)} (ho : EOk (ClY K sa ns T) K W te go) (ha : AOk (ClY K sa ns T) K W t gr) : AOk (ClY K sa ns T) K W (tCons te t) (gK go gr) := by
  intro B w σ Γ s out Q Wh N e p
  refine ho.go (Q := fun x H1 => t σ H1 fun xs H2 => Q (x :: xs) H2) Wh N e p fun r Γ1 s1 x w1 W1 N1 l1 R1 e1 p1 => ?_
  obtain ⟨B2, sB, W1b, N1b, kp, _⟩ := keep W1 N1 R1
  refine ha.go (Q := fun xs H2 => Q (x :: xs) H2) W1b N1b e1 (p1.imp sB fun _ _ _ q => q) fun rs Γ2 s2 xs w2 W2 N2 l2 Rs e2 p2 => ?_
  cases e2
  exact p1 w2 (W2.weak sB) (N2.weak sB) l2 _ (.cons (kp W2 N2 l2) (Rs.weak sB))
theorem me_methK (hK : X.K = K) (cn : Cn K c (.ref C)) (cl : Cls K C) (hm : Meth K C mn f) (F : FnOk X.prog X.w X.K X.mg X.base (L2.CX X.prog X.w) k f fd ps (spM (ClY K sa ns T) X.K n m)) (hr : Room k X.A) (hb : Binds X.K fd ps []) (ho : ME (ClY K sa ns T) X W o td go) (ha : MA (ClY K sa ns T) X W (e :: es) ta gr)
    {pl : Sem Bool} (hst : starEach (e :: es) X.env = (false, eval e X.env) :: starEach es X.env := by rfl) (hpl : (backTo pos (starEach es X.env)).any (·.1) = false := by rfl)
    (ht : eval (.Call (.Attribute o mn apos) (e :: es) [] pos) X.env = (do
      let ov ← eval o X.env
      standAt apos.atName
      let (f, first) ← holding [ov] (getMethod ov mn pl)
      callWith pos f first (backTo pos (starEach (e :: es) X.env)) (backToKw pos (keywordEach [] X.env))) := by rfl) :
    ME (ClY K sa ns T) X W (.Call (.Attribute o mn apos) (e :: es) [] pos) (tCallS (spM (ClY K sa ns T) K n m) (fun _ => EF) (tCons (tIns C mn td) ta)) (gMeth c mn n m go gr) := by
  subst hK
  exact ⟨pe_methS (pl := pl) ho.pe cl hm F hr hb ha.pe hst hpl ht, eok_fn0 (aok_cons (eok_ins cn ho.ok) ha.ok)⟩
theorem me_meth0K (hK : X.K = K) (cn : Cn K c (.ref C)) (cl : Cls K C) (hm : Meth K C mn f) (F : FnOk X.prog X.w X.K X.mg X.base (L2.CX X.prog X.w) k f fd ps (spM (ClY K sa ns T) X.K n m)) (hr : Room k X.A) (hb : Binds X.K fd ps []) (ho : ME (ClY K sa ns T) X W o td go)
    {pl : Sem Bool} (ht : eval (.Call (.Attribute o mn apos) [] [] pos) X.env = (do
      let ov ← eval o X.env
      standAt apos.atName
      let (f, first) ← holding [ov] (getMethod ov mn pl)
      callWith pos f first (backTo pos (starEach [] X.env)) (backToKw pos (keywordEach [] X.env))) := by rfl) :
    ME (ClY K sa ns T) X W (.Call (.Attribute o mn apos) [] [] pos) (tCallS (spM (ClY K sa ns T) K n m) (fun _ => EF) (tCons (tIns C mn td) tNil)) (gMeth c mn n m go gN) := by
  subst hK
  exact ⟨pe_methS0 (pl := pl) ho.pe cl hm F hr hb ht, eok_fn0 (aok_cons (eok_ins cn ho.ok) (ma_nil (X := X) (W := W)).ok)⟩
theorem me_mkK (hK : X.K = K) (cn : Cn K c (.ref C)) (M : Mk K C f) (F : FnOk X.prog X.w X.K X.mg X.base (L2.CX X.prog X.w) k f fd ps (spM (ClY K sa ns T) X.K n m)) (hr : Room (k + 1) X.A) (hg : Gl X x) (hm : X.mg x = some (.ref C)) (hb : Binds X.K fd ps []) (ha : MA (ClY K sa ns T) X W (e :: es) ta gr)
    (hdb : (x == ("__debug__" : Str)) = false := by decide) (he : starEach (e :: es) X.env = (false, eval e X.env) :: starEach es X.env := by rfl) (hpl : (backTo pos (starEach es X.env)).any (·.1) = false := by rfl) :
    ME (ClY K sa ns T) X W (.Call (.Name x p) (e :: es) [] pos) (tMk C (spM (ClY K sa ns T) K n m) ta) (gMk c n m gr) := by
  subst hK
  exact ⟨pe_makeS M F hr hg hm hb ha.pe hdb he hpl, eok_mk cn ha.ok⟩
end
end FX
set_option Elab.async false
set_option linter.all false
set_option maxRecDepth 100000
set_option maxHeartbeats 1000000
namespace FX
open PySem PySem.Spec L2 PyProof.Rows
def Itz3 (K : PySem.W.Frag) (a b c : Addr) (n1 n2 n3 : Nat) : L2.It :=
  ⟨fun i H => i < n1 ∧ i < n2 ∧ i < n3 ∧ ∃ (xs ys zs : List V), SqT K H a xs ∧ SqT K H b ys ∧ SqL K H c zs ∧ xs.length = n1 ∧ ys.length = n2 ∧ zs.length = n3,
    fun i H v H' => ∃ T x y z, v = .ref T ∧ H T = none ∧ H' = upd H T (.tup [x, y, z]) ∧ (∀ xs, SqT K H a xs → xs[i]? = some x) ∧ (∀ ys, SqT K H b ys → ys[i]? = some y) ∧ ∀ zs, SqL K H c zs → zs[i]? = some z,
    fun i H => (n1 ≤ i ∨ n2 ≤ i ∨ n3 ≤ i) ∧ ∃ (xs ys zs : List V), SqT K H a xs ∧ SqT K H b ys ∧ SqL K H c zs ∧ xs.length = n1 ∧ ys.length = n2 ∧ zs.length = n3⟩
theorem nm3 (x y z : Nat) (h1 : x ≠ y) (h2 : x ≠ z) : x ∉ [y, z] := fun h => by
  rcases List.mem_cons.mp h with h | h
  · exact h1 h
  · exact h2 (List.mem_singleton.mp h)
theorem nq3 (x y : Nat) (h : x ≠ y) : x ≠ y := h
theorem sep3 (n a b c : Nat) (la : a < n) (lb : b < n) (lc : c < n) : ZipSep3 (n + 5) (n + 3) (n + 4) n (n + 1) (n + 2) [n, a] [n + 1, b] [n + 2, c] :=
  ⟨nq3 _ _ (by omega), nq3 _ _ (by omega), nq3 _ _ (by omega), nq3 _ _ (by omega), List.mem_cons_self, nm3 _ _ _ (by omega) (by omega), nm3 _ _ _ (by omega) (by omega), nq3 _ _ (by omega), List.mem_cons_self, nm3 _ _ _ (by omega) (by omega), nm3 _ _ _ (by omega) (by omega),
   nq3 _ _ (by omega), List.mem_cons_self, nm3 _ _ _ (by omega) (by omega), nm3 _ _ _ (by omega) (by omega), nm3 _ _ _ (by omega) (by omega), nm3 _ _ _ (by omega) (by omega), nm3 _ _ _ (by omega) (by omega), nm3 _ _ _ (by omega) (by omega), nm3 _ _ _ (by omega) (by omega), nm3 _ _ _ (by omega) (by omega)⟩
theorem turn_zip3 {P : Program} {w : World} {K : PySem.W.Frag} {elts : List Expr} {kk : Nat} {tpos : Pos} {a b c z TI TO i1 i2 i3 : Addr} {n1 n2 n3 : Nat} (D : ZipSep3 z TI TO i1 i2 i3 [i1, a] [i2, b] [i3, c]) :
    Turn P w K (.Tuple elts kk tpos) (Itz3 K a b c n1 n2 n3) [z, TI, TO, i1, i2, i3] z (fun i h => i ≤ n1 ∧ i ≤ n2 ∧ i ≤ n3 ∧ IsZip h z TI TO .none ∧ IsTupOf3 h TI (.ref i1) (.ref i2) (.ref i3) ∧ (∃ x y u, IsTupOf3 h TO x y u) ∧ h.IsTupleIter i1 a i ∧ h.IsTupleIter i2 b i ∧ h.IsListIter i3 c i) where
  mem := by simp
  obj := fun i h st q hq => by
    obtain ⟨_, _, _, hz, hTI, ⟨x, y, u, hTO⟩, ⟨o1, e1, _, d1⟩, ⟨o2, e2, _, d2⟩, ⟨o3, e3, _, d3⟩⟩ := st
    have e' : q = z ∨ q = TI ∨ q = TO ∨ q = i1 ∨ q = i2 ∨ q = i3 := by simpa using hq
    rcases e' with k | k | k | k | k | k
    · rw [k]; exact ⟨_, hz, fun v q => nomatch q⟩
    · rw [k]; exact ⟨_, hTI, fun v q => nomatch q⟩
    · rw [k]; exact ⟨_, hTO, fun v q => nomatch q⟩
    · rw [k]; exact ⟨o1, e1, fun v q => by rw [d1] at q; cases q⟩
    · rw [k]; exact ⟨o2, e2, fun v q => by rw [d2] at q; cases q⟩
    · rw [k]; exact ⟨o3, e3, fun v q => by rw [d3] at q; cases q⟩
  keep := fun i h h' st k => by
    obtain ⟨l1, l2, l3, hz, hTI, ⟨x, y, u, hTO⟩, h1, h2, h3⟩ := st
    exact ⟨l1, l2, l3, k z (by simp) _ hz, k TI (by simp) _ hTI, ⟨x, y, u, k TO (by simp) _ hTO⟩, h1.at fun o q => k i1 (by simp) o q, h2.at fun o q => k i2 (by simp) o q, h3.at fun o q => k i3 (by simp) o q⟩
  item := by
    intro X hP hw hK hc i pins s σ H E I hf st hg
    subst hP hw hK
    obtain ⟨_, _, _, hz, hTI, ⟨x0, y0, u0, hTO⟩, h1, h2, h3⟩ := st
    obtain ⟨l1, l2, l3, xs, ys, zs, hqx, hqy, hqz, e1, e2, e3⟩ := hg
    obtain ⟨its, rv, p, _⟩ := I.tuple hqx
    obtain ⟨its2, rv2, p2, _⟩ := I.tuple hqy
    obtain ⟨its3, rv3, p3, _⟩ := I.list hqz
    have z1 := rv.length
    have z2 := rv2.length
    have z3 := rv3.length
    have hh := I.ok.hd hc
    have hzl : z < s.heap.objs.size := Heap.lt_size hz
    refine wpAny_pyNext_zipD3_item D (Draws.tuple (A := X.A.in1) hh i1 a (fun q => by have := D.sep1_2; have := D.mem1; have hi := h1; obtain ⟨o1, x1, x2, x3⟩ := h1; obtain ⟨o2, y1, y2, _⟩ := p; rw [q, x1] at y1; cases y1; rw [x2] at y2; exact absurd y2 (by decide)) its.toArray)
      (Draws.tuple (A := X.A.in1) hh i2 b (fun q => by obtain ⟨o1, x1, x2, x3⟩ := h2; obtain ⟨o2, y1, y2, _⟩ := p2; rw [q, x1] at y1; cases y1; rw [x2] at y2; exact absurd y2 (by decide)) its2.toArray)
      (Draws.list (A := X.A.in1) hh i3 c (fun q => by obtain ⟨o1, x1, x2, x3⟩ := h3; obtain ⟨o2, y1, y2, _⟩ := p3.isList; rw [q, x1] at y1; cases y1; rw [x2] at y2; exact absurd y2 (by decide)) its3.toArray)
      hz hTI hTO ⟨h1, p⟩ ⟨h2, p2⟩ ⟨h3, p3.isList⟩ (by simp; omega) (by simp; omega) (by simp; omega) fun u1 u2 u3 h' tk g1 g2 g3 z' TO' s1 s2 s3 hT hsz hk => ?_
    refine ⟨_, rfl, wpAny_letOwnedTupleGo_zip (s := { s with heap := h', toks := tk }) z' fun h'' z'' sb => ?_⟩
    have hT2 : h''.get? s.heap.objs.size = some { cls := .type "tuple", data := .seq #[u1, u2, u3] } := (sb.2 _ (Nat.ne_of_gt hzl)).trans hT
    have get1 : ∀ {l : List V} {us : List Value} {u : Value}, Vals l us → us[i]? = some u → ∃ x, l[i]? = some x ∧ RelV x u := by
      intro l us u r e
      have hl := r.length
      have hi : i < l.length := by
        have := (List.getElem?_eq_some_iff.mp e).1
        omega
      obtain ⟨u', e', r'⟩ := r.get (List.getElem?_eq_getElem hi)
      rw [e] at e'; cases e'
      exact ⟨_, List.getElem?_eq_getElem hi, r'⟩
    obtain ⟨x, hx, rx⟩ := get1 rv (by simpa using g1)
    obtain ⟨y, hy, ry⟩ := get1 rv2 (by simpa using g2)
    obtain ⟨t, ht, rt⟩ := get1 rv3 (by simpa using g3)
    have new : ObjOk X.prog X.w (upd H s.heap.objs.size (.tup [x, y, t])) h'' s.heap.objs.size (.tup [x, y, t]) :=
      ⟨by show 3 ≤ sizeLine; decide, [u1, u2, u3], .cons rx (.cons ry (.cons rt .nil)), ⟨_, hT2, rfl, _, rfl⟩⟩
    have I1 : Inv X pins σ (upd H s.heap.objs.size (.tup [x, y, t])) { s with heap := h'', toks := tk } :=
      I.turnedNew (t' := tk) (ch := [z, TI, TO, i1, i2, i3]) (fun c o hb q => (sb.2 c (fun q' => hb (by simp [q']))).trans (hk c o (fun q' => hb (by simp [q'])) (fun q' => hb (by simp [q'])) (fun q' => hb (by simp [q'])) (fun q' => hb (by simp [q'])) (fun q' => hb (by simp [q'])) q)) hf (Nat.le_refl _) new
    refine ⟨.ref s.heap.objs.size, _, I1, rfl, ⟨_, x, y, t, rfl, I.hok.fresh (Nat.le_refl _), rfl, fun l hl => by rw [I.tuple_inj hl hqx]; exact hx, fun l hl => by rw [I.tuple_inj hl hqy]; exact hy, fun l hl => by rw [I.list_inj hl hqz]; exact ht⟩, ⟨by omega, by omega, by omega, z'', ?_, ⟨u1, u2, u3, ?_⟩, ?_, ?_, ?_⟩, fun q hcm => ?_⟩
    · exact (sb.2 _ D.TIz).trans (hk _ _ D.TIz D.TITO D.TIi1 D.TIi2 D.TIi3 hTI)
    · exact (sb.2 _ D.TOz).trans TO'
    · exact s1.1.at fun o q => (sb.2 _ D.zi1.symm).trans q
    · exact s2.1.at fun o q => (sb.2 _ D.zi2.symm).trans q
    · exact s3.1.at fun o q => (sb.2 _ D.zi3.symm).trans q
    · have hlt : q < s.heap.objs.size := by
        have e' : q = z ∨ q = TI ∨ q = TO ∨ q = i1 ∨ q = i2 ∨ q = i3 := by simpa using hcm
        rcases e' with k | k | k | k | k | k
        · rw [k]; exact hzl
        · rw [k]; exact Heap.lt_size hTI
        · rw [k]; exact Heap.lt_size hTO
        · rw [k]; obtain ⟨_, e1, _⟩ := h1; exact Heap.lt_size e1
        · rw [k]; obtain ⟨_, e2, _⟩ := h2; exact Heap.lt_size e2
        · rw [k]; obtain ⟨_, e3, _⟩ := h3; exact Heap.lt_size e3
      rw [upd_ne (Nat.ne_of_lt hlt)]
      exact (hf q hcm).1
  done := by
    intro X hP hw hK hc i pins s σ H E I hf st hg
    subst hP hw hK
    obtain ⟨m1, m2, m3, hz, hTI, ⟨x0, y0, u0, hTO⟩, h1, h2, h3⟩ := st
    obtain ⟨hend, xs, ys, zs, hqx, hqy, hqz, e1, e2, e3⟩ := hg
    obtain ⟨its, rv, p, _⟩ := I.tuple hqx
    obtain ⟨its2, rv2, p2, _⟩ := I.tuple hqy
    obtain ⟨its3, rv3, p3, _⟩ := I.list hqz
    have z1 := rv.length
    have z2 := rv2.length
    have z3 := rv3.length
    have hh := I.ok.hd hc
    exact wpAny_pyNext_zipD3_end D (Draws.tuple (A := X.A.in1) hh i1 a (fun q => by obtain ⟨o1, x1, x2, x3⟩ := h1; obtain ⟨o2, y1, y2, _⟩ := p; rw [q, x1] at y1; cases y1; rw [x2] at y2; exact absurd y2 (by decide)) its.toArray)
      (Draws.tuple (A := X.A.in1) hh i2 b (fun q => by obtain ⟨o1, x1, x2, x3⟩ := h2; obtain ⟨o2, y1, y2, _⟩ := p2; rw [q, x1] at y1; cases y1; rw [x2] at y2; exact absurd y2 (by decide)) its2.toArray)
      (Draws.list (A := X.A.in1) hh i3 c (fun q => by obtain ⟨o1, x1, x2, x3⟩ := h3; obtain ⟨o2, y1, y2, _⟩ := p3.isList; rw [q, x1] at y1; cases y1; rw [x2] at y2; exact absurd y2 (by decide)) its3.toArray)
      hz hTI hTO ⟨h1, p⟩ ⟨h2, p2⟩ ⟨h3, p3.isList⟩ (by simp; omega) (by simp; omega) (by simp; omega) (by simp; omega) fun h' tk hk => ⟨rfl, I.turnedL (t' := tk) (ch := [z, TI, TO, i1, i2, i3]) (fun c o hb q =>
      hk c o (fun q' => hb (by simp [q'])) (fun q' => hb (by simp [q'])) (fun q' => hb (by simp [q'])) (fun q' => hb (by simp [q'])) (fun q' => hb (by simp [q'])) q) hf⟩
  self := fun A i s Q E st h => wpAny_pyIter_zip st.2.2.2.1 h
def iZip3 (K : PySem.W.Frag) (ta : TA) : TI := fun σ H R => ta σ H fun vs H1 => ∃ a b c xs ys zs, vs = [.ref a, .ref b, .ref c] ∧ SqT K H1 a xs ∧ SqT K H1 b ys ∧ SqL K H1 c zs ∧ R (Itz3 K a b c xs.length ys.length zs.length) H1
theorem pi_zip3 {X : Cx} {e e2 e3 : Expr} {ta : TA} {p pos tpos : Pos} {elts : List Expr} {kk : Nat} (hg : Gl X "zip") (hm : X.mg "zip" = none) (ha : PA X [e, e2, e3] ta)
    (hs : starEach [e, e2, e3] X.env = (false, eval e X.env) :: starEach [e2, e3] X.env := by rfl) (hpl : (backTo pos (starEach [e2, e3] X.env)).any (·.1) = false := by rfl) :
    PI X (.Tuple elts kk tpos) (.Call (.Name "zip" p) [e, e2, e3] [] pos) (iZip3 X.K ta) := by
  refine ⟨fun pins s σ H R I h => ?_⟩
  refine Call_ (ld_blt I hg hm PyProof.Rows.boot_zip (PyProof.Rows.callWith_type1 (thn (ha.run pos pins s σ H _ I h) fun us s1 ⟨vs, H1, I1, r1, q1⟩ => ?_) hs hpl))
  obtain ⟨a, b, c, xs, ys, zs, ex, hqx, hqy, hqz, q⟩ := q1
  subst ex
  cases r1 with
  | cons r rr =>
    cases rr with
    | cons r' rr =>
      cases rr with
      | cons r'' rr =>
        cases rr
        cases r
        cases r'
        cases r''
        have fresh : ∀ q, q ∈ [s1.heap.objs.size + 5, s1.heap.objs.size + 3, s1.heap.objs.size + 4, s1.heap.objs.size, s1.heap.objs.size + 1, s1.heap.objs.size + 2] → FpOk X pins H1 q := fun q hcm => by
          have hle : s1.heap.objs.size ≤ q := by
            simp only [List.mem_cons, List.not_mem_nil, or_false] at hcm
            omega
          exact I1.fpOk hle (I1.hok.fresh hle)
        obtain ⟨its, rv, p1, _⟩ := I1.tuple hqx
        obtain ⟨its2, rv2, p2, _⟩ := I1.tuple hqy
        obtain ⟨its3, rv3, p3, _⟩ := I1.list hqz
        have la : a < s1.heap.objs.size := by obtain ⟨o, ho, _⟩ := id p1; exact Heap.lt_size ho
        have lb : b < s1.heap.objs.size := by obtain ⟨o, ho, _⟩ := id p2; exact Heap.lt_size ho
        have lc : c < s1.heap.objs.size := p3.lt
        refine zip_begins3 (begins_tuple a its.toArray) (begins_tuple b its2.toArray) (begins_list c its3.toArray) p1 p2 p3.isList fun h' hz hTI hTO g1 g2 g3 hsz hk => wpAny_pyIter_zip hz ?_
        have I2 : Inv X pins σ H1 { s1 with heap := h' } := I1.kept (t' := s1.toks) hk
        refine ⟨s1.heap.objs.size + 5, [s1.heap.objs.size + 5, s1.heap.objs.size + 3, s1.heap.objs.size + 4, s1.heap.objs.size, s1.heap.objs.size + 1, s1.heap.objs.size + 2], _, _, H1, rfl, I2,
          turn_zip3 (n1 := xs.length) (n2 := ys.length) (n3 := zs.length) (a := a) (b := b) (c := c) (i1 := s1.heap.objs.size) (i2 := s1.heap.objs.size + 1) (i3 := s1.heap.objs.size + 2) (TI := s1.heap.objs.size + 3) (TO := s1.heap.objs.size + 4) ?_,
          ⟨Nat.zero_le _, Nat.zero_le _, Nat.zero_le _, hz, hTI, ⟨_, _, _, hTO⟩, ⟨_, g1, rfl, rfl⟩, ⟨_, g2, rfl, rfl⟩, ⟨_, g3, rfl, rfl⟩⟩, fresh, q⟩
        exact sep3 _ a b c la lb lc
def zip3D : List D → List D → List D → List D
  | a :: as, b :: bs, c :: cs => .tuple [a, b, c] :: zip3D as bs cs
  | _, _, _ => []
theorem zip3D_get : ∀ {as bs cs : List D} {i : Nat} {d : D}, (zip3D as bs cs)[i]? = some d → ∃ a b c, as[i]? = some a ∧ bs[i]? = some b ∧ cs[i]? = some c ∧ d = .tuple [a, b, c]
  | [], _, _, _, _, h => by simp [zip3D] at h
  | _ :: _, [], _, _, _, h => by simp [zip3D] at h
  | _ :: _, _ :: _, [], _, _, h => by simp [zip3D] at h
  | a :: as, b :: bs, c :: cs, 0, d, h => by
    simp [zip3D] at h
    exact ⟨a, b, c, rfl, rfl, rfl, h.symm⟩
  | a :: as, b :: bs, c :: cs, i + 1, d, h => by
    obtain ⟨x, y, z, h1, h2, h3, h4⟩ := zip3D_get (as := as) (bs := bs) (cs := cs) (i := i) (d := d) (by simpa [zip3D] using h)
    exact ⟨x, y, z, by simpa using h1, by simpa using h2, by simpa using h3, h4⟩
theorem zip3D_len : ∀ (as bs cs : List D), (zip3D as bs cs).length = min as.length (min bs.length cs.length)
  | [], _, _ => by simp [zip3D]
  | _ :: _, [], _ => by simp [zip3D]
  | _ :: _, _ :: _, [] => by simp [zip3D]
  | _ :: as, _ :: bs, _ :: cs => by simp only [zip3D, List.length_cons, zip3D_len as bs cs]; omega
def gZip3 {Y : Sys} (g : GA Y) : GI Y := bd g fun rs Γ s => match rs with
  | [.v (.tuple as), .v (.tuple bs), .v (.list cs)] => some (.ok (zip3D as bs cs), Γ, s)
  | _ => none
theorem it_zip3 {K : PySem.W.Frag} {F : Hp} {q q2 q3 : Addr} {xs ys zs : List V} {ds es fs : List D} (h : SqT K F q xs) (r : RpA K F xs ds) (h2 : SqT K F q2 ys) (r2 : RpA K F ys es) (h3 : SqL K F q3 zs) (r3 : RpA K F zs fs) :
    ItOk K (Itz3 K q q2 q3 xs.length ys.length zs.length) F (zip3D ds es fs) := fun F1 H e1 e2 i => by
  have hH : SqT K H q xs := seqT (e1.trans e2) h
  have hH2 : SqT K H q2 ys := seqT (e1.trans e2) h2
  have hH3 : SqL K H q3 zs := (e1.trans e2).seq h3
  have hl := r.length
  have hl2 := r2.length
  have hl3 := r3.length
  rw [zip3D_len]
  refine ⟨fun hi => ?_, fun hi => ⟨by omega, xs, ys, zs, hH, hH2, hH3, rfl, rfl, rfl⟩, fun x H' y d hd => ?_⟩
  · exact ⟨by omega, by omega, by omega, xs, ys, zs, hH, hH2, hH3, rfl, rfl, rfl⟩
  · obtain ⟨T, z, z2, z3, rfl, nT, rfl, y, y2, y3⟩ := y
    obtain ⟨a, b, c, ha, hb, hc, rfl⟩ := zip3D_get hd
    obtain ⟨v, hv, rv⟩ := r.get ha
    obtain ⟨v2, hv2, rv2⟩ := r2.get hb
    obtain ⟨v3, hv3, rv3⟩ := r3.get hc
    have : z = v := Option.some.inj ((y xs hH).symm.trans hv)
    subst this
    have : z2 = v2 := Option.some.inj ((y2 ys hH2).symm.trans hv2)
    subst this
    have : z3 = v3 := Option.some.inj ((y3 zs hH3).symm.trans hv3)
    subst this
    exact .inr (.inl ⟨T, _, _, nT, rfl, rfl, rfl, .cons (rv.mono e1) (.cons (rv2.mono e1) (.cons (rv3.mono e1) .nil))⟩)
section
variable {Y : Sys} {X : Cx} {W : WX} {tg a b c : Expr} {pos p : Pos} {gr : GA Y}
theorem mi_zip3K {K : PySem.W.Frag} (hK : X.K = K) {ta : TA} {elts : List Expr} {kk : Nat} {tpos : Pos} (hg : Gl X "zip") (hm : X.mg "zip" = none) (h : MA Y X W [a, b, c] ta gr)
    (hs : starEach [a, b, c] X.env = (false, eval a X.env) :: starEach [b, c] X.env := by rfl) (hpl : (backTo pos (starEach [b, c] X.env)).any (·.1) = false := by rfl) :
    MI Y X W (.Tuple elts kk tpos) (.Call (.Name "zip" p) [a, b, c] [] pos) (iZip3 K ta) (gZip3 gr) := by
  subst hK
  obtain ⟨pe, h⟩ := h
  refine ⟨pi_zip3 hg hm pe hs hpl, fun B w σ Γ s out Q Wh N e p => ?_⟩
  refine h.go (Q := fun vs H1 => ∃ a b c xs ys zs, vs = [.ref a, .ref b, .ref c] ∧ SqT X.K H1 a xs ∧ SqT X.K H1 b ys ∧ SqL X.K H1 c zs ∧ Q (Itz3 X.K a b c xs.length ys.length zs.length) H1) Wh N e p fun rs Γ1 s1 xs w1 W1 N1 l1 R1 e1 p1 => ?_
  try simp only at e1
  split at e1
  · cases e1
    cases R1 with
    | cons q t =>
      cases t with
      | cons q2 t =>
        cases t with
        | cons q3 t =>
          cases t
          cases (show Rp X.K w1.F _ (.tuple _) from q) with
          | tup h r =>
            cases (show Rp X.K w1.F _ (.tuple _) from q2) with
            | tup h2 r2 =>
              cases (show Rp X.K w1.F _ (.list _) from q3) with
              | lst h3 r3 => exact ⟨_, _, _, _, _, _, rfl, .of (W1.sF _ _ h), .of (W1.sF _ _ h2), .of (W1.sF _ _ h3), p1 w1 W1 N1 (.refl _) _ (it_zip3 (.of h) r (.of h2) r2 (.of h3) r3)⟩
  · cases e1
end
end FX
set_option Elab.async false
set_option linter.all false
set_option maxRecDepth 100000
set_option maxHeartbeats 1000000
namespace FX
open PySem PySem.Spec L2
theorem int_reads {h : Heap} : ∀ {k : List Int} {us : List Value}, Vals (k.map V.int) us → ReadsAll h us (k.map PyData.int) []
  | [], _, e => by cases e; exact .nil
  | i :: k, _, e => by
    cases e with
    | cons e1 e2 =>
      obtain ⟨t, rfl⟩ := e1
      exact .cons (as := []) (bs := []) (.int i t) (int_reads e2)
theorem maxD_int : ∀ (l : List Int) (a : Int), ∃ m, PySem.W.maxD (.int a) (l.map PyData.int) = .int m ∧ m ∈ a :: l ∧ ∀ y ∈ a :: l, y ≤ m
  | [], a => ⟨a, rfl, by simp, by simp⟩
  | b :: l, a => by
    have e : PySem.W.maxD (.int a) ((b :: l).map PyData.int) = PySem.W.maxD (if PySem.W.dataLt (.int a) (.int b) then .int b else .int a) (l.map PyData.int) := rfl
    rw [e, PySem.W.dataLt_int]
    by_cases h : a < b
    · obtain ⟨m, h1, h2, h3⟩ := maxD_int l b
      refine ⟨m, by simpa [h] using h1, List.mem_cons_of_mem _ h2, fun y hy => ?_⟩
      rcases List.mem_cons.mp hy with rfl | hy
      · have := h3 b (by simp); omega
      · exact h3 y hy
    · obtain ⟨m, h1, h2, h3⟩ := maxD_int l a
      refine ⟨m, by simpa [h] using h1, ?_, fun y hy => ?_⟩
      · rcases List.mem_cons.mp h2 with z | z
        · rw [z]; simp
        · exact List.mem_cons_of_mem _ (List.mem_cons_of_mem _ z)
      · rcases List.mem_cons.mp hy with rfl | hy
        · exact h3 y (by simp)
        · rcases List.mem_cons.mp hy with rfl | hy
          · have := h3 a (by simp); omega
          · exact h3 y (List.mem_cons_of_mem _ hy)
theorem minD_int : ∀ (l : List Int) (a : Int), ∃ m, PySem.W.minD (.int a) (l.map PyData.int) = .int m ∧ m ∈ a :: l ∧ ∀ y ∈ a :: l, m ≤ y
  | [], a => ⟨a, rfl, by simp, by simp⟩
  | b :: l, a => by
    have e : PySem.W.minD (.int a) ((b :: l).map PyData.int) = PySem.W.minD (if PySem.W.dataLt (.int b) (.int a) then .int b else .int a) (l.map PyData.int) := rfl
    rw [e, PySem.W.dataLt_int]
    by_cases h : b < a
    · obtain ⟨m, h1, h2, h3⟩ := minD_int l b
      refine ⟨m, by simpa [h] using h1, List.mem_cons_of_mem _ h2, fun y hy => ?_⟩
      rcases List.mem_cons.mp hy with rfl | hy
      · have := h3 b (by simp); omega
      · exact h3 y hy
    · obtain ⟨m, h1, h2, h3⟩ := minD_int l a
      refine ⟨m, by simpa [h] using h1, ?_, fun y hy => ?_⟩
      · rcases List.mem_cons.mp h2 with z | z
        · rw [z]; simp
        · exact List.mem_cons_of_mem _ (List.mem_cons_of_mem _ z)
      · rcases List.mem_cons.mp hy with rfl | hy
        · exact h3 y (by simp)
        · rcases List.mem_cons.mp hy with rfl | hy
          · have := h3 a (by simp); omega
          · exact h3 y (List.mem_cons_of_mem _ hy)
theorem alike_ints (l : List Int) : PySem.W.AlikeAll (l.map PyData.int) := by
  refine ⟨fun x hx y hy => ?_, fun x hx => ?_⟩
  · obtain ⟨i, _, rfl⟩ := List.mem_map.mp hx
    obtain ⟨j, _, rfl⟩ := List.mem_map.mp hy
    rfl
  · obtain ⟨i, _, rfl⟩ := List.mem_map.mp hx
    exact fun z => nomatch z
theorem depth_ints : ∀ l : List Int, PyData.depthAll (l.map PyData.int) ≤ 1
  | [] => by simp [PyData.depthAll]
  | i :: l => by
    have := depth_ints l
    simp [PyData.depthAll, PyData.depth]
    omega
def rMaxT (K : PySem.W.Frag) : List V → Hp → VK → Prop := fun vs H Q => ∃ (a : Addr) (ns : List Int), vs = [V.ref a] ∧ SqT K H a (ns.map V.int) ∧ 0 < ns.length ∧ ∀ m, m ∈ ns → (∀ y, y ∈ ns → y ≤ m) → Q (.int m) H
def rMinT (K : PySem.W.Frag) : List V → Hp → VK → Prop := fun vs H Q => ∃ (a : Addr) (ns : List Int), vs = [V.ref a] ∧ SqT K H a (ns.map V.int) ∧ 0 < ns.length ∧ ∀ m, m ∈ ns → (∀ y, y ∈ ns → m ≤ y) → Q (.int m) H
section
variable {X : Cx}
theorem cr_maxT (hc : X.calm = true) (hu : X.A.units + 65 < cLine) : CallR X (.builtin "max") (rMaxT X.K) := by
  intro pins s σ H vs us Q I r h
  obtain ⟨a, ns, rfl, hs, hne, q⟩ := h
  obtain ⟨its, rv, hl, _⟩ := I.tuple hs
  rw [Vals.ref1 r]
  cases ns with
  | nil => exact absurd hne (by simp)
  | cons n l =>
    have hd := depth_ints (n :: l)
    refine PySem.W.max_tuple_data (x := .int n) (xs := l.map PyData.int) (I.ok.hd hc) hl (int_reads (k := n :: l) (by simpa using rv)) (alike_ints (n :: l)) (by show X.A.units + 1 + PyData.depthAll ((n :: l).map PyData.int) < cLine; omega) fun i v h' tk bs hi rd hk => ?_
    obtain ⟨m, e, m1, m2⟩ := maxD_int l n
    rw [e] at rd
    cases rd with
    | int _ t => exact ⟨.int m, H, I.kept hk, ⟨t, rfl⟩, q m m1 m2⟩
theorem cr_minT (hc : X.calm = true) (hu : X.A.units + 65 < cLine) : CallR X (.builtin "min") (rMinT X.K) := by
  intro pins s σ H vs us Q I r h
  obtain ⟨a, ns, rfl, hs, hne, q⟩ := h
  obtain ⟨its, rv, hl, _⟩ := I.tuple hs
  rw [Vals.ref1 r]
  cases ns with
  | nil => exact absurd hne (by simp)
  | cons n l =>
    have hd := depth_ints (n :: l)
    refine PySem.W.min_tuple_data (x := .int n) (xs := l.map PyData.int) (I.ok.hd hc) hl (int_reads (k := n :: l) (by simpa using rv)) (alike_ints (n :: l)) (by show X.A.units + 1 + PyData.depthAll ((n :: l).map PyData.int) < cLine; omega) fun i v h' tk bs hi rd hk => ?_
    obtain ⟨m, e, m1, m2⟩ := minD_int l n
    rw [e] at rd
    cases rd with
    | int _ t => exact ⟨.int m, H, I.kept hk, ⟨t, rfl⟩, q m m1 m2⟩
end
def fMaxT : List D → Option Rz
  | [.tuple ds] => match ints? ds with
    | some (a :: l) => some (.nw (.int (maxI (a :: l))))
    | _ => none
  | _ => none
def fMinT : List D → Option Rz
  | [.tuple ds] => match ints? ds with
    | some (a :: l) => some (.nw (.int (minI (a :: l))))
    | _ => none
  | _ => none
theorem s_maxT {K : PySem.W.Frag} : OpN K (rMaxT K) fMaxT := by
  intro F H xs ds z Q sF hx h q
  unfold fMaxT at h
  split at h
  · split at h
    · rename_i a l ei
      cases h
      cases hx with
      | cons x y =>
        cases y
        obtain ⟨p, xs, rfl, e1, a1⟩ := x
        rw [ints_of a1 ei] at e1
        obtain ⟨m1, m2⟩ := maxI_ok (l := a :: l) (by simp)
        refine ⟨p, a :: l, rfl, .of (sF _ _ e1), by simp, fun m hm hy => ?_⟩
        have e : m = maxI (a :: l) := Int.le_antisymm (m2 m hm) (hy _ m1)
        rw [e]
        exact nw_int q
    · cases h
  · cases h
theorem s_minT {K : PySem.W.Frag} : OpN K (rMinT K) fMinT := by
  intro F H xs ds z Q sF hx h q
  unfold fMinT at h
  split at h
  · split at h
    · rename_i a l ei
      cases h
      cases hx with
      | cons x y =>
        cases y
        obtain ⟨p, xs, rfl, e1, a1⟩ := x
        rw [ints_of a1 ei] at e1
        obtain ⟨m1, m2⟩ := minI_ok (l := a :: l) (by simp)
        refine ⟨p, a :: l, rfl, .of (sF _ _ e1), by simp, fun m hm hy => ?_⟩
        have e : m = minI (a :: l) := Int.le_antisymm (hy _ m1) (m2 m hm)
        rw [e]
        exact nw_int q
    · cases h
  · cases h
end FX
set_option Elab.async false
set_option linter.all false
set_option maxRecDepth 100000
namespace FX
open PySem
def et_NoLeague : Str → Option Bool := fun z => if z = PySem.Str.ofString "NoEnd" then some false else if z = PySem.Str.ofString "NoLeague" then some true else if z = PySem.Str.ofString "NoMatch" then some false else if z = PySem.Str.ofString "NoName" then some false else if z = PySem.Str.ofString "NoNumber" then some false else if z = PySem.Str.ofString "NoOutcome" then some false else if z = PySem.Str.ofString "NoPlayer" then some false else if z = PySem.Str.ofString "NoPoints" then some false else if z = PySem.Str.ofString "NoRow" then some false else if z = PySem.Str.ofString "NoText" then some false else if z = PySem.Str.ofString "TooMany" then some false else none
def et_NoPoints : Str → Option Bool := fun z => if z = PySem.Str.ofString "NoEnd" then some false else if z = PySem.Str.ofString "NoLeague" then some false else if z = PySem.Str.ofString "NoMatch" then some false else if z = PySem.Str.ofString "NoName" then some false else if z = PySem.Str.ofString "NoNumber" then some false else if z = PySem.Str.ofString "NoOutcome" then some false else if z = PySem.Str.ofString "NoPlayer" then some false else if z = PySem.Str.ofString "NoPoints" then some true else if z = PySem.Str.ofString "NoRow" then some false else if z = PySem.Str.ofString "NoText" then some false else if z = PySem.Str.ofString "TooMany" then some false else none
end FX
namespace FX.Pg
noncomputable section
open PySem PySem.Spec L2 FX
def b_is_whole {Y : Sys} : GS Y :=
  (sRet (gTyEq "int" (gV 0)))
theorem x_is_whole {Y : Sys} : ∃ m : Fm Y, m = mOf 1 b_is_whole := ⟨_, rfl⟩
def m_is_whole {Y : Sys} : Fm Y := Classical.choose (x_is_whole)
theorem q_is_whole {Y : Sys} : m_is_whole = mOf (Y := Y) 1 b_is_whole := Classical.choose_spec (x_is_whole)
def b_is_player {Y : Sys} : GS Y :=
  (sRet (gAndV (gFn 1 m_is_whole (gK (gEsc (gV 0)) gN)) (gChain fLe fLt (gC (.int 0)) (gV 0) (gV 1))))
theorem x_is_player {Y : Sys} : ∃ m : Fm Y, m = mOf 2 b_is_player := ⟨_, rfl⟩
def m_is_player {Y : Sys} : Fm Y := Classical.choose (x_is_player)
theorem q_is_player {Y : Sys} : m_is_player = mOf (Y := Y) 2 b_is_player := Classical.choose_spec (x_is_player)
def b_is_tuple_of {Y : Sys} : GS Y :=
  (sRet (gAndV (gTyEq "tuple" (gV 0)) (gBin fEq (gCall fLen (gK (gV 0) gN)) (gV 1))))
theorem x_is_tuple_of {Y : Sys} : ∃ m : Fm Y, m = mOf 2 b_is_tuple_of := ⟨_, rfl⟩
def m_is_tuple_of {Y : Sys} : Fm Y := Classical.choose (x_is_tuple_of)
theorem q_is_tuple_of {Y : Sys} : m_is_tuple_of = mOf (Y := Y) 2 b_is_tuple_of := Classical.choose_spec (x_is_tuple_of)
def b_is_match {Y : Sys} : GS Y :=
  (sRet (gAndV (gFn 2 m_is_player (gK (gEsc (gV 1)) (gK (gEsc (gV 0)) gN))) (gAndV (gFn 2 m_is_player (gK (gEsc (gV 2)) (gK (gEsc (gV 0)) gN))) (gBin fLt (gV 1) (gV 2)))))
theorem x_is_match {Y : Sys} : ∃ m : Fm Y, m = mOf 3 b_is_match := ⟨_, rfl⟩
def m_is_match {Y : Sys} : Fm Y := Classical.choose (x_is_match)
theorem q_is_match {Y : Sys} : m_is_match = mOf (Y := Y) 3 b_is_match := Classical.choose_spec (x_is_match)
def b_is_outcome {Y : Sys} : GS Y :=
  (sSeq (sIf (gTst (gBin fIsN (gV 3) (gC .none))) (sRet (gBin fEq (gV 0) (gC (.str (PySem.Str.ofString "ties"))))) sNil)
  (sRet (gAndV (gFn 1 m_is_whole (gK (gEsc (gV 3)) gN)) (gBin fIn2 (gV 3) (FX.gTup (gK (gEsc (gV 1)) (gK (gEsc (gV 2)) gN)))))))
theorem x_is_outcome {Y : Sys} : ∃ m : Fm Y, m = mOf 4 b_is_outcome := ⟨_, rfl⟩
def m_is_outcome {Y : Sys} : Fm Y := Classical.choose (x_is_outcome)
theorem q_is_outcome {Y : Sys} : m_is_outcome = mOf (Y := Y) 4 b_is_outcome := Classical.choose_spec (x_is_outcome)
def b__is_played {Y : Sys} : GS Y :=
  (sSeq (sIf (gNot (gTst (gFn 2 m_is_tuple_of (gK (gEsc (gV 2)) (gK (gEsc (gC (.int 3))) gN))))) (sRet (gC (.bool false))) sNil)
  (sSeq (sUnp (.cons (.n 3) (.cons (.n 4) (.cons (.n 5) .nil))) (gV 2))
  (sRet (gAndV (gFn 3 m_is_match (gK (gEsc (gV 1)) (gK (gEsc (gV 3)) (gK (gEsc (gV 4)) gN)))) (gFn 4 m_is_outcome (gK (gEsc (gV 0)) (gK (gEsc (gV 3)) (gK (gEsc (gV 4)) (gK (gEsc (gV 5)) gN)))))))))
theorem x__is_played {Y : Sys} : ∃ m : Fm Y, m = mOf 6 b__is_played := ⟨_, rfl⟩
def m__is_played {Y : Sys} : Fm Y := Classical.choose (x__is_played)
theorem q__is_played {Y : Sys} : m__is_played = mOf (Y := Y) 6 b__is_played := Classical.choose_spec (x__is_played)
def l__are_played_1 {Y : Sys} : GS Y :=
  (sSeq (sIf (gNot (gTst (gFn 3 m__is_played (gK (gEsc (gV 0)) (gK (gEsc (gV 1)) (gK (gEsc (gV 4)) gN)))))) (sRet (gC (.bool false))) sNil)
  (sSeq (sUnp (.cons (.n 5) (.cons (.n 6) (.cons (.n 7) .nil))) (gV 4))
  (sSeq (sIf (gTst (gBin fLe (FX.gTup (gK (gEsc (gV 5)) (gK (gEsc (gV 6)) gN))) (gV 3))) (sRet (gC (.bool false))) sNil)
  (sSet 3 (FX.gTup (gK (gEsc (gV 5)) (gK (gEsc (gV 6)) gN)))))))
def b__are_played {Y : Sys} : GS Y :=
  (sSeq (sSet 3 (FX.gTup (gK (gEsc (gUn fNeg (gC (.int 1)))) (gK (gEsc (gUn fNeg (gC (.int 1)))) gN))))
  (sSeq (sFor (.n 4) (gItL (gV 2)) l__are_played_1)
  (sRet (gC (.bool true)))))
theorem x__are_played {Y : Sys} : ∃ m : Fm Y, m = mOf 8 b__are_played := ⟨_, rfl⟩
def m__are_played {Y : Sys} : Fm Y := Classical.choose (x__are_played)
theorem q__are_played {Y : Sys} : m__are_played = mOf (Y := Y) 8 b__are_played := Classical.choose_spec (x__are_played)
def t_WORTHS : Str → Option D := fun z => if z = PySem.Str.ofString "plain" then some (.int 1) else if z = PySem.Str.ofString "ties" then some (.int 2) else none
def b_is_league {Y : Sys} : GS Y :=
  (sSeq (sIf (gNot (gTst (gFn 2 m_is_tuple_of (gK (gEsc (gV 0)) (gK (gEsc (gC (.int 3))) gN))))) (sRet (gC (.bool false))) sNil)
  (sSeq (sUnp (.cons (.n 1) (.cons (.n 2) (.cons (.n 3) .nil))) (gV 0))
  (sSeq (sIf (gOr (gTst (gTyNe "str" (gV 1))) (gTst (gUn (fKNotIn t_WORTHS) (gV 1)))) (sRet (gC (.bool false))) sNil)
  (sSeq (sIf (gOr (gNot (gTst (gFn 1 m_is_whole (gK (gEsc (gV 2)) gN)))) (gNot (gTst (gChain fLe fLe (gC (.int 2)) (gV 2) (gC (.int 6)))))) (sRet (gC (.bool false))) sNil)
  (sRet (gAndV (gTyEq "list" (gV 3)) (gFn 3 m__are_played (gK (gEsc (gV 1)) (gK (gEsc (gV 2)) (gK (gEsc (gV 3)) gN))))))))))
theorem x_is_league {Y : Sys} : ∃ m : Fm Y, m = mOf 4 b_is_league := ⟨_, rfl⟩
def m_is_league {Y : Sys} : Fm Y := Classical.choose (x_is_league)
theorem q_is_league {Y : Sys} : m_is_league = mOf (Y := Y) 4 b_is_league := Classical.choose_spec (x_is_league)
def b_check_league {Y : Sys} : GS Y :=
  (sIf (gNot (gTst (gFn 1 m_is_league (gK (gEsc (gV 0)) gN)))) (sRaise (PySem.Str.ofString "NoLeague")) sNil)
theorem x_check_league {Y : Sys} : ∃ m : Fm Y, m = mOf 1 b_check_league := ⟨_, rfl⟩
def m_check_league {Y : Sys} : Fm Y := Classical.choose (x_check_league)
theorem q_check_league {Y : Sys} : m_check_league = mOf (Y := Y) 1 b_check_league := Classical.choose_spec (x_check_league)
def b_shares_of {Y : Sys} : GS Y :=
  (sSeq (sIf (gTst (gBin fIsN (gV 2) (gC .none))) (sRet (FX.gTup (gK (gEsc (gC (.int 1))) (gK (gEsc (gC (.int 1))) gN)))) sNil)
  (sSeq (sIf (gTst (gBin fEq (gV 2) (gV 1))) (sRet (FX.gTup (gK (gEsc (gUn (fKGet t_WORTHS) (gV 0))) (gK (gEsc (gC (.int 0))) gN)))) sNil)
  (sRet (FX.gTup (gK (gEsc (gC (.int 0))) (gK (gEsc (gUn (fKGet t_WORTHS) (gV 0))) gN))))))
theorem x_shares_of {Y : Sys} : ∃ m : Fm Y, m = mOf 3 b_shares_of := ⟨_, rfl⟩
def m_shares_of {Y : Sys} : Fm Y := Classical.choose (x_shares_of)
theorem q_shares_of {Y : Sys} : m_shares_of = mOf (Y := Y) 3 b_shares_of := Classical.choose_spec (x_shares_of)
def b_points_behind {Y : Sys} : GS Y :=
  (sSeq (sUnp (.cons (.n 4) (.cons (.n 5) .nil)) (gV 3))
  (sSeq (sSet 6 (gCall fList (gK (gV 0) gN)))
  (sSeq (sUpd 6 (fun i j => i + j) (gV 1) (gV 4))
  (sSeq (sUpd 6 (fun i j => i + j) (gV 2) (gV 5))
  (sRet (gCall fTup (gK (gV 6) gN)))))))
theorem x_points_behind {Y : Sys} : ∃ m : Fm Y, m = mOf 7 b_points_behind := ⟨_, rfl⟩
def m_points_behind {Y : Sys} : Fm Y := Classical.choose (x_points_behind)
theorem q_points_behind {Y : Sys} : m_points_behind = mOf (Y := Y) 7 b_points_behind := Classical.choose_spec (x_points_behind)
def e_matches_left_2 {Y : Sys} : GE Y :=
  (gEsc (FX.gTup (gK (gEsc (gV 5)) (gK (gEsc (gV 6)) gN))))
def e_matches_left_3 {Y : Sys} : GE Y :=
  (gEsc (gV 7))
def t_matches_left_4 {Y : Sys} : GT Y :=
  (gTst (gBin fNotIn2 (gV 7) (gV 4)))
def b_matches_left {Y : Sys} : GS Y :=
  (sSeq (sDrop (gFn 1 m_check_league (gK (gEsc (gV 0)) gN)))
  (sSeq (sUnp (.cons (.n 1) (.cons (.n 2) (.cons (.n 3) .nil))) (gV 0))
  (sSeq (sSet 4 (gComp (.t (.cons (.n 5) (.cons (.n 6) (.cons (.n 1) .nil)))) [5, 6, 1] (gItL (gV 3)) gYes e_matches_left_2))
  (sRet (gComp (.n 7) [7] (gCmb (gV 2) (gC (.int 2))) t_matches_left_4 e_matches_left_3)))))
theorem x_matches_left {Y : Sys} : ∃ m : Fm Y, m = mOf 8 b_matches_left := ⟨_, rfl⟩
def m_matches_left {Y : Sys} : Fm Y := Classical.choose (x_matches_left)
theorem q_matches_left {Y : Sys} : m_matches_left = mOf (Y := Y) 8 b_matches_left := Classical.choose_spec (x_matches_left)
def l_points_had_1 {Y : Sys} : GS Y :=
  (sSet 4 (gFn 4 m_points_behind (gK (gEsc (gV 4)) (gK (gEsc (gV 5)) (gK (gEsc (gV 6)) (gK (gEsc (gFn 3 m_shares_of (gK (gEsc (gV 1)) (gK (gEsc (gV 5)) (gK (gEsc (gV 7)) gN))))) gN))))))
def b_points_had {Y : Sys} : GS Y :=
  (sSeq (sDrop (gFn 1 m_check_league (gK (gEsc (gV 0)) gN)))
  (sSeq (sUnp (.cons (.n 1) (.cons (.n 2) (.cons (.n 3) .nil))) (gV 0))
  (sSeq (sSet 4 (gBin fMul (FX.gTup (gK (gEsc (gC (.int 0))) gN)) (gV 2)))
  (sSeq (sFor (.t (.cons (.n 5) (.cons (.n 6) (.cons (.n 7) .nil)))) (gItL (gV 3)) l_points_had_1)
  (sRet (gCall fList (gK (gV 4) gN)))))))
theorem x_points_had {Y : Sys} : ∃ m : Fm Y, m = mOf 8 b_points_had := ⟨_, rfl⟩
def m_points_had {Y : Sys} : Fm Y := Classical.choose (x_points_had)
theorem q_points_had {Y : Sys} : m_points_had = mOf (Y := Y) 8 b_points_had := Classical.choose_spec (x_points_had)
def l_check_points_1 {Y : Sys} : GS Y :=
  (sIf (gNot (gTst (gFn 1 m_is_whole (gK (gEsc (gV 3)) gN)))) (sRaise (PySem.Str.ofString "NoPoints")) sNil)
def b_check_points {Y : Sys} : GS Y :=
  (sSeq (sDrop (gFn 1 m_check_league (gK (gEsc (gV 0)) gN)))
  (sSeq (sSet 2 (gBin fIx (gV 0) (gC (.int 1))))
  (sSeq (sIf (gOr (gTst (gTyNe "list" (gV 1))) (gTst (gBin fNe (gCall fLen (gK (gV 1) gN)) (gV 2)))) (sRaise (PySem.Str.ofString "NoPoints")) sNil)
  (sFor (.n 3) (gItL (gV 1)) l_check_points_1))))
theorem x_check_points {Y : Sys} : ∃ m : Fm Y, m = mOf 4 b_check_points := ⟨_, rfl⟩
def m_check_points {Y : Sys} : Fm Y := Classical.choose (x_check_points)
theorem q_check_points {Y : Sys} : m_check_points = mOf (Y := Y) 4 b_check_points := Classical.choose_spec (x_check_points)
def b_worth_of {Y : Sys} : GS Y :=
  (sRet (gUn (fKGet t_WORTHS) (gBin fIx (gV 0) (gC (.int 0)))))
theorem x_worth_of {Y : Sys} : ∃ m : Fm Y, m = mOf 1 b_worth_of := ⟨_, rfl⟩
def m_worth_of {Y : Sys} : Fm Y := Classical.choose (x_worth_of)
theorem q_worth_of {Y : Sys} : m_worth_of = mOf (Y := Y) 1 b_worth_of := Classical.choose_spec (x_worth_of)
def e_outcomes_in_order_1 {Y : Sys} : GE Y :=
  (gEsc (gV 3))
def t_outcomes_in_order_2 {Y : Sys} : GT Y :=
  (gTst (gFn 4 m_is_outcome (gK (gEsc (gV 0)) (gK (gEsc (gV 1)) (gK (gEsc (gV 2)) (gK (gEsc (gV 3)) gN))))))
def b_outcomes_in_order {Y : Sys} : GS Y :=
  (sRet (gComp (.n 3) [3] (gItT (FX.gTup (gK (gEsc (gV 1)) (gK (gEsc (gC .none)) (gK (gEsc (gV 2)) gN))))) t_outcomes_in_order_2 e_outcomes_in_order_1))
theorem x_outcomes_in_order {Y : Sys} : ∃ m : Fm Y, m = mOf 4 b_outcomes_in_order := ⟨_, rfl⟩
def m_outcomes_in_order {Y : Sys} : Fm Y := Classical.choose (x_outcomes_in_order)
theorem q_outcomes_in_order {Y : Sys} : m_outcomes_in_order = mOf (Y := Y) 4 b_outcomes_in_order := Classical.choose_spec (x_outcomes_in_order)
def e__most_from_2 {Y : Sys} : GE Y :=
  (gEsc (gIf (gTst (gBin fIn2 (gV 6) (gV 5))) (gBin fAdd (gBin fIx (gV 3) (gV 6)) (gV 2)) (gBin fIx (gV 3) (gV 6))))
def l__most_from_3 {Y : Sys} : GS Y :=
  (sSeq (sSet 3 (gComp (.n 6) [6] (gRg1 (gK (gBin fIx (gV 0) (gC (.int 1))) gN)) gYes e__most_from_2))
  (sDrop (gApp 4 (gV 3))))
def b__most_from {Y : Sys} : GS Y :=
  (sSeq (sSet 2 (gFn 1 m_worth_of (gK (gEsc (gV 0)) gN)))
  (sSeq (sSet 3 (gBin fMul (gLst (gK (gEsc (gC (.int 0))) gN)) (gBin fIx (gV 0) (gC (.int 1)))))
  (sSeq (sSet 4 (gLst (gK (gEsc (gV 3)) gN)))
  (sSeq (sFor (.n 5) (gRvL (gK (gEsc (gV 1)) gN)) l__most_from_3)
  (sRet (gUn fRev (gV 4)))))))
theorem x__most_from {Y : Sys} : ∃ m : Fm Y, m = mOf 7 b__most_from := ⟨_, rfl⟩
def m__most_from {Y : Sys} : Fm Y := Classical.choose (x__most_from)
theorem q__most_from {Y : Sys} : m__most_from = mOf (Y := Y) 7 b__most_from := Classical.choose_spec (x__most_from)
def e_Ways__in_reach_1 {K : PySem.W.Frag} {sa : Addr} {ns : List Int} {tb : List (Addr × Str)} : GE (ClY K sa ns tb) :=
  (gEsc (gChain fLe fLe (gV 3) (gV 4) (gBin fAdd (gV 3) (gV 5))))
def b_Ways__in_reach {K : PySem.W.Frag} {sa : Addr} {ns : List Int} {tb : List (Addr × Str)} : GS (ClY K sa ns tb) :=
  (sRet (gCall fAll (gK (gComp (.t (.cons (.n 3) (.cons (.n 4) (.cons (.n 5) .nil)))) [3, 4, 5] (gZip3 (gK (gEsc (gV 2)) (gK (gEsc (gFld "Ways" "goal" (gV 0))) (gK (gEsc (gBin fIx (gFld "Ways" "most" (gV 0)) (gV 1))) gN)))) gYes e_Ways__in_reach_1) gN)))
theorem x_Ways__in_reach {K : PySem.W.Frag} {sa : Addr} {ns : List Int} {tb : List (Addr × Str)} : ∃ m : Fm (ClY K sa ns tb), m = mOf 6 b_Ways__in_reach := ⟨_, rfl⟩
def m_Ways__in_reach {K : PySem.W.Frag} {sa : Addr} {ns : List Int} {tb : List (Addr × Str)} : Fm (ClY K sa ns tb) := Classical.choose (x_Ways__in_reach)
theorem q_Ways__in_reach {K : PySem.W.Frag} {sa : Addr} {ns : List Int} {tb : List (Addr × Str)} : m_Ways__in_reach = mOf (Y := (ClY K sa ns tb)) 6 b_Ways__in_reach := Classical.choose_spec (x_Ways__in_reach)
def e_Ways_steps_1 {K : PySem.W.Frag} {sa : Addr} {ns : List Int} {tb : List (Addr × Str)} : GE (ClY K sa ns tb) :=
  (gEsc (FX.gTup (gK (gEsc (gV 6)) (gK (gEsc (gFn 4 m_points_behind (gK (gEsc (gV 2)) (gK (gEsc (gV 3)) (gK (gEsc (gV 4)) (gK (gEsc (gFn 3 m_shares_of (gK (gEsc (gFld "Ways" "kind" (gV 0))) (gK (gEsc (gV 3)) (gK (gEsc (gV 6)) gN))))) gN)))))) gN))))
def b_Ways_steps {K : PySem.W.Frag} {sa : Addr} {ns : List Int} {tb : List (Addr × Str)} : GS (ClY K sa ns tb) :=
  (sSeq (sUnp (.cons (.n 3) (.cons (.n 4) .nil)) (gBin fIx (gFld "Ways" "left" (gV 0)) (gV 1)))
  (sSeq (sSet 5 (gFn 3 m_outcomes_in_order (gK (gEsc (gFld "Ways" "kind" (gV 0))) (gK (gEsc (gV 3)) (gK (gEsc (gV 4)) gN)))))
  (sRet (gComp (.n 6) [6] (gItL (gV 5)) gYes e_Ways_steps_1))))
theorem x_Ways_steps {K : PySem.W.Frag} {sa : Addr} {ns : List Int} {tb : List (Addr × Str)} : ∃ m : Fm (ClY K sa ns tb), m = mOf 7 b_Ways_steps := ⟨_, rfl⟩
def m_Ways_steps {K : PySem.W.Frag} {sa : Addr} {ns : List Int} {tb : List (Addr × Str)} : Fm (ClY K sa ns tb) := Classical.choose (x_Ways_steps)
theorem q_Ways_steps {K : PySem.W.Frag} {sa : Addr} {ns : List Int} {tb : List (Addr × Str)} : m_Ways_steps = mOf (Y := (ClY K sa ns tb)) 7 b_Ways_steps := Classical.choose_spec (x_Ways_steps)
def e_Ways_many_1 {K : PySem.W.Frag} {sa : Addr} {ns : List Int} {tb : List (Addr × Str)} (rec : Fm (ClY K sa ns tb)) : GE (ClY K sa ns tb) :=
  (gEsc (gMeth "Ways" "many" 3 rec (gV 0) (gK (gEsc (gBin fAdd (gV 1) (gC (.int 1)))) (gK (gEsc (gV 4)) gN))))
def b_Ways_many {K : PySem.W.Frag} {sa : Addr} {ns : List Int} {tb : List (Addr × Str)} (rec : Fm (ClY K sa ns tb)) : GS (ClY K sa ns tb) :=
  (sSeq (sIf (gNot (gTst (gMeth "Ways" "_in_reach" 3 m_Ways__in_reach (gV 0) (gK (gEsc (gV 1)) (gK (gEsc (gV 2)) gN))))) (sRet (gC (.int 0))) sNil)
  (sSeq (sIf (gTst (gBin fEq (gV 1) (gCall fLen (gK (gFld "Ways" "left" (gV 0)) gN)))) (sRet (gC (.int 1))) sNil)
  (sSeq (sIf (gTst (gNNot (FX.gTup (gK (gEsc (gV 1)) (gK (gEsc (gV 2)) gN))) (gFld "Ways" "counted" (gV 0)))) (sNPutC (gFld "Ways" "counted" (gV 0)) (FX.gTup (gK (gEsc (gV 1)) (gK (gEsc (gV 2)) gN))) (gCall fSum (gK (gComp (.t (.cons (.n 3) (.cons (.n 4) .nil))) [3, 4] (gItL (gMeth "Ways" "steps" 3 m_Ways_steps (gV 0) (gK (gEsc (gV 1)) (gK (gEsc (gV 2)) gN)))) gYes (e_Ways_many_1 rec)) gN))) sNil)
  (sRet (gNGet (gFld "Ways" "counted" (gV 0)) (FX.gTup (gK (gEsc (gV 1)) (gK (gEsc (gV 2)) gN))))))))
def r_Ways_many {K : PySem.W.Frag} {sa : Addr} {ns : List Int} {tb : List (Addr × Str)} : Nat → Fm (ClY K sa ns tb)
  | 0 => fun _ _ => none
  | n + 1 => mOf 5 (b_Ways_many (r_Ways_many n))
theorem x_Ways_many {K : PySem.W.Frag} {sa : Addr} {ns : List Int} {tb : List (Addr × Str)} : ∃ m : Fm (ClY K sa ns tb), m = r_Ways_many 17 := ⟨_, rfl⟩
def m_Ways_many {K : PySem.W.Frag} {sa : Addr} {ns : List Int} {tb : List (Addr × Str)} : Fm (ClY K sa ns tb) := Classical.choose (x_Ways_many)
theorem q_Ways_many {K : PySem.W.Frag} {sa : Addr} {ns : List Int} {tb : List (Addr × Str)} : m_Ways_many = r_Ways_many (K := K) (sa := sa) (ns := ns) (tb := tb) 17 := Classical.choose_spec (x_Ways_many)
def b_Ways_in_all {K : PySem.W.Frag} {sa : Addr} {ns : List Int} {tb : List (Addr × Str)} : GS (ClY K sa ns tb) :=
  (sRet (gMeth "Ways" "many" 3 m_Ways_many (gV 0) (gK (gEsc (gC (.int 0))) (gK (gEsc (gFld "Ways" "had" (gV 0))) gN))))
theorem x_Ways_in_all {K : PySem.W.Frag} {sa : Addr} {ns : List Int} {tb : List (Addr × Str)} : ∃ m : Fm (ClY K sa ns tb), m = mOf 1 b_Ways_in_all := ⟨_, rfl⟩
def m_Ways_in_all {K : PySem.W.Frag} {sa : Addr} {ns : List Int} {tb : List (Addr × Str)} : Fm (ClY K sa ns tb) := Classical.choose (x_Ways_in_all)
theorem q_Ways_in_all {K : PySem.W.Frag} {sa : Addr} {ns : List Int} {tb : List (Addr × Str)} : m_Ways_in_all = mOf (Y := (ClY K sa ns tb)) 1 b_Ways_in_all := Classical.choose_spec (x_Ways_in_all)
def b_Ways___init__ {K : PySem.W.Frag} {sa : Addr} {ns : List Int} {tb : List (Addr × Str)} : GS (ClY K sa ns tb) :=
  (sSeq (sFldC "Ways" "kind" (gV 0) (gBin fIx (gV 1) (gC (.int 0))))
  (sSeq (sFldC "Ways" "left" (gV 0) (gFn 1 m_matches_left (gK (gEsc (gV 1)) gN)))
  (sSeq (sFldC "Ways" "had" (gV 0) (gCall fTup (gK (gFn 1 m_points_had (gK (gEsc (gV 1)) gN)) gN)))
  (sSeq (sFldC "Ways" "goal" (gV 0) (gCall fTup (gK (gV 2) gN)))
  (sSeq (sFldC "Ways" "most" (gV 0) (gFn 2 m__most_from (gK (gEsc (gV 1)) (gK (gEsc (gFld "Ways" "left" (gV 0))) gN))))
  (sFldC "Ways" "counted" (gV 0) gNNew))))))
theorem x_Ways___init__ {K : PySem.W.Frag} {sa : Addr} {ns : List Int} {tb : List (Addr × Str)} : ∃ m : Fm (ClY K sa ns tb), m = mOf 3 b_Ways___init__ := ⟨_, rfl⟩
def m_Ways___init__ {K : PySem.W.Frag} {sa : Addr} {ns : List Int} {tb : List (Addr × Str)} : Fm (ClY K sa ns tb) := Classical.choose (x_Ways___init__)
theorem q_Ways___init__ {K : PySem.W.Frag} {sa : Addr} {ns : List Int} {tb : List (Addr × Str)} : m_Ways___init__ = mOf (Y := (ClY K sa ns tb)) 3 b_Ways___init__ := Classical.choose_spec (x_Ways___init__)
def b_count_ends {K : PySem.W.Frag} {sa : Addr} {ns : List Int} {tb : List (Addr × Str)} : GS (ClY K sa ns tb) :=
  (sSeq (sDrop (gFn 2 m_check_points (gK (gEsc (gV 0)) (gK (gEsc (gV 1)) gN))))
  (sRet (gMeth "Ways" "in_all" 1 m_Ways_in_all (gMk "Ways" 3 m_Ways___init__ (gK (gEsc (gV 0)) (gK (gEsc (gV 1)) gN))) gN)))
theorem x_count_ends {K : PySem.W.Frag} {sa : Addr} {ns : List Int} {tb : List (Addr × Str)} : ∃ m : Fm (ClY K sa ns tb), m = mOf 2 b_count_ends := ⟨_, rfl⟩
def m_count_ends {K : PySem.W.Frag} {sa : Addr} {ns : List Int} {tb : List (Addr × Str)} : Fm (ClY K sa ns tb) := Classical.choose (x_count_ends)
theorem q_count_ends {K : PySem.W.Frag} {sa : Addr} {ns : List Int} {tb : List (Addr × Str)} : m_count_ends = mOf (Y := (ClY K sa ns tb)) 2 b_count_ends := Classical.choose_spec (x_count_ends)
def t__law_draws_1 {K : PySem.W.Frag} {sa : Addr} {ns : List Int} {tb : List (Addr × Str)} : GT (ClY K sa ns tb) :=
  (gAnd (gTst (gBin fGt (gV 6) (gC (.int 0)))) (gTst (gBin fLt (gCall fLen (gK (gV 2) gN)) (gV 1))))
def l__law_draws_2 {K : PySem.W.Frag} {sa : Addr} {ns : List Int} {tb : List (Addr × Str)} : GS (ClY K sa ns tb) :=
  (sSeq (sDrop (gApp 2 (gBin fMod (gV 6) (gC (.int 10007)))))
  (sSet 6 (gBin fDiv (gV 6) (gC (.int 10007)))))
def l__law_draws_3 {K : PySem.W.Frag} {sa : Addr} {ns : List Int} {tb : List (Addr × Str)} : GS (ClY K sa ns tb) :=
  (sSeq (sSet 6 (gCall fAbs (gK (gV 5) gN)))
  (sSeq (sSet 3 (gBin fMod (gBin fAdd (gBin fMul (gV 3) (gC (.int 31))) (gV 6)) (gC (.int 2147483629))))
  (sIf (gTst (gBin fGe (gV 6) (gBin fPow (gC (.int 10)) (gC (.int 18))))) (whileG t__law_draws_1 l__law_draws_2 1000) (sSeq (sSet 7 (gBin fMod (gBin fMul (gBin fAdd (gBin fAdd (gBin fMod (gV 6) (gC (.int 2147483647))) (gV 4)) (gC (.int 1))) (gC (.int 48271))) (gC (.int 2147483647))))
  (sSeq (sSet 7 (gBin fMod (gBin fMul (gV 7) (gV 7)) (gC (.int 2147483629))))
  (sSeq (sDrop (gApp 2 (gBin fMod (gBin fDiv (gV 7) (gC (.int 8))) (gC (.int 10007)))))
  (sSeq (sSet 7 (gBin fMod (gBin fAdd (gBin fAdd (gBin fMul (gV 7) (gC (.int 40692))) (gBin fMul (gC (.int 2)) (gV 4))) (gC (.int 1))) (gC (.int 2147483563))))
  (sSeq (sSet 7 (gBin fMod (gBin fMul (gV 7) (gV 7)) (gC (.int 2147483647))))
  (sDrop (gApp 2 (gBin fMod (gBin fDiv (gV 7) (gC (.int 8))) (gC (.int 10007)))))))))))))
def l__law_draws_4 {K : PySem.W.Frag} {sa : Addr} {ns : List Int} {tb : List (Addr × Str)} : GS (ClY K sa ns tb) :=
  (sSeq (sSet 7 (gBin fMod (gBin fAdd (gBin fAdd (gV 3) (gBin fMul (gC (.int 7919)) (gV 4))) (gC (.int 13))) (gC (.int 2147483629))))
  (sSeq (sSet 7 (gBin fMod (gBin fMul (gV 7) (gV 7)) (gC (.int 2147483647))))
  (sSeq (sSet 7 (gBin fMod (gBin fAdd (gBin fMul (gV 7) (gC (.int 69621))) (gV 4)) (gC (.int 2147483563))))
  (sDrop (gApp 2 (gBin fMod (gBin fDiv (gBin fMod (gBin fMul (gV 7) (gV 7)) (gC (.int 2147483629))) (gC (.int 8))) (gC (.int 10007))))))))
def b__law_draws {K : PySem.W.Frag} {sa : Addr} {ns : List Int} {tb : List (Addr × Str)} : GS (ClY K sa ns tb) :=
  (sSeq (sSet 2 (gLst gN))
  (sSeq (sSet 3 (gC (.int 7)))
  (sSeq (sFor (.t (.cons (.n 4) (.cons (.n 5) .nil))) (gEnm (gK (gEsc (gSlSC 0 63)) gN)) l__law_draws_3)
  (sSeq (sFor (.n 4) (gRg1 (gK (gBin fSub (gV 1) (gCall fLen (gK (gV 2) gN))) gN)) l__law_draws_4)
  (sRet (gV 2))))))
theorem x__law_draws {K : PySem.W.Frag} {sa : Addr} {ns : List Int} {tb : List (Addr × Str)} : ∃ m : Fm (ClY K sa ns tb), m = mOf 8 b__law_draws := ⟨_, rfl⟩
def m__law_draws {K : PySem.W.Frag} {sa : Addr} {ns : List Int} {tb : List (Addr × Str)} : Fm (ClY K sa ns tb) := Classical.choose (x__law_draws)
theorem q__law_draws {K : PySem.W.Frag} {sa : Addr} {ns : List Int} {tb : List (Addr × Str)} : m__law_draws = mOf (Y := (ClY K sa ns tb)) 8 b__law_draws := Classical.choose_spec (x__law_draws)
def b__law_take {K : PySem.W.Frag} {sa : Addr} {ns : List Int} {tb : List (Addr × Str)} : GS (ClY K sa ns tb) :=
  (sSeq (sPutC 0 (gC (.int 1)) (gBin fAdd (gIxC 0 (gC (.int 1))) (gC (.int 1))))
  (sRet (gBin fMod (gBin fIx (gIxC 0 (gC (.int 0))) (gBin fMod (gBin fSub (gIxC 0 (gC (.int 1))) (gC (.int 1))) (gCall fLen (gK (gIxC 0 (gC (.int 0))) gN)))) (gV 1))))
theorem x__law_take {K : PySem.W.Frag} {sa : Addr} {ns : List Int} {tb : List (Addr × Str)} : ∃ m : Fm (ClY K sa ns tb), m = mOf 2 b__law_take := ⟨_, rfl⟩
def m__law_take {K : PySem.W.Frag} {sa : Addr} {ns : List Int} {tb : List (Addr × Str)} : Fm (ClY K sa ns tb) := Classical.choose (x__law_take)
theorem q__law_take {K : PySem.W.Frag} {sa : Addr} {ns : List Int} {tb : List (Addr × Str)} : m__law_take = mOf (Y := (ClY K sa ns tb)) 2 b__law_take := Classical.choose_spec (x__law_take)
def e__law_options_3 {Y : Sys} : GE Y :=
  (gEsc (gV 11))
def t__law_options_4 {Y : Sys} : GT Y :=
  (gTst (gBin fEq (FX.gTup (gK (gEsc (gV 9)) (gK (gEsc (gV 10)) gN))) (FX.gTup (gK (gEsc (gV 5)) (gK (gEsc (gV 6)) gN)))))
def e__law_options_5 {Y : Sys} : GE Y :=
  (gEsc (gV 9))
def t__law_options_6 {Y : Sys} : GT Y :=
  (gTst (gBin fEq (gBin fIx (gV 9) (gC (.int 0))) (gBin fIx (gV 8) (gC (.int 0)))))
def l__law_options_7 {Y : Sys} : GS Y :=
  (sSeq (sSet 7 (gLst (gK (gEsc (FX.gTup (gK (gEsc (gV 5)) (gK (gEsc (gC (.int 1))) (gK (gEsc (gC (.int 0))) gN))))) (gK (gEsc (FX.gTup (gK (gEsc (gV 6)) (gK (gEsc (gC (.int 0))) (gK (gEsc (gC (.int 1))) gN))))) gN))))
  (sSeq (sIf (gTst (gBin fEq (gV 1) (gC (.str (PySem.Str.ofString "ties"))))) (sSet 7 (gLst (gK (gEsc (FX.gTup (gK (gEsc (gV 5)) (gK (gEsc (gC (.int 2))) (gK (gEsc (gC (.int 0))) gN))))) (gK (gEsc (FX.gTup (gK (gEsc (gC .none)) (gK (gEsc (gC (.int 1))) (gK (gEsc (gC (.int 1))) gN))))) (gK (gEsc (FX.gTup (gK (gEsc (gV 6)) (gK (gEsc (gC (.int 0))) (gK (gEsc (gC (.int 2))) gN))))) gN))))) sNil)
  (sSeq (sSet 8 (gComp (.t (.cons (.n 9) (.cons (.n 10) (.cons (.n 11) .nil)))) [9, 10, 11] (gItL (gV 3)) t__law_options_4 e__law_options_3))
  (sSeq (sIf (gTst (gBin fNe (gV 8) (gLst gN))) (sSet 7 (gComp (.n 9) [9] (gItL (gV 7)) t__law_options_6 e__law_options_5)) sNil)
  (sDrop (gApp 4 (FX.gTup (gK (gEsc (gV 5)) (gK (gEsc (gV 6)) (gK (gEsc (gV 7)) gN))))))))))
def l__law_options_8 {Y : Sys} : GS Y :=
  (sFor (.n 6) (gRg2 (gK (gBin fAdd (gV 5) (gC (.int 1))) (gK (gV 2) gN))) l__law_options_7)
def b__law_options {Y : Sys} : GS Y :=
  (sSeq (sUnp (.cons (.n 1) (.cons (.n 2) (.cons (.n 3) .nil))) (gV 0))
  (sSeq (sSet 4 (gLst gN))
  (sSeq (sFor (.n 5) (gRg1 (gK (gV 2) gN)) l__law_options_8)
  (sRet (gV 4)))))
theorem x__law_options {Y : Sys} : ∃ m : Fm Y, m = mOf 12 b__law_options := ⟨_, rfl⟩
def m__law_options {Y : Sys} : Fm Y := Classical.choose (x__law_options)
theorem q__law_options {Y : Sys} : m__law_options = mOf (Y := Y) 12 b__law_options := Classical.choose_spec (x__law_options)
def l__law_drawn_end_1 {K : PySem.W.Frag} {sa : Addr} {ns : List Int} {tb : List (Addr × Str)} : GS (ClY K sa ns tb) :=
  (sDrop (gApp 2 (FX.gTup (gK (gEsc (gV 3)) (gK (gEsc (gV 4)) (gK (gEsc (gBin fIx (gBin fIx (gV 5) (gFn 2 m__law_take (gK (gEsc (gV 0)) (gK (gEsc (gCall fLen (gK (gV 5) gN))) gN)))) (gC (.int 0)))) gN))))))
def b__law_drawn_end {K : PySem.W.Frag} {sa : Addr} {ns : List Int} {tb : List (Addr × Str)} : GS (ClY K sa ns tb) :=
  (sSeq (sSet 2 (gLst gN))
  (sSeq (sFor (.t (.cons (.n 3) (.cons (.n 4) (.cons (.n 5) .nil)))) (gItL (gFn 1 m__law_options (gK (gEsc (gV 1)) gN))) l__law_drawn_end_1)
  (sRet (FX.gTup (gK (gEsc (gBin fIx (gV 1) (gC (.int 0)))) (gK (gEsc (gBin fIx (gV 1) (gC (.int 1)))) (gK (gEsc (gV 2)) gN)))))))
theorem x__law_drawn_end {K : PySem.W.Frag} {sa : Addr} {ns : List Int} {tb : List (Addr × Str)} : ∃ m : Fm (ClY K sa ns tb), m = mOf 6 b__law_drawn_end := ⟨_, rfl⟩
def m__law_drawn_end {K : PySem.W.Frag} {sa : Addr} {ns : List Int} {tb : List (Addr × Str)} : Fm (ClY K sa ns tb) := Classical.choose (x__law_drawn_end)
theorem q__law_drawn_end {K : PySem.W.Frag} {sa : Addr} {ns : List Int} {tb : List (Addr × Str)} : m__law_drawn_end = mOf (Y := (ClY K sa ns tb)) 6 b__law_drawn_end := Classical.choose_spec (x__law_drawn_end)
def l__law_league_1 {K : PySem.W.Frag} {sa : Addr} {ns : List Int} {tb : List (Addr × Str)} : GS (ClY K sa ns tb) :=
  (sIf (gTst (gBin fLt (gFn 2 m__law_take (gK (gEsc (gV 0)) (gK (gEsc (gC (.int 10))) gN))) (gV 4))) (sDrop (gApp 5 (gV 6))) sNil)
def b__law_league {K : PySem.W.Frag} {sa : Addr} {ns : List Int} {tb : List (Addr × Str)} : GS (ClY K sa ns tb) :=
  (sSeq (sSet 1 (gFn 2 m__law_take (gK (gEsc (gV 0)) (gK (gEsc (gC (.int 10007))) gN))))
  (sSeq (sSet 2 (gBin fIx (gLst (gK (gEsc (gC (.str (PySem.Str.ofString "plain")))) (gK (gEsc (gC (.str (PySem.Str.ofString "ties")))) gN))) (gBin fMod (gV 1) (gC (.int 2)))))
  (sSeq (sSet 3 (gBin fIx (gLst (gK (gEsc (gBin fAdd (gC (.int 2)) (gBin fMod (gBin fDiv (gV 1) (gC (.int 2))) (gC (.int 5))))) (gK (gEsc (gC (.int 6))) (gK (gEsc (gBin fAdd (gC (.int 3)) (gBin fMod (gBin fDiv (gV 1) (gC (.int 2))) (gC (.int 4))))) gN)))) (gFn 2 m__law_take (gK (gEsc (gV 0)) (gK (gEsc (gC (.int 3))) gN)))))
  (sSeq (sSet 4 (gBin fIx (gLst (gK (gEsc (gC (.int 0))) (gK (gEsc (gC (.int 2))) (gK (gEsc (gC (.int 5))) (gK (gEsc (gC (.int 8))) gN))))) (gFn 2 m__law_take (gK (gEsc (gV 0)) (gK (gEsc (gC (.int 4))) gN)))))
  (sSeq (sSet 5 (gLst gN))
  (sSeq (sFor (.n 6) (gItL (gBin fIx (gFn 2 m__law_drawn_end (gK (gEsc (gV 0)) (gK (gEsc (FX.gTup (gK (gEsc (gV 2)) (gK (gEsc (gV 3)) (gK (gEsc (gLst gN)) gN))))) gN))) (gC (.int 2)))) l__law_league_1)
  (sRet (FX.gTup (gK (gEsc (gV 2)) (gK (gEsc (gV 3)) (gK (gEsc (gV 5)) gN)))))))))))
theorem x__law_league {K : PySem.W.Frag} {sa : Addr} {ns : List Int} {tb : List (Addr × Str)} : ∃ m : Fm (ClY K sa ns tb), m = mOf 7 b__law_league := ⟨_, rfl⟩
def m__law_league {K : PySem.W.Frag} {sa : Addr} {ns : List Int} {tb : List (Addr × Str)} : Fm (ClY K sa ns tb) := Classical.choose (x__law_league)
theorem q__law_league {K : PySem.W.Frag} {sa : Addr} {ns : List Int} {tb : List (Addr × Str)} : m__law_league = mOf (Y := (ClY K sa ns tb)) 7 b__law_league := Classical.choose_spec (x__law_league)
def l__law_had_1 {Y : Sys} : GS Y :=
  (sIf (gTst (gBin fEq (gCall fLen (gK (gV 4) gN)) (gC (.int 1)))) (sSeq (sPut 1 (gV 2) (gBin fAdd (gBin fIx (gV 1) (gV 2)) (gBin fIx (gBin fIx (gV 4) (gC (.int 0))) (gC (.int 1)))))
  (sPut 1 (gV 3) (gBin fAdd (gBin fIx (gV 1) (gV 3)) (gBin fIx (gBin fIx (gV 4) (gC (.int 0))) (gC (.int 2)))))) sNil)
def b__law_had {Y : Sys} : GS Y :=
  (sSeq (sSet 1 (gBin fMul (gLst (gK (gEsc (gC (.int 0))) gN)) (gBin fIx (gV 0) (gC (.int 1)))))
  (sSeq (sFor (.t (.cons (.n 2) (.cons (.n 3) (.cons (.n 4) .nil)))) (gItL (gFn 1 m__law_options (gK (gEsc (gV 0)) gN))) l__law_had_1)
  (sRet (gV 1))))
theorem x__law_had {Y : Sys} : ∃ m : Fm Y, m = mOf 5 b__law_had := ⟨_, rfl⟩
def m__law_had {Y : Sys} : Fm Y := Classical.choose (x__law_had)
theorem q__law_had {Y : Sys} : m__law_had = mOf (Y := Y) 5 b__law_had := Classical.choose_spec (x__law_had)
def e__law_points_1 {K : PySem.W.Frag} {sa : Addr} {ns : List Int} {tb : List (Addr × Str)} : GE (ClY K sa ns tb) :=
  (gEsc (gBin fSub (gFn 2 m__law_take (gK (gEsc (gV 0)) (gK (gEsc (gC (.int 12))) gN))) (gC (.int 1))))
def b__law_points {K : PySem.W.Frag} {sa : Addr} {ns : List Int} {tb : List (Addr × Str)} : GS (ClY K sa ns tb) :=
  (sSeq (sSet 2 (gFn 1 m__law_had (gK (gEsc (gFn 2 m__law_drawn_end (gK (gEsc (gV 0)) (gK (gEsc (gV 1)) gN)))) gN)))
  (sSeq (sSet 3 (gBin fIx (gV 1) (gC (.int 1))))
  (sSeq (sSet 4 (gFn 2 m__law_take (gK (gEsc (gV 0)) (gK (gEsc (gV 3)) gN))))
  (sSeq (sSet 5 (gFn 2 m__law_take (gK (gEsc (gV 0)) (gK (gEsc (gV 3)) gN))))
  (sSeq (sSet 6 (gBin fIx (gLst (gK (gEsc (gC (.int 1))) (gK (gEsc (gC (.int 1))) (gK (gEsc (gC (.int 2))) (gK (gEsc (gBin fPow (gC (.int 10)) (gC (.int 25)))) gN))))) (gFn 2 m__law_take (gK (gEsc (gV 0)) (gK (gEsc (gC (.int 4))) gN)))))
  (sSeq (sSet 7 (gFn 2 m__law_take (gK (gEsc (gV 0)) (gK (gEsc (gC (.int 8))) gN))))
  (sSeq (sIf (gTst (gBin fIn2 (gV 7) (FX.gTup (gK (gEsc (gC (.int 4))) (gK (gEsc (gC (.int 5))) gN))))) (sSeq (sPut 2 (gV 4) (gBin fAdd (gBin fIx (gV 2) (gV 4)) (gV 6)))
  (sPut 2 (gV 5) (gBin fSub (gBin fIx (gV 2) (gV 5)) (gV 6)))) sNil)
  (sSeq (sIf (gTst (gBin fEq (gV 7) (gC (.int 6)))) (sPut 2 (gV 4) (gBin fAdd (gBin fIx (gV 2) (gV 4)) (gBin fIx (gLst (gK (gEsc (gV 6)) (gK (gEsc (gBin fSub (gC (.int 0)) (gV 6))) gN))) (gFn 2 m__law_take (gK (gEsc (gV 0)) (gK (gEsc (gC (.int 2))) gN)))))) sNil)
  (sSeq (sIf (gTst (gBin fEq (gV 7) (gC (.int 7)))) (sSet 2 (gComp (.n 8) [8] (gRg1 (gK (gV 3) gN)) gYes e__law_points_1)) sNil)
  (sRet (gV 2)))))))))))
theorem x__law_points {K : PySem.W.Frag} {sa : Addr} {ns : List Int} {tb : List (Addr × Str)} : ∃ m : Fm (ClY K sa ns tb), m = mOf 9 b__law_points := ⟨_, rfl⟩
def m__law_points {K : PySem.W.Frag} {sa : Addr} {ns : List Int} {tb : List (Addr × Str)} : Fm (ClY K sa ns tb) := Classical.choose (x__law_points)
theorem q__law_points {K : PySem.W.Frag} {sa : Addr} {ns : List Int} {tb : List (Addr × Str)} : m__law_points = mOf (Y := (ClY K sa ns tb)) 9 b__law_points := Classical.choose_spec (x__law_points)
def b__law_copy {Y : Sys} : GS Y :=
  (sRet (FX.gTup (gK (gEsc (gBin fIx (gV 0) (gC (.int 0)))) (gK (gEsc (gBin fIx (gV 0) (gC (.int 1)))) (gK (gEsc (gCall fList (gK (gBin fIx (gV 0) (gC (.int 2))) gN))) gN)))))
theorem x__law_copy {Y : Sys} : ∃ m : Fm Y, m = mOf 1 b__law_copy := ⟨_, rfl⟩
def m__law_copy {Y : Sys} : Fm Y := Classical.choose (x__law_copy)
theorem q__law_copy {Y : Sys} : m__law_copy = mOf (Y := Y) 1 b__law_copy := Classical.choose_spec (x__law_copy)
def b__law_less {Y : Sys} : GS Y :=
  (sSeq (sUnp (.cons (.n 5) (.cons (.n 6) (.cons (.n 7) .nil))) (gBin fIx (gV 0) (gV 1)))
  (sSeq (sSet 8 (gCall fList (gK (gV 2) gN)))
  (sSeq (sPut 8 (gV 5) (gBin fSub (gBin fIx (gV 8) (gV 5)) (gV 3)))
  (sSeq (sPut 8 (gV 6) (gBin fSub (gBin fIx (gV 8) (gV 6)) (gV 4)))
  (sRet (gCall fTup (gK (gV 8) gN)))))))
theorem x__law_less {Y : Sys} : ∃ m : Fm Y, m = mOf 9 b__law_less := ⟨_, rfl⟩
def m__law_less {Y : Sys} : Fm Y := Classical.choose (x__law_less)
theorem q__law_less {Y : Sys} : m__law_less = mOf (Y := Y) 9 b__law_less := Classical.choose_spec (x__law_less)
def l__law_ways_1 {K : PySem.W.Frag} {sa : Addr} {ns : List Int} {tb : List (Addr × Str)} (rec : Fm (ClY K sa ns tb)) : GS (ClY K sa ns tb) :=
  (sSeq (sSet 8 (gFn 5 m__law_less (gK (gEsc (gV 0)) (gK (gEsc (gV 1)) (gK (gEsc (gV 2)) (gK (gEsc (gV 6)) (gK (gEsc (gV 7)) gN)))))))
  (sSet 4 (gBin fAdd (gV 4) (gFn 4 rec (gK (gEsc (gV 0)) (gK (gEsc (gBin fAdd (gV 1) (gC (.int 1)))) (gK (gEsc (gV 8)) (gK (gEsc (gV 3)) gN))))))))
def b__law_ways {K : PySem.W.Frag} {sa : Addr} {ns : List Int} {tb : List (Addr × Str)} (rec : Fm (ClY K sa ns tb)) : GS (ClY K sa ns tb) :=
  (sSeq (sIf (gTst (gBin fLt (gCall fMinT (gK (gV 2) gN)) (gC (.int 0)))) (sRet (gC (.int 0))) sNil)
  (sSeq (sIf (gTst (gBin fEq (gV 1) (gCall fLen (gK (gV 0) gN)))) (sRet (gCall fInt (gK (gBin fEq (gCall fMaxT (gK (gV 2) gN)) (gC (.int 0))) gN))) sNil)
  (sSeq (sIf (gTst (gNNot (FX.gTup (gK (gEsc (gV 1)) (gK (gEsc (gV 2)) gN))) (gV 3))) (sSeq (sSet 4 (gC (.int 0)))
  (sSeq (sFor (.t (.cons (.n 5) (.cons (.n 6) (.cons (.n 7) .nil)))) (gItL (gBin fIx (gBin fIx (gV 0) (gV 1)) (gC (.int 2)))) (l__law_ways_1 rec))
  (sNPutC (gV 3) (FX.gTup (gK (gEsc (gV 1)) (gK (gEsc (gV 2)) gN))) (gV 4)))) sNil)
  (sRet (gNGet (gV 3) (FX.gTup (gK (gEsc (gV 1)) (gK (gEsc (gV 2)) gN))))))))
def r__law_ways {K : PySem.W.Frag} {sa : Addr} {ns : List Int} {tb : List (Addr × Str)} : Nat → Fm (ClY K sa ns tb)
  | 0 => fun _ _ => none
  | n + 1 => mOf 9 (b__law_ways (r__law_ways n))
theorem x__law_ways {K : PySem.W.Frag} {sa : Addr} {ns : List Int} {tb : List (Addr × Str)} : ∃ m : Fm (ClY K sa ns tb), m = r__law_ways 17 := ⟨_, rfl⟩
def m__law_ways {K : PySem.W.Frag} {sa : Addr} {ns : List Int} {tb : List (Addr × Str)} : Fm (ClY K sa ns tb) := Classical.choose (x__law_ways)
theorem q__law_ways {K : PySem.W.Frag} {sa : Addr} {ns : List Int} {tb : List (Addr × Str)} : m__law_ways = r__law_ways (K := K) (sa := sa) (ns := ns) (tb := tb) 17 := Classical.choose_spec (x__law_ways)
def b__law_many {K : PySem.W.Frag} {sa : Addr} {ns : List Int} {tb : List (Addr × Str)} : GS (ClY K sa ns tb) :=
  (sRet (gFn 4 m__law_ways (gK (gEsc (gFn 1 m__law_options (gK (gEsc (gV 0)) gN))) (gK (gEsc (gC (.int 0))) (gK (gEsc (gCall fTup (gK (gV 1) gN))) (gK (gEsc gNNew) gN))))))
theorem x__law_many {K : PySem.W.Frag} {sa : Addr} {ns : List Int} {tb : List (Addr × Str)} : ∃ m : Fm (ClY K sa ns tb), m = mOf 2 b__law_many := ⟨_, rfl⟩
def m__law_many {K : PySem.W.Frag} {sa : Addr} {ns : List Int} {tb : List (Addr × Str)} : Fm (ClY K sa ns tb) := Classical.choose (x__law_many)
theorem q__law_many {K : PySem.W.Frag} {sa : Addr} {ns : List Int} {tb : List (Addr × Str)} : m__law_many = mOf (Y := (ClY K sa ns tb)) 2 b__law_many := Classical.choose_spec (x__law_many)
end
end FX.Pg
set_option Elab.async false
set_option linter.all false
set_option maxRecDepth 100000
set_option maxHeartbeats 4000000
namespace FX.K14
noncomputable section
open PySem PySem.Spec L2 FX
def topS (i : Nat) : Stmt := PySem.Challenge.pw_wintold_k14_ends_counted.main.body.getD i (.Pass ⟨0, 0, 0, 0⟩)
def mtS (i j : Nat) : Stmt := match topS i with
  | .ClassDef _ _ _ body _ _ _ _ _ _ _ => body.getD j (.Pass ⟨0, 0, 0, 0⟩)
  | _ => .Pass ⟨0, 0, 0, 0⟩
abbrev s_is_whole : Stmt := topS 6
abbrev N_is_whole : List Str := ["thing"]
theorem sc_is_whole : FnScope N_is_whole ["thing"] (defScope s_is_whole) := ⟨rfl, rfl, rfl, by decide +kernel, rfl, by decide +kernel, by decide +kernel⟩
abbrev s_is_player : Stmt := topS 7
abbrev N_is_player : List Str := ["thing", "n"]
theorem sc_is_player : FnScope N_is_player ["thing", "n"] (defScope s_is_player) := ⟨rfl, rfl, rfl, by decide +kernel, rfl, by decide +kernel, by decide +kernel⟩
abbrev s_is_tuple_of : Stmt := topS 8
abbrev N_is_tuple_of : List Str := ["thing", "size"]
theorem sc_is_tuple_of : FnScope N_is_tuple_of ["thing", "size"] (defScope s_is_tuple_of) := ⟨rfl, rfl, rfl, by decide +kernel, rfl, by decide +kernel, by decide +kernel⟩
abbrev s_is_match : Stmt := topS 16
abbrev N_is_match : List Str := ["n", "i", "j"]
theorem sc_is_match : FnScope N_is_match ["n", "i", "j"] (defScope s_is_match) := ⟨rfl, rfl, rfl, by decide +kernel, rfl, by decide +kernel, by decide +kernel⟩
abbrev s_is_outcome : Stmt := topS 17
abbrev N_is_outcome : List Str := ["kind", "i", "j", "w"]
theorem sc_is_outcome : FnScope N_is_outcome ["kind", "i", "j", "w"] (defScope s_is_outcome) := ⟨rfl, rfl, rfl, by decide +kernel, rfl, by decide +kernel, by decide +kernel⟩
abbrev s__is_played : Stmt := topS 15
abbrev N__is_played : List Str := ["kind", "n", "match", "i", "j", "w"]
theorem sc__is_played : FnScope N__is_played ["kind", "n", "match"] (defScope s__is_played) := ⟨rfl, rfl, rfl, by decide +kernel, rfl, by decide +kernel, by decide +kernel⟩
abbrev s__are_played : Stmt := topS 14
abbrev N__are_played : List Str := ["kind", "n", "played", "before", "match", "i", "j", "_"]
theorem sc__are_played : FnScope N__are_played ["kind", "n", "played"] (defScope s__are_played) := ⟨rfl, rfl, rfl, by decide +kernel, rfl, by decide +kernel, by decide +kernel⟩
abbrev s_is_league : Stmt := topS 13
abbrev N_is_league : List Str := ["thing", "kind", "n", "played"]
theorem sc_is_league : FnScope N_is_league ["thing"] (defScope s_is_league) := ⟨rfl, rfl, rfl, by decide +kernel, rfl, by decide +kernel, by decide +kernel⟩
abbrev s_check_league : Stmt := topS 18
abbrev N_check_league : List Str := ["league"]
theorem sc_check_league : FnScope N_check_league ["league"] (defScope s_check_league) := ⟨rfl, rfl, rfl, by decide +kernel, rfl, by decide +kernel, by decide +kernel⟩
abbrev s_check_points : Stmt := topS 19
abbrev N_check_points : List Str := ["league", "points", "n", "one"]
theorem sc_check_points : FnScope N_check_points ["league", "points"] (defScope s_check_points) := ⟨rfl, rfl, rfl, by decide +kernel, rfl, by decide +kernel, by decide +kernel⟩
abbrev s_worth_of : Stmt := topS 20
abbrev N_worth_of : List Str := ["league"]
theorem sc_worth_of : FnScope N_worth_of ["league"] (defScope s_worth_of) := ⟨rfl, rfl, rfl, by decide +kernel, rfl, by decide +kernel, by decide +kernel⟩
abbrev s_outcomes_in_order : Stmt := topS 21
abbrev N_outcomes_in_order : List Str := ["kind", "i", "j", "w"]
theorem sc_outcomes_in_order : FnScope N_outcomes_in_order ["kind", "i", "j"] (defScope s_outcomes_in_order) := ⟨rfl, rfl, rfl, by decide +kernel, rfl, by decide +kernel, by decide +kernel⟩
abbrev s_shares_of : Stmt := topS 22
abbrev N_shares_of : List Str := ["kind", "i", "w"]
theorem sc_shares_of : FnScope N_shares_of ["kind", "i", "w"] (defScope s_shares_of) := ⟨rfl, rfl, rfl, by decide +kernel, rfl, by decide +kernel, by decide +kernel⟩
abbrev s_points_behind : Stmt := topS 23
abbrev N_points_behind : List Str := ["points", "i", "j", "shares", "to_i", "to_j", "behind"]
theorem sc_points_behind : FnScope N_points_behind ["points", "i", "j", "shares"] (defScope s_points_behind) := ⟨rfl, rfl, rfl, by decide +kernel, rfl, by decide +kernel, by decide +kernel⟩
abbrev s_matches_left : Stmt := topS 24
abbrev N_matches_left : List Str := ["league", "_", "n", "played", "done", "i", "j", "match"]
theorem sc_matches_left : FnScope N_matches_left ["league"] (defScope s_matches_left) := ⟨rfl, rfl, rfl, by decide +kernel, rfl, by decide +kernel, by decide +kernel⟩
abbrev s_points_had : Stmt := topS 25
abbrev N_points_had : List Str := ["league", "kind", "n", "played", "had", "i", "j", "w"]
theorem sc_points_had : FnScope N_points_had ["league"] (defScope s_points_had) := ⟨rfl, rfl, rfl, by decide +kernel, rfl, by decide +kernel, by decide +kernel⟩
abbrev s__most_from : Stmt := topS 28
abbrev N__most_from : List Str := ["league", "left", "worth", "most", "found", "match", "player"]
theorem sc__most_from : FnScope N__most_from ["league", "left"] (defScope s__most_from) := ⟨rfl, rfl, rfl, by decide +kernel, rfl, by decide +kernel, by decide +kernel⟩
abbrev s_Ways__in_reach : Stmt := mtS 27 4
abbrev N_Ways__in_reach : List Str := ["self", "at", "had", "low", "end", "most"]
theorem sc_Ways__in_reach : FnScope N_Ways__in_reach ["self", "at", "had"] (defScope s_Ways__in_reach) := ⟨rfl, rfl, rfl, by decide +kernel, rfl, by decide +kernel, by decide +kernel⟩
abbrev s_Ways_steps : Stmt := mtS 27 3
abbrev N_Ways_steps : List Str := ["self", "at", "had", "i", "j", "outcomes", "w"]
theorem sc_Ways_steps : FnScope N_Ways_steps ["self", "at", "had"] (defScope s_Ways_steps) := ⟨rfl, rfl, rfl, by decide +kernel, rfl, by decide +kernel, by decide +kernel⟩
abbrev s_Ways_many : Stmt := mtS 27 2
abbrev N_Ways_many : List Str := ["self", "at", "had", "_", "behind"]
theorem sc_Ways_many : FnScope N_Ways_many ["self", "at", "had"] (defScope s_Ways_many) := ⟨rfl, rfl, rfl, by decide +kernel, rfl, by decide +kernel, by decide +kernel⟩
abbrev s_Ways_in_all : Stmt := mtS 27 1
abbrev N_Ways_in_all : List Str := ["self"]
theorem sc_Ways_in_all : FnScope N_Ways_in_all ["self"] (defScope s_Ways_in_all) := ⟨rfl, rfl, rfl, by decide +kernel, rfl, by decide +kernel, by decide +kernel⟩
abbrev s_Ways___init__ : Stmt := mtS 27 0
abbrev N_Ways___init__ : List Str := ["self", "league", "points"]
theorem sc_Ways___init__ : FnScope N_Ways___init__ ["self", "league", "points"] (defScope s_Ways___init__) := ⟨rfl, rfl, rfl, by decide +kernel, rfl, by decide +kernel, by decide +kernel⟩
abbrev s_count_ends : Stmt := topS 29
abbrev N_count_ends : List Str := ["league", "points"]
theorem sc_count_ends : FnScope N_count_ends ["league", "points"] (defScope s_count_ends) := ⟨rfl, rfl, rfl, by decide +kernel, rfl, by decide +kernel, by decide +kernel⟩
abbrev s__law_draws : Stmt := topS 31
abbrev N__law_draws : List Str := ["script", "many", "drawn", "base", "k", "cell", "number", "one"]
theorem sc__law_draws : FnScope N__law_draws ["script", "many"] (defScope s__law_draws) := ⟨rfl, rfl, rfl, by decide +kernel, rfl, by decide +kernel, by decide +kernel⟩
abbrev s__law_take : Stmt := topS 32
abbrev N__law_take : List Str := ["store", "many"]
theorem sc__law_take : FnScope N__law_take ["store", "many"] (defScope s__law_take) := ⟨rfl, rfl, rfl, by decide +kernel, rfl, by decide +kernel, by decide +kernel⟩
abbrev s__law_options : Stmt := topS 33
abbrev N__law_options : List Str := ["league", "kind", "n", "played", "found", "i", "j", "some", "own", "one", "other", "w"]
theorem sc__law_options : FnScope N__law_options ["league"] (defScope s__law_options) := ⟨rfl, rfl, rfl, by decide +kernel, rfl, by decide +kernel, by decide +kernel⟩
abbrev s__law_drawn_end : Stmt := topS 34
abbrev N__law_drawn_end : List Str := ["store", "league", "found", "i", "j", "some"]
theorem sc__law_drawn_end : FnScope N__law_drawn_end ["store", "league"] (defScope s__law_drawn_end) := ⟨rfl, rfl, rfl, by decide +kernel, rfl, by decide +kernel, by decide +kernel⟩
abbrev s__law_league : Stmt := topS 35
abbrev N__law_league : List Str := ["store", "x", "kind", "n", "often", "played", "match"]
theorem sc__law_league : FnScope N__law_league ["store"] (defScope s__law_league) := ⟨rfl, rfl, rfl, by decide +kernel, rfl, by decide +kernel, by decide +kernel⟩
abbrev s__law_had : Stmt := topS 36
abbrev N__law_had : List Str := ["league", "found", "i", "j", "some"]
theorem sc__law_had : FnScope N__law_had ["league"] (defScope s__law_had) := ⟨rfl, rfl, rfl, by decide +kernel, rfl, by decide +kernel, by decide +kernel⟩
abbrev s__law_points : Stmt := topS 37
abbrev N__law_points : List Str := ["store", "league", "found", "n", "one", "other", "by", "way", "k"]
theorem sc__law_points : FnScope N__law_points ["store", "league"] (defScope s__law_points) := ⟨rfl, rfl, rfl, by decide +kernel, rfl, by decide +kernel, by decide +kernel⟩
abbrev s__law_copy : Stmt := topS 38
abbrev N__law_copy : List Str := ["league"]
theorem sc__law_copy : FnScope N__law_copy ["league"] (defScope s__law_copy) := ⟨rfl, rfl, rfl, by decide +kernel, rfl, by decide +kernel, by decide +kernel⟩
abbrev s__law_less : Stmt := topS 40
abbrev N__law_less : List Str := ["options", "at", "needs", "to_i", "to_j", "i", "j", "some", "found"]
theorem sc__law_less : FnScope N__law_less ["options", "at", "needs", "to_i", "to_j"] (defScope s__law_less) := ⟨rfl, rfl, rfl, by decide +kernel, rfl, by decide +kernel, by decide +kernel⟩
abbrev s__law_ways : Stmt := topS 39
abbrev N__law_ways : List Str := ["options", "at", "needs", "known", "total", "w", "to_i", "to_j", "rest"]
theorem sc__law_ways : FnScope N__law_ways ["options", "at", "needs", "known"] (defScope s__law_ways) := ⟨rfl, rfl, rfl, by decide +kernel, rfl, by decide +kernel, by decide +kernel⟩
abbrev s__law_many : Stmt := topS 41
abbrev N__law_many : List Str := ["league", "points"]
theorem sc__law_many : FnScope N__law_many ["league", "points"] (defScope s__law_many) := ⟨rfl, rfl, rfl, by decide +kernel, rfl, by decide +kernel, by decide +kernel⟩
abbrev s_law : Stmt := topS 42
abbrev N_law : List Str := ["script", "store", "turn", "league", "points", "handed", "given", "due", "again", "found"]
theorem sc_law : FnScope N_law ["script"] (defScope s_law) := ⟨rfl, rfl, rfl, by decide +kernel, rfl, by decide +kernel, by decide +kernel⟩
structure Txt (K : PySem.W.Frag) (w : World) (mg : Str → Option Value) where
  a_is_whole : Addr
  d_is_whole : FuncData
  F_is_whole : Fun K "is_whole" "is_whole" s_is_whole a_is_whole d_is_whole
  g_is_whole : mg "is_whole" = some (.ref a_is_whole)
  b_is_whole : Binds K d_is_whole ["thing"] []
  a_is_player : Addr
  d_is_player : FuncData
  F_is_player : Fun K "is_player" "is_player" s_is_player a_is_player d_is_player
  g_is_player : mg "is_player" = some (.ref a_is_player)
  b_is_player : Binds K d_is_player ["thing", "n"] []
  a_is_tuple_of : Addr
  d_is_tuple_of : FuncData
  F_is_tuple_of : Fun K "is_tuple_of" "is_tuple_of" s_is_tuple_of a_is_tuple_of d_is_tuple_of
  g_is_tuple_of : mg "is_tuple_of" = some (.ref a_is_tuple_of)
  b_is_tuple_of : Binds K d_is_tuple_of ["thing", "size"] []
  a_is_match : Addr
  d_is_match : FuncData
  F_is_match : Fun K "is_match" "is_match" s_is_match a_is_match d_is_match
  g_is_match : mg "is_match" = some (.ref a_is_match)
  b_is_match : Binds K d_is_match ["n", "i", "j"] []
  a_is_outcome : Addr
  d_is_outcome : FuncData
  F_is_outcome : Fun K "is_outcome" "is_outcome" s_is_outcome a_is_outcome d_is_outcome
  g_is_outcome : mg "is_outcome" = some (.ref a_is_outcome)
  b_is_outcome : Binds K d_is_outcome ["kind", "i", "j", "w"] []
  a__is_played : Addr
  d__is_played : FuncData
  F__is_played : Fun K "_is_played" "_is_played" s__is_played a__is_played d__is_played
  g__is_played : mg "_is_played" = some (.ref a__is_played)
  b__is_played : Binds K d__is_played ["kind", "n", "match"] []
  a__are_played : Addr
  d__are_played : FuncData
  F__are_played : Fun K "_are_played" "_are_played" s__are_played a__are_played d__are_played
  g__are_played : mg "_are_played" = some (.ref a__are_played)
  b__are_played : Binds K d__are_played ["kind", "n", "played"] []
  a_is_league : Addr
  d_is_league : FuncData
  F_is_league : Fun K "is_league" "is_league" s_is_league a_is_league d_is_league
  g_is_league : mg "is_league" = some (.ref a_is_league)
  b_is_league : Binds K d_is_league ["thing"] []
  a_check_league : Addr
  d_check_league : FuncData
  F_check_league : Fun K "check_league" "check_league" s_check_league a_check_league d_check_league
  g_check_league : mg "check_league" = some (.ref a_check_league)
  b_check_league : Binds K d_check_league ["league"] []
  a_check_points : Addr
  d_check_points : FuncData
  F_check_points : Fun K "check_points" "check_points" s_check_points a_check_points d_check_points
  g_check_points : mg "check_points" = some (.ref a_check_points)
  b_check_points : Binds K d_check_points ["league", "points"] []
  a_worth_of : Addr
  d_worth_of : FuncData
  F_worth_of : Fun K "worth_of" "worth_of" s_worth_of a_worth_of d_worth_of
  g_worth_of : mg "worth_of" = some (.ref a_worth_of)
  b_worth_of : Binds K d_worth_of ["league"] []
  a_outcomes_in_order : Addr
  d_outcomes_in_order : FuncData
  F_outcomes_in_order : Fun K "outcomes_in_order" "outcomes_in_order" s_outcomes_in_order a_outcomes_in_order d_outcomes_in_order
  g_outcomes_in_order : mg "outcomes_in_order" = some (.ref a_outcomes_in_order)
  b_outcomes_in_order : Binds K d_outcomes_in_order ["kind", "i", "j"] []
  a_shares_of : Addr
  d_shares_of : FuncData
  F_shares_of : Fun K "shares_of" "shares_of" s_shares_of a_shares_of d_shares_of
  g_shares_of : mg "shares_of" = some (.ref a_shares_of)
  b_shares_of : Binds K d_shares_of ["kind", "i", "w"] []
  a_points_behind : Addr
  d_points_behind : FuncData
  F_points_behind : Fun K "points_behind" "points_behind" s_points_behind a_points_behind d_points_behind
  g_points_behind : mg "points_behind" = some (.ref a_points_behind)
  b_points_behind : Binds K d_points_behind ["points", "i", "j", "shares"] []
  a_matches_left : Addr
  d_matches_left : FuncData
  F_matches_left : Fun K "matches_left" "matches_left" s_matches_left a_matches_left d_matches_left
  g_matches_left : mg "matches_left" = some (.ref a_matches_left)
  b_matches_left : Binds K d_matches_left ["league"] []
  a_points_had : Addr
  d_points_had : FuncData
  F_points_had : Fun K "points_had" "points_had" s_points_had a_points_had d_points_had
  g_points_had : mg "points_had" = some (.ref a_points_had)
  b_points_had : Binds K d_points_had ["league"] []
  a__most_from : Addr
  d__most_from : FuncData
  F__most_from : Fun K "_most_from" "_most_from" s__most_from a__most_from d__most_from
  g__most_from : mg "_most_from" = some (.ref a__most_from)
  b__most_from : Binds K d__most_from ["league", "left"] []
  a_Ways__in_reach : Addr
  d_Ways__in_reach : FuncData
  F_Ways__in_reach : Fun K "_in_reach" "Ways._in_reach" s_Ways__in_reach a_Ways__in_reach d_Ways__in_reach
  b_Ways__in_reach : Binds K d_Ways__in_reach ["self", "at", "had"] []
  a_Ways_steps : Addr
  d_Ways_steps : FuncData
  F_Ways_steps : Fun K "steps" "Ways.steps" s_Ways_steps a_Ways_steps d_Ways_steps
  b_Ways_steps : Binds K d_Ways_steps ["self", "at", "had"] []
  a_Ways_many : Addr
  d_Ways_many : FuncData
  F_Ways_many : Fun K "many" "Ways.many" s_Ways_many a_Ways_many d_Ways_many
  b_Ways_many : Binds K d_Ways_many ["self", "at", "had"] []
  a_Ways_in_all : Addr
  d_Ways_in_all : FuncData
  F_Ways_in_all : Fun K "in_all" "Ways.in_all" s_Ways_in_all a_Ways_in_all d_Ways_in_all
  b_Ways_in_all : Binds K d_Ways_in_all ["self"] []
  a_Ways___init__ : Addr
  d_Ways___init__ : FuncData
  F_Ways___init__ : Fun K "__init__" "Ways.__init__" s_Ways___init__ a_Ways___init__ d_Ways___init__
  b_Ways___init__ : Binds K d_Ways___init__ ["self", "league", "points"] []
  a_count_ends : Addr
  d_count_ends : FuncData
  F_count_ends : Fun K "count_ends" "count_ends" s_count_ends a_count_ends d_count_ends
  g_count_ends : mg "count_ends" = some (.ref a_count_ends)
  b_count_ends : Binds K d_count_ends ["league", "points"] []
  a__law_draws : Addr
  d__law_draws : FuncData
  F__law_draws : Fun K "_law_draws" "_law_draws" s__law_draws a__law_draws d__law_draws
  g__law_draws : mg "_law_draws" = some (.ref a__law_draws)
  b__law_draws : Binds K d__law_draws ["script", "many"] []
  a__law_take : Addr
  d__law_take : FuncData
  F__law_take : Fun K "_law_take" "_law_take" s__law_take a__law_take d__law_take
  g__law_take : mg "_law_take" = some (.ref a__law_take)
  b__law_take : Binds K d__law_take ["store", "many"] []
  a__law_options : Addr
  d__law_options : FuncData
  F__law_options : Fun K "_law_options" "_law_options" s__law_options a__law_options d__law_options
  g__law_options : mg "_law_options" = some (.ref a__law_options)
  b__law_options : Binds K d__law_options ["league"] []
  a__law_drawn_end : Addr
  d__law_drawn_end : FuncData
  F__law_drawn_end : Fun K "_law_drawn_end" "_law_drawn_end" s__law_drawn_end a__law_drawn_end d__law_drawn_end
  g__law_drawn_end : mg "_law_drawn_end" = some (.ref a__law_drawn_end)
  b__law_drawn_end : Binds K d__law_drawn_end ["store", "league"] []
  a__law_league : Addr
  d__law_league : FuncData
  F__law_league : Fun K "_law_league" "_law_league" s__law_league a__law_league d__law_league
  g__law_league : mg "_law_league" = some (.ref a__law_league)
  b__law_league : Binds K d__law_league ["store"] []
  a__law_had : Addr
  d__law_had : FuncData
  F__law_had : Fun K "_law_had" "_law_had" s__law_had a__law_had d__law_had
  g__law_had : mg "_law_had" = some (.ref a__law_had)
  b__law_had : Binds K d__law_had ["league"] []
  a__law_points : Addr
  d__law_points : FuncData
  F__law_points : Fun K "_law_points" "_law_points" s__law_points a__law_points d__law_points
  g__law_points : mg "_law_points" = some (.ref a__law_points)
  b__law_points : Binds K d__law_points ["store", "league"] []
  a__law_copy : Addr
  d__law_copy : FuncData
  F__law_copy : Fun K "_law_copy" "_law_copy" s__law_copy a__law_copy d__law_copy
  g__law_copy : mg "_law_copy" = some (.ref a__law_copy)
  b__law_copy : Binds K d__law_copy ["league"] []
  a__law_less : Addr
  d__law_less : FuncData
  F__law_less : Fun K "_law_less" "_law_less" s__law_less a__law_less d__law_less
  g__law_less : mg "_law_less" = some (.ref a__law_less)
  b__law_less : Binds K d__law_less ["options", "at", "needs", "to_i", "to_j"] []
  a__law_ways : Addr
  d__law_ways : FuncData
  F__law_ways : Fun K "_law_ways" "_law_ways" s__law_ways a__law_ways d__law_ways
  g__law_ways : mg "_law_ways" = some (.ref a__law_ways)
  b__law_ways : Binds K d__law_ways ["options", "at", "needs", "known"] []
  a__law_many : Addr
  d__law_many : FuncData
  F__law_many : Fun K "_law_many" "_law_many" s__law_many a__law_many d__law_many
  g__law_many : mg "_law_many" = some (.ref a__law_many)
  b__law_many : Binds K d__law_many ["league", "points"] []
  a_law : Addr
  d_law : FuncData
  F_law : Fun K "law" "law" s_law a_law d_law
  g_law : mg "law" = some (.ref a_law)
  b_law : Binds K d_law ["script"] []
  C_Ways : Addr
  ct_FEWEST_PLAYERS : Tok
  c_FEWEST_PLAYERS : mg "FEWEST_PLAYERS" = some (.int 2 ct_FEWEST_PLAYERS)
  ct_MOST_PLAYERS : Tok
  c_MOST_PLAYERS : mg "MOST_PLAYERS" = some (.int 6 ct_MOST_PLAYERS)
  ca_WORTHS : Addr
  c_WORTHS : mg "WORTHS" = some (.ref ca_WORTHS)
  i_combinations : mg "combinations" = some (.type "itertools.combinations")
  z_abs : mg "abs" = none
  z_all : mg "all" = none
  z_bool : mg "bool" = none
  z_enumerate : mg "enumerate" = none
  z_int : mg "int" = none
  z_isinstance : mg "isinstance" = none
  z_len : mg "len" = none
  z_list : mg "list" = none
  z_max : mg "max" = none
  z_min : mg "min" = none
  z_range : mg "range" = none
  z_reversed : mg "reversed" = none
  z_str : mg "str" = none
  z_sum : mg "sum" = none
  z_tuple : mg "tuple" = none
  z_type : mg "type" = none
  z_zip : mg "zip" = none
  ea_NoLeague : Addr
  ea_NoPoints : Addr
  mt_Ways__in_reach : Meth K C_Ways "_in_reach" a_Ways__in_reach
  mt_Ways_steps : Meth K C_Ways "steps" a_Ways_steps
  mt_Ways_many : Meth K C_Ways "many" a_Ways_many
  mt_Ways_in_all : Meth K C_Ways "in_all" a_Ways_in_all
  mk_Ways : Mk K C_Ways a_Ways___init__
  mgC_Ways : mg "Ways" = some (.ref C_Ways)
  cn_Ways : Cn K "Ways" (.ref C_Ways)
  cl_Ways : Cls K C_Ways
  na_Ways_counted : NoAttr K C_Ways "counted"
  na_Ways_goal : NoAttr K C_Ways "goal"
  na_Ways_had : NoAttr K C_Ways "had"
  na_Ways_kind : NoAttr K C_Ways "kind"
  na_Ways_left : NoAttr K C_Ways "left"
  na_Ways_most : NoAttr K C_Ways "most"
  t_WORTHS : KTab K w ca_WORTHS Pg.t_WORTHS
  eg_NoLeague : mg "NoLeague" = some (.ref ea_NoLeague)
  eg_NoPoints : mg "NoPoints" = some (.ref ea_NoPoints)
  E_NoLeague : ErC K "NoLeague" ea_NoLeague
  E_NoPoints : ErC K "NoPoints" ea_NoPoints
theorem ok_is_whole {P : Program} {w : World} {K : PySem.W.Frag} {mg : Str → Option Value} {base : Heap} {Y : Sys} (T : Txt K w mg) : FnOk P w K mg base (L2.CX P w) 1 T.a_is_whole T.d_is_whole ["thing"] (spM Y K 1 Pg.m_is_whole) := by
  rw [Pg.q_is_whole]
  exact fn_okM T.F_is_whole sc_is_whole fun cdv A outer s H E hr => ⟨_,
  (mss_one (ms_ret (me_tyEqK (K := K) rfl (T := "int") (by decide) (by rfl) T.z_type (by rfl) T.z_int (by decide +kernel) (me_name (pv 0)))))⟩
theorem ok_is_player {P : Program} {w : World} {K : PySem.W.Frag} {mg : Str → Option Value} {base : Heap} {Y : Sys} (T : Txt K w mg) : FnOk P w K mg base (L2.CX P w) 2 T.a_is_player T.d_is_player ["thing", "n"] (spM Y K 2 Pg.m_is_player) := by
  rw [Pg.q_is_player]
  exact fn_okM T.F_is_player sc_is_player fun cdv A outer s H E hr => ⟨_,
  (mss_one (ms_ret (me_and (me_fnK (K := K) rfl (ok_is_whole T) (hr.mono (by decide)) (by rfl) T.g_is_whole T.F_is_whole.kp T.b_is_whole (takes_of rfl rfl rfl rfl) (ma_cons (me_esc (me_name (pv 0))) ma_nil)) (me_one (me_chain (r := rLe2 K) (o_le hr.units0) s_le op_lt s_lt me_int (me_name (pv 0)) (me_name (pv 1)))))))⟩
theorem ok_is_tuple_of {P : Program} {w : World} {K : PySem.W.Frag} {mg : Str → Option Value} {base : Heap} {Y : Sys} (T : Txt K w mg) : FnOk P w K mg base (L2.CX P w) 1 T.a_is_tuple_of T.d_is_tuple_of ["thing", "size"] (spM Y K 2 Pg.m_is_tuple_of) := by
  rw [Pg.q_is_tuple_of]
  exact fn_okM T.F_is_tuple_of sc_is_tuple_of fun cdv A outer s H E hr => ⟨_,
  (mss_one (ms_ret (me_and (me_tyEqK (K := K) rfl (T := "tuple") (by decide) (by rfl) T.z_type (by rfl) T.z_tuple (by decide +kernel) (me_name (pv 0))) (me_one (me_cmp (r := rEqD K) (op_eqD hr.units) s_eq (me_callB (r := rLenL K) (CallR.or call_len_seq call_len_str) s_len (by rfl) T.z_len (by decide +kernel) (ma_cons (me_name (pv 0)) ma_nil)) (me_name (pv 1)) (nomark _))))))⟩
theorem ok_is_match {P : Program} {w : World} {K : PySem.W.Frag} {mg : Str → Option Value} {base : Heap} {Y : Sys} (T : Txt K w mg) : FnOk P w K mg base (L2.CX P w) 3 T.a_is_match T.d_is_match ["n", "i", "j"] (spM Y K 3 Pg.m_is_match) := by
  rw [Pg.q_is_match]
  exact fn_okM T.F_is_match sc_is_match fun cdv A outer s H E hr => ⟨_,
  (mss_one (ms_ret (me_and (me_fnK (K := K) rfl (ok_is_player T) (hr.mono (by decide)) (by rfl) T.g_is_player T.F_is_player.kp T.b_is_player (takes_of rfl rfl rfl rfl) (ma_cons (me_esc (me_name (pv 1))) (ma_cons (me_esc (me_name (pv 0))) ma_nil))) (me_and (me_fnK (K := K) rfl (ok_is_player T) (hr.mono (by decide)) (by rfl) T.g_is_player T.F_is_player.kp T.b_is_player (takes_of rfl rfl rfl rfl) (ma_cons (me_esc (me_name (pv 2))) (ma_cons (me_esc (me_name (pv 0))) ma_nil))) (me_one (me_cmp op_lt s_lt (me_name (pv 1)) (me_name (pv 2)) (nomark _)))))))⟩
theorem ok_is_outcome {P : Program} {w : World} {K : PySem.W.Frag} {mg : Str → Option Value} {base : Heap} {Y : Sys} (T : Txt K w mg) : FnOk P w K mg base (L2.CX P w) 2 T.a_is_outcome T.d_is_outcome ["kind", "i", "j", "w"] (spM Y K 4 Pg.m_is_outcome) := by
  rw [Pg.q_is_outcome]
  exact fn_okM T.F_is_outcome sc_is_outcome fun cdv A outer s H E hr => ⟨_,
  (mss_cons (ms_if (mt_cmp op_isN s_isN (me_name (pv 3)) me_non (nomark _)) (mss_one (ms_ret (me_cmp (r := rEqD K) (op_eqD hr.units) s_eq (me_name (pv 0)) me_str (nomark _)))) mss_nil)
  (mss_one (ms_ret (me_and (me_fnK (K := K) rfl (ok_is_whole T) (hr.mono (by decide)) (by rfl) T.g_is_whole T.F_is_whole.kp T.b_is_whole (takes_of rfl rfl rfl rfl) (ma_cons (me_esc (me_name (pv 3))) ma_nil)) (me_one (me_cmp (r := rIn2 K) (o_in (hu65 hr)) s_in2 (me_name (pv 3)) (me_tup (ma_cons (me_esc (me_name (pv 1))) (ma_cons (me_esc (me_name (pv 2))) ma_nil))) (by rfl)))))))⟩
theorem ok__is_played {P : Program} {w : World} {K : PySem.W.Frag} {mg : Str → Option Value} {base : Heap} {Y : Sys} (T : Txt K w mg) : FnOk P w K mg base (L2.CX P w) 4 T.a__is_played T.d__is_played ["kind", "n", "match"] (spM Y K 3 Pg.m__is_played) := by
  rw [Pg.q__is_played]
  exact fn_okM T.F__is_played sc__is_played fun cdv A outer s H E hr => ⟨_,
  (mss_cons (ms_if (mt_not (mt_val (me_fnK (K := K) rfl (ok_is_tuple_of T) (hr.mono (by decide)) (by rfl) T.g_is_tuple_of T.F_is_tuple_of.kp T.b_is_tuple_of (takes_of rfl rfl rfl rfl) (ma_cons (me_esc (me_name (pv 2))) (ma_cons (me_esc me_int) ma_nil))))) (mss_one (ms_ret me_bl)) mss_nil)
  (mss_cons (ms_unp (me_name (pv 2)) (mg_tupK (K := K) rfl (by rfl) (mgs_cons (mg_name (pg_name (i := 3) sc__is_played.nd rfl (by first | exact .inl rfl | exact .inr rfl))) (mgs_cons (mg_name (pg_name (i := 4) sc__is_played.nd rfl (by first | exact .inl rfl | exact .inr rfl))) (mgs_cons (mg_name (pg_name (i := 5) sc__is_played.nd rfl (by first | exact .inl rfl | exact .inr rfl))) mgs_nil))) (by rfl) (by rfl) (blS (blS (blS bl0)))))
  (mss_one (ms_ret (me_and (me_fnK (K := K) rfl (ok_is_match T) (hr.mono (by decide)) (by rfl) T.g_is_match T.F_is_match.kp T.b_is_match (takes_of rfl rfl rfl rfl) (ma_cons (me_esc (me_name (pv 1))) (ma_cons (me_esc (me_name (pv 3))) (ma_cons (me_esc (me_name (pv 4))) ma_nil)))) (me_one (me_fnK (K := K) rfl (ok_is_outcome T) (hr.mono (by decide)) (by rfl) T.g_is_outcome T.F_is_outcome.kp T.b_is_outcome (takes_of rfl rfl rfl rfl) (ma_cons (me_esc (me_name (pv 0))) (ma_cons (me_esc (me_name (pv 3))) (ma_cons (me_esc (me_name (pv 4))) (ma_cons (me_esc (me_name (pv 5))) ma_nil)))))))))))⟩
theorem ok__are_played {P : Program} {w : World} {K : PySem.W.Frag} {mg : Str → Option Value} {base : Heap} {Y : Sys} (T : Txt K w mg) : FnOk P w K mg base (L2.CX P w) 5 T.a__are_played T.d__are_played ["kind", "n", "played"] (spM Y K 3 Pg.m__are_played) := by
  rw [Pg.q__are_played]
  exact fn_okM T.F__are_played sc__are_played fun cdv A outer s H E hr => ⟨_,
  (mss_cons (ms_set (i := 3) sc__are_played.nd rfl (by first | exact .inl rfl | exact .inr rfl) (me_tup (ma_cons (me_esc (me_un un_neg s_neg me_int)) (ma_cons (me_esc (me_un un_neg s_neg me_int)) ma_nil))))
  (mss_cons (ms_for (passes_of rfl) (by rfl) (mi_listK (K := K) rfl (me_name (pv 2))) (mg_name (pg_name (i := 4) sc__are_played.nd rfl (by first | exact .inl rfl | exact .inr rfl))) (mss_cons (ms_if (mt_not (mt_val (me_fnK (K := K) rfl (ok__is_played T) (hr.mono (by decide)) (by rfl) T.g__is_played T.F__is_played.kp T.b__is_played (takes_of rfl rfl rfl rfl) (ma_cons (me_esc (me_name (pv 0))) (ma_cons (me_esc (me_name (pv 1))) (ma_cons (me_esc (me_name (pv 4))) ma_nil)))))) (mss_one (ms_ret me_bl)) mss_nil)
  (mss_cons (ms_unp (me_name (pv 4)) (mg_tupK (K := K) rfl (by rfl) (mgs_cons (mg_name (pg_name (i := 5) sc__are_played.nd rfl (by first | exact .inl rfl | exact .inr rfl))) (mgs_cons (mg_name (pg_name (i := 6) sc__are_played.nd rfl (by first | exact .inl rfl | exact .inr rfl))) (mgs_cons (mg_name (pg_name (i := 7) sc__are_played.nd rfl (by first | exact .inl rfl | exact .inr rfl))) mgs_nil))) (by rfl) (by rfl) (blS (blS (blS bl0)))))
  (mss_cons (ms_if (mt_cmp (r := rLe2 K) (o_le hr.units0) s_le (me_tup (ma_cons (me_esc (me_name (pv 5))) (ma_cons (me_esc (me_name (pv 6))) ma_nil))) (me_name (pv 3)) (nomark _)) (mss_one (ms_ret me_bl)) mss_nil)
  (mss_one (ms_set (i := 3) sc__are_played.nd rfl (by first | exact .inl rfl | exact .inr rfl) (me_tup (ma_cons (me_esc (me_name (pv 5))) (ma_cons (me_esc (me_name (pv 6))) ma_nil)))))))))
  (mss_one (ms_ret me_bl))))⟩
theorem ok_is_league {P : Program} {w : World} {K : PySem.W.Frag} {mg : Str → Option Value} {base : Heap} {Y : Sys} (T : Txt K w mg) : FnOk P w K mg base (L2.CX P w) 6 T.a_is_league T.d_is_league ["thing"] (spM Y K 1 Pg.m_is_league) := by
  rw [Pg.q_is_league]
  exact fn_okM T.F_is_league sc_is_league fun cdv A outer s H E hr => ⟨_,
  (mss_cons (ms_if (mt_not (mt_val (me_fnK (K := K) rfl (ok_is_tuple_of T) (hr.mono (by decide)) (by rfl) T.g_is_tuple_of T.F_is_tuple_of.kp T.b_is_tuple_of (takes_of rfl rfl rfl rfl) (ma_cons (me_esc (me_name (pv 0))) (ma_cons (me_esc me_int) ma_nil))))) (mss_one (ms_ret me_bl)) mss_nil)
  (mss_cons (ms_unp (me_name (pv 0)) (mg_tupK (K := K) rfl (by rfl) (mgs_cons (mg_name (pg_name (i := 1) sc_is_league.nd rfl (by first | exact .inl rfl | exact .inr rfl))) (mgs_cons (mg_name (pg_name (i := 2) sc_is_league.nd rfl (by first | exact .inl rfl | exact .inr rfl))) (mgs_cons (mg_name (pg_name (i := 3) sc_is_league.nd rfl (by first | exact .inl rfl | exact .inr rfl))) mgs_nil))) (by rfl) (by rfl) (blS (blS (blS bl0)))))
  (mss_cons (ms_if (mt_w (mw_or (mt_tyNeK (K := K) rfl (T := "str") (by decide) (by rfl) T.z_type (by rfl) T.z_str (by decide +kernel) (me_name (pv 1))) (mw_or1 (mt_kNotIn T.t_WORTHS (pe_glob (by rfl) T.c_WORTHS rfl) (me_name (pv 1)))))) (mss_one (ms_ret me_bl)) mss_nil)
  (mss_cons (ms_if (mt_w (mw_or (mt_not (mt_val (me_fnK (K := K) rfl (ok_is_whole T) (hr.mono (by decide)) (by rfl) T.g_is_whole T.F_is_whole.kp T.b_is_whole (takes_of rfl rfl rfl rfl) (ma_cons (me_esc (me_name (pv 2))) ma_nil)))) (mw_or1 (mt_not (mt_chain (r := rLe2 K) (r' := rLe2 K) (o_le hr.units0) s_le (o_le hr.units0) s_le (me_const (v := .int 2) (pe_glob (by rfl) T.c_FEWEST_PLAYERS ⟨_, rfl⟩) fun _ => .int _) (me_name (pv 2)) (me_const (v := .int 6) (pe_glob (by rfl) T.c_MOST_PLAYERS ⟨_, rfl⟩) fun _ => .int _)))))) (mss_one (ms_ret me_bl)) mss_nil)
  (mss_one (ms_ret (me_and (me_tyEqK (K := K) rfl (T := "list") (by decide) (by rfl) T.z_type (by rfl) T.z_list (by decide +kernel) (me_name (pv 3))) (me_one (me_fnK (K := K) rfl (ok__are_played T) (hr.mono (by decide)) (by rfl) T.g__are_played T.F__are_played.kp T.b__are_played (takes_of rfl rfl rfl rfl) (ma_cons (me_esc (me_name (pv 1))) (ma_cons (me_esc (me_name (pv 2))) (ma_cons (me_esc (me_name (pv 3))) ma_nil))))))))))))⟩
theorem ok_check_league {P : Program} {w : World} {K : PySem.W.Frag} {mg : Str → Option Value} {base : Heap} {Y : Sys} (T : Txt K w mg) : FnOk P w K mg base (L2.CX P w) 7 T.a_check_league T.d_check_league ["league"] (spM Y K 1 Pg.m_check_league) := by
  rw [Pg.q_check_league]
  exact fn_okM T.F_check_league sc_check_league fun cdv A outer s H E hr => ⟨_,
  (mss_one (ms_if (mt_not (mt_val (me_fnK (K := K) rfl (ok_is_league T) (hr.mono (by decide)) (by rfl) T.g_is_league T.F_is_league.kp T.b_is_league (takes_of rfl rfl rfl rfl) (ma_cons (me_esc (me_name (pv 0))) ma_nil)))) (mss_one (ms_raiseN rfl (takes_of rfl rfl rfl rfl) T.E_NoLeague T.eg_NoLeague (by rfl))) mss_nil))⟩
theorem ok_check_points {P : Program} {w : World} {K : PySem.W.Frag} {mg : Str → Option Value} {base : Heap} {Y : Sys} (T : Txt K w mg) : FnOk P w K mg base (L2.CX P w) 8 T.a_check_points T.d_check_points ["league", "points"] (spM Y K 2 Pg.m_check_points) := by
  rw [Pg.q_check_points]
  exact fn_okM T.F_check_points sc_check_points fun cdv A outer s H E hr => ⟨_,
  (mss_cons (ms_expr (me_fnK (K := K) rfl (ok_check_league T) (hr.mono (by decide)) (by rfl) T.g_check_league T.F_check_league.kp T.b_check_league (takes_of rfl rfl rfl rfl) (ma_cons (me_esc (me_name (pv 0))) ma_nil)))
  (mss_cons (ms_set (i := 2) sc_check_points.nd rfl (by first | exact .inl rfl | exact .inr rfl) (me_ix (r := rIx K) ix_seq s_ix (me_name (pv 0)) me_int (fun _ _ => rfl)))
  (mss_cons (ms_if (mt_w (mw_or (mt_tyNeK (K := K) rfl (T := "list") (by decide) (by rfl) T.z_type (by rfl) T.z_list (by decide +kernel) (me_name (pv 1))) (mw_or1 (mt_cmp (r := rNeD K) (op_neD hr.units) s_ne (me_callB (r := rLenL K) (CallR.or call_len_seq call_len_str) s_len (by rfl) T.z_len (by decide +kernel) (ma_cons (me_name (pv 1)) ma_nil)) (me_name (pv 2)) (nomark _))))) (mss_one (ms_raiseN rfl (takes_of rfl rfl rfl rfl) T.E_NoPoints T.eg_NoPoints (by rfl))) mss_nil)
  (mss_one (ms_for (passes_of rfl) (by rfl) (mi_listK (K := K) rfl (me_name (pv 1))) (mg_name (pg_name (i := 3) sc_check_points.nd rfl (by first | exact .inl rfl | exact .inr rfl))) (mss_one (ms_if (mt_not (mt_val (me_fnK (K := K) rfl (ok_is_whole T) (hr.mono (by decide)) (by rfl) T.g_is_whole T.F_is_whole.kp T.b_is_whole (takes_of rfl rfl rfl rfl) (ma_cons (me_esc (me_name (pv 3))) ma_nil)))) (mss_one (ms_raiseN rfl (takes_of rfl rfl rfl rfl) T.E_NoPoints T.eg_NoPoints (by rfl))) mss_nil)))))))⟩
theorem ok_worth_of {P : Program} {w : World} {K : PySem.W.Frag} {mg : Str → Option Value} {base : Heap} {Y : Sys} (T : Txt K w mg) : FnOk P w K mg base (L2.CX P w) 1 T.a_worth_of T.d_worth_of ["league"] (spM Y K 1 Pg.m_worth_of) := by
  rw [Pg.q_worth_of]
  exact fn_okM T.F_worth_of sc_worth_of fun cdv A outer s H E hr => ⟨_,
  (mss_one (ms_ret (me_kGetK (K := K) (w := w) rfl rfl T.t_WORTHS (pe_glob (by rfl) T.c_WORTHS rfl) (me_ix (r := rIx K) ix_seq s_ix (me_name (pv 0)) me_int (fun _ _ => rfl)) (fun _ _ => rfl))))⟩
theorem ok_outcomes_in_order {P : Program} {w : World} {K : PySem.W.Frag} {mg : Str → Option Value} {base : Heap} {Y : Sys} (T : Txt K w mg) : FnOk P w K mg base (L2.CX P w) 3 T.a_outcomes_in_order T.d_outcomes_in_order ["kind", "i", "j"] (spM Y K 3 Pg.m_outcomes_in_order) := by
  rw [Pg.q_outcomes_in_order]
  exact fn_okM T.F_outcomes_in_order sc_outcomes_in_order fun cdv A outer s H E hr => ⟨_,
  (mss_one (ms_ret (me_lcif (own := [("w", 3)]) (by rfl) sc_outcomes_in_order.nd (mi_tupK (K := K) rfl (me_tup (ma_cons (me_esc (me_name (pv 1))) (ma_cons (me_esc me_non) (ma_cons (me_esc (me_name (pv 2))) ma_nil))))) (blkOk_by (own := [("w", 3)]) (N := N_outcomes_in_order) (sc := defScope s_outcomes_in_order) (by decide +kernel)) (fun _ _ _ _ _ => by exact (mg_name (pg_name (i := 3) sc_outcomes_in_order.nd rfl (by first | exact .inl rfl | exact .inr rfl)))) (fun _ _ _ _ _ => by exact (mt_val (me_fnK (K := K) rfl (ok_is_outcome T) (hr.mono (by decide)) (by rfl) T.g_is_outcome T.F_is_outcome.kp T.b_is_outcome takes0 (ma_cons (me_esc (me_name (pv 0))) (ma_cons (me_esc (me_name (pv 1))) (ma_cons (me_esc (me_name (pv 2))) (ma_cons (me_esc (me_name (pv 3))) ma_nil))))))) (fun _ _ _ _ _ => by exact (me_esc (me_name (pv 3)))) (by decide))))⟩
theorem ok_shares_of {P : Program} {w : World} {K : PySem.W.Frag} {mg : Str → Option Value} {base : Heap} {Y : Sys} (T : Txt K w mg) : FnOk P w K mg base (L2.CX P w) 1 T.a_shares_of T.d_shares_of ["kind", "i", "w"] (spM Y K 3 Pg.m_shares_of) := by
  rw [Pg.q_shares_of]
  exact fn_okM T.F_shares_of sc_shares_of fun cdv A outer s H E hr => ⟨_,
  (mss_cons (ms_if (mt_cmp op_isN s_isN (me_name (pv 2)) me_non (nomark _)) (mss_one (ms_ret (me_tup (ma_cons (me_esc me_int) (ma_cons (me_esc me_int) ma_nil))))) mss_nil)
  (mss_cons (ms_if (mt_cmp (r := rEqD K) (op_eqD hr.units) s_eq (me_name (pv 2)) (me_name (pv 1)) (nomark _)) (mss_one (ms_ret (me_tup (ma_cons (me_esc (me_kGetK (K := K) (w := w) rfl rfl T.t_WORTHS (pe_glob (by rfl) T.c_WORTHS rfl) (me_name (pv 0)) (fun _ _ => rfl))) (ma_cons (me_esc me_int) ma_nil))))) mss_nil)
  (mss_one (ms_ret (me_tup (ma_cons (me_esc me_int) (ma_cons (me_esc (me_kGetK (K := K) (w := w) rfl rfl T.t_WORTHS (pe_glob (by rfl) T.c_WORTHS rfl) (me_name (pv 0)) (fun _ _ => rfl))) ma_nil)))))))⟩
theorem ok_points_behind {P : Program} {w : World} {K : PySem.W.Frag} {mg : Str → Option Value} {base : Heap} {Y : Sys} (T : Txt K w mg) : FnOk P w K mg base (L2.CX P w) 1 T.a_points_behind T.d_points_behind ["points", "i", "j", "shares"] (spM Y K 4 Pg.m_points_behind) := by
  rw [Pg.q_points_behind]
  exact fn_okM T.F_points_behind sc_points_behind fun cdv A outer s H E hr => ⟨_,
  (mss_cons (ms_unp (me_name (pv 3)) (mg_tupK (K := K) rfl (by rfl) (mgs_cons (mg_name (pg_name (i := 4) sc_points_behind.nd rfl (by first | exact .inl rfl | exact .inr rfl))) (mgs_cons (mg_name (pg_name (i := 5) sc_points_behind.nd rfl (by first | exact .inl rfl | exact .inr rfl))) mgs_nil)) (by rfl) (by rfl) (blS (blS bl0))))
  (mss_cons (ms_set (i := 6) sc_points_behind.nd rfl (by first | exact .inl rfl | exact .inr rfl) (me_callTy (r := rListO K) call_list_of s_list (by rfl) T.z_list (by decide +kernel) (ma_cons (me_name (pv 0)) ma_nil)))
  (mss_cons (ms_upd ip_add (pv 6) (me_name (pv 1)) (me_name (pv 4)))
  (mss_cons (ms_upd ip_add (pv 6) (me_name (pv 2)) (me_name (pv 5)))
  (mss_one (ms_ret (me_callTy (r := rTupO K) call_tuple_of s_tup (by rfl) T.z_tuple (by decide +kernel) (ma_cons (me_name (pv 6)) ma_nil))))))))⟩
theorem ok_matches_left {P : Program} {w : World} {K : PySem.W.Frag} {mg : Str → Option Value} {base : Heap} {Y : Sys} (T : Txt K w mg) : FnOk P w K mg base (L2.CX P w) 8 T.a_matches_left T.d_matches_left ["league"] (spM Y K 1 Pg.m_matches_left) := by
  rw [Pg.q_matches_left]
  exact fn_okM T.F_matches_left sc_matches_left fun cdv A outer s H E hr => ⟨_,
  (mss_cons (ms_expr (me_fnK (K := K) rfl (ok_check_league T) (hr.mono (by decide)) (by rfl) T.g_check_league T.F_check_league.kp T.b_check_league (takes_of rfl rfl rfl rfl) (ma_cons (me_esc (me_name (pv 0))) ma_nil)))
  (mss_cons (ms_unp (me_name (pv 0)) (mg_tupK (K := K) rfl (by rfl) (mgs_cons (mg_name (pg_name (i := 1) sc_matches_left.nd rfl (by first | exact .inl rfl | exact .inr rfl))) (mgs_cons (mg_name (pg_name (i := 2) sc_matches_left.nd rfl (by first | exact .inl rfl | exact .inr rfl))) (mgs_cons (mg_name (pg_name (i := 3) sc_matches_left.nd rfl (by first | exact .inl rfl | exact .inr rfl))) mgs_nil))) (by rfl) (by rfl) (blS (blS (blS bl0)))))
  (mss_cons (ms_set (i := 4) sc_matches_left.nd rfl (by first | exact .inl rfl | exact .inr rfl) (me_lc (own := [("i", 5), ("j", 6), ("_", 1)]) (by rfl) sc_matches_left.nd (mi_listK (K := K) rfl (me_name (pv 3))) (blkOk_by (own := [("i", 5), ("j", 6), ("_", 1)]) (N := N_matches_left) (sc := defScope s_matches_left) (by decide +kernel)) (fun _ _ _ _ _ => by exact (mg_tupK (K := K) rfl (by rfl) (mgs_cons (mg_name (pg_name (i := 5) sc_matches_left.nd rfl (by first | exact .inl rfl | exact .inr rfl))) (mgs_cons (mg_name (pg_name (i := 6) sc_matches_left.nd rfl (by first | exact .inl rfl | exact .inr rfl))) (mgs_cons (mg_name (pg_name (i := 1) sc_matches_left.nd rfl (by first | exact .inl rfl | exact .inr rfl))) mgs_nil))) (by rfl) (by rfl) (blS (blS (blS bl0))))) (fun _ _ _ _ _ => by exact (me_esc (me_tup (ma_cons (me_esc (me_name (pv 5))) (ma_cons (me_esc (me_name (pv 6))) ma_nil))))) (by decide)))
  (mss_one (ms_ret (me_lcif (own := [("match", 7)]) (by rfl) sc_matches_left.nd (mi_comb (by rfl) T.i_combinations (by rfl) (by rfl) T.z_range (me_name (pv 2)) me_int) (blkOk_by (own := [("match", 7)]) (N := N_matches_left) (sc := defScope s_matches_left) (by decide +kernel)) (fun _ _ _ _ _ => by exact (mg_name (pg_name (i := 7) sc_matches_left.nd rfl (by first | exact .inl rfl | exact .inr rfl)))) (fun _ _ _ _ _ => by exact (mt_cmp (r := rNotIn2 K) (o_notIn (hu65 hr)) s_notIn2 (me_name (pv 7)) (me_name (pv 4)) (by rfl))) (fun _ _ _ _ _ => by exact (me_esc (me_name (pv 7)))) (by decide)))))))⟩
theorem ok_points_had {P : Program} {w : World} {K : PySem.W.Frag} {mg : Str → Option Value} {base : Heap} {Y : Sys} (T : Txt K w mg) : FnOk P w K mg base (L2.CX P w) 8 T.a_points_had T.d_points_had ["league"] (spM Y K 1 Pg.m_points_had) := by
  rw [Pg.q_points_had]
  exact fn_okM T.F_points_had sc_points_had fun cdv A outer s H E hr => ⟨_,
  (mss_cons (ms_expr (me_fnK (K := K) rfl (ok_check_league T) (hr.mono (by decide)) (by rfl) T.g_check_league T.F_check_league.kp T.b_check_league (takes_of rfl rfl rfl rfl) (ma_cons (me_esc (me_name (pv 0))) ma_nil)))
  (mss_cons (ms_unp (me_name (pv 0)) (mg_tupK (K := K) rfl (by rfl) (mgs_cons (mg_name (pg_name (i := 1) sc_points_had.nd rfl (by first | exact .inl rfl | exact .inr rfl))) (mgs_cons (mg_name (pg_name (i := 2) sc_points_had.nd rfl (by first | exact .inl rfl | exact .inr rfl))) (mgs_cons (mg_name (pg_name (i := 3) sc_points_had.nd rfl (by first | exact .inl rfl | exact .inr rfl))) mgs_nil))) (by rfl) (by rfl) (blS (blS (blS bl0)))))
  (mss_cons (ms_set (i := 4) sc_points_had.nd rfl (by first | exact .inl rfl | exact .inr rfl) (me_bin o_mul s_mul (me_tup (ma_cons (me_esc me_int) ma_nil)) (me_name (pv 2))))
  (mss_cons (ms_for (passes_of rfl) (by rfl) (mi_listK (K := K) rfl (me_name (pv 3))) (mg_tupK (K := K) rfl (by rfl) (mgs_cons (mg_name (pg_name (i := 5) sc_points_had.nd rfl (by first | exact .inl rfl | exact .inr rfl))) (mgs_cons (mg_name (pg_name (i := 6) sc_points_had.nd rfl (by first | exact .inl rfl | exact .inr rfl))) (mgs_cons (mg_name (pg_name (i := 7) sc_points_had.nd rfl (by first | exact .inl rfl | exact .inr rfl))) mgs_nil))) (by rfl) (by rfl) (blS (blS (blS bl0)))) (mss_one (ms_set (i := 4) sc_points_had.nd rfl (by first | exact .inl rfl | exact .inr rfl) (me_fnK (K := K) rfl (ok_points_behind T) (hr.mono (by decide)) (by rfl) T.g_points_behind T.F_points_behind.kp T.b_points_behind (takes_of rfl rfl rfl rfl) (ma_cons (me_esc (me_name (pv 4))) (ma_cons (me_esc (me_name (pv 5))) (ma_cons (me_esc (me_name (pv 6))) (ma_cons (me_esc (me_fnK (K := K) rfl (ok_shares_of T) (hr.mono (by decide)) (by rfl) T.g_shares_of T.F_shares_of.kp T.b_shares_of (takes_of rfl rfl rfl rfl) (ma_cons (me_esc (me_name (pv 1))) (ma_cons (me_esc (me_name (pv 5))) (ma_cons (me_esc (me_name (pv 7))) ma_nil))))) ma_nil))))))))
  (mss_one (ms_ret (me_callTy (r := rListO K) call_list_of s_list (by rfl) T.z_list (by decide +kernel) (ma_cons (me_name (pv 4)) ma_nil))))))))⟩
theorem ok__most_from {P : Program} {w : World} {K : PySem.W.Frag} {mg : Str → Option Value} {base : Heap} {Y : Sys} (T : Txt K w mg) : FnOk P w K mg base (L2.CX P w) 2 T.a__most_from T.d__most_from ["league", "left"] (spM Y K 2 Pg.m__most_from) := by
  rw [Pg.q__most_from]
  exact fn_okM T.F__most_from sc__most_from fun cdv A outer s H E hr => ⟨_,
  (mss_cons (ms_set (i := 2) sc__most_from.nd rfl (by first | exact .inl rfl | exact .inr rfl) (me_fnK (K := K) rfl (ok_worth_of T) (hr.mono (by decide)) (by rfl) T.g_worth_of T.F_worth_of.kp T.b_worth_of (takes_of rfl rfl rfl rfl) (ma_cons (me_esc (me_name (pv 0))) ma_nil)))
  (mss_cons (ms_set (i := 3) sc__most_from.nd rfl (by first | exact .inl rfl | exact .inr rfl) (me_bin o_mul s_mul (me_lst (ma_cons (me_esc me_int) ma_nil)) (me_ix (r := rIx K) ix_seq s_ix (me_name (pv 0)) me_int (fun _ _ => rfl))))
  (mss_cons (ms_set (i := 4) sc__most_from.nd rfl (by first | exact .inl rfl | exact .inr rfl) (me_lst (ma_cons (me_esc (me_name (pv 3))) ma_nil)))
  (mss_cons (ms_for (passes_of rfl) (by rfl) (mi_revL (K := K) rfl (by rfl) T.z_reversed (ma_cons (me_esc (me_name (pv 1))) ma_nil)) (mg_name (pg_name (i := 5) sc__most_from.nd rfl (by first | exact .inl rfl | exact .inr rfl))) (mss_cons (ms_set (i := 3) sc__most_from.nd rfl (by first | exact .inl rfl | exact .inr rfl) (me_lc (own := [("player", 6)]) (by rfl) sc__most_from.nd (mi_range1 (by rfl) T.z_range (ma_cons (me_ix (r := rIx K) ix_seq s_ix (me_name (pv 0)) me_int (fun _ _ => rfl)) ma_nil)) (blkOk_by (own := [("player", 6)]) (N := N__most_from) (sc := defScope s__most_from) (by decide +kernel)) (fun _ _ _ _ _ => by exact (mg_name (pg_name (i := 6) sc__most_from.nd rfl (by first | exact .inl rfl | exact .inr rfl)))) (fun _ _ _ _ _ => by exact (me_esc (me_if (mt_cmp (r := rIn2 K) (o_in (hu65 hr)) s_in2 (me_name (pv 6)) (me_name (pv 5)) (by rfl)) (me_bin o_add s_add (me_ix (r := rIx K) ix_seq s_ix (me_name (pv 3)) (me_name (pv 6)) (fun _ _ => rfl)) (me_name (pv 2))) (me_ix (r := rIx K) ix_seq s_ix (me_name (pv 3)) (me_name (pv 6)) (fun _ _ => rfl))))) (by decide)))
  (mss_one (ms_expr (me_app (pv 4) (me_name (pv 3)))))))
  (mss_one (ms_ret (me_rev (K := K) rfl (me_name (pv 4)))))))))⟩
theorem ok_Ways__in_reach {P : Program} {w : World} {K : PySem.W.Frag} {mg : Str → Option Value} {base : Heap} {sa : Addr} {ns : List Int} {tb : List (Addr × Str)} (T : Txt K w mg) : FnOk P w K mg base (L2.CX P w) 1 T.a_Ways__in_reach T.d_Ways__in_reach ["self", "at", "had"] (spM (ClY K sa ns tb) K 3 Pg.m_Ways__in_reach) := by
  rw [Pg.q_Ways__in_reach]
  exact fn_okM T.F_Ways__in_reach sc_Ways__in_reach fun cdv A outer s H E hr => ⟨_,
  (mss_one (ms_ret (me_callB (r := rAll K) (cr_all (by rfl)) s_all (by rfl) T.z_all (by decide +kernel) (ma_cons (me_lc (own := [("low", 3), ("end", 4), ("most", 5)]) (by rfl) sc_Ways__in_reach.nd (mi_zip3K (K := K) rfl (by rfl) T.z_zip (ma_cons (me_esc (me_name (pv 2))) (ma_cons (me_esc (me_fldK (K := K) rfl T.cn_Ways T.cl_Ways T.na_Ways_goal (me_name (pv 0)))) (ma_cons (me_esc (me_ix (r := rIx K) ix_seq s_ix (me_fldK (K := K) rfl T.cn_Ways T.cl_Ways T.na_Ways_most (me_name (pv 0))) (me_name (pv 1)) (fun _ _ => rfl))) ma_nil)))) (blkOk_by (own := [("low", 3), ("end", 4), ("most", 5)]) (N := N_Ways__in_reach) (sc := defScope s_Ways__in_reach) (by decide +kernel)) (fun _ _ _ _ _ => by exact (mg_tupK (K := K) rfl (by rfl) (mgs_cons (mg_name (pg_name (i := 3) sc_Ways__in_reach.nd rfl (by first | exact .inl rfl | exact .inr rfl))) (mgs_cons (mg_name (pg_name (i := 4) sc_Ways__in_reach.nd rfl (by first | exact .inl rfl | exact .inr rfl))) (mgs_cons (mg_name (pg_name (i := 5) sc_Ways__in_reach.nd rfl (by first | exact .inl rfl | exact .inr rfl))) mgs_nil))) (by rfl) (by rfl) (blS (blS (blS bl0))))) (fun _ _ _ _ _ => by exact (me_esc (me_chain (r := rLe2 K) (r' := rLe2 K) (o_le hr.units0) s_le (o_le hr.units0) s_le (me_name (pv 3)) (me_name (pv 4)) (me_bin o_add s_add (me_name (pv 3)) (me_name (pv 5)))))) (by decide)) ma_nil))))⟩
theorem ok_Ways_steps {P : Program} {w : World} {K : PySem.W.Frag} {mg : Str → Option Value} {base : Heap} {sa : Addr} {ns : List Int} {tb : List (Addr × Str)} (T : Txt K w mg) : FnOk P w K mg base (L2.CX P w) 4 T.a_Ways_steps T.d_Ways_steps ["self", "at", "had"] (spM (ClY K sa ns tb) K 3 Pg.m_Ways_steps) := by
  rw [Pg.q_Ways_steps]
  exact fn_okM T.F_Ways_steps sc_Ways_steps fun cdv A outer s H E hr => ⟨_,
  (mss_cons (ms_unp (me_ix (r := rIx K) ix_seq s_ix (me_fldK (K := K) rfl T.cn_Ways T.cl_Ways T.na_Ways_left (me_name (pv 0))) (me_name (pv 1)) (fun _ _ => rfl)) (mg_tupK (K := K) rfl (by rfl) (mgs_cons (mg_name (pg_name (i := 3) sc_Ways_steps.nd rfl (by first | exact .inl rfl | exact .inr rfl))) (mgs_cons (mg_name (pg_name (i := 4) sc_Ways_steps.nd rfl (by first | exact .inl rfl | exact .inr rfl))) mgs_nil)) (by rfl) (by rfl) (blS (blS bl0))))
  (mss_cons (ms_set (i := 5) sc_Ways_steps.nd rfl (by first | exact .inl rfl | exact .inr rfl) (me_fnK (K := K) rfl (ok_outcomes_in_order T) (hr.mono (by decide)) (by rfl) T.g_outcomes_in_order T.F_outcomes_in_order.kp T.b_outcomes_in_order (takes_of rfl rfl rfl rfl) (ma_cons (me_esc (me_fldK (K := K) rfl T.cn_Ways T.cl_Ways T.na_Ways_kind (me_name (pv 0)))) (ma_cons (me_esc (me_name (pv 3))) (ma_cons (me_esc (me_name (pv 4))) ma_nil)))))
  (mss_one (ms_ret (me_lc (own := [("w", 6)]) (by rfl) sc_Ways_steps.nd (mi_listK (K := K) rfl (me_name (pv 5))) (blkOk_by (own := [("w", 6)]) (N := N_Ways_steps) (sc := defScope s_Ways_steps) (by decide +kernel)) (fun _ _ _ _ _ => by exact (mg_name (pg_name (i := 6) sc_Ways_steps.nd rfl (by first | exact .inl rfl | exact .inr rfl)))) (fun _ _ _ _ _ => by exact (me_esc (me_tup (ma_cons (me_esc (me_name (pv 6))) (ma_cons (me_esc (me_fnK (K := K) rfl (ok_points_behind T) (hr.mono (by decide)) (by rfl) T.g_points_behind T.F_points_behind.kp T.b_points_behind takes0 (ma_cons (me_esc (me_name (pv 2))) (ma_cons (me_esc (me_name (pv 3))) (ma_cons (me_esc (me_name (pv 4))) (ma_cons (me_esc (me_fnK (K := K) rfl (ok_shares_of T) (hr.mono (by decide)) (by rfl) T.g_shares_of T.F_shares_of.kp T.b_shares_of takes0 (ma_cons (me_esc (me_fldK (K := K) rfl T.cn_Ways T.cl_Ways T.na_Ways_kind (me_name (pv 0)))) (ma_cons (me_esc (me_name (pv 3))) (ma_cons (me_esc (me_name (pv 6))) ma_nil))))) ma_nil)))))) ma_nil))))) (by decide))))))⟩
theorem okr_Ways_many {P : Program} {w : World} {K : PySem.W.Frag} {mg : Str → Option Value} {base : Heap} {sa : Addr} {ns : List Int} {tb : List (Addr × Str)} (T : Txt K w mg) : ∀ n : Nat, FnOk P w K mg base (L2.CX P w) (5 + n) T.a_Ways_many T.d_Ways_many ["self", "at", "had"] (spM (ClY K sa ns tb) K 3 (Pg.r_Ways_many n)) := by
  intro n
  induction n with
  | zero => exact fn_none
  | succ n ih =>
  exact fn_okM T.F_Ways_many sc_Ways_many fun cdv A outer s H E hr => ⟨_,
  (mss_cons (ms_if (mt_not (mt_val (me_methK (K := K) rfl T.cn_Ways T.cl_Ways T.mt_Ways__in_reach (ok_Ways__in_reach T) (hr.mono (by first | omega | (show _ ≤ 5 + n; omega))) T.b_Ways__in_reach (me_name (pv 0)) (ma_cons (me_esc (me_name (pv 1))) (ma_cons (me_esc (me_name (pv 2))) ma_nil))))) (mss_one (ms_ret me_int)) mss_nil)
  (mss_cons (ms_if (mt_cmp (r := rEqD K) (op_eqD hr.units) s_eq (me_name (pv 1)) (me_callB (r := rLenL K) (CallR.or call_len_seq call_len_str) s_len (by rfl) T.z_len (by decide +kernel) (ma_cons (me_fldK (K := K) rfl T.cn_Ways T.cl_Ways T.na_Ways_left (me_name (pv 0))) ma_nil)) (nomark _)) (mss_one (ms_ret me_int)) mss_nil)
  (mss_cons (ms_if (mt_nnotK (K := K) rfl (hu2 hr) (me_fldK (K := K) rfl T.cn_Ways T.cl_Ways T.na_Ways_counted (me_name (pv 0))) (me_tup (ma_cons (me_esc (me_name (pv 1))) (ma_cons (me_esc (me_name (pv 2))) ma_nil)))) (mss_one (ms_nputK (K := K) rfl (hu2 hr) (me_fldK (K := K) rfl T.cn_Ways T.cl_Ways T.na_Ways_counted (me_name (pv 0))) (me_tup (ma_cons (me_esc (me_name (pv 1))) (ma_cons (me_esc (me_name (pv 2))) ma_nil))) (me_callB (r := rSum K) (cr_sum (by rfl)) s_sum (by rfl) T.z_sum (by decide +kernel) (ma_cons (me_lc (own := [("_", 3), ("behind", 4)]) (by rfl) sc_Ways_many.nd (mi_listK (K := K) rfl (me_methK (K := K) rfl T.cn_Ways T.cl_Ways T.mt_Ways_steps (ok_Ways_steps T) (hr.mono (by first | omega | (show _ ≤ 5 + n; omega))) T.b_Ways_steps (me_name (pv 0)) (ma_cons (me_esc (me_name (pv 1))) (ma_cons (me_esc (me_name (pv 2))) ma_nil)))) (blkOk_by (own := [("_", 3), ("behind", 4)]) (N := N_Ways_many) (sc := defScope s_Ways_many) (by decide +kernel)) (fun _ _ _ _ _ => by exact (mg_tupK (K := K) rfl (by rfl) (mgs_cons (mg_name (pg_name (i := 3) sc_Ways_many.nd rfl (by first | exact .inl rfl | exact .inr rfl))) (mgs_cons (mg_name (pg_name (i := 4) sc_Ways_many.nd rfl (by first | exact .inl rfl | exact .inr rfl))) mgs_nil)) (by rfl) (by rfl) (blS (blS bl0)))) (fun _ _ _ _ _ => by exact (me_esc (me_methK (K := K) rfl T.cn_Ways T.cl_Ways T.mt_Ways_many ih (hr.mono (by first | omega | (show _ ≤ 5 + n; omega))) T.b_Ways_many (me_name (pv 0)) (ma_cons (me_esc (me_bin o_add s_add (me_name (pv 1)) me_int)) (ma_cons (me_esc (me_name (pv 4))) ma_nil))))) (by decide)) ma_nil)))) mss_nil)
  (mss_one (ms_ret (me_ngetK (K := K) rfl (hu2 hr) (me_fldK (K := K) rfl T.cn_Ways T.cl_Ways T.na_Ways_counted (me_name (pv 0))) (me_tup (ma_cons (me_esc (me_name (pv 1))) (ma_cons (me_esc (me_name (pv 2))) ma_nil))) (fun _ _ => rfl)))))))⟩
theorem ok_Ways_many {P : Program} {w : World} {K : PySem.W.Frag} {mg : Str → Option Value} {base : Heap} {sa : Addr} {ns : List Int} {tb : List (Addr × Str)} (T : Txt K w mg) : FnOk P w K mg base (L2.CX P w) (22) T.a_Ways_many T.d_Ways_many ["self", "at", "had"] (spM (ClY K sa ns tb) K 3 Pg.m_Ways_many) := by
  rw [Pg.q_Ways_many]
  exact okr_Ways_many T 17
theorem ok_Ways_in_all {P : Program} {w : World} {K : PySem.W.Frag} {mg : Str → Option Value} {base : Heap} {sa : Addr} {ns : List Int} {tb : List (Addr × Str)} (T : Txt K w mg) : FnOk P w K mg base (L2.CX P w) 23 T.a_Ways_in_all T.d_Ways_in_all ["self"] (spM (ClY K sa ns tb) K 1 Pg.m_Ways_in_all) := by
  rw [Pg.q_Ways_in_all]
  exact fn_okM T.F_Ways_in_all sc_Ways_in_all fun cdv A outer s H E hr => ⟨_,
  (mss_one (ms_ret (me_methK (K := K) rfl T.cn_Ways T.cl_Ways T.mt_Ways_many (ok_Ways_many T) (hr.mono (by decide)) T.b_Ways_many (me_name (pv 0)) (ma_cons (me_esc me_int) (ma_cons (me_esc (me_fldK (K := K) rfl T.cn_Ways T.cl_Ways T.na_Ways_had (me_name (pv 0)))) ma_nil)))))⟩
theorem ok_Ways___init__ {P : Program} {w : World} {K : PySem.W.Frag} {mg : Str → Option Value} {base : Heap} {sa : Addr} {ns : List Int} {tb : List (Addr × Str)} (T : Txt K w mg) : FnOk P w K mg base (L2.CX P w) 9 T.a_Ways___init__ T.d_Ways___init__ ["self", "league", "points"] (spM (ClY K sa ns tb) K 3 Pg.m_Ways___init__) := by
  rw [Pg.q_Ways___init__]
  exact fn_okM T.F_Ways___init__ sc_Ways___init__ fun cdv A outer s H E hr => ⟨_,
  (mss_cons (ms_fldK (K := K) rfl T.cn_Ways T.cl_Ways T.na_Ways_kind (me_name (pv 0)) (me_ix (r := rIx K) ix_seq s_ix (me_name (pv 1)) me_int (fun _ _ => rfl)))
  (mss_cons (ms_fldK (K := K) rfl T.cn_Ways T.cl_Ways T.na_Ways_left (me_name (pv 0)) (me_fnK (K := K) rfl (ok_matches_left T) (hr.mono (by decide)) (by rfl) T.g_matches_left T.F_matches_left.kp T.b_matches_left (takes_of rfl rfl rfl rfl) (ma_cons (me_esc (me_name (pv 1))) ma_nil)))
  (mss_cons (ms_fldK (K := K) rfl T.cn_Ways T.cl_Ways T.na_Ways_had (me_name (pv 0)) (me_callTy (r := rTupO K) call_tuple_of s_tup (by rfl) T.z_tuple (by decide +kernel) (ma_cons (me_fnK (K := K) rfl (ok_points_had T) (hr.mono (by decide)) (by rfl) T.g_points_had T.F_points_had.kp T.b_points_had (takes_of rfl rfl rfl rfl) (ma_cons (me_esc (me_name (pv 1))) ma_nil)) ma_nil)))
  (mss_cons (ms_fldK (K := K) rfl T.cn_Ways T.cl_Ways T.na_Ways_goal (me_name (pv 0)) (me_callTy (r := rTupO K) call_tuple_of s_tup (by rfl) T.z_tuple (by decide +kernel) (ma_cons (me_name (pv 2)) ma_nil)))
  (mss_cons (ms_fldK (K := K) rfl T.cn_Ways T.cl_Ways T.na_Ways_most (me_name (pv 0)) (me_fnK (K := K) rfl (ok__most_from T) (hr.mono (by decide)) (by rfl) T.g__most_from T.F__most_from.kp T.b__most_from (takes_of rfl rfl rfl rfl) (ma_cons (me_esc (me_name (pv 1))) (ma_cons (me_esc (me_fldK (K := K) rfl T.cn_Ways T.cl_Ways T.na_Ways_left (me_name (pv 0)))) ma_nil))))
  (mss_one (ms_fldK (K := K) rfl T.cn_Ways T.cl_Ways T.na_Ways_counted (me_name (pv 0)) (me_nnewK (K := K) rfl))))))))⟩
theorem ok_count_ends {P : Program} {w : World} {K : PySem.W.Frag} {mg : Str → Option Value} {base : Heap} {sa : Addr} {ns : List Int} {tb : List (Addr × Str)} (T : Txt K w mg) : FnOk P w K mg base (L2.CX P w) 24 T.a_count_ends T.d_count_ends ["league", "points"] (spM (ClY K sa ns tb) K 2 Pg.m_count_ends) := by
  rw [Pg.q_count_ends]
  exact fn_okM T.F_count_ends sc_count_ends fun cdv A outer s H E hr => ⟨_,
  (mss_cons (ms_expr (me_fnK (K := K) rfl (ok_check_points T) (hr.mono (by decide)) (by rfl) T.g_check_points T.F_check_points.kp T.b_check_points (takes_of rfl rfl rfl rfl) (ma_cons (me_esc (me_name (pv 0))) (ma_cons (me_esc (me_name (pv 1))) ma_nil))))
  (mss_one (ms_ret (me_meth0K (K := K) rfl T.cn_Ways T.cl_Ways T.mt_Ways_in_all (ok_Ways_in_all T) (hr.mono (by decide)) T.b_Ways_in_all (me_mkK (K := K) rfl T.cn_Ways T.mk_Ways (ok_Ways___init__ T) (hr.mono (by decide)) (by rfl) T.mgC_Ways T.b_Ways___init__ (ma_cons (me_esc (me_name (pv 0))) (ma_cons (me_esc (me_name (pv 1))) ma_nil)))))))⟩
theorem ok__law_draws {P : Program} {w : World} {K : PySem.W.Frag} {mg : Str → Option Value} {base : Heap} {sa : Addr} {ns : List Int} {tb : List (Addr × Str)} (T : Txt K w mg) : FnOk P w K mg base (L2.CX P w) 1 T.a__law_draws T.d__law_draws ["script", "many"] (spM (ClY K sa ns tb) K 2 Pg.m__law_draws) := by
  rw [Pg.q__law_draws]
  exact fn_okM T.F__law_draws sc__law_draws fun cdv A outer s H E hr => ⟨_,
  (mss_cons (ms_set (i := 2) sc__law_draws.nd rfl (by first | exact .inl rfl | exact .inr rfl) (me_lst ma_nil))
  (mss_cons (ms_set (i := 3) sc__law_draws.nd rfl (by first | exact .inl rfl | exact .inr rfl) me_int)
  (mss_cons (ms_for (passes_of rfl) (by rfl) (mi_enum (by rfl) T.z_enumerate (ma_cons (me_esc (me_slSCK (K := K) rfl (pv 0) (me_int (Y := Y0) (W := W0)).pe)) ma_nil)) (mg_tupK (K := K) rfl (by rfl) (mgs_cons (mg_name (pg_name (i := 4) sc__law_draws.nd rfl (by first | exact .inl rfl | exact .inr rfl))) (mgs_cons (mg_name (pg_name (i := 5) sc__law_draws.nd rfl (by first | exact .inl rfl | exact .inr rfl))) mgs_nil)) (by rfl) (by rfl) (blS (blS bl0))) (mss_cons (ms_set (i := 6) sc__law_draws.nd rfl (by first | exact .inl rfl | exact .inr rfl) (me_callB call_abs s_abs (by rfl) T.z_abs (by decide +kernel) (ma_cons (me_name (pv 5)) ma_nil)))
  (mss_cons (ms_set (i := 3) sc__law_draws.nd rfl (by first | exact .inl rfl | exact .inr rfl) (me_bin op_modN s_mod (me_bin o_add s_add (me_bin o_mul s_mul (me_name (pv 3)) me_int) (me_name (pv 6))) me_int))
  (mss_one (ms_if (mt_cmp op_ge s_ge (me_name (pv 6)) (me_bin op_pow s_pow me_int me_int) (nomark _)) (mss_one (ms_while 1000 (passes_of rfl) (mt_w (mw_and (mt_cmp op_gt s_gt (me_name (pv 6)) me_int (nomark _)) (mw_and1 (mt_cmp op_lt s_lt (me_callB (r := rLenL K) (CallR.or call_len_seq call_len_str) s_len (by rfl) T.z_len (by decide +kernel) (ma_cons (me_name (pv 2)) ma_nil)) (me_name (pv 1)) (nomark _))))) (mss_cons (ms_expr (me_app (pv 2) (me_bin op_modN s_mod (me_name (pv 6)) me_int)))
  (mss_one (ms_set (i := 6) sc__law_draws.nd rfl (by first | exact .inl rfl | exact .inr rfl) (me_bin op_fdivN s_div (me_name (pv 6)) me_int)))))) (mss_cons (ms_set (i := 7) sc__law_draws.nd rfl (by first | exact .inl rfl | exact .inr rfl) (me_bin op_modN s_mod (me_bin o_mul s_mul (me_bin o_add s_add (me_bin o_add s_add (me_bin op_modN s_mod (me_name (pv 6)) me_int) (me_name (pv 4))) me_int) me_int) me_int))
  (mss_cons (ms_set (i := 7) sc__law_draws.nd rfl (by first | exact .inl rfl | exact .inr rfl) (me_bin op_modN s_mod (me_bin o_mul s_mul (me_name (pv 7)) (me_name (pv 7))) me_int))
  (mss_cons (ms_expr (me_app (pv 2) (me_bin op_modN s_mod (me_bin op_fdivN s_div (me_name (pv 7)) me_int) me_int)))
  (mss_cons (ms_set (i := 7) sc__law_draws.nd rfl (by first | exact .inl rfl | exact .inr rfl) (me_bin op_modN s_mod (me_bin o_add s_add (me_bin o_add s_add (me_bin o_mul s_mul (me_name (pv 7)) me_int) (me_bin o_mul s_mul me_int (me_name (pv 4)))) me_int) me_int))
  (mss_cons (ms_set (i := 7) sc__law_draws.nd rfl (by first | exact .inl rfl | exact .inr rfl) (me_bin op_modN s_mod (me_bin o_mul s_mul (me_name (pv 7)) (me_name (pv 7))) me_int))
  (mss_one (ms_expr (me_app (pv 2) (me_bin op_modN s_mod (me_bin op_fdivN s_div (me_name (pv 7)) me_int) me_int))))))))))))))
  (mss_cons (ms_for (passes_of rfl) (by rfl) (mi_range1 (by rfl) T.z_range (ma_cons (me_bin op_sub s_sub (me_name (pv 1)) (me_callB (r := rLenL K) (CallR.or call_len_seq call_len_str) s_len (by rfl) T.z_len (by decide +kernel) (ma_cons (me_name (pv 2)) ma_nil))) ma_nil)) (mg_name (pg_name (i := 4) sc__law_draws.nd rfl (by first | exact .inl rfl | exact .inr rfl))) (mss_cons (ms_set (i := 7) sc__law_draws.nd rfl (by first | exact .inl rfl | exact .inr rfl) (me_bin op_modN s_mod (me_bin o_add s_add (me_bin o_add s_add (me_name (pv 3)) (me_bin o_mul s_mul me_int (me_name (pv 4)))) me_int) me_int))
  (mss_cons (ms_set (i := 7) sc__law_draws.nd rfl (by first | exact .inl rfl | exact .inr rfl) (me_bin op_modN s_mod (me_bin o_mul s_mul (me_name (pv 7)) (me_name (pv 7))) me_int))
  (mss_cons (ms_set (i := 7) sc__law_draws.nd rfl (by first | exact .inl rfl | exact .inr rfl) (me_bin op_modN s_mod (me_bin o_add s_add (me_bin o_mul s_mul (me_name (pv 7)) me_int) (me_name (pv 4))) me_int))
  (mss_one (ms_expr (me_app (pv 2) (me_bin op_modN s_mod (me_bin op_fdivN s_div (me_bin op_modN s_mod (me_bin o_mul s_mul (me_name (pv 7)) (me_name (pv 7))) me_int) me_int) me_int))))))))
  (mss_one (ms_ret (me_name (pv 2))))))))⟩
theorem ok__law_take {P : Program} {w : World} {K : PySem.W.Frag} {mg : Str → Option Value} {base : Heap} {sa : Addr} {ns : List Int} {tb : List (Addr × Str)} (T : Txt K w mg) : FnOk P w K mg base (L2.CX P w) 1 T.a__law_take T.d__law_take ["store", "many"] (spM (ClY K sa ns tb) K 2 Pg.m__law_take) := by
  rw [Pg.q__law_take]
  exact fn_okM T.F__law_take sc__law_take fun cdv A outer s H E hr => ⟨_,
  (mss_cons (ms_putCK (K := K) rfl (pv 0) me_int (me_bin o_add s_add (me_ixCK (K := K) rfl (pv 0) me_int (fun _ _ => rfl)) me_int))
  (mss_one (ms_ret (me_bin op_modN s_mod (me_ix (r := rIx K) ix_seq s_ix (me_ixCK (K := K) rfl (pv 0) me_int (fun _ _ => rfl)) (me_bin op_modN s_mod (me_bin op_sub s_sub (me_ixCK (K := K) rfl (pv 0) me_int (fun _ _ => rfl)) me_int) (me_callB (r := rLenL K) (CallR.or call_len_seq call_len_str) s_len (by rfl) T.z_len (by decide +kernel) (ma_cons (me_ixCK (K := K) rfl (pv 0) me_int (fun _ _ => rfl)) ma_nil))) (fun _ _ => rfl)) (me_name (pv 1))))))⟩
theorem ok__law_options {P : Program} {w : World} {K : PySem.W.Frag} {mg : Str → Option Value} {base : Heap} {Y : Sys} (T : Txt K w mg) : FnOk P w K mg base (L2.CX P w) 1 T.a__law_options T.d__law_options ["league"] (spM Y K 1 Pg.m__law_options) := by
  rw [Pg.q__law_options]
  exact fn_okM T.F__law_options sc__law_options fun cdv A outer s H E hr => ⟨_,
  (mss_cons (ms_unp (me_name (pv 0)) (mg_tupK (K := K) rfl (by rfl) (mgs_cons (mg_name (pg_name (i := 1) sc__law_options.nd rfl (by first | exact .inl rfl | exact .inr rfl))) (mgs_cons (mg_name (pg_name (i := 2) sc__law_options.nd rfl (by first | exact .inl rfl | exact .inr rfl))) (mgs_cons (mg_name (pg_name (i := 3) sc__law_options.nd rfl (by first | exact .inl rfl | exact .inr rfl))) mgs_nil))) (by rfl) (by rfl) (blS (blS (blS bl0)))))
  (mss_cons (ms_set (i := 4) sc__law_options.nd rfl (by first | exact .inl rfl | exact .inr rfl) (me_lst ma_nil))
  (mss_cons (ms_for (passes_of rfl) (by rfl) (mi_range1 (by rfl) T.z_range (ma_cons (me_name (pv 2)) ma_nil)) (mg_name (pg_name (i := 5) sc__law_options.nd rfl (by first | exact .inl rfl | exact .inr rfl))) (mss_one (ms_for (passes_of rfl) (by rfl) (mi_range2 (by rfl) T.z_range (ma_cons (me_bin o_add s_add (me_name (pv 5)) me_int) (ma_cons (me_name (pv 2)) ma_nil))) (mg_name (pg_name (i := 6) sc__law_options.nd rfl (by first | exact .inl rfl | exact .inr rfl))) (mss_cons (ms_set (i := 7) sc__law_options.nd rfl (by first | exact .inl rfl | exact .inr rfl) (me_lst (ma_cons (me_esc (me_tup (ma_cons (me_esc (me_name (pv 5))) (ma_cons (me_esc me_int) (ma_cons (me_esc me_int) ma_nil))))) (ma_cons (me_esc (me_tup (ma_cons (me_esc (me_name (pv 6))) (ma_cons (me_esc me_int) (ma_cons (me_esc me_int) ma_nil))))) ma_nil))))
  (mss_cons (ms_if (mt_cmp (r := rEqD K) (op_eqD hr.units) s_eq (me_name (pv 1)) me_str (nomark _)) (mss_one (ms_set (i := 7) sc__law_options.nd rfl (by first | exact .inl rfl | exact .inr rfl) (me_lst (ma_cons (me_esc (me_tup (ma_cons (me_esc (me_name (pv 5))) (ma_cons (me_esc me_int) (ma_cons (me_esc me_int) ma_nil))))) (ma_cons (me_esc (me_tup (ma_cons (me_esc me_non) (ma_cons (me_esc me_int) (ma_cons (me_esc me_int) ma_nil))))) (ma_cons (me_esc (me_tup (ma_cons (me_esc (me_name (pv 6))) (ma_cons (me_esc me_int) (ma_cons (me_esc me_int) ma_nil))))) ma_nil)))))) mss_nil)
  (mss_cons (ms_set (i := 8) sc__law_options.nd rfl (by first | exact .inl rfl | exact .inr rfl) (me_lcif (own := [("one", 9), ("other", 10), ("w", 11)]) (by rfl) sc__law_options.nd (mi_listK (K := K) rfl (me_name (pv 3))) (blkOk_by (own := [("one", 9), ("other", 10), ("w", 11)]) (N := N__law_options) (sc := defScope s__law_options) (by decide +kernel)) (fun _ _ _ _ _ => by exact (mg_tupK (K := K) rfl (by rfl) (mgs_cons (mg_name (pg_name (i := 9) sc__law_options.nd rfl (by first | exact .inl rfl | exact .inr rfl))) (mgs_cons (mg_name (pg_name (i := 10) sc__law_options.nd rfl (by first | exact .inl rfl | exact .inr rfl))) (mgs_cons (mg_name (pg_name (i := 11) sc__law_options.nd rfl (by first | exact .inl rfl | exact .inr rfl))) mgs_nil))) (by rfl) (by rfl) (blS (blS (blS bl0))))) (fun _ _ _ _ _ => by exact (mt_cmp (r := rEqD K) (op_eqD hr.units) s_eq (me_tup (ma_cons (me_esc (me_name (pv 9))) (ma_cons (me_esc (me_name (pv 10))) ma_nil))) (me_tup (ma_cons (me_esc (me_name (pv 5))) (ma_cons (me_esc (me_name (pv 6))) ma_nil))) (nomark _))) (fun _ _ _ _ _ => by exact (me_esc (me_name (pv 11)))) (by decide)))
  (mss_cons (ms_if (mt_cmp (r := rNeD K) (op_neD hr.units) s_ne (me_name (pv 8)) (me_lst ma_nil) (nomark _)) (mss_one (ms_setLcif (i := 7) (own := [("one", 9)]) (by rfl) sc__law_options.nd rfl rfl (sw_true rfl rfl rfl (by decide +kernel)) (mi_listK (K := K) rfl (me_name (pv 7))) (blkOk_by (own := [("one", 9)]) (N := N__law_options) (sc := defScope s__law_options) (by decide +kernel)) (fun _ _ _ _ _ => by exact (mg_name (pg_name (i := 9) sc__law_options.nd rfl (by first | exact .inl rfl | exact .inr rfl)))) (fun _ _ _ _ _ => by exact (mt_cmp (r := rEqD K) (op_eqD hr.units) s_eq (me_ix (r := rIx K) ix_seq s_ix (me_name (pv 9)) me_int (fun _ _ => rfl)) (me_ix (r := rIx K) ix_seq s_ix (me_name (pv 8)) me_int (fun _ _ => rfl)) (nomark _))) (fun _ _ _ _ _ => by exact (me_esc (me_name (pv 9)))) (by decide))) mss_nil)
  (mss_one (ms_expr (me_app (pv 4) (me_tup (ma_cons (me_esc (me_name (pv 5))) (ma_cons (me_esc (me_name (pv 6))) (ma_cons (me_esc (me_name (pv 7))) ma_nil))))))))))))))
  (mss_one (ms_ret (me_name (pv 4)))))))⟩
theorem ok__law_drawn_end {P : Program} {w : World} {K : PySem.W.Frag} {mg : Str → Option Value} {base : Heap} {sa : Addr} {ns : List Int} {tb : List (Addr × Str)} (T : Txt K w mg) : FnOk P w K mg base (L2.CX P w) 2 T.a__law_drawn_end T.d__law_drawn_end ["store", "league"] (spM (ClY K sa ns tb) K 2 Pg.m__law_drawn_end) := by
  rw [Pg.q__law_drawn_end]
  exact fn_okM T.F__law_drawn_end sc__law_drawn_end fun cdv A outer s H E hr => ⟨_,
  (mss_cons (ms_set (i := 2) sc__law_drawn_end.nd rfl (by first | exact .inl rfl | exact .inr rfl) (me_lst ma_nil))
  (mss_cons (ms_for (passes_of rfl) (by rfl) (mi_listK (K := K) rfl (me_fnK (K := K) rfl (ok__law_options T) (hr.mono (by decide)) (by rfl) T.g__law_options T.F__law_options.kp T.b__law_options (takes_of rfl rfl rfl rfl) (ma_cons (me_esc (me_name (pv 1))) ma_nil))) (mg_tupK (K := K) rfl (by rfl) (mgs_cons (mg_name (pg_name (i := 3) sc__law_drawn_end.nd rfl (by first | exact .inl rfl | exact .inr rfl))) (mgs_cons (mg_name (pg_name (i := 4) sc__law_drawn_end.nd rfl (by first | exact .inl rfl | exact .inr rfl))) (mgs_cons (mg_name (pg_name (i := 5) sc__law_drawn_end.nd rfl (by first | exact .inl rfl | exact .inr rfl))) mgs_nil))) (by rfl) (by rfl) (blS (blS (blS bl0)))) (mss_one (ms_expr (me_app (pv 2) (me_tup (ma_cons (me_esc (me_name (pv 3))) (ma_cons (me_esc (me_name (pv 4))) (ma_cons (me_esc (me_ix (r := rIx K) ix_seq s_ix (me_ix (r := rIx K) ix_seq s_ix (me_name (pv 5)) (me_fnK (K := K) rfl (ok__law_take T) (hr.mono (by decide)) (by rfl) T.g__law_take T.F__law_take.kp T.b__law_take (takes_of rfl rfl rfl rfl) (ma_cons (me_esc (me_name (pv 0))) (ma_cons (me_esc (me_callB (r := rLenL K) (CallR.or call_len_seq call_len_str) s_len (by rfl) T.z_len (by decide +kernel) (ma_cons (me_name (pv 5)) ma_nil))) ma_nil))) (fun _ _ => rfl)) me_int (fun _ _ => rfl))) ma_nil))))))))
  (mss_one (ms_ret (me_tup (ma_cons (me_esc (me_ix (r := rIx K) ix_seq s_ix (me_name (pv 1)) me_int (fun _ _ => rfl))) (ma_cons (me_esc (me_ix (r := rIx K) ix_seq s_ix (me_name (pv 1)) me_int (fun _ _ => rfl))) (ma_cons (me_esc (me_name (pv 2))) ma_nil))))))))⟩
theorem ok__law_league {P : Program} {w : World} {K : PySem.W.Frag} {mg : Str → Option Value} {base : Heap} {sa : Addr} {ns : List Int} {tb : List (Addr × Str)} (T : Txt K w mg) : FnOk P w K mg base (L2.CX P w) 3 T.a__law_league T.d__law_league ["store"] (spM (ClY K sa ns tb) K 1 Pg.m__law_league) := by
  rw [Pg.q__law_league]
  exact fn_okM T.F__law_league sc__law_league fun cdv A outer s H E hr => ⟨_,
  (mss_cons (ms_set (i := 1) sc__law_league.nd rfl (by first | exact .inl rfl | exact .inr rfl) (me_fnK (K := K) rfl (ok__law_take T) (hr.mono (by decide)) (by rfl) T.g__law_take T.F__law_take.kp T.b__law_take (takes_of rfl rfl rfl rfl) (ma_cons (me_esc (me_name (pv 0))) (ma_cons (me_esc me_int) ma_nil))))
  (mss_cons (ms_set (i := 2) sc__law_league.nd rfl (by first | exact .inl rfl | exact .inr rfl) (me_ix (r := rIx K) ix_seq s_ix (me_lst (ma_cons (me_esc me_str) (ma_cons (me_esc me_str) ma_nil))) (me_bin op_modN s_mod (me_name (pv 1)) me_int) (fun _ _ => rfl)))
  (mss_cons (ms_set (i := 3) sc__law_league.nd rfl (by first | exact .inl rfl | exact .inr rfl) (me_ix (r := rIx K) ix_seq s_ix (me_lst (ma_cons (me_esc (me_bin o_add s_add me_int (me_bin op_modN s_mod (me_bin op_fdivN s_div (me_name (pv 1)) me_int) me_int))) (ma_cons (me_esc me_int) (ma_cons (me_esc (me_bin o_add s_add me_int (me_bin op_modN s_mod (me_bin op_fdivN s_div (me_name (pv 1)) me_int) me_int))) ma_nil)))) (me_fnK (K := K) rfl (ok__law_take T) (hr.mono (by decide)) (by rfl) T.g__law_take T.F__law_take.kp T.b__law_take (takes_of rfl rfl rfl rfl) (ma_cons (me_esc (me_name (pv 0))) (ma_cons (me_esc me_int) ma_nil))) (fun _ _ => rfl)))
  (mss_cons (ms_set (i := 4) sc__law_league.nd rfl (by first | exact .inl rfl | exact .inr rfl) (me_ix (r := rIx K) ix_seq s_ix (me_lst (ma_cons (me_esc me_int) (ma_cons (me_esc me_int) (ma_cons (me_esc me_int) (ma_cons (me_esc me_int) ma_nil))))) (me_fnK (K := K) rfl (ok__law_take T) (hr.mono (by decide)) (by rfl) T.g__law_take T.F__law_take.kp T.b__law_take (takes_of rfl rfl rfl rfl) (ma_cons (me_esc (me_name (pv 0))) (ma_cons (me_esc me_int) ma_nil))) (fun _ _ => rfl)))
  (mss_cons (ms_set (i := 5) sc__law_league.nd rfl (by first | exact .inl rfl | exact .inr rfl) (me_lst ma_nil))
  (mss_cons (ms_for (passes_of rfl) (by rfl) (mi_listK (K := K) rfl (me_ix (r := rIx K) ix_seq s_ix (me_fnK (K := K) rfl (ok__law_drawn_end T) (hr.mono (by decide)) (by rfl) T.g__law_drawn_end T.F__law_drawn_end.kp T.b__law_drawn_end (takes_of rfl rfl rfl rfl) (ma_cons (me_esc (me_name (pv 0))) (ma_cons (me_esc (me_tup (ma_cons (me_esc (me_name (pv 2))) (ma_cons (me_esc (me_name (pv 3))) (ma_cons (me_esc (me_lst ma_nil)) ma_nil))))) ma_nil))) me_int (fun _ _ => rfl))) (mg_name (pg_name (i := 6) sc__law_league.nd rfl (by first | exact .inl rfl | exact .inr rfl))) (mss_one (ms_if (mt_cmp op_lt s_lt (me_fnK (K := K) rfl (ok__law_take T) (hr.mono (by decide)) (by rfl) T.g__law_take T.F__law_take.kp T.b__law_take (takes_of rfl rfl rfl rfl) (ma_cons (me_esc (me_name (pv 0))) (ma_cons (me_esc me_int) ma_nil))) (me_name (pv 4)) (nomark _)) (mss_one (ms_expr (me_app (pv 5) (me_name (pv 6))))) mss_nil)))
  (mss_one (ms_ret (me_tup (ma_cons (me_esc (me_name (pv 2))) (ma_cons (me_esc (me_name (pv 3))) (ma_cons (me_esc (me_name (pv 5))) ma_nil))))))))))))⟩
theorem ok__law_had {P : Program} {w : World} {K : PySem.W.Frag} {mg : Str → Option Value} {base : Heap} {Y : Sys} (T : Txt K w mg) : FnOk P w K mg base (L2.CX P w) 2 T.a__law_had T.d__law_had ["league"] (spM Y K 1 Pg.m__law_had) := by
  rw [Pg.q__law_had]
  exact fn_okM T.F__law_had sc__law_had fun cdv A outer s H E hr => ⟨_,
  (mss_cons (ms_set (i := 1) sc__law_had.nd rfl (by first | exact .inl rfl | exact .inr rfl) (me_bin o_mul s_mul (me_lst (ma_cons (me_esc me_int) ma_nil)) (me_ix (r := rIx K) ix_seq s_ix (me_name (pv 0)) me_int (fun _ _ => rfl))))
  (mss_cons (ms_for (passes_of rfl) (by rfl) (mi_listK (K := K) rfl (me_fnK (K := K) rfl (ok__law_options T) (hr.mono (by decide)) (by rfl) T.g__law_options T.F__law_options.kp T.b__law_options (takes_of rfl rfl rfl rfl) (ma_cons (me_esc (me_name (pv 0))) ma_nil))) (mg_tupK (K := K) rfl (by rfl) (mgs_cons (mg_name (pg_name (i := 2) sc__law_had.nd rfl (by first | exact .inl rfl | exact .inr rfl))) (mgs_cons (mg_name (pg_name (i := 3) sc__law_had.nd rfl (by first | exact .inl rfl | exact .inr rfl))) (mgs_cons (mg_name (pg_name (i := 4) sc__law_had.nd rfl (by first | exact .inl rfl | exact .inr rfl))) mgs_nil))) (by rfl) (by rfl) (blS (blS (blS bl0)))) (mss_one (ms_if (mt_cmp (r := rEqD K) (op_eqD hr.units) s_eq (me_callB (r := rLenL K) (CallR.or call_len_seq call_len_str) s_len (by rfl) T.z_len (by decide +kernel) (ma_cons (me_name (pv 4)) ma_nil)) me_int (nomark _)) (mss_cons (ms_put (pv 1) (me_name (pv 2)) (me_bin o_add s_add (me_ix (r := rIx K) ix_seq s_ix (me_name (pv 1)) (me_name (pv 2)) (fun _ _ => rfl)) (me_ix (r := rIx K) ix_seq s_ix (me_ix (r := rIx K) ix_seq s_ix (me_name (pv 4)) me_int (fun _ _ => rfl)) me_int (fun _ _ => rfl))))
  (mss_one (ms_put (pv 1) (me_name (pv 3)) (me_bin o_add s_add (me_ix (r := rIx K) ix_seq s_ix (me_name (pv 1)) (me_name (pv 3)) (fun _ _ => rfl)) (me_ix (r := rIx K) ix_seq s_ix (me_ix (r := rIx K) ix_seq s_ix (me_name (pv 4)) me_int (fun _ _ => rfl)) me_int (fun _ _ => rfl)))))) mss_nil)))
  (mss_one (ms_ret (me_name (pv 1))))))⟩
theorem ok__law_points {P : Program} {w : World} {K : PySem.W.Frag} {mg : Str → Option Value} {base : Heap} {sa : Addr} {ns : List Int} {tb : List (Addr × Str)} (T : Txt K w mg) : FnOk P w K mg base (L2.CX P w) 3 T.a__law_points T.d__law_points ["store", "league"] (spM (ClY K sa ns tb) K 2 Pg.m__law_points) := by
  rw [Pg.q__law_points]
  exact fn_okM T.F__law_points sc__law_points fun cdv A outer s H E hr => ⟨_,
  (mss_cons (ms_set (i := 2) sc__law_points.nd rfl (by first | exact .inl rfl | exact .inr rfl) (me_fnK (K := K) rfl (ok__law_had T) (hr.mono (by decide)) (by rfl) T.g__law_had T.F__law_had.kp T.b__law_had (takes_of rfl rfl rfl rfl) (ma_cons (me_esc (me_fnK (K := K) rfl (ok__law_drawn_end T) (hr.mono (by decide)) (by rfl) T.g__law_drawn_end T.F__law_drawn_end.kp T.b__law_drawn_end (takes_of rfl rfl rfl rfl) (ma_cons (me_esc (me_name (pv 0))) (ma_cons (me_esc (me_name (pv 1))) ma_nil)))) ma_nil)))
  (mss_cons (ms_set (i := 3) sc__law_points.nd rfl (by first | exact .inl rfl | exact .inr rfl) (me_ix (r := rIx K) ix_seq s_ix (me_name (pv 1)) me_int (fun _ _ => rfl)))
  (mss_cons (ms_set (i := 4) sc__law_points.nd rfl (by first | exact .inl rfl | exact .inr rfl) (me_fnK (K := K) rfl (ok__law_take T) (hr.mono (by decide)) (by rfl) T.g__law_take T.F__law_take.kp T.b__law_take (takes_of rfl rfl rfl rfl) (ma_cons (me_esc (me_name (pv 0))) (ma_cons (me_esc (me_name (pv 3))) ma_nil))))
  (mss_cons (ms_set (i := 5) sc__law_points.nd rfl (by first | exact .inl rfl | exact .inr rfl) (me_fnK (K := K) rfl (ok__law_take T) (hr.mono (by decide)) (by rfl) T.g__law_take T.F__law_take.kp T.b__law_take (takes_of rfl rfl rfl rfl) (ma_cons (me_esc (me_name (pv 0))) (ma_cons (me_esc (me_name (pv 3))) ma_nil))))
  (mss_cons (ms_set (i := 6) sc__law_points.nd rfl (by first | exact .inl rfl | exact .inr rfl) (me_ix (r := rIx K) ix_seq s_ix (me_lst (ma_cons (me_esc me_int) (ma_cons (me_esc me_int) (ma_cons (me_esc me_int) (ma_cons (me_esc (me_bin op_pow s_pow me_int me_int)) ma_nil))))) (me_fnK (K := K) rfl (ok__law_take T) (hr.mono (by decide)) (by rfl) T.g__law_take T.F__law_take.kp T.b__law_take (takes_of rfl rfl rfl rfl) (ma_cons (me_esc (me_name (pv 0))) (ma_cons (me_esc me_int) ma_nil))) (fun _ _ => rfl)))
  (mss_cons (ms_set (i := 7) sc__law_points.nd rfl (by first | exact .inl rfl | exact .inr rfl) (me_fnK (K := K) rfl (ok__law_take T) (hr.mono (by decide)) (by rfl) T.g__law_take T.F__law_take.kp T.b__law_take (takes_of rfl rfl rfl rfl) (ma_cons (me_esc (me_name (pv 0))) (ma_cons (me_esc me_int) ma_nil))))
  (mss_cons (ms_if (mt_cmp (r := rIn2 K) (o_in (hu65 hr)) s_in2 (me_name (pv 7)) (me_tup (ma_cons (me_esc me_int) (ma_cons (me_esc me_int) ma_nil))) (by rfl)) (mss_cons (ms_put (pv 2) (me_name (pv 4)) (me_bin o_add s_add (me_ix (r := rIx K) ix_seq s_ix (me_name (pv 2)) (me_name (pv 4)) (fun _ _ => rfl)) (me_name (pv 6))))
  (mss_one (ms_put (pv 2) (me_name (pv 5)) (me_bin op_sub s_sub (me_ix (r := rIx K) ix_seq s_ix (me_name (pv 2)) (me_name (pv 5)) (fun _ _ => rfl)) (me_name (pv 6)))))) mss_nil)
  (mss_cons (ms_if (mt_cmp (r := rEqD K) (op_eqD hr.units) s_eq (me_name (pv 7)) me_int (nomark _)) (mss_one (ms_put (pv 2) (me_name (pv 4)) (me_bin o_add s_add (me_ix (r := rIx K) ix_seq s_ix (me_name (pv 2)) (me_name (pv 4)) (fun _ _ => rfl)) (me_ix (r := rIx K) ix_seq s_ix (me_lst (ma_cons (me_esc (me_name (pv 6))) (ma_cons (me_esc (me_bin op_sub s_sub me_int (me_name (pv 6)))) ma_nil))) (me_fnK (K := K) rfl (ok__law_take T) (hr.mono (by decide)) (by rfl) T.g__law_take T.F__law_take.kp T.b__law_take (takes_of rfl rfl rfl rfl) (ma_cons (me_esc (me_name (pv 0))) (ma_cons (me_esc me_int) ma_nil))) (fun _ _ => rfl))))) mss_nil)
  (mss_cons (ms_if (mt_cmp (r := rEqD K) (op_eqD hr.units) s_eq (me_name (pv 7)) me_int (nomark _)) (mss_one (ms_setLc (i := 2) (own := [("k", 8)]) (by rfl) sc__law_points.nd rfl rfl (sw_true rfl rfl rfl (by decide +kernel)) (mi_range1 (by rfl) T.z_range (ma_cons (me_name (pv 3)) ma_nil)) (blkOk_by (own := [("k", 8)]) (N := N__law_points) (sc := defScope s__law_points) (by decide +kernel)) (fun _ _ _ _ _ => by exact (mg_name (pg_name (i := 8) sc__law_points.nd rfl (by first | exact .inl rfl | exact .inr rfl)))) (fun _ _ _ _ _ => by exact (me_esc (me_bin op_sub s_sub (me_fnK (K := K) rfl (ok__law_take T) (hr.mono (by decide)) (by rfl) T.g__law_take T.F__law_take.kp T.b__law_take takes0 (ma_cons (me_esc (me_name (pv 0))) (ma_cons (me_esc me_int) ma_nil))) me_int))) (by decide))) mss_nil)
  (mss_one (ms_ret (me_name (pv 2)))))))))))))⟩
theorem ok__law_copy {P : Program} {w : World} {K : PySem.W.Frag} {mg : Str → Option Value} {base : Heap} {Y : Sys} (T : Txt K w mg) : FnOk P w K mg base (L2.CX P w) 1 T.a__law_copy T.d__law_copy ["league"] (spM Y K 1 Pg.m__law_copy) := by
  rw [Pg.q__law_copy]
  exact fn_okM T.F__law_copy sc__law_copy fun cdv A outer s H E hr => ⟨_,
  (mss_one (ms_ret (me_tup (ma_cons (me_esc (me_ix (r := rIx K) ix_seq s_ix (me_name (pv 0)) me_int (fun _ _ => rfl))) (ma_cons (me_esc (me_ix (r := rIx K) ix_seq s_ix (me_name (pv 0)) me_int (fun _ _ => rfl))) (ma_cons (me_esc (me_callTy (r := rListO K) call_list_of s_list (by rfl) T.z_list (by decide +kernel) (ma_cons (me_ix (r := rIx K) ix_seq s_ix (me_name (pv 0)) me_int (fun _ _ => rfl)) ma_nil))) ma_nil))))))⟩
theorem ok__law_less {P : Program} {w : World} {K : PySem.W.Frag} {mg : Str → Option Value} {base : Heap} {Y : Sys} (T : Txt K w mg) : FnOk P w K mg base (L2.CX P w) 1 T.a__law_less T.d__law_less ["options", "at", "needs", "to_i", "to_j"] (spM Y K 5 Pg.m__law_less) := by
  rw [Pg.q__law_less]
  exact fn_okM T.F__law_less sc__law_less fun cdv A outer s H E hr => ⟨_,
  (mss_cons (ms_unp (me_ix (r := rIx K) ix_seq s_ix (me_name (pv 0)) (me_name (pv 1)) (fun _ _ => rfl)) (mg_tupK (K := K) rfl (by rfl) (mgs_cons (mg_name (pg_name (i := 5) sc__law_less.nd rfl (by first | exact .inl rfl | exact .inr rfl))) (mgs_cons (mg_name (pg_name (i := 6) sc__law_less.nd rfl (by first | exact .inl rfl | exact .inr rfl))) (mgs_cons (mg_name (pg_name (i := 7) sc__law_less.nd rfl (by first | exact .inl rfl | exact .inr rfl))) mgs_nil))) (by rfl) (by rfl) (blS (blS (blS bl0)))))
  (mss_cons (ms_set (i := 8) sc__law_less.nd rfl (by first | exact .inl rfl | exact .inr rfl) (me_callTy (r := rListO K) call_list_of s_list (by rfl) T.z_list (by decide +kernel) (ma_cons (me_name (pv 2)) ma_nil)))
  (mss_cons (ms_put (pv 8) (me_name (pv 5)) (me_bin op_sub s_sub (me_ix (r := rIx K) ix_seq s_ix (me_name (pv 8)) (me_name (pv 5)) (fun _ _ => rfl)) (me_name (pv 3))))
  (mss_cons (ms_put (pv 8) (me_name (pv 6)) (me_bin op_sub s_sub (me_ix (r := rIx K) ix_seq s_ix (me_name (pv 8)) (me_name (pv 6)) (fun _ _ => rfl)) (me_name (pv 4))))
  (mss_one (ms_ret (me_callTy (r := rTupO K) call_tuple_of s_tup (by rfl) T.z_tuple (by decide +kernel) (ma_cons (me_name (pv 8)) ma_nil))))))))⟩
theorem okr__law_ways {P : Program} {w : World} {K : PySem.W.Frag} {mg : Str → Option Value} {base : Heap} {sa : Addr} {ns : List Int} {tb : List (Addr × Str)} (T : Txt K w mg) : ∀ n : Nat, FnOk P w K mg base (L2.CX P w) (2 + n) T.a__law_ways T.d__law_ways ["options", "at", "needs", "known"] (spM (ClY K sa ns tb) K 4 (Pg.r__law_ways n)) := by
  intro n
  induction n with
  | zero => exact fn_none
  | succ n ih =>
  exact fn_okM T.F__law_ways sc__law_ways fun cdv A outer s H E hr => ⟨_,
  (mss_cons (ms_if (mt_cmp op_lt s_lt (me_callB (r := rMinT K) (cr_minT (by rfl) (hu65 hr)) s_minT (by rfl) T.z_min (by decide +kernel) (ma_cons (me_name (pv 2)) ma_nil)) me_int (nomark _)) (mss_one (ms_ret me_int)) mss_nil)
  (mss_cons (ms_if (mt_cmp (r := rEqD K) (op_eqD hr.units) s_eq (me_name (pv 1)) (me_callB (r := rLenL K) (CallR.or call_len_seq call_len_str) s_len (by rfl) T.z_len (by decide +kernel) (ma_cons (me_name (pv 0)) ma_nil)) (nomark _)) (mss_one (ms_ret (me_callTy call_int1 s_int (by rfl) T.z_int (by decide +kernel) (ma_cons (me_cmp (r := rEqD K) (op_eqD hr.units) s_eq (me_callB (r := rMaxT K) (cr_maxT (by rfl) (hu65 hr)) s_maxT (by rfl) T.z_max (by decide +kernel) (ma_cons (me_name (pv 2)) ma_nil)) me_int (nomark _)) ma_nil)))) mss_nil)
  (mss_cons (ms_if (mt_nnotK (K := K) rfl (hu2 hr) (me_name (pv 3)) (me_tup (ma_cons (me_esc (me_name (pv 1))) (ma_cons (me_esc (me_name (pv 2))) ma_nil)))) (mss_cons (ms_set (i := 4) sc__law_ways.nd rfl (by first | exact .inl rfl | exact .inr rfl) me_int)
  (mss_cons (ms_for (passes_of rfl) (by rfl) (mi_listK (K := K) rfl (me_ix (r := rIx K) ix_seq s_ix (me_ix (r := rIx K) ix_seq s_ix (me_name (pv 0)) (me_name (pv 1)) (fun _ _ => rfl)) me_int (fun _ _ => rfl))) (mg_tupK (K := K) rfl (by rfl) (mgs_cons (mg_name (pg_name (i := 5) sc__law_ways.nd rfl (by first | exact .inl rfl | exact .inr rfl))) (mgs_cons (mg_name (pg_name (i := 6) sc__law_ways.nd rfl (by first | exact .inl rfl | exact .inr rfl))) (mgs_cons (mg_name (pg_name (i := 7) sc__law_ways.nd rfl (by first | exact .inl rfl | exact .inr rfl))) mgs_nil))) (by rfl) (by rfl) (blS (blS (blS bl0)))) (mss_cons (ms_set (i := 8) sc__law_ways.nd rfl (by first | exact .inl rfl | exact .inr rfl) (me_fnK (K := K) rfl (ok__law_less T) (hr.mono (by first | omega | (show _ ≤ 2 + n; omega))) (by rfl) T.g__law_less T.F__law_less.kp T.b__law_less (takes_of rfl rfl rfl rfl) (ma_cons (me_esc (me_name (pv 0))) (ma_cons (me_esc (me_name (pv 1))) (ma_cons (me_esc (me_name (pv 2))) (ma_cons (me_esc (me_name (pv 6))) (ma_cons (me_esc (me_name (pv 7))) ma_nil)))))))
  (mss_one (ms_set (i := 4) sc__law_ways.nd rfl (by first | exact .inl rfl | exact .inr rfl) (me_bin o_add s_add (me_name (pv 4)) (me_fnK (K := K) rfl ih (hr.mono (by first | omega | (show _ ≤ 2 + n; omega))) (by rfl) T.g__law_ways T.F__law_ways.kp T.b__law_ways (takes_of rfl rfl rfl rfl) (ma_cons (me_esc (me_name (pv 0))) (ma_cons (me_esc (me_bin o_add s_add (me_name (pv 1)) me_int)) (ma_cons (me_esc (me_name (pv 8))) (ma_cons (me_esc (me_name (pv 3))) ma_nil))))))))))
  (mss_one (ms_nputK (K := K) rfl (hu2 hr) (me_name (pv 3)) (me_tup (ma_cons (me_esc (me_name (pv 1))) (ma_cons (me_esc (me_name (pv 2))) ma_nil))) (me_name (pv 4)))))) mss_nil)
  (mss_one (ms_ret (me_ngetK (K := K) rfl (hu2 hr) (me_name (pv 3)) (me_tup (ma_cons (me_esc (me_name (pv 1))) (ma_cons (me_esc (me_name (pv 2))) ma_nil))) (fun _ _ => rfl)))))))⟩
theorem ok__law_ways {P : Program} {w : World} {K : PySem.W.Frag} {mg : Str → Option Value} {base : Heap} {sa : Addr} {ns : List Int} {tb : List (Addr × Str)} (T : Txt K w mg) : FnOk P w K mg base (L2.CX P w) (19) T.a__law_ways T.d__law_ways ["options", "at", "needs", "known"] (spM (ClY K sa ns tb) K 4 Pg.m__law_ways) := by
  rw [Pg.q__law_ways]
  exact okr__law_ways T 17
theorem ok__law_many {P : Program} {w : World} {K : PySem.W.Frag} {mg : Str → Option Value} {base : Heap} {sa : Addr} {ns : List Int} {tb : List (Addr × Str)} (T : Txt K w mg) : FnOk P w K mg base (L2.CX P w) 20 T.a__law_many T.d__law_many ["league", "points"] (spM (ClY K sa ns tb) K 2 Pg.m__law_many) := by
  rw [Pg.q__law_many]
  exact fn_okM T.F__law_many sc__law_many fun cdv A outer s H E hr => ⟨_,
  (mss_one (ms_ret (me_fnK (K := K) rfl (ok__law_ways T) (hr.mono (by decide)) (by rfl) T.g__law_ways T.F__law_ways.kp T.b__law_ways (takes_of rfl rfl rfl rfl) (ma_cons (me_esc (me_fnK (K := K) rfl (ok__law_options T) (hr.mono (by decide)) (by rfl) T.g__law_options T.F__law_options.kp T.b__law_options (takes_of rfl rfl rfl rfl) (ma_cons (me_esc (me_name (pv 0))) ma_nil))) (ma_cons (me_esc me_int) (ma_cons (me_esc (me_callTy (r := rTupO K) call_tuple_of s_tup (by rfl) T.z_tuple (by decide +kernel) (ma_cons (me_name (pv 1)) ma_nil))) (ma_cons (me_esc (me_nnewK (K := K) rfl)) ma_nil)))))))⟩
def l_law_1 {K : PySem.W.Frag} {sa : Addr} {ns : List Int} {tb : List (Addr × Str)} : GS (ClY K sa ns tb) :=
  (sSeq (sSet 9 (gFn 2 Pg.m_count_ends (gK (gEsc (gV 5)) (gK (gEsc (gV 6)) gN))))
  (sIf (gOr (gNot (gTst (gIsI "int" (gV 9)))) (gOr (gTst (gIsI "bool" (gV 9))) (gTst (gBin fNe (gV 9) (gV 7))))) (sRet (gC (.bool false))) sNil))
def l_law_2 {K : PySem.W.Frag} {sa : Addr} {ns : List Int} {tb : List (Addr × Str)} : GS (ClY K sa ns tb) :=
  (sSeq (sSet 3 (gFn 1 Pg.m__law_league (gK (gEsc (gV 1)) gN)))
  (sSeq (sSet 4 (gFn 2 Pg.m__law_points (gK (gEsc (gV 1)) (gK (gEsc (gV 3)) gN))))
  (sSeq (sSet 5 (gFn 1 Pg.m__law_copy (gK (gEsc (gV 3)) gN)))
  (sSeq (sSet 6 (gCall fList (gK (gV 4) gN)))
  (sSeq (sSet 7 (gFn 2 Pg.m__law_many (gK (gEsc (gV 3)) (gK (gEsc (gV 4)) gN))))
  (sSeq (sFor (.n 8) (gRg1 (gK (gC (.int 2)) gN)) l_law_1)
  (sIf (gOr (gTst (gBin fNe (gV 5) (gV 3))) (gTst (gBin fNe (gV 6) (gV 4)))) (sRet (gC (.bool false))) sNil)))))))
def b_law {K : PySem.W.Frag} {sa : Addr} {ns : List Int} {tb : List (Addr × Str)} : GS (ClY K sa ns tb) :=
  (sSeq (sSet 1 (gCell (gLst (gK (gEsc (gFn 2 Pg.m__law_draws (gK (gEsc (gV 0)) (gK (gEsc (gC (.int 600))) gN)))) (gK (gEsc (gC (.int 0))) gN)))))
  (sSeq (sFor (.n 2) (gRg1 (gK (gC (.int 6)) gN)) l_law_2)
  (sRet (gC (.bool true)))))
theorem x_law {K : PySem.W.Frag} {sa : Addr} {ns : List Int} {tb : List (Addr × Str)} : ∃ m : Fm (ClY K sa ns tb), m = mOf 10 b_law := ⟨_, rfl⟩
def m_law {K : PySem.W.Frag} {sa : Addr} {ns : List Int} {tb : List (Addr × Str)} : Fm (ClY K sa ns tb) := Classical.choose (x_law)
theorem q_law {K : PySem.W.Frag} {sa : Addr} {ns : List Int} {tb : List (Addr × Str)} : m_law = mOf (Y := (ClY K sa ns tb)) 10 b_law := Classical.choose_spec (x_law)
theorem ok_law {P : Program} {w : World} {K : PySem.W.Frag} {mg : Str → Option Value} {base : Heap} {sa : Addr} {ns : List Int} {tb : List (Addr × Str)} (T : Txt K w mg) : FnOk P w K mg base (L2.CX P w) 25 T.a_law T.d_law ["script"] (spM (ClY K sa ns tb) K 1 m_law) := by
  rw [q_law]
  exact fn_okM T.F_law sc_law fun cdv A outer s H E hr => ⟨_,
  (mss_cons (ms_set (i := 1) sc_law.nd rfl (by first | exact .inl rfl | exact .inr rfl) (me_cellK (K := K) rfl (me_lst (ma_cons (me_esc (me_fnK (K := K) rfl (ok__law_draws T) (hr.mono (by decide)) (by rfl) T.g__law_draws T.F__law_draws.kp T.b__law_draws (takes_of rfl rfl rfl rfl) (ma_cons (me_esc (me_name (pv 0))) (ma_cons (me_esc me_int) ma_nil)))) (ma_cons (me_esc me_int) ma_nil)))))
  (mss_cons (ms_for (passes_of rfl) (by rfl) (mi_range1 (by rfl) T.z_range (ma_cons me_int ma_nil)) (mg_name (pg_name (i := 2) sc_law.nd rfl (by first | exact .inl rfl | exact .inr rfl))) (mss_cons (ms_set (i := 3) sc_law.nd rfl (by first | exact .inl rfl | exact .inr rfl) (me_fnK (K := K) rfl (ok__law_league T) (hr.mono (by decide)) (by rfl) T.g__law_league T.F__law_league.kp T.b__law_league (takes_of rfl rfl rfl rfl) (ma_cons (me_esc (me_name (pv 1))) ma_nil)))
  (mss_cons (ms_set (i := 4) sc_law.nd rfl (by first | exact .inl rfl | exact .inr rfl) (me_fnK (K := K) rfl (ok__law_points T) (hr.mono (by decide)) (by rfl) T.g__law_points T.F__law_points.kp T.b__law_points (takes_of rfl rfl rfl rfl) (ma_cons (me_esc (me_name (pv 1))) (ma_cons (me_esc (me_name (pv 3))) ma_nil))))
  (mss_cons (ms_set (i := 5) sc_law.nd rfl (by first | exact .inl rfl | exact .inr rfl) (me_fnK (K := K) rfl (ok__law_copy T) (hr.mono (by decide)) (by rfl) T.g__law_copy T.F__law_copy.kp T.b__law_copy (takes_of rfl rfl rfl rfl) (ma_cons (me_esc (me_name (pv 3))) ma_nil)))
  (mss_cons (ms_set (i := 6) sc_law.nd rfl (by first | exact .inl rfl | exact .inr rfl) (me_callTy (r := rListO K) call_list_of s_list (by rfl) T.z_list (by decide +kernel) (ma_cons (me_name (pv 4)) ma_nil)))
  (mss_cons (ms_set (i := 7) sc_law.nd rfl (by first | exact .inl rfl | exact .inr rfl) (me_fnK (K := K) rfl (ok__law_many T) (hr.mono (by decide)) (by rfl) T.g__law_many T.F__law_many.kp T.b__law_many (takes_of rfl rfl rfl rfl) (ma_cons (me_esc (me_name (pv 3))) (ma_cons (me_esc (me_name (pv 4))) ma_nil))))
  (mss_cons (ms_for (passes_of rfl) (by rfl) (mi_range1 (by rfl) T.z_range (ma_cons me_int ma_nil)) (mg_name (pg_name (i := 8) sc_law.nd rfl (by first | exact .inl rfl | exact .inr rfl))) (mss_cons (ms_set (i := 9) sc_law.nd rfl (by first | exact .inl rfl | exact .inr rfl) (me_fnK (K := K) rfl (ok_count_ends T) (hr.mono (by decide)) (by rfl) T.g_count_ends T.F_count_ends.kp T.b_count_ends (takes_of rfl rfl rfl rfl) (ma_cons (me_esc (me_name (pv 5))) (ma_cons (me_esc (me_name (pv 6))) ma_nil))))
  (mss_one (ms_if (mt_w (mw_or (mt_not (mt_val (me_isIK (K := K) rfl (T := "int") (by rfl) T.z_isinstance (by rfl) T.z_int (by decide +kernel) (me_name (pv 9))))) (mw_or (mt_val (me_isIK (K := K) rfl (T := "bool") (by rfl) T.z_isinstance (by rfl) T.z_bool (by decide +kernel) (me_name (pv 9)))) (mw_or1 (mt_cmp (r := rNeD K) (op_neD hr.units) s_ne (me_name (pv 9)) (me_name (pv 7)) (nomark _)))))) (mss_one (ms_ret me_bl)) mss_nil))))
  (mss_one (ms_if (mt_w (mw_or (mt_cmp (r := rNeD K) (op_neD hr.units) s_ne (me_name (pv 5)) (me_name (pv 3)) (nomark _)) (mw_or1 (mt_cmp (r := rNeD K) (op_neD hr.units) s_ne (me_name (pv 6)) (me_name (pv 4)) (nomark _))))) (mss_one (ms_ret me_bl)) mss_nil)))))))))
  (mss_one (ms_ret me_bl))))⟩
end
end FX.K14
set_option linter.all false
namespace FX
open PySem PySem.Spec L2
theorem shI (i : Int) : SeqAt.shaped (.int i) = true := rfl
theorem shN : SeqAt.shaped .none = true := rfl
theorem shB (b : Bool) : SeqAt.shaped (.bool b) = true := rfl
theorem eqvI (i j : Int) : PyData.eqv (.int i) (.int j) = decide (i = j) := rfl
theorem eqvS (i j : Str) : PyData.eqv (.str i) (.str j) = decide (i = j) := rfl
section
variable {Y : Sys} {g h : GS Y} {Γ Γ' : Ev} {s s' : Y.S}
theorem seq_nx (e : g Γ s = some (.nx, Γ', s')) : sSeq g h Γ s = h Γ' s' := by
  unfold sSeq; rw [e]
theorem seq_rt {r : R} (e : g Γ s = some (.rt r, Γ', s')) : sSeq g h Γ s = some (.rt r, Γ', s') := by
  unfold sSeq; rw [e]
def fin : Option (Fl × Ev × Y.S) → Option (Oc R × Y.S)
  | some (.rt r, _, s') => some (.ok r, s')
  | some (.nx, _, s') => some (.ok (.v .none), s')
  | some (.er c, _, s') => some (.er c, s')
  | _ => none
theorem fin_of {N : Nat} {body : GS Y} {rs : List R} {X : Option (Oc R × Y.S)} (h : fin (body (rs.map some ++ List.replicate (N - rs.length) none) s) = X) : mOf N body rs s = X := h
theorem for_run {T : Tg} {gi : GI Y} {body : GS Y} {ds : List D} {Γ1 : Ev} {s1 : Y.S} (e : gi Γ s = some (.ok ds, Γ1, s1)) : sFor T gi body Γ s = forG T body ds Γ1 s1 := by
  unfold sFor bdS; rw [e]
end
end FX
set_option Elab.async false
set_option linter.all false
set_option maxRecDepth 100000
namespace FX
open PySem PySem.Spec L2
section
variable {Y : Sys}
theorem forG_cons {T : Tg} {body : GS Y} {d : D} {ds : List D} {Γ Γ1 : Ev} {s : Y.S} (h : bindT T d Γ = some Γ1) : forG T body (d :: ds) Γ s = (match body Γ1 s with
      | none => none
      | some (.nx, Γ2, s2) => forG T body ds Γ2 s2
      | some (.ct, Γ2, s2) => forG T body ds Γ2 s2
      | some (.bk, Γ2, s2) => some (.nx, Γ2, s2)
      | some (.rt r, Γ2, s2) => some (.rt r, Γ2, s2)
      | some (.er c, Γ2, s2) => some (.er c, Γ2, s2)) := by
  conv => lhs; unfold forG
  rw [h] <;> rfl
theorem forG_nil {T : Tg} {body : GS Y} {Γ : Ev} {s : Y.S} : forG T body [] Γ s = some (.nx, Γ, s) := rfl
theorem back_set (Γ0 : Ev) : ∀ (vs : List Nat) (Γ : Ev) (v : Nat) (x : Option R), backE Γ0 (Γ.set v x) vs = if v ∈ vs then backE Γ0 Γ vs else (backE Γ0 Γ vs).set v x
  | [], Γ, v, x => by simp [backE]
  | u :: vs, Γ, v, x => by
    simp only [backE, back_set Γ0 vs Γ v x]
    by_cases h : v ∈ vs
    · simp [h]
    · by_cases e : u = v
      · subst e; simp [h, List.set_set]
      · simp [h, e, Ne.symm e]
        exact List.set_comm _ _ (fun z => e z.symm)
theorem back_wipe (Γ0 : Ev) : ∀ (vs : List Nat) (Γ : Ev), backE Γ0 (wipeE Γ vs) vs = backE Γ0 Γ vs
  | [], Γ => rfl
  | v :: vs, Γ => by
    show backE Γ0 ((wipeE Γ vs).set v none) (v :: vs) = _
    rw [back_set, if_pos (by simp)]
    simp only [backE, back_wipe Γ0 vs Γ]
theorem compG_pure {T : Tg} {own : List Nat} {gt : GT Y} {ge : GE Y} (f : D → Option D) (Γw : Ev) (s : Y.S) :
    ∀ (ds acc : List D) (Γ : Ev), wipeE Γ own = Γw → acc.length + ds.length ≤ 1000000 →
    (∀ d ∈ ds, ∃ Γ1 Γ2, bindT T d Γw = some Γ1 ∧ match f d with
      | none => gt Γ1 s = some (.ok false, Γ2, s) ∧ wipeE Γ2 own = Γw
      | some e => gt Γ1 s = some (.ok true, Γ2, s) ∧ ∃ Γ3, ge Γ2 s = some (.ok (.v e), Γ3, s) ∧ wipeE Γ3 own = Γw) →
    ∃ Γ', compG T own gt ge ds acc Γ s = some (acc ++ ds.filterMap f, Γ', s) ∧ wipeE Γ' own = Γw
  | [], acc, Γ, h, _, _ => ⟨Γ, by simp [compG], h⟩
  | d :: ds, acc, Γ, h, hl, hd => by
    obtain ⟨Γ1, Γ2, e1, e2⟩ := hd d (by simp)
    simp only [List.length_cons] at hl
    unfold compG
    rw [h, e1]
    cases q : f d with
    | none =>
      rw [q] at e2
      obtain ⟨e2, e3⟩ := e2
      obtain ⟨Γ', e4, e5⟩ := compG_pure f Γw s ds acc Γ2 e3 (by omega) fun d' h' => hd d' (by simp [h'])
      refine ⟨Γ', ?_, e5⟩
      simp only [e2, List.filterMap_cons, q]
      exact e4
    | some e =>
      rw [q] at e2
      obtain ⟨e2, Γ3, e3, e6⟩ := e2
      obtain ⟨Γ', e4, e5⟩ := compG_pure f Γw s ds (acc ++ [e]) Γ3 e6 (by simp; omega) fun d' h' => hd d' (by simp [h'])
      refine ⟨Γ', ?_, e5⟩
      have hz : sizeOk acc.length = true := by simp [sizeOk]; omega
      simp only [e2, e3, hz, List.filterMap_cons, q, if_true]
      rw [e4]; simp
theorem gComp_pure {T : Tg} {own : List Nat} {gi : GI Y} {gt : GT Y} {ge : GE Y} (f : D → Option D) {Γ : Ev} {s : Y.S} {ds : List D} (hi : gi Γ s = some (.ok ds, Γ, s)) (hl : ds.length ≤ 1000000)
    (hd : ∀ d ∈ ds, ∃ Γ1 Γ2, bindT T d (wipeE Γ own) = some Γ1 ∧ match f d with
      | none => gt Γ1 s = some (.ok false, Γ2, s) ∧ wipeE Γ2 own = wipeE Γ own
      | some e => gt Γ1 s = some (.ok true, Γ2, s) ∧ ∃ Γ3, ge Γ2 s = some (.ok (.v e), Γ3, s) ∧ wipeE Γ3 own = wipeE Γ own) :
    gComp T own gi gt ge Γ s = some (.ok (.o (.list (ds.filterMap f))), backE Γ (wipeE Γ own) own, s) := by
  obtain ⟨Γ', e, h⟩ := compG_pure (T := T) (own := own) (gt := gt) (ge := ge) f (wipeE Γ own) s ds [] Γ rfl (by simpa using hl) hd
  unfold gComp bd
  rw [hi]
  simp only [e, List.nil_append]
  rw [← h, back_wipe]
theorem gComp_map {T : Tg} {own : List Nat} {gi : GI Y} {ge : GE Y} (f : D → D) {Γ : Ev} {s : Y.S} {ds : List D} (hi : gi Γ s = some (.ok ds, Γ, s)) (hl : ds.length ≤ 1000000)
    (hd : ∀ d ∈ ds, ∃ Γ1, bindT T d (wipeE Γ own) = some Γ1 ∧ ∃ Γ3, ge Γ1 s = some (.ok (.v (f d)), Γ3, s) ∧ wipeE Γ3 own = wipeE Γ own) :
    gComp T own gi gYes ge Γ s = some (.ok (.o (.list (ds.map f))), backE Γ (wipeE Γ own) own, s) := by
  have h := gComp_pure (T := T) (own := own) (gi := gi) (gt := gYes) (ge := ge) (fun d => some (f d)) hi hl fun d m => by
    obtain ⟨Γ1, e1, Γ3, e2, e3⟩ := hd d m
    exact ⟨Γ1, Γ1, e1, rfl, Γ3, e2, e3⟩
  rw [h]
  congr
  simp
end
def dS {K : PySem.W.Frag} {sa : Addr} {ns : List Int} (d : Dk) : (DkY K sa ns).S := some d
def Dk.Ok (d : Dk) : Prop := d.ps ≠ []
theorem atI_nat {α : Type} {ds : List α} {k : Nat} : atI ds (k : Int) = ds[k]? := by
  unfold atI ixN
  by_cases h : k < ds.length
  · have h1 : (k : Int) < (ds.length : Nat) := by omega
    simp [h1]
  · have h1 : ¬ (k : Int) < (ds.length : Nat) := by omega
    simp [h1]; omega
structure okD (n m : Nat) (d : D) : Prop where
  ls : d.leavesShort 64 = true
  sh : d.showable = true
  w : d.weight ≤ n
  dp : d.depth ≤ m
  lf : d.leavesFit = true
theorem okD.mono {n m n' m' : Nat} {d : D} (h : okD n m d) (hn : n ≤ n') (hm : m ≤ m') : okD n' m' d := ⟨h.ls, h.sh, Nat.le_trans h.w hn, Nat.le_trans h.dp hm, h.lf⟩
theorem okD_none {n m : Nat} : okD n m .none := ⟨by simp [PyData.leavesShort], by simp [PyData.showable], by simp [PyData.weight], by simp [PyData.depth], by simp [PyData.leavesFit]⟩
theorem okD_bool {n m : Nat} {b : Bool} : okD n m (.bool b) := ⟨by simp [PyData.leavesShort], by simp [PyData.showable], by simp [PyData.weight], by simp [PyData.depth], by simp [PyData.leavesFit]⟩
theorem okD_dic {n m : Nat} : okD n (m + 1) (.dict []) := ⟨by simp [PyData.leavesShort, PyData.leavesShortKv], by simp [PyData.showable, PyData.showableKv], by simp [PyData.weight, PyData.weightKv], by simp [PyData.depth, PyData.depthKv], by simp [PyData.leavesFit, PyData.leavesFitKv]⟩
theorem okD_int {n m : Nat} {i : Int} (h : i.natAbs < 10 ^ 30) (hn : 100 ≤ n) : okD n m (.int i) := by
  have hl : i.natAbs.log2 < 100 := by
    by_cases h0 : i.natAbs = 0
    · rw [h0]; decide
    · rw [Nat.log2_lt h0]
      exact Nat.lt_trans h (by decide)
  refine ⟨?_, ?_, ?_, by simp [PyData.depth], ?_⟩
  · have := int_text_length_le10 (k := 30) (by decide) h
    have e : (Str.ofString (toString i)).length = (toString i).length := by first | exact ofString_length _ | exact PyProof.ofString_length _ | exact PyProof.Rows.ofString_len _ | exact (by simp [Str.ofString, Str.length])
    have : (Str.ofString (toString i)).length ≤ 64 := by rw [e]; omega
    simpa [PyData.leavesShort, PyData.shown] using this
  · simp [PyData.showable]; omega
  · simp only [PyData.weight]
    split <;> omega
  · simp only [PyData.leavesFit, decide_eq_true_eq]
    exact Nat.lt_of_lt_of_le h (Nat.pow_le_pow_right (by decide) (by decide))
theorem okD_str {n m : Nat} {z : Str} (h1 : (z.cps.toList.all fun c => decide (c < 1114112)) = true) (h2 : z.cps.size ≤ n) : okD n m (.str z) := ⟨by
  simp only [PyData.leavesShort]
  rw [List.all_eq_true] at h1 ⊢
  intro c hc
  have := h1 c hc
  simp only [decide_eq_true_eq] at this ⊢
  have e : (16 : Nat) ^ 8 = 4294967296 := by decide
  omega, by simp [PyData.showable], by simpa [PyData.weight] using h2, by simp [PyData.depth], by
  simp only [PyData.leavesFit]
  show z.cps.all (fun c => decide (c < 0x110000)) = true
  rw [← Array.all_toList]
  exact h1⟩
structure okA (n m : Nat) (ds : List D) : Prop where
  ls : PyData.leavesShortAll 64 ds = true
  sh : PyData.showableAll ds = true
  w : PyData.weightAll ds ≤ n
  dp : PyData.depthAll ds ≤ m
  lf : PyData.leavesFitAll ds = true
theorem okA_nil {m : Nat} : okA 0 m [] := ⟨rfl, rfl, by simp [PyData.weightAll], by simp [PyData.depthAll], rfl⟩
theorem okA_cons {n n' m : Nat} {d : D} {ds : List D} (h : okD n m d) (h' : okA n' m ds) : okA (n + 1 + n') m (d :: ds) := ⟨by
  simp [PyData.leavesShortAll, h.ls, h'.ls], by simp [PyData.showableAll, h.sh, h'.sh], by
  have a := h.w
  have b := h'.w
  simp only [PyData.weightAll]; omega, by
  have a := h.dp
  have b := h'.dp
  simp only [PyData.depthAll]; omega, by simp [PyData.leavesFitAll, h.lf, h'.lf]⟩
theorem okD_tup {n m : Nat} {ds : List D} (h : okA n m ds) : okD n (m + 1) (.tuple ds) := ⟨by simpa [PyData.leavesShort] using h.ls, by simpa [PyData.showable] using h.sh, by simpa [PyData.weight] using h.w, by
  have := h.dp
  simp only [PyData.depth]; omega, by simpa [PyData.leavesFit] using h.lf⟩
theorem okD_lst {n m : Nat} {ds : List D} (h : okA n m ds) : okD n (m + 1) (.list ds) := ⟨by simpa [PyData.leavesShort] using h.ls, by simpa [PyData.showable] using h.sh, by simpa [PyData.weight] using h.w, by
  have := h.dp
  simp only [PyData.depth]; omega, by simpa [PyData.leavesFit] using h.lf⟩
theorem okA_of {n m : Nat} : ∀ {ds : List D}, (∀ d ∈ ds, okD n m d) → okA ((n + 1) * ds.length) m ds
  | [], _ => by simpa using okA_nil
  | d :: ds, h => by
    have := okA_cons (h d (by simp)) (okA_of (ds := ds) fun x hx => h x (by simp [hx]))
    rw [List.length_cons, Nat.mul_add, Nat.mul_one, Nat.add_comm]
    exact this
theorem okA.mono {n m n' m' : Nat} {d : List D} (h : okA n m d) (hn : n ≤ n') (hm : m ≤ m') : okA n' m' d := ⟨h.ls, h.sh, Nat.le_trans h.w hn, Nat.le_trans h.dp hm, h.lf⟩
end FX
set_option Elab.async false
set_option linter.all false
set_option maxRecDepth 100000
namespace FX.Pg
open PySem FX
section
variable {Y : Sys}
def isWhole : D → Bool
  | .int _ => true
  | _ => false
def isPlayer (d : D) (n : Int) : Bool := match d with
  | .int i => decide (0 ≤ i) && decide (i < n)
  | _ => false
theorem whole_eq (d : D) (s : Y.S) : m_is_whole [.v d] s = some (.ok (.v (.bool (isWhole d))), s) := by
  rw [q_is_whole]
  cases d <;> rfl
theorem player_eq (d : D) (n : Int) (s : Y.S) : m_is_player [.v d, .v (.int n)] s = some (.ok (.v (.bool (isPlayer d n))), s) := by
  rw [q_is_player]
  cases d with
  | int i =>
    (simp [mOf, bd, bdS, gC, gV, op1, op2, opN, gBin, gUn, gEsc, gN, gK, gCall, FX.gTup, gLst, gDic, gTst, gNot, gAnd, gOr, gAndV, gOrV, gNotV, gIf, gChain, bindT, bindTs, sNil, sSeq, sDrop, sRet, sRetN, sBrk, sCnt, sIf, sStuck, sSet, sUnp, gFn, argR, rdv, Rz.r, fAdd, fSub, fMul, fDiv, fMod, fNeg, fLt, fGt, fGe, fIsN, fNotN, fEq, fNe, fLe, fIn2, fNotIn2, fIx, fLen, fInt, gTyEq, gTyNe, gIsI, gSl, gNoP, gPart, fSl, fRev, fTup, vs?, rdA, zB, tyD, shI, shN, shB, eqvI, eqvS, b_is_player, whole_eq, isPlayer, isWhole] <;> try rfl)
    by_cases h : 0 ≤ i <;> simp [h, FX.zB]
  | _ => simp only [b_is_player]; (simp [mOf, bd, bdS, gC, gV, op1, op2, opN, gBin, gUn, gEsc, gN, gK, gCall, FX.gTup, gLst, gDic, gTst, gNot, gAnd, gOr, gAndV, gOrV, gNotV, gIf, gChain, bindT, bindTs, sNil, sSeq, sDrop, sRet, sRetN, sBrk, sCnt, sIf, sStuck, sSet, sUnp, gFn, argR, rdv, Rz.r, fAdd, fSub, fMul, fDiv, fMod, fNeg, fLt, fGt, fGe, fIsN, fNotN, fEq, fNe, fLe, fIn2, fNotIn2, fIx, fLen, fInt, gTyEq, gTyNe, gIsI, gSl, gNoP, gPart, fSl, fRev, fTup, vs?, rdA, zB, tyD, shI, shN, shB, eqvI, eqvS, whole_eq, isWhole, isPlayer] <;> try rfl)
def isTupOf (d : D) (k : Nat) : Bool := match d with
  | .tuple ds => decide (ds.length = k)
  | _ => false
theorem tupOf_eq (d : D) (k : Nat) (s : Y.S) : m_is_tuple_of [.v d, .v (.int (k : Nat))] s = some (.ok (.v (.bool (isTupOf d k))), s) := by
  rw [q_is_tuple_of]
  cases d with
  | tuple ds =>
    (simp [mOf, bd, bdS, gC, gV, op1, op2, opN, gBin, gUn, gEsc, gN, gK, gCall, FX.gTup, gLst, gDic, gTst, gNot, gAnd, gOr, gAndV, gOrV, gNotV, gIf, gChain, bindT, bindTs, sNil, sSeq, sDrop, sRet, sRetN, sBrk, sCnt, sIf, sStuck, sSet, sUnp, gFn, argR, rdv, Rz.r, fAdd, fSub, fMul, fDiv, fMod, fNeg, fLt, fGt, fGe, fIsN, fNotN, fEq, fNe, fLe, fIn2, fNotIn2, fIx, fLen, fInt, gTyEq, gTyNe, gIsI, gSl, gNoP, gPart, fSl, fRev, fTup, vs?, rdA, zB, tyD, shI, shN, shB, eqvI, eqvS, b_is_tuple_of, isTupOf] <;> try rfl)
    omega
  | _ => rfl
def isOutcome (kd : Str) (i j : Int) (w : D) : Bool := match w with
  | .none => decide (kd = Str.ofString "ties")
  | .int z => decide (z = i) || decide (z = j)
  | _ => false
theorem sh_ties : SeqAt.shaped (.str (Str.ofString "ties")) = true := by decide +kernel
theorem outcome_eq (kd : Str) (hk : SeqAt.shaped (.str kd) = true) (i j : Int) (w : D) (s : Y.S) : m_is_outcome [.v (.str kd), .v (.int i), .v (.int j), .v w] s = some (.ok (.v (.bool (isOutcome kd i j w))), s) := by
  rw [q_is_outcome]
  cases w with
  | none =>
    (simp [mOf, bd, bdS, gC, gV, op1, op2, opN, gBin, gUn, gEsc, gN, gK, gCall, FX.gTup, gLst, gDic, gTst, gNot, gAnd, gOr, gAndV, gOrV, gNotV, gIf, gChain, bindT, bindTs, sNil, sSeq, sDrop, sRet, sRetN, sBrk, sCnt, sIf, sStuck, sSet, sUnp, gFn, argR, rdv, Rz.r, fAdd, fSub, fMul, fDiv, fMod, fNeg, fLt, fGt, fGe, fIsN, fNotN, fEq, fNe, fLe, fIn2, fNotIn2, fIx, fLen, fInt, gTyEq, gTyNe, gIsI, gSl, gNoP, gPart, fSl, fRev, fTup, vs?, rdA, zB, tyD, shI, shN, shB, eqvI, eqvS, b_is_outcome, isOutcome, isNo, whole_eq, isWhole, hk, sh_ties, flatD, sizeOk, argR] <;> try rfl)
    all_goals simp only [eq_comm]
  | int z =>
    (simp [mOf, bd, bdS, gC, gV, op1, op2, opN, gBin, gUn, gEsc, gN, gK, gCall, FX.gTup, gLst, gDic, gTst, gNot, gAnd, gOr, gAndV, gOrV, gNotV, gIf, gChain, bindT, bindTs, sNil, sSeq, sDrop, sRet, sRetN, sBrk, sCnt, sIf, sStuck, sSet, sUnp, gFn, argR, rdv, Rz.r, fAdd, fSub, fMul, fDiv, fMod, fNeg, fLt, fGt, fGe, fIsN, fNotN, fEq, fNe, fLe, fIn2, fNotIn2, fIx, fLen, fInt, gTyEq, gTyNe, gIsI, gSl, gNoP, gPart, fSl, fRev, fTup, vs?, rdA, zB, tyD, shI, shN, shB, eqvI, eqvS, b_is_outcome, isOutcome, isNo, whole_eq, isWhole, hk, sh_ties, flatD, sizeOk, argR] <;> try rfl)
    all_goals simp only [eq_comm]
  | _ => (simp [mOf, bd, bdS, gC, gV, op1, op2, opN, gBin, gUn, gEsc, gN, gK, gCall, FX.gTup, gLst, gDic, gTst, gNot, gAnd, gOr, gAndV, gOrV, gNotV, gIf, gChain, bindT, bindTs, sNil, sSeq, sDrop, sRet, sRetN, sBrk, sCnt, sIf, sStuck, sSet, sUnp, gFn, argR, rdv, Rz.r, fAdd, fSub, fMul, fDiv, fMod, fNeg, fLt, fGt, fGe, fIsN, fNotN, fEq, fNe, fLe, fIn2, fNotIn2, fIx, fLen, fInt, gTyEq, gTyNe, gIsI, gSl, gNoP, gPart, fSl, fRev, fTup, vs?, rdA, zB, tyD, shI, shN, shB, eqvI, eqvS, b_is_outcome, isOutcome, isNo, whole_eq, isWhole] <;> try rfl)
theorem tup3_eq (d : D) (s : Y.S) : m_is_tuple_of [.v d, .v (.int 3)] s = some (.ok (.v (.bool (isTupOf d 3))), s) := tupOf_eq d 3 s
theorem ipn (n : Int) : isPlayer .none n = false := rfl
theorem ipb (n : Int) (b : Bool) : isPlayer (.bool b) n = false := rfl
theorem ips (n : Int) (b : Str) : isPlayer (.str b) n = false := rfl
theorem ipl (n : Int) (b : List D) : isPlayer (.list b) n = false := rfl
theorem ipt (n : Int) (b : List D) : isPlayer (.tuple b) n = false := rfl
theorem ipd (n : Int) (b : List (D × D)) : isPlayer (.dict b) n = false := rfl
def isMatch (n : Int) (a b : D) : Bool := match a, b with
  | .int i, .int j => isPlayer (.int i) n && isPlayer (.int j) n && decide (i < j)
  | _, _ => false
theorem match_eq (n : Int) (a b : D) (s : Y.S) : m_is_match [.v (.int n), .v a, .v b] s = some (.ok (.v (.bool (isMatch n a b))), s) := by
  cases a with
  | int i =>
    cases b with
    | int j =>
      by_cases h1 : isPlayer (.int i) n = true
      · by_cases h2 : isPlayer (.int j) n = true
        · (simp [mOf, bd, bdS, gC, gV, op1, op2, opN, gBin, gUn, gEsc, gN, gK, gCall, FX.gTup, gLst, gDic, gTst, gNot, gAnd, gOr, gAndV, gOrV, gNotV, gIf, gChain, bindT, bindTs, sNil, sSeq, sDrop, sRet, sRetN, sBrk, sCnt, sIf, sStuck, sSet, sUnp, gFn, argR, rdv, Rz.r, fAdd, fSub, fMul, fDiv, fMod, fNeg, fLt, fGt, fGe, fIsN, fNotN, fEq, fNe, fLe, fIn2, fNotIn2, fIx, fLen, fInt, gTyEq, gTyNe, gIsI, gSl, gNoP, gPart, fSl, fRev, fTup, vs?, rdA, zB, tyD, shI, shN, shB, eqvI, eqvS, q_is_match, b_is_match, player_eq, isMatch, h1, h2] <;> try rfl)
        · (simp [mOf, bd, bdS, gC, gV, op1, op2, opN, gBin, gUn, gEsc, gN, gK, gCall, FX.gTup, gLst, gDic, gTst, gNot, gAnd, gOr, gAndV, gOrV, gNotV, gIf, gChain, bindT, bindTs, sNil, sSeq, sDrop, sRet, sRetN, sBrk, sCnt, sIf, sStuck, sSet, sUnp, gFn, argR, rdv, Rz.r, fAdd, fSub, fMul, fDiv, fMod, fNeg, fLt, fGt, fGe, fIsN, fNotN, fEq, fNe, fLe, fIn2, fNotIn2, fIx, fLen, fInt, gTyEq, gTyNe, gIsI, gSl, gNoP, gPart, fSl, fRev, fTup, vs?, rdA, zB, tyD, shI, shN, shB, eqvI, eqvS, q_is_match, b_is_match, player_eq, isMatch, h1, h2] <;> try rfl)
      · (simp [mOf, bd, bdS, gC, gV, op1, op2, opN, gBin, gUn, gEsc, gN, gK, gCall, FX.gTup, gLst, gDic, gTst, gNot, gAnd, gOr, gAndV, gOrV, gNotV, gIf, gChain, bindT, bindTs, sNil, sSeq, sDrop, sRet, sRetN, sBrk, sCnt, sIf, sStuck, sSet, sUnp, gFn, argR, rdv, Rz.r, fAdd, fSub, fMul, fDiv, fMod, fNeg, fLt, fGt, fGe, fIsN, fNotN, fEq, fNe, fLe, fIn2, fNotIn2, fIx, fLen, fInt, gTyEq, gTyNe, gIsI, gSl, gNoP, gPart, fSl, fRev, fTup, vs?, rdA, zB, tyD, shI, shN, shB, eqvI, eqvS, q_is_match, b_is_match, player_eq, isMatch, h1] <;> try rfl)
    | _ =>
      by_cases h1 : isPlayer (.int i) n = true
      · (simp [mOf, bd, bdS, gC, gV, op1, op2, opN, gBin, gUn, gEsc, gN, gK, gCall, FX.gTup, gLst, gDic, gTst, gNot, gAnd, gOr, gAndV, gOrV, gNotV, gIf, gChain, bindT, bindTs, sNil, sSeq, sDrop, sRet, sRetN, sBrk, sCnt, sIf, sStuck, sSet, sUnp, gFn, argR, rdv, Rz.r, fAdd, fSub, fMul, fDiv, fMod, fNeg, fLt, fGt, fGe, fIsN, fNotN, fEq, fNe, fLe, fIn2, fNotIn2, fIx, fLen, fInt, gTyEq, gTyNe, gIsI, gSl, gNoP, gPart, fSl, fRev, fTup, vs?, rdA, zB, tyD, shI, shN, shB, eqvI, eqvS, q_is_match, b_is_match, player_eq, isMatch, h1, ipn, ipb, ips, ipl, ipt, ipd] <;> try rfl)
      · (simp [mOf, bd, bdS, gC, gV, op1, op2, opN, gBin, gUn, gEsc, gN, gK, gCall, FX.gTup, gLst, gDic, gTst, gNot, gAnd, gOr, gAndV, gOrV, gNotV, gIf, gChain, bindT, bindTs, sNil, sSeq, sDrop, sRet, sRetN, sBrk, sCnt, sIf, sStuck, sSet, sUnp, gFn, argR, rdv, Rz.r, fAdd, fSub, fMul, fDiv, fMod, fNeg, fLt, fGt, fGe, fIsN, fNotN, fEq, fNe, fLe, fIn2, fNotIn2, fIx, fLen, fInt, gTyEq, gTyNe, gIsI, gSl, gNoP, gPart, fSl, fRev, fTup, vs?, rdA, zB, tyD, shI, shN, shB, eqvI, eqvS, q_is_match, b_is_match, player_eq, isMatch, h1, ipn, ipb, ips, ipl, ipt, ipd] <;> try rfl)
  | _ => (simp [mOf, bd, bdS, gC, gV, op1, op2, opN, gBin, gUn, gEsc, gN, gK, gCall, FX.gTup, gLst, gDic, gTst, gNot, gAnd, gOr, gAndV, gOrV, gNotV, gIf, gChain, bindT, bindTs, sNil, sSeq, sDrop, sRet, sRetN, sBrk, sCnt, sIf, sStuck, sSet, sUnp, gFn, argR, rdv, Rz.r, fAdd, fSub, fMul, fDiv, fMod, fNeg, fLt, fGt, fGe, fIsN, fNotN, fEq, fNe, fLe, fIn2, fNotIn2, fIx, fLen, fInt, gTyEq, gTyNe, gIsI, gSl, gNoP, gPart, fSl, fRev, fTup, vs?, rdA, zB, tyD, shI, shN, shB, eqvI, eqvS, q_is_match, b_is_match, player_eq, isMatch, ipn, ipb, ips, ipl, ipt, ipd] <;> try rfl)
def isPlayed (kd : Str) (n : Int) (d : D) : Bool := match d with
  | .tuple [.int i, .int j, w] => isPlayer (.int i) n && isPlayer (.int j) n && decide (i < j) && isOutcome kd i j w
  | _ => false
theorem played_eq (kd : Str) (hk : SeqAt.shaped (.str kd) = true) (n : Int) (d : D) (s : Y.S) : m__is_played [.v (.str kd), .v (.int n), .v d] s = some (.ok (.v (.bool (isPlayed kd n d))), s) := by
  cases d with
  | tuple ds =>
    match ds with
    | [] => (simp [mOf, bd, bdS, gC, gV, op1, op2, opN, gBin, gUn, gEsc, gN, gK, gCall, FX.gTup, gLst, gDic, gTst, gNot, gAnd, gOr, gAndV, gOrV, gNotV, gIf, gChain, bindT, bindTs, sNil, sSeq, sDrop, sRet, sRetN, sBrk, sCnt, sIf, sStuck, sSet, sUnp, gFn, argR, rdv, Rz.r, fAdd, fSub, fMul, fDiv, fMod, fNeg, fLt, fGt, fGe, fIsN, fNotN, fEq, fNe, fLe, fIn2, fNotIn2, fIx, fLen, fInt, gTyEq, gTyNe, gIsI, gSl, gNoP, gPart, fSl, fRev, fTup, vs?, rdA, zB, tyD, shI, shN, shB, eqvI, eqvS, q__is_played, b__is_played, tup3_eq, isTupOf, isPlayed] <;> try rfl)
    | [a] => (simp [mOf, bd, bdS, gC, gV, op1, op2, opN, gBin, gUn, gEsc, gN, gK, gCall, FX.gTup, gLst, gDic, gTst, gNot, gAnd, gOr, gAndV, gOrV, gNotV, gIf, gChain, bindT, bindTs, sNil, sSeq, sDrop, sRet, sRetN, sBrk, sCnt, sIf, sStuck, sSet, sUnp, gFn, argR, rdv, Rz.r, fAdd, fSub, fMul, fDiv, fMod, fNeg, fLt, fGt, fGe, fIsN, fNotN, fEq, fNe, fLe, fIn2, fNotIn2, fIx, fLen, fInt, gTyEq, gTyNe, gIsI, gSl, gNoP, gPart, fSl, fRev, fTup, vs?, rdA, zB, tyD, shI, shN, shB, eqvI, eqvS, q__is_played, b__is_played, tup3_eq, isTupOf, isPlayed] <;> try rfl)
    | [a, b] => (simp [mOf, bd, bdS, gC, gV, op1, op2, opN, gBin, gUn, gEsc, gN, gK, gCall, FX.gTup, gLst, gDic, gTst, gNot, gAnd, gOr, gAndV, gOrV, gNotV, gIf, gChain, bindT, bindTs, sNil, sSeq, sDrop, sRet, sRetN, sBrk, sCnt, sIf, sStuck, sSet, sUnp, gFn, argR, rdv, Rz.r, fAdd, fSub, fMul, fDiv, fMod, fNeg, fLt, fGt, fGe, fIsN, fNotN, fEq, fNe, fLe, fIn2, fNotIn2, fIx, fLen, fInt, gTyEq, gTyNe, gIsI, gSl, gNoP, gPart, fSl, fRev, fTup, vs?, rdA, zB, tyD, shI, shN, shB, eqvI, eqvS, q__is_played, b__is_played, tup3_eq, isTupOf, isPlayed] <;> try rfl)
    | [a, b, c] =>
      cases a with
      | int i =>
        cases b with
        | int j =>
          by_cases h : isMatch n (.int i) (.int j) = true
          · have h' : (isPlayer (.int i) n && isPlayer (.int j) n && decide (i < j)) = true := h
            (simp [mOf, bd, bdS, gC, gV, op1, op2, opN, gBin, gUn, gEsc, gN, gK, gCall, FX.gTup, gLst, gDic, gTst, gNot, gAnd, gOr, gAndV, gOrV, gNotV, gIf, gChain, bindT, bindTs, sNil, sSeq, sDrop, sRet, sRetN, sBrk, sCnt, sIf, sStuck, sSet, sUnp, gFn, argR, rdv, Rz.r, fAdd, fSub, fMul, fDiv, fMod, fNeg, fLt, fGt, fGe, fIsN, fNotN, fEq, fNe, fLe, fIn2, fNotIn2, fIx, fLen, fInt, gTyEq, gTyNe, gIsI, gSl, gNoP, gPart, fSl, fRev, fTup, vs?, rdA, zB, tyD, shI, shN, shB, eqvI, eqvS, q__is_played, b__is_played, tup3_eq, isTupOf, isPlayed, match_eq, h, h', outcome_eq kd hk] <;> try rfl)
          · have h1 : isMatch n (.int i) (.int j) = false := by simpa using h
            have h' : (isPlayer (.int i) n && isPlayer (.int j) n && decide (i < j)) = false := h1
            (simp [mOf, bd, bdS, gC, gV, op1, op2, opN, gBin, gUn, gEsc, gN, gK, gCall, FX.gTup, gLst, gDic, gTst, gNot, gAnd, gOr, gAndV, gOrV, gNotV, gIf, gChain, bindT, bindTs, sNil, sSeq, sDrop, sRet, sRetN, sBrk, sCnt, sIf, sStuck, sSet, sUnp, gFn, argR, rdv, Rz.r, fAdd, fSub, fMul, fDiv, fMod, fNeg, fLt, fGt, fGe, fIsN, fNotN, fEq, fNe, fLe, fIn2, fNotIn2, fIx, fLen, fInt, gTyEq, gTyNe, gIsI, gSl, gNoP, gPart, fSl, fRev, fTup, vs?, rdA, zB, tyD, shI, shN, shB, eqvI, eqvS, q__is_played, b__is_played, tup3_eq, isTupOf, isPlayed, match_eq, h1, h'] <;> try rfl)
        | _ => (simp [mOf, bd, bdS, gC, gV, op1, op2, opN, gBin, gUn, gEsc, gN, gK, gCall, FX.gTup, gLst, gDic, gTst, gNot, gAnd, gOr, gAndV, gOrV, gNotV, gIf, gChain, bindT, bindTs, sNil, sSeq, sDrop, sRet, sRetN, sBrk, sCnt, sIf, sStuck, sSet, sUnp, gFn, argR, rdv, Rz.r, fAdd, fSub, fMul, fDiv, fMod, fNeg, fLt, fGt, fGe, fIsN, fNotN, fEq, fNe, fLe, fIn2, fNotIn2, fIx, fLen, fInt, gTyEq, gTyNe, gIsI, gSl, gNoP, gPart, fSl, fRev, fTup, vs?, rdA, zB, tyD, shI, shN, shB, eqvI, eqvS, q__is_played, b__is_played, tup3_eq, isTupOf, isPlayed, match_eq, isMatch] <;> try rfl)
      | _ => (simp [mOf, bd, bdS, gC, gV, op1, op2, opN, gBin, gUn, gEsc, gN, gK, gCall, FX.gTup, gLst, gDic, gTst, gNot, gAnd, gOr, gAndV, gOrV, gNotV, gIf, gChain, bindT, bindTs, sNil, sSeq, sDrop, sRet, sRetN, sBrk, sCnt, sIf, sStuck, sSet, sUnp, gFn, argR, rdv, Rz.r, fAdd, fSub, fMul, fDiv, fMod, fNeg, fLt, fGt, fGe, fIsN, fNotN, fEq, fNe, fLe, fIn2, fNotIn2, fIx, fLen, fInt, gTyEq, gTyNe, gIsI, gSl, gNoP, gPart, fSl, fRev, fTup, vs?, rdA, zB, tyD, shI, shN, shB, eqvI, eqvS, q__is_played, b__is_played, tup3_eq, isTupOf, isPlayed, match_eq, isMatch] <;> try rfl)
    | a :: b :: c :: e :: l => (simp [mOf, bd, bdS, gC, gV, op1, op2, opN, gBin, gUn, gEsc, gN, gK, gCall, FX.gTup, gLst, gDic, gTst, gNot, gAnd, gOr, gAndV, gOrV, gNotV, gIf, gChain, bindT, bindTs, sNil, sSeq, sDrop, sRet, sRetN, sBrk, sCnt, sIf, sStuck, sSet, sUnp, gFn, argR, rdv, Rz.r, fAdd, fSub, fMul, fDiv, fMod, fNeg, fLt, fGt, fGe, fIsN, fNotN, fEq, fNe, fLe, fIn2, fNotIn2, fIx, fLen, fInt, gTyEq, gTyNe, gIsI, gSl, gNoP, gPart, fSl, fRev, fTup, vs?, rdA, zB, tyD, shI, shN, shB, eqvI, eqvS, q__is_played, b__is_played, tup3_eq, isTupOf, isPlayed] <;> try rfl)
  | _ => (simp [mOf, bd, bdS, gC, gV, op1, op2, opN, gBin, gUn, gEsc, gN, gK, gCall, FX.gTup, gLst, gDic, gTst, gNot, gAnd, gOr, gAndV, gOrV, gNotV, gIf, gChain, bindT, bindTs, sNil, sSeq, sDrop, sRet, sRetN, sBrk, sCnt, sIf, sStuck, sSet, sUnp, gFn, argR, rdv, Rz.r, fAdd, fSub, fMul, fDiv, fMod, fNeg, fLt, fGt, fGe, fIsN, fNotN, fEq, fNe, fLe, fIn2, fNotIn2, fIx, fLen, fInt, gTyEq, gTyNe, gIsI, gSl, gNoP, gPart, fSl, fRev, fTup, vs?, rdA, zB, tyD, shI, shN, shB, eqvI, eqvS, q__is_played, b__is_played, tup3_eq, isTupOf, isPlayed] <;> try rfl)
theorem isPlayed_inv {kd : Str} {n : Int} {d : D} (h : isPlayed kd n d = true) : ∃ i j w, d = .tuple [.int i, .int j, w] := by
  unfold isPlayed at h
  split at h
  · exact ⟨_, _, _, rfl⟩
  · cases h
def arePlayed (kd : Str) (n : Int) : List Int → List D → Bool
  | _, [] => true
  | b, d :: ds => match d with
    | .tuple [.int i, .int j, w] => isPlayed kd n (.tuple [.int i, .int j, w]) && !leT [i, j] b && arePlayed kd n [i, j] ds
    | _ => false
theorem bodyAP_no (kd : Str) (hk : SeqAt.shaped (.str kd) = true) (n : Int) (l d : D) (x a b c : Option R) (s : Y.S) (h : isPlayed kd n d = false) :
    l__are_played_1 [some (.v (.str kd)), some (.v (.int n)), some (.v l), x, some (.v d), a, b, c] s = some (.rt (.v (.bool false)), [some (.v (.str kd)), some (.v (.int n)), some (.v l), x, some (.v d), a, b, c], s) := by
  (simp [mOf, bd, bdS, gC, gV, op1, op2, opN, gBin, gUn, gEsc, gN, gK, gCall, FX.gTup, gLst, gDic, gTst, gNot, gAnd, gOr, gAndV, gOrV, gNotV, gIf, gChain, bindT, bindTs, sNil, sSeq, sDrop, sRet, sRetN, sBrk, sCnt, sIf, sStuck, sSet, sUnp, gFn, argR, rdv, Rz.r, fAdd, fSub, fMul, fDiv, fMod, fNeg, fLt, fGt, fGe, fIsN, fNotN, fEq, fNe, fLe, fIn2, fNotIn2, fIx, fLen, fInt, gTyEq, gTyNe, gIsI, gSl, gNoP, gPart, fSl, fRev, fTup, vs?, rdA, zB, tyD, shI, shN, shB, eqvI, eqvS, l__are_played_1, played_eq kd hk, h] <;> try rfl)
theorem bodyAP_le (kd : Str) (hk : SeqAt.shaped (.str kd) = true) (n bi bj i j : Int) (w l : D) (a b c : Option R) (s : Y.S) (h : isPlayed kd n (.tuple [.int i, .int j, w]) = true) (h2 : leT [i, j] [bi, bj] = true) :
    l__are_played_1 [some (.v (.str kd)), some (.v (.int n)), some (.v l), some (.v (.tuple [.int bi, .int bj])), some (.v (.tuple [.int i, .int j, w])), a, b, c] s =
      some (.rt (.v (.bool false)), [some (.v (.str kd)), some (.v (.int n)), some (.v l), some (.v (.tuple [.int bi, .int bj])), some (.v (.tuple [.int i, .int j, w])), some (.v (.int i)), some (.v (.int j)), some (.v w)], s) := by
  (simp [mOf, bd, bdS, gC, gV, op1, op2, opN, gBin, gUn, gEsc, gN, gK, gCall, FX.gTup, gLst, gDic, gTst, gNot, gAnd, gOr, gAndV, gOrV, gNotV, gIf, gChain, bindT, bindTs, sNil, sSeq, sDrop, sRet, sRetN, sBrk, sCnt, sIf, sStuck, sSet, sUnp, gFn, argR, rdv, Rz.r, fAdd, fSub, fMul, fDiv, fMod, fNeg, fLt, fGt, fGe, fIsN, fNotN, fEq, fNe, fLe, fIn2, fNotIn2, fIx, fLen, fInt, gTyEq, gTyNe, gIsI, gSl, gNoP, gPart, fSl, fRev, fTup, vs?, rdA, zB, tyD, shI, shN, shB, eqvI, eqvS, l__are_played_1, played_eq kd hk, h, h2, ints?, sizeOk] <;> try rfl)
theorem bodyAP_go (kd : Str) (hk : SeqAt.shaped (.str kd) = true) (n bi bj i j : Int) (w l : D) (a b c : Option R) (s : Y.S) (h : isPlayed kd n (.tuple [.int i, .int j, w]) = true) (h2 : leT [i, j] [bi, bj] = false) :
    l__are_played_1 [some (.v (.str kd)), some (.v (.int n)), some (.v l), some (.v (.tuple [.int bi, .int bj])), some (.v (.tuple [.int i, .int j, w])), a, b, c] s =
      some (.nx, [some (.v (.str kd)), some (.v (.int n)), some (.v l), some (.v (.tuple [.int i, .int j])), some (.v (.tuple [.int i, .int j, w])), some (.v (.int i)), some (.v (.int j)), some (.v w)], s) := by
  (simp [mOf, bd, bdS, gC, gV, op1, op2, opN, gBin, gUn, gEsc, gN, gK, gCall, FX.gTup, gLst, gDic, gTst, gNot, gAnd, gOr, gAndV, gOrV, gNotV, gIf, gChain, bindT, bindTs, sNil, sSeq, sDrop, sRet, sRetN, sBrk, sCnt, sIf, sStuck, sSet, sUnp, gFn, argR, rdv, Rz.r, fAdd, fSub, fMul, fDiv, fMod, fNeg, fLt, fGt, fGe, fIsN, fNotN, fEq, fNe, fLe, fIn2, fNotIn2, fIx, fLen, fInt, gTyEq, gTyNe, gIsI, gSl, gNoP, gPart, fSl, fRev, fTup, vs?, rdA, zB, tyD, shI, shN, shB, eqvI, eqvS, l__are_played_1, played_eq kd hk, h, h2, ints?, sizeOk] <;> try rfl)
theorem ap_loop (kd : Str) (hk : SeqAt.shaped (.str kd) = true) (n : Int) (l : D) : ∀ (ds : List D) (bi bj : Int) (a b c e : Option R) (s : Y.S), ∃ Γ', 
    forG (.n 4) l__are_played_1 ds [some (.v (.str kd)), some (.v (.int n)), some (.v l), some (.v (.tuple [.int bi, .int bj])), a, b, c, e] s =
      some (if arePlayed kd n [bi, bj] ds = true then .nx else .rt (.v (.bool false)), Γ', s) := by
  intro ds
  induction ds with
  | nil => exact fun bi bj a b c e s => ⟨_, rfl⟩
  | cons d ds ih =>
    intro bi bj a b c e s
    by_cases h : isPlayed kd n d = true
    · obtain ⟨i, j, w, rfl⟩ := isPlayed_inv h
      by_cases h2 : leT [i, j] [bi, bj] = true
      · have e1 : arePlayed kd n [bi, bj] (.tuple [.int i, .int j, w] :: ds) = false := by simp [arePlayed, h2]
        refine ⟨[some (.v (.str kd)), some (.v (.int n)), some (.v l), some (.v (.tuple [.int bi, .int bj])), some (.v (.tuple [.int i, .int j, w])), some (.v (.int i)), some (.v (.int j)), some (.v w)], ?_⟩
        rw [forG_cons (Γ1 := [some (.v (.str kd)), some (.v (.int n)), some (.v l), some (.v (.tuple [.int bi, .int bj])), some (.v (.tuple [.int i, .int j, w])), b, c, e]) rfl, bodyAP_le kd hk n bi bj i j w l b c e s h h2, e1]
        rfl
      · have h3 : leT [i, j] [bi, bj] = false := by simpa using h2
        obtain ⟨Γ', q⟩ := ih i j (some (.v (.tuple [.int i, .int j, w]))) (some (.v (.int i))) (some (.v (.int j))) (some (.v w)) s
        refine ⟨Γ', ?_⟩
        have e1 : arePlayed kd n [bi, bj] (.tuple [.int i, .int j, w] :: ds) = arePlayed kd n [i, j] ds := by simp [arePlayed, h, h3]
        rw [forG_cons (Γ1 := [some (.v (.str kd)), some (.v (.int n)), some (.v l), some (.v (.tuple [.int bi, .int bj])), some (.v (.tuple [.int i, .int j, w])), b, c, e]) rfl, bodyAP_go kd hk n bi bj i j w l b c e s h h3, e1, ← q]
    · have h' : isPlayed kd n d = false := by simpa using h
      have e1 : arePlayed kd n [bi, bj] (d :: ds) = false := by
        unfold arePlayed
        split
        · rename_i i j w
          simp [h']
        · rfl
      refine ⟨[some (.v (.str kd)), some (.v (.int n)), some (.v l), some (.v (.tuple [.int bi, .int bj])), some (.v d), b, c, e], ?_⟩
      rw [forG_cons (Γ1 := [some (.v (.str kd)), some (.v (.int n)), some (.v l), some (.v (.tuple [.int bi, .int bj])), some (.v d), b, c, e]) rfl, bodyAP_no kd hk n l d _ b c e s h', e1]
      rfl
theorem b_are : (b__are_played : GS Y) = (sSeq (sSet 3 (FX.gTup (gK (gEsc (gUn fNeg (gC (.int 1)))) (gK (gEsc (gUn fNeg (gC (.int 1)))) gN))))
  (sSeq (sFor (.n 4) (gItL (gV 2)) l__are_played_1) (sRet (gC (.bool true))))) := rfl
theorem are_eq (kd : Str) (hk : SeqAt.shaped (.str kd) = true) (n : Int) (ds : List D) (s : Y.S) : m__are_played [.v (.str kd), .v (.int n), .v (.list ds)] s = some (.ok (.v (.bool (arePlayed kd n [-1, -1] ds))), s) := by
  obtain ⟨Γ', q⟩ := ap_loop kd hk n (.list ds) ds (-1) (-1) none none none none s
  cases h : arePlayed kd n [-1, -1] ds with
  | true =>
    rw [h] at q
    (simp [mOf, bd, bdS, gC, gV, op1, op2, opN, gBin, gUn, gEsc, gN, gK, gCall, FX.gTup, gLst, gDic, gTst, gNot, gAnd, gOr, gAndV, gOrV, gNotV, gIf, gChain, bindT, bindTs, sNil, sSeq, sDrop, sRet, sRetN, sBrk, sCnt, sIf, sStuck, sSet, sUnp, gFn, argR, rdv, Rz.r, fAdd, fSub, fMul, fDiv, fMod, fNeg, fLt, fGt, fGe, fIsN, fNotN, fEq, fNe, fLe, fIn2, fNotIn2, fIx, fLen, fInt, gTyEq, gTyNe, gIsI, gSl, gNoP, gPart, fSl, fRev, fTup, vs?, rdA, zB, tyD, shI, shN, shB, eqvI, eqvS, q__are_played, b_are, sFor, gItL, sizeOk, q] <;> try rfl)
  | false =>
    rw [h] at q
    (simp [mOf, bd, bdS, gC, gV, op1, op2, opN, gBin, gUn, gEsc, gN, gK, gCall, FX.gTup, gLst, gDic, gTst, gNot, gAnd, gOr, gAndV, gOrV, gNotV, gIf, gChain, bindT, bindTs, sNil, sSeq, sDrop, sRet, sRetN, sBrk, sCnt, sIf, sStuck, sSet, sUnp, gFn, argR, rdv, Rz.r, fAdd, fSub, fMul, fDiv, fMod, fNeg, fLt, fGt, fGe, fIsN, fNotN, fEq, fNe, fLe, fIn2, fNotIn2, fIx, fLen, fInt, gTyEq, gTyNe, gIsI, gSl, gNoP, gPart, fSl, fRev, fTup, vs?, rdA, zB, tyD, shI, shN, shB, eqvI, eqvS, q__are_played, b_are, sFor, gItL, sizeOk, q] <;> try rfl)
theorem sh_plain : SeqAt.shaped (.str (Str.ofString "plain")) = true := by decide +kernel
def isKind (z : Str) : Bool := decide (z = Str.ofString "plain") || decide (z = Str.ofString "ties")
def isLeague (d : D) : Bool := match d with
  | .tuple [.str kd, .int n, .list ds] => isKind kd && decide (2 ≤ n) && decide (n ≤ 6) && arePlayed kd n [-1, -1] ds
  | _ => false
theorem worths_eq (z : Str) : (t_WORTHS z).isSome = isKind z := by
  unfold t_WORTHS isKind
  by_cases h1 : z = Str.ofString "plain"
  · simp [h1]
  · by_cases h2 : z = Str.ofString "ties"
    · rw [if_neg h1, if_pos h2]; simp [h2]
    · rw [if_neg h1, if_neg h2]; simp [h1, h2]
theorem kind_sh {z : Str} (h : isKind z = true) : SeqAt.shaped (.str z) = true := by
  unfold isKind at h
  simp only [Bool.or_eq_true, decide_eq_true_eq] at h
  rcases h with rfl | rfl
  · exact sh_plain
  · exact sh_ties
theorem league_eq (d : D) (s : Y.S) : m_is_league [.v d] s = some (.ok (.v (.bool (isLeague d))), s) := by
  cases d with
  | tuple ds =>
    match ds with
    | [] => (simp [mOf, bd, bdS, gC, gV, op1, op2, opN, gBin, gUn, gEsc, gN, gK, gCall, FX.gTup, gLst, gDic, gTst, gNot, gAnd, gOr, gAndV, gOrV, gNotV, gIf, gChain, bindT, bindTs, sNil, sSeq, sDrop, sRet, sRetN, sBrk, sCnt, sIf, sStuck, sSet, sUnp, gFn, argR, rdv, Rz.r, fAdd, fSub, fMul, fDiv, fMod, fNeg, fLt, fGt, fGe, fIsN, fNotN, fEq, fNe, fLe, fIn2, fNotIn2, fIx, fLen, fInt, gTyEq, gTyNe, gIsI, gSl, gNoP, gPart, fSl, fRev, fTup, vs?, rdA, zB, tyD, shI, shN, shB, eqvI, eqvS, q_is_league, b_is_league, tup3_eq, isTupOf, isLeague] <;> try rfl)
    | [a] => (simp [mOf, bd, bdS, gC, gV, op1, op2, opN, gBin, gUn, gEsc, gN, gK, gCall, FX.gTup, gLst, gDic, gTst, gNot, gAnd, gOr, gAndV, gOrV, gNotV, gIf, gChain, bindT, bindTs, sNil, sSeq, sDrop, sRet, sRetN, sBrk, sCnt, sIf, sStuck, sSet, sUnp, gFn, argR, rdv, Rz.r, fAdd, fSub, fMul, fDiv, fMod, fNeg, fLt, fGt, fGe, fIsN, fNotN, fEq, fNe, fLe, fIn2, fNotIn2, fIx, fLen, fInt, gTyEq, gTyNe, gIsI, gSl, gNoP, gPart, fSl, fRev, fTup, vs?, rdA, zB, tyD, shI, shN, shB, eqvI, eqvS, q_is_league, b_is_league, tup3_eq, isTupOf, isLeague] <;> try rfl)
    | [a, b] => (simp [mOf, bd, bdS, gC, gV, op1, op2, opN, gBin, gUn, gEsc, gN, gK, gCall, FX.gTup, gLst, gDic, gTst, gNot, gAnd, gOr, gAndV, gOrV, gNotV, gIf, gChain, bindT, bindTs, sNil, sSeq, sDrop, sRet, sRetN, sBrk, sCnt, sIf, sStuck, sSet, sUnp, gFn, argR, rdv, Rz.r, fAdd, fSub, fMul, fDiv, fMod, fNeg, fLt, fGt, fGe, fIsN, fNotN, fEq, fNe, fLe, fIn2, fNotIn2, fIx, fLen, fInt, gTyEq, gTyNe, gIsI, gSl, gNoP, gPart, fSl, fRev, fTup, vs?, rdA, zB, tyD, shI, shN, shB, eqvI, eqvS, q_is_league, b_is_league, tup3_eq, isTupOf, isLeague] <;> try rfl)
    | a :: b :: c :: e :: l => (simp [mOf, bd, bdS, gC, gV, op1, op2, opN, gBin, gUn, gEsc, gN, gK, gCall, FX.gTup, gLst, gDic, gTst, gNot, gAnd, gOr, gAndV, gOrV, gNotV, gIf, gChain, bindT, bindTs, sNil, sSeq, sDrop, sRet, sRetN, sBrk, sCnt, sIf, sStuck, sSet, sUnp, gFn, argR, rdv, Rz.r, fAdd, fSub, fMul, fDiv, fMod, fNeg, fLt, fGt, fGe, fIsN, fNotN, fEq, fNe, fLe, fIn2, fNotIn2, fIx, fLen, fInt, gTyEq, gTyNe, gIsI, gSl, gNoP, gPart, fSl, fRev, fTup, vs?, rdA, zB, tyD, shI, shN, shB, eqvI, eqvS, q_is_league, b_is_league, tup3_eq, isTupOf, isLeague] <;> try rfl)
    | [a, b, c] =>
      cases a with
      | str z =>
        cases hz : isKind z with
        | true =>
          cases b with
          | int n =>
            by_cases h1 : 2 ≤ n
            · by_cases h2 : n ≤ 6
              · cases c with
                | list l => (simp [mOf, bd, bdS, gC, gV, op1, op2, opN, gBin, gUn, gEsc, gN, gK, gCall, FX.gTup, gLst, gDic, gTst, gNot, gAnd, gOr, gAndV, gOrV, gNotV, gIf, gChain, bindT, bindTs, sNil, sSeq, sDrop, sRet, sRetN, sBrk, sCnt, sIf, sStuck, sSet, sUnp, gFn, argR, rdv, Rz.r, fAdd, fSub, fMul, fDiv, fMod, fNeg, fLt, fGt, fGe, fIsN, fNotN, fEq, fNe, fLe, fIn2, fNotIn2, fIx, fLen, fInt, gTyEq, gTyNe, gIsI, gSl, gNoP, gPart, fSl, fRev, fTup, vs?, rdA, zB, tyD, shI, shN, shB, eqvI, eqvS, q_is_league, b_is_league, tup3_eq, isTupOf, isLeague, fKNotIn, worths_eq, hz, whole_eq, isWhole, h1, h2, are_eq z (kind_sh hz) n l] <;> try rfl)
                | _ => (simp [mOf, bd, bdS, gC, gV, op1, op2, opN, gBin, gUn, gEsc, gN, gK, gCall, FX.gTup, gLst, gDic, gTst, gNot, gAnd, gOr, gAndV, gOrV, gNotV, gIf, gChain, bindT, bindTs, sNil, sSeq, sDrop, sRet, sRetN, sBrk, sCnt, sIf, sStuck, sSet, sUnp, gFn, argR, rdv, Rz.r, fAdd, fSub, fMul, fDiv, fMod, fNeg, fLt, fGt, fGe, fIsN, fNotN, fEq, fNe, fLe, fIn2, fNotIn2, fIx, fLen, fInt, gTyEq, gTyNe, gIsI, gSl, gNoP, gPart, fSl, fRev, fTup, vs?, rdA, zB, tyD, shI, shN, shB, eqvI, eqvS, q_is_league, b_is_league, tup3_eq, isTupOf, isLeague, fKNotIn, worths_eq, hz, whole_eq, isWhole, h1, h2] <;> try rfl)
              · (simp [mOf, bd, bdS, gC, gV, op1, op2, opN, gBin, gUn, gEsc, gN, gK, gCall, FX.gTup, gLst, gDic, gTst, gNot, gAnd, gOr, gAndV, gOrV, gNotV, gIf, gChain, bindT, bindTs, sNil, sSeq, sDrop, sRet, sRetN, sBrk, sCnt, sIf, sStuck, sSet, sUnp, gFn, argR, rdv, Rz.r, fAdd, fSub, fMul, fDiv, fMod, fNeg, fLt, fGt, fGe, fIsN, fNotN, fEq, fNe, fLe, fIn2, fNotIn2, fIx, fLen, fInt, gTyEq, gTyNe, gIsI, gSl, gNoP, gPart, fSl, fRev, fTup, vs?, rdA, zB, tyD, shI, shN, shB, eqvI, eqvS, q_is_league, b_is_league, tup3_eq, isTupOf, isLeague, fKNotIn, worths_eq, hz, whole_eq, isWhole, h1, h2] <;> try rfl)
                cases c <;> simp [h2]
            · (simp [mOf, bd, bdS, gC, gV, op1, op2, opN, gBin, gUn, gEsc, gN, gK, gCall, FX.gTup, gLst, gDic, gTst, gNot, gAnd, gOr, gAndV, gOrV, gNotV, gIf, gChain, bindT, bindTs, sNil, sSeq, sDrop, sRet, sRetN, sBrk, sCnt, sIf, sStuck, sSet, sUnp, gFn, argR, rdv, Rz.r, fAdd, fSub, fMul, fDiv, fMod, fNeg, fLt, fGt, fGe, fIsN, fNotN, fEq, fNe, fLe, fIn2, fNotIn2, fIx, fLen, fInt, gTyEq, gTyNe, gIsI, gSl, gNoP, gPart, fSl, fRev, fTup, vs?, rdA, zB, tyD, shI, shN, shB, eqvI, eqvS, q_is_league, b_is_league, tup3_eq, isTupOf, isLeague, fKNotIn, worths_eq, hz, whole_eq, isWhole, h1] <;> try rfl)
              cases c <;> simp [h1]
          | _ => (simp [mOf, bd, bdS, gC, gV, op1, op2, opN, gBin, gUn, gEsc, gN, gK, gCall, FX.gTup, gLst, gDic, gTst, gNot, gAnd, gOr, gAndV, gOrV, gNotV, gIf, gChain, bindT, bindTs, sNil, sSeq, sDrop, sRet, sRetN, sBrk, sCnt, sIf, sStuck, sSet, sUnp, gFn, argR, rdv, Rz.r, fAdd, fSub, fMul, fDiv, fMod, fNeg, fLt, fGt, fGe, fIsN, fNotN, fEq, fNe, fLe, fIn2, fNotIn2, fIx, fLen, fInt, gTyEq, gTyNe, gIsI, gSl, gNoP, gPart, fSl, fRev, fTup, vs?, rdA, zB, tyD, shI, shN, shB, eqvI, eqvS, q_is_league, b_is_league, tup3_eq, isTupOf, isLeague, fKNotIn, worths_eq, hz, whole_eq, isWhole] <;> try rfl)
        | false =>
          (simp [mOf, bd, bdS, gC, gV, op1, op2, opN, gBin, gUn, gEsc, gN, gK, gCall, FX.gTup, gLst, gDic, gTst, gNot, gAnd, gOr, gAndV, gOrV, gNotV, gIf, gChain, bindT, bindTs, sNil, sSeq, sDrop, sRet, sRetN, sBrk, sCnt, sIf, sStuck, sSet, sUnp, gFn, argR, rdv, Rz.r, fAdd, fSub, fMul, fDiv, fMod, fNeg, fLt, fGt, fGe, fIsN, fNotN, fEq, fNe, fLe, fIn2, fNotIn2, fIx, fLen, fInt, gTyEq, gTyNe, gIsI, gSl, gNoP, gPart, fSl, fRev, fTup, vs?, rdA, zB, tyD, shI, shN, shB, eqvI, eqvS, q_is_league, b_is_league, tup3_eq, isTupOf, isLeague, fKNotIn, worths_eq, hz] <;> try rfl)
          cases b <;> try (cases c <;> simp [hz])
      | _ => (simp [mOf, bd, bdS, gC, gV, op1, op2, opN, gBin, gUn, gEsc, gN, gK, gCall, FX.gTup, gLst, gDic, gTst, gNot, gAnd, gOr, gAndV, gOrV, gNotV, gIf, gChain, bindT, bindTs, sNil, sSeq, sDrop, sRet, sRetN, sBrk, sCnt, sIf, sStuck, sSet, sUnp, gFn, argR, rdv, Rz.r, fAdd, fSub, fMul, fDiv, fMod, fNeg, fLt, fGt, fGe, fIsN, fNotN, fEq, fNe, fLe, fIn2, fNotIn2, fIx, fLen, fInt, gTyEq, gTyNe, gIsI, gSl, gNoP, gPart, fSl, fRev, fTup, vs?, rdA, zB, tyD, shI, shN, shB, eqvI, eqvS, q_is_league, b_is_league, tup3_eq, isTupOf, isLeague] <;> try rfl)
  | _ => (simp [mOf, bd, bdS, gC, gV, op1, op2, opN, gBin, gUn, gEsc, gN, gK, gCall, FX.gTup, gLst, gDic, gTst, gNot, gAnd, gOr, gAndV, gOrV, gNotV, gIf, gChain, bindT, bindTs, sNil, sSeq, sDrop, sRet, sRetN, sBrk, sCnt, sIf, sStuck, sSet, sUnp, gFn, argR, rdv, Rz.r, fAdd, fSub, fMul, fDiv, fMod, fNeg, fLt, fGt, fGe, fIsN, fNotN, fEq, fNe, fLe, fIn2, fNotIn2, fIx, fLen, fInt, gTyEq, gTyNe, gIsI, gSl, gNoP, gPart, fSl, fRev, fTup, vs?, rdA, zB, tyD, shI, shN, shB, eqvI, eqvS, q_is_league, b_is_league, tup3_eq, isTupOf, isLeague] <;> try rfl)
end
end FX.Pg
set_option Elab.async false
set_option linter.all false
set_option maxRecDepth 100000
namespace FX.Pg
open PySem PySem.Spec L2 FX
inductive O3 where
  | a | t | b
deriving DecidableEq, Repr
def O3.d (i j : Int) : O3 → D
  | .a => .int i
  | .t => .none
  | .b => .int j
def kindS (t : Bool) : Str := if t = true then Str.ofString "ties" else Str.ofString "plain"
def pairsI (n : Nat) : List (Int × Int) := (List.range n).flatMap fun (i : Nat) => (List.range (n - 1 - i)).map fun (k : Nat) => ((i : Int), (i : Int) + 1 + (k : Int))
def encP : List (Int × Int) → List (Option O3) → List D
  | p :: ps, some o :: v => .tuple [.int p.1, .int p.2, o.d p.1 p.2] :: encP ps v
  | _ :: ps, none :: v => encP ps v
  | _, _ => []
theorem encP_nil (v : List (Option O3)) : encP [] v = [] := by cases v <;> rfl
structure Lg where
  t : Bool
  n : Nat
  v : List (Option O3)
def Lg.pl (l : Lg) : List D := encP (pairsI l.n) l.v
def Lg.d (l : Lg) : D := .tuple [.str (kindS l.t), .int (l.n : Nat), .list l.pl]
structure Lg.Ok (l : Lg) : Prop where
  h2 : 2 ≤ l.n
  h6 : l.n ≤ 6
  len : l.v.length = (pairsI l.n).length
  tie : l.t = false → some O3.t ∉ l.v
theorem kindS_isKind (t : Bool) : isKind (kindS t) = true := by cases t <;> decide +kernel
theorem kindS_sh (t : Bool) : SeqAt.shaped (.str (kindS t)) = true := kind_sh (kindS_isKind t)
theorem kindS_ties (t : Bool) : decide (kindS t = Str.ofString "ties") = t := by cases t <;> decide +kernel
theorem ncases {n : Nat} (h2 : 2 ≤ n) (h6 : n ≤ 6) : n = 2 ∨ n = 3 ∨ n = 4 ∨ n = 5 ∨ n = 6 := by omega
def riseP (n : Int) : Int × Int → List (Int × Int) → Prop
  | _, [] => True
  | b, p :: ps => 0 ≤ p.1 ∧ p.1 < p.2 ∧ p.2 < n ∧ (b.1 < p.1 ∨ b.1 = p.1 ∧ b.2 < p.2) ∧ riseP n p ps
instance : ∀ (n : Int) (b : Int × Int) (ps : List (Int × Int)), Decidable (riseP n b ps)
  | _, _, [] => .isTrue trivial
  | n, b, p :: ps => by
    have := instDecidableRiseP n p ps
    unfold riseP
    infer_instance
theorem pairs_rise {n : Nat} (h2 : 2 ≤ n) (h6 : n ≤ 6) : riseP n (-1, -1) (pairsI n) := by
  rcases ncases h2 h6 with rfl | rfl | rfl | rfl | rfl <;> decide +kernel
theorem leT2 (a b c d : Int) : leT [a, b] [c, d] = (decide (a < c) || (decide (a = c) && decide (b ≤ d))) := by
  unfold leT
  simp only [List.length_cons, List.length_nil, Nat.zero_add, Nat.min_self]
  unfold Ob.lexAt
  simp
  by_cases h : a = c
  · subst h
    simp [Ob.lexAt]
    by_cases h2 : b = d
    · subst h2; simp [Ob.lexAt]
    · simp [h2]
  · simp [h]; omega
theorem isOutcome_o {t : Bool} {i j : Int} {o : O3} (h : t = false → o ≠ .t) : isOutcome (kindS t) i j (o.d i j) = true := by
  cases o with
  | a => simp [O3.d, isOutcome]
  | b => simp [O3.d, isOutcome]
  | t =>
    cases t with
    | true => exact kindS_ties true
    | false => exact absurd rfl (h rfl)
theorem rise_le {n : Int} {b p : Int × Int} (h : b.1 < p.1 ∨ b.1 = p.1 ∧ b.2 < p.2) {ps : List (Int × Int)} (r : riseP n p ps) : riseP n b ps := by
  cases ps with
  | nil => trivial
  | cons q ps =>
    obtain ⟨a, c, d, e, f⟩ := r
    refine ⟨a, c, d, ?_, f⟩
    rcases h with h | h <;> rcases e with e | e <;> omega
theorem arePlayed_enc {t : Bool} {n : Int} : ∀ (ps : List (Int × Int)) (v : List (Option O3)) (b : Int × Int), riseP n b ps → (t = false → some O3.t ∉ v) → arePlayed (kindS t) n [b.1, b.2] (encP ps v) = true
  | [], v, b, _, _ => by rw [encP_nil]; rfl
  | p :: ps, [], b, _, _ => rfl
  | p :: ps, none :: v, b, r, h => by
    simp only [encP]
    exact arePlayed_enc ps v b (rise_le r.2.2.2.1 r.2.2.2.2) fun z q => h z (by simp [q])
  | p :: ps, some o :: v, b, r, h => by
    simp only [encP]
    obtain ⟨a, c, d, e, f⟩ := r
    have ih := arePlayed_enc ps v p f fun z q => h z (by simp [q])
    have ho : isOutcome (kindS t) p.1 p.2 (o.d p.1 p.2) = true := isOutcome_o fun z q => h z (by simp [q])
    unfold arePlayed
    simp only [ih, isPlayed, isPlayer, ho, leT2]
    rcases e with e | e
    · simp; omega
    · simp; omega
theorem Lg.Ok.isLeague {l : Lg} (h : l.Ok) : isLeague l.d = true := by
  have h1 := arePlayed_enc (t := l.t) (n := l.n) (pairsI l.n) l.v (-1, -1) (pairs_rise h.h2 h.h6) h.tie
  have h2 := h.h2
  have h3 := h.h6
  have e : arePlayed (kindS l.t) (l.n : Nat) [-1, -1] l.pl = true := h1
  unfold Lg.d Pg.isLeague
  simp only [kindS_isKind, e]
  simp; omega
end FX.Pg
set_option Elab.async false
set_option linter.all false
set_option maxRecDepth 100000
namespace FX.Pg
open PySem PySem.Spec L2 FX
section
variable {K : PySem.W.Frag} {sa : Addr} {ns : List Int}
structure SlI (t : Bool) (n : Nat) (way most : Nat) (ps : List (Int × Int)) (rest : List D) (Γ : Ev) (s : (DkY K sa ns).S) : Prop where
  ex : ∃ (dn rs : List (Int × Int)) (v : List (Option O3)) (x6 x7 x8 : Option R) (d : Dk), ps = dn ++ rs ∧ rest = enumD dn.length (rs.map prD) ∧
    Γ = [some (.h 0), some (.v (.str (kindS t))), some (.v (.int (n : Nat))), some (.v (.int (way : Nat))), some (.v (.int (most : Nat))), some (.o (.list (encP dn v))), x6, x7, x8] ∧
    s = dS d ∧ d.Ok ∧ v.length = dn.length ∧ (t = false → some O3.t ∉ v)
theorem encP_len : ∀ (ps : List (Int × Int)) (v : List (Option O3)), (encP ps v).length ≤ ps.length
  | [], v => by rw [encP_nil]; simp
  | p :: ps, [] => by simp [encP]
  | p :: ps, none :: v => by
    have := encP_len ps v
    simp only [encP, List.length_cons]; omega
  | p :: ps, some o :: v => by
    have := encP_len ps v
    simp only [encP, List.length_cons]; omega
theorem pairs_len {n : Nat} (h2 : 2 ≤ n) (h6 : n ≤ 6) : (pairsI n).length ≤ 15 := by
  rcases ncases h2 h6 with rfl | rfl | rfl | rfl | rfl <;> decide +kernel
end
end FX.Pg
set_option Elab.async false
set_option linter.all false
set_option maxRecDepth 100000
namespace FX
open PySem PySem.Spec L2
section
variable {Y : Sys} {g h : GS Y} {Γ Γ' Γ1 Γ2 : Ev} {s s' s1 s2 : Y.S} {Ψ : Fl × Ev × Y.S → Prop} {Φ : Oc R → Y.S → Prop}
def Wp (o : Option (Fl × Ev × Y.S)) (Ψ : Fl × Ev × Y.S → Prop) : Prop := ∃ out, o = some out ∧ Ψ out
def Rt (Φ : Oc R → Y.S → Prop) : Fl × Ev × Y.S → Prop
  | (.rt r, _, s') => Φ (.ok r) s'
  | (.nx, _, s') => Φ (.ok (.v .none)) s'
  | (.er c, _, s') => Φ (.er c) s'
  | _ => False
theorem wp_fn {N : Nat} {body : GS Y} {rs : List R} (h : Wp (body (rs.map some ++ List.replicate (N - rs.length) none) s) (Rt Φ)) : ∃ r s', mOf N body rs s = some (r, s') ∧ Φ r s' := by
  obtain ⟨⟨fl, Γ', s'⟩, e, p⟩ := h
  unfold mOf
  rw [e]
  cases fl with
  | nx => exact ⟨_, _, rfl, p⟩
  | rt r => exact ⟨_, _, rfl, p⟩
  | er c => exact ⟨_, _, rfl, p⟩
  | bk => exact p.elim
  | ct => exact p.elim
theorem wp_of {o : Option (Fl × Ev × Y.S)} {out : Fl × Ev × Y.S} (e : o = some out) (p : Ψ out) : Wp o Ψ := ⟨_, e, p⟩
theorem wp_seq (e : g Γ s = some (.nx, Γ', s')) (p : Wp (h Γ' s') Ψ) : Wp (sSeq g h Γ s) Ψ := by
  rw [seq_nx e]; exact p
theorem wp_ret {ge : GE Y} {d : D} (e : ge Γ s = some (.ok (.v d), Γ', s')) (p : Ψ (.rt (.v d), Γ', s')) : Wp (sRet ge Γ s) Ψ := by
  unfold sRet bdS
  rw [e]
  exact ⟨_, rfl, p⟩
theorem wp_reto {ge : GE Y} {d : D} (e : ge Γ s = some (.ok (.o d), Γ', s')) (p : Ψ (.rt (.o d), Γ', s')) : Wp (sRet ge Γ s) Ψ := by
  unfold sRet bdS
  rw [e]
  exact ⟨_, rfl, p⟩
theorem set_o {ge : GE Y} {d : D} {i : Nat} (e : ge Γ s = some (.ok (.o d), Γ', s')) : sSet i ge Γ s = some (.nx, Γ'.set i (some (.o d)), s') := by
  unfold sSet bdS
  rw [e]
theorem set_v {ge : GE Y} {d : D} {i : Nat} (e : ge Γ s = some (.ok (.v d), Γ', s')) : sSet i ge Γ s = some (.nx, Γ'.set i (some (.v d)), s') := by
  unfold sSet bdS
  rw [e]
theorem bin_of {f : D → D → Option Rz} {ga gb : GE Y} {ra rb : R} {d e : D} {z : Rz} (ha : ga Γ s = some (.ok ra, Γ1, s1)) (hb : gb Γ1 s1 = some (.ok rb, Γ2, s2)) (hd : rdv Γ2 ra = some d) (he : rdv Γ2 rb = some e) (hf : f d e = some z) :
    gBin f ga gb Γ s = some (.ok z.r, Γ2, s2) := by
  unfold gBin bd
  simp only [ha, bd, hb, op2, hd, he, hf]
theorem tst_of {g : GE Y} {b : Bool} (h : g Γ s = some (.ok (.v (.bool b)), Γ', s')) : gTst g Γ s = some (.ok b, Γ', s') := by
  unfold gTst bd
  simp only [h, rdv]
end
end FX
set_option Elab.async false
set_option linter.all false
set_option maxRecDepth 100000
namespace FX.Pg
open PySem PySem.Spec L2 FX
def okS (k : Nat) (z : Str) : Prop := (z.cps.toList.all fun c => decide (c < 1114112)) = true ∧ z.cps.size ≤ k
theorem okS.d {n m : Nat} {z : Str} (h : okS n z) : okD n m (.str z) := okD_str h.1 h.2
theorem okS.mono {n m : Nat} {z : Str} (h : okS n z) (e : n ≤ m) : okS m z := ⟨h.1, Nat.le_trans h.2 e⟩
theorem okS_int {i : Int} (h : i.natAbs < 1000000) : okS 7 (Str.ofString (toString i)) := by
  have e : (Str.ofString (toString i)).length = (toString i).length := ofString_length _
  have := int_text_length_le10 (k := 6) (by decide) h
  refine ⟨?_, ?_⟩
  · rw [Str.ofString_eq_toList]
    simp only [List.all_map, List.all_eq_true]
    intro c _
    simp only [Function.comp, decide_eq_true_eq]
    have h := c.valid
    simp only [UInt32.isValidChar, Nat.isValidChar] at h
    have : c.toNat = c.val.toNat := rfl
    omega
  · have : (Str.ofString (toString i)).cps.size = (Str.ofString (toString i)).length := rfl
    omega
theorem okI {m : Nat} {i : Int} (h : i.natAbs < 1000000) : okD 21 m (.int i) := by
  have hl : i.natAbs.log2 < 20 := by
    by_cases h0 : i.natAbs = 0
    · rw [h0]; decide
    · rw [Nat.log2_lt h0]
      exact Nat.lt_trans h (by decide)
  have a := okD_int (n := 100) (m := m) (i := i) (Nat.lt_trans h (by decide)) (by decide)
  refine ⟨a.ls, a.sh, ?_, a.dp, a.lf⟩
  simp only [PyData.weight]
  split <;> omega
theorem okc {n m : Nat} {d : D} {ds : List D} (h : okD 100 m d) (h' : okA n m ds) : okA (n + 101) m (d :: ds) := (okA_cons h h').mono (by omega) (Nat.le_refl _)
theorem okn {n m : Nat} : okA n m [] := okA_nil.mono (by omega) (Nat.le_refl _)
theorem oki {n m : Nat} {d : D} {ds : List D} (h : okD 21 m d) (h' : okA n m ds) : okA (n + 22) m (d :: ds) := (okA_cons h h').mono (by omega) (Nat.le_refl _)
theorem all_nil {P : D → Prop} : ∀ v ∈ ([] : List D), P v := fun _ h => nomatch h
theorem all_cons {P : D → Prop} {d : D} {ds : List D} (h : P d) (h' : ∀ v ∈ ds, P v) : ∀ v ∈ d :: ds, P v := fun v hv => by
  rcases List.mem_cons.mp hv with rfl | hv
  · exact h
  · exact h' v hv
theorem o_ok {m : Nat} {i j : Int} (hi : i.natAbs < 1000000) (hj : j.natAbs < 1000000) (o : O3) : okD 21 m (o.d i j) := by
  cases o
  · exact okI hi
  · exact okD_none
  · exact okI hj
theorem okI' {n m : Nat} {i : Int} (h : i.natAbs < 1000000) (hn : 21 ≤ n) : okD n m (.int i) := (okI (m := m) h).mono hn (Nat.le_refl _)
theorem okO' {n m : Nat} {i j : Int} {o : O3} (hi : i.natAbs < 1000000) (hj : j.natAbs < 1000000) (hn : 21 ≤ n) : okD n m (o.d i j) := (o_ok (m := m) hi hj o).mono hn (Nat.le_refl _)
theorem okT' {n m : Nat} {i : Int} (h : i.natAbs < 1000000) (hn : 7 ≤ n) : okD n m (.str (Str.ofString (i.repr))) := okS.d ((okS_int h).mono hn)
theorem okL' {n m : Nat} {z : Str} (h : (z.cps.toList.all fun c => decide (c < 1114112)) = true ∧ z.cps.size ≤ 7) (hn : 7 ≤ n) : okD n m (.str z) := okS.d (okS.mono h hn)
section
variable {K : PySem.W.Frag} {sa : Addr} {ns : List Int} {Y : Sys}
def mD (p : Int × Int) (o : O3) : D := .tuple [.int p.1, .int p.2, o.d p.1 p.2]
def isM (d : D) : Prop := ∃ (p : Int × Int) (o : O3), p.1.natAbs < 1000000 ∧ p.2.natAbs < 1000000 ∧ d = mD p o
theorem isM.ok {d : D} (h : isM d) : okD 410 4 d := by
  obtain ⟨p, o, h1, h2, rfl⟩ := h
  unfold mD
  (repeat' (first | exact all_nil | refine all_cons ?_ ?_ | exact okD_none | exact okD_bool | exact okD_dic | exact okI' (by omega) (by decide) | exact okO' (by omega) (by omega) (by decide) | exact okT' (by omega) (by decide) | exact okL' (by decide +kernel) (by decide) | exact okn | refine okc ?_ ?_ | refine oki ?_ ?_ | refine okD_tup ?_ | refine okD_lst ?_))
structure Row (k : Nat) (L : List D) : Prop where
  len : L.length ≤ k
  ok : ∀ d ∈ L, okD 410 4 d
theorem Row.d {L : List D} (h : Row 40 L) : okD 20000 6 (.list L) := (okD_lst (okA_of h.ok)).mono (by
  have := h.len
  show (410 + 1) * L.length ≤ 20000
  omega) (by decide)
theorem Row.t {L : List D} (h : Row 40 L) : okD 20000 6 (.tuple L) := (okD_tup (okA_of h.ok)).mono (by
  have := h.len
  show (410 + 1) * L.length ≤ 20000
  omega) (by decide)
theorem Row.app {a b : Nat} {L M : List D} (h : Row a L) (h' : Row b M) : Row (a + b) (L ++ M) := ⟨by
  have := h.len
  have := h'.len
  rw [List.length_append]; omega, fun d hd => by
  rcases List.mem_append.mp hd with q | q
  · exact h.ok d q
  · exact h'.ok d q⟩
theorem Row.mono {a b : Nat} {L : List D} (h : Row a L) (e : a ≤ b) : Row b L := ⟨Nat.le_trans h.len e, h.ok⟩
theorem Row.cut {a : Nat} {L : List D} (h : Row a L) (lo hi : Option Int) : Row a (cutD L lo hi) := ⟨by
  have := h.len
  unfold cutD
  rw [List.length_take, List.length_drop]; omega, fun d hd => h.ok d (List.mem_of_mem_drop (List.mem_of_mem_take hd))⟩
theorem Row.rev {a : Nat} {L : List D} (h : Row a L) : Row a L.reverse := ⟨by rw [List.length_reverse]; exact h.len, fun d hd => h.ok d (List.mem_reverse.mp hd)⟩
theorem Row.one {d : D} (h : okD 410 4 d) : Row 1 [d] := ⟨Nat.le_refl _, fun x hx => by
  rcases List.mem_singleton.mp hx with rfl
  exact h⟩
theorem Row.d' {L : List D} (h : Row 49 L) : okD 30000 8 (.list L) := (okD_lst (okA_of h.ok)).mono (by
  have := h.len
  show (410 + 1) * L.length ≤ 30000
  omega) (by decide)
theorem Row.t' {L : List D} (h : Row 49 L) : okD 30000 8 (.tuple L) := (okD_tup (okA_of h.ok)).mono (by
  have := h.len
  show (410 + 1) * L.length ≤ 30000
  omega) (by decide)
theorem Row.two {L : List D} (h : Row 15 L) : okD 30000 8 (.list [.list L]) := (okD_lst (okA_cons (okD_lst (okA_of h.ok)) (okn (n := 0)))).mono (by
  have := h.len
  show (410 + 1) * L.length + 1 + 0 ≤ 30000
  omega) (by decide)
theorem Row.cons {a : Nat} {d : D} {L : List D} (h : okD 410 4 d) (h' : Row a L) : Row (a + 1) (d :: L) := ((Row.one h).app h').mono (by omega)
theorem encP_isM {n : Nat} (h6 : n ≤ 6) : ∀ (ps : List (Int × Int)) (v : List (Option O3)) (b : Int × Int), riseP n b ps → ∀ d ∈ encP ps v, isM d
  | [], v, b, _, d, h => by rw [encP_nil] at h; cases h
  | p :: ps, [], b, _, d, h => by cases h
  | p :: ps, none :: v, b, r, d, h => encP_isM h6 ps v p r.2.2.2.2 d h
  | p :: ps, some o :: v, b, r, d, h => by
    rcases List.mem_cons.mp h with rfl | h
    · obtain ⟨h1, h2, h3, _, _⟩ := r
      exact ⟨p, o, by omega, by omega, rfl⟩
    · exact encP_isM h6 ps v p r.2.2.2.2 d h
theorem Lg.Ok.isM {l : Lg} (h : l.Ok) : l.pl.length ≤ 15 ∧ ∀ d ∈ l.pl, isM d := ⟨Nat.le_trans (encP_len _ _) (pairs_len h.h2 h.h6), encP_isM h.h6 _ _ _ (pairs_rise h.h2 h.h6)⟩
theorem sizeOk_true {n : Nat} (h : n ≤ 1000000) : sizeOk n = true := by simpa [sizeOk] using h
theorem pairs_mem {n : Nat} (h2 : 2 ≤ n) (h6 : n ≤ 6) : ∀ p ∈ pairsI n, 0 ≤ p.1 ∧ p.1 < p.2 ∧ p.2 < (n : Nat) := by
  have key : ∀ (ps : List (Int × Int)) (b : Int × Int), riseP n b ps → ∀ p ∈ ps, 0 ≤ p.1 ∧ p.1 < p.2 ∧ p.2 < (n : Nat) := by
    intro ps
    induction ps with
    | nil => intro b _ p h; cases h
    | cons q ps ih =>
      intro b r p h
      obtain ⟨h1, h2, h3, _, h5⟩ := r
      rcases List.mem_cons.mp h with rfl | h
      · exact ⟨h1, h2, h3⟩
      · exact ih q h5 p h
  exact key _ _ (pairs_rise h2 h6)
end
end FX.Pg
set_option Elab.async false
set_option linter.all false
set_option maxRecDepth 100000
namespace FX.Pg
open PySem PySem.Spec L2 FX
section
variable {K : PySem.W.Frag} {sa : Addr} {ns : List Int} {Y : Sys}
theorem okS.len {k : Nat} {z : Str} (h : okS k z) : z.length ≤ k := h.2
end
end FX.Pg
set_option Elab.async false
set_option linter.all false
set_option maxRecDepth 100000
namespace FX.Pg
open PySem PySem.Spec L2 FX
theorem kb (a b : String) (r : Option Bool) (h : kitB a b = r) (d : D) (e : tyD d = a) : isI d b = r := by unfold isI; rw [e]; exact h
section
variable {Y : Sys}
theorem sh_str {z : Str} (h : (PyData.str z).leavesFit = true) : SeqAt.shaped (.str z) = true := by
  have : (PyData.str z).canLay0 = true := by
    simp only [PyData.leavesFit] at h
    simpa [PyData.canLay0] using h
  simp [SeqAt.shaped, this, PyData.depth]
end
end FX.Pg
set_option Elab.async false
set_option linter.all false
set_option maxRecDepth 100000
namespace FX.Pg
open PySem PySem.Spec L2 FX
def leftP : List (Int × Int) → List (Option O3) → List (Int × Int)
  | _ :: ps, some _ :: v => leftP ps v
  | p :: ps, none :: v => p :: leftP ps v
  | _, _ => []
def keysP : List (Int × Int) → List (Option O3) → List (Int × Int)
  | p :: ps, some _ :: v => p :: keysP ps v
  | _ :: ps, none :: v => keysP ps v
  | _, _ => []
def Lg.left (l : Lg) : List (Int × Int) := leftP (pairsI l.n) l.v
theorem keys_sub : ∀ (ps : List (Int × Int)) (v : List (Option O3)), ∀ q ∈ keysP ps v, q ∈ ps
  | [], v, q, h => by cases v <;> cases h
  | p :: ps, [], q, h => by cases h
  | p :: ps, none :: v, q, h => List.mem_cons_of_mem _ (keys_sub ps v q h)
  | p :: ps, some o :: v, q, h => by
    rcases List.mem_cons.mp h with rfl | h
    · exact List.mem_cons_self
    · exact List.mem_cons_of_mem _ (keys_sub ps v q h)
def lexP (b p : Int × Int) : Prop := b.1 < p.1 ∨ b.1 = p.1 ∧ b.2 < p.2
theorem lexP.trans {a b c : Int × Int} (h : lexP a b) (h' : lexP b c) : lexP a c := by
  unfold lexP at *
  omega
theorem rise_gt {n : Int} : ∀ {ps : List (Int × Int)} {b : Int × Int}, riseP n b ps → ∀ q ∈ ps, lexP b q
  | [], _, _, q, h => by cases h
  | p :: ps, b, r, q, h => by
    rcases List.mem_cons.mp h with rfl | h
    · exact r.2.2.2.1
    · exact lexP.trans r.2.2.2.1 (rise_gt r.2.2.2.2 q h)
theorem rise_nodup {n : Int} : ∀ {ps : List (Int × Int)} {b : Int × Int}, riseP n b ps → ps.Nodup
  | [], _, _ => List.nodup_nil
  | p :: ps, b, r => List.nodup_cons.mpr ⟨fun h => by
      have := rise_gt r.2.2.2.2 p h
      unfold lexP at this
      omega, rise_nodup r.2.2.2.2⟩
theorem pairs_nodup {n : Nat} (h2 : 2 ≤ n) (h6 : n ≤ 6) : (pairsI n).Nodup := rise_nodup (pairs_rise h2 h6)
theorem left_filter : ∀ (ps : List (Int × Int)) (v : List (Option O3)) (K : Int × Int → Bool), ps.Nodup → v.length = ps.length → (∀ q ∈ ps, K q = true ↔ q ∈ keysP ps v) → ps.filter (fun p => !K p) = leftP ps v
  | [], [], K, _, _, _ => rfl
  | p :: ps, none :: v, K, nd, hl, h => by
    have nd' := List.nodup_cons.mp nd
    have hp : K p = false := by
      cases q : K p with
      | false => rfl
      | true => exact absurd (keys_sub ps v p ((h p (by simp)).mp q)) nd'.1
    have ih := left_filter ps v K nd'.2 (by simpa using hl) fun q hq => h q (by simp [hq])
    simp [hp, leftP, ih]
  | p :: ps, some o :: v, K, nd, hl, h => by
    have nd' := List.nodup_cons.mp nd
    have hp : K p = true := (h p (by simp)).mpr (by simp [keysP])
    have ih := left_filter ps v K nd'.2 (by simpa using hl) fun q hq => by
      rw [h q (by simp [hq])]
      simp only [keysP, List.mem_cons]
      constructor
      · rintro (rfl | z)
        · exact absurd hq nd'.1
        · exact z
      · exact .inr
    simp [hp, leftP, ih]
def wth (t : Bool) : Int := if t = true then 2 else 1
def sh2 (t : Bool) : O3 → Int × Int
  | .a => (wth t, 0)
  | .t => (1, 1)
  | .b => (0, wth t)
def addI (h : List Int) (i x : Int) : List Int := h.set i.toNat (h.getD i.toNat 0 + x)
def stepH (t : Bool) (h : List Int) (p : Int × Int) (o : O3) : List Int := addI (addI h p.1 (sh2 t o).1) p.2 (sh2 t o).2
def ptsP (t : Bool) : List (Int × Int) → List (Option O3) → List Int → List Int
  | p :: ps, some o :: v, h => ptsP t ps v (stepH t h p o)
  | _ :: ps, none :: v, h => ptsP t ps v h
  | _, _, h => h
def Lg.pts (l : Lg) : List Int := ptsP l.t (pairsI l.n) l.v (List.replicate l.n 0)
def con (t : Bool) (p : Int × Int) (o : O3) (q : Int) : Int := (if p.1 = q then (sh2 t o).1 else 0) + (if p.2 = q then (sh2 t o).2 else 0)
def sumP (t : Bool) : List (Int × Int) → List (Option O3) → Int → Int
  | p :: ps, some o :: v, q => con t p o q + sumP t ps v q
  | _ :: ps, none :: v, q => sumP t ps v q
  | _, _, _ => 0
theorem addI_len (h : List Int) (i x : Int) : (addI h i x).length = h.length := by simp [addI]
theorem stepH_len (t : Bool) (h : List Int) (p : Int × Int) (o : O3) : (stepH t h p o).length = h.length := by simp [stepH, addI_len]
theorem ptsP_len (t : Bool) : ∀ (ps : List (Int × Int)) (v : List (Option O3)) (h : List Int), (ptsP t ps v h).length = h.length
  | [], v, h => by cases v <;> rfl
  | p :: ps, [], h => rfl
  | p :: ps, none :: v, h => ptsP_len t ps v h
  | p :: ps, some o :: v, h => by
    show (ptsP t ps v _).length = _
    rw [ptsP_len t ps v, stepH_len]
theorem addI_get (h : List Int) (i x : Int) (q : Nat) (hi : 0 ≤ i) (hq : q < h.length) : (addI h i x).getD q 0 = h.getD q 0 + if i = (q : Int) then x else 0 := by
  unfold addI
  by_cases e : i = (q : Int)
  · have e2 : i.toNat = q := by omega
    rw [if_pos e, e2]
    simp [List.getD_eq_getElem?_getD, List.getElem?_set, hq]
  · have e2 : i.toNat ≠ q := by omega
    rw [if_neg e]
    simp [List.getD_eq_getElem?_getD, List.getElem?_set, e2]
theorem ptsP_get (t : Bool) (q : Nat) : ∀ (ps : List (Int × Int)) (v : List (Option O3)) (h : List Int), q < h.length → (∀ p ∈ ps, 0 ≤ p.1 ∧ 0 ≤ p.2) → (ptsP t ps v h).getD q 0 = h.getD q 0 + sumP t ps v q
  | [], v, h, _, _ => by cases v <;> simp [ptsP, sumP]
  | p :: ps, [], h, _, _ => by simp [ptsP, sumP]
  | p :: ps, none :: v, h, hq, hp => by
    show (ptsP t ps v h).getD q 0 = _ + sumP t ps v q
    exact ptsP_get t q ps v h hq fun p hp' => hp p (by simp [hp'])
  | p :: ps, some o :: v, h, hq, hp => by
    have h0 := hp p (by simp)
    show (ptsP t ps v (stepH t h p o)).getD q 0 = _ + (con t p o q + sumP t ps v q)
    rw [ptsP_get t q ps v _ (by rw [stepH_len]; exact hq) fun p hp' => hp p (by simp [hp'])]
    unfold stepH
    rw [addI_get _ _ _ _ h0.2 (by rw [addI_len]; exact hq), addI_get _ _ _ _ h0.1 hq]
    unfold con
    omega
theorem Lg.pts_len (l : Lg) : l.pts.length = l.n := by simp [Lg.pts, ptsP_len]
theorem Lg.Ok.pts_eq {l : Lg} (h : l.Ok) : l.pts = (List.range l.n).map fun (q : Nat) => sumP l.t (pairsI l.n) l.v (q : Int) := by
  refine List.ext_getElem (by simp [Lg.pts_len]) fun q h1 h2 => ?_
  have hq : q < l.n := by simpa [Lg.pts_len] using h1
  have := ptsP_get l.t q (pairsI l.n) l.v (List.replicate l.n 0) (by simpa using hq) fun p hp => by
    have := pairs_mem h.h2 h.h6 p hp
    omega
  simp only [List.getElem_map, List.getElem_range]
  have e : l.pts.getD q 0 = l.pts[q] := by simp [List.getD_eq_getElem?_getD, h1]
  rw [← e]
  show (ptsP l.t (pairsI l.n) l.v (List.replicate l.n 0)).getD q 0 = _
  rw [this]
  simp [List.getD_eq_getElem?_getD, hq]
end FX.Pg
set_option Elab.async false
set_option linter.all false
set_option maxRecDepth 100000
namespace FX.Pg
open PySem PySem.Spec L2 FX
section
variable {Y : Sys} {s : Y.S}
theorem check_league_eq {l : Lg} (h : l.Ok) (s : Y.S) : m_check_league [.v l.d] s = some (.ok (.v .none), s) := by
  have e := league_eq (Y := Y) l.d s
  rw [h.isLeague] at e
  (simp [mOf, bd, bdS, gC, gV, op1, op2, opN, gBin, gUn, gEsc, gN, gK, gCall, FX.gTup, gLst, gDic, gTst, gNot, gAnd, gOr, gAndV, gOrV, gNotV, gIf, gChain, bindT, bindTs, sNil, sSeq, sDrop, sRet, sRetN, sBrk, sCnt, sIf, sStuck, sSet, sUnp, gFn, argR, rdv, Rz.r, fAdd, fSub, fMul, fDiv, fMod, fNeg, fLt, fGt, fGe, fIsN, fNotN, fEq, fNe, fLe, fIn2, fNotIn2, fIx, fLen, fInt, gTyEq, gTyNe, gIsI, gSl, gNoP, gPart, fSl, fRev, fTup, vs?, rdA, zB, tyD, shI, shN, shB, eqvI, eqvS, q_check_league, b_check_league, e] <;> try rfl)
theorem worths_kind (t : Bool) : t_WORTHS (kindS t) = some (.int (wth t)) := by cases t <;> rfl
theorem shares_eq (t : Bool) (i j : Int) (hij : i ≠ j) (o : O3) (s : Y.S) : m_shares_of [.v (.str (kindS t)), .v (.int i), .v (o.d i j)] s = some (.ok (.v (.tuple [.int (sh2 t o).1, .int (sh2 t o).2])), s) := by
  have hji : ¬ j = i := fun e => hij e.symm
  cases o with
  | a => (simp [mOf, bd, bdS, gC, gV, op1, op2, opN, gBin, gUn, gEsc, gN, gK, gCall, FX.gTup, gLst, gDic, gTst, gNot, gAnd, gOr, gAndV, gOrV, gNotV, gIf, gChain, bindT, bindTs, sNil, sSeq, sDrop, sRet, sRetN, sBrk, sCnt, sIf, sStuck, sSet, sUnp, gFn, argR, rdv, Rz.r, fAdd, fSub, fMul, fDiv, fMod, fNeg, fLt, fGt, fGe, fIsN, fNotN, fEq, fNe, fLe, fIn2, fNotIn2, fIx, fLen, fInt, gTyEq, gTyNe, gIsI, gSl, gNoP, gPart, fSl, fRev, fTup, vs?, rdA, zB, tyD, shI, shN, shB, eqvI, eqvS, q_shares_of, b_shares_of, O3.d, isNo, fKGet, worths_kind, sizeOk, sh2] <;> try rfl)
  | t => (simp [mOf, bd, bdS, gC, gV, op1, op2, opN, gBin, gUn, gEsc, gN, gK, gCall, FX.gTup, gLst, gDic, gTst, gNot, gAnd, gOr, gAndV, gOrV, gNotV, gIf, gChain, bindT, bindTs, sNil, sSeq, sDrop, sRet, sRetN, sBrk, sCnt, sIf, sStuck, sSet, sUnp, gFn, argR, rdv, Rz.r, fAdd, fSub, fMul, fDiv, fMod, fNeg, fLt, fGt, fGe, fIsN, fNotN, fEq, fNe, fLe, fIn2, fNotIn2, fIx, fLen, fInt, gTyEq, gTyNe, gIsI, gSl, gNoP, gPart, fSl, fRev, fTup, vs?, rdA, zB, tyD, shI, shN, shB, eqvI, eqvS, q_shares_of, b_shares_of, O3.d, isNo, sizeOk, sh2] <;> try rfl)
  | b => (simp [mOf, bd, bdS, gC, gV, op1, op2, opN, gBin, gUn, gEsc, gN, gK, gCall, FX.gTup, gLst, gDic, gTst, gNot, gAnd, gOr, gAndV, gOrV, gNotV, gIf, gChain, bindT, bindTs, sNil, sSeq, sDrop, sRet, sRetN, sBrk, sCnt, sIf, sStuck, sSet, sUnp, gFn, argR, rdv, Rz.r, fAdd, fSub, fMul, fDiv, fMod, fNeg, fLt, fGt, fGe, fIsN, fNotN, fEq, fNe, fLe, fIn2, fNotIn2, fIx, fLen, fInt, gTyEq, gTyNe, gIsI, gSl, gNoP, gPart, fSl, fRev, fTup, vs?, rdA, zB, tyD, shI, shN, shB, eqvI, eqvS, q_shares_of, b_shares_of, O3.d, isNo, fKGet, worths_kind, sizeOk, sh2, hji] <;> try rfl)
theorem ix_in {α : Type} {h : List α} {i : Int} (h0 : 0 ≤ i) (h1 : i < (h.length : Nat)) : ixN h.length i = some i.toNat := by
  unfold ixN
  rw [if_pos h0, if_pos h1]
theorem at_in {h : List Int} {i : Int} (h0 : 0 ≤ i) (h1 : i < (h.length : Nat)) : atI (h.map PyData.int) i = some (.int (h.getD i.toNat 0)) := by
  unfold atI
  rw [ix_in h0 (by simpa using h1)]
  have : i.toNat < h.length := by omega
  simp [List.getD_eq_getElem?_getD, this]
theorem upd_run {k : Nat} {f : Int → Int → Int} {gk ge : GE Y} {Γ : Ev} {h : List Int} {i x : Int} (hk : gk Γ s = some (.ok (.v (.int i)), Γ, s)) (hΓ : Γ[k]? = some (some (.o (.list (h.map PyData.int)))))
    (he : ge Γ s = some (.ok (.v (.int x)), Γ, s)) (h0 : 0 ≤ i) (h1 : i < (h.length : Nat)) : sUpd k f gk ge Γ s = some (.nx, Γ.set k (some (.o (.list ((h.set i.toNat (f (h.getD i.toNat 0) x)).map PyData.int)))), s) := by
  unfold sUpd
  rw [hΓ]
  simp only [bdS, hk]
  rw [show rdv Γ (.v (.int i)) = some (.int i) from rfl, hΓ]
  simp only [at_in h0 h1, he, bdS]
  rw [show rdv Γ (.v (.int x)) = some (.int x) from rfl, hΓ]
  have e := ix_in (h := h.map PyData.int) h0 (by simpa using h1)
  simp only [e]
  rw [List.map_set]
theorem behind_eq (h : List Int) (i j a b : Int) (hi : 0 ≤ i) (hi2 : i < (h.length : Nat)) (hj : 0 ≤ j) (hj2 : j < (h.length : Nat)) (s : Y.S) :
    m_points_behind [.v (.tuple (h.map PyData.int)), .v (.int i), .v (.int j), .v (.tuple [.int a, .int b])] s = some (.ok (.v (.tuple ((addI (addI h i a) j b).map PyData.int))), s) := by
  have key : ∃ r s', mOf 7 b_points_behind [.v (.tuple (h.map PyData.int)), .v (.int i), .v (.int j), .v (.tuple [.int a, .int b])] s = some (r, s') ∧ (s' = s ∧ r = .ok (.v (.tuple ((addI (addI h i a) j b).map PyData.int)))) := by
    refine wp_fn ?_
    unfold b_points_behind
    (refine' FX.wp_seq ?hst ?_; (case hst => (simp [mOf, bd, bdS, gC, gV, op1, op2, opN, gBin, gUn, gEsc, gN, gK, gCall, FX.gTup, gLst, gDic, gTst, gNot, gAnd, gOr, gAndV, gOrV, gNotV, gIf, gChain, bindT, bindTs, sNil, sSeq, sDrop, sRet, sRetN, sBrk, sCnt, sIf, sStuck, sSet, sUnp, gFn, argR, rdv, Rz.r, fAdd, fSub, fMul, fDiv, fMod, fNeg, fLt, fGt, fGe, fIsN, fNotN, fEq, fNe, fLe, fIn2, fNotIn2, fIx, fLen, fInt, gTyEq, gTyNe, gIsI, gSl, gNoP, gPart, fSl, fRev, fTup, vs?, rdA, zB, tyD, shI, shN, shB, eqvI, eqvS]; try exact ⟨rfl, rfl⟩)))
    (refine' FX.wp_seq ?hst ?_; (case hst => (simp [mOf, bd, bdS, gC, gV, op1, op2, opN, gBin, gUn, gEsc, gN, gK, gCall, FX.gTup, gLst, gDic, gTst, gNot, gAnd, gOr, gAndV, gOrV, gNotV, gIf, gChain, bindT, bindTs, sNil, sSeq, sDrop, sRet, sRetN, sBrk, sCnt, sIf, sStuck, sSet, sUnp, gFn, argR, rdv, Rz.r, fAdd, fSub, fMul, fDiv, fMod, fNeg, fLt, fGt, fGe, fIsN, fNotN, fEq, fNe, fLe, fIn2, fNotIn2, fIx, fLen, fInt, gTyEq, gTyNe, gIsI, gSl, gNoP, gPart, fSl, fRev, fTup, vs?, rdA, zB, tyD, shI, shN, shB, eqvI, eqvS, fList]; try exact ⟨rfl, rfl⟩)))
    refine wp_seq (upd_run (h := h) (i := i) (x := a) rfl rfl rfl hi hi2) ?_
    refine wp_seq (upd_run (h := addI h i a) (i := j) (x := b) rfl rfl rfl hj (by rw [addI_len]; exact hj2)) ?_
    refine wp_ret (d := .tuple ((addI (addI h i a) j b).map PyData.int)) (Γ' := _) (s' := s) rfl ⟨rfl, rfl⟩
  obtain ⟨r, s', e, rfl, rfl⟩ := key
  rw [q_points_behind]; exact e
theorem ph_loop (l : D) (t : Bool) (n : Int) (pl : D) (s : Y.S) : ∀ (ps : List (Int × Int)) (v : List (Option O3)) (h : List Int) (x5 x6 x7 : Option R), (∀ p ∈ ps, 0 ≤ p.1 ∧ p.1 < p.2 ∧ p.2 < (h.length : Nat)) →
    ∃ y5 y6 y7, forG (.t (.cons (.n 5) (.cons (.n 6) (.cons (.n 7) .nil)))) l_points_had_1 (encP ps v) [some (.v l), some (.v (.str (kindS t))), some (.v (.int n)), some (.v pl), some (.v (.tuple (h.map PyData.int))), x5, x6, x7] s =
      some (.nx, [some (.v l), some (.v (.str (kindS t))), some (.v (.int n)), some (.v pl), some (.v (.tuple ((ptsP t ps v h).map PyData.int))), y5, y6, y7], s)
  | [], v, h, x5, x6, x7, _ => by rw [encP_nil]; exact ⟨x5, x6, x7, by cases v <;> rfl⟩
  | p :: ps, [], h, x5, x6, x7, _ => ⟨x5, x6, x7, rfl⟩
  | p :: ps, none :: v, h, x5, x6, x7, hp => ph_loop l t n pl s ps v h x5 x6 x7 fun q hq => hp q (by simp [hq])
  | p :: ps, some o :: v, h, x5, x6, x7, hp => by
    have h0 := hp p (by simp)
    obtain ⟨y5, y6, y7, e⟩ := ph_loop l t n pl s ps v (stepH t h p o) (some (.v (.int p.1))) (some (.v (.int p.2))) (some (.v (o.d p.1 p.2))) fun q hq => by
      rw [stepH_len]; exact hp q (by simp [hq])
    refine ⟨y5, y6, y7, ?_⟩
    have hs := shares_eq (Y := Y) t p.1 p.2 (by omega) o s
    have hb := behind_eq (Y := Y) h p.1 p.2 (sh2 t o).1 (sh2 t o).2 h0.1 (by omega) (by omega) h0.2.2 s
    have body : l_points_had_1 [some (.v l), some (.v (.str (kindS t))), some (.v (.int n)), some (.v pl), some (.v (.tuple (h.map PyData.int))), some (.v (.int p.1)), some (.v (.int p.2)), some (.v (o.d p.1 p.2))] s =
      some (.nx, [some (.v l), some (.v (.str (kindS t))), some (.v (.int n)), some (.v pl), some (.v (.tuple ((stepH t h p o).map PyData.int))), some (.v (.int p.1)), some (.v (.int p.2)), some (.v (o.d p.1 p.2))], s) := by
      (simp [mOf, bd, bdS, gC, gV, op1, op2, opN, gBin, gUn, gEsc, gN, gK, gCall, FX.gTup, gLst, gDic, gTst, gNot, gAnd, gOr, gAndV, gOrV, gNotV, gIf, gChain, bindT, bindTs, sNil, sSeq, sDrop, sRet, sRetN, sBrk, sCnt, sIf, sStuck, sSet, sUnp, gFn, argR, rdv, Rz.r, fAdd, fSub, fMul, fDiv, fMod, fNeg, fLt, fGt, fGe, fIsN, fNotN, fEq, fNe, fLe, fIn2, fNotIn2, fIx, fLen, fInt, gTyEq, gTyNe, gIsI, gSl, gNoP, gPart, fSl, fRev, fTup, vs?, rdA, zB, tyD, shI, shN, shB, eqvI, eqvS, l_points_had_1, hs, hb, stepH] <;> try rfl)
    simp only [encP]
    rw [forG_cons (Γ1 := [some (.v l), some (.v (.str (kindS t))), some (.v (.int n)), some (.v pl), some (.v (.tuple (h.map PyData.int))), some (.v (.int p.1)), some (.v (.int p.2)), some (.v (o.d p.1 p.2))]) rfl, body]
    exact e
theorem points_had_eq {l : Lg} (hl : l.Ok) (s : Y.S) : m_points_had [.v l.d] s = some (.ok (.o (.list (l.pts.map PyData.int))), s) := by
  have h2 := hl.h2
  have h6 := hl.h6
  have hn : 2 ≤ (l.n : Int) := by omega
  have key : ∃ r s', mOf 8 b_points_had [.v l.d] s = some (r, s') ∧ (s' = s ∧ r = .ok (.o (.list (l.pts.map PyData.int)))) := by
    refine wp_fn ?_
    unfold b_points_had
    (refine' FX.wp_seq ?hst ?_; (case hst => (simp [mOf, bd, bdS, gC, gV, op1, op2, opN, gBin, gUn, gEsc, gN, gK, gCall, FX.gTup, gLst, gDic, gTst, gNot, gAnd, gOr, gAndV, gOrV, gNotV, gIf, gChain, bindT, bindTs, sNil, sSeq, sDrop, sRet, sRetN, sBrk, sCnt, sIf, sStuck, sSet, sUnp, gFn, argR, rdv, Rz.r, fAdd, fSub, fMul, fDiv, fMod, fNeg, fLt, fGt, fGe, fIsN, fNotN, fEq, fNe, fLe, fIn2, fNotIn2, fIx, fLen, fInt, gTyEq, gTyNe, gIsI, gSl, gNoP, gPart, fSl, fRev, fTup, vs?, rdA, zB, tyD, shI, shN, shB, eqvI, eqvS, check_league_eq hl]; try exact ⟨rfl, rfl⟩)))
    have hd : l.d = .tuple [.str (kindS l.t), .int (l.n : Nat), .list l.pl] := rfl
    (refine' FX.wp_seq ?hst ?_; (case hst => (simp [mOf, bd, bdS, gC, gV, op1, op2, opN, gBin, gUn, gEsc, gN, gK, gCall, FX.gTup, gLst, gDic, gTst, gNot, gAnd, gOr, gAndV, gOrV, gNotV, gIf, gChain, bindT, bindTs, sNil, sSeq, sDrop, sRet, sRetN, sBrk, sCnt, sIf, sStuck, sSet, sUnp, gFn, argR, rdv, Rz.r, fAdd, fSub, fMul, fDiv, fMod, fNeg, fLt, fGt, fGe, fIsN, fNotN, fEq, fNe, fLe, fIn2, fNotIn2, fIx, fLen, fInt, gTyEq, gTyNe, gIsI, gSl, gNoP, gPart, fSl, fRev, fTup, vs?, rdA, zB, tyD, shI, shN, shB, eqvI, eqvS, hd]; try exact ⟨rfl, rfl⟩)))
    have h1000 : (l.n : Int) ≤ 1000 := by omega
    (refine' FX.wp_seq ?hst ?_; (case hst => (simp [mOf, bd, bdS, gC, gV, op1, op2, opN, gBin, gUn, gEsc, gN, gK, gCall, FX.gTup, gLst, gDic, gTst, gNot, gAnd, gOr, gAndV, gOrV, gNotV, gIf, gChain, bindT, bindTs, sNil, sSeq, sDrop, sRet, sRetN, sBrk, sCnt, sIf, sStuck, sSet, sUnp, gFn, argR, rdv, Rz.r, fAdd, fSub, fMul, fDiv, fMod, fNeg, fLt, fGt, fGe, fIsN, fNotN, fEq, fNe, fLe, fIn2, fNotIn2, fIx, fLen, fInt, gTyEq, gTyNe, gIsI, gSl, gNoP, gPart, fSl, fRev, fTup, vs?, rdA, zB, tyD, shI, shN, shB, eqvI, eqvS, sizeOk, hn, h1000]; try exact ⟨rfl, rfl⟩)))
    have er : (List.replicate l.n (PyData.int 0)) = ((List.replicate l.n (0 : Int)).map PyData.int) := by simp
    rw [er]
    obtain ⟨y5, y6, y7, e⟩ := ph_loop (Y := Y) l.d l.t (l.n : Nat) (.list l.pl) s (pairsI l.n) l.v (List.replicate l.n 0) none none none (fun p hp => by
      have := pairs_mem h2 h6 p hp
      simp; omega)
    have eg : gItL (Y := Y) (gV 3) [some (.v l.d), some (.v (.str (kindS l.t))), some (.v (.int (l.n : Nat))), some (.v (.list l.pl)), some (.v (.tuple ((List.replicate l.n (0 : Int)).map PyData.int))), none, none, none] s =
      some (.ok l.pl, [some (.v l.d), some (.v (.str (kindS l.t))), some (.v (.int (l.n : Nat))), some (.v (.list l.pl)), some (.v (.tuple ((List.replicate l.n (0 : Int)).map PyData.int))), none, none, none], s) := rfl
    refine wp_seq ((for_run eg).trans e) ?_
    refine wp_reto (d := .list (l.pts.map PyData.int)) (Γ' := _) (s' := s) rfl ⟨rfl, rfl⟩
  obtain ⟨r, s', e, rfl, rfl⟩ := key
  rw [q_points_had]; exact e
end
end FX.Pg
set_option Elab.async false
set_option linter.all false
set_option maxRecDepth 100000
namespace FX.Pg
open PySem PySem.Spec L2 FX
mutual
/-- no truth and no dict in it -/
def plain : D → Bool
  | .none => true
  | .bool _ => false
  | .int _ => true
  | .str _ => true
  | .list ds => plains ds
  | .tuple ds => plains ds
  | .dict _ => false
def plains : List D → Bool
  | [] => true
  | d :: ds => plain d && plains ds
end
mutual
theorem eqv_plain : ∀ (d e : D), plain d = true → plain e = true → (PyData.eqv d e = true ↔ d = e)
  | .none, e, _, he => by cases e <;> simp_all [PyData.eqv, plain]
  | .bool _, _, h, _ => by simp [plain] at h
  | .int i, e, _, he => by cases e <;> simp_all [PyData.eqv, plain]
  | .str z, e, _, he => by cases e <;> simp_all [PyData.eqv, plain]
  | .dict _, _, h, _ => by simp [plain] at h
  | .list a, e, h, he => by
    cases e with
    | list b =>
      simp only [plain] at h he
      simp only [PyData.eqv, PyData.list.injEq]
      exact eqvs_plain a b h he
    | _ => simp_all [PyData.eqv, plain]
  | .tuple a, e, h, he => by
    cases e with
    | tuple b =>
      simp only [plain] at h he
      simp only [PyData.eqv, PyData.tuple.injEq]
      exact eqvs_plain a b h he
    | _ => simp_all [PyData.eqv, plain]
theorem eqvs_plain : ∀ (a b : List D), plains a = true → plains b = true → (PyData.eqvAll a b = true ↔ a = b)
  | [], [], _, _ => by simp [PyData.eqvAll]
  | [], _ :: _, _, _ => by simp [PyData.eqvAll]
  | _ :: _, [], _, _ => by simp [PyData.eqvAll]
  | d :: a, e :: b, h, h' => by
    simp only [plains, Bool.and_eq_true] at h h'
    simp only [PyData.eqvAll, Bool.and_eq_true, List.cons.injEq, eqv_plain d e h.1 h'.1, eqvs_plain a b h.2 h'.2]
end
theorem plains_of {ds : List D} (h : ∀ d ∈ ds, plain d = true) : plains ds = true := by
  induction ds with
  | nil => rfl
  | cons d ds ih =>
    simp only [plains, Bool.and_eq_true]
    exact ⟨h d (by simp), ih fun x hx => h x (by simp [hx])⟩
theorem eqv_pl {d e : D} (h : plain d = true) (h' : plain e = true) (P : Prop) [Decidable P] (hP : d = e ↔ P) : PyData.eqv d e = decide P := by
  by_cases p : P
  · rw [decide_eq_true p]; exact (eqv_plain d e h h').mpr (hP.mpr p)
  · rw [decide_eq_false p]
    cases q : PyData.eqv d e with
    | false => rfl
    | true => exact absurd (hP.mp ((eqv_plain d e h h').mp q)) p
theorem plain_ints (h : List Int) : plain (.list (h.map PyData.int)) = true := plains_of fun d hd => by
  obtain ⟨i, _, rfl⟩ := List.mem_map.mp hd; rfl
theorem ints_inj {a b : List Int} : a.map PyData.int = b.map PyData.int ↔ a = b := by
  constructor
  · intro h
    refine List.map_inj_right (fun x y e => ?_) |>.mp h
    exact PyData.int.inj e
  · rintro rfl; rfl
theorem prD_inj {p q : Int × Int} : prD p = prD q ↔ p = q := by
  constructor
  · intro h
    unfold prD at h
    simp only [PyData.tuple.injEq, List.cons.injEq, PyData.int.injEq, and_true] at h
    exact Prod.ext h.1 h.2
  · rintro rfl; rfl
theorem eqv_ints (a b : List Int) : PyData.eqv (.list (a.map PyData.int)) (.list (b.map PyData.int)) = decide (a = b) := eqv_pl (plain_ints a) (plain_ints b) _ (by rw [PyData.list.injEq, ints_inj])
theorem eqv_pr (p q : Int × Int) : PyData.eqv (prD p) (prD q) = decide (p = q) := eqv_pl rfl rfl _ prD_inj
theorem any_pr (K : List (Int × Int)) (q : Int × Int) : ((K.map prD).any fun z => PyData.eqv z (prD q)) = decide (q ∈ K) := by
  induction K with
  | nil => rfl
  | cons p K ih =>
    simp only [List.map_cons, List.any_cons, ih, eqv_pr, List.mem_cons]
    by_cases h : p = q
    · simp [h]
    · simp [h, show ¬ q = p from fun e => h e.symm]
theorem lays_of {ds : List D} (h : ∀ d ∈ ds, d.canLay0 = true ∧ d.depth ≤ 40) : PyData.canLayAll0 ds = true ∧ PyData.depthAll ds ≤ 40 := by
  induction ds with
  | nil => exact ⟨rfl, by simp [PyData.depthAll]⟩
  | cons d ds ih =>
    obtain ⟨a, b⟩ := ih fun x hx => h x (by simp [hx])
    obtain ⟨c, e⟩ := h d (by simp)
    simp only [PyData.canLayAll0, PyData.depthAll, a, c]
    exact ⟨rfl, by omega⟩
theorem shp_list {ds : List D} (h : ∀ d ∈ ds, d.canLay0 = true ∧ d.depth ≤ 40) : SeqAt.shaped (.list ds) = true := by
  obtain ⟨a, b⟩ := lays_of h
  simp [SeqAt.shaped, PyData.canLay0, PyData.depth, a]
  omega
theorem sh_ints (h : List Int) : SeqAt.shaped (.list (h.map PyData.int)) = true := shp_list fun d hd => by
  obtain ⟨i, _, rfl⟩ := List.mem_map.mp hd; exact ⟨rfl, by simp [PyData.depth]⟩
theorem lay_pr (p : Int × Int) : (prD p).canLay0 = true ∧ (prD p).depth ≤ 40 := ⟨rfl, by simp [prD, PyData.depth, PyData.depthAll]⟩
theorem sh_prs (h : List (Int × Int)) : SeqAt.shaped (.list (h.map prD)) = true := shp_list fun d hd => by
  obtain ⟨i, _, rfl⟩ := List.mem_map.mp hd; exact lay_pr i
theorem sh_pr (p : Int × Int) : SeqAt.shaped (prD p) = true := by
  have := lay_pr p
  simp [SeqAt.shaped, this.1]; omega
def pairOf : D → D
  | .tuple [i, j, _] => .tuple [i, j]
  | d => d
theorem enc_pairs : ∀ (ps : List (Int × Int)) (v : List (Option O3)), (encP ps v).map pairOf = (keysP ps v).map prD
  | [], v => by rw [encP_nil]; cases v <;> rfl
  | p :: ps, [] => rfl
  | p :: ps, none :: v => enc_pairs ps v
  | p :: ps, some o :: v => by
    simp only [encP, keysP, List.map_cons, enc_pairs ps v]
    rfl
theorem enc_mem : ∀ (ps : List (Int × Int)) (v : List (Option O3)), ∀ d ∈ encP ps v, ∃ p o, p ∈ ps ∧ d = mD p o
  | [], v, d, h => by rw [encP_nil] at h; cases h
  | p :: ps, [], d, h => by cases h
  | p :: ps, none :: v, d, h => by
    obtain ⟨q, o, hq, e⟩ := enc_mem ps v d h
    exact ⟨q, o, by simp [hq], e⟩
  | p :: ps, some o :: v, d, h => by
    rcases List.mem_cons.mp h with rfl | h
    · exact ⟨p, o, by simp, rfl⟩
    · obtain ⟨q, o, hq, e⟩ := enc_mem ps v d h
      exact ⟨q, o, by simp [hq], e⟩
section
variable {Y : Sys} {s : Y.S}
theorem cmb_ok {n : Nat} (h2 : 2 ≤ n) (h6 : n ≤ 6) : Cmb.okC n 2 (combL n 2) = true ∧ combD n 2 = (pairsI n).map prD := by
  rcases ncases h2 h6 with rfl | rfl | rfl | rfl | rfl <;> exact ⟨by decide +kernel, rfl⟩
theorem cmb_eq {n : Nat} (h2 : 2 ≤ n) (h6 : n ≤ 6) {Γ : Ev} {ga : GE Y} (h : ga Γ s = some (.ok (.v (.int (n : Nat))), Γ, s)) : gCmb (Y := Y) ga (gC (.int 2)) Γ s = some (.ok ((pairsI n).map prD), Γ, s) := by
  obtain ⟨a, b⟩ := cmb_ok h2 h6
  unfold gCmb bd
  rw [h]
  simp only
  rw [show rdv Γ (.v (.int (n : Nat))) = some (.int (n : Nat)) from rfl]
  simp only [bd, gC]
  rw [show rdv Γ (.v (.int 2)) = some (.int 2) from rfl]
  have c : (decide ((0 : Int) ≤ 2) && decide ((2 : Int) ≤ (n : Nat)) && decide (((n : Nat) : Int) ≤ 60) && Cmb.okC ((n : Nat) : Int).toNat (2 : Int).toNat (combL ((n : Nat) : Int).toNat (2 : Int).toNat)) = true := by
    have e1 : ((n : Nat) : Int).toNat = n := rfl
    have e2 : (2 : Int).toNat = 2 := rfl
    rw [e1, e2, a]
    simp; omega
  simp only [c, if_true]
  have e1 : ((n : Nat) : Int).toNat = n := rfl
  have e2 : (2 : Int).toNat = 2 := rfl
  rw [e1, e2, b]
theorem left_eq {l : Lg} (hl : l.Ok) (s : Y.S) : m_matches_left [.v l.d] s = some (.ok (.o (.list (l.left.map prD))), s) := by
  have h2 := hl.h2
  have h6 := hl.h6
  have hd : l.d = .tuple [.str (kindS l.t), .int (l.n : Nat), .list l.pl] := rfl
  have hlen := hl.isM.1
  have key : ∃ r s', mOf 8 b_matches_left [.v l.d] s = some (r, s') ∧ (s' = s ∧ r = .ok (.o (.list (l.left.map prD)))) := by
    refine wp_fn ?_
    unfold b_matches_left
    (refine' FX.wp_seq ?hst ?_; (case hst => (simp [mOf, bd, bdS, gC, gV, op1, op2, opN, gBin, gUn, gEsc, gN, gK, gCall, FX.gTup, gLst, gDic, gTst, gNot, gAnd, gOr, gAndV, gOrV, gNotV, gIf, gChain, bindT, bindTs, sNil, sSeq, sDrop, sRet, sRetN, sBrk, sCnt, sIf, sStuck, sSet, sUnp, gFn, argR, rdv, Rz.r, fAdd, fSub, fMul, fDiv, fMod, fNeg, fLt, fGt, fGe, fIsN, fNotN, fEq, fNe, fLe, fIn2, fNotIn2, fIx, fLen, fInt, gTyEq, gTyNe, gIsI, gSl, gNoP, gPart, fSl, fRev, fTup, vs?, rdA, zB, tyD, shI, shN, shB, eqvI, eqvS, check_league_eq hl]; try exact ⟨rfl, rfl⟩)))
    (refine' FX.wp_seq ?hst ?_; (case hst => (simp [mOf, bd, bdS, gC, gV, op1, op2, opN, gBin, gUn, gEsc, gN, gK, gCall, FX.gTup, gLst, gDic, gTst, gNot, gAnd, gOr, gAndV, gOrV, gNotV, gIf, gChain, bindT, bindTs, sNil, sSeq, sDrop, sRet, sRetN, sBrk, sCnt, sIf, sStuck, sSet, sUnp, gFn, argR, rdv, Rz.r, fAdd, fSub, fMul, fDiv, fMod, fNeg, fLt, fGt, fGe, fIsN, fNotN, fEq, fNe, fLe, fIn2, fNotIn2, fIx, fLen, fInt, gTyEq, gTyNe, gIsI, gSl, gNoP, gPart, fSl, fRev, fTup, vs?, rdA, zB, tyD, shI, shN, shB, eqvI, eqvS, hd]; try exact ⟨rfl, rfl⟩)))
    have c1 := gComp_map (Y := Y) (T := (.t (.cons (.n 5) (.cons (.n 6) (.cons (.n 1) .nil))))) (own := [5, 6, 1]) (gi := gItL (gV 3)) (ge := e_matches_left_2) pairOf
      (Γ := [some (.v l.d), some (.v (.str (kindS l.t))), some (.v (.int (l.n : Nat))), some (.v (.list l.pl)), none, none, none, none]) (s := s) (ds := l.pl) rfl (by omega) (fun d hd => by
        obtain ⟨p, o, _, rfl⟩ := enc_mem _ _ d hd
        refine ⟨_, rfl, [some (.v l.d), some (.v (o.d p.1 p.2)), some (.v (.int (l.n : Nat))), some (.v (.list l.pl)), none, some (.v (.int p.1)), some (.v (.int p.2)), none], ?_, rfl⟩
        (simp [mOf, bd, bdS, gC, gV, op1, op2, opN, gBin, gUn, gEsc, gN, gK, gCall, FX.gTup, gLst, gDic, gTst, gNot, gAnd, gOr, gAndV, gOrV, gNotV, gIf, gChain, bindT, bindTs, sNil, sSeq, sDrop, sRet, sRetN, sBrk, sCnt, sIf, sStuck, sSet, sUnp, gFn, argR, rdv, Rz.r, fAdd, fSub, fMul, fDiv, fMod, fNeg, fLt, fGt, fGe, fIsN, fNotN, fEq, fNe, fLe, fIn2, fNotIn2, fIx, fLen, fInt, gTyEq, gTyNe, gIsI, gSl, gNoP, gPart, fSl, fRev, fTup, vs?, rdA, zB, tyD, shI, shN, shB, eqvI, eqvS, e_matches_left_2, wipeE, pairOf, mD, sizeOk] <;> try rfl))
    have e1 : l.pl.map pairOf = (keysP (pairsI l.n) l.v).map prD := enc_pairs _ _
    rw [e1] at c1
    refine wp_seq (set_o c1) ?_
    obtain ⟨Γ2, hΓ2⟩ : ∃ Γ2, Γ2 = ([some (.v l.d), some (.v (.str (kindS l.t))), some (.v (.int (l.n : Nat))), some (.v (.list l.pl)), some (.o (.list ((keysP (pairsI l.n) l.v).map prD))), none, none, none] : Ev) := ⟨_, rfl⟩
    have c2 := gComp_pure (Y := Y) (T := .n 7) (own := [7]) (gi := gCmb (gV 2) (gC (.int 2))) (gt := t_matches_left_4) (ge := e_matches_left_3) (fun d => if ((keysP (pairsI l.n) l.v).map prD).any (fun z => PyData.eqv z d) = true then none else some d)
      (Γ := Γ2) (s := s) (ds := (pairsI l.n).map prD) (cmb_eq h2 h6 (by rw [hΓ2]; rfl)) (by have := pairs_len h2 h6; simp; omega) (fun d hd => by
        obtain ⟨p, hp, rfl⟩ := List.mem_map.mp hd
        rw [any_pr]
        have a1 := sh_pr p
        have a2 := sh_prs (keysP (pairsI l.n) l.v)
        have a3 := any_pr (keysP (pairsI l.n) l.v) p
        subst hΓ2
        refine ⟨[some (.v l.d), some (.v (.str (kindS l.t))), some (.v (.int (l.n : Nat))), some (.v (.list l.pl)), some (.o (.list ((keysP (pairsI l.n) l.v).map prD))), none, none, some (.v (prD p))], [some (.v l.d), some (.v (.str (kindS l.t))), some (.v (.int (l.n : Nat))), some (.v (.list l.pl)), some (.o (.list ((keysP (pairsI l.n) l.v).map prD))), none, none, some (.v (prD p))], rfl, ?_⟩
        have tt : t_matches_left_4 (Y := Y) [some (.v l.d), some (.v (.str (kindS l.t))), some (.v (.int (l.n : Nat))), some (.v (.list l.pl)), some (.o (.list ((keysP (pairsI l.n) l.v).map prD))), none, none, some (.v (prD p))] s =
          some (.ok (!decide (p ∈ keysP (pairsI l.n) l.v)), [some (.v l.d), some (.v (.str (kindS l.t))), some (.v (.int (l.n : Nat))), some (.v (.list l.pl)), some (.o (.list ((keysP (pairsI l.n) l.v).map prD))), none, none, some (.v (prD p))], s) := by
          unfold t_matches_left_4 gTst gBin bd gV op2 rdv fNotIn2
          simp only [List.getElem?_cons_succ, List.getElem?_cons_zero, bd, a1, a2, Bool.and_self, if_true, a3, Rz.r, rdv]
        by_cases h : p ∈ keysP (pairsI l.n) l.v
        · simp only [h, decide_true, if_true]
          rw [tt]
          simp only [h, decide_true, Bool.not_true]
          exact ⟨trivial, rfl⟩
        · simp only [h, decide_false, Bool.false_eq_true, if_false]
          rw [tt]
          simp only [h, decide_false, Bool.not_false]
          exact ⟨trivial, _, rfl, rfl⟩)
    have e2 : ((pairsI l.n).map prD).filterMap (fun d => if ((keysP (pairsI l.n) l.v).map prD).any (fun z => PyData.eqv z d) = true then none else some d) = l.left.map prD := by
      rw [List.filterMap_map]
      have : ∀ ps : List (Int × Int), List.filterMap ((fun d => if ((keysP (pairsI l.n) l.v).map prD).any (fun z => PyData.eqv z d) = true then none else some d) ∘ prD) ps = (ps.filter fun p => !decide (p ∈ keysP (pairsI l.n) l.v)).map prD := by
        intro ps
        induction ps with
        | nil => rfl
        | cons p ps ih =>
          simp only [List.filterMap_cons, Function.comp, any_pr, List.filter_cons] at ih ⊢
          by_cases h : p ∈ keysP (pairsI l.n) l.v
          · simp only [h, decide_true, if_true, Bool.not_true, Bool.false_eq_true, if_false]; exact ih
          · simp only [h, decide_false, Bool.false_eq_true, if_false, Bool.not_false, if_true, List.map_cons, ih]
      rw [this, left_filter (pairsI l.n) l.v (fun p => decide (p ∈ keysP (pairsI l.n) l.v)) (pairs_nodup h2 h6) hl.len (fun q _ => by simp)]
      rfl
    rw [e2] at c2
    subst hΓ2
    exact wp_reto c2 ⟨rfl, rfl⟩
  obtain ⟨r, s', e, rfl, rfl⟩ := key
  rw [q_matches_left]; exact e
end
end FX.Pg
set_option Elab.async false
set_option linter.all false
set_option maxRecDepth 100000
namespace FX.Pg
open PySem PySem.Spec L2 FX
section
variable {Y : Sys} {s : Y.S}
theorem cp_loop (x0 x1 x2 : Option R) (s : Y.S) : ∀ (h : List Int) (x3 : Option R), ∃ y3, forG (.n 3) l_check_points_1 (h.map PyData.int) [x0, x1, x2, x3] s = some (.nx, [x0, x1, x2, y3], s)
  | [], x3 => ⟨x3, rfl⟩
  | i :: h, x3 => by
    obtain ⟨y3, e⟩ := cp_loop x0 x1 x2 s h (some (.v (.int i)))
    refine ⟨y3, ?_⟩
    have body : l_check_points_1 (Y := Y) [x0, x1, x2, some (.v (.int i))] s = some (.nx, [x0, x1, x2, some (.v (.int i))], s) := by
      (simp [mOf, bd, bdS, gC, gV, op1, op2, opN, gBin, gUn, gEsc, gN, gK, gCall, FX.gTup, gLst, gDic, gTst, gNot, gAnd, gOr, gAndV, gOrV, gNotV, gIf, gChain, bindT, bindTs, sNil, sSeq, sDrop, sRet, sRetN, sBrk, sCnt, sIf, sStuck, sSet, sUnp, gFn, argR, rdv, Rz.r, fAdd, fSub, fMul, fDiv, fMod, fNeg, fLt, fGt, fGe, fIsN, fNotN, fEq, fNe, fLe, fIn2, fNotIn2, fIx, fLen, fInt, gTyEq, gTyNe, gIsI, gSl, gNoP, gPart, fSl, fRev, fTup, vs?, rdA, zB, tyD, shI, shN, shB, eqvI, eqvS, l_check_points_1, whole_eq, isWhole] <;> try rfl)
    rw [List.map_cons, forG_cons (Γ1 := [x0, x1, x2, some (.v (.int i))]) rfl, body]
    exact e
theorem check_points_eq {l : Lg} (hl : l.Ok) {h : List Int} (hh : h.length = l.n) (s : Y.S) : m_check_points [.v l.d, .v (.list (h.map PyData.int))] s = some (.ok (.v .none), s) := by
  have hd : l.d = .tuple [.str (kindS l.t), .int (l.n : Nat), .list l.pl] := rfl
  have a1 : atI [PyData.str (kindS l.t), .int (l.n : Nat), .list l.pl] 1 = some (.int (l.n : Nat)) := rfl
  have key : ∃ r s', mOf 4 b_check_points [.v l.d, .v (.list (h.map PyData.int))] s = some (r, s') ∧ (s' = s ∧ r = .ok (.v .none)) := by
    refine wp_fn ?_
    unfold b_check_points
    (refine' FX.wp_seq ?hst ?_; (case hst => (simp [mOf, bd, bdS, gC, gV, op1, op2, opN, gBin, gUn, gEsc, gN, gK, gCall, FX.gTup, gLst, gDic, gTst, gNot, gAnd, gOr, gAndV, gOrV, gNotV, gIf, gChain, bindT, bindTs, sNil, sSeq, sDrop, sRet, sRetN, sBrk, sCnt, sIf, sStuck, sSet, sUnp, gFn, argR, rdv, Rz.r, fAdd, fSub, fMul, fDiv, fMod, fNeg, fLt, fGt, fGe, fIsN, fNotN, fEq, fNe, fLe, fIn2, fNotIn2, fIx, fLen, fInt, gTyEq, gTyNe, gIsI, gSl, gNoP, gPart, fSl, fRev, fTup, vs?, rdA, zB, tyD, shI, shN, shB, eqvI, eqvS, check_league_eq hl]; try exact ⟨rfl, rfl⟩)))
    (refine' FX.wp_seq ?hst ?_; (case hst => (simp [mOf, bd, bdS, gC, gV, op1, op2, opN, gBin, gUn, gEsc, gN, gK, gCall, FX.gTup, gLst, gDic, gTst, gNot, gAnd, gOr, gAndV, gOrV, gNotV, gIf, gChain, bindT, bindTs, sNil, sSeq, sDrop, sRet, sRetN, sBrk, sCnt, sIf, sStuck, sSet, sUnp, gFn, argR, rdv, Rz.r, fAdd, fSub, fMul, fDiv, fMod, fNeg, fLt, fGt, fGe, fIsN, fNotN, fEq, fNe, fLe, fIn2, fNotIn2, fIx, fLen, fInt, gTyEq, gTyNe, gIsI, gSl, gNoP, gPart, fSl, fRev, fTup, vs?, rdA, zB, tyD, shI, shN, shB, eqvI, eqvS, hd, a1]; try exact ⟨rfl, rfl⟩)))
    (refine' FX.wp_seq ?hst ?_; (case hst => (simp [mOf, bd, bdS, gC, gV, op1, op2, opN, gBin, gUn, gEsc, gN, gK, gCall, FX.gTup, gLst, gDic, gTst, gNot, gAnd, gOr, gAndV, gOrV, gNotV, gIf, gChain, bindT, bindTs, sNil, sSeq, sDrop, sRet, sRetN, sBrk, sCnt, sIf, sStuck, sSet, sUnp, gFn, argR, rdv, Rz.r, fAdd, fSub, fMul, fDiv, fMod, fNeg, fLt, fGt, fGe, fIsN, fNotN, fEq, fNe, fLe, fIn2, fNotIn2, fIx, fLen, fInt, gTyEq, gTyNe, gIsI, gSl, gNoP, gPart, fSl, fRev, fTup, vs?, rdA, zB, tyD, shI, shN, shB, eqvI, eqvS, hh]; try exact ⟨rfl, rfl⟩)))
    obtain ⟨y3, e⟩ := cp_loop (Y := Y) (some (.v l.d)) (some (.v (.list (h.map PyData.int)))) (some (.v (.int (l.n : Nat)))) s h none
    have eg : gItL (Y := Y) (gV 1) [some (.v l.d), some (.v (.list (h.map PyData.int))), some (.v (.int (l.n : Nat))), none] s = some (.ok (h.map PyData.int), [some (.v l.d), some (.v (.list (h.map PyData.int))), some (.v (.int (l.n : Nat))), none], s) := rfl
    exact wp_of ((for_run eg).trans e) ⟨rfl, rfl⟩
  obtain ⟨r, s', e, rfl, rfl⟩ := key
  rw [q_check_points]; exact e
theorem mD_lay (p : Int × Int) (o : O3) : (mD p o).canLay0 = true ∧ (mD p o).depth ≤ 40 := by cases o <;> exact ⟨rfl, by simp [mD, O3.d, PyData.depth, PyData.depthAll]⟩
theorem pl_sh (l : Lg) : SeqAt.shaped (.list l.pl) = true := shp_list fun d hd => by
  obtain ⟨p, o, _, rfl⟩ := enc_mem _ _ d hd
  exact mD_lay p o
end
end FX.Pg
set_option Elab.async false
set_option linter.all false
set_option maxRecDepth 100000
namespace FX.Pg
open PySem PySem.Spec L2 FX
end FX.Pg
set_option Elab.async false
set_option linter.all false
set_option maxRecDepth 100000
namespace FX.Pg
open PySem PySem.Spec L2 FX
def fillV : List (Option O3) → List O3 → List (Option O3)
  | x :: v, o :: os => some (x.getD o) :: fillV v os
  | _, _ => []
theorem fillV_some : ∀ (v : List (Option O3)) (os : List O3), ∀ x ∈ fillV v os, x ≠ none
  | [], _, x, h => by cases h
  | _ :: _, [], x, h => by cases h
  | y :: v, o :: os, x, h => by
    rcases List.mem_cons.mp h with rfl | h
    · simp
    · exact fillV_some v os x h
structure EndOf (l e : Lg) : Prop where
  ok : e.Ok
  t : e.t = l.t
  n : e.n = l.n
  v : ∃ os : List O3, os.length = l.v.length ∧ e.v = fillV l.v os
end FX.Pg
set_option Elab.async false
set_option linter.all false
set_option maxRecDepth 100000
namespace FX.Pg
open PySem PySem.Spec L2 FX
theorem con_le (t : Bool) (p : Int × Int) (o : O3) (q : Int) : 0 ≤ con t p o q ∧ con t p o q ≤ 4 := by
  have a : 0 ≤ (sh2 t o).1 ∧ (sh2 t o).1 ≤ 2 := by cases t <;> cases o <;> decide
  have b : 0 ≤ (sh2 t o).2 ∧ (sh2 t o).2 ≤ 2 := by cases t <;> cases o <;> decide
  unfold con
  split <;> split <;> omega
theorem sumP_le (t : Bool) (q : Int) : ∀ (ps : List (Int × Int)) (v : List (Option O3)), 0 ≤ sumP t ps v q ∧ sumP t ps v q ≤ 4 * (ps.length : Nat)
  | [], v => by cases v <;> simp [sumP]
  | p :: ps, [] => by simp [sumP]; omega
  | p :: ps, none :: v => by
    have := sumP_le t q ps v
    simp only [sumP, List.length_cons]; omega
  | p :: ps, some o :: v => by
    have := sumP_le t q ps v
    have := con_le t p o q
    simp only [sumP, List.length_cons]; omega
structure Pt (n B : Nat) (h : List Int) : Prop where
  len : h.length = n
  le : ∀ x ∈ h, x.natAbs ≤ B
theorem Pt.mono {n B C : Nat} {h : List Int} (p : Pt n B h) (e : B ≤ C) : Pt n C h := ⟨p.len, fun x hx => Nat.le_trans (p.le x hx) e⟩
theorem Lg.Ok.pt {l : Lg} (h : l.Ok) : Pt l.n 60 l.pts := ⟨l.pts_len, fun x hx => by
  rw [h.pts_eq] at hx
  obtain ⟨q, _, rfl⟩ := List.mem_map.mp hx
  have := sumP_le l.t (q : Nat) (pairsI l.n) l.v
  have := pairs_len h.h2 h.h6
  omega⟩
theorem Pt.set {n B : Nat} {h : List Int} (p : Pt n B h) (j : Nat) {x : Int} (hx : x.natAbs ≤ B) : Pt n B (h.set j x) := ⟨by rw [List.length_set]; exact p.len, fun y hy => by
  rcases List.mem_or_eq_of_mem_set hy with z | rfl
  · exact p.le y z
  · exact hx⟩
theorem Pt.get {n B : Nat} {h : List Int} (p : Pt n B h) (j : Nat) : (h.getD j 0).natAbs ≤ B := by
  rw [List.getD_eq_getElem?_getD]
  cases e : h[j]? with
  | none => simp
  | some x => exact p.le x (List.mem_of_getElem? e)
section
variable {Y : Sys} {s s1 : Y.S}
theorem put_run {k : Nat} {gk ge : GE Y} {Γ : Ev} {h : List Int} {i x : Int} {j : Nat} (he : ge Γ s = some (.ok (.v (.int x)), Γ, s1)) (hk : gk Γ s1 = some (.ok (.v (.int i)), Γ, s1)) (hΓ : Γ[k]? = some (some (.o (.list (h.map PyData.int)))))
    (hj : ixN h.length i = some j) : sPut k gk ge Γ s = some (.nx, Γ.set k (some (.o (.list ((h.set j x).map PyData.int)))), s1) := by
  unfold sPut
  rw [hΓ]
  simp only [bdS, gEsc, bd, he, hk]
  rw [show rdv Γ (.v (.int i)) = some (.int i) from rfl, hΓ]
  have e : ixN (h.map PyData.int).length i = some j := by rw [List.length_map]; exact hj
  simp only [e]
  rw [List.map_set]
end
end FX.Pg
set_option Elab.async false
set_option linter.all false
set_option maxRecDepth 100000
namespace FX
open PySem PySem.Spec L2
def okC (z : Str) : Prop := ∀ c ∈ z.cps.toList, c < 1114112
theorem okC_of (s : String) : okC (Str.ofString s) := by
  intro c hc
  rw [Str.ofString_eq_toList] at hc
  simp only [List.mem_map] at hc
  obtain ⟨x, _, rfl⟩ := hc
  have h := x.valid
  simp only [UInt32.isValidChar, Nat.isValidChar] at h
  have : x.toNat = x.val.toNat := rfl
  omega
end FX
set_option Elab.async false
set_option linter.all false
set_option maxRecDepth 100000
namespace FX
open PySem PySem.Spec L2
end FX
namespace FX.Pg
open PySem PySem.Spec L2 FX
end FX.Pg
namespace FX
open PySem PySem.Spec L2
end FX
set_option Elab.async false
set_option linter.all false
set_option maxRecDepth 100000
namespace FX.Pg
open PySem PySem.Spec L2 FX
def nI (ps : List Nat) : List D := ps.map fun (j : Nat) => PyData.int (j : Int)
def memI (ds : List D) (i : Int) : Bool := ds.any fun z => PyData.eqv z (.int i)
def pick (ds : List D) : D → Option D
  | .tuple [.int i, .int j] => if (memI ds i && memI ds j) = true then some (.int 1) else none
  | _ => none
theorem ints_map : ∀ l : List Int, ints? (l.map PyData.int) = some l
  | [] => rfl
  | i :: l => by simp [ints?, ints_map l]
section
variable {Y : Sys}
def showsB (w : Int) (L : List (Int × Int)) (W : List Int) (ps : List Nat) : Bool :=
  if ps.length = W.length then !decide ((ps.map fun j => W.getD j 0).sum = w * (((L.map prD).filterMap (pick (nI ps))).length : Nat)) else decide ((ps.map fun j => W.getD j 0).sum < w * (((L.map prD).filterMap (pick (nI ps))).length : Nat))
end
end FX.Pg
set_option Elab.async false
set_option linter.all false
set_option maxRecDepth 100000
namespace FX.Pg
open PySem PySem.Spec L2 FX
section
variable {Y : Sys}
theorem worth_eq (l : Lg) (s : Y.S) : m_worth_of [.v l.d] s = some (.ok (.v (.int (wth l.t))), s) := by
  have hd : l.d = .tuple [.str (kindS l.t), .int (l.n : Nat), .list l.pl] := rfl
  have a0 : atI [PyData.str (kindS l.t), .int (l.n : Nat), .list l.pl] 0 = some (.str (kindS l.t)) := rfl
  have wk := worths_kind l.t
  have key : ∃ r s', mOf 1 b_worth_of [.v l.d] s = some (r, s') ∧ (s' = s ∧ r = .ok (.v (.int (wth l.t)))) := by
    refine wp_fn ?_
    unfold b_worth_of
    (refine' FX.wp_ret ?hst ?_; (case hst => (simp [mOf, bd, bdS, gC, gV, op1, op2, opN, gBin, gUn, gEsc, gN, gK, gCall, FX.gTup, gLst, gDic, gTst, gNot, gAnd, gOr, gAndV, gOrV, gNotV, gIf, gChain, bindT, bindTs, sNil, sSeq, sDrop, sRet, sRetN, sBrk, sCnt, sIf, sStuck, sSet, sUnp, gFn, argR, rdv, Rz.r, fAdd, fSub, fMul, fDiv, fMod, fNeg, fLt, fGt, fGe, fIsN, fNotN, fEq, fNe, fLe, fIn2, fNotIn2, fIx, fLen, fInt, gTyEq, gTyNe, gIsI, gSl, gNoP, gPart, fSl, fRev, fTup, vs?, rdA, zB, tyD, shI, shN, shB, eqvI, eqvS, hd, a0, fKGet, wk]; try exact ⟨rfl, rfl, rfl⟩)))
    exact ⟨rfl, rfl⟩
  obtain ⟨r, s', e, rfl, rfl⟩ := key
  rw [q_worth_of]; exact e
def Lg.want (l : Lg) (h : List Int) : List Int := (List.range l.n).map fun j => h.getD j 0 - l.pts.getD j 0
def setsL (n : Nat) : List (List Nat) := (List.range n).flatMap fun k => combL n (k + 1)
def Lg.shows (l : Lg) (h : List Int) (ps : List Nat) : Bool := showsB (wth l.t) l.left (l.want h) ps
def Lg.first (l : Lg) (h : List Int) : Option (List Nat) := (setsL l.n).find? (l.shows h)
end
end FX.Pg
set_option Elab.async false
set_option maxRecDepth 100000
set_option linter.all false
namespace FX.Pg
def sumO (t : Bool) : List (Int × Int) → List O3 → Int → Int
  | p :: ps, o :: os, q => con t p o q + sumO t ps os q
  | _, _, _ => 0
theorem sh2_sum {t : Bool} {o : O3} (h : t = false → o ≠ .t) : (sh2 t o).1 + (sh2 t o).2 = wth t ∧ 0 ≤ (sh2 t o).1 ∧ 0 ≤ (sh2 t o).2 := by
  cases o with
  | a => cases t <;> decide
  | b => cases t <;> decide
  | t =>
    cases t with
    | false => exact absurd rfl (h rfl)
    | true => decide
end FX.Pg
set_option Elab.async false
set_option linter.all false
set_option maxRecDepth 100000
namespace FX.Pg
open PySem PySem.Spec L2 FX
end FX.Pg
set_option Elab.async false
set_option linter.all false
set_option maxRecDepth 100000
namespace FX.Pg
open PySem PySem.Spec L2 FX
end FX.Pg
set_option Elab.async false
set_option linter.all false
set_option maxRecDepth 100000
namespace FX.Pg
open PySem PySem.Spec L2 FX
def tot (h : List Int) (ps : List Nat) : Int := (ps.map fun j => h.getD j 0).sum
end FX.Pg
set_option Elab.async false
set_option linter.all false
set_option maxRecDepth 100000
namespace FX
open PySem PySem.Spec L2
section
variable {Y : Sys} {α : Type}
theorem compG_on {T : Tg} {own : List Nat} {gt : GT Y} {ge : GE Y} (g : α → D) (f : α → Option D) (Γw : Ev) (s : Y.S) :
    ∀ (L : List α) (acc : List D) (Γ : Ev), wipeE Γ own = Γw → acc.length + L.length ≤ 1000000 →
    (∀ a ∈ L, ∃ Γ1 Γ2, bindT T (g a) Γw = some Γ1 ∧ match f a with
      | none => gt Γ1 s = some (.ok false, Γ2, s) ∧ wipeE Γ2 own = Γw
      | some e => gt Γ1 s = some (.ok true, Γ2, s) ∧ ∃ Γ3, ge Γ2 s = some (.ok (.v e), Γ3, s) ∧ wipeE Γ3 own = Γw) →
    ∃ Γ', compG T own gt ge (L.map g) acc Γ s = some (acc ++ L.filterMap f, Γ', s) ∧ wipeE Γ' own = Γw
  | [], acc, Γ, h, _, _ => ⟨Γ, by simp [compG], h⟩
  | a :: L, acc, Γ, h, hl, hd => by
    obtain ⟨Γ1, Γ2, e1, e2⟩ := hd a (by simp)
    simp only [List.length_cons] at hl
    rw [List.map_cons]
    unfold compG
    rw [h, e1]
    cases q : f a with
    | none =>
      rw [q] at e2
      obtain ⟨e2, e3⟩ := e2
      obtain ⟨Γ', e4, e5⟩ := compG_on g f Γw s L acc Γ2 e3 (by omega) fun d' h' => hd d' (by simp [h'])
      refine ⟨Γ', ?_, e5⟩
      simp only [e2, List.filterMap_cons, q]
      exact e4
    | some e =>
      rw [q] at e2
      obtain ⟨e2, Γ3, e3, e6⟩ := e2
      obtain ⟨Γ', e4, e5⟩ := compG_on g f Γw s L (acc ++ [e]) Γ3 e6 (by simp; omega) fun d' h' => hd d' (by simp [h'])
      refine ⟨Γ', ?_, e5⟩
      have hz : sizeOk acc.length = true := by simp [sizeOk]; omega
      simp only [e2, e3, hz, List.filterMap_cons, q, if_true]
      rw [e4]; simp
theorem gComp_on {T : Tg} {own : List Nat} {gi : GI Y} {gt : GT Y} {ge : GE Y} (g : α → D) (f : α → Option D) {Γ Γ0 : Ev} {s s0 : Y.S} {L : List α} (hi : gi Γ0 s0 = some (.ok (L.map g), Γ, s)) (hl : L.length ≤ 1000000)
    (hd : ∀ a ∈ L, ∃ Γ1 Γ2, bindT T (g a) (wipeE Γ own) = some Γ1 ∧ match f a with
      | none => gt Γ1 s = some (.ok false, Γ2, s) ∧ wipeE Γ2 own = wipeE Γ own
      | some e => gt Γ1 s = some (.ok true, Γ2, s) ∧ ∃ Γ3, ge Γ2 s = some (.ok (.v e), Γ3, s) ∧ wipeE Γ3 own = wipeE Γ own) :
    gComp T own gi gt ge Γ0 s0 = some (.ok (.o (.list (L.filterMap f))), backE Γ (wipeE Γ own) own, s) := by
  obtain ⟨Γ', e, h⟩ := compG_on (T := T) (own := own) (gt := gt) (ge := ge) g f (wipeE Γ own) s L [] Γ rfl (by simpa using hl) hd
  unfold gComp bd
  rw [hi]
  simp only [e, List.nil_append]
  rw [← h, back_wipe]
theorem gComp_flt {T : Tg} {own : List Nat} {gi : GI Y} {gt : GT Y} {ge : GE Y} (g : α → D) (p : α → Bool) {Γ Γ0 : Ev} {s s0 : Y.S} {L : List α} (hi : gi Γ0 s0 = some (.ok (L.map g), Γ, s)) (hl : L.length ≤ 1000000)
    (hd : ∀ a ∈ L, ∃ Γ1 Γ2, bindT T (g a) (wipeE Γ own) = some Γ1 ∧ gt Γ1 s = some (.ok (p a), Γ2, s) ∧ wipeE Γ2 own = wipeE Γ own ∧ (p a = true → ∃ Γ3, ge Γ2 s = some (.ok (.v (g a)), Γ3, s) ∧ wipeE Γ3 own = wipeE Γ own)) :
    gComp T own gi gt ge Γ0 s0 = some (.ok (.o (.list ((L.filter p).map g))), backE Γ (wipeE Γ own) own, s) := by
  have c := gComp_on (T := T) (own := own) (gt := gt) (ge := ge) g (fun a => if p a = true then some (g a) else none) hi hl fun a ha => by
    obtain ⟨Γ1, Γ2, e1, e2, e3, e4⟩ := hd a ha
    refine ⟨Γ1, Γ2, e1, ?_⟩
    by_cases q : p a = true
    · rw [if_pos q]
      rw [q] at e2
      exact ⟨e2, e4 q⟩
    · rw [if_neg q]
      rw [show p a = false by simpa using q] at e2
      exact ⟨e2, e3⟩
  rw [c]
  have e : ∀ L : List α, L.filterMap (fun a => if p a = true then some (g a) else none) = (L.filter p).map g := by
    intro L
    induction L with
    | nil => rfl
    | cons a L ih =>
      by_cases q : p a = true
      · simp [q, ih]
      · simp [q, ih]
  rw [e]
theorem gComp_each {T : Tg} {own : List Nat} {gi : GI Y} {ge : GE Y} (g k : α → D) {Γ Γ0 : Ev} {s s0 : Y.S} {L : List α} (hi : gi Γ0 s0 = some (.ok (L.map g), Γ, s)) (hl : L.length ≤ 1000000)
    (hd : ∀ a ∈ L, ∃ Γ1, bindT T (g a) (wipeE Γ own) = some Γ1 ∧ ∃ Γ3, ge Γ1 s = some (.ok (.v (k a)), Γ3, s) ∧ wipeE Γ3 own = wipeE Γ own) :
    gComp T own gi gYes ge Γ0 s0 = some (.ok (.o (.list (L.map k))), backE Γ (wipeE Γ own) own, s) := by
  have c := gComp_on (T := T) (own := own) (gt := gYes) (ge := ge) g (fun a => some (k a)) hi hl fun a ha => by
    obtain ⟨Γ1, e1, e2⟩ := hd a ha
    exact ⟨Γ1, Γ1, e1, rfl, e2⟩
  rw [c]
  congr
  simp
theorem gComp_of {T : Tg} {own : List Nat} {gi : GI Y} {gt : GT Y} {ge : GE Y} {Γ Γ1 Γ' : Ev} {s s1 s' : Y.S} {ds acc : List D} (hi : gi Γ s = some (.ok ds, Γ1, s1)) (hc : compG T own gt ge ds [] Γ1 s1 = some (acc, Γ', s')) :
    gComp T own gi gt ge Γ s = some (.ok (.o (.list acc)), backE Γ1 Γ' own, s') := by
  unfold gComp bd
  rw [hi]
  simp only [hc]
end
end FX
set_option Elab.async false
set_option linter.all false
set_option maxRecDepth 100000
namespace FX.Pg
open PySem PySem.Spec L2 FX
theorem plain_pl (l : Lg) : Pg.plain (.list l.pl) = true := plains_of fun d hd => by
  have key : ∀ (ps : List (Int × Int)) (v : List (Option O3)), ∀ d ∈ encP ps v, Pg.plain d = true := by
    intro ps
    induction ps with
    | nil => intro v d h; rw [encP_nil] at h; cases h
    | cons q ps ih =>
      intro v d h
      match v with
      | [] => cases h
      | none :: v => exact ih v d h
      | some o :: v =>
        rcases List.mem_cons.mp h with rfl | h
        · cases o <;> rfl
        · exact ih v d h
  exact key _ _ d hd
theorem plain_lg (l : Lg) : Pg.plain l.d = true := by
  have := plain_pl l
  simp only [Pg.plain] at this
  simp [Lg.d, Pg.plain, plains, this]
theorem eqv_lg (l : Lg) : PyData.eqv l.d l.d = true := (eqv_plain l.d l.d (plain_lg l) (plain_lg l)).mpr rfl
theorem sh_lg (l : Lg) : SeqAt.shaped l.d = true := by
  have a := pl_sh l
  have b := kindS_sh l.t
  unfold SeqAt.shaped at a b ⊢
  rw [Bool.and_eq_true, decide_eq_true_eq] at a b
  have a2 : (PyData.list l.pl).depth ≤ 41 := by
    have key : ∀ d ∈ l.pl, d.depth ≤ 40 := fun d hd => by
      have k : ∀ (ps : List (Int × Int)) (v : List (Option O3)), ∀ d ∈ encP ps v, d.depth ≤ 40 := by
        intro ps
        induction ps with
        | nil => intro v d h; rw [encP_nil] at h; cases h
        | cons q ps ih =>
          intro v d h
          match v with
          | [] => cases h
          | none :: v => exact ih v d h
          | some o :: v =>
            rcases List.mem_cons.mp h with rfl | h
            · cases o <;> simp [O3.d, PyData.depth, PyData.depthAll]
            · exact ih v d h
      exact k _ _ d hd
    have : PyData.depthAll l.pl ≤ 40 := by
      generalize l.pl = L at key
      induction L with
      | nil => simp [PyData.depthAll]
      | cons d L ih =>
        have := ih fun x hx => key x (by simp [hx])
        have := key d (by simp)
        simp only [PyData.depthAll]; omega
    simp only [PyData.depth]; omega
  rw [Bool.and_eq_true, decide_eq_true_eq]
  refine ⟨?_, ?_⟩
  · have e : l.d.canLay0 = (PyData.canLay0 (.str (kindS l.t)) && ((PyData.int (l.n : Nat)).canLay0 && (PyData.canLay0 (.list l.pl)))) := by
      simp [Lg.d, PyData.canLay0, PyData.canLayAll0]
    rw [e, a.1, b.1]; rfl
  · simp only [Lg.d, PyData.depth, PyData.depthAll] at a2 ⊢
    omega
end FX.Pg
set_option Elab.async false
set_option linter.all false
set_option maxRecDepth 100000
namespace FX.Pg
open PySem PySem.Spec L2 FX
instance (b p : Int × Int) : Decidable (lexP b p) := by unfold lexP; infer_instance
structure Pm (n : Nat) (π : List Nat) : Prop where
  len : π.length = n
  nd : π.Nodup
  lt : ∀ x ∈ π, x < n
theorem Pm.of {n : Nat} {π : List Nat} (h : π.Perm (List.range n)) : Pm n π := ⟨by rw [h.length_eq, List.length_range], h.nodup_iff.mpr List.nodup_range, fun x hx => List.mem_range.mp (h.mem_iff.mp hx)⟩
def nm (π : List Nat) (q : Nat) : Nat := π.getD q 0
theorem Pm.at {n : Nat} {π : List Nat} (h : Pm n π) {q : Nat} (hq : q < n) : π[q]? = some (nm π q) := by
  have : q < π.length := by rw [h.len]; exact hq
  unfold nm
  rw [List.getD_eq_getElem?_getD, List.getElem?_eq_getElem this]
  rfl
theorem Pm.inj {n : Nat} {π : List Nat} (h : Pm n π) {a b : Nat} (ha : a < n) (hb : b < n) (e : nm π a = nm π b) : a = b := by
  have h1 : π[a]? = π[b]? := by rw [h.at ha, h.at hb, e]
  exact (List.getElem?_inj (by rw [h.len]; exact ha) h.nd).mp h1
def lookP : List (Int × Int) → List (Option O3) → Int × Int → Option O3
  | p :: ps, x :: v, q => if p = q then x else lookP ps v q
  | _, _, _ => none
theorem look_map : ∀ (ps : List (Int × Int)) (v : List (Option O3)), ps.Nodup → v.length = ps.length → v = ps.map (lookP ps v)
  | [], v, _, h => by
    have : v = [] := List.length_eq_zero_iff.mp (by simpa using h)
    subst this; rfl
  | p :: ps, [], _, h => by simp at h
  | p :: ps, x :: v, n, h => by
    obtain ⟨h1, h2⟩ := List.nodup_cons.mp n
    rw [List.map_cons]
    have e : lookP (p :: ps) (x :: v) p = x := by simp [lookP]
    rw [e]
    congr 1
    conv => lhs; rw [look_map ps v h2 (by simpa using h)]
    refine List.map_congr_left fun q hq => ?_
    have : p ≠ q := fun z => by subst z; exact h1 hq
    simp [lookP, this]
def Lg.at (l : Lg) : Int × Int → Option O3 := lookP (pairsI l.n) l.v
theorem Lg.Ok.vat {l : Lg} (h : l.Ok) : l.v = (pairsI l.n).map l.at := look_map _ _ (pairs_nodup h.h2 h.h6) h.len
end FX.Pg
set_option Elab.async false
set_option linter.all false
set_option maxRecDepth 100000
namespace FX.Pg
open PySem PySem.Spec L2 FX
section
variable {Y : Sys} {α β : Type} {Γ Γ' Γ1 Γ2 : Ev} {s s' s1 s2 : Y.S}
theorem bd_ok {g : Ev → Y.S → Option (Oc α × Ev × Y.S)} {k : α → Ev → Y.S → Option (Oc β × Ev × Y.S)} {a : α} (h : g Γ s = some (.ok a, Γ', s')) : bd g k Γ s = k a Γ' s' := by unfold bd; rw [h]
theorem gk_ok {ga : GE Y} {gr : GA Y} {r : R} {rs : List R} (ha : ga Γ s = some (.ok r, Γ1, s1)) (hr : gr Γ1 s1 = some (.ok rs, Γ2, s2)) : gK ga gr Γ s = some (.ok (r :: rs), Γ2, s2) := by
  unfold gK
  rw [bd_ok ha, bd_ok hr]
theorem esc_v {g : GE Y} {d : D} (h : g Γ s = some (.ok (.v d), Γ', s')) : gEsc g Γ s = some (.ok (.v d), Γ', s') := by
  unfold gEsc
  rw [bd_ok h]
theorem esc_o {g : GE Y} {ds : List D} (h : g Γ s = some (.ok (.o (.list ds)), Γ', s')) : gEsc g Γ s = some (.ok (.v (.list ds)), Γ', s') := by
  unfold gEsc
  rw [bd_ok h]
theorem tup_ok {gr : GA Y} {rs : List R} {ds : List D} (h : gr Γ s = some (.ok rs, Γ', s')) (e : vs? rs = some ds) (hz : ds.length ≤ 1000) : FX.gTup gr Γ s = some (.ok (.v (.tuple ds)), Γ', s') := by
  unfold FX.gTup
  rw [bd_ok h]
  have : sizeOk ds.length = true := by simp [sizeOk]; omega
  simp only [e, this, if_true]
theorem esc_h {g : GE Y} {i : Nat} (h : g Γ s = some (.ok (.h i), Γ', s')) : gEsc g Γ s = some (.ok (.h i), Γ', s') := by
  unfold gEsc
  rw [bd_ok h]
end
noncomputable section
variable {K : PySem.W.Frag} {sa : Addr} {ns : List Int}
end
section
variable {Y : Sys}
def ents : List (Int × Int) → List (Option O3) → List ((Int × Int) × O3)
  | p :: ps, some o :: v => (p, o) :: ents ps v
  | _ :: ps, none :: v => ents ps v
  | _, _ => []
theorem enc_ents : ∀ (ps : List (Int × Int)) (v : List (Option O3)), encP ps v = (ents ps v).map fun e => mD e.1 e.2
  | [], v => by rw [encP_nil]; cases v <;> rfl
  | p :: ps, [] => rfl
  | p :: ps, none :: v => enc_ents ps v
  | p :: ps, some o :: v => by simp only [encP, ents, List.map_cons, enc_ents ps v]; rfl
theorem ents_map (f : Int × Int → Option O3) : ∀ ps : List (Int × Int), ents ps (ps.map f) = ps.filterMap fun p => (f p).map fun o => (p, o)
  | [] => rfl
  | p :: ps => by
    rw [List.map_cons, List.filterMap_cons]
    cases h : f p with
    | none => simpa [ents] using ents_map f ps
    | some o => simpa [ents] using ents_map f ps
theorem ents_keys : ∀ (ps : List (Int × Int)) (v : List (Option O3)), (ents ps v).map (·.1) = keysP ps v
  | [], v => by cases v <;> rfl
  | p :: ps, [] => rfl
  | p :: ps, none :: v => ents_keys ps v
  | p :: ps, some o :: v => by simp [ents, keysP, ents_keys ps v]
theorem keys_sublist : ∀ (ps : List (Int × Int)) (v : List (Option O3)), (keysP ps v).Sublist ps
  | [], v => by cases v <;> exact .slnil
  | p :: ps, [] => List.nil_sublist _
  | p :: ps, none :: v => (keys_sublist ps v).cons p
  | p :: ps, some o :: v => (keys_sublist ps v).cons_cons p
def entD (e : (Int × Int) × O3) : D × D := (prD e.1, e.2.d e.1.1 e.1.2)
def O3.ix : O3 → Nat
  | .a => 0
  | .b => 1
  | .t => 2
theorem rise_pw {n : Int} : ∀ {ps : List (Int × Int)} {b : Int × Int}, riseP n b ps → ps.Pairwise lexP
  | [], _, _ => .nil
  | p :: ps, b, h => by
    have h' := h
    unfold riseP at h'
    exact .cons (rise_gt h'.2.2.2.2) (rise_pw h'.2.2.2.2)
theorem mem_ents {f : Int × Int → Option O3} {ps : List (Int × Int)} {p : Int × Int} {o : O3} : (p, o) ∈ ents ps (ps.map f) ↔ p ∈ ps ∧ f p = some o := by
  rw [ents_map, List.mem_filterMap]
  constructor
  · rintro ⟨q, hq, e⟩
    cases h : f q with
    | none => rw [h] at e; cases e
    | some o' =>
      rw [h] at e
      cases e
      exact ⟨hq, h⟩
  · rintro ⟨hp, e⟩
    exact ⟨p, hp, by rw [e]; rfl⟩
theorem ents_nodup {ps : List (Int × Int)} (v : List (Option O3)) (h : ps.Nodup) : ((ents ps v).map (·.1)).Nodup := by
  rw [ents_keys]
  exact h.sublist (keys_sublist ps v)
def Lg.es (l : Lg) : List ((Int × Int) × O3) := ents (pairsI l.n) l.v
theorem Lg.pl_es (l : Lg) : l.pl = l.es.map fun e => mD e.1 e.2 := enc_ents _ _
theorem Lg.Ok.mem_es {l : Lg} (h : l.Ok) {p : Int × Int} {o : O3} : (p, o) ∈ l.es ↔ p ∈ pairsI l.n ∧ l.at p = some o := by
  unfold Lg.es
  rw [h.vat]
  exact mem_ents
theorem Lg.Ok.es_nd {l : Lg} (h : l.Ok) : (l.es.map (·.1)).Nodup := ents_nodup _ (pairs_nodup h.h2 h.h6)
theorem ents_len : ∀ (ps : List (Int × Int)) (v : List (Option O3)), (ents ps v).length ≤ ps.length
  | [], v => by cases v <;> simp [ents]
  | p :: ps, [] => by simp [ents]
  | p :: ps, none :: v => by have := ents_len ps v; simp only [ents, List.length_cons]; omega
  | p :: ps, some o :: v => by have := ents_len ps v; simp only [ents, List.length_cons]; omega
theorem Lg.Ok.es_len {l : Lg} (h : l.Ok) : l.es.length ≤ 15 := Nat.le_trans (ents_len _ _) (pairs_len h.h2 h.h6)
theorem es_pw {l : Lg} (hl : l.Ok) : (l.es.map (·.1)).Pairwise lexP := by
  unfold Lg.es
  rw [ents_keys]
  exact (rise_pw (pairs_rise hl.h2 hl.h6)).sublist (keys_sublist _ _)
end
end FX.Pg
set_option Elab.async false
set_option linter.all false
set_option maxRecDepth 100000
namespace FX.Pg
open PySem PySem.Spec L2 FX
theorem left_split {p : Int × Int} : ∀ {ps : List (Int × Int)} {v : List (Option O3)}, p ∈ leftP ps v → ∃ as bs va vb, ps = as ++ p :: bs ∧ v = va ++ none :: vb ∧ as.length = va.length
  | [], v, h => by cases v <;> cases h
  | q :: ps, [], h => by cases h
  | q :: ps, some o :: v, h => by
    obtain ⟨as, bs, va, vb, e1, e2, e3⟩ := left_split (ps := ps) (v := v) h
    exact ⟨q :: as, bs, some o :: va, vb, by rw [e1]; rfl, by rw [e2]; rfl, by simp [e3]⟩
  | q :: ps, none :: v, h => by
    rcases List.mem_cons.mp h with rfl | h
    · exact ⟨[], ps, [], v, rfl, rfl, rfl⟩
    · obtain ⟨as, bs, va, vb, e1, e2, e3⟩ := left_split (ps := ps) (v := v) h
      exact ⟨q :: as, bs, none :: va, vb, by rw [e1]; rfl, by rw [e2]; rfl, by simp [e3]⟩
def putV : List (Int × Int) → List (Option O3) → Int × Int → O3 → List (Option O3)
  | q :: ps, x :: v, p, o => if q = p then some o :: v else x :: putV ps v p o
  | _, v, _, _ => v
theorem putV_split {p : Int × Int} {o : O3} {bs : List (Int × Int)} {x : Option O3} {vb : List (Option O3)} : ∀ {as : List (Int × Int)} {va : List (Option O3)}, as.length = va.length → p ∉ as → putV (as ++ p :: bs) (va ++ x :: vb) p o = va ++ some o :: vb
  | [], [], _, _ => by simp [putV]
  | [], _ :: _, h, _ => by simp at h
  | _ :: _, [], h, _ => by simp at h
  | a :: as, b :: va, h, hp => by
    have : a ≠ p := fun e => hp (by simp [e])
    simp only [List.cons_append, putV, if_neg this, List.cons.injEq, true_and]
    exact putV_split (by simpa using h) fun z => hp (by simp [z])
def Lg.put (l : Lg) (p : Int × Int) (o : O3) : Lg := ⟨l.t, l.n, putV (pairsI l.n) l.v p o⟩
structure SpAt (l : Lg) (p : Int × Int) (as bs : List (Int × Int)) (va vb : List (Option O3)) : Prop where
  ps : pairsI l.n = as ++ p :: bs
  v : l.v = va ++ none :: vb
  la : as.length = va.length
  put : ∀ o, (l.put p o).v = va ++ some o :: vb
  na : p ∉ as
  nb : p ∉ bs
  lt : ∀ q ∈ as, lexP q p
  gt : ∀ q ∈ bs, lexP p q
theorem Lg.Ok.sp {l : Lg} (h : l.Ok) {p : Int × Int} (hp : p ∈ l.left) : ∃ as bs va vb, SpAt l p as bs va vb := by
  obtain ⟨as, bs, va, vb, e1, e2, e3⟩ := left_split hp
  have nd := pairs_nodup h.h2 h.h6
  have pw := rise_pw (pairs_rise h.h2 h.h6)
  rw [e1] at nd pw
  obtain ⟨_, n2, n3⟩ := List.nodup_append.mp nd
  obtain ⟨_, w2, w3⟩ := List.pairwise_append.mp pw
  have na : p ∉ as := fun z => n3 p z p (by simp) rfl
  refine ⟨as, bs, va, vb, e1, e2, e3, fun o => ?_, na, (List.nodup_cons.mp n2).1, fun q hq => w3 q hq p (by simp), (List.pairwise_cons.mp w2).1⟩
  show putV (pairsI l.n) l.v p o = _
  rw [e1, e2, putV_split e3 na]
theorem ents_app : ∀ (ps qs : List (Int × Int)) (v u : List (Option O3)), ps.length = v.length → ents (ps ++ qs) (v ++ u) = ents ps v ++ ents qs u
  | [], qs, [], u, _ => by simp [ents]
  | [], _, _ :: _, _, h => by simp at h
  | _ :: _, _, [], _, h => by simp at h
  | p :: ps, qs, none :: v, u, h => by simp [ents, ents_app ps qs v u (by simpa using h)]
  | p :: ps, qs, some o :: v, u, h => by simp [ents, ents_app ps qs v u (by simpa using h)]
theorem left_app : ∀ (ps qs : List (Int × Int)) (v u : List (Option O3)), ps.length = v.length → leftP (ps ++ qs) (v ++ u) = leftP ps v ++ leftP qs u
  | [], qs, [], u, _ => by simp [leftP]
  | [], _, _ :: _, _, h => by simp at h
  | _ :: _, _, [], _, h => by simp at h
  | p :: ps, qs, none :: v, u, h => by simp [leftP, left_app ps qs v u (by simpa using h)]
  | p :: ps, qs, some o :: v, u, h => by simp [leftP, left_app ps qs v u (by simpa using h)]
section
variable {l : Lg} {p : Int × Int} {as bs : List (Int × Int)} {va vb : List (Option O3)}
theorem SpAt.es (h : SpAt l p as bs va vb) : l.es = ents as va ++ ents bs vb := by
  unfold Lg.es
  rw [h.ps, h.v, ents_app _ _ _ _ h.la]
  rfl
theorem SpAt.left (h : SpAt l p as bs va vb) : l.left = leftP as va ++ p :: leftP bs vb := by
  unfold Lg.left
  rw [h.ps, h.v, left_app _ _ _ _ h.la]
  rfl
theorem Lg.Ok.put (hl : l.Ok) (h : SpAt l p as bs va vb) {o : O3} (ho : l.t = false → o ≠ .t) : (l.put p o).Ok := by
  refine ⟨hl.h2, hl.h6, ?_, fun ht hm => ?_⟩
  · have := hl.len
    show (l.put p o).v.length = (pairsI l.n).length
    rw [h.put, ← this, h.v]
    simp
  · rw [h.put] at hm
    have := hl.tie ht
    rw [h.v] at this
    simp only [List.mem_append, List.mem_cons, not_or] at this hm
    rcases hm with z | z | z
    · exact this.1 z
    · cases z; exact ho ht rfl
    · exact this.2.2 z
end
end FX.Pg
set_option Elab.async false
set_option linter.all false
set_option maxRecDepth 100000
namespace FX.Pg
open PySem PySem.Spec L2 FX
theorem sum_set : ∀ {h : List Int} {i : Nat} (x : Int), i < h.length → (h.set i (h.getD i 0 + x)).sum = h.sum + x
  | [], i, x, e => by simp at e
  | a :: h, 0, x, _ => by simp; omega
  | a :: h, i + 1, x, e => by
    have := sum_set (h := h) (i := i) x (by simpa using e)
    simp only [List.set_cons_succ, List.getD_cons_succ, List.sum_cons, this]
    omega
theorem addI_sum (h : List Int) (i x : Int) (h0 : 0 ≤ i) (h1 : i < (h.length : Nat)) : (addI h i x).sum = h.sum + x := sum_set x (by omega)
theorem ptsP_sum {t : Bool} : ∀ (ps : List (Int × Int)) (v : List (Option O3)) (h : List Int), (∀ p ∈ ps, 0 ≤ p.1 ∧ p.1 < p.2 ∧ p.2 < (h.length : Nat)) → (t = false → some O3.t ∉ v) → (ptsP t ps v h).sum = h.sum + wth t * ((ents ps v).length : Nat)
  | [], v, h, _, _ => by cases v <;> simp [ptsP, ents]
  | p :: ps, [], h, _, _ => by simp [ptsP, ents]
  | p :: ps, none :: v, h, hb, ht => ptsP_sum ps v h (fun q hq => hb q (by simp [hq])) fun e z => ht e (by simp [z])
  | p :: ps, some o :: v, h, hb, ht => by
    obtain ⟨b1, b2, b3⟩ := hb p (by simp)
    have ih := ptsP_sum ps v (stepH t h p o) (fun q hq => by rw [stepH_len]; exact hb q (by simp [hq])) fun e z => ht e (by simp [z])
    have s2 := (sh2_sum (t := t) (o := o) fun e z => ht e (by simp [z])).1
    have e1 : (stepH t h p o).sum = h.sum + wth t := by
      unfold stepH
      rw [addI_sum _ _ _ (by omega) (by rw [addI_len]; omega), addI_sum _ _ _ b1 (by omega)]
      omega
    show (ptsP t ps v (stepH t h p o)).sum = _
    rw [ih, e1]
    simp only [ents, List.length_cons]
    rw [show ((((ents ps v).length + 1 : Nat)) : Int) = ((ents ps v).length : Int) + 1 by omega, Int.mul_add]
    omega
theorem Lg.Ok.pts_sum {l : Lg} (h : l.Ok) : l.pts.sum = wth l.t * (l.es.length : Nat) := by
  unfold Lg.pts
  rw [ptsP_sum _ _ _ (by rw [List.length_replicate]; exact pairs_mem h.h2 h.h6) h.tie]
  have : (List.replicate l.n (0 : Int)).sum = 0 := by simp
  rw [this]
  show 0 + wth l.t * ((ents (pairsI l.n) l.v).length : Nat) = _
  rw [Int.zero_add]; rfl
end FX.Pg
set_option Elab.async false
set_option linter.all false
set_option maxRecDepth 100000
namespace FX.Pg
open PySem PySem.Spec L2 FX
theorem fill_left : ∀ (ps : List (Int × Int)) (v : List (Option O3)), (∀ x ∈ v, x ≠ none) → leftP ps v = []
  | [], v, _ => by cases v <;> rfl
  | p :: ps, [], _ => rfl
  | p :: ps, none :: v, h => absurd rfl (h none (by simp))
  | p :: ps, some o :: v, h => fill_left ps v fun x hx => h x (by simp [hx])
theorem fill_self : ∀ (v : List (Option O3)), (∀ x ∈ v, x ≠ none) → fillV v (v.map fun _ => O3.a) = v
  | [], _ => rfl
  | none :: v, h => absurd rfl (h none (by simp))
  | some o :: v, h => by
    have := fill_self v fun x hx => h x (by simp [hx])
    simp only [List.map_cons, fillV, this, Option.getD_some]
theorem EndOf.full {l e : Lg} (hE : EndOf l e) : ∀ x ∈ e.v, x ≠ none := by
  obtain ⟨os, _, ev⟩ := hE.v
  rw [ev]
  exact fillV_some _ _
theorem EndOf.self {l e : Lg} (hE : EndOf l e) : EndOf e e := ⟨hE.ok, rfl, rfl, e.v.map fun _ => O3.a, by simp, (fill_self _ hE.full).symm⟩
theorem EndOf.left {l e : Lg} (hE : EndOf l e) : e.left = [] := fill_left _ _ hE.full
end FX.Pg
set_option Elab.async false
set_option linter.all false
set_option maxRecDepth 100000
namespace FX.Pg
open PySem PySem.Spec L2 FX
def Lg.W (l : Lg) (h : List Int) (q : Nat) : Int := h.getD q 0 - l.pts.getD q 0
end FX.Pg
set_option Elab.async false
set_option linter.all false
set_option maxRecDepth 100000
namespace FX.Pg
open PySem PySem.Spec L2 FX
theorem Pm.map {n : Nat} {π : List Nat} (h : Pm n π) : π = (List.range n).map (nm π) := by
  apply List.ext_getElem?
  intro i
  by_cases hi : i < n
  · rw [h.at hi]; simp [hi]
  · rw [List.getElem?_eq_none (by rw [h.len]; omega), List.getElem?_eq_none (by simp; omega)]
theorem alike_ints : ∀ a b : List Int, PySem.W.alikeAll (a.map PyData.int) (b.map PyData.int) = true
  | [], b => by simp [PySem.W.alikeAll]
  | _ :: _, [] => by simp [PySem.W.alikeAll]
  | x :: a, y :: b => by
    have := alike_ints a b
    simp [PySem.W.alikeAll, PySem.W.alike, this]
end FX.Pg
set_option Elab.async false
set_option linter.all false
set_option maxRecDepth 100000
namespace FX.Pg
open PySem PySem.Spec L2 FX
end FX.Pg
set_option Elab.async false
set_option linter.all false
set_option maxRecDepth 100000
namespace FX.Pg
open PySem PySem.Spec L2 FX
section
variable {Y : Sys} {Γ Γ' Γ1 Γ2 : Ev} {s s' s1 s2 : Y.S}
theorem if_yes {t : GT Y} {g h : GS Y} (e : t Γ s = some (.ok true, Γ', s')) : sIf t g h Γ s = g Γ' s' := by
  unfold sIf bdS
  rw [e]; rfl
theorem if_no {t : GT Y} {g h : GS Y} (e : t Γ s = some (.ok false, Γ', s')) : sIf t g h Γ s = h Γ' s' := by
  unfold sIf bdS
  rw [e]; rfl
theorem and_t {a b : GT Y} {r : Bool} (ha : a Γ s = some (.ok true, Γ', s')) (hb : b Γ' s' = some (.ok r, Γ1, s1)) : gAnd a b Γ s = some (.ok r, Γ1, s1) := by
  unfold gAnd
  rw [bd_ok ha]
  simpa using hb
theorem and_f {a b : GT Y} (ha : a Γ s = some (.ok false, Γ', s')) : gAnd a b Γ s = some (.ok false, Γ', s') := by
  unfold gAnd
  rw [bd_ok ha]
  rfl
theorem or_f {a b : GT Y} {r : Bool} (ha : a Γ s = some (.ok false, Γ', s')) (hb : b Γ' s' = some (.ok r, Γ1, s1)) : gOr a b Γ s = some (.ok r, Γ1, s1) := by
  unfold gOr
  rw [bd_ok ha]
  simpa using hb
theorem not_ok {a : GT Y} {r : Bool} (ha : a Γ s = some (.ok r, Γ', s')) : gNot a Γ s = some (.ok (!r), Γ', s') := by
  unfold gNot
  rw [bd_ok ha]
theorem and_b {a b : GT Y} {p q : Bool} (ha : a Γ s = some (.ok p, Γ, s)) (hb : b Γ s = some (.ok q, Γ, s)) : gAnd a b Γ s = some (.ok (p && q), Γ, s) := by
  cases p with
  | true => exact and_t ha hb
  | false => exact and_f ha
theorem fn_v {n : Nat} {m : Fm Y} {ga : GA Y} {rs : List R} {d : D} (ha : ga Γ s = some (.ok rs, Γ', s')) (hr : (rs.all argR && rs.length == n) = true) (e : m rs s' = some (.ok (.v d), s1)) : gFn n m ga Γ s = some (.ok (.v d), Γ', s1) := by
  unfold gFn
  rw [bd_ok ha]
  simp only [hr, if_true, e]
theorem fn_o {n : Nat} {m : Fm Y} {ga : GA Y} {rs : List R} {d : D} (ha : ga Γ s = some (.ok rs, Γ', s')) (hr : (rs.all argR && rs.length == n) = true) (e : m rs s' = some (.ok (.o d), s1)) : gFn n m ga Γ s = some (.ok (.o d), Γ', s1) := by
  unfold gFn
  rw [bd_ok ha]
  simp only [hr, if_true, e]
theorem call_ok {f : List D → Option Rz} {ga : GA Y} {rs : List R} {ds : List D} {z : Rz} (ha : ga Γ s = some (.ok rs, Γ', s')) (hr : rdA Γ' rs = some ds) (hf : f ds = some z) : gCall f ga Γ s = some (.ok z.r, Γ', s') := by
  unfold gCall
  rw [bd_ok ha]
  simp only [opN, hr, hf]
theorem itL_o {g : GE Y} {ds : List D} (h : g Γ s = some (.ok (.o (.list ds)), Γ', s')) : gItL g Γ s = some (.ok ds, Γ', s') := by
  unfold gItL
  rw [bd_ok (esc_o h)]
theorem itL_v {g : GE Y} {ds : List D} (h : g Γ s = some (.ok (.v (.list ds)), Γ', s')) : gItL g Γ s = some (.ok ds, Γ', s') := by
  unfold gItL
  rw [bd_ok (esc_v h)]
theorem ret_v {g : GE Y} {d : D} (h : g Γ s = some (.ok (.v d), Γ', s')) : sRet g Γ s = some (.rt (.v d), Γ', s') := by
  unfold sRet bdS
  rw [h]
theorem ret_o {g : GE Y} {d : D} (h : g Γ s = some (.ok (.o d), Γ', s')) : sRet g Γ s = some (.rt (.o d), Γ', s') := by
  unfold sRet bdS
  rw [h]
theorem drop_ok {g : GE Y} {r : R} (h : g Γ s = some (.ok r, Γ', s')) : sDrop g Γ s = some (.nx, Γ', s') := by
  unfold sDrop bdS
  rw [h]
theorem nx_seq {g h : GS Y} {out : Fl × Ev × Y.S} (e : g Γ s = some (.nx, Γ', s')) (e2 : h Γ' s' = some out) : sSeq g h Γ s = some out := by
  rw [seq_nx e, e2]
end
end FX.Pg
set_option Elab.async false
set_option linter.all false
set_option maxRecDepth 100000
namespace FX.Pg
open PySem PySem.Spec L2 FX
def outs (t : Bool) : List O3 := if t = true then [.a, .t, .b] else [.a, .b]
theorem outs_ok {t : Bool} {o : O3} : o ∈ outs t ↔ (t = false → o ≠ .t) := by cases t <;> cases o <;> decide
theorem outs_len (t : Bool) : 2 ≤ (outs t).length ∧ (outs t).length ≤ 3 := by cases t <;> decide
theorem eq_ties (t : Bool) : fEq (.str (kindS t)) (.str (Str.ofString "ties")) = some (.nw (.bool t)) := by simp [fEq, kindS_sh, sh_ties, eqvS, kindS_ties]
theorem nodup_pw : ∀ {L : List (Int × Int)}, L.Pairwise lexP → L.Nodup
  | [], _ => .nil
  | a :: L, h => by
    obtain ⟨h1, h2⟩ := List.pairwise_cons.mp h
    refine List.nodup_cons.mpr ⟨fun z => ?_, nodup_pw h2⟩
    have := h1 a z
    unfold lexP at this
    omega
theorem nd_uniq : ∀ {F : List ((Int × Int) × O3)}, (F.map (·.1)).Nodup → ∀ e ∈ F, ∀ f ∈ F, e.1 = f.1 → e = f
  | [], _, e, he, _, _, _ => by cases he
  | a :: F, h, e, he, f, hf, z => by
    obtain ⟨h1, h2⟩ := List.nodup_cons.mp h
    rcases List.mem_cons.mp he with e1 | he'
    · rcases List.mem_cons.mp hf with f1 | hf'
      · rw [e1, f1]
      · exact absurd (show a.1 ∈ F.map (·.1) from List.mem_map.mpr ⟨f, hf', by rw [← z, e1]⟩) h1
    · rcases List.mem_cons.mp hf with f1 | hf'
      · exact absurd (show a.1 ∈ F.map (·.1) from List.mem_map.mpr ⟨e, he', by rw [z, f1]⟩) h1
      · exact nd_uniq h2 e he' f hf' z
section
variable {Y : Sys}
theorem copy_eq (l : Lg) (s : Y.S) : m__law_copy [.v l.d] s = some (.ok (.v l.d), s) := by
  have a0 : atI [PyData.str (kindS l.t), .int (l.n : Nat), .list l.pl] 0 = some (.str (kindS l.t)) := rfl
  have a1 : atI [PyData.str (kindS l.t), .int (l.n : Nat), .list l.pl] 1 = some (.int (l.n : Nat)) := rfl
  have a2 : atI [PyData.str (kindS l.t), .int (l.n : Nat), .list l.pl] 2 = some (.list l.pl) := rfl
  (simp [mOf, bd, bdS, gC, gV, op1, op2, opN, gBin, gUn, gEsc, gN, gK, gCall, FX.gTup, gLst, gDic, gTst, gNot, gAnd, gOr, gAndV, gOrV, gNotV, gIf, gChain, bindT, bindTs, sNil, sSeq, sDrop, sRet, sRetN, sBrk, sCnt, sIf, sStuck, sSet, sUnp, gFn, argR, rdv, Rz.r, fAdd, fSub, fMul, fDiv, fMod, fNeg, fLt, fGt, fGe, fIsN, fNotN, fEq, fNe, fLe, fIn2, fNotIn2, fIx, fLen, fInt, gTyEq, gTyNe, gIsI, gSl, gNoP, gPart, fSl, fRev, fTup, vs?, rdA, zB, tyD, shI, shN, shB, eqvI, eqvS, q__law_copy, b__law_copy, Lg.d, a0, a1, a2, fList, sizeOk] <;> try rfl)
end
end FX.Pg
set_option Elab.async false
set_option linter.all false
set_option maxRecDepth 100000
namespace FX.Pg
open PySem PySem.Spec L2 FX
section
variable {Y : Sys}
theorem put_in {k : Nat} {gk ge : GE Y} {Γ : Ev} {s : Y.S} {h : List Int} {i x : Int} (he : ge Γ s = some (.ok (.v (.int x)), Γ, s)) (hk : gk Γ s = some (.ok (.v (.int i)), Γ, s)) (hΓ : Γ[k]? = some (some (.o (.list (h.map PyData.int)))))
    (h0 : 0 ≤ i) (h1 : i < (h.length : Nat)) : sPut k gk ge Γ s = some (.nx, Γ.set k (some (.o (.list ((h.set i.toNat x).map PyData.int)))), s) := put_run he hk hΓ (ix_in h0 h1)
end
end FX.Pg
set_option Elab.async false
set_option linter.all false
set_option maxRecDepth 100000
namespace FX.Pg
open PySem PySem.Spec L2 FX
section
variable {K : PySem.W.Frag} {sa : Addr} {ns : List Int} {tb : List (Addr × Str)}
def cS (s : List Cell) : (ClY K sa ns tb).S := s
theorem bdS_ok {Y : Sys} {α : Type} {Γ Γ' : Ev} {s s' : Y.S} {g : Ev → Y.S → Option (Oc α × Ev × Y.S)} {k : α → Ev → Y.S → Option (Fl × Ev × Y.S)} {a : α} (h : g Γ s = some (.ok a, Γ', s')) : bdS g k Γ s = k a Γ' s' := by unfold bdS; rw [h]
theorem ixH_ok {Γ : Ev} {s : List Cell} {i k : Nat} {j : Int} {ds : List D} {d : D} {gk : GE (ClY K sa ns tb)} (h : Γ[i]? = some (some (.h k))) (hs : s[k]? = some (.lst ds)) (hk : gk Γ (cS s) = some (.ok (.v (.int j)), Γ, cS s)) (hd : atI ds j = some d) :
    gIxC i gk Γ (cS s) = some (.ok (.v d), Γ, cS s) := by
  unfold gIxC
  simp only [h]
  refine (bd_ok (Y := ClY K sa ns tb) hk).trans ?_
  simp only [h]
  show (match s[k]? with | some (Cell.lst ds) => (match atI ds j with | some d => some (Oc.ok (R.v d), Γ, cS s) | none => none) | _ => none) = _
  rw [hs]
  simp only [hd]
theorem putH_ok {Γ : Ev} {s : List Cell} {i k n : Nat} {j : Int} {ds : List D} {d : D} {gk ge : GE (ClY K sa ns tb)} (h : Γ[i]? = some (some (.h k))) (hs : s[k]? = some (.lst ds)) (he : ge Γ (cS s) = some (.ok (.v d), Γ, cS s)) (hk : gk Γ (cS s) = some (.ok (.v (.int j)), Γ, cS s)) (hn : ixN ds.length j = some n) :
    sPutC i gk ge Γ (cS s) = some (.nx, Γ, cS (s.set k (.lst (ds.set n d)))) := by
  unfold sPutC
  simp only [h]
  refine (bdS_ok (Y := ClY K sa ns tb) (esc_v he)).trans ?_
  refine (bdS_ok (Y := ClY K sa ns tb) hk).trans ?_
  simp only [h]
  show (match s[k]? with | some (Cell.lst ds) => (match ixN ds.length j with | some n => some (Fl.nx, Γ, cS (s.set k (Cell.lst (ds.set n d)))) | none => none) | _ => none) = _
  rw [hs]
  simp only [hn]
def St3 (s : List Cell) (k : Nat) : Prop := ∃ g a c : Int, s[k]? = some (.lst [.int g, .int a, .int c])
theorem St3.put {s : List Cell} {k : Nat} (h : St3 s k) (g a c : Int) : St3 (s.set k (.lst [.int g, .int a, .int c])) k := by
  obtain ⟨_, _, _, e⟩ := h
  have := (List.getElem?_eq_some_iff.mp e).1
  exact ⟨g, a, c, by rw [List.getElem?_set_self this]⟩
def FrS (k : Nat) (s s' : List Cell) : Prop := s'.length = s.length ∧ ∀ j, j ≠ k → s'[j]? = s[j]?
theorem FrS.set {k : Nat} {s : List Cell} {c : Cell} : FrS k s (s.set k c) := ⟨by simp, fun j hj => List.getElem?_set_ne (Ne.symm hj)⟩
theorem lenE {α : Type} {Γ : Ev} {i : Nat} {s : List Cell} {L : List α} {f : α → D} (hi : Γ[i]? = some (some (.o (.list (L.map f)))) ∨ Γ[i]? = some (some (.v (.list (L.map f))))) : gCall (Y := ClY K sa ns tb) fLen (gK (gV i) gN) Γ (cS s) = some (.ok (.v (.int (L.length : Nat))), Γ, cS s) := by
  rcases hi with hi | hi
  · have v1 : gV (Y := ClY K sa ns tb) i Γ (cS s) = some (.ok (.b i), Γ, cS s) := by unfold gV; rw [hi]
    exact call_ok (z := .nw (.int (L.length : Nat))) (gk_ok v1 rfl) (ds := [.list (L.map f)]) (by simp [rdA, rdv, hi]) (by simp [fLen])
  · have v1 : gV (Y := ClY K sa ns tb) i Γ (cS s) = some (.ok (.v (.list (L.map f))), Γ, cS s) := by unfold gV; rw [hi]
    exact call_ok (z := .nw (.int (L.length : Nat))) (gk_ok v1 rfl) (ds := [.list (L.map f)]) (by simp [rdA, rdv]) (by simp [fLen])
theorem app_ok {Y : Sys} {Γ Γ1 : Ev} {s s1 : Y.S} {i : Nat} {ge : GE Y} {d : D} {ds ds' : List D} (hi : Γ[i]? = some (some (.o (.list ds)))) (he : ge Γ s = some (.ok (.v d), Γ1, s1)) (hi' : Γ1[i]? = some (some (.o (.list ds')))) (hz : ds'.length ≤ 1000000) :
    gApp i ge Γ s = some (.ok (.v .none), Γ1.set i (some (.o (.list (ds' ++ [d])))), s1) := by
  unfold gApp
  simp only [hi]
  rw [bd_ok (esc_v he)]
  have : sizeOk ds'.length = true := sizeOk_true hz
  simp only [hi', this, if_true]
end
end FX.Pg
set_option Elab.async false
set_option linter.all false
set_option maxRecDepth 100000
namespace FX.Pg
open PySem PySem.Spec L2 FX
def lookE (E : List ((Int × Int) × O3)) (p : Int × Int) : Option O3 := (E.find? fun e => decide (e.1 = p)).map (·.2)
theorem lookE_iff {E : List ((Int × Int) × O3)} (nd : (E.map (·.1)).Nodup) {p : Int × Int} {o : O3} : lookE E p = some o ↔ (p, o) ∈ E := by
  unfold lookE
  constructor
  · intro h
    cases q : E.find? fun e => decide (e.1 = p) with
    | none => rw [q] at h; cases h
    | some e =>
      rw [q] at h
      have h1 := List.mem_of_find?_eq_some q
      have h2 := List.find?_some q
      have : e.1 = p := by simpa using h2
      have h3 : e.2 = o := by simpa using h
      rw [← this, ← h3]; exact h1
  · intro h
    cases q : E.find? fun e => decide (e.1 = p) with
    | none =>
      have := List.find?_eq_none.mp q _ h
      simp at this
    | some e =>
      have h1 := List.mem_of_find?_eq_some q
      have h2 := List.find?_some q
      have e1 : e.1 = p := by simpa using h2
      have := nd_uniq nd e h1 (p, o) h e1
      rw [this]; rfl
def lgOf (t : Bool) (n : Nat) (E : List ((Int × Int) × O3)) : Lg := ⟨t, n, (pairsI n).map (lookE E)⟩
theorem lgOf_ok {t : Bool} {n : Nat} (h2 : 2 ≤ n) (h6 : n ≤ 6) {E : List ((Int × Int) × O3)} (nd : (E.map (·.1)).Nodup) (ho : ∀ e ∈ E, t = false → e.2 ≠ .t) : (lgOf t n E).Ok := by
  refine ⟨h2, h6, by simp [lgOf], fun ht hm => ?_⟩
  obtain ⟨p, _, e⟩ := List.mem_map.mp hm
  exact ho _ ((lookE_iff nd).mp e) ht rfl
theorem nd_of_map {α β : Type} {f : α → β} : ∀ {L : List α}, (L.map f).Nodup → L.Nodup
  | [], _ => .nil
  | a :: L, h => by
    obtain ⟨h1, h2⟩ := List.nodup_cons.mp h
    exact List.nodup_cons.mpr ⟨fun z => h1 (List.mem_map.mpr ⟨a, z, rfl⟩), nd_of_map h2⟩
theorem lgOf_perm {t : Bool} {n : Nat} (h2 : 2 ≤ n) (h6 : n ≤ 6) {E : List ((Int × Int) × O3)} (nd : (E.map (·.1)).Nodup) (hs : ∀ e ∈ E, e.1 ∈ pairsI n) : E.Perm (lgOf t n E).es := by
  have n1 : E.Nodup := nd_of_map nd
  have n2 : (lgOf t n E).es.Nodup := nd_of_map (ents_nodup _ (pairs_nodup h2 h6))
  refine (List.perm_ext_iff_of_nodup n1 n2).mpr fun ⟨p, o⟩ => ?_
  have m : (p, o) ∈ (lgOf t n E).es ↔ p ∈ pairsI n ∧ lookE E p = some o := mem_ents
  rw [m, lookE_iff nd]
  exact ⟨fun h => ⟨hs _ h, h⟩, fun h => h.2⟩
end FX.Pg
set_option Elab.async false
set_option linter.all false
set_option maxRecDepth 100000
namespace FX.Pg
open PySem PySem.Spec L2 FX
structure Step (l : Lg) (p : Int × Int) (o : O3) : Prop where
  ok : (l.put p o).Ok
  t : (l.put p o).t = l.t
  n : (l.put p o).n = l.n
  left : (l.put p o).left = l.left.filter fun q => !decide (q = p)
  pts : ∀ q < l.n, (l.put p o).pts.getD q 0 = l.pts.getD q 0 + con l.t p o (q : Nat)
theorem Step.rest {l : Lg} {p : Int × Int} {o : O3} (h : Step l p o) {R : List (Int × Int)} (nd : (p :: R).Nodup) (hs : ∀ q ∈ p :: R, q ∈ l.left) : ∀ q ∈ R, q ∈ (l.put p o).left := fun q hq => by
  rw [h.left, List.mem_filter]
  refine ⟨hs q (by simp [hq]), ?_⟩
  have : q ≠ p := fun z => (List.nodup_cons.mp nd).1 (by rw [← z]; exact hq)
  simp [this]
structure Filled (l e : Lg) (R : List (Int × Int)) (os : List O3) : Prop where
  ok : e.Ok
  t : e.t = l.t
  n : e.n = l.n
  left : e.left = l.left.filter fun q => !decide (q ∈ R)
  pts : ∀ q < l.n, e.pts.getD q 0 = l.pts.getD q 0 + sumO l.t R os (q : Nat)
end FX.Pg
set_option Elab.async false
set_option linter.all false
set_option maxRecDepth 100000
namespace FX.Pg
open PySem PySem.Spec L2 FX
section
variable {Y : Sys}
def Lg.own (l : Lg) (P : Nat) : List (Int × Int) := l.left.filter fun p => decide (p.1 = (P : Nat)) || decide (p.2 = (P : Nat))
def Lg.most (l : Lg) (P : Nat) : Int := l.pts.getD P 0 + wth l.t * ((l.own P).length : Nat)
theorem in_pr (i : Int) (p : Int × Int) : fIn2 (.int i) (prD p) = some (.nw (.bool (decide (p.1 = i) || decide (p.2 = i)))) := by
  simp [fIn2, prD, flatD, eqvI]
end
end FX.Pg
set_option Elab.async false
set_option linter.all false
set_option maxRecDepth 100000
namespace FX.Pg
open PySem PySem.Spec L2 FX
structure FamOk (n P k : Nat) (ps : List Nat) : Prop where
  nd : ps.Nodup
  lt : ∀ j ∈ ps, j < n
  no : P ∉ ps
  len : ps.length = k
end FX.Pg
set_option Elab.async false
set_option linter.all false
set_option maxRecDepth 100000
namespace FX.Pg
open PySem PySem.Spec L2 FX
end FX.Pg
set_option Elab.async false
set_option linter.all false
set_option maxRecDepth 100000
namespace FX.Pg
open PySem PySem.Spec L2 FX
end FX.Pg
set_option Elab.async false
set_option linter.all false
set_option maxRecDepth 100000
namespace FX.Pg
open PySem PySem.Spec L2 FX
section
variable {K : PySem.W.Frag} {sa : Addr} {ns : List Int} {tb : List (Addr × Str)}
def StD (s : List Cell) (k : Nat) : Prop := ∃ (ds : List Int) (c : Nat), s[k]? = some (.lst [.list (ds.map PyData.int), .int (c : Nat)]) ∧ 0 < ds.length
theorem md_pos {z m : Int} (h : 0 < m) : fMod (.int z) (.int m) = some (.nw (.int (z.fmod m))) := by
  have : decide (m ≠ 0) = true := decide_eq_true (by omega)
  simp only [fMod, this, if_true]
theorem fm_nat (z : Int) {m : Int} (h : 0 < m) : ∃ x : Nat, z.fmod m = (x : Int) ∧ (x : Int) < m := by
  have b1 : 0 ≤ z.fmod m := Int.fmod_nonneg_of_pos z h
  have b2 : z.fmod m < m := Int.fmod_lt_of_pos z h
  obtain ⟨x, hx⟩ := Int.eq_ofNat_of_zero_le b1
  exact ⟨x, hx, by rw [← hx]; exact b2⟩
theorem takeD_ok {s : List Cell} {k : Nat} (h : StD s k) {m : Int} (h0 : 0 < m) :
    ∃ (x : Nat) (s' : List Cell), (x : Int) < m ∧ StD s' k ∧ m__law_take (K := K) (sa := sa) (ns := ns) (tb := tb) [.h k, .v (.int m)] (cS s) = some (.ok (.v (.int (x : Int))), cS s') := by
  obtain ⟨ds, c, e, hd⟩ := h
  have hk := (List.getElem?_eq_some_iff.mp e).1
  let G : Ev := [some (.h k), some (.v (.int m))]
  let s' := s.set k (.lst [.list (ds.map PyData.int), .int ((c + 1 : Nat) : Int)])
  have e' : s'[k]? = some (.lst [.list (ds.map PyData.int), .int ((c + 1 : Nat) : Int)]) := by show (s.set k _)[k]? = _; rw [List.getElem?_set_self hk]
  have c1 : gIxC (K := K) (sa := sa) (ns := ns) (T := tb) 0 (gC (.int 1)) G (cS s) = some (.ok (.v (.int (c : Nat))), G, cS s) := ixH_ok rfl e rfl rfl
  have p1 : sPutC (K := K) (sa := sa) (ns := ns) (T := tb) 0 (gC (.int 1)) (gBin fAdd (gIxC 0 (gC (.int 1))) (gC (.int 1))) G (cS s) = some (.nx, G, cS s') :=
    putH_ok (n := 1) rfl e (bin_of (f := fAdd) (gb := gC (.int 1)) c1 (rb := .v (.int 1)) rfl rfl rfl (z := .nw (.int ((c + 1 : Nat) : Int))) rfl) (rfl : gC (.int 1) _ _ = _) rfl
  have d0 : gIxC (K := K) (sa := sa) (ns := ns) (T := tb) 0 (gC (.int 0)) G (cS s') = some (.ok (.v (.list (ds.map PyData.int))), G, cS s') := ixH_ok rfl e' rfl rfl
  have d1 : gIxC (K := K) (sa := sa) (ns := ns) (T := tb) 0 (gC (.int 1)) G (cS s') = some (.ok (.v (.int ((c + 1 : Nat) : Int))), G, cS s') := ixH_ok rfl e' rfl rfl
  have l0 : gCall (Y := ClY K sa ns tb) fLen (gK (gIxC 0 (gC (.int 0))) gN) G (cS s') = some (.ok (.v (.int (ds.length : Nat))), G, cS s') := call_ok (z := .nw (.int (ds.length : Nat))) (gk_ok d0 rfl) (ds := [.list (ds.map PyData.int)]) rfl (by simp [fLen])
  have z1 := bin_of (f := fSub) (gb := gC (.int 1)) (rb := .v (.int 1)) (z := .nw (.int (c : Nat))) d1 rfl rfl rfl (by
    show some (Rz.nw (.int (((c + 1 : Nat) : Int) - 1))) = _
    rw [show ((c + 1 : Nat) : Int) - 1 = (c : Nat) by omega])
  obtain ⟨q, hq, hq2⟩ := fm_nat ((c : Nat) : Int) (m := (ds.length : Nat)) (by omega)
  have hq3 : q < ds.length := by omega
  have z2 := bin_of (f := fMod) (z := .nw (.int (q : Nat))) z1 l0 rfl rfl (by rw [md_pos (by omega), hq])
  have z3 := bin_of (f := fIx) (z := .old (.int ds[q])) d0 z2 rfl rfl (by
    show (match atI (ds.map PyData.int) (q : Int) with | some d => some (Rz.old d) | none => none) = _
    rw [atI_nat, List.getElem?_map, List.getElem?_eq_getElem hq3]
    rfl)
  obtain ⟨x, hx, hx2⟩ := fm_nat ds[q] h0
  have z4 := bin_of (f := fMod) (gb := gV 1) (rb := .v (.int m)) (z := .nw (.int (x : Nat))) z3 rfl rfl rfl (by rw [md_pos h0, hx])
  refine ⟨x, s', hx2, ⟨ds, c + 1, e', hd⟩, ?_⟩
  rw [q__law_take]
  refine fin_of ?_
  unfold b__law_take
  show fin (sSeq _ _ G (cS s)) = _
  rw [seq_nx p1, ret_v z4]
  rfl
noncomputable def Td (j : Nat) (g : GE (ClY K sa ns tb)) : GE (ClY K sa ns tb) := gFn (Y := ClY K sa ns tb) 2 m__law_take (gK (gEsc (gV j)) (gK (gEsc g) gN))
theorem takeDE {Γ : Ev} {j k : Nat} (h0 : Γ[j]? = some (some (.h k))) {s : List Cell} (h : StD s k) {g : GE (ClY K sa ns tb)} {m : Int} (hm : g Γ (cS s) = some (.ok (.v (.int m)), Γ, cS s)) (m0 : 0 < m) :
    ∃ (x : Nat) (s' : List Cell), (x : Int) < m ∧ StD s' k ∧ Td j g Γ (cS s) = some (.ok (.v (.int (x : Nat))), Γ, cS s') := by
  obtain ⟨x, s', hx, hs, e⟩ := takeD_ok (K := K) (sa := sa) (ns := ns) (tb := tb) h m0
  refine ⟨x, s', hx, hs, ?_⟩
  have a0 : gEsc (Y := ClY K sa ns tb) (gV j) Γ (cS s) = some (.ok (.h k), Γ, cS s) := esc_h (by unfold gV; rw [h0])
  exact fn_v (gk_ok a0 (gk_ok (esc_v hm) rfl)) rfl e
theorem pickDE {α : Type} {Γ Γ1 : Ev} {j k : Nat} (h0 : Γ1[j]? = some (some (.h k))) {s s1 : List Cell} (h : StD s1 k) {ga g : GE (ClY K sa ns tb)} {L : List α} {f : α → D} {r : R} (ha : ga Γ (cS s) = some (.ok r, Γ1, cS s1)) (hr : rdv Γ1 r = some (.list (L.map f)))
    (hm : g Γ1 (cS s1) = some (.ok (.v (.int (L.length : Nat))), Γ1, cS s1)) (hl : 0 < L.length) :
    ∃ (x : Nat) (a : α) (s' : List Cell), L[x]? = some a ∧ StD s' k ∧ gBin fIx ga (Td j g) Γ (cS s) = some (.ok (.v (f a)), Γ1, cS s') := by
  obtain ⟨x, s', hx, hs, e⟩ := takeDE (K := K) (sa := sa) (ns := ns) (tb := tb) h0 h hm (by omega)
  have hx' : x < L.length := by omega
  obtain ⟨a, hq⟩ : ∃ a, L[x]? = some a := ⟨_, List.getElem?_eq_getElem hx'⟩
  refine ⟨x, a, s', hq, hs, bin_of (z := .old (f a)) ha e hr rfl ?_⟩
  show (match atI (L.map f) (x : Int) with | some d => some (Rz.old d) | none => none) = _
  rw [atI_nat, List.getElem?_map, hq]
  rfl
def DE (many : Nat) (ds : List Int) (b : Int) (x4 x5 x6 x7 : Option R) : Ev := [some (.raw (.ref sa)), some (.v (.int (many : Nat))), some (.o (.list (ds.map PyData.int))), some (.v (.int b)), x4, x5, x6, x7]
theorem app_int {Γ Γ1 : Ev} {s : List Cell} {i : Nat} {ge : GE (ClY K sa ns tb)} {x : Int} {ds : List Int} (hi : Γ[i]? = some (some (.o (.list (ds.map PyData.int))))) (he : ge Γ (cS s) = some (.ok (.v (.int x)), Γ, cS s)) (hz : ds.length ≤ 1000000) :
    sDrop (gApp i ge) Γ (cS s) = some (.nx, Γ.set i (some (.o (.list ((ds ++ [x]).map PyData.int)))), cS s) := by
  refine drop_ok (r := .v .none) ?_
  rw [app_ok hi he hi (by simpa using hz)]
  simp
theorem m_mul {Γ : Ev} {s : List Cell} {ga gb : GE (ClY K sa ns tb)} {a b : Int} (ha : ga Γ (cS s) = some (.ok (.v (.int a)), Γ, cS s)) (hb : gb Γ (cS s) = some (.ok (.v (.int b)), Γ, cS s)) (h : a.natAbs < 18446744073709551616 ∨ b.natAbs < 18446744073709551616) : gBin fMul ga gb Γ (cS s) = some (.ok (.v (.int (a * b))), Γ, cS s) :=
  bin_of (f := fMul) (z := .nw (.int (a * b))) ha hb rfl rfl (by
    have : okInt a b = true := h.elim okInt_l okInt_r
    simp only [fMul, this, if_true])
theorem m_add {Γ : Ev} {s : List Cell} {ga gb : GE (ClY K sa ns tb)} {a b : Int} (ha : ga Γ (cS s) = some (.ok (.v (.int a)), Γ, cS s)) (hb : gb Γ (cS s) = some (.ok (.v (.int b)), Γ, cS s)) : gBin fAdd ga gb Γ (cS s) = some (.ok (.v (.int (a + b))), Γ, cS s) :=
  bin_of (f := fAdd) (z := .nw (.int (a + b))) ha hb rfl rfl rfl
theorem m_mod {Γ : Ev} {s : List Cell} {ga : GE (ClY K sa ns tb)} {a m : Int} (ha : ga Γ (cS s) = some (.ok (.v (.int a)), Γ, cS s)) (h : 0 < m) : gBin fMod ga (gC (.int m)) Γ (cS s) = some (.ok (.v (.int (a.fmod m))), Γ, cS s) :=
  bin_of (f := fMod) (gb := gC (.int m)) (rb := .v (.int m)) (z := .nw (.int (a.fmod m))) ha rfl rfl rfl (md_pos h)
theorem m_div {Γ : Ev} {s : List Cell} {ga : GE (ClY K sa ns tb)} {a m : Int} (ha : ga Γ (cS s) = some (.ok (.v (.int a)), Γ, cS s)) (h : 0 < m) (h2 : m < 1073741824) : gBin fDiv ga (gC (.int m)) Γ (cS s) = some (.ok (.v (.int (a.fdiv m))), Γ, cS s) :=
  bin_of (f := fDiv) (gb := gC (.int m)) (rb := .v (.int m)) (z := .nw (.int (a.fdiv m))) ha rfl rfl rfl (by
    have : (decide (m ≠ 0) && decide (m.natAbs < 1073741824)) = true := by simp; omega
    simp only [fDiv, this, if_true])
theorem m_c (Γ : Ev) (s : List Cell) (m : Int) : gC (Y := ClY K sa ns tb) (.int m) Γ (cS s) = some (.ok (.v (.int m)), Γ, cS s) := rfl
theorem m_v {Γ : Ev} {i : Nat} (s : List Cell) {m : Int} (h : Γ[i]? = some (some (.v (.int m)))) : gV (Y := ClY K sa ns tb) i Γ (cS s) = some (.ok (.v (.int m)), Γ, cS s) := by unfold gV; rw [h]
theorem fmB (z : Int) {m : Int} (h : 0 < m) (h2 : m < 18446744073709551616) : (z.fmod m).natAbs < 18446744073709551616 := by
  have b1 : 0 ≤ z.fmod m := Int.fmod_nonneg_of_pos z h
  have b2 : z.fmod m < m := Int.fmod_lt_of_pos z h
  omega
theorem draws_while (many : Nat) (b : Int) (x4 x5 x7 : Option R) (s : List Cell) : ∀ (f : Nat) (ds : List Int) (N : Int), many < ds.length + f → ds.length + f ≤ 2000 → 0 < f →
    ∃ (ds' : List Int) (N' : Int), ds.length ≤ ds'.length ∧ ds'.length ≤ max ds.length many ∧ whileG (t__law_draws_1 (K := K) (sa := sa) (ns := ns) (tb := tb)) l__law_draws_2 f (DE (sa := sa) many ds b x4 x5 (some (.v (.int N))) x7) (cS s) = some (.nx, DE (sa := sa) many ds' b x4 x5 (some (.v (.int N'))) x7, cS s)
  | 0, _, _, _, _, h => absurd h (by omega)
  | f + 1, ds, N, h, h2, _ => by
    let G := DE (sa := sa) many ds b x4 x5 (some (.v (.int N))) x7
    have l1 : gCall (Y := ClY K sa ns tb) fLen (gK (gV 2) gN) G (cS s) = some (.ok (.v (.int (ds.length : Nat))), G, cS s) := lenE (L := ds) (f := PyData.int) (.inl rfl)
    have t1 : gTst (Y := ClY K sa ns tb) (gBin fGt (gV 6) (gC (.int 0))) G (cS s) = some (.ok (decide (0 < N)), G, cS s) := tst_of (bin_of (f := fGt) (ga := gV 6) (ra := .v (.int N)) (rb := .v (.int 0)) (z := .nw (.bool (decide (0 < N)))) rfl rfl rfl rfl (by simp [fGt]))
    have t2 : gTst (Y := ClY K sa ns tb) (gBin fLt (gCall fLen (gK (gV 2) gN)) (gV 1)) G (cS s) = some (.ok (decide (ds.length < many)), G, cS s) := tst_of (bin_of (f := fLt) (gb := gV 1) (rb := .v (.int (many : Nat))) (z := .nw (.bool (decide (ds.length < many)))) l1 rfl rfl rfl (by simp [fLt]))
    have t : t__law_draws_1 (K := K) (sa := sa) (ns := ns) (tb := tb) G (cS s) = some (.ok (decide (0 < N) && decide (ds.length < many)), G, cS s) := and_b t1 t2
    by_cases hc : 0 < N ∧ ds.length < many
    · rw [decide_eq_true hc.1, decide_eq_true hc.2] at t
      let G1 := DE (sa := sa) many (ds ++ [N.fmod 10007]) b x4 x5 (some (.v (.int N))) x7
      have a1 : sDrop (gApp 2 (gBin fMod (gV 6) (gC (.int 10007)))) G (cS s) = some (.nx, G1, cS (K := K) (sa := sa) (ns := ns) (tb := tb) s) := app_int (Γ1 := G) (ds := ds) rfl (m_mod (m_v (m := N) s rfl) (by decide)) (by omega)
      have a2 : sSet 6 (gBin fDiv (gV 6) (gC (.int 10007))) G1 (cS s) = some (.nx, DE (sa := sa) many (ds ++ [N.fmod 10007]) b x4 x5 (some (.v (.int (N.fdiv 10007)))) x7, cS (K := K) (sa := sa) (ns := ns) (tb := tb) s) := set_v (i := 6) (m_div (m_v (m := N) s rfl) (by decide) (by decide))
      obtain ⟨ds', N', c1, c2, c3⟩ := draws_while many b x4 x5 x7 s f (ds ++ [N.fmod 10007]) (N.fdiv 10007) (by simp; omega) (by simp; omega) (by omega)
      simp only [List.length_append, List.length_singleton] at c1 c2
      refine ⟨ds', N', by omega, by omega, ?_⟩
      unfold whileG
      rw [t]
      have body : l__law_draws_2 (K := K) (sa := sa) (ns := ns) (tb := tb) G (cS s) = some (.nx, DE (sa := sa) many (ds ++ [N.fmod 10007]) b x4 x5 (some (.v (.int (N.fdiv 10007)))) x7, cS s) := by
        unfold l__law_draws_2
        rw [seq_nx a1, a2]
      simp only [Bool.and_self, body]
      exact c3
    · have : (decide (0 < N) && decide (ds.length < many)) = false := by
        rw [Bool.and_eq_false_iff, decide_eq_false_iff_not, decide_eq_false_iff_not]
        by_cases h1 : 0 < N
        · exact .inr fun h2 => hc ⟨h1, h2⟩
        · exact .inl h1
      rw [this] at t
      refine ⟨ds, N, Nat.le_refl _, by omega, ?_⟩
      unfold whileG
      rw [t]
theorem draws_body (many : Nat) (hm : many ≤ 600) (ds : List Int) (hd : ds.length ≤ 900) (b : Int) (k : Nat) (c : Int) (x6 x7 : Option R) (s : List Cell) :
    ∃ (ds' : List Int) (b' : Int) (y6 y7 : Option R), ds'.length ≤ max (ds.length + 2) many ∧ l__law_draws_3 (K := K) (sa := sa) (ns := ns) (tb := tb) (DE (sa := sa) many ds b (some (.v (.int (k : Nat)))) (some (.v (.int c))) x6 x7) (cS s) = some (.nx, DE (sa := sa) many ds' b' (some (.v (.int (k : Nat)))) (some (.v (.int c))) y6 y7, cS s) := by
  let G (ds : List Int) (b : Int) (x6 x7 : Option R) : Ev := DE (sa := sa) many ds b (some (.v (.int (k : Nat)))) (some (.v (.int c))) x6 x7
  let N : Int := if c < 0 then -c else c
  have s1 : sSet (Y := ClY K sa ns tb) 6 (gCall fAbs (gK (gV 5) gN)) (G ds b x6 x7) (cS s) = some (.nx, G ds b (some (.v (.int N))) x7, cS s) := by
    have a : gCall (Y := ClY K sa ns tb) fAbs (gK (gV 5) gN) (G ds b x6 x7) (cS s) = some (.ok (.v (.int N)), G ds b x6 x7, cS s) := call_ok (z := .nw (.int N)) (gk_ok (m_v (m := c) s rfl) rfl) (ds := [.int c]) rfl rfl
    exact set_v (i := 6) a
  let b' : Int := (b * 31 + N).fmod 2147483629
  have s2 : sSet (Y := ClY K sa ns tb) 3 (gBin fMod (gBin fAdd (gBin fMul (gV 3) (gC (.int 31))) (gV 6)) (gC (.int 2147483629))) (G ds b (some (.v (.int N))) x7) (cS s) = some (.nx, G ds b' (some (.v (.int N))) x7, cS s) :=
    set_v (i := 3) (m_mod (m_add (m_mul (m_v (m := b) s rfl) (m_c _ s 31) (.inr (by decide))) (m_v (m := N) s rfl)) (by decide))
  have p1 : gBin (Y := ClY K sa ns tb) fPow (gC (.int 10)) (gC (.int 18)) (G ds b' (some (.v (.int N))) x7) (cS s) = some (.ok (.v (.int 1000000000000000000)), G ds b' (some (.v (.int N))) x7, cS s) := bin_of (ra := .v (.int 10)) (rb := .v (.int 18)) (z := .nw (.int _)) rfl rfl rfl rfl rfl
  have t1 : gTst (Y := ClY K sa ns tb) (gBin fGe (gV 6) (gBin fPow (gC (.int 10)) (gC (.int 18)))) (G ds b' (some (.v (.int N))) x7) (cS s) = some (.ok (decide (1000000000000000000 ≤ N)), G ds b' (some (.v (.int N))) x7, cS s) :=
    tst_of (bin_of (f := fGe) (z := .nw (.bool _)) (m_v (m := N) s rfl) p1 rfl rfl rfl)
  unfold l__law_draws_3
  by_cases hN : 1000000000000000000 ≤ N
  · obtain ⟨ds', N', c1, c2, c3⟩ := draws_while (K := K) (sa := sa) (ns := ns) (tb := tb) many b' (some (.v (.int (k : Nat)))) (some (.v (.int c))) x7 s 1000 ds N (by omega) (by omega) (by decide)
    refine ⟨ds', b', some (.v (.int N')), x7, by omega, ?_⟩
    exact nx_seq s1 (nx_seq s2 ((if_yes (t1.trans (by rw [decide_eq_true hN]))).trans c3))
  · let o1 : Int := ((N.fmod 2147483647 + (k : Nat) + 1) * 48271).fmod 2147483647
    let o2 : Int := (o1 * o1).fmod 2147483629
    let e1 : Int := (o2.fdiv 8).fmod 10007
    let o3 : Int := (o2 * 40692 + 2 * (k : Nat) + 1).fmod 2147483563
    let o4 : Int := (o3 * o3).fmod 2147483647
    let e2 : Int := (o4.fdiv 8).fmod 10007
    have u1 : sSet (Y := ClY K sa ns tb) 7 (gBin fMod (gBin fMul (gBin fAdd (gBin fAdd (gBin fMod (gV 6) (gC (.int 2147483647))) (gV 4)) (gC (.int 1))) (gC (.int 48271))) (gC (.int 2147483647))) (G ds b' (some (.v (.int N))) x7) (cS s) = some (.nx, G ds b' (some (.v (.int N))) (some (.v (.int o1))), cS s) :=
      set_v (i := 7) (m_mod (m_mul (m_add (m_add (m_mod (m_v (m := N) s rfl) (by decide)) (m_v (m := (k : Nat)) s rfl)) (m_c _ s 1)) (m_c _ s 48271) (.inr (by decide))) (by decide))
    have u2 : sSet (Y := ClY K sa ns tb) 7 (gBin fMod (gBin fMul (gV 7) (gV 7)) (gC (.int 2147483629))) (G ds b' (some (.v (.int N))) (some (.v (.int o1)))) (cS s) = some (.nx, G ds b' (some (.v (.int N))) (some (.v (.int o2))), cS s) :=
      set_v (i := 7) (m_mod (m_mul (m_v (m := o1) s rfl) (m_v (m := o1) s rfl) (.inl (fmB _ (by decide) (by decide)))) (by decide))
    have u3 : sDrop (Y := ClY K sa ns tb) (gApp 2 (gBin fMod (gBin fDiv (gV 7) (gC (.int 8))) (gC (.int 10007)))) (G ds b' (some (.v (.int N))) (some (.v (.int o2)))) (cS s) = some (.nx, G (ds ++ [e1]) b' (some (.v (.int N))) (some (.v (.int o2))), cS s) :=
      app_int (Γ1 := []) (ds := ds) rfl (m_mod (m_div (m_v (m := o2) s rfl) (by decide) (by decide)) (by decide)) (by omega)
    have u4 : sSet (Y := ClY K sa ns tb) 7 (gBin fMod (gBin fAdd (gBin fAdd (gBin fMul (gV 7) (gC (.int 40692))) (gBin fMul (gC (.int 2)) (gV 4))) (gC (.int 1))) (gC (.int 2147483563))) (G (ds ++ [e1]) b' (some (.v (.int N))) (some (.v (.int o2)))) (cS s) = some (.nx, G (ds ++ [e1]) b' (some (.v (.int N))) (some (.v (.int o3))), cS s) :=
      set_v (i := 7) (m_mod (m_add (m_add (m_mul (m_v (m := o2) s rfl) (m_c _ s 40692) (.inr (by decide))) (m_mul (m_c _ s 2) (m_v (m := (k : Nat)) s rfl) (.inl (by decide)))) (m_c _ s 1)) (by decide))
    have u5 : sSet (Y := ClY K sa ns tb) 7 (gBin fMod (gBin fMul (gV 7) (gV 7)) (gC (.int 2147483647))) (G (ds ++ [e1]) b' (some (.v (.int N))) (some (.v (.int o3)))) (cS s) = some (.nx, G (ds ++ [e1]) b' (some (.v (.int N))) (some (.v (.int o4))), cS s) :=
      set_v (i := 7) (m_mod (m_mul (m_v (m := o3) s rfl) (m_v (m := o3) s rfl) (.inl (fmB _ (by decide) (by decide)))) (by decide))
    have u6 : sDrop (Y := ClY K sa ns tb) (gApp 2 (gBin fMod (gBin fDiv (gV 7) (gC (.int 8))) (gC (.int 10007)))) (G (ds ++ [e1]) b' (some (.v (.int N))) (some (.v (.int o4)))) (cS s) = some (.nx, G (ds ++ [e1] ++ [e2]) b' (some (.v (.int N))) (some (.v (.int o4))), cS s) :=
      app_int (Γ1 := []) (ds := ds ++ [e1]) rfl (m_mod (m_div (m_v (m := o4) s rfl) (by decide) (by decide)) (by decide)) (by simp; omega)
    refine ⟨ds ++ [e1] ++ [e2], b', some (.v (.int N)), some (.v (.int o4)), by simp; omega, ?_⟩
    exact nx_seq s1 (nx_seq s2 ((if_no (t1.trans (by rw [decide_eq_false hN]))).trans (nx_seq u1 (nx_seq u2 (nx_seq u3 (nx_seq u4 (nx_seq u5 u6)))))))
theorem draws_loop (many : Nat) (hm : many ≤ 600) (s : List Cell) : ∀ (L : List Int) (k : Nat) (ds : List Int) (b : Int) (x4 x5 x6 x7 : Option R) (M : Nat), ds.length ≤ M → many ≤ M → M + 2 * L.length ≤ 900 →
    ∃ (ds' : List Int) (b' : Int) (y4 y5 y6 y7 : Option R), ds'.length ≤ M + 2 * L.length ∧ forG (.t (.cons (.n 4) (.cons (.n 5) .nil))) (l__law_draws_3 (K := K) (sa := sa) (ns := ns) (tb := tb)) (enumD k (L.map PyData.int)) (DE (sa := sa) many ds b x4 x5 x6 x7) (cS s) = some (.nx, DE (sa := sa) many ds' b' y4 y5 y6 y7, cS s)
  | [], k, ds, b, x4, x5, x6, x7, M, h1, _, _ => ⟨ds, b, x4, x5, x6, x7, by simpa using h1, rfl⟩
  | c :: L, k, ds, b, x4, x5, x6, x7, M, h1, h2, h3 => by
    simp only [List.length_cons] at h3
    obtain ⟨ds1, b1, y6, y7, c1, c2⟩ := draws_body (K := K) (sa := sa) (ns := ns) (tb := tb) many hm ds (by omega) b k c x6 x7 s
    obtain ⟨ds2, b2, z4, z5, z6, z7, c3, c4⟩ := draws_loop many hm s L (k + 1) ds1 b1 (some (.v (.int (k : Nat)))) (some (.v (.int c))) y6 y7 (M + 2) (by omega) (by omega) (by omega)
    refine ⟨ds2, b2, z4, z5, z6, z7, by simp only [List.length_cons]; omega, ?_⟩
    show forG _ _ (.tuple [.int (k : Nat), .int c] :: enumD (k + 1) (L.map PyData.int)) _ _ = _
    rw [forG_cons (Γ1 := DE (sa := sa) many ds b (some (.v (.int (k : Nat)))) (some (.v (.int c))) x6 x7) rfl, c2]
    exact c4
theorem draws_more (many : Nat) (b : Int) (x5 x6 : Option R) (s : List Cell) : ∀ (m lo : Nat) (ds : List Int) (x4 x7 : Option R), ds.length + m ≤ 2000 →
    ∃ (ds' : List Int) (y4 y7 : Option R), ds'.length = ds.length + m ∧ forG (.n 4) (l__law_draws_4 (K := K) (sa := sa) (ns := ns) (tb := tb)) (rangeD (lo : Nat) m) (DE (sa := sa) many ds b x4 x5 x6 x7) (cS s) = some (.nx, DE (sa := sa) many ds' b y4 x5 x6 y7, cS s)
  | 0, lo, ds, x4, x7, _ => ⟨ds, x4, x7, rfl, rfl⟩
  | m + 1, lo, ds, x4, x7, h => by
    let G (ds : List Int) (x7 : Option R) : Ev := DE (sa := sa) many ds b (some (.v (.int (lo : Nat)))) x5 x6 x7
    let o1 : Int := (b + 7919 * (lo : Nat) + 13).fmod 2147483629
    let o2 : Int := (o1 * o1).fmod 2147483647
    let o3 : Int := (o2 * 69621 + (lo : Nat)).fmod 2147483563
    let e : Int := (((o3 * o3).fmod 2147483629).fdiv 8).fmod 10007
    have u1 : sSet (Y := ClY K sa ns tb) 7 (gBin fMod (gBin fAdd (gBin fAdd (gV 3) (gBin fMul (gC (.int 7919)) (gV 4))) (gC (.int 13))) (gC (.int 2147483629))) (G ds x7) (cS s) = some (.nx, G ds (some (.v (.int o1))), cS s) :=
      set_v (i := 7) (m_mod (m_add (m_add (m_v (m := b) s rfl) (m_mul (m_c _ s 7919) (m_v (m := (lo : Nat)) s rfl) (.inl (by decide)))) (m_c _ s 13)) (by decide))
    have u2 : sSet (Y := ClY K sa ns tb) 7 (gBin fMod (gBin fMul (gV 7) (gV 7)) (gC (.int 2147483647))) (G ds (some (.v (.int o1)))) (cS s) = some (.nx, G ds (some (.v (.int o2))), cS s) :=
      set_v (i := 7) (m_mod (m_mul (m_v (m := o1) s rfl) (m_v (m := o1) s rfl) (.inl (fmB _ (by decide) (by decide)))) (by decide))
    have u3 : sSet (Y := ClY K sa ns tb) 7 (gBin fMod (gBin fAdd (gBin fMul (gV 7) (gC (.int 69621))) (gV 4)) (gC (.int 2147483563))) (G ds (some (.v (.int o2)))) (cS s) = some (.nx, G ds (some (.v (.int o3))), cS s) :=
      set_v (i := 7) (m_mod (m_add (m_mul (m_v (m := o2) s rfl) (m_c _ s 69621) (.inr (by decide))) (m_v (m := (lo : Nat)) s rfl)) (by decide))
    have u4 : sDrop (Y := ClY K sa ns tb) (gApp 2 (gBin fMod (gBin fDiv (gBin fMod (gBin fMul (gV 7) (gV 7)) (gC (.int 2147483629))) (gC (.int 8))) (gC (.int 10007)))) (G ds (some (.v (.int o3)))) (cS s) = some (.nx, G (ds ++ [e]) (some (.v (.int o3))), cS s) :=
      app_int (Γ1 := []) (ds := ds) rfl (m_mod (m_div (m_mod (m_mul (m_v (m := o3) s rfl) (m_v (m := o3) s rfl) (.inl (fmB _ (by decide) (by decide)))) (by decide)) (by decide) (by decide)) (by decide)) (by omega)
    obtain ⟨ds', y4, y7, c1, c2⟩ := draws_more many b x5 x6 s m (lo + 1) (ds ++ [e]) (some (.v (.int (lo : Nat)))) (some (.v (.int o3))) (by simp; omega)
    refine ⟨ds', y4, y7, by rw [c1]; simp; omega, ?_⟩
    have er : rangeD (lo : Nat) (m + 1) = .int (lo : Nat) :: rangeD ((lo + 1 : Nat) : Int) m := by
      unfold rangeD
      rw [List.range_succ_eq_map, List.map_cons, List.map_map]
      simp only [Int.natCast_zero, Int.add_zero, List.cons.injEq, true_and, List.map_inj_left, Function.comp]
      intro a _
      rw [show ((lo : Nat) : Int) + ((a.succ : Nat) : Int) = ((lo + 1 : Nat) : Int) + (a : Nat) by omega]
    have body : l__law_draws_4 (K := K) (sa := sa) (ns := ns) (tb := tb) (G ds x7) (cS s) = some (.nx, G (ds ++ [e]) (some (.v (.int o3))), cS s) := by
      unfold l__law_draws_4
      exact nx_seq u1 (nx_seq u2 (nx_seq u3 u4))
    rw [er, forG_cons (Γ1 := G ds x7) rfl, body]
    exact c2
theorem draws_ok (hn : ns.length ≤ 63) (many : Nat) (h1 : 1 ≤ many) (hm : many ≤ 600) (s : List Cell) : ∃ ds : List Int, 0 < ds.length ∧ m__law_draws (K := K) (sa := sa) (ns := ns) (tb := tb) [.raw (.ref sa), .v (.int (many : Nat))] (cS s) = some (.ok (.o (.list (ds.map PyData.int))), cS s) := by
  rw [q__law_draws]
  have hcut : cutD (ns.map PyData.int) none (some 63) = ns.map PyData.int := by
    show ((ns.map PyData.int).drop 0).take (min 63 (ns.map PyData.int).length - 0) = _
    rw [List.length_map, List.drop_zero, List.take_of_length_le (by simp; omega)]
  let I : Ev := [some (.raw (.ref sa)), some (.v (.int (many : Nat))), none, none, none, none, none, none]
  have s1 : sSet (Y := ClY K sa ns tb) 2 (gLst gN) I (cS s) = some (.nx, [some (.raw (.ref sa)), some (.v (.int (many : Nat))), some (.o (.list [])), none, none, none, none, none], cS s) := rfl
  have s2 : sSet (Y := ClY K sa ns tb) 3 (gC (.int 7)) [some (.raw (.ref sa)), some (.v (.int (many : Nat))), some (.o (.list [])), none, none, none, none, none] (cS s) = some (.nx, DE (sa := sa) many [] 7 none none none none, cS s) := rfl
  obtain ⟨ds1, b1, y4, y5, y6, y7, c1, c2⟩ := draws_loop (K := K) (sa := sa) (ns := ns) (tb := tb) many hm s ns 0 [] 7 none none none none many (Nat.zero_le _) (Nat.le_refl _) (by omega)
  have i1 : gEnm (Y := ClY K sa ns tb) (gK (gEsc (gSlSC 0 63)) gN) (DE (sa := sa) many [] 7 none none none none) (cS s) = some (.ok (enumD 0 (ns.map PyData.int)), DE (sa := sa) many [] 7 none none none none, cS s) := by
    unfold gEnm
    have a : gSlSC (K := K) (sa := sa) (ns := ns) (T := tb) 0 63 (DE (sa := sa) many [] 7 none none none none) (cS s) = some (.ok (.o (.list (ns.map PyData.int))), DE (sa := sa) many [] 7 none none none none, cS s) := by
      unfold gSlSC
      show (if sa = sa then some (Oc.ok (R.o (PyData.list (cutD (ns.map PyData.int) none (some 63)))), DE (sa := sa) many [] 7 none none none none, cS s) else none) = _
      rw [if_pos rfl, hcut]
    rw [bd_ok (gk_ok (esc_o a) rfl)]
  have f1 : sFor (Y := ClY K sa ns tb) (.t (.cons (.n 4) (.cons (.n 5) .nil))) (gEnm (gK (gEsc (gSlSC 0 63)) gN)) l__law_draws_3 (DE (sa := sa) many [] 7 none none none none) (cS s) = some (.nx, DE (sa := sa) many ds1 b1 y4 y5 y6 y7, cS s) := (for_run i1).trans c2
  obtain ⟨ds2, z4, z7, c3, c4⟩ := draws_more (K := K) (sa := sa) (ns := ns) (tb := tb) many b1 y5 y6 s (many - ds1.length) 0 ds1 y4 y7 (by omega)
  have l1 : gCall (Y := ClY K sa ns tb) fLen (gK (gV 2) gN) (DE (sa := sa) many ds1 b1 y4 y5 y6 y7) (cS s) = some (.ok (.v (.int (ds1.length : Nat))), DE (sa := sa) many ds1 b1 y4 y5 y6 y7, cS s) := lenE (L := ds1) (f := PyData.int) (.inl rfl)
  have i2 : gRg1 (Y := ClY K sa ns tb) (gK (gBin fSub (gV 1) (gCall fLen (gK (gV 2) gN))) gN) (DE (sa := sa) many ds1 b1 y4 y5 y6 y7) (cS s) = some (.ok (rangeD ((0 : Nat) : Int) (many - ds1.length)), DE (sa := sa) many ds1 b1 y4 y5 y6 y7, cS s) := by
    have z := bin_of (f := fSub) (ga := gV 1) (ra := .v (.int (many : Nat))) (z := .nw (.int ((many : Nat) - (ds1.length : Nat)))) (Γ := DE (sa := sa) many ds1 b1 y4 y5 y6 y7) (s := cS s) rfl l1 rfl rfl rfl
    unfold gRg1
    rw [bd_ok (gk_ok z rfl)]
    have hb : bigI (((many : Nat) : Int) - (ds1.length : Nat)) = true := bigI_mk (by omega)
    show (if bigI (((many : Nat) : Int) - (ds1.length : Nat)) = true then some (Oc.ok (rangeD 0 (((many : Nat) : Int) - (ds1.length : Nat)).toNat), DE (sa := sa) many ds1 b1 y4 y5 y6 y7, cS s) else none) = _
    rw [if_pos hb, show (((many : Nat) : Int) - (ds1.length : Nat)).toNat = many - ds1.length by omega]
    rfl
  have f2 : sFor (Y := ClY K sa ns tb) (.n 4) (gRg1 (gK (gBin fSub (gV 1) (gCall fLen (gK (gV 2) gN))) gN)) l__law_draws_4 (DE (sa := sa) many ds1 b1 y4 y5 y6 y7) (cS s) = some (.nx, DE (sa := sa) many ds2 b1 z4 y5 y6 z7, cS s) := (for_run i2).trans c4
  refine ⟨ds2, by omega, fin_of ?_⟩
  unfold b__law_draws
  show fin (sSeq _ _ I (cS s)) = _
  rw [seq_nx s1, seq_nx s2, seq_nx f1, seq_nx f2]
  rfl
end
end FX.Pg
set_option Elab.async false
set_option linter.all false
set_option maxRecDepth 100000
namespace FX.Pg
open PySem PySem.Spec L2 FX
def trip (t : Bool) (p : Int × Int) (o : O3) : D := .tuple [o.d p.1 p.2, .int (sh2 t o).1, .int (sh2 t o).2]
def optL (t : Bool) : Option O3 → List O3
  | none => outs t
  | some o => [o]
def optD (t : Bool) (p : Int × Int) (x : Option O3) : D := .tuple [.int p.1, .int p.2, .list ((optL t x).map (trip t p))]
theorem fm_one : ∀ {E : List ((Int × Int) × O3)}, (E.map (·.1)).Nodup → ∀ p : Int × Int, E.filterMap (fun e => if e.1 = p then some (e.2.d e.1.1 e.1.2) else none) = match lookE E p with
    | none => []
    | some o => [o.d p.1 p.2]
  | [], _, p => rfl
  | e :: E, nd, p => by
    obtain ⟨h1, h2⟩ := List.nodup_cons.mp (show (e.1 :: E.map (·.1)).Nodup from nd)
    have ih := fm_one h2 p
    by_cases h : e.1 = p
    · have hn : lookE E p = none := by
        unfold lookE
        rw [Option.map_eq_none_iff, List.find?_eq_none]
        intro x hx z
        exact h1 (List.mem_map.mpr ⟨x, hx, (of_decide_eq_true z).trans h.symm⟩)
      have hs : lookE (e :: E) p = some e.2 := by
        unfold lookE
        rw [List.find?_cons, decide_eq_true h]
        rfl
      rw [hs, List.filterMap_cons, if_pos h, ih, hn, h]
    · have hs : lookE (e :: E) p = lookE E p := by
        unfold lookE
        rw [List.find?_cons, decide_eq_false h]
      rw [hs, List.filterMap_cons, if_neg h]
      exact ih
theorem od_eq {i j : Int} (h : i ≠ j) (a b : O3) : fEq (a.d i j) (b.d i j) = some (.nw (.bool (decide (a = b)))) := by
  cases a <;> cases b <;> simp [fEq, O3.d, shI, shN, PyData.eqv, h, Ne.symm h] <;> rfl
theorem flt_outs {t : Bool} {o : O3} (h : o ∈ outs t) : (outs t).filter (fun x => decide (x = o)) = [o] := by
  cases t <;> cases o <;> first | decide | exact absurd h (by decide)
theorem es_outc {l : Lg} (hl : l.Ok) {p : Int × Int} {o : O3} (h : (p, o) ∈ l.es) : l.t = false → o ≠ .t := fun ht z => by
  subst z
  obtain ⟨h1, h2⟩ := hl.mem_es.mp h
  refine hl.tie ht ?_
  rw [hl.vat, List.mem_map]
  exact ⟨p, h1, h2⟩
section
variable {Y : Sys}
def OpE (l : Lg) (A : List D) (i j : Int) (x7 x8 : Option R) : Ev := [some (.v l.d), some (.v (.str (kindS l.t))), some (.v (.int (l.n : Nat))), some (.v (.list l.pl)), some (.o (.list A)), some (.v (.int i)), some (.v (.int j)), x7, x8, none, none, none]
theorem opt_body {l : Lg} (hl : l.Ok) {p : Int × Int} (hp : p.1 < p.2) (A : List D) (hA : A.length ≤ 1000) (x7 x8 : Option R) (s : Y.S) :
    ∃ y7 y8, l__law_options_7 (OpE l A p.1 p.2 x7 x8) s = some (.nx, OpE l (A ++ [optD l.t p (lookE l.es p)]) p.1 p.2 y7 y8, s) := by
  have ne : p.1 ≠ p.2 := by omega
  let S7 (L : List O3) : List D := L.map (trip l.t p)
  have s1 : sSet (Y := Y) 7 (gLst (gK (gEsc (FX.gTup (gK (gEsc (gV 5)) (gK (gEsc (gC (.int 1))) (gK (gEsc (gC (.int 0))) gN))))) (gK (gEsc (FX.gTup (gK (gEsc (gV 6)) (gK (gEsc (gC (.int 0))) (gK (gEsc (gC (.int 1))) gN))))) gN))) (OpE l A p.1 p.2 x7 x8) s = some (.nx, OpE l A p.1 p.2 (some (.o (.list [.tuple [.int p.1, .int 1, .int 0], .tuple [.int p.2, .int 0, .int 1]]))) x8, s) := rfl
  have s2 : sIf (Y := Y) (gTst (gBin fEq (gV 1) (gC (.str (PySem.Str.ofString "ties"))))) (sSet 7 (gLst (gK (gEsc (FX.gTup (gK (gEsc (gV 5)) (gK (gEsc (gC (.int 2))) (gK (gEsc (gC (.int 0))) gN))))) (gK (gEsc (FX.gTup (gK (gEsc (gC .none)) (gK (gEsc (gC (.int 1))) (gK (gEsc (gC (.int 1))) gN))))) (gK (gEsc (FX.gTup (gK (gEsc (gV 6)) (gK (gEsc (gC (.int 0))) (gK (gEsc (gC (.int 2))) gN))))) gN))))) sNil
      (OpE l A p.1 p.2 (some (.o (.list [.tuple [.int p.1, .int 1, .int 0], .tuple [.int p.2, .int 0, .int 1]]))) x8) s = some (.nx, OpE l A p.1 p.2 (some (.o (.list (S7 (outs l.t))))) x8, s) := by
    have t1 : gTst (Y := Y) (gBin fEq (gV 1) (gC (.str (PySem.Str.ofString "ties")))) (OpE l A p.1 p.2 (some (.o (.list [.tuple [.int p.1, .int 1, .int 0], .tuple [.int p.2, .int 0, .int 1]]))) x8) s = some (.ok l.t, OpE l A p.1 p.2 (some (.o (.list [.tuple [.int p.1, .int 1, .int 0], .tuple [.int p.2, .int 0, .int 1]]))) x8, s) :=
      tst_of (bin_of (f := fEq) (ga := gV 1) (ra := .v (.str (kindS l.t))) (rb := .v (.str (PySem.Str.ofString "ties"))) (z := .nw (.bool l.t)) rfl rfl rfl rfl (eq_ties l.t))
    cases ht : l.t with
    | true =>
      rw [ht] at t1
      rw [if_yes t1]
      show _ = some (Fl.nx, OpE l A p.1 p.2 (some (.o (.list ((outs true).map (trip l.t p))))) x8, s)
      rw [ht]
      rfl
    | false =>
      rw [ht] at t1
      rw [if_no t1]
      show _ = some (Fl.nx, OpE l A p.1 p.2 (some (.o (.list ((outs false).map (trip l.t p))))) x8, s)
      rw [ht]
      rfl
  let OW : List D := match lookE l.es p with
    | none => []
    | some o => [o.d p.1 p.2]
  have it : gItL (Y := Y) (gV 3) (OpE l A p.1 p.2 (some (.o (.list (S7 (outs l.t))))) x8) s = some (.ok (l.es.map fun e => mD e.1 e.2), OpE l A p.1 p.2 (some (.o (.list (S7 (outs l.t))))) x8, s) := by
    rw [← l.pl_es]; rfl
  have c1 := gComp_on (Y := Y) (T := (.t (.cons (.n 9) (.cons (.n 10) (.cons (.n 11) .nil))))) (own := [9, 10, 11]) (gt := t__law_options_4) (ge := e__law_options_3) (fun e : (Int × Int) × O3 => mD e.1 e.2) (fun e => if e.1 = p then some (e.2.d e.1.1 e.1.2) else none) it (by have := hl.es_len; omega) (fun e he => by
    let G : Ev := [some (.v l.d), some (.v (.str (kindS l.t))), some (.v (.int (l.n : Nat))), some (.v (.list l.pl)), some (.o (.list A)), some (.v (.int p.1)), some (.v (.int p.2)), some (.o (.list (S7 (outs l.t)))), x8, some (.v (.int e.1.1)), some (.v (.int e.1.2)), some (.v (e.2.d e.1.1 e.1.2))]
    have t1 : t__law_options_4 (Y := Y) G s = some (.ok (decide (e.1 = p)), G, s) :=
      tst_of (bin_of (f := fEq) (ra := .v (prD e.1)) (rb := .v (prD p)) (d := prD e.1) (e := prD p) (z := .nw (.bool (decide (e.1 = p)))) rfl rfl rfl rfl (by simp only [fEq, sh_pr, Bool.and_self, if_true, eqv_pr]))
    refine ⟨G, G, rfl, ?_⟩
    by_cases h : e.1 = p
    · rw [if_pos h]
      exact ⟨t1.trans (by rw [decide_eq_true h]), G, rfl, rfl⟩
    · rw [if_neg h]
      exact ⟨t1.trans (by rw [decide_eq_false h]), rfl⟩)
  rw [fm_one hl.es_nd p] at c1
  have s3 : sSet (Y := Y) 8 (gComp (.t (.cons (.n 9) (.cons (.n 10) (.cons (.n 11) .nil)))) [9, 10, 11] (gItL (gV 3)) t__law_options_4 e__law_options_3) (OpE l A p.1 p.2 (some (.o (.list (S7 (outs l.t))))) x8) s = some (.nx, OpE l A p.1 p.2 (some (.o (.list (S7 (outs l.t))))) (some (.o (.list OW))), s) := set_o (i := 8) c1
  have fin5 : ∀ (x : Option R) (L : List O3), (x = some (.o (.list (S7 L))) ∨ x = some (.v (.list (S7 L)))) → ∀ y8, sDrop (Y := Y) (gApp 4 (FX.gTup (gK (gEsc (gV 5)) (gK (gEsc (gV 6)) (gK (gEsc (gV 7)) gN))))) (OpE l A p.1 p.2 x y8) s = some (.nx, OpE l (A ++ [.tuple [.int p.1, .int p.2, .list (S7 L)]]) p.1 p.2 (some (.v (.list (S7 L)))) y8, s) := by
    intro x L hx y8
    have e7 : gEsc (Y := Y) (gV 7) (OpE l A p.1 p.2 x y8) s = some (.ok (.v (.list (S7 L))), OpE l A p.1 p.2 (some (.v (.list (S7 L)))) y8, s) := by
      rcases hx with rfl | rfl <;> rfl
    have e8 : FX.gTup (Y := Y) (gK (gEsc (gV 5)) (gK (gEsc (gV 6)) (gK (gEsc (gV 7)) gN))) (OpE l A p.1 p.2 x y8) s = some (.ok (.v (.tuple [.int p.1, .int p.2, .list (S7 L)])), OpE l A p.1 p.2 (some (.v (.list (S7 L)))) y8, s) :=
      tup_ok (gk_ok (esc_v (d := .int p.1) rfl) (gk_ok (esc_v (d := .int p.2) rfl) (gk_ok e7 rfl))) rfl (by simp)
    exact drop_ok (app_ok rfl e8 rfl (by omega))
  cases hk : lookE l.es p with
  | none =>
    have ow : OW = [] := by show (match lookE l.es p with | none => [] | some o => [o.d p.1 p.2]) = _; rw [hk]
    have s4 : sIf (Y := Y) (gTst (gBin fNe (gV 8) (gLst gN))) (sSet 7 (gComp (.n 9) [9] (gItL (gV 7)) t__law_options_6 e__law_options_5)) sNil (OpE l A p.1 p.2 (some (.o (.list (S7 (outs l.t))))) (some (.o (.list [])))) s = some (.nx, OpE l A p.1 p.2 (some (.o (.list (S7 (outs l.t))))) (some (.o (.list []))), s) := rfl
    rw [ow] at s3
    refine ⟨some (.v (.list (S7 (outs l.t)))), some (.o (.list [])), ?_⟩
    unfold l__law_options_7
    exact nx_seq s1 (nx_seq s2 (nx_seq s3 (nx_seq s4 (fin5 _ (outs l.t) (.inl rfl) _))))
  | some o =>
    have ow : OW = [o.d p.1 p.2] := by show (match lookE l.es p with | none => [] | some o => [o.d p.1 p.2]) = _; rw [hk]
    have ho : o ∈ outs l.t := by
      have h1 := (lookE_iff hl.es_nd).mp hk
      exact outs_ok.mpr (es_outc hl h1)
    let G0 : Ev := OpE l A p.1 p.2 (some (.o (.list (S7 (outs l.t))))) (some (.o (.list [o.d p.1 p.2])))
    let G1 : Ev := OpE l A p.1 p.2 (some (.v (.list (S7 (outs l.t))))) (some (.o (.list [o.d p.1 p.2])))
    have tt : gTst (Y := Y) (gBin fNe (gV 8) (gLst gN)) G0 s = some (.ok true, G0, s) := by
      refine tst_of (bin_of (f := fNe) (ra := .b 8) (rb := .o (.list [])) (d := .list [o.d p.1 p.2]) (e := .list []) (z := .nw (.bool true)) rfl rfl rfl rfl ?_)
      cases o <;> rfl
    have it2 : gItL (Y := Y) (gV 7) G0 s = some (.ok ((outs l.t).map (trip l.t p)), G1, s) := rfl
    have c2 := gComp_flt (Y := Y) (T := .n 9) (own := [9]) (gt := t__law_options_6) (ge := e__law_options_5) (trip l.t p) (fun x => decide (x = o)) it2 (by have := outs_len l.t; omega) (fun x hx => by
      let G : Ev := [some (.v l.d), some (.v (.str (kindS l.t))), some (.v (.int (l.n : Nat))), some (.v (.list l.pl)), some (.o (.list A)), some (.v (.int p.1)), some (.v (.int p.2)), some (.v (.list (S7 (outs l.t)))), some (.o (.list [o.d p.1 p.2])), some (.v (trip l.t p x)), none, none]
      refine ⟨G, G, rfl, ?_, rfl, fun _ => ⟨G, rfl, rfl⟩⟩
      have a1 : gBin (Y := Y) fIx (gV 9) (gC (.int 0)) G s = some (.ok (.v (x.d p.1 p.2)), G, s) := rfl
      have a2 : gBin (Y := Y) fIx (gV 8) (gC (.int 0)) G s = some (.ok (.v (o.d p.1 p.2)), G, s) := rfl
      exact tst_of (bin_of (f := fEq) (z := .nw (.bool (decide (x = o)))) a1 a2 rfl rfl (od_eq ne x o)))
    rw [flt_outs ho] at c2
    have s4 : sIf (Y := Y) (gTst (gBin fNe (gV 8) (gLst gN))) (sSet 7 (gComp (.n 9) [9] (gItL (gV 7)) t__law_options_6 e__law_options_5)) sNil G0 s = some (.nx, OpE l A p.1 p.2 (some (.o (.list (S7 [o])))) (some (.o (.list [o.d p.1 p.2]))), s) := by
      rw [if_yes tt]
      exact set_o (i := 7) c2
    rw [ow] at s3
    refine ⟨some (.v (.list (S7 [o]))), some (.o (.list [o.d p.1 p.2])), ?_⟩
    unfold l__law_options_7
    exact nx_seq s1 (nx_seq s2 (nx_seq s3 (nx_seq s4 (fin5 _ [o] (.inl rfl) _))))
theorem opt_inner {l : Lg} (hl : l.Ok) (i : Nat) (s : Y.S) : ∀ (m a : Nat) (A : List D) (x6 x7 x8 : Option R), i < a → A.length + m ≤ 1000 →
    ∃ y6 y7 y8, forG (.n 6) (l__law_options_7 (Y := Y)) (rangeD (a : Nat) m) [some (.v l.d), some (.v (.str (kindS l.t))), some (.v (.int (l.n : Nat))), some (.v (.list l.pl)), some (.o (.list A)), some (.v (.int (i : Nat))), x6, x7, x8, none, none, none] s
      = some (.nx, [some (.v l.d), some (.v (.str (kindS l.t))), some (.v (.int (l.n : Nat))), some (.v (.list l.pl)), some (.o (.list (A ++ (List.range m).map fun k => optD l.t ((i : Nat), ((a + k : Nat) : Int)) (lookE l.es ((i : Nat), ((a + k : Nat) : Int)))))), some (.v (.int (i : Nat))), y6, y7, y8, none, none, none], s)
  | 0, a, A, x6, x7, x8, _, _ => ⟨x6, x7, x8, by simp [rangeD, forG_nil]⟩
  | m + 1, a, A, x6, x7, x8, h, hz => by
    obtain ⟨z7, z8, e1⟩ := opt_body hl (p := ((i : Nat), (a : Nat))) (show (i : Int) < (a : Int) by omega) A (by omega) x7 x8 s
    obtain ⟨y6, y7, y8, e2⟩ := opt_inner hl i s m (a + 1) (A ++ [optD l.t ((i : Nat), (a : Nat)) (lookE l.es ((i : Nat), (a : Nat)))]) (some (.v (.int (a : Nat)))) z7 z8 (by omega) (by simp; omega)
    refine ⟨y6, y7, y8, ?_⟩
    have er : rangeD (a : Nat) (m + 1) = .int (a : Nat) :: rangeD ((a + 1 : Nat) : Int) m := by
      unfold rangeD
      rw [List.range_succ_eq_map, List.map_cons, List.map_map]
      simp only [Int.natCast_zero, Int.add_zero, List.cons.injEq, true_and, List.map_inj_left, Function.comp]
      intro k _
      rw [show ((a : Nat) : Int) + ((k.succ : Nat) : Int) = ((a + 1 : Nat) : Int) + (k : Nat) by omega]
    rw [er, forG_cons (Γ1 := OpE l A (i : Nat) (a : Nat) x7 x8) rfl, e1]
    refine e2.trans ?_
    rw [List.range_succ_eq_map, List.map_cons, List.map_map, List.append_assoc, List.singleton_append]
    have : ((List.range m).map fun k => optD l.t ((i : Nat), ((a + 1 + k : Nat) : Int)) (lookE l.es ((i : Nat), ((a + 1 + k : Nat) : Int)))) = (List.range m).map ((fun k => optD l.t ((i : Nat), ((a + k : Nat) : Int)) (lookE l.es ((i : Nat), ((a + k : Nat) : Int)))) ∘ Nat.succ) := List.map_congr_left fun k _ => by
      show optD _ _ _ = optD _ _ _
      rw [show a + 1 + k = a + k.succ by omega]
    rw [this]
    rfl
def rowO (l : Lg) (i : Nat) : List D := (List.range (l.n - 1 - i)).map fun k => optD l.t ((i : Nat), ((i + 1 + k : Nat) : Int)) (lookE l.es ((i : Nat), ((i + 1 + k : Nat) : Int)))
theorem opt_outer {l : Lg} (hl : l.Ok) (s : Y.S) : ∀ (m i : Nat) (A : List D) (x5 x6 x7 x8 : Option R), i + m = l.n → A.length ≤ 6 * i →
    ∃ y5 y6 y7 y8, forG (.n 5) (l__law_options_8 (Y := Y)) (rangeD (i : Nat) m) [some (.v l.d), some (.v (.str (kindS l.t))), some (.v (.int (l.n : Nat))), some (.v (.list l.pl)), some (.o (.list A)), x5, x6, x7, x8, none, none, none] s
      = some (.nx, [some (.v l.d), some (.v (.str (kindS l.t))), some (.v (.int (l.n : Nat))), some (.v (.list l.pl)), some (.o (.list (A ++ (List.range m).flatMap fun k => rowO l (i + k)))), y5, y6, y7, y8, none, none, none], s)
  | 0, i, A, x5, x6, x7, x8, _, _ => ⟨x5, x6, x7, x8, by simp [rangeD, forG_nil]⟩
  | m + 1, i, A, x5, x6, x7, x8, h, hz => by
    have h6 := hl.h6
    obtain ⟨z6, z7, z8, e1⟩ := opt_inner hl i s (l.n - 1 - i) (i + 1) A x6 x7 x8 (by omega) (by omega)
    obtain ⟨y5, y6, y7, y8, e2⟩ := opt_outer hl s m (i + 1) (A ++ rowO l i) (some (.v (.int (i : Nat)))) z6 z7 z8 (by omega) (by unfold rowO; simp; omega)
    refine ⟨y5, y6, y7, y8, ?_⟩
    have er : rangeD (i : Nat) (m + 1) = .int (i : Nat) :: rangeD ((i + 1 : Nat) : Int) m := by
      unfold rangeD
      rw [List.range_succ_eq_map, List.map_cons, List.map_map]
      simp only [Int.natCast_zero, Int.add_zero, List.cons.injEq, true_and, List.map_inj_left, Function.comp]
      intro k _
      rw [show ((i : Nat) : Int) + ((k.succ : Nat) : Int) = ((i + 1 : Nat) : Int) + (k : Nat) by omega]
    let G : Ev := [some (.v l.d), some (.v (.str (kindS l.t))), some (.v (.int (l.n : Nat))), some (.v (.list l.pl)), some (.o (.list A)), some (.v (.int (i : Nat))), x6, x7, x8, none, none, none]
    have it : gRg2 (Y := Y) (gK (gBin fAdd (gV 5) (gC (.int 1))) (gK (gV 2) gN)) G s = some (.ok (rangeD ((i + 1 : Nat) : Int) (l.n - 1 - i)), G, s) := by
      have z : gBin (Y := Y) fAdd (gV 5) (gC (.int 1)) G s = some (.ok (.v (.int ((i + 1 : Nat) : Int))), G, s) := rfl
      unfold gRg2
      rw [bd_ok (gk_ok z (gk_ok (r := .v (.int (l.n : Nat))) (Γ1 := G) (s1 := s) rfl rfl))]
      have b1 : bigI ((i + 1 : Nat) : Int) = true := bigI_mk (by omega)
      have b2 : bigI ((l.n : Nat) : Int) = true := bigI_mk (by omega)
      show (if bigI ((i + 1 : Nat) : Int) = true ∧ bigI ((l.n : Nat) : Int) = true then some (Oc.ok (rangeD ((i + 1 : Nat) : Int) (((l.n : Nat) : Int) - ((i + 1 : Nat) : Int)).toNat), G, s) else none) = _
      rw [if_pos ⟨b1, b2⟩, show (((l.n : Nat) : Int) - ((i + 1 : Nat) : Int)).toNat = l.n - 1 - i by omega]
    rw [er, forG_cons (Γ1 := G) rfl]
    have body : l__law_options_8 (Y := Y) G s = some (.nx, [some (.v l.d), some (.v (.str (kindS l.t))), some (.v (.int (l.n : Nat))), some (.v (.list l.pl)), some (.o (.list (A ++ rowO l i))), some (.v (.int (i : Nat))), z6, z7, z8, none, none, none], s) := (for_run it).trans e1
    rw [body]
    refine e2.trans ?_
    rw [List.range_succ_eq_map, List.flatMap_cons, List.flatMap_map, List.append_assoc]
    have : ((List.range m).flatMap fun k => rowO l (i + 1 + k)) = (List.range m).flatMap fun k => rowO l (i + Nat.succ k) := by
      congr 1
      funext k
      rw [show i + 1 + k = i + Nat.succ k by omega]
    rw [this]
    rfl
theorem options_eq {l : Lg} (hl : l.Ok) (s : Y.S) : m__law_options [.v l.d] s = some (.ok (.o (.list ((pairsI l.n).map fun p => optD l.t p (lookE l.es p)))), s) := by
  rw [q__law_options]
  refine fin_of ?_
  obtain ⟨y5, y6, y7, y8, e⟩ := opt_outer hl s l.n 0 [] none none none none (by omega) (by simp)
  let I : Ev := [some (.v l.d), none, none, none, none, none, none, none, none, none, none, none]
  have s1 : sUnp (Y := Y) (.cons (.n 1) (.cons (.n 2) (.cons (.n 3) .nil))) (gV 0) I s = some (.nx, [some (.v l.d), some (.v (.str (kindS l.t))), some (.v (.int (l.n : Nat))), some (.v (.list l.pl)), none, none, none, none, none, none, none, none], s) := rfl
  have s2 : sSet (Y := Y) 4 (gLst gN) [some (.v l.d), some (.v (.str (kindS l.t))), some (.v (.int (l.n : Nat))), some (.v (.list l.pl)), none, none, none, none, none, none, none, none] s = some (.nx, [some (.v l.d), some (.v (.str (kindS l.t))), some (.v (.int (l.n : Nat))), some (.v (.list l.pl)), some (.o (.list [])), none, none, none, none, none, none, none], s) := rfl
  have it : gRg1 (Y := Y) (gK (gV 2) gN) [some (.v l.d), some (.v (.str (kindS l.t))), some (.v (.int (l.n : Nat))), some (.v (.list l.pl)), some (.o (.list [])), none, none, none, none, none, none, none] s = some (.ok (rangeD ((0 : Nat) : Int) l.n), [some (.v l.d), some (.v (.str (kindS l.t))), some (.v (.int (l.n : Nat))), some (.v (.list l.pl)), some (.o (.list [])), none, none, none, none, none, none, none], s) := by
    have b2 : bigI ((l.n : Nat) : Int) = true := bigI_mk (by have := hl.h6; omega)
    unfold gRg1
    rw [bd_ok (gk_ok (r := .v (.int (l.n : Nat))) (Γ1 := [some (.v l.d), some (.v (.str (kindS l.t))), some (.v (.int (l.n : Nat))), some (.v (.list l.pl)), some (.o (.list [])), none, none, none, none, none, none, none]) (s1 := s) rfl rfl)]
    show (if bigI ((l.n : Nat) : Int) = true then some (Oc.ok (rangeD 0 ((l.n : Nat) : Int).toNat), _, s) else none) = _
    rw [if_pos b2]
    rfl
  unfold b__law_options
  show fin (sSeq _ _ I s) = _
  rw [seq_nx s1, seq_nx s2, seq_nx ((for_run it).trans e)]
  show some (Oc.ok (R.o (PyData.list _)), s) = _
  have : (([] : List D) ++ (List.range l.n).flatMap fun k => rowO l (0 + k)) = (pairsI l.n).map fun p => optD l.t p (lookE l.es p) := by
    unfold pairsI
    rw [List.nil_append, List.map_flatMap]
    congr 1
    funext i
    unfold rowO
    rw [Nat.zero_add, List.map_map]
    refine List.map_congr_left fun k _ => ?_
    show optD _ _ _ = optD _ _ _
    rw [show ((i + 1 + k : Nat) : Int) = (i : Int) + 1 + (k : Int) by omega]
  rw [this]
end
end FX.Pg
set_option Elab.async false
set_option linter.all false
set_option maxRecDepth 100000
namespace FX.Pg
open PySem PySem.Spec L2 FX
abbrev Ent := (Int × Int) × O3
def mE2 (e : Ent) : D := mD e.1 e.2
theorem lg_sub {t : Bool} {n : Nat} (h2 : 2 ≤ n) (h6 : n ≤ 6) {E : List Ent} (hk : (E.map (·.1)).Sublist (pairsI n)) (ho : ∀ e ∈ E, t = false → e.2 ≠ .t) : (lgOf t n E).Ok ∧ (lgOf t n E).es = E ∧ (lgOf t n E).d = .tuple [.str (kindS t), .int (n : Nat), .list (E.map mE2)] := by
  have pw : (E.map (·.1)).Pairwise lexP := (rise_pw (pairs_rise h2 h6)).sublist hk
  have nd := nodup_pw pw
  have hs : ∀ e ∈ E, e.1 ∈ pairsI n := fun e he => hk.subset (List.mem_map.mpr ⟨e, he, rfl⟩)
  have ok := lgOf_ok h2 h6 nd ho (t := t)
  have pm := lgOf_perm h2 h6 nd hs (t := t)
  have pw1 : E.Pairwise fun e f => lexP e.1 f.1 := List.pairwise_map.mp pw
  have pw2 : (lgOf t n E).es.Pairwise fun e f => lexP e.1 f.1 := List.pairwise_map.mp (es_pw ok)
  have eq : E = (lgOf t n E).es := by
    refine List.Perm.eq_of_pairwise (fun a b _ _ h1 h2 => ?_) pw1 pw2 pm
    unfold lexP at h1 h2
    omega
  refine ⟨ok, eq.symm, ?_⟩
  show PyData.tuple [.str (kindS t), .int (n : Nat), .list (lgOf t n E).pl] = _
  rw [Lg.pl_es, ← eq]
  rfl
section
variable {K : PySem.W.Frag} {sa : Addr} {ns : List Int} {tb : List (Addr × Str)}
def DrE (k : Nat) (l : Lg) (E : List Ent) (x3 x4 x5 : Option R) : Ev := [some (.h k), some (.v l.d), some (.o (.list (E.map mE2))), x3, x4, x5]
theorem drawn_body {l : Lg} {k : Nat} {s : List Cell} (h : StD s k) (p : Int × Int) (x : Option O3) (E : List Ent) (hE : E.length ≤ 1000) :
    ∃ (o : O3) (s' : List Cell), o ∈ optL l.t x ∧ StD s' k ∧ l__law_drawn_end_1 (K := K) (sa := sa) (ns := ns) (tb := tb) (DrE k l E (some (.v (.int p.1))) (some (.v (.int p.2))) (some (.v (.list ((optL l.t x).map (trip l.t p)))))) (cS s)
      = some (.nx, DrE k l (E ++ [(p, o)]) (some (.v (.int p.1))) (some (.v (.int p.2))) (some (.v (.list ((optL l.t x).map (trip l.t p))))), cS s') := by
  let G (E : List Ent) : Ev := DrE k l E (some (.v (.int p.1))) (some (.v (.int p.2))) (some (.v (.list ((optL l.t x).map (trip l.t p)))))
  have hl : 0 < (optL l.t x).length := by
    cases x with
    | none => have := (outs_len l.t).1; show 0 < (outs l.t).length; omega
    | some o => exact Nat.zero_lt_one
  obtain ⟨y, o, s1, hy, hs1, e1⟩ := pickDE (K := K) (sa := sa) (ns := ns) (tb := tb) (Γ := G E) (Γ1 := G E) (j := 0) (s := s) (s1 := s) rfl h (ga := gV 5) (g := gCall fLen (gK (gV 5) gN)) (L := optL l.t x) (f := trip l.t p) (r := .v (.list ((optL l.t x).map (trip l.t p)))) rfl rfl (lenE (.inr rfl)) hl
  have e2 : gBin (Y := ClY K sa ns tb) fIx (gBin fIx (gV 5) (Td 0 (gCall fLen (gK (gV 5) gN)))) (gC (.int 0)) (G E) (cS s) = some (.ok (.v (o.d p.1 p.2)), G E, cS s1) := bin_of (f := fIx) (gb := gC (.int 0)) (rb := .v (.int 0)) (z := .old (o.d p.1 p.2)) e1 rfl rfl rfl rfl
  have e3 : FX.gTup (Y := ClY K sa ns tb) (gK (gEsc (gV 3)) (gK (gEsc (gV 4)) (gK (gEsc (gBin fIx (gBin fIx (gV 5) (Td 0 (gCall fLen (gK (gV 5) gN)))) (gC (.int 0)))) gN))) (G E) (cS s) = some (.ok (.v (mE2 (p, o))), G E, cS s1) :=
    tup_ok (gk_ok (esc_v (d := .int p.1) rfl) (gk_ok (esc_v (d := .int p.2) rfl) (gk_ok (esc_v e2) rfl))) rfl (by simp)
  refine ⟨o, s1, List.mem_of_getElem? hy, hs1, ?_⟩
  have := app_ok (Y := ClY K sa ns tb) (Γ := G E) (i := 2) (ds := E.map mE2) rfl e3 (ds' := E.map mE2) rfl (by rw [List.length_map]; omega)
  refine (drop_ok this).trans ?_
  simp [G, DrE]
theorem drawn_loop {l : Lg} {k : Nat} (f : Int × Int → Option O3) : ∀ (ps : List (Int × Int)) {s : List Cell} (h : StD s k) (E : List Ent) (x3 x4 x5 : Option R), E.length + ps.length ≤ 1000 →
    ∃ (Z : List Ent) (s' : List Cell) (y3 y4 y5 : Option R), Z.map (·.1) = ps ∧ (∀ e ∈ Z, e.2 ∈ optL l.t (f e.1)) ∧ StD s' k ∧
      forG (.t (.cons (.n 3) (.cons (.n 4) (.cons (.n 5) .nil)))) (l__law_drawn_end_1 (K := K) (sa := sa) (ns := ns) (tb := tb)) (ps.map fun p => optD l.t p (f p)) (DrE k l E x3 x4 x5) (cS s) = some (.nx, DrE k l (E ++ Z) y3 y4 y5, cS s')
  | [], s, h, E, x3, x4, x5, _ => ⟨[], s, x3, x4, x5, rfl, by simp, h, by simp [forG_nil]⟩
  | p :: ps, s, h, E, x3, x4, x5, hz => by
    simp only [List.length_cons] at hz
    obtain ⟨o, s1, ho, hs1, e1⟩ := drawn_body (K := K) (sa := sa) (ns := ns) (tb := tb) (l := l) h p (f p) E (by omega)
    obtain ⟨Z, s2, y3, y4, y5, hk, hZ, hs2, e2⟩ := drawn_loop f ps hs1 (E ++ [(p, o)]) (some (.v (.int p.1))) (some (.v (.int p.2))) (some (.v (.list ((optL l.t (f p)).map (trip l.t p))))) (by simp; omega)
    refine ⟨(p, o) :: Z, s2, y3, y4, y5, by simp [hk], fun e he => ?_, hs2, ?_⟩
    · rcases List.mem_cons.mp he with rfl | he
      · exact ho
      · exact hZ e he
    · rw [List.map_cons, forG_cons (Γ1 := DrE k l E (some (.v (.int p.1))) (some (.v (.int p.2))) (some (.v (.list ((optL l.t (f p)).map (trip l.t p)))))) rfl, e1]
      refine e2.trans ?_
      rw [List.append_assoc, List.singleton_append]
structure Full (l : Lg) (Z : List Ent) : Prop where
  keys : Z.map (·.1) = pairsI l.n
  outs : ∀ e ∈ Z, e.2 ∈ optL l.t (lookE l.es e.1)
theorem drawn_ok {l : Lg} (hl : l.Ok) {k : Nat} {s : List Cell} (h : StD s k) : ∃ (Z : List Ent) (s' : List Cell), Full l Z ∧ StD s' k ∧
    m__law_drawn_end (K := K) (sa := sa) (ns := ns) (tb := tb) [.h k, .v l.d] (cS s) = some (.ok (.v (.tuple [.str (kindS l.t), .int (l.n : Nat), .list (Z.map mE2)])), cS s') := by
  obtain ⟨Z, s', y3, y4, y5, hk, hZ, hs, e⟩ := drawn_loop (K := K) (sa := sa) (ns := ns) (tb := tb) (l := l) (lookE l.es) (pairsI l.n) h [] none none none (by have := pairs_len hl.h2 hl.h6; simp; omega)
  refine ⟨Z, s', ⟨hk, hZ⟩, hs, ?_⟩
  rw [q__law_drawn_end]
  refine fin_of ?_
  let G : Ev := DrE k l [] none none none
  have it : gItL (Y := ClY K sa ns tb) (gFn 1 m__law_options (gK (gEsc (gV 1)) gN)) G (cS s) = some (.ok ((pairsI l.n).map fun p => optD l.t p (lookE l.es p)), G, cS s) :=
    itL_o (fn_o (gk_ok (esc_v (d := l.d) rfl) rfl) rfl (options_eq hl _))
  have s2 : sFor (Y := ClY K sa ns tb) (.t (.cons (.n 3) (.cons (.n 4) (.cons (.n 5) .nil)))) (gItL (gFn 1 m__law_options (gK (gEsc (gV 1)) gN))) l__law_drawn_end_1 G (cS s) = some (.nx, DrE k l Z y3 y4 y5, cS s') := (for_run it).trans e
  have s1 : sSet (Y := ClY K sa ns tb) 2 (gLst gN) [some (.h k), some (.v l.d), none, none, none, none] (cS s) = some (.nx, G, cS s) := rfl
  unfold b__law_drawn_end
  show fin (sSeq _ _ [some (.h k), some (.v l.d), none, none, none, none] (cS s)) = _
  rw [seq_nx s1, seq_nx s2]
  rfl
theorem Full.len {l : Lg} {Z : List Ent} (h : Full l Z) (hl : l.Ok) : Z.length ≤ 15 := by
  have := pairs_len hl.h2 hl.h6
  have e : Z.length = (pairsI l.n).length := by rw [← h.keys, List.length_map]
  omega
theorem Full.tie {l : Lg} {Z : List Ent} (h : Full l Z) (hl : l.Ok) : ∀ e ∈ Z, l.t = false → e.2 ≠ .t := fun e he => by
  have := h.outs e he
  cases hx : lookE l.es e.1 with
  | none => rw [hx] at this; exact outs_ok.mp this
  | some o =>
    rw [hx] at this
    rw [List.mem_singleton.mp this]
    exact es_outc hl ((lookE_iff hl.es_nd).mp hx)
theorem Full.ne {l : Lg} {Z : List Ent} (h : Full l Z) (hl : l.Ok) : ∀ e ∈ Z, e.1.1 ≠ e.1.2 := fun e he => by
  have : e.1 ∈ pairsI l.n := by rw [← h.keys]; exact List.mem_map.mpr ⟨e, he, rfl⟩
  have := pairs_mem hl.h2 hl.h6 _ this
  omega
theorem Full.sub {l : Lg} {Z E : List Ent} (h : Full l Z) (hl : l.Ok) (hs : E.Sublist Z) : (lgOf l.t l.n E).Ok ∧ (lgOf l.t l.n E).es = E ∧ (lgOf l.t l.n E).d = .tuple [.str (kindS l.t), .int (l.n : Nat), .list (E.map mE2)] :=
  lg_sub hl.h2 hl.h6 (by rw [← h.keys]; exact hs.map _) fun e he => h.tie hl e (hs.subset he)
def LgE (k : Nat) (x : Int) (t : Bool) (n : Nat) (often : Nat) (E : List Ent) (x6 : Option R) : Ev := [some (.h k), some (.v (.int x)), some (.v (.str (kindS t))), some (.v (.int (n : Nat))), some (.v (.int (often : Nat))), some (.o (.list (E.map mE2))), x6]
def LgE2 (k : Nat) (x : Int) (t : Bool) (n : Nat) (often : Nat) (E : List Ent) (x6 : Option R) : Ev := [some (.h k), some (.v (.int x)), some (.v (.str (kindS t))), some (.v (.int (n : Nat))), some (.v (.int (often : Nat))), some (.v (.list (E.map mE2))), x6]
theorem lgd_loop (k : Nat) (x : Int) (t : Bool) (n : Nat) (often : Nat) : ∀ (Z : List Ent) {s : List Cell} (h : StD s k) (E : List Ent) (x6 : Option R), E.length + Z.length ≤ 1000 →
    ∃ (E' : List Ent) (s' : List Cell) (y6 : Option R), E'.Sublist Z ∧ StD s' k ∧ forG (.n 6) (l__law_league_1 (K := K) (sa := sa) (ns := ns) (tb := tb)) (Z.map mE2) (LgE k x t n often E x6) (cS s) = some (.nx, LgE k x t n often (E ++ E') y6, cS s')
  | [], s, h, E, x6, _ => ⟨[], s, x6, .slnil, h, by simp [forG_nil]⟩
  | e :: Z, s, h, E, x6, hz => by
    simp only [List.length_cons] at hz
    let G : Ev := LgE k x t n often E (some (.v (mE2 e)))
    obtain ⟨y, s1, hy, hs1, e1⟩ := takeDE (K := K) (sa := sa) (ns := ns) (tb := tb) (Γ := G) (j := 0) rfl h (g := gC (.int 10)) (m := 10) rfl (by decide)
    have t1 : gTst (Y := ClY K sa ns tb) (gBin fLt (Td 0 (gC (.int 10))) (gV 4)) G (cS s) = some (.ok (decide (y < often)), G, cS s1) := tst_of (bin_of (f := fLt) (gb := gV 4) (rb := .v (.int (often : Nat))) (z := .nw (.bool (decide (y < often)))) e1 rfl rfl rfl (by simp [fLt]))
    rw [List.map_cons, forG_cons (Γ1 := G) rfl]
    by_cases hc : y < often
    · obtain ⟨E', s2, y6, c1, c2, c3⟩ := lgd_loop k x t n often Z hs1 (E ++ [e]) (some (.v (mE2 e))) (by simp; omega)
      have a2 : sDrop (Y := ClY K sa ns tb) (gApp 5 (gV 6)) G (cS s1) = some (.nx, LgE k x t n often (E ++ [e]) (some (.v (mE2 e))), cS s1) := by
        have := app_ok (Y := ClY K sa ns tb) (Γ := G) (s := cS s1) (s1 := cS s1) (Γ1 := G) (i := 5) (ge := gV 6) (d := mE2 e) (ds := E.map mE2) rfl rfl (ds' := E.map mE2) rfl (by rw [List.length_map]; omega)
        refine (drop_ok this).trans ?_
        simp [G, LgE]
      have body : l__law_league_1 (K := K) (sa := sa) (ns := ns) (tb := tb) G (cS s) = some (.nx, LgE k x t n often (E ++ [e]) (some (.v (mE2 e))), cS s1) := (if_yes (t1.trans (by rw [decide_eq_true hc]))).trans a2
      refine ⟨e :: E', s2, y6, c1.cons_cons e, c2, ?_⟩
      rw [body]
      refine c3.trans ?_
      rw [List.append_assoc, List.singleton_append]
    · obtain ⟨E', s2, y6, c1, c2, c3⟩ := lgd_loop k x t n often Z hs1 E (some (.v (mE2 e))) (by omega)
      have body : l__law_league_1 (K := K) (sa := sa) (ns := ns) (tb := tb) G (cS s) = some (.nx, G, cS s1) := (if_no (t1.trans (by rw [decide_eq_false hc]))).trans rfl
      refine ⟨E', s2, y6, c1.cons e, c2, ?_⟩
      rw [body]
      exact c3
theorem leagueD_ok {k : Nat} {s : List Cell} (h : StD s k) : ∃ (l : Lg) (s' : List Cell), l.Ok ∧ StD s' k ∧ m__law_league (K := K) (sa := sa) (ns := ns) (tb := tb) [.h k] (cS s) = some (.ok (.v l.d), cS s') := by
  let G (x1 x2 x3 x4 x5 : Option R) : Ev := [some (.h k), x1, x2, x3, x4, x5, none]
  obtain ⟨x, s1, hx, hs1, e1⟩ := takeDE (K := K) (sa := sa) (ns := ns) (tb := tb) (Γ := G none none none none none) (j := 0) rfl h (g := gC (.int 10007)) (m := 10007) rfl (by decide)
  let A : Option R := some (.v (.int (x : Nat)))
  have t1 : sSet (Y := ClY K sa ns tb) 1 (Td 0 (gC (.int 10007))) (G none none none none none) (cS s) = some (.nx, G A none none none none, cS s1) := set_v (i := 1) e1
  obtain ⟨q, hq, hq2⟩ := fm_nat ((x : Nat) : Int) (m := 2) (by decide)
  let t : Bool := decide (q = 1)
  have t2 : sSet (Y := ClY K sa ns tb) 2 (gBin fIx (gLst (gK (gEsc (gC (.str (PySem.Str.ofString "plain")))) (gK (gEsc (gC (.str (PySem.Str.ofString "ties")))) gN))) (gBin fMod (gV 1) (gC (.int 2)))) (G A none none none none) (cS s1) = some (.nx, G A (some (.v (.str (kindS t)))) none none none, cS s1) := by
    have z1 : gBin (Y := ClY K sa ns tb) fMod (gV 1) (gC (.int 2)) (G A none none none none) (cS s1) = some (.ok (.v (.int (q : Nat))), G A none none none none, cS s1) := by
      have := m_mod (K := K) (sa := sa) (ns := ns) (tb := tb) (Γ := G A none none none none) (s := s1) (ga := gV 1) (a := (x : Nat)) (m := 2) rfl (by decide)
      rw [hq] at this; exact this
    refine set_v (i := 2) (bin_of (f := fIx) (ra := .o (.list [.str (kindS false), .str (kindS true)])) (z := .old (.str (kindS t))) rfl z1 rfl rfl ?_)
    have : q = 0 ∨ q = 1 := by omega
    rcases this with rfl | rfl <;> rfl
  let B : Option R := some (.v (.str (kindS t)))
  obtain ⟨a, ha, ha2⟩ := fm_nat (((x : Nat) : Int).fdiv 2) (m := 5) (by decide)
  obtain ⟨b, hb, hb2⟩ := fm_nat (((x : Nat) : Int).fdiv 2) (m := 4) (by decide)
  have g3 : gLst (Y := ClY K sa ns tb) (gK (gEsc (gBin fAdd (gC (.int 2)) (gBin fMod (gBin fDiv (gV 1) (gC (.int 2))) (gC (.int 5))))) (gK (gEsc (gC (.int 6))) (gK (gEsc (gBin fAdd (gC (.int 3)) (gBin fMod (gBin fDiv (gV 1) (gC (.int 2))) (gC (.int 4))))) gN))) (G A B none none none) (cS s1) = some (.ok (.o (.list ([2 + a, 6, 3 + b].map fun (m : Nat) => PyData.int (m : Int)))), G A B none none none, cS s1) := by
    have d1 := m_mod (m := 5) (m_div (K := K) (sa := sa) (ns := ns) (tb := tb) (Γ := G A B none none none) (s := s1) (ga := gV 1) (a := (x : Nat)) (m := 2) rfl (by decide) (by decide)) (by decide)
    have d2 := m_mod (m := 4) (m_div (K := K) (sa := sa) (ns := ns) (tb := tb) (Γ := G A B none none none) (s := s1) (ga := gV 1) (a := (x : Nat)) (m := 2) rfl (by decide) (by decide)) (by decide)
    rw [ha] at d1
    rw [hb] at d2
    have z1 := m_add (m_c (K := K) (sa := sa) (ns := ns) (tb := tb) (G A B none none none) s1 2) d1
    have z2 := m_add (m_c (K := K) (sa := sa) (ns := ns) (tb := tb) (G A B none none none) s1 3) d2
    unfold gLst
    rw [bd_ok (gk_ok (esc_v z1) (gk_ok (esc_v (d := .int 6) rfl) (gk_ok (esc_v z2) rfl)))]
    show some (Oc.ok (R.o (PyData.list [.int (2 + ((a : Nat) : Int)), .int 6, .int (3 + ((b : Nat) : Int))])), G A B none none none, cS s1) = some (Oc.ok (R.o (PyData.list [.int ((2 + a : Nat) : Int), .int 6, .int ((3 + b : Nat) : Int)])), G A B none none none, cS s1)
    rw [show (2 + ((a : Nat) : Int)) = ((2 + a : Nat) : Int) by omega, show (3 + ((b : Nat) : Int)) = ((3 + b : Nat) : Int) by omega]
  obtain ⟨c, n, s2, hc, hs2, e3⟩ := pickDE (K := K) (sa := sa) (ns := ns) (tb := tb) (j := 0) (k := k) (s := s1) (s1 := s1) (Γ := G A B none none none) (Γ1 := G A B none none none) rfl hs1 (g := gC (.int 3)) (L := [2 + a, 6, 3 + b]) (f := fun (m : Nat) => PyData.int (m : Int)) g3 rfl rfl (by simp)
  have hn : 2 ≤ n ∧ n ≤ 6 := by
    have := List.mem_of_getElem? hc
    simp only [List.mem_cons, List.not_mem_nil, or_false] at this
    omega
  let C : Option R := some (.v (.int (n : Nat)))
  have t3 := set_v (i := 3) e3
  obtain ⟨c4, often, s3, hc4, hs3, e4⟩ := pickDE (K := K) (sa := sa) (ns := ns) (tb := tb) (j := 0) (k := k) (s := s2) (s1 := s2) (Γ := G A B C none none) (Γ1 := G A B C none none) rfl hs2 (g := gC (.int 4)) (ga := gLst (gK (gEsc (gC (.int 0))) (gK (gEsc (gC (.int 2))) (gK (gEsc (gC (.int 5))) (gK (gEsc (gC (.int 8))) gN))))) (L := [0, 2, 5, 8]) (f := fun (m : Nat) => PyData.int (m : Int)) (r := .o (.list ([0, 2, 5, 8].map fun (m : Nat) => PyData.int (m : Int)))) rfl rfl rfl (by decide)
  have t4 := set_v (i := 4) e4
  have t5 : sSet (Y := ClY K sa ns tb) 5 (gLst gN) (G A B C (some (.v (.int (often : Nat)))) none) (cS s3) = some (.nx, LgE k (x : Nat) t n often [] none, cS s3) := rfl
  obtain ⟨l0ok, l0es, l0d⟩ := lg_sub (t := t) hn.1 hn.2 (E := []) (by simp) (by simp)
  let l0 := lgOf t n []
  obtain ⟨Z, s4, hZ, hs4, e5⟩ := drawn_ok (K := K) (sa := sa) (ns := ns) (tb := tb) l0ok hs3
  have it : gItL (Y := ClY K sa ns tb) (gBin fIx (gFn 2 m__law_drawn_end (gK (gEsc (gV 0)) (gK (gEsc (FX.gTup (gK (gEsc (gV 2)) (gK (gEsc (gV 3)) (gK (gEsc (gLst gN)) gN))))) gN))) (gC (.int 2))) (LgE k (x : Nat) t n often [] none) (cS s3) = some (.ok (Z.map mE2), LgE k (x : Nat) t n often [] none, cS s4) := by
    have a1 : FX.gTup (Y := ClY K sa ns tb) (gK (gEsc (gV 2)) (gK (gEsc (gV 3)) (gK (gEsc (gLst gN)) gN))) (LgE k (x : Nat) t n often [] none) (cS s3) = some (.ok (.v l0.d), LgE k (x : Nat) t n often [] none, cS s3) := by
      show _ = some (Oc.ok (R.v (lgOf t n []).d), _, _)
      rw [l0d]
      rfl
    have a0 : gEsc (Y := ClY K sa ns tb) (gV 0) (LgE k (x : Nat) t n often [] none) (cS s3) = some (.ok (.h k), LgE k (x : Nat) t n often [] none, cS s3) := esc_h rfl
    have a2 := fn_v (n := 2) (m := m__law_drawn_end) (gk_ok a0 (gk_ok (gr := gN) (esc_v a1) rfl)) rfl e5
    exact itL_v (bin_of (f := fIx) (gb := gC (.int 2)) (rb := .v (.int 2)) (z := .old (.list (Z.map mE2))) a2 rfl rfl rfl rfl)
  obtain ⟨E', s5, y6, hE, hs5, e6⟩ := lgd_loop (K := K) (sa := sa) (ns := ns) (tb := tb) k (x : Nat) t n often Z hs4 [] none (by have := hZ.len l0ok; simp; omega)
  have t6 : sFor (Y := ClY K sa ns tb) (.n 6) (gItL (gBin fIx (gFn 2 m__law_drawn_end (gK (gEsc (gV 0)) (gK (gEsc (FX.gTup (gK (gEsc (gV 2)) (gK (gEsc (gV 3)) (gK (gEsc (gLst gN)) gN))))) gN))) (gC (.int 2)))) l__law_league_1 (LgE k (x : Nat) t n often [] none) (cS s3) = some (.nx, LgE k (x : Nat) t n often E' y6, cS s5) := (for_run it).trans e6
  obtain ⟨ok, es, ed⟩ := hZ.sub l0ok hE
  refine ⟨lgOf t n E', s5, ok, hs5, ?_⟩
  rw [q__law_league]
  refine fin_of ?_
  unfold b__law_league
  have t7 : sRet (Y := ClY K sa ns tb) (FX.gTup (gK (gEsc (gV 2)) (gK (gEsc (gV 3)) (gK (gEsc (gV 5)) gN)))) (LgE k (x : Nat) t n often E' y6) (cS s5) = some (.rt (.v (lgOf t n E').d), LgE2 k (x : Nat) t n often E' y6, cS s5) := by
    show _ = some (Fl.rt (R.v (lgOf l0.t l0.n E').d), LgE2 k (x : Nat) t n often E' y6, cS s5)
    rw [ed]
    rfl
  exact congrArg fin (nx_seq t1 (nx_seq t2 (nx_seq t3 (nx_seq t4 (nx_seq t5 (nx_seq t6 t7))))))
end
end FX.Pg
set_option Elab.async false
set_option linter.all false
set_option maxRecDepth 100000
namespace FX.Pg
open PySem PySem.Spec L2 FX
end FX.Pg
set_option Elab.async false
set_option linter.all false
set_option maxRecDepth 100000
namespace FX.Pg
open PySem PySem.Spec L2 FX
end FX.Pg
set_option Elab.async false
set_option linter.all false
set_option maxRecDepth 100000
namespace FX.Pg
open PySem PySem.Spec L2 FX
section
variable {Y : Sys}
theorem outc_eq (t : Bool) (i j : Int) (s : Y.S) : m_outcomes_in_order [.v (.str (kindS t)), .v (.int i), .v (.int j)] s = some (.ok (.o (.list ((outs t).map fun o => o.d i j))), s) := by
  rw [q_outcomes_in_order]
  refine fin_of ?_
  unfold b_outcomes_in_order
  let Γ : Ev := [some (.v (.str (kindS t))), some (.v (.int i)), some (.v (.int j)), none]
  have it : gItT (Y := Y) (FX.gTup (gK (gEsc (gV 1)) (gK (gEsc (gC .none)) (gK (gEsc (gV 2)) gN)))) Γ s = some (.ok ([O3.a, .t, .b].map fun o => o.d i j), Γ, s) := rfl
  have c := gComp_flt (Y := Y) (T := .n 3) (own := [3]) (gt := t_outcomes_in_order_2) (ge := e_outcomes_in_order_1) (fun o : O3 => o.d i j) (fun o => isOutcome (kindS t) i j (o.d i j)) it (by simp) (fun o _ => by
    refine ⟨Γ.set 3 (some (.v (o.d i j))), Γ.set 3 (some (.v (o.d i j))), rfl, ?_, rfl, fun _ => ⟨Γ.set 3 (some (.v (o.d i j))), esc_v rfl, rfl⟩⟩
    refine tst_of (fn_v (gk_ok (esc_v (d := .str (kindS t)) rfl) (gk_ok (esc_v (d := .int i) rfl) (gk_ok (esc_v (d := .int j) rfl) (gk_ok (esc_v (d := o.d i j) rfl) rfl)))) rfl (outcome_eq _ (kindS_sh t) i j _ s)))
  have ef : [O3.a, .t, .b].filter (fun o => isOutcome (kindS t) i j (o.d i j)) = outs t := by
    have h1 : isOutcome (kindS t) i j (O3.a.d i j) = true := by simp [isOutcome, O3.d]
    have h2 : isOutcome (kindS t) i j (O3.b.d i j) = true := by simp [isOutcome, O3.d]
    have h3 : isOutcome (kindS t) i j (O3.t.d i j) = t := by
      show decide (kindS t = Str.ofString "ties") = t
      cases t <;> decide +kernel
    simp only [List.filter_cons, h1, h2, h3, List.filter_nil]
    cases t <;> rfl
  rw [ef] at c
  show fin (sRet _ Γ s) = _
  rw [ret_o c]
  rfl
end
end FX.Pg
set_option Elab.async false
set_option linter.all false
set_option maxRecDepth 100000
namespace FX.Pg
open PySem PySem.Spec L2 FX
def hd (h : List Int) : D := .tuple (h.map PyData.int)
def insU (acc : List (List Int)) (x : List Int) : List (List Int) := if x ∈ acc then acc else acc ++ [x]
def nextA (t : Bool) (p : Int × Int) (acc : List (List Int)) (h : List Int) : List (List Int) := (outs t).foldl (fun a o => insU a (stepH t h p o)) acc
def next (t : Bool) (p : Int × Int) (Hs : List (List Int)) : List (List Int) := Hs.foldl (nextA t p) []
section
variable {Y : Sys}
theorem copyD_eq (l : Lg) (s : Y.S) : m__law_copy [.v l.d] s = some (.ok (.v l.d), s) := copy_eq l s
end
end FX.Pg
set_option Elab.async false
set_option linter.all false
set_option maxRecDepth 100000
namespace FX.Pg
open PySem PySem.Spec L2 FX
theorem addI_comm (h : List Int) (i j x y : Int) : addI (addI h i x) j y = addI (addI h j y) i x := by
  unfold addI
  by_cases e : i.toNat = j.toNat
  · rw [e]
    by_cases hl : j.toNat < h.length
    · have g1 : ∀ z : Int, (h.set j.toNat z).getD j.toNat 0 = z := fun z => by
        rw [List.getD_eq_getElem?_getD, List.getElem?_set_self hl]; rfl
      rw [g1, g1, List.set_set, List.set_set]
      congr 1
      omega
    · have g1 : ∀ z : Int, h.set j.toNat z = h := fun z => List.set_eq_of_length_le (by omega)
      simp only [g1]
  · have g1 : ∀ z : Int, (h.set i.toNat z).getD j.toNat 0 = h.getD j.toNat 0 := fun z => by
      rw [List.getD_eq_getElem?_getD, List.getElem?_set_ne e, List.getD_eq_getElem?_getD]
    have g2 : ∀ z : Int, (h.set j.toNat z).getD i.toNat 0 = h.getD i.toNat 0 := fun z => by
      rw [List.getD_eq_getElem?_getD, List.getElem?_set_ne (Ne.symm e), List.getD_eq_getElem?_getD]
    rw [g1, g2, List.set_comm _ _ e]
def stE (t : Bool) (h : List Int) (e : Ent) : List Int := stepH t h e.1 e.2
theorem stE_comm (t : Bool) (h : List Int) (e f : Ent) : stE t (stE t h e) f = stE t (stE t h f) e := by
  unfold stE stepH
  rw [addI_comm _ e.1.2 f.1.1, addI_comm _ e.1.1 f.1.1, addI_comm _ e.1.2 f.1.2, addI_comm _ e.1.1 f.1.2]
def sumE (t : Bool) (h : List Int) (E : List Ent) : List Int := E.foldl (stE t) h
theorem ptsP_fold (t : Bool) : ∀ (ps : List (Int × Int)) (v : List (Option O3)) (h : List Int), ptsP t ps v h = sumE t h (ents ps v)
  | [], v, h => by cases v <;> rfl
  | p :: ps, [], h => rfl
  | p :: ps, none :: v, h => ptsP_fold t ps v h
  | p :: ps, some o :: v, h => ptsP_fold t ps v (stepH t h p o)
theorem pts_sum (l : Lg) : l.pts = sumE l.t (List.replicate l.n 0) l.es := ptsP_fold _ _ _ _
theorem keys_split : ∀ (ps : List (Int × Int)) (v : List (Option O3)), v.length = ps.length → ((ents ps v).map (·.1) ++ leftP ps v).Perm ps
  | [], [], _ => .nil
  | p :: ps, none :: v, h => by
    have := keys_split ps v (by simpa using h)
    show ((ents ps v).map (·.1) ++ p :: leftP ps v).Perm (p :: ps)
    exact List.perm_middle.trans (this.cons p)
  | p :: ps, some o :: v, h => by
    have := keys_split ps v (by simpa using h)
    exact this.cons p
  | [], _ :: _, h => by simp at h
  | _ :: _, [], h => by simp at h
theorem Lg.Ok.split {l : Lg} (h : l.Ok) : (l.es.map (·.1) ++ l.left).Perm (pairsI l.n) := keys_split _ _ h.len
end FX.Pg
set_option Elab.async false
set_option linter.all false
set_option maxRecDepth 100000
namespace FX.Pg
open PySem PySem.Spec L2 FX
def cnt (t : Bool) (f : Int × Int → List O3) (g : List Int) : List (Int × Int) → List Int → Int
  | [], h => if h = g then 1 else 0
  | p :: r, h => ((f p).map fun o => cnt t f g r (stepH t h p o)).sum
theorem sum_zero {α : Type} : ∀ L : List α, (L.map fun _ => (0 : Int)).sum = 0
  | [] => rfl
  | _ :: L => by simp [sum_zero L]
theorem sum_addm {α : Type} (F G : α → Int) : ∀ L : List α, (L.map fun x => F x + G x).sum = (L.map F).sum + (L.map G).sum
  | [] => rfl
  | x :: L => by
    simp only [List.map_cons, List.sum_cons, sum_addm F G L]
    omega
theorem sum_swap {α β : Type} (F : α → β → Int) : ∀ (A : List α) (B : List β), (A.map fun a => (B.map fun b => F a b).sum).sum = (B.map fun b => (A.map fun a => F a b).sum).sum
  | [], B => by simp [sum_zero B]
  | a :: A, B => by
    simp only [List.map_cons, List.sum_cons, sum_swap F A B, sum_addm]
theorem cnt_perm {t : Bool} {f : Int × Int → List O3} {g : List Int} {ps qs : List (Int × Int)} (pm : ps.Perm qs) : ∀ h, cnt t f g ps h = cnt t f g qs h := by
  induction pm with
  | nil => intro h; rfl
  | cons p _ ih =>
    intro h
    unfold cnt
    congr 1
    exact List.map_congr_left fun o _ => ih _
  | swap p q r =>
    intro h
    show ((f q).map fun o => ((f p).map fun o' => cnt t f g r (stepH t (stepH t h q o) p o')).sum).sum = ((f p).map fun o => ((f q).map fun o' => cnt t f g r (stepH t (stepH t h p o) q o')).sum).sum
    rw [sum_swap]
    congr 1
    refine List.map_congr_left fun o _ => ?_
    congr 1
    refine List.map_congr_left fun o' _ => ?_
    have := stE_comm t h (q, o') (p, o)
    unfold stE at this
    simp only at this
    rw [this]
  | trans _ _ i1 i2 => intro h; rw [i1, i2]
theorem cnt_played {t : Bool} {f : Int × Int → List O3} {g : List Int} {r : List (Int × Int)} : ∀ (E : List Ent), (∀ e ∈ E, f e.1 = [e.2]) → ∀ h, cnt t f g (E.map (·.1) ++ r) h = cnt t f g r (sumE t h E)
  | [], _, h => rfl
  | e :: E, hE, h => by
    show ((f e.1).map fun o => cnt t f g (E.map (·.1) ++ r) (stepH t h e.1 o)).sum = _
    rw [hE e (by simp)]
    simp only [List.map_cons, List.map_nil, List.sum_cons, List.sum_nil, Int.add_zero]
    exact cnt_played E (fun x hx => hE x (by simp [hx])) _
theorem cnt_congr {t : Bool} {f f' : Int × Int → List O3} {g : List Int} : ∀ (ps : List (Int × Int)), (∀ p ∈ ps, f p = f' p) → ∀ h, cnt t f g ps h = cnt t f' g ps h
  | [], _, _ => rfl
  | p :: ps, hp, h => by
    unfold cnt
    rw [hp p (by simp)]
    congr 1
    exact List.map_congr_left fun o _ => cnt_congr ps (fun q hq => hp q (by simp [hq])) _
theorem count_same {l : Lg} (hl : l.Ok) (g : List Int) : cnt l.t (fun p => optL l.t (lookE l.es p)) g (pairsI l.n) (List.replicate l.n 0) = cnt l.t (fun _ => outs l.t) g l.left l.pts := by
  have nd := pairs_nodup hl.h2 hl.h6
  have sp := hl.split
  have ndK : (l.es.map (·.1) ++ l.left).Nodup := sp.nodup_iff.mpr nd
  have inL : ∀ p ∈ l.left, lookE l.es p = none := fun p hp => by
    unfold lookE
    rw [Option.map_eq_none_iff, List.find?_eq_none]
    intro e he z
    have := (List.nodup_append.mp ndK).2.2 e.1 (List.mem_map.mpr ⟨e, he, rfl⟩) p hp
    exact this (of_decide_eq_true z)
  rw [← cnt_perm sp, cnt_played, ← pts_sum]
  · exact cnt_congr _ (fun p hp => by rw [inL p hp]; rfl) _
  · intro e he
    have : lookE l.es e.1 = some e.2 := (lookE_iff hl.es_nd).mpr he
    rw [this]
    rfl
theorem step_get {t : Bool} {h : List Int} {p : Int × Int} {o : O3} (h1 : 0 ≤ p.1) (h2 : 0 ≤ p.2) {q : Nat} (hq : q < h.length) : (stepH t h p o).getD q 0 = h.getD q 0 + (if p.1 = (q : Int) then (sh2 t o).1 else 0) + (if p.2 = (q : Int) then (sh2 t o).2 else 0) := by
  unfold stepH
  rw [addI_get _ _ _ _ h2 (by rw [addI_len]; exact hq), addI_get _ _ _ _ h1 hq]
theorem sh2_b (t : Bool) (o : O3) (ho : t = false → o ≠ .t) : 0 ≤ (sh2 t o).1 ∧ 0 ≤ (sh2 t o).2 ∧ (sh2 t o).1 ≤ wth t ∧ (sh2 t o).2 ≤ wth t := by
  cases t <;> cases o <;> first | decide | exact absurd rfl (ho rfl)
theorem cnt_over {t : Bool} {f : Int × Int → List O3} {g : List Int} (hf : ∀ p, ∀ o ∈ f p, t = false → o ≠ .t) {q : Nat} : ∀ (ps : List (Int × Int)) (h : List Int), (∀ p ∈ ps, 0 ≤ p.1 ∧ 0 ≤ p.2) → q < h.length → g.getD q 0 < h.getD q 0 → cnt t f g ps h = 0
  | [], h, _, _, hg => by
    unfold cnt
    rw [if_neg]
    rintro rfl
    omega
  | p :: ps, h, hp, hq, hg => by
    unfold cnt
    have : ∀ o ∈ f p, cnt t f g ps (stepH t h p o) = 0 := fun o ho => by
      obtain ⟨b1, b2, _, _⟩ := sh2_b t o (hf p o ho)
      refine cnt_over hf ps _ (fun r hr => hp r (by simp [hr])) (by rw [stepH_len]; exact hq) ?_
      rw [step_get (hp p (by simp)).1 (hp p (by simp)).2 hq]
      split <;> split <;> omega
    rw [List.map_congr_left this]
    exact sum_zero _
def mostQ (t : Bool) (q : Nat) : List (Int × Int) → Int
  | [] => 0
  | p :: r => (if p.1 = (q : Int) ∨ p.2 = (q : Int) then wth t else 0) + mostQ t q r
theorem cnt_under {t : Bool} {f : Int × Int → List O3} {g : List Int} (hf : ∀ p, ∀ o ∈ f p, t = false → o ≠ .t) {q : Nat} : ∀ (ps : List (Int × Int)) (h : List Int), (∀ p ∈ ps, 0 ≤ p.1 ∧ p.1 < p.2) → q < h.length → h.getD q 0 + mostQ t q ps < g.getD q 0 → cnt t f g ps h = 0
  | [], h, _, _, hg => by
    unfold cnt
    rw [if_neg]
    rintro rfl
    unfold mostQ at hg
    omega
  | p :: ps, h, hp, hq, hg => by
    unfold cnt
    unfold mostQ at hg
    obtain ⟨p0, p1⟩ := hp p (by simp)
    have : ∀ o ∈ f p, cnt t f g ps (stepH t h p o) = 0 := fun o ho => by
      obtain ⟨b1, b2, b3, b4⟩ := sh2_b t o (hf p o ho)
      refine cnt_under hf ps _ (fun r hr => hp r (by simp [hr])) (by rw [stepH_len]; exact hq) ?_
      rw [step_get p0 (by omega) hq]
      by_cases e1 : p.1 = (q : Int)
      · rw [if_pos (.inl e1)] at hg
        rw [if_pos e1, if_neg (by omega)]
        omega
      · by_cases e2 : p.2 = (q : Int)
        · rw [if_pos (.inr e2)] at hg
          rw [if_neg e1, if_pos e2]
          omega
        · rw [if_neg (by rintro (z | z); exact e1 z; exact e2 z)] at hg
          rw [if_neg e1, if_neg e2]
          omega
    rw [List.map_congr_left this]
    exact sum_zero _
end FX.Pg
set_option Elab.async false
set_option linter.all false
set_option maxRecDepth 100000
namespace FX.Pg
open PySem PySem.Spec L2 FX
end FX.Pg
set_option Elab.async false
set_option linter.all false
set_option maxRecDepth 100000
set_option maxHeartbeats 1000000
namespace FX.Pg
open PySem PySem.Spec L2 FX
def sub (g h : List Int) : List Int := List.zipWith (fun a b => a - b) g h
theorem sub_len {g h : List Int} (e : h.length = g.length) : (sub g h).length = g.length := by simp [sub, e]
theorem sub_get {g h : List Int} (e : h.length = g.length) {q : Nat} (hq : q < g.length) : (sub g h).getD q 0 = g.getD q 0 - h.getD q 0 := by
  unfold sub
  rw [List.getD_eq_getElem?_getD, List.getElem?_zipWith, List.getD_eq_getElem?_getD, List.getD_eq_getElem?_getD, List.getElem?_eq_getElem hq, List.getElem?_eq_getElem (by omega)]
  rfl
theorem ext_get {a b : List Int} (e : a.length = b.length) (h : ∀ q, q < a.length → a.getD q 0 = b.getD q 0) : a = b := by
  refine List.ext_getElem e fun q h1 h2 => ?_
  have := h q h1
  rwa [List.getD_eq_getElem?_getD, List.getD_eq_getElem?_getD, List.getElem?_eq_getElem h1, List.getElem?_eq_getElem h2] at this
theorem sub_inj {g h h' : List Int} (e : h.length = g.length) (e' : h'.length = g.length) (z : sub g h = sub g h') : h = h' := by
  refine ext_get (by omega) fun q hq => ?_
  have a := sub_get e (q := q) (by omega)
  have b := sub_get e' (q := q) (by omega)
  rw [z] at a
  omega
theorem sub_step {g h : List Int} (e : h.length = g.length) {p : Int × Int} {x y : Int} (h0 : 0 ≤ p.1) (h1 : 0 ≤ p.2) : addI (addI (sub g h) p.1 (0 - x)) p.2 (0 - y) = sub g (addI (addI h p.1 x) p.2 y) := by
  refine ext_get (by rw [addI_len, addI_len, sub_len e, sub_len (by rw [addI_len, addI_len]; exact e)]) fun q hq => ?_
  rw [addI_len, addI_len, sub_len e] at hq
  rw [addI_get _ _ _ _ h1 (by rw [addI_len, sub_len e]; exact hq), addI_get _ _ _ _ h0 (by rw [sub_len e]; exact hq), sub_get e hq, sub_get (by rw [addI_len, addI_len]; exact e) hq,
    addI_get _ _ _ _ h1 (by rw [addI_len]; omega), addI_get _ _ _ _ h0 (by omega)]
  split <;> split <;> omega
def OPS (t : Bool) (f : Int × Int → Option O3) (ps : List (Int × Int)) : D := .list (ps.map fun p => optD t p (f p))
theorem ops_at {t : Bool} {f : Int × Int → Option O3} {ps : List (Int × Int)} {k : Nat} {p : Int × Int} (h : ps[k]? = some p) : atI (ps.map fun p => optD t p (f p)) ((k : Nat) : Int) = some (optD t p (f p)) := by
  have hk : k < ps.length := (List.getElem?_eq_some_iff.mp h).1
  unfold atI ixN
  have h2 : ((k : Nat) : Int) < (((ps.map fun p => optD t p (f p)).length : Nat) : Int) := by rw [List.length_map]; omega
  simp only [h2, if_true, show (0 : Int) ≤ ((k : Nat) : Int) from by omega, Int.toNat_natCast, and_self]
  simp [h]
section
variable {Y : Sys}
theorem less_ok {t : Bool} {f : Int × Int → Option O3} {ps : List (Int × Int)} {k : Nat} {p : Int × Int} (hp : ps[k]? = some p) {nd : List Int} (h0 : 0 ≤ p.1) (h1 : p.1 < p.2) (h2 : p.2 < (nd.length : Nat)) (hz : nd.length ≤ 1000) (x y : Int) (s : Y.S) :
    m__law_less [.v (OPS t f ps), .v (.int (k : Nat)), .v (.tuple (nd.map PyData.int)), .v (.int x), .v (.int y)] s = some (.ok (.v (.tuple ((addI (addI nd p.1 (0 - x)) p.2 (0 - y)).map PyData.int))), s) := by
  rw [q__law_less]
  refine fin_of ?_
  let S : D := .list ((optL t (f p)).map (trip t p))
  let G (x5 x6 x7 x8 : Option R) : Ev := [some (.v (OPS t f ps)), some (.v (.int (k : Nat))), some (.v (.tuple (nd.map PyData.int))), some (.v (.int x)), some (.v (.int y)), x5, x6, x7, x8]
  let H (x8 : Option R) : Ev := G (some (.v (.int p.1))) (some (.v (.int p.2))) (some (.v S)) x8
  show fin (b__law_less (Y := Y) (G none none none none) s) = _
  have s1 : sUnp (Y := Y) (.cons (.n 5) (.cons (.n 6) (.cons (.n 7) .nil))) (gBin fIx (gV 0) (gV 1)) (G none none none none) s = some (.nx, H none, s) := by
    have c : gBin (Y := Y) fIx (gV 0) (gV 1) (G none none none none) s = some (.ok (.v (optD t p (f p))), G none none none none, s) := bin_of (ra := .v (OPS t f ps)) (rb := .v (.int (k : Nat))) (d := OPS t f ps) (e := .int (k : Nat)) (z := .old (optD t p (f p))) rfl rfl rfl rfl (by
      show (match atI (ps.map fun p => optD t p (f p)) ((k : Nat) : Int) with | some d => some (Rz.old d) | none => none) = _
      rw [ops_at hp])
    unfold sUnp
    rw [bdS_ok c]
    rfl
  have s2 : sSet (Y := Y) 8 (gCall fList (gK (gV 2) gN)) (H none) s = some (.nx, H (some (.o (.list (nd.map PyData.int)))), s) := rfl
  let g := addI nd p.1 (0 - x)
  have gl : g.length = nd.length := addI_len _ _ _
  have s3 : sPut (Y := Y) 8 (gV 5) (gBin fSub (gBin fIx (gV 8) (gV 5)) (gV 3)) (H (some (.o (.list (nd.map PyData.int))))) s = some (.nx, H (some (.o (.list (g.map PyData.int)))), s) := by
    have z1 : gBin (Y := Y) fIx (gV 8) (gV 5) (H (some (.o (.list (nd.map PyData.int))))) s = some (.ok (.v (.int (nd.getD p.1.toNat 0))), H (some (.o (.list (nd.map PyData.int)))), s) := bin_of (f := fIx) (ra := .b 8) (d := .list (nd.map PyData.int)) (rb := .v (.int p.1)) (z := .old (.int (nd.getD p.1.toNat 0))) rfl rfl rfl rfl (by
      show (match atI (nd.map PyData.int) p.1 with | some d => some (Rz.old d) | none => none) = _
      rw [at_in h0 (by omega)])
    have z2 := bin_of (f := fSub) (gb := gV 3) (rb := .v (.int x)) (z := .nw (.int (nd.getD p.1.toNat 0 - x))) z1 rfl rfl rfl rfl
    have := put_in z2 (gk := gV 5) (k := 8) rfl rfl h0 (by omega)
    rw [this]
    show some (Fl.nx, H (some (.o (.list ((nd.set p.1.toNat (nd.getD p.1.toNat 0 - x)).map PyData.int)))), s) = _
    rw [show nd.getD p.1.toNat 0 - x = nd.getD p.1.toNat 0 + (0 - x) from by omega]
    rfl
  have s4 : sPut (Y := Y) 8 (gV 6) (gBin fSub (gBin fIx (gV 8) (gV 6)) (gV 4)) (H (some (.o (.list (g.map PyData.int))))) s = some (.nx, H (some (.o (.list ((addI g p.2 (0 - y)).map PyData.int)))), s) := by
    have z1 : gBin (Y := Y) fIx (gV 8) (gV 6) (H (some (.o (.list (g.map PyData.int))))) s = some (.ok (.v (.int (g.getD p.2.toNat 0))), H (some (.o (.list (g.map PyData.int)))), s) := bin_of (f := fIx) (ra := .b 8) (d := .list (g.map PyData.int)) (rb := .v (.int p.2)) (z := .old (.int (g.getD p.2.toNat 0))) rfl rfl rfl rfl (by
      show (match atI (g.map PyData.int) p.2 with | some d => some (Rz.old d) | none => none) = _
      rw [at_in (h := g) (by omega) (by omega)])
    have z2 := bin_of (f := fSub) (gb := gV 4) (rb := .v (.int y)) (z := .nw (.int (g.getD p.2.toNat 0 - y))) z1 rfl rfl rfl rfl
    have := put_in z2 (gk := gV 6) (k := 8) rfl rfl (by omega) (by omega)
    rw [this]
    show some (Fl.nx, H (some (.o (.list ((g.set p.2.toNat (g.getD p.2.toNat 0 - y)).map PyData.int)))), s) = _
    rw [show g.getD p.2.toNat 0 - y = g.getD p.2.toNat 0 + (0 - y) from by omega]
    rfl
  unfold b__law_less
  rw [seq_nx s1, seq_nx s2, seq_nx s3, seq_nx s4]
  have c : gCall (Y := Y) fTup (gK (gV 8) gN) (H (some (.o (.list ((addI g p.2 (0 - y)).map PyData.int))))) s = some (.ok (.v (.tuple ((addI g p.2 (0 - y)).map PyData.int))), H (some (.o (.list ((addI g p.2 (0 - y)).map PyData.int)))), s) := call_ok (z := .nw (.tuple ((addI g p.2 (0 - y)).map PyData.int))) (gk_ok (ga := gV 8) (r := .b 8) rfl rfl) (ds := [.list ((addI g p.2 (0 - y)).map PyData.int)]) rfl rfl
  rw [ret_v c]
  rfl
end
end FX.Pg
set_option Elab.async false
set_option linter.all false
set_option maxRecDepth 100000
set_option maxHeartbeats 1000000
namespace FX.Pg
open PySem PySem.Spec L2 FX
theorem nval_cons (kv : NKey × Int) (kvs : List (NKey × Int)) (k : NKey) : nval (kv :: kvs) k = if kv.1 = k then some kv.2 else nval kvs k := by
  unfold nval
  by_cases e : kv.1 = k
  · simp [List.find?_cons, e]
  · simp [List.find?_cons, e]
theorem nval_map (k : NKey) (v : Int) (k' : NKey) : ∀ kvs : List (NKey × Int), nval (kvs.map fun kv => if kv.1 = k then (kv.1, v) else kv) k' = if k' = k then (nval kvs k').map fun _ => v else nval kvs k'
  | [] => by simp [nval]
  | kv :: kvs => by
    rw [List.map_cons, nval_cons, nval_cons, nval_map k v k' kvs]
    by_cases e : kv.1 = k
    · rw [if_pos e]
      by_cases e2 : kv.1 = k'
      · rw [if_pos e2, if_pos e2, if_pos (by rw [← e2]; exact e)]; rfl
      · rw [if_neg e2, if_neg e2]
    · rw [if_neg e]
      by_cases e2 : kv.1 = k'
      · rw [if_pos e2, if_pos e2, if_neg (fun z => e (e2.trans z))]
      · rw [if_neg e2, if_neg e2]
theorem nval_snoc (k : NKey) (v : Int) (k' : NKey) : ∀ kvs : List (NKey × Int), nval kvs k = none → nval (kvs ++ [(k, v)]) k' = if k' = k then some v else nval kvs k'
  | [], _ => by
    rw [List.nil_append, nval_cons]
    by_cases e : k = k'
    · rw [if_pos e, if_pos e.symm]
    · rw [if_neg e, if_neg (Ne.symm e)]
  | kv :: kvs, h => by
    rw [nval_cons] at h
    by_cases e : kv.1 = k
    · rw [if_pos e] at h; cases h
    · rw [if_neg e] at h
      rw [List.cons_append, nval_cons, nval_cons, nval_snoc k v k' kvs h]
      by_cases e2 : kv.1 = k'
      · rw [if_pos e2, if_pos e2, if_neg (fun z => e (e2.trans z))]
      · rw [if_neg e2, if_neg e2]
theorem nval_put (kvs : List (NKey × Int)) (k : NKey) (v : Int) (k' : NKey) : nval (nput kvs k v) k' = if k' = k then some v else nval kvs k' := by
  unfold nput
  split
  · rename_i h
    rw [nval_map]
    by_cases e : k' = k
    · rw [if_pos e, if_pos e, e]
      obtain ⟨w, hw⟩ := Option.isSome_iff_exists.mp h
      rw [hw]; rfl
    · rw [if_neg e, if_neg e]
  · rename_i h
    exact nval_snoc k v k' kvs (by simpa using h)
theorem nput_len (kvs : List (NKey × Int)) (k : NKey) (v : Int) : (nput kvs k v).length ≤ kvs.length + 1 := by
  unfold nput
  split <;> simp
theorem intsD_map : ∀ l : List Int, intsD (l.map PyData.int) = some l
  | [] => rfl
  | i :: l => by
    show (match intsD (l.map PyData.int) with | some is => some (i :: is) | none => none) = _
    rw [intsD_map l]
theorem nkD_of (i : Int) (l : List Int) : nkD (.tuple [.int i, .tuple (l.map PyData.int)]) = some (i, l) := by
  show (match intsD (l.map PyData.int) with | some is => some (i, is) | none => none) = _
  rw [intsD_map l]
def Memo (t : Bool) (f : Int × Int → List O3) (all : List (Int × Int)) (g : List Int) (key : List Int → List Int) (kvs : List (NKey × Int)) : Prop :=
  ∀ (k : NKey) (v : Int), nval kvs k = some v → ∀ (pre rest : List (Int × Int)) (h : List Int), all = pre ++ rest → h.length = g.length → k = (((pre.length : Nat) : Int), key h) → v = cnt t f g rest h
theorem Memo.put {t : Bool} {f : Int × Int → List O3} {all : List (Int × Int)} {g : List Int} {key : List Int → List Int} {kvs : List (NKey × Int)} (M : Memo t f all g key kvs) (inj : ∀ a b : List Int, a.length = g.length → b.length = g.length → key a = key b → a = b) {pre rest : List (Int × Int)} {h : List Int} (e : all = pre ++ rest) (hh : h.length = g.length) :
    Memo t f all g key (nput kvs (((pre.length : Nat) : Int), key h) (cnt t f g rest h)) := by
  intro k v hv pre' rest' h' e' hh' hk
  rw [nval_put] at hv
  split at hv
  · rename_i hk2
    cases hv
    rw [hk] at hk2
    have h1 : pre'.length = pre.length := by have := congrArg Prod.fst hk2; simp only at this; omega
    have h2 : h' = h := inj _ _ hh' hh (congrArg Prod.snd hk2)
    have h3 : rest' = rest := by
      have := List.append_inj (e'.symm.trans e) h1
      exact this.2
    rw [h2, h3]
  · exact M k v hv pre' rest' h' e' hh' hk
def nodes (f : Int × Int → List O3) : List (Int × Int) → Nat
  | [] => 0
  | p :: r => 1 + (f p).length * nodes f r
theorem nodes_le {f : Int × Int → List O3} (hf : ∀ p, (f p).length ≤ 3) : ∀ ps : List (Int × Int), 2 * nodes f ps + 1 ≤ 3 ^ ps.length
  | [] => by simp [nodes]
  | p :: r => by
    have ih := nodes_le hf r
    have h := hf p
    have : (f p).length * nodes f r ≤ 3 * nodes f r := Nat.mul_le_mul_right _ h
    unfold nodes
    rw [List.length_cons, Nat.pow_succ]
    omega
theorem set_same {s : List Cell} {k : Nat} {c : Cell} (h : s[k]? = some c) : s.set k c = s := by
  refine List.ext_getElem? fun i => ?_
  by_cases e : k = i
  · subst e
    rw [List.getElem?_set_self (List.getElem?_eq_some_iff.mp h).1, h]
  · rw [List.getElem?_set_ne e]
section
variable {K : PySem.W.Frag} {sa : Addr} {ns : List Int} {tb : List (Addr × Str)}
theorem minT_eq {nd : List Int} (h : nd ≠ []) : fMinT [.tuple (nd.map PyData.int)] = some (.nw (.int (minI nd))) := by
  cases nd with
  | nil => exact absurd rfl h
  | cons a l =>
    show (match ints? ((a :: l).map PyData.int) with | some (a :: l) => some (Rz.nw (.int (minI (a :: l)))) | _ => none) = _
    rw [ints_map]
theorem maxT_eq {nd : List Int} (h : nd ≠ []) : fMaxT [.tuple (nd.map PyData.int)] = some (.nw (.int (maxI nd))) := by
  cases nd with
  | nil => exact absurd rfl h
  | cons a l =>
    show (match ints? ((a :: l).map PyData.int) with | some (a :: l) => some (Rz.nw (.int (maxI (a :: l)))) | _ => none) = _
    rw [ints_map]
def WyE (O : D) (at' : Nat) (nd : List Int) (kx : Nat) (x4 x5 x6 x7 x8 : Option R) : Ev := [some (.v O), some (.v (.int (at' : Nat))), some (.v (.tuple (nd.map PyData.int))), some (.h kx), x4, x5, x6, x7, x8]
theorem key_eq (O : D) (at' : Nat) (nd : List Int) (kx : Nat) (x4 x5 x6 x7 x8 : Option R) (s : List Cell) : FX.gTup (Y := ClY K sa ns tb) (gK (gEsc (gV 1)) (gK (gEsc (gV 2)) gN)) (WyE O at' nd kx x4 x5 x6 x7 x8) (cS s) = some (.ok (.v (.tuple [.int (at' : Nat), .tuple (nd.map PyData.int)])), WyE O at' nd kx x4 x5 x6 x7 x8, cS s) := rfl
theorem has_eq {O : D} {at' : Nat} {nd : List Int} {kx : Nat} {x4 x5 x6 x7 x8 : Option R} {s : List Cell} {kvs : List (NKey × Int)} (hk : s[kx]? = some (.dN kvs)) : gTst (Y := ClY K sa ns tb) (gNNot (FX.gTup (gK (gEsc (gV 1)) (gK (gEsc (gV 2)) gN))) (gV 3)) (WyE O at' nd kx x4 x5 x6 x7 x8) (cS s) = some (.ok (!(nval kvs ((at' : Nat), nd)).isSome), WyE O at' nd kx x4 x5 x6 x7 x8, cS s) := by
  refine tst_of ((bd_ok (key_eq O at' nd kx x4 x5 x6 x7 x8 s)).trans ((bd_ok (Y := ClY K sa ns tb) (a := .h kx) (Γ' := WyE O at' nd kx x4 x5 x6 x7 x8) (s' := cS s) rfl).trans ?_))
  show (match nkD (.tuple [.int (at' : Nat), .tuple (nd.map PyData.int)]), s[kx]? with | some k, some (.dN kvs) => some (Oc.ok (R.v (.bool (!(nval kvs k).isSome))), WyE O at' nd kx x4 x5 x6 x7 x8, s) | _, _ => none) = _
  rw [nkD_of, hk]
  rfl
theorem get_eq {O : D} {at' : Nat} {nd : List Int} {kx : Nat} {x4 x5 x6 x7 x8 : Option R} {s : List Cell} {kvs : List (NKey × Int)} (hk : s[kx]? = some (.dN kvs)) {v : Int} (hv : nval kvs ((at' : Nat), nd) = some v) : gNGet (sa := sa) (ns := ns) (T := tb) (K := K) (gV 3) (FX.gTup (gK (gEsc (gV 1)) (gK (gEsc (gV 2)) gN))) (WyE O at' nd kx x4 x5 x6 x7 x8) (cS s) = some (.ok (.v (.int v)), WyE O at' nd kx x4 x5 x6 x7 x8, cS s) := by
  refine (bd_ok (Y := ClY K sa ns tb) (a := .h kx) (Γ' := WyE O at' nd kx x4 x5 x6 x7 x8) (s' := cS s) rfl).trans ((bd_ok (key_eq O at' nd kx x4 x5 x6 x7 x8 s)).trans ?_)
  show (match nkD (.tuple [.int (at' : Nat), .tuple (nd.map PyData.int)]), s[kx]? with | some k, some (.dN kvs) => (match nval kvs k with | some v => some (Oc.ok (R.v (.int v)), WyE O at' nd kx x4 x5 x6 x7 x8, s) | none => none) | _, _ => none) = _
  rw [nkD_of, hk]
  show (match nval kvs ((at' : Nat), nd) with | some v => some (Oc.ok (R.v (.int v)), WyE O at' nd kx x4 x5 x6 x7 x8, s) | none => none) = _
  rw [hv]
  rfl
theorem put_eq {O : D} {at' : Nat} {nd : List Int} {kx : Nat} {v : Int} {x5 x6 x7 x8 : Option R} {s : List Cell} {kvs : List (NKey × Int)} (hk : s[kx]? = some (.dN kvs)) (hz : kvs.length ≤ 10000000) :
    sNPutC (sa := sa) (ns := ns) (T := tb) (K := K) (gV 3) (FX.gTup (gK (gEsc (gV 1)) (gK (gEsc (gV 2)) gN))) (gV 4) (WyE O at' nd kx (some (.v (.int v))) x5 x6 x7 x8) (cS s) = some (.nx, WyE O at' nd kx (some (.v (.int v))) x5 x6 x7 x8, cS (s.set kx (.dN (nput kvs ((at' : Nat), nd) v)))) := by
  refine (bdS_ok (Y := ClY K sa ns tb) (a := .v (.int v)) (Γ' := WyE O at' nd kx (some (.v (.int v))) x5 x6 x7 x8) (s' := cS s) rfl).trans ((bdS_ok (Y := ClY K sa ns tb) (a := .h kx) (Γ' := WyE O at' nd kx (some (.v (.int v))) x5 x6 x7 x8) (s' := cS s) rfl).trans ((bdS_ok (key_eq O at' nd kx _ x5 x6 x7 x8 s)).trans ?_))
  have hs : sizeN kvs.length = true := decide_eq_true hz
  show (match nkD (.tuple [.int (at' : Nat), .tuple (nd.map PyData.int)]), s[kx]? with | some k, some (.dN kvs) => (if sizeN kvs.length = true then some (Fl.nx, WyE O at' nd kx (some (.v (.int v))) x5 x6 x7 x8, s.set kx (.dN (nput kvs k v))) else none) | _, _ => none) = _
  rw [nkD_of, hk]
  show (if sizeN kvs.length = true then some (Fl.nx, WyE O at' nd kx (some (.v (.int v))) x5 x6 x7 x8, s.set kx (.dN (nput kvs ((at' : Nat), nd) v))) else none) = _
  rw [if_pos hs]
  rfl
end
end FX.Pg
set_option Elab.async false
set_option linter.all false
set_option maxRecDepth 100000
set_option maxHeartbeats 1000000
namespace FX.Pg
open PySem PySem.Spec L2 FX
section
variable {K : PySem.W.Frag} {sa : Addr} {ns : List Int} {tb : List (Addr × Str)}
theorem eq_int (i j : Int) : fEq (.int i) (.int j) = some (.nw (.bool (decide (i = j)))) := rfl
theorem ways_loop {t : Bool} {f : Int × Int → Option O3} {all rest : List (Int × Int)} {p : Int × Int} {g h : List Int} {at' kx : Nat} (hp : all[at']? = some p) (p0 : 0 ≤ p.1) (p1 : p.1 < p.2) (p2 : p.2 < (g.length : Nat)) (hg : g.length ≤ 1000) (hh : h.length = g.length)
    {rec : Fm (ClY K sa ns tb)} {MM : List (NKey × Int) → Prop} {T : Nat}
    (ih : ∀ (h' : List Int) (s : List Cell) (kvs : List (NKey × Int)), h'.length = g.length → s[kx]? = some (.dN kvs) → MM kvs → kvs.length + T ≤ 10000000 →
      ∃ kvs', rec [.v (OPS t f all), .v (.int ((at' + 1 : Nat) : Int)), .v (.tuple ((sub g h').map PyData.int)), .h kx] (cS s) = some (.ok (.v (.int (cnt t (fun p => optL t (f p)) g rest h'))), cS (s.set kx (.dN kvs'))) ∧ MM kvs' ∧ kvs'.length ≤ kvs.length + T) :
    ∀ (L : List O3) (tot : Int) (s : List Cell) (kvs : List (NKey × Int)) (x5 x6 x7 x8 : Option R), s[kx]? = some (.dN kvs) → MM kvs → kvs.length + L.length * T ≤ 10000000 →
    ∃ kvs' y5 y6 y7 y8, forG (.t (.cons (.n 5) (.cons (.n 6) (.cons (.n 7) .nil)))) (l__law_ways_1 rec) (L.map (trip t p)) (WyE (OPS t f all) at' (sub g h) kx (some (.v (.int tot))) x5 x6 x7 x8) (cS s)
      = some (.nx, WyE (OPS t f all) at' (sub g h) kx (some (.v (.int (tot + (L.map fun o => cnt t (fun p => optL t (f p)) g rest (stepH t h p o)).sum)))) y5 y6 y7 y8, cS (s.set kx (.dN kvs'))) ∧ MM kvs' ∧ kvs'.length ≤ kvs.length + L.length * T
  | [], tot, s, kvs, x5, x6, x7, x8, hk, M, _ => ⟨kvs, x5, x6, x7, x8, by rw [set_same hk]; simp [forG], M, by simp⟩
  | o :: L, tot, s, kvs, x5, x6, x7, x8, hk, M, hz => by
    have hz' : kvs.length + (T + L.length * T) ≤ 10000000 := by
      rw [List.length_cons, Nat.add_mul, Nat.one_mul] at hz
      omega
    let O := OPS t f all
    let nd := sub g h
    let x := (sh2 t o).1
    let y := (sh2 t o).2
    let G4 (w : Int) (r : Option R) : Ev := WyE O at' nd kx (some (.v (.int w))) (some (.v (o.d p.1 p.2))) (some (.v (.int x))) (some (.v (.int y))) r
    have ndl : nd.length = g.length := sub_len hh
    obtain ⟨kvs1, e1, M1, l1⟩ := ih (stepH t h p o) s kvs (by rw [stepH_len]; exact hh) hk M (by omega)
    have hk1 : (s.set kx (.dN kvs1))[kx]? = some (.dN kvs1) := List.getElem?_set_self (List.getElem?_eq_some_iff.mp hk).1
    obtain ⟨kvs2, y5, y6, y7, y8, e2, M2, l2⟩ := ways_loop hp p0 p1 p2 hg hh ih L (tot + cnt t (fun p => optL t (f p)) g rest (stepH t h p o)) (s.set kx (.dN kvs1)) kvs1 (some (.v (o.d p.1 p.2))) (some (.v (.int x))) (some (.v (.int y))) (some (.v (.tuple ((sub g (stepH t h p o)).map PyData.int)))) hk1 M1 (by omega)
    refine ⟨kvs2, y5, y6, y7, y8, ?_, M2, by rw [List.length_cons, Nat.add_mul, Nat.one_mul]; omega⟩
    have nx : sub g (stepH t h p o) = addI (addI nd p.1 (0 - x)) p.2 (0 - y) := (sub_step hh (x := x) (y := y) p0 (by omega)).symm
    have s1 : sSet (Y := ClY K sa ns tb) 8 (gFn 5 m__law_less (gK (gEsc (gV 0)) (gK (gEsc (gV 1)) (gK (gEsc (gV 2)) (gK (gEsc (gV 6)) (gK (gEsc (gV 7)) gN)))))) (G4 tot x8) (cS s) = some (.nx, G4 tot (some (.v (.tuple ((sub g (stepH t h p o)).map PyData.int)))), cS s) := by
      have c := fn_v (Y := ClY K sa ns tb) (n := 5) (m := m__law_less) (Γ := G4 tot x8) (s := cS s) (Γ' := G4 tot x8) (s' := cS s) (ga := gK (gEsc (gV 0)) (gK (gEsc (gV 1)) (gK (gEsc (gV 2)) (gK (gEsc (gV 6)) (gK (gEsc (gV 7)) gN))))) (rs := [.v O, .v (.int (at' : Nat)), .v (.tuple (nd.map PyData.int)), .v (.int x), .v (.int y)]) rfl rfl
        (less_ok (t := t) (f := f) (ps := all) (k := at') hp (nd := nd) p0 p1 (by rw [ndl]; exact p2) (by rw [ndl]; exact hg) x y (cS s))
      rw [nx]
      exact set_v (i := 8) c
    have s2 : sSet (Y := ClY K sa ns tb) 4 (gBin fAdd (gV 4) (gFn 4 rec (gK (gEsc (gV 0)) (gK (gEsc (gBin fAdd (gV 1) (gC (.int 1)))) (gK (gEsc (gV 8)) (gK (gEsc (gV 3)) gN)))))) (G4 tot (some (.v (.tuple ((sub g (stepH t h p o)).map PyData.int))))) (cS s)
        = some (.nx, G4 (tot + cnt t (fun p => optL t (f p)) g rest (stepH t h p o)) (some (.v (.tuple ((sub g (stepH t h p o)).map PyData.int)))), cS (s.set kx (.dN kvs1))) := by
      let G : Ev := G4 tot (some (.v (.tuple ((sub g (stepH t h p o)).map PyData.int))))
      have c := fn_v (Y := ClY K sa ns tb) (n := 4) (m := rec) (Γ := G) (s := cS s) (Γ' := G) (s' := cS s) (ga := gK (gEsc (gV 0)) (gK (gEsc (gBin fAdd (gV 1) (gC (.int 1)))) (gK (gEsc (gV 8)) (gK (gEsc (gV 3)) gN)))) (rs := [.v O, .v (.int ((at' + 1 : Nat) : Int)), .v (.tuple ((sub g (stepH t h p o)).map PyData.int)), .h kx]) rfl rfl e1
      have c2 := bin_of (f := fAdd) (ga := gV 4) (ra := .v (.int tot)) (Γ := G) (Γ1 := G) (s := cS s) (z := .nw (.int (tot + cnt t (fun p => optL t (f p)) g rest (stepH t h p o)))) rfl c rfl rfl rfl
      exact set_v (i := 4) c2
    rw [List.map_cons, forG_cons (Γ1 := G4 tot x8) rfl]
    have body : l__law_ways_1 rec (G4 tot x8) (cS s) = some (.nx, G4 (tot + cnt t (fun p => optL t (f p)) g rest (stepH t h p o)) (some (.v (.tuple ((sub g (stepH t h p o)).map PyData.int)))), cS (s.set kx (.dN kvs1))) := by
      unfold l__law_ways_1
      exact nx_seq s1 s2
    rw [body]
    show forG _ _ (L.map (trip t p)) _ _ = _
    rw [e2, List.set_set, List.map_cons, List.sum_cons, Int.add_assoc]
theorem min_case {nd : List Int} (h : nd ≠ []) (hm : minI nd < 0) : ∃ q, q < nd.length ∧ nd.getD q 0 < 0 := by
  obtain ⟨m1, _⟩ := minI_ok h
  obtain ⟨q, hq, e⟩ := List.mem_iff_getElem.mp m1
  refine ⟨q, hq, ?_⟩
  rw [List.getD_eq_getElem?_getD, List.getElem?_eq_getElem hq]
  show nd[q] < 0
  rw [e]; exact hm
theorem max_case {g h : List Int} (hh : h.length = g.length) (hne : sub g h ≠ []) (hm : ¬ minI (sub g h) < 0) : (maxI (sub g h) = 0) ↔ h = g := by
  obtain ⟨_, m2⟩ := minI_ok hne
  obtain ⟨x1, x2⟩ := maxI_ok hne
  have sl := sub_len hh
  have at' : ∀ q, q < g.length → g.getD q 0 - h.getD q 0 ∈ sub g h := fun q hq => by
    rw [← sub_get hh hq, List.getD_eq_getElem?_getD, List.getElem?_eq_getElem (by rw [sl]; exact hq)]
    exact List.getElem_mem _
  constructor
  · intro e
    refine ext_get hh fun q hq => ?_
    have a := m2 _ (at' q (by omega))
    have b := x2 _ (at' q (by omega))
    omega
  · rintro rfl
    obtain ⟨q, hq, e⟩ := List.mem_iff_getElem.mp x1
    have : (sub h h).getD q 0 = maxI (sub h h) := by rw [List.getD_eq_getElem?_getD, List.getElem?_eq_getElem hq]; exact e
    rw [sub_get rfl (by rw [← sl]; exact hq)] at this
    omega
theorem ways_ok {t : Bool} {f : Int × Int → Option O3} {all : List (Int × Int)} {g : List Int} (hall : ∀ p ∈ all, 0 ≤ p.1 ∧ p.1 < p.2 ∧ p.2 < (g.length : Nat)) (hg0 : 0 < g.length) (hg : g.length ≤ 1000) (hf : ∀ p, ∀ o ∈ optL t (f p), t = false → o ≠ .t) (kx : Nat) :
    ∀ (rest pre : List (Int × Int)) (e : all = pre ++ rest) (n : Nat) (hn : rest.length < n) (h : List Int) (hh : h.length = g.length) (s : List Cell) (kvs : List (NKey × Int)) (hk : s[kx]? = some (.dN kvs)) (M : Memo t (fun p => optL t (f p)) all g (sub g) kvs) (hz : kvs.length + nodes (fun p => optL t (f p)) rest ≤ 10000000),
    ∃ kvs', r__law_ways (K := K) (sa := sa) (ns := ns) (tb := tb) n [.v (OPS t f all), .v (.int ((pre.length : Nat) : Int)), .v (.tuple ((sub g h).map PyData.int)), .h kx] (cS s) = some (.ok (.v (.int (cnt t (fun p => optL t (f p)) g rest h))), cS (s.set kx (.dN kvs'))) ∧ Memo t (fun p => optL t (f p)) all g (sub g) kvs' ∧ kvs'.length ≤ kvs.length + nodes (fun p => optL t (f p)) rest := by
  intro rest
  induction rest with
  | nil =>
    intro pre e n hn h hh s kvs hk M hz
    obtain ⟨m, rfl⟩ : ∃ m, n = m + 1 := ⟨n - 1, by simp at hn; omega⟩
    have hne : sub g h ≠ [] := fun z => by have := sub_len hh; rw [z] at this; simp at this; omega
    have e' : all = pre := by simpa using e
    refine ⟨kvs, ?_, M, by omega⟩
    rw [set_same hk]
    let G : Ev := WyE (OPS t f all) pre.length (sub g h) kx none none none none none
    show mOf 9 (b__law_ways (r__law_ways m)) _ _ = _
    refine fin_of ?_
    show fin (b__law_ways (r__law_ways m) G (cS s)) = _
    have t1 : gTst (Y := ClY K sa ns tb) (gBin fLt (gCall fMinT (gK (gV 2) gN)) (gC (.int 0))) G (cS s) = some (.ok (decide (minI (sub g h) < 0)), G, cS s) := by
      have c : gCall (Y := ClY K sa ns tb) fMinT (gK (gV 2) gN) G (cS s) = some (.ok (.v (.int (minI (sub g h)))), G, cS s) := call_ok (z := .nw (.int (minI (sub g h)))) (gk_ok (ga := gV 2) (r := .v (.tuple ((sub g h).map PyData.int))) rfl rfl) (ds := [.tuple ((sub g h).map PyData.int)]) rfl (minT_eq hne)
      exact tst_of (bin_of (f := fLt) (rb := .v (.int 0)) (z := .nw (.bool _)) c rfl rfl rfl rfl)
    unfold b__law_ways
    by_cases hm : minI (sub g h) < 0
    · rw [decide_eq_true hm] at t1
      obtain ⟨q, hq, hq2⟩ := min_case hne hm
      rw [sub_len hh] at hq
      rw [sub_get hh hq] at hq2
      rw [cnt_over hf (q := q) [] h (fun p hp => nomatch hp) (by omega) (by omega)]
      rw [seq_rt ((if_yes t1).trans (ret_v (d := .int 0) rfl))]
      rfl
    · rw [decide_eq_false hm] at t1
      rw [seq_nx (g := sIf _ _ _) ((if_no t1).trans rfl)]
      have t2 : gTst (Y := ClY K sa ns tb) (gBin fEq (gV 1) (gCall fLen (gK (gV 0) gN))) G (cS s) = some (.ok true, G, cS s) := by
        have c : gCall (Y := ClY K sa ns tb) fLen (gK (gV 0) gN) G (cS s) = some (.ok (.v (.int ((all.length : Nat) : Int))), G, cS s) := call_ok (z := .nw (.int ((all.length : Nat) : Int))) (gk_ok (ga := gV 0) (r := .v (OPS t f all)) rfl rfl) (ds := [OPS t f all]) rfl (by
          show some (Rz.nw (.int (((all.map fun p => optD t p (f p)).length : Nat) : Int))) = _
          rw [List.length_map])
        refine tst_of (bin_of (f := fEq) (ga := gV 1) (ra := .v (.int ((pre.length : Nat) : Int))) (Γ1 := G) (s1 := cS s) (z := .nw (.bool true)) rfl c rfl rfl ?_)
        rw [eq_int, decide_eq_true (by rw [e'])]
      have c : gCall (Y := ClY K sa ns tb) fMaxT (gK (gV 2) gN) G (cS s) = some (.ok (.v (.int (maxI (sub g h)))), G, cS s) := call_ok (z := .nw (.int (maxI (sub g h)))) (gk_ok (ga := gV 2) (r := .v (.tuple ((sub g h).map PyData.int))) rfl rfl) (ds := [.tuple ((sub g h).map PyData.int)]) rfl (maxT_eq hne)
      have c2 := bin_of (f := fEq) (gb := gC (.int 0)) (rb := .v (.int 0)) (Γ2 := G) (s2 := cS s) (z := .nw (.bool (decide (maxI (sub g h) = 0)))) c rfl rfl rfl rfl
      have c3 : gCall (Y := ClY K sa ns tb) fInt (gK (gBin fEq (gCall fMaxT (gK (gV 2) gN)) (gC (.int 0))) gN) G (cS s) = some (.ok (.v (.int (if decide (maxI (sub g h) = 0) = true then 1 else 0))), G, cS s) := call_ok (z := .nw (.int (if decide (maxI (sub g h) = 0) = true then 1 else 0))) (gk_ok c2 rfl) (ds := [.bool (decide (maxI (sub g h) = 0))]) rfl rfl
      rw [seq_rt ((if_yes t2).trans (ret_v c3))]
      show some (Oc.ok (R.v (.int (if decide (maxI (sub g h) = 0) = true then 1 else 0))), cS s) = _
      have := max_case hh hne hm
      unfold cnt
      by_cases z : h = g
      · rw [if_pos (decide_eq_true (this.mpr z)), if_pos z]
      · rw [if_neg (fun q => z (this.mp (of_decide_eq_true q))), if_neg z]
  | cons p rest ih =>
    intro pre e n hn h hh s kvs hk M hz
    obtain ⟨m, rfl⟩ : ∃ m, n = m + 1 := ⟨n - 1, by simp at hn; omega⟩
    have hne : sub g h ≠ [] := fun z => by have := sub_len hh; rw [z] at this; simp at this; omega
    have e' : all = (pre ++ [p]) ++ rest := by rw [e]; simp
    have hp : all[pre.length]? = some p := by rw [e]; simp
    obtain ⟨p0, p1, p2⟩ := hall p (by rw [e]; simp)
    have hz' : kvs.length + (1 + (optL t (f p)).length * nodes (fun p => optL t (f p)) rest) ≤ 10000000 := hz
    let G : Ev := WyE (OPS t f all) pre.length (sub g h) kx none none none none none
    have t1 : gTst (Y := ClY K sa ns tb) (gBin fLt (gCall fMinT (gK (gV 2) gN)) (gC (.int 0))) G (cS s) = some (.ok (decide (minI (sub g h) < 0)), G, cS s) := by
      have c : gCall (Y := ClY K sa ns tb) fMinT (gK (gV 2) gN) G (cS s) = some (.ok (.v (.int (minI (sub g h)))), G, cS s) := call_ok (z := .nw (.int (minI (sub g h)))) (gk_ok (ga := gV 2) (r := .v (.tuple ((sub g h).map PyData.int))) rfl rfl) (ds := [.tuple ((sub g h).map PyData.int)]) rfl (minT_eq hne)
      exact tst_of (bin_of (f := fLt) (rb := .v (.int 0)) (z := .nw (.bool _)) c rfl rfl rfl rfl)
    by_cases hm : minI (sub g h) < 0
    · refine ⟨kvs, ?_, M, by omega⟩
      rw [set_same hk]
      show mOf 9 (b__law_ways (r__law_ways m)) _ _ = _
      refine fin_of ?_
      show fin (b__law_ways (r__law_ways m) G (cS s)) = _
      unfold b__law_ways
      rw [decide_eq_true hm] at t1
      obtain ⟨q, hq, hq2⟩ := min_case hne hm
      rw [sub_len hh] at hq
      rw [sub_get hh hq] at hq2
      rw [cnt_over hf (q := q) (p :: rest) h (fun r hr => by have := hall r (by rw [e]; exact List.mem_append_right _ hr); omega) (by omega) (by omega)]
      rw [seq_rt ((if_yes t1).trans (ret_v (d := .int 0) rfl))]
      rfl
    · rw [decide_eq_false hm] at t1
      have t2 : gTst (Y := ClY K sa ns tb) (gBin fEq (gV 1) (gCall fLen (gK (gV 0) gN))) G (cS s) = some (.ok false, G, cS s) := by
        have c : gCall (Y := ClY K sa ns tb) fLen (gK (gV 0) gN) G (cS s) = some (.ok (.v (.int ((all.length : Nat) : Int))), G, cS s) := call_ok (z := .nw (.int ((all.length : Nat) : Int))) (gk_ok (ga := gV 0) (r := .v (OPS t f all)) rfl rfl) (ds := [OPS t f all]) rfl (by
          show some (Rz.nw (.int (((all.map fun p => optD t p (f p)).length : Nat) : Int))) = _
          rw [List.length_map])
        refine tst_of (bin_of (f := fEq) (ga := gV 1) (ra := .v (.int ((pre.length : Nat) : Int))) (Γ1 := G) (s1 := cS s) (z := .nw (.bool false)) rfl c rfl rfl ?_)
        rw [eq_int, decide_eq_false (by rw [e]; simp; omega)]
      have t3 := has_eq (K := K) (sa := sa) (ns := ns) (tb := tb) (O := OPS t f all) (at' := pre.length) (nd := sub g h) (kx := kx) (x4 := none) (x5 := none) (x6 := none) (x7 := none) (x8 := none) hk
      cases hv : nval kvs ((pre.length : Nat), sub g h) with
      | some v =>
        refine ⟨kvs, ?_, M, by omega⟩
        rw [set_same hk]
        show mOf 9 (b__law_ways (r__law_ways m)) _ _ = _
        refine fin_of ?_
        show fin (b__law_ways (r__law_ways m) G (cS s)) = _
        unfold b__law_ways
        rw [hv] at t3
        rw [seq_nx (g := sIf _ _ _) ((if_no t1).trans rfl), seq_nx (g := sIf _ _ _) ((if_no t2).trans rfl), seq_nx (g := sIf _ _ _) ((if_no t3).trans rfl), ret_v (get_eq hk hv), M _ v hv pre (p :: rest) h e hh rfl]
        rfl
      | none =>
        obtain ⟨kvs1, y5, y6, y7, y8, e1, M1, l1⟩ := ways_loop (K := K) (sa := sa) (ns := ns) (tb := tb) (t := t) (f := f) (rest := rest) (kx := kx) (h := h) hp p0 p1 p2 hg hh (rec := r__law_ways m) (MM := Memo t (fun p => optL t (f p)) all g (sub g)) (T := nodes (fun p => optL t (f p)) rest)
          (fun h' s kvs a b c d => by
            have := ih (pre ++ [p]) e' m (by simp at hn; omega) h' a s kvs b c d
            rw [List.length_append] at this
            exact this) (optL t (f p)) 0 s kvs none none none none hk M (by omega)
        have hk1 : (s.set kx (.dN kvs1))[kx]? = some (.dN kvs1) := List.getElem?_set_self (List.getElem?_eq_some_iff.mp hk).1
        let C := cnt t (fun p => optL t (f p)) g (p :: rest) h
        have eC : (0 : Int) + ((optL t (f p)).map fun o => cnt t (fun p => optL t (f p)) g rest (stepH t h p o)).sum = C := by rw [Int.zero_add]; rfl
        rw [eC] at e1
        have pl := nput_len kvs1 ((pre.length : Nat), sub g h) C
        refine ⟨nput kvs1 ((pre.length : Nat), sub g h) C, ?_, M1.put (fun a b ha hb z => sub_inj ha hb z) e hh, by show _ ≤ kvs.length + (1 + (optL t (f p)).length * nodes (fun p => optL t (f p)) rest); omega⟩
        show mOf 9 (b__law_ways (r__law_ways m)) _ _ = _
        refine fin_of ?_
        show fin (b__law_ways (r__law_ways m) G (cS s)) = _
        unfold b__law_ways
        rw [hv] at t3
        let G0 : Ev := WyE (OPS t f all) pre.length (sub g h) kx (some (.v (.int 0))) none none none none
        let G1 : Ev := WyE (OPS t f all) pre.length (sub g h) kx (some (.v (.int C))) y5 y6 y7 y8
        have s1 : sSet (Y := ClY K sa ns tb) 4 (gC (.int 0)) G (cS s) = some (.nx, G0, cS s) := rfl
        have it : gItL (Y := ClY K sa ns tb) (gBin fIx (gBin fIx (gV 0) (gV 1)) (gC (.int 2))) G0 (cS s) = some (.ok ((optL t (f p)).map (trip t p)), G0, cS s) := by
          have c1 : gBin (Y := ClY K sa ns tb) fIx (gV 0) (gV 1) G0 (cS s) = some (.ok (.v (optD t p (f p))), G0, cS s) := bin_of (ra := .v (OPS t f all)) (rb := .v (.int (pre.length : Nat))) (d := OPS t f all) (e := .int (pre.length : Nat)) (z := .old (optD t p (f p))) rfl rfl rfl rfl (by
            show (match atI (all.map fun p => optD t p (f p)) ((pre.length : Nat) : Int) with | some d => some (Rz.old d) | none => none) = _
            rw [ops_at hp])
          have c2 : gBin (Y := ClY K sa ns tb) fIx (gBin fIx (gV 0) (gV 1)) (gC (.int 2)) G0 (cS s) = some (.ok (.v (.list ((optL t (f p)).map (trip t p)))), G0, cS s) := bin_of (f := fIx) (rb := .v (.int 2)) (z := .old (.list ((optL t (f p)).map (trip t p)))) c1 rfl rfl rfl rfl
          exact (bd_ok (esc_v c2)).trans rfl
        have s2 : sFor (Y := ClY K sa ns tb) (.t (.cons (.n 5) (.cons (.n 6) (.cons (.n 7) .nil)))) (gItL (gBin fIx (gBin fIx (gV 0) (gV 1)) (gC (.int 2)))) (l__law_ways_1 (r__law_ways m)) G0 (cS s) = some (.nx, G1, cS (s.set kx (.dN kvs1))) := (for_run it).trans e1
        have s3 := put_eq (K := K) (sa := sa) (ns := ns) (tb := tb) (O := OPS t f all) (at' := pre.length) (nd := sub g h) (v := C) (x5 := y5) (x6 := y6) (x7 := y7) (x8 := y8) hk1 (by omega)
        rw [List.set_set] at s3
        have body := nx_seq s1 (nx_seq s2 s3)
        rw [seq_nx (g := sIf _ _ _) ((if_no t1).trans rfl), seq_nx (g := sIf _ _ _) ((if_no t2).trans rfl), seq_nx (g := sIf _ _ _) ((if_yes t3).trans body)]
        have hk2 : (s.set kx (.dN (nput kvs1 ((pre.length : Nat), sub g h) C)))[kx]? = some (.dN (nput kvs1 ((pre.length : Nat), sub g h) C)) := List.getElem?_set_self (List.getElem?_eq_some_iff.mp hk).1
        rw [ret_v (get_eq hk2 (by rw [nval_put, if_pos rfl]))]
        rfl
end
end FX.Pg
set_option Elab.async false
set_option linter.all false
set_option maxRecDepth 100000
set_option maxHeartbeats 1000000
namespace FX.Pg
open PySem PySem.Spec L2 FX
section
variable {K : PySem.W.Frag} {sa : Addr} {ns : List Int} {tb : List (Addr × Str)}
theorem sub_zero (g : List Int) : sub g (List.replicate g.length 0) = g := by
  refine ext_get (by rw [sub_len (by simp)]) fun q hq => ?_
  rw [sub_len (by simp)] at hq
  rw [sub_get (by simp) hq, List.getD_eq_getElem?_getD (l := List.replicate _ _), List.getElem?_replicate]
  simp [hq]
theorem optL_ok {l : Lg} (hl : l.Ok) : ∀ p, ∀ o ∈ optL l.t (lookE l.es p), l.t = false → o ≠ .t := by
  intro p o ho
  cases e : lookE l.es p with
  | none => rw [e] at ho; exact outs_ok.mp ho
  | some w =>
    rw [e] at ho
    have : o = w := List.mem_singleton.mp ho
    subst this
    exact es_outc hl ((lookE_iff hl.es_nd).mp e)
theorem optL_len (t : Bool) (x : Option O3) : (optL t x).length ≤ 3 := by
  cases x with
  | none => exact (outs_len t).2
  | some o => show 1 ≤ 3; decide
theorem law_many_ok {l : Lg} (hl : l.Ok) {g : List Int} (hg : g.length = l.n) (s : List Cell) : ∃ c : Cell,
    m__law_many (K := K) (sa := sa) (ns := ns) (tb := tb) [.v l.d, .v (.list (g.map PyData.int))] (cS s) = some (.ok (.v (.int (cnt l.t (fun _ => outs l.t) g l.left l.pts))), cS (s ++ [c])) := by
  have h2 := hl.h2
  have h6 := hl.h6
  have pl : (pairsI l.n).length ≤ 15 := pairs_len h2 h6
  let f := lookE l.es
  have hk : (s ++ [Cell.dN []])[s.length]? = some (.dN []) := by simp
  have nd := nodes_le (f := fun p => optL l.t (f p)) (fun p => optL_len _ _) (pairsI l.n)
  have p3 : 3 ^ (pairsI l.n).length ≤ 3 ^ 15 := Nat.pow_le_pow_right (by decide) pl
  have e3 : (3 : Nat) ^ 15 = 14348907 := by decide
  obtain ⟨kvs', e1, _, _⟩ := ways_ok (K := K) (sa := sa) (ns := ns) (tb := tb) (t := l.t) (f := f) (all := pairsI l.n) (g := g) (fun p hp => by
      have := pairs_mem h2 h6 p hp
      rw [hg]; exact this) (by omega) (by omega) (optL_ok hl) s.length (pairsI l.n) [] rfl 17 (by omega) (List.replicate g.length 0) (by simp) (s ++ [.dN []]) [] hk (fun k v hv => by simp [nval] at hv) (by simp; omega)
  refine ⟨.dN kvs', ?_⟩
  rw [q__law_many]
  refine fin_of ?_
  let G : Ev := [some (.v l.d), some (.v (.list (g.map PyData.int)))]
  show fin (b__law_many G (cS s)) = _
  have o1 : gFn (Y := ClY K sa ns tb) 1 m__law_options (gK (gEsc (gV 0)) gN) G (cS s) = some (.ok (.o (.list ((pairsI l.n).map fun p => optD l.t p (lookE l.es p)))), G, cS s) := fn_o (rs := [.v l.d]) rfl rfl (options_eq hl (cS s))
  have o2 : gEsc (Y := ClY K sa ns tb) (gFn 1 m__law_options (gK (gEsc (gV 0)) gN)) G (cS s) = some (.ok (.v (OPS l.t f (pairsI l.n))), G, cS s) := (bd_ok o1).trans rfl
  have o3 : gEsc (Y := ClY K sa ns tb) (gCall fTup (gK (gV 1) gN)) G (cS s) = some (.ok (.v (.tuple (g.map PyData.int))), G, cS s) := esc_v (call_ok (z := .nw (.tuple (g.map PyData.int))) (gk_ok (ga := gV 1) (r := .v (.list (g.map PyData.int))) rfl rfl) (ds := [.list (g.map PyData.int)]) rfl rfl)
  have o4 : gEsc (Y := ClY K sa ns tb) gNNew G (cS s) = some (.ok (.h s.length), G, cS (s ++ [.dN []])) := rfl
  have a := gk_ok o2 (gk_ok (ga := gEsc (gC (.int 0))) (r := .v (.int 0)) (s1 := cS s) (Γ1 := G) rfl (gk_ok o3 (gk_ok (gr := gN) (rs := []) o4 rfl)))
  have c := fn_v (n := 4) (m := m__law_ways) a rfl (by
    rw [q__law_ways]
    rw [sub_zero] at e1
    exact e1)
  unfold b__law_many
  rw [ret_v c, hg, count_same hl g]
  show some (Oc.ok _, cS ((s ++ [Cell.dN []]).set s.length (.dN kvs'))) = _
  congr 3
  simp
end
end FX.Pg
set_option Elab.async false
set_option linter.all false
set_option maxRecDepth 100000
set_option maxHeartbeats 1000000
namespace FX.Pg
open PySem PySem.Spec L2 FX
def mv (n : Nat) (t : Bool) (ps : List (Int × Int)) : List Int := (List.range n).map fun q => mostQ t q ps
theorem mv_len (n : Nat) (t : Bool) (ps : List (Int × Int)) : (mv n t ps).length = n := by simp [mv]
theorem mv_get {n : Nat} {t : Bool} {ps : List (Int × Int)} {q : Nat} (hq : q < n) : (mv n t ps).getD q 0 = mostQ t q ps := by
  unfold mv
  rw [List.getD_eq_getElem?_getD, List.getElem?_map, List.getElem?_range hq]
  rfl
theorem mv_nil (n : Nat) (t : Bool) : mv n t [] = List.replicate n 0 := by
  refine ext_get (by simp [mv]) fun q hq => ?_
  rw [mv_len] at hq
  rw [mv_get hq, List.getD_eq_getElem?_getD, List.getElem?_replicate]
  simp [hq, mostQ]
def mvD (n : Nat) (t : Bool) (ps : List (Int × Int)) : D := .list ((mv n t ps).map PyData.int)
def tl {α : Type} : List α → List (List α)
  | [] => [[]]
  | p :: r => (p :: r) :: tl r
theorem tl_len {α : Type} : ∀ l : List α, (tl l).length = l.length + 1
  | [] => rfl
  | _ :: r => by simp [tl, tl_len r]
theorem tl_get {α : Type} : ∀ (pre rest : List α), (tl (pre ++ rest))[pre.length]? = some rest
  | [], [] => rfl
  | [], _ :: _ => rfl
  | p :: pre, rest => by
    show ((p :: (pre ++ rest)) :: tl (pre ++ rest))[pre.length + 1]? = _
    rw [List.getElem?_cons_succ]
    exact tl_get pre rest
section
variable {Y : Sys}
def MfE (l : Lg) (left : D) (suf : List (Int × Int)) (x5 x6 : Option R) : Ev := [some (.v l.d), some (.v left), some (.v (.int (wth l.t))), some (.v (mvD l.n l.t suf)), some (.o (.list (((tl suf).map (mvD l.n l.t)).reverse))), x5, x6]
def MfE2 (l : Lg) (left : D) (suf suf' : List (Int × Int)) (x5 x6 : Option R) : Ev := [some (.v l.d), some (.v left), some (.v (.int (wth l.t))), some (.o (.list ((mv l.n l.t suf').map PyData.int))), some (.o (.list (((tl suf).map (mvD l.n l.t)).reverse))), x5, x6]
theorem mf_body {l : Lg} (h6 : l.n ≤ 6) (left : D) (suf : List (Int × Int)) (hs : suf.length ≤ 1000) (p : Int × Int) (x6 : Option R) (s : Y.S) :
    ∃ y6, l__most_from_3 (Y := Y) (MfE l left suf (some (.v (prD p))) x6) s = some (.nx, MfE l left (p :: suf) (some (.v (prD p))) y6, s) := by
  let G : Ev := MfE l left suf (some (.v (prD p))) x6
  have rg : gRg1 (Y := Y) (gK (gBin fIx (gV 0) (gC (.int 1))) gN) G s = some (.ok ((List.range l.n).map fun q => PyData.int (q : Nat)), G, s) := by
    have a : gK (Y := Y) (gBin fIx (gV 0) (gC (.int 1))) gN G s = some (.ok [.v (.int (l.n : Nat))], G, s) := gk_ok (bin_of (f := fIx) (ga := gV 0) (gb := gC (.int 1)) (ra := .v l.d) (rb := .v (.int 1)) (d := l.d) (e := .int 1) (z := .old (.int (l.n : Nat))) rfl rfl rfl rfl rfl) rfl
    refine (bd_ok a).trans ?_
    show (if bigI (l.n : Nat) = true then some (Oc.ok (rangeD 0 ((l.n : Nat) : Int).toNat), G, s) else none) = _
    rw [if_pos (bigI_mk (by omega))]
    show some (Oc.ok ((List.range l.n).map fun i => PyData.int (0 + (i : Nat))), G, s) = _
    congr 3
    exact List.map_congr_left fun q _ => by rw [Int.zero_add]
  have c := gComp_each (Y := Y) (T := .n 6) (own := [6]) (ge := e__most_from_2) (fun q : Nat => PyData.int (q : Nat)) (fun q : Nat => PyData.int (mostQ l.t q (p :: suf))) rg (by simp; omega) fun q hq => by
    have hq' : q < l.n := List.mem_range.mp hq
    let Gq : Ev := MfE l left suf (some (.v (prD p))) (some (.v (.int (q : Nat))))
    refine ⟨Gq, rfl, Gq, ?_, rfl⟩
    have ix : gBin (Y := Y) fIx (gV 3) (gV 6) Gq s = some (.ok (.v (.int (mostQ l.t q suf))), Gq, s) := bin_of (f := fIx) (ra := .v (mvD l.n l.t suf)) (rb := .v (.int (q : Nat))) (d := mvD l.n l.t suf) (e := .int (q : Nat)) (z := .old (.int (mostQ l.t q suf))) rfl rfl rfl rfl (by
      show (match atI ((mv l.n l.t suf).map PyData.int) ((q : Nat) : Int) with | some d => some (Rz.old d) | none => none) = _
      rw [at_in (by omega) (by rw [mv_len]; omega)]
      show some (Rz.old (.int ((mv l.n l.t suf).getD q 0))) = _
      rw [mv_get hq'])
    have ts : gTst (Y := Y) (gBin fIn2 (gV 6) (gV 5)) Gq s = some (.ok (decide (p.1 = (q : Int)) || decide (p.2 = (q : Int))), Gq, s) := tst_of (bin_of (ra := .v (.int (q : Nat))) (rb := .v (prD p)) (d := .int (q : Nat)) (e := prD p) (z := .nw (.bool _)) rfl rfl rfl rfl (in_pr _ p))
    have md : mostQ l.t q (p :: suf) = (if p.1 = (q : Int) ∨ p.2 = (q : Int) then wth l.t else 0) + mostQ l.t q suf := rfl
    unfold e__most_from_2
    by_cases z : p.1 = (q : Int) ∨ p.2 = (q : Int)
    · have : (decide (p.1 = (q : Int)) || decide (p.2 = (q : Int))) = true := by simpa using z
      rw [this] at ts
      rw [md, if_pos z, Int.add_comm]
      have c2 := bin_of (f := fAdd) (gb := gV 2) (rb := .v (.int (wth l.t))) (Γ2 := Gq) (s2 := s) (z := .nw (.int (mostQ l.t q suf + wth l.t))) ix rfl rfl rfl rfl
      exact esc_v ((bd_ok ts).trans c2)
    · have : (decide (p.1 = (q : Int)) || decide (p.2 = (q : Int))) = false := by simpa using z
      rw [this] at ts
      rw [md, if_neg z, Int.zero_add]
      exact esc_v ((bd_ok ts).trans ix)
  have el : (List.range l.n).map (fun q : Nat => PyData.int (mostQ l.t q (p :: suf))) = (mv l.n l.t (p :: suf)).map PyData.int := by simp [mv, List.map_map]
  rw [el] at c
  obtain ⟨y6, hy⟩ : ∃ y6, backE G (wipeE G [6]) [6] = MfE l left suf (some (.v (prD p))) y6 := ⟨_, rfl⟩
  rw [hy] at c
  have s1 : sSet (Y := Y) 3 (gComp (.n 6) [6] (gRg1 (gK (gBin fIx (gV 0) (gC (.int 1))) gN)) gYes e__most_from_2) G s = some (.nx, MfE2 l left suf (p :: suf) (some (.v (prD p))) y6, s) := (bdS_ok c).trans rfl
  let G2 : Ev := MfE2 l left suf (p :: suf) (some (.v (prD p))) y6
  let G3 : Ev := [some (.v l.d), some (.v left), some (.v (.int (wth l.t))), some (.v (mvD l.n l.t (p :: suf))), some (.o (.list (((tl suf).map (mvD l.n l.t)).reverse))), some (.v (prD p)), y6]
  have s2 : sDrop (Y := Y) (gApp 4 (gV 3)) G2 s = some (.nx, MfE l left (p :: suf) (some (.v (prD p))) y6, s) := by
    have es : gEsc (Y := Y) (gV 3) G2 s = some (.ok (.v (mvD l.n l.t (p :: suf))), G3, s) := rfl
    have hz : sizeOk (((tl suf).map (mvD l.n l.t)).reverse).length = true := by
      simp [sizeOk, tl_len]
      omega
    have ap : gApp (Y := Y) 4 (gV 3) G2 s = some (.ok (.v .none), MfE l left (p :: suf) (some (.v (prD p))) y6, s) := by
      have h4 : G2[4]? = some (some (.o (.list (((tl suf).map (mvD l.n l.t)).reverse)))) := rfl
      have h5 : G3[4]? = some (some (.o (.list (((tl suf).map (mvD l.n l.t)).reverse)))) := rfl
      unfold gApp
      simp only [h4]
      rw [bd_ok es]
      simp only [h5, hz, if_true]
      show some (Oc.ok _, G3.set 4 _, s) = some (Oc.ok _, MfE l left (p :: suf) (some (.v (prD p))) y6, s)
      unfold MfE
      rw [show ((tl (p :: suf)).map (mvD l.n l.t)).reverse = ((tl suf).map (mvD l.n l.t)).reverse ++ [mvD l.n l.t (p :: suf)] from by simp [tl]]
      rfl
    unfold sDrop
    rw [bdS_ok ap]
  exact ⟨y6, by unfold l__most_from_3; exact nx_seq s1 s2⟩
theorem mf_loop {l : Lg} (h6 : l.n ≤ 6) (left : D) (s : Y.S) : ∀ (ds suf : List (Int × Int)) (x5 x6 : Option R), ds.length + suf.length ≤ 1000 →
    ∃ y5 y6, forG (.n 5) (l__most_from_3 (Y := Y)) (ds.map prD) (MfE l left suf x5 x6) s = some (.nx, MfE l left (ds.reverse ++ suf) y5 y6, s)
  | [], suf, x5, x6, _ => ⟨x5, x6, rfl⟩
  | p :: ds, suf, x5, x6, hz => by
    simp only [List.length_cons] at hz
    obtain ⟨y6, e1⟩ := mf_body (Y := Y) h6 left suf (by omega) p x6 s
    obtain ⟨z5, z6, e2⟩ := mf_loop h6 left s ds (p :: suf) (some (.v (prD p))) y6 (by simp; omega)
    refine ⟨z5, z6, ?_⟩
    rw [List.map_cons, forG_cons (Γ1 := MfE l left suf (some (.v (prD p))) x6) rfl, e1]
    show forG _ _ (ds.map prD) _ _ = _
    rw [e2, List.reverse_cons, List.append_assoc]
    rfl
theorem most_ok {l : Lg} (h6 : l.n ≤ 6) {ps : List (Int × Int)} (hp : ps.length ≤ 900) (s : Y.S) : m__most_from [.v l.d, .v (.list (ps.map prD))] s = some (.ok (.o (.list ((tl ps).map (mvD l.n l.t)))), s) := by
  rw [q__most_from]
  refine fin_of ?_
  let L : D := .list (ps.map prD)
  let G (x2 x3 x4 : Option R) : Ev := [some (.v l.d), some (.v L), x2, x3, x4, none, none]
  show fin (b__most_from (Y := Y) (G none none none) s) = _
  have s1 : sSet (Y := Y) 2 (gFn 1 m_worth_of (gK (gEsc (gV 0)) gN)) (G none none none) s = some (.nx, G (some (.v (.int (wth l.t)))) none none, s) := by
    have c := fn_v (Y := Y) (n := 1) (m := m_worth_of) (Γ := G none none none) (s := s) (Γ' := G none none none) (s' := s) (ga := gK (gEsc (gV 0)) gN) (rs := [.v l.d]) rfl rfl (worth_eq l s)
    exact set_v (i := 2) c
  have s2 : sSet (Y := Y) 3 (gBin fMul (gLst (gK (gEsc (gC (.int 0))) gN)) (gBin fIx (gV 0) (gC (.int 1)))) (G (some (.v (.int (wth l.t)))) none none) s = some (.nx, G (some (.v (.int (wth l.t)))) (some (.o (.list ((mv l.n l.t []).map PyData.int)))) none, s) := by
    have c := bin_of (Y := Y) (f := fMul) (ga := gLst (gK (gEsc (gC (.int 0))) gN)) (gb := gBin fIx (gV 0) (gC (.int 1))) (ra := .o (.list [.int 0])) (rb := .v (.int (l.n : Nat))) (Γ := G (some (.v (.int (wth l.t)))) none none) (Γ1 := G (some (.v (.int (wth l.t)))) none none) (Γ2 := G (some (.v (.int (wth l.t)))) none none) (s := s) (s1 := s) (s2 := s) (d := .list [.int 0]) (e := .int (l.n : Nat)) (z := .nw (.list ((mv l.n l.t []).map PyData.int))) rfl (bin_of (f := fIx) (ga := gV 0) (gb := gC (.int 1)) (ra := .v l.d) (rb := .v (.int 1)) (d := l.d) (e := .int 1) (z := .old (.int (l.n : Nat))) rfl rfl rfl rfl rfl) rfl rfl (by
      show (if (bigI ((l.n : Nat) : Int) && sizeOk ([PyData.int 0].length * ((l.n : Nat) : Int).toNat)) = true then some (Rz.nw (.list (List.replicate ((l.n : Nat) : Int).toNat [PyData.int 0]).flatten)) else none) = _
      have b1 : bigI ((l.n : Nat) : Int) = true := bigI_mk (by omega)
      have b2 : sizeOk ([PyData.int 0].length * ((l.n : Nat) : Int).toNat) = true := by simp [sizeOk]; omega
      rw [b1, b2, mv_nil]
      show some (Rz.nw (.list (List.replicate l.n [PyData.int 0]).flatten)) = _
      congr 3
      simp)
    exact (bdS_ok c).trans rfl
  have s3 : sSet (Y := Y) 4 (gLst (gK (gEsc (gV 3)) gN)) (G (some (.v (.int (wth l.t)))) (some (.o (.list ((mv l.n l.t []).map PyData.int)))) none) s = some (.nx, MfE l L [] none none, s) := rfl
  have it : gRvL (Y := Y) (gK (gEsc (gV 1)) gN) (MfE l L [] none none) s = some (.ok (ps.reverse.map prD), MfE l L [] none none, s) := by
    show some (Oc.ok (ps.map prD).reverse, MfE l L [] none none, s) = _
    rw [List.map_reverse]
  obtain ⟨y5, y6, e⟩ := mf_loop (Y := Y) h6 L s ps.reverse [] none none (by simp; omega)
  rw [List.reverse_reverse, List.append_nil] at e
  unfold b__most_from
  rw [seq_nx s1, seq_nx s2, seq_nx s3, seq_nx ((for_run it).trans e)]
  have r : gUn (Y := Y) fRev (gV 4) (MfE l L ps y5 y6) s = some (.ok (.o (.list ((tl ps).map (mvD l.n l.t)))), MfE l L ps y5 y6, s) := by
    refine (bd_ok (Y := Y) (a := .b 4) (Γ' := MfE l L ps y5 y6) (s' := s) rfl).trans ?_
    show some (Oc.ok (R.o (.list (((tl ps).map (mvD l.n l.t)).reverse.reverse))), MfE l L ps y5 y6, s) = _
    rw [List.reverse_reverse]
  show fin (sRet (gUn fRev (gV 4)) (MfE l L ps y5 y6) s) = _
  have : sRet (Y := Y) (gUn fRev (gV 4)) (MfE l L ps y5 y6) s = some (.rt (.o (.list ((tl ps).map (mvD l.n l.t)))), MfE l L ps y5 y6, s) := by
    unfold sRet
    exact (bdS_ok r).trans rfl
  rw [this]
  rfl
end
end FX.Pg
set_option Elab.async false
set_option linter.all false
set_option maxRecDepth 100000
set_option maxHeartbeats 1000000
namespace FX.Pg
open PySem PySem.Spec L2 FX
def WF (l : Lg) (g : List Int) (j : Nat) : List (Str × It) := [("kind", .d (.str (kindS l.t))), ("left", .d (.list (l.left.map prD))), ("had", .d (.tuple (l.pts.map PyData.int))), ("goal", .d (.tuple (g.map PyData.int))), ("most", .d (.list ((tl l.left).map (mvD l.n l.t)))), ("counted", .h j)]
theorem wf_kind (l : Lg) (g : List Int) (j : Nat) : List.lookup ("kind" : Str) (WF l g j) = some (.d (.str (kindS l.t))) := rfl
theorem wf_left (l : Lg) (g : List Int) (j : Nat) : List.lookup ("left" : Str) (WF l g j) = some (.d (.list (l.left.map prD))) := rfl
theorem wf_had (l : Lg) (g : List Int) (j : Nat) : List.lookup ("had" : Str) (WF l g j) = some (.d (.tuple (l.pts.map PyData.int))) := rfl
theorem wf_goal (l : Lg) (g : List Int) (j : Nat) : List.lookup ("goal" : Str) (WF l g j) = some (.d (.tuple (g.map PyData.int))) := rfl
theorem wf_most (l : Lg) (g : List Int) (j : Nat) : List.lookup ("most" : Str) (WF l g j) = some (.d (.list ((tl l.left).map (mvD l.n l.t)))) := rfl
theorem wf_counted (l : Lg) (g : List Int) (j : Nat) : List.lookup ("counted" : Str) (WF l g j) = some (.h j) := rfl
theorem wf_many (l : Lg) (g : List Int) (j : Nat) : List.lookup ("many" : Str) (WF l g j) = none := rfl
theorem wf_steps (l : Lg) (g : List Int) (j : Nat) : List.lookup ("steps" : Str) (WF l g j) = none := rfl
theorem wf_reach (l : Lg) (g : List Int) (j : Nat) : List.lookup ("_in_reach" : Str) (WF l g j) = none := rfl
theorem wf_inall (l : Lg) (g : List Int) (j : Nat) : List.lookup ("in_all" : Str) (WF l g j) = none := rfl
section
variable {K : PySem.W.Frag} {sa : Addr} {ns : List Int} {tb : List (Addr × Str)} {Γ Γ1 Γ2 : Ev} {s s1 s2 : List Cell}
theorem fld_d {c f : Str} {k : Nat} {fs : List (Str × It)} {d : D} {go : GE (ClY K sa ns tb)} (ho : go Γ (cS s) = some (.ok (.h k), Γ1, cS s1)) (hs : s1[k]? = some (.ins c fs)) (hf : fs.lookup f = some (.d d)) : gFld c f go Γ (cS s) = some (.ok (.v d), Γ1, cS s1) := by
  refine (bd_ok ho).trans ?_
  show (match s1[k]? with | some (.ins c' fs) => (if c' = c then (match fs.lookup f with | some (.d d) => some (Oc.ok (R.v d), Γ1, s1) | some (.h j) => some (.ok (.h j), Γ1, s1) | _ => none) else none) | _ => none) = _
  rw [hs]
  show (if c = c then (match fs.lookup f with | some (.d d) => some (Oc.ok (R.v d), Γ1, s1) | some (.h j) => some (.ok (.h j), Γ1, s1) | _ => none) else none) = _
  rw [if_pos rfl, hf]
  rfl
theorem fld_h {c f : Str} {k j : Nat} {fs : List (Str × It)} {go : GE (ClY K sa ns tb)} (ho : go Γ (cS s) = some (.ok (.h k), Γ1, cS s1)) (hs : s1[k]? = some (.ins c fs)) (hf : fs.lookup f = some (.h j)) : gFld c f go Γ (cS s) = some (.ok (.h j), Γ1, cS s1) := by
  refine (bd_ok ho).trans ?_
  show (match s1[k]? with | some (.ins c' fs) => (if c' = c then (match fs.lookup f with | some (.d d) => some (Oc.ok (R.v d), Γ1, s1) | some (.h j) => some (.ok (.h j), Γ1, s1) | _ => none) else none) | _ => none) = _
  rw [hs]
  show (if c = c then (match fs.lookup f with | some (.d d) => some (Oc.ok (R.v d), Γ1, s1) | some (.h j) => some (.ok (.h j), Γ1, s1) | _ => none) else none) = _
  rw [if_pos rfl, hf]
  rfl
theorem ins_ok {c m : Str} {k : Nat} {fs : List (Str × It)} {go : GE (ClY K sa ns tb)} (ho : go Γ (cS s) = some (.ok (.h k), Γ1, cS s1)) (hs : s1[k]? = some (.ins c fs)) (hf : fs.lookup m = none) : gIns c m go Γ (cS s) = some (.ok (.h k), Γ1, cS s1) := by
  refine (bd_ok ho).trans ?_
  show (match s1[k]? with | some (.ins c' fs) => (if c' = c then (match fs.lookup m with | none => some (Oc.ok (R.h k), Γ1, s1) | some _ => none) else none) | _ => none) = _
  rw [hs]
  show (if c = c then (match fs.lookup m with | none => some (Oc.ok (R.h k), Γ1, s1) | some _ => none) else none) = _
  rw [if_pos rfl, hf]
  rfl
theorem meth_v {c mn : Str} {n k : Nat} {fs : List (Str × It)} {m : Fm (ClY K sa ns tb)} {go : GE (ClY K sa ns tb)} {gr : GA (ClY K sa ns tb)} {rs : List R} {d : D} {s3 : List Cell} (ho : go Γ (cS s) = some (.ok (.h k), Γ1, cS s1)) (hs : s1[k]? = some (.ins c fs)) (hf : fs.lookup mn = none) (ha : gr Γ1 (cS s1) = some (.ok rs, Γ2, cS s2)) (hr : ((R.h k :: rs).all argR && (R.h k :: rs).length == n) = true)
    (e : m (.h k :: rs) (cS s2) = some (.ok (.v d), cS s3)) : gMeth c mn n m go gr Γ (cS s) = some (.ok (.v d), Γ2, cS s3) := by
  refine (bd_ok (gk_ok (ins_ok ho hs hf) ha)).trans ?_
  show (if ((R.h k :: rs).all argR && (R.h k :: rs).length == n) = true then _ else none) = _
  rw [if_pos hr]
  simp only [e]
theorem meth_o {c mn : Str} {n k : Nat} {fs : List (Str × It)} {m : Fm (ClY K sa ns tb)} {go : GE (ClY K sa ns tb)} {gr : GA (ClY K sa ns tb)} {rs : List R} {d : D} {s3 : List Cell} (ho : go Γ (cS s) = some (.ok (.h k), Γ1, cS s1)) (hs : s1[k]? = some (.ins c fs)) (hf : fs.lookup mn = none) (ha : gr Γ1 (cS s1) = some (.ok rs, Γ2, cS s2)) (hr : ((R.h k :: rs).all argR && (R.h k :: rs).length == n) = true)
    (e : m (.h k :: rs) (cS s2) = some (.ok (.o d), cS s3)) : gMeth c mn n m go gr Γ (cS s) = some (.ok (.o d), Γ2, cS s3) := by
  refine (bd_ok (gk_ok (ins_ok ho hs hf) ha)).trans ?_
  show (if ((R.h k :: rs).all argR && (R.h k :: rs).length == n) = true then _ else none) = _
  rw [if_pos hr]
  simp only [e]
theorem zip3_ints : ∀ a b c : List Int, zip3D (a.map PyData.int) (b.map PyData.int) (c.map PyData.int) = (a.zip (b.zip c)).map fun x => PyData.tuple [.int x.1, .int x.2.1, .int x.2.2]
  | [], _, _ => by simp [zip3D]
  | _ :: _, [], _ => by simp [zip3D]
  | _ :: _, _ :: _, [] => by simp [zip3D]
  | x :: a, y :: b, z :: c => by simp [zip3D, zip3_ints a b c]
theorem blsM : ∀ l : List Bool, bls? (l.map PyData.bool) = some l
  | [] => rfl
  | b :: l => by
    show (match bls? (l.map PyData.bool) with | some bs => some (b :: bs) | none => none) = _
    rw [blsM l]
def inR (t : Bool) (g : List Int) (rest : List (Int × Int)) (h : List Int) : Bool := (h.zip (g.zip (mv g.length t rest))).all fun x => decide (x.1 ≤ x.2.1) && decide (x.2.1 ≤ x.1 + x.2.2)
theorem inR_no {t : Bool} {g : List Int} {rest : List (Int × Int)} {h : List Int} (hh : h.length = g.length) (e : inR t g rest h = false) : ∃ q, q < g.length ∧ (g.getD q 0 < h.getD q 0 ∨ h.getD q 0 + mostQ t q rest < g.getD q 0) := by
  unfold inR at e
  rw [List.all_eq_false] at e
  obtain ⟨x, hx, hn⟩ := e
  obtain ⟨q, hq, rfl⟩ := List.mem_iff_getElem.mp hx
  have ml := mv_len g.length t rest
  simp only [List.length_zip] at hq
  have h1 : q < g.length := by omega
  refine ⟨q, h1, ?_⟩
  rw [← mv_get (n := g.length) h1]
  rw [List.getD_eq_getElem?_getD, List.getD_eq_getElem?_getD, List.getD_eq_getElem?_getD, List.getElem?_eq_getElem h1, List.getElem?_eq_getElem (by omega), List.getElem?_eq_getElem (by omega)]
  simp only [List.getElem_zip] at hn
  simp only [Option.getD_some]
  simp only [Bool.and_eq_true, decide_eq_true_eq, not_and] at hn
  by_cases z : h[q] ≤ g[q]
  · exact .inr (by have := hn z; omega)
  · exact .inl (by omega)
theorem inR_nil {t : Bool} {g h : List Int} (hh : h.length = g.length) (e : inR t g [] h = true) : h = g := by
  unfold inR at e
  rw [List.all_eq_true] at e
  refine List.ext_getElem hh fun q h1 h2 => ?_
  have ml := mv_len g.length t []
  have mz : (mv g.length t [])[q]'(by omega) = 0 := by
    have := mv_get (n := g.length) (t := t) (ps := []) h2
    rw [List.getD_eq_getElem?_getD, List.getElem?_eq_getElem (by omega)] at this
    exact this
  have := e (h[q], g[q], (mv g.length t [])[q]'(by omega)) (List.mem_iff_getElem.mpr ⟨q, by simp only [List.length_zip]; omega, by simp only [List.getElem_zip]⟩)
  rw [mz] at this
  simp only [Bool.and_eq_true, decide_eq_true_eq] at this
  omega
theorem reach_ok {l : Lg} {g : List Int} (hg : g.length = l.n) (h6 : l.n ≤ 6) {j k : Nat} {s : List Cell} (hs : s[k]? = some (.ins "Ways" (WF l g j))) {pre rest : List (Int × Int)} (e : l.left = pre ++ rest) {h : List Int} (hh : h.length = g.length) :
    m_Ways__in_reach (K := K) (sa := sa) (ns := ns) (tb := tb) [.h k, .v (.int (pre.length : Nat)), .v (.tuple (h.map PyData.int))] (cS s) = some (.ok (.v (.bool (inR l.t g rest h))), cS s) := by
  rw [q_Ways__in_reach]
  refine fin_of ?_
  let E (x3 x4 x5 : Option R) : Ev := [some (.h k), some (.v (.int (pre.length : Nat))), some (.v (.tuple (h.map PyData.int))), x3, x4, x5]
  show fin (b_Ways__in_reach (E none none none) (cS s)) = _
  have v0 : gV (Y := ClY K sa ns tb) 0 (E none none none) (cS s) = some (.ok (.h k), E none none none, cS s) := rfl
  have mo : gBin (Y := ClY K sa ns tb) fIx (gFld "Ways" "most" (gV 0)) (gV 1) (E none none none) (cS s) = some (.ok (.v (mvD l.n l.t rest)), E none none none, cS s) := bin_of (f := fIx) (gb := gV 1) (rb := .v (.int (pre.length : Nat))) (Γ2 := E none none none) (s2 := cS s) (z := .old (mvD l.n l.t rest)) (fld_d v0 hs (wf_most l g j)) rfl rfl rfl (by
    show (match atI ((tl l.left).map (mvD l.n l.t)) ((pre.length : Nat) : Int) with | some d => some (Rz.old d) | none => none) = _
    have hp := tl_get pre rest
    rw [← e] at hp
    have hk : pre.length < (tl l.left).length := (List.getElem?_eq_some_iff.mp hp).1
    have : atI ((tl l.left).map (mvD l.n l.t)) ((pre.length : Nat) : Int) = some (mvD l.n l.t rest) := by
      unfold atI ixN
      have h2 : ((pre.length : Nat) : Int) < ((((tl l.left).map (mvD l.n l.t)).length : Nat) : Int) := by rw [List.length_map]; omega
      simp only [h2, if_true, show (0 : Int) ≤ ((pre.length : Nat) : Int) from by omega, Int.toNat_natCast, and_self]
      simp [hp]
    rw [this])
  have zp : gZip3 (Y := ClY K sa ns tb) (gK (gEsc (gV 2)) (gK (gEsc (gFld "Ways" "goal" (gV 0))) (gK (gEsc (gBin fIx (gFld "Ways" "most" (gV 0)) (gV 1))) gN))) (E none none none) (cS s) = some (.ok ((h.zip (g.zip (mv g.length l.t rest))).map fun x => PyData.tuple [.int x.1, .int x.2.1, .int x.2.2]), E none none none, cS s) := by
    refine (bd_ok (gk_ok (ga := gEsc (gV 2)) (r := .v (.tuple (h.map PyData.int))) rfl (gk_ok (esc_v (fld_d v0 hs (wf_goal l g j))) (gk_ok (gr := gN) (rs := []) (esc_v mo) rfl)))).trans ?_
    show some (Oc.ok (zip3D (h.map PyData.int) (g.map PyData.int) ((mv l.n l.t rest).map PyData.int)), E none none none, cS s) = _
    rw [zip3_ints, hg]
  have ml := mv_len g.length l.t rest
  have c := gComp_each (Y := ClY K sa ns tb) (T := .t (.cons (.n 3) (.cons (.n 4) (.cons (.n 5) .nil)))) (own := [3, 4, 5]) (ge := e_Ways__in_reach_1) (fun x : Int × Int × Int => PyData.tuple [.int x.1, .int x.2.1, .int x.2.2]) (fun x => PyData.bool (decide (x.1 ≤ x.2.1) && decide (x.2.1 ≤ x.1 + x.2.2))) zp (by simp only [List.length_zip]; omega) fun x hx => by
    let Ex : Ev := E (some (.v (.int x.1))) (some (.v (.int x.2.1))) (some (.v (.int x.2.2)))
    refine ⟨Ex, rfl, Ex, ?_, rfl⟩
    unfold e_Ways__in_reach_1
    refine esc_v ((bd_ok (a := .v (.int x.1)) (Γ' := Ex) (s' := cS s) rfl).trans ((bd_ok (a := .v (.int x.2.1)) (Γ' := Ex) (s' := cS s) rfl).trans ?_))
    by_cases z : x.1 ≤ x.2.1
    · have z' : decide (x.1 ≤ x.2.1) = true := decide_eq_true z
      show (match zB (.nw (.bool (decide (x.1 ≤ x.2.1)))) with | none => none | some true => bd (gBin fAdd (gV 3) (gV 5)) (fun rc => op2 fLe (.v (.int x.2.1)) rc) Ex (cS s) | some false => some (Oc.ok (R.v (.bool false)), Ex, cS s)) = _
      rw [z', Bool.true_and]
      rfl
    · have z' : decide (x.1 ≤ x.2.1) = false := decide_eq_false z
      show (match zB (.nw (.bool (decide (x.1 ≤ x.2.1)))) with | none => none | some true => bd (gBin fAdd (gV 3) (gV 5)) (fun rc => op2 fLe (.v (.int x.2.1)) rc) Ex (cS s) | some false => some (Oc.ok (R.v (.bool false)), Ex, cS s)) = _
      rw [z', Bool.false_and]
      rfl
  have al := call_ok (Y := ClY K sa ns tb) (f := fAll) (z := .nw (.bool (inR l.t g rest h))) (gk_ok (gr := gN) (rs := []) c rfl) (ds := [.list ((h.zip (g.zip (mv g.length l.t rest))).map fun x => PyData.bool (decide (x.1 ≤ x.2.1) && decide (x.2.1 ≤ x.1 + x.2.2)))]) rfl (by
    have e1 : (h.zip (g.zip (mv g.length l.t rest))).map (fun x => PyData.bool (decide (x.1 ≤ x.2.1) && decide (x.2.1 ≤ x.1 + x.2.2))) = ((h.zip (g.zip (mv g.length l.t rest))).map fun x => (decide (x.1 ≤ x.2.1) && decide (x.2.1 ≤ x.1 + x.2.2))).map PyData.bool := by rw [List.map_map]; rfl
    rw [e1]
    show (match bls? _ with | some bs => some (Rz.nw (.bool (bs.all id))) | none => none) = _
    rw [blsM]
    show some (Rz.nw (.bool (List.all (List.map _ _) id))) = _
    rw [List.all_map]
    rfl)
  unfold b_Ways__in_reach
  rw [ret_v al]
  rfl
theorem steps_ok {l : Lg} (hl : l.Ok) {g : List Int} (hg : g.length = l.n) {j k : Nat} {s : List Cell} (hs : s[k]? = some (.ins "Ways" (WF l g j))) {pre rest : List (Int × Int)} {p : Int × Int} (e : l.left = pre ++ p :: rest) (p0 : 0 ≤ p.1) (p1 : p.1 < p.2) (p2 : p.2 < (g.length : Nat)) {h : List Int} (hh : h.length = g.length) :
    m_Ways_steps (K := K) (sa := sa) (ns := ns) (tb := tb) [.h k, .v (.int (pre.length : Nat)), .v (.tuple (h.map PyData.int))] (cS s) = some (.ok (.o (.list ((outs l.t).map fun o => PyData.tuple [o.d p.1 p.2, .tuple ((stepH l.t h p o).map PyData.int)]))), cS s) := by
  rw [q_Ways_steps]
  refine fin_of ?_
  let E (x3 x4 x5 x6 : Option R) : Ev := [some (.h k), some (.v (.int (pre.length : Nat))), some (.v (.tuple (h.map PyData.int))), x3, x4, x5, x6]
  show fin (b_Ways_steps (E none none none none) (cS s)) = _
  have v0 : ∀ x3 x4 x5 x6, gV (Y := ClY K sa ns tb) 0 (E x3 x4 x5 x6) (cS s) = some (.ok (.h k), E x3 x4 x5 x6, cS s) := fun _ _ _ _ => rfl
  let H (x5 x6 : Option R) : Ev := E (some (.v (.int p.1))) (some (.v (.int p.2))) x5 x6
  have s1 : sUnp (Y := ClY K sa ns tb) (.cons (.n 3) (.cons (.n 4) .nil)) (gBin fIx (gFld "Ways" "left" (gV 0)) (gV 1)) (E none none none none) (cS s) = some (.nx, H none none, cS s) := by
    have c : gBin (Y := ClY K sa ns tb) fIx (gFld "Ways" "left" (gV 0)) (gV 1) (E none none none none) (cS s) = some (.ok (.v (prD p)), E none none none none, cS s) := bin_of (f := fIx) (gb := gV 1) (rb := .v (.int (pre.length : Nat))) (Γ2 := E none none none none) (s2 := cS s) (z := .old (prD p)) (fld_d (v0 _ _ _ _) hs (wf_left l g j)) rfl rfl rfl (by
      show (match atI (l.left.map prD) ((pre.length : Nat) : Int) with | some d => some (Rz.old d) | none => none) = _
      have hp : l.left[pre.length]? = some p := by rw [e]; simp
      have hk : pre.length < l.left.length := (List.getElem?_eq_some_iff.mp hp).1
      have : atI (l.left.map prD) ((pre.length : Nat) : Int) = some (prD p) := by
        unfold atI ixN
        have h2 : ((pre.length : Nat) : Int) < (((l.left.map prD).length : Nat) : Int) := by rw [List.length_map]; omega
        simp only [h2, if_true, show (0 : Int) ≤ ((pre.length : Nat) : Int) from by omega, Int.toNat_natCast, and_self]
        simp [hp]
      rw [this])
    unfold sUnp
    rw [bdS_ok c]
    rfl
  have kd : ∀ x5 x6, gEsc (Y := ClY K sa ns tb) (gFld "Ways" "kind" (gV 0)) (H x5 x6) (cS s) = some (.ok (.v (.str (kindS l.t))), H x5 x6, cS s) := fun x5 x6 => esc_v (fld_d (v0 _ _ _ _) hs (wf_kind l g j))
  have oc := fn_o (Y := ClY K sa ns tb) (n := 3) (m := m_outcomes_in_order) (ga := gK (gEsc (gFld "Ways" "kind" (gV 0))) (gK (gEsc (gV 3)) (gK (gEsc (gV 4)) gN))) (rs := [.v (.str (kindS l.t)), .v (.int p.1), .v (.int p.2)]) (gk_ok (kd none none) (gk_ok (ga := gEsc (gV 3)) (r := .v (.int p.1)) rfl (gk_ok (ga := gEsc (gV 4)) (gr := gN) (rs := []) (r := .v (.int p.2)) rfl rfl))) rfl (outc_eq l.t p.1 p.2 (cS s))
  let O : D := .list ((outs l.t).map fun o => o.d p.1 p.2)
  have s2 : sSet (Y := ClY K sa ns tb) 5 (gFn 3 m_outcomes_in_order (gK (gEsc (gFld "Ways" "kind" (gV 0))) (gK (gEsc (gV 3)) (gK (gEsc (gV 4)) gN)))) (H none none) (cS s) = some (.nx, H (some (.o O)) none, cS s) := (bdS_ok oc).trans rfl
  have it : gItL (Y := ClY K sa ns tb) (gV 5) (H (some (.o O)) none) (cS s) = some (.ok ((outs l.t).map fun o => o.d p.1 p.2), H (some (.v O)) none, cS s) := rfl
  have c := gComp_each (Y := ClY K sa ns tb) (T := .n 6) (own := [6]) (ge := e_Ways_steps_1) (fun o : O3 => o.d p.1 p.2) (fun o => PyData.tuple [o.d p.1 p.2, .tuple ((stepH l.t h p o).map PyData.int)]) it (by have := outs_len l.t; omega) fun o ho => by
    let Ho : Ev := H (some (.v O)) (some (.v (o.d p.1 p.2)))
    refine ⟨Ho, by cases o <;> rfl, Ho, ?_, rfl⟩
    have a1 := fn_v (Y := ClY K sa ns tb) (n := 3) (m := m_shares_of) (ga := gK (gEsc (gFld "Ways" "kind" (gV 0))) (gK (gEsc (gV 3)) (gK (gEsc (gV 6)) gN))) (rs := [.v (.str (kindS l.t)), .v (.int p.1), .v (o.d p.1 p.2)]) (gk_ok (kd (some (.v O)) (some (.v (o.d p.1 p.2)))) (gk_ok (ga := gEsc (gV 3)) (r := .v (.int p.1)) rfl (gk_ok (ga := gEsc (gV 6)) (gr := gN) (rs := []) (r := .v (o.d p.1 p.2)) rfl rfl))) rfl (shares_eq l.t p.1 p.2 (by omega) o (cS s))
    have a2 := fn_v (Y := ClY K sa ns tb) (n := 4) (m := m_points_behind) (Γ := Ho) (s := cS s) (ga := gK (gEsc (gV 2)) (gK (gEsc (gV 3)) (gK (gEsc (gV 4)) (gK (gEsc (gFn 3 m_shares_of (gK (gEsc (gFld "Ways" "kind" (gV 0))) (gK (gEsc (gV 3)) (gK (gEsc (gV 6)) gN))))) gN)))) (gk_ok (ga := gEsc (gV 2)) (r := .v (.tuple (h.map PyData.int))) (Γ1 := Ho) (s1 := cS s) rfl (gk_ok (ga := gEsc (gV 3)) (r := .v (.int p.1)) (Γ1 := Ho) (s1 := cS s) rfl (gk_ok (ga := gEsc (gV 4)) (r := .v (.int p.2)) (Γ1 := Ho) (s1 := cS s) rfl (gk_ok (gr := gN) (rs := []) (esc_v a1) rfl)))) rfl
      (behind_eq h p.1 p.2 (sh2 l.t o).1 (sh2 l.t o).2 p0 (by omega) (by omega) (by omega) (cS s))
    unfold e_Ways_steps_1
    refine esc_v ?_
    refine (bd_ok (gk_ok (ga := gEsc (gV 6)) (r := .v (o.d p.1 p.2)) (Γ1 := Ho) (s1 := cS s) rfl (gk_ok (gr := gN) (rs := []) (esc_v a2) rfl))).trans ?_
    rfl
  unfold b_Ways_steps
  rw [seq_nx s1, seq_nx s2]
  unfold sRet
  rw [bdS_ok c]
  rfl
end
end FX.Pg
set_option Elab.async false
set_option linter.all false
set_option maxRecDepth 100000
set_option maxHeartbeats 1000000
namespace FX.Pg
open PySem PySem.Spec L2 FX
section
variable {K : PySem.W.Frag} {sa : Addr} {ns : List Int} {tb : List (Addr × Str)} {Γ Γ1 Γ2 : Ev} {s s1 s2 : List Cell}
theorem has_g {j : Nat} {at' : Int} {nd : List Int} {kvs : List (NKey × Int)} {gk go : GE (ClY K sa ns tb)} (hk : gk Γ (cS s) = some (.ok (.v (.tuple [.int at', .tuple (nd.map PyData.int)])), Γ, cS s)) (ho : go Γ (cS s) = some (.ok (.h j), Γ, cS s)) (hs : s[j]? = some (.dN kvs)) :
    gTst (gNNot gk go) Γ (cS s) = some (.ok (!(nval kvs (at', nd)).isSome), Γ, cS s) := by
  refine tst_of ((bd_ok hk).trans ((bd_ok ho).trans ?_))
  show (match nkD (.tuple [.int at', .tuple (nd.map PyData.int)]), s[j]? with | some k, some (.dN kvs) => some (Oc.ok (R.v (.bool (!(nval kvs k).isSome))), Γ, s) | _, _ => none) = _
  rw [nkD_of, hs]
  rfl
theorem get_g {j : Nat} {at' : Int} {nd : List Int} {kvs : List (NKey × Int)} {gk go : GE (ClY K sa ns tb)} {v : Int} (ho : go Γ (cS s) = some (.ok (.h j), Γ, cS s)) (hk : gk Γ (cS s) = some (.ok (.v (.tuple [.int at', .tuple (nd.map PyData.int)])), Γ, cS s)) (hs : s[j]? = some (.dN kvs)) (hv : nval kvs (at', nd) = some v) :
    gNGet go gk Γ (cS s) = some (.ok (.v (.int v)), Γ, cS s) := by
  refine (bd_ok ho).trans ((bd_ok hk).trans ?_)
  show (match nkD (.tuple [.int at', .tuple (nd.map PyData.int)]), s[j]? with | some k, some (.dN kvs) => (match nval kvs k with | some v => some (Oc.ok (R.v (.int v)), Γ, s) | none => none) | _, _ => none) = _
  rw [nkD_of, hs]
  show (match nval kvs (at', nd) with | some v => some (Oc.ok (R.v (.int v)), Γ, s) | none => none) = _
  rw [hv]
  rfl
theorem put_g {j : Nat} {at' : Int} {nd : List Int} {kvs : List (NKey × Int)} {gk go ge : GE (ClY K sa ns tb)} {v : Int} (he : ge Γ (cS s) = some (.ok (.v (.int v)), Γ1, cS s1)) (ho : go Γ1 (cS s1) = some (.ok (.h j), Γ1, cS s1)) (hk : gk Γ1 (cS s1) = some (.ok (.v (.tuple [.int at', .tuple (nd.map PyData.int)])), Γ1, cS s1)) (hs : s1[j]? = some (.dN kvs)) (hz : kvs.length ≤ 10000000) :
    sNPutC go gk ge Γ (cS s) = some (.nx, Γ1, cS (s1.set j (.dN (nput kvs (at', nd) v)))) := by
  refine (bdS_ok he).trans ((bdS_ok ho).trans ((bdS_ok hk).trans ?_))
  have hz' : sizeN kvs.length = true := decide_eq_true hz
  show (match nkD (.tuple [.int at', .tuple (nd.map PyData.int)]), s1[j]? with | some k, some (.dN kvs) => (if sizeN kvs.length = true then some (Fl.nx, Γ1, s1.set j (.dN (nput kvs k v))) else none) | _, _ => none) = _
  rw [nkD_of, hs]
  show (if sizeN kvs.length = true then some (Fl.nx, Γ1, s1.set j (.dN (nput kvs (at', nd) v))) else none) = _
  rw [if_pos hz']
  rfl
def MnE (k at' : Nat) (h : List Int) (x3 x4 : Option R) : Ev := [some (.h k), some (.v (.int (at' : Nat))), some (.v (.tuple (h.map PyData.int))), x3, x4]
def stD (t : Bool) (h : List Int) (p : Int × Int) (o : O3) : D := .tuple [o.d p.1 p.2, .tuple ((stepH t h p o).map PyData.int)]
theorem many_comp {l : Lg} {g h : List Int} {k j at' : Nat} (kj : k ≠ j) {p : Int × Int} {rest : List (Int × Int)} (hh : h.length = g.length) {rec : Fm (ClY K sa ns tb)} {MM : List (NKey × Int) → Prop} {T : Nat}
    (ih : ∀ (h' : List Int) (s : List Cell) (kvs : List (NKey × Int)), h'.length = g.length → s[k]? = some (.ins "Ways" (WF l g j)) → s[j]? = some (.dN kvs) → MM kvs → kvs.length + T ≤ 10000000 →
      ∃ kvs', rec [.h k, .v (.int ((at' + 1 : Nat) : Int)), .v (.tuple (h'.map PyData.int))] (cS s) = some (.ok (.v (.int (cnt l.t (fun _ => outs l.t) g rest h'))), cS (s.set j (.dN kvs'))) ∧ MM kvs' ∧ kvs'.length ≤ kvs.length + T) :
    ∀ (L : List O3) (acc : List D) (s : List Cell) (kvs : List (NKey × Int)) (x3 x4 : Option R), s[k]? = some (.ins "Ways" (WF l g j)) → s[j]? = some (.dN kvs) → MM kvs → kvs.length + L.length * T ≤ 10000000 → acc.length + L.length ≤ 1000 →
    ∃ kvs' y3 y4, compG (.t (.cons (.n 3) (.cons (.n 4) .nil))) [3, 4] gYes (e_Ways_many_1 rec) (L.map (stD l.t h p)) acc (MnE k at' h x3 x4) (cS s)
      = some (acc ++ (L.map fun o => cnt l.t (fun _ => outs l.t) g rest (stepH l.t h p o)).map PyData.int, MnE k at' h y3 y4, cS (s.set j (.dN kvs'))) ∧ MM kvs' ∧ kvs'.length ≤ kvs.length + L.length * T
  | [], acc, s, kvs, x3, x4, _, hk, M, _, _ => ⟨kvs, x3, x4, by rw [set_same hk]; simp [compG], M, by simp⟩
  | o :: L, acc, s, kvs, x3, x4, hs, hk, M, hz, ha => by
    have hz' : kvs.length + (T + L.length * T) ≤ 10000000 := by
      rw [List.length_cons, Nat.add_mul, Nat.one_mul] at hz
      omega
    simp only [List.length_cons] at ha
    obtain ⟨kvs1, e1, M1, l1⟩ := ih (stepH l.t h p o) s kvs (by rw [stepH_len]; exact hh) hs hk M (by omega)
    have hk1 : (s.set j (.dN kvs1))[j]? = some (.dN kvs1) := List.getElem?_set_self (List.getElem?_eq_some_iff.mp hk).1
    have hs1 : (s.set j (.dN kvs1))[k]? = some (.ins "Ways" (WF l g j)) := by rw [List.getElem?_set_ne (Ne.symm kj)]; exact hs
    let v := cnt l.t (fun _ => outs l.t) g rest (stepH l.t h p o)
    let Go : Ev := MnE k at' h (some (.v (o.d p.1 p.2))) (some (.v (.tuple ((stepH l.t h p o).map PyData.int))))
    obtain ⟨kvs2, y3, y4, e2, M2, l2⟩ := many_comp kj hh ih L (acc ++ [.int v]) (s.set j (.dN kvs1)) kvs1 (some (.v (o.d p.1 p.2))) (some (.v (.tuple ((stepH l.t h p o).map PyData.int)))) hs1 hk1 M1 (by omega) (by simp; omega)
    refine ⟨kvs2, y3, y4, ?_, M2, by rw [List.length_cons, Nat.add_mul, Nat.one_mul]; omega⟩
    have b : bindT (.t (.cons (.n 3) (.cons (.n 4) .nil))) (stD l.t h p o) (wipeE (MnE k at' h x3 x4) [3, 4]) = some Go := rfl
    have c : e_Ways_many_1 rec Go (cS s) = some (.ok (.v (.int v)), Go, cS (s.set j (.dN kvs1))) := by
      unfold e_Ways_many_1
      exact esc_v (meth_v (go := gV 0) (k := k) (Γ := Go) (Γ1 := Go) (s := s) (s1 := s) rfl hs (wf_many l g j) (gk_ok (ga := gEsc (gBin fAdd (gV 1) (gC (.int 1)))) (r := .v (.int ((at' + 1 : Nat) : Int))) (Γ1 := Go) (s1 := cS s) rfl (gk_ok (ga := gEsc (gV 4)) (gr := gN) (rs := []) (r := .v (.tuple ((stepH l.t h p o).map PyData.int))) (Γ1 := Go) (s1 := cS s) rfl rfl)) rfl e1)
    have za : sizeOk acc.length = true := sizeOk_true (by omega)
    rw [List.map_cons]
    unfold compG
    simp only [b, gYes, c, za, if_true]
    rw [e2, List.set_set, List.map_cons, List.map_cons, List.append_assoc]
    rfl
theorem reach_zero {l : Lg} (hl : l.Ok) {g : List Int} (hg : g.length = l.n) {rest : List (Int × Int)} (hr : ∀ p ∈ rest, 0 ≤ p.1 ∧ p.1 < p.2) {h : List Int} (hh : h.length = g.length) (e : inR l.t g rest h = false) : cnt l.t (fun _ => outs l.t) g rest h = 0 := by
  obtain ⟨q, hq, z⟩ := inR_no hh e
  rcases z with z | z
  · exact cnt_over (fun _ o ho => outs_ok.mp ho) rest h (fun p hp => by have := hr p hp; omega) (by omega) z
  · exact cnt_under (fun _ o ho => outs_ok.mp ho) rest h hr (by omega) z
theorem many_ok {l : Lg} (hl : l.Ok) {g : List Int} (hg : g.length = l.n) {k j : Nat} (kj : k ≠ j) :
    ∀ (rest pre : List (Int × Int)) (e : l.left = pre ++ rest) (n : Nat) (hn : rest.length < n) (h : List Int) (hh : h.length = g.length) (s : List Cell) (kvs : List (NKey × Int)) (hs : s[k]? = some (.ins "Ways" (WF l g j))) (hk : s[j]? = some (.dN kvs)) (M : Memo l.t (fun _ => outs l.t) l.left g (fun h => h) kvs) (hz : kvs.length + nodes (fun _ => outs l.t) rest ≤ 10000000),
    ∃ kvs', r_Ways_many (K := K) (sa := sa) (ns := ns) (tb := tb) n [.h k, .v (.int ((pre.length : Nat) : Int)), .v (.tuple (h.map PyData.int))] (cS s) = some (.ok (.v (.int (cnt l.t (fun _ => outs l.t) g rest h))), cS (s.set j (.dN kvs'))) ∧ Memo l.t (fun _ => outs l.t) l.left g (fun h => h) kvs' ∧ kvs'.length ≤ kvs.length + nodes (fun _ => outs l.t) rest := by
  have lm : ∀ p ∈ l.left, 0 ≤ p.1 ∧ p.1 < p.2 ∧ p.2 < (g.length : Nat) := fun p hp => by
    rw [hg]
    exact pairs_mem hl.h2 hl.h6 p (hl.split.mem_iff.mp (List.mem_append_right _ hp))
  intro rest
  induction rest with
  | nil =>
    intro pre e n hn h hh s kvs hs hk M hz
    obtain ⟨m, rfl⟩ : ∃ m, n = m + 1 := ⟨n - 1, by simp at hn; omega⟩
    refine ⟨kvs, ?_, M, by omega⟩
    rw [set_same hk]
    let G : Ev := MnE k pre.length h none none
    refine fin_of ?_
    show fin (b_Ways_many (r_Ways_many m) G (cS s)) = _
    have rc := reach_ok (K := K) (sa := sa) (ns := ns) (tb := tb) hg hl.h6 hs e hh
    have mt := meth_v (mn := "_in_reach") (n := 3) (go := gV 0) (k := k) (Γ := G) (Γ1 := G) (s := s) (s1 := s) (m := m_Ways__in_reach (K := K) (sa := sa) (ns := ns) (tb := tb)) (gr := gK (gEsc (gV 1)) (gK (gEsc (gV 2)) gN)) (rs := [.v (.int (pre.length : Nat)), .v (.tuple (h.map PyData.int))]) (Γ2 := G) (s2 := s) rfl hs (wf_reach l g j) rfl rfl rc
    have t1 : gNot (gTst (gMeth "Ways" "_in_reach" 3 m_Ways__in_reach (gV 0) (gK (gEsc (gV 1)) (gK (gEsc (gV 2)) gN)))) G (cS s) = some (.ok (!inR l.t g [] h), G, cS s) := (bd_ok (tst_of mt)).trans rfl
    unfold b_Ways_many
    cases hi : inR l.t g [] h with
    | false =>
      rw [hi] at t1
      rw [reach_zero hl hg (fun p hp => by cases hp) hh hi, seq_rt ((if_yes t1).trans (ret_v (d := .int 0) rfl))]
      rfl
    | true =>
      rw [hi] at t1
      have hgg := inR_nil hh hi
      have t2 : gTst (Y := ClY K sa ns tb) (gBin fEq (gV 1) (gCall fLen (gK (gFld "Ways" "left" (gV 0)) gN))) G (cS s) = some (.ok true, G, cS s) := by
        have c := call_ok (f := fLen) (z := .nw (.int ((l.left.length : Nat) : Int))) (gk_ok (gr := gN) (rs := []) (fld_d (K := K) (sa := sa) (ns := ns) (tb := tb) (go := gV 0) (k := k) (Γ := G) (Γ1 := G) (s := s) (s1 := s) rfl hs (wf_left l g j)) rfl) (ds := [.list (l.left.map prD)]) rfl (by
          show some (Rz.nw (.int (((l.left.map prD).length : Nat) : Int))) = _
          rw [List.length_map])
        refine tst_of (bin_of (f := fEq) (ga := gV 1) (ra := .v (.int ((pre.length : Nat) : Int))) (Γ1 := G) (s1 := cS s) (z := .nw (.bool true)) rfl c rfl rfl ?_)
        rw [eq_int, decide_eq_true (by rw [e]; simp)]
      rw [seq_nx (g := sIf _ _ _) ((if_no t1).trans rfl), seq_rt ((if_yes t2).trans (ret_v (d := .int 1) rfl))]
      show some (Oc.ok (R.v (.int 1)), cS s) = _
      unfold cnt
      rw [if_pos hgg]
  | cons p rest ih =>
    intro pre e n hn h hh s kvs hs hk M hz
    obtain ⟨m, rfl⟩ : ∃ m, n = m + 1 := ⟨n - 1, by simp at hn; omega⟩
    have e' : l.left = (pre ++ [p]) ++ rest := by rw [e]; simp
    obtain ⟨p0, p1, p2⟩ := lm p (by rw [e]; simp)
    have hz' : kvs.length + (1 + (outs l.t).length * nodes (fun _ => outs l.t) rest) ≤ 10000000 := hz
    let G : Ev := MnE k pre.length h none none
    have rc := reach_ok (K := K) (sa := sa) (ns := ns) (tb := tb) hg hl.h6 hs e hh
    have mt := meth_v (mn := "_in_reach") (n := 3) (go := gV 0) (k := k) (Γ := G) (Γ1 := G) (s := s) (s1 := s) (m := m_Ways__in_reach (K := K) (sa := sa) (ns := ns) (tb := tb)) (gr := gK (gEsc (gV 1)) (gK (gEsc (gV 2)) gN)) (rs := [.v (.int (pre.length : Nat)), .v (.tuple (h.map PyData.int))]) (Γ2 := G) (s2 := s) rfl hs (wf_reach l g j) rfl rfl rc
    have t1 : gNot (gTst (gMeth "Ways" "_in_reach" 3 m_Ways__in_reach (gV 0) (gK (gEsc (gV 1)) (gK (gEsc (gV 2)) gN)))) G (cS s) = some (.ok (!inR l.t g (p :: rest) h), G, cS s) := (bd_ok (tst_of mt)).trans rfl
    cases hi : inR l.t g (p :: rest) h with
    | false =>
      refine ⟨kvs, ?_, M, by omega⟩
      rw [set_same hk]
      refine fin_of ?_
      show fin (b_Ways_many (r_Ways_many m) G (cS s)) = _
      unfold b_Ways_many
      rw [hi] at t1
      rw [reach_zero hl hg (fun r hr => by have := lm r (by rw [e]; exact List.mem_append_right _ hr); omega) hh hi, seq_rt ((if_yes t1).trans (ret_v (d := .int 0) rfl))]
      rfl
    | true =>
      rw [hi] at t1
      have t2 : gTst (Y := ClY K sa ns tb) (gBin fEq (gV 1) (gCall fLen (gK (gFld "Ways" "left" (gV 0)) gN))) G (cS s) = some (.ok false, G, cS s) := by
        have c := call_ok (f := fLen) (z := .nw (.int ((l.left.length : Nat) : Int))) (gk_ok (gr := gN) (rs := []) (fld_d (K := K) (sa := sa) (ns := ns) (tb := tb) (go := gV 0) (k := k) (Γ := G) (Γ1 := G) (s := s) (s1 := s) rfl hs (wf_left l g j)) rfl) (ds := [.list (l.left.map prD)]) rfl (by
          show some (Rz.nw (.int (((l.left.map prD).length : Nat) : Int))) = _
          rw [List.length_map])
        refine tst_of (bin_of (f := fEq) (ga := gV 1) (ra := .v (.int ((pre.length : Nat) : Int))) (Γ1 := G) (s1 := cS s) (z := .nw (.bool false)) rfl c rfl rfl ?_)
        rw [eq_int, decide_eq_false (by rw [e]; simp; omega)]
      have key : ∀ (x3 x4 : Option R) (s : List Cell), FX.gTup (Y := ClY K sa ns tb) (gK (gEsc (gV 1)) (gK (gEsc (gV 2)) gN)) (MnE k pre.length h x3 x4) (cS s) = some (.ok (.v (.tuple [.int ((pre.length : Nat) : Int), .tuple (h.map PyData.int)])), MnE k pre.length h x3 x4, cS s) := fun _ _ _ => rfl
      have cf : ∀ (x3 x4 : Option R) (s : List Cell), s[k]? = some (.ins "Ways" (WF l g j)) → gFld "Ways" "counted" (gV 0) (MnE k pre.length h x3 x4) (cS (K := K) (sa := sa) (ns := ns) (tb := tb) s) = some (.ok (.h j), MnE k pre.length h x3 x4, cS s) := fun x3 x4 s hs => fld_h rfl hs (wf_counted l g j)
      have t3 := has_g (key none none s) (cf none none s hs) hk
      cases hv : nval kvs (((pre.length : Nat) : Int), h) with
      | some v =>
        refine ⟨kvs, ?_, M, by omega⟩
        rw [set_same hk]
        refine fin_of ?_
        show fin (b_Ways_many (r_Ways_many m) G (cS s)) = _
        unfold b_Ways_many
        rw [hv] at t3
        rw [seq_nx (g := sIf _ _ _) ((if_no t1).trans rfl), seq_nx (g := sIf _ _ _) ((if_no t2).trans rfl), seq_nx (g := sIf _ _ _) ((if_no t3).trans rfl), ret_v (get_g (cf none none s hs) (key none none s) hk hv), M _ v hv pre (p :: rest) h e hh rfl]
        rfl
      | none =>
        obtain ⟨kvs1, y3, y4, e1, M1, l1⟩ := many_comp (K := K) (sa := sa) (ns := ns) (tb := tb) (l := l) (g := g) (at' := pre.length) kj (p := p) (rest := rest) hh (rec := r_Ways_many m) (MM := Memo l.t (fun _ => outs l.t) l.left g (fun h => h)) (T := nodes (fun _ => outs l.t) rest)
          (fun h' s kvs a b c d f => by
            have := ih (pre ++ [p]) e' m (by simp at hn; omega) h' a s kvs b c d f
            rw [List.length_append] at this
            exact this) (outs l.t) [] s kvs none none hs hk M (by omega) (by have := outs_len l.t; simp; omega)
        have hk1 : (s.set j (.dN kvs1))[j]? = some (.dN kvs1) := List.getElem?_set_self (List.getElem?_eq_some_iff.mp hk).1
        have hs1 : (s.set j (.dN kvs1))[k]? = some (.ins "Ways" (WF l g j)) := by rw [List.getElem?_set_ne (Ne.symm kj)]; exact hs
        let C := cnt l.t (fun _ => outs l.t) g (p :: rest) h
        have pl := nput_len kvs1 (((pre.length : Nat) : Int), h) C
        refine ⟨nput kvs1 (((pre.length : Nat) : Int), h) C, ?_, M1.put (fun a b _ _ z => z) e hh, by show _ ≤ kvs.length + (1 + (outs l.t).length * nodes (fun _ => outs l.t) rest); omega⟩
        refine fin_of ?_
        show fin (b_Ways_many (r_Ways_many m) G (cS s)) = _
        unfold b_Ways_many
        rw [hv] at t3
        have st := steps_ok (K := K) (sa := sa) (ns := ns) (tb := tb) hl hg hs e p0 p1 p2 hh
        have ms := meth_o (mn := "steps") (n := 3) (go := gV 0) (k := k) (Γ := G) (Γ1 := G) (s := s) (s1 := s) (m := m_Ways_steps (K := K) (sa := sa) (ns := ns) (tb := tb)) (gr := gK (gEsc (gV 1)) (gK (gEsc (gV 2)) gN)) (rs := [.v (.int (pre.length : Nat)), .v (.tuple (h.map PyData.int))]) (Γ2 := G) (s2 := s) rfl hs (wf_steps l g j) rfl rfl st
        have it : gItL (Y := ClY K sa ns tb) (gMeth "Ways" "steps" 3 m_Ways_steps (gV 0) (gK (gEsc (gV 1)) (gK (gEsc (gV 2)) gN))) G (cS s) = some (.ok ((outs l.t).map (stD l.t h p)), G, cS s) := (bd_ok ((bd_ok ms).trans rfl)).trans rfl
        have cc := gComp_of (Y := ClY K sa ns tb) (own := [3, 4]) it e1
        obtain ⟨z3, z4, hb⟩ : ∃ z3 z4, backE G (MnE k pre.length h y3 y4) [3, 4] = MnE k pre.length h z3 z4 := ⟨_, _, rfl⟩
        rw [hb, List.nil_append] at cc
        have sm := call_ok (f := fSum) (z := .nw (.int C)) (gk_ok (gr := gN) (rs := []) cc rfl) (ds := [.list ((((outs l.t).map fun o => cnt l.t (fun _ => outs l.t) g rest (stepH l.t h p o))).map PyData.int)]) rfl (by
          show (match ints? _ with | some ns => some (Rz.nw (.int ns.sum)) | none => none) = _
          rw [ints_map]
          rfl)
        have pt := put_g sm (cf z3 z4 _ hs1) (key z3 z4 _) hk1 (by omega)
        rw [List.set_set] at pt
        have hk2 : (s.set j (.dN (nput kvs1 (((pre.length : Nat) : Int), h) C)))[j]? = some (.dN (nput kvs1 (((pre.length : Nat) : Int), h) C)) := List.getElem?_set_self (List.getElem?_eq_some_iff.mp hk).1
        have hs2 : (s.set j (.dN (nput kvs1 (((pre.length : Nat) : Int), h) C)))[k]? = some (.ins "Ways" (WF l g j)) := by rw [List.getElem?_set_ne (Ne.symm kj)]; exact hs
        rw [seq_nx (g := sIf _ _ _) ((if_no t1).trans rfl), seq_nx (g := sIf _ _ _) ((if_no t2).trans rfl), seq_nx (g := sIf _ _ _) ((if_yes t3).trans pt)]
        rw [ret_v (get_g (cf z3 z4 _ hs2) (key z3 z4 _) hk2 (by rw [nval_put, if_pos rfl]))]
        rfl
end
end FX.Pg
set_option Elab.async false
set_option linter.all false
set_option maxRecDepth 100000
set_option maxHeartbeats 1000000
namespace FX.Pg
open PySem PySem.Spec L2 FX
section
variable {K : PySem.W.Frag} {sa : Addr} {ns : List Int} {tb : List (Addr × Str)} {Γ Γ1 Γ2 : Ev} {s s1 s2 : List Cell}
theorem fldp {c f : Str} {k : Nat} {fs : List (Str × It)} {i : It} {r : R} {ge go : GE (ClY K sa ns tb)} (he : gEsc ge Γ (cS s) = some (.ok r, Γ1, cS s1)) (hi : itR1 r = some i) (ho : go Γ1 (cS s1) = some (.ok (.h k), Γ2, cS s2)) (hs : s2[k]? = some (.ins c fs)) (hz : Nat.ble fs.length 100 = true) :
    sFldC c f go ge Γ (cS s) = some (.nx, Γ2, cS (s2.set k (.ins c (putI f i fs)))) := by
  refine (bdS_ok he).trans ((bdS_ok ho).trans ?_)
  show (match R.h k, itR1 r with | .h k, some i => (match s2[k]? with | some (.ins c' fs) => (if c' = c then (if Nat.ble fs.length 100 = true then some (Fl.nx, Γ2, s2.set k (.ins c (putI f i fs))) else none) else none) | _ => none) | _, _ => none) = _
  rw [hi]
  show (match s2[k]? with | some (.ins c' fs) => (if c' = c then (if Nat.ble fs.length 100 = true then some (Fl.nx, Γ2, s2.set k (.ins c (putI f i fs))) else none) else none) | _ => none) = _
  rw [hs]
  show (if c = c then (if Nat.ble fs.length 100 = true then some (Fl.nx, Γ2, s2.set k (.ins c (putI f i fs))) else none) else none) = _
  rw [if_pos rfl, if_pos hz]
  rfl
theorem set_last (s : List Cell) (c c' : Cell) : (s ++ [c]).set s.length c' = s ++ [c'] := by simp
theorem get_last (s : List Cell) (c : Cell) : (s ++ [c])[s.length]? = some c := by simp
theorem init_ok {l : Lg} (hl : l.Ok) {g : List Int} (hg : g.length = l.n) (s : List Cell) :
    m_Ways___init__ (K := K) (sa := sa) (ns := ns) (tb := tb) [.h s.length, .v l.d, .v (.list (g.map PyData.int))] (cS (s ++ [.ins "Ways" []])) = some (.ok (.v .none), cS (s ++ [.ins "Ways" (WF l g (s.length + 1)), .dN []])) := by
  rw [q_Ways___init__]
  refine fin_of ?_
  let G : Ev := [some (.h s.length), some (.v l.d), some (.v (.list (g.map PyData.int)))]
  let k := s.length
  show fin (b_Ways___init__ G (cS (s ++ [.ins "Ways" []]))) = _
  have v0 : ∀ s' : List Cell, gV (Y := ClY K sa ns tb) 0 G (cS s') = some (.ok (.h k), G, cS s') := fun _ => rfl
  let F1 : List (Str × It) := [("kind", .d (.str (kindS l.t)))]
  let F2 : List (Str × It) := [("kind", .d (.str (kindS l.t))), ("left", .d (.list (l.left.map prD)))]
  let F3 : List (Str × It) := [("kind", .d (.str (kindS l.t))), ("left", .d (.list (l.left.map prD))), ("had", .d (.tuple (l.pts.map PyData.int)))]
  let F4 : List (Str × It) := [("kind", .d (.str (kindS l.t))), ("left", .d (.list (l.left.map prD))), ("had", .d (.tuple (l.pts.map PyData.int))), ("goal", .d (.tuple (g.map PyData.int)))]
  let F5 : List (Str × It) := [("kind", .d (.str (kindS l.t))), ("left", .d (.list (l.left.map prD))), ("had", .d (.tuple (l.pts.map PyData.int))), ("goal", .d (.tuple (g.map PyData.int))), ("most", .d (.list ((tl l.left).map (mvD l.n l.t))))]
  have ll : l.left.length ≤ 15 := by
    have := hl.split.length_eq
    have p := pairs_len hl.h2 hl.h6
    rw [List.length_append] at this
    omega
  have s1 := fldp (K := K) (sa := sa) (ns := ns) (tb := tb) (c := "Ways") (f := "kind") (k := k) (fs := []) (i := .d (.str (kindS l.t))) (r := .v (.str (kindS l.t))) (Γ := G) (Γ1 := G) (Γ2 := G) (s := s ++ [.ins "Ways" []]) (s1 := s ++ [.ins "Ways" []]) (s2 := s ++ [.ins "Ways" []]) (go := gV 0) (ge := gBin fIx (gV 1) (gC (.int 0)))
    (esc_v (bin_of (f := fIx) (ga := gV 1) (gb := gC (.int 0)) (ra := .v l.d) (rb := .v (.int 0)) (d := l.d) (e := .int 0) (z := .old (.str (kindS l.t))) rfl rfl rfl rfl rfl)) rfl (v0 _) (get_last _ _) rfl
  rw [set_last] at s1
  have s2 := fldp (K := K) (sa := sa) (ns := ns) (tb := tb) (c := "Ways") (f := "left") (k := k) (fs := F1) (i := .d (.list (l.left.map prD))) (r := .v (.list (l.left.map prD))) (Γ := G) (Γ1 := G) (Γ2 := G) (s := s ++ [.ins "Ways" F1]) (s1 := s ++ [.ins "Ways" F1]) (s2 := s ++ [.ins "Ways" F1]) (go := gV 0) (ge := gFn 1 m_matches_left (gK (gEsc (gV 1)) gN))
    (esc_o (fn_o (Y := ClY K sa ns tb) (n := 1) (m := m_matches_left) (Γ := G) (s := cS (s ++ [.ins "Ways" F1])) (ga := gK (gEsc (gV 1)) gN) (rs := [.v l.d]) rfl rfl (left_eq hl _))) rfl (v0 _) (get_last _ _) rfl
  rw [set_last] at s2
  have s3 := fldp (K := K) (sa := sa) (ns := ns) (tb := tb) (c := "Ways") (f := "had") (k := k) (fs := F2) (i := .d (.tuple (l.pts.map PyData.int))) (r := .v (.tuple (l.pts.map PyData.int))) (Γ := G) (Γ1 := G) (Γ2 := G) (s := s ++ [.ins "Ways" F2]) (s1 := s ++ [.ins "Ways" F2]) (s2 := s ++ [.ins "Ways" F2]) (go := gV 0) (ge := gCall fTup (gK (gFn 1 m_points_had (gK (gEsc (gV 1)) gN)) gN))
    (esc_v (call_ok (z := .nw (.tuple (l.pts.map PyData.int))) (gk_ok (gr := gN) (rs := []) (fn_o (Y := ClY K sa ns tb) (n := 1) (m := m_points_had) (Γ := G) (s := cS (s ++ [.ins "Ways" F2])) (ga := gK (gEsc (gV 1)) gN) (rs := [.v l.d]) rfl rfl (points_had_eq hl _)) rfl) (ds := [.list (l.pts.map PyData.int)]) rfl rfl)) rfl (v0 _) (get_last _ _) rfl
  rw [set_last] at s3
  have s4 := fldp (K := K) (sa := sa) (ns := ns) (tb := tb) (c := "Ways") (f := "goal") (k := k) (fs := F3) (i := .d (.tuple (g.map PyData.int))) (r := .v (.tuple (g.map PyData.int))) (Γ := G) (Γ1 := G) (Γ2 := G) (s := s ++ [.ins "Ways" F3]) (s1 := s ++ [.ins "Ways" F3]) (s2 := s ++ [.ins "Ways" F3]) (go := gV 0) (ge := gCall fTup (gK (gV 2) gN))
    (esc_v (call_ok (z := .nw (.tuple (g.map PyData.int))) (gk_ok (ga := gV 2) (gr := gN) (rs := []) (r := .v (.list (g.map PyData.int))) (Γ := G) (Γ1 := G) (s := cS (s ++ [.ins "Ways" F3])) (s1 := cS (s ++ [.ins "Ways" F3])) rfl rfl) (ds := [.list (g.map PyData.int)]) rfl rfl)) rfl (v0 _) (get_last _ _) rfl
  rw [set_last] at s4
  have s5 := fldp (K := K) (sa := sa) (ns := ns) (tb := tb) (c := "Ways") (f := "most") (k := k) (fs := F4) (i := .d (.list ((tl l.left).map (mvD l.n l.t)))) (r := .v (.list ((tl l.left).map (mvD l.n l.t)))) (Γ := G) (Γ1 := G) (Γ2 := G) (s := s ++ [.ins "Ways" F4]) (s1 := s ++ [.ins "Ways" F4]) (s2 := s ++ [.ins "Ways" F4]) (go := gV 0) (ge := gFn 2 m__most_from (gK (gEsc (gV 1)) (gK (gEsc (gFld "Ways" "left" (gV 0))) gN)))
    (esc_o (fn_o (Y := ClY K sa ns tb) (n := 2) (m := m__most_from) (Γ := G) (s := cS (s ++ [.ins "Ways" F4])) (ga := gK (gEsc (gV 1)) (gK (gEsc (gFld "Ways" "left" (gV 0))) gN)) (rs := [.v l.d, .v (.list (l.left.map prD))]) (gk_ok (ga := gEsc (gV 1)) (r := .v l.d) (Γ1 := G) (s1 := cS (s ++ [.ins "Ways" F4])) rfl (gk_ok (gr := gN) (rs := []) (esc_v (fld_d (s1 := s ++ [.ins "Ways" F4]) (v0 _) (get_last _ _) (rfl : List.lookup ("left" : Str) F4 = some (.d (.list (l.left.map prD)))))) rfl)) rfl (most_ok hl.h6 (by omega) _))) rfl (v0 _) (get_last _ _) rfl
  rw [set_last] at s5
  have hg6 : (s ++ [Cell.ins "Ways" F5] ++ [Cell.dN []])[k]? = some (.ins "Ways" F5) := by
    rw [List.getElem?_append_left (by simp [k])]
    exact get_last _ _
  have s6 := fldp (K := K) (sa := sa) (ns := ns) (tb := tb) (c := "Ways") (f := "counted") (k := k) (fs := F5) (i := .h (k + 1)) (r := .h (s ++ [Cell.ins "Ways" F5]).length) (Γ := G) (Γ1 := G) (Γ2 := G) (s := s ++ [.ins "Ways" F5]) (s1 := s ++ [.ins "Ways" F5] ++ [.dN []]) (s2 := s ++ [.ins "Ways" F5] ++ [.dN []]) (go := gV 0) (ge := gNNew)
    rfl (by show some (It.h (s ++ [Cell.ins "Ways" F5]).length) = _; simp [k]) (v0 _) hg6 rfl
  have e6 : (s ++ [Cell.ins "Ways" F5] ++ [Cell.dN []]).set k (.ins "Ways" (putI "counted" (.h (k + 1)) F5)) = s ++ [.ins "Ways" (WF l g (s.length + 1)), .dN []] := by
    rw [List.append_assoc, List.set_append_right _ _ (Nat.le_refl _), Nat.sub_self]
    rfl
  rw [e6] at s6
  unfold b_Ways___init__
  rw [seq_nx s1]
  show fin (sSeq _ _ G (cS (s ++ [.ins "Ways" F1]))) = _
  rw [seq_nx s2]
  show fin (sSeq _ _ G (cS (s ++ [.ins "Ways" F2]))) = _
  rw [seq_nx s3]
  show fin (sSeq _ _ G (cS (s ++ [.ins "Ways" F3]))) = _
  rw [seq_nx s4]
  show fin (sSeq _ _ G (cS (s ++ [.ins "Ways" F4]))) = _
  rw [seq_nx s5]
  show fin (sFldC _ _ _ _ G (cS (s ++ [.ins "Ways" F5]))) = _
  rw [s6]
  rfl
theorem count_ends_ok {l : Lg} (hl : l.Ok) {g : List Int} (hg : g.length = l.n) (s : List Cell) : ∃ c : List Cell,
    m_count_ends (K := K) (sa := sa) (ns := ns) (tb := tb) [.v l.d, .v (.list (g.map PyData.int))] (cS s) = some (.ok (.v (.int (cnt l.t (fun _ => outs l.t) g l.left l.pts))), cS (s ++ c)) := by
  let k := s.length
  let s2 : List Cell := s ++ [.ins "Ways" (WF l g (k + 1)), .dN []]
  have ll : l.left.length ≤ 15 := by
    have := hl.split.length_eq
    have p := pairs_len hl.h2 hl.h6
    rw [List.length_append] at this
    omega
  have nd := nodes_le (f := fun _ => outs l.t) (fun _ => (outs_len l.t).2) l.left
  have p3 : 3 ^ l.left.length ≤ 3 ^ 15 := Nat.pow_le_pow_right (by decide) ll
  have e3 : (3 : Nat) ^ 15 = 14348907 := by decide
  have hs : s2[k]? = some (.ins "Ways" (WF l g (k + 1))) := by simp [s2, k]
  have hk : s2[k + 1]? = some (.dN []) := by
    show (s ++ [Cell.ins "Ways" (WF l g (k + 1)), Cell.dN []])[k + 1]? = _
    rw [List.getElem?_append_right (by simp [k])]
    simp [k]
  obtain ⟨kvs', e1, _, _⟩ := many_ok (K := K) (sa := sa) (ns := ns) (tb := tb) hl hg (k := k) (j := k + 1) (by omega) l.left [] rfl 17 (by omega) l.pts (by rw [l.pts_len, hg]) s2 [] hs hk (fun k v hv => by simp [nval] at hv) (by simp; omega)
  refine ⟨[.ins "Ways" (WF l g (k + 1)), .dN kvs'], ?_⟩
  have e2 : s2.set (k + 1) (.dN kvs') = s ++ [.ins "Ways" (WF l g (k + 1)), .dN kvs'] := by
    show (s ++ [Cell.ins "Ways" (WF l g (k + 1)), Cell.dN []]).set (k + 1) (.dN kvs') = _
    rw [List.set_append_right _ _ (by simp [k])]
    simp [k]
  rw [e2] at e1
  rw [q_count_ends]
  refine fin_of ?_
  let G : Ev := [some (.v l.d), some (.v (.list (g.map PyData.int)))]
  show fin (b_count_ends G (cS s)) = _
  have c1 := fn_v (Y := ClY K sa ns tb) (n := 2) (m := m_check_points) (Γ := G) (s := cS s) (ga := gK (gEsc (gV 0)) (gK (gEsc (gV 1)) gN)) (rs := [.v l.d, .v (.list (g.map PyData.int))]) rfl rfl (check_points_eq hl hg (cS s))
  have st1 : sDrop (Y := ClY K sa ns tb) (gFn 2 m_check_points (gK (gEsc (gV 0)) (gK (gEsc (gV 1)) gN))) G (cS s) = some (.nx, G, cS s) := by
    unfold sDrop
    rw [bdS_ok c1]
  have mk : gMk (sa := sa) (ns := ns) (T := tb) (K := K) "Ways" 3 m_Ways___init__ (gK (gEsc (gV 0)) (gK (gEsc (gV 1)) gN)) G (cS s) = some (.ok (.h k), G, cS s2) := by
    refine (bd_ok (a := [R.v l.d, .v (.list (g.map PyData.int))]) (Γ' := G) (s' := cS s) rfl).trans ?_
    show (match m_Ways___init__ (K := K) (sa := sa) (ns := ns) (tb := tb) [.h s.length, .v l.d, .v (.list (g.map PyData.int))] (cS (s ++ [.ins "Ways" []])) with | some (.ok (.v .none), s') => some (Oc.ok (R.h s.length), G, s') | _ => none) = _
    rw [init_ok hl hg s]
  have ia : m_Ways_in_all (K := K) (sa := sa) (ns := ns) (tb := tb) [.h k] (cS s2) = some (.ok (.v (.int (cnt l.t (fun _ => outs l.t) g l.left l.pts))), cS (s ++ [.ins "Ways" (WF l g (k + 1)), .dN kvs'])) := by
    rw [q_Ways_in_all]
    refine fin_of ?_
    let H : Ev := [some (.h k)]
    show fin (b_Ways_in_all H (cS s2)) = _
    have v0 : gV (Y := ClY K sa ns tb) 0 H (cS s2) = some (.ok (.h k), H, cS s2) := rfl
    have mt := meth_v (mn := "many") (n := 3) (m := m_Ways_many (K := K) (sa := sa) (ns := ns) (tb := tb)) (gr := gK (gEsc (gC (.int 0))) (gK (gEsc (gFld "Ways" "had" (gV 0))) gN)) (rs := [.v (.int ((([] : List (Int × Int)).length : Nat) : Int)), .v (.tuple (l.pts.map PyData.int))]) (Γ2 := H) (s2 := s2) v0 hs (wf_many l g (k + 1)) (gk_ok (ga := gEsc (gC (.int 0))) (r := .v (.int 0)) (Γ1 := H) (s1 := cS s2) rfl (gk_ok (gr := gN) (rs := []) (esc_v (fld_d v0 hs (wf_had l g (k + 1)))) rfl)) rfl (by
      rw [q_Ways_many]
      exact e1)
    unfold b_Ways_in_all
    rw [ret_v mt]
    rfl
  have mt := meth_v (mn := "in_all") (n := 1) (m := m_Ways_in_all (K := K) (sa := sa) (ns := ns) (tb := tb)) (gr := gN) (rs := []) (Γ2 := G) (s2 := s2) mk hs (wf_inall l g (k + 1)) rfl rfl ia
  unfold b_count_ends
  rw [seq_nx st1, ret_v mt]
  rfl
end
end FX.Pg
set_option Elab.async false
set_option linter.all false
set_option maxRecDepth 100000
set_option maxHeartbeats 1000000
namespace FX.Pg
open PySem PySem.Spec L2 FX
section
variable {Y : Sys}
def HdE (l : D) (h : List Int) (x2 x3 x4 : Option R) : Ev := [some (.v l), some (.o (.list (h.map PyData.int))), x2, x3, x4]
theorem hd_body (l : D) (t : Bool) (x : Option O3) {p : Int × Int} (h : List Int) (p0 : 0 ≤ p.1) (p1 : p.1 < p.2) (p2 : p.2 < (h.length : Nat)) (s : Y.S) :
    ∃ h' : List Int, h'.length = h.length ∧ l__law_had_1 (Y := Y) (HdE l h (some (.v (.int p.1))) (some (.v (.int p.2))) (some (.v (.list ((optL t x).map (trip t p)))))) s = some (.nx, HdE l h' (some (.v (.int p.1))) (some (.v (.int p.2))) (some (.v (.list ((optL t x).map (trip t p))))), s) := by
  let S : D := .list ((optL t x).map (trip t p))
  let G (h : List Int) : Ev := HdE l h (some (.v (.int p.1))) (some (.v (.int p.2))) (some (.v S))
  have t1 : gTst (Y := Y) (gBin fEq (gCall fLen (gK (gV 4) gN)) (gC (.int 1))) (G h) s = some (.ok (decide (((optL t x).length : Int) = 1)), G h, s) := by
    have c : gCall (Y := Y) fLen (gK (gV 4) gN) (G h) s = some (.ok (.v (.int ((optL t x).length : Nat))), G h, s) := call_ok (z := .nw (.int ((optL t x).length : Nat))) (gk_ok (ga := gV 4) (gr := gN) (rs := []) (r := .v S) rfl rfl) (ds := [S]) rfl (by
      show some (Rz.nw (.int ((((optL t x).map (trip t p)).length : Nat) : Int))) = _
      rw [List.length_map])
    exact tst_of (bin_of (f := fEq) (rb := .v (.int 1)) (z := .nw (.bool _)) c rfl rfl rfl rfl)
  unfold l__law_had_1
  cases x with
  | none =>
    refine ⟨h, rfl, ?_⟩
    have : decide (((optL t none).length : Int) = 1) = false := by
      have := (outs_len t).1
      refine decide_eq_false ?_
      show ¬ (((outs t).length : Nat) : Int) = 1
      omega
    rw [this] at t1
    exact (if_no t1).trans rfl
  | some o =>
    have : decide (((optL t (some o)).length : Int) = 1) = true := rfl
    rw [this] at t1
    let g := addI h p.1 (sh2 t o).1
    have gl : g.length = h.length := addI_len _ _ _
    refine ⟨addI g p.2 (sh2 t o).2, by rw [addI_len, gl], (if_yes t1).trans ?_⟩
    have s2 : sPut (Y := Y) 1 (gV 2) (gBin fAdd (gBin fIx (gV 1) (gV 2)) (gBin fIx (gBin fIx (gV 4) (gC (.int 0))) (gC (.int 1)))) (G h) s = some (.nx, G g, s) := by
      have z1 : gBin (Y := Y) fIx (gV 1) (gV 2) (G h) s = some (.ok (.v (.int (h.getD p.1.toNat 0))), G h, s) := bin_of (f := fIx) (ra := .b 1) (d := .list (h.map PyData.int)) (rb := .v (.int p.1)) (z := .old (.int (h.getD p.1.toNat 0))) rfl rfl rfl rfl (by
        show (match atI (h.map PyData.int) p.1 with | some d => some (Rz.old d) | none => none) = _
        rw [at_in p0 (by omega)])
      have z3 : gBin (Y := Y) fIx (gBin fIx (gV 4) (gC (.int 0))) (gC (.int 1)) (G h) s = some (.ok (.v (.int (sh2 t o).1)), G h, s) := rfl
      have z2 := bin_of (f := fAdd) (z := .nw (.int (h.getD p.1.toNat 0 + (sh2 t o).1))) z1 z3 rfl rfl rfl
      exact put_in z2 rfl rfl p0 (by omega)
    have s3 : sPut (Y := Y) 1 (gV 3) (gBin fAdd (gBin fIx (gV 1) (gV 3)) (gBin fIx (gBin fIx (gV 4) (gC (.int 0))) (gC (.int 2)))) (G g) s = some (.nx, G (addI g p.2 (sh2 t o).2), s) := by
      have z1 : gBin (Y := Y) fIx (gV 1) (gV 3) (G g) s = some (.ok (.v (.int (g.getD p.2.toNat 0))), G g, s) := bin_of (f := fIx) (ra := .b 1) (d := .list (g.map PyData.int)) (rb := .v (.int p.2)) (z := .old (.int (g.getD p.2.toNat 0))) rfl rfl rfl rfl (by
        show (match atI (g.map PyData.int) p.2 with | some d => some (Rz.old d) | none => none) = _
        rw [at_in (h := g) (by omega) (by omega)])
      have z3 : gBin (Y := Y) fIx (gBin fIx (gV 4) (gC (.int 0))) (gC (.int 2)) (G g) s = some (.ok (.v (.int (sh2 t o).2)), G g, s) := rfl
      have z2 := bin_of (f := fAdd) (z := .nw (.int (g.getD p.2.toNat 0 + (sh2 t o).2))) z1 z3 rfl rfl rfl
      exact put_in z2 rfl rfl (by omega) (by omega)
    exact nx_seq s2 s3
theorem hd_loop (l : D) (t : Bool) (f : Int × Int → Option O3) (s : Y.S) : ∀ (ps : List (Int × Int)) (h : List Int) (x2 x3 x4 : Option R), (∀ p ∈ ps, 0 ≤ p.1 ∧ p.1 < p.2 ∧ p.2 < (h.length : Nat)) →
    ∃ (h' : List Int) (y2 y3 y4 : Option R), h'.length = h.length ∧ forG (.t (.cons (.n 2) (.cons (.n 3) (.cons (.n 4) .nil)))) (l__law_had_1 (Y := Y)) (ps.map fun p => optD t p (f p)) (HdE l h x2 x3 x4) s = some (.nx, HdE l h' y2 y3 y4, s)
  | [], h, x2, x3, x4, _ => ⟨h, x2, x3, x4, rfl, rfl⟩
  | p :: ps, h, x2, x3, x4, hp => by
    obtain ⟨p0, p1, p2⟩ := hp p (by simp)
    obtain ⟨h1, l1, e1⟩ := hd_body (Y := Y) l t (f p) h p0 p1 p2 s
    obtain ⟨h2, y2, y3, y4, l2, e2⟩ := hd_loop l t f s ps h1 (some (.v (.int p.1))) (some (.v (.int p.2))) (some (.v (.list ((optL t (f p)).map (trip t p))))) (fun q hq => by rw [l1]; exact hp q (by simp [hq]))
    refine ⟨h2, y2, y3, y4, l2.trans l1, ?_⟩
    rw [List.map_cons, forG_cons (Γ1 := HdE l h (some (.v (.int p.1))) (some (.v (.int p.2))) (some (.v (.list ((optL t (f p)).map (trip t p)))))) rfl, e1]
    exact e2
theorem had_any {l : Lg} (hl : l.Ok) (s : Y.S) : ∃ h : List Int, h.length = l.n ∧ m__law_had [.v l.d] s = some (.ok (.o (.list (h.map PyData.int))), s) := by
  have h6 := hl.h6
  obtain ⟨h, y2, y3, y4, hlen, e⟩ := hd_loop (Y := Y) l.d l.t (lookE l.es) s (pairsI l.n) (List.replicate l.n 0) none none none fun p hp => by rw [List.length_replicate]; exact pairs_mem hl.h2 h6 p hp
  refine ⟨h, by rw [hlen, List.length_replicate], ?_⟩
  rw [q__law_had]
  refine fin_of ?_
  let G (x1 : Option R) : Ev := [some (.v l.d), x1, none, none, none]
  show fin (b__law_had (Y := Y) (G none) s) = _
  have s1 : sSet (Y := Y) 1 (gBin fMul (gLst (gK (gEsc (gC (.int 0))) gN)) (gBin fIx (gV 0) (gC (.int 1)))) (G none) s = some (.nx, HdE l.d (List.replicate l.n 0) none none none, s) := by
    have c := bin_of (Y := Y) (f := fMul) (ga := gLst (gK (gEsc (gC (.int 0))) gN)) (gb := gBin fIx (gV 0) (gC (.int 1))) (ra := .o (.list [.int 0])) (rb := .v (.int (l.n : Nat))) (Γ := G none) (Γ1 := G none) (Γ2 := G none) (s := s) (s1 := s) (s2 := s) (d := .list [.int 0]) (e := .int (l.n : Nat)) (z := .nw (.list ((List.replicate l.n (0 : Int)).map PyData.int))) rfl rfl rfl rfl (by
      show (if (bigI ((l.n : Nat) : Int) && sizeOk ([PyData.int 0].length * ((l.n : Nat) : Int).toNat)) = true then some (Rz.nw (.list (List.replicate ((l.n : Nat) : Int).toNat [PyData.int 0]).flatten)) else none) = _
      have b1 : bigI ((l.n : Nat) : Int) = true := bigI_mk (by omega)
      have b2 : sizeOk ([PyData.int 0].length * ((l.n : Nat) : Int).toNat) = true := by simp [sizeOk]; omega
      rw [b1, b2]
      show some (Rz.nw (.list (List.replicate l.n [PyData.int 0]).flatten)) = _
      congr 3
      simp)
    exact (bdS_ok c).trans rfl
  let G1 : Ev := HdE l.d (List.replicate l.n 0) none none none
  have o1 : gFn (Y := Y) 1 m__law_options (gK (gEsc (gV 0)) gN) G1 s = some (.ok (.o (.list ((pairsI l.n).map fun p => optD l.t p (lookE l.es p)))), G1, s) := fn_o (rs := [.v l.d]) rfl rfl (options_eq hl s)
  have s2 : sFor (Y := Y) (.t (.cons (.n 2) (.cons (.n 3) (.cons (.n 4) .nil)))) (gItL (gFn 1 m__law_options (gK (gEsc (gV 0)) gN))) l__law_had_1 G1 s = some (.nx, HdE l.d h y2 y3 y4, s) := (for_run (itL_o o1)).trans e
  unfold b__law_had
  rw [seq_nx s1, seq_nx s2]
  rfl
end
section
variable {K : PySem.W.Frag} {sa : Addr} {ns : List Int} {tb : List (Addr × Str)}
def PtE (k : Nat) (l : Lg) (h : List Int) (x3 x4 x5 x6 x7 x8 : Option R) : Ev := [some (.h k), some (.v l.d), some (.o (.list (h.map PyData.int))), x3, x4, x5, x6, x7, x8]
theorem add_at {l : Lg} {k : Nat} {h : List Int} {x3 x5 x6 x7 x8 : Option R} {a : Nat} {v : Int} {s s1 : List Cell} {g : GE (ClY K sa ns tb)} (ha : a < h.length) (he : g (PtE k l h x3 (some (.v (.int (a : Nat)))) x5 x6 x7 x8) (cS s) = some (.ok (.v (.int v)), PtE k l h x3 (some (.v (.int (a : Nat)))) x5 x6 x7 x8, cS s1)) :
    ∃ h' : List Int, h'.length = h.length ∧ sPut 2 (gV 4) (gBin fAdd (gBin fIx (gV 2) (gV 4)) g) (PtE k l h x3 (some (.v (.int (a : Nat)))) x5 x6 x7 x8) (cS s) = some (.nx, PtE k l h' x3 (some (.v (.int (a : Nat)))) x5 x6 x7 x8, cS s1) := by
  let G : Ev := PtE k l h x3 (some (.v (.int (a : Nat)))) x5 x6 x7 x8
  have z1 : gBin (Y := ClY K sa ns tb) fIx (gV 2) (gV 4) G (cS s) = some (.ok (.v (.int (h.getD a 0))), G, cS s) := bin_of (f := fIx) (ra := .b 2) (d := .list (h.map PyData.int)) (rb := .v (.int (a : Nat))) (z := .old (.int (h.getD a 0))) rfl rfl rfl rfl (by
    show (match atI (h.map PyData.int) ((a : Nat) : Int) with | some d => some (Rz.old d) | none => none) = _
    rw [at_in (by omega) (by omega)]
    rfl)
  have z2 := bin_of (f := fAdd) (z := .nw (.int (h.getD a 0 + v))) z1 he rfl rfl rfl
  refine ⟨h.set a (h.getD a 0 + v), by simp, ?_⟩
  exact put_run (j := a) z2 rfl rfl (by
    unfold ixN
    have : ((a : Nat) : Int) < ((h.length : Nat) : Int) := by omega
    simp [this])
theorem points_ok {k : Nat} {l : Lg} (hl : l.Ok) {s : List Cell} (hs : StD s k) : ∃ (h : List Int) (s' : List Cell), h.length = l.n ∧ StD s' k ∧
    m__law_points (K := K) (sa := sa) (ns := ns) (tb := tb) [.h k, .v l.d] (cS s) = some (.ok (.o (.list (h.map PyData.int))), cS s') := by
  have n2 := hl.h2
  have n6 := hl.h6
  let G (x2 x3 x4 x5 x6 x7 x8 : Option R) : Ev := [some (.h k), some (.v l.d), x2, x3, x4, x5, x6, x7, x8]
  obtain ⟨Z, s1, fZ, h1, e1⟩ := drawn_ok (K := K) (sa := sa) (ns := ns) (tb := tb) hl hs
  obtain ⟨eok, ees, ed⟩ := fZ.sub hl (List.Sublist.refl Z)
  rw [← ed] at e1
  obtain ⟨h0, hl0, e0⟩ := had_any (Y := ClY K sa ns tb) eok (cS s1)
  have hn0 : h0.length = l.n := hl0
  have a1 := fn_v (Y := ClY K sa ns tb) (n := 2) (m := m__law_drawn_end) (Γ := G none none none none none none none) (Γ' := G none none none none none none none) (s := cS s) (s' := cS s) (ga := gK (gEsc (gV 0)) (gK (gEsc (gV 1)) gN)) (rs := [.h k, .v l.d]) rfl rfl e1
  have t1 : sSet (Y := ClY K sa ns tb) 2 (gFn 1 m__law_had (gK (gEsc (gFn 2 m__law_drawn_end (gK (gEsc (gV 0)) (gK (gEsc (gV 1)) gN)))) gN)) (G none none none none none none none) (cS s) = some (.nx, PtE k l h0 none none none none none none, cS s1) :=
    set_o (i := 2) (fn_o (gk_ok (gr := gN) (rs := []) (esc_v a1) rfl) rfl e0)
  let N : Option R := some (.v (.int (l.n : Nat)))
  have t2 : sSet (Y := ClY K sa ns tb) 3 (gBin fIx (gV 1) (gC (.int 1))) (PtE k l h0 none none none none none none) (cS s1) = some (.nx, PtE k l h0 N none none none none none, cS s1) := rfl
  obtain ⟨a, s2, ha, h2, e2⟩ := takeDE (K := K) (sa := sa) (ns := ns) (tb := tb) (Γ := PtE k l h0 N none none none none none) (j := 0) rfl h1 (g := gV 3) (m := (l.n : Nat)) rfl (by omega)
  let A : Option R := some (.v (.int (a : Nat)))
  have t3 : sSet (Y := ClY K sa ns tb) 4 (Td 0 (gV 3)) (PtE k l h0 N none none none none none) (cS s1) = some (.nx, PtE k l h0 N A none none none none, cS s2) := set_v (i := 4) e2
  obtain ⟨b, s3, hb, h3, e3⟩ := takeDE (K := K) (sa := sa) (ns := ns) (tb := tb) (Γ := PtE k l h0 N A none none none none) (j := 0) rfl h2 (g := gV 3) (m := (l.n : Nat)) rfl (by omega)
  let B : Option R := some (.v (.int (b : Nat)))
  have t4 : sSet (Y := ClY K sa ns tb) 5 (Td 0 (gV 3)) (PtE k l h0 N A none none none none) (cS s2) = some (.nx, PtE k l h0 N A B none none none, cS s3) := set_v (i := 5) e3
  obtain ⟨x, v, s4, _, h4, e4⟩ := pickDE (K := K) (sa := sa) (ns := ns) (tb := tb) (j := 0) (k := k) (s := s3) (s1 := s3) (Γ := PtE k l h0 N A B none none none) (Γ1 := PtE k l h0 N A B none none none) (ga := gLst (gK (gEsc (gC (.int 1))) (gK (gEsc (gC (.int 1))) (gK (gEsc (gC (.int 2))) (gK (gEsc (gBin fPow (gC (.int 10)) (gC (.int 25)))) gN))))) (r := .o (.list ([1, 1, 2, 10 ^ 25].map PyData.int))) rfl h3 (g := gC (.int 4)) (L := [1, 1, 2, 10 ^ 25]) (f := PyData.int) rfl rfl rfl (by simp)
  let V : Option R := some (.v (.int v))
  have t5 := set_v (i := 6) e4
  obtain ⟨wy, s5, hw, h5, e5⟩ := takeDE (K := K) (sa := sa) (ns := ns) (tb := tb) (Γ := PtE k l h0 N A B V none none) (j := 0) rfl h4 (g := gC (.int 8)) (m := 8) rfl (by decide)
  let Wy : Option R := some (.v (.int (wy : Nat)))
  have t6 : sSet (Y := ClY K sa ns tb) 7 (Td 0 (gC (.int 8))) (PtE k l h0 N A B V none none) (cS s4) = some (.nx, PtE k l h0 N A B V Wy none, cS s5) := set_v (i := 7) e5
  -- a point from one to another
  obtain ⟨ha1, t7⟩ : ∃ ha1 : {h : List Int // h.length = l.n}, sIf (Y := ClY K sa ns tb) (gTst (gBin fIn2 (gV 7) (FX.gTup (gK (gEsc (gC (.int 4))) (gK (gEsc (gC (.int 5))) gN))))) (sSeq (sPut 2 (gV 4) (gBin fAdd (gBin fIx (gV 2) (gV 4)) (gV 6))) (sPut 2 (gV 5) (gBin fSub (gBin fIx (gV 2) (gV 5)) (gV 6)))) sNil (PtE k l h0 N A B V Wy none) (cS s5) = some (.nx, PtE k l ha1.1 N A B V Wy none, cS s5) := by
    have tt : gTst (Y := ClY K sa ns tb) (gBin fIn2 (gV 7) (FX.gTup (gK (gEsc (gC (.int 4))) (gK (gEsc (gC (.int 5))) gN)))) (PtE k l h0 N A B V Wy none) (cS s5) = some (.ok (decide ((4 : Int) = (wy : Nat)) || decide ((5 : Int) = (wy : Nat))), PtE k l h0 N A B V Wy none, cS s5) := tst_of (bin_of (ra := .v (.int (wy : Nat))) (rb := .v (prD (4, 5))) (d := .int (wy : Nat)) (e := prD (4, 5)) (z := .nw (.bool _)) rfl rfl rfl rfl (in_pr _ (4, 5)))
    cases hc : (decide ((4 : Int) = (wy : Nat)) || decide ((5 : Int) = (wy : Nat))) with
    | false =>
      rw [hc] at tt
      exact ⟨⟨h0, hn0⟩, (if_no tt).trans rfl⟩
    | true =>
      rw [hc] at tt
      obtain ⟨h', l', e⟩ := add_at (K := K) (sa := sa) (ns := ns) (tb := tb) (k := k) (l := l) (h := h0) (x3 := N) (x5 := B) (x6 := V) (x7 := Wy) (x8 := none) (a := a) (v := v) (s := s5) (s1 := s5) (g := gV 6) (by omega) rfl
      let G1 : Ev := PtE k l h' N A B V Wy none
      have z1 : gBin (Y := ClY K sa ns tb) fIx (gV 2) (gV 5) G1 (cS s5) = some (.ok (.v (.int (h'.getD b 0))), G1, cS s5) := bin_of (f := fIx) (ra := .b 2) (d := .list (h'.map PyData.int)) (rb := .v (.int (b : Nat))) (z := .old (.int (h'.getD b 0))) rfl rfl rfl rfl (by
        show (match atI (h'.map PyData.int) ((b : Nat) : Int) with | some d => some (Rz.old d) | none => none) = _
        rw [at_in (by omega) (by omega)]
        rfl)
      have z2 := bin_of (f := fSub) (gb := gV 6) (rb := .v (.int v)) (z := .nw (.int (h'.getD b 0 - v))) z1 rfl rfl rfl rfl
      have e' := put_run (k := 2) (gk := gV 5) (j := b) z2 rfl rfl (by
        unfold ixN
        have : ((b : Nat) : Int) < ((h'.length : Nat) : Int) := by omega
        simp [this])
      exact ⟨⟨h'.set b (h'.getD b 0 - v), by simp; omega⟩, (if_yes tt).trans (nx_seq e e')⟩
  obtain ⟨hb1, hbl⟩ := ha1
  -- one more or fewer
  obtain ⟨hc1, s6, hcl, h6, t8⟩ : ∃ (hc1 : List Int) (s6 : List Cell), hc1.length = l.n ∧ StD s6 k ∧ sIf (Y := ClY K sa ns tb) (gTst (gBin fEq (gV 7) (gC (.int 6)))) (sPut 2 (gV 4) (gBin fAdd (gBin fIx (gV 2) (gV 4)) (gBin fIx (gLst (gK (gEsc (gV 6)) (gK (gEsc (gBin fSub (gC (.int 0)) (gV 6))) gN))) (Td 0 (gC (.int 2)))))) sNil (PtE k l hb1 N A B V Wy none) (cS s5) = some (.nx, PtE k l hc1 N A B V Wy none, cS s6) := by
    have tt : gTst (Y := ClY K sa ns tb) (gBin fEq (gV 7) (gC (.int 6))) (PtE k l hb1 N A B V Wy none) (cS s5) = some (.ok (decide (((wy : Nat) : Int) = 6)), PtE k l hb1 N A B V Wy none, cS s5) := tst_of (bin_of (f := fEq) (ra := .v (.int (wy : Nat))) (rb := .v (.int 6)) (z := .nw (.bool _)) rfl rfl rfl rfl rfl)
    cases hc : decide (((wy : Nat) : Int) = 6) with
    | false =>
      rw [hc] at tt
      exact ⟨hb1, s5, hbl, h5, (if_no tt).trans rfl⟩
    | true =>
      rw [hc] at tt
      obtain ⟨_, w, s6, _, h6, e6⟩ := pickDE (K := K) (sa := sa) (ns := ns) (tb := tb) (j := 0) (k := k) (s := s5) (s1 := s5) (Γ := PtE k l hb1 N A B V Wy none) (Γ1 := PtE k l hb1 N A B V Wy none) (ga := gLst (gK (gEsc (gV 6)) (gK (gEsc (gBin fSub (gC (.int 0)) (gV 6))) gN))) (r := .o (.list ([v, 0 - v].map PyData.int))) rfl h5 (g := gC (.int 2)) (L := [v, 0 - v]) (f := PyData.int) rfl rfl rfl (by simp)
      obtain ⟨h', l', e⟩ := add_at (K := K) (sa := sa) (ns := ns) (tb := tb) (k := k) (l := l) (h := hb1) (x3 := N) (x5 := B) (x6 := V) (x7 := Wy) (x8 := none) (a := a) (by omega) e6
      exact ⟨h', s6, l'.trans hbl, h6, (if_yes tt).trans e⟩
  -- any
  obtain ⟨hd1, s7, G7, hdl, h7, g2, t9⟩ : ∃ (hd1 : List Int) (s7 : List Cell) (G7 : Ev), hd1.length = l.n ∧ StD s7 k ∧ G7[2]? = some (some (.o (.list (hd1.map PyData.int)))) ∧ sIf (Y := ClY K sa ns tb) (gTst (gBin fEq (gV 7) (gC (.int 7)))) (sSet 2 (gComp (.n 8) [8] (gRg1 (gK (gV 3) gN)) gYes e__law_points_1)) sNil (PtE k l hc1 N A B V Wy none) (cS s6) = some (.nx, G7, cS s7) := by
    have tt : gTst (Y := ClY K sa ns tb) (gBin fEq (gV 7) (gC (.int 7))) (PtE k l hc1 N A B V Wy none) (cS s6) = some (.ok (decide (((wy : Nat) : Int) = 7)), PtE k l hc1 N A B V Wy none, cS s6) := tst_of (bin_of (f := fEq) (ra := .v (.int (wy : Nat))) (rb := .v (.int 7)) (z := .nw (.bool _)) rfl rfl rfl rfl rfl)
    cases hc : decide (((wy : Nat) : Int) = 7) with
    | false =>
      rw [hc] at tt
      exact ⟨hc1, s6, PtE k l hc1 N A B V Wy none, hcl, h6, rfl, (if_no tt).trans rfl⟩
    | true =>
      rw [hc] at tt
      have cp : ∀ (m : Nat) (lo : Nat) (acc : List Int) (s : List Cell) (x8 : Option R), StD s k → acc.length + m ≤ 1000 → ∃ (r : List Int) (s' : List Cell) (y8 : Option R), r.length = m ∧ StD s' k ∧
          compG (.n 8) [8] gYes (e__law_points_1 (K := K) (sa := sa) (ns := ns) (tb := tb)) ((List.range' lo m).map fun i => PyData.int (i : Nat)) (acc.map PyData.int) (PtE k l hc1 N A B V Wy x8) (cS s) = some ((acc ++ r).map PyData.int, PtE k l hc1 N A B V Wy y8, cS s') := by
        intro m
        induction m with
        | zero => intro lo acc s x8 hs _; exact ⟨[], s, x8, rfl, hs, by simp [compG]⟩
        | succ m ih =>
          intro lo acc s x8 hs hz
          let Gi : Ev := PtE k l hc1 N A B V Wy (some (.v (.int (lo : Nat))))
          obtain ⟨q, s', hq, hs', e⟩ := takeDE (K := K) (sa := sa) (ns := ns) (tb := tb) (Γ := Gi) (j := 0) rfl hs (g := gC (.int 12)) (m := 12) rfl (by decide)
          have c : e__law_points_1 (K := K) (sa := sa) (ns := ns) (tb := tb) Gi (cS s) = some (.ok (.v (.int ((q : Nat) - 1))), Gi, cS s') := esc_v (bin_of (f := fSub) (gb := gC (.int 1)) (rb := .v (.int 1)) (z := .nw (.int ((q : Nat) - 1))) e rfl rfl rfl rfl)
          obtain ⟨r, s'', y8, lr, hs'', e2⟩ := ih (lo + 1) (acc ++ [((q : Nat) : Int) - 1]) s' (some (.v (.int (lo : Nat)))) hs' (by simp; omega)
          refine ⟨(((q : Nat) : Int) - 1) :: r, s'', y8, by simp [lr], hs'', ?_⟩
          have b : bindT (.n 8) (.int (lo : Nat)) (wipeE (PtE k l hc1 N A B V Wy x8) [8]) = some Gi := rfl
          have za : sizeOk (acc.map PyData.int).length = true := sizeOk_true (by simp; omega)
          rw [List.range'_succ, List.map_cons]
          unfold compG
          simp only [b, gYes, c, za, if_true]
          rw [List.map_append] at e2
          rw [show acc ++ (((q : Nat) : Int) - 1) :: r = (acc ++ [((q : Nat) : Int) - 1]) ++ r from by simp]
          exact e2
      obtain ⟨r, s7, y8, lr, h7, e7⟩ := cp l.n 0 [] s6 none h6 (by simp; omega)
      have it : gRg1 (Y := ClY K sa ns tb) (gK (gV 3) gN) (PtE k l hc1 N A B V Wy none) (cS s6) = some (.ok ((List.range' 0 l.n).map fun i => PyData.int (i : Nat)), PtE k l hc1 N A B V Wy none, cS s6) := by
        refine (bd_ok (gk_ok (ga := gV 3) (gr := gN) (rs := []) (r := .v (.int (l.n : Nat))) rfl rfl)).trans ?_
        show (if bigI (l.n : Nat) = true then some (Oc.ok (rangeD 0 ((l.n : Nat) : Int).toNat), PtE k l hc1 N A B V Wy none, cS s6) else none) = _
        rw [if_pos (bigI_mk (by omega))]
        show some (Oc.ok ((List.range l.n).map fun i => PyData.int (0 + (i : Nat))), PtE k l hc1 N A B V Wy none, cS s6) = _
        rw [List.range_eq_range']
        congr 3
        exact List.map_congr_left fun q _ => by rw [Int.zero_add]
      have cc := gComp_of (Y := ClY K sa ns tb) (own := [8]) it e7
      rw [List.nil_append] at cc
      refine ⟨r, s7, _, lr, h7, ?_, (if_yes tt).trans (set_o (i := 2) cc)⟩
      rfl
  refine ⟨hd1, s7, hdl, h7, ?_⟩
  rw [q__law_points]
  refine fin_of ?_
  show fin (b__law_points (G none none none none none none none) (cS s)) = _
  have fin9 : sRet (Y := ClY K sa ns tb) (gV 2) G7 (cS s7) = some (.rt (.o (.list (hd1.map PyData.int))), G7, cS s7) := by
    have v : gV (Y := ClY K sa ns tb) 2 G7 (cS s7) = some (.ok (.b 2), G7, cS s7) := by
      unfold gV
      rw [g2]
    unfold sRet
    rw [bdS_ok v]
    simp only [g2]
  unfold b__law_points
  exact congrArg fin (nx_seq t1 (nx_seq t2 (nx_seq t3 (nx_seq t4 (nx_seq t5 (nx_seq t6 (nx_seq t7 (nx_seq t8 (nx_seq t9 fin9)))))))))
end
end FX.Pg
set_option Elab.async false
set_option linter.all false
set_option maxRecDepth 100000
set_option maxHeartbeats 800000
namespace FX.K14
open PySem PySem.Spec L2 FX FX.Pg
theorem ne_lg (l : Lg) : fNe l.d l.d = some (.nw (.bool false)) := by
  simp [fNe, sh_lg, eqv_lg]
theorem ne_ints (h : List Int) : fNe (.list (h.map PyData.int)) (.list (h.map PyData.int)) = some (.nw (.bool false)) := by
  simp [fNe, sh_ints, eqv_ints]
theorem rg_succ (lo m : Nat) : rangeD (lo : Nat) (m + 1) = .int (lo : Nat) :: rangeD ((lo + 1 : Nat) : Int) m := by
  unfold rangeD
  rw [List.range_succ_eq_map, List.map_cons, List.map_map]
  simp only [Int.natCast_zero, Int.add_zero, List.cons.injEq, true_and, List.map_inj_left, Function.comp]
  intro a _
  rw [show ((lo : Nat) : Int) + ((a.succ : Nat) : Int) = ((lo + 1 : Nat) : Int) + (a : Nat) by omega]
section
variable {K : PySem.W.Frag} {sa : Addr} {ns : List Int} {tb : List (Addr × Str)}
theorem StD.more {s : List Cell} {k : Nat} (h : StD s k) (c : List Cell) : StD (s ++ c) k := by
  obtain ⟨ds, q, e, p⟩ := h
  exact ⟨ds, q, by rw [List.getElem?_append_left (List.getElem?_eq_some_iff.mp e).1]; exact e, p⟩
def TL (x2 x3 x4 x5 x6 x7 x8 x9 : Option R) : Ev := [some (.raw (.ref sa)), some (.h 0), x2, x3, x4, x5, x6, x7, x8, x9]
def Lo (g : List Int) (x : Option R) : Prop := x = some (.o (.list (g.map PyData.int))) ∨ x = some (.v (.list (g.map PyData.int)))
theorem again_loop (x2 : Option R) {l : Lg} (hl : l.Ok) {g : List Int} (hg : g.length = l.n) : ∀ (ds : List D) (x6 x8 x9 : Option R) {s : List Cell} (hs : StD s 0) (h6 : Lo g x6),
    ∃ (s' : List Cell) (y6 y8 y9 : Option R), StD s' 0 ∧ Lo g y6 ∧ forG (.n 8) (l_law_1 (K := K) (sa := sa) (ns := ns) (tb := tb)) ds (TL (sa := sa) x2 (some (.v l.d)) (some (.v (.list (g.map PyData.int)))) (some (.v l.d)) x6 (some (.v (.int (cnt l.t (fun _ => outs l.t) g l.left l.pts)))) x8 x9) (cS s)
      = some (.nx, TL (sa := sa) x2 (some (.v l.d)) (some (.v (.list (g.map PyData.int)))) (some (.v l.d)) y6 (some (.v (.int (cnt l.t (fun _ => outs l.t) g l.left l.pts)))) y8 y9, cS s')
  | [], x6, x8, x9, s, hs, h6 => ⟨s, x6, x8, x9, hs, h6, rfl⟩
  | d :: ds, x6, x8, x9, s, hs, h6 => by
    let N : Int := cnt l.t (fun _ => outs l.t) g l.left l.pts
    let L : D := .list (g.map PyData.int)
    let G (x6 x8 x9 : Option R) : Ev := TL (sa := sa) x2 (some (.v l.d)) (some (.v L)) (some (.v l.d)) x6 (some (.v (.int N))) x8 x9
    let V6 : Option R := some (.v L)
    obtain ⟨c, ec⟩ := count_ends_ok (K := K) (sa := sa) (ns := ns) (tb := tb) hl hg s
    have a6 : gEsc (Y := ClY K sa ns tb) (gV 6) (G x6 (some (.v d)) x9) (cS s) = some (.ok (.v L), G V6 (some (.v d)) x9, cS s) := by
      rcases h6 with rfl | rfl <;> rfl
    have s1 : sSet (Y := ClY K sa ns tb) 9 (gFn 2 Pg.m_count_ends (gK (gEsc (gV 5)) (gK (gEsc (gV 6)) gN))) (G x6 (some (.v d)) x9) (cS s) = some (.nx, G V6 (some (.v d)) (some (.v (.int N))), cS (s ++ c)) :=
      set_v (i := 9) (Γ' := G V6 (some (.v d)) x9) (fn_v (gk_ok (ga := gEsc (gV 5)) (r := .v l.d) (Γ1 := G x6 (some (.v d)) x9) (s1 := cS s) rfl (gk_ok (gr := gN) (rs := []) a6 rfl)) rfl ec)
    let H : Ev := G V6 (some (.v d)) (some (.v (.int N)))
    have k1 : kitB "int" "int" = some true := by decide +kernel
    have k2 : kitB "int" "bool" = some false := by decide +kernel
    have i1 : gTst (Y := ClY K sa ns tb) (gIsI "int" (gV 9)) H (cS (s ++ c)) = some (.ok true, H, cS (s ++ c)) := by
      refine tst_of ?_
      unfold gIsI
      rw [bd_ok (Y := ClY K sa ns tb) (a := .v (.int N)) (Γ' := H) (s' := cS (s ++ c)) rfl]
      have e : isI (.int N) "int" = some true := k1
      show (match isI (.int N) "int" with | some b => some (Oc.ok (R.v (.bool b)), H, cS (s ++ c)) | none => none) = _
      rw [e]
    have i2 : gTst (Y := ClY K sa ns tb) (gIsI "bool" (gV 9)) H (cS (s ++ c)) = some (.ok false, H, cS (s ++ c)) := by
      refine tst_of ?_
      unfold gIsI
      rw [bd_ok (Y := ClY K sa ns tb) (a := .v (.int N)) (Γ' := H) (s' := cS (s ++ c)) rfl]
      have e : isI (.int N) "bool" = some false := k2
      show (match isI (.int N) "bool" with | some b => some (Oc.ok (R.v (.bool b)), H, cS (s ++ c)) | none => none) = _
      rw [e]
    have i3 : gTst (Y := ClY K sa ns tb) (gBin fNe (gV 9) (gV 7)) H (cS (s ++ c)) = some (.ok false, H, cS (s ++ c)) := tst_of (bin_of (f := fNe) (ra := .v (.int N)) (rb := .v (.int N)) (z := .nw (.bool false)) rfl rfl rfl rfl (by simp [fNe, shI, PyData.eqv]))
    have s2 : sIf (Y := ClY K sa ns tb) (gOr (gNot (gTst (gIsI "int" (gV 9)))) (gOr (gTst (gIsI "bool" (gV 9))) (gTst (gBin fNe (gV 9) (gV 7))))) (sRet (gC (.bool false))) sNil H (cS (s ++ c)) = some (.nx, H, cS (s ++ c)) := (if_no (or_f (not_ok i1) (or_f i2 i3))).trans rfl
    obtain ⟨s', y6, y8, y9, hs', hy, e⟩ := again_loop x2 hl hg ds V6 (some (.v d)) (some (.v (.int N))) (StD.more hs c) (.inr rfl)
    refine ⟨s', y6, y8, y9, hs', hy, ?_⟩
    have body : l_law_1 (K := K) (sa := sa) (ns := ns) (tb := tb) (G x6 (some (.v d)) x9) (cS s) = some (.nx, H, cS (s ++ c)) := by
      unfold l_law_1
      exact nx_seq s1 s2
    rw [forG_cons (Γ1 := G x6 (some (.v d)) x9) rfl, body]
    exact e
theorem turn_ok (tn : Int) (x3 x4 x5 x6 x7 x8 x9 : Option R) {s : List Cell} (h : StD s 0) :
    ∃ (s' : List Cell) (y3 y4 y5 y6 y7 y8 y9 : Option R), StD s' 0 ∧ l_law_2 (K := K) (sa := sa) (ns := ns) (tb := tb) (TL (sa := sa) (some (.v (.int tn))) x3 x4 x5 x6 x7 x8 x9) (cS s) = some (.nx, TL (sa := sa) (some (.v (.int tn))) y3 y4 y5 y6 y7 y8 y9, cS s') := by
  let T : Option R := some (.v (.int tn))
  obtain ⟨l, s1, hl, h1, e1⟩ := leagueD_ok (K := K) (sa := sa) (ns := ns) (tb := tb) h
  have a1 : ∀ x3 x4 x5 x6 x7 x8 x9 (s : List Cell), gEsc (Y := ClY K sa ns tb) (gV 1) (TL (sa := sa) T x3 x4 x5 x6 x7 x8 x9) (cS s) = some (.ok (.h 0), TL (sa := sa) T x3 x4 x5 x6 x7 x8 x9, cS s) := fun _ _ _ _ _ _ _ _ => esc_h rfl
  have t1 : sSet (Y := ClY K sa ns tb) 3 (gFn 1 Pg.m__law_league (gK (gEsc (gV 1)) gN)) (TL (sa := sa) T x3 x4 x5 x6 x7 x8 x9) (cS s) = some (.nx, TL (sa := sa) T (some (.v l.d)) x4 x5 x6 x7 x8 x9, cS s1) := set_v (i := 3) (Γ' := TL (sa := sa) T x3 x4 x5 x6 x7 x8 x9) (fn_v (gk_ok (gr := gN) (rs := []) (a1 _ _ _ _ _ _ _ _) rfl) rfl e1)
  obtain ⟨g, s2, hg, h2, e2⟩ := points_ok (K := K) (sa := sa) (ns := ns) (tb := tb) hl h1
  let D' : Option R := some (.v l.d)
  let L : D := .list (g.map PyData.int)
  have t2 : sSet (Y := ClY K sa ns tb) 4 (gFn 2 Pg.m__law_points (gK (gEsc (gV 1)) (gK (gEsc (gV 3)) gN))) (TL (sa := sa) T D' x4 x5 x6 x7 x8 x9) (cS s1) = some (.nx, TL (sa := sa) T D' (some (.o L)) x5 x6 x7 x8 x9, cS s2) := set_o (i := 4) (Γ' := TL (sa := sa) T D' x4 x5 x6 x7 x8 x9) (fn_o (gk_ok (a1 _ _ _ _ _ _ _ _) (gk_ok (gr := gN) (rs := []) (esc_v (d := l.d) rfl) rfl)) rfl e2)
  have t3 : sSet (Y := ClY K sa ns tb) 5 (gFn 1 Pg.m__law_copy (gK (gEsc (gV 3)) gN)) (TL (sa := sa) T D' (some (.o L)) x5 x6 x7 x8 x9) (cS s2) = some (.nx, TL (sa := sa) T D' (some (.o L)) D' x6 x7 x8 x9, cS s2) := set_v (i := 5) (Γ' := TL (sa := sa) T D' (some (.o L)) x5 x6 x7 x8 x9) (fn_v (gk_ok (gr := gN) (rs := []) (esc_v (d := l.d) rfl) rfl) rfl (copyD_eq l _))
  have t4 : sSet (Y := ClY K sa ns tb) 6 (gCall fList (gK (gV 4) gN)) (TL (sa := sa) T D' (some (.o L)) D' x6 x7 x8 x9) (cS s2) = some (.nx, TL (sa := sa) T D' (some (.o L)) D' (some (.o L)) x7 x8 x9, cS s2) := rfl
  obtain ⟨c, e5⟩ := law_many_ok (K := K) (sa := sa) (ns := ns) (tb := tb) hl hg s2
  let N : Int := cnt l.t (fun _ => outs l.t) g l.left l.pts
  have t5 : sSet (Y := ClY K sa ns tb) 7 (gFn 2 Pg.m__law_many (gK (gEsc (gV 3)) (gK (gEsc (gV 4)) gN))) (TL (sa := sa) T D' (some (.o L)) D' (some (.o L)) x7 x8 x9) (cS s2) = some (.nx, TL (sa := sa) T D' (some (.v L)) D' (some (.o L)) (some (.v (.int N))) x8 x9, cS (s2 ++ [c])) :=
    set_v (i := 7) (Γ' := TL (sa := sa) T D' (some (.v L)) D' (some (.o L)) x7 x8 x9) (fn_v (gk_ok (ga := gEsc (gV 3)) (r := .v l.d) (Γ1 := TL (sa := sa) T D' (some (.o L)) D' (some (.o L)) x7 x8 x9) (s1 := cS s2) rfl (gk_ok (ga := gEsc (gV 4)) (gr := gN) (rs := []) (r := .v L) (Γ1 := TL (sa := sa) T D' (some (.v L)) D' (some (.o L)) x7 x8 x9) (s1 := cS s2) rfl rfl)) rfl e5)
  obtain ⟨s6, y6, y8, y9, h6, hy, e6⟩ := again_loop (K := K) (sa := sa) (ns := ns) (tb := tb) T hl hg (rangeD 0 2) (some (.o L)) x8 x9 (StD.more h2 [c]) (.inl rfl)
  have it : gRg1 (Y := ClY K sa ns tb) (gK (gC (.int 2)) gN) (TL (sa := sa) T D' (some (.v L)) D' (some (.o L)) (some (.v (.int N))) x8 x9) (cS (s2 ++ [c])) = some (.ok (rangeD 0 2), TL (sa := sa) T D' (some (.v L)) D' (some (.o L)) (some (.v (.int N))) x8 x9, cS (s2 ++ [c])) := rfl
  have t6 : sFor (Y := ClY K sa ns tb) (.n 8) (gRg1 (gK (gC (.int 2)) gN)) l_law_1 (TL (sa := sa) T D' (some (.v L)) D' (some (.o L)) (some (.v (.int N))) x8 x9) (cS (s2 ++ [c])) = some (.nx, TL (sa := sa) T D' (some (.v L)) D' y6 (some (.v (.int N))) y8 y9, cS s6) := (for_run it).trans e6
  let H : Ev := TL (sa := sa) T D' (some (.v L)) D' y6 (some (.v (.int N))) y8 y9
  have b1 : gTst (Y := ClY K sa ns tb) (gBin fNe (gV 5) (gV 3)) H (cS s6) = some (.ok false, H, cS s6) := tst_of (bin_of (f := fNe) (ra := .v l.d) (rb := .v l.d) (z := .nw (.bool false)) rfl rfl rfl rfl (ne_lg l))
  have b2 : gTst (Y := ClY K sa ns tb) (gBin fNe (gV 6) (gV 4)) H (cS s6) = some (.ok false, H, cS s6) := by
    rcases hy with rfl | rfl
    · exact tst_of (bin_of (f := fNe) (ra := .b 6) (rb := .v L) (d := L) (e := L) (Γ1 := H) (Γ2 := H) (s1 := cS s6) (s2 := cS s6) (z := .nw (.bool false)) rfl rfl rfl rfl (ne_ints g))
    · exact tst_of (bin_of (f := fNe) (ra := .v L) (rb := .v L) (d := L) (e := L) (Γ1 := H) (Γ2 := H) (s1 := cS s6) (s2 := cS s6) (z := .nw (.bool false)) rfl rfl rfl rfl (ne_ints g))
  refine ⟨s6, D', some (.v L), D', y6, some (.v (.int N)), y8, y9, h6, ?_⟩
  unfold l_law_2
  exact nx_seq t1 (nx_seq t2 (nx_seq t3 (nx_seq t4 (nx_seq t5 (nx_seq t6 ((if_no (or_f b1 b2)).trans rfl))))))
theorem turns : ∀ (m lo : Nat) (x2 x3 x4 x5 x6 x7 x8 x9 : Option R) {s : List Cell} (h : StD s 0),
    ∃ (s' : List Cell) (Γ' : Ev), forG (.n 2) (l_law_2 (K := K) (sa := sa) (ns := ns) (tb := tb)) (rangeD (lo : Nat) m) (TL (sa := sa) x2 x3 x4 x5 x6 x7 x8 x9) (cS s) = some (.nx, Γ', cS s')
  | 0, lo, x2, x3, x4, x5, x6, x7, x8, x9, s, h => ⟨s, _, rfl⟩
  | m + 1, lo, x2, x3, x4, x5, x6, x7, x8, x9, s, h => by
    obtain ⟨s1, y3, y4, y5, y6, y7, y8, y9, h1, e1⟩ := turn_ok (K := K) (sa := sa) (ns := ns) (tb := tb) (lo : Nat) x3 x4 x5 x6 x7 x8 x9 h
    obtain ⟨s2, Γ', e2⟩ := turns m (lo + 1) (some (.v (.int (lo : Nat)))) y3 y4 y5 y6 y7 y8 y9 h1
    refine ⟨s2, Γ', ?_⟩
    rw [rg_succ, forG_cons (Γ1 := TL (sa := sa) (some (.v (.int (lo : Nat)))) x3 x4 x5 x6 x7 x8 x9) rfl, e1]
    exact e2
theorem lstR {Y : Sys} {Γ Γ' : Ev} {s s' : Y.S} {gr : GA Y} {rs : List R} {ds : List D} (h : gr Γ s = some (.ok rs, Γ', s')) (e : vs? rs = some ds) (hz : sizeOk ds.length = true) : gLst gr Γ s = some (.ok (.o (.list ds)), Γ', s') := by
  unfold gLst
  rw [bd_ok h]
  simp only [e, hz, if_true]
theorem law_true (ns : List Int) (hn : ns.length ≤ 63) : ∃ s', m_law (K := K) (sa := sa) (ns := ns) (tb := tb) [.raw (.ref sa)] ([] : List Cell) = some (.ok (.v (.bool true)), s') := by
  rw [q_law]
  obtain ⟨ds, hd, e0⟩ := draws_ok (K := K) (sa := sa) (ns := ns) (tb := tb) hn 600 (by decide) (by decide) []
  let I : Ev := [some (.raw (.ref sa)), none, none, none, none, none, none, none, none, none]
  let s0 : List Cell := [.lst [.list (ds.map PyData.int), .int ((0 : Nat) : Int)]]
  have h0 : StD s0 0 := ⟨ds, 0, rfl, hd⟩
  have v0 : gEsc (Y := ClY K sa ns tb) (gV 0) I (cS []) = some (.ok (.raw (.ref sa)), I, cS []) := rfl
  have a1 : gFn (Y := ClY K sa ns tb) 2 Pg.m__law_draws (gK (gEsc (gV 0)) (gK (gEsc (gC (.int 600))) gN)) I (cS []) = some (.ok (.o (.list (ds.map PyData.int))), I, cS []) := fn_o (gk_ok v0 (gk_ok (gr := gN) (esc_v (d := .int 600) rfl) rfl)) rfl e0
  have a2 : gLst (Y := ClY K sa ns tb) (gK (gEsc (gFn 2 Pg.m__law_draws (gK (gEsc (gV 0)) (gK (gEsc (gC (.int 600))) gN)))) (gK (gEsc (gC (.int 0))) gN)) I (cS []) = some (.ok (.o (.list [.list (ds.map PyData.int), .int 0])), I, cS []) := lstR (gk_ok (esc_o a1) (gk_ok (gr := gN) (esc_v (d := .int 0) rfl) rfl)) rfl rfl
  have s1 : sSet (Y := ClY K sa ns tb) 1 (gCell (gLst (gK (gEsc (gFn 2 Pg.m__law_draws (gK (gEsc (gV 0)) (gK (gEsc (gC (.int 600))) gN)))) (gK (gEsc (gC (.int 0))) gN)))) I (cS []) = some (.nx, TL (sa := sa) none none none none none none none none, cS s0) := by
    have a3 : gCell (K := K) (sa := sa) (ns := ns) (T := tb) (gLst (gK (gEsc (gFn 2 Pg.m__law_draws (gK (gEsc (gV 0)) (gK (gEsc (gC (.int 600))) gN)))) (gK (gEsc (gC (.int 0))) gN))) I (cS []) = some (.ok (.h 0), I, cS s0) := (bd_ok (Y := ClY K sa ns tb) a2).trans rfl
    exact (bdS_ok (Y := ClY K sa ns tb) a3).trans rfl
  obtain ⟨s2, Γ', e2⟩ := turns (K := K) (sa := sa) (ns := ns) (tb := tb) 6 0 none none none none none none none none h0
  have it : gRg1 (Y := ClY K sa ns tb) (gK (gC (.int 6)) gN) (TL (sa := sa) none none none none none none none none) (cS s0) = some (.ok (rangeD ((0 : Nat) : Int) 6), TL (sa := sa) none none none none none none none none, cS s0) := rfl
  have s2' : sFor (Y := ClY K sa ns tb) (.n 2) (gRg1 (gK (gC (.int 6)) gN)) l_law_2 (TL (sa := sa) none none none none none none none none) (cS s0) = some (.nx, Γ', cS s2) := (for_run it).trans e2
  refine ⟨cS s2, fin_of ?_⟩
  unfold b_law
  exact congrArg fin (nx_seq s1 (nx_seq s2' (ret_v (d := .bool true) (Γ' := Γ') (s' := cS s2) rfl)))
end
end FX.K14
set_option Elab.async false
set_option linter.all false
set_option maxRecDepth 100000
set_option maxHeartbeats 4000000
namespace FX.K14
open PySem PySem.Spec L2 FX
theorem all_mk {l : PySem.W.OpenLaw} {w : World} {K : PySem.W.Frag} {h : Heap} {mg : Str → Option Value} {fa : Addr} (X : K.In h) (G : h.Ns mainGlobals mg) (hfa : mg "law" = some (.ref fa))
    {C_Ways : Addr}
    {oc_is_whole kV_is_whole dc_is_whole pm_is_whole cd_is_whole ct_is_whole : Value} {od_is_whole an_is_whole : Option Addr} {sl_is_whole : Array (Option Value)} {f_is_whole : Addr}
    {oc_is_player kV_is_player dc_is_player pm_is_player cd_is_player ct_is_player : Value} {od_is_player an_is_player : Option Addr} {sl_is_player : Array (Option Value)} {f_is_player : Addr}
    {oc_is_tuple_of kV_is_tuple_of dc_is_tuple_of pm_is_tuple_of cd_is_tuple_of ct_is_tuple_of : Value} {od_is_tuple_of an_is_tuple_of : Option Addr} {sl_is_tuple_of : Array (Option Value)} {f_is_tuple_of : Addr}
    {oc_is_match kV_is_match dc_is_match pm_is_match cd_is_match ct_is_match : Value} {od_is_match an_is_match : Option Addr} {sl_is_match : Array (Option Value)} {f_is_match : Addr}
    {oc_is_outcome kV_is_outcome dc_is_outcome pm_is_outcome cd_is_outcome ct_is_outcome : Value} {od_is_outcome an_is_outcome : Option Addr} {sl_is_outcome : Array (Option Value)} {f_is_outcome : Addr}
    {oc__is_played kV__is_played dc__is_played pm__is_played cd__is_played ct__is_played : Value} {od__is_played an__is_played : Option Addr} {sl__is_played : Array (Option Value)} {f__is_played : Addr}
    {oc__are_played kV__are_played dc__are_played pm__are_played cd__are_played ct__are_played : Value} {od__are_played an__are_played : Option Addr} {sl__are_played : Array (Option Value)} {f__are_played : Addr}
    {oc_is_league kV_is_league dc_is_league pm_is_league cd_is_league ct_is_league : Value} {od_is_league an_is_league : Option Addr} {sl_is_league : Array (Option Value)} {f_is_league : Addr}
    {oc_check_league kV_check_league dc_check_league pm_check_league cd_check_league ct_check_league : Value} {od_check_league an_check_league : Option Addr} {sl_check_league : Array (Option Value)} {f_check_league : Addr}
    {oc_check_points kV_check_points dc_check_points pm_check_points cd_check_points ct_check_points : Value} {od_check_points an_check_points : Option Addr} {sl_check_points : Array (Option Value)} {f_check_points : Addr}
    {oc_worth_of kV_worth_of dc_worth_of pm_worth_of cd_worth_of ct_worth_of : Value} {od_worth_of an_worth_of : Option Addr} {sl_worth_of : Array (Option Value)} {f_worth_of : Addr}
    {oc_outcomes_in_order kV_outcomes_in_order dc_outcomes_in_order pm_outcomes_in_order cd_outcomes_in_order ct_outcomes_in_order : Value} {od_outcomes_in_order an_outcomes_in_order : Option Addr} {sl_outcomes_in_order : Array (Option Value)} {f_outcomes_in_order : Addr}
    {oc_shares_of kV_shares_of dc_shares_of pm_shares_of cd_shares_of ct_shares_of : Value} {od_shares_of an_shares_of : Option Addr} {sl_shares_of : Array (Option Value)} {f_shares_of : Addr}
    {oc_points_behind kV_points_behind dc_points_behind pm_points_behind cd_points_behind ct_points_behind : Value} {od_points_behind an_points_behind : Option Addr} {sl_points_behind : Array (Option Value)} {f_points_behind : Addr}
    {oc_matches_left kV_matches_left dc_matches_left pm_matches_left cd_matches_left ct_matches_left : Value} {od_matches_left an_matches_left : Option Addr} {sl_matches_left : Array (Option Value)} {f_matches_left : Addr}
    {oc_points_had kV_points_had dc_points_had pm_points_had cd_points_had ct_points_had : Value} {od_points_had an_points_had : Option Addr} {sl_points_had : Array (Option Value)} {f_points_had : Addr}
    {oc__most_from kV__most_from dc__most_from pm__most_from cd__most_from ct__most_from : Value} {od__most_from an__most_from : Option Addr} {sl__most_from : Array (Option Value)} {f__most_from : Addr}
    {oc_Ways__in_reach kV_Ways__in_reach dc_Ways__in_reach pm_Ways__in_reach cd_Ways__in_reach ct_Ways__in_reach : Value} {od_Ways__in_reach an_Ways__in_reach : Option Addr} {sl_Ways__in_reach : Array (Option Value)} {f_Ways__in_reach : Addr}
    {oc_Ways_steps kV_Ways_steps dc_Ways_steps pm_Ways_steps cd_Ways_steps ct_Ways_steps : Value} {od_Ways_steps an_Ways_steps : Option Addr} {sl_Ways_steps : Array (Option Value)} {f_Ways_steps : Addr}
    {oc_Ways_many kV_Ways_many dc_Ways_many pm_Ways_many cd_Ways_many ct_Ways_many : Value} {od_Ways_many an_Ways_many : Option Addr} {sl_Ways_many : Array (Option Value)} {f_Ways_many : Addr}
    {oc_Ways_in_all kV_Ways_in_all dc_Ways_in_all pm_Ways_in_all cd_Ways_in_all ct_Ways_in_all : Value} {od_Ways_in_all an_Ways_in_all : Option Addr} {sl_Ways_in_all : Array (Option Value)} {f_Ways_in_all : Addr}
    {oc_Ways___init__ kV_Ways___init__ dc_Ways___init__ pm_Ways___init__ cd_Ways___init__ ct_Ways___init__ : Value} {od_Ways___init__ an_Ways___init__ : Option Addr} {sl_Ways___init__ : Array (Option Value)} {f_Ways___init__ : Addr}
    {oc_count_ends kV_count_ends dc_count_ends pm_count_ends cd_count_ends ct_count_ends : Value} {od_count_ends an_count_ends : Option Addr} {sl_count_ends : Array (Option Value)} {f_count_ends : Addr}
    {oc__law_draws kV__law_draws dc__law_draws pm__law_draws cd__law_draws ct__law_draws : Value} {od__law_draws an__law_draws : Option Addr} {sl__law_draws : Array (Option Value)} {f__law_draws : Addr}
    {oc__law_take kV__law_take dc__law_take pm__law_take cd__law_take ct__law_take : Value} {od__law_take an__law_take : Option Addr} {sl__law_take : Array (Option Value)} {f__law_take : Addr}
    {oc__law_options kV__law_options dc__law_options pm__law_options cd__law_options ct__law_options : Value} {od__law_options an__law_options : Option Addr} {sl__law_options : Array (Option Value)} {f__law_options : Addr}
    {oc__law_drawn_end kV__law_drawn_end dc__law_drawn_end pm__law_drawn_end cd__law_drawn_end ct__law_drawn_end : Value} {od__law_drawn_end an__law_drawn_end : Option Addr} {sl__law_drawn_end : Array (Option Value)} {f__law_drawn_end : Addr}
    {oc__law_league kV__law_league dc__law_league pm__law_league cd__law_league ct__law_league : Value} {od__law_league an__law_league : Option Addr} {sl__law_league : Array (Option Value)} {f__law_league : Addr}
    {oc__law_had kV__law_had dc__law_had pm__law_had cd__law_had ct__law_had : Value} {od__law_had an__law_had : Option Addr} {sl__law_had : Array (Option Value)} {f__law_had : Addr}
    {oc__law_points kV__law_points dc__law_points pm__law_points cd__law_points ct__law_points : Value} {od__law_points an__law_points : Option Addr} {sl__law_points : Array (Option Value)} {f__law_points : Addr}
    {oc__law_copy kV__law_copy dc__law_copy pm__law_copy cd__law_copy ct__law_copy : Value} {od__law_copy an__law_copy : Option Addr} {sl__law_copy : Array (Option Value)} {f__law_copy : Addr}
    {oc__law_less kV__law_less dc__law_less pm__law_less cd__law_less ct__law_less : Value} {od__law_less an__law_less : Option Addr} {sl__law_less : Array (Option Value)} {f__law_less : Addr}
    {oc__law_ways kV__law_ways dc__law_ways pm__law_ways cd__law_ways ct__law_ways : Value} {od__law_ways an__law_ways : Option Addr} {sl__law_ways : Array (Option Value)} {f__law_ways : Addr}
    {oc__law_many kV__law_many dc__law_many pm__law_many cd__law_many ct__law_many : Value} {od__law_many an__law_many : Option Addr} {sl__law_many : Array (Option Value)} {f__law_many : Addr}
    {oc_law kV_law dc_law pm_law cd_law ct_law : Value} {od_law an_law : Option Addr} {sl_law : Array (Option Value)} {f_law : Addr}
    {ct_FEWEST_PLAYERS : Tok}
    {ct_MOST_PLAYERS : Tok}
    {ca_WORTHS : Addr} {es_WORTHS : Array DictEntry} {en_WORTHS : Nat}
    {e_NoLeague : Addr}
    {e_NoPoints : Addr}
    (aC_Ways : PySem.W.nsIn K mainGlobals "Ways" = some (some (.ref C_Ways)))
    (pgC_Ways : PySem.W.plainGet K C_Ways Str.empty = true)
    (hdC_Ways : PySem.W.hasDictIn K C_Ways = true)
    (poC_Ways : PySem.W.plainOver K C_Ways = true)
    (saC_Ways : PySem.W.findIn K (.ref C_Ways) "__setattr__" = some (some (.builtin "object.__setattr__")))
    (mkC_Ways : PySem.W.makesIn K C_Ways = true)
    (kcC_Ways : PySem.W.keepIn K (.ref C_Ways) = true)
    (na_Ways_counted : PySem.W.findIn K (.ref C_Ways) "counted" = some none)
    (na_Ways_goal : PySem.W.findIn K (.ref C_Ways) "goal" = some none)
    (na_Ways_had : PySem.W.findIn K (.ref C_Ways) "had" = some none)
    (na_Ways_kind : PySem.W.findIn K (.ref C_Ways) "kind" = some none)
    (na_Ways_left : PySem.W.findIn K (.ref C_Ways) "left" = some none)
    (na_Ways_most : PySem.W.findIn K (.ref C_Ways) "most" = some none)
    (a_is_whole : PySem.W.nsIn K mainGlobals "is_whole" = some (some (.ref f_is_whole)))
    (l_is_whole : K.lookup f_is_whole = some ⟨oc_is_whole, od_is_whole, .func (PySem.W.fnOf "is_whole" "is_whole" (defArgs s_is_whole) (defBody s_is_whole) (defScope s_is_whole) .none kV_is_whole dc_is_whole pm_is_whole an_is_whole cd_is_whole ct_is_whole), sl_is_whole⟩)
    (cc_is_whole : PySem.W.codeIn K cd_is_whole "is_whole" = true)
    (k_is_whole : PySem.W.keepIn K (.ref f_is_whole) = true)
    (a_is_player : PySem.W.nsIn K mainGlobals "is_player" = some (some (.ref f_is_player)))
    (l_is_player : K.lookup f_is_player = some ⟨oc_is_player, od_is_player, .func (PySem.W.fnOf "is_player" "is_player" (defArgs s_is_player) (defBody s_is_player) (defScope s_is_player) .none kV_is_player dc_is_player pm_is_player an_is_player cd_is_player ct_is_player), sl_is_player⟩)
    (cc_is_player : PySem.W.codeIn K cd_is_player "is_player" = true)
    (k_is_player : PySem.W.keepIn K (.ref f_is_player) = true)
    (a_is_tuple_of : PySem.W.nsIn K mainGlobals "is_tuple_of" = some (some (.ref f_is_tuple_of)))
    (l_is_tuple_of : K.lookup f_is_tuple_of = some ⟨oc_is_tuple_of, od_is_tuple_of, .func (PySem.W.fnOf "is_tuple_of" "is_tuple_of" (defArgs s_is_tuple_of) (defBody s_is_tuple_of) (defScope s_is_tuple_of) .none kV_is_tuple_of dc_is_tuple_of pm_is_tuple_of an_is_tuple_of cd_is_tuple_of ct_is_tuple_of), sl_is_tuple_of⟩)
    (cc_is_tuple_of : PySem.W.codeIn K cd_is_tuple_of "is_tuple_of" = true)
    (k_is_tuple_of : PySem.W.keepIn K (.ref f_is_tuple_of) = true)
    (a_is_match : PySem.W.nsIn K mainGlobals "is_match" = some (some (.ref f_is_match)))
    (l_is_match : K.lookup f_is_match = some ⟨oc_is_match, od_is_match, .func (PySem.W.fnOf "is_match" "is_match" (defArgs s_is_match) (defBody s_is_match) (defScope s_is_match) .none kV_is_match dc_is_match pm_is_match an_is_match cd_is_match ct_is_match), sl_is_match⟩)
    (cc_is_match : PySem.W.codeIn K cd_is_match "is_match" = true)
    (k_is_match : PySem.W.keepIn K (.ref f_is_match) = true)
    (a_is_outcome : PySem.W.nsIn K mainGlobals "is_outcome" = some (some (.ref f_is_outcome)))
    (l_is_outcome : K.lookup f_is_outcome = some ⟨oc_is_outcome, od_is_outcome, .func (PySem.W.fnOf "is_outcome" "is_outcome" (defArgs s_is_outcome) (defBody s_is_outcome) (defScope s_is_outcome) .none kV_is_outcome dc_is_outcome pm_is_outcome an_is_outcome cd_is_outcome ct_is_outcome), sl_is_outcome⟩)
    (cc_is_outcome : PySem.W.codeIn K cd_is_outcome "is_outcome" = true)
    (k_is_outcome : PySem.W.keepIn K (.ref f_is_outcome) = true)
    (a__is_played : PySem.W.nsIn K mainGlobals "_is_played" = some (some (.ref f__is_played)))
    (l__is_played : K.lookup f__is_played = some ⟨oc__is_played, od__is_played, .func (PySem.W.fnOf "_is_played" "_is_played" (defArgs s__is_played) (defBody s__is_played) (defScope s__is_played) .none kV__is_played dc__is_played pm__is_played an__is_played cd__is_played ct__is_played), sl__is_played⟩)
    (cc__is_played : PySem.W.codeIn K cd__is_played "_is_played" = true)
    (k__is_played : PySem.W.keepIn K (.ref f__is_played) = true)
    (a__are_played : PySem.W.nsIn K mainGlobals "_are_played" = some (some (.ref f__are_played)))
    (l__are_played : K.lookup f__are_played = some ⟨oc__are_played, od__are_played, .func (PySem.W.fnOf "_are_played" "_are_played" (defArgs s__are_played) (defBody s__are_played) (defScope s__are_played) .none kV__are_played dc__are_played pm__are_played an__are_played cd__are_played ct__are_played), sl__are_played⟩)
    (cc__are_played : PySem.W.codeIn K cd__are_played "_are_played" = true)
    (k__are_played : PySem.W.keepIn K (.ref f__are_played) = true)
    (a_is_league : PySem.W.nsIn K mainGlobals "is_league" = some (some (.ref f_is_league)))
    (l_is_league : K.lookup f_is_league = some ⟨oc_is_league, od_is_league, .func (PySem.W.fnOf "is_league" "is_league" (defArgs s_is_league) (defBody s_is_league) (defScope s_is_league) .none kV_is_league dc_is_league pm_is_league an_is_league cd_is_league ct_is_league), sl_is_league⟩)
    (cc_is_league : PySem.W.codeIn K cd_is_league "is_league" = true)
    (k_is_league : PySem.W.keepIn K (.ref f_is_league) = true)
    (a_check_league : PySem.W.nsIn K mainGlobals "check_league" = some (some (.ref f_check_league)))
    (l_check_league : K.lookup f_check_league = some ⟨oc_check_league, od_check_league, .func (PySem.W.fnOf "check_league" "check_league" (defArgs s_check_league) (defBody s_check_league) (defScope s_check_league) .none kV_check_league dc_check_league pm_check_league an_check_league cd_check_league ct_check_league), sl_check_league⟩)
    (cc_check_league : PySem.W.codeIn K cd_check_league "check_league" = true)
    (k_check_league : PySem.W.keepIn K (.ref f_check_league) = true)
    (a_check_points : PySem.W.nsIn K mainGlobals "check_points" = some (some (.ref f_check_points)))
    (l_check_points : K.lookup f_check_points = some ⟨oc_check_points, od_check_points, .func (PySem.W.fnOf "check_points" "check_points" (defArgs s_check_points) (defBody s_check_points) (defScope s_check_points) .none kV_check_points dc_check_points pm_check_points an_check_points cd_check_points ct_check_points), sl_check_points⟩)
    (cc_check_points : PySem.W.codeIn K cd_check_points "check_points" = true)
    (k_check_points : PySem.W.keepIn K (.ref f_check_points) = true)
    (a_worth_of : PySem.W.nsIn K mainGlobals "worth_of" = some (some (.ref f_worth_of)))
    (l_worth_of : K.lookup f_worth_of = some ⟨oc_worth_of, od_worth_of, .func (PySem.W.fnOf "worth_of" "worth_of" (defArgs s_worth_of) (defBody s_worth_of) (defScope s_worth_of) .none kV_worth_of dc_worth_of pm_worth_of an_worth_of cd_worth_of ct_worth_of), sl_worth_of⟩)
    (cc_worth_of : PySem.W.codeIn K cd_worth_of "worth_of" = true)
    (k_worth_of : PySem.W.keepIn K (.ref f_worth_of) = true)
    (a_outcomes_in_order : PySem.W.nsIn K mainGlobals "outcomes_in_order" = some (some (.ref f_outcomes_in_order)))
    (l_outcomes_in_order : K.lookup f_outcomes_in_order = some ⟨oc_outcomes_in_order, od_outcomes_in_order, .func (PySem.W.fnOf "outcomes_in_order" "outcomes_in_order" (defArgs s_outcomes_in_order) (defBody s_outcomes_in_order) (defScope s_outcomes_in_order) .none kV_outcomes_in_order dc_outcomes_in_order pm_outcomes_in_order an_outcomes_in_order cd_outcomes_in_order ct_outcomes_in_order), sl_outcomes_in_order⟩)
    (cc_outcomes_in_order : PySem.W.codeIn K cd_outcomes_in_order "outcomes_in_order" = true)
    (k_outcomes_in_order : PySem.W.keepIn K (.ref f_outcomes_in_order) = true)
    (a_shares_of : PySem.W.nsIn K mainGlobals "shares_of" = some (some (.ref f_shares_of)))
    (l_shares_of : K.lookup f_shares_of = some ⟨oc_shares_of, od_shares_of, .func (PySem.W.fnOf "shares_of" "shares_of" (defArgs s_shares_of) (defBody s_shares_of) (defScope s_shares_of) .none kV_shares_of dc_shares_of pm_shares_of an_shares_of cd_shares_of ct_shares_of), sl_shares_of⟩)
    (cc_shares_of : PySem.W.codeIn K cd_shares_of "shares_of" = true)
    (k_shares_of : PySem.W.keepIn K (.ref f_shares_of) = true)
    (a_points_behind : PySem.W.nsIn K mainGlobals "points_behind" = some (some (.ref f_points_behind)))
    (l_points_behind : K.lookup f_points_behind = some ⟨oc_points_behind, od_points_behind, .func (PySem.W.fnOf "points_behind" "points_behind" (defArgs s_points_behind) (defBody s_points_behind) (defScope s_points_behind) .none kV_points_behind dc_points_behind pm_points_behind an_points_behind cd_points_behind ct_points_behind), sl_points_behind⟩)
    (cc_points_behind : PySem.W.codeIn K cd_points_behind "points_behind" = true)
    (k_points_behind : PySem.W.keepIn K (.ref f_points_behind) = true)
    (a_matches_left : PySem.W.nsIn K mainGlobals "matches_left" = some (some (.ref f_matches_left)))
    (l_matches_left : K.lookup f_matches_left = some ⟨oc_matches_left, od_matches_left, .func (PySem.W.fnOf "matches_left" "matches_left" (defArgs s_matches_left) (defBody s_matches_left) (defScope s_matches_left) .none kV_matches_left dc_matches_left pm_matches_left an_matches_left cd_matches_left ct_matches_left), sl_matches_left⟩)
    (cc_matches_left : PySem.W.codeIn K cd_matches_left "matches_left" = true)
    (k_matches_left : PySem.W.keepIn K (.ref f_matches_left) = true)
    (a_points_had : PySem.W.nsIn K mainGlobals "points_had" = some (some (.ref f_points_had)))
    (l_points_had : K.lookup f_points_had = some ⟨oc_points_had, od_points_had, .func (PySem.W.fnOf "points_had" "points_had" (defArgs s_points_had) (defBody s_points_had) (defScope s_points_had) .none kV_points_had dc_points_had pm_points_had an_points_had cd_points_had ct_points_had), sl_points_had⟩)
    (cc_points_had : PySem.W.codeIn K cd_points_had "points_had" = true)
    (k_points_had : PySem.W.keepIn K (.ref f_points_had) = true)
    (a__most_from : PySem.W.nsIn K mainGlobals "_most_from" = some (some (.ref f__most_from)))
    (l__most_from : K.lookup f__most_from = some ⟨oc__most_from, od__most_from, .func (PySem.W.fnOf "_most_from" "_most_from" (defArgs s__most_from) (defBody s__most_from) (defScope s__most_from) .none kV__most_from dc__most_from pm__most_from an__most_from cd__most_from ct__most_from), sl__most_from⟩)
    (cc__most_from : PySem.W.codeIn K cd__most_from "_most_from" = true)
    (k__most_from : PySem.W.keepIn K (.ref f__most_from) = true)
    (a_Ways__in_reach : PySem.W.findIn K (.ref C_Ways) "_in_reach" = some (some (.ref f_Ways__in_reach)))
    (i_Ways__in_reach : PySem.W.isFn K (.ref f_Ways__in_reach) = true)
    (l_Ways__in_reach : K.lookup f_Ways__in_reach = some ⟨oc_Ways__in_reach, od_Ways__in_reach, .func (PySem.W.fnOf "_in_reach" "Ways._in_reach" (defArgs s_Ways__in_reach) (defBody s_Ways__in_reach) (defScope s_Ways__in_reach) .none kV_Ways__in_reach dc_Ways__in_reach pm_Ways__in_reach an_Ways__in_reach cd_Ways__in_reach ct_Ways__in_reach), sl_Ways__in_reach⟩)
    (cc_Ways__in_reach : PySem.W.codeIn K cd_Ways__in_reach "Ways._in_reach" = true)
    (k_Ways__in_reach : PySem.W.keepIn K (.ref f_Ways__in_reach) = true)
    (a_Ways_steps : PySem.W.findIn K (.ref C_Ways) "steps" = some (some (.ref f_Ways_steps)))
    (i_Ways_steps : PySem.W.isFn K (.ref f_Ways_steps) = true)
    (l_Ways_steps : K.lookup f_Ways_steps = some ⟨oc_Ways_steps, od_Ways_steps, .func (PySem.W.fnOf "steps" "Ways.steps" (defArgs s_Ways_steps) (defBody s_Ways_steps) (defScope s_Ways_steps) .none kV_Ways_steps dc_Ways_steps pm_Ways_steps an_Ways_steps cd_Ways_steps ct_Ways_steps), sl_Ways_steps⟩)
    (cc_Ways_steps : PySem.W.codeIn K cd_Ways_steps "Ways.steps" = true)
    (k_Ways_steps : PySem.W.keepIn K (.ref f_Ways_steps) = true)
    (a_Ways_many : PySem.W.findIn K (.ref C_Ways) "many" = some (some (.ref f_Ways_many)))
    (i_Ways_many : PySem.W.isFn K (.ref f_Ways_many) = true)
    (l_Ways_many : K.lookup f_Ways_many = some ⟨oc_Ways_many, od_Ways_many, .func (PySem.W.fnOf "many" "Ways.many" (defArgs s_Ways_many) (defBody s_Ways_many) (defScope s_Ways_many) .none kV_Ways_many dc_Ways_many pm_Ways_many an_Ways_many cd_Ways_many ct_Ways_many), sl_Ways_many⟩)
    (cc_Ways_many : PySem.W.codeIn K cd_Ways_many "Ways.many" = true)
    (k_Ways_many : PySem.W.keepIn K (.ref f_Ways_many) = true)
    (a_Ways_in_all : PySem.W.findIn K (.ref C_Ways) "in_all" = some (some (.ref f_Ways_in_all)))
    (i_Ways_in_all : PySem.W.isFn K (.ref f_Ways_in_all) = true)
    (l_Ways_in_all : K.lookup f_Ways_in_all = some ⟨oc_Ways_in_all, od_Ways_in_all, .func (PySem.W.fnOf "in_all" "Ways.in_all" (defArgs s_Ways_in_all) (defBody s_Ways_in_all) (defScope s_Ways_in_all) .none kV_Ways_in_all dc_Ways_in_all pm_Ways_in_all an_Ways_in_all cd_Ways_in_all ct_Ways_in_all), sl_Ways_in_all⟩)
    (cc_Ways_in_all : PySem.W.codeIn K cd_Ways_in_all "Ways.in_all" = true)
    (k_Ways_in_all : PySem.W.keepIn K (.ref f_Ways_in_all) = true)
    (a_Ways___init__ : PySem.W.findIn K (.ref C_Ways) "__init__" = some (some (.ref f_Ways___init__)))
    (i_Ways___init__ : PySem.W.isFn K (.ref f_Ways___init__) = true)
    (l_Ways___init__ : K.lookup f_Ways___init__ = some ⟨oc_Ways___init__, od_Ways___init__, .func (PySem.W.fnOf "__init__" "Ways.__init__" (defArgs s_Ways___init__) (defBody s_Ways___init__) (defScope s_Ways___init__) .none kV_Ways___init__ dc_Ways___init__ pm_Ways___init__ an_Ways___init__ cd_Ways___init__ ct_Ways___init__), sl_Ways___init__⟩)
    (cc_Ways___init__ : PySem.W.codeIn K cd_Ways___init__ "Ways.__init__" = true)
    (k_Ways___init__ : PySem.W.keepIn K (.ref f_Ways___init__) = true)
    (a_count_ends : PySem.W.nsIn K mainGlobals "count_ends" = some (some (.ref f_count_ends)))
    (l_count_ends : K.lookup f_count_ends = some ⟨oc_count_ends, od_count_ends, .func (PySem.W.fnOf "count_ends" "count_ends" (defArgs s_count_ends) (defBody s_count_ends) (defScope s_count_ends) .none kV_count_ends dc_count_ends pm_count_ends an_count_ends cd_count_ends ct_count_ends), sl_count_ends⟩)
    (cc_count_ends : PySem.W.codeIn K cd_count_ends "count_ends" = true)
    (k_count_ends : PySem.W.keepIn K (.ref f_count_ends) = true)
    (a__law_draws : PySem.W.nsIn K mainGlobals "_law_draws" = some (some (.ref f__law_draws)))
    (l__law_draws : K.lookup f__law_draws = some ⟨oc__law_draws, od__law_draws, .func (PySem.W.fnOf "_law_draws" "_law_draws" (defArgs s__law_draws) (defBody s__law_draws) (defScope s__law_draws) .none kV__law_draws dc__law_draws pm__law_draws an__law_draws cd__law_draws ct__law_draws), sl__law_draws⟩)
    (cc__law_draws : PySem.W.codeIn K cd__law_draws "_law_draws" = true)
    (k__law_draws : PySem.W.keepIn K (.ref f__law_draws) = true)
    (a__law_take : PySem.W.nsIn K mainGlobals "_law_take" = some (some (.ref f__law_take)))
    (l__law_take : K.lookup f__law_take = some ⟨oc__law_take, od__law_take, .func (PySem.W.fnOf "_law_take" "_law_take" (defArgs s__law_take) (defBody s__law_take) (defScope s__law_take) .none kV__law_take dc__law_take pm__law_take an__law_take cd__law_take ct__law_take), sl__law_take⟩)
    (cc__law_take : PySem.W.codeIn K cd__law_take "_law_take" = true)
    (k__law_take : PySem.W.keepIn K (.ref f__law_take) = true)
    (a__law_options : PySem.W.nsIn K mainGlobals "_law_options" = some (some (.ref f__law_options)))
    (l__law_options : K.lookup f__law_options = some ⟨oc__law_options, od__law_options, .func (PySem.W.fnOf "_law_options" "_law_options" (defArgs s__law_options) (defBody s__law_options) (defScope s__law_options) .none kV__law_options dc__law_options pm__law_options an__law_options cd__law_options ct__law_options), sl__law_options⟩)
    (cc__law_options : PySem.W.codeIn K cd__law_options "_law_options" = true)
    (k__law_options : PySem.W.keepIn K (.ref f__law_options) = true)
    (a__law_drawn_end : PySem.W.nsIn K mainGlobals "_law_drawn_end" = some (some (.ref f__law_drawn_end)))
    (l__law_drawn_end : K.lookup f__law_drawn_end = some ⟨oc__law_drawn_end, od__law_drawn_end, .func (PySem.W.fnOf "_law_drawn_end" "_law_drawn_end" (defArgs s__law_drawn_end) (defBody s__law_drawn_end) (defScope s__law_drawn_end) .none kV__law_drawn_end dc__law_drawn_end pm__law_drawn_end an__law_drawn_end cd__law_drawn_end ct__law_drawn_end), sl__law_drawn_end⟩)
    (cc__law_drawn_end : PySem.W.codeIn K cd__law_drawn_end "_law_drawn_end" = true)
    (k__law_drawn_end : PySem.W.keepIn K (.ref f__law_drawn_end) = true)
    (a__law_league : PySem.W.nsIn K mainGlobals "_law_league" = some (some (.ref f__law_league)))
    (l__law_league : K.lookup f__law_league = some ⟨oc__law_league, od__law_league, .func (PySem.W.fnOf "_law_league" "_law_league" (defArgs s__law_league) (defBody s__law_league) (defScope s__law_league) .none kV__law_league dc__law_league pm__law_league an__law_league cd__law_league ct__law_league), sl__law_league⟩)
    (cc__law_league : PySem.W.codeIn K cd__law_league "_law_league" = true)
    (k__law_league : PySem.W.keepIn K (.ref f__law_league) = true)
    (a__law_had : PySem.W.nsIn K mainGlobals "_law_had" = some (some (.ref f__law_had)))
    (l__law_had : K.lookup f__law_had = some ⟨oc__law_had, od__law_had, .func (PySem.W.fnOf "_law_had" "_law_had" (defArgs s__law_had) (defBody s__law_had) (defScope s__law_had) .none kV__law_had dc__law_had pm__law_had an__law_had cd__law_had ct__law_had), sl__law_had⟩)
    (cc__law_had : PySem.W.codeIn K cd__law_had "_law_had" = true)
    (k__law_had : PySem.W.keepIn K (.ref f__law_had) = true)
    (a__law_points : PySem.W.nsIn K mainGlobals "_law_points" = some (some (.ref f__law_points)))
    (l__law_points : K.lookup f__law_points = some ⟨oc__law_points, od__law_points, .func (PySem.W.fnOf "_law_points" "_law_points" (defArgs s__law_points) (defBody s__law_points) (defScope s__law_points) .none kV__law_points dc__law_points pm__law_points an__law_points cd__law_points ct__law_points), sl__law_points⟩)
    (cc__law_points : PySem.W.codeIn K cd__law_points "_law_points" = true)
    (k__law_points : PySem.W.keepIn K (.ref f__law_points) = true)
    (a__law_copy : PySem.W.nsIn K mainGlobals "_law_copy" = some (some (.ref f__law_copy)))
    (l__law_copy : K.lookup f__law_copy = some ⟨oc__law_copy, od__law_copy, .func (PySem.W.fnOf "_law_copy" "_law_copy" (defArgs s__law_copy) (defBody s__law_copy) (defScope s__law_copy) .none kV__law_copy dc__law_copy pm__law_copy an__law_copy cd__law_copy ct__law_copy), sl__law_copy⟩)
    (cc__law_copy : PySem.W.codeIn K cd__law_copy "_law_copy" = true)
    (k__law_copy : PySem.W.keepIn K (.ref f__law_copy) = true)
    (a__law_less : PySem.W.nsIn K mainGlobals "_law_less" = some (some (.ref f__law_less)))
    (l__law_less : K.lookup f__law_less = some ⟨oc__law_less, od__law_less, .func (PySem.W.fnOf "_law_less" "_law_less" (defArgs s__law_less) (defBody s__law_less) (defScope s__law_less) .none kV__law_less dc__law_less pm__law_less an__law_less cd__law_less ct__law_less), sl__law_less⟩)
    (cc__law_less : PySem.W.codeIn K cd__law_less "_law_less" = true)
    (k__law_less : PySem.W.keepIn K (.ref f__law_less) = true)
    (a__law_ways : PySem.W.nsIn K mainGlobals "_law_ways" = some (some (.ref f__law_ways)))
    (l__law_ways : K.lookup f__law_ways = some ⟨oc__law_ways, od__law_ways, .func (PySem.W.fnOf "_law_ways" "_law_ways" (defArgs s__law_ways) (defBody s__law_ways) (defScope s__law_ways) .none kV__law_ways dc__law_ways pm__law_ways an__law_ways cd__law_ways ct__law_ways), sl__law_ways⟩)
    (cc__law_ways : PySem.W.codeIn K cd__law_ways "_law_ways" = true)
    (k__law_ways : PySem.W.keepIn K (.ref f__law_ways) = true)
    (a__law_many : PySem.W.nsIn K mainGlobals "_law_many" = some (some (.ref f__law_many)))
    (l__law_many : K.lookup f__law_many = some ⟨oc__law_many, od__law_many, .func (PySem.W.fnOf "_law_many" "_law_many" (defArgs s__law_many) (defBody s__law_many) (defScope s__law_many) .none kV__law_many dc__law_many pm__law_many an__law_many cd__law_many ct__law_many), sl__law_many⟩)
    (cc__law_many : PySem.W.codeIn K cd__law_many "_law_many" = true)
    (k__law_many : PySem.W.keepIn K (.ref f__law_many) = true)
    (a_law : PySem.W.nsIn K mainGlobals "law" = some (some (.ref f_law)))
    (l_law : K.lookup f_law = some ⟨oc_law, od_law, .func (PySem.W.fnOf "law" "law" (defArgs s_law) (defBody s_law) (defScope s_law) .none kV_law dc_law pm_law an_law cd_law ct_law), sl_law⟩)
    (cc_law : PySem.W.codeIn K cd_law "law" = true)
    (k_law : PySem.W.keepIn K (.ref f_law) = true)
    (c_FEWEST_PLAYERS : PySem.W.nsIn K mainGlobals "FEWEST_PLAYERS" = some (some (.int 2 ct_FEWEST_PLAYERS)))
    (c_MOST_PLAYERS : PySem.W.nsIn K mainGlobals "MOST_PLAYERS" = some (some (.int 6 ct_MOST_PLAYERS)))
    (c_WORTHS : PySem.W.nsIn K mainGlobals "WORTHS" = some (some (.ref ca_WORTHS)))
    (cl_WORTHS : K.lookup ca_WORTHS = some ⟨.type "dict", none, .dict es_WORTHS en_WORTHS, #[]⟩)
    (ck_WORTHS : PySem.W.KeysLit w.params es_WORTHS.toList)
    (cs_WORTHS : (ca_WORTHS == sysModules) = false)
    (ce_WORTHS : TabOk es_WORTHS.toList FX.Pg.t_WORTHS)
    (i_combinations : PySem.W.nsIn K mainGlobals "combinations" = some (some (.type "itertools.combinations")))
    (z_abs : PySem.W.nsIn K mainGlobals "abs" = some none)
    (z_all : PySem.W.nsIn K mainGlobals "all" = some none)
    (z_bool : PySem.W.nsIn K mainGlobals "bool" = some none)
    (z_enumerate : PySem.W.nsIn K mainGlobals "enumerate" = some none)
    (z_int : PySem.W.nsIn K mainGlobals "int" = some none)
    (z_isinstance : PySem.W.nsIn K mainGlobals "isinstance" = some none)
    (z_len : PySem.W.nsIn K mainGlobals "len" = some none)
    (z_list : PySem.W.nsIn K mainGlobals "list" = some none)
    (z_max : PySem.W.nsIn K mainGlobals "max" = some none)
    (z_min : PySem.W.nsIn K mainGlobals "min" = some none)
    (z_range : PySem.W.nsIn K mainGlobals "range" = some none)
    (z_reversed : PySem.W.nsIn K mainGlobals "reversed" = some none)
    (z_str : PySem.W.nsIn K mainGlobals "str" = some none)
    (z_sum : PySem.W.nsIn K mainGlobals "sum" = some none)
    (z_tuple : PySem.W.nsIn K mainGlobals "tuple" = some none)
    (z_type : PySem.W.nsIn K mainGlobals "type" = some none)
    (z_zip : PySem.W.nsIn K mainGlobals "zip" = some none)
    (eg_NoLeague : PySem.W.nsIn K mainGlobals "NoLeague" = some (some (.ref e_NoLeague)))
    (eg_NoPoints : PySem.W.nsIn K mainGlobals "NoPoints" = some (some (.ref e_NoPoints)))
    (ehn : PySem.W.specialIn K (.builtin "object.__class__") "__get__" = some (some (.builtin "getset_descriptor.__get__")))
    (eht : PySem.W.takesIn K (.builtin "object.__class__") = some true)
    (ex_NoLeague : PySem.W.excIn K e_NoLeague [.type "ValueError", .type "Exception", .type "BaseException", .type "object"] "ValueError.__new__" = true)
    (ek_NoLeague : PySem.W.keepIn K (.ref e_NoLeague) = true)
    (et_NoLeague : PySem.W.typeIn K (.ref e_NoLeague) = some (.type "type"))
    (ehg_NoLeague : PySem.W.findIn K (.ref e_NoLeague) "__getattribute__" = some (some (.builtin "BaseException.__getattribute__")))
    (ehk_NoLeague : PySem.W.findIn K (.ref e_NoLeague) "__getattr__" = some none)
    (ehs_NoLeague : PySem.W.subIn K (.ref e_NoLeague) (.type "BaseException") = some true)
    (ehd_NoLeague : PySem.W.hasDictIn K e_NoLeague = true)
    (eha_NoLeague : PySem.W.findIn K (.ref e_NoLeague) "__class__" = some (some (.builtin "object.__class__")))
    (ehm_NoLeague : PySem.W.mroIn K e_NoLeague (.type "object") = some true)
    (ex_NoPoints : PySem.W.excIn K e_NoPoints [.type "ValueError", .type "Exception", .type "BaseException", .type "object"] "ValueError.__new__" = true)
    (ek_NoPoints : PySem.W.keepIn K (.ref e_NoPoints) = true)
    (et_NoPoints : PySem.W.typeIn K (.ref e_NoPoints) = some (.type "type"))
    (ehg_NoPoints : PySem.W.findIn K (.ref e_NoPoints) "__getattribute__" = some (some (.builtin "BaseException.__getattribute__")))
    (ehk_NoPoints : PySem.W.findIn K (.ref e_NoPoints) "__getattr__" = some none)
    (ehs_NoPoints : PySem.W.subIn K (.ref e_NoPoints) (.type "BaseException") = some true)
    (ehd_NoPoints : PySem.W.hasDictIn K e_NoPoints = true)
    (eha_NoPoints : PySem.W.findIn K (.ref e_NoPoints) "__class__" = some (some (.builtin "object.__class__")))
    (ehm_NoPoints : PySem.W.mroIn K e_NoPoints (.type "object") = some true) :
    ∃ fd : FuncData, (∀ (s : Shared) (v : Value), BindsTo s fd ⟨[v], []⟩ [("script", v)]) ∧ ∀ base : Heap, K.In base → base.Ns mainGlobals mg → FnOk l.prog w K mg base (L2.CX l.prog w) 25 fa fd ["script"] (FX.spLaw K) := by
  have e := hfa.symm.trans (PySem.W.mg_of X G a_law)
  cases e
  have T : Txt K w mg := {
    C_Ways := C_Ways, mgC_Ways := PySem.W.mg_of X G aC_Ways, cn_Ways := aC_Ways, cl_Ways := ⟨pgC_Ways, hdC_Ways, poC_Ways, saC_Ways⟩,
    na_Ways_counted := na_Ways_counted,
    na_Ways_goal := na_Ways_goal,
    na_Ways_had := na_Ways_had,
    na_Ways_kind := na_Ways_kind,
    na_Ways_left := na_Ways_left,
    na_Ways_most := na_Ways_most,
    a_is_whole := f_is_whole, d_is_whole := _, F_is_whole := fun_mk (st := s_is_whole) l_is_whole cc_is_whole k_is_whole,
    g_is_whole := PySem.W.mg_of X G a_is_whole,
    b_is_whole := (fun_mk (st := s_is_whole) l_is_whole cc_is_whole k_is_whole).binds (ps := ["thing"]) (fun _ _ _ _ _ _ us hl => match us, hl with | [_], _ => rfl),
    a_is_player := f_is_player, d_is_player := _, F_is_player := fun_mk (st := s_is_player) l_is_player cc_is_player k_is_player,
    g_is_player := PySem.W.mg_of X G a_is_player,
    b_is_player := (fun_mk (st := s_is_player) l_is_player cc_is_player k_is_player).binds (ps := ["thing", "n"]) (fun _ _ _ _ _ _ us hl => match us, hl with | [_, _], _ => rfl),
    a_is_tuple_of := f_is_tuple_of, d_is_tuple_of := _, F_is_tuple_of := fun_mk (st := s_is_tuple_of) l_is_tuple_of cc_is_tuple_of k_is_tuple_of,
    g_is_tuple_of := PySem.W.mg_of X G a_is_tuple_of,
    b_is_tuple_of := (fun_mk (st := s_is_tuple_of) l_is_tuple_of cc_is_tuple_of k_is_tuple_of).binds (ps := ["thing", "size"]) (fun _ _ _ _ _ _ us hl => match us, hl with | [_, _], _ => rfl),
    a_is_match := f_is_match, d_is_match := _, F_is_match := fun_mk (st := s_is_match) l_is_match cc_is_match k_is_match,
    g_is_match := PySem.W.mg_of X G a_is_match,
    b_is_match := (fun_mk (st := s_is_match) l_is_match cc_is_match k_is_match).binds (ps := ["n", "i", "j"]) (fun _ _ _ _ _ _ us hl => match us, hl with | [_, _, _], _ => rfl),
    a_is_outcome := f_is_outcome, d_is_outcome := _, F_is_outcome := fun_mk (st := s_is_outcome) l_is_outcome cc_is_outcome k_is_outcome,
    g_is_outcome := PySem.W.mg_of X G a_is_outcome,
    b_is_outcome := (fun_mk (st := s_is_outcome) l_is_outcome cc_is_outcome k_is_outcome).binds (ps := ["kind", "i", "j", "w"]) (fun _ _ _ _ _ _ us hl => match us, hl with | [_, _, _, _], _ => rfl),
    a__is_played := f__is_played, d__is_played := _, F__is_played := fun_mk (st := s__is_played) l__is_played cc__is_played k__is_played,
    g__is_played := PySem.W.mg_of X G a__is_played,
    b__is_played := (fun_mk (st := s__is_played) l__is_played cc__is_played k__is_played).binds (ps := ["kind", "n", "match"]) (fun _ _ _ _ _ _ us hl => match us, hl with | [_, _, _], _ => rfl),
    a__are_played := f__are_played, d__are_played := _, F__are_played := fun_mk (st := s__are_played) l__are_played cc__are_played k__are_played,
    g__are_played := PySem.W.mg_of X G a__are_played,
    b__are_played := (fun_mk (st := s__are_played) l__are_played cc__are_played k__are_played).binds (ps := ["kind", "n", "played"]) (fun _ _ _ _ _ _ us hl => match us, hl with | [_, _, _], _ => rfl),
    a_is_league := f_is_league, d_is_league := _, F_is_league := fun_mk (st := s_is_league) l_is_league cc_is_league k_is_league,
    g_is_league := PySem.W.mg_of X G a_is_league,
    b_is_league := (fun_mk (st := s_is_league) l_is_league cc_is_league k_is_league).binds (ps := ["thing"]) (fun _ _ _ _ _ _ us hl => match us, hl with | [_], _ => rfl),
    a_check_league := f_check_league, d_check_league := _, F_check_league := fun_mk (st := s_check_league) l_check_league cc_check_league k_check_league,
    g_check_league := PySem.W.mg_of X G a_check_league,
    b_check_league := (fun_mk (st := s_check_league) l_check_league cc_check_league k_check_league).binds (ps := ["league"]) (fun _ _ _ _ _ _ us hl => match us, hl with | [_], _ => rfl),
    a_check_points := f_check_points, d_check_points := _, F_check_points := fun_mk (st := s_check_points) l_check_points cc_check_points k_check_points,
    g_check_points := PySem.W.mg_of X G a_check_points,
    b_check_points := (fun_mk (st := s_check_points) l_check_points cc_check_points k_check_points).binds (ps := ["league", "points"]) (fun _ _ _ _ _ _ us hl => match us, hl with | [_, _], _ => rfl),
    a_worth_of := f_worth_of, d_worth_of := _, F_worth_of := fun_mk (st := s_worth_of) l_worth_of cc_worth_of k_worth_of,
    g_worth_of := PySem.W.mg_of X G a_worth_of,
    b_worth_of := (fun_mk (st := s_worth_of) l_worth_of cc_worth_of k_worth_of).binds (ps := ["league"]) (fun _ _ _ _ _ _ us hl => match us, hl with | [_], _ => rfl),
    a_outcomes_in_order := f_outcomes_in_order, d_outcomes_in_order := _, F_outcomes_in_order := fun_mk (st := s_outcomes_in_order) l_outcomes_in_order cc_outcomes_in_order k_outcomes_in_order,
    g_outcomes_in_order := PySem.W.mg_of X G a_outcomes_in_order,
    b_outcomes_in_order := (fun_mk (st := s_outcomes_in_order) l_outcomes_in_order cc_outcomes_in_order k_outcomes_in_order).binds (ps := ["kind", "i", "j"]) (fun _ _ _ _ _ _ us hl => match us, hl with | [_, _, _], _ => rfl),
    a_shares_of := f_shares_of, d_shares_of := _, F_shares_of := fun_mk (st := s_shares_of) l_shares_of cc_shares_of k_shares_of,
    g_shares_of := PySem.W.mg_of X G a_shares_of,
    b_shares_of := (fun_mk (st := s_shares_of) l_shares_of cc_shares_of k_shares_of).binds (ps := ["kind", "i", "w"]) (fun _ _ _ _ _ _ us hl => match us, hl with | [_, _, _], _ => rfl),
    a_points_behind := f_points_behind, d_points_behind := _, F_points_behind := fun_mk (st := s_points_behind) l_points_behind cc_points_behind k_points_behind,
    g_points_behind := PySem.W.mg_of X G a_points_behind,
    b_points_behind := (fun_mk (st := s_points_behind) l_points_behind cc_points_behind k_points_behind).binds (ps := ["points", "i", "j", "shares"]) (fun _ _ _ _ _ _ us hl => match us, hl with | [_, _, _, _], _ => rfl),
    a_matches_left := f_matches_left, d_matches_left := _, F_matches_left := fun_mk (st := s_matches_left) l_matches_left cc_matches_left k_matches_left,
    g_matches_left := PySem.W.mg_of X G a_matches_left,
    b_matches_left := (fun_mk (st := s_matches_left) l_matches_left cc_matches_left k_matches_left).binds (ps := ["league"]) (fun _ _ _ _ _ _ us hl => match us, hl with | [_], _ => rfl),
    a_points_had := f_points_had, d_points_had := _, F_points_had := fun_mk (st := s_points_had) l_points_had cc_points_had k_points_had,
    g_points_had := PySem.W.mg_of X G a_points_had,
    b_points_had := (fun_mk (st := s_points_had) l_points_had cc_points_had k_points_had).binds (ps := ["league"]) (fun _ _ _ _ _ _ us hl => match us, hl with | [_], _ => rfl),
    a__most_from := f__most_from, d__most_from := _, F__most_from := fun_mk (st := s__most_from) l__most_from cc__most_from k__most_from,
    g__most_from := PySem.W.mg_of X G a__most_from,
    b__most_from := (fun_mk (st := s__most_from) l__most_from cc__most_from k__most_from).binds (ps := ["league", "left"]) (fun _ _ _ _ _ _ us hl => match us, hl with | [_, _], _ => rfl),
    a_Ways__in_reach := f_Ways__in_reach, d_Ways__in_reach := _, F_Ways__in_reach := fun_mk (st := s_Ways__in_reach) l_Ways__in_reach cc_Ways__in_reach k_Ways__in_reach,
    mt_Ways__in_reach := ⟨a_Ways__in_reach, i_Ways__in_reach, k_Ways__in_reach⟩,
    b_Ways__in_reach := (fun_mk (st := s_Ways__in_reach) l_Ways__in_reach cc_Ways__in_reach k_Ways__in_reach).binds (ps := ["self", "at", "had"]) (fun _ _ _ _ _ _ us hl => match us, hl with | [_, _, _], _ => rfl),
    a_Ways_steps := f_Ways_steps, d_Ways_steps := _, F_Ways_steps := fun_mk (st := s_Ways_steps) l_Ways_steps cc_Ways_steps k_Ways_steps,
    mt_Ways_steps := ⟨a_Ways_steps, i_Ways_steps, k_Ways_steps⟩,
    b_Ways_steps := (fun_mk (st := s_Ways_steps) l_Ways_steps cc_Ways_steps k_Ways_steps).binds (ps := ["self", "at", "had"]) (fun _ _ _ _ _ _ us hl => match us, hl with | [_, _, _], _ => rfl),
    a_Ways_many := f_Ways_many, d_Ways_many := _, F_Ways_many := fun_mk (st := s_Ways_many) l_Ways_many cc_Ways_many k_Ways_many,
    mt_Ways_many := ⟨a_Ways_many, i_Ways_many, k_Ways_many⟩,
    b_Ways_many := (fun_mk (st := s_Ways_many) l_Ways_many cc_Ways_many k_Ways_many).binds (ps := ["self", "at", "had"]) (fun _ _ _ _ _ _ us hl => match us, hl with | [_, _, _], _ => rfl),
    a_Ways_in_all := f_Ways_in_all, d_Ways_in_all := _, F_Ways_in_all := fun_mk (st := s_Ways_in_all) l_Ways_in_all cc_Ways_in_all k_Ways_in_all,
    mt_Ways_in_all := ⟨a_Ways_in_all, i_Ways_in_all, k_Ways_in_all⟩,
    b_Ways_in_all := (fun_mk (st := s_Ways_in_all) l_Ways_in_all cc_Ways_in_all k_Ways_in_all).binds (ps := ["self"]) (fun _ _ _ _ _ _ us hl => match us, hl with | [_], _ => rfl),
    a_Ways___init__ := f_Ways___init__, d_Ways___init__ := _, F_Ways___init__ := fun_mk (st := s_Ways___init__) l_Ways___init__ cc_Ways___init__ k_Ways___init__,
    mk_Ways := ⟨mkC_Ways, a_Ways___init__, i_Ways___init__, kcC_Ways⟩,
    b_Ways___init__ := (fun_mk (st := s_Ways___init__) l_Ways___init__ cc_Ways___init__ k_Ways___init__).binds (ps := ["self", "league", "points"]) (fun _ _ _ _ _ _ us hl => match us, hl with | [_, _, _], _ => rfl),
    a_count_ends := f_count_ends, d_count_ends := _, F_count_ends := fun_mk (st := s_count_ends) l_count_ends cc_count_ends k_count_ends,
    g_count_ends := PySem.W.mg_of X G a_count_ends,
    b_count_ends := (fun_mk (st := s_count_ends) l_count_ends cc_count_ends k_count_ends).binds (ps := ["league", "points"]) (fun _ _ _ _ _ _ us hl => match us, hl with | [_, _], _ => rfl),
    a__law_draws := f__law_draws, d__law_draws := _, F__law_draws := fun_mk (st := s__law_draws) l__law_draws cc__law_draws k__law_draws,
    g__law_draws := PySem.W.mg_of X G a__law_draws,
    b__law_draws := (fun_mk (st := s__law_draws) l__law_draws cc__law_draws k__law_draws).binds (ps := ["script", "many"]) (fun _ _ _ _ _ _ us hl => match us, hl with | [_, _], _ => rfl),
    a__law_take := f__law_take, d__law_take := _, F__law_take := fun_mk (st := s__law_take) l__law_take cc__law_take k__law_take,
    g__law_take := PySem.W.mg_of X G a__law_take,
    b__law_take := (fun_mk (st := s__law_take) l__law_take cc__law_take k__law_take).binds (ps := ["store", "many"]) (fun _ _ _ _ _ _ us hl => match us, hl with | [_, _], _ => rfl),
    a__law_options := f__law_options, d__law_options := _, F__law_options := fun_mk (st := s__law_options) l__law_options cc__law_options k__law_options,
    g__law_options := PySem.W.mg_of X G a__law_options,
    b__law_options := (fun_mk (st := s__law_options) l__law_options cc__law_options k__law_options).binds (ps := ["league"]) (fun _ _ _ _ _ _ us hl => match us, hl with | [_], _ => rfl),
    a__law_drawn_end := f__law_drawn_end, d__law_drawn_end := _, F__law_drawn_end := fun_mk (st := s__law_drawn_end) l__law_drawn_end cc__law_drawn_end k__law_drawn_end,
    g__law_drawn_end := PySem.W.mg_of X G a__law_drawn_end,
    b__law_drawn_end := (fun_mk (st := s__law_drawn_end) l__law_drawn_end cc__law_drawn_end k__law_drawn_end).binds (ps := ["store", "league"]) (fun _ _ _ _ _ _ us hl => match us, hl with | [_, _], _ => rfl),
    a__law_league := f__law_league, d__law_league := _, F__law_league := fun_mk (st := s__law_league) l__law_league cc__law_league k__law_league,
    g__law_league := PySem.W.mg_of X G a__law_league,
    b__law_league := (fun_mk (st := s__law_league) l__law_league cc__law_league k__law_league).binds (ps := ["store"]) (fun _ _ _ _ _ _ us hl => match us, hl with | [_], _ => rfl),
    a__law_had := f__law_had, d__law_had := _, F__law_had := fun_mk (st := s__law_had) l__law_had cc__law_had k__law_had,
    g__law_had := PySem.W.mg_of X G a__law_had,
    b__law_had := (fun_mk (st := s__law_had) l__law_had cc__law_had k__law_had).binds (ps := ["league"]) (fun _ _ _ _ _ _ us hl => match us, hl with | [_], _ => rfl),
    a__law_points := f__law_points, d__law_points := _, F__law_points := fun_mk (st := s__law_points) l__law_points cc__law_points k__law_points,
    g__law_points := PySem.W.mg_of X G a__law_points,
    b__law_points := (fun_mk (st := s__law_points) l__law_points cc__law_points k__law_points).binds (ps := ["store", "league"]) (fun _ _ _ _ _ _ us hl => match us, hl with | [_, _], _ => rfl),
    a__law_copy := f__law_copy, d__law_copy := _, F__law_copy := fun_mk (st := s__law_copy) l__law_copy cc__law_copy k__law_copy,
    g__law_copy := PySem.W.mg_of X G a__law_copy,
    b__law_copy := (fun_mk (st := s__law_copy) l__law_copy cc__law_copy k__law_copy).binds (ps := ["league"]) (fun _ _ _ _ _ _ us hl => match us, hl with | [_], _ => rfl),
    a__law_less := f__law_less, d__law_less := _, F__law_less := fun_mk (st := s__law_less) l__law_less cc__law_less k__law_less,
    g__law_less := PySem.W.mg_of X G a__law_less,
    b__law_less := (fun_mk (st := s__law_less) l__law_less cc__law_less k__law_less).binds (ps := ["options", "at", "needs", "to_i", "to_j"]) (fun _ _ _ _ _ _ us hl => match us, hl with | [_, _, _, _, _], _ => rfl),
    a__law_ways := f__law_ways, d__law_ways := _, F__law_ways := fun_mk (st := s__law_ways) l__law_ways cc__law_ways k__law_ways,
    g__law_ways := PySem.W.mg_of X G a__law_ways,
    b__law_ways := (fun_mk (st := s__law_ways) l__law_ways cc__law_ways k__law_ways).binds (ps := ["options", "at", "needs", "known"]) (fun _ _ _ _ _ _ us hl => match us, hl with | [_, _, _, _], _ => rfl),
    a__law_many := f__law_many, d__law_many := _, F__law_many := fun_mk (st := s__law_many) l__law_many cc__law_many k__law_many,
    g__law_many := PySem.W.mg_of X G a__law_many,
    b__law_many := (fun_mk (st := s__law_many) l__law_many cc__law_many k__law_many).binds (ps := ["league", "points"]) (fun _ _ _ _ _ _ us hl => match us, hl with | [_, _], _ => rfl),
    a_law := fa, d_law := _, F_law := fun_mk (st := s_law) l_law cc_law k_law,
    g_law := PySem.W.mg_of X G a_law,
    b_law := (fun_mk (st := s_law) l_law cc_law k_law).binds (ps := ["script"]) (fun _ _ _ _ _ _ us hl => match us, hl with | [_], _ => rfl),
    ct_FEWEST_PLAYERS := ct_FEWEST_PLAYERS, c_FEWEST_PLAYERS := PySem.W.mg_of X G c_FEWEST_PLAYERS,
    ct_MOST_PLAYERS := ct_MOST_PLAYERS, c_MOST_PLAYERS := PySem.W.mg_of X G c_MOST_PLAYERS,
    ca_WORTHS := ca_WORTHS, c_WORTHS := PySem.W.mg_of X G c_WORTHS,
    t_WORTHS := ktab_mk ⟨cl_WORTHS, ck_WORTHS, cs_WORTHS⟩ ce_WORTHS,
    i_combinations := PySem.W.mg_of X G i_combinations,
    z_abs := PySem.W.mg_none_of X G z_abs,
    z_all := PySem.W.mg_none_of X G z_all,
    z_bool := PySem.W.mg_none_of X G z_bool,
    z_enumerate := PySem.W.mg_none_of X G z_enumerate,
    z_int := PySem.W.mg_none_of X G z_int,
    z_isinstance := PySem.W.mg_none_of X G z_isinstance,
    z_len := PySem.W.mg_none_of X G z_len,
    z_list := PySem.W.mg_none_of X G z_list,
    z_max := PySem.W.mg_none_of X G z_max,
    z_min := PySem.W.mg_none_of X G z_min,
    z_range := PySem.W.mg_none_of X G z_range,
    z_reversed := PySem.W.mg_none_of X G z_reversed,
    z_str := PySem.W.mg_none_of X G z_str,
    z_sum := PySem.W.mg_none_of X G z_sum,
    z_tuple := PySem.W.mg_none_of X G z_tuple,
    z_type := PySem.W.mg_none_of X G z_type,
    z_zip := PySem.W.mg_none_of X G z_zip,
    ea_NoLeague := e_NoLeague, eg_NoLeague := PySem.W.mg_of X G eg_NoLeague,
    ea_NoPoints := e_NoPoints, eg_NoPoints := PySem.W.mg_of X G eg_NoPoints,
    E_NoLeague := ⟨eg_NoLeague, ex_NoLeague, ek_NoLeague, ehs_NoLeague, et_NoLeague, ⟨ehg_NoLeague, ehk_NoLeague, ehs_NoLeague, ehd_NoLeague, eha_NoLeague, ehn, eht, ehm_NoLeague⟩⟩,
    E_NoPoints := ⟨eg_NoPoints, ex_NoPoints, ek_NoPoints, ehs_NoPoints, et_NoPoints, ⟨ehg_NoPoints, ehk_NoPoints, ehs_NoPoints, ehd_NoPoints, eha_NoPoints, ehn, eht, ehm_NoPoints⟩⟩ }
  have ea : T.a_law = fa := by
    have z := T.g_law.symm.trans hfa
    injection z with z
    injection z
  obtain ⟨_, _, _, _, _, _, _, _, _, hfd, _⟩ := T.F_law.ex
  refine ⟨T.d_law, fun s v => ?_, fun base kb nb => by rw [← ea]; exact FX.law_ofML (m := fun sa ns => m_law) (fun sa ns h => law_true ns h) rfl fun sa ns => ok_law T⟩
  rw [hfd]
  exact BindsTo.of_eq rfl
end FX.K14
open PySem PySem.W PyProof.Rows
set_option maxHeartbeats 0 in
theorem PySem.Challenge.cw_wintold_k14_ends_counted_holds : PySem.Challenge.rw_wintold_k14_ends_counted.Holds := by
  w_on; o_law; k_head; (case hw => w_witness2)
  k_fill
  refine L2.walk_of (l := PySem.Challenge.rw_wintold_k14_ends_counted) (n := 63) (k := 25) (x := "script") (CX := fun w => L2.CX (PySem.Challenge.rw_wintold_k14_ends_counted).prog w) (sp := fun w => FX.spLaw _) rfl (by decide) rfl ⟨rfl, by decide, by decide⟩ (fun w h Y => PySem.W.kIn_of Y) ?F (fun _ _ a ns hl _ hS => ⟨a, ns, rfl, hS, hl, fun _ => rfl⟩) (fun w H s e s' h => by obtain ⟨_, _, _, _, _, _, _, _, _, _, _, _, z⟩ := h; exact z)
  case F =>
    intro w mg fa h KX G hmg
    refine' FX.K14.all_mk KX G hmg ?aC_Ways ?pgC_Ways ?hdC_Ways ?poC_Ways ?saC_Ways ?mkC_Ways ?kcC_Ways ?na_Ways_counted ?na_Ways_goal ?na_Ways_had ?na_Ways_kind ?na_Ways_left ?na_Ways_most ?a_is_whole ?l_is_whole ?cc_is_whole ?k_is_whole ?a_is_player ?l_is_player ?cc_is_player ?k_is_player ?a_is_tuple_of ?l_is_tuple_of ?cc_is_tuple_of ?k_is_tuple_of ?a_is_match ?l_is_match ?cc_is_match ?k_is_match ?a_is_outcome ?l_is_outcome ?cc_is_outcome ?k_is_outcome ?a__is_played ?l__is_played ?cc__is_played ?k__is_played ?a__are_played ?l__are_played ?cc__are_played ?k__are_played ?a_is_league ?l_is_league ?cc_is_league ?k_is_league ?a_check_league ?l_check_league ?cc_check_league ?k_check_league ?a_check_points ?l_check_points ?cc_check_points ?k_check_points ?a_worth_of ?l_worth_of ?cc_worth_of ?k_worth_of ?a_outcomes_in_order ?l_outcomes_in_order ?cc_outcomes_in_order ?k_outcomes_in_order ?a_shares_of ?l_shares_of ?cc_shares_of ?k_shares_of ?a_points_behind ?l_points_behind ?cc_points_behind ?k_points_behind ?a_matches_left ?l_matches_left ?cc_matches_left ?k_matches_left ?a_points_had ?l_points_had ?cc_points_had ?k_points_had ?a__most_from ?l__most_from ?cc__most_from ?k__most_from ?a_Ways__in_reach ?i_Ways__in_reach ?l_Ways__in_reach ?cc_Ways__in_reach ?k_Ways__in_reach ?a_Ways_steps ?i_Ways_steps ?l_Ways_steps ?cc_Ways_steps ?k_Ways_steps ?a_Ways_many ?i_Ways_many ?l_Ways_many ?cc_Ways_many ?k_Ways_many ?a_Ways_in_all ?i_Ways_in_all ?l_Ways_in_all ?cc_Ways_in_all ?k_Ways_in_all ?a_Ways___init__ ?i_Ways___init__ ?l_Ways___init__ ?cc_Ways___init__ ?k_Ways___init__ ?a_count_ends ?l_count_ends ?cc_count_ends ?k_count_ends ?a__law_draws ?l__law_draws ?cc__law_draws ?k__law_draws ?a__law_take ?l__law_take ?cc__law_take ?k__law_take ?a__law_options ?l__law_options ?cc__law_options ?k__law_options ?a__law_drawn_end ?l__law_drawn_end ?cc__law_drawn_end ?k__law_drawn_end ?a__law_league ?l__law_league ?cc__law_league ?k__law_league ?a__law_had ?l__law_had ?cc__law_had ?k__law_had ?a__law_points ?l__law_points ?cc__law_points ?k__law_points ?a__law_copy ?l__law_copy ?cc__law_copy ?k__law_copy ?a__law_less ?l__law_less ?cc__law_less ?k__law_less ?a__law_ways ?l__law_ways ?cc__law_ways ?k__law_ways ?a__law_many ?l__law_many ?cc__law_many ?k__law_many ?a_law ?l_law ?cc_law ?k_law ?c_FEWEST_PLAYERS ?c_MOST_PLAYERS ?c_WORTHS ?cl_WORTHS ?ck_WORTHS ?cs_WORTHS ?ce_WORTHS ?i_combinations ?z_abs ?z_all ?z_bool ?z_enumerate ?z_int ?z_isinstance ?z_len ?z_list ?z_max ?z_min ?z_range ?z_reversed ?z_str ?z_sum ?z_tuple ?z_type ?z_zip ?eg_NoLeague ?eg_NoPoints ?ehn ?eht ?ex_NoLeague ?ek_NoLeague ?et_NoLeague ?ehg_NoLeague ?ehk_NoLeague ?ehs_NoLeague ?ehd_NoLeague ?eha_NoLeague ?ehm_NoLeague ?ex_NoPoints ?ek_NoPoints ?et_NoPoints ?ehg_NoPoints ?ehk_NoPoints ?ehs_NoPoints ?ehd_NoPoints ?eha_NoPoints ?ehm_NoPoints
    (case aC_Ways => k_is)
    (case pgC_Ways => k_is)
    (case hdC_Ways => k_is)
    (case poC_Ways => k_is)
    (case saC_Ways => k_is)
    (case mkC_Ways => k_is)
    (case kcC_Ways => k_is)
    (case na_Ways_counted => k_is)
    (case na_Ways_goal => k_is)
    (case na_Ways_had => k_is)
    (case na_Ways_kind => k_is)
    (case na_Ways_left => k_is)
    (case na_Ways_most => k_is)
    (case a_is_whole => k_is)
    (case l_is_whole => k_is)
    (case cc_is_whole => k_is)
    (case k_is_whole => k_is)
    (case a_is_player => k_is)
    (case l_is_player => k_is)
    (case cc_is_player => k_is)
    (case k_is_player => k_is)
    (case a_is_tuple_of => k_is)
    (case l_is_tuple_of => k_is)
    (case cc_is_tuple_of => k_is)
    (case k_is_tuple_of => k_is)
    (case a_is_match => k_is)
    (case l_is_match => k_is)
    (case cc_is_match => k_is)
    (case k_is_match => k_is)
    (case a_is_outcome => k_is)
    (case l_is_outcome => k_is)
    (case cc_is_outcome => k_is)
    (case k_is_outcome => k_is)
    (case a__is_played => k_is)
    (case l__is_played => k_is)
    (case cc__is_played => k_is)
    (case k__is_played => k_is)
    (case a__are_played => k_is)
    (case l__are_played => k_is)
    (case cc__are_played => k_is)
    (case k__are_played => k_is)
    (case a_is_league => k_is)
    (case l_is_league => k_is)
    (case cc_is_league => k_is)
    (case k_is_league => k_is)
    (case a_check_league => k_is)
    (case l_check_league => k_is)
    (case cc_check_league => k_is)
    (case k_check_league => k_is)
    (case a_check_points => k_is)
    (case l_check_points => k_is)
    (case cc_check_points => k_is)
    (case k_check_points => k_is)
    (case a_worth_of => k_is)
    (case l_worth_of => k_is)
    (case cc_worth_of => k_is)
    (case k_worth_of => k_is)
    (case a_outcomes_in_order => k_is)
    (case l_outcomes_in_order => k_is)
    (case cc_outcomes_in_order => k_is)
    (case k_outcomes_in_order => k_is)
    (case a_shares_of => k_is)
    (case l_shares_of => k_is)
    (case cc_shares_of => k_is)
    (case k_shares_of => k_is)
    (case a_points_behind => k_is)
    (case l_points_behind => k_is)
    (case cc_points_behind => k_is)
    (case k_points_behind => k_is)
    (case a_matches_left => k_is)
    (case l_matches_left => k_is)
    (case cc_matches_left => k_is)
    (case k_matches_left => k_is)
    (case a_points_had => k_is)
    (case l_points_had => k_is)
    (case cc_points_had => k_is)
    (case k_points_had => k_is)
    (case a__most_from => k_is)
    (case l__most_from => k_is)
    (case cc__most_from => k_is)
    (case k__most_from => k_is)
    (case a_Ways__in_reach => k_is)
    (case i_Ways__in_reach => k_is)
    (case l_Ways__in_reach => k_is)
    (case cc_Ways__in_reach => k_is)
    (case k_Ways__in_reach => k_is)
    (case a_Ways_steps => k_is)
    (case i_Ways_steps => k_is)
    (case l_Ways_steps => k_is)
    (case cc_Ways_steps => k_is)
    (case k_Ways_steps => k_is)
    (case a_Ways_many => k_is)
    (case i_Ways_many => k_is)
    (case l_Ways_many => k_is)
    (case cc_Ways_many => k_is)
    (case k_Ways_many => k_is)
    (case a_Ways_in_all => k_is)
    (case i_Ways_in_all => k_is)
    (case l_Ways_in_all => k_is)
    (case cc_Ways_in_all => k_is)
    (case k_Ways_in_all => k_is)
    (case a_Ways___init__ => k_is)
    (case i_Ways___init__ => k_is)
    (case l_Ways___init__ => k_is)
    (case cc_Ways___init__ => k_is)
    (case k_Ways___init__ => k_is)
    (case a_count_ends => k_is)
    (case l_count_ends => k_is)
    (case cc_count_ends => k_is)
    (case k_count_ends => k_is)
    (case a__law_draws => k_is)
    (case l__law_draws => k_is)
    (case cc__law_draws => k_is)
    (case k__law_draws => k_is)
    (case a__law_take => k_is)
    (case l__law_take => k_is)
    (case cc__law_take => k_is)
    (case k__law_take => k_is)
    (case a__law_options => k_is)
    (case l__law_options => k_is)
    (case cc__law_options => k_is)
    (case k__law_options => k_is)
    (case a__law_drawn_end => k_is)
    (case l__law_drawn_end => k_is)
    (case cc__law_drawn_end => k_is)
    (case k__law_drawn_end => k_is)
    (case a__law_league => k_is)
    (case l__law_league => k_is)
    (case cc__law_league => k_is)
    (case k__law_league => k_is)
    (case a__law_had => k_is)
    (case l__law_had => k_is)
    (case cc__law_had => k_is)
    (case k__law_had => k_is)
    (case a__law_points => k_is)
    (case l__law_points => k_is)
    (case cc__law_points => k_is)
    (case k__law_points => k_is)
    (case a__law_copy => k_is)
    (case l__law_copy => k_is)
    (case cc__law_copy => k_is)
    (case k__law_copy => k_is)
    (case a__law_less => k_is)
    (case l__law_less => k_is)
    (case cc__law_less => k_is)
    (case k__law_less => k_is)
    (case a__law_ways => k_is)
    (case l__law_ways => k_is)
    (case cc__law_ways => k_is)
    (case k__law_ways => k_is)
    (case a__law_many => k_is)
    (case l__law_many => k_is)
    (case cc__law_many => k_is)
    (case k__law_many => k_is)
    (case a_law => k_is)
    (case l_law => k_is)
    (case cc_law => k_is)
    (case k_law => k_is)
    (case c_FEWEST_PLAYERS => k_is)
    (case c_MOST_PLAYERS => k_is)
    (case c_WORTHS => k_is)
    (case cl_WORTHS => k_is)
    (case ck_WORTHS => ((repeat (unfold PySem.W.KeysLit; refine ⟨⟨_, _, rfl, rfl⟩, ?_⟩)); first | trivial | (unfold PySem.W.KeysLit; trivial)))
    (case cs_WORTHS => first | k_is | rfl | decide +kernel)
    (case ce_WORTHS => exact FX.tab_t (FX.tab_cons (.int 1) ⟨_, rfl⟩ (fun _ _ => .int _) (FX.tab_cons (.int 2) ⟨_, rfl⟩ (fun _ _ => .int _) FX.tab_nil)) rfl)
    (case i_combinations => k_is)
    (case z_abs => k_is)
    (case z_all => k_is)
    (case z_bool => k_is)
    (case z_enumerate => k_is)
    (case z_int => k_is)
    (case z_isinstance => k_is)
    (case z_len => k_is)
    (case z_list => k_is)
    (case z_max => k_is)
    (case z_min => k_is)
    (case z_range => k_is)
    (case z_reversed => k_is)
    (case z_str => k_is)
    (case z_sum => k_is)
    (case z_tuple => k_is)
    (case z_type => k_is)
    (case z_zip => k_is)
    (case eg_NoLeague => k_is)
    (case eg_NoPoints => k_is)
    (case ehn => k_is)
    (case eht => k_is)
    (case ex_NoLeague => k_exc)
    (case ek_NoLeague => k_is)
    (case et_NoLeague => k_is)
    (case ehg_NoLeague => k_is)
    (case ehk_NoLeague => k_is)
    (case ehs_NoLeague => k_is)
    (case ehd_NoLeague => k_is)
    (case eha_NoLeague => k_is)
    (case ehm_NoLeague => k_is)
    (case ex_NoPoints => k_exc)
    (case ek_NoPoints => k_is)
    (case et_NoPoints => k_is)
    (case ehg_NoPoints => k_is)
    (case ehk_NoPoints => k_is)
    (case ehs_NoPoints => k_is)
    (case ehd_NoPoints => k_is)
    (case eha_NoPoints => k_is)
    (case ehm_NoPoints => k_is)
