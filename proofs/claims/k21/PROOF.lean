import PyProof.Rows.All
import Wide.All
import OpenK.AllK
import Wide.FinOn
import HandS.ForMost
import HandS.ForExc
import HandS.Wide
import HandS.WideBits
import HandS.Gcd
import HandS.Style
import HandS.FStr
import HandS.Lambda
import HandS.TupAny
import HandS.TupMul
import HandS.Head0
import HandS.Head1
import HandS.Head2
import HandS.HeadEnd
import HandS.HeadHook1
import HandS.HeadHook2
import HandS.HeadHook3
import HandS.HeadHook4
import HandS.HeadWalk
import HandS.Defaults
import HandS.SortInts
import KE.KDictPairs
import HandS.SortRule
import HandS.WordsDict
import HandS.SortOrd
import KE.GoesEnum
import KE.GoesMore
import HandS.Zip
import HandS.Rev
import KE.KMathG
import Flt.RightSqrt
import HandS.Deep
import HandS.DictComp
import HandS.SortKw
import KE.KRevSl
import KE.SortData
import HandS.Head3
import HandS.EndTab
import KE.GoesNew
import KE.KStateDown
import HandS.Base
import HandS.Call
import HandS.Ends
import HandS.More
import HandS.Words
import HandS.WordsExc
import PySem.Challenge.RW_algebrastack_k21_clauses_that_fit_or_nev
section
set_option Elab.async false
set_option linter.all false
set_option maxRecDepth 100000
set_option maxHeartbeats 4000000
/-! A layer over HandS: pure data in slots, lists of one's own in a store; readings told by what they evaluate to. -/
namespace Py
open PySem PySem.Spec PyProof.Rows L2
set_option autoImplicit false
abbrev Frg := PySem.W.Frag
abbrev Sg := L2.St
inductive Dt where
  | v (x : V)
  | tup (xs : List Dt)
  | lst (xs : List Dt)
  | obj (C : Addr) (ns : List Str) (xs : List Dt)
  | dct (ks : List Key) (xs : List Dt)
  | tupZ (xs : List Dt)
  | lam (P : Addr → Addr → HO) (q : Str)
  | lstN (xs : List Dt)
  | tupE (xs : List Dt)
  | dctT (ks : List (List Key)) (xs : List Dt)
abbrev di (i : Int) : Dt := .v (.int i)
abbrev db (b : Bool) : Dt := .v (.bl b)
abbrev dn : Dt := .v .non
abbrev ds (s : Str) : Dt := .v (.str s)
/-- an object that is no table of code objects -/
def NoT (o : HO) : Prop := ∀ ps, o ≠ .tbl ps
/-- all but the tables stay -/
def Ex (H H' : Hp) : Prop := ∀ a o, H a = some o → NoT o → H' a = some o
theorem nt_l {xs : List V} : NoT (.lst xs) := fun ps z => by cases z
theorem nt_t {xs : List V} : NoT (.tup xs) := fun ps z => by cases z
theorem nt_f {o : Obj} {u : HO} : NoT (.frz o u) := fun ps z => by cases z
theorem nt_dt {kvs : List (List Key × V)} : NoT (.dT kvs) := fun ps z => by cases z
theorem nt_k {kvs : List (Key × V)} : NoT (.dK kvs) := fun ps z => by cases z
theorem nt_i {C d : Addr} {fs : List (Str × V)} : NoT (.ins C d fs) := fun ps z => by cases z
theorem Ex.refl (H : Hp) : Ex H H := fun _ _ h _ => h
theorem Ex.trans {H H1 H2 : Hp} (a : Ex H H1) (b : Ex H1 H2) : Ex H H2 := fun x o h n => b x o (a x o h n) n
theorem Ex.new {H : Hp} {p : Addr} {o : HO} (h : H p = none) : Ex H (upd H p o) := fun a u e _ => by
  rw [upd_ne (ne_of_none e h)]
  exact e
theorem Ex.rd {H H' : Hp} {a : Addr} {u : HO} (e : Ex H H') (n : NoT u) (h : Rd H a u) : Rd H' a u := by
  rcases h with h | ⟨o, h⟩
  · exact .inl (e a _ h n)
  · exact .inr ⟨o, e a _ h nt_f⟩
theorem Ex.l {K : Frg} {H H' : Hp} {a : Addr} {xs : List V} (e : Ex H H') (h : SqL K H a xs) : SqL K H' a xs := by
  rcases h with h | h
  · exact .inl (e.rd nt_l h)
  · exact .inr h
theorem Ex.t {K : Frg} {H H' : Hp} {a : Addr} {xs : List V} (e : Ex H H') (h : SqT K H a xs) : SqT K H' a xs := by
  rcases h with h | h
  · exact .inl (e.rd nt_t h)
  · exact .inr h
mutual
/-- the value v, in the heap H, is the datum -/
def Is (K : Frg) (H : Hp) : Dt → V → Prop
  | .v x, v => v = x
  | .tup xs, v => ∃ a vs, v = .ref a ∧ SqT K H a vs ∧ IsA K H xs vs
  | .lst xs, v => ∃ a vs, v = .ref a ∧ SqL K H a vs ∧ IsA K H xs vs
  | .obj C ns xs, v => ∃ a dx vs, v = .ref a ∧ H a = some (.ins C dx (ns.zip vs)) ∧ IsA K H xs vs
  | .dct ks xs, v => ∃ a vs, v = .ref a ∧ H a = some (.dK (ks.zip vs)) ∧ IsA K H xs vs
  | .tupZ xs, v => ∃ a o vs, v = .ref a ∧ H a = some (.frz o (.tup vs)) ∧ o.dict = none ∧ IsA K H xs vs
  | .lam P q, v => ∃ f c', v = .ref f ∧ H f = some (P f c') ∧ NoT (P f c') ∧ H c' = some (LamX.CodeO c' q)
  | .lstN xs, v => ∃ a vs, v = .ref a ∧ Rd H a (.lst vs) ∧ IsA K H xs vs
  | .tupE xs, v => ∃ a vs, v = .ref a ∧ H a = some (.tup vs) ∧ IsA K H xs vs
  | .dctT ks xs, v => ∃ a vs, v = .ref a ∧ H a = some (.dT (ks.zip vs)) ∧ IsA K H xs vs
def IsA (K : Frg) (H : Hp) : List Dt → List V → Prop
  | [], vs => vs = []
  | d :: r, vs => ∃ v w, vs = v :: w ∧ Is K H d v ∧ IsA K H r w
end
section
variable {K : Frg} {H H' : Hp}
mutual
theorem Is.mono (e : Ex H H') : ∀ (d : Dt) (v : V), Is K H d v → Is K H' d v
  | .v x, v, h => by rw [Is] at h ⊢; exact h
  | .tup xs, v, h => by
    rw [Is] at h ⊢
    obtain ⟨a, vs, h1, h2, h3⟩ := h
    exact ⟨a, vs, h1, e.t h2, IsA.mono e xs vs h3⟩
  | .lst xs, v, h => by
    rw [Is] at h ⊢
    obtain ⟨a, vs, h1, h2, h3⟩ := h
    exact ⟨a, vs, h1, e.l h2, IsA.mono e xs vs h3⟩
  | .obj C ns xs, v, h => by
    rw [Is] at h ⊢
    obtain ⟨a, dx, vs, h1, h2, h3⟩ := h
    exact ⟨a, dx, vs, h1, e _ _ h2 nt_i, IsA.mono e xs vs h3⟩
  | .dct ks xs, v, h => by
    rw [Is] at h ⊢
    obtain ⟨a, vs, h1, h2, h3⟩ := h
    exact ⟨a, vs, h1, e _ _ h2 nt_k, IsA.mono e xs vs h3⟩
  | .tupZ xs, v, h => by
    rw [Is] at h ⊢
    obtain ⟨a, o, vs, h1, h2, h4, h3⟩ := h
    exact ⟨a, o, vs, h1, e _ _ h2 nt_f, h4, IsA.mono e xs vs h3⟩
  | .lam P q, v, h => by
    rw [Is] at h ⊢
    obtain ⟨f, c', h1, h2, h3, h4⟩ := h
    exact ⟨f, c', h1, e _ _ h2 h3, h3, e _ _ h4 (fun ps z => LamX.codeO_ne ps z)⟩
  | .lstN xs, v, h => by
    rw [Is] at h ⊢
    obtain ⟨a, vs, h1, h2, h3⟩ := h
    exact ⟨a, vs, h1, e.rd nt_l h2, IsA.mono e xs vs h3⟩
  | .tupE xs, v, h => by
    rw [Is] at h ⊢
    obtain ⟨a, vs, h1, h2, h3⟩ := h
    exact ⟨a, vs, h1, e _ _ h2 nt_t, IsA.mono e xs vs h3⟩
  | .dctT ks xs, v, h => by
    rw [Is] at h ⊢
    obtain ⟨a, vs, h1, h2, h3⟩ := h
    exact ⟨a, vs, h1, e _ _ h2 nt_dt, IsA.mono e xs vs h3⟩
theorem IsA.mono (e : Ex H H') : ∀ (ds : List Dt) (vs : List V), IsA K H ds vs → IsA K H' ds vs
  | [], vs, h => by rw [IsA] at h ⊢; exact h
  | d :: r, vs, h => by
    rw [IsA] at h ⊢
    obtain ⟨v, w, h1, h2, h3⟩ := h
    exact ⟨v, w, h1, Is.mono e d v h2, IsA.mono e r w h3⟩
end
theorem Is.v_iff {x v : V} : Is K H (.v x) v ↔ v = x := by rw [Is]
theorem is_v {x : V} : Is K H (.v x) x := by rw [Is]
theorem isA_nil : IsA K H [] [] := by rw [IsA]
theorem isA_cons {d : Dt} {r : List Dt} {v : V} {w : List V} (h : Is K H d v) (h' : IsA K H r w) : IsA K H (d :: r) (v :: w) := by rw [IsA]; exact ⟨v, w, rfl, h, h'⟩
theorem isA_len : ∀ {ds : List Dt} {vs : List V}, IsA K H ds vs → vs.length = ds.length
  | [], vs, h => by rw [IsA] at h; rw [h]; rfl
  | d :: r, vs, h => by
    rw [IsA] at h
    obtain ⟨v, w, h1, h2, h3⟩ := h
    rw [h1, List.length_cons, List.length_cons, isA_len h3]
theorem isA_get : ∀ {ds : List Dt} {vs : List V} {i : Nat} {d : Dt}, IsA K H ds vs → ds[i]? = some d → ∃ v, vs[i]? = some v ∧ Is K H d v
  | [], vs, i, d, h, e => by cases i <;> simp at e
  | d0 :: r, vs, i, d, h, e => by
    rw [IsA] at h
    obtain ⟨v, w, h1, h2, h3⟩ := h
    subst h1
    cases i with
    | zero =>
      simp at e
      subst e
      exact ⟨v, rfl, h2⟩
    | succ i =>
      obtain ⟨u, h4, h5⟩ := isA_get (i := i) h3 (by simpa using e)
      exact ⟨u, by simpa using h4, h5⟩
theorem isA_get' {ds : List Dt} {vs : List V} {i : Nat} {v : V} (h : IsA K H ds vs) (e : vs[i]? = some v) : ∃ d, ds[i]? = some d ∧ Is K H d v := by
  have hl := isA_len h
  have hi : i < vs.length := (List.getElem?_eq_some_iff.mp e).1
  have hd : ds[i]? = some ds[i] := List.getElem?_eq_getElem (by omega)
  obtain ⟨u, h1, h2⟩ := isA_get h hd
  rw [e] at h1
  cases h1
  exact ⟨_, hd, h2⟩
theorem isA_app : ∀ {xs ys : List Dt} {vs ws : List V}, IsA K H xs vs → IsA K H ys ws → IsA K H (xs ++ ys) (vs ++ ws)
  | [], ys, vs, ws, h, g => by rw [IsA] at h; subst h; exact g
  | d :: r, ys, vs, ws, h, g => by
    rw [IsA] at h
    obtain ⟨v, w, h1, h2, h3⟩ := h
    subst h1
    exact isA_cons h2 (isA_app h3 g)
theorem isA_set : ∀ {xs : List Dt} {vs : List V} {i : Nat} {d : Dt} {v : V}, IsA K H xs vs → Is K H d v → IsA K H (xs.set i d) (vs.set i v)
  | [], vs, i, d, v, h, g => by rw [IsA] at h; subst h; exact isA_nil
  | d0 :: r, vs, i, d, v, h, g => by
    rw [IsA] at h
    obtain ⟨v0, w, h1, h2, h3⟩ := h
    subst h1
    cases i with
    | zero => exact isA_cons g h3
    | succ i => exact isA_cons h2 (isA_set h3 g)
theorem isA_take : ∀ {xs : List Dt} {vs : List V} (n : Nat), IsA K H xs vs → IsA K H (xs.take n) (vs.take n)
  | xs, vs, 0, h => by simp only [List.take_zero]; exact isA_nil
  | [], vs, n + 1, h => by rw [IsA] at h; subst h; exact isA_nil
  | d :: r, vs, n + 1, h => by
    rw [IsA] at h
    obtain ⟨v, w, h1, h2, h3⟩ := h
    subst h1
    exact isA_cons h2 (isA_take n h3)
theorem isA_drop : ∀ {xs : List Dt} {vs : List V} (n : Nat), IsA K H xs vs → IsA K H (xs.drop n) (vs.drop n)
  | xs, vs, 0, h => h
  | [], vs, n + 1, h => by rw [IsA] at h; subst h; exact isA_nil
  | d :: r, vs, n + 1, h => by
    rw [IsA] at h
    obtain ⟨v, w, h1, h2, h3⟩ := h
    subst h1
    exact isA_drop n h3
theorem isA_cut {xs : List Dt} {vs : List V} (lo hi : Nat) (h : IsA K H xs vs) : IsA K H ((xs.drop lo).take hi) ((vs.drop lo).take hi) := isA_take hi (isA_drop lo h)
end
/-! ### the abstract state -/
inductive SD where
  | un
  | d (x : Dt)
  | own (k : Nat)
inductive OD where
  | gone
  | lst (xs : List Dt)
  | dct (ks : List Key) (xs : List SD)
  | obj (C : Addr) (ns : List Str) (xs : List SD)
  | lstS (xs : List SD)
  | dctT (ks : List (List Key)) (xs : List SD)
  | lckK (u : Obj) (acc : List (Key × V)) (xs : List SD)
  | lckT (u : Obj) (acc : List (List Key × V)) (xs : List SD)
structure AS where
  sl : List SD
  st : List OD
def hd (O : List Addr) (H : Hp) : Hp := fun b => if b ∈ O then none else H b
theorem hd_ex {O : List Addr} {H : Hp} : Ex (hd O H) H := fun a o e _ => by
  unfold hd at e
  split at e
  · cases e
  · exact e
theorem hd_mono {O : List Addr} {H H' : Hp} (e : Ex H H') : Ex (hd O H) (hd O H') := fun a o h n => by
  unfold hd at h ⊢
  split at h
  · cases h
  · rename_i q
    rw [if_neg q]
    exact e _ _ h n
theorem hd_of {O : List Addr} {H : Hp} {a : Addr} (h : a ∉ O) : hd O H a = H a := by unfold hd; rw [if_neg h]
theorem hd_nil {H : Hp} : hd [] H = H := by funext b; unfold hd; simp
/-- the addresses hidden -/
def hid (O : List Addr) (os : List (Option Addr)) : List Addr := O ++ os.filterMap id
theorem mem_hid {O : List Addr} {os : List (Option Addr)} {a : Addr} : a ∈ hid O os ↔ a ∈ O ∨ some a ∈ os := by
  unfold hid
  rw [List.mem_append, List.mem_filterMap]
  constructor
  · rintro (h | ⟨x, h1, h2⟩)
    · exact .inl h
    · have : x = some a := h2
      rw [this] at h1
      exact .inr h1
  · rintro (h | h)
    · exact .inl h
    · exact .inr ⟨_, h, rfl⟩
/-- the heap of data -/
abbrev Rh (O : List Addr) (os : List (Option Addr)) (H : Hp) : Hp := hd (hid O os) H
def SlOk (K : Frg) (os : List (Option Addr)) (R : Hp) : SD → Option V → Prop
  | .un, _ => True
  | .d x, o => ∃ v, o = some v ∧ Is K R x v
  | .own k, o => ∃ a, o = some (.ref a) ∧ os[k]? = some (some a)
def SvA (K : Frg) (os : List (Option Addr)) (R : Hp) : List SD → List V → Prop
  | [], vs => vs = []
  | s :: r, vs => ∃ v w, vs = v :: w ∧ SlOk K os R s (some v) ∧ SvA K os R r w
def StOk (K : Frg) (os : List (Option Addr)) (R H : Hp) (o : Option Addr) : OD → Prop
  | .gone => o = none
  | .lst xs => ∃ a vs, o = some a ∧ H a = some (.lst vs) ∧ IsA K R xs vs
  | .dct ks xs => ∃ a kvs, o = some a ∧ H a = some (.dK kvs) ∧ kvs.map (·.1) = ks ∧ SvA K os R xs (kvs.map (·.2))
  | .obj C ns xs => ∃ a dx fs, o = some a ∧ H a = some (.ins C dx fs) ∧ fs.map (·.1) = ns ∧ SvA K os R xs (fs.map (·.2))
  | .lstS xs => ∃ a vs, o = some a ∧ H a = some (.lst vs) ∧ SvA K os R xs vs
  | .dctT ks xs => ∃ a kvs, o = some a ∧ H a = some (.dT kvs) ∧ kvs.map (·.1) = ks ∧ SvA K os R xs (kvs.map (·.2))
  | .lckK u acc xs => ∃ a, o = some a ∧ H a = some (.frz u (.dK acc)) ∧ SvA K os R xs (acc.map (·.2))
  | .lckT u acc xs => ∃ a, o = some a ∧ H a = some (.frz u (.dT acc)) ∧ SvA K os R xs (acc.map (·.2))
/-- the context of a def's reading: the written part, the tables, the heap at the entry, what is hidden -/
structure Ct where
  K : Frg
  T : List (Addr × Str)
  H0 : Hp
  O : List Addr
section
variable {K : Frg} {H H' : Hp} {O : List Addr} {os : List (Option Addr)}
theorem SlOk.mono {R R' : Hp} (e : Ex R R') : ∀ {s : SD} {o : Option V}, SlOk K os R s o → SlOk K os R' s o
  | .un, _, _ => True.intro
  | .d x, _, h => by
    obtain ⟨v, h1, h2⟩ := h
    exact ⟨v, h1, Is.mono e x v h2⟩
  | .own k, _, h => h
theorem SvA.mono {R R' : Hp} (e : Ex R R') : ∀ {xs : List SD} {vs : List V}, SvA K os R xs vs → SvA K os R' xs vs
  | [], _, h => h
  | _ :: _, _, ⟨v, w, h1, h2, h3⟩ => ⟨v, w, h1, h2.mono e, SvA.mono e h3⟩
theorem SlOk.app {R : Hp} {p : Option Addr} : ∀ {s : SD} {o : Option V}, SlOk K os R s o → SlOk K (os ++ [p]) R s o
  | .un, _, _ => True.intro
  | .d x, _, h => h
  | .own k, _, ⟨a, h1, h2⟩ => ⟨a, h1, by rw [List.getElem?_append_left (List.getElem?_eq_some_iff.mp h2).1]; exact h2⟩
theorem SvA.app {R : Hp} {p : Option Addr} : ∀ {xs : List SD} {vs : List V}, SvA K os R xs vs → SvA K (os ++ [p]) R xs vs
  | [], _, h => h
  | _ :: _, _, ⟨v, w, h1, h2, h3⟩ => ⟨v, w, h1, h2.app, SvA.app h3⟩
theorem StOk.mono {R R' : Hp} (e : Ex R R') (g : Ex H H') {o : Option Addr} : ∀ {s : OD}, StOk K os R H o s → StOk K os R' H' o s
  | .gone, h => h
  | .lst xs, h => by
    obtain ⟨a, vs, h1, h2, h3⟩ := h
    exact ⟨a, vs, h1, g _ _ h2 nt_l, IsA.mono e xs vs h3⟩
  | .dct ks xs, h => by
    obtain ⟨a, vs, h1, h2, h3, h4⟩ := h
    exact ⟨a, vs, h1, g _ _ h2 nt_k, h3, h4.mono e⟩
  | .obj C ns xs, h => by
    obtain ⟨a, dx, vs, h1, h2, h3, h4⟩ := h
    exact ⟨a, dx, vs, h1, g _ _ h2 nt_i, h3, h4.mono e⟩
  | .lstS xs, ⟨a, vs, h1, h2, h3⟩ => ⟨a, vs, h1, g _ _ h2 nt_l, h3.mono e⟩
  | .dctT ks xs, ⟨a, vs, h1, h2, h3, h4⟩ => ⟨a, vs, h1, g _ _ h2 nt_dt, h3, h4.mono e⟩
  | .lckK u acc xs, ⟨a, h1, h2, h4⟩ => ⟨a, h1, g _ _ h2 nt_f, h4.mono e⟩
  | .lckT u acc xs, ⟨a, h1, h2, h4⟩ => ⟨a, h1, g _ _ h2 nt_f, h4.mono e⟩
theorem StOk.app {R : Hp} {o p : Option Addr} : ∀ {s : OD}, StOk K os R H o s → StOk K (os ++ [p]) R H o s
  | .gone, h => h
  | .lst xs, h => h
  | .dct ks xs, ⟨a, vs, h1, h2, h3, h4⟩ => ⟨a, vs, h1, h2, h3, h4.app⟩
  | .obj C ns xs, ⟨a, dx, vs, h1, h2, h3, h4⟩ => ⟨a, dx, vs, h1, h2, h3, h4.app⟩
  | .lstS xs, ⟨a, vs, h1, h2, h3⟩ => ⟨a, vs, h1, h2, h3.app⟩
  | .dctT ks xs, ⟨a, vs, h1, h2, h3, h4⟩ => ⟨a, vs, h1, h2, h3, h4.app⟩
  | .lckK u acc xs, ⟨a, h1, h2, h4⟩ => ⟨a, h1, h2, h4.app⟩
  | .lckT u acc xs, ⟨a, h1, h2, h4⟩ => ⟨a, h1, h2, h4.app⟩
theorem StOk.heap {R : Hp} {o : Option Addr} : ∀ {s : OD}, StOk K os R H o s → (∀ a, o = some a → H' a = H a) → StOk K os R H' o s
  | .gone, h, _ => h
  | .lst xs, ⟨a, vs, h1, h2, h3⟩, e => ⟨a, vs, h1, (e a h1).trans h2, h3⟩
  | .dct ks xs, ⟨a, vs, h1, h2, h3⟩, e => ⟨a, vs, h1, (e a h1).trans h2, h3⟩
  | .obj C ns xs, ⟨a, dx, vs, h1, h2, h3⟩, e => ⟨a, dx, vs, h1, (e a h1).trans h2, h3⟩
  | .lstS xs, ⟨a, vs, h1, h2, h3⟩, e => ⟨a, vs, h1, (e a h1).trans h2, h3⟩
  | .dctT ks xs, ⟨a, vs, h1, h2, h3⟩, e => ⟨a, vs, h1, (e a h1).trans h2, h3⟩
  | .lckK u acc xs, ⟨a, h1, h2, h3⟩, e => ⟨a, h1, (e a h1).trans h2, h3⟩
  | .lckT u acc xs, ⟨a, h1, h2, h3⟩, e => ⟨a, h1, (e a h1).trans h2, h3⟩
theorem hid_ex {os : List (Option Addr)} {H : Hp} : Ex (Rh O os H) (hd O H) := fun a o h _ => by
  have h : hd (hid O os) H a = some o := h
  unfold hd at h ⊢
  split at h
  · cases h
  · rename_i q
    rw [if_neg fun z => q (mem_hid.mpr (.inl z))]
    exact h
theorem hid_app {p a : Addr} (h : a ≠ p) : a ∈ hid O (os ++ [some p]) ↔ a ∈ hid O os := by
  rw [mem_hid, mem_hid, List.mem_append]
  constructor
  · rintro (z | z | z)
    · exact .inl z
    · exact .inr z
    · simp at z; exact absurd z h
  · rintro (z | z)
    · exact .inl z
    · exact .inr (.inl z)
theorem Rh_app {p : Addr} {o : HO} (hp : H p = none) : Rh O (os ++ [some p]) (upd H p o) = Rh O os H := by
  funext a
  show hd _ _ a = hd _ _ a
  unfold hd
  by_cases e : a = p
  · subst e
    rw [if_pos (mem_hid.mpr (.inr (by simp)))]
    split
    · rfl
    · exact hp.symm
  · by_cases q : a ∈ hid O os
    · rw [if_pos q, if_pos ((hid_app e).mpr q)]
    · rw [if_neg q, if_neg fun z => q ((hid_app e).mp z), upd_ne e]
theorem Rh_upd {p : Addr} {o : HO} (hp : p ∈ hid O os) : Rh O os (upd H p o) = Rh O os H := by
  funext a
  show hd _ _ a = hd _ _ a
  unfold hd
  by_cases e : a = p
  · subst e
    rw [if_pos hp, if_pos hp]
  · rw [upd_ne e]
theorem tabs_new {T : List (Addr × Str)} {p : Addr} {o : HO} (t : LamX.Tabs T H) (hp : H p = none) : LamX.Tabs T (upd H p o) := t.ext fun b u e => by
  rw [upd_ne (ne_of_none e hp)]
  exact e
theorem tabs_lst {T : List (Addr × Str)} {p : Addr} {xs ys : List V} (t : LamX.Tabs T H) (hp : H p = some (.lst xs)) : LamX.Tabs T (upd H p (.lst ys)) := fun q hq => by
  obtain ⟨ps, h1, h2, h3⟩ := t q hq
  refine ⟨ps, ?_, h2, fun pos cv hc => ?_⟩
  · rw [upd_ne (ne_of h1 hp (fun z => by cases z))]
    exact h1
  · obtain ⟨c, e1, e2⟩ := h3 pos cv hc
    refine ⟨c, e1, ?_⟩
    rw [upd_ne (ne_of e2 hp (fun z => by unfold LamX.CodeO at z; cases z))]
    exact e2
end
structure Ok (C : Ct) (os : List (Option Addr)) (A : AS) (σ : Sg) (H : Hp) : Prop where
  ex : Ex C.H0 H
  tb : LamX.Tabs C.T H
  ol : ∀ a ∈ C.O, ∃ o, H a = some o ∧ NoT o
  dj : ∀ a ∈ C.O, some a ∉ os
  ln : os.length = A.st.length
  nd : ∀ (i j : Nat) (a : Addr), os[i]? = some (some a) → os[j]? = some (some a) → i = j
  fr : ∀ a, some a ∈ os → (∀ o, C.H0 a = some o → ¬ NoT o) ∧ ∃ o, H a = some o ∧ NoT o
  sn : σ.length = A.sl.length
  sl : ∀ (i : Nat) s o, A.sl[i]? = some s → σ[i]? = some o → SlOk C.K os (Rh C.O os H) s o
  st : ∀ (k : Nat) s o, A.st[k]? = some s → os[k]? = some o → StOk C.K os (Rh C.O os H) H o s
section
variable {C : Ct} {H H' : Hp} {os : List (Option Addr)} {A : AS} {σ : Sg}
theorem Ok.mono (k : Ok C os A σ H) (e : Ex H H') (t : LamX.Tabs C.T H') : Ok C os A σ H' :=
  ⟨k.ex.trans e, t, fun a h => by obtain ⟨o, q, n⟩ := k.ol a h; exact ⟨o, e _ _ q n, n⟩, k.dj, k.ln, k.nd, fun a h => ⟨(k.fr a h).1, by obtain ⟨o, q, n⟩ := (k.fr a h).2; exact ⟨o, e _ _ q n, n⟩⟩, k.sn, fun i s o h1 h2 => (k.sl i s o h1 h2).mono (hd_mono e), fun i s o h1 h2 => (k.st i s o h1 h2).mono (hd_mono e) e⟩
theorem Ok.monoN (k : Ok C os A σ H) {p : Addr} {o : HO} (hp : H p = none) : Ok C os A σ (upd H p o) := k.mono (Ex.new hp) (tabs_new k.tb hp)
theorem Ok.hidden (k : Ok C os A σ H) {a : Addr} (h : a ∈ hid C.O os) : ∃ o, H a = some o ∧ NoT o := by
  rcases mem_hid.mp h with h | h
  · exact k.ol a h
  · exact (k.fr a h).2
theorem Ok.new (k : Ok C os A σ H) {a : Addr} (h : H a = none) : a ∉ hid C.O os := fun q => by
  obtain ⟨o, e, _⟩ := k.hidden q
  rw [h] at e; cases e
theorem Ok.slot (k : Ok C os A σ H) {i : Nat} {s : SD} (h : A.sl[i]? = some s) : ∃ o, σ[i]? = some o ∧ SlOk C.K os (Rh C.O os H) s o := by
  have hi : i < A.sl.length := (List.getElem?_eq_some_iff.mp h).1
  obtain ⟨o, e⟩ : ∃ o, σ[i]? = some o := ⟨_, List.getElem?_eq_getElem (by rw [k.sn]; exact hi)⟩
  exact ⟨_, e, k.sl i s _ h e⟩
theorem Ok.store (k : Ok C os A σ H) {i : Nat} {s : OD} (h : A.st[i]? = some s) : ∃ o, os[i]? = some o ∧ StOk C.K os (Rh C.O os H) H o s := by
  have hi : i < A.st.length := (List.getElem?_eq_some_iff.mp h).1
  obtain ⟨o, e⟩ : ∃ o, os[i]? = some o := ⟨_, List.getElem?_eq_getElem (by rw [k.ln]; exact hi)⟩
  exact ⟨_, e, k.st i s _ h e⟩
/-- a slot is given a datum -/
def AS.put (A : AS) (i : Nat) (d : Dt) : AS := ⟨A.sl.set i (.d d), A.st⟩
theorem Ok.put (k : Ok C os A σ H) {i : Nat} {d : Dt} {v : V} (h : Is C.K (Rh C.O os H) d v) : Ok C os (A.put i d) (σ.set i (some v)) H := by
  refine ⟨k.ex, k.tb, k.ol, k.dj, k.ln, k.nd, k.fr, by simp [AS.put, k.sn], fun j s o h1 h2 => ?_, k.st⟩
  have h1 : (A.sl.set i (SD.d d))[j]? = some s := h1
  rw [List.getElem?_set] at h1 h2
  by_cases e : i = j
  · rw [if_pos e] at h1 h2
    split at h1
    · split at h2
      · cases h1; cases h2
        exact ⟨v, rfl, h⟩
      · cases h2
    · cases h1
  · rw [if_neg e] at h1 h2
    exact k.sl j s o h1 h2
end
/-- what was known is known, what is hidden from outside stays -/
structure Gr (O : List Addr) (os : List (Option Addr)) (H : Hp) (os' : List (Option Addr)) (H' : Hp) : Prop where
  e : Ex (Rh O os H) (Rh O os' H')
  o : ∀ a ∈ O, H' a = H a
  p : ∀ (k : Nat) (x : Option Addr), os[k]? = some x → os'[k]? = some x
/-- the same between statements: own things may have become data -/
structure Gs (O : List Addr) (os : List (Option Addr)) (H : Hp) (os' : List (Option Addr)) (H' : Hp) : Prop where
  e : Ex (Rh O os H) (Rh O os' H')
  o : ∀ a ∈ O, H' a = H a
  p : ∀ (k : Nat) (x : Option Addr), os[k]? = some x → os'[k]? = some x ∨ os'[k]? = some none
theorem Gr.s {O : List Addr} {os os' : List (Option Addr)} {H H' : Hp} (g : Gr O os H os' H') : Gs O os H os' H' := ⟨g.e, g.o, fun k x h => .inl (g.p k x h)⟩
instance {O : List Addr} {os os' : List (Option Addr)} {H H' : Hp} : CoeOut (Gr O os H os' H') (Gs O os H os' H') := ⟨Gr.s⟩
theorem Gs.refl {O : List Addr} {os : List (Option Addr)} {H : Hp} : Gs O os H os H := ⟨Ex.refl _, fun _ _ => rfl, fun _ _ h => .inl h⟩
theorem Gs.trans {O : List Addr} {os os1 os2 : List (Option Addr)} {H H1 H2 : Hp} (a : Gs O os H os1 H1) (b : Gs O os1 H1 os2 H2) : Gs O os H os2 H2 := ⟨a.e.trans b.e, fun x h => (b.o x h).trans (a.o x h), fun k x h => by
  rcases a.p k x h with z | z
  · exact b.p k x z
  · exact .inr ((b.p k none z).elim id id)⟩
theorem Gr.refl {O : List Addr} {os : List (Option Addr)} {H : Hp} : Gr O os H os H := ⟨Ex.refl _, fun _ _ => rfl, fun _ _ h => h⟩
theorem Gr.trans {O : List Addr} {os os1 os2 : List (Option Addr)} {H H1 H2 : Hp} (a : Gr O os H os1 H1) (b : Gr O os1 H1 os2 H2) : Gr O os H os2 H2 := ⟨a.e.trans b.e, fun x h => (b.o x h).trans (a.o x h), fun k x h => b.p k x (a.p k x h)⟩
theorem Ok.gr {C : Ct} {H H' : Hp} {os : List (Option Addr)} {A : AS} {σ : Sg} (k : Ok C os A σ H) (e : Ex H H') : Gr C.O os H os H' := ⟨hd_mono e, fun a h => by
  obtain ⟨o, q, n⟩ := k.ol a h
  rw [q, e _ _ q n], fun _ _ h => h⟩
/-! ### what a reading evaluates to -/
section
variable (C : Ct)
def EvS (te : TE) (A : AS) (d : Dt) (A' : AS) : Prop := ∀ os σ H, Ok C os A σ H → ∀ Q : VK, (∀ os' v H', Ok C os' A' σ H' → Gr C.O os H os' H' → Is C.K (Rh C.O os' H') d v → Q v H') → te σ H Q
def EvT (tt : TT) (A : AS) (b : Bool) (A' : AS) : Prop := ∀ os σ H, Ok C os A σ H → ∀ Q : Bool → Hp → Prop, (∀ os' H', Ok C os' A' σ H' → Gr C.O os H os' H' → Q b H') → tt σ H Q
def EvA (ta : TA) (A : AS) (ds : List Dt) (A' : AS) : Prop := ∀ os σ H, Ok C os A σ H → ∀ Q : List V → Hp → Prop, (∀ os' vs H', Ok C os' A' σ H' → Gr C.O os H os' H' → IsA C.K (Rh C.O os' H') ds vs → Q vs H') → ta σ H Q
/-- raises c -/
def EvX (E : XK) (te : TE) (A : AS) (c : Addr) (A1 : AS) : Prop := ∀ os σ H, Ok C os A σ H → (∀ os' H', Ok C os' A1 σ H' → Gr C.O os H os' H' → E (.ref c) none H') → ∀ Q : VK, te σ H Q
def EvXA (E : XK) (ta : TA) (A : AS) (c : Addr) (A1 : AS) : Prop := ∀ os σ H, Ok C os A σ H → (∀ os' H', Ok C os' A1 σ H' → Gr C.O os H os' H' → E (.ref c) none H') → ∀ Q : List V → Hp → Prop, ta σ H Q
def EvXT (E : XK) (tt : TT) (A : AS) (c : Addr) (A1 : AS) : Prop := ∀ os σ H, Ok C os A σ H → (∀ os' H', Ok C os' A1 σ H' → Gr C.O os H os' H' → E (.ref c) none H') → ∀ Q : Bool → Hp → Prop, tt σ H Q
end
section
variable {C : Ct} {ta tb tc te : TE} {t u : TT} {A A1 A2 A3 : AS} {x y z : V} {d d1 d2 : Dt} {r : R2}
theorem e_var {i : Nat} (h : A.sl[i]? = some (.d d)) : EvS C (tVar i) A d A := fun os σ H k Q q => by
  obtain ⟨o, e, v, h1, h2⟩ := k.slot h
  subst h1
  exact ⟨v, e, q os v H k Gr.refl h2⟩
theorem e_c : EvS C (tC x) A (.v x) A := fun os σ H k Q q => q os x H k Gr.refl is_v
theorem e_op (ha : EvS C ta A (.v x) A1) (hb : EvS C tb A1 (.v y) A2) (hr : ∀ H (Q : VK), Q z H → r x y H Q) : EvS C (tOp r ta tb) A (.v z) A2 := fun os σ H k Q q =>
  ha os σ H k _ fun os1 v1 H1 k1 e1 i1 => hb os1 σ H1 k1 _ fun os2 v2 H2 k2 e2 i2 => by
    rw [Is.v_iff.mp i1, Is.v_iff.mp i2]
    exact hr H2 Q (q os2 z H2 k2 (e1.trans e2) is_v)
theorem e_I0 {g : Int → Int → V} {i j : Int} (ha : EvS C ta A (di i) A1) (hb : EvS C tb A1 (di j) A2) : EvS C (tOp (rI0 g) ta tb) A (.v (g i j)) A2 := e_op ha hb fun H Q q => ⟨i, j, rfl, rfl, q⟩
theorem e_I {cc : Int → Int → Prop} {g : Int → Int → V} {i j : Int} (hc : cc i j) (ha : EvS C ta A (di i) A1) (hb : EvS C tb A1 (di j) A2) : EvS C (tOp (rI cc g) ta tb) A (.v (g i j)) A2 := e_op ha hb fun H Q q => ⟨i, j, rfl, rfl, hc, q⟩
theorem e_eq (h : scal x y = true) (ha : EvS C ta A (.v x) A1) (hb : EvS C tb A1 (.v y) A2) : EvS C (tOp rEq ta tb) A (db (decide (x = y))) A2 := e_op ha hb fun H Q q => ⟨h, q⟩
theorem e_ne (h : scal x y = true) (ha : EvS C ta A (.v x) A1) (hb : EvS C tb A1 (.v y) A2) : EvS C (tOp rNe ta tb) A (db (!decide (x = y))) A2 := e_op ha hb fun H Q q => ⟨h, q⟩
theorem e_un {r : V → Hp → VK → Prop} (ha : EvS C ta A (.v x) A1) (hr : ∀ H (Q : VK), Q z H → r x H Q) : EvS C (tUn r ta) A (.v z) A1 := fun os σ H k Q q =>
  ha os σ H k _ fun os1 v1 H1 k1 e1 i1 => by
    rw [Is.v_iff.mp i1]
    exact hr H1 Q (q os1 z H1 k1 e1 is_v)
theorem e_U {g : Int → V} {i : Int} (ha : EvS C ta A (di i) A1) : EvS C (tUn (rU g) ta) A (.v (g i)) A1 := e_un ha fun H Q q => ⟨i, rfl, q⟩
theorem e_is (h : EvS C te A d A1) (e : d = d1) : EvS C te A d1 A1 := by rw [← e]; exact h
theorem e_isA (h : EvS C te A d A1) (e : A1 = A2) : EvS C te A d A2 := by rw [← e]; exact h
theorem isA_at {H : Hp} {xs : List Dt} {vs : List V} {i : Int} (h : IsA C.K H xs vs) (e : atI xs i = some d) : ∃ v, atI vs i = some v ∧ Is C.K H d v := by
  unfold atI at e ⊢
  rw [isA_len h]
  cases q : ixN xs.length i with
  | none => rw [q] at e; cases e
  | some j =>
    rw [q] at e
    obtain ⟨v, h1, h2⟩ := isA_get h (show xs[j]? = some d from e)
    exact ⟨v, h1, h2⟩
theorem e_ixT {xs : List Dt} {i : Int} (ha : EvS C ta A (.tup xs) A1) (hb : EvS C tb A1 (di i) A2) (h : atI xs i = some d) : EvS C (tOp (rIxT C.K) ta tb) A d A2 := fun os σ H k Q q =>
  ha os σ H k _ fun os1 v1 H1 k1 e1 i1 => hb os1 σ H1 k1 _ fun os2 v2 H2 k2 e2 i2 => by
    rw [Is] at i1
    obtain ⟨a, vs, rfl, h2, h3⟩ := i1
    obtain ⟨v, h4, h5⟩ := isA_at h3 h
    rw [Is.v_iff.mp i2]
    exact ⟨a, vs, i, v, rfl, rfl, (e2.e.trans hd_ex).t h2, h4, q os2 v H2 k2 (e1.trans e2) (Is.mono e2.e _ _ h5)⟩
theorem e_ixL {xs : List Dt} {i : Int} (ha : EvS C ta A (.lst xs) A1) (hb : EvS C tb A1 (di i) A2) (h : atI xs i = some d) : EvS C (tOp (rIxL C.K) ta tb) A d A2 := fun os σ H k Q q =>
  ha os σ H k _ fun os1 v1 H1 k1 e1 i1 => hb os1 σ H1 k1 _ fun os2 v2 H2 k2 e2 i2 => by
    rw [Is] at i1
    obtain ⟨a, vs, rfl, h2, h3⟩ := i1
    obtain ⟨v, h4, h5⟩ := isA_at h3 h
    rw [Is.v_iff.mp i2]
    exact ⟨a, vs, i, v, rfl, rfl, (e2.e.trans hd_ex).l h2, h4, q os2 v H2 k2 (e1.trans e2) (Is.mono e2.e _ _ h5)⟩
/-- an item of a list of one's own -/
theorem e_ixO0 {i : Nat} {n : Nat} {xs : List Dt} {j : Int} (h1 : A.sl[i]? = some (.own n)) (h2 : A.st[n]? = some (.lst xs)) (hb : EvS C tb A (di j) A) (h : atI xs j = some d) : EvS C (tOp (rIxL C.K) (tVar i) tb) A d A := fun os σ H k Q q => by
  obtain ⟨o, e1, a, e2, e3⟩ := k.slot h1
  subst e2
  refine ⟨_, e1, hb os σ H k _ fun os2 v2 H2 k2 e4 i2 => ?_⟩
  obtain ⟨o2, f1, f3⟩ := k2.slot h1
  obtain ⟨f1, f2, a2, g1, g2⟩ := k2.slot h1
  rw [e1] at f2; cases f2
  cases g1
  obtain ⟨o3, s1, a3, vs, s2, s3, s4⟩ := k2.store h2
  rw [g2] at s1; cases s1; cases s2
  obtain ⟨v, h4, h5⟩ := isA_at s4 h
  rw [Is.v_iff.mp i2]
  exact ⟨_, vs, j, v, rfl, rfl, SqL.of s3, h4, q os2 v H2 k2 e4 h5⟩
theorem a_nil : EvA C tNil A [] A := fun os σ H k Q q => q os [] H k Gr.refl isA_nil
theorem a_cons {tr : TA} {ds : List Dt} (ha : EvS C ta A d A1) (hr : EvA C tr A1 ds A2) : EvA C (tCons ta tr) A (d :: ds) A2 := fun os σ H k Q q =>
  ha os σ H k _ fun os1 v1 H1 k1 e1 i1 => hr os1 σ H1 k1 _ fun os2 vs H2 k2 e2 i2 => q os2 (v1 :: vs) H2 k2 (e1.trans e2) (isA_cons (Is.mono e2.e _ _ i1) i2)
theorem Ok.fresh {os : List (Option Addr)} {σ : Sg} {H : Hp} {p : Addr} {o : HO} (k : Ok C os A σ H) (hp : H p = none) : Rh C.O os (upd H p o) p = some o := by
  show hd _ _ _ = _
  rw [hd_of (k.new hp), upd_same]
theorem e_tup {tl : TA} {ds : List Dt} (h : EvA C tl A ds A1) (hl : ds.length ≤ 100000) : EvS C (tTup tl) A (.tup ds) A1 := fun os σ H k Q q =>
  h os σ H k _ fun os1 vs H1 k1 e1 i1 => ⟨by rw [isA_len i1]; exact Nat.le_trans hl (by decide), fun p hp => q os1 _ _ (k1.monoN hp) (e1.trans (k1.gr (Ex.new hp))) (by
    rw [Is]
    exact ⟨p, vs, rfl, SqT.of (k1.fresh hp), IsA.mono (hd_mono (Ex.new hp)) _ _ i1⟩)⟩
theorem e_lst {tl : TA} {ds : List Dt} (h : EvA C tl A ds A1) (hl : ds.length ≤ 100000) : EvS C (tLst tl) A (.lst ds) A1 := fun os σ H k Q q =>
  h os σ H k _ fun os1 vs H1 k1 e1 i1 => ⟨by rw [isA_len i1]; exact Nat.le_trans hl (by decide), fun p hp => q os1 _ _ (k1.monoN hp) (e1.trans (k1.gr (Ex.new hp))) (by
    rw [Is]
    exact ⟨p, vs, rfl, SqL.of (k1.fresh hp), IsA.mono (hd_mono (Ex.new hp)) _ _ i1⟩)⟩
theorem t_test {b : Bool} (h : EvS C te A (db b) A1) : EvT C (tTest te) A b A1 := fun os σ H k Q q => h os σ H k _ fun os1 v H1 k1 e1 i1 => ⟨b, Is.v_iff.mp i1, q os1 H1 k1 e1⟩
theorem t_B {b : Bool} (h : EvS C te A (db b) A1) : EvT C (tB te) A b A1 := fun os σ H k Q q => h os σ H k _ fun os1 v H1 k1 e1 i1 => ⟨b, Is.v_iff.mp i1, q os1 H1 k1 e1⟩
theorem t_is {a b : Bool} (h : EvT C t A a A1) (e : a = b) : EvT C t A b A1 := by rw [← e]; exact h
theorem t_andT {b : Bool} (h1 : EvT C t A true A1) (h2 : EvT C u A1 b A2) : EvT C (tAnd t u) A b A2 := fun os σ H k Q q =>
  h1 os σ H k _ fun os1 H1 k1 e1 => by
    rw [if_pos rfl]
    exact h2 os1 σ H1 k1 _ fun os2 H2 k2 e2 => q os2 H2 k2 (e1.trans e2)
theorem t_andF (h1 : EvT C t A false A1) : EvT C (tAnd t u) A false A1 := fun os σ H k Q q =>
  h1 os σ H k _ fun os1 H1 k1 e1 => by
    rw [if_neg (by decide)]
    exact q os1 H1 k1 e1
theorem t_orF {b : Bool} (h1 : EvT C t A false A1) (h2 : EvT C u A1 b A2) : EvT C (tOr t u) A b A2 := fun os σ H k Q q =>
  h1 os σ H k _ fun os1 H1 k1 e1 => by
    rw [if_neg (by decide)]
    exact h2 os1 σ H1 k1 _ fun os2 H2 k2 e2 => q os2 H2 k2 (e1.trans e2)
theorem t_orT (h1 : EvT C t A true A1) : EvT C (tOr t u) A true A1 := fun os σ H k Q q =>
  h1 os σ H k _ fun os1 H1 k1 e1 => by
    rw [if_pos rfl]
    exact q os1 H1 k1 e1
/-- and, or where the state stays -/
theorem t_and {a b : Bool} (h1 : EvT C t A a A) (h2 : a = true → EvT C u A b A) : EvT C (tAnd t u) A (a && b) A := by
  cases a with
  | true => exact t_andT h1 (h2 rfl)
  | false => exact t_andF h1
theorem t_or {a b : Bool} (h1 : EvT C t A a A) (h2 : a = false → EvT C u A b A) : EvT C (tOr t u) A (a || b) A := by
  cases a with
  | true => exact t_orT h1
  | false => exact t_orF h1 (h2 rfl)
theorem t_not {a : Bool} (h1 : EvT C t A a A1) : EvT C (tNot t) A (!a) A1 := fun os σ H k Q q => h1 os σ H k _ fun os1 H1 k1 e1 => q os1 H1 k1 e1
theorem e_ifT (h : EvT C t A true A1) (h1 : EvS C ta A1 d A2) : EvS C (tIf t ta tb) A d A2 := fun os σ H k Q q =>
  h os σ H k _ fun os1 H1 k1 e1 => by
    rw [if_pos rfl]
    exact h1 os1 σ H1 k1 _ fun os2 v H2 k2 e2 i => q os2 v H2 k2 (e1.trans e2) i
theorem e_ifF (h : EvT C t A false A1) (h1 : EvS C tb A1 d A2) : EvS C (tIf t ta tb) A d A2 := fun os σ H k Q q =>
  h os σ H k _ fun os1 H1 k1 e1 => by
    rw [if_neg (by decide)]
    exact h1 os1 σ H1 k1 _ fun os2 v H2 k2 e2 i => q os2 v H2 k2 (e1.trans e2) i
theorem e_if {b : Bool} (h : EvT C t A b A1) (h1 : b = true → EvS C ta A1 d A2) (h2 : b = false → EvS C tb A1 d A2) : EvS C (tIf t ta tb) A d A2 := by
  cases b with
  | true => exact e_ifT h (h1 rfl)
  | false => exact e_ifF h (h2 rfl)
theorem e_ite {b : Bool} (h : EvT C t A b A1) (h1 : b = true → EvS C ta A1 d1 A2) (h2 : b = false → EvS C tb A1 d2 A2) : EvS C (tIf t ta tb) A (if b then d1 else d2) A2 := by
  cases b with
  | true => exact e_ifT h (h1 rfl)
  | false => exact e_ifF h (h2 rfl)
theorem e_andT (h1 : EvS C ta A (db true) A1) (h2 : EvS C tb A1 d A2) : EvS C (tAndV ta tb) A d A2 := fun os σ H k Q q =>
  h1 os σ H k _ fun os1 v H1 k1 e1 i1 => ⟨true, Is.v_iff.mp i1, by
    rw [if_pos rfl]
    exact h2 os1 σ H1 k1 _ fun os2 v H2 k2 e2 i => q os2 v H2 k2 (e1.trans e2) i⟩
theorem e_andF (h1 : EvS C ta A (db false) A1) : EvS C (tAndV ta tb) A (db false) A1 := fun os σ H k Q q =>
  h1 os σ H k _ fun os1 v H1 k1 e1 i1 => ⟨false, Is.v_iff.mp i1, by
    rw [if_neg (by decide)]
    exact q os1 _ H1 k1 e1 is_v⟩
theorem e_orT (h1 : EvS C ta A (db true) A1) : EvS C (tOrV ta tb) A (db true) A1 := fun os σ H k Q q =>
  h1 os σ H k _ fun os1 v H1 k1 e1 i1 => ⟨true, Is.v_iff.mp i1, by
    rw [if_pos rfl]
    exact q os1 _ H1 k1 e1 is_v⟩
theorem e_orF (h1 : EvS C ta A (db false) A1) (h2 : EvS C tb A1 d A2) : EvS C (tOrV ta tb) A d A2 := fun os σ H k Q q =>
  h1 os σ H k _ fun os1 v H1 k1 e1 i1 => ⟨false, Is.v_iff.mp i1, by
    rw [if_neg (by decide)]
    exact h2 os1 σ H1 k1 _ fun os2 v H2 k2 e2 i => q os2 v H2 k2 (e1.trans e2) i⟩
theorem e_and {a b : Bool} (h1 : EvS C ta A (db a) A) (h2 : a = true → EvS C tb A (db b) A) : EvS C (tAndV ta tb) A (db (a && b)) A := by
  cases a with
  | true => exact e_andT h1 (h2 rfl)
  | false => exact e_andF h1
theorem e_or {a b : Bool} (h1 : EvS C ta A (db a) A) (h2 : a = false → EvS C tb A (db b) A) : EvS C (tOrV ta tb) A (db (a || b)) A := by
  cases a with
  | true => exact e_orT h1
  | false => exact e_orF h1 (h2 rfl)
theorem e_not {a : Bool} (h1 : EvS C ta A (db a) A1) : EvS C (tNotV ta) A (db (!a)) A1 := fun os σ H k Q q =>
  h1 os σ H k _ fun os1 v H1 k1 e1 i1 => ⟨a, Is.v_iff.mp i1, q os1 _ H1 k1 e1 is_v⟩
/-- a call of a built-in by values -/
theorem e_CB {r : List V → Hp → VK → Prop} {tl : TA} {vs : List V} (h : EvA C tl A (vs.map .v) A1) (hr : ∀ H (Q : VK), Q z H → r vs H Q) : EvS C (tCB r tl) A (.v z) A1 := fun os σ H k Q q =>
  h os σ H k _ fun os1 ws H1 k1 e1 i1 => by
    have e : ws = vs := by
      have : ∀ (vs ws : List V), IsA C.K (Rh C.O os1 H1) (vs.map .v) ws → ws = vs := by
        intro vs
        induction vs with
        | nil => intro ws h; simpa [IsA] using h
        | cons v r ih =>
          intro ws h
          rw [List.map_cons, IsA] at h
          obtain ⟨v', w, h1, h2, h3⟩ := h
          rw [h1, ih w h3, Is.v_iff.mp h2]
      exact this vs ws i1
    rw [e]
    exact hr H1 Q (q os1 z H1 k1 e1 is_v)
end
/-! ### statements -/
structure Po where
  nx : AS → Prop := fun _ => False
  rt : Dt → AS → Prop := fun _ _ => False
  bk : AS → Prop := fun _ => False
  ct : AS → Prop := fun _ => False
  er : Addr → Prop := fun _ => False
structure To (C : Ct) (P : Po) (E : XK) (os0 : List (Option Addr)) (Hs : Hp) (D : Ends) : Prop where
  nx : ∀ os A σ H, P.nx A → Ok C os A σ H → Gs C.O os0 Hs os H → D.nx σ H
  rt : ∀ os A σ d v H, P.rt d A → Ok C os A σ H → Gs C.O os0 Hs os H → Is C.K (Rh C.O os H) d v → D.rt v H
  bk : ∀ os A σ H, P.bk A → Ok C os A σ H → Gs C.O os0 Hs os H → D.bk σ H
  ct : ∀ os A σ H, P.ct A → Ok C os A σ H → Gs C.O os0 Hs os H → D.ct σ H
  er : ∀ c H, P.er c → Ex C.H0 H → LamX.Tabs C.T H → E (.ref c) none H
def RunS (C : Ct) (E : XK) (t : TS) (A : AS) (P : Po) : Prop := ∀ os σ H D, Ok C os A σ H → To C P E os H D → t D σ H
section
variable {C : Ct} {E : XK} {ta tb tc te : TE} {tt : TT} {t u : TS} {A A1 A2 A3 : AS} {d d1 d2 : Dt} {P : Po}
theorem To.from {os os1 : List (Option Addr)} {H H1 : Hp} {D : Ends} (T : To C P E os H D) (g : Gs C.O os H os1 H1) : To C P E os1 H1 D :=
  ⟨fun os2 A σ H2 h k q => T.nx os2 A σ H2 h k (g.trans q), fun os2 A σ d v H2 h k q i => T.rt os2 A σ d v H2 h k (g.trans q) i, fun os2 A σ H2 h k q => T.bk os2 A σ H2 h k (g.trans q), fun os2 A σ H2 h k q => T.ct os2 A σ H2 h k (g.trans q), T.er⟩
theorem r_seq (h : RunS C E t A { P with nx := fun A' => RunS C E u A' P }) : RunS C E (tSeq t u) A P := fun os σ H D k T =>
  h os σ H { D with nx := u D } k ⟨fun os1 A1 σ1 H1 h k q => h os1 σ1 H1 D k (T.from q), T.rt, T.bk, T.ct, T.er⟩
theorem r_next (h : P.nx A) : RunS C E tNext A P := fun os σ H D k T => T.nx os A σ H h k Gs.refl
theorem r_break (h : P.bk A) : RunS C E tBreak A P := fun os σ H D k T => T.bk os A σ H h k Gs.refl
theorem r_cont (h : P.ct A) : RunS C E tCont A P := fun os σ H D k T => T.ct os A σ H h k Gs.refl
theorem r_asg {i : Nat} (he : EvS C te A d A1) (h : P.nx (A1.put i d)) : RunS C E (tAsg te (gName i)) A P := fun os σ H D k T =>
  he os σ H k _ fun os1 v H1 k1 e1 i1 => T.nx os1 _ _ H1 h (k1.put i1) e1
theorem r_drop (he : EvS C te A d A1) (h : P.nx A1) : RunS C E (tDrop te) A P := fun os σ H D k T =>
  he os σ H k _ fun os1 v H1 k1 e1 i1 => T.nx os1 _ _ H1 h k1 e1
theorem r_ret (he : EvS C te A d A1) (h : P.rt d A1) : RunS C E (tRet te) A P := fun os σ H D k T =>
  he os σ H k _ fun os1 v H1 k1 e1 i1 => T.rt os1 A1 σ d v H1 h k1 e1.s i1
theorem r_retN (h : P.rt dn A) : RunS C E tRetN A P := fun os σ H D k T => T.rt os A σ _ _ H h k Gs.refl is_v
/-! own things that become data -/
def fzS (n : Nat) (d : Dt) : SD → SD
  | .un => .un
  | .d x => .d x
  | .own k => if k = n then .d d else .own k
def fzO (n : Nat) (d : Dt) : OD → OD
  | .gone => .gone
  | .lst xs => .lst xs
  | .dct ks xs => .dct ks (xs.map (fzS n d))
  | .obj C ns xs => .obj C ns (xs.map (fzS n d))
  | .lstS xs => .lstS (xs.map (fzS n d))
  | .dctT ks xs => .dctT ks (xs.map (fzS n d))
  | .lckK u acc xs => .lckK u acc (xs.map (fzS n d))
  | .lckT u acc xs => .lckT u acc (xs.map (fzS n d))
def AS.fz (A : AS) (n : Nat) (d : Dt) : AS := ⟨A.sl.map (fzS n d), (A.st.map (fzO n d)).set n .gone⟩
theorem fz_slot {K : Frg} {R R' : Hp} {os : List (Option Addr)} {n : Nat} {d : Dt} {a : Addr} (e : Ex R R') (hn : os[n]? = some (some a)) (hd : Is K R' d (.ref a)) : ∀ {s : SD} {o : Option V}, SlOk K os R s o → SlOk K (os.set n none) R' (fzS n d s) o
  | .un, _, _ => True.intro
  | .d x, _, ⟨v, h1, h2⟩ => ⟨v, h1, Is.mono e x v h2⟩
  | .own k, o, ⟨b, h1, h2⟩ => by
    show SlOk K (os.set n none) R' (if k = n then .d d else .own k) o
    by_cases c : k = n
    · rw [if_pos c]
      subst c
      rw [hn] at h2
      cases h2
      exact ⟨_, h1, hd⟩
    · rw [if_neg c]
      exact ⟨b, h1, by rw [List.getElem?_set_ne fun z => c z.symm]; exact h2⟩
theorem fz_svA {K : Frg} {R R' : Hp} {os : List (Option Addr)} {n : Nat} {d : Dt} {a : Addr} (e : Ex R R') (hn : os[n]? = some (some a)) (hd : Is K R' d (.ref a)) : ∀ {xs : List SD} {vs : List V}, SvA K os R xs vs → SvA K (os.set n none) R' (xs.map (fzS n d)) vs
  | [], _, h => h
  | _ :: _, _, ⟨v, w, h1, h2, h3⟩ => ⟨v, w, h1, fz_slot e hn hd h2, fz_svA e hn hd h3⟩
theorem fz_st {K : Frg} {R R' H : Hp} {os : List (Option Addr)} {n : Nat} {d : Dt} {a : Addr} (e : Ex R R') (hn : os[n]? = some (some a)) (hd : Is K R' d (.ref a)) {o : Option Addr} : ∀ {s : OD}, StOk K os R H o s → StOk K (os.set n none) R' H o (fzO n d s)
  | .gone, h => h
  | .lst xs, ⟨b, vs, h1, h2, h3⟩ => ⟨b, vs, h1, h2, IsA.mono e xs vs h3⟩
  | .dct ks xs, ⟨b, vs, h1, h2, h3, h4⟩ => ⟨b, vs, h1, h2, h3, fz_svA e hn hd h4⟩
  | .obj C ns xs, ⟨b, dx, vs, h1, h2, h3, h4⟩ => ⟨b, dx, vs, h1, h2, h3, fz_svA e hn hd h4⟩
  | .lstS xs, ⟨b, vs, h1, h2, h3⟩ => ⟨b, vs, h1, h2, fz_svA e hn hd h3⟩
  | .dctT ks xs, ⟨b, vs, h1, h2, h3, h4⟩ => ⟨b, vs, h1, h2, h3, fz_svA e hn hd h4⟩
  | .lckK u acc xs, ⟨b, h1, h2, h4⟩ => ⟨b, h1, h2, fz_svA e hn hd h4⟩
  | .lckT u acc xs, ⟨b, h1, h2, h4⟩ => ⟨b, h1, h2, fz_svA e hn hd h4⟩
theorem Rh_fz {O : List Addr} {os : List (Option Addr)} {H : Hp} {n : Nat} : Ex (Rh O os H) (Rh O (os.set n none) H) := fun b o h _ => by
  have h : hd (hid O os) H b = some o := h
  show hd (hid O (os.set n none)) H b = some o
  unfold hd at h ⊢
  split at h
  · cases h
  · rename_i q
    rw [if_neg fun z => q ?_]
    · exact h
    · rcases mem_hid.mp z with z | z
      · exact mem_hid.mpr (.inl z)
      · refine mem_hid.mpr (.inr ?_)
        rcases List.mem_or_eq_of_mem_set z with z | z
        · exact z
        · cases z
theorem Gs.fz {O : List Addr} {os : List (Option Addr)} {H : Hp} {n : Nat} : Gs O os H (os.set n none) H := ⟨Rh_fz, fun _ _ => rfl, fun k x h => by
  by_cases c : n = k
  · subst c
    exact .inr (by rw [List.getElem?_set_self (List.getElem?_eq_some_iff.mp h).1])
  · exact .inl (by rw [List.getElem?_set_ne c]; exact h)⟩
/-- where its place is seen, it is the datum -/
theorem Ok.fz {os : List (Option Addr)} {σ : Sg} {H : Hp} {n : Nat} {d : Dt} {a : Addr} (k : Ok C os A σ H) (hn : os[n]? = some (some a)) (hd : Is C.K (Rh C.O (os.set n none) H) d (.ref a)) : Ok C (os.set n none) (A.fz n d) σ H := by
  have back : ∀ b, some b ∈ os.set n none → some b ∈ os := fun b z => (List.mem_or_eq_of_mem_set z).elim id fun z => by cases z
  have at' : ∀ {i : Nat} {b : Addr}, (os.set n none)[i]? = some (some b) → os[i]? = some (some b) := fun {i b} z => by
    rw [List.getElem?_set] at z
    split at z
    · split at z <;> cases z
    · exact z
  refine ⟨k.ex, k.tb, k.ol, fun b h z => k.dj b h (back b z), by simp [AS.fz, k.ln], fun i j b h1 h2 => k.nd i j b (at' h1) (at' h2), fun b h => k.fr b (back b h), by simp [AS.fz, k.sn], fun i s o h1 h2 => ?_, fun i s o h1 h2 => ?_⟩
  · have h1 : (A.sl.map (fzS n d))[i]? = some s := h1
    rw [List.getElem?_map] at h1
    obtain ⟨s0, h3, rfl⟩ := Option.map_eq_some_iff.mp h1
    exact fz_slot Rh_fz hn hd (k.sl i s0 o h3 h2)
  · have h1 : ((A.st.map (fzO n d)).set n .gone)[i]? = some s := h1
    rw [List.getElem?_set] at h1
    by_cases c : n = i
    · rw [if_pos c] at h1
      split at h1
      · cases h1
        rw [List.getElem?_set, if_pos c] at h2
        split at h2
        · cases h2; exact rfl
        · cases h2
      · cases h1
    · rw [if_neg c, List.getElem?_map] at h1
      obtain ⟨s0, h3, rfl⟩ := Option.map_eq_some_iff.mp h1
      rw [List.getElem?_set_ne c] at h2
      exact fz_st Rh_fz hn hd (k.st i s0 o h3 h2)
theorem fz_lst {os : List (Option Addr)} {σ : Sg} {H : Hp} {n : Nat} {xs : List Dt} (k : Ok C os A σ H) (h2 : A.st[n]? = some (.lst xs)) : ∃ a, os[n]? = some (some a) ∧ Is C.K (Rh C.O (os.set n none) H) (.lst xs) (.ref a) := by
  obtain ⟨o, s1, a, vs, s2, s3, s4⟩ := k.store h2
  subst s2
  refine ⟨a, s1, ?_⟩
  rw [Is]
  refine ⟨a, vs, rfl, SqL.of ?_, IsA.mono Rh_fz _ _ s4⟩
  show hd _ H a = _
  rw [hd_of fun z => ?_]
  · exact s3
  · rcases mem_hid.mp z with z | z
    · exact k.dj a z (List.mem_of_getElem? s1)
    · obtain ⟨i, hi⟩ := List.getElem?_of_mem z
      rw [List.getElem?_set] at hi
      by_cases c : n = i
      · rw [if_pos c] at hi
        split at hi <;> cases hi
      · rw [if_neg c] at hi
        exact c (k.nd n i a s1 hi)
theorem r_fz {n : Nat} {d : Dt} (hf : ∀ os σ H, Ok C os A σ H → ∃ a, os[n]? = some (some a) ∧ Is C.K (Rh C.O (os.set n none) H) d (.ref a)) (h : RunS C E t (A.fz n d) P) : RunS C E t A P := fun os σ H D k T => by
  obtain ⟨a, h1, h2⟩ := hf os σ H k
  exact h _ σ H D (k.fz h1 h2) (T.from Gs.fz)
/-- a list of one's own is data from here on -/
theorem r_fzL {n : Nat} {xs : List Dt} (h2 : A.st[n]? = some (.lst xs)) (h : RunS C E t (A.fz n (.lst xs)) P) : RunS C E t A P := r_fz (fun _ _ _ k => fz_lst k h2) h
/-- a list of one's own handed back -/
theorem r_retO {i n : Nat} {xs : List Dt} (h1 : A.sl[i]? = some (.own n)) (h2 : A.st[n]? = some (.lst xs)) (h : P.rt (.lst xs) (A.fz n (.lst xs))) : RunS C E (tRet (tVar i)) A P :=
  r_fzL h2 (r_ret (e_var (by show (A.sl.map (fzS n (.lst xs)))[i]? = _; rw [List.getElem?_map, h1]; show some (if n = n then _ else _) = _; rw [if_pos rfl])) h)
theorem r_if {b : Bool} (hc : EvT C tt A b A1) (h1 : b = true → RunS C E t A1 P) (h2 : b = false → RunS C E u A1 P) : RunS C E (tIfS tt t u) A P := fun os σ H D k T =>
  hc os σ H k _ fun os1 H1 k1 e1 => by
    cases b with
    | true => rw [if_pos rfl]; exact h1 rfl os1 σ H1 D k1 (T.from e1)
    | false => rw [if_neg (by decide)]; exact h2 rfl os1 σ H1 D k1 (T.from e1)
theorem r_ifT (hc : EvT C tt A true A1) (h1 : RunS C E t A1 P) : RunS C E (tIfS tt t u) A P := r_if hc (fun _ => h1) fun z => by cases z
theorem r_ifF (hc : EvT C tt A false A1) (h1 : RunS C E u A1 P) : RunS C E (tIfS tt t u) A P := r_if hc (fun z => by cases z) fun _ => h1
theorem r_par {i j : Nat} {tl : TA} (h : EvA C tl A [d, d1] A1) (hn : P.nx ((A1.put i d).put j d1)) : RunS C E (tPar i j tl) A P := fun os σ H D k T =>
  h os σ H k _ fun os1 vs H1 k1 e1 i1 => by
    simp only [IsA] at i1
    obtain ⟨v, w, rfl, h1, v', w', rfl, h2, rfl⟩ := i1
    exact ⟨v, v', rfl, T.nx os1 _ _ H1 hn ((k1.put h1).put h2) e1⟩
theorem r_par3 {i j l : Nat} {tl : TA} (h : EvA C tl A [d, d1, d2] A1) (hn : P.nx (((A1.put i d).put j d1).put l d2)) : RunS C E (tPar3 i j l tl) A P := fun os σ H D k T =>
  h os σ H k _ fun os1 vs H1 k1 e1 i1 => by
    simp only [IsA] at i1
    obtain ⟨v, w, rfl, h1, v', w', rfl, h2, v'', w'', rfl, h3, rfl⟩ := i1
    exact ⟨v, v', v'', rfl, T.nx os1 _ _ H1 hn (((k1.put h1).put h2).put h3) e1⟩
/-- targets that take data one after another -/
def puts (A : AS) : List Nat → List Dt → AS
  | i :: is, d :: ds => puts (A.put i d) is ds
  | _, _ => A
def gNames : List Nat → TGs
  | [] => gNil
  | i :: is => gCons (gName i) (gNames is)
theorem gNames_ok {os : List (Option Addr)} {H : Hp} {Q : Sg → Hp → Prop} : ∀ (is : List Nat) {A : AS} {σ : Sg} {ds : List Dt} {vs : List V}, Ok C os A σ H → IsA C.K (Rh C.O os H) ds vs → ds.length = is.length → (∀ σ', Ok C os (puts A is ds) σ' H → Q σ' H) → gNames is vs σ H Q
  | [], A, σ, ds, vs, k, i, e, q => by
    cases ds with
    | nil => rw [IsA] at i; exact ⟨i, q σ k⟩
    | cons _ _ => cases e
  | n :: is, A, σ, ds, vs, k, i, e, q => by
    cases ds with
    | nil => cases e
    | cons d r =>
      rw [IsA] at i
      obtain ⟨v, w, rfl, h1, h2⟩ := i
      exact ⟨v, w, rfl, gNames_ok is (k.put h1) h2 (by simpa using e) q⟩
theorem r_asgT {is : List Nat} {n : Nat} {ds : List Dt} (he : EvS C te A (.tup ds) A1) (hl : ds.length = is.length) (hn : is.length = n) (h : P.nx (puts A1 is ds)) : RunS C E (tAsg te (gTup C.K n (gNames is))) A P := fun os σ H D k T =>
  he os σ H k _ fun os1 v H1 k1 e1 i1 => by
    rw [Is] at i1
    obtain ⟨a, vs, rfl, h1, h2⟩ := i1
    exact ⟨a, vs, rfl, hd_ex.t h1, by rw [isA_len h2, hl, hn], gNames_ok is k1 h2 hl fun σ' k' => T.nx os1 _ _ H1 h k' e1⟩
/-! ### a list of one's own -/
def AS.newO (A : AS) (i : Nat) (xs : List Dt) : AS := ⟨A.sl.set i (.own A.st.length), A.st ++ [.lst xs]⟩
def AS.upO (A : AS) (n : Nat) (xs : List Dt) : AS := ⟨A.sl, A.st.set n (.lst xs)⟩
theorem Ok.newO {os : List (Option Addr)} {σ : Sg} {H : Hp} {p : Addr} {xs : List Dt} {vs : List V} {i : Nat} (k : Ok C os A σ H) (hp : H p = none) (hx : IsA C.K (Rh C.O os H) xs vs) : Ok C (os ++ [some p]) (A.newO i xs) (σ.set i (some (.ref p))) (upd H p (.lst vs)) := by
  have np : some p ∉ os := fun z => by
    obtain ⟨o, q, _⟩ := (k.fr p z).2
    rw [hp] at q; cases q
  refine ⟨k.ex.trans (Ex.new hp), tabs_new k.tb hp, fun a h => by obtain ⟨o, q, n⟩ := k.ol a h; exact ⟨o, Ex.new hp _ _ q n, n⟩, fun a h z => ?dj, by simp [AS.newO, k.ln], fun a b c h1 h2 => ?_, fun a h => ?_, by simp [AS.newO, k.sn], fun j s o h1 h2 => ?_, fun j s o h1 h2 => ?_⟩
  case dj =>
    rcases List.mem_append.mp z with z | z
    · exact k.dj a h z
    · simp at z
      subst z
      obtain ⟨o, q, _⟩ := k.ol a h
      rw [hp] at q; cases q
  · rw [List.getElem?_append] at h1 h2
    split at h1 <;> split at h2
    · exact k.nd a b c h1 h2
    · rename_i q1 q2
      have e : c = p := by
        cases z : b - os.length with
        | zero => rw [z] at h2; simpa using h2.symm
        | succ n => rw [z] at h2; simp at h2
      rw [e] at h1
      exact absurd (List.mem_of_getElem? h1) np
    · have e : c = p := by
        cases z : a - os.length with
        | zero => rw [z] at h1; simpa using h1.symm
        | succ n => rw [z] at h1; simp at h1
      rw [e] at h2
      exact absurd (List.mem_of_getElem? h2) np
    · rename_i q1 q2
      have e1 : a - os.length = 0 := by
        cases z : a - os.length with
        | zero => rfl
        | succ n => rw [z] at h1; simp at h1
      have e2 : b - os.length = 0 := by
        cases z : b - os.length with
        | zero => rfl
        | succ n => rw [z] at h2; simp at h2
      omega
  · rcases List.mem_append.mp h with h | h
    · obtain ⟨h1, o, h2, n⟩ := k.fr a h
      exact ⟨h1, o, Ex.new hp _ _ h2 n, n⟩
    · simp at h
      subst h
      exact ⟨fun o q n => (by have := k.ex _ _ q n; rw [hp] at this; cases this), _, upd_same, nt_l⟩
  · rw [Rh_app hp]
    have h1 : (A.sl.set i (SD.own A.st.length))[j]? = some s := h1
    rw [List.getElem?_set] at h1 h2
    by_cases e : i = j
    · rw [if_pos e] at h1 h2
      split at h1
      · split at h2
        · cases h1; cases h2
          exact ⟨p, rfl, by rw [← k.ln]; simp⟩
        · cases h2
      · cases h1
    · rw [if_neg e] at h1 h2
      have q := k.sl j s o h1 h2
      cases s with
      | un => exact q
      | d x => exact q
      | own n =>
        obtain ⟨a, q1, q2⟩ := q
        exact ⟨a, q1, by rw [List.getElem?_append_left (List.getElem?_eq_some_iff.mp q2).1]; exact q2⟩
  · rw [Rh_app hp]
    have h1 : (A.st ++ [OD.lst xs])[j]? = some s := h1
    rw [List.getElem?_append] at h1 h2
    rw [k.ln] at h2
    split at h1
    · rename_i q1
      rw [if_pos q1] at h2
      exact ((k.st j s o h1 h2).mono (Ex.refl _) (Ex.new hp)).app
    · rename_i q1
      rw [if_neg q1] at h2
      cases z : j - A.st.length with
      | succ n => rw [z] at h1; simp at h1
      | zero =>
        rw [z] at h1 h2
        simp at h1 h2
        subst h1 h2
        exact ⟨p, vs, rfl, upd_same, hx⟩
theorem r_new {i : Nat} {tl : TA} {xs : List Dt} (h : EvA C tl A xs A1) (hl : xs.length ≤ 100000) (hn : P.nx (A1.newO i xs)) : RunS C E (tAsg (tLst tl) (gName i)) A P := fun os σ H D k T =>
  h os σ H k _ fun os1 vs H1 k1 e1 i1 => ⟨by rw [isA_len i1]; exact Nat.le_trans hl (by decide), fun p hp => T.nx _ _ _ _ hn (k1.newO hp i1) (Gr.s (e1.trans ⟨by rw [Rh_app hp]; exact Ex.refl _, fun a h => by obtain ⟨o, q, n⟩ := k1.ol a h; rw [q, Ex.new hp _ _ q n], fun k x h => by rw [List.getElem?_append_left (List.getElem?_eq_some_iff.mp h).1]; exact h⟩))⟩
theorem Ok.upO {os : List (Option Addr)} {σ : Sg} {H : Hp} {p : Addr} {xs ys : List Dt} {vs : List V} {n : Nat} (k : Ok C os A σ H) (h1 : os[n]? = some (some p)) (h2 : A.st[n]? = some (.lst xs)) (hx : IsA C.K (Rh C.O os H) ys vs) : Ok C os (A.upO n ys) σ (upd H p (.lst vs)) := by
  have hp : p ∈ hid C.O os := mem_hid.mpr (.inr (List.mem_of_getElem? h1))
  have hpl : ∃ ws, H p = some (.lst ws) := by
    obtain ⟨o, s1, a3, ws, s2, s3, s4⟩ := k.store h2
    rw [h1] at s1; cases s1; cases s2
    exact ⟨ws, s3⟩
  obtain ⟨ws, hpl⟩ := hpl
  refine ⟨fun a o e nt => ?_, tabs_lst k.tb hpl, fun a h => ?ol, k.dj, by simp [AS.upO, k.ln], k.nd, fun a h => ?_, k.sn, fun j s o e1 e2 => ?_, fun j s o e1 e2 => ?_⟩
  case ol =>
    obtain ⟨o, q, n⟩ := k.ol a h
    exact ⟨o, by rw [upd_ne fun z => k.dj a h (by rw [z]; exact List.mem_of_getElem? h1)]; exact q, n⟩
  · have ne : a ≠ p := fun z => (k.fr p (List.mem_of_getElem? h1)).1 o (by rw [← z]; exact e) nt
    rw [upd_ne ne]
    exact k.ex _ _ e nt
  · obtain ⟨q1, o, q2, n⟩ := k.fr a h
    refine ⟨q1, ?_⟩
    by_cases e : a = p
    · rw [e]; exact ⟨_, upd_same, nt_l⟩
    · exact ⟨o, by rw [upd_ne e]; exact q2, n⟩
  · rw [Rh_upd hp]
    exact k.sl j s o e1 e2
  · rw [Rh_upd hp]
    have e1 : (A.st.set n (OD.lst ys))[j]? = some s := e1
    rw [List.getElem?_set] at e1
    by_cases e : n = j
    · rw [if_pos e] at e1
      split at e1
      · cases e1
        subst e
        rw [h1] at e2; cases e2
        exact ⟨p, vs, rfl, upd_same, hx⟩
      · cases e1
    · rw [if_neg e] at e1
      refine (k.st j s o e1 e2).heap fun a q1 => upd_ne fun z => ?_
      rw [q1, z] at e2
      exact e (k.nd n j p h1 e2)
/-- xs.append(e) -/
theorem e_append {i n : Nat} {xs xs0 : List Dt} (h1 : A.sl[i]? = some (.own n)) (h0 : A.st[n]? = some (.lst xs0)) (he : EvS C te A d A1) (h1' : A1.sl[i]? = some (.own n)) (h2 : A1.st[n]? = some (.lst xs)) (hl : xs.length < 100000) : EvS C (tBM C.K "list" rAppend (tVar i) (tCons te tNil)) A dn (A1.upO n (xs ++ [d])) := fun os σ H k Q q => by
  obtain ⟨o, e1, a, e2, e3⟩ := k.slot h1
  subst e2
  obtain ⟨o3, s1, a3, vs, s2, s3, s4⟩ := k.store h0
  rw [e3] at s1; cases s1; cases s2
  refine ⟨_, e1, .inl ⟨rfl, _, .inl (.inl s3)⟩, ?_⟩
  · exact he os σ H k _ fun os1 v H1 k1 x1 i1 => by
      obtain ⟨o, f1, a1, f2, f3⟩ := k1.slot h1'
      rw [e1] at f1; cases f1; cases f2
      obtain ⟨o3, s1, a3, vs, s2, s3, s4⟩ := k1.store h2
      rw [f3] at s1; cases s1; cases s2
      refine ⟨a, vs, v, rfl, rfl, s3, by rw [isA_len s4]; exact Nat.lt_of_lt_of_le hl (by decide), ?_⟩
      exact q os1 _ _ (k1.upO f3 h2 (isA_app s4 (isA_cons i1 isA_nil))) (x1.trans ⟨by rw [Rh_upd (mem_hid.mpr (.inr (List.mem_of_getElem? f3)))]; exact Ex.refl _, fun b hb => (by rw [upd_ne fun z => k1.dj b hb (by rw [z]; exact List.mem_of_getElem? f3)]), fun _ _ h => h⟩) is_v
end
/-! ### loops -/
section
variable {C : Ct} {E : XK} {ta tb tc te tl : TE} {tt : TT} {t u : TS} {A A1 A2 A3 : AS} {d d1 d2 : Dt} {P : Po}
theorem r_while (W : Nat → AS → Prop) (m0 : Nat) (h0 : W m0 A)
    (hs : ∀ m A, W m A → ∃ b A1, EvT C tt A b A1 ∧ (b = true → RunS C E t A1 { P with nx := fun A' => ∃ m', m' < m ∧ W m' A', ct := fun A' => ∃ m', m' < m ∧ W m' A', bk := P.nx }) ∧ (b = false → P.nx A1)) :
    RunS C E (tWhile tt t) A P := fun os σ H D k T => by
  refine ⟨fun m σ' H' => ∃ os' A', W m A' ∧ Ok C os' A' σ' H' ∧ Gs C.O os H os' H', ⟨m0, os, A, h0, k, Gs.refl⟩, fun m σ1 H1 ⟨os1, A1, w1, k1, g1⟩ => ?_⟩
  obtain ⟨b, A2, ht, hy, hn⟩ := hs m A1 w1
  refine ht os1 σ1 H1 k1 _ fun os2 H2 k2 g2 => ?_
  cases b with
  | true =>
    rw [if_pos rfl]
    refine ⟨fun σ' H' => ∃ m', m' < m ∧ ∃ os' A', W m' A' ∧ Ok C os' A' σ' H' ∧ Gs C.O os H os' H', fun σ' H' ⟨m', h1, h2⟩ => ⟨m', h1, h2⟩, ?_⟩
    refine hy rfl os2 σ1 H2 _ k2 ⟨fun os3 A3 σ3 H3 ⟨m', h1, h2⟩ k3 g3 => ⟨m', h1, os3, A3, h2, k3, (g1.trans g2.s).trans g3⟩, fun os3 A3 σ3 d v H3 h k3 g3 i3 => T.rt os3 A3 σ3 d v H3 h k3 ((g1.trans g2.s).trans g3) i3, fun os3 A3 σ3 H3 h k3 g3 => T.nx os3 A3 σ3 H3 h k3 ((g1.trans g2.s).trans g3), fun os3 A3 σ3 H3 ⟨m', h1, h2⟩ k3 g3 => ⟨m', h1, os3, A3, h2, k3, (g1.trans g2.s).trans g3⟩, T.er⟩
  | false =>
    rw [if_neg (by decide)]
    exact T.nx os2 A2 σ1 H2 (hn rfl) k2 (g1.trans g2.s)
/-- a target that takes a datum -/
def Tg (C : Ct) (g : TG) (x : Dt) (A A' : AS) : Prop := ∀ os σ H v (Q : Sg → Hp → Prop), Ok C os A σ H → Is C.K (Rh C.O os H) x v → (∀ σ', Ok C os A' σ' H → Q σ' H) → g v σ H Q
def TgA (C : Ct) (g : TGs) (xs : List Dt) (A A' : AS) : Prop := ∀ os σ H vs (Q : Sg → Hp → Prop), Ok C os A σ H → IsA C.K (Rh C.O os H) xs vs → (∀ σ', Ok C os A' σ' H → Q σ' H) → g vs σ H Q
theorem tg_name {i : Nat} {x : Dt} : Tg C (gName i) x A (A.put i x) := fun os σ H v Q k i q => q _ (k.put i)
theorem tgA_nil : TgA C gNil [] A A := fun os σ H vs Q k i q => ⟨by rw [IsA] at i; exact i, q σ k⟩
theorem tgA_cons {g : TG} {gs : TGs} {x : Dt} {xs : List Dt} (h : Tg C g x A A1) (h' : TgA C gs xs A1 A2) : TgA C (gCons g gs) (x :: xs) A A2 := fun os σ H vs Q k i q => by
  rw [IsA] at i
  obtain ⟨v, w, rfl, h1, h2⟩ := i
  exact ⟨v, w, rfl, h os σ H v _ k h1 fun σ1 k1 => h' os σ1 H w Q k1 h2 q⟩
theorem tg_tup {gs : TGs} {n : Nat} {xs : List Dt} (hl : xs.length = n) (h : TgA C gs xs A A1) : Tg C (gTup C.K n gs) (.tup xs) A A1 := fun os σ H v Q k i q => by
  rw [Is] at i
  obtain ⟨a, vs, rfl, h1, h2⟩ := i
  exact ⟨a, vs, rfl, hd_ex.t h1, by rw [isA_len h2, hl], h os σ H vs Q k h2 q⟩
theorem r_tg {g : TG} (he : EvS C te A d A1) (hg : Tg C g d A1 A2) (h : P.nx A2) : RunS C E (tAsg te g) A P := fun os σ H D k T =>
  he os σ H k _ fun os1 v H1 k1 e1 i1 => hg os1 σ H1 v _ k1 i1 fun σ2 k2 => T.nx os1 _ _ H1 h k2 e1
/-- for target in a list (a tuple): turns over data -/
theorem r_forL {g : TG} {xs : List Dt} (he : EvS C tl A (.lst xs) A1) (Pv : Nat → AS → Prop) (h0 : Pv 0 A1)
    (hs : ∀ i x A, xs[i]? = some x → Pv i A → ∃ A', Tg C g x A A' ∧ RunS C E t A' { P with nx := Pv (i + 1), ct := Pv (i + 1), bk := P.nx }) (hd : ∀ A, Pv xs.length A → P.nx A) : RunS C E (tFor (iList C.K tl) g t) A P := fun os σ H D k T =>
  he os σ H k _ fun os1 v H1 k1 e1 i1 => by
    rw [Is] at i1
    obtain ⟨a, vs, rfl, h1, h2⟩ := i1
    refine ⟨a, rfl, ⟨vs, hd_ex.l h1⟩, for_list (K := C.K) (a := a) (xs := vs) (fun i σ' H' => ∃ os' A', Pv i A' ∧ Ok C os' A' σ' H' ∧ Gs C.O os1 H1 os' H') ⟨os1, A1, h0, k1, Gs.refl⟩ (fun i σ' H' _ ⟨os', A', p, k', g'⟩ => hd_ex.l (g'.e.l h1)) ?_ fun σ' H' ⟨os', A', p, k', g'⟩ => T.nx os' A' σ' H' (hd A' (by rw [← isA_len h2]; exact p)) k' (e1.s.trans g')⟩
    rintro i x σ' H' hx ⟨os', A', p, k', g'⟩
    obtain ⟨d, hd', hi⟩ := isA_get' h2 hx
    obtain ⟨A2, tg, run⟩ := hs i d A' hd' p
    refine tg os' σ' H' x _ k' (Is.mono g'.e _ _ hi) fun σ2 k2 => ?_
    exact run os' σ2 H' _ k2 ⟨fun os3 A3 σ3 H3 h k3 g3 => ⟨os3, A3, h, k3, g'.trans g3⟩, fun os3 A3 σ3 d v H3 h k3 g3 i3 => T.rt os3 A3 σ3 d v H3 h k3 ((e1.s.trans g').trans g3) i3, fun os3 A3 σ3 H3 h k3 g3 => T.nx os3 A3 σ3 H3 h k3 ((e1.s.trans g').trans g3), fun os3 A3 σ3 H3 h k3 g3 => ⟨os3, A3, h, k3, g'.trans g3⟩, T.er⟩
theorem r_forT {g : TG} {xs : List Dt} (he : EvS C tl A (.tup xs) A1) (Pv : Nat → AS → Prop) (h0 : Pv 0 A1)
    (hs : ∀ i x A, xs[i]? = some x → Pv i A → ∃ A', Tg C g x A A' ∧ RunS C E t A' { P with nx := Pv (i + 1), ct := Pv (i + 1), bk := P.nx }) (hd : ∀ A, Pv xs.length A → P.nx A) : RunS C E (tFor (iTup C.K tl) g t) A P := fun os σ H D k T =>
  he os σ H k _ fun os1 v H1 k1 e1 i1 => by
    rw [Is] at i1
    obtain ⟨a, vs, rfl, h1, h2⟩ := i1
    refine ⟨a, rfl, ⟨vs, hd_ex.t h1⟩, for_tup (K := C.K) (a := a) (xs := vs) (fun i σ' H' => ∃ os' A', Pv i A' ∧ Ok C os' A' σ' H' ∧ Gs C.O os1 H1 os' H') ⟨os1, A1, h0, k1, Gs.refl⟩ (fun i σ' H' _ ⟨os', A', p, k', g'⟩ => hd_ex.t (g'.e.t h1)) ?_ fun σ' H' ⟨os', A', p, k', g'⟩ => T.nx os' A' σ' H' (hd A' (by rw [← isA_len h2]; exact p)) k' (e1.s.trans g')⟩
    rintro i x σ' H' hx ⟨os', A', p, k', g'⟩
    obtain ⟨d, hd', hi⟩ := isA_get' h2 hx
    obtain ⟨A2, tg, run⟩ := hs i d A' hd' p
    refine tg os' σ' H' x _ k' (Is.mono g'.e _ _ hi) fun σ2 k2 => ?_
    exact run os' σ2 H' _ k2 ⟨fun os3 A3 σ3 H3 h k3 g3 => ⟨os3, A3, h, k3, g'.trans g3⟩, fun os3 A3 σ3 d v H3 h k3 g3 i3 => T.rt os3 A3 σ3 d v H3 h k3 ((e1.s.trans g').trans g3) i3, fun os3 A3 σ3 H3 h k3 g3 => T.nx os3 A3 σ3 H3 h k3 ((e1.s.trans g').trans g3), fun os3 A3 σ3 H3 h k3 g3 => ⟨os3, A3, h, k3, g'.trans g3⟩, T.er⟩
theorem r_forR {g : TG} {lo : Int} {n : Nat} {wi : TI} (hw : ∀ os σ H, Ok C os A σ H → ∀ R : It → Hp → Prop, (∀ os' H', Ok C os' A1 σ H' → Gr C.O os H os' H' → R (Itr lo n) H') → wi σ H R) (Pv : Nat → AS → Prop) (h0 : Pv 0 A1)
    (hs : ∀ (i : Nat) A, i < n → Pv i A → ∃ A', Tg C g (di (lo + i)) A A' ∧ RunS C E t A' { P with nx := Pv (i + 1), ct := Pv (i + 1), bk := P.nx }) (hd : ∀ A, Pv n A → P.nx A) : RunS C E (tFor wi g t) A P := fun os σ H D k T =>
  hw os σ H k _ fun os1 H1 k1 e1 => by
    refine for_range (lo := lo) (n := n) (fun i σ' H' => ∃ os' A', Pv i A' ∧ Ok C os' A' σ' H' ∧ Gs C.O os1 H1 os' H') ⟨os1, A1, h0, k1, Gs.refl⟩ ?_ fun σ' H' ⟨os', A', p, k', g'⟩ => T.nx os' A' σ' H' (hd A' p) k' (e1.s.trans g')
    rintro i σ' H' hi ⟨os', A', p, k', g'⟩
    obtain ⟨A2, tg, run⟩ := hs i A' hi p
    refine tg os' σ' H' _ _ k' is_v fun σ2 k2 => ?_
    exact run os' σ2 H' _ k2 ⟨fun os3 A3 σ3 H3 h k3 g3 => ⟨os3, A3, h, k3, g'.trans g3⟩, fun os3 A3 σ3 d v H3 h k3 g3 i3 => T.rt os3 A3 σ3 d v H3 h k3 ((e1.s.trans g').trans g3) i3, fun os3 A3 σ3 H3 h k3 g3 => T.nx os3 A3 σ3 H3 h k3 ((e1.s.trans g').trans g3), fun os3 A3 σ3 H3 h k3 g3 => ⟨os3, A3, h, k3, g'.trans g3⟩, T.er⟩
theorem w_rng1 {tl : TA} {n : Int} (h : EvA C tl A [di n] A1) (hn : -(2 ^ 62) ≤ n ∧ n < 2 ^ 62) : ∀ os σ H, Ok C os A σ H → ∀ R : It → Hp → Prop, (∀ os' H', Ok C os' A1 σ H' → Gr C.O os H os' H' → R (Itr 0 n.toNat) H') → iRng1 tl σ H R := fun os σ H k R q =>
  h os σ H k _ fun os1 vs H1 k1 e1 i1 => by
    simp only [IsA, Is] at i1
    obtain ⟨v, w, rfl, rfl, rfl⟩ := i1
    exact ⟨n, rfl, hn.1, hn.2, q os1 H1 k1 e1⟩
theorem w_rng2 {tl : TA} {m n : Int} (h : EvA C tl A [di m, di n] A1) (hm : -(2 ^ 62) ≤ m ∧ m < 2 ^ 62) (hn : -(2 ^ 62) ≤ n ∧ n < 2 ^ 62) : ∀ os σ H, Ok C os A σ H → ∀ R : It → Hp → Prop, (∀ os' H', Ok C os' A1 σ H' → Gr C.O os H os' H' → R (Itr m (n - m).toNat) H') → iRng2 tl σ H R := fun os σ H k R q =>
  h os σ H k _ fun os1 vs H1 k1 e1 i1 => by
    simp only [IsA, Is] at i1
    obtain ⟨v, w, rfl, rfl, v', w', rfl, rfl, rfl⟩ := i1
    exact ⟨m, n, rfl, ⟨hm.1, hm.2, hn.1, hn.2⟩, q os1 H1 k1 e1⟩
/-! ### raising, calls, promises -/
inductive Rs where
  | ok (d : Dt)
  | err (c : Addr)
def spD (K : Frg) (T : List (Addr × Str)) (g : List Dt → Rs → Prop) : Sp := fun vs H Q E => ∃ O ds r, (∀ a ∈ O, ∃ o, H a = some o ∧ NoT o) ∧ LamX.Tabs T H ∧ IsA K (hd O H) ds vs ∧ g ds r ∧
  match r with
  | .ok d => ∀ v H', Ex H H' → LamX.Tabs T H' → Is K (hd O H') d v → Q v H'
  | .err c => ∀ H', Ex H H' → LamX.Tabs T H' → E (.ref c) none H'
theorem e_call {g : List Dt → Rs → Prop} {E' : XK} {tl : TA} {ds : List Dt} (ha : EvA C tl A ds A1) (hg : g ds (.ok d)) : EvS C (tCall (spD C.K C.T g) [] E' tl) A d A1 := fun os σ H k Q q =>
  ha os σ H k _ fun os1 vs H1 k1 e1 i1 => ⟨hid C.O os1, ds, .ok d, fun a h => k1.hidden h, k1.tb, by rw [List.append_nil]; exact i1, hg, fun v H' e t i => q os1 v H' (k1.mono e t) (e1.trans (k1.gr e)) i⟩
theorem x_call {g : List Dt → Rs → Prop} {tl : TA} {ds : List Dt} {c : Addr} (ha : EvA C tl A ds A1) (hg : g ds (.err c)) : EvX C E (tCall (spD C.K C.T g) [] E tl) A c A1 := fun os σ H k hE Q =>
  ha os σ H k _ fun os1 vs H1 k1 e1 i1 => ⟨hid C.O os1, ds, .err c, fun a h => k1.hidden h, k1.tb, by rw [List.append_nil]; exact i1, hg, fun H' e t => hE os1 H' (k1.mono e t) (e1.trans (k1.gr e))⟩
theorem x_asg {g : TG} {c : Addr} (h : EvX C E te A c A1) (hp : P.er c) : RunS C E (tAsg te g) A P := fun os σ H D k T => h os σ H k (fun os' H' k' _ => T.er c H' hp k'.ex k'.tb) _
theorem x_ret {c : Addr} (h : EvX C E te A c A1) (hp : P.er c) : RunS C E (tRet te) A P := fun os σ H D k T => h os σ H k (fun os' H' k' _ => T.er c H' hp k'.ex k'.tb) _
theorem x_drop {c : Addr} (h : EvX C E te A c A1) (hp : P.er c) : RunS C E (tDrop te) A P := fun os σ H D k T => h os σ H k (fun os' H' k' _ => T.er c H' hp k'.ex k'.tb) _
theorem x_op1 {r : R2} {c : Addr} (h : EvX C E ta A c A1) : EvX C E (tOp r ta tb) A c A1 := fun os σ H k hE Q => h os σ H k hE _
theorem x_op2 {r : R2} {c : Addr} (ha : EvS C ta A d A1) (h : EvX C E tb A1 c A2) : EvX C E (tOp r ta tb) A c A2 := fun os σ H k hE Q => ha os σ H k _ fun os1 v1 H1 k1 e1 i1 => h os1 σ H1 k1 (fun os' H' k' g => hE os' H' k' (e1.trans g)) _
theorem xa_1 {tr : TA} {c : Addr} (h : EvX C E ta A c A1) : EvXA C E (tCons ta tr) A c A1 := fun os σ H k hE Q => h os σ H k hE _
theorem xa_2 {tr : TA} {c : Addr} (ha : EvS C ta A d A1) (h : EvXA C E tr A1 c A2) : EvXA C E (tCons ta tr) A c A2 := fun os σ H k hE Q => ha os σ H k _ fun os1 v1 H1 k1 e1 i1 => h os1 σ H1 k1 (fun os' H' k' g => hE os' H' k' (e1.trans g)) _
theorem x_args {sp : Sp} {dvs : List V} {tl : TA} {c : Addr} (h : EvXA C E tl A c A1) : EvX C E (tCall sp dvs E tl) A c A1 := fun os σ H k hE Q => h os σ H k hE _
theorem x_tup {tl : TA} {c : Addr} (h : EvXA C E tl A c A1) : EvX C E (tTup tl) A c A1 := fun os σ H k hE Q => h os σ H k hE _
theorem x_ifT {c : Addr} (h : EvT C tt A true A1) (h1 : EvX C E ta A1 c A2) : EvX C E (tIf tt ta tb) A c A2 := fun os σ H k hE Q =>
  h os σ H k _ fun os1 H1 k1 e1 => by
    rw [if_pos rfl]
    exact h1 os1 σ H1 k1 (fun os' H' k' g => hE os' H' k' (e1.trans g)) _
theorem x_ifF {c : Addr} (h : EvT C tt A false A1) (h1 : EvX C E tb A1 c A2) : EvX C E (tIf tt ta tb) A c A2 := fun os σ H k hE Q =>
  h os σ H k _ fun os1 H1 k1 e1 => by
    rw [if_neg (by decide)]
    exact h1 os1 σ H1 k1 (fun os' H' k' g => hE os' H' k' (e1.trans g)) _
/-- raise X('..') -/
def tRz (E : XK) (c : Addr) : TS := fun _ _ H => E (.ref c) none H
theorem r_raise {c : Addr} (h : P.er c) : RunS C E (tRz E c) A P := fun os σ H D k T => T.er c H h k.ex k.tb
/-- the end of a def -/
def poR (r : Rs) : Po := { nx := fun _ => r = .ok dn, rt := fun d _ => r = .ok d, er := fun c => r = .err c }
def start (N : List Str) (ds : List Dt) : AS := ⟨ds.map .d ++ List.replicate (N.length - ds.length) .un, []⟩
theorem start_ok {N : List Str} {ds : List Dt} {vs : List V} {K : Frg} {T : List (Addr × Str)} {H : Hp} {O : List Addr} (hO : ∀ a ∈ O, ∃ o, H a = some o ∧ NoT o) (ht : LamX.Tabs T H) (h : IsA K (hd O H) ds vs) : Ok ⟨K, T, H, O⟩ [] (start N ds) (L2.start N vs) H := by
  have e : Rh O [] H = hd O H := by
    show hd (O ++ []) H = _
    rw [List.append_nil]
  have hl := isA_len h
  refine ⟨Ex.refl _, ht, hO, fun a _ z => (by cases z), rfl, fun i j a z => (by simp at z), fun a z => (by cases z), (by simp [start, L2.start, hl]), fun i s o h1 h2 => ?_, fun i s o h1 h2 => by simp at h2⟩
  show SlOk K [] (Rh O [] H) s o
  rw [e]
  have h1 : (ds.map SD.d ++ List.replicate (N.length - ds.length) SD.un)[i]? = some s := h1
  have h2 : (vs.map some ++ List.replicate (N.length - vs.length) none)[i]? = some o := h2
  rw [List.getElem?_append] at h1 h2
  simp only [List.length_map] at h1 h2
  split at h1
  · rename_i q
    rw [if_pos (by rw [hl]; exact q)] at h2
    rw [List.getElem?_map] at h1 h2
    cases e1 : ds[i]? with
    | none => rw [e1] at h1; cases h1
    | some d =>
      obtain ⟨v, hv, hi⟩ := isA_get h e1
      rw [e1] at h1
      rw [hv] at h2
      cases h1; cases h2
      exact ⟨v, rfl, hi⟩
  · rw [List.getElem?_replicate] at h1
    split at h1
    · cases h1; exact True.intro
    · cases h1
theorem fin {t : TS} {N : List Str} {K : Frg} {T : List (Addr × Str)} {E : XK} {g : List Dt → Rs → Prop} {vs : List V} {H : Hp} {Q : VK} (h : spD K T g vs H Q E) (run : ∀ O ds r, g ds r → RunS ⟨K, T, H, O⟩ E t (start N ds) (poR r)) : t { nx := fun _ H' => Q .non H', rt := Q } (L2.start N vs) H := by
  obtain ⟨O, ds, r, hO, ht, hi, hg, hr⟩ := h
  refine run O ds r hg [] _ H _ (start_ok hO ht hi) ⟨fun os A σ H' z k _ => ?_, fun os A σ d v H' z k _ i => ?_, fun os A σ H' z => z.elim, fun os A σ H' z => z.elim, fun c H' z e t => ?_⟩
  · have z : r = .ok dn := z
    subst z
    exact hr _ H' k.ex k.tb is_v
  · have z : r = .ok d := z
    subst z
    exact hr v H' k.ex k.tb (Is.mono hid_ex _ _ i)
  · have z : r = .err c := z
    subst z
    exact hr H' e t
theorem spD_len {K : Frg} {T : List (Addr × Str)} {g : List Dt → Rs → Prop} {n : Nat} (hg : ∀ ds r, g ds r → ds.length = n) : ∀ vs H Q E, spD K T g vs H Q E → vs.length = n := fun vs H Q E h => by
  obtain ⟨O, ds, r, hO, ht, hi, hg', hr⟩ := h
  rw [isA_len hi]
  exact hg ds r hg'
end
/-- raise X('..'), in a def that may raise -/
theorem ps_rz {X : Cx} {E : XK} {C : Addr} {bmB : List Value} {B newId initId : String} {x m : Str} {j : Nat} {p p2 pos pos2 : Pos} (hc : X.calm = true) (tk : Takes X (fun cls d _ H => E cls d H)) (F : ExcBaseFacts B newId initId bmB) (q : PySem.W.excIn X.K C bmB newId = true) (gC : X.mg x = some (.ref C)) (kC : PySem.W.keepIn X.K (.ref C) = true) (r : Raises X (.ref C)) (hg : Gl X x)
    (hdb : (x == ("__debug__" : Str)) = false := by decide) : PS X (.Raise (some (.Call (.Name x p) [.Constant (.str m) j p2] [] pos)) none pos2) (tRz E C) := ps_raise hc tk (pmk_own F q gC kC r hg hdb)
end Py
end

section
set_option Elab.async false
set_option linter.all false
set_option maxRecDepth 100000
set_option maxHeartbeats 4000000
set_option autoImplicit false
namespace Py
open PySem PySem.Spec PyProof.Rows L2
/-! ### operators of several kinds -/
def PMul (i j : Int) : Prop := i.natAbs.log2 + j.natAbs.log2 < 100000000
def PDiv (_ j : Int) : Prop := j ≠ 0 ∧ j.natAbs.log2 < 9000
theorem PMul.ok {i j : Int} (h : PMul i j) : IntMulOk i j := by
  have b : ∀ x : Int, Builtin.Int.intBits x ≤ x.natAbs.log2 + 1 := fun x => by
    unfold Builtin.Int.intBits
    split <;> omega
  have h1 := b i
  have h2 := b j
  have h3 : i.natAbs.log2 + j.natAbs.log2 < 100000000 := h
  have e : bitsLine = 134217728 := by decide
  unfold IntMulOk
  intro z
  rw [Bool.and_eq_true] at z
  have z2 := z.2
  unfold Builtin.Int.intTooBig at z2
  have z3 := of_decide_eq_true z2
  rw [e] at z3
  omega
def rAddA (K : Frg) : R2 := fun x y H Q => (∃ i j, x = .int i ∧ y = .int j ∧ Q (.int (i + j)) H) ∨ (∃ i j, x = .str i ∧ y = .str j ∧ i.length + j.length ≤ sizeLine ∧ Q (.str (i ++ j)) H) ∨ rCatT K x y H Q ∨ rCat x y H Q
def rMulA (K : Frg) : R2 := fun x y H Q => rI PMul (fun i j => .int (i * j)) x y H Q ∨ rRep x y H Q
def rEqA (K : Frg) : R2 := fun x y H Q => rEq x y H Q ∨ rEqD K x y H Q
def rNeA (K : Frg) : R2 := fun x y H Q => rNe x y H Q ∨ rNeD K x y H Q
section
variable {X : Cx}
theorem op_addA : OpR X (binaryOp .Add) (rAddA X.K) := OpR.or op_add (OpR.or op_add_str (OpR.or op_catT op_cat))
theorem op_mulX : OpR X (binaryOp .Mult) (rI PMul fun i j => .int (i * j)) := opI fun _ _ _ _ _ _ _ hc q => mul_int q hc.ok
theorem op_mulA : OpR X (binaryOp .Mult) (rMulA X.K) := OpR.or op_mulX op_rep
theorem op_fdivX : OpR X (binaryOp .FloorDiv) (rI PDiv fun i j => .int (i.fdiv j)) := opI fun i j _ _ _ _ _ hc q => floordiv_int hc.1 q (.inl (PyProof.noPylong_of_log2 hc.2))
theorem op_eqA (hu : X.A.units + 64 < cLine) : OpR X (compareOp .Eq) (rEqA X.K) := OpR.or op_eq (op_eqD hu)
theorem op_neA (hu : X.A.units + 64 < cLine) : OpR X (compareOp .NotEq) (rNeA X.K) := OpR.or op_ne (op_neD hu)
end
/-! ### data that == compares -/
mutual
def Dt.py : Dt → Option PyData
  | .v .non => some .none
  | .v (.bl b) => some (.bool b)
  | .v (.int i) => some (.int i)
  | .v (.str s) => some (.str s)
  | .v _ => none
  | .tup xs => (Dt.pys xs).map .tuple
  | .lst xs => (Dt.pys xs).map .list
  | .obj _ _ _ => none
  | .dct _ _ => none
  | .tupZ _ => none
  | .lam _ _ => none
  | .lstN _ => none
  | .tupE xs => (Dt.pys xs).map .tuple
  | .dctT _ _ => none
def Dt.pys : List Dt → Option (List PyData)
  | [] => some []
  | d :: r => match Dt.py d, Dt.pys r with
    | some p, some q => some (p :: q)
    | _, _ => none
end
section
variable {K : Frg} {H : Hp}
mutual
theorem Is.dp : ∀ (d : Dt) (v : V) (p : PyData), Is K H d v → Dt.py d = some p → Dp K H v p
  | .v x, v, p, h, e => by
    rw [Is] at h
    subst h
    cases v <;> simp only [Dt.py] at e <;> first | (cases e; constructor) | cases e
  | .tup xs, v, p, h, e => by
    rw [Is] at h
    obtain ⟨a, vs, rfl, h1, h2⟩ := h
    rw [Dt.py] at e
    cases q : Dt.pys xs with
    | none => rw [q] at e; cases e
    | some ps =>
      rw [q] at e
      cases e
      exact .tup h1 (IsA.dp xs vs ps h2 q)
  | .lst xs, v, p, h, e => by
    rw [Is] at h
    obtain ⟨a, vs, rfl, h1, h2⟩ := h
    rw [Dt.py] at e
    cases q : Dt.pys xs with
    | none => rw [q] at e; cases e
    | some ps =>
      rw [q] at e
      cases e
      exact .lst h1 (IsA.dp xs vs ps h2 q)
  | .obj _ _ _, v, p, h, e => by
    rw [Dt.py] at e
    cases e
  | .dct _ _, v, p, h, e => by
    rw [Dt.py] at e
    cases e
  | .tupZ _, v, p, h, e => by
    rw [Dt.py] at e
    cases e
  | .lam _ _, v, p, h, e => by
    rw [Dt.py] at e
    cases e
  | .lstN _, v, p, h, e => by
    rw [Dt.py] at e
    cases e
  | .tupE xs, v, p, h, e => by
    rw [Is] at h
    obtain ⟨a, vs, rfl, h1, h2⟩ := h
    rw [Dt.py] at e
    cases q : Dt.pys xs with
    | none => rw [q] at e; cases e
    | some ps =>
      rw [q] at e
      cases e
      exact .tup (SqT.of h1) (IsA.dp xs vs ps h2 q)
  | .dctT _ _, v, p, h, e => by
    rw [Dt.py] at e
    cases e
theorem IsA.dp : ∀ (ds : List Dt) (vs : List V) (ps : List PyData), IsA K H ds vs → Dt.pys ds = some ps → DpAll K H vs ps
  | [], vs, ps, h, e => by
    rw [IsA] at h
    rw [Dt.pys] at e
    cases e
    subst h
    exact .nil
  | d :: r, vs, ps, h, e => by
    rw [IsA] at h
    obtain ⟨v, w, rfl, h1, h2⟩ := h
    rw [Dt.pys] at e
    cases q1 : Dt.py d with
    | none => rw [q1] at e; cases e
    | some p =>
      cases q2 : Dt.pys r with
      | none => rw [q1, q2] at e; cases e
      | some q =>
        rw [q1, q2] at e
        cases e
        exact .cons (Is.dp d v p h1 q1) (IsA.dp r w q h2 q2)
end
theorem Dp.mono {H H' : Hp} (e : Ex H H') {v : V} {d : PyData} : Dp K H v d → Dp K H' v d := by
  intro h
  exact Dp.rec (motive_1 := fun v d _ => Dp K H' v d) (motive_2 := fun vs ds _ => DpAll K H' vs ds) .non .bl .int .str (fun h _ ih => .lst (e.l h) ih) (fun h _ ih => .tup (e.t h) ih) .nil (fun _ _ a b => .cons a b) h
end
/-! ### operators by data -/
def OpS (C : Ct) (r : R2) (x y z : Dt) : Prop := ∀ os A σ H vx vy, Ok C os A σ H → Is C.K (Rh C.O os H) x vx → Is C.K (Rh C.O os H) y vy → ∀ Q : VK, (∀ v H', Ex H H' → LamX.Tabs C.T H' → Is C.K (Rh C.O os H') z v → Q v H') → r vx vy H Q
section
variable {C : Ct} {E : XK} {ta tb tc te tl : TE} {tt : TT} {t u : TS} {A A1 A2 A3 : AS} {d d1 d2 x y z : Dt} {P : Po} {r r' : R2}
theorem e_bin (ha : EvS C ta A x A1) (hb : EvS C tb A1 y A2) (hr : OpS C r x y z) : EvS C (tOp r ta tb) A z A2 := fun os σ H k Q q =>
  ha os σ H k _ fun os1 v1 H1 k1 e1 i1 => hb os1 σ H1 k1 _ fun os2 v2 H2 k2 e2 i2 => hr os2 _ σ H2 v1 v2 k2 (Is.mono e2.e _ _ i1) i2 Q fun v H' e t i => q os2 v H' (k2.mono e t) ((e1.trans e2).trans (k2.gr e)) i
theorem o_orL (h : OpS C r x y z) : OpS C (fun x y H Q => r x y H Q ∨ r' x y H Q) x y z := fun os A σ H vx vy k i1 i2 Q q => .inl (h os A σ H vx vy k i1 i2 Q q)
theorem o_orR (h : OpS C r' x y z) : OpS C (fun x y H Q => r x y H Q ∨ r' x y H Q) x y z := fun os A σ H vx vy k i1 i2 Q q => .inr (h os A σ H vx vy k i1 i2 Q q)
theorem o_v {a b c : V} (h : ∀ H (Q : VK), Q c H → r a b H Q) : OpS C r (.v a) (.v b) (.v c) := fun os A σ H vx vy k i1 i2 Q q => by
  rw [Is.v_iff.mp i1, Is.v_iff.mp i2]
  exact h H Q (q c H (Ex.refl _) k.tb is_v)
theorem o_I0 {g : Int → Int → V} {i j : Int} : OpS C (rI0 g) (di i) (di j) (.v (g i j)) := o_v fun H Q q => ⟨i, j, rfl, rfl, q⟩
theorem o_I {cc : Int → Int → Prop} {g : Int → Int → V} {i j : Int} (hc : cc i j) : OpS C (rI cc g) (di i) (di j) (.v (g i j)) := o_v fun H Q q => ⟨i, j, rfl, rfl, hc, q⟩
theorem o_add {i j : Int} : OpS C (rAddA C.K) (di i) (di j) (di (i + j)) := o_v fun H Q q => .inl ⟨i, j, rfl, rfl, q⟩
theorem o_addS {i j : Str} (h : i.length + j.length ≤ 100000) : OpS C (rAddA C.K) (ds i) (ds j) (ds (i ++ j)) := o_v fun H Q q => .inr (.inl ⟨i, j, rfl, rfl, Nat.le_trans h (by decide), q⟩)
theorem o_mul {i j : Int} (h : PMul i j) : OpS C (rMulA C.K) (di i) (di j) (di (i * j)) := o_v fun H Q q => .inl ⟨i, j, rfl, rfl, h, q⟩
theorem o_mulX {i j : Int} (h : PMul i j) : OpS C (rI PMul fun i j => .int (i * j)) (di i) (di j) (di (i * j)) := o_I h
theorem o_eq {a b : V} (h : scal a b = true) : OpS C (rEqA C.K) (.v a) (.v b) (db (decide (a = b))) := o_v fun H Q q => .inl ⟨h, q⟩
theorem o_ne {a b : V} (h : scal a b = true) : OpS C (rNeA C.K) (.v a) (.v b) (db (!decide (a = b))) := o_v fun H Q q => .inl ⟨h, q⟩
theorem o_eqI {i j : Int} : OpS C (rEqA C.K) (di i) (di j) (db (decide (i = j))) := by
  have e : decide (V.int i = V.int j) = decide (i = j) := by simp
  rw [← e]
  exact o_eq rfl
theorem o_neI {i j : Int} : OpS C (rNeA C.K) (di i) (di j) (db (!decide (i = j))) := by
  have e : decide (V.int i = V.int j) = decide (i = j) := by simp
  rw [← e]
  exact o_ne rfl
theorem o_eqD {p q : PyData} (hx : x.py = some p) (hy : y.py = some q) (sp : SeqAt.shaped p = true) (sq : SeqAt.shaped q = true) : OpS C (rEqA C.K) x y (db (PyData.eqv p q)) := fun os A σ H vx vy k i1 i2 Q kq =>
  .inr ⟨p, q, Dp.mono hd_ex (Is.dp x vx p i1 hx), Dp.mono hd_ex (Is.dp y vy q i2 hy), sp, sq, kq _ H (Ex.refl _) k.tb is_v⟩
theorem o_neD {p q : PyData} (hx : x.py = some p) (hy : y.py = some q) (sp : SeqAt.shaped p = true) (sq : SeqAt.shaped q = true) : OpS C (rNeA C.K) x y (db (!PyData.eqv p q)) := fun os A σ H vx vy k i1 i2 Q kq =>
  .inr ⟨p, q, Dp.mono hd_ex (Is.dp x vx p i1 hx), Dp.mono hd_ex (Is.dp y vy q i2 hy), sp, sq, kq _ H (Ex.refl _) k.tb is_v⟩
theorem o_ixT {xs : List Dt} {i : Int} (h : atI xs i = some d) : OpS C (rIx C.K) (.tup xs) (di i) d := fun os A σ H vx vy k i1 i2 Q q => by
  rw [Is] at i1
  obtain ⟨a, vs, rfl, h2, h3⟩ := i1
  obtain ⟨v, h4, h5⟩ := isA_at h3 h
  rw [Is.v_iff.mp i2]
  exact .inr (.inl ⟨a, vs, i, v, rfl, rfl, hd_ex.t h2, h4, q v H (Ex.refl _) k.tb h5⟩)
theorem o_ixL {xs : List Dt} {i : Int} (h : atI xs i = some d) : OpS C (rIx C.K) (.lst xs) (di i) d := fun os A σ H vx vy k i1 i2 Q q => by
  rw [Is] at i1
  obtain ⟨a, vs, rfl, h2, h3⟩ := i1
  obtain ⟨v, h4, h5⟩ := isA_at h3 h
  rw [Is.v_iff.mp i2]
  exact .inl ⟨a, vs, i, v, rfl, rfl, hd_ex.l h2, h4, q v H (Ex.refl _) k.tb h5⟩
/-- an item of a list of one's own -/
theorem e_ixO {i : Nat} {n : Nat} {xs : List Dt} {j : Int} (h1 : A.sl[i]? = some (.own n)) (h2 : A.st[n]? = some (.lst xs)) (hb : EvS C tb A (di j) A) (h : atI xs j = some d) : EvS C (tOp (rIx C.K) (tVar i) tb) A d A := fun os σ H k Q q => by
  obtain ⟨o, e1, a, e2, e3⟩ := k.slot h1
  subst e2
  refine ⟨_, e1, hb os σ H k _ fun os2 v2 H2 k2 e4 i2 => ?_⟩
  obtain ⟨f1, f2, a2, g1, g2⟩ := k2.slot h1
  rw [e1] at f2; cases f2
  cases g1
  obtain ⟨o3, s1, a3, vs, s2, s3, s4⟩ := k2.store h2
  rw [g2] at s1; cases s1; cases s2
  obtain ⟨v, h4, h5⟩ := isA_at s4 h
  rw [Is.v_iff.mp i2]
  exact .inl ⟨_, vs, j, v, rfl, rfl, SqL.of s3, h4, q os2 v H2 k2 e4 h5⟩
/-- tuple(xs), xs a list of one's own -/
theorem e_tupO {i n : Nat} {xs : List Dt} (h1 : A.sl[i]? = some (.own n)) (h2 : A.st[n]? = some (.lst xs)) :
    EvS C (tCB (fun ys H Q => ∃ p zs, ys = [V.ref p] ∧ ((SqL C.K H p zs ∧ ∀ (l : Addr), H l = none → Q (V.ref l) (upd H l (HO.tup zs))) ∨ SqT C.K H p zs ∧ Q (V.ref p) H)) (tCons (tVar i) tNil)) A (.tup xs) A := fun os σ H k Q q => by
  obtain ⟨o, e1, a, e2, e3⟩ := k.slot h1
  subst e2
  obtain ⟨o3, s1, a3, vs, s2, s3, s4⟩ := k.store h2
  rw [e3] at s1; cases s1; cases s2
  refine ⟨_, e1, a, vs, rfl, .inl ⟨SqL.of s3, fun l hl => q os _ _ (k.monoN hl) (k.gr (Ex.new hl)) ?_⟩⟩
  rw [Is]
  exact ⟨l, vs, rfl, SqT.of (k.fresh hl), IsA.mono (hd_mono (Ex.new hl)) _ _ s4⟩
/-- tuple(xs), xs data -/
theorem e_tupL {tl : TE} {xs : List Dt} (h : EvS C tl A (.lst xs) A1) :
    EvS C (tCB (fun ys H Q => ∃ p zs, ys = [V.ref p] ∧ ((SqL C.K H p zs ∧ ∀ (l : Addr), H l = none → Q (V.ref l) (upd H l (HO.tup zs))) ∨ SqT C.K H p zs ∧ Q (V.ref p) H)) (tCons tl tNil)) A (.tup xs) A1 := fun os σ H k Q q =>
  h os σ H k _ fun os1 v H1 k1 e1 i1 => by
    rw [Is] at i1
    obtain ⟨a, vs, rfl, h2, h3⟩ := i1
    refine ⟨a, vs, rfl, .inl ⟨hd_ex.l h2, fun l hl => q os1 _ _ (k1.monoN hl) (e1.trans (k1.gr (Ex.new hl))) ?_⟩⟩
    rw [Is]
    exact ⟨l, vs, rfl, SqT.of (k1.fresh hl), IsA.mono (hd_mono (Ex.new hl)) _ _ h3⟩
theorem e_tupT {tl : TE} {xs : List Dt} (h : EvS C tl A (.tup xs) A1) :
    EvS C (tCB (fun ys H Q => ∃ p zs, ys = [V.ref p] ∧ ((SqL C.K H p zs ∧ ∀ (l : Addr), H l = none → Q (V.ref l) (upd H l (HO.tup zs))) ∨ SqT C.K H p zs ∧ Q (V.ref p) H)) (tCons tl tNil)) A (.tup xs) A1 := fun os σ H k Q q =>
  h os σ H k _ fun os1 v H1 k1 e1 i1 => by
    have i1' := i1
    rw [Is] at i1
    obtain ⟨a, vs, rfl, h2, h3⟩ := i1
    exact ⟨a, vs, rfl, .inr ⟨hd_ex.t h2, q os1 _ _ k1 e1 i1'⟩⟩
/-- list(xs) of a list, a tuple -/
theorem e_listL {tl : TE} {xs : List Dt} (h : EvS C tl A (.lst xs) A1) :
    EvS C (tCB (fun ys H Q => ∃ p zs, ys = [V.ref p] ∧ (SqL C.K H p zs ∨ SqT C.K H p zs) ∧ ∀ (l : Addr), H l = none → Q (V.ref l) (upd H l (HO.lst zs))) (tCons tl tNil)) A (.lst xs) A1 := fun os σ H k Q q =>
  h os σ H k _ fun os1 v H1 k1 e1 i1 => by
    rw [Is] at i1
    obtain ⟨a, vs, rfl, h2, h3⟩ := i1
    refine ⟨a, vs, rfl, .inl (hd_ex.l h2), fun l hl => q os1 _ _ (k1.monoN hl) (e1.trans (k1.gr (Ex.new hl))) ?_⟩
    rw [Is]
    exact ⟨l, vs, rfl, SqL.of (k1.fresh hl), IsA.mono (hd_mono (Ex.new hl)) _ _ h3⟩
theorem e_listT {tl : TE} {xs : List Dt} (h : EvS C tl A (.tup xs) A1) :
    EvS C (tCB (fun ys H Q => ∃ p zs, ys = [V.ref p] ∧ (SqL C.K H p zs ∨ SqT C.K H p zs) ∧ ∀ (l : Addr), H l = none → Q (V.ref l) (upd H l (HO.lst zs))) (tCons tl tNil)) A (.lst xs) A1 := fun os σ H k Q q =>
  h os σ H k _ fun os1 v H1 k1 e1 i1 => by
    rw [Is] at i1
    obtain ⟨a, vs, rfl, h2, h3⟩ := i1
    refine ⟨a, vs, rfl, .inr (hd_ex.t h2), fun l hl => q os1 _ _ (k1.monoN hl) (e1.trans (k1.gr (Ex.new hl))) ?_⟩
    rw [Is]
    exact ⟨l, vs, rfl, SqL.of (k1.fresh hl), IsA.mono (hd_mono (Ex.new hl)) _ _ h3⟩
/-- len -/
theorem e_lenT {tl : TE} {xs : List Dt} (h : EvS C tl A (.tup xs) A1) : EvS C (tCB (fun ys H Q => ∃ x n, ys = [x] ∧ LenV C.K x H n ∧ Q (V.int n) H) (tCons tl tNil)) A (di xs.length) A1 := fun os σ H k Q q =>
  h os σ H k _ fun os1 v H1 k1 e1 i1 => by
    rw [Is] at i1
    obtain ⟨a, vs, rfl, h2, h3⟩ := i1
    exact ⟨_, vs.length, rfl, .inr ⟨vs, hd_ex.t h2, rfl⟩, by rw [isA_len h3]; exact q os1 _ H1 k1 e1 is_v⟩
theorem e_lenL {tl : TE} {xs : List Dt} (h : EvS C tl A (.lst xs) A1) : EvS C (tCB (fun ys H Q => ∃ x n, ys = [x] ∧ LenV C.K x H n ∧ Q (V.int n) H) (tCons tl tNil)) A (di xs.length) A1 := fun os σ H k Q q =>
  h os σ H k _ fun os1 v H1 k1 e1 i1 => by
    rw [Is] at i1
    obtain ⟨a, vs, rfl, h2, h3⟩ := i1
    exact ⟨_, vs.length, rfl, .inl ⟨vs, hd_ex.l h2, rfl⟩, by rw [isA_len h3]; exact q os1 _ H1 k1 e1 is_v⟩
end
/-! ### a def of the module and its promise -/
structure Gd (P : Program) (w : World) (K : Frg) (mg : Str → Option Value) (base : Heap) (f : Str) (ps : List Str) (k : Nat) (sp : Sp) : Prop where
  ex : ∃ (a : Addr) (fd : FuncData), FnOk P w K mg base (L2.CX P w) k a fd ps sp ∧ Binds K fd ps [] ∧ PySem.W.keepIn K (.ref a) = true ∧ mg f = some (.ref a)
section
variable {X : Cx} {k : Nat} {ps : List Str} {sp : Sp} {E : XK} {x : Str} {p pos : Pos} {e : Expr} {es : List Expr} {t : TA}
theorem pe_callG (G : Gd X.prog X.w X.K X.mg X.base x ps k sp) (hr : Room k X.A) (hx : Passes (L2.CX X.prog X.w) X E) (ha : PA X (e :: es) t) (hg : Gl X x := by rfl)
    (hdb : (x == ("__debug__" : Str)) = false := by decide) (he : starEach (e :: es) X.env = (false, eval e X.env) :: starEach es X.env := by rfl) (hpl : (backTo pos (starEach es X.env)).any (·.1) = false := by rfl) :
    PE X (.Call (.Name x p) (e :: es) [] pos) (tCall sp [] E t) := by
  obtain ⟨a, fd, F, hb, hk, hm⟩ := G.ex
  exact pe_call F hr hg hm hk hb .nil hx ha hdb he hpl
theorem pe_call0G (G : Gd X.prog X.w X.K X.mg X.base x ps k sp) (hr : Room k X.A) (hx : Passes (L2.CX X.prog X.w) X E) (hg : Gl X x := by rfl) (hdb : (x == ("__debug__" : Str)) = false := by decide) : PE X (.Call (.Name x p) [] [] pos) (tCall sp [] E tNil) := by
  obtain ⟨a, fd, F, hb, hk, hm⟩ := G.ex
  exact pe_call0 F hr hg hm hk hb .nil hx hdb
end
/-- a def, by its body told over data -/
theorem mkG {P : Program} {w : World} {K : Frg} {T : List (Addr × Str)} {mg : Str → Option Value} {base : Heap} {f : Str} {st : Stmt} {N ps : List Str} {k : Nat} {g : List Dt → Rs → Prop} {a : Addr}
    (F : ∃ fd, FunD K f f (defArgs st) (defBody st) (defScope st) [] [] a fd) (hm : mg f = some (.ref a)) (S : FnScope N ps (defScope st))
    (hb : ∀ (kV doc pm : Value) (an : Option Addr) (cdv ct : Value) (us : List Value), us.length = ps.length → bindArgs (PySem.W.fnOf f f (defArgs st) (defBody st) (defScope st) .none kV doc pm an cdv ct) ⟨us, []⟩ = pure (ps.zip us))
    (len : ∀ ds r, g ds r → ds.length = ps.length)
    (hbody : ∀ (cdv : Value) (A : Around) (outer : List Env) (s : Shared) (H : Hp) (E : XK), Room k (A.deeper (envOfC f (defScope st) s.heap.objs.size a cdv)) →
      ∃ t, PSs (cxOf (L2.CX P w) P w K mg base N f (defScope st) a cdv A outer s H E) (defBody st) t ∧ ∀ O ds r, g ds r → RunS ⟨K, T, H, O⟩ E t (start N ds) (poR r)) : Gd P w K mg base f ps (k + 1) (spD K T g) := by
  obtain ⟨fd, F⟩ := F
  refine ⟨a, fd, F.ok S (fun vs H Q E h => spD_len len vs H Q E h) (fun cdv A outer s H vs Q E hr h => ?_), F.bindsN hb, F.kp, hm⟩
  obtain ⟨t, ht, run⟩ := hbody cdv A outer s H E hr
  exact ⟨t, ht, fin h run⟩
/-- what a body lets out is what the def lets out -/
theorem takesE {P : Program} {w : World} {K : Frg} {mg : Str → Option Value} {base : Heap} {N : List Str} {q : Str} {sc : Scope} {a : Addr} {cdv : Value} {A : Around} {outer : List Env} {s : Shared} {H : Hp} {E : XK} :
    Takes (cxOf (L2.CX P w) P w K mg base N q sc a cdv A outer s H E) (fun cls d _ H => E cls d H) := takes_of rfl rfl rfl rfl
theorem psE {P : Program} {w : World} {K : Frg} {mg : Str → Option Value} {base : Heap} {N : List Str} {q : Str} {sc : Scope} {a : Addr} {cdv : Value} {A : Around} {outer : List Env} {s : Shared} {H : Hp} {E : XK} :
    Passes (L2.CX P w) (cxOf (L2.CX P w) P w K mg base N q sc a cdv A outer s H E) E := passes_call takesE fun _ _ _ _ h => h
theorem passesE {P : Program} {w : World} {K : Frg} {mg : Str → Option Value} {base : Heap} {N : List Str} {q : Str} {sc : Scope} {a : Addr} {cdv : Value} {A : Around} {outer : List Env} {s : Shared} {H : Hp} {E : XK} :
    PassesOwn (model (cxOf (L2.CX P w) P w K mg base N q sc a cdv A outer s H E).prog (cxOf (L2.CX P w) P w K mg base N q sc a cdv A outer s H E).w) (cxOf (L2.CX P w) P w K mg base N q sc a cdv A outer s H E).A (cxOf (L2.CX P w) P w K mg base N q sc a cdv A outer s H E).env (cxOf (L2.CX P w) P w K mg base N q sc a cdv A outer s H E).xe := passes_of rfl
/-- a module's constant -/
theorem peC {X : Cx} {x : Str} {v : V} {pos : Pos} (h : ∃ u, X.mg x = some u ∧ RelV v u) (hg : Gl X x := by rfl) (hd : (x == ("__debug__" : Str)) = false := by decide) : PE X (.Name x pos) (tC v) := by
  obtain ⟨u, hm, r⟩ := h
  exact pe_glob hg hm r hd
end Py
end

section
set_option Elab.async false
set_option linter.all false
set_option maxRecDepth 100000
set_option maxHeartbeats 4000000
set_option autoImplicit false
namespace Py
open PySem PySem.Spec PyProof.Rows L2
/-! ### lambdas with parameters, handed to a def that calls them -/
/-- a lambda's names: its parameters, captured ones, globals -/
structure LamP (sc scope : Scope) (ps : List Str) : Prop where
  kind : scope.kind = .function
  co : scope.isCoroutine = false
  gen : scope.isGenerator = false
  nd : ps.Nodup
  par : ∀ p ∈ ps, scope.names.lookup p = some .local
  own : ∀ y ∈ scope.names, y.2 ≠ .cell ∧ (y.2 = .local → y.1 ∈ ps)
  free : ∀ y ∈ scope.names, y.2 = .free → sc.names.lookup y.1 = some .cell ∨ sc.names.lookup y.1 = some .free
abbrev lamCxP (ps : List Str) (X : Cx) (A : Around) (outer : List Env) (s : Shared) (H : Hp) (E : XK) (scope : Scope) (f c' : Addr) : Cx := { LamX.lamCx X A outer s H E scope f c' with N := ps ++ X.N }
theorem zip_rev_lookup {α β : Type} [BEq α] [LawfulBEq α] : ∀ {ps : List α} {us : List β} {i : Nat} {x : α} {u : β}, ps.Nodup → ps[i]? = some x → us[i]? = some u → (ps.zip us).reverse.lookup x = some u := by
  intro ps us i x u nd h1 h2
  have key : ∀ (l : List (α × β)), (l.map (·.1)).Nodup → (x, u) ∈ l → l.lookup x = some u := by
    intro l
    induction l with
    | nil => intro _ h; cases h
    | cons p r ih =>
      intro n h
      obtain ⟨a, b⟩ := p
      simp only [List.map_cons, List.nodup_cons] at n
      rw [List.lookup_cons]
      rcases List.mem_cons.mp h with e | e
      · cases e
        simp
      · have ne : x ≠ a := fun z => n.1 (by rw [← z]; exact List.mem_map_of_mem (f := (·.1)) e)
        have : (x == a) = false := by simpa using ne
        rw [this]
        exact ih n.2 e
  have hz : (ps.zip us)[i]? = some (x, u) := by
    rw [List.getElem?_zip_eq_some]
    exact ⟨h1, h2⟩
  refine key _ ?_ (List.mem_reverse.mpr (List.mem_of_getElem? hz))
  rw [List.map_reverse]
  have nr : ∀ (l : List α), l.Nodup → l.reverse.Nodup := fun l h => by
    unfold List.Nodup
    rw [List.pairwise_reverse]
    exact h.imp fun z => Ne.symm z
  refine nr _ ?_
  have sub : ∀ (a : List α) (b : List β), ((a.zip b).map (·.1)).Sublist a := by
    intro a
    induction a with
    | nil => intro b; simp
    | cons q r ih =>
      intro b
      cases b with
      | nil => simp
      | cons c d =>
        simp only [List.zip_cons_cons, List.map_cons]
        exact (ih d).cons_cons q
  exact nd.sublist (sub ps us)
section
variable {X : Cx} {pins : List (Addr × Obj)} {σ : Sg} {H HZ : Hp} {s s1 : Shared}
theorem LamP.has {scope : Scope} {ps : List Str} (L : LamP X.env.scope scope ps) (ok : X.Ok) : ∀ y ∈ scope.names, y.2 = .free → ∃ c, X.env.cells.lookup y.1 = some c := fun y hy e =>
  (L.free y hy e).elim (fun k => ok.has _ (.inl k)) fun k => ok.has _ (.inr k)
theorem lamP_start {A : Around} {outer : List Env} {E : XK} {scope : Scope} {ps : List Str} {f c' : Addr} {h₁ : Heap} {tk : Nat} {vs : List V} {us : List Value} (I : Inv X pins σ H s) (L : LamP X.env.scope scope ps) (dj : ∀ x ∈ X.N, x ∉ ps) (e0 : Env0 X.prog X.w X.K X.mg X.base A outer s1 HZ) (hnd : A.handled = none)
    (un : Un (frs X.stack) [] H HZ s.heap s1.heap) (r : Vals vs us) (hl : vs.length = ps.length) (hns : h₁.Ns s1.heap.objs.size fun y => (ps.zip us).reverse.lookup y) (kp : ∀ b o, s1.heap.get? b = some o → h₁.get? b = some o) :
    Inv (lamCxP ps X A outer s1 HZ E scope f c') [] (vs.map some ++ σ) HZ { s1 with heap := h₁, toks := tk } := by
  have has := L.has I.ok
  have up : ∀ {y c}, (cloFrom X.env.cells scope.names []).lookup y = some c → X.env.cells.lookup y = some c := by
    intro y c e
    rcases cloFrom_mem (PySem.mem_of_lookup e) with z | ⟨z1, z2⟩
    · cases z
    · obtain ⟨d, hd⟩ := has _ z1 rfl
      have hd : X.env.cells.lookup y = some d := hd
      rw [hd, z2, hd]
      rfl
  have fnd : ∀ {y}, scope.names.lookup y = some .free → ∃ c, (cloFrom X.env.cells scope.names []).lookup y = some c := by
    intro y e
    have m : (y, NameKind.free) ∈ scope.names := PySem.mem_of_lookup e
    exact mem_lookup (cloFrom_has (cells := X.env.cells) (acc := []) m)
  have stays : ∀ {c : Addr} {v : Option Value}, H c = none → s.heap.IsCell c v → h₁.IsCell c v := by
    rintro c v n ⟨o, ho, hd⟩
    obtain ⟨sl, q⟩ := un.any ho n (by simp)
    exact ⟨_, kp _ _ q, hd⟩
  have none_ex : ∀ b : Addr, b ∉ (lamCxP ps X A outer s1 HZ E scope f c').ex := fun b z => by cases (show b ∈ ([] : List Addr) from z)
  refine ⟨?ok, rfl, e0.bare, Un.kept kp, ⟨_, hns, ?loc⟩, ?cell, e0.hok.fresh (Nat.le_refl _), ?freeC, ?pin, e0.hok.kept kp, ?len⟩
  case ok =>
    refine ⟨e0.mod, L.kind, rfl, rfl, Nat.le_refl _, ?_, ?_, ?_, fun _ => hnd, Around.frames_deeper e0.frames, .inr ⟨rfl, rfl⟩, fun b z => (none_ex b z).elim, e0.bs, e0.bsz, fun b _ _ => none_ex b, fun b z => (none_ex b z).elim, e0.funs, e0.frf⟩
    · intro y z c a b
      exact I.ok.inj y z c (up a) (up b)
    · intro y hy
      have hy : scope.names.lookup y = some .cell ∨ scope.names.lookup y = some .free := hy
      rcases hy with hy | hy
      · exact ((L.own _ (PySem.mem_of_lookup hy)).1 rfl).elim
      · exact fnd hy
    · intro y c z _
      cases (show false = true from z)
  case loc =>
    intro i y v e1 e2 e3
    have e1 : (ps ++ X.N)[i]? = some y := e1
    have e3 : Vis scope y := e3
    have hm : (vs.map some).length = ps.length := by rw [List.length_map, hl]
    by_cases hi : i < ps.length
    · rw [List.getElem?_append_left hi] at e1
      rw [List.getElem?_append_left (by rw [hm]; exact hi), List.getElem?_map] at e2
      have hv : vs[i]? = some v := by
        cases q : vs[i]? with
        | none => rw [q] at e2; cases e2
        | some a => rw [q] at e2; cases e2; rfl
      obtain ⟨u, hu, rv⟩ := r.get hv
      exact ⟨u, rv, .inl ⟨L.par y (List.mem_of_getElem? e1), zip_rev_lookup L.nd e1 hu⟩⟩
    · rw [List.getElem?_append_right (by omega)] at e1
      rw [List.getElem?_append_right (by rw [hm]; omega), hm] at e2
      have ny : y ∉ ps := dj y (List.mem_of_getElem? e1)
      rcases e3 with k | k | k
      · exact (ny ((L.own _ (PySem.mem_of_lookup k)).2 rfl)).elim
      · exact ((L.own _ (PySem.mem_of_lookup k)).1 rfl).elim
      · obtain ⟨m, hn, look⟩ := I.loc
        have fr := L.free _ (PySem.mem_of_lookup k) rfl
        have vis : Vis X.env.scope y := fr.elim (fun z => .inr (.inl z)) fun z => .inr (.inr z)
        obtain ⟨u, rv, q⟩ := look _ y v e1 e2 vis
        obtain ⟨c, hc⟩ := fnd k
        refine ⟨u, rv, .inr ⟨.inr k, c, hc, ?_⟩⟩
        rcases q with ⟨q, _⟩ | ⟨_, d, hd, z⟩
        · have q : X.env.scope.names.lookup y = some .local := q
          rcases fr with z | z <;> (rw [show X.env.scope.names.lookup y = _ from z] at q; cases q)
        · have := up hc
          rw [hd] at this
          cases this
          exact stays (I.freeC y _ hd) z
  case cell =>
    intro y c e
    obtain ⟨v, z⟩ := I.cell y c (up e)
    exact ⟨v, stays (I.freeC y c (up e)) z⟩
  case freeC =>
    intro y c e
    obtain ⟨v, o, ho, _⟩ := I.cell y c (up e)
    exact un.free c o ho (I.freeC y c (up e)) (by simp)
  case pin =>
    intro q hq
    cases (show q ∈ ([] : List (Addr × Obj)) from hq)
  case len =>
    show (vs.map some ++ σ).length = (ps ++ X.N).length
    rw [List.length_append, List.length_append, List.length_map, hl, I.len]
/-- a(e, ..), in the def that got the lambda -/
def tActP (i : Nat) (f c' : Addr) (q : Str) (n : Nat) (ta : TA) (tl : List V → Hp → VK → Prop) : TE := fun σZ HZ Q => σZ[i]? = some (some (.ref f)) ∧ ta σZ HZ fun vs H1 => vs.length = n ∧ H1 c' = some (LamX.CodeO c' q) ∧ tl vs H1 Q
theorem pe_actP {Eg : XK} {Ng : List Str} {qg : Str} {sg : Scope} {g f c' : Addr} {cdg pm ctv : Value} {params : Arguments} {body : Expr} {scope : Scope} {ps : List Str} {k i : Nat} {a : Str} {E : XK} {tb : TE} {p1 p2 : Pos} {e : Expr} {es : List Expr} {ta : TA}
    (I : Inv X pins σ H s) (L : LamP X.env.scope scope ps) (dj : ∀ x ∈ X.N, x ∉ ps) (hf : s.heap.get? f = some (PySem.W.kla_obj "<lambda>" (X.env.qual ++ "<lambda>") params body scope (cloFrom X.env.cells scope.names []) pm c' ctv)) (hfn : H f = none) (hfr : f ∉ frs X.stack)
    (hbind : ∀ us : List Value, us.length = ps.length → bindArgs (PySem.W.kla_fn "<lambda>" (X.env.qual ++ "<lambda>") params body scope (cloFrom X.env.cells scope.names []) pm (.ref c') ctv) ⟨us, []⟩ = pure (ps.zip us))
    (hx : Passes (L2.CX X.prog X.w) (cxOf (L2.CX X.prog X.w) X.prog X.w X.K X.mg X.base Ng qg sg g cdg X.A X.stack s H Eg) E) (hr : Room (k + 1) (X.A.deeper (envOfC qg sg s.heap.objs.size g cdg)))
    (hbody : ∀ (A : Around) (outer : List Env) (s : Shared) (H : Hp), Room k (A.deeper (LamX.lamEnv X scope s.heap.objs.size f c')) → PE (lamCxP ps X A outer s H E scope f c') body tb)
    (ha : PA (cxOf (L2.CX X.prog X.w) X.prog X.w X.K X.mg X.base Ng qg sg g cdg X.A X.stack s H Eg) (e :: es) ta)
    (hN : Ng[i]? = some a) (hv : Vis sg a) (hd : (a == ("__debug__" : Str)) = false := by decide) (hcd : (a == ("__classdict__" : Str)) = false := by decide)
    (he : starEach (e :: es) (cxOf (L2.CX X.prog X.w) X.prog X.w X.K X.mg X.base Ng qg sg g cdg X.A X.stack s H Eg).env = (false, eval e (cxOf (L2.CX X.prog X.w) X.prog X.w X.K X.mg X.base Ng qg sg g cdg X.A X.stack s H Eg).env) :: starEach es (cxOf (L2.CX X.prog X.w) X.prog X.w X.K X.mg X.base Ng qg sg g cdg X.A X.stack s H Eg).env := by rfl)
    (hpl : (backTo p2 (starEach es (cxOf (L2.CX X.prog X.w) X.prog X.w X.K X.mg X.base Ng qg sg g cdg X.A X.stack s H Eg).env)).any (·.1) = false := by rfl) :
    PE (cxOf (L2.CX X.prog X.w) X.prog X.w X.K X.mg X.base Ng qg sg g cdg X.A X.stack s H Eg) (.Call (.Name a p1) (e :: es) [] p2)
      (tActP i f c' (X.env.qual ++ "<lambda>") ps.length ta fun vs H1 Q => tb (vs.map some ++ σ) H1 Q) := by
  refine ⟨fun pinsZ sZ σZ HZ Q IZ h => ?_⟩
  obtain ⟨hs, ht⟩ := h
  refine wpAny_Call_Name_kw (thn ((pe_var (pos := p1) (i := i) hN hv hd hcd).run pinsZ sZ σZ HZ (fun v H1 => v = .ref f ∧ H1 = HZ) IZ ⟨.ref f, hs, rfl, rfl⟩) fun u s1 z => ?_)
  obtain ⟨v, H1, I1, r1, ev, eH⟩ := z
  rw [eH] at I1
  rw [ev] at r1
  obtain rfl : u = Value.ref f := r1
  have at_ : ∀ {σ' : Sg} {H' : Hp} {s' : Shared} {pn : List (Addr × Obj)}, Inv (cxOf (L2.CX X.prog X.w) X.prog X.w X.K X.mg X.base Ng qg sg g cdg X.A X.stack s H Eg) pn σ' H' s' → s'.heap.get? f = some (PySem.W.kla_obj "<lambda>" (X.env.qual ++ "<lambda>") params body scope (cloFrom X.env.cells scope.names []) pm c' ctv) :=
    fun J => J.base.keep f _ hf hfn hfr fun z => by cases (show f ∈ ([] : List Addr) from z)
  refine PySem.W.callWith_F ⟨_, _, _, _, at_ I1⟩ (thn (ha.run p2 pinsZ s1 σZ HZ _ I1 ht) fun us s2 z => ?_) he hpl
  obtain ⟨vs, H2, I2, r2, hl, hc, htb⟩ := z
  refine ⟨⟨_, _, _, _, at_ I2⟩, ?_⟩
  have un : Un (frs X.stack) [] H H2 s.heap s2.heap := I2.base
  obtain ⟨⟨oc, fs, t, hoc, hdc, hvc⟩, _, _⟩ := I2.hok c' _ hc
  have hlu : us.length = ps.length := by rw [← r2.length]; exact hl
  have rc : codeAny (model X.prog X.w) (X.A.deeper (envOfC qg sg s.heap.objs.size g cdg)) (.call (.ref f) ⟨us, []⟩) (CR (L2.CX X.prog X.w) (envOfC qg sg s.heap.objs.size g cdg :: X.stack) X.prog X.w H2 s2 Q E) s2 := by
    refine PySem.W.kla_callFunE hr.depth (at_ I2) rfl L.co L.gen rfl ⟨c', oc, fs, t, rfl, hoc, hdc, hvc⟩ ?_
    rw [hbind us hlu]
    refine wpAny_pure (wpAny_newFunctionEnv (fun y hy => (L.own y hy).1) (fun y hy => L.par _ (List.of_mem_zip hy).1) (fun h₁ hns hsb => ⟨I2.nolimit.fresh _ hsb, ?_⟩) L.kind)
    show codeAny _ _ (.expr body (LamX.lamEnv X scope s2.heap.objs.size f c')) _ _
    have kp : ∀ b o, s2.heap.get? b = some o → h₁.get? b = some o := fun b o q => hsb.extBut b o (Nat.ne_of_lt (Heap.lt_size q)) (Heap.get?_push_of_some _ q)
    have J : Inv (lamCxP ps X (X.A.deeper (envOfC qg sg s.heap.objs.size g cdg)) (envOfC qg sg s.heap.objs.size g cdg :: X.stack) s2 H2 E scope f c') [] (vs.map some ++ σ) H2 { s2 with heap := h₁, toks := s2.toks + (ps.zip us).length } :=
      lamP_start I L dj I2.env0 hr.hd un r2 hl hns kp
    refine PySem.W.kla_codeExpr (wpAny_mono ((hbody _ _ s2 H2 (hr.deeper _)).run [] _ _ H2 Q J htb) (fun v s' hq => ?_) fun _ _ hq => hq)
    obtain ⟨w', H', J', rv, q⟩ := hq
    exact ⟨w', H', J'.os, J'.bare, J'.base, J'.hok, rv, q⟩
  refine wpAny_call (codeAny_mono rc fun r s' hq => ?_)
  cases r with
  | error e => exact hx pinsZ σZ H2 s2 e s' I2 hq
  | ok fl =>
    cases fl with
    | ret u => exact I2.after hq
    | next => exact False.elim hq
    | brk => exact False.elim hq
    | cont => exact False.elim hq
end
/-! ### the maker's side -/
/-- the def that got the lambda calls it by the name a -/
def ActP (Z : Cx) (a : Str) (i n : Nat) (f c' : Addr) (q : Str) (tl : List V → Hp → VK → Prop) : Prop := ∀ {e : Expr} {es : List Expr} {ta : TA} {p1 p2 : Pos}, PA Z (e :: es) ta → starEach (e :: es) Z.env = (false, eval e Z.env) :: starEach es Z.env → (backTo p2 (starEach es Z.env)).any (·.1) = false →
  PE Z (.Call (.Name a p1) (e :: es) [] p2) (tActP i f c' q n ta tl)
def GivesP (X : Cx) (k : Nat) (Ng : List Str) (x : Str) (sg : Scope) (g : Addr) (cdg : Value) (bg : List Stmt) (a : Str) (n : Nat) (q : Str) (E : XK) (TT : (List V → Hp → VK → Prop) → List V → Hp → VK → Prop) : Prop :=
  ∀ (f c' : Addr) (s : Shared) (H : Hp) (Q : VK) (vs : List V) (tl : List V → Hp → VK → Prop), Room k (X.A.deeper (envOfC x sg s.heap.objs.size g cdg)) → ActP (cxOf (L2.CX X.prog X.w) X.prog X.w X.K X.mg X.base Ng x sg g cdg X.A X.stack s H E) a 0 n f c' q tl → H c' = some (LamX.CodeO c' q) → TT tl vs H Q →
    ∃ t, PSs (cxOf (L2.CX X.prog X.w) X.prog X.w X.K X.mg X.base Ng x sg g cdg X.A X.stack s H E) bg t ∧ t { nx := fun _ H' => Q .non H', rt := Q } (L2.start Ng (.ref f :: vs)) H
def tLamP (T : List (Addr × Str)) (q : Str) (m : Nat) (TT : (List V → Hp → VK → Prop) → List V → Hp → VK → Prop) (ta : TA) (tb : TE) : TE := fun σ H Q => LamX.Tabs T H ∧ ∀ H1 c', LamX.ExtN H H1 → LamX.Tabs T H1 → H1 c' = some (LamX.CodeO c' q) →
  ta σ H1 fun vs H2 => vs.length = m ∧ H2 c' = some (LamX.CodeO c' q) ∧ TT (fun ws H3 Q3 => tb (ws.map some ++ σ) H3 Q3) vs H2 Q
section
variable {X : Cx}
theorem fnd_of {K : Frg} {x qual : Str} {params : Arguments} {body : List Stmt} {scope : Scope} {f : Addr} {fd : FuncData} (F : FunD K x qual params body scope [] [] f fd) :
    ∃ (oc : Value) (od : Option Addr) (dV kV doc pm : Value) (an : Option Addr) (cdv ct : Value) (osl : Array (Option Value)), fd = PySem.W.fnOf x qual params body scope dV kV doc pm an cdv ct ∧ K.lookup f = some ⟨oc, od, .func (PySem.W.fnOf x qual params body scope dV kV doc pm an cdv ct), osl⟩ ∧ PySem.W.codeIn K cdv qual = true := by
  obtain ⟨oc, od, dV, kV, doc, pm, an, cdv, ct, osl, e, lk, hc, _, _⟩ := F.ex
  rw [e] at lk
  exact ⟨oc, od, dV, kV, doc, pm, an, cdv, ct, osl, e, lk, hc⟩
/-- x(lambda ps: body, e, ..) -/
theorem pe_lamP {T : List (Addr × Str)} {TT : (List V → Hp → VK → Prop) → List V → Hp → VK → Prop} {x a : Str} {g c P : Addr} {k kl : Nat} {pg : Arguments} {bg : List Stmt} {sg : Scope} {fd : FuncData} {Ng rs : List Str}
    {params : Arguments} {body : Expr} {scope : Scope} {ps : List Str} {tb : TE} {E : XK} {p lpos pos : Pos} {es : List Expr} {ta : TA}
    (F : FunD X.K x x pg bg sg [] [] g fd) (hm : X.mg x = some (.ref g)) (hb : L2.Binds X.K fd (a :: rs) []) (Sg' : FnScope Ng (a :: rs) sg) (hva : Vis sg a)
    (hG : ∀ cdv, GivesP X k Ng x sg g cdv bg a ps.length (X.env.qual ++ "<lambda>") E TT) (hkl : kl + 1 ≤ k)
    (TB : LamX.TabB X.base X.mg c P) (hcode : X.env.code = .ref c) (hmT : (P, X.env.qual ++ "<lambda>") ∈ T) (hu : ∀ p ∈ T, p.1 = P → p.2 = X.env.qual ++ "<lambda>") (hr : Room (k + 1) X.A) (L : LamP X.env.scope scope ps) (dj : ∀ x ∈ X.N, x ∉ ps) (hdef : defaultsOf params X.env = ([], []))
    (hbind : ∀ (q : Str) (cl : List (Str × Addr)) (pm cv ctv : Value) (us : List Value), us.length = ps.length → bindArgs (PySem.W.kla_fn "<lambda>" q params body scope cl pm cv ctv) ⟨us, []⟩ = pure (ps.zip us))
    (hx : Passes (L2.CX X.prog X.w) X E)
    (hbody : ∀ (A : Around) (outer : List Env) (s : Shared) (H : Hp) (f c' : Addr), Room kl (A.deeper (LamX.lamEnv X scope s.heap.objs.size f c')) → PE (lamCxP ps X A outer s H E scope f c') body tb)
    (ha : PA X es ta) (hg : Gl X x := by rfl) (hdb : (x == ("__debug__" : Str)) = false := by decide) (hda : (a == ("__debug__" : Str)) = false := by decide) (hcd : (a == ("__classdict__" : Str)) = false := by decide)
    (he : starEach (.Lambda params body scope lpos :: es) X.env = (false, eval (.Lambda params body scope lpos) X.env) :: starEach es X.env := by rfl) (hpl : (backTo pos (starEach es X.env)).any (·.1) = false := by rfl) :
    PE X (.Call (.Name x p) (.Lambda params body scope lpos :: es) [] pos) (tLamP T (X.env.qual ++ "<lambda>") rs.length TT ta tb) := by
  obtain ⟨oc, od, dV, kV, doc, pm, an, cdv, ct, osl, efd, lk, hcg⟩ := fnd_of F
  subst efd
  refine ⟨fun pins s σ H Q I h => ?_⟩
  obtain ⟨hT, h⟩ := h
  refine wpAny_Call_Name_kw (ld_glob I hg hm ?_ hdb)
  refine PySem.W.callWith_K (h₀ := X.base) I.ok.mod.kin F.kp ?_ he hpl
  rw [he]
  show wpAny _ _ (spliced ((false, eval (.Lambda params body scope lpos) X.env) :: backTo pos (starEach es X.env))) _ _ s
  refine Calls.spliced_cons (LamX.lam_make2 I TB hcode hmT hu hT hdef (L.has I.ok) fun f c' pm' ctv H1 s1 I1 eN T1 hf hfn hfr hco => ?_)
  have nloc : f ≠ X.env.locals := fun z => by
    obtain ⟨m, ⟨o, es', ep, ho, hd, _⟩, _⟩ := I1.loc
    rw [← z, hf] at ho
    cases ho
    cases hd
  have nfs : f ∉ X.fs := fun z => hfr (by
    rcases I1.ok.stk with e | ⟨e, hfm⟩
    · rw [e]; exact z
    · rw [e]
      unfold frs
      rw [List.filterMap_cons, hfm]
      exact List.mem_cons_of_mem _ z)
  have Ip : Inv X ((f, _) :: pins) σ H1 s1 := I1.pins_of fun q hq => by
    rcases List.mem_cons.mp hq with e | e
    · subst e
      exact ⟨hf, hfn, nloc, nfs, fun v z => by cases z⟩
    · exact I1.pin q (List.mem_append_right _ e)
  refine thn (ha.run pos _ s1 σ H1 _ Ip (h H1 c' eN T1 hco)) fun us s2 z => ?_
  obtain ⟨vs, H2, I2, r2, hl, hc2, ht2⟩ := z
  obtain ⟨hf2, hfn2, _⟩ := I2.pin (f, _) (List.mem_append_right _ (List.mem_cons_self ..))
  refine ⟨I2.kIn, ?_⟩
  have hlu : us.length = rs.length := by rw [← r2.length]; exact hl
  have rc : codeAny (model X.prog X.w) X.A (.call (.ref g) ⟨.ref f :: us, []⟩) (CR (L2.CX X.prog X.w) X.stack X.prog X.w H2 s2 Q E) s2 := by
    have bt := hb s2 (.ref f :: us) I2.kIn (by simp [hlu])
    rw [List.append_nil] at bt
    refine LamX.run_ofS (N := Ng) (ps := a :: rs) (us := .ref f :: us) (vs := .ref f :: vs) lk hcg Sg' hr I2.env0 bt (.cons rfl r2) (by simp [hl]) fun hr' => ?_
    have hN0 : Ng[0]? = some a := by
      have e := congrArg (·[0]?) Sg'.pre
      simp only [List.getElem?_cons_zero] at e
      rw [← e, List.getElem?_take]
      simp
    exact hG cdv f c' s2 H2 Q vs _ hr' (fun {e es ta p1 p2} hpa h1 h2 => pe_actP (k := kl) (i := 0) I2 L dj hf2 hfn2 hfr (fun us hl => hbind _ _ _ _ _ us hl) psE (hr'.mono hkl) (fun A outer s H hr2 => hbody A outer s H f c' hr2) hpa hN0 hva hda hcd h1 h2) hc2 ht2
  refine wpAny_call (codeAny_mono rc fun r s3 hq => ?_)
  cases r with
  | error e => exact hx _ σ H2 s2 e s3 I2 hq
  | ok fl =>
    cases fl with
    | ret u =>
      obtain ⟨v, H3, I3, q3⟩ := I2.after hq
      exact ⟨v, H3, I3.pins_of fun q hq => I3.pin q (List.mem_append_right _ (List.mem_cons_of_mem _ hq)), q3⟩
    | next => exact False.elim hq
    | brk => exact False.elim hq
    | cont => exact False.elim hq
end
end Py
end

section
set_option Elab.async false
set_option linter.all false
set_option maxRecDepth 100000
set_option maxHeartbeats 4000000
set_option autoImplicit false
namespace Py
open PySem PySem.Spec PyProof.Rows L2
/-! ### lambdas by data -/
/-- what a call of the lambda does with data, in heaps that know what Hm knows -/
def ActD (K : Frg) (T : List (Addr × Str)) (O : List Addr) (Hm : Hp) (tl : List V → Hp → VK → Prop) (R : List Dt → Dt → Prop) : Prop := ∀ ds r H vs (Q : VK), Ex Hm H → LamX.Tabs T H → (∀ a ∈ O, ∃ o, H a = some o ∧ NoT o) → IsA K (hd O H) ds vs → R ds r →
  (∀ v H', Ex H H' → LamX.Tabs T H' → Is K (hd O H') r v → Q v H') → tl vs H Q
/-- a promise that speaks of what the lambda does -/
def TTr (K : Frg) (T : List (Addr × Str)) (g : (List Dt → Dt → Prop) → List Dt → Dt → Prop) : (List V → Hp → VK → Prop) → List V → Hp → VK → Prop := fun tl vs H Q => ∃ O ds r R, (∀ a ∈ O, ∃ o, H a = some o ∧ NoT o) ∧ LamX.Tabs T H ∧ IsA K (hd O H) ds vs ∧ ActD K T O H tl R ∧ g R ds r ∧
  ∀ v H', Ex H H' → LamX.Tabs T H' → Is K (hd O H') r v → Q v H'
theorem nt_c {c : Addr} {q : Str} : NoT (LamX.CodeO c q) := fun ps z => by
  unfold LamX.CodeO at z
  cases z
section
variable {C : Ct} {E : XK} {A A1 : AS} {d r : Dt} {ta : TA} {tb : TE} {σ : Sg} {H H' : Hp} {os : List (Option Addr)}
theorem Ok.noOs (k : Ok C os A σ H) (h : A.st = []) : os = [] := by
  have := k.ln
  rw [h] at this
  exact List.eq_nil_of_length_eq_zero this
theorem Rh_nil {O : List Addr} {H : Hp} : Rh O [] H = hd O H := by
  show hd (O ++ []) H = _
  rw [List.append_nil]
theorem Gr.at {O : List Addr} {os os' : List (Option Addr)} {c : Addr} {o : HO} (g : Gr O os H os' H') (hn : NoT o) (hc : H c = some o) (hos : os = []) : H' c = some o := by
  by_cases hO : c ∈ O
  · rw [g.o c hO]; exact hc
  · refine hd_ex c o (g.e c o ?_ hn) hn
    rw [hos, Rh_nil, hd_of hO]
    exact hc
theorem e_act {f c' : Addr} {q : Str} {i n : Nat} {tl : List V → Hp → VK → Prop} {R : List Dt → Dt → Prop} {ds : List Dt} (ha : ActD C.K C.T C.O C.H0 tl R) (hc : C.H0 c' = some (LamX.CodeO c' q)) (hs : A.sl[i]? = some (.d (.v (.ref f)))) (hst : A.st = []) (h : EvA C ta A ds A) (hn : ds.length = n) (hR : R ds r) :
    EvS C (tActP i f c' q n ta tl) A r A := fun os σ H k Q qq => by
  obtain ⟨o, e1, v, e2, e3⟩ := k.slot hs
  rw [Is.v_iff] at e3
  subst e3 e2
  refine ⟨e1, h os σ H k _ fun os1 vs H1 k1 g1 i1 => ⟨by rw [isA_len i1]; exact hn, k1.ex _ _ hc nt_c, ?_⟩⟩
  have e0 := k1.noOs hst
  subst e0
  rw [Rh_nil] at i1
  exact ha ds r H1 vs Q k1.ex k1.tb k1.ol i1 hR fun v H' e t i => qq [] v H' (k1.mono e t) (g1.trans (k1.gr e)) (by rw [Rh_nil]; exact i)
/-- x(lambda ps: body, e, ..), by data -/
theorem e_lamP {q : Str} {m : Nat} {g : (List Dt → Dt → Prop) → List Dt → Dt → Prop} {ds : List Dt} {R : List Dt → Dt → Prop} (hst : A.st = []) (h : EvA C ta A ds A) (hm : ds.length = m)
    (hb : ∀ H xs y, R xs y → EvS ⟨C.K, C.T, H, C.O⟩ tb ⟨xs.map .d ++ A.sl, []⟩ y ⟨xs.map .d ++ A.sl, []⟩) (hg : g R ds r) : EvS C (tLamP C.T q m (TTr C.K C.T g) ta tb) A r A := fun os σ H k Q qq => by
  have e0 := k.noOs hst
  subst e0
  refine ⟨k.tb, fun H1 c' eN T1 hc => ?_⟩
  have k1 := k.mono (H' := H1) eN T1
  refine h [] σ H1 k1 _ fun os2 vs H2 k2 g2 i2 => ?_
  have e2 := k2.noOs hst
  subst e2
  refine ⟨by rw [isA_len i2]; exact hm, g2.at nt_c hc rfl, C.O, ds, r, R, k2.ol, k2.tb, by rw [← Rh_nil]; exact i2, ?_, hg, fun v H' e t i => qq [] v H' (k2.mono e t) (((k.gr eN).trans g2).trans (k2.gr e)) (by rw [Rh_nil]; exact i)⟩
  intro xs y H3 ws Q3 e3 t3 o3 i3 hR hq
  have k3 := k2.mono e3 t3
  refine hb H3 xs y hR [] _ H3 ⟨Ex.refl _, t3, o3, fun a _ z => (by cases z), rfl, fun i j a z => (by simp at z), fun a z => (by cases z), ?_, fun i s o h1 h2 => ?_, fun i s o h1 h2 => by simp at h2⟩ Q3 fun os4 v H4 k4 g4 i4 => ?_
  · show (ws.map some ++ σ).length = (xs.map SD.d ++ A.sl).length
    rw [List.length_append, List.length_append, List.length_map, List.length_map, isA_len i3, k3.sn]
  · show SlOk C.K [] (Rh C.O [] H3) s o
    have h1 : (xs.map SD.d ++ A.sl)[i]? = some s := h1
    rw [List.getElem?_append] at h1 h2
    simp only [List.length_map] at h1 h2
    rw [isA_len i3] at h2
    split at h1
    · rename_i hi
      rw [if_pos hi] at h2
      rw [List.getElem?_map] at h1 h2
      cases e1 : xs[i]? with
      | none => rw [e1] at h1; cases h1
      | some x =>
        obtain ⟨v, hv, hx⟩ := isA_get i3 e1
        rw [e1] at h1
        rw [hv] at h2
        cases h1; cases h2
        exact ⟨v, rfl, by rw [Rh_nil]; exact hx⟩
    · rename_i hi
      rw [if_neg hi] at h2
      exact k3.sl _ s o h1 h2
  · have e4 := k4.noOs rfl
    subst e4
    exact hq v H4 k4.ex k4.tb (by rw [← Rh_nil]; exact i4)
end
/-! ### told: x(lambda: body), x a def that tries the call and answers a text for an error -/
section
variable {C : Ct} {A A1 : AS} {d : Dt}
theorem e_toldOk {CS : Addr} {ret : Str} {t : XK → TE} (h : ∀ E, EvS C (t E) A d A1) : EvS C (LamX.tLam C.T (LamX.TTold C.K CS ret) t) A d A1 := fun os σ H k Q q =>
  ⟨k.tb, fun H1 eN T1 => h _ os σ H1 (k.mono (H' := H1) eN T1) Q fun os' v H' k' g i => q os' v H' k' ((k.gr eN).trans g) i⟩
theorem e_toldErr {CS : Addr} {ret : Str} {t : XK → TE} (hm : PySem.W.exmOne C.K (.ref CS) (.ref CS) = some true) (h : ∀ E, EvX C E (t E) A CS A1) : EvS C (LamX.tLam C.T (LamX.TTold C.K CS ret) t) A (Dt.v (.str ret)) A1 := fun os σ H k Q q =>
  ⟨k.tb, fun H1 eN T1 => h _ os σ H1 (k.mono (H' := H1) eN T1) (fun os' H' k' g => ⟨true, hm, fun _ => q os' _ H' k' ((k.gr eN).trans g) is_v, fun z => by cases z⟩) Q⟩
end
/-- the callee's side: its body told over data, for whatever the lambda does -/
theorem gives_of {X : Cx} {k : Nat} {Ng : List Str} {x : Str} {sg : Scope} {g : Addr} {cdg : Value} {bg : List Stmt} {a : Str} {n : Nat} {q : Str} {E : XK} {T : List (Addr × Str)} {gg : (List Dt → Dt → Prop) → List Dt → Dt → Prop}
    (hbody : ∀ (f c' : Addr) (s : Shared) (H : Hp) (tl : List V → Hp → VK → Prop), Room k (X.A.deeper (envOfC x sg s.heap.objs.size g cdg)) → ActP (cxOf (L2.CX X.prog X.w) X.prog X.w X.K X.mg X.base Ng x sg g cdg X.A X.stack s H E) a 0 n f c' q tl →
      ∃ t, PSs (cxOf (L2.CX X.prog X.w) X.prog X.w X.K X.mg X.base Ng x sg g cdg X.A X.stack s H E) bg t ∧ ∀ O ds r R, H c' = some (LamX.CodeO c' q) → ActD X.K T O H tl R → gg R ds r → RunS ⟨X.K, T, H, O⟩ E t (start Ng (.v (.ref f) :: ds)) (poR (.ok r))) :
    GivesP X k Ng x sg g cdg bg a n q E (TTr X.K T gg) := fun f c' s H Q vs tl hr act hc ht => by
  obtain ⟨O, ds, r, R, hO, hT, hi, hA, hg, hq⟩ := ht
  obtain ⟨t, h1, h2⟩ := hbody f c' s H tl hr act
  refine ⟨t, h1, h2 O ds r R hc hA hg [] _ H _ (start_ok hO hT (isA_cons is_v hi)) ⟨fun os A σ H' z k _ => ?_, fun os A σ d v H' z k _ i => ?_, fun os A σ H' z => z.elim, fun os A σ H' z => z.elim, fun c H' z e t => ?_⟩⟩
  · have z : Rs.ok r = .ok dn := z
    injection z with z
    rw [z] at hq
    exact hq _ H' k.ex k.tb is_v
  · have z : Rs.ok r = .ok d := z
    injection z with z
    rw [z] at hq
    exact hq v H' k.ex k.tb (Is.mono hid_ex _ _ i)
  · cases (show Rs.ok r = .err c from z)
end Py
end

section
set_option Elab.async false
set_option linter.all false
set_option maxRecDepth 100000
set_option maxHeartbeats 4000000
set_option autoImplicit false
namespace Py
open PySem PySem.Spec PyProof.Rows L2
/-! ### comprehensions by data -/
theorem wipe_in {σ : Sg} {i : Nat} : ∀ {vs : List Nat}, i ∈ vs → i < σ.length → (wipe σ vs)[i]? = some none
  | [], h, _ => by cases h
  | v :: vs, h, hl => by
    unfold wipe
    rw [List.getElem?_set]
    by_cases e : v = i
    · rw [if_pos e, wipe_length, if_pos (by rw [e]; exact hl)]
    · rw [if_neg e]
      exact wipe_in ((List.mem_cons.mp h).resolve_left fun z => e z.symm) hl
theorem wipe_eq {σ σ' : Sg} {vs : List Nat} (hl : σ'.length = σ.length) (h : ∀ i, i ∉ vs → σ'[i]? = σ[i]?) : wipe σ' vs = wipe σ vs := by
  apply List.ext_getElem?
  intro i
  by_cases m : i ∈ vs
  · by_cases l : i < σ.length
    · rw [wipe_in m l, wipe_in m (by rw [hl]; exact l)]
    · rw [List.getElem?_eq_none (by rw [wipe_length]; omega), List.getElem?_eq_none (by rw [wipe_length]; omega)]
  · rw [wipe_out m, wipe_out m, h i m]
theorem wipe_same {σ σ' : Sg} {vs : List Nat} {i : Nat} (h : wipe σ' vs = wipe σ vs) (m : i ∉ vs) : σ'[i]? = σ[i]? := by
  rw [← wipe_out m, h, wipe_out m]
theorem wipe_wipe {σ : Sg} {vs : List Nat} : wipe (wipe σ vs) vs = wipe σ vs := wipe_eq (wipe_length _ _) fun i m => wipe_out m
def wipeS : List SD → List Nat → List SD
  | l, [] => l
  | l, v :: vs => (wipeS l vs).set v .un
theorem wipeS_length : ∀ (l : List SD) (vs : List Nat), (wipeS l vs).length = l.length
  | l, [] => rfl
  | l, v :: vs => by unfold wipeS; rw [List.length_set, wipeS_length l vs]
theorem wipeS_get {l : List SD} {i : Nat} {s : SD} : ∀ {vs : List Nat}, (wipeS l vs)[i]? = some s → (i ∈ vs → s = .un) ∧ (i ∉ vs → l[i]? = some s)
  | [], h => ⟨fun z => (by cases z), fun _ => h⟩
  | v :: vs, h => by
    unfold wipeS at h
    rw [List.getElem?_set] at h
    by_cases e : v = i
    · rw [if_pos e] at h
      split at h
      · cases h
        exact ⟨fun _ => rfl, fun z => (z (by rw [e]; exact List.mem_cons_self ..)).elim⟩
      · cases h
    · rw [if_neg e] at h
      obtain ⟨h1, h2⟩ := wipeS_get h
      exact ⟨fun z => h1 ((List.mem_cons.mp z).resolve_left fun q => e q.symm), fun z => h2 fun q => z (List.mem_cons_of_mem _ q)⟩
def AS.wipe (A : AS) (ws : List Nat) : AS := ⟨wipeS A.sl ws, A.st⟩
abbrev Ct.hide (C : Ct) (p : Addr) : Ct := ⟨C.K, C.T, C.H0, p :: C.O⟩
section
variable {C : Ct} {A A1 A2 A3 : AS} {σ σ' : Sg} {H H' : Hp} {os os' : List (Option Addr)} {p : Addr} {ws : List Nat}
theorem Ok.wiped (k : Ok C os A σ H) : Ok C os (A.wipe ws) (L2.wipe σ ws) H := by
  refine ⟨k.ex, k.tb, k.ol, k.dj, k.ln, k.nd, k.fr, ?_, fun i s o h1 h2 => ?_, k.st⟩
  · rw [wipe_length, k.sn]
    exact (wipeS_length _ _).symm
  · obtain ⟨g1, g2⟩ := wipeS_get (show (wipeS A.sl ws)[i]? = some s from h1)
    by_cases m : i ∈ ws
    · rw [g1 m]; exact True.intro
    · rw [wipe_out m] at h2
      exact k.sl i s o (g2 m) h2
theorem Ok.back (k : Ok C os A σ' H) (h : L2.wipe σ' ws = L2.wipe σ ws) : Ok C os (A.wipe ws) σ H := by
  refine ⟨k.ex, k.tb, k.ol, k.dj, k.ln, k.nd, k.fr, ?_, fun i s o h1 h2 => ?_, k.st⟩
  · have e := congrArg List.length h
    rw [wipe_length, wipe_length] at e
    rw [← e, k.sn]
    exact (wipeS_length _ _).symm
  · obtain ⟨g1, g2⟩ := wipeS_get (show (wipeS A.sl ws)[i]? = some s from h1)
    by_cases m : i ∈ ws
    · rw [g1 m]; exact True.intro
    · rw [← wipe_same h m] at h2
      exact k.sl i s o (g2 m) h2
theorem mem_hide {O : List Addr} {a : Addr} : a ∈ hid (p :: O) os ↔ a = p ∨ a ∈ hid O os := by
  rw [mem_hid, mem_hid, List.mem_cons, or_assoc]
theorem Rh_hide {O : List Addr} {o : HO} (hp : H p = none) : Rh (p :: O) os (upd H p o) = Rh O os H := by
  funext a
  show hd _ _ a = hd _ _ a
  unfold hd
  by_cases e : a = p
  · rw [if_pos (mem_hide.mpr (.inl e))]
    split
    · rfl
    · rw [e]; exact hp.symm
  · by_cases q : a ∈ hid O os
    · rw [if_pos q, if_pos (mem_hide.mpr (.inr q))]
    · rw [if_neg q, if_neg fun z => (mem_hide.mp z).elim e q, upd_ne e]
theorem Rh_unhide {O : List Addr} : Ex (Rh (p :: O) os H) (Rh O os H) := fun a o h _ => by
  have h : hd _ H a = some o := h
  show hd _ H a = some o
  unfold hd at h ⊢
  split at h
  · cases h
  · rename_i q
    rw [if_neg fun z => q (mem_hide.mpr (.inr z))]
    exact h
theorem Ok.hide {o : HO} (k : Ok C os A σ H) (hp : H p = none) (hn : NoT o) : Ok (C.hide p) os A σ (upd H p o) := by
  have np : some p ∉ os := fun z => by
    obtain ⟨o, q, _⟩ := (k.fr p z).2
    rw [hp] at q; cases q
  refine ⟨k.ex.trans (Ex.new hp), tabs_new k.tb hp, fun a h => ?_, fun a h => ?_, k.ln, k.nd, fun a h => ?_, k.sn, fun i s o h1 h2 => ?_, fun i s o h1 h2 => ?_⟩
  · rcases List.mem_cons.mp h with e | e
    · rw [e]; exact ⟨o, upd_same, hn⟩
    · obtain ⟨u, q, n⟩ := k.ol a e
      exact ⟨u, Ex.new hp _ _ q n, n⟩
  · rcases List.mem_cons.mp h with e | e
    · rw [e]; exact np
    · exact k.dj a e
  · obtain ⟨h1, u, q, n⟩ := k.fr a h
    exact ⟨h1, u, Ex.new hp _ _ q n, n⟩
  · show SlOk C.K os (Rh (p :: C.O) os (upd H p _)) s o
    rw [Rh_hide hp]
    exact k.sl i s o h1 h2
  · show StOk C.K os (Rh (p :: C.O) os (upd H p _)) _ o s
    rw [Rh_hide hp]
    exact (k.st i s o h1 h2).mono (Ex.refl _) (Ex.new hp)
theorem Ok.unhide (k : Ok (C.hide p) os A σ H) : Ok C os A σ H :=
  ⟨k.ex, k.tb, fun a h => k.ol a (List.mem_cons_of_mem _ h), fun a h => k.dj a (List.mem_cons_of_mem _ h), k.ln, k.nd, k.fr, k.sn, fun i s o h1 h2 => (k.sl i s o h1 h2).mono Rh_unhide, fun i s o h1 h2 => (k.st i s o h1 h2).mono Rh_unhide (Ex.refl _)⟩
theorem Rh_updO {O : List Addr} {o : HO} (h : p ∈ O) : Rh O os (upd H p o) = Rh O os H := Rh_upd (mem_hid.mpr (.inl h))
/-- a hidden list grows -/
theorem Ok.updH {xs ys : List V} (k : Ok C os A σ H) (h : p ∈ C.O) (h0 : ∀ o, C.H0 p = some o → ¬ NoT o) (hl : H p = some (.lst xs)) : Ok C os A σ (upd H p (.lst ys)) := by
  refine ⟨fun a o e n => ?_, tabs_lst k.tb hl, fun a m => ?_, k.dj, k.ln, k.nd, fun a m => ?_, k.sn, fun i s o h1 h2 => ?_, fun i s o h1 h2 => ?_⟩
  · have ne : a ≠ p := fun z => h0 o (by rw [← z]; exact e) n
    rw [upd_ne ne]
    exact k.ex _ _ e n
  · by_cases e : a = p
    · rw [e]; exact ⟨_, upd_same, nt_l⟩
    · rw [upd_ne e]; exact k.ol a m
  · have ne : a ≠ p := fun z => k.dj p h (by rw [← z]; exact m)
    rw [upd_ne ne]
    exact k.fr a m
  · rw [Rh_updO h]
    exact k.sl i s o h1 h2
  · rw [Rh_updO h]
    exact (k.st i s o h1 h2).heap fun a q1 => upd_ne fun z => k.dj p h (by rw [← z, ← q1]; exact List.mem_of_getElem? h2)
end
section
variable {C : Ct} {A A1 A2 A3 : AS} {te tl : TE} {tt : TT} {g : TG} {ws : List Nat}
/-- a comprehension's target: it stores in the block's own slots alone -/
def TgS (C : Ct) (g : TG) (x : Dt) (A A' : AS) (ws : List Nat) : Prop := ∀ os σ H v (Q : Sg → Hp → Prop), Ok C os A σ H → Is C.K (Rh C.O os H) x v → (∀ σ', Ok C os A' σ' H → wipe σ' ws = wipe σ ws → Q σ' H) → g v σ H Q
theorem tgS_name {i : Nat} {x : Dt} (h : i ∈ ws) : TgS C (gName i) x A (A.put i x) ws := fun os σ H v Q k i1 q => q _ (k.put i1) (wipe_eq (by simp) fun j hj => by
  rw [List.getElem?_set_ne fun z => hj (by rw [← z]; exact h)])
def TgsS (C : Ct) (g : TGs) (xs : List Dt) (A A' : AS) (ws : List Nat) : Prop := ∀ os σ H vs (Q : Sg → Hp → Prop), Ok C os A σ H → IsA C.K (Rh C.O os H) xs vs → (∀ σ', Ok C os A' σ' H → wipe σ' ws = wipe σ ws → Q σ' H) → g vs σ H Q
theorem tgsS_nil : TgsS C gNil [] A A ws := fun os σ H vs Q k i q => ⟨by rw [IsA] at i; exact i, q σ k rfl⟩
theorem tgsS_cons {gs : TGs} {x : Dt} {xs : List Dt} (h : TgS C g x A A1 ws) (h' : TgsS C gs xs A1 A2 ws) : TgsS C (gCons g gs) (x :: xs) A A2 ws := fun os σ H vs Q k i q => by
  rw [IsA] at i
  obtain ⟨v, w, rfl, h1, h2⟩ := i
  exact ⟨v, w, rfl, h os σ H v _ k h1 fun σ1 k1 e1 => h' os σ1 H w Q k1 h2 fun σ2 k2 e2 => q σ2 k2 (e2.trans e1)⟩
theorem tgS_tup {gs : TGs} {n : Nat} {xs : List Dt} (hl : xs.length = n) (h : TgsS C gs xs A A1 ws) : TgS C (gTup C.K n gs) (.tup xs) A A1 ws := fun os σ H v Q k i q => by
  rw [Is] at i
  obtain ⟨a, vs, rfl, h1, h2⟩ := i
  exact ⟨a, vs, rfl, hd_ex.t h1, by rw [isA_len h2, hl], h os σ H vs Q k h2 q⟩
/-- one turn of a comprehension -/
def LcT (C : Ct) (g : TG) (tt : TT) (te : TE) (ws : List Nat) (x : Dt) (A : AS) (ys : List Dt) (A2 : AS) (ys2 : List Dt) : Prop :=
  ∃ A1 b A', TgS C g x (A.wipe ws) A1 ws ∧ EvT C tt A1 b A' ∧ ((b = true ∧ ∃ y A3, EvS C te A' y A3 ∧ ys2 = ys ++ [y] ∧ A3.wipe ws = A2) ∨ (b = false ∧ ys2 = ys ∧ A'.wipe ws = A2))
theorem t_yes : EvT C tYes A true A := fun os σ H k Q q => q os H k Gr.refl
def LcI (C : Ct) (p : Addr) (os1 : List (Option Addr)) (H1 : Hp) (σ : Sg) (A : AS) (ys : List Dt) (H : Hp) : Prop := ∃ os acc, Ok (C.hide p) os A σ H ∧ Gr (p :: C.O) os1 H1 os H ∧ H p = some (.lst acc) ∧ IsA C.K (Rh (p :: C.O) os H) ys acc
/-- all but the hidden list p itself -/
structure GrP (p : Addr) (O : List Addr) (os : List (Option Addr)) (H : Hp) (os' : List (Option Addr)) (H' : Hp) : Prop where
  e : Ex (Rh (p :: O) os H) (Rh (p :: O) os' H')
  o : ∀ a ∈ O, H' a = H a
  p : ∀ (k : Nat) (x : Option Addr), os[k]? = some x → os'[k]? = some x
theorem lc_turn {p : Addr} {x : Dt} {v : V} {σ : Sg} {os : List (Option Addr)} {H : Hp} {ys ys2 : List Dt} {acc : List V} (t : LcT (C.hide p) g tt te ws x A ys A2 ys2) (k : Ok (C.hide p) os A σ H) (hp : H p = some (.lst acc)) (ha : IsA C.K (Rh (p :: C.O) os H) ys acc) (hx : Is C.K (Rh (p :: C.O) os H) x v)
    (h0 : ∀ o, C.H0 p = some o → ¬ NoT o) (hO : p ∉ C.O) (hl : ys.length < 100000) (R : Hp → Prop) (hR : ∀ os' acc' H', Ok (C.hide p) os' A2 σ H' → GrP p C.O os H os' H' → H' p = some (.lst acc') → IsA C.K (Rh (p :: C.O) os' H') ys2 acc' → R H') :
    g v (wipe σ ws) H fun σ2 H2 => wipe σ2 ws = wipe σ ws ∧ tt σ2 H2 fun b H3 => if b = true then te σ2 H3 fun y H4 => ∃ acc, H4 p = some (HO.lst acc) ∧ acc.length < sizeLine ∧ R (upd H4 p (HO.lst (acc ++ [y]))) else R H3 := by
  obtain ⟨A1, b, A', tg, ht, hb⟩ := t
  refine tg os _ H v _ k.wiped hx fun σ2 k2 e2 => ⟨e2.trans wipe_wipe, ht os σ2 H k2 _ fun os3 H3 k3 g3 => ?_⟩
  have e2' : wipe σ2 ws = wipe σ ws := e2.trans wipe_wipe
  have hp3 : H3 p = some (.lst acc) := (g3.o p (List.mem_cons_self ..)).trans hp
  rcases hb with ⟨rfl, y, A3, he, rfl, rfl⟩ | ⟨rfl, rfl, rfl⟩
  · rw [if_pos rfl]
    refine he os3 σ2 H3 k3 _ fun os4 w H4 k4 g4 i4 => ?_
    have hp4 : H4 p = some (.lst acc) := (g4.o p (List.mem_cons_self ..)).trans hp3
    have g := g3.trans g4
    refine ⟨acc, hp4, by rw [isA_len ha]; exact Nat.lt_of_lt_of_le hl (by decide), hR os4 _ _ ((k4.back e2').updH (List.mem_cons_self ..) h0 hp4) ⟨?_, fun a h => ?_, g.p⟩ upd_same ?_⟩
    · rw [Rh_updO (List.mem_cons_self ..)]; exact g.e
    · rw [upd_ne fun z => hO (by rw [← z]; exact h)]
      exact g.o a (List.mem_cons_of_mem _ h)
    · rw [Rh_updO (List.mem_cons_self ..)]
      exact isA_app (IsA.mono g.e _ _ ha) (isA_cons i4 isA_nil)
  · rw [if_neg (by decide)]
    exact hR os3 acc H3 (k3.back e2') ⟨g3.e, fun a h => g3.o a (List.mem_cons_of_mem _ h), g3.p⟩ hp3 (IsA.mono g3.e _ _ ha)
theorem GrP.trans {p : Addr} {O : List Addr} {os os1 os2 : List (Option Addr)} {H H1 H2 : Hp} (a : GrP p O os H os1 H1) (b : GrP p O os1 H1 os2 H2) : GrP p O os H os2 H2 := ⟨a.e.trans b.e, fun x h => (b.o x h).trans (a.o x h), fun k x h => b.p k x (a.p k x h)⟩
theorem fresh_O {os : List (Option Addr)} {σ : Sg} {H : Hp} {p : Addr} (k : Ok C os A σ H) (hp : H p = none) : p ∉ C.O := fun z => k.new hp (mem_hid.mpr (.inl z))
theorem fresh_0 {os : List (Option Addr)} {σ : Sg} {H : Hp} {p : Addr} (k : Ok C os A σ H) (hp : H p = none) : ∀ o, C.H0 p = some o → ¬ NoT o := fun o e n => by
  have := k.ex _ _ e n
  rw [hp] at this; cases this
/-- the end: the list is data -/
theorem lc_end {p : Addr} {σ : Sg} {os1 os2 : List (Option Addr)} {H1 H2 : Hp} {ys : List Dt} {acc : List V} {Q : VK} (k1 : Ok C os1 A σ H1) (hp : H1 p = none) (k2 : Ok (C.hide p) os2 A2 σ H2) (g : GrP p C.O os1 (upd H1 p (.lst [])) os2 H2) (hl : H2 p = some (.lst acc)) (ha : IsA C.K (Rh (p :: C.O) os2 H2) ys acc)
    (q : ∀ os' v H', Ok C os' A2 σ H' → Gr C.O os1 H1 os' H' → Is C.K (Rh C.O os' H') (.lst ys) v → Q v H') : Q (.ref p) H2 := by
  refine q os2 _ H2 k2.unhide ⟨?_, fun a h => ?_, g.p⟩ ?_
  · have e := g.e
    rw [Rh_hide hp] at e
    exact e.trans Rh_unhide
  · rw [g.o a h, upd_ne fun z => fresh_O k1 hp (by rw [← z]; exact h)]
  · rw [Is]
    refine ⟨p, acc, rfl, SqL.of ?_, IsA.mono Rh_unhide _ _ ha⟩
    show hd _ H2 p = _
    rw [hd_of fun z => ?_]
    · exact hl
    · rcases mem_hid.mp z with z | z
      · exact fresh_O k1 hp z
      · exact k2.dj p (List.mem_cons_self ..) z
theorem e_lcR {lo : Int} {n : Nat} {wi : TI} (hw : ∀ os σ H, Ok C os A σ H → ∀ R : It → Hp → Prop, (∀ os' H', Ok C os' A1 σ H' → Gr C.O os H os' H' → R (Itr lo n) H') → wi σ H R) (B : Nat → AS) (Y : Nat → List Dt) (h0 : A1 = B 0) (hY : Y 0 = [])
    (hs : ∀ i, i < n → ∀ O, LcT ⟨C.K, C.T, C.H0, O⟩ g tt te ws (di (lo + i)) (B i) (Y i) (B (i + 1)) (Y (i + 1))) (hn : n < 100000) : EvS C (tLc wi g tt te ws) A (.lst (Y n)) (B n) := fun os σ H k Q q =>
  hw os σ H k _ fun os1 H1 k1 g1 p hp => by
    have hl : ∀ i, i ≤ n → (Y i).length ≤ i := by
      intro i
      induction i with
      | zero => intro _; rw [hY]; exact Nat.le_refl _
      | succ i ih =>
        intro hi
        obtain ⟨_, _, _, _, _, h⟩ := hs i hi []
        rcases h with ⟨_, _, _, _, e, _⟩ | ⟨_, e, _⟩ <;> rw [e] <;> have := ih (by omega) <;> (try simp only [List.length_append, List.length_singleton]) <;> omega
    subst h0
    refine lc_range (lo := lo) (n := n) (fun i H' => ∃ os' acc, Ok (C.hide p) os' (B i) σ H' ∧ GrP p C.O os1 (upd H1 p (.lst [])) os' H' ∧ H' p = some (.lst acc) ∧ IsA C.K (Rh (p :: C.O) os' H') (Y i) acc) ⟨os1, [], k1.hide hp nt_l, ⟨Ex.refl _, fun _ _ => rfl, fun _ _ h => h⟩, upd_same, by rw [hY]; exact isA_nil⟩ ?_ ?_
    · rintro i H' hi ⟨os', acc, k', g', hp', ha⟩
      exact lc_turn (hs i hi _) k' hp' ha is_v (fresh_0 k1 hp) (fresh_O k1 hp) (by have := hl i (by omega); omega) _ fun os2 acc2 H2 k2 g2 hp2 ha2 => ⟨os2, acc2, k2, g'.trans g2, hp2, ha2⟩
    · rintro H' ⟨os', acc, k', g', hp', ha⟩
      exact lc_end k1 hp k' g' hp' ha fun os2 v H2 k2 g2 i2 => q os2 v H2 k2 (g1.trans g2) i2
theorem e_lcL {xs : List Dt} (he : EvS C tl A (.lst xs) A1) (B : Nat → AS) (Y : Nat → List Dt) (h0 : A1 = B 0) (hY : Y 0 = [])
    (hs : ∀ i x, xs[i]? = some x → ∀ O, LcT ⟨C.K, C.T, C.H0, O⟩ g tt te ws x (B i) (Y i) (B (i + 1)) (Y (i + 1))) (hn : xs.length < 100000) : EvS C (tLc (iList C.K tl) g tt te ws) A (.lst (Y xs.length)) (B xs.length) := fun os σ H k Q q =>
  he os σ H k _ fun os1 v H1 k1 g1 i1 => by
    rw [Is] at i1
    obtain ⟨a, vs, rfl, h1, h2⟩ := i1
    refine ⟨a, rfl, ⟨vs, hd_ex.l h1⟩, fun p hp => ?_⟩
    have hl : ∀ i, i ≤ xs.length → (Y i).length ≤ i := by
      intro i
      induction i with
      | zero => intro _; rw [hY]; exact Nat.le_refl _
      | succ i ih =>
        intro hi
        obtain ⟨_, _, _, _, _, h⟩ := hs i xs[i] (List.getElem?_eq_getElem hi) []
        rcases h with ⟨_, _, _, _, e, _⟩ | ⟨_, e, _⟩ <;> rw [e] <;> have := ih (by omega) <;> (try simp only [List.length_append, List.length_singleton]) <;> omega
    subst h0
    have el : vs.length = xs.length := isA_len h2
    refine lc_list (K := C.K) (a := a) (xs := vs) (fun i H' => ∃ os' acc, Ok (C.hide p) os' (B i) σ H' ∧ GrP p C.O os1 (upd H1 p (.lst [])) os' H' ∧ H' p = some (.lst acc) ∧ IsA C.K (Rh (p :: C.O) os' H') (Y i) acc) ⟨os1, [], k1.hide hp nt_l, ⟨Ex.refl _, fun _ _ => rfl, fun _ _ h => h⟩, upd_same, by rw [hY]; exact isA_nil⟩ (fun i H' _ ⟨os', acc, k', g', hp', ha⟩ => ?_) ?_ ?_
    · have e := g'.e
      rw [Rh_hide hp] at e
      exact hd_ex.l (e.l h1)
    · rintro i x H' hi ⟨os', acc, k', g', hp', ha⟩
      obtain ⟨d, hd', hi'⟩ := isA_get' h2 hi
      have e := g'.e
      rw [Rh_hide hp] at e
      exact lc_turn (hs i d hd' _) k' hp' ha (Is.mono e _ _ hi') (fresh_0 k1 hp) (fresh_O k1 hp) (by have := hl i (by have := (List.getElem?_eq_some_iff.mp hd').1; omega); have := (List.getElem?_eq_some_iff.mp hd').1; omega) _ fun os2 acc2 H2 k2 g2 hp2 ha2 => ⟨os2, acc2, k2, g'.trans g2, hp2, ha2⟩
    · rintro H' ⟨os', acc, k', g', hp', ha⟩
      rw [el] at k' ha
      exact lc_end k1 hp k' g' hp' ha fun os2 v H2 k2 g2 i2 => q os2 v H2 k2 (g1.trans g2) i2
end
end Py
end

section
set_option Elab.async false
set_option linter.all false
set_option maxRecDepth 100000
set_option maxHeartbeats 4000000
set_option autoImplicit false
namespace Py
open PySem PySem.Spec PyProof.Rows L2
/-! ### built-ins by data -/
section
variable {C : Ct} {A A1 A2 : AS} {ta tb te : TE} {i j : Int}
theorem e_gcd (h : EvS C ta A (di i) A1) (h' : EvS C tb A1 (di j) A2) : EvS C (tCB rGcd (tCons ta (tCons tb tNil))) A (di (Int.gcd i j)) A2 :=
  e_CB (vs := [.int i, .int j]) (a_cons h (a_cons h' a_nil)) fun H Q q => ⟨i, j, rfl, q⟩
theorem e_abs (h : EvS C ta A (di i) A1) : EvS C (tCB (fun xs H Q => ∃ i, xs = [V.int i] ∧ Q (V.int (if i < 0 then -i else i)) H) (tCons ta tNil)) A (di (if i < 0 then -i else i)) A1 :=
  e_CB (vs := [.int i]) (a_cons h a_nil) fun H Q q => ⟨i, rfl, q⟩
theorem e_max2 (h : EvS C ta A (di i) A1) (h' : EvS C tb A1 (di j) A2) : EvS C (tCB (fun xs H Q => ∃ i j, xs = [V.int i, V.int j] ∧ Q (V.int (if j > i then j else i)) H) (tCons ta (tCons tb tNil))) A (di (if j > i then j else i)) A2 :=
  e_CB (vs := [.int i, .int j]) (a_cons h (a_cons h' a_nil)) fun H Q q => ⟨i, j, rfl, q⟩
theorem e_int (h : EvS C ta A (di i) A1) : EvS C (tCB (fun xs H Q => (∃ i, xs = [V.int i] ∧ Q (V.int i) H) ∨ ∃ k, xs = [V.bl k] ∧ Q (V.int (if k = true then 1 else 0)) H) (tCons ta tNil)) A (di i) A1 :=
  e_CB (vs := [.int i]) (a_cons h a_nil) fun H Q q => .inl ⟨i, rfl, q⟩
theorem e_intB {b : Bool} (h : EvS C ta A (db b) A1) : EvS C (tCB (fun xs H Q => (∃ i, xs = [V.int i] ∧ Q (V.int i) H) ∨ ∃ k, xs = [V.bl k] ∧ Q (V.int (if k = true then 1 else 0)) H) (tCons ta tNil)) A (di (if b = true then 1 else 0)) A1 :=
  e_CB (vs := [.bl b]) (a_cons h a_nil) fun H Q q => .inr ⟨b, rfl, q⟩
theorem e_strI (hb : i.natAbs.log2 < 1920) (h : EvS C ta A (di i) A1) : EvS C (tCB (fun xs H Q => ∃ i, xs = [V.int i] ∧ i.natAbs.log2 < 1920 ∧ Q (V.str (Str.ofString (toString i))) H) (tCons ta tNil)) A (ds (Str.ofString (toString i))) A1 :=
  e_CB (vs := [.int i]) (a_cons h a_nil) fun H Q q => ⟨i, rfl, hb, q⟩
theorem e_bits (h : EvS C ta A (di i) A1) : EvS C (tBits ta) A (di (Builtin.Int.intBits i : Nat)) A1 := fun os σ H k Q q =>
  h os σ H k _ fun os1 v H1 k1 e1 i1 => ⟨i, Is.v_iff.mp i1, q os1 _ H1 k1 e1 is_v⟩
theorem e_fmtI (hb : i.natAbs.log2 < 1920) (h : EvS C ta A (di i) A1) : EvS C (tFmt ta) A (ds (Str.ofString (toString i))) A1 := fun os σ H k Q q =>
  h os σ H k _ fun os1 v H1 k1 e1 i1 => .inr ⟨i, Is.v_iff.mp i1, hb, q os1 _ H1 k1 e1 is_v⟩
/-- a < b < c -/
theorem e_chainF {r r' : R2} {x y : Dt} {tc : TE} (ha : EvS C ta A x A1) (hb : EvS C tb A1 y A2) (hr : OpS C r x y (db false)) : EvS C (tChain r r' ta tb tc) A (db false) A2 := fun os σ H k Q q =>
  ha os σ H k _ fun os1 v1 H1 k1 e1 i1 => hb os1 σ H1 k1 _ fun os2 v2 H2 k2 e2 i2 => hr os2 _ σ H2 v1 v2 k2 (Is.mono e2.e _ _ i1) i2 _ fun v H' e t i => ⟨false, Is.v_iff.mp i, by
    rw [if_neg (by decide)]
    exact q os2 _ H' (k2.mono e t) ((e1.trans e2).trans (k2.gr e)) is_v⟩
theorem e_chainT {r r' : R2} {x y z d : Dt} {A3 : AS} {tc : TE} (ha : EvS C ta A x A1) (hb : EvS C tb A1 y A2) (hr : OpS C r x y (db true)) (hc : EvS C tc A2 z A3) (hr' : OpS C r' y z d) : EvS C (tChain r r' ta tb tc) A d A3 := fun os σ H k Q q =>
  ha os σ H k _ fun os1 v1 H1 k1 e1 i1 => hb os1 σ H1 k1 _ fun os2 v2 H2 k2 e2 i2 => hr os2 _ σ H2 v1 v2 k2 (Is.mono e2.e _ _ i1) i2 _ fun v H' e t i => ⟨true, Is.v_iff.mp i, by
    rw [if_pos rfl]
    have k3 := k2.mono e t
    refine hc os2 σ H' k3 _ fun os4 v4 H4 k4 e4 i4 => ?_
    exact hr' os4 _ σ H4 v2 v4 k4 (Is.mono ((k2.gr e).trans e4).e _ _ i2) i4 Q fun v5 H5 e5 t5 i5 => q os4 v5 H5 (k4.mono e5 t5) ((((e1.trans e2).trans (k2.gr e)).trans e4).trans (k4.gr e5)) i5⟩
end
/-! ### sizes -/
theorem log2_of {i : Int} {n : Nat} (h : i.natAbs < 2 ^ n) (hn : 0 < n) : i.natAbs.log2 < n := PySem.Flt.log2_lt_of hn h
theorem mulX {i j : Int} (a b : Nat) (h : i.natAbs < 2 ^ a) (h' : j.natAbs < 2 ^ b) (h0 : 0 < a := by decide) (h1 : 0 < b := by decide) (hs : a + b ≤ 100000000 := by decide) : PMul i j := by
  have := log2_of h h0
  have := log2_of h' h1
  show i.natAbs.log2 + j.natAbs.log2 < 100000000
  omega
theorem divX {i j : Int} (b : Nat) (h : j.natAbs < 2 ^ b) (hj : j ≠ 0) (h1 : 0 < b := by decide) (hs : b ≤ 9000 := by decide) : PDiv i j := ⟨hj, Nat.lt_of_lt_of_le (log2_of h h1) hs⟩
/-- a number of at most n bits -/
def Sz (n : Nat) (i : Int) : Prop := i.natAbs < 2 ^ n
theorem Sz.mono {m n : Nat} {i : Int} (h : Sz m i) (e : m ≤ n) : Sz n i := Nat.lt_of_lt_of_le h (Nat.pow_le_pow_right (by decide) e)
theorem Sz.mul {m n : Nat} {i j : Int} (h : Sz m i) (h' : Sz n j) : Sz (m + n) (i * j) := by
  unfold Sz at *
  rw [Int.natAbs_mul, Nat.pow_add]
  exact Nat.mul_lt_mul'' h h'
theorem Sz.add {n : Nat} {i j : Int} (h : Sz n i) (h' : Sz n j) : Sz (n + 1) (i + j) := by
  unfold Sz at *
  have := Int.natAbs_add_le i j
  rw [Nat.pow_succ]
  omega
theorem Sz.sub {n : Nat} {i j : Int} (h : Sz n i) (h' : Sz n j) : Sz (n + 1) (i - j) := by
  unfold Sz at *
  have := Int.natAbs_sub_le i j
  rw [Nat.pow_succ]
  omega
theorem Sz.neg {n : Nat} {i : Int} (h : Sz n i) : Sz n (-i) := by
  unfold Sz at *
  rw [Int.natAbs_neg]
  exact h
theorem Sz.of_le {n : Nat} {i j : Int} (h : Sz n j) (e : i.natAbs ≤ j.natAbs) : Sz n i := Nat.lt_of_le_of_lt e h
end Py
end

section
set_option Elab.async false
set_option linter.all false
set_option maxRecDepth 100000
set_option maxHeartbeats 4000000
set_option autoImplicit false
namespace Py
open PySem PySem.Spec PyProof.Rows L2
/-! ### defs that make lambdas -/
abbrev lamQ (f : Str) : Str := (f ++ ".<locals>.") ++ "<lambda>"
/-- the tables of the defs fs -/
def tabL (K : Frg) (fs : List Str) : List (Addr × Str) := fs.map fun f => ((He.cT K (f, none)).2, lamQ f)
theorem tabL_mem {K : Frg} {fs : List Str} {f : Str} (h : f ∈ fs) : ((He.cT K (f, none)).2, lamQ f) ∈ tabL K fs := List.mem_map.mpr ⟨f, h, rfl⟩
theorem tabL_one {K : Frg} : ∀ {fs : List Str} {f : Str}, (fs.map fun f => (He.cT K (f, none)).2).Nodup → f ∈ fs → ∀ p ∈ tabL K fs, p.1 = (He.cT K (f, none)).2 → p.2 = lamQ f := by
  intro fs f nd hf p hp e
  obtain ⟨g, hg, rfl⟩ := List.mem_map.mp hp
  have e : (He.cT K (g, none)).2 = (He.cT K (f, none)).2 := e
  have : g = f := by
    clear hp
    induction fs with
    | nil => cases hf
    | cons a r ih =>
      simp only [List.map_cons, List.nodup_cons] at nd
      rcases List.mem_cons.mp hf with z | z <;> rcases List.mem_cons.mp hg with y | y
      · rw [z, y]
      · exact absurd (List.mem_map.mpr ⟨g, y, by rw [e, z]⟩) nd.1
      · exact absurd (List.mem_map.mpr ⟨f, z, by rw [← e, y]⟩) nd.1
      · exact ih nd.2 z y
  rw [this]
/-- what a def's making of lambdas leans on -/
structure LamB (K : Frg) (base : Heap) (mg : Str → Option Value) (T : List (Addr × Str)) (f : Str) : Prop where
  tb : LamX.TabB base mg (He.cT K (f, none)).1 (He.cT K (f, none)).2
  mm : ((He.cT K (f, none)).2, lamQ f) ∈ T
  hu : ∀ p ∈ T, p.1 = (He.cT K (f, none)).2 → p.2 = lamQ f
/-- as mkG, the def's code object told -/
theorem mkGL {P : Program} {w : World} {K : Frg} {T : List (Addr × Str)} {mg : Str → Option Value} {base : Heap} {f : Str} {st : Stmt} {N ps : List Str} {k : Nat} {g : List Dt → Rs → Prop}
    (F : ∃ fd, FunD K f f (defArgs st) (defBody st) (defScope st) [] [] (He.ga K f) fd) (hm : mg f = some (.ref (He.ga K f))) (S : FnScope N ps (defScope st))
    (hb : ∀ (kV doc pm : Value) (an : Option Addr) (cdv ct : Value) (us : List Value), us.length = ps.length → bindArgs (PySem.W.fnOf f f (defArgs st) (defBody st) (defScope st) .none kV doc pm an cdv ct) ⟨us, []⟩ = pure (ps.zip us))
    (len : ∀ ds r, g ds r → ds.length = ps.length)
    (hbody : ∀ (A : Around) (outer : List Env) (s : Shared) (H : Hp) (E : XK), Room k (A.deeper (envOfC f (defScope st) s.heap.objs.size (He.ga K f) (.ref (He.cT K (f, none)).1))) →
      ∃ t, PSs (cxOf (L2.CX P w) P w K mg base N f (defScope st) (He.ga K f) (.ref (He.cT K (f, none)).1) A outer s H E) (defBody st) t ∧ ∀ O ds r, g ds r → RunS ⟨K, T, H, O⟩ E t (start N ds) (poR r)) : Gd P w K mg base f ps (k + 1) (spD K T g) := by
  obtain ⟨fd, F⟩ := F
  have kb := F.bindsN hb
  obtain ⟨oc, od, dV, kV, doc, pm, an, cdv, ct, osl, e, lk, hc⟩ := fnd_of F
  obtain ⟨c, rfl⟩ := He.codeIn_ref hc
  have ec : (He.cT K (f, none)).1 = c := He.codeOf_eq (p := (f, none)) lk rfl
  subst ec
  subst e
  refine ⟨_, _, fn_of lk hc S (fun vs H Q E h => spD_len len vs H Q E h) (fun A outer s H vs Q E hr h => ?_), kb, F.kp, hm⟩
  obtain ⟨t, ht, run⟩ := hbody A outer s H E hr
  exact ⟨t, ht, fin h run⟩
/-- a word between a statement and the rest -/
theorem r_cut {C : Ct} {E : XK} {t u : TS} {A : AS} {P : Po} (M : AS → Prop) (h : RunS C E t A { P with nx := M }) (k : ∀ A', M A' → RunS C E u A' P) : RunS C E (tSeq t u) A P := r_seq fun os σ H D o T =>
  h os σ H D o ⟨fun os1 A1 σ1 H1 m k1 g => T.nx os1 A1 σ1 H1 (k A1 m) k1 g, T.rt, T.bk, T.ct, T.er⟩
theorem r_ifTs {C : Ct} {E : XK} {tt : TT} {t u : TS} {A : AS} {P : Po} (hc : EvT C tt A true A) (h1 : RunS C E t A P) : RunS C E (tIfS tt t u) A P := r_ifT hc h1
theorem r_ifFs {C : Ct} {E : XK} {tt : TT} {t u : TS} {A : AS} {P : Po} (hc : EvT C tt A false A) (h1 : RunS C E u A P) : RunS C E (tIfS tt t u) A P := r_ifF hc h1
theorem r_ifs {C : Ct} {E : XK} {tt : TT} {t u : TS} {A : AS} {P : Po} {b : Bool} (hc : EvT C tt A b A) (h1 : b = true → RunS C E t A P) (h2 : b = false → RunS C E u A P) : RunS C E (tIfS tt t u) A P := r_if hc h1 h2
/-! ### the square-and-multiply promise: F i stands for the i-th power -/
def gRep : (List Dt → Dt → Prop) → List Dt → Dt → Prop := fun R ds r => ∃ (F : Nat → Dt) (n : Nat), ds = [F 0, F 1, di (n : Int)] ∧ (∀ i j, i + j ≤ n → R [F i, F j] (F (i + j))) ∧ r = F n
end Py
end

section
set_option Elab.async false
set_option linter.all false
set_option maxRecDepth 100000
set_option maxHeartbeats 4000000
set_option autoImplicit false
set_option exponentiation.threshold 100
namespace Py
open PySem PySem.Spec PyProof.Rows L2
/-! ### xs[i] = e, xs one's own -/
section
variable {C : Ct} {E : XK} {A A1 : AS} {te ti : TE} {d : Dt} {P : Po}
theorem r_setO {i n j : Nat} {z : Int} {xs : List Dt} (he : EvS C te A d A1) (h1 : A1.sl[i]? = some (.own n)) (h2 : A1.st[n]? = some (.lst xs)) (hj : ixN xs.length z = some j) (h : P.nx (A1.upO n (xs.set j d))) : RunS C E (tAsg te (gSub (tVar i) (tC (.int z)) rSetL)) A P := fun os σ H D k T =>
  he os σ H k _ fun os1 v H1 k1 e1 i1 => by
    obtain ⟨o, f1, a, f2, f3⟩ := k1.slot h1
    subst f2
    obtain ⟨o3, s1, a3, vs, s2, s3, s4⟩ := k1.store h2
    rw [f3] at s1; cases s1; cases s2
    refine ⟨_, f1, a, vs, z, j, rfl, rfl, s3, by rw [isA_len s4]; exact hj, ?_⟩
    refine T.nx os1 _ _ _ h (k1.upO f3 h2 (isA_set s4 i1)) (Gr.s <| e1.trans ⟨?_, fun b hb => ?_, fun _ _ h => h⟩)
    · rw [Rh_upd (mem_hid.mpr (.inr (List.mem_of_getElem? f3)))]
      exact Ex.refl _
    · rw [upd_ne fun q => k1.dj b hb (by rw [q]; exact List.mem_of_getElem? f3)]
end
/-! ### the dice -/
structure Dice where
  x : Int
  y : Int
  z : Int
def Dice.ds (d : Dice) : List Dt := [di d.x, di d.y, di d.z]
def Dice.vs (d : Dice) : List V := [.int d.x, .int d.y, .int d.z]
def mkDice (c : Int) : Dice := if -10 < c ∧ c < 10 then ⟨c.natAbs, 0, 2⟩ else ⟨c, 1 + c.fmod 1009, if 10 ^ 18 ≤ c then 1 else 0⟩
def rollV (d : Dice) (m : Int) : Int := if d.z = 2 ∨ (d.z = 1 ∧ 0 < d.x) then d.x.fmod m else (((d.x * 48271 + d.y * 69621 + 11).fmod 2147483647).fdiv 7).fmod m
def rollD (d : Dice) (m : Int) : Dice := if d.z = 2 ∨ (d.z = 1 ∧ 0 < d.x) then ⟨d.x.fdiv m, d.y, d.z⟩ else ⟨(d.x * 48271 + d.y * 69621 + 11).fmod 2147483647, d.y + 1, 0⟩
/-- after at most c rolls -/
structure DOk (c : Nat) (d : Dice) : Prop where
  x : d.x.natAbs < 2 ^ 2000000
  y : d.y.natAbs ≤ 1010 + c
theorem roll_lt {d : Dice} {m : Int} (h : 0 < m) : 0 ≤ rollV d m ∧ rollV d m < m := by
  unfold rollV
  split
  · exact ⟨Int.fmod_nonneg_of_pos _ h, Int.fmod_lt_of_pos _ h⟩
  · exact ⟨Int.fmod_nonneg_of_pos _ h, Int.fmod_lt_of_pos _ h⟩
theorem fdiv_le_abs (a b : Int) (hb : 0 < b) : (a.fdiv b).natAbs ≤ a.natAbs := by
  rw [Int.fdiv_eq_ediv_of_nonneg a (by omega)]
  rcases Int.le_total 0 a with h | h
  · have h1 := Int.ediv_nonneg h (show 0 ≤ b by omega)
    have h2 := Int.ediv_le_self b h
    omega
  · have h1 : a / b ≤ 0 := by simpa using Int.ediv_le_ediv hb h
    have h2 : a ≤ a / b := by
      have e := Int.mul_ediv_add_emod a b
      have l2 := Int.emod_lt_of_pos a hb
      rcases Int.lt_or_le (a / b) a with z | z
      · have : b * (a / b + 1) ≤ b * a := Int.mul_le_mul_of_nonneg_left (by omega) (by omega)
        have : b * a ≤ 1 * a := Int.mul_le_mul_of_nonpos_right (by omega) h
        grind
      · exact z
    omega
theorem roll_ok {d : Dice} {m : Int} {c : Nat} (h : DOk c d) (hm : 0 < m) : DOk (c + 1) (rollD d m) := by
  unfold rollD
  split
  · exact ⟨Nat.lt_of_le_of_lt (fdiv_le_abs _ _ hm) h.x, Nat.le_trans h.y (by omega)⟩
  · refine ⟨?_, ?_⟩
    · show ((d.x * 48271 + d.y * 69621 + 11).fmod 2147483647).natAbs < 2 ^ 2000000
      have h1 := Int.fmod_nonneg_of_pos (d.x * 48271 + d.y * 69621 + 11) (show (0 : Int) < 2147483647 by decide)
      have h2 := Int.fmod_lt_of_pos (d.x * 48271 + d.y * 69621 + 11) (show (0 : Int) < 2147483647 by decide)
      have h3 : 2 ^ 31 ≤ 2 ^ 2000000 := Nat.pow_le_pow_right (by decide) (by decide)
      omega
    · show (d.y + 1).natAbs ≤ 1010 + (c + 1)
      have := h.y
      omega
theorem mkDice_ok {c : Int} (h : Sz 1048576 c) : DOk 0 (mkDice c) := by
  unfold mkDice
  have hp : 10 < 2 ^ 2000000 := Nat.lt_of_lt_of_le (by decide : 10 < 2 ^ 4) (Nat.pow_le_pow_right (by decide) (by decide))
  split
  · refine ⟨?_, by show (0 : Int).natAbs ≤ _; omega⟩
    show ((c.natAbs : Int)).natAbs < 2 ^ 2000000
    omega
  · refine ⟨Nat.lt_of_lt_of_le h (Nat.pow_le_pow_right (by decide) (by decide)), ?_⟩
    show (1 + c.fmod 1009).natAbs ≤ _
    have h1 := Int.fmod_nonneg_of_pos c (show (0 : Int) < 1009 by decide)
    have h2 := Int.fmod_lt_of_pos c (show (0 : Int) < 1009 by decide)
    omega
/-- what a roll promises: the dice at a has turned, all else stands -/
def spRoll (K : Frg) (T : List (Addr × Str)) : Sp := fun vs H Q _ => ∃ (a : Addr) (d : Dice) (m : Int) (c : Nat), vs = [.ref a, .int m] ∧ H a = some (.lst d.vs) ∧ DOk c d ∧ c ≤ 1000000 ∧ 0 < m ∧ Sz 8000 m ∧ LamX.Tabs T H ∧
  ∀ H', (∀ b o, b ≠ a → H b = some o → NoT o → H' b = some o) → LamX.Tabs T H' → H' a = some (.lst (rollD d m).vs) → Q (.int (rollV d m)) H'
section
variable {C : Ct} {E : XK} {A A1 : AS} {te ti : TE} {P : Po} {i n c : Nat} {d : Dice} {m : Int}
theorem vs_of {K : Frg} {H : Hp} {d : Dice} {vs : List V} (h : IsA K H d.ds vs) : vs = d.vs := by
  simp only [Dice.ds, IsA, Is] at h
  obtain ⟨v, w, rfl, rfl, v', w', rfl, rfl, v'', w'', rfl, rfl, rfl⟩ := h
  rfl
theorem ds_of {K : Frg} {H : Hp} {d : Dice} : IsA K H d.ds d.vs := isA_cons is_v (isA_cons is_v (isA_cons is_v isA_nil))
/-- roll(dice, m) -/
theorem e_roll {E' : XK} (h1 : A.sl[i]? = some (.own n)) (h2 : A.st[n]? = some (.lst d.ds)) (hm : EvS C te A (di m) A) (hk : DOk c d) (hc : c ≤ 1000000) (h0 : 0 < m) (hs : Sz 8000 m) :
    EvS C (tCall (spRoll C.K C.T) [] E' (tCons (tVar i) (tCons te tNil))) A (di (rollV d m)) (A.upO n (rollD d m).ds) := fun os σ H k Q q => by
  obtain ⟨o, f1, a, f2, f3⟩ := k.slot h1
  subst f2
  refine ⟨_, f1, hm os σ H k _ fun os1 v H1 k1 g1 i1 => ?_⟩
  rw [Is.v_iff.mp i1]
  have f3' := g1.p n _ f3
  obtain ⟨o3, s1, a3, vs, s2, s3, s4⟩ := k1.store h2
  rw [f3'] at s1; cases s1; cases s2
  rw [vs_of s4] at s3
  refine ⟨a, d, m, c, rfl, s3, hk, hc, h0, hs, k1.tb, fun H' e t ha => ?_⟩
  -- the heap behind: H1 with the dice turned, and more
  have hh : a ∈ hid C.O os1 := mem_hid.mpr (.inr (List.mem_of_getElem? f3'))
  have ku := k1.upO f3' h2 (ys := (rollD d m).ds) ds_of
  have ex : Ex (upd H1 a (.lst (rollD d m).vs)) H' := fun b o hb nt => by
    by_cases eb : b = a
    · subst eb
      rw [upd_same] at hb
      cases hb
      exact ha
    · rw [upd_ne eb] at hb
      exact e b o eb hb nt
  have kf := ku.mono ex t
  refine q os1 _ H' kf (g1.trans ⟨?_, fun b hb => ?_, fun _ _ h => h⟩) is_v
  · have := hd_mono (O := hid C.O os1) ex
    rw [show hd (hid C.O os1) (upd H1 a _) = Rh C.O os1 H1 from Rh_upd hh] at this
    exact this
  · obtain ⟨o, hb1, nt⟩ := k1.ol b hb
    have ne : b ≠ a := fun z => k1.dj b hb (by rw [z]; exact List.mem_of_getElem? f3')
    rw [hb1]
    exact e b o ne hb1 nt
/-- nothing but a table is known there -/
def Fr0 (H : Hp) (a : Addr) : Prop := ∀ o, H a = some o → ¬ NoT o
/-- a new dice; a new list that holds one new dice -/
def spDice (K : Frg) (T : List (Addr × Str)) : Sp := fun vs H Q _ => ∃ c : Int, vs = [.int c] ∧ Sz 1048576 c ∧ LamX.Tabs T H ∧ ∀ (a : Addr) (H' : Hp), Fr0 H a → Ex H H' → LamX.Tabs T H' → H' a = some (.lst (mkDice c).vs) → Q (.ref a) H'
def spRounds (K : Frg) (T : List (Addr × Str)) : Sp := fun vs H Q _ => ∃ (s : Addr) (ns : List Int), vs = [.ref s, .int 1] ∧ SqL K H s (ns.map V.int) ∧ ns.length ≤ 63 ∧ (∀ z ∈ ns, Sz 1048576 z) ∧ LamX.Tabs T H ∧
  ∀ (p a : Addr) (H' : Hp), Fr0 H p → Fr0 H a → p ≠ a → Ex H H' → LamX.Tabs T H' → H' p = some (.lst [.ref a]) → H' a = some (.lst (mkDice (ns.headD 0)).vs) → Q (.ref p) H'
/-- for dice in rounds(script, 1): one turn, with a dice of one's own -/
theorem r_rounds {E' : XK} {tb : TS} {ns : List Int} {j : Nat} (hs : A.sl[i]? = some (.d (.lst (ns.map di)))) (hl : ns.length ≤ 63) (hz : ∀ z ∈ ns, Sz 1048576 z)
    (hb : RunS C E tb (A.newO j (mkDice (ns.headD 0)).ds) { P with nx := P.nx, ct := P.nx, bk := P.nx }) : RunS C E (tFor (iList C.K (tCall (spRounds C.K C.T) [] E' (tCons (tVar i) (tCons (tC (.int 1)) tNil)))) (gName j) tb) A P := fun os σ H D k T => by
  obtain ⟨o, f1, v, f2, f3⟩ := k.slot hs
  subst f2
  rw [Is] at f3
  obtain ⟨s, vs, rfl, g1, g2⟩ := f3
  have ev : vs = ns.map V.int := by
    clear g1 hs hl hz hb f1
    induction ns generalizing vs with
    | nil => simpa [IsA] using g2
    | cons a r ih =>
      rw [List.map_cons, IsA] at g2
      obtain ⟨v, w, rfl, h1, h2⟩ := g2
      rw [Is.v_iff.mp h1, ih w h2]
      rfl
  subst ev
  refine ⟨_, f1, s, ns, rfl, hd_ex.l g1, hl, hz, k.tb, fun p a H1 hp ha hpa e t hp1 ha1 => ⟨p, rfl, ⟨_, SqL.of hp1⟩, ?_⟩⟩
  have np : some p ∉ os := fun z => by
    obtain ⟨o, q, n⟩ := (k.fr p z).2
    exact hp o q n
  have npO : p ∉ C.O := fun z => by
    obtain ⟨o, q, n⟩ := k.ol p z
    exact hp o q n
  -- the heap without the dice
  let G : Hp := fun b => if b = a then none else H1 b
  have gne : ∀ b, b ≠ a → G b = H1 b := fun b z => if_neg z
  have gG : upd G a (.lst (mkDice (ns.headD 0)).vs) = H1 := by
    funext b
    by_cases z : b = a
    · rw [z, upd_same, ha1]
    · rw [upd_ne z, gne b z]
  have eG : Ex H G := fun b o h n => by
    rw [gne b (fun z => by rw [z] at h; exact ha o h n)]
    exact e b o h n
  have tG : LamX.Tabs C.T G := fun q hq => by
    obtain ⟨qs, h1, h2, h3⟩ := t q hq
    refine ⟨qs, ?_, h2, fun pos cv hc => ?_⟩
    · rw [gne _ (ne_of h1 ha1 fun z => by cases z)]
      exact h1
    · obtain ⟨c, e1, e2⟩ := h3 pos cv hc
      refine ⟨c, e1, ?_⟩
      rw [gne _ (ne_of e2 ha1 fun z => by unfold LamX.CodeO at z; cases z)]
      exact e2
  have k1 := k.mono eG tG
  have k2 := k1.newO (i := j) (p := a) (if_pos rfl) (ds_of (d := mkDice (ns.headD 0)))
  rw [gG] at k2
  have g1 : Gr C.O os H (os ++ [some a]) H1 := by
    refine ⟨?_, fun b hb => ?_, fun k x h => by rw [List.getElem?_append_left (List.getElem?_eq_some_iff.mp h).1]; exact h⟩
    · have := hd_mono (O := hid C.O os) eG
      rw [← gG, Rh_app (show G a = none from if_pos rfl)]
      exact this
    · obtain ⟨o, q, n⟩ := k.ol b hb
      rw [q, e b o q n]
  have pH : p ∉ hid C.O (os ++ [some a]) := fun z => by
    rcases mem_hid.mp z with z | z
    · exact npO z
    · rcases List.mem_append.mp z with z | z
      · exact np z
      · simp at z; exact hpa z
  refine for_list (K := C.K) (a := p) (xs := [V.ref a]) (fun i σ' H' => SqL C.K H' p [V.ref a] ∧ ((i = 0 ∧ σ' = σ ∧ H' = H1) ∨ (i = 1 ∧ D.nx σ' H'))) ⟨SqL.of hp1, .inl ⟨rfl, rfl, rfl⟩⟩ (fun i σ' H' _ h => h.1) ?_ ?_
  · rintro i x σ' H' hx ⟨_, h⟩
    rcases h with ⟨rfl, rfl, rfl⟩ | ⟨rfl, _⟩
    · cases hx
      have here : ∀ {os3 H3}, Gs C.O (os ++ [some a]) H' os3 H3 → SqL C.K H3 p [V.ref a] := fun {os3 H3} g => SqL.of (hd_ex p _ (g.e p _ (by
        show hd _ H' p = _
        rw [hd_of pH]
        exact hp1) nt_l) nt_l)
      exact hb _ _ H' _ k2 ⟨fun os3 A3 σ3 H3 h k3 g3 => ⟨here g3, .inr ⟨rfl, T.nx os3 A3 σ3 H3 h k3 (g1.s.trans g3)⟩⟩, fun os3 A3 σ3 d v H3 h k3 g3 i3 => T.rt os3 A3 σ3 d v H3 h k3 (g1.s.trans g3) i3, fun os3 A3 σ3 H3 h k3 g3 => T.nx os3 A3 σ3 H3 h k3 (g1.s.trans g3), fun os3 A3 σ3 H3 h k3 g3 => ⟨here g3, .inr ⟨rfl, T.nx os3 A3 σ3 H3 h k3 (g1.s.trans g3)⟩⟩, T.er⟩
    · cases hx
  · rintro σ' H' ⟨_, h⟩
    rcases h with ⟨z, _⟩ | ⟨_, h⟩
    · cases z
    · exact h
end
theorem o_is {C : Ct} {r : R2} {x y z z' : Dt} (h : OpS C r x y z) (e : z = z') : OpS C r x y z' := by rw [← e]; exact h
/-! ### a new list handed back; a list of one's own as a parameter -/
theorem flat_isA {K : Frg} {H : Hp} : ∀ {vs : List V}, IsA K H (vs.map .v) vs
  | [] => isA_nil
  | _ :: _ => isA_cons is_v flat_isA
theorem flat_eq {K : Frg} {H : Hp} : ∀ {vs ws : List V}, IsA K H (vs.map .v) ws → ws = vs
  | [], ws, h => by rw [List.map_nil, IsA] at h; exact h
  | v :: r, ws, h => by
    rw [List.map_cons, IsA] at h
    obtain ⟨u, w, rfl, h1, h2⟩ := h
    rw [Is.v_iff.mp h1, flat_eq h2]
theorem start_flat {K : Frg} {T : List (Addr × Str)} {N : List Str} {vs : List V} {H : Hp} (ht : LamX.Tabs T H) : Ok ⟨K, T, H, []⟩ [] (start N (vs.map .v)) (L2.start N vs) H := start_ok (fun a h => by cases h) ht flat_isA
/-- return [..] of flat values: a new list -/
theorem ret_newL {K : Frg} {T : List (Addr × Str)} {H H1 : Hp} {A A1 : AS} {os : List (Option Addr)} {σ : Sg} {tl : TA} {xs : List V} {Q : VK} {D : Ends} {ds : List Dt} (k : Ok ⟨K, T, H, []⟩ os A σ H1) (h : EvA ⟨K, T, H, []⟩ tl A ds A1) (hl : xs.length ≤ 100000) (hd : ds = xs.map .v) (hD : D.rt = Q)
    (q : ∀ a H', Fr0 H a → Ex H H' → LamX.Tabs T H' → H' a = some (.lst xs) → Q (.ref a) H') : tRet (tLst tl) D σ H1 := by
  show tLst tl σ H1 D.rt
  rw [hD]
  refine h os σ H1 k _ fun os2 vs H2 k2 g2 i2 => ?_
  subst hd
  rw [flat_eq i2]
  refine ⟨Nat.le_trans hl (by decide), fun p hp => q p _ (fun o e n => ?_) (k2.ex.trans (Ex.new hp)) (tabs_new k2.tb hp) upd_same⟩
  have := k2.ex p o e n
  rw [hp] at this
  cases this
/-- the entry where the first parameter is a list that the def changes -/
theorem start_own {K : Frg} {T : List (Addr × Str)} {N : List Str} {a : Addr} {xs ws : List V} {H : Hp} (ht : LamX.Tabs T H) (ha : H a = some (.lst xs)) :
    Ok ⟨K, T, fun b => if b = a then none else H b, []⟩ [some a] ⟨.own 0 :: (ws.map fun v => SD.d (.v v)) ++ List.replicate (N.length - (ws.length + 1)) .un, [.lst (xs.map .v)]⟩ (L2.start N (.ref a :: ws)) H := by
  refine ⟨fun b o e n => ?_, ht, fun b h => (by cases h), fun b h => (by cases h), rfl, fun i j b h1 h2 => ?_, fun b h => ?_, ?_, fun i s o h1 h2 => ?_, fun i s o h1 h2 => ?_⟩
  · have e : (if b = a then none else H b) = some o := e
    split at e
    · cases e
    · exact e
  · cases i with
    | succ i => simp at h1
    | zero =>
      cases j with
      | succ j => simp at h2
      | zero => rfl
  · simp at h
    subst h
    refine ⟨fun o e => ?_, _, ha, nt_l⟩
    have e : (if b = b then none else H b) = some o := e
    rw [if_pos rfl] at e
    cases e
  · simp [L2.start]
  · cases i with
    | zero =>
      simp [L2.start] at h1 h2
      subst h1 h2
      exact ⟨a, rfl, rfl⟩
    | succ i =>
      have h1 : ((ws.map fun v => SD.d (.v v)) ++ List.replicate (N.length - (ws.length + 1)) SD.un)[i]? = some s := by simpa using h1
      have h2 : (ws.map some ++ List.replicate (N.length - (ws.length + 1)) none)[i]? = some o := by simpa [L2.start] using h2
      rw [List.getElem?_append] at h1 h2
      simp only [List.length_map] at h1 h2
      split at h1
      · rename_i q
        rw [if_pos q] at h2
        rw [List.getElem?_map] at h1 h2
        cases e1 : ws[i]? with
        | none => rw [e1] at h1; cases h1
        | some v =>
          rw [e1] at h1 h2
          cases h1; cases h2
          exact ⟨v, rfl, is_v⟩
      · rw [List.getElem?_replicate] at h1
        split at h1
        · cases h1; exact True.intro
        · cases h1
  · cases i with
    | zero =>
      simp at h1 h2
      subst h1 h2
      exact ⟨a, xs, rfl, ha, flat_isA⟩
    | succ i => simp at h1
end Py
end

section
set_option Elab.async false
set_option linter.all false
set_option maxRecDepth 100000
set_option maxHeartbeats 4000000
set_option autoImplicit false
namespace Py
open PySem PySem.Spec PyProof.Rows L2
/-! ### parts of lists -/
def EvO (C : Ct) (t : TO) (A : AS) (o : Option Int) (A1 : AS) : Prop := ∀ os σ H, Ok C os A σ H → ∀ Q, (∀ os' H', Ok C os' A1 σ H' → Gr C.O os H os' H' → Q o H') → t σ H Q
def cutL (xs : List Dt) (lo hi : Option Int) : List Dt := (xs.drop (HT.sIx xs.length 0 lo)).take (HT.sIx xs.length xs.length hi - HT.sIx xs.length 0 lo)
section
variable {C : Ct} {E : XK} {A A1 A2 A3 : AS} {te ti : TE} {tl th : TO} {d : Dt} {P : Po} {lo hi : Option Int} {xs : List Dt}
theorem o_no : EvO C tNoPart A none A := fun os σ H k Q q => q os H k (Gr.refl)
theorem o_part {i : Int} (h : EvS C te A (di i) A1) : EvO C (tPart te) A (some i) A1 := fun os σ H k Q q =>
  h os σ H k _ fun os1 v H1 k1 e1 i1 => ⟨i, Is.v_iff.mp i1, q os1 H1 k1 e1⟩
theorem isA_cutL {K : Frg} {H : Hp} {vs : List V} (h : IsA K H xs vs) : IsA K H (cutL xs lo hi) (cutV vs lo hi) := by
  unfold cutL cutV
  rw [isA_len h]
  exact isA_cut _ _ h
/-- xs[lo:hi] -/
theorem e_slL (h : EvS C te A (.lst xs) A1) (h1 : EvO C tl A1 lo A2) (h2 : EvO C th A2 hi A3) : EvS C (tSl (rSlL C.K) te tl th) A (.lst (cutL xs lo hi)) A3 := fun os σ H k Q q =>
  h os σ H k _ fun os1 v H1 k1 e1 i1 => h1 os1 σ H1 k1 _ fun os2 H2 k2 e2 => h2 os2 σ H2 k2 _ fun os3 H3 k3 e3 => by
    have i3 := Is.mono (e2.e.trans e3.e) _ _ i1
    rw [Is] at i3
    obtain ⟨a, vs, rfl, g1, g2⟩ := i3
    refine ⟨a, vs, rfl, hd_ex.l g1, fun p hp => q os3 _ _ (k3.monoN hp) ((e1.trans (e2.trans e3)).trans (k3.gr (Ex.new hp))) ?_⟩
    rw [Is]
    exact ⟨p, _, rfl, SqL.of (k3.fresh hp), IsA.mono (hd_mono (Ex.new hp)) _ _ (isA_cutL g2)⟩
end
theorem seq_last {a b c : TS} {D : Ends} {σ : Sg} {H : Hp} (h : tSeq a (tSeq b tNext) { D with nx := c D } σ H) : tSeq a (tSeq b c) D σ H := h
/-- return [dice(cell) for cell in cells], cells of one cell -/
theorem ret_dice {K : Frg} {T : List (Addr × Str)} {H H1 : Hp} {A : AS} {os : List (Option Addr)} {σ : Sg} {Q : VK} {D : Ends} {c : Int} {i j : Nat} {E' : XK} (k : Ok ⟨K, T, H, []⟩ os A σ H1) (hA : A.sl[i]? = some (.d (.lst [di c]))) (hz : Sz 1048576 c) (hij : i ≠ j) (hj : j < σ.length) (hD : D.rt = Q)
    (q : ∀ p a H', Fr0 H p → Fr0 H a → p ≠ a → Ex H H' → LamX.Tabs T H' → H' p = some (.lst [.ref a]) → H' a = some (.lst (mkDice c).vs) → Q (.ref p) H') : tRet (tLc (iList K (tVar i)) (gName j) tYes (tCall (spDice K T) [] E' (tCons (tVar j) tNil)) [j]) D σ H1 := by
  show tLc _ _ _ _ _ σ H1 D.rt
  rw [hD]
  obtain ⟨o, f1, v, f2, f3⟩ := k.slot hA
  subst f2
  rw [Is] at f3
  obtain ⟨s, vs, rfl, g1, g2⟩ := f3
  have ev : vs = [V.int c] := flat_eq (vs := [V.int c]) g2
  subst ev
  refine ⟨_, f1, s, rfl, ⟨_, hd_ex.l g1⟩, fun p hp => ?_⟩
  refine lc_list (K := K) (a := s) (xs := [V.int c]) (fun i H' => (i = 0 ∧ H' = upd H1 p (.lst [])) ∨ (i = 1 ∧ ∃ a, Fr0 H p ∧ Fr0 H a ∧ p ≠ a ∧ Ex H H' ∧ LamX.Tabs T H' ∧ H' p = some (.lst [.ref a]) ∧ H' a = some (.lst (mkDice c).vs) ∧ SqL K H' s [V.int c])) (.inl ⟨rfl, rfl⟩) ?_ ?_ ?_
  · rintro i H' _ (⟨rfl, rfl⟩ | ⟨rfl, a, _, _, _, _, _, _, _, h⟩)
    · exact (Ex.new hp).l (hd_ex.l g1)
    · exact h
  · rintro i x H' hx (⟨rfl, rfl⟩ | ⟨rfl, _⟩)
    · cases hx
      have h1p : (wipe σ [j])[j]? = some none := wipe_in (List.mem_cons_self ..) hj
      refine ⟨(wipe_eq (by simp) fun i hi => List.getElem?_set_ne fun z => hi (by rw [← z]; exact List.mem_cons_self ..)).trans wipe_wipe, ?_⟩
      · unfold tYes
        dsimp only
        rw [if_pos rfl]
        refine ⟨_, ?_, c, rfl, hz, tabs_new k.tb hp, fun a H2 fa e t ha => ?_⟩
        · rw [List.getElem?_set_self (by rw [wipe_length]; exact hj)]
        have np : upd H1 p (.lst []) p = some (.lst []) := upd_same
        have pa : p ≠ a := fun z => fa _ (by rw [← z]; exact np) nt_l
        have ex1 : Ex H1 (upd H2 p (.lst [.ref a])) := fun b o hb n => by
          have nb : b ≠ p := fun z => by rw [z, hp] at hb; cases hb
          rw [upd_ne nb]
          exact e b o (by rw [upd_ne nb]; exact hb) n
        have hH2 : H2 p = some (.lst []) := e p _ np nt_l
        refine ⟨[], hH2, by show 0 < sizeLine; decide, .inr ⟨rfl, a, fun o h n => ?_, fun o h n => ?_, pa, k.ex.trans ex1, ?_, upd_same, ?_, ex1.l (hd_ex.l g1)⟩⟩
        · have := k.ex p o h n
          rw [hp] at this
          cases this
        · have q1 := k.ex a o h n
          exact fa o (by rw [upd_ne fun z => pa z.symm]; exact q1) n
        · intro q hq
          obtain ⟨qs, h1, h2, h3⟩ := t q hq
          refine ⟨qs, ?_, h2, fun pos cv hc => ?_⟩
          · rw [upd_ne (ne_of h1 hH2 fun z => by cases z)]
            exact h1
          · obtain ⟨c, e1, e2⟩ := h3 pos cv hc
            refine ⟨c, e1, ?_⟩
            rw [upd_ne (ne_of e2 hH2 fun z => by unfold LamX.CodeO at z; cases z)]
            exact e2
        · rw [upd_ne fun z => pa z.symm]
          exact ha
    · cases hx
  · rintro H' (⟨z, _⟩ | ⟨_, a, h1, h2, h3, h4, h5, h6, h7, _⟩)
    · cases z
    · exact q p a H' h1 h2 h3 h4 h5 h6 h7
end Py
end

section
set_option linter.all false
set_option autoImplicit false
/-! Mathematics of whole numbers. -/
namespace Mt
/-- Euclid's steps with factors -/
theorem fmod_lt {a b : Int} (h : b ≠ 0) : (a - a.fdiv b * b).natAbs < b.natAbs := by
  have e : a - a.fdiv b * b = a.fmod b := by rw [Int.fmod_def, Int.mul_comm]
  rw [e]
  rcases Int.lt_or_gt_of_ne h with h | h
  · have e2 : a.fmod b = -((-a).fmod (-b)) := by rw [Int.neg_fmod_neg]; omega
    have h1 := Int.fmod_nonneg_of_pos (-a) (show 0 < -b by omega)
    have h2 := Int.fmod_lt_of_pos (-a) (show 0 < -b by omega)
    omega
  · have h1 := Int.fmod_nonneg_of_pos a h
    have h2 := Int.fmod_lt_of_pos a h
    omega
theorem fdiv_abs_le (a b : Int) : (a.fdiv b).natAbs ≤ a.natAbs := by
  by_cases hb : b = 0
  · subst hb
    simp
  · have h1 := fmod_lt (a := a) hb
    have key : ∀ a b : Int, 0 < b → (a.fdiv b).natAbs ≤ a.natAbs := by
      intro a b hb
      rw [Int.fdiv_eq_ediv_of_nonneg a (by omega)]
      rcases Int.le_total 0 a with h | h
      · have h1 := Int.ediv_nonneg h (show 0 ≤ b by omega)
        have h2 := Int.ediv_le_self b h
        omega
      · have h1 : a / b ≤ 0 := by
          have := Int.ediv_le_ediv hb h
          simpa using this
        have h2 : a ≤ a / b := by
          have e := Int.mul_ediv_add_emod a b
          have l := Int.emod_nonneg a (show b ≠ 0 by omega)
          have q : b * (a / b) ≤ 1 * (a / b) := Int.mul_le_mul_of_nonpos_right (by omega) h1
          have l2 := Int.emod_lt_of_pos a hb
          rcases Int.lt_or_le (a / b) a with z | z
          · have : b * (a / b + 1) ≤ b * a := Int.mul_le_mul_of_nonneg_left (by omega) (by omega)
            have : b * a ≤ 1 * a := Int.mul_le_mul_of_nonpos_right (by omega) h
            grind
          · exact z
        omega
    rcases Int.lt_or_gt_of_ne hb with h | h
    · have := key (-a) (-b) (by omega)
      rw [Int.neg_fdiv_neg, Int.natAbs_neg] at this
      exact this
    · exact key a b h
structure B6 where
  f : Int
  a : Int
  b : Int
  r : Int
  c : Int
  d : Int
def B6.step (s : B6) : B6 := ⟨s.r, s.c, s.d, s.f - s.f.fdiv s.r * s.r, s.a - s.f.fdiv s.r * s.c, s.b - s.f.fdiv s.r * s.d⟩
def bezGo (s : B6) : B6 := if h : s.r = 0 then s else bezGo s.step
termination_by s.r.natAbs
decreasing_by exact fmod_lt h
def bez (x y : Int) : Int × Int × Int :=
  let s := bezGo ⟨x, 1, 0, y, 0, 1⟩
  if s.f < 0 then (-s.f, -s.a, -s.b) else (s.f, s.a, s.b)
theorem bezGo_done {s : B6} (h : s.r = 0) : bezGo s = s := by rw [bezGo, dif_pos h]
theorem bezGo_step {s : B6} (h : s.r ≠ 0) : bezGo s = bezGo s.step := by rw [bezGo, dif_neg h]
/-- what holds between the steps -/
structure BI (x y : Int) (s : B6) : Prop where
  e1 : x * s.a + y * s.b = s.f
  e2 : x * s.c + y * s.d = s.r
  g : Int.gcd s.f s.r = Int.gcd x y
theorem BI.start (x y : Int) : BI x y ⟨x, 1, 0, y, 0, 1⟩ := ⟨by simp, by simp, rfl⟩
theorem BI.step {x y : Int} {s : B6} (h : BI x y s) : BI x y s.step := by
  refine ⟨h.e2, ?_, ?_⟩
  · show x * (s.a - s.f.fdiv s.r * s.c) + y * (s.b - s.f.fdiv s.r * s.d) = s.f - s.f.fdiv s.r * s.r
    have h1 := h.e1
    have h2 := h.e2
    generalize s.f.fdiv s.r = t at *
    grind
  · show Int.gcd s.r (s.f - s.f.fdiv s.r * s.r) = Int.gcd x y
    rw [← h.g, Int.gcd_comm s.r, Int.gcd_sub_mul_right_left]
theorem abs_sub_mul {a c t : Int} (h : a * c ≤ 0) (ht : 0 ≤ t) : (a - t * c).natAbs = a.natAbs + t.natAbs * c.natAbs := by
  rw [← Int.natAbs_mul]
  rcases Int.lt_trichotomy a 0 with ha | ha | ha
  · have hc : 0 ≤ c := by
      rcases Int.lt_or_le c 0 with z | z
      · have := Int.mul_pos_of_neg_of_neg ha z
        omega
      · exact z
    have := Int.mul_nonneg ht hc
    omega
  · subst ha
    omega
  · have hc : c ≤ 0 := by
      rcases Int.lt_or_le 0 c with z | z
      · have := Int.mul_pos ha z
        omega
      · exact z
    have := Int.mul_nonpos_of_nonneg_of_nonpos ht hc
    omega
theorem fdiv_same {f r : Int} (h : 0 ≤ f * r) (hr : r ≠ 0) : 0 ≤ f.fdiv r ∧ (f - f.fdiv r * r).natAbs + (f.fdiv r).natAbs * r.natAbs = f.natAbs ∧ 0 ≤ r * (f - f.fdiv r * r) := by
  have key : ∀ f r : Int, 0 ≤ f → 0 < r → 0 ≤ f.fdiv r ∧ (f - f.fdiv r * r).natAbs + (f.fdiv r).natAbs * r.natAbs = f.natAbs ∧ 0 ≤ r * (f - f.fdiv r * r) := by
    intro f r hf hr
    have h1 : 0 ≤ f.fdiv r := Int.fdiv_nonneg hf (by omega)
    have h2 : f - f.fdiv r * r = f.fmod r := by rw [Int.fmod_def, Int.mul_comm]
    have h3 := Int.fmod_nonneg_of_pos f hr
    have h4 : 0 ≤ f.fdiv r * r := Int.mul_nonneg h1 (by omega)
    refine ⟨h1, ?_, ?_⟩
    · rw [← Int.natAbs_mul]
      omega
    · rw [h2]
      exact Int.mul_nonneg (by omega) h3
  rcases Int.lt_or_gt_of_ne hr with z | z
  · have hf : f ≤ 0 := by
      rcases Int.lt_or_le 0 f with q | q
      · have := Int.mul_neg_of_pos_of_neg q z
        omega
      · exact q
    obtain ⟨h1, h2, h3⟩ := key (-f) (-r) (by omega) (by omega)
    rw [Int.neg_fdiv_neg] at h1 h2 h3
    refine ⟨h1, ?_, ?_⟩
    · have e : -f - f.fdiv r * -r = -(f - f.fdiv r * r) := by grind
      rw [e, Int.natAbs_neg, Int.natAbs_neg, Int.natAbs_neg] at h2
      exact h2
    · have e : -r * (-f - f.fdiv r * -r) = r * (f - f.fdiv r * r) := by grind
      rw [e] at h3
      exact h3
  · have hf : 0 ≤ f := by
      rcases Int.lt_or_le f 0 with q | q
      · have := Int.mul_neg_of_neg_of_pos q z
        omega
      · exact q
    exact key f r hf z
/-- sizes behind the first step -/
structure BS (y : Int) (s : B6) : Prop where
  f0 : s.f ≠ 0
  sg : 0 ≤ s.f * s.r
  ac : s.a * s.c ≤ 0
  n : s.f.natAbs * s.c.natAbs + s.r.natAbs * s.a.natAbs = y.natAbs
  fy : s.f.natAbs ≤ y.natAbs
  rf : s.r.natAbs < s.f.natAbs
  aa : s.a.natAbs ≤ y.natAbs
theorem BS.cc {y : Int} {s : B6} (h : BS y s) : s.c.natAbs ≤ y.natAbs := by
  have h1 : 1 * s.c.natAbs ≤ s.f.natAbs * s.c.natAbs := Nat.mul_le_mul_right _ (by have := h.f0; omega)
  have := h.n
  omega
theorem BS.step {y : Int} {s : B6} (h : BS y s) (hr : s.r ≠ 0) : BS y s.step := by
  obtain ⟨h1, h2, h3⟩ := fdiv_same h.sg hr
  have h4 := abs_sub_mul h.ac h1
  refine ⟨hr, h3, ?_, ?_, Nat.le_trans (Nat.le_of_lt h.rf) h.fy, fmod_lt hr, h.cc⟩
  · show s.c * (s.a - s.f.fdiv s.r * s.c) ≤ 0
    have e : s.c * (s.a - s.f.fdiv s.r * s.c) = s.a * s.c - s.f.fdiv s.r * (s.c * s.c) := by grind
    have q : 0 ≤ s.c * s.c := by
      rcases Int.le_total 0 s.c with z | z
      · exact Int.mul_nonneg z z
      · exact Int.mul_nonneg_of_nonpos_of_nonpos z z
    have := Int.mul_nonneg h1 q
    have := h.ac
    omega
  · show s.r.natAbs * (s.a - s.f.fdiv s.r * s.c).natAbs + (s.f - s.f.fdiv s.r * s.r).natAbs * s.c.natAbs = y.natAbs
    have := h.n
    rw [h4]
    generalize (s.f - s.f.fdiv s.r * s.r).natAbs = m at *
    generalize (s.f.fdiv s.r).natAbs = t at *
    rw [← this, ← h2]
    grind
theorem BS.first {x y : Int} (hy : y ≠ 0) : BS y (B6.step ⟨x, 1, 0, y, 0, 1⟩) := by
  refine ⟨hy, ?_, ?_, ?_, Nat.le_refl _, fmod_lt hy, Nat.zero_le _⟩
  · show 0 ≤ y * (x - x.fdiv y * y)
    have e : x - x.fdiv y * y = x.fmod y := by rw [Int.fmod_def, Int.mul_comm]
    rw [e]
    rcases Int.lt_or_gt_of_ne hy with h | h
    · have e2 : x.fmod y = -((-x).fmod (-y)) := by rw [Int.neg_fmod_neg]; omega
      have h1 := Int.fmod_nonneg_of_pos (-x) (show 0 < -y by omega)
      exact Int.mul_nonneg_of_nonpos_of_nonpos (by omega) (by omega)
    · exact Int.mul_nonneg (by omega) (Int.fmod_nonneg_of_pos x h)
  · show (0 : Int) * (1 - x.fdiv y * 0) ≤ 0
    omega
  · show y.natAbs * (1 - x.fdiv y * 0).natAbs + (x - x.fdiv y * y).natAbs * (0 : Int).natAbs = y.natAbs
    simp
/-- all sizes, at every state -/
structure BZ (n : Nat) (s : B6) : Prop where
  f : s.f.natAbs < 2 ^ n
  r : s.r.natAbs < 2 ^ n
  a : s.a.natAbs < 2 ^ n
  c : s.c.natAbs < 2 ^ n
  b : s.b.natAbs < 2 ^ (2 * n + 1)
  d : s.d.natAbs < 2 ^ (2 * n + 1)
theorem co_bound {x y a b f : Int} {n : Nat} (hy : y ≠ 0) (e : x * a + y * b = f) (hx : x.natAbs < 2 ^ n) (ha : a.natAbs < 2 ^ n) (hf : f.natAbs < 2 ^ n) : b.natAbs < 2 ^ (2 * n + 1) := by
  have e1 : y * b = f - x * a := by omega
  have e2 : y.natAbs * b.natAbs = (f - x * a).natAbs := by rw [← e1, Int.natAbs_mul]
  have h1 : (f - x * a).natAbs ≤ f.natAbs + x.natAbs * a.natAbs := by
    rw [← Int.natAbs_mul]; omega
  have h2 : 1 * b.natAbs ≤ y.natAbs * b.natAbs := Nat.mul_le_mul_right _ (by omega)
  have h3 : x.natAbs * a.natAbs < 2 ^ n * 2 ^ n := Nat.mul_lt_mul'' hx ha
  have h4 : 2 ^ (2 * n + 1) = 2 ^ n * 2 ^ n + 2 ^ n * 2 ^ n := by
    rw [show 2 * n + 1 = n + n + 1 by omega, Nat.pow_succ, Nat.pow_add]; omega
  have h5 : 2 ^ n * 1 ≤ 2 ^ n * 2 ^ n := Nat.mul_le_mul_left _ (Nat.one_le_two_pow)
  omega
theorem BS.sizes {x y : Int} {s : B6} {n : Nat} (h : BS y s) (i : BI x y s) (hy : y ≠ 0) (hx : x.natAbs < 2 ^ n) (hn : y.natAbs < 2 ^ n) : BZ n s := by
  have hc := h.cc
  have hf := h.fy
  have hr := h.rf
  have ha := h.aa
  exact ⟨by omega, by omega, by omega, by omega, co_bound hy i.e1 hx (by omega) (by omega), co_bound hy i.e2 hx (by omega) (by omega)⟩
/-- every state that the loop meets -/
inductive BR (x y : Int) : B6 → Prop
  | start : BR x y ⟨x, 1, 0, y, 0, 1⟩
  | step {s : B6} : BR x y s → s.r ≠ 0 → BR x y s.step
theorem BR.bi {x y : Int} {s : B6} (h : BR x y s) : BI x y s := by
  induction h with
  | start => exact BI.start x y
  | step _ _ ih => exact ih.step
theorem BR.bs {x y : Int} {s : B6} (h : BR x y s) : s = ⟨x, 1, 0, y, 0, 1⟩ ∨ (y ≠ 0 ∧ BS y s) := by
  induction h with
  | start => exact .inl rfl
  | step h0 hr ih =>
    rcases ih with e | ⟨hy, b⟩
    · subst e
      exact .inr ⟨hr, BS.first hr⟩
    · exact .inr ⟨hy, b.step hr⟩
theorem BR.sizes {x y : Int} {s : B6} {n : Nat} (h : BR x y s) (h0 : 0 < n) (hx : x.natAbs < 2 ^ n) (hy : y.natAbs < 2 ^ n) : BZ n s := by
  have p : 1 < 2 ^ n := Nat.one_lt_two_pow (by omega)
  have p2 : 1 < 2 ^ (2 * n + 1) := Nat.one_lt_two_pow (by omega)
  rcases h.bs with e | ⟨hn, b⟩
  · subst e
    exact ⟨hx, hy, p, by show 0 < 2 ^ n; omega, by show 0 < 2 ^ (2 * n + 1); omega, p2⟩
  · exact b.sizes h.bi hn hx hy
theorem bezGo_end : ∀ (s : B6), (bezGo s).r = 0
  | s => by
    rw [bezGo]
    split
    · assumption
    · exact bezGo_end s.step
termination_by s => s.r.natAbs
decreasing_by exact fmod_lt (by assumption)
theorem BR.go {x y : Int} : ∀ {s : B6}, BR x y s → BR x y (bezGo s)
  | s, h => by
    rw [bezGo]
    split
    · exact h
    · rename_i hr
      exact BR.go (h.step hr)
termination_by s => s.r.natAbs
decreasing_by exact fmod_lt (by assumption)
theorem bez_eq (x y : Int) : x * (bez x y).2.1 + y * (bez x y).2.2 = (bez x y).1 ∧ (bez x y).1 = Int.gcd x y := by
  have h := (BR.start (x := x) (y := y)).go.bi
  have h0 := bezGo_end ⟨x, 1, 0, y, 0, 1⟩
  have g := h.g
  rw [h0, Int.gcd_zero_right] at g
  have e := h.e1
  unfold bez
  dsimp only
  split
  · constructor
    · dsimp only
      grind
    · dsimp only
      omega
  · exact ⟨e, by dsimp only; omega⟩
end Mt
end

section
set_option Elab.async false
set_option linter.all false
set_option maxRecDepth 100000
set_option maxHeartbeats 4000000
set_option autoImplicit false
namespace Py
open PySem PySem.Spec PyProof.Rows L2
/-- as mkG, for a def with defaults whose callers give all -/
theorem mkGD {P : Program} {w : World} {K : Frg} {T : List (Addr × Str)} {mg : Str → Option Value} {base : Heap} {f : Str} {st : Stmt} {N ps : List Str} {k : Nat} {g : List Dt → Rs → Prop} {a : Addr} {dvs : List V}
    (F : ∃ fd, FunD K f f (defArgs st) (defBody st) (defScope st) dvs [] a fd) (hm : mg f = some (.ref a)) (hd : dvs ≠ []) (S : FnScope N ps (defScope st))
    (hb : ∀ (T : Addr) (kV doc pm : Value) (an : Option Addr) (cdv ct : Value) (us its : List Value), us.length = ps.length → its.length = dvs.length →
      ∃ k, bindArgs (PySem.W.fnOf f f (defArgs st) (defBody st) (defScope st) (.ref T) kV doc pm an cdv ct) ⟨us, []⟩ = seqItems? (.ref T) >>= k ∧ k (some its.toArray) = pure (ps.zip (us ++ its.drop dvs.length)))
    (len : ∀ ds r, g ds r → ds.length = ps.length)
    (hbody : ∀ (cdv : Value) (A : Around) (outer : List Env) (s : Shared) (H : Hp) (E : XK), Room k (A.deeper (envOfC f (defScope st) s.heap.objs.size a cdv)) →
      ∃ t, PSs (cxOf (L2.CX P w) P w K mg base N f (defScope st) a cdv A outer s H E) (defBody st) t ∧ ∀ O ds r, g ds r → RunS ⟨K, T, H, O⟩ E t (start N ds) (poR r)) : Gd P w K mg base f ps (k + 1) (spD K T g) := by
  obtain ⟨fd, F⟩ := F
  obtain ⟨ds, hv, hB⟩ := F.binds1 (ps := ps) ps.length dvs.length hd (by omega) hb
  rw [List.drop_length] at hv
  cases hv
  refine ⟨a, fd, F.ok S (fun vs H Q E h => spD_len len vs H Q E h) (fun cdv A outer s H vs Q E hr h => ?_), hB, F.kp, hm⟩
  obtain ⟨t, ht, run⟩ := hbody cdv A outer s H E hr
  exact ⟨t, ht, fin h run⟩
/-- return f(..): what f gives or raises -/
theorem r_retCall {C : Ct} {E : XK} {A A1 : AS} {g : List Dt → Rs → Prop} {tl : TA} {ds : List Dt} {r : Rs} (ha : EvA C tl A ds A1) (hg : g ds r) : RunS C E (tRet (tCall (spD C.K C.T g) [] E tl)) A (poR r) := by
  cases r with
  | ok d => exact r_ret (e_call ha hg) rfl
  | err c => exact x_ret (x_call ha hg) rfl
/-! ### fractions -/
abbrev fr (p : Int × Int) : Dt := .tup [di p.1, di p.2]
/-- in lowest terms, the lower part above 0 (b ≠ 0) -/
def ratI (a b : Int) : Int × Int := if b < 0 then (a.fdiv (-(Int.gcd a b : Int)), b.fdiv (-(Int.gcd a b : Int))) else (a.fdiv (Int.gcd a b), b.fdiv (Int.gcd a b))
def ratR (e : Addr) (a b : Int) : Rs := if b = 0 then .err e else .ok (fr (ratI a b))
structure SzF (n : Nat) (p : Int × Int) : Prop where
  a : Sz n p.1
  b : Sz n p.2
theorem gcd_sz {n : Nat} {a b : Int} (hb : b ≠ 0) (h : Sz n b) : Sz n (Int.gcd a b : Int) := by
  unfold Sz at *
  have h1 : Int.gcd a b ≤ b.natAbs := Nat.le_of_dvd (by omega) (Int.gcd_dvd_natAbs_right a b)
  omega
theorem gcd_ne {a b : Int} (hb : b ≠ 0) : (Int.gcd a b : Int) ≠ 0 := by
  have := Int.gcd_pos_of_ne_zero_right a hb
  omega
theorem at0 {a b : Dt} : atI [a, b] 0 = some a := rfl
theorem at1 {a b : Dt} : atI [a, b] 1 = some b := rfl
end Py
end

section
set_option Elab.async false
set_option linter.all false
set_option maxRecDepth 100000
set_option maxHeartbeats 4000000
set_option autoImplicit false
set_option exponentiation.threshold 100
namespace Py
open PySem PySem.Spec PyProof.Rows L2
/-- a fraction as data -/
def qp (q : Rat) : Int × Int := (q.num, (q.den : Int))
abbrev fq (q : Rat) : Dt := fr (qp q)
theorem dn0 (q : Rat) : ((q.den : Int) : Rat) ≠ 0 := by
  intro e
  have h : ((q.den : Int) : Rat) = ((0 : Int) : Rat) := e
  have := Rat.intCast_inj.mp h
  have := q.den_nz
  omega
theorem rdiv (q : Rat) : (q.num : Rat) / ((q.den : Int) : Rat) = q := by rw [← Rat.divInt_eq_div, Rat.num_divInt_den]
theorem ratI_eq {a b : Int} (hb : b ≠ 0) : ratI a b = qp ((a : Rat) / (b : Rat)) := by
  rw [qp, ← Rat.divInt_eq_div, Rat.num_divInt, Rat.den_divInt, if_neg hb, Int.gcd_comm b a]
  unfold ratI
  have g0 := gcd_ne (a := a) hb
  obtain ⟨x, hx⟩ := Int.gcd_dvd_left (a := a) (b := b)
  obtain ⟨y, hy⟩ := Int.gcd_dvd_right (a := a) (b := b)
  have hn : (b.natAbs : Int) / (Int.gcd a b : Int) = (y.natAbs : Int) := by
    have : b.natAbs = Int.gcd a b * y.natAbs := by rw (occs := .pos [1]) [hy]; rw [Int.natAbs_mul]; rfl
    rw [this, Int.natCast_mul, Int.mul_ediv_cancel_left _ g0]
  rw [Int.natCast_ediv, hn]
  have gp : 0 < (Int.gcd a b : Int) := by omega
  generalize (Int.gcd a b : Int) = g at *
  have e1 : a.fdiv g = x := by rw [hx]; exact Int.mul_fdiv_cancel_left _ g0
  have e2 : b.fdiv g = y := by rw [hy]; exact Int.mul_fdiv_cancel_left _ g0
  have e3 : a.fdiv (-g) = -x := by rw [hx, show g * x = (-g) * (-x) by grind]; exact Int.mul_fdiv_cancel_left _ (by omega)
  have e4 : b.fdiv (-g) = -y := by rw [hy, show g * y = (-g) * (-y) by grind]; exact Int.mul_fdiv_cancel_left _ (by omega)
  by_cases h : b < 0
  · rw [if_pos h, e3, e4, Int.sign_eq_neg_one_of_neg h, hx, show -1 * (g * x) = g * (-x) by grind, Int.mul_ediv_cancel_left _ g0]
    have : y < 0 := by
      refine Int.not_le.mp fun c => ?_
      have := Int.mul_nonneg (Int.le_of_lt gp) c
      omega
    rw [show (y.natAbs : Int) = -y by omega]
  · rw [if_neg h, e1, e2, Int.sign_eq_one_of_pos (by omega), hx, show 1 * (g * x) = g * x by grind, Int.mul_ediv_cancel_left _ g0]
    have : 0 ≤ y := by
      refine Int.not_lt.mp fun c => ?_
      have := Int.mul_neg_of_pos_of_neg gp c
      omega
    rw [show (y.natAbs : Int) = y by omega]
theorem den_ne (q : Rat) : (q.den : Int) ≠ 0 := by have := q.den_nz; omega
theorem mul_ne {a b : Int} (ha : a ≠ 0) (hb : b ≠ 0) : a * b ≠ 0 := fun e => by
  rcases Int.mul_eq_zero.mp e with h | h
  · exact ha h
  · exact hb h
theorem num_ne {q : Rat} (h : q ≠ 0) : q.num ≠ 0 := fun e => h (by have := rdiv q; rw [e] at this; rw [← this]; grind)
theorem q_sum (p q : Rat) : ratI (p.num * q.den + q.num * p.den) (p.den * q.den) = qp (p + q) := by
  rw [ratI_eq (mul_ne (den_ne p) (den_ne q))]
  have h1 := rdiv p
  have h2 := rdiv q
  have d1 := dn0 p
  have d2 := dn0 q
  have : ((p.num * q.den + q.num * p.den : Int) : Rat) / ((p.den * q.den : Int) : Rat) = p + q := by
    rw [Rat.intCast_add, Rat.intCast_mul, Rat.intCast_mul, Rat.intCast_mul]
    generalize ((p.den : Int) : Rat) = d at *
    generalize ((q.den : Int) : Rat) = e at *
    grind
  rw [this]
theorem q_mul (p q : Rat) : ratI (p.num * q.num) (p.den * q.den) = qp (p * q) := by
  rw [ratI_eq (mul_ne (den_ne p) (den_ne q))]
  have h1 := rdiv p
  have h2 := rdiv q
  have d1 := dn0 p
  have d2 := dn0 q
  have : ((p.num * q.num : Int) : Rat) / ((p.den * q.den : Int) : Rat) = p * q := by
    rw [Rat.intCast_mul, Rat.intCast_mul]
    generalize ((p.den : Int) : Rat) = d at *
    generalize ((q.den : Int) : Rat) = e at *
    grind
  rw [this]
theorem q_quo (p : Rat) {q : Rat} (h : q ≠ 0) : ratI (p.num * q.den) (p.den * q.num) = qp (p / q) := by
  rw [ratI_eq (mul_ne (den_ne p) (num_ne h))]
  have h1 := rdiv p
  have h2 := rdiv q
  have d1 := dn0 p
  have d2 := dn0 q
  have : ((p.num * q.den : Int) : Rat) / ((p.den * q.num : Int) : Rat) = p / q := by
    rw [Rat.intCast_mul, Rat.intCast_mul]
    generalize ((p.den : Int) : Rat) = d at *
    generalize ((q.den : Int) : Rat) = e at *
    grind
  rw [this]
theorem qp_inj {p q : Rat} (h : qp p = qp q) : p = q := by
  have h1 : p.num = q.num := congrArg Prod.fst h
  have h2 : (p.den : Int) = (q.den : Int) := congrArg Prod.snd h
  exact Rat.ext h1 (by omega)
/-- the size of a fraction's numbers -/
structure SzQ (n : Nat) (q : Rat) : Prop where
  a : q.num.natAbs < 2 ^ n
  b : q.den < 2 ^ n
end Py
namespace Py
open PySem PySem.Spec PyProof.Rows L2
/-- a def whose callers leave its last parameters out -/
structure GdD (P : Program) (w : World) (K : Frg) (mg : Str → Option Value) (base : Heap) (f : Str) (ps : List Str) (k : Nat) (dvs : List V) (sp : Sp) : Prop where
  ex : ∃ (a : Addr) (fd : FuncData) (ds : List Value), FnOk P w K mg base (L2.CX P w) k a fd ps sp ∧ Vals dvs ds ∧ Binds K fd ps ds ∧ PySem.W.keepIn K (.ref a) = true ∧ mg f = some (.ref a)
theorem mkGDD {P : Program} {w : World} {K : Frg} {T : List (Addr × Str)} {mg : Str → Option Value} {base : Heap} {f : Str} {st : Stmt} {N ps : List Str} {k : Nat} {g : List Dt → Rs → Prop} {a : Addr} {dvs : List V} (m : Nat) (hm' : m + dvs.length = ps.length)
    (F : ∃ fd, FunD K f f (defArgs st) (defBody st) (defScope st) dvs [] a fd) (hm : mg f = some (.ref a)) (hd : dvs ≠ []) (S : FnScope N ps (defScope st))
    (hb : ∀ (T : Addr) (kV doc pm : Value) (an : Option Addr) (cdv ct : Value) (us its : List Value), us.length = m → its.length = dvs.length →
      ∃ k, bindArgs (PySem.W.fnOf f f (defArgs st) (defBody st) (defScope st) (.ref T) kV doc pm an cdv ct) ⟨us, []⟩ = seqItems? (.ref T) >>= k ∧ k (some its.toArray) = pure (ps.zip (us ++ its.drop 0)))
    (len : ∀ ds r, g ds r → ds.length = ps.length)
    (hbody : ∀ (cdv : Value) (A : Around) (outer : List Env) (s : Shared) (H : Hp) (E : XK), Room k (A.deeper (envOfC f (defScope st) s.heap.objs.size a cdv)) →
      ∃ t, PSs (cxOf (L2.CX P w) P w K mg base N f (defScope st) a cdv A outer s H E) (defBody st) t ∧ ∀ O ds r, g ds r → RunS ⟨K, T, H, O⟩ E t (start N ds) (poR r)) : GdD P w K mg base f ps (k + 1) dvs (spD K T g) := by
  obtain ⟨fd, F⟩ := F
  obtain ⟨ds, hv, hB⟩ := F.binds1 (ps := ps) m 0 hd (by omega) hb
  refine ⟨a, fd, ds, F.ok S (fun vs H Q E h => spD_len len vs H Q E h) (fun cdv A outer s H vs Q E hr h => ?_), hv, hB, F.kp, hm⟩
  obtain ⟨t, ht, run⟩ := hbody cdv A outer s H E hr
  exact ⟨t, ht, fin h run⟩
theorem pe_callGD {X : Cx} {k : Nat} {ps : List Str} {sp : Sp} {E : XK} {x : Str} {p pos : Pos} {e : Expr} {es : List Expr} {t : TA} {dvs : List V} (G : GdD X.prog X.w X.K X.mg X.base x ps k dvs sp) (hr : Room k X.A) (hx : Passes (L2.CX X.prog X.w) X E) (ha : PA X (e :: es) t) (hg : Gl X x := by rfl)
    (hdb : (x == ("__debug__" : Str)) = false := by decide) (he : starEach (e :: es) X.env = (false, eval e X.env) :: starEach es X.env := by rfl) (hpl : (backTo pos (starEach es X.env)).any (·.1) = false := by rfl) :
    PE X (.Call (.Name x p) (e :: es) [] pos) (tCall sp dvs E t) := by
  obtain ⟨a, fd, ds, F, hv, hb, hk, hm⟩ := G.ex
  exact pe_call F hr hg hm hk hb hv hx ha hdb he hpl
theorem e_callD {C : Ct} {A A1 : AS} {d : Dt} {g : List Dt → Rs → Prop} {E' : XK} {tl : TA} {ds : List Dt} {dvs : List V} (ha : EvA C tl A ds A1) (hg : g (ds ++ dvs.map Dt.v) (.ok d)) : EvS C (tCall (spD C.K C.T g) dvs E' tl) A d A1 := fun os σ H k Q q =>
  ha os σ H k _ fun os1 vs H1 k1 e1 i1 => ⟨hid C.O os1, ds ++ dvs.map Dt.v, .ok d, fun a h => k1.hidden h, k1.tb, isA_app i1 flat_isA, hg, fun v H' e t i => q os1 v H' (k1.mono e t) (e1.trans (k1.gr e)) i⟩
end Py
end

section
set_option Elab.async false
set_option linter.all false
set_option maxRecDepth 100000
set_option maxHeartbeats 4000000
set_option autoImplicit false
namespace Py
open PySem PySem.Spec PyProof.Rows L2
/-! ### a, b = [..], .. : new lists of one's own at once with others -/
def AS.putS (A : AS) (i : Nat) (s : SD) : AS := ⟨A.sl.set i s, A.st⟩
/-- a new list, in no slot yet -/
def AS.more (A : AS) (xs : List Dt) : AS := ⟨A.sl, A.st ++ [.lst xs]⟩
section
variable {C : Ct} {E : XK} {A A1 A2 : AS} {te : TE} {P : Po} {s s1 s2 : SD} {d : Dt}
theorem Ok.putS {os : List (Option Addr)} {σ : Sg} {H : Hp} {i : Nat} {v : V} (k : Ok C os A σ H) (h : SlOk C.K os (Rh C.O os H) s (some v)) : Ok C os (A.putS i s) (σ.set i (some v)) H := by
  refine ⟨k.ex, k.tb, k.ol, k.dj, k.ln, k.nd, k.fr, by simp [AS.putS, k.sn], fun j s o h1 h2 => ?_, k.st⟩
  have h1 : (A.sl.set i _)[j]? = some s := h1
  rw [List.getElem?_set] at h1 h2
  by_cases e : i = j
  · rw [if_pos e] at h1 h2
    split at h1
    · split at h2
      · cases h1; cases h2
        exact h
      · cases h2
    · cases h1
  · rw [if_neg e] at h1 h2
    exact k.sl j s o h1 h2
theorem Ok.more {os : List (Option Addr)} {σ : Sg} {H : Hp} {p : Addr} {xs : List Dt} {vs : List V} (k : Ok C os A σ H) (hp : H p = none) (hx : IsA C.K (Rh C.O os H) xs vs) : Ok C (os ++ [some p]) (A.more xs) σ (upd H p (.lst vs)) := by
  have h := k.newO (i := A.sl.length) hp hx
  unfold AS.newO at h
  rw [List.set_eq_of_length_le (Nat.le_refl _), List.set_eq_of_length_le (by rw [k.sn]; exact Nat.le_refl _)] at h
  exact h
theorem Gr.app {os : List (Option Addr)} {σ : Sg} {H : Hp} {p : Addr} {vs : List V} (k : Ok C os A σ H) (hp : H p = none) : Gr C.O os H (os ++ [some p]) (upd H p (.lst vs)) :=
  ⟨by rw [Rh_app hp]; exact Ex.refl _, fun a h => by obtain ⟨o, q, n⟩ := k.ol a h; rw [q, Ex.new hp _ _ q n], fun k x h => by rw [List.getElem?_append_left (List.getElem?_eq_some_iff.mp h).1]; exact h⟩
theorem SlOk.gr {K : Frg} {O : List Addr} {os os' : List (Option Addr)} {H H' : Hp} {o : Option V} (g : Gr O os H os' H') (h : SlOk K os (Rh O os H) s o) : SlOk K os' (Rh O os' H') s o := by
  cases s with
  | un => exact h
  | d x =>
    obtain ⟨v, e, i⟩ := h
    exact ⟨v, e, Is.mono g.e _ _ i⟩
  | own n =>
    obtain ⟨a, e, i⟩ := h
    exact ⟨a, e, g.p _ _ i⟩
def SlA (K : Frg) (os : List (Option Addr)) (R : Hp) : List SD → List V → Prop
  | [], vs => vs = []
  | s :: ss, vs => ∃ v w, vs = v :: w ∧ SlOk K os R s (some v) ∧ SlA K os R ss w
def EvP (C : Ct) (tl : TA) (A : AS) (ss : List SD) (A1 : AS) : Prop := ∀ os σ H, Ok C os A σ H → ∀ Q : List V → Hp → Prop, (∀ os' vs H', Ok C os' A1 σ H' → Gr C.O os H os' H' → SlA C.K os' (Rh C.O os' H') ss vs → Q vs H') → tl σ H Q
theorem p_nil : EvP C tNil A [] A := fun os σ H k Q q => q os [] H k Gr.refl rfl
theorem p_d {tr : TA} {ss : List SD} (ha : EvS C te A d A1) (hr : EvP C tr A1 ss A2) : EvP C (tCons te tr) A (.d d :: ss) A2 := fun os σ H k Q q =>
  ha os σ H k _ fun os1 v1 H1 k1 e1 i1 => hr os1 σ H1 k1 _ fun os2 vs H2 k2 e2 i2 => q os2 (v1 :: vs) H2 k2 (e1.trans e2) ⟨v1, vs, rfl, ⟨v1, rfl, Is.mono e2.e _ _ i1⟩, i2⟩
theorem p_l {tl tr : TA} {ss : List SD} {xs : List Dt} (ha : EvA C tl A xs A1) (hl : xs.length ≤ 100000) (hr : EvP C tr (A1.more xs) ss A2) : EvP C (tCons (tLst tl) tr) A (.own A1.st.length :: ss) A2 := fun os σ H k Q q =>
  ha os σ H k _ fun os1 vs H1 k1 e1 i1 => ⟨by rw [isA_len i1]; exact Nat.le_trans hl (by decide), fun p hp => hr _ σ _ (k1.more hp i1) _ fun os2 ws H2 k2 e2 i2 => q os2 _ H2 k2 (e1.trans ((Gr.app k1 hp).trans e2)) ⟨_, ws, rfl, ⟨p, rfl, e2.p _ _ (by rw [← k1.ln]; simp)⟩, i2⟩⟩
theorem r_parP {i j : Nat} {tl : TA} (h : EvP C tl A [s, s1] A1) (hn : P.nx ((A1.putS i s).putS j s1)) : RunS C E (tPar i j tl) A P := fun os σ H D k T =>
  h os σ H k _ fun os1 vs H1 k1 e1 i1 => by
    obtain ⟨v, w, rfl, h1, v', w', rfl, h2, rfl⟩ := i1
    exact ⟨v, v', rfl, T.nx os1 _ _ H1 hn ((k1.putS h1).putS h2) e1⟩
theorem r_par3P {i j l : Nat} {tl : TA} (h : EvP C tl A [s, s1, s2] A1) (hn : P.nx (((A1.putS i s).putS j s1).putS l s2)) : RunS C E (tPar3 i j l tl) A P := fun os σ H D k T =>
  h os σ H k _ fun os1 vs H1 k1 e1 i1 => by
    obtain ⟨v, w, rfl, h1, v', w', rfl, h2, v'', w'', rfl, h3, rfl⟩ := i1
    exact ⟨v, v', v'', rfl, T.nx os1 _ _ H1 hn (((k1.putS h1).putS h2).putS h3) e1⟩
end
end Py
end

section
set_option Elab.async false
set_option linter.all false
set_option maxRecDepth 100000
set_option maxHeartbeats 4000000
set_option autoImplicit false
namespace Py
open PySem PySem.Spec PyProof.Rows L2
/-! ### a tuple of the top -/
def KTup (K : Frg) (a : Addr) (vs : List V) : Prop := ∃ (o : Obj) (its : Array Value) (n : Nat), K.lookup a = some o ∧ o.cls = .type "tuple" ∧ o.data = .seq its n ∧ its.size ≤ sizeLine ∧ Vals vs its.toList
def TupC (K : Frg) (mg : Str → Option Value) (x : Str) (vs : List V) : Prop := ∃ a, mg x = some (.ref a) ∧ KTup K a vs
theorem e_cT {C : Ct} {A : AS} {a : Addr} {vs : List V} (h : KTup C.K a vs) : EvS C (tC (.ref a)) A (.tup (vs.map .v)) A := fun os σ H k Q q => by
  refine q os _ H k Gr.refl ?_
  rw [Is]
  exact ⟨a, vs, rfl, .inr h, flat_isA⟩
theorem TupC.c {mg : Str → Option Value} {x : Str} {a : Addr} (h : mg x = some (.ref a)) : ∃ u, mg x = some u ∧ RelV (.ref a) u := ⟨_, h, rfl⟩
/-- while, by what is left to go; a state that one names -/
theorem t_callB {C : Ct} {E : XK} {A A1 : AS} {g : List Dt → Rs → Prop} {E' : XK} {tl : TA} {ds : List Dt} {b : Bool} (ha : EvA C tl A ds A1) (hg : g ds (.ok (db b))) : EvS C (tCall (spD C.K C.T g) [] E' tl) A (db b) A1 := e_call ha hg
theorem t_val {C : Ct} {A A1 : AS} {te : TE} {b : Bool} (h : EvS C te A (db b) A1) : EvT C (tTest te) A b A1 := t_test h
end Py
end

section
set_option Elab.async false
set_option linter.all false
set_option maxRecDepth 100000
set_option maxHeartbeats 4000000
set_option autoImplicit false
namespace Py
open PySem PySem.Spec PyProof.Rows L2
/-! ### (a, b), c = .., [] -/
section
variable {C : Ct} {E : XK} {A A1 A2 : AS} {te : TE} {P : Po} {s : SD} {ss : List SD} {d : Dt} {g : TG} {gs : TGs}
def TgP (C : Ct) (g : TG) (s : SD) (A A' : AS) : Prop := ∀ os σ H v (Q : Sg → Hp → Prop), Ok C os A σ H → SlOk C.K os (Rh C.O os H) s (some v) → (∀ σ', Ok C os A' σ' H → Q σ' H) → g v σ H Q
def TgPA (C : Ct) (g : TGs) (ss : List SD) (A A' : AS) : Prop := ∀ os σ H vs (Q : Sg → Hp → Prop), Ok C os A σ H → SlA C.K os (Rh C.O os H) ss vs → (∀ σ', Ok C os A' σ' H → Q σ' H) → g vs σ H Q
theorem tgP_name {i : Nat} : TgP C (gName i) s A (A.putS i s) := fun os σ H v Q k i q => q _ (k.putS i)
theorem tgP_d (h : Tg C g d A A1) : TgP C g (.d d) A A1 := fun os σ H v Q k i q => by
  obtain ⟨w, e, j⟩ := i
  cases e
  exact h os σ H v Q k j q
theorem tgPA_nil : TgPA C gNil [] A A := fun os σ H vs Q k i q => ⟨i, q σ k⟩
theorem tgPA_cons (h : TgP C g s A A1) (h' : TgPA C gs ss A1 A2) : TgPA C (gCons g gs) (s :: ss) A A2 := fun os σ H vs Q k i q => by
  obtain ⟨v, w, rfl, h1, h2⟩ := i
  exact ⟨v, w, rfl, h os σ H v _ k h1 fun σ1 k1 => h' os σ1 H w Q k1 h2 q⟩
theorem slA_len {K : Frg} {os : List (Option Addr)} {R : Hp} : ∀ {ss : List SD} {vs : List V}, SlA K os R ss vs → vs.length = ss.length
  | [], vs, h => by rw [show vs = [] from h]; rfl
  | _ :: _, vs, h => by
    obtain ⟨v, w, rfl, _, h2⟩ := h
    simp [slA_len h2]
theorem slA_gr {K : Frg} {O : List Addr} {os os' : List (Option Addr)} {H H' : Hp} (g : Gr O os H os' H') : ∀ {ss : List SD} {vs : List V}, SlA K os (Rh O os H) ss vs → SlA K os' (Rh O os' H') ss vs
  | [], vs, h => h
  | _ :: _, vs, h => by
    obtain ⟨v, w, rfl, h1, h2⟩ := h
    exact ⟨v, w, rfl, h1.gr g, slA_gr g h2⟩
theorem r_tgP {tl : TA} {n : Nat} (he : EvP C tl A ss A1) (hl : ss.length = n) (hn : n ≤ 100000) (hg : TgPA C gs ss A1 A2) (h : P.nx A2) : RunS C E (tAsg (tTup tl) (gTup C.K n gs)) A P := fun os σ H D k T =>
  he os σ H k _ fun os1 vs H1 k1 e1 i1 => ⟨by rw [slA_len i1, hl]; exact Nat.le_trans hn (by decide), fun p hp => by
    have g1 := k1.gr (Ex.new (o := .tup vs) hp)
    have k2 := k1.monoN (o := .tup vs) hp
    exact ⟨p, vs, rfl, hd_ex.t (SqT.of (k1.fresh hp)), by rw [slA_len i1, hl], hg os1 _ _ vs _ k2 (slA_gr g1 i1) fun σ' k' => T.nx os1 _ _ _ h k' (e1.trans g1)⟩⟩
end
end Py
end

section
set_option Elab.async false
set_option linter.all false
set_option maxRecDepth 100000
set_option maxHeartbeats 4000000
set_option autoImplicit false
namespace Py
open PySem PySem.Spec PyProof.Rows L2
/-! ### f'..' -/
section
variable {C : Ct} {E : XK} {A A1 A2 : AS} {te ta tb : TE} {P : Po} {tt : TT}
def EvJ (C : Ct) (ts : List TE) (acc : Str) (A : AS) (out : Str) (A1 : AS) : Prop := ∀ os σ H, Ok C os A σ H → ∀ Q : Str → Hp → Prop, (∀ os' H', Ok C os' A1 σ H' → Gr C.O os H os' H' → Q out H') → tJs ts acc σ H Q
theorem j_nil {acc : Str} : EvJ C [] acc A acc A := fun os σ H k Q q => q os H k Gr.refl
theorem j_cons {ts : List TE} {acc y out : Str} (h : EvS C te A (ds y) A1) (hl : (acc ++ y).length ≤ sizeLine) (hr : EvJ C ts (acc ++ y) A1 out A2) : EvJ C (te :: ts) acc A out A2 := fun os σ H k Q q =>
  h os σ H k _ fun os1 v H1 k1 e1 i1 => ⟨y, Is.v_iff.mp i1, hl, hr os1 σ H1 k1 _ fun os2 H2 k2 e2 => q os2 H2 k2 (e1.trans e2)⟩
theorem e_joined {ts : List TE} {out : Str} (h : EvJ C ts Str.empty A out A1) : EvS C (fun σ H Q => tJs ts Str.empty σ H fun out H1 => Q (.str out) H1) A (ds out) A1 := fun os σ H k Q q =>
  h os σ H k _ fun os1 H1 k1 e1 => q os1 _ H1 k1 e1 is_v
end
end Py
end

section
set_option Elab.async false
set_option linter.all false
set_option maxRecDepth 100000
set_option maxHeartbeats 4000000
set_option autoImplicit false
namespace Py
open PySem PySem.Spec PyProof.Rows L2
/-! ### data that == tells true -/
mutual
inductive Nice : Nat → Dt → PyData → Prop
  | int {n : Nat} {i : Int} : Nice n (di i) (.int i)
  | bl {n : Nat} {b : Bool} : Nice n (db b) (.bool b)
  | non {n : Nat} : Nice n dn .none
  | str {n : Nat} {s : Str} (h : PyData.strOk s = true) : Nice n (ds s) (.str s)
  | tup {n : Nat} {xs : List Dt} {ps : List PyData} (h : NiceA n xs ps) : Nice (n + 1) (.tup xs) (.tuple ps)
  | lst {n : Nat} {xs : List Dt} {ps : List PyData} (h : NiceA n xs ps) : Nice (n + 1) (.lst xs) (.list ps)
  | tupE {n : Nat} {xs : List Dt} {ps : List PyData} (h : NiceA n xs ps) : Nice (n + 1) (.tupE xs) (.tuple ps)
inductive NiceA : Nat → List Dt → List PyData → Prop
  | nil {n : Nat} : NiceA n [] []
  | cons {n : Nat} {x : Dt} {p : PyData} {xs : List Dt} {ps : List PyData} (h : Nice n x p) (r : NiceA n xs ps) : NiceA n (x :: xs) (p :: ps)
end
theorem niceA_map {α : Type} {n : Nat} {f : α → Dt} {g : α → PyData} (h : ∀ a, Nice n (f a) (g a)) : ∀ l : List α, NiceA n (l.map f) (l.map g)
  | [] => .nil
  | a :: l => .cons (h a) (niceA_map h l)
mutual
theorem Nice.all {n : Nat} {x : Dt} {p : PyData} : Nice n x p → x.py = some p ∧ p.canLay0 = true ∧ p.depth ≤ n
  | .int => ⟨by rw [Dt.py], by rw [PyData.canLay0], by rw [PyData.depth]; exact Nat.zero_le _⟩
  | .bl => ⟨by rw [Dt.py], by rw [PyData.canLay0], by rw [PyData.depth]; exact Nat.zero_le _⟩
  | .non => ⟨by rw [Dt.py], by rw [PyData.canLay0], by rw [PyData.depth]; exact Nat.zero_le _⟩
  | .str h => ⟨by rw [Dt.py], by rw [PyData.canLay0]; exact h, by rw [PyData.depth]; exact Nat.zero_le _⟩
  | .tup h => by
    obtain ⟨h1, h2, h3⟩ := h.all
    exact ⟨by rw [Dt.py, h1]; rfl, by rw [PyData.canLay0]; exact h2, by rw [PyData.depth]; omega⟩
  | .lst h => by
    obtain ⟨h1, h2, h3⟩ := h.all
    exact ⟨by rw [Dt.py, h1]; rfl, by rw [PyData.canLay0]; exact h2, by rw [PyData.depth]; omega⟩
  | .tupE h => by
    obtain ⟨h1, h2, h3⟩ := h.all
    exact ⟨by rw [Dt.py, h1]; rfl, by rw [PyData.canLay0]; exact h2, by rw [PyData.depth]; omega⟩
theorem NiceA.all {n : Nat} {xs : List Dt} {ps : List PyData} : NiceA n xs ps → Dt.pys xs = some ps ∧ PyData.canLayAll0 ps = true ∧ PyData.depthAll ps ≤ n
  | .nil => ⟨by rw [Dt.pys], by rw [PyData.canLayAll0], by rw [PyData.depthAll]; exact Nat.zero_le _⟩
  | .cons h r => by
    obtain ⟨h1, h2, h3⟩ := h.all
    obtain ⟨r1, r2, r3⟩ := r.all
    exact ⟨by rw [Dt.pys, h1, r1], by rw [PyData.canLayAll0, h2, r2]; rfl, by rw [PyData.depthAll]; omega⟩
end
theorem Nice.shaped {n : Nat} {x : Dt} {p : PyData} (h : Nice n x p) (hn : n ≤ 64) : SeqAt.shaped p = true := by
  obtain ⟨_, h2, h3⟩ := h.all
  unfold SeqAt.shaped
  rw [h2, decide_eq_true (Nat.le_trans h3 hn)]
  rfl
section
variable {C : Ct} {E : XK} {A A1 A2 : AS} {x y : Dt} {p q : PyData} {n m : Nat}
theorem o_eqN (h : Nice n x p) (h' : Nice m y q) (hn : n ≤ 64 := by decide) (hm : m ≤ 64 := by decide) : OpS C (rEqA C.K) x y (db (PyData.eqv p q)) := o_eqD h.all.1 h'.all.1 (h.shaped hn) (h'.shaped hm)
theorem o_neN (h : Nice n x p) (h' : Nice m y q) (hn : n ≤ 64 := by decide) (hm : m ≤ 64 := by decide) : OpS C (rNeA C.K) x y (db (!PyData.eqv p q)) := o_neD h.all.1 h'.all.1 (h.shaped hn) (h'.shaped hm)
/-- a thing and itself -/
theorem o_eqSame (h : Nice n x p) (hn : n ≤ 64 := by decide) : OpS C (rEqA C.K) x x (db true) := by
  have := o_eqN (C := C) h h hn hn
  rw [SeqAt.eqv_refl p h.all.2.1] at this
  exact this
theorem o_neSame (h : Nice n x p) (hn : n ≤ 64 := by decide) : OpS C (rNeA C.K) x x (db false) := by
  have := o_neN (C := C) h h hn hn
  rw [SeqAt.eqv_refl p h.all.2.1] at this
  exact this
theorem eqv_nil : ∀ ps : List PyData, PyData.eqv (.list ps) (.list []) = ps.isEmpty
  | [] => by rw [PyData.eqv, PyData.eqvAll]; rfl
  | p :: ps => by rw [PyData.eqv, PyData.eqvAll]; rfl
theorem niceA_len {xs : List Dt} {ps : List PyData} (h : NiceA n xs ps) : xs.isEmpty = ps.isEmpty := by cases h <;> rfl
/-- a list and [] -/
theorem o_eqNil {xs : List Dt} {ps : List PyData} (h : NiceA n xs ps) (hn : n ≤ 63 := by decide) : OpS C (rEqA C.K) (.lst xs) (.lst []) (db xs.isEmpty) := by
  have := o_eqN (C := C) (Nice.lst h) (Nice.lst (n := n) NiceA.nil) (by omega) (by omega)
  rw [eqv_nil, ← niceA_len h] at this
  exact this
theorem o_neNil {xs : List Dt} {ps : List PyData} (h : NiceA n xs ps) (hn : n ≤ 63 := by decide) : OpS C (rNeA C.K) (.lst xs) (.lst []) (db (!xs.isEmpty)) := by
  have := o_neN (C := C) (Nice.lst h) (Nice.lst (n := n) NiceA.nil) (by omega) (by omega)
  rw [eqv_nil, ← niceA_len h] at this
  exact this
theorem nice_ints (l : List Int) : NiceA 0 (l.map di) (l.map .int) := niceA_map (fun _ => .int) l
theorem nice_fr (q : Int × Int) : Nice 1 (.tup [di q.1, di q.2]) (.tuple [.int q.1, .int q.2]) := .tup (.cons .int (.cons .int .nil))
end
/-! ### the operators of a comprehension's own frame -/
section
variable {X : Cx} {K : Frg}
theorem op_eqAK (hK : X.K = K) (hu : X.A.units + 64 < cLine) : OpR X (compareOp .Eq) (rEqA K) := by subst hK; exact op_eqA hu
theorem op_neAK (hK : X.K = K) (hu : X.A.units + 64 < cLine) : OpR X (compareOp .NotEq) (rNeA K) := by subst hK; exact op_neA hu
theorem op_addAK (hK : X.K = K) : OpR X (binaryOp .Add) (rAddA K) := by subst hK; exact op_addA
theorem op_mulAK (hK : X.K = K) : OpR X (binaryOp .Mult) (rMulA K) := by subst hK; exact op_mulA
theorem ix_seqK (hK : X.K = K) : IxR X (rIx K) := by subst hK; exact ix_seq
end
end Py
end

section
set_option Elab.async false
set_option linter.all false
set_option maxRecDepth 100000
set_option maxHeartbeats 4000000
set_option autoImplicit false
set_option exponentiation.threshold 100
namespace Py
open PySem PySem.Spec PyProof.Rows L2
/-! ### a def that turns a dice -/
def spTurn (K : Frg) (T : List (Addr × Str)) (g : Dice → List V → V → Dice → Prop) : Sp := fun vs H Q _ => ∃ (a : Addr) (d : Dice) (ws : List V) (v : V) (d' : Dice), vs = .ref a :: ws ∧ H a = some (.lst d.vs) ∧ g d ws v d' ∧ LamX.Tabs T H ∧
  ∀ H', (∀ b o, b ≠ a → H b = some o → NoT o → H' b = some o) → LamX.Tabs T H' → H' a = some (.lst d'.vs) → Q v H'
def gRoll : Dice → List V → V → Dice → Prop := fun d ws v d' => ∃ (m : Int) (c : Nat), ws = [.int m] ∧ DOk c d ∧ c ≤ 1000000 ∧ 0 < m ∧ Sz 8000 m ∧ v = .int (rollV d m) ∧ d' = rollD d m
theorem roll_turn {K : Frg} {T : List (Addr × Str)} {vs : List V} {H : Hp} {Q : VK} {E : XK} (h : spTurn K T gRoll vs H Q E) : spRoll K T vs H Q E := by
  obtain ⟨a, d, ws, v, d', rfl, h1, ⟨m, c, rfl, h2, h3, h4, h5, rfl, rfl⟩, h6, q⟩ := h
  exact ⟨a, d, m, c, rfl, h1, h2, h3, h4, h5, h6, q⟩
/-- the end of such a def's body -/
theorem turn_fin {K : Frg} {T : List (Addr × Str)} {N : List Str} {a : Addr} {d d' : Dice} {ws : List V} {v : V} {H : Hp} {t : TS} {E : XK} {Q : VK} {sl : List SD} (ha : H a = some (.lst d.vs)) (ht : LamX.Tabs T H)
    (q : ∀ H', (∀ b o, b ≠ a → H b = some o → NoT o → H' b = some o) → LamX.Tabs T H' → H' a = some (.lst d'.vs) → Q v H') (hs : sl = .own 0 :: (ws.map fun v => SD.d (.v v)) ++ List.replicate (N.length - (ws.length + 1)) .un)
    (R : RunS ⟨K, T, fun b => if b = a then none else H b, []⟩ E t ⟨sl, [.lst d.ds]⟩ { rt := fun r A => r = .v v ∧ A.sl[0]? = some (.own 0) ∧ A.st = [.lst d'.ds] }) : t { nx := fun _ H' => Q .non H', rt := Q } (L2.start N (.ref a :: ws)) H := by
  subst hs
  have k := start_own (K := K) (N := N) (ws := ws) ht ha
  exact R [some a] _ H _ k ⟨fun _ _ _ _ z => z.elim, fun os A σ r u H' ⟨h1, h2, h3⟩ k' g' i' => by
    obtain ⟨o, s1, a3, vs, s2, s3, s4⟩ := k'.store (i := 0) (s := .lst d'.ds) (by rw [h3]; rfl)
    subst s2
    have o0 := (g'.p 0 (some a) rfl).resolve_right fun z => by rw [s1] at z; cases z
    rw [o0] at s1; cases s1
    rw [vs_of s4] at s3
    subst h1
    rw [Is.v_iff.mp i']
    refine q H' (fun b o hb e n => k'.ex b o ?_ n) k'.tb s3
    show (if b = a then none else H b) = some o
    rw [if_neg hb]
    exact e, fun _ _ _ _ z => z.elim, fun _ _ _ _ z => z.elim, fun _ _ z => z.elim⟩
section
variable {C : Ct} {E : XK} {A A1 : AS} {te ti : TE} {tl : TA} {P : Po} {i n : Nat} {d d' : Dice} {m : Int} {v : V} {ws : List V}
/-- f(dice, ..) -/
theorem e_turn {E' : XK} {g : Dice → List V → V → Dice → Prop} (h1 : A.sl[i]? = some (.own n)) (h2 : A.st[n]? = some (.lst d.ds)) (hm : EvA C tl A (ws.map .v) A) (hg : g d ws v d') :
    EvS C (tCall (spTurn C.K C.T g) [] E' (tCons (tVar i) tl)) A (.v v) (A.upO n d'.ds) := fun os σ H k Q q => by
  obtain ⟨o, f1, a, f2, f3⟩ := k.slot h1
  subst f2
  refine ⟨_, f1, hm os σ H k _ fun os1 vs H1 k1 g1 i1 => ?_⟩
  rw [flat_eq i1]
  have f3' := g1.p n _ f3
  obtain ⟨o3, s1, a3, us, s2, s3, s4⟩ := k1.store h2
  rw [f3'] at s1; cases s1; cases s2
  rw [vs_of s4] at s3
  refine ⟨a, d, ws, v, d', by rw [List.append_nil], s3, hg, k1.tb, fun H' e t ha => ?_⟩
  have hh : a ∈ hid C.O os1 := mem_hid.mpr (.inr (List.mem_of_getElem? f3'))
  have ku := k1.upO f3' h2 (ys := d'.ds) ds_of
  have ex : Ex (upd H1 a (.lst d'.vs)) H' := fun b o hb nt => by
    by_cases eb : b = a
    · subst eb
      rw [upd_same] at hb
      cases hb
      exact ha
    · rw [upd_ne eb] at hb
      exact e b o eb hb nt
  have kf := ku.mono ex t
  refine q os1 _ H' kf (g1.trans ⟨?_, fun b hb => ?_, fun _ _ h => h⟩) is_v
  · have := hd_mono (O := hid C.O os1) ex
    rw [show hd (hid C.O os1) (upd H1 a _) = Rh C.O os1 H1 from Rh_upd hh] at this
    exact this
  · obtain ⟨o, hb1, nt⟩ := k1.ol b hb
    have ne : b ≠ a := fun z => k1.dj b hb (by rw [z]; exact List.mem_of_getElem? f3')
    rw [hb1]
    exact e b o ne hb1 nt
end
/-- a promise that follows from another -/
theorem Gd.imp {P : Program} {w : World} {K : Frg} {mg : Str → Option Value} {base : Heap} {f : Str} {ps : List Str} {k : Nat} {sp sp' : Sp} (h : Gd P w K mg base f ps k sp) (e : ∀ vs H Q E, sp' vs H Q E → sp vs H Q E) : Gd P w K mg base f ps k sp' := by
  obtain ⟨a, fd, h1, h2, h3, h4⟩ := h.ex
  exact ⟨a, fd, h1.imp e, h2, h3, h4⟩
theorem Gd.roll {P : Program} {w : World} {K : Frg} {T : List (Addr × Str)} {mg : Str → Option Value} {base : Heap} {f : Str} {ps : List Str} {k : Nat} (h : Gd P w K mg base f ps k (spRoll K T)) : Gd P w K mg base f ps k (spTurn K T gRoll) := h.imp fun _ _ _ _ => roll_turn
end Py
end

section
set_option Elab.async false
set_option linter.all false
set_option maxRecDepth 100000
set_option maxHeartbeats 4000000
set_option autoImplicit false
set_option exponentiation.threshold 100
namespace Py
open PySem PySem.Spec PyProof.Rows L2
/-! ### [e for x in xs for y in range(n)] -/
/-- one turn of the outer one: the inner one from its start to its end -/
structure Lc2T (C : Ct) (g : TG) (wi1 : TI) (g1 : TG) (tt1 : TT) (te : TE) (ws ws1 : List Nat) (x : Dt) (A : AS) (ys : List Dt) (A2 : AS) (ys2 : List Dt) (lo1 : Int) (n1 : Nat) (A1 : AS) (B1 : Nat → AS) (Y1 : Nat → List Dt) : Prop where
  tg : TgS C g x (A.wipe ws) A1 ws
  wi : ∀ os σ H, Ok C os A1 σ H → ∀ R : It → Hp → Prop, (∀ os' H', Ok C os' (B1 0) σ H' → Gr C.O os H os' H' → R (Itr lo1 n1) H') → wi1 σ H R
  y0 : Y1 0 = ys
  yn : Y1 n1 = ys2
  tn : ∀ j, j < n1 → LcT C g1 tt1 te ws1 (di (lo1 + j)) (B1 j) (Y1 j) (B1 (j + 1)) (Y1 (j + 1))
  ln : ∀ j, j < n1 → (Y1 j).length < 100000
  bn : (B1 n1).wipe ws = A2
section
variable {C : Ct} {E : XK} {A A1 A2 : AS} {te : TE} {tl : TE} {g g1 : TG} {tt1 : TT} {wi1 : TI} {ws ws1 : List Nat}
theorem lc2_turn {p : Addr} {x : Dt} {v : V} {σ : Sg} {os : List (Option Addr)} {H : Hp} {ys ys2 : List Dt} {acc : List V} {lo1 : Int} {n1 : Nat} {Am : AS} {B1 : Nat → AS} {Y1 : Nat → List Dt} (t : Lc2T (C.hide p) g wi1 g1 tt1 te ws ws1 x A ys A2 ys2 lo1 n1 Am B1 Y1) (k : Ok (C.hide p) os A σ H) (hp : H p = some (.lst acc)) (ha : IsA C.K (Rh (p :: C.O) os H) ys acc) (hx : Is C.K (Rh (p :: C.O) os H) x v)
    (h0 : ∀ o, C.H0 p = some o → ¬ NoT o) (hO : p ∉ C.O) (R : Hp → Prop) (hR : ∀ os' acc' H', Ok (C.hide p) os' A2 σ H' → GrP p C.O os H os' H' → H' p = some (.lst acc') → IsA C.K (Rh (p :: C.O) os' H') ys2 acc' → R H') :
    g v (wipe σ ws) H fun σ2 H2 => wipe σ2 ws = wipe σ ws ∧ tYes σ2 H2 fun b H3 => if b = true then wi1 σ2 H3 fun J1 H4 => ∃ W1 : Nat → Nat → Hp → Prop, (∃ m, W1 0 m H4) ∧ ∀ j k H, W1 j k H →
      (J1.stop j H ∧ R H) ∨ (J1.go j H ∧ ∃ Nx1 : Hp → Prop, (∀ H', Nx1 H' → ∃ k', k' < k ∧ W1 (j + 1) k' H') ∧ ∀ x H', J1.yld j H x H' → g1 x (wipe σ2 ws1) H' fun σ3 H5 => wipe σ3 ws1 = wipe σ2 ws1 ∧ tt1 σ3 H5 fun b H6 =>
        if b = true then te σ3 H6 fun y H7 => ∃ acc, H7 p = some (.lst acc) ∧ acc.length < sizeLine ∧ Nx1 (upd H7 p (.lst (acc ++ [y]))) else Nx1 H6) else R H3 := by
  refine t.tg os _ H v _ k.wiped hx fun σ2 k2 e2 => ⟨e2.trans wipe_wipe, ?_⟩
  have e2' : wipe σ2 ws = wipe σ ws := e2.trans wipe_wipe
  unfold tYes
  dsimp only
  rw [if_pos rfl]
  refine t.wi os σ2 H k2 _ fun os4 H4 k4 g4 => ?_
  have gp4 : GrP p C.O os H os4 H4 := ⟨g4.e, fun a h => g4.o a (List.mem_cons_of_mem _ h), g4.p⟩
  have hp4 : H4 p = some (.lst acc) := (g4.o p (List.mem_cons_self ..)).trans hp
  refine ⟨fun j m H' => m = n1 - j ∧ j ≤ n1 ∧ ∃ os' acc', Ok (C.hide p) os' (B1 j) σ2 H' ∧ GrP p C.O os H os' H' ∧ H' p = some (.lst acc') ∧ IsA C.K (Rh (p :: C.O) os' H') (Y1 j) acc', ⟨n1, by omega, Nat.zero_le _, os4, acc, k4, gp4, hp4, by rw [t.y0]; exact IsA.mono g4.e _ _ ha⟩, ?_⟩
  rintro j m H' ⟨rfl, hj, os', acc', k', g', hp', ha'⟩
  by_cases lt : j < n1
  · refine .inr ⟨lt, fun H'' => ∃ m', m' < n1 - j ∧ (m' = n1 - (j + 1) ∧ j + 1 ≤ n1 ∧ ∃ os'' acc'', Ok (C.hide p) os'' (B1 (j + 1)) σ2 H'' ∧ GrP p C.O os H os'' H'' ∧ H'' p = some (.lst acc'') ∧ IsA C.K (Rh (p :: C.O) os'' H'') (Y1 (j + 1)) acc''), fun H'' h => h, fun x H'' y => ?_⟩
    obtain ⟨e, y⟩ := y
    subst e y
    exact lc_turn (t.tn j lt) k' hp' ha' is_v h0 hO (t.ln j lt) _ fun os2 acc2 H2 k2 g2 hp2 ha2 => ⟨n1 - (j + 1), by omega, rfl, lt, os2, acc2, k2, g'.trans g2, hp2, ha2⟩
  · have e : j = n1 := by omega
    subst e
    refine .inl ⟨Nat.le_refl _, hR os' acc' H' ?_ g' hp' (by rw [← t.yn]; exact ha')⟩
    have kb := k'.back e2'
    rw [t.bn] at kb
    exact kb
theorem e_lc2L {xs : List Dt} (he : EvS C tl A (.lst xs) A1) (B : Nat → AS) (Y : Nat → List Dt) (h0 : A1 = B 0) (hY : Y 0 = [])
    (hs : ∀ i x, xs[i]? = some x → ∀ O, ∃ lo1 n1 Am B1 Y1, Lc2T ⟨C.K, C.T, C.H0, O⟩ g wi1 g1 tt1 te ws ws1 x (B i) (Y i) (B (i + 1)) (Y (i + 1)) lo1 n1 Am B1 Y1) : EvS C (tLc2 (iList C.K tl) g tYes wi1 g1 tt1 te ws ws1) A (.lst (Y xs.length)) (B xs.length) := fun os σ H k Q q =>
  he os σ H k _ fun os1 v H1 k1 e1 i1 => by
    rw [Is] at i1
    obtain ⟨a, vs, rfl, h1, h2⟩ := i1
    refine ⟨a, rfl, ⟨vs, hd_ex.l h1⟩, fun p hp => ?_⟩
    subst h0
    have el : vs.length = xs.length := isA_len h2
    refine ⟨fun i m H' => m = vs.length - i ∧ i ≤ vs.length ∧ ∃ os' acc, Ok (C.hide p) os' (B i) σ H' ∧ GrP p C.O os1 (upd H1 p (.lst [])) os' H' ∧ H' p = some (.lst acc) ∧ IsA C.K (Rh (p :: C.O) os' H') (Y i) acc, ⟨vs.length, by omega, Nat.zero_le _, os1, [], k1.hide hp nt_l, ⟨Ex.refl _, fun _ _ => rfl, fun _ _ h => h⟩, upd_same, by rw [hY]; exact isA_nil⟩, ?_⟩
    rintro i m H' ⟨rfl, hi, os', acc, k', g', hp', ha⟩
    have e := g'.e
    rw [Rh_hide hp] at e
    have ql : SqL C.K H' a vs := hd_ex.l (e.l h1)
    by_cases lt : i < vs.length
    · refine .inr ⟨⟨vs, vs[i], ql, by simp [lt]⟩, fun H'' => ∃ m', m' < vs.length - i ∧ (m' = vs.length - (i + 1) ∧ i + 1 ≤ vs.length ∧ ∃ os'' acc'', Ok (C.hide p) os'' (B (i + 1)) σ H'' ∧ GrP p C.O os1 (upd H1 p (.lst [])) os'' H'' ∧ H'' p = some (.lst acc'') ∧ IsA C.K (Rh (p :: C.O) os'' H'') (Y (i + 1)) acc''), fun H'' h => h, fun x H'' y => ?_⟩
      obtain ⟨ex, y⟩ := y
      subst ex
      obtain ⟨d, hd', hi'⟩ := isA_get' h2 (y vs ql)
      obtain ⟨lo1, n1, Am, B1, Y1, t⟩ := hs i d hd' (p :: C.O)
      exact lc2_turn t k' hp' ha (Is.mono e _ _ hi') (fresh_0 k1 hp) (fresh_O k1 hp) _ fun os2 acc2 H2 k2 g2 hp2 ha2 => ⟨vs.length - (i + 1), by omega, rfl, lt, os2, acc2, k2, g'.trans g2, hp2, ha2⟩
    · have en : i = vs.length := by omega
      subst en
      refine .inl ⟨⟨vs, ql, Nat.le_refl _⟩, ?_⟩
      rw [el] at k' ha
      exact lc_end k1 hp k' g' hp' ha fun os2 v H2 k2 g2 i2 => q os2 v H2 k2 (e1.trans g2) i2
end
section
variable {C : Ct} {A A1 : AS} {te : TE}
/-- sorted(ints) -/
theorem e_sortI {ns ms : List Int} (h : EvS C te A (.lst (ns.map di)) A1) (hq : ∀ ns' : List Int, ns'.Perm ns → ns'.Pairwise (· ≤ ·) → ns' = ms) : EvS C (tCB (rSortedI C.K) (tCons te tNil)) A (.lst (ms.map di)) A1 := fun os σ H k Q q =>
  h os σ H k _ fun os1 v H1 k1 e1 i1 => by
    rw [Is] at i1
    obtain ⟨a, vs, rfl, h2, h3⟩ := i1
    have ev : ns.map di = (ns.map V.int).map Dt.v := by rw [List.map_map]; rfl
    rw [ev] at h3
    rw [flat_eq h3] at h2
    refine ⟨a, ns, rfl, hd_ex.l h2, fun ns' p hp hs hn => ?_⟩
    rw [hq ns' hp hs]
    refine q os1 _ _ (k1.monoN hn) (e1.trans (k1.gr (Ex.new hn))) ?_
    rw [Is]
    exact ⟨p, _, rfl, SqL.of (k1.fresh hn), by rw [show ms.map di = (ms.map V.int).map Dt.v by rw [List.map_map]; rfl]; exact flat_isA⟩
/-- two sorted lists of the same members -/
theorem sorted_one : ∀ {l m : List Int}, l.Perm m → l.Pairwise (· ≤ ·) → m.Pairwise (· ≤ ·) → l = m := fun {l m} h h1 h2 => h.eq_of_pairwise (fun a b _ _ x y => Int.le_antisymm x y) h1 h2
end
end Py
end

section
set_option Elab.async false
set_option linter.all false
set_option maxRecDepth 100000
set_option maxHeartbeats 4000000
set_option autoImplicit false
namespace Py
open PySem PySem.Spec PyProof.Rows L2
/-! ### tuple(xs), the new object known -/
section
variable {X : Cx}
theorem call_tupleZ : CallR X (.type "tuple") (fun xs H Q => ∃ p ys, xs = [.ref p] ∧ SqL X.K H p ys ∧ ∀ l o, o.dict = none → H l = none → Q (.ref l) (upd H l (.frz o (.tup ys)))) := by
  intro pins s σ H xs us Q I r h
  obtain ⟨p, ys, rfl, hq, q⟩ := h
  obtain ⟨u, rfl, rx⟩ := vals1 r
  cases rx
  obtain ⟨its, r', pl, hz⟩ := I.list hq
  have hlen := r'.length
  refine call_tuple_list pl.isList (fun h' kp => ?_) (by simp only [List.size_toArray] <;> omega)
  have I1 : Inv X pins σ H { s with heap := h' } := I.kept (t' := s.toks) kp
  have I2 : Inv X pins σ (upd H h'.objs.size (.frz { cls := .type "tuple", data := .seq its.toArray } (.tup ys))) { s with heap := h'.push { cls := .type "tuple", data := .seq its.toArray } } :=
    I1.laid (t' := s.toks) (fun b o e => Heap.get?_push_of_some _ e) (Nat.le_refl _) (show ObjOk X.prog X.w _ _ _ (.frz _ (.tup ys)) from ⟨Heap.get?_push_size _ rfl, hz, its, r', IsTup.new _ _⟩)
  exact ⟨.ref h'.objs.size, _, I2, rfl, q _ _ rfl (I1.hok.fresh (Nat.le_refl _))⟩
theorem told_pairs {h : Heap} {ps : List Addr} : ∀ {prs : List (Key × Value)}, (∀ (j : Nat) (q : Key × Value), prs[j]? = some q → ∃ (b : Addr) (u : Value), ps[j]? = some b ∧ IsTup h b #[u, q.2] ∧ keyIs q.1 u = true) →
    ∃ pv : List (Value × Value), pv.length = prs.length ∧ ∀ (j : Nat) (k v : Value), pv[j]? = some (k, v) → ∃ (q : Key × Value) (b : Addr), prs[j]? = some q ∧ q.2 = v ∧ ps[j]? = some b ∧ IsTup h b #[k, v] ∧ keyIs q.1 k = true := by
  intro prs
  induction prs generalizing ps with
  | nil => exact fun _ => ⟨[], rfl, fun j k v e => by simp at e⟩
  | cons q r ih =>
    intro hh
    obtain ⟨b, u, h1, h2, h3⟩ := hh 0 q rfl
    obtain ⟨pv, e1, e2⟩ := ih (ps := ps.drop 1) fun j q' e => by
      obtain ⟨b, u, z1, z2, z3⟩ := hh (j + 1) q' (by simpa using e)
      exact ⟨b, u, by rw [List.getElem?_drop, Nat.add_comm]; exact z1, z2, z3⟩
    refine ⟨(u, q.2) :: pv, by rw [List.length_cons, List.length_cons, e1], fun j k v e => ?_⟩
    cases j with
    | zero =>
      simp at e
      obtain ⟨rfl, rfl⟩ := e
      exact ⟨q, b, rfl, rfl, h1, h2, h3⟩
    | succ j =>
      obtain ⟨q', b', z1, z2, z3, z4⟩ := e2 j k v (by simpa using e)
      exact ⟨q', b', by simpa using z1, z2, by rw [List.getElem?_drop, Nat.add_comm] at z3; exact z3, z4⟩
theorem call_dictZ (hcalm : X.calm = true) : CallR X (.type "dict") (fun xs H Q => ∃ (a : Addr) (o : Obj) (ps : List Addr) (kvs : List (Key × V)), xs = [.ref a] ∧ H a = some (.frz o (.tup (ps.map V.ref))) ∧ o.dict = none ∧ Paired (fun p kv => SqT X.K H p [kV kv.1, kv.2]) ps kvs ∧
    ∀ p, H p = none → Q (.ref p) (upd H p (.dK (mergeK [] kvs)))) := by
  intro pins s σ H xs us Q I r q
  obtain ⟨a, o, ps, kvs, rfl, ha, hdn, hp, q⟩ := q
  obtain ⟨u, rfl, rx⟩ := vals1 r
  cases rx
  obtain ⟨ho, hz, its, rv, o', ho', hc, n, hdat⟩ := I.hok a _ ha
  rw [ho] at ho'
  cases ho'
  have ei := refs_at rv
  subst ei
  rw [List.length_map] at hz
  obtain ⟨prs, rel, hl, hpr⟩ := pairs_of I hp
  obtain ⟨pv, e1, e2⟩ := told_pairs hpr
  have hps : PairItems s.heap (ps.map Value.ref).toArray (fun j => ps.getD j 0) pv := by
    refine ⟨by simp [e1, hl], fun j k v e => ?_⟩
    obtain ⟨q', b, z1, z2, z3, z4, z5⟩ := e2 j k v e
    have g : ps.getD j 0 = b := by rw [List.getD_eq_getElem?_getD, z3]; rfl
    refine ⟨by simp [z3], ?_⟩
    show PairAt s.heap (ps.getD j 0) k v
    rw [g]
    exact .inl z4
  refine PySem.call_dict_pairs (knd := mixKind X.prog X.w) (kvs := prs) (PairArg.tuple a (ps.map Value.ref).toArray (fun j => ps.getD j 0) pv) (I.ok.hd hcalm) ⟨⟨o, n, ho, hc, hdn, hdat⟩, hps⟩ ⟨e1.symm, fun i key v rel => ?_⟩ (by rw [e1, hl]; exact hz) fun h' tk hd' k => ?_
  · obtain ⟨q', b, z1, z2, z3, z4, z5⟩ := e2 i key v rel
    exact ⟨q'.1, by rw [z1, ← z2], z5⟩
  · have hm : (s.heap.objs.size == sysModules) = false := beq_eq_false_iff_ne.mpr (Nat.ne_of_gt I.big)
    have hlen : (mergeK [] kvs).length ≤ sizeLine := by
      refine Nat.le_trans (length_mergeK kvs []) ?_
      rw [List.length_nil, Nat.zero_add, rel.length, hl]
      exact hz
    exact ⟨.ref s.heap.objs.size, upd H s.heap.objs.size (.dK (mergeK [] kvs)), I.laid (t' := tk) (fun b o e => k b o (by simp) e) (Nat.le_refl _) (show ObjOk X.prog X.w _ _ _ (.dK (mergeK [] kvs)) from ⟨hlen, hm, merged [] prs, KV.merge rel .nil, hd'⟩), rfl, q _ (I.hok.fresh (Nat.le_refl _))⟩
end
section
open SrtO
variable {prog : Program} {w : World} {A : Around} {E : Value → Shared → Prop} {s : Shared}
/-- the heap of s, behind it a new list of these items -/
def gath (h : Heap) (us : List Value) : Heap := (h.push (seqObj "list" #[] 0)).update h.objs.size (Obj.mapSeq fun z => z ++ us.toArray)
theorem gath_size (h : Heap) (us : List Value) : (gath h us).objs.size = h.objs.size + 1 := by
  unfold gath; rw [Heap.size_update, size_push']
theorem gath_old {h : Heap} {us : List Value} {b : Addr} {ob : Obj} (g : h.get? b = some ob) : (gath h us).get? b = some ob := by
  unfold gath
  rw [Heap.get?_update_ne _ _ _ _ (Nat.ne_of_lt (Heap.lt_size g))]
  exact Heap.get?_push_of_some _ g
theorem gather_tuple {t : Addr} {us : List Value} {Q : List Value → Shared → Prop} (ht : IsTup s.heap t us.toArray) (hsz : us.length ≤ sizeLine) (q : Q us { s with heap := gath s.heap us }) : wpAny (model prog w) A (collect (.ref t)) Q E s := by
  obtain ⟨ob, g, c, k, d⟩ := id ht
  have g1 : (s.heap.push (seqObj "list" #[] 0)).get? t = some ob := Heap.get?_push_of_some _ g
  have g2 : (s.heap.push (seqObj "list" #[] 0)).get? s.heap.objs.size = some (seqObj "list" #[] 0) := Heap.get?_push_size _ rfl
  have e0 : ((#[] : Array Value) ++ us.toArray).toList = us := by simp
  unfold collect
  refine wpAny_bind (wpAny_runValue (codeAny_builtin entry_proto_collect' ?_))
  show wpAny _ _ (do again (.builtin "list.__iadd__" ⟨[← newList [], .ref t], []⟩)) _ _ s
  refine wpAny_bind (wpAny_newList (wpAny_pure ⟨Code.quiet_builtin _ (by decide +kernel), codeAny_builtin entry_list_iadd' ?_⟩))
  show wpAny _ _ (Builtin.List.listExtendWith _ (.ref t) _) _ _ { s with heap := s.heap.push (seqObj "list" #[] 0) }
  unfold Builtin.List.listExtendWith
  refine wpAny_bind (wpAny_typeOf (T := "tuple") ⟨ob, g1, c⟩ ?_)
  have two : (Value.type "tuple" == Value.type "tuple") = true := by rfl
  rw [if_pos (by simp [two])]
  refine wpAny_bind (listItems_at g1 d (wpAny_bind (listItems_at (xs := #[]) (n := 0) g2 rfl ?_)))
  rw [if_neg (by simp)]
  refine wpAny_bind (listUpdate_at (xs := #[]) (n := 0) g2 rfl (wpAny_pure ?_) (Nat.zero_le _) (by show (#[] ++ us.toArray).size ≤ _; simp only [Array.size_append, List.size_toArray, List.length_nil]; omega))
  refine wpAny_bind (wpAny_load (get?_update_seq g2 _) ?_)
  show wpAny _ _ (pure ((#[] : Array Value) ++ us.toArray).toList) Q E _
  rw [e0]
  exact wpAny_pure q
theorem sorted_tup {t : Addr} {us : List Value} {k : Value → Int × Int} {Q : Value → Shared → Prop} (ht : IsTup s.heap t us.toArray) (hz : us.length ≤ sizeLine) (hp : ∀ u ∈ us, Srt.IsPair s.heap u (k u).1 (k u).2)
    (q : ∀ (h' : Heap) (out : List Value), Srtd (fun a b => lexB (k a) (k b)) out → Stb (fun a b => lexB (k a) (k b)) out us → (∀ b ob, s.heap.get? b = some ob → h'.get? b = some ob) → (∃ n, h'.get? (s.heap.objs.size + 1) = some (seqObj "list" out.toArray n)) → Q (.ref (s.heap.objs.size + 1)) { s with heap := h' }) :
    wpAny (model prog w) A (call (.builtin "sorted") [.ref t]) Q E s := by
  refine Calls.call_function_entry kind_sorted plain_sorted entry_sorted (args_sorted1 _) ?_
  unfold Builtin.«sorted»
  refine wpAny_bind (m := checkCount "sorted" 1 1 _) (wpAny_pure (wpAny_bind (gather_tuple ht hz (wpAny_bind (wpAny_newList ?_ hz)))))
  generalize hG : (gath s.heap us).push (seqObj "list" us.toArray 0) = G
  have gL : G.get? (s.heap.objs.size + 1) = some (seqObj "list" us.toArray 0) := by
    rw [← hG, ← gath_size s.heap us]; exact Heap.get?_push_size _ rfl
  have gO : ∀ b ob, s.heap.get? b = some ob → b ≠ s.heap.objs.size + 1 ∧ G.get? b = some ob := fun b ob g => by
    refine ⟨Nat.ne_of_lt (Nat.lt_succ_of_lt (Heap.lt_size g)), ?_⟩
    rw [← hG]; exact Heap.get?_push_of_some _ (gath_old g)
  show wpAny _ _ (holding [Value.ref (gath s.heap us).objs.size] (call (Value.builtin "list.sort") [Value.ref (gath s.heap us).objs.size] []) >>= fun _ => _) _ _ { s with heap := G }
  rw [gath_size]
  refine wpAny_bind (wpAny_holding (wpAny_call_entry slot_list_sort ⟨_, gL, rfl⟩ entry_list_sort (list_sort_ord (swo_lex k) gL hz (fun h2 => ?_) fun out h3 h4 => ⟨_, rfl, wpAny_pure ⟨_, rfl, ?_⟩⟩) (args_list_sort _)))
  · refine pairs_sortableO (by omega) (fun u hu => (hp u hu).keeps fun b ob g _ => (gO b ob g).2) fun ob g c => ?_
    have g' := g.symm.trans gL
    cases g'
    exact absurd (Value.type.inj c) (by decide)
  · obtain ⟨n, e⟩ := PyProof.Rows.sortedHeap_at (vs := us) (out := out.toArray) gL
    exact q _ out h3 h4 (fun b ob g => (PyProof.Rows.sortedHeap_old (gO b ob g).1 (Heap.lt_size (gO b ob g).2)).trans (gO b ob g).2) ⟨n, e⟩
end
/-! ### sorted(x), x a list or a tuple of pairs of ints -/
def PairV (K : Frg) (H : Hp) (x : V) (p : Int × Int) : Prop := ∃ t, x = V.ref t ∧ SqT K H t [.int p.1, .int p.2]
def rSortQ (K : Frg) : List V → Hp → VK → Prop := fun vs H Q => ∃ (a : Addr) (xs : List V) (ps : List (Int × Int)), vs = [.ref a] ∧ (SqL K H a xs ∨ SqT K H a xs) ∧ Paired (PairV K H) xs ps ∧
  ∀ (zs : List (V × (Int × Int))) (d : Addr), zs.Perm (xs.zip ps) → zs.Pairwise (fun x y => SrtO.lexB y.2 x.2 = false) → H d = none → Q (.ref d) (upd H d (.lst (zs.map (·.1))))
open Classical in
noncomputable def keyV (K : Frg) (H : Hp) (x : V) : Int × Int := if h : ∃ p, PairV K H x p then h.choose else (0, 0)
section
variable {X : Cx}
theorem keyV_eq {pins : List (Addr × Obj)} {s : Shared} {σ : L2.St} {H : Hp} (I : Inv X pins σ H s) {x : V} {p : Int × Int} (h : PairV X.K H x p) : keyV X.K H x = p := by
  have e : ∃ p, PairV X.K H x p := ⟨p, h⟩
  unfold keyV
  rw [dif_pos e]
  obtain ⟨t, h1, h2⟩ := e.choose_spec
  obtain ⟨t', h3, h4⟩ := h
  rw [h1] at h3
  cases h3
  have q := I.tuple_inj h2 h4
  simp only [List.cons.injEq, V.int.injEq, and_true] at q
  exact Prod.ext q.1 q.2
theorem paired_zip {K : Frg} {H : Hp} {k : V → Int × Int} : ∀ {xs : List V} {ps : List (Int × Int)}, Paired (PairV K H) xs ps → (∀ x p, PairV K H x p → k x = p) → xs.zip ps = xs.map fun x => (x, k x)
  | _, _, .nil, _ => rfl
  | _, _, .cons h t, e => by rw [List.zip_cons_cons, List.map_cons, paired_zip t e, e _ _ h]
theorem paired_mem {K : Frg} {H : Hp} : ∀ {xs : List V} {ps : List (Int × Int)}, Paired (PairV K H) xs ps → ∀ x ∈ xs, ∃ p, PairV K H x p
  | _, _, .nil, x, h => by cases h
  | _, _, .cons h t, x, hx => by
    rcases List.mem_cons.mp hx with e | e
    · exact ⟨_, by rw [e]; exact h⟩
    · exact paired_mem t x e
theorem cr_sortQ : CallR X (.builtin "sorted") (rSortQ X.K) := by
  intro pins s σ H vs us Q I r h
  obtain ⟨a, xs, ps, rfl, hs, hp, q⟩ := h
  obtain ⟨u, rfl, ru⟩ := vals1 r
  obtain rfl : u = Value.ref a := ru
  have src : ∃ its : List Value, Vals xs its ∧ xs.length ≤ sizeLine ∧ (s.heap.IsList a its.toArray ∨ IsTup s.heap a its.toArray) := by
    rcases hs with hs | hs
    · obtain ⟨its, rv, hl, hz⟩ := I.list hs
      exact ⟨its, rv, hz, .inl hl.isList⟩
    · obtain ⟨its, rv, hl, hz⟩ := I.tuple hs
      exact ⟨its, rv, hz, .inr hl⟩
  obtain ⟨its, rv, hz, hl⟩ := src
  obtain ⟨e1, e2⟩ := refs_back rv fun x m => by
    obtain ⟨p, t, e, _⟩ := paired_mem hp x m
    exact ⟨t, e⟩
  have ez := paired_zip (k := keyV X.K H) hp fun x p h => keyV_eq I h
  have pr : ∀ v ∈ its, Srt.IsPair s.heap v (keyV X.K H (backV v)).1 (keyV X.K H (backV v)).2 := fun v hv => by
    obtain ⟨t, rfl⟩ := e2 v hv
    obtain ⟨p, hp'⟩ := paired_mem hp (V.ref t) (by rw [e1]; exact List.mem_map.mpr ⟨_, hv, rfl⟩)
    show Srt.IsPair s.heap _ (keyV X.K H (V.ref t)).1 (keyV X.K H (V.ref t)).2
    rw [keyV_eq I hp']
    obtain ⟨t', h1, h2⟩ := hp'
    cases h1
    obtain ⟨its2, r2, ⟨o, ho, hc, n, hd⟩, _⟩ := I.tuple h2
    obtain ⟨u1, u2, rfl, ri, rj⟩ := vals2 r2
    obtain ⟨t1, rfl⟩ := ri
    obtain ⟨t2, rfl⟩ := rj
    exact ⟨t, o, t1, t2, n, rfl, ho, hc, hd⟩
  have fin : ∀ (h' : Heap) (d : Addr) (out : List Value), SrtO.Srtd (fun v u => SrtO.lexB (keyV X.K H (backV v)) (keyV X.K H (backV u))) out → SrtO.Stb (fun v u => SrtO.lexB (keyV X.K H (backV v)) (keyV X.K H (backV u))) out its →
      (∀ b o, s.heap.get? b = some o → h'.get? b = some o) → s.heap.objs.size ≤ d → (∃ n, h'.get? d = some (seqObj "list" out.toArray n)) → EP X pins σ Q (.ref d) { s with heap := h' } := by
    intro h' d out h1 h2 kp hd hn
    have h3 : ∀ u ∈ out, ∃ a, u = Value.ref a := fun u hu => e2 u (h2.perm.mem_iff.mp hu)
    obtain ⟨n, hn⟩ := hn
    have eo : (out.map fun u => (backV u, keyV X.K H (backV u))).map (·.1) = out.map backV := by rw [List.map_map]; rfl
    have pm : (out.map fun u => (backV u, keyV X.K H (backV u))).Perm (xs.zip ps) := by
      rw [ez, e1, List.map_map]
      exact h2.perm.map _
    have g := q (out.map fun u => (backV u, keyV X.K H (backV u))) d pm (List.pairwise_map.mpr h1) (I.hok.fresh hd)
    rw [eo] at g
    refine ⟨.ref d, upd H d (.lst (out.map backV)), I.laid (t' := s.toks) kp hd ⟨?_, out, n, vals_back h3, hn⟩, rfl, g⟩
    rw [List.length_map, h2.perm.length_eq, ← rv.length]
    exact hz
  rcases hl with hl | hl
  · exact SrtO.sorted_pairsO (k := fun u => keyV X.K H (backV u)) hl (by rw [← rv.length]; exact hz) pr fun h' d out h1 h2 kp hd hn => fin h' d out h1 h2 kp hd hn
  · exact sorted_tup (k := fun u => keyV X.K H (backV u)) hl (by rw [← rv.length]; exact hz) pr fun h' out h1 h2 kp hn => fin h' _ out h1 h2 kp (Nat.le_succ _) hn
end
section
variable {C : Ct} {A A1 : AS} {te : TE}
theorem is_pair {K : Frg} {R H : Hp} (e : Ex R H) {p : Int × Int} {v : V} (h : Is K R (fr p) v) : PairV K H v p := by
  unfold fr at h
  rw [Is] at h
  obtain ⟨a, vs, rfl, h2, h3⟩ := h
  simp only [IsA, Is] at h3
  obtain ⟨x, w, rfl, rfl, x', w', rfl, rfl, rfl⟩ := h3
  exact ⟨a, rfl, e.t h2⟩
theorem isA_pairs {K : Frg} {R H : Hp} (e : Ex R H) : ∀ {ps : List (Int × Int)} {vs : List V}, IsA K R (ps.map fr) vs → Paired (PairV K H) vs ps ∧ ∀ z ∈ vs.zip ps, Is K R (fr z.2) z.1
  | [], vs, h => by
    rw [List.map_nil, IsA] at h
    subst h
    exact ⟨.nil, fun z hz => by cases hz⟩
  | p :: r, vs, h => by
    rw [List.map_cons, IsA] at h
    obtain ⟨v, w, rfl, h1, h2⟩ := h
    obtain ⟨a, b⟩ := isA_pairs e h2
    refine ⟨.cons (is_pair e h1) a, fun z hz => ?_⟩
    rw [List.zip_cons_cons] at hz
    rcases List.mem_cons.mp hz with e1 | e1
    · rw [e1]; exact h1
    · exact b z e1
theorem isA_ofZip {K : Frg} {R : Hp} : ∀ {zs : List (V × (Int × Int))}, (∀ z ∈ zs, Is K R (fr z.2) z.1) → IsA K R ((zs.map (·.2)).map fr) (zs.map (·.1))
  | [], _ => isA_nil
  | z :: r, h => isA_cons (h z (List.mem_cons_self ..)) (isA_ofZip fun y hy => h y (List.mem_cons_of_mem _ hy))
theorem sortQ_at {os1 : List (Option Addr)} {σ : L2.St} {H1 : Hp} {a : Addr} {vs : List V} {ps ms : List (Int × Int)} {Q : VK} (k1 : Ok C os1 A1 σ H1) (hs : SqL C.K H1 a vs ∨ SqT C.K H1 a vs) (h3 : IsA C.K (Rh C.O os1 H1) (ps.map fr) vs) (hq : ∀ qs, qs.Perm ps → qs.Pairwise (fun x y => SrtO.lexB y x = false) → qs = ms)
    (q : ∀ (d : Addr) (ws : List V), H1 d = none → IsA C.K (Rh C.O os1 H1) (ms.map fr) ws → Q (.ref d) (upd H1 d (.lst ws))) : rSortQ C.K [.ref a] H1 Q := by
  obtain ⟨p1, p2⟩ := isA_pairs (H := H1) hd_ex h3
  refine ⟨a, vs, ps, rfl, hs, p1, fun zs d hp hw hn => ?_⟩
  have hl : vs.length = ps.length := by rw [isA_len h3, List.length_map]
  have e1 : (zs.map (·.2)).Perm ps := by
    have := hp.map (·.2)
    rw [List.map_snd_zip (by omega)] at this
    exact this
  refine q d _ hn ?_
  rw [← hq _ e1 (List.pairwise_map.mpr hw)]
  exact isA_ofZip fun z hz => p2 z (hp.mem_iff.mp hz)
theorem e_sortQT {ps ms : List (Int × Int)} (h : EvS C te A (.tup (ps.map fr)) A1) (hq : ∀ qs, qs.Perm ps → qs.Pairwise (fun x y => SrtO.lexB y x = false) → qs = ms) : EvS C (tCB (rSortQ C.K) (tCons te tNil)) A (.lst (ms.map fr)) A1 := fun os σ H k Q q =>
  h os σ H k _ fun os1 v H1 k1 e1 i1 => by
    rw [Is] at i1
    obtain ⟨a, vs, rfl, h2, h3⟩ := i1
    refine sortQ_at k1 (.inr (hd_ex.t h2)) h3 hq fun d ws hn hi => q os1 _ _ (k1.monoN hn) (e1.trans (k1.gr (Ex.new hn))) ?_
    rw [Is]
    exact ⟨d, ws, rfl, SqL.of (k1.fresh hn), IsA.mono (hd_mono (Ex.new hn)) _ _ hi⟩
theorem e_sortQL {ps ms : List (Int × Int)} (h : EvS C te A (.lst (ps.map fr)) A1) (hq : ∀ qs, qs.Perm ps → qs.Pairwise (fun x y => SrtO.lexB y x = false) → qs = ms) : EvS C (tCB (rSortQ C.K) (tCons te tNil)) A (.lst (ms.map fr)) A1 := fun os σ H k Q q =>
  h os σ H k _ fun os1 v H1 k1 e1 i1 => by
    rw [Is] at i1
    obtain ⟨a, vs, rfl, h2, h3⟩ := i1
    refine sortQ_at k1 (.inl (hd_ex.l h2)) h3 hq fun d ws hn hi => q os1 _ _ (k1.monoN hn) (e1.trans (k1.gr (Ex.new hn))) ?_
    rw [Is]
    exact ⟨d, ws, rfl, SqL.of (k1.fresh hn), IsA.mono (hd_mono (Ex.new hn)) _ _ hi⟩
/-- a list in order is the one list in order of its members -/
theorem lex_one {ps : List (Int × Int)} (h : ps.Pairwise fun x y => SrtO.lexB y x = false) : ∀ qs : List (Int × Int), qs.Perm ps → qs.Pairwise (fun x y => SrtO.lexB y x = false) → qs = ps := fun qs hp hw =>
  List.Perm.eq_of_pairwise (le := fun x y => SrtO.lexB y x = false) (fun a b _ _ h1 h2 => by
    have q1 := SrtO.lexB_no.mp h1
    have q2 := SrtO.lexB_no.mp h2
    have e1 : a.1 = b.1 := by omega
    have e2 : a.2 = b.2 := by omega
    exact Prod.ext e1 e2) hw h hp
/-! ### a tuple that is known as an object -/
theorem is_tupZ {K : Frg} {H : Hp} {xs : List Dt} {v : V} (h : Is K H (.tupZ xs) v) : Is K H (.tup xs) v := by
  rw [Is] at h
  obtain ⟨a, o, vs, h1, h2, _, h3⟩ := h
  rw [Is]
  exact ⟨a, vs, h1, .inl (.inr ⟨o, h2⟩), h3⟩
theorem e_unZ {xs : List Dt} (h : EvS C te A (.tupZ xs) A1) : EvS C te A (.tup xs) A1 := fun os σ H k Q q => h os σ H k Q fun os1 v H1 k1 e1 i1 => q os1 v H1 k1 e1 (is_tupZ i1)
def rTupZ (K : Frg) : List V → Hp → VK → Prop := fun xs H Q => ∃ p ys, xs = [.ref p] ∧ SqL K H p ys ∧ ∀ l o, o.dict = none → H l = none → Q (.ref l) (upd H l (.frz o (.tup ys)))
def rDictZ (K : Frg) : List V → Hp → VK → Prop := fun xs H Q => ∃ (a : Addr) (o : Obj) (ps : List Addr) (kvs : List (Key × V)), xs = [.ref a] ∧ H a = some (.frz o (.tup (ps.map V.ref))) ∧ o.dict = none ∧ Paired (fun p kv => SqT K H p [kV kv.1, kv.2]) ps kvs ∧
    ∀ p, H p = none → Q (.ref p) (upd H p (.dK (mergeK [] kvs)))
/-- tuple(xs), xs one's own -/
theorem e_tupOZ {i n : Nat} {xs : List Dt} (h1 : A.sl[i]? = some (.own n)) (h2 : A.st[n]? = some (.lst xs)) : EvS C (tCB (rTupZ C.K) (tCons (tVar i) tNil)) A (.tupZ xs) A := fun os σ H k Q q => by
  obtain ⟨o, e1, a, e2, e3⟩ := k.slot h1
  subst e2
  obtain ⟨o3, s1, a3, vs, s2, s3, s4⟩ := k.store h2
  rw [e3] at s1; cases s1; cases s2
  refine ⟨_, e1, a, vs, rfl, SqL.of s3, fun l o ho hl => q os _ _ (k.monoN hl) (k.gr (Ex.new hl)) ?_⟩
  rw [Is]
  exact ⟨l, o, vs, rfl, k.fresh hl, ho, IsA.mono (hd_mono (Ex.new hl)) _ _ s4⟩
/-- len(dict(rows)), the first parts all different -/
theorem e_lenDictZ {ps : List (Int × Int)} (h : EvS C te A (.tupZ (ps.map fr)) A1) (hd : (ps.map (·.1)).Nodup) : EvS C (tCB (fun xs H Q => ∃ a kvs, xs = [V.ref a] ∧ H a = some (.dK kvs) ∧ Q (.int kvs.length) H) (tCons (tCB (rDictZ C.K) (tCons te tNil)) tNil)) A (di ps.length) A1 := fun os σ H k Q q =>
  h os σ H k _ fun os1 v H1 k1 e1 i1 => by
    rw [Is] at i1
    obtain ⟨a, o, vs, rfl, h2, h4, h3⟩ := i1
    obtain ⟨p1, _⟩ := isA_pairs (H := H1) hd_ex h3
    have tell : ∀ {vs : List V} {ps : List (Int × Int)}, Paired (PairV C.K H1) vs ps → ∃ as : List Addr, vs = as.map V.ref ∧ Paired (fun p (kv : Key × V) => SqT C.K H1 p [kV kv.1, kv.2]) as (ps.map fun p => (Sum.inl p.1, V.int p.2)) := by
      intro vs ps r
      induction r with
      | nil => exact ⟨[], rfl, .nil⟩
      | cons hh _ ih =>
        obtain ⟨as, z1, z2⟩ := ih
        obtain ⟨t, rfl, ht⟩ := hh
        exact ⟨t :: as, by rw [z1]; rfl, .cons ht z2⟩
    obtain ⟨as, rfl, pp⟩ := tell p1
    refine ⟨a, o, as, _, rfl, hd_ex a _ h2 nt_f, h4, pp, fun d hn => ⟨d, _, rfl, upd_same, ?_⟩⟩
    have el : (mergeK [] (ps.map fun p => ((Sum.inl p.1 : Key), V.int p.2))).length = ps.length := by
      have go : ∀ (qs : List (Int × Int)) (acc : List (Key × V)), (qs.map (·.1)).Nodup → (∀ q ∈ qs, ∀ kv ∈ acc, kv.1 ≠ Sum.inl q.1) → (mergeK acc (qs.map fun p => ((Sum.inl p.1 : Key), V.int p.2))).length = acc.length + qs.length := by
        intro qs
        induction qs with
        | nil => intro acc _ _; rfl
        | cons x r ih =>
          intro acc hn ha
          rw [List.map_cons] at hn
          obtain ⟨n1, n2⟩ := List.nodup_cons.mp hn
          have ne : (acc.any fun kv => decide (kv.1 = (Sum.inl x.1 : Key))) = false := by
            rw [List.any_eq_false]
            intro kv hk z
            exact ha x (List.mem_cons_self ..) kv hk (of_decide_eq_true z)
          have ep : putK acc (Sum.inl x.1 : Key) (V.int x.2) = acc ++ [(Sum.inl x.1, V.int x.2)] := by
            unfold putK
            rw [if_neg (by rw [ne]; decide)]
          show (mergeK (putK acc (Sum.inl x.1) (V.int x.2)) _).length = _
          rw [ep, ih _ n2 fun q hq kv hk => ?_]
          · simp; omega
          · rcases List.mem_append.mp hk with z | z
            · exact ha q (List.mem_cons_of_mem _ hq) kv z
            · simp at z
              rw [z]
              intro e
              injection e with e
              exact n1 (by rw [e]; exact List.mem_map.mpr ⟨q, hq, rfl⟩)
      rw [go ps [] hd fun _ _ kv hk => by cases hk]
      simp
    rw [el]
    exact q os1 _ _ (k1.monoN hn) (e1.trans (k1.gr (Ex.new hn))) is_v
end
end Py
end

section
set_option Elab.async false
set_option linter.all false
set_option maxRecDepth 100000
set_option maxHeartbeats 4000000
set_option autoImplicit false
namespace Py
open PySem PySem.Spec PyProof.Rows L2
theorem takesF {X : Cx} {A : Around} {outer : List Env} {s : Shared} {H : Hp} {E : XK} {scope : Scope} {f c' : Addr} : Takes (LamX.lamCx X A outer s H E scope f c') (fun cls d _ H => E cls d H) := takes_of rfl rfl rfl rfl
/-- what a lambda's body calls lets out is what the lambda lets out -/
theorem psF {X : Cx} {A : Around} {outer : List Env} {s : Shared} {H : Hp} {E : XK} {scope : Scope} {f c' : Addr} : Passes (L2.CX (LamX.lamCx X A outer s H E scope f c').prog (LamX.lamCx X A outer s H E scope f c').w) (LamX.lamCx X A outer s H E scope f c') E := passes_call takesF fun _ _ _ _ h => h
/-- x(lambda: body), x a def that tries the call, and answers a text for an error -/
theorem pe_told {X : Cx} {T : List (Addr × Str)} {x a e ret : Str} {stT : Stmt} {CS : Addr} {f : Str} {k j : Nat} {p1 p2 p3 p4 p5 p6 p7 p8 : Pos} {params : Arguments} {body : Expr} {scope : Scope} {t : XK → TE} {p lpos pos : Pos}
    (F : ∃ fd, FunD X.K x x (defArgs stT) (defBody stT) (defScope stT) [] [] (He.ga X.K x) fd) (hm : X.mg x = some (.ref (He.ga X.K x)))
    (hbod : defBody stT = [.Try [.Return (some (.Call (.Name a p1) [] [] p2)) p3] [.ExceptHandler (some (.Name e p4)) none [.Return (some (.Constant (.str ret) j p5)) p6] p7] [] [] p8])
    (Sg : FnScope [a] [a] (defScope stT)) (hva : Vis (defScope stT) a) (hge : (defScope stT).names.lookup e = some .globalImplicit) (hde : (e == ("__debug__" : Str)) = false) (hme : X.mg e = some (.ref CS))
    (hbT : ∀ (kV doc pm : Value) (an : Option Addr) (cdv ct : Value) (us : List Value), us.length = 1 → bindArgs (PySem.W.fnOf x x (defArgs stT) (defBody stT) (defScope stT) .none kV doc pm an cdv ct) ⟨us, []⟩ = pure ([a].zip us))
    (LB : LamB X.K X.base X.mg T f) (hq : X.env.qual ++ "<lambda>" = lamQ f) (hcode : X.env.code = .ref (He.cT X.K (f, none)).1) (hr : Room (k + 2) X.A) (L : LamX.LamS X.env.scope scope) (hdef : defaultsOf params X.env = ([], []))
    (hbind : ∀ (q : Str) (cl : List (Str × Addr)) (pm cv ctv : Value), bindArgs (PySem.W.kla_fn "<lambda>" q params body scope cl pm cv ctv) ⟨[], []⟩ = pure [])
    (hbody : ∀ (A : Around) (outer : List Env) (s : Shared) (H : Hp) (E : XK) (f c' : Addr), Room k (A.deeper (LamX.lamEnv X scope s.heap.objs.size f c')) → PE (LamX.lamCx X A outer s H E scope f c') body (t E))
    (hg : Gl X x := by rfl) (hdb : (x == ("__debug__" : Str)) = false := by decide) (hd : (a == ("__debug__" : Str)) = false := by decide) (hcd : (a == ("__classdict__" : Str)) = false := by decide) :
    PE X (.Call (.Name x p) [.Lambda params body scope lpos] [] pos) (LamX.tLam T (LamX.TTold X.K CS ret) t) := by
  obtain ⟨fd, F⟩ := F
  have kb := F.bindsN (ps := [a]) hbT
  have kp := F.kp
  obtain ⟨oc, od, dV, kV, doc, pm, an, cdv, ct, osl, e1, lk, hc⟩ := fnd_of F
  subst e1
  refine LamX.pe_lamcall (k := k) hg hm kp lk hc kb Sg rfl hva ?_ LB.tb hcode (by rw [hq]; exact LB.mm) (by rw [hq]; exact LB.hu) hr L hdef hbind hbody hdb hd hcd
  rw [hbod]
  exact LamX.told_gives hge hme hde fun _ => rfl
end Py
end

section
set_option Elab.async false
set_option linter.all false
set_option maxRecDepth 100000
set_option maxHeartbeats 4000000
set_option autoImplicit false
namespace Py
open PySem PySem.Spec PyProof.Rows L2
/-! ### {k: v, ..}, d[k] -/
def EvPs (C : Ct) (trs : List (TE × TE)) (A : AS) (ks : List Key) (xs : List Dt) (A1 : AS) : Prop := ∀ os σ H, Ok C os A σ H → ∀ Q : List (V × V) → Hp → Prop, (∀ os' vs H', Ok C os' A1 σ H' → Gr C.O os H os' H' → IsA C.K (Rh C.O os' H') xs vs → Q ((ks.map kV).zip vs) H') → tPairs trs σ H Q
theorem tabs_dk {T : List (Addr × Str)} {H : Hp} {p : Addr} {ks ls : List (Key × V)} (t : LamX.Tabs T H) (hp : H p = some (.dK ks)) : LamX.Tabs T (upd H p (.dK ls)) := fun q hq => by
  obtain ⟨ps, h1, h2, h3⟩ := t q hq
  refine ⟨ps, ?_, h2, fun pos cv hc => ?_⟩
  · rw [upd_ne (ne_of h1 hp (fun z => by cases z))]
    exact h1
  · obtain ⟨c, e1, e2⟩ := h3 pos cv hc
    refine ⟨c, e1, ?_⟩
    rw [upd_ne (ne_of e2 hp (fun z => by unfold LamX.CodeO at z; cases z))]
    exact e2
section
variable {C : Ct} {E : XK} {A A1 A2 A3 : AS} {σ : L2.St} {H H' : Hp} {os os' : List (Option Addr)} {p : Addr} {tk tv td ty ta tb tc : TE} {trs : List (TE × TE)} {ks : List Key} {xs : List Dt} {d x y z : Dt}
theorem Ok.updK {us ws : List (Key × V)} (k : Ok C os A σ H) (h : p ∈ C.O) (h0 : ∀ o, C.H0 p = some o → ¬ NoT o) (hl : H p = some (.dK us)) : Ok C os A σ (upd H p (.dK ws)) := by
  refine ⟨fun a o e n => ?_, tabs_dk k.tb hl, fun a m => ?_, k.dj, k.ln, k.nd, fun a m => ?_, k.sn, fun i s o h1 h2 => ?_, fun i s o h1 h2 => ?_⟩
  · rw [upd_ne fun z => h0 o (by rw [← z]; exact e) n]
    exact k.ex _ _ e n
  · by_cases e : a = p
    · rw [e]; exact ⟨_, upd_same, nt_k⟩
    · rw [upd_ne e]; exact k.ol a m
  · rw [upd_ne fun z => k.dj p h (by rw [← z]; exact m)]
    exact k.fr a m
  · rw [Rh_updO h]
    exact k.sl i s o h1 h2
  · rw [Rh_updO h]
    exact (k.st i s o h1 h2).heap fun a q1 => upd_ne fun z => k.dj p h (by rw [← z, ← q1]; exact List.mem_of_getElem? h2)
theorem ps_nil : EvPs C [] A [] [] A := fun os σ H k Q q => q os [] H k Gr.refl isA_nil
theorem ps_cons {k0 : Key} (hk : EvS C tk A (.v (kV k0)) A1) (hv : EvS C tv A1 x A2) (hr : EvPs C trs A2 ks xs A3) : EvPs C ((tk, tv) :: trs) A (k0 :: ks) (x :: xs) A3 := fun os σ H k Q q =>
  hk os σ H k _ fun os1 v1 H1 k1 e1 i1 => hv os1 σ H1 k1 _ fun os2 v2 H2 k2 e2 i2 => hr os2 σ H2 k2 _ fun os3 vs H3 k3 e3 i3 => by
    rw [Is.v_iff.mp i1]
    exact q os3 (v2 :: vs) H3 k3 ((e1.trans e2).trans e3) (isA_cons (Is.mono e3.e _ _ i2) i3)
theorem merge_nd : ∀ (kvs acc : List (Key × V)), (acc ++ kvs).map (·.1) |>.Nodup → mergeK acc kvs = acc ++ kvs
  | [], acc, _ => by rw [List.append_nil]; rfl
  | kv :: r, acc, h => by
    have ne : (acc.any fun q => decide (q.1 = kv.1)) = false := by
      rw [List.any_eq_false]
      intro q hq z
      rw [List.map_append, List.nodup_append] at h
      exact h.2.2 _ (List.mem_map.mpr ⟨q, hq, rfl⟩) _ (List.mem_map.mpr ⟨kv, List.mem_cons_self .., rfl⟩) (of_decide_eq_true z)
    show mergeK (putK acc kv.1 kv.2) r = _
    unfold putK
    rw [if_neg (by rw [ne]; decide)]
    rw [merge_nd r (acc ++ [(kv.1, kv.2)]) (by simpa [List.append_assoc] using h)]
    simp
theorem zip_kV : ∀ (ks : List Key) (vs : List V), (ks.map kV).zip vs = (ks.zip vs).map fun kv => (kV kv.1, kv.2)
  | [], _ => rfl
  | _ :: _, [] => rfl
  | k :: ks, v :: vs => by rw [List.map_cons, List.zip_cons_cons, List.zip_cons_cons, List.map_cons, zip_kV ks vs]
theorem e_disp (h : ∀ O, EvPs ⟨C.K, C.T, C.H0, O⟩ trs A ks xs A1) (nd : ks.Nodup) (hl : ks.length ≤ 15) (hx : xs.length = ks.length) : EvS C (tDisp trs) A (.dct ks xs) A1 := fun os σ H k Q q p hp => by
  have k1 := k.hide hp (nt_k (kvs := []))
  refine h (p :: C.O) os σ _ k1 _ fun os2 vs H2 k2 g2 i2 => ⟨(g2.o p (List.mem_cons_self ..)).trans upd_same, ks.zip vs, zip_kV ks vs, ?_, ?_⟩
  · rw [List.length_zip]; omega
  · have hp2 : H2 p = some (.dK []) := (g2.o p (List.mem_cons_self ..)).trans upd_same
    have hv := isA_len i2
    rw [merge_nd (ks.zip vs) [] (by rw [List.nil_append, List.map_fst_zip (by omega)]; exact nd), List.nil_append]
    have k3 : Ok (C.hide p) os2 A1 σ (upd H2 p (.dK (ks.zip vs))) := Ok.updK (C := C.hide p) k2 (List.mem_cons_self ..) (fun o e => fresh_0 (C := C) k hp o e) hp2
    refine q os2 _ _ k3.unhide ⟨?_, fun a ha => ?_, g2.p⟩ ?_
    · have e := g2.e
      rw [Rh_hide hp] at e
      refine e.trans ?_
      rw [← Rh_updO (o := .dK (ks.zip vs)) (List.mem_cons_self ..)]
      exact Rh_unhide
    · rw [upd_ne fun z => fresh_O k hp (by rw [← z]; exact ha), g2.o a (List.mem_cons_of_mem _ ha), upd_ne fun z => fresh_O k hp (by rw [← z]; exact ha)]
    · rw [Is]
      refine ⟨p, vs, rfl, ?_, ?_⟩
      · show hd _ _ p = _
        rw [hd_of fun z => ?_, upd_same]
        rcases mem_hid.mp z with z | z
        · exact fresh_O k hp z
        · exact k2.dj p (List.mem_cons_self ..) z
      · refine IsA.mono ?_ _ _ i2
        rw [← Rh_updO (o := .dK (ks.zip vs)) (List.mem_cons_self ..)]
        exact Rh_unhide
theorem dct_get {K : Frg} {R : Hp} {k0 : Key} : ∀ {ks : List Key} {xs : List Dt} {vs : List V}, IsA K R xs vs → ((ks.zip xs).find? fun q => decide (q.1 = k0)).map (·.2) = some d → ∃ v, valV (ks.zip vs) k0 = some v ∧ Is K R d v
  | [], xs, vs, h, e => by simp at e
  | k :: ks, [], vs, h, e => by simp at e
  | k :: ks, x :: xs, vs, h, e => by
    rw [IsA] at h
    obtain ⟨v, w, rfl, h1, h2⟩ := h
    unfold valV
    rw [List.zip_cons_cons] at e ⊢
    by_cases q : k = k0
    · rw [List.find?_cons_of_pos (by simpa using q)] at e ⊢
      cases e
      exact ⟨v, rfl, h1⟩
    · rw [List.find?_cons_of_neg (by simpa using q)] at e ⊢
      exact dct_get h2 e
theorem e_dget {k0 : Key} (h1 : EvS C td A (.dct ks xs) A1) (h2 : EvS C ty A1 (.v (kV k0)) A2) (h : ((ks.zip xs).find? fun q => decide (q.1 = k0)).map (·.2) = some d) : EvS C (tDGet td ty) A d A2 := fun os σ H k Q q =>
  h1 os σ H k _ fun os1 v1 H1 k1 e1 i1 => h2 os1 σ H1 k1 _ fun os2 v2 H2 k2 e2 i2 => by
    rw [Is.v_iff.mp i2]
    have i1 := Is.mono e2.e _ _ i1
    rw [Is] at i1
    obtain ⟨a, vs, rfl, g1, g2⟩ := i1
    obtain ⟨v, z1, z2⟩ := dct_get g2 h
    exact ⟨a, v, rfl, .inl ⟨_, k0, .inl (hd_ex a _ g1 nt_k), rfl, z1.symm⟩, q os2 v H2 k2 (e1.trans e2) z2⟩
end
/-- a difference of two truths -/
def rSubB : R2 := fun x y H Q => ∃ p q : Bool, x = .bl p ∧ y = .bl q ∧ Q (.int ((if p then 1 else 0) - (if q then 1 else 0))) H
theorem op_subBB {X : Cx} : OpR X (binaryOp .Sub) rSubB := by
  intro pins s σ H x y v u Q I rx ry h
  obtain ⟨p, q, rfl, rfl, h⟩ := h
  cases rx
  cases ry
  exact PyProof.Rows.sub_bool ⟨.int _, H, I.tok _, ⟨_, rfl⟩, h⟩
theorem o_subBB {C : Ct} {p q : Bool} : OpS C rSubB (db p) (db q) (di ((if p then 1 else 0) - (if q then 1 else 0))) := o_v fun H Q h => ⟨p, q, rfl, rfl, h⟩
end Py
end

section
set_option Elab.async false
set_option linter.all false
set_option maxRecDepth 100000
set_option maxHeartbeats 4000000
set_option autoImplicit false
namespace Py
open PySem PySem.Spec PyProof.Rows L2
/-! ### a comprehension over a tuple -/
section
variable {C : Ct} {A A1 A2 A3 : AS} {te tl : TE} {tt : TT} {g : TG} {ws : List Nat}
theorem e_lcT {xs : List Dt} (he : EvS C tl A (.tup xs) A1) (B : Nat → AS) (Y : Nat → List Dt) (h0 : A1 = B 0) (hY : Y 0 = [])
    (hs : ∀ i x, xs[i]? = some x → ∀ O, LcT ⟨C.K, C.T, C.H0, O⟩ g tt te ws x (B i) (Y i) (B (i + 1)) (Y (i + 1))) (hn : xs.length < 100000) : EvS C (tLc (iTup C.K tl) g tt te ws) A (.lst (Y xs.length)) (B xs.length) := fun os σ H k Q q =>
  he os σ H k _ fun os1 v H1 k1 g1 i1 => by
    rw [Is] at i1
    obtain ⟨a, vs, rfl, h1, h2⟩ := i1
    refine ⟨a, rfl, ⟨vs, hd_ex.t h1⟩, fun p hp => ?_⟩
    have hl : ∀ i, i ≤ xs.length → (Y i).length ≤ i := by
      intro i
      induction i with
      | zero => intro _; rw [hY]; exact Nat.le_refl _
      | succ i ih =>
        intro hi
        obtain ⟨_, _, _, _, _, h⟩ := hs i xs[i] (List.getElem?_eq_getElem hi) []
        rcases h with ⟨_, _, _, _, e, _⟩ | ⟨_, e, _⟩ <;> rw [e] <;> have := ih (by omega) <;> (try simp only [List.length_append, List.length_singleton]) <;> omega
    subst h0
    have el : vs.length = xs.length := isA_len h2
    refine lc_tup (K := C.K) (a := a) (xs := vs) (fun i H' => ∃ os' acc, Ok (C.hide p) os' (B i) σ H' ∧ GrP p C.O os1 (upd H1 p (.lst [])) os' H' ∧ H' p = some (.lst acc) ∧ IsA C.K (Rh (p :: C.O) os' H') (Y i) acc) ⟨os1, [], k1.hide hp nt_l, ⟨Ex.refl _, fun _ _ => rfl, fun _ _ h => h⟩, upd_same, by rw [hY]; exact isA_nil⟩ (fun i H' _ ⟨os', acc, k', g', hp', ha⟩ => ?_) ?_ ?_
    · have e := g'.e
      rw [Rh_hide hp] at e
      exact hd_ex.t (e.t h1)
    · rintro i x H' hi ⟨os', acc, k', g', hp', ha⟩
      obtain ⟨d, hd', hi'⟩ := isA_get' h2 hi
      have e := g'.e
      rw [Rh_hide hp] at e
      exact lc_turn (hs i d hd' _) k' hp' ha (Is.mono e _ _ hi') (fresh_0 k1 hp) (fresh_O k1 hp) (by have := hl i (by have := (List.getElem?_eq_some_iff.mp hd').1; omega); have := (List.getElem?_eq_some_iff.mp hd').1; omega) _ fun os2 acc2 H2 k2 g2 hp2 ha2 => ⟨os2, acc2, k2, g'.trans g2, hp2, ha2⟩
    · rintro H' ⟨os', acc, k', g', hp', ha⟩
      rw [el] at k' ha
      exact lc_end k1 hp k' g' hp' ha fun os2 v H2 k2 g2 i2 => q os2 v H2 k2 (g1.trans g2) i2
end
theorem w_rng2n {C : Ct} {A A1 : AS} {tl : TA} {m n : Int} {c : Nat} (h : EvA C tl A [di m, di n] A1) (e : (n - m).toNat = c) (hm : -(2 ^ 62) ≤ m ∧ m < 2 ^ 62) (hn : -(2 ^ 62) ≤ n ∧ n < 2 ^ 62) : ∀ os σ H, Ok C os A σ H → ∀ R : It → Hp → Prop, (∀ os' H', Ok C os' A1 σ H' → Gr C.O os H os' H' → R (Itr m c) H') → iRng2 tl σ H R := by
  subst e
  exact w_rng2 h hm hn
theorem w_rng1n {C : Ct} {A A1 : AS} {tl : TA} {n : Int} {c : Nat} (h : EvA C tl A [di n] A1) (e : n.toNat = c) (hn : -(2 ^ 62) ≤ n ∧ n < 2 ^ 62) : ∀ os σ H, Ok C os A σ H → ∀ R : It → Hp → Prop, (∀ os' H', Ok C os' A1 σ H' → Gr C.O os H os' H' → R (Itr 0 c) H') → iRng1 tl σ H R := by
  subst e
  exact w_rng1 h hn
theorem pi_listK {X : Cx} {K : Frg} {tg : Expr} {l : Expr} {tl : TE} (hk : X.K = K) (hl : PE X l tl) : PI X tg l (iList K tl) := by
  subst hk
  exact pi_list hl
theorem pi_tupK {X : Cx} {K : Frg} {tg : Expr} {l : Expr} {tl : TE} (hk : X.K = K) (hl : PE X l tl) : PI X tg l (iTup K tl) := by
  subst hk
  exact pi_tup hl
/-- the scope of a comprehension that a statement gives to a name -/
def lcScope : Stmt → Scope
  | .Assign _ (.ListComp _ _ sc _) _ => sc
  | _ => default
theorem rel_lookup {env : Env} {x : Str} : ∀ {names : List (Str × NameKind)}, names.lookup x = some .cell ∨ names.lookup x = some .free →
    (names.map fun (n, k) => if (k == NameKind.free && env.scope.kind == .function && env.kindOf n == some .cell) then (n, NameKind.cell) else (n, k)).lookup x = some .cell ∨ (names.map fun (n, k) => if (k == NameKind.free && env.scope.kind == .function && env.kindOf n == some .cell) then (n, NameKind.cell) else (n, k)).lookup x = some .free
  | [], h => by simp at h
  | (n, k) :: r, h => by
    have ih := rel_lookup (env := env) (x := x) (names := r)
    rw [List.map_cons]
    dsimp only
    rw [List.lookup_cons] at h
    split
    · rw [List.lookup_cons]
      split
      · exact .inl rfl
      · rename_i q
        rw [q] at h
        exact ih h
    · rw [List.lookup_cons]
      split
      · rename_i q
        rw [q] at h
        exact h
      · rename_i q
        rw [q] at h
        exact ih h
theorem blkOk_rel {env : Env} {N : List Str} {sc scope : Scope} {own : List (Str × Nat)} (h : BlkOk N sc scope own) : BlkOk N (relabel sc env) scope own := ⟨h.kind, h.uniq, h.ix, fun y hy e => rel_lookup (env := env) (h.free y hy e), h.own⟩
theorem pg_tupK {X : Cx} {K : Frg} {es : List Expr} {k : Nat} {t : TGs} {n : Nat} {pos : Pos} (hk : X.K = K) (hc : X.calm = true) (h : PGs X es t) (hn : (assignEach es X.env).length = n := by rfl) (hst : (assignEach es X.env).findIdx? (·.1) = none := by rfl) : PG X (.Tuple es k pos) (gTup K n t) := by
  subst hk
  exact pg_tup hc h hn hst
end Py
end

section
set_option Elab.async false
set_option linter.all false
set_option maxRecDepth 100000
set_option maxHeartbeats 4000000
set_option autoImplicit false
namespace Py
open PySem PySem.Spec PyProof.Rows L2
/-! ### a list of one's own given to a def that only reads it -/
section
variable {C : Ct} {E : XK} {A A1 A2 : AS} {te : TE} {tl tr : TA} {d : Dt} {ss : List SD}
theorem p_own {i n : Nat} (h1 : A.sl[i]? = some (.own n)) (hr : EvP C tr A ss A1) : EvP C (tCons (tVar i) tr) A (.own n :: ss) A1 := fun os σ H k Q q => by
  obtain ⟨o, e1, a, e2, e3⟩ := k.slot h1
  subst e2
  exact ⟨_, e1, hr os σ H k _ fun os2 ws H2 k2 g2 i2 => q os2 _ H2 k2 g2 ⟨_, ws, rfl, ⟨a, rfl, g2.p _ _ e3⟩, i2⟩⟩
def SdD (A : AS) : List SD → List Dt → Prop
  | [], ds => ds = []
  | .d x :: ss, ds => ∃ r, ds = x :: r ∧ SdD A ss r
  | .own n :: ss, ds => ∃ xs r, A.st[n]? = some (.lst xs) ∧ ds = .lst xs :: r ∧ SdD A ss r
  | .un :: _, _ => False
theorem sd_nil : SdD A [] [] := rfl
theorem sd_d {x : Dt} {r : List Dt} (h : SdD A ss r) : SdD A (.d x :: ss) (x :: r) := ⟨r, rfl, h⟩
theorem sd_own {n : Nat} {xs : List Dt} {r : List Dt} (h1 : A.st[n]? = some (.lst xs)) (h : SdD A ss r) : SdD A (.own n :: ss) (.lst xs :: r) := ⟨xs, r, h1, rfl, h⟩
theorem sd_isA {os : List (Option Addr)} {σ : Sg} {H : Hp} (k : Ok C os A σ H) : ∀ {ss : List SD} {ds : List Dt} {vs : List V}, SdD A ss ds → SlA C.K os (Rh C.O os H) ss vs → IsA C.K (hd C.O H) ds vs
  | [], ds, vs, h, i => by
    obtain rfl : ds = [] := h
    obtain rfl : vs = [] := i
    exact isA_nil
  | .d x :: ss, ds, vs, h, i => by
    obtain ⟨r, rfl, h⟩ := h
    obtain ⟨v, w, rfl, h1, h2⟩ := i
    obtain ⟨v', e, h1⟩ := h1
    cases e
    exact isA_cons (Is.mono hid_ex _ _ h1) (sd_isA k h h2)
  | .own n :: ss, ds, vs, h, i => by
    obtain ⟨xs, r, h1, rfl, h⟩ := h
    obtain ⟨v, w, rfl, h2, h3⟩ := i
    obtain ⟨a, e, h2⟩ := h2
    cases e
    obtain ⟨o, e1, a', us, e2, e3, e4⟩ := k.store h1
    rw [h2] at e1; cases e1; cases e2
    refine isA_cons ?_ (sd_isA k h h3)
    rw [Is]
    refine ⟨a, us, rfl, SqL.of ?_, IsA.mono hid_ex _ _ e4⟩
    rw [hd_of fun z => ?_]
    · exact e3
    · exact k.dj a z (List.mem_of_getElem? h2)
mutual
/-- no list in it -/
def pl : Dt → Bool
  | .v _ => true
  | .tup xs => plA xs
  | .lst _ => false
  | .obj .. => false
  | .dct .. => false
  | .tupZ _ => false
  | .lam _ _ => false
  | .lstN _ => false
  | .tupE _ => false
  | .dctT .. => false
def plA : List Dt → Bool
  | [] => true
  | x :: r => pl x && plA r
end
mutual
theorem is_hide {K : Frg} {O O' : List Addr} {H : Hp} (hH : ∀ a ∈ O, a ∉ O' → ∃ xs, H a = some (.lst xs)) : ∀ (d : Dt) (v : V), pl d = true → Is K (hd O' H) d v → Is K (hd O H) d v
  | .v x, v, _, h => by rw [Is] at h ⊢; exact h
  | .tup xs, v, e, h => by
    rw [Is] at h ⊢
    obtain ⟨a, vs, h1, h2, h3⟩ := h
    refine ⟨a, vs, h1, ?_, isA_hide hH xs vs (by rw [pl] at e; exact e) h3⟩
    have st : ∀ o, hd O' H a = some o → (∀ xs, o ≠ .lst xs) → hd O H a = some o := fun o q n => by
      have q0 := q
      unfold hd at q
      split at q
      · cases q
      · rename_i z
        unfold hd
        rw [if_neg fun y => ?_]
        · exact q
        · obtain ⟨xs, e⟩ := hH a y z
          rw [e] at q
          cases q
          exact n xs rfl
    rcases h2 with (h2 | ⟨o, h2⟩) | h2
    · exact .inl (.inl (st _ h2 fun _ z => by cases z))
    · exact .inl (.inr ⟨o, st _ h2 fun _ z => by cases z⟩)
    · exact .inr h2
  | .lst _, _, e, _ => by rw [pl] at e; cases e
  | .obj .., _, e, _ => by rw [pl] at e; cases e
  | .dct .., _, e, _ => by rw [pl] at e; cases e
  | .tupZ _, _, e, _ => by rw [pl] at e; cases e
  | .lam _ _, _, e, _ => by rw [pl] at e; cases e
  | .lstN _, _, e, _ => by rw [pl] at e; cases e
  | .tupE _, _, e, _ => by rw [pl] at e; cases e
  | .dctT .., _, e, _ => by rw [pl] at e; cases e
theorem isA_hide {K : Frg} {O O' : List Addr} {H : Hp} (hH : ∀ a ∈ O, a ∉ O' → ∃ xs, H a = some (.lst xs)) : ∀ (ds : List Dt) (vs : List V), plA ds = true → IsA K (hd O' H) ds vs → IsA K (hd O H) ds vs
  | [], vs, _, h => by rw [IsA] at h ⊢; exact h
  | d :: r, vs, e, h => by
    rw [IsA] at h ⊢
    rw [plA, Bool.and_eq_true] at e
    obtain ⟨v, w, h1, h2, h3⟩ := h
    exact ⟨v, w, h1, is_hide hH d v e.1 h2, isA_hide hH r w e.2 h3⟩
end
theorem st_lst {os : List (Option Addr)} {σ : Sg} {H : Hp} (k : Ok C os A σ H) (hst : ∀ s ∈ A.st, ∃ xs, s = .lst xs) {a : Addr} (h : some a ∈ os) : ∃ xs, H a = some (.lst xs) := by
  obtain ⟨j, hj⟩ := List.getElem?_of_mem h
  have hl : j < A.st.length := by rw [← k.ln]; exact (List.getElem?_eq_some_iff.mp hj).1
  obtain ⟨xs, e⟩ := hst A.st[j] (List.getElem_mem hl)
  obtain ⟨o, e1, a', us, e2, e3, _⟩ := k.store (i := j) (s := .lst xs) (by rw [← e]; exact List.getElem?_eq_getElem hl)
  rw [hj] at e1; cases e1; cases e2
  exact ⟨us, e3⟩
theorem e_callP {g : List Dt → Rs → Prop} {E' : XK} {ds : List Dt} (ha : EvP C tl A ss A1) (hd' : SdD A1 ss ds) (hst : ∀ s ∈ A1.st, ∃ xs, s = .lst xs) (hp : pl d = true) (hg : g ds (.ok d)) : EvS C (tCall (spD C.K C.T g) [] E' tl) A d A1 := fun os σ H k Q q =>
  ha os σ H k _ fun os1 vs H1 k1 e1 i1 => ⟨C.O, ds, .ok d, fun a h => k1.ol a h, k1.tb, by rw [List.append_nil]; exact sd_isA k1 hd' i1, hg, fun v H' e t i => q os1 v H' (k1.mono e t) (e1.trans (k1.gr e)) (is_hide (fun a h n => by
    rcases mem_hid.mp h with h | h
    · exact absurd h n
    · obtain ⟨xs, z⟩ := st_lst k1 hst h
      exact ⟨xs, e _ _ z nt_l⟩) d v hp i)⟩
end
end Py
end

section
set_option linter.all false
set_option autoImplicit false
-- series of fractions, without end: sums, products, slopes, what is put in, undoing
namespace Sr
abbrev S := Nat → Rat
theorem nc (n : Nat) : ((n + 1 : Nat) : Rat) = (n : Rat) + 1 := by push_cast; rfl
def tl (f : S) : S := fun n => f (n + 1)
def mul (f g : S) : Nat → Rat
  | 0 => f 0 * g 0
  | n + 1 => f 0 * g (n + 1) + mul (tl f) g n
def add (f g : S) : S := fun n => f n + g n
def sc (c : Rat) (f : S) : S := fun n => c * f n
def cst (c : Rat) : S := fun n => if n = 0 then c else 0
def zer : S := fun _ => 0
def th (f : S) : S := fun n => (n : Rat) * f n
def X : S := fun n => if n = 1 then 1 else 0
def pw (f : S) : Nat → S
  | 0 => cst 1
  | n + 1 => mul (pw f n) f

theorem mul_0 (f g : S) : mul f g 0 = f 0 * g 0 := rfl
theorem mul_s (f g : S) (n : Nat) : mul f g (n + 1) = f 0 * g (n + 1) + mul (tl f) g n := rfl
theorem mul_congr {f f' g g' : S} {n : Nat} (h : ∀ k, k ≤ n → f k = f' k) (h' : ∀ k, k ≤ n → g k = g' k) : mul f g n = mul f' g' n := by
  induction n generalizing f f' with
  | zero => rw [mul_0, mul_0, h 0 (Nat.le_refl 0), h' 0 (Nat.le_refl 0)]
  | succ n ih =>
    rw [mul_s, mul_s, h 0 (Nat.zero_le _), h' (n + 1) (Nat.le_refl _), ih (f := tl f) (f' := tl f') (fun k hk => h (k + 1) (by omega)) (fun k hk => h' k (by omega))]
theorem add_mul (f f' g : S) : mul (add f f') g = add (mul f g) (mul f' g) := by
  funext n
  induction n generalizing f f' with
  | zero => simp only [mul_0, add]; grind
  | succ n ih =>
    have e : tl (add f f') = add (tl f) (tl f') := rfl
    simp only [add] at ih
    simp only [mul_s, e, ih, add]; grind
theorem sc_mul (c : Rat) (f g : S) : mul (sc c f) g = sc c (mul f g) := by
  funext n
  induction n generalizing f with
  | zero => simp only [mul_0, sc]; grind
  | succ n ih =>
    have e : tl (sc c f) = sc c (tl f) := rfl
    simp only [sc] at ih
    simp only [mul_s, e, ih, sc]; grind
theorem mul_s' (f g : S) (n : Nat) : mul f g (n + 1) = mul f (tl g) n + f (n + 1) * g 0 := by
  induction n generalizing f with
  | zero => simp only [mul_s, mul_0, tl]
  | succ n ih =>
    rw [mul_s, ih (tl f), mul_s f (tl g)]; simp only [tl]; grind
theorem mul_comm (f g : S) : mul f g = mul g f := by
  funext n
  induction n generalizing f g with
  | zero => simp only [mul_0]; grind
  | succ n ih => rw [mul_s, mul_s', ih (tl f) g]; grind
theorem tl_mul (f g : S) : tl (mul f g) = add (sc (f 0) (tl g)) (mul (tl f) g) := by
  funext n
  simp only [tl, mul_s, add, sc]
theorem mul_assoc (f g h : S) : mul (mul f g) h = mul f (mul g h) := by
  funext n
  induction n generalizing f with
  | zero => simp only [mul_0]; grind
  | succ n ih =>
    rw [mul_s, tl_mul, add_mul, sc_mul, mul_s f]
    simp only [add, sc, ih (tl f), mul_s g, mul_0]; grind
theorem mul_add (f g g' : S) : mul f (add g g') = add (mul f g) (mul f g') := by rw [mul_comm, add_mul, mul_comm g, mul_comm g']
theorem mul_sc (c : Rat) (f g : S) : mul f (sc c g) = sc c (mul f g) := by rw [mul_comm, sc_mul, mul_comm]
theorem mul_zer (f : S) : mul f zer = zer := by
  funext n
  induction n generalizing f with
  | zero => simp only [mul_0, zer]; grind
  | succ n ih => simp only [zer] at ih; simp only [mul_s, zer, ih]; grind
theorem zer_mul (f : S) : mul zer f = zer := by rw [mul_comm, mul_zer]
theorem cst_mul (c : Rat) (f : S) : mul (cst c) f = sc c f := by
  funext n
  cases n with
  | zero => rfl
  | succ n =>
    have e : tl (cst c) = zer := by funext k; simp [tl, cst, zer]
    rw [mul_s, e, zer_mul]; simp only [zer, cst, sc, if_pos]; grind
theorem sc_one (f : S) : sc 1 f = f := by funext n; simp only [sc]; grind
theorem one_mul (f : S) : mul (cst 1) f = f := by rw [cst_mul, sc_one]
theorem mul_one (f : S) : mul f (cst 1) = f := by rw [mul_comm, one_mul]
theorem X_mul_0 (f : S) : mul X f 0 = 0 := by simp only [mul_0, X]; grind
theorem X_mul_s (f : S) (n : Nat) : mul X f (n + 1) = f n := by
  have e : tl X = cst 1 := by funext k; simp [tl, X, cst]
  rw [mul_s, e, one_mul]; simp only [X]; grind
theorem X_tl {f : S} (h : f 0 = 0) : mul X (tl f) = f := by
  funext n
  cases n with
  | zero => rw [X_mul_0, h]
  | succ n => rw [X_mul_s]; rfl
theorem eq_tl (f : S) : f = add (cst (f 0)) (mul X (tl f)) := by
  funext n
  cases n with
  | zero => simp only [add, X_mul_0, cst, if_pos]; grind
  | succ n => simp only [add, X_mul_s, cst, tl]; grind
-- the slope, times the unknown
theorem th_mul (f g : S) : th (mul f g) = add (mul (th f) g) (mul f (th g)) := by
  funext n
  induction n generalizing f with
  | zero => simp only [th, add, mul_0]; grind
  | succ n ih =>
    have e : tl (th f) = add (th (tl f)) (tl f) := by funext k; simp only [tl, th, add, nc]; grind
    have i := ih (tl f)
    simp only [add] at i
    simp only [add, mul_s, e, add_mul]
    generalize mul (th (tl f)) g n = u at *
    generalize mul (tl f) (th g) n = v at *
    simp only [th, mul_s, nc] at *
    grind
theorem th_add (f g : S) : th (add f g) = add (th f) (th g) := by funext n; simp only [th, add]; grind
theorem th_sc (c : Rat) (f : S) : th (sc c f) = sc c (th f) := by funext n; simp only [th, sc]; grind
theorem th_cst (c : Rat) : th (cst c) = zer := by funext n; simp only [th, cst, zer]; split <;> simp_all
theorem pw_add (f : S) (m n : Nat) : pw f (m + n) = mul (pw f m) (pw f n) := by
  induction n with
  | zero => rw [pw, mul_one]; rfl
  | succ n ih => rw [← Nat.add_assoc, pw, pw, ih, mul_assoc]
theorem pw_mul (f g : S) (n : Nat) : pw (mul f g) n = mul (pw f n) (pw g n) := by
  induction n with
  | zero => rw [pw, pw, pw, mul_one]
  | succ n ih => rw [pw, pw, pw, ih, mul_assoc, mul_assoc, ← mul_assoc (pw g n), mul_comm (pw g n) f, mul_assoc f]
theorem pw_one (n : Nat) : pw (cst 1) n = cst 1 := by
  induction n with
  | zero => rfl
  | succ n ih => rw [pw, ih, mul_one]
theorem th_pw (f : S) (n : Nat) : th (pw f (n + 1)) = sc ((n : Rat) + 1) (mul (pw f n) (th f)) := by
  induction n with
  | zero => simp only [pw, one_mul]; funext k; simp only [sc]; grind
  | succ n ih =>
    rw [pw, th_mul, ih, sc_mul, mul_assoc, mul_comm (th f) f, ← mul_assoc, ← pw]
    funext k
    simp only [add, sc, nc]
    grind
end Sr
end

section
set_option linter.all false
set_option autoImplicit false
namespace Sr
theorem n0 {n : Nat} (h : 0 < n) : (n : Rat) ≠ 0 := by
  intro e
  have : (n : Rat) = ((0 : Nat) : Rat) := e
  have := Rat.natCast_inj.mp this
  omega
-- slopes and integrals
def D (f : S) : S := tl (th f)
def I (f : S) : S
  | 0 => 0
  | n + 1 => f n / ((n : Rat) + 1)
theorem th_0 (f : S) : th f 0 = 0 := by simp [th]
theorem th_I (f : S) : th (I f) = mul X f := by
  funext n
  cases n with
  | zero => rw [X_mul_0, th_0]
  | succ n =>
    rw [X_mul_s]
    have h := n0 (Nat.succ_pos n)
    rw [nc] at h
    simp only [th, I, nc]
    grind
theorem D_I (f : S) : D (I f) = f := by
  funext n
  rw [D, th_I]
  exact X_mul_s f n
theorem X_D (f : S) : mul X (D f) = th f := X_tl (th_0 f)
theorem th_inj {f g : S} (h : th f = th g) (h0 : f 0 = g 0) : f = g := by
  funext n
  cases n with
  | zero => exact h0
  | succ n =>
    have e := congrFun h (n + 1)
    have := n0 (Nat.succ_pos n)
    simp only [th] at e
    grind
-- one at a time
def cut (n : Nat) (f : S) : S := fun k => if k < n then f k else 0
theorem mul_cut (f g : S) (n : Nat) : mul (cut n f) g n + f n * g 0 = mul f g n := by
  induction n generalizing f with
  | zero => simp only [mul_0, cut]; grind
  | succ n ih =>
    have e : tl (cut (n + 1) f) = cut n (tl f) := by funext k; simp only [tl, cut, Nat.add_lt_add_iff_right]
    rw [mul_s, mul_s, e, ← ih (tl f)]
    simp only [cut, tl]
    grind
-- with no constant, what is multiplied matters below alone
theorem mulz {f : S} (h : f 0 = 0) {u v : S} {n : Nat} (e : ∀ k, k < n → u k = v k) : mul f u n = mul f v n := by
  cases n with
  | zero => rw [mul_0, mul_0, h]; grind
  | succ n =>
    rw [mul_s, mul_s, h, mul_congr (f := tl f) (f' := tl f) (g := u) (g' := v) (n := n) (fun k _ => rfl) (fun k hk => e k (by omega))]
    grind
-- quotients
theorem quo_unique {b q q' : S} (h : b 0 ≠ 0) (e : mul q b = mul q' b) : q = q' := by
  funext n
  induction n using Nat.strongRecOn with
  | ind n ih =>
    have e := congrFun e n
    rw [← mul_cut q b, ← mul_cut q' b] at e
    rw [mul_congr (f := cut n q) (f' := cut n q') (g := b) (g' := b) (n := n) (fun k _ => by
      simp only [cut]; split
      · exact ih k ‹_›
      · rfl) (fun _ _ => rfl)] at e
    grind
-- exponentials
structure IsExp (f E : S) : Prop where
  one : E 0 = 1
  th : th E = mul (th f) E
theorem exp_unique {f E E' : S} (h : IsExp f E) (h' : IsExp f E') : E = E' := by
  funext n
  induction n using Nat.strongRecOn with
  | ind n ih =>
    cases n with
    | zero => rw [h.one, h'.one]
    | succ n =>
      have e := congrFun h.th (n + 1)
      have e' := congrFun h'.th (n + 1)
      rw [mulz (th_0 f) (u := E) (v := E') (n := n + 1) ih, ← e'] at e
      have := n0 (Nat.succ_pos n)
      simp only [Sr.th] at e
      grind
theorem exp_add {f g E F : S} (h : IsExp f E) (h' : IsExp g F) : IsExp (add f g) (mul E F) := by
  refine ⟨?_, ?_⟩
  · rw [mul_0, h.one, h'.one]; grind
  · rw [th_mul, h.th, h'.th, th_add, add_mul, mul_assoc, ← mul_assoc E (th g) F, mul_comm E (th g), mul_assoc (th g)]
theorem exp_zer : IsExp zer (cst 1) := ⟨rfl, by rw [th_cst, mul_one]; funext n; simp only [zer, th]; grind⟩
theorem exp_pw {f E : S} (h : IsExp f E) (n : Nat) : IsExp (sc n f) (pw E n) := by
  induction n with
  | zero =>
    have : sc ((0 : Nat) : Rat) f = zer := by funext k; simp only [sc, zer]; simp
    rw [this]
    exact exp_zer
  | succ n ih =>
    have : sc ((n + 1 : Nat) : Rat) f = add (sc n f) f := by funext k; simp only [sc, add, nc]; grind
    rw [this]
    exact exp_add ih h
theorem exp_neg {f E F : S} (h : IsExp f E) (h' : IsExp (sc (-1) f) F) : mul E F = cst 1 := by
  have e := exp_add h h'
  have : add f (sc (-1) f) = zer := by funext k; simp only [sc, add, zer]; grind
  rw [this] at e
  exact exp_unique e exp_zer
-- logarithms
theorem log_exp {u q : S} (h0 : u 0 = 1) (hq : mul q u = D u) : IsExp (I q) u :=
  ⟨h0, by rw [th_I, mul_assoc, hq, X_D]⟩
theorem exp_log {f E q : S} (h0 : f 0 = 0) (h : IsExp f E) (hq : mul q E = D E) : I q = f := by
  have e := log_exp h.one hq
  refine th_inj (quo_unique (b := E) (by rw [h.one]; decide) ?_) (by rw [h0]; rfl)
  rw [← e.th, ← h.th]
-- what is put in
def Hn : Nat → S → S → S
  | 0, _, _ => zer
  | M + 1, a, g => add (cst (a 0)) (mul g (Hn M (tl a) g))
def comp (a g : S) : S := fun n => Hn (n + 1) a g n
theorem H_same {g : S} (h : g 0 = 0) {M N n : Nat} (hM : n < M) (hN : n < N) (a : S) : Hn M a g n = Hn N a g n := by
  induction M generalizing N n a with
  | zero => omega
  | succ M ih =>
    cases N with
    | zero => omega
    | succ N =>
      simp only [Hn, add]
      rw [mulz h (u := Hn M (tl a) g) (v := Hn N (tl a) g) (n := n) fun k hk => ih (by omega) (by omega) _]
theorem comp_H {g : S} (h : g 0 = 0) {M n : Nat} (hM : n < M) (a : S) : comp a g n = Hn M a g n := H_same h (Nat.lt_succ_self n) hM a
theorem comp_eq {g : S} (h : g 0 = 0) (a : S) : comp a g = add (cst (a 0)) (mul g (comp (tl a) g)) := by
  funext n
  simp only [comp, Hn, add]
  rw [mulz h (u := Hn n (tl a) g) (v := comp (tl a) g) (n := n) fun k hk => (comp_H h hk _).symm]
theorem H_add (M : Nat) (a b g : S) : Hn M (add a b) g = add (Hn M a g) (Hn M b g) := by
  induction M generalizing a b with
  | zero => funext n; simp only [Hn, zer, add]; grind
  | succ M ih =>
    have e : tl (add a b) = add (tl a) (tl b) := rfl
    simp only [Hn, e, ih, mul_add]
    funext n
    simp only [add, cst]
    split <;> grind
theorem H_sc (M : Nat) (c : Rat) (a g : S) : Hn M (sc c a) g = sc c (Hn M a g) := by
  induction M generalizing a with
  | zero => funext n; simp only [Hn, zer, sc]; grind
  | succ M ih =>
    have e : tl (sc c a) = sc c (tl a) := rfl
    simp only [Hn, e, ih, mul_sc]
    funext n
    simp only [add, cst, sc]
    split <;> grind
theorem comp_add (a b g : S) : comp (add a b) g = add (comp a g) (comp b g) := by funext n; simp only [comp, H_add, add]
theorem comp_sc (c : Rat) (a g : S) : comp (sc c a) g = sc c (comp a g) := by funext n; simp only [comp, H_sc, sc]
theorem comp_X {g : S} (h : g 0 = 0) (u : S) : comp (mul X u) g = mul g (comp u g) := by
  rw [comp_eq h (mul X u)]
  have e : tl (mul X u) = u := by funext k; exact X_mul_s u k
  rw [e, X_mul_0]
  funext n
  simp only [add, cst]
  split <;> grind
theorem comp_cst {g : S} (h : g 0 = 0) (c : Rat) : comp (cst c) g = cst c := by
  have e0 : tl (cst c) = zer := by funext k; simp [tl, cst, zer]
  have ez : ∀ M, Hn M zer g = zer := by
    intro M
    induction M with
    | zero => rfl
    | succ M ih =>
      have e1 : tl zer = zer := rfl
      simp only [Hn, e1, ih, mul_zer]
      funext n
      simp only [add, cst, zer]
      split <;> grind
  funext n
  simp only [comp, Hn, e0, ez, mul_zer]
  simp only [add, zer, cst]
  grind
theorem comp_mul {g : S} (h : g 0 = 0) (a b : S) : comp (mul a b) g = mul (comp a g) (comp b g) := by
  have P : ∀ n a, ∀ k, k < n → comp (mul a b) g k = mul (comp a g) (comp b g) k := by
    intro n
    induction n with
    | zero => intro a k hk; omega
    | succ n ih =>
      intro a k hk
      have e : mul a b = add (sc (a 0) b) (mul X (mul (tl a) b)) := by
        have := eq_tl a
        rw [congrArg (mul · b) this]
        simp only [add_mul, cst_mul, mul_assoc]
      rw [e, comp_add, comp_sc, comp_X h, congrArg (fun u => mul u (comp b g)) (comp_eq h a)]
      simp only [add_mul, cst_mul, mul_assoc, add]
      rw [mulz h (u := comp (mul (tl a) b) g) (v := mul (comp (tl a) g) (comp b g)) (n := k) fun j hj => ih (tl a) j (by omega)]
  funext n
  exact P (n + 1) a n (Nat.lt_succ_self n)
theorem comp_0 {g : S} (h : g 0 = 0) (a : S) : comp a g 0 = a 0 := by
  rw [comp_eq h]
  simp only [add, cst, mul_0, h]
  grind
theorem comp_assoc {g f : S} (hg : g 0 = 0) (hf : f 0 = 0) (a : S) : comp (comp a g) f = comp a (comp g f) := by
  have hz : comp g f 0 = 0 := by rw [comp_0 hf, hg]
  have P : ∀ n a, ∀ k, k < n → comp (comp a g) f k = comp a (comp g f) k := by
    intro n
    induction n with
    | zero => intro a k hk; omega
    | succ n ih =>
      intro a k hk
      rw [comp_eq hg a, comp_add, comp_cst hf, comp_mul hf, comp_eq hz a]
      simp only [add]
      rw [mulz hz (u := comp (comp (tl a) g) f) (v := comp (tl a) (comp g f)) (n := k) fun j hj => ih (tl a) j (by omega)]
  funext n
  exact P (n + 1) a n (Nat.lt_succ_self n)
theorem comp_id {g : S} (h : g 0 = 0) : comp X g = g := by
  have := comp_X h (cst 1)
  rw [mul_one, comp_cst h, mul_one] at this
  exact this
theorem H_id (M n : Nat) (hn : n < M) (a : S) : Hn M a X n = a n := by
  induction M generalizing n a with
  | zero => omega
  | succ M ih =>
    cases n with
    | zero => simp only [Hn, add, X_mul_0, cst]; grind
    | succ n => simp only [Hn, add, X_mul_s, cst, ih n (by omega), tl]; grind
theorem id_comp (a : S) : comp a X = a := by funext n; exact H_id _ _ (Nat.lt_succ_self n) a
theorem H_last (M : Nat) (a g : S) : Hn (M + 1) a g = add (Hn M a g) (sc (a M) (pw g M)) := by
  induction M generalizing a with
  | zero => simp only [Hn, pw, mul_zer]; funext n; simp only [add, cst, zer, sc]; split <;> grind
  | succ M ih =>
    rw [Hn, ih (tl a), Hn, pw, mul_add, mul_sc, mul_comm g (pw g M)]
    funext n
    simp only [add, sc, tl]
    grind
end Sr
end

section
set_option linter.all false
set_option autoImplicit false
namespace Sr
-- undoing: f = x p, p u = 1, what undoes f is by the powers of u
theorem X_pw (k : Nat) (u : S) (j : Nat) : mul (pw X k) u (j + k) = u j := by
  induction k generalizing u j with
  | zero => rw [pw, one_mul]; rfl
  | succ k ih =>
    rw [pw, mul_assoc, show j + (k + 1) = (j + 1) + k by omega, ih]
    exact X_mul_s u j
theorem X_pw_low (k : Nat) (u : S) (n : Nat) (h : n < k) : mul (pw X k) u n = 0 := by
  induction k generalizing u n with
  | zero => omega
  | succ k ih =>
    rw [pw, mul_assoc]
    by_cases e : n < k
    · exact ih _ _ e
    · have : n = 0 + k := by omega
      rw [this, X_pw, X_mul_0]
theorem th_Xpw (k : Nat) : th (pw X k) = sc k (pw X k) := by
  funext n
  simp only [th, sc]
  by_cases e : n < k
  · have := X_pw_low k (cst 1) n e
    rw [mul_one] at this
    rw [this]; grind
  · obtain ⟨j, rfl⟩ : ∃ j, n = j + k := ⟨n - k, by omega⟩
    have := X_pw k (cst 1) j
    rw [mul_one] at this
    rw [this]
    simp only [cst]
    split
    · rename_i e; rw [e, Nat.zero_add]
    · grind
theorem pw_cancel {p u : S} (h : mul p u = cst 1) (k : Nat) : mul (pw u k) (pw p k) = cst 1 := by
  rw [← pw_mul, mul_comm u p, h, pw_one]
theorem undo_at {p u : S} (h : mul p u = cst 1) (n k : Nat) (hk : 1 ≤ k) (hn : k ≤ n) : mul (pw u n) (th (pw (mul X p) k)) n = if k = n then (n : Rat) else 0 := by
  have e1 : th (pw (mul X p) k) = mul (pw X k) (add (sc k (pw p k)) (th (pw p k))) := by
    rw [pw_mul, th_mul, th_Xpw, sc_mul, mul_add, mul_sc]
  rw [e1, ← mul_assoc, mul_comm (pw u n), mul_assoc]
  obtain ⟨j, rfl⟩ : ∃ j, n = j + k := ⟨n - k, by omega⟩
  rw [X_pw, pw_add]
  have c := pw_cancel h k
  have c1 : mul (mul (pw u j) (pw u k)) (sc k (pw p k)) = sc k (pw u j) := by rw [mul_sc, mul_assoc, c, mul_one]
  rw [mul_add]
  simp only [add, c1]
  cases j with
  | zero =>
    rw [if_pos (by omega), mul_0, th_0]
    simp only [sc, pw, cst]
    simp
    grind
  | succ j =>
    rw [if_neg (by omega)]
    obtain ⟨k, rfl⟩ : ∃ k', k = k' + 1 := ⟨k - 1, by omega⟩
    have d : add (mul (th (pw u (k + 1))) (pw p (k + 1))) (mul (pw u (k + 1)) (th (pw p (k + 1)))) = zer := by rw [← th_mul, c, th_cst]
    have d1 : mul (th (pw u (k + 1))) (pw p (k + 1)) = sc ((k : Rat) + 1) (mul (th u) p) := by
      rw [th_pw, sc_mul, pw, mul_assoc, mul_comm (th u), mul_assoc, mul_comm p (th u), ← mul_assoc, pw_cancel h k, one_mul]
    have d2 : mul (pw u (k + 1)) (th (pw p (k + 1))) = sc (-((k : Rat) + 1)) (mul (th u) p) := by
      funext i
      have := congrFun d i
      rw [d1] at this
      simp only [add, sc, zer] at this
      simp only [sc]
      grind
    have d3 : mul (mul (pw u (j + 1)) (pw u (k + 1))) (th (pw p (k + 1))) = sc (-((k : Rat) + 1)) (mul (pw u j) (th u)) := by
      rw [mul_assoc, d2, mul_sc, pw, mul_assoc, mul_comm (th u) p, ← mul_assoc u, mul_comm u p, h, one_mul]
    rw [d3]
    have d4 := congrFun (th_pw u j) (j + 1)
    simp only [th, sc, nc] at d4 ⊢
    have := n0 (Nat.succ_pos j)
    rw [nc] at this
    grind
-- what is put in, by powers
def sm (a g : S) : Nat → S
  | 0 => zer
  | M + 1 => add (sm a g M) (sc (a M) (pw g M))
theorem sm_H (M : Nat) (a g : S) : Hn M a g = sm a g M := by
  induction M with
  | zero => rfl
  | succ M ih => rw [H_last, ih]; rfl
theorem undone {f u h : S} (f0 : f 0 = 0) (hu : mul (tl f) u = cst 1) (h0 : h 0 = 0) (hh : ∀ n, h (n + 1) = pw u (n + 1) n / ((n : Rat) + 1)) : comp h f = X := by
  have ef : mul X (tl f) = f := X_tl f0
  have u0 : u 0 ≠ 0 := by
    intro e
    have := congrFun hu 0
    rw [mul_0, e] at this
    simp [cst] at this
  have pu0 : ∀ n, pw u n 0 ≠ 0 := by
    intro n
    induction n with
    | zero => simp [pw, cst]
    | succ n ih => rw [pw, mul_0]; grind
  have A : ∀ n M, M ≤ n + 1 → mul (pw u (n + 1)) (th (sm h f (M + 1))) (n + 1) = if M = n + 1 then pw u (n + 1) n else 0 := by
    intro n M hM
    induction M with
    | zero =>
      rw [if_neg (by omega)]
      have : th (sm h f 1) = zer := by
        simp only [sm, h0]
        funext k
        simp only [th, add, sc, zer]
        grind
      rw [this, mul_zer]; rfl
    | succ M ih =>
      rw [sm, th_add, th_sc, mul_add, mul_sc]
      simp only [add, sc]
      rw [ih (by omega), if_neg (by omega)]
      have := undo_at hu (n + 1) (M + 1) (by omega) (by omega)
      rw [ef] at this
      rw [this, hh M]
      by_cases e : M = n
      · rw [if_pos (by omega), if_pos (by omega), e]
        have := n0 (Nat.succ_pos n)
        rw [nc] at this ⊢
        grind
      · rw [if_neg (by omega), if_neg (by omega)]; grind
  -- the slope of what is left is nothing
  have B : ∀ n, th (add X (sc (-1) (comp h f))) n = 0 := by
    intro n
    induction n using Nat.strongRecOn with
    | ind n ih =>
      cases n with
      | zero => exact th_0 _
      | succ n =>
        have e : mul (pw u (n + 1)) (th (add X (sc (-1) (comp h f)))) (n + 1) = 0 := by
          rw [mul_congr (f := pw u (n + 1)) (f' := pw u (n + 1)) (g := th (add X (sc (-1) (comp h f)))) (g' := th (add X (sc (-1) (sm h f (n + 2))))) (n := n + 1) (fun _ _ => rfl) (fun k hk => by
            simp only [th, add, sc, comp_H f0 (show k < n + 2 by omega), sm_H])]
          rw [th_add, th_sc, mul_add, mul_sc]
          simp only [add, sc]
          rw [A n (n + 1) (Nat.le_refl _), if_pos rfl]
          have : th X = X := by
            have := th_Xpw 1
            simp only [pw, one_mul] at this
            rw [this]
            funext k; simp only [sc]; grind
          rw [this, mul_comm, X_mul_s]
          grind
        rw [mul_comm, ← mul_cut] at e
        rw [mul_congr (f := cut (n + 1) (th (add X (sc (-1) (comp h f))))) (f' := zer) (g := pw u (n + 1)) (g' := pw u (n + 1)) (n := n + 1) (fun k hk => by
          simp only [cut, zer]
          split
          · exact ih k ‹_›
          · rfl) (fun _ _ => rfl), zer_mul] at e
        have := pu0 (n + 1)
        simp only [zer] at e
        grind
  funext n
  cases n with
  | zero => rw [comp_0 f0, h0]; rfl
  | succ n =>
    have := B (n + 1)
    have z := n0 (Nat.succ_pos n)
    simp only [th, add, sc] at this
    grind
-- an inverse, and both ways
def inv (b : S) : Nat → List Rat
  | 0 => []
  | n + 1 => inv b n ++ [(cst 1 n - mul (fun k => (inv b n).getD k 0) b n) / b 0]
theorem inv_len (b : S) (n : Nat) : (inv b n).length = n := by
  induction n with
  | zero => rfl
  | succ n ih => rw [inv, List.length_append, ih]; rfl
theorem inv_get (b : S) {k n : Nat} (h : k < n) : (inv b n).getD k 0 = (inv b (k + 1)).getD k 0 := by
  induction n with
  | zero => omega
  | succ n ih =>
    by_cases e : k < n
    · rw [← ih e, inv, List.getD_eq_getElem?_getD, List.getD_eq_getElem?_getD, List.getElem?_append_left (by rw [inv_len]; exact e)]
    · have : k = n := by omega
      rw [this]
theorem inv_ok {b : S} (h : b 0 ≠ 0) : ∃ u, mul b u = cst 1 := by
  refine ⟨fun n => (inv b (n + 1)).getD n 0, ?_⟩
  rw [mul_comm]
  funext n
  rw [← mul_cut]
  have e : (inv b (n + 1)).getD n 0 = (cst 1 n - mul (fun k => (inv b n).getD k 0) b n) / b 0 := by
    rw [inv, List.getD_eq_getElem?_getD, List.getElem?_append_right (by rw [inv_len]; exact Nat.le_refl _), inv_len, Nat.sub_self]; rfl
  rw [e, mul_congr (f := cut n fun n => (inv b (n + 1)).getD n 0) (f' := fun k => (inv b n).getD k 0) (g := b) (g' := b) (n := n) (fun k hk => by
    simp only [cut]
    split
    · exact (inv_get b ‹_›).symm
    · rw [List.getD_eq_getElem?_getD, List.getElem?_eq_none (by rw [inv_len]; omega)]; rfl) (fun _ _ => rfl)]
  grind
theorem undone_back {f u h : S} (f0 : f 0 = 0) (hu : mul (tl f) u = cst 1) (h0 : h 0 = 0) (hh : ∀ n, h (n + 1) = pw u (n + 1) n / ((n : Rat) + 1)) : comp f h = X := by
  have hf : comp h f = X := undone f0 hu h0 hh
  have h1 : tl h 0 ≠ 0 := by
    have e := congrFun hu 0
    have : tl h 0 = u 0 := by
      have := hh 0
      simp only [pw, one_mul] at this
      simp only [tl, this]
      grind
    rw [this]
    intro z
    rw [mul_0, z] at e
    simp [cst] at e
  obtain ⟨w, hw⟩ := inv_ok h1
  have hv : comp (fun n => match n with | 0 => 0 | n + 1 => pw w (n + 1) n / ((n : Rat) + 1)) h = X := undone h0 hw rfl fun n => rfl
  generalize (fun n => match n with | 0 => (0 : Rat) | n + 1 => pw w (n + 1) n / ((n : Rat) + 1)) = v at hv
  have := comp_assoc h0 f0 v
  rw [hv, hf, comp_id f0, id_comp] at this
  rw [this]
  exact hv
end Sr
end

section
set_option Elab.async false
set_option linter.all false
set_option maxRecDepth 100000
set_option maxHeartbeats 4000000
set_option autoImplicit false
set_option exponentiation.threshold 100
namespace Py
open PySem PySem.Spec PyProof.Rows L2
/-! ### rows of fractions -/
abbrev fl (l : List Rat) : List Dt := l.map fq
/-- a row as a series, 0 behind its end -/
def sr (l : List Rat) : Sr.S := fun n => l.getD n 0
theorem at_fl {l : List Rat} {i : Nat} (h : i < l.length) : atI (fl l) (i : Int) = some (fq (sr l i)) := by
  unfold atI fl sr ixN
  simp [h]
/-- the sum of the first j products -/
def pS (f g : Sr.S) (n : Nat) : Nat → Rat
  | 0 => 0
  | j + 1 => pS f g n j + f j * g (n - j)
theorem pS_tl (f g : Sr.S) (n j : Nat) : pS f g (n + 1) (j + 1) = f 0 * g (n + 1) + pS (Sr.tl f) g n j := by
  induction j with
  | zero => simp only [pS]; grind
  | succ j ih =>
    rw [pS, ih, pS, Nat.add_sub_add_right]
    simp only [Sr.tl]
    grind
theorem pS_mul (f g : Sr.S) (n : Nat) : pS f g n (n + 1) = Sr.mul f g n := by
  induction n generalizing f with
  | zero => simp only [pS, Sr.mul_0]; grind
  | succ n ih => rw [pS_tl, ih, Sr.mul_s]
structure CrOk (f g : Sr.S) (n : Nat) : Prop where
  a : ∀ j, j ≤ n → SzQ 3000 (f j)
  b : ∀ j, j ≤ n → SzQ 3000 (g j)
  m : ∀ j, j ≤ n → SzQ 3000 (f j * g (n - j))
  s : ∀ j, j ≤ n → SzQ 3000 (pS f g n j)
end Py
namespace Py
open PySem PySem.Spec PyProof.Rows L2
section
variable {C : Ct} {A A1 A2 : AS} {ta tb : TE} {i j : Int}
theorem e_min2 (h : EvS C ta A (di i) A1) (h' : EvS C tb A1 (di j) A2) : EvS C (tCB (fun xs H Q => ∃ i j, xs = [V.int i, V.int j] ∧ Q (V.int (if j < i then j else i)) H) (tCons ta (tCons tb tNil))) A (di (if j < i then j else i)) A2 := fun os σ H k Q q =>
  h os σ H k _ fun os1 v H1 k1 e1 i1 => h' os1 σ H1 k1 _ fun os2 v' H2 k2 e2 i2 => by
    rw [Is.v_iff.mp i1, Is.v_iff.mp i2]
    exact ⟨i, j, rfl, q os2 _ H2 k2 (e1.trans e2) is_v⟩
end
theorem sr_get {l : List Rat} {i : Nat} (h : i < l.length) : sr l i = l[i] := by unfold sr; simp [h]
theorem sr_mem {l : List Rat} {i : Nat} (h : i < l.length) : sr l i ∈ l := by rw [sr_get h]; exact List.getElem_mem h
theorem fl_at {l : List Rat} {i : Nat} {x : Dt} (h : (fl l)[i]? = some x) : ∃ h : i < l.length, x = fq (sr l i) := by
  rw [List.getElem?_map] at h
  obtain ⟨q, h1, rfl⟩ := Option.map_eq_some_iff.mp h
  obtain ⟨h2, rfl⟩ := List.getElem?_eq_some_iff.mp h1
  exact ⟨h2, by rw [sr_get h2]⟩
theorem fl_take {l : List Rat} {i : Nat} (h : i < l.length) (f : Rat → Rat) : fl ((l.take (i + 1)).map f) = fl ((l.take i).map f) ++ [fq (f (sr l i))] := by
  rw [List.take_add_one, List.getElem?_eq_getElem h, sr_get h, List.map_append, fl, fl, List.map_append]
  rfl
theorem fl_range (f : Nat → Rat) (i : Nat) : fl ((List.range (i + 1)).map f) = fl ((List.range i).map f) ++ [fq (f i)] := by
  rw [List.range_succ]
  simp
end Py
end

section
set_option Elab.async false
set_option linter.all false
set_option maxRecDepth 100000
set_option maxHeartbeats 4000000
set_option autoImplicit false
namespace Py
open PySem PySem.Spec PyProof.Rows L2
/-! ### facts of the top -/
def intsB : List Value → List Int → Bool
  | [], [] => true
  | .int j _ :: r, i :: s => decide (j = i) && intsB r s
  | _, _ => false
theorem intsB_ok : ∀ {us : List Value} {is : List Int}, intsB us is = true → Vals (is.map V.int) us
  | [], [], _ => .nil
  | .int j t :: r, i :: s, h => by
    obtain ⟨a, b⟩ := Bool.and_eq_true_iff.mp (show (decide (j = i) && intsB r s) = true from h)
    rw [of_decide_eq_true a]
    exact .cons ⟨t, rfl⟩ (intsB_ok b)
def tupB (K : Frg) (x : Str) (is : List Int) : Bool := match PySem.W.nsIn K mainGlobals x with
  | some (some (.ref a)) => (match K.lookup a with
    | some o => decide (o.cls = .type "tuple") && (match o.data with
      | .seq its _ => decide (its.size ≤ 1000) && intsB its.toList is
      | _ => false)
    | none => false)
  | _ => false
theorem tupB_ok {K : Frg} {base : Heap} {mg : Str → Option Value} {x : Str} {is : List Int} (hK : K.In base) (G : base.Ns mainGlobals mg) (h : tupB K x is = true) : TupC K mg x (is.map V.int) := by
  unfold tupB at h
  split at h
  · rename_i a e
    split at h
    · rename_i o e2
      obtain ⟨h1, h2⟩ := Bool.and_eq_true_iff.mp h
      split at h2
      · rename_i its n e3
        obtain ⟨h3, h4⟩ := Bool.and_eq_true_iff.mp h2
        exact ⟨a, PySem.W.mg_of hK G e, o, its, n, e2, of_decide_eq_true h1, e3, Nat.le_trans (of_decide_eq_true h3) (by decide), intsB_ok h4⟩
      · cases h2
    · cases h
  · cases h
def bltB (K : Frg) (x : Str) (id : String) : Bool := match PySem.W.nsIn K mainGlobals x with
  | some (some (.builtin n)) => decide (n = id)
  | _ => false
theorem bltB_ok {K : Frg} {base : Heap} {mg : Str → Option Value} {x : Str} {id : String} (hK : K.In base) (G : base.Ns mainGlobals mg) (h : bltB K x id = true) : mg x = some (.builtin id) := by
  unfold bltB at h
  split at h
  · rename_i n e
    rw [← of_decide_eq_true h]
    exact PySem.W.mg_of hK G e
  · cases h
/-! ### the law's own def, its promise told over data -/
theorem fin1 {t : TS} {N : List Str} {K : Frg} {T : List (Addr × Str)} {E : XK} {g : List Dt → Rs → Prop} {vs : List V} {H : Hp} {Q : VK} (h : spD K T g vs H Q E) (run : ∀ O ds r, g ds r → RunS ⟨K, T, H, O⟩ E t (start N ds) (poR r)) : t { nx := fun _ H' => Q .non H', rt := Q } (L2.start N vs) H := fin h run
theorem mkFL {P : Program} {w : World} {K : Frg} {T : List (Addr × Str)} {mg : Str → Option Value} {base : Heap} {f : Str} {st : Stmt} {N ps : List Str} {k : Nat} {g : List Dt → Rs → Prop} {fd : FuncData}
    (F : FunD K f f (defArgs st) (defBody st) (defScope st) [] [] (He.ga K f) fd) (S : FnScope N ps (defScope st))
    (len : ∀ ds r, g ds r → ds.length = ps.length)
    (hbody : ∀ (A : Around) (outer : List Env) (s : Shared) (H : Hp) (E : XK), Room k (A.deeper (envOfC f (defScope st) s.heap.objs.size (He.ga K f) (.ref (He.cT K (f, none)).1))) →
      ∃ t, PSs (cxOf (L2.CX P w) P w K mg base N f (defScope st) (He.ga K f) (.ref (He.cT K (f, none)).1) A outer s H E) (defBody st) t ∧ ∀ O ds r, g ds r → RunS ⟨K, T, H, O⟩ E t (start N ds) (poR r)) : FnOk P w K mg base (L2.CX P w) (k + 1) (He.ga K f) fd ps (spD K T g) := by
  obtain ⟨oc, od, dV, kV, doc, pm, an, cdv, ct, osl, e, lk, hc⟩ := fnd_of F
  obtain ⟨c, rfl⟩ := He.codeIn_ref hc
  have ec : (He.cT K (f, none)).1 = c := He.codeOf_eq (p := (f, none)) lk rfl
  subst ec
  subst e
  refine fn_of lk hc S (fun vs H Q E h => spD_len len vs H Q E h) (fun A outer s H vs Q E hr h => ?_)
  obtain ⟨t, ht, run⟩ := hbody A outer s H E hr
  exact ⟨t, ht, fin h run⟩
/-- a promise that no call asks for -/
theorem gd_none {P : Program} {w : World} {K : Frg} {T : List (Addr × Str)} {mg : Str → Option Value} {base : Heap} {f : Str} {st : Stmt} {ps : List Str} {k : Nat}
    (F : ∃ fd, FunD K f f (defArgs st) (defBody st) (defScope st) [] [] (He.ga K f) fd) (hm : mg f = some (.ref (He.ga K f)))
    (hb : ∀ (kV doc pm : Value) (an : Option Addr) (cdv ct : Value) (us : List Value), us.length = ps.length → bindArgs (PySem.W.fnOf f f (defArgs st) (defBody st) (defScope st) .none kV doc pm an cdv ct) ⟨us, []⟩ = pure (ps.zip us)) : Gd P w K mg base f ps k (spD K T fun _ _ => False) := by
  obtain ⟨fd, F⟩ := F
  exact ⟨_, fd, ⟨fun vs H Q E ⟨_, _, _, _, _, _, z, _⟩ => z.elim, fun A outer s H args us vs Q E _ _ _ _ ⟨_, _, _, _, _, _, z, _⟩ => z.elim⟩, F.bindsN hb, F.kp, hm⟩
section
variable {C : Ct} {A A1 : AS} {tl : TA}
/-- xs + [..], xs one's own -/
theorem e_catO {i n : Nat} {xs ys : List Dt} (h1 : A.sl[i]? = some (.own n)) (h : EvA C tl A ys A1) (h3 : A1.st[n]? = some (.lst xs)) (hl : xs.length + ys.length ≤ 100000) : EvS C (tOp (rAddA C.K) (tVar i) (tLst tl)) A (.lst (xs ++ ys)) A1 := fun os σ H k Q q => by
  obtain ⟨o, e1, a, e2, e3⟩ := k.slot h1
  subst e2
  refine ⟨_, e1, h os σ H k _ fun os1 vs H1 k1 g1 i1 => ⟨by rw [isA_len i1]; exact Nat.le_trans (by omega) (by decide : 100000 ≤ sizeLine), fun p hp => ?_⟩⟩
  have e3' := g1.p n _ e3
  obtain ⟨o3, s1, a3, us, s2, s3, s4⟩ := k1.store h3
  rw [e3'] at s1; cases s1; cases s2
  have k2 := k1.monoN (o := .lst vs) hp
  refine .inr (.inr (.inr ⟨a, p, us, vs, rfl, rfl, ?_, upd_same, by rw [isA_len s4, isA_len i1]; exact Nat.le_trans hl (by decide : 100000 ≤ sizeLine), fun r hr => ?_⟩))
  · rw [upd_ne (ne_of_none s3 hp)]
    exact s3
  · have k3 := k2.monoN (o := .lst (us ++ vs)) hr
    refine q os1 _ _ k3 ((g1.trans (k1.gr (Ex.new hp))).trans (k2.gr (Ex.new hr))) ?_
    rw [Is]
    exact ⟨r, us ++ vs, rfl, SqL.of (k2.fresh hr), isA_app (IsA.mono (hd_mono ((Ex.new hp).trans (Ex.new hr))) _ _ s4) (IsA.mono (hd_mono ((Ex.new hp).trans (Ex.new hr))) _ _ i1)⟩
theorem isA_rep {K : Frg} {R : Hp} {ds : List Dt} {vs : List V} (h : IsA K R ds vs) : ∀ m : Nat, IsA K R (List.replicate m ds).flatten (List.replicate m vs).flatten
  | 0 => isA_nil
  | m + 1 => by
    rw [List.replicate_succ, List.replicate_succ, List.flatten_cons, List.flatten_cons]
    exact isA_app h (isA_rep h m)
/-- [..] * k -/
theorem e_repD {ds : List Dt} {k0 : Int} (h : EvA C tl A ds A1) (h1 : 0 ≤ k0 ∧ k0 < 100000) (hl : ds.length * k0.toNat ≤ 100000) (hl0 : ds.length ≤ 100000) : EvS C (tOp (rMulA C.K) (tLst tl) (tC (.int k0))) A (.lst (List.replicate k0.toNat ds).flatten) A1 := fun os σ H k Q q =>
  h os σ H k _ fun os1 vs H1 k1 g1 i1 => ⟨by rw [isA_len i1]; exact Nat.le_trans hl0 (by decide : 100000 ≤ sizeLine), fun p hp => .inr ⟨p, k0, vs, rfl, rfl, upd_same, by omega, by omega, by rw [isA_len i1]; exact Nat.le_trans hl (by decide : 100000 ≤ sizeLine), fun r hr => by
    have k2 := k1.monoN (o := .lst vs) hp
    have k3 := k2.monoN (o := .lst (List.replicate k0.toNat vs).flatten) hr
    refine q os1 _ _ k3 ((g1.trans (k1.gr (Ex.new hp))).trans (k2.gr (Ex.new hr))) ?_
    rw [Is]
    exact ⟨r, _, rfl, SqL.of (k2.fresh hr), isA_rep (IsA.mono (hd_mono ((Ex.new hp).trans (Ex.new hr))) _ _ i1) _⟩⟩⟩
end
end Py
end

section
set_option Elab.async false
set_option linter.all false
set_option maxRecDepth 100000
set_option maxHeartbeats 4000000
set_option autoImplicit false
/-! ### a tuple, 0 times and once -/
namespace Py
open PySem PySem.Spec PyProof.Rows L2
theorem rep_once (l : Addr) (items : Array Value) (n : Nat) (dd : Option Addr) (sl : Array (Option Value)) (u : Tok) :
    Meets (Builtin.«tuple.__mul__» ⟨[.ref l, .int 1 u], []⟩) (fun _ R s => s.heap.get? l = some { cls := .type "tuple", dict := dd, data := .seq items n, slots := sl } ∧ R (.ok (.ret (Value.ref l))) s) := by
  refine .of_wp fun prog w A R s h => ?_
  obtain ⟨hp, g, d, tk, os⟩ := s; obtain ⟨hl, h⟩ := h; have f1 := AutoSeq1.idx_int
  wp_walk using wpAny_loadPart' hl; exact ⟨_, rfl, h⟩
theorem rep_none (l : Addr) (items : Array Value) (n : Nat) (dd : Option Addr) (sl : Array (Option Value)) (u : Tok) (hi : items.isEmpty = false) :
    Meets (Builtin.«tuple.__mul__» ⟨[.ref l, .int 0 u], []⟩) (fun _ R s => s.heap.get? l = some { cls := .type "tuple", dict := dd, data := .seq items n, slots := sl } ∧
      R (.ok (.ret (Value.ref s.heap.objs.size))) { s with heap := s.heap.push { cls := Value.type "tuple", data := Data.seq #[] }, toks := s.toks }) := by
  refine .of_wp fun prog w A R s h => ?_
  obtain ⟨hp, g, d, tk, os⟩ := s; obtain ⟨hl, h⟩ := h; have f1 := AutoSeq1.idx_int
  wp_walk using wpAny_loadPart' hl
  exact ⟨_, rfl, h⟩
def rRepA (K : Frg) : R2 := fun x y H Q => ∃ (l : Addr) (k : Int) (xs : List V), x = .ref l ∧ y = .int k ∧ SqT K H l xs ∧ xs ≠ [] ∧ 0 ≤ k ∧ k ≤ 1000 ∧ xs.length ≤ 1000 ∧ (k = 1 → Q (.ref l) H) ∧ (k ≠ 1 → ∀ p, H p = none → Q (.ref p) (upd H p (.tup (List.replicate k.toNat xs).flatten)))
theorem op_repA {X : Cx} : OpR X (binaryOp .Mult) (rRepA X.K) := by
  intro pins s σ H x y v u Q I rx ry h
  obtain ⟨l, k, xs, rfl, rfl, hT, hne, h0, h2, hz, q1, q2⟩ := h
  by_cases hk : 2 ≤ k
  · exact op_repT pins s σ H _ _ v u Q I rx ry ⟨l, k, xs, rfl, rfl, hT, hne, hk, h2, hz, q2 (by omega)⟩
  cases rx
  obtain ⟨t, rfl⟩ := ry
  obtain ⟨its, r, ⟨⟨cls, dd, data, sl⟩, ho, hc, n, hd⟩, hs⟩ := I.tuple hT
  simp only at hc hd; subst hc hd
  have hle : its.length = xs.length := r.length.symm
  have hi : its.toArray.isEmpty = false := by
    cases its with
    | nil => exact absurd (List.eq_nil_of_length_eq_zero hle.symm) hne
    | cons a b => rfl
  by_cases e1 : k = 1
  · subst e1
    exact wpAny_binaryOp_repeat_ref (T := "tuple") (U := "int") (by decide) ⟨_, ho, rfl⟩ (fun s' => typeIs_int s' 1 t) noFill_tuple_mul F.fills_int_mul F.slot_int_rmul repeat_tuple F.slot_int_index.lookup
      (call_meets F.slot_int_rmul (typeIs_int s 1 t) F.entry_int_rmul (F.args_int_rmul_2 _ _) (int_rmul_tuple 1 t l its.toArray n dd sl) ⟨ho, rfl, ⟨_, ho, rfl⟩, call_meets F.slot_tuple_mul ⟨_, ho, rfl⟩ F.entry_tuple_mul (F.args_tuple_mul_2 _ _) (rep_once l its.toArray n dd sl t) ⟨ho, .ref l, H, I, rfl, q1 rfl⟩⟩)
  · obtain rfl : k = 0 := by omega
    refine wpAny_binaryOp_repeat_ref (T := "tuple") (U := "int") (by decide) ⟨_, ho, rfl⟩ (fun s' => typeIs_int s' 0 t) noFill_tuple_mul F.fills_int_mul F.slot_int_rmul repeat_tuple F.slot_int_index.lookup
      (call_meets F.slot_int_rmul (typeIs_int s 0 t) F.entry_int_rmul (F.args_int_rmul_2 _ _) (int_rmul_tuple 0 t l its.toArray n dd sl) ⟨ho, rfl, ⟨_, ho, rfl⟩, call_meets F.slot_tuple_mul ⟨_, ho, rfl⟩ F.entry_tuple_mul (F.args_tuple_mul_2 _ _) (rep_none l its.toArray n dd sl t hi) ⟨ho, ?_⟩⟩)
    refine ⟨.ref s.heap.objs.size, _, I.laid (t' := s.toks) (o := .tup []) (fun b ob q => Heap.get?_push_of_some _ q) (Nat.le_refl _) ?_, rfl, q2 (by decide) _ (I.hok.fresh (Nat.le_refl _))⟩
    exact ⟨Nat.zero_le _, [], .nil, IsTup.new _ _⟩
section
variable {C : Ct} {xs ys : List Dt}
theorem isA_flat {K : Frg} {H : Hp} {ds : List Dt} {vs : List V} (h : IsA K H ds vs) (m : Nat) : IsA K H (List.replicate m ds).flatten (List.replicate m vs).flatten := isA_rep h m
/-- a tuple, some times -/
theorem o_repA {k : Int} (hx : xs ≠ []) (hz : xs.length ≤ 1000) (h0 : 0 ≤ k) (h1 : k ≤ 1000) : OpS C (rRepA C.K) (.tup xs) (di k) (.tup (List.replicate k.toNat xs).flatten) := fun os A σ H vx vy k' i1 i2 Q q => by
  have i1' := i1
  rw [Is] at i1
  obtain ⟨a, vs, rfl, h2, h3⟩ := i1
  rw [Is.v_iff.mp i2]
  have hl := isA_len h3
  refine ⟨a, k, vs, rfl, rfl, hd_ex.t h2, fun z => hx (List.eq_nil_of_length_eq_zero (by rw [← hl, z]; rfl)), h0, h1, by omega, fun e => ?_, fun e p hp => ?_⟩
  · subst e
    refine q _ H (Ex.refl _) k'.tb ?_
    have e1 : (List.replicate (1 : Int).toNat xs).flatten = xs := by simp
    rw [e1]
    exact i1'
  · refine q _ _ (Ex.new hp) (tabs_new k'.tb hp) ?_
    rw [Is]
    exact ⟨p, _, rfl, SqT.of (k'.fresh hp), IsA.mono (hd_mono (Ex.new hp)) _ _ (isA_rep h3 _)⟩
/-- two tuples, one behind the other -/
theorem o_catA (hz : xs.length + ys.length ≤ 100000) : OpS C (rCatA C.K) (.tup xs) (.tup ys) (.tup (xs ++ ys)) := fun os A σ H vx vy k i1 i2 Q q => by
  have j1 := i1
  have j2 := i2
  rw [Is] at i1 i2
  obtain ⟨a, vs, rfl, h2, h3⟩ := i1
  obtain ⟨b, us, rfl, h4, h5⟩ := i2
  have l1 := isA_len h3
  have l2 := isA_len h5
  have n1 : vs = [] → xs = [] := fun z => List.eq_nil_of_length_eq_zero (by rw [← l1, z]; rfl)
  have n2 : us = [] → ys = [] := fun z => List.eq_nil_of_length_eq_zero (by rw [← l2, z]; rfl)
  refine ⟨a, b, vs, us, rfl, rfl, hd_ex.t h2, hd_ex.t h4, by rw [l1, l2]; exact Nat.le_trans hz (by decide), fun z => ?_, fun _ z => ?_, fun _ _ p hp => ?_⟩
  · refine q _ H (Ex.refl _) k.tb ?_
    rw [n1 z]
    exact j2
  · refine q _ H (Ex.refl _) k.tb ?_
    rw [n2 z, List.append_nil]
    exact j1
  · refine q _ _ (Ex.new hp) (tabs_new k.tb hp) ?_
    rw [Is]
    exact ⟨p, _, rfl, SqT.of (k.fresh hp), IsA.mono (hd_mono (Ex.new hp)) _ _ (isA_app h3 h5)⟩
/-- a part of a tuple -/
theorem e_slT {A A1 A2 A3 : AS} {te : TE} {tl th : TO} {lo hi : Option Int} (h : EvS C te A (.tup xs) A1) (h1 : EvO C tl A1 lo A2) (h2 : EvO C th A2 hi A3) : EvS C (tSl (rSlA C.K) te tl th) A (.tup (cutL xs lo hi)) A3 := fun os σ H k Q q =>
  h os σ H k _ fun os1 v H1 k1 e1 i1 => h1 os1 σ H1 k1 _ fun os2 H2 k2 e2 => h2 os2 σ H2 k2 _ fun os3 H3 k3 e3 => by
    have i3 := Is.mono (e2.trans e3).e _ _ i1
    have j3 := i3
    rw [Is] at i3
    obtain ⟨a, vs, rfl, h4, h5⟩ := i3
    have l1 := isA_len h5
    refine ⟨a, vs, rfl, hd_ex.t h4, fun z => ?_, fun z p hp => ?_⟩
    · have e : cutL xs lo hi = xs := by
        unfold cutL
        rw [← l1, z.1, z.2, List.drop_zero, Nat.sub_zero, l1, List.take_length]
      refine q os3 _ H3 k3 ((e1.trans e2).trans e3) ?_
      rw [e]
      exact j3
    · refine q os3 _ _ (k3.monoN hp) (((e1.trans e2).trans e3).trans (k3.gr (Ex.new hp))) ?_
      rw [Is]
      exact ⟨p, _, rfl, SqT.of (k3.fresh hp), IsA.mono (hd_mono (Ex.new hp)) _ _ (isA_cutL h5)⟩
end
end Py
end

section
set_option Elab.async false
set_option linter.all false
set_option maxRecDepth 100000
set_option maxHeartbeats 4000000
set_option autoImplicit false
/-! ### enumerate of a tuple -/
namespace Py
open PySem PySem.Spec PyProof.Rows L2
theorem new_enumT (t : Addr) (items : Array Value) :
    Meets (Builtin.«enumerate.__new__» ⟨[.type "enumerate", .ref t], []⟩) (fun _ R s => s.heap.IsTuple t items ∧
      R (.ok (.ret (.ref (s.heap.push { cls := .type "tuple_iterator", data := .fields #[.ref t, .int 0 0] }).objs.size)))
        { s with heap := (s.heap.push { cls := .type "tuple_iterator", data := .fields #[.ref t, .int 0 0] }).push { cls := .type "enumerate", data := .fields #[.none, .bool false, .ref s.heap.objs.size, rawInt 0, .none, .none] } }) := by
  refine .of_wp fun prog w A R s h => ?_
  obtain ⟨hp, g, d, tk, os⟩ := s; obtain ⟨h1, h⟩ := h; have hsub := sub_enumerate
  have q1 : ∀ {A' : Around} {E : Value → Shared → Prop} {Q : Value → Shared → Prop}, Q (.ref hp.objs.size) ⟨hp.push { cls := .type "tuple_iterator", data := .fields #[.ref t, .int 0 0] }, g, d, tk, os⟩ → wpAny (model prog w) A' (pyIter (.ref t)) Q E ⟨hp, g, d, tk, os⟩ := fun q => (begins_tuple t items).iter prog w _ _ ⟨hp, g, d, tk, os⟩ _ h1 q
  wp_walk using q1; refine wpAny_stack_any fun st => wpAny_pure ?_; split
  · rename_i c _ _ _ _ _
    cases (c == Value.type "enumerate") <;> (wp_walk using q1; exact ⟨_, rfl, h⟩)
  · wp_walk using q1; exact ⟨_, rfl, h⟩
theorem call_enumT {prog : Program} {w : World} {A : Around} {E : Value → Shared → Prop} {s : Shared} {t : Addr} {items : Array Value} {Q : Value → Shared → Prop} (hT : s.heap.IsTuple t items)
    (h : ∀ h', IsEnum h' (s.heap.objs.size + 1) s.heap.objs.size 0 .none ∧ h'.IsTupleIter s.heap.objs.size t 0 ∧ h'.objs.size = s.heap.objs.size + 2 ∧ (∀ b o, s.heap.get? b = some o → h'.get? b = some o) → Q (.ref (s.heap.objs.size + 1)) { s with heap := h' }) :
    wpAny (model prog w) A (call (.type "enumerate") [.ref t]) Q E s := by
  refine callType_new F.called_enumerate (by decide) (F.typeCall_enumerate_1 _) (F.newCall_enumerate_1 _) (fun obj => F.args_object_init_2 obj _) F.entry_enumerate_new (new_enumT t items) ⟨hT, ?_⟩
  have hz : (s.heap.push { cls := .type "tuple_iterator", data := .fields #[.ref t, .int 0 0] }).objs.size = s.heap.objs.size + 1 := Heap.size_push ..
  show _ ∧ _; rw [hz]
  have he := Heap.get?_push_size (s.heap.push { cls := .type "tuple_iterator", data := .fields #[.ref t, .int 0 0] }) (o := { cls := .type "enumerate", data := .fields #[.none, .bool false, .ref s.heap.objs.size, rawInt 0, .none, .none] }) rfl
  rw [hz] at he
  exact ⟨⟨_, he, rfl⟩, h _ ⟨he, ⟨_, Heap.get?_push_of_some _ (Heap.get?_push_size _ rfl), rfl, rfl⟩, by rw [Heap.size_push, hz], fun b o x => Heap.get?_push_of_some _ (Heap.get?_push_of_some _ x)⟩⟩
/-- the tuple at a, each item in a new pair with its number -/
def ItTe (K : Frg) (a : Addr) : It where
  go i H := ∃ (xs : List V) (x : V), SqT K H a xs ∧ xs[i]? = some x
  yld i H v H' := ∃ T x, v = .ref T ∧ H T = none ∧ H' = upd H T (.tup [.int (i : Nat), x]) ∧ ∀ xs, SqT K H a xs → xs[i]? = some x
  stop i H := ∃ xs : List V, SqT K H a xs ∧ xs.length ≤ i
end Py
end

section
set_option Elab.async false
set_option linter.all false
set_option maxRecDepth 100000
set_option maxHeartbeats 4000000
set_option autoImplicit false
namespace Py
open PySem PySem.Spec PyProof.Rows L2
theorem turn_enumT {P : Program} {w : World} {K : Frg} {elts : List Expr} {kk : Nat} {tpos : Pos} (a e it : Addr) (hta : a ≠ it) (hea : e ≠ a) :
    Turn P w K (.Tuple elts kk tpos) (ItTe K a) [e, it] e (fun i h => (∃ old, IsEnum h e it ((i : Nat) : Int) old) ∧ h.IsTupleIter it a i ∧ e ≠ it) where
  mem := List.mem_cons_self ..
  obj i h st b hb := by
    obtain ⟨⟨old, he⟩, ⟨o, ho, hc, hd⟩, _⟩ := st
    rcases List.mem_cons.mp hb with z | hb
    · subst z; exact ⟨_, he, fun v q => nomatch q⟩
    · obtain rfl := List.mem_singleton.mp hb
      exact ⟨o, ho, fun v q => by rw [hd] at q; cases q⟩
  keep i h h' st k := ⟨⟨st.1.choose, k e (by simp) _ st.1.choose_spec⟩, st.2.1.at (fun o q => k it (by simp) o q), st.2.2⟩
  item := by
    rintro X rfl rfl rfl hc i pins s σ H E I hf ⟨⟨old, he⟩, hit, hne⟩ ⟨xs, x, hq, hx⟩
    obtain ⟨its, rv, p, hz⟩ := I.tuple hq
    obtain ⟨u, hu, ru⟩ := rv.get hx
    have hel : e < s.heap.objs.size := Heap.lt_size he
    have hil : it < s.heap.objs.size := by obtain ⟨_, q, _⟩ := hit; exact Heap.lt_size q
    have D := Draws.tuple (prog := X.prog) (w := X.w) (A := X.A.in1) (I.ok.hd hc) it a hta its.toArray
    have hi : i < its.toArray.size := by rw [List.size_toArray]; exact (List.getElem?_eq_some_iff.mp hu).1
    refine wpAny_pyNext_enum_itemD D he ⟨hit, p⟩ hi hne (by simp [hne, hea]) fun u' h' tk hP ho hs' hT hsz hk => ?_
    obtain rfl : u' = u := by simpa [hu] using hP.symm
    refine ⟨_, rfl, wpAny_letOwnedTupleGo_enum (s := { s with heap := h', toks := tk + 1 }) ho fun h'' he' sb => ?_⟩
    have hT2 := (sb.2 _ (Nat.ne_of_gt hel)).trans hT
    have new : ObjOk X.prog X.w (upd H s.heap.objs.size (.tup [.int (i : Nat), x])) h'' s.heap.objs.size (.tup [.int (i : Nat), x]) := ⟨by show 2 ≤ sizeLine; decide, [.int i tk, u'], .cons ⟨_, rfl⟩ (.cons ru .nil), ⟨_, hT2, rfl, _, rfl⟩⟩
    have I1 := I.turnedNew (t' := tk + 1) (ch := [e, it]) (fun b ob hb q => (sb.2 b (fun z => hb (by simp [z]))).trans (hk b ob (fun z => hb (by simp [z])) (fun z => hb (by simp [z])) q)) hf (Nat.le_refl _) new
    refine ⟨.ref s.heap.objs.size, _, I1, rfl, ⟨_, x, rfl, I.hok.fresh (Nat.le_refl _), rfl, fun ys hy => by rw [I.tuple_inj hy hq]; exact hx⟩, ⟨⟨u', ?_⟩, ?_, hne⟩, fun b hb => ?_⟩
    · rw [show ((i + 1 : Nat) : Int) = (i : Int) + 1 by omega]; exact he'
    · exact hs'.1.at fun o q => (sb.2 it (Ne.symm hne)).trans q
    · rw [upd_ne fun z => ?_]
      · exact (hf b hb).1
      · rcases List.mem_cons.mp hb with q | q
        · exact absurd (z.symm.trans q) (Nat.ne_of_gt hel)
        · exact absurd (z.symm.trans (List.mem_singleton.mp q)) (Nat.ne_of_gt hil)
  done := by
    rintro X rfl rfl rfl hc i pins s σ H E I hf ⟨⟨old, he⟩, hit, hne⟩ ⟨xs, hq, hx⟩
    obtain ⟨its, rv, p, hz⟩ := I.tuple hq
    obtain ⟨f0, f1, f2, f3, f4, f5⟩ := hf it (by simp)
    have hl := rv.length
    have hT : s.TypeIs (.ref e) "enumerate" := ⟨_, he, rfl⟩; unfold pyNext
    refine wpAny_bind (wpAny_attempt (wpAny_callSpecial?_slot (name := Str.ofString "__next__") hT F.slot_enumerate_next (wpAny_call_entry F.slot_enumerate_next hT F.entry_enumerate_next ?_ (F.args_enumerate_next_1 _))))
    show wpAny _ _ (field (.ref e) 2 >>= _) _ _ _; refine wpAny_bind (wpAny_field he rfl (x := .ref it) rfl ?_)
    refine wpAny_bind (wpAny_nextOf_tuple_end (I.ok.hd hc) hit p (by simp; omega) fun h' x' eb ⟨o, ho, hco⟩ => ?_)
    refine wpAny_bind (wpAny_isInstance (T := "StopIteration") (b := true) ⟨o, ho, hco⟩ isSubtype_stop ?_); refine wpAny_pure ?_
    exact ⟨rfl, I.turned (t' := s.toks) (fun b o hb q => eb b o hb q) f0 f1 f3 f4 f5⟩
  self A i s Q E st h := by obtain ⟨⟨_, he⟩, _⟩ := st; exact wpAny_pyIter_enum he h
end Py
end

section
set_option Elab.async false
set_option linter.all false
set_option maxRecDepth 100000
set_option maxHeartbeats 4000000
set_option autoImplicit false
namespace Py
open PySem PySem.Spec PyProof.Rows L2
/-- what an iterator gives, as data, where R0 is known -/
structure Yl (K : Frg) (R0 : Hp) (J : It) (n : Nat) (y : Nat → Dt) : Prop where
  go : ∀ i H, i < n → Ex R0 H → J.go i H
  stop : ∀ H, Ex R0 H → J.stop n H
  yl : ∀ i H v H' (O : List Addr), i < n → J.yld i H v H' → Ex R0 (hd O H) → (∀ a ∈ O, ∃ o, H a = some o ∧ NoT o) → Ex H H' ∧ (∀ T, LamX.Tabs T H → LamX.Tabs T H') ∧ Is K (hd O H') (y i) v
def WiS (C : Ct) (wi : TI) (A : AS) (n : Nat) (y : Nat → Dt) (A1 : AS) : Prop := ∀ os σ H, Ok C os A σ H → ∀ R : It → Hp → Prop, (∀ os' H' J, Ok C os' A1 σ H' → Gr C.O os H os' H' → Yl C.K (Rh C.O os' H') J n y → R J H') → wi σ H R
section
variable {C : Ct} {E : XK} {A A1 A2 : AS} {t : TS} {te : TE} {tt : TT} {P : Po} {g : TG} {ws : List Nat} {wi : TI} {n : Nat} {y : Nat → Dt}
theorem r_forY (hw : WiS C wi A n y A1) (Pv : Nat → AS → Prop) (h0 : Pv 0 A1)
    (hs : ∀ (i : Nat) A, i < n → Pv i A → ∃ A', Tg C g (y i) A A' ∧ RunS C E t A' { P with nx := Pv (i + 1), ct := Pv (i + 1), bk := P.nx }) (hd' : ∀ A, Pv n A → P.nx A) : RunS C E (tFor wi g t) A P := fun os σ H D k T =>
  hw os σ H k _ fun os1 H1 J k1 e1 Y => by
    refine ⟨fun i m σ' H' => m = n - i ∧ i ≤ n ∧ ∃ os' A', Pv i A' ∧ Ok C os' A' σ' H' ∧ Gs C.O os1 H1 os' H', ⟨n, rfl, Nat.zero_le _, os1, A1, h0, k1, Gs.refl⟩, ?_⟩
    rintro i m σ' H' ⟨rfl, hi, os', A', p, k', g'⟩
    by_cases hlt : i < n
    · obtain ⟨A2, tg, run⟩ := hs i A' hlt p
      refine .inr ⟨Y.go i H' hlt (g'.e.trans hd_ex), fun σ2 H2 => i + 1 ≤ n ∧ ∃ os' A', Pv (i + 1) A' ∧ Ok C os' A' σ2 H2 ∧ Gs C.O os1 H1 os' H2, fun σ2 H2 q => ⟨n - (i + 1), by omega, rfl, q.1, q.2⟩, fun v H2 hy => ?_⟩
      obtain ⟨x1, x2, x3⟩ := Y.yl i H' v H2 (hid C.O os') hlt hy g'.e fun a h => k'.hidden h
      have k2 := k'.mono x1 (x2 _ k'.tb)
      have g2 := g'.trans (k'.gr x1).s
      refine tg os' σ' H2 v _ k2 x3 fun σ2 k3 => ?_
      exact run os' σ2 H2 _ k3 ⟨fun os3 A3 σ3 H3 h k3 g3 => ⟨hlt, os3, A3, h, k3, g2.trans g3⟩, fun os3 A3 σ3 d v H3 h k3 g3 i3 => T.rt os3 A3 σ3 d v H3 h k3 ((e1.s.trans g2).trans g3) i3, fun os3 A3 σ3 H3 h k3 g3 => T.nx os3 A3 σ3 H3 h k3 ((e1.s.trans g2).trans g3), fun os3 A3 σ3 H3 h k3 g3 => ⟨hlt, os3, A3, h, k3, g2.trans g3⟩, T.er⟩
    · obtain rfl : i = n := by omega
      exact .inl ⟨Y.stop H' (g'.e.trans hd_ex), T.nx os' A' σ' H' (hd' A' p) k' (e1.s.trans g')⟩
theorem e_lcY (hw : WiS C wi A n y A1) (B : Nat → AS) (Z : Nat → List Dt) (h0 : A1 = B 0) (hZ : Z 0 = [])
    (hs : ∀ i, i < n → ∀ O, LcT ⟨C.K, C.T, C.H0, O⟩ g tt te ws (y i) (B i) (Z i) (B (i + 1)) (Z (i + 1))) (hn : n < 100000) : EvS C (tLc wi g tt te ws) A (.lst (Z n)) (B n) := fun os σ H k Q q =>
  hw os σ H k _ fun os1 H1 J k1 g1 Y p hp => by
    have hl : ∀ i, i ≤ n → (Z i).length ≤ i := by
      intro i
      induction i with
      | zero => intro _; rw [hZ]; exact Nat.le_refl _
      | succ i ih =>
        intro hi
        obtain ⟨_, _, _, _, _, h⟩ := hs i hi []
        rcases h with ⟨_, _, _, _, e, _⟩ | ⟨_, e, _⟩ <;> rw [e] <;> have := ih (by omega) <;> (try simp only [List.length_append, List.length_singleton]) <;> omega
    subst h0
    refine ⟨fun i m H' => m = n - i ∧ i ≤ n ∧ ∃ os' acc, Ok (C.hide p) os' (B i) σ H' ∧ GrP p C.O os1 (upd H1 p (.lst [])) os' H' ∧ H' p = some (.lst acc) ∧ IsA C.K (Rh (p :: C.O) os' H') (Z i) acc, ⟨n, rfl, Nat.zero_le _, os1, [], k1.hide hp nt_l, ⟨Ex.refl _, fun _ _ => rfl, fun _ _ h => h⟩, upd_same, by rw [hZ]; exact isA_nil⟩, ?_⟩
    rintro i m H' ⟨rfl, hi, os', acc, k', g', hp', ha⟩
    have e' : Ex (Rh C.O os1 H1) (Rh (p :: C.O) os' H') := by
      have e := g'.e
      rw [Rh_hide hp] at e
      exact e
    by_cases hlt : i < n
    · refine .inr ⟨Y.go i H' hlt (e'.trans hd_ex), fun H2 => i + 1 ≤ n ∧ ∃ os' acc, Ok (C.hide p) os' (B (i + 1)) σ H2 ∧ GrP p C.O os1 (upd H1 p (.lst [])) os' H2 ∧ H2 p = some (.lst acc) ∧ IsA C.K (Rh (p :: C.O) os' H2) (Z (i + 1)) acc, fun H2 q => ⟨n - (i + 1), by omega, rfl, q.1, q.2⟩, fun v H2 hy => ?_⟩
      obtain ⟨x1, x2, x3⟩ := Y.yl i H' v H2 (hid (p :: C.O) os') hlt hy e' fun a h => k'.hidden h
      have k2 := k'.mono x1 (x2 _ k'.tb)
      have gp : GrP p C.O os' H' os' H2 := ⟨hd_mono x1, fun a h => by
        obtain ⟨o, q, nt⟩ := k'.ol a (List.mem_cons_of_mem _ h)
        rw [q, x1 _ _ q nt], fun _ _ h => h⟩
      exact lc_turn (hs i hlt _) k2 (x1 _ _ hp' nt_l) (IsA.mono (hd_mono x1) _ _ ha) x3 (fresh_0 k1 hp) (fresh_O k1 hp) (by have := hl i (by omega); omega) _ fun os2 acc2 H3 k3 g3 hp3 ha3 => ⟨hlt, os2, acc2, k3, (g'.trans gp).trans g3, hp3, ha3⟩
    · obtain rfl : i = n := by omega
      exact .inl ⟨Y.stop H' (e'.trans hd_ex), lc_end k1 hp k' g' hp' ha fun os2 v H2 k2 g2 i2 => q os2 v H2 k2 (g1.trans g2) i2⟩
end
end Py
end

section
set_option Elab.async false
set_option linter.all false
set_option maxRecDepth 100000
set_option maxHeartbeats 4000000
set_option autoImplicit false
namespace Py
open PySem PySem.Spec PyProof.Rows L2
/-- enumerate(t), t a tuple -/
def iEnT (K : Frg) (ta : TA) : TI := fun σ H R => ta σ H fun vs H1 => ∃ (a : Addr) (xs : List V), vs = [.ref a] ∧ SqT K H1 a xs ∧ R (ItTe K a) H1
theorem pi_enumT {X : Cx} {K : Frg} {e : Expr} {ta : TA} {p pos tpos : Pos} {elts : List Expr} {kk : Nat} (hK : X.K = K) (hg : Gl X "enumerate") (hm : X.mg "enumerate" = none) (ha : PA X [e] ta) (hs : starEach [e] X.env = [(false, eval e X.env)] := by rfl) :
    PI X (.Tuple elts kk tpos) (.Call (.Name "enumerate" p) [e] [] pos) (iEnT K ta) := by
  subst hK
  refine ⟨fun pins s σ H R I h => Call_ (ld_blt I hg hm boot_enumerate (PyProof.Rows.callWith_type1 (thn (ha.run pos pins s σ H _ I h) fun us s1 ⟨vs, H1, I1, r1, q1⟩ => ?_) hs rfl))⟩
  obtain ⟨a, xs, rfl, hq, q⟩ := q1
  obtain ⟨u, rfl, r⟩ := vals1 r1
  cases r
  obtain ⟨its, rv, p', hz⟩ := I1.tuple hq
  have hlt : a < s1.heap.objs.size := by obtain ⟨o, ho, _⟩ := id p'; exact Heap.lt_size ho
  refine call_enumT (show s1.heap.IsTuple a its.toArray from p') fun h' ⟨he, hit, hsz, hk⟩ => wpAny_pyIter_enum he ?_
  have I2 : Inv X pins σ H1 { s1 with heap := h' } := I1.kept (t' := s1.toks) hk
  refine ⟨s1.heap.objs.size + 1, [s1.heap.objs.size + 1, s1.heap.objs.size], _, _, H1, rfl, I2, turn_enumT a (s1.heap.objs.size + 1) s1.heap.objs.size (Nat.ne_of_lt hlt) (Nat.ne_of_gt (Nat.lt_succ_of_lt hlt)), ⟨⟨.none, he⟩, hit, Nat.succ_ne_self _⟩, fun b hb => ?_, q⟩
  have hle : s1.heap.objs.size ≤ b := by
    rcases List.mem_cons.mp hb with z | z
    · rw [z]; exact Nat.le_succ _
    · rw [List.mem_singleton.mp z]; exact Nat.le_refl _
  exact I1.fpOk hle (I1.hok.fresh hle)
section
variable {C : Ct} {A A1 : AS} {tl : TA} {xs ys : List Dt}
theorem new_pair {K : Frg} {H : Hp} {O : List Addr} {T : Addr} {x y : V} {d d' : Dt} {R0 : Hp} (hT : H T = none) (e0 : Ex R0 (hd O H)) (hO : ∀ a ∈ O, ∃ o, H a = some o ∧ NoT o) (h1 : Is K R0 d x) (h2 : Is K R0 d' y) :
    Ex H (upd H T (.tup [x, y])) ∧ (∀ Tb, LamX.Tabs Tb H → LamX.Tabs Tb (upd H T (.tup [x, y]))) ∧ Is K (hd O (upd H T (.tup [x, y]))) (.tup [d, d']) (.ref T) := by
  refine ⟨Ex.new hT, fun Tb h => tabs_new h hT, ?_⟩
  have e1 := e0.trans (hd_mono (O := O) (Ex.new (o := .tup [x, y]) hT))
  rw [Is]
  refine ⟨T, [x, y], rfl, SqT.of ?_, isA_cons (Is.mono e1 _ _ h1) (isA_cons (Is.mono e1 _ _ h2) isA_nil)⟩
  rw [hd_of fun z => ?_]
  · exact upd_same
  · obtain ⟨o, e, _⟩ := hO T z
    rw [hT] at e; cases e
theorem yl_enumT {R0 : Hp} {K : Frg} {a : Addr} {vs : List V} (h1 : SqT K R0 a vs) (h2 : IsA K R0 xs vs) (x0 : Dt) : Yl K R0 (ItTe K a) xs.length fun i => .tup [di i, xs.getD i x0] where
  go i H hi e := by
    have hl : i < vs.length := by rw [isA_len h2]; exact hi
    exact ⟨vs, vs[i], e.t h1, List.getElem?_eq_getElem hl⟩
  stop H e := ⟨vs, e.t h1, by rw [isA_len h2]; exact Nat.le_refl _⟩
  yl i H v H' O hi hy e hO := by
    obtain ⟨T, x, rfl, hT, rfl, hx⟩ := hy
    obtain ⟨d, hd', hi'⟩ := isA_get' h2 (hx vs ((e.trans hd_ex).t h1))
    have : xs.getD i x0 = d := by rw [List.getD_eq_getElem?_getD, hd']; rfl
    rw [this]
    exact new_pair hT e hO is_v hi'
theorem w_enumT (h : EvA C tl A [.tup xs] A1) (x0 : Dt) : WiS C (iEnT C.K tl) A xs.length (fun i => .tup [di i, xs.getD i x0]) A1 := fun os σ H k R q =>
  h os σ H k _ fun os1 vs H1 k1 e1 i1 => by
    simp only [IsA] at i1
    obtain ⟨v, w, rfl, i1, rfl⟩ := i1
    rw [Is] at i1
    obtain ⟨a, vs, rfl, h2, h3⟩ := i1
    exact ⟨a, vs, rfl, hd_ex.t h2, q os1 H1 _ k1 e1 (yl_enumT h2 h3 x0)⟩
theorem yl_zipT {R0 : Hp} {K : Frg} {a b : Addr} {vs us : List V} (h1 : SqT K R0 a vs) (h2 : IsA K R0 xs vs) (h3 : SqT K R0 b us) (h4 : IsA K R0 ys us) (x0 : Dt) : Yl K R0 (RZ.ItzT K a b) (min xs.length ys.length) fun i => .tup [xs.getD i x0, ys.getD i x0] where
  go i H hi e := by
    have hl : i < vs.length := by rw [isA_len h2]; omega
    have hl' : i < us.length := by rw [isA_len h4]; omega
    exact ⟨vs, us, vs[i], us[i], e.t h1, e.t h3, List.getElem?_eq_getElem hl, List.getElem?_eq_getElem hl'⟩
  stop H e := ⟨vs, us, e.t h1, e.t h3, by rw [isA_len h2, isA_len h4]; omega⟩
  yl i H v H' O hi hy e hO := by
    obtain ⟨T, x, y, rfl, hT, rfl, hx, hy⟩ := hy
    obtain ⟨d, hd1, hi1⟩ := isA_get' h2 (hx vs ((e.trans hd_ex).t h1))
    obtain ⟨d', hd2, hi2⟩ := isA_get' h4 (hy us ((e.trans hd_ex).t h3))
    have g1 : xs.getD i x0 = d := by rw [List.getD_eq_getElem?_getD, hd1]; rfl
    have g2 : ys.getD i x0 = d' := by rw [List.getD_eq_getElem?_getD, hd2]; rfl
    rw [g1, g2]
    exact new_pair hT e hO hi1 hi2
theorem w_zipT (h : EvA C tl A [.tup xs, .tup ys] A1) (x0 : Dt) : WiS C (RZ.iZipA C.K tl) A (min xs.length ys.length) (fun i => .tup [xs.getD i x0, ys.getD i x0]) A1 := fun os σ H k R q =>
  h os σ H k _ fun os1 vs H1 k1 e1 i1 => by
    simp only [IsA] at i1
    obtain ⟨v, w, rfl, i1, v', w', rfl, i2, rfl⟩ := i1
    rw [Is] at i1 i2
    obtain ⟨a, vs, rfl, h2, h3⟩ := i1
    obtain ⟨b, us, rfl, h4, h5⟩ := i2
    exact ⟨a, b, vs, us, rfl, .inr ⟨hd_ex.t h2, hd_ex.t h4, q os1 H1 _ k1 e1 (yl_zipT h2 h3 h4 h5 x0)⟩⟩
theorem yl_revT {R0 : Hp} {K : Frg} {a : Addr} {vs : List V} (h1 : SqT K R0 a vs) (h2 : IsA K R0 xs vs) (x0 : Dt) : Yl K R0 (RT.ItvT K a vs.length) xs.length fun i => xs.getD (xs.length - 1 - i) x0 where
  go i H hi e := by
    have hl := isA_len h2
    exact ⟨by omega, vs, vs[vs.length - 1 - i]'(by omega), e.t h1, List.getElem?_eq_getElem _⟩
  stop H e := by
    show vs.length ≤ xs.length
    rw [isA_len h2]; exact Nat.le_refl _
  yl i H v H' O hi hy e hO := by
    obtain ⟨rfl, hx⟩ := hy
    obtain ⟨d, hd', hi'⟩ := isA_get' h2 (hx vs ((e.trans hd_ex).t h1))
    have : xs.getD (xs.length - 1 - i) x0 = d := by rw [List.getD_eq_getElem?_getD, ← isA_len h2, hd']; rfl
    rw [this]
    exact ⟨Ex.refl _, fun _ h => h, Is.mono e _ _ hi'⟩
theorem w_revT {te : TE} (h : EvS C te A (.tup xs) A1) (x0 : Dt) : WiS C (RT.iRevA C.K te) A xs.length (fun i => xs.getD (xs.length - 1 - i) x0) A1 := fun os σ H k R q =>
  h os σ H k _ fun os1 v H1 k1 e1 i1 => by
    rw [Is] at i1
    obtain ⟨a, vs, rfl, h2, h3⟩ := i1
    exact ⟨a, vs, rfl, .inr ⟨hd_ex.t h2, q os1 H1 _ k1 e1 (yl_revT h2 h3 x0)⟩⟩
end
end Py
end

section
set_option Elab.async false
set_option linter.all false
set_option maxRecDepth 100000
set_option maxHeartbeats 4000000
set_option autoImplicit false
namespace Py
open PySem PySem.Spec PyProof.Rows L2
/-! ### fractions and rows of them, told alike or not -/
def pyq (q : Rat) : PyData := .tuple [.int (qp q).1, .int (qp q).2]
theorem nice_q (q : Rat) : Nice 1 (fq q) (pyq q) := nice_fr (qp q)
theorem nice_fl (l : List Rat) : Nice 2 (.tup (fl l)) (.tuple (l.map pyq)) := .tup (niceA_map nice_q l)
theorem eqv_q (p q : Rat) : PyData.eqv (pyq p) (pyq q) = decide (p = q) := by
  rw [pyq, pyq, PyData.eqv, PyData.eqvAll, PyData.eqvAll, PyData.eqvAll, PyData.eqv, PyData.eqv, Bool.and_true]
  by_cases h : p = q
  · subst h
    simp
  · rw [decide_eq_false h]
    by_cases h1 : (qp p).1 = (qp q).1
    · have h2 : (qp p).2 ≠ (qp q).2 := fun z => h (qp_inj (Prod.ext h1 z))
      simp [h2]
    · simp [h1]
theorem eqv_ql : ∀ a b : List Rat, PyData.eqvAll (a.map pyq) (b.map pyq) = decide (a = b)
  | [], [] => by rw [List.map_nil, PyData.eqvAll]; rfl
  | [], q :: b => by rw [List.map_nil, List.map_cons, PyData.eqvAll]; rfl
  | p :: a, [] => by rw [List.map_nil, List.map_cons, PyData.eqvAll]; rfl
  | p :: a, q :: b => by
    rw [List.map_cons, List.map_cons, PyData.eqvAll, eqv_q, eqv_ql a b]
    by_cases h : p = q <;> by_cases h' : a = b <;> simp [h, h']
section
variable {C : Ct}
theorem o_eqQ (p q : Rat) : OpS C (rEqA C.K) (fq p) (fq q) (db (decide (p = q))) := by
  have := o_eqN (C := C) (nice_q p) (nice_q q)
  rw [eqv_q] at this
  exact this
theorem o_neQ (p q : Rat) : OpS C (rNeA C.K) (fq p) (fq q) (db (!decide (p = q))) := by
  have := o_neN (C := C) (nice_q p) (nice_q q)
  rw [eqv_q] at this
  exact this
theorem o_eqF (a b : List Rat) : OpS C (rEqA C.K) (.tup (fl a)) (.tup (fl b)) (db (decide (a = b))) := by
  have := o_eqN (C := C) (nice_fl a) (nice_fl b)
  rw [PyData.eqv, eqv_ql] at this
  exact this
theorem o_neF (a b : List Rat) : OpS C (rNeA C.K) (.tup (fl a)) (.tup (fl b)) (db (!decide (a = b))) := by
  have := o_neN (C := C) (nice_fl a) (nice_fl b)
  rw [PyData.eqv, eqv_ql] at this
  exact this
end
theorem qp0 : qp 0 = (0, 1) := by decide
theorem qp1 : qp 1 = (1, 1) := by decide
theorem qpm : qp (-1) = (-1, 1) := by decide
end Py
end

section
set_option Elab.async false
set_option linter.all false
set_option maxRecDepth 100000
set_option maxHeartbeats 4000000
set_option autoImplicit false
namespace Py
open PySem PySem.Spec PyProof.Rows L2
/-! ### lists of one's own: list(..), what is taken off, how they compare -/
section
variable {C : Ct} {E : XK} {A A1 A2 : AS} {te : TE} {tl : TE} {P : Po} {i n : Nat} {xs : List Dt} {x : Dt}
/-- row = list(row) -/
theorem r_listO (h : EvS C te A x A1) (hx : x = .tup xs ∨ x = .lst xs) (hn : P.nx (A1.newO i xs)) : RunS C E (tAsg (tCB (fun ys H Q => ∃ p zs, ys = [V.ref p] ∧ (SqL C.K H p zs ∨ SqT C.K H p zs) ∧ ∀ (l : Addr), H l = none → Q (V.ref l) (upd H l (HO.lst zs))) (tCons te tNil)) (gName i)) A P := fun os σ H D k T =>
  h os σ H k _ fun os1 v H1 k1 e1 i1 => by
    have i1' : ∃ a vs, v = .ref a ∧ (SqL C.K (Rh C.O os1 H1) a vs ∨ SqT C.K (Rh C.O os1 H1) a vs) ∧ IsA C.K (Rh C.O os1 H1) xs vs := by
      rcases hx with rfl | rfl
      · rw [Is] at i1
        obtain ⟨a, vs, e, h2, h3⟩ := i1
        exact ⟨a, vs, e, .inr h2, h3⟩
      · rw [Is] at i1
        obtain ⟨a, vs, e, h2, h3⟩ := i1
        exact ⟨a, vs, e, .inl h2, h3⟩
    obtain ⟨a, vs, rfl, h2, h3⟩ := i1'
    refine ⟨a, vs, rfl, h2.imp hd_ex.l hd_ex.t, fun p hp => T.nx _ _ _ _ hn (k1.newO hp h3) (Gr.s <| e1.trans ⟨?_, fun b hb => ?_, fun j y hj => ?_⟩)⟩
    · rw [Rh_app hp]; exact Ex.refl _
    · obtain ⟨o, q, m⟩ := k1.ol b hb
      rw [q, Ex.new hp _ _ q m]
    · rw [List.getElem?_append_left (List.getElem?_eq_some_iff.mp hj).1]; exact hj
/-- xs.pop() -/
theorem e_popO {d : Dt} (h1 : A.sl[i]? = some (.own n)) (h2 : A.st[n]? = some (.lst xs)) (hd' : xs[xs.length - 1]? = some d) : EvS C (tBM0 C.K "list" rPop (tVar i)) A d (A.upO n xs.dropLast) := fun os σ H k Q q => by
  obtain ⟨o, e1, a, e2, e3⟩ := k.slot h1
  subst e2
  obtain ⟨o3, s1, a3, vs, s2, s3, s4⟩ := k.store h2
  rw [e3] at s1; cases s1; cases s2
  obtain ⟨v, hv, iv⟩ := isA_get s4 hd'
  have hl := isA_len s4
  refine ⟨_, e1, .inl ⟨rfl, _, .inl (.inl s3)⟩, a, vs, v, rfl, rfl, s3, by rw [hl]; exact hv, ?_⟩
  have s5 : IsA C.K (Rh C.O os H) xs.dropLast vs.dropLast := by
    rw [List.dropLast_eq_take, List.dropLast_eq_take, hl]
    exact isA_take _ s4
  have e : Rh C.O os (upd H a (.lst vs.dropLast)) = Rh C.O os H := Rh_upd (mem_hid.mpr (.inr (List.mem_of_getElem? e3)))
  refine q os v _ (k.upO e3 h2 s5) ⟨by rw [e]; exact Ex.refl _, fun b hb => (by rw [upd_ne fun z => k.dj b hb (by rw [z]; exact List.mem_of_getElem? e3)]), fun _ _ h => h⟩ ?_
  rw [e]
  exact iv
/-- len(xs) -/
theorem e_lenO (h1 : A.sl[i]? = some (.own n)) (h2 : A.st[n]? = some (.lst xs)) : EvS C (tCB (fun ys H Q => ∃ x n, ys = [x] ∧ LenV C.K x H n ∧ Q (V.int n) H) (tCons (tVar i) tNil)) A (di xs.length) A := fun os σ H k Q q => by
  obtain ⟨o, e1, a, e2, e3⟩ := k.slot h1
  subst e2
  obtain ⟨o3, s1, a3, vs, s2, s3, s4⟩ := k.store h2
  rw [e3] at s1; cases s1; cases s2
  exact ⟨_, e1, _, vs.length, rfl, .inl ⟨vs, SqL.of s3, rfl⟩, by rw [isA_len s4]; exact q os _ H k Gr.refl is_v⟩
theorem own_dp {os : List (Option Addr)} {σ : Sg} {H : Hp} {p : PyData} {m : Nat} {a : Addr} (k : Ok C os A σ H) (e3 : os[n]? = some (some a)) (h2 : A.st[n]? = some (.lst xs)) (hp : Nice m (.lst xs) p) : Dp C.K H (.ref a) p := by
  obtain ⟨o3, s1, a3, vs, s2, s3, s4⟩ := k.store h2
  rw [e3] at s1; cases s1; cases s2
  have d1 : Is C.K (hd C.O H) (.lst xs) (.ref a) := by
    rw [Is]
    refine ⟨a, vs, rfl, SqL.of ?_, IsA.mono hid_ex _ _ s4⟩
    rw [hd_of fun z => k.dj a z (List.mem_of_getElem? e3)]
    exact s3
  exact Dp.mono hd_ex (Is.dp _ _ p d1 hp.all.1)
/-- xs != [] and the like -/
theorem e_neO {p q' : PyData} {m m' : Nat} {y : Dt} (h1 : A.sl[i]? = some (.own n)) (h2 : A.st[n]? = some (.lst xs)) (hp : Nice m (.lst xs) p) (hy : EvS C te A y A) (hq : Nice m' y q') (hm : m ≤ 64 := by decide) (hm' : m' ≤ 64 := by decide) : EvS C (tOp (rNeA C.K) (tVar i) te) A (db (!PyData.eqv p q')) A := fun os σ H k Q q => by
  obtain ⟨o, e1, a, e2, e3⟩ := k.slot h1
  subst e2
  refine ⟨_, e1, hy os σ H k _ fun os1 w H1 k1 g1 i1 => ?_⟩
  exact .inr ⟨p, q', own_dp k1 (g1.p _ _ e3) h2 hp, Dp.mono hd_ex (Is.dp _ _ _ i1 hq.all.1), hp.shaped hm, hq.shaped hm', q os1 _ H1 k1 g1 is_v⟩
end
theorem call_lenK {X : Cx} {K : Frg} (hK : X.K = K) : CallR X (.builtin "len") (fun xs H Q => ∃ x n, xs = [x] ∧ LenV K x H n ∧ Q (V.int (n : Nat)) H) := by subst hK; exact call_len
end Py
end

section
set_option Elab.async false
set_option linter.all false
set_option maxRecDepth 100000
set_option maxHeartbeats 4000000
set_option autoImplicit false
namespace Py
open PySem PySem.Spec PyProof.Rows L2
section
variable {C : Ct} {E : XK} {A A1 A2 : AS} {te ti tk : TE} {tl : TA} {P : Po} {i n : Nat} {xs : List Dt} {d : Dt}
/-- row = [x, ..] * k -/
theorem r_repO {k0 : Int} (h : EvA C tl A xs A1) (hk : EvS C tk A1 (di k0) A2) (h1 : 0 ≤ k0 ∧ k0 < 100000) (hl : xs.length * k0.toNat ≤ 100000) (hl0 : xs.length ≤ 100000) (hn : P.nx (A2.newO i (List.replicate k0.toNat xs).flatten)) : RunS C E (tAsg (tOp (rMulA C.K) (tLst tl) tk) (gName i)) A P := fun os σ H D k T =>
  h os σ H k _ fun os1 vs H1 k1 g1 i1 => ⟨by rw [isA_len i1]; exact Nat.le_trans hl0 (by decide), fun p hp => by
    have k2 := k1.monoN (o := .lst vs) hp
    refine hk os1 σ _ k2 _ fun os2 w H2 k3 g2 i2 => ?_
    rw [Is.v_iff.mp i2]
    have np : p ∉ hid C.O os1 := k1.new hp
    have r1 : Rh C.O os1 (upd H1 p (.lst vs)) p = some (.lst vs) := (hd_of np).trans upd_same
    have r2 : H2 p = some (.lst vs) := hd_ex _ _ (g2.e _ _ r1 nt_l) nt_l
    refine .inr ⟨p, k0, vs, rfl, rfl, r2, by omega, by omega, by rw [isA_len i1]; exact Nat.le_trans hl (by decide : 100000 ≤ sizeLine), fun r hr => ?_⟩
    have i3 := isA_rep (IsA.mono ((hd_mono (Ex.new hp)).trans g2.e) _ _ i1) k0.toNat
    refine T.nx _ _ _ _ hn (k3.newO hr i3) (Gr.s <| ((g1.trans (k1.gr (Ex.new hp))).trans g2).trans ⟨?_, fun b hb => ?_, fun j y hj => ?_⟩)
    · rw [Rh_app hr]; exact Ex.refl _
    · obtain ⟨o, q, m⟩ := k3.ol b hb
      rw [q, Ex.new hr _ _ q m]
    · rw [List.getElem?_append_left (List.getElem?_eq_some_iff.mp hj).1]; exact hj⟩
/-- row[e] = .. -/
theorem r_setE {z : Int} {j : Nat} (he : EvS C te A d A1) (hi : EvS C ti A1 (di z) A1) (h1 : A1.sl[i]? = some (.own n)) (h2 : A1.st[n]? = some (.lst xs)) (hj : ixN xs.length z = some j) (h : P.nx (A1.upO n (xs.set j d))) : RunS C E (tAsg te (gSub (tVar i) ti rSetL)) A P := fun os σ H D k T =>
  he os σ H k _ fun os1 v H1 k1 e1 i1 => by
    obtain ⟨o, f1, a, f2, f3⟩ := k1.slot h1
    subst f2
    refine ⟨_, f1, hi os1 σ H1 k1 _ fun os2 w H2 k2 e2 i2 => ?_⟩
    have f4 := e2.p _ _ f3
    obtain ⟨o3, s1, a3, vs, s2, s3, s4⟩ := k2.store h2
    rw [f4] at s1; cases s1; cases s2
    rw [Is.v_iff.mp i2]
    have i1' := Is.mono e2.e _ _ i1
    refine ⟨a, vs, z, j, rfl, rfl, s3, by rw [isA_len s4]; exact hj, ?_⟩
    exact T.nx os2 _ σ _ h (k2.upO f4 h2 (isA_set s4 i1')) (Gr.s <| (e1.trans e2).trans ⟨by rw [Rh_upd (mem_hid.mpr (.inr (List.mem_of_getElem? f4)))]; exact Ex.refl _, fun b hb => (by rw [upd_ne fun z => k2.dj b hb (by rw [z]; exact List.mem_of_getElem? f4)]), fun _ _ h => h⟩)
end
end Py
end

section
set_option Elab.async false
set_option linter.all false
set_option maxRecDepth 100000
set_option maxHeartbeats 4000000
set_option autoImplicit false
namespace Py
open PySem PySem.Spec PyProof.Rows L2
/-! ### a def that turns a dice, over data -/
theorem hd_same {O O2 : List Addr} {H : Hp} (h : ∀ b, b ∈ O ↔ b ∈ O2) : hd O H = hd O2 H := by
  funext b
  unfold hd
  by_cases c : b ∈ O
  · rw [if_pos c, if_pos ((h b).mp c)]
  · rw [if_neg c, if_neg fun z => c ((h b).mpr z)]
def spTurnD (K : Frg) (T : List (Addr × Str)) (g : Dice → List Dt → Dt → Dice → Prop) : Sp := fun vs H Q _ => ∃ (O : List Addr) (a : Addr) (c : Dice) (ws : List V) (ds : List Dt) (r : Dt) (c' : Dice), vs = .ref a :: ws ∧ a ∉ O ∧ (∀ b ∈ O, ∃ o, H b = some o ∧ NoT o) ∧ H a = some (.lst c.vs) ∧ IsA K (hd (a :: O) H) ds ws ∧ g c ds r c' ∧ LamX.Tabs T H ∧
  ∀ v H', (∀ b o, b ≠ a → H b = some o → NoT o → H' b = some o) → LamX.Tabs T H' → H' a = some (.lst c'.vs) → Is K (hd (a :: O) H') r v → Q v H'
theorem hid_one {O : List Addr} {a b : Addr} : b ∈ hid O [some a] ↔ b ∈ a :: O := by
  rw [mem_hid]
  constructor
  · intro h
    rcases h with h | h
    · exact List.mem_cons_of_mem _ h
    · rw [Option.some.inj (List.mem_singleton.mp h)]; exact List.mem_cons_self ..
  · intro h
    rcases List.mem_cons.mp h with h | h
    · rw [h]; exact Or.inr (List.mem_cons_self ..)
    · exact Or.inl h
theorem start_ownD {K : Frg} {T : List (Addr × Str)} {N : List Str} {O : List Addr} {a : Addr} {xs ws : List V} {ds : List Dt} {H : Hp} (ht : LamX.Tabs T H) (ha : H a = some (.lst xs)) (hO : a ∉ O) (hO2 : ∀ b ∈ O, ∃ o, H b = some o ∧ NoT o) (hw : IsA K (hd (a :: O) H) ds ws) :
    Ok ⟨K, T, fun b => if b = a then none else H b, O⟩ [some a] ⟨.own 0 :: (ds.map SD.d) ++ List.replicate (N.length - (ds.length + 1)) .un, [.lst (xs.map .v)]⟩ (L2.start N (.ref a :: ws)) H := by
  have hr : Rh O [some a] H = hd (a :: O) H := hd_same fun b => hid_one
  have hl := isA_len hw
  refine ⟨fun b o e n => ?_, ht, hO2, fun b h z => ?_, rfl, fun i j b h1 h2 => ?_, fun b h => ?_, ?_, fun i s o h1 h2 => ?_, fun i s o h1 h2 => ?_⟩
  · have e : (if b = a then none else H b) = some o := e
    split at e
    · cases e
    · exact e
  · obtain rfl := Option.some.inj (List.mem_singleton.mp z); exact hO h
  · cases i with
    | succ i => simp at h1
    | zero => cases j with
      | succ j => simp at h2
      | zero => rfl
  · obtain rfl := Option.some.inj (List.mem_singleton.mp h)
    refine ⟨fun o e => ?_, _, ha, nt_l⟩
    have e : (if b = b then none else H b) = some o := e
    rw [if_pos rfl] at e; cases e
  · simp [L2.start, hl]
  · rw [hr]
    cases i with
    | zero =>
      simp [L2.start] at h1 h2
      subst h1 h2
      exact ⟨a, rfl, rfl⟩
    | succ i =>
      have h1 : (ds.map SD.d ++ List.replicate (N.length - (ds.length + 1)) SD.un)[i]? = some s := by simpa using h1
      have h2 : (ws.map some ++ List.replicate (N.length - (ws.length + 1)) none)[i]? = some o := by simpa [L2.start] using h2
      rw [List.getElem?_append] at h1 h2
      rw [List.length_map] at h1 h2
      by_cases c : i < ds.length
      · rw [if_pos c, List.getElem?_map] at h1
        rw [if_pos (by omega), List.getElem?_map] at h2
        obtain ⟨d, e1, rfl⟩ := Option.map_eq_some_iff.mp h1
        obtain ⟨w, e2, rfl⟩ := Option.map_eq_some_iff.mp h2
        obtain ⟨w', e3, e4⟩ := isA_get hw e1
        rw [e2] at e3; cases e3
        exact ⟨w, rfl, e4⟩
      · rw [if_neg c, List.getElem?_replicate] at h1
        split at h1
        · cases h1; trivial
        · cases h1
  · cases i with
    | zero =>
      simp at h1 h2
      subst h1 h2
      exact ⟨a, xs, rfl, ha, flat_isA⟩
    | succ i => simp at h1
/-- the end of such a def's body -/
theorem turn_finD {K : Frg} {T : List (Addr × Str)} {N : List Str} {O : List Addr} {a : Addr} {c c' : Dice} {ws : List V} {ds : List Dt} {r : Dt} {H : Hp} {t : TS} {E : XK} {Q : VK} {sl : List SD} (ha : H a = some (.lst c.vs)) (ht : LamX.Tabs T H) (hO : a ∉ O) (hO2 : ∀ b ∈ O, ∃ o, H b = some o ∧ NoT o) (hw : IsA K (hd (a :: O) H) ds ws)
    (q : ∀ v H', (∀ b o, b ≠ a → H b = some o → NoT o → H' b = some o) → LamX.Tabs T H' → H' a = some (.lst c'.vs) → Is K (hd (a :: O) H') r v → Q v H') (hs : sl = .own 0 :: (ds.map SD.d) ++ List.replicate (N.length - (ds.length + 1)) .un) (hp : pl r = true)
    (R : RunS ⟨K, T, fun b => if b = a then none else H b, O⟩ E t ⟨sl, [.lst c.ds]⟩ { rt := fun r' A => r' = r ∧ A.st = [.lst c'.ds] }) : t { nx := fun _ H' => Q .non H', rt := Q } (L2.start N (.ref a :: ws)) H := by
  subst hs
  have k := start_ownD (N := N) ht ha hO hO2 hw
  exact R [some a] _ H _ k ⟨fun _ _ _ _ z => z.elim, fun os A σ r' u H' ⟨h1, h3⟩ k' g' i' => by
    obtain ⟨o, s1, a3, vs, s2, s3, s4⟩ := k'.store (i := 0) (s := .lst c'.ds) (by rw [h3]; rfl)
    subst s2
    have o0 := (g'.p 0 (some a) rfl).resolve_right fun z => by rw [s1] at z; cases z
    rw [o0] at s1; cases s1
    rw [vs_of s4] at s3
    subst h1
    refine q u H' (fun b o hb e n => k'.ex b o ?_ n) k'.tb s3 ?_
    · show (if b = a then none else H b) = some o
      rw [if_neg hb]; exact e
    · exact is_hide (fun b hb hn => (by
        rcases List.mem_cons.mp hb with z | z
        · rw [z]; exact ⟨_, s3⟩
        · exact absurd z hn)) _ _ hp (Is.mono hid_ex _ _ i'), fun _ _ _ _ z => z.elim, fun _ _ _ _ z => z.elim, fun _ _ z => z.elim⟩
section
variable {C : Ct} {A : AS} {tl : TA} {i n : Nat} {c c' : Dice} {ds : List Dt} {r : Dt}
/-- f(dice, ..) -/
theorem e_turnD {E' : XK} {g : Dice → List Dt → Dt → Dice → Prop} (h1 : A.sl[i]? = some (.own n)) (h2 : A.st[n]? = some (.lst c.ds)) (hm : EvA C tl A ds A) (hg : g c ds r c') :
    EvS C (tCall (spTurnD C.K C.T g) [] E' (tCons (tVar i) tl)) A r (A.upO n c'.ds) := fun os σ H k Q q => by
  obtain ⟨o, f1, a, f2, f3⟩ := k.slot h1
  subst f2
  refine ⟨_, f1, hm os σ H k _ fun os1 vs H1 k1 g1 i1 => ?_⟩
  have f3' := g1.p n _ f3
  obtain ⟨o3, s1, a3, us, s2, s3, s4⟩ := k1.store h2
  rw [f3'] at s1; cases s1; cases s2
  rw [vs_of s4] at s3
  have hh : a ∈ hid C.O os1 := mem_hid.mpr (.inr (List.mem_of_getElem? f3'))
  have hs : ∀ b, b ∈ a :: (hid C.O os1).filter (fun b => decide (b ≠ a)) ↔ b ∈ hid C.O os1 := fun b => by
    rw [List.mem_cons, List.mem_filter]
    constructor
    · intro z
      rcases z with z | z
      · rw [z]; exact hh
      · exact z.1
    · intro z
      by_cases e : b = a
      · exact .inl e
      · exact .inr ⟨z, decide_eq_true e⟩
  refine ⟨(hid C.O os1).filter (fun b => decide (b ≠ a)), a, c, vs, ds, r, c', by rw [List.append_nil], fun z => ?_, fun b z => k1.hidden (List.mem_filter.mp z).1, s3, by rw [hd_same hs]; exact i1, hg, k1.tb, fun v H' e t ha iv => ?_⟩
  · exact absurd rfl (of_decide_eq_true (List.mem_filter.mp z).2)
  have ku := k1.upO f3' h2 (ys := c'.ds) ds_of
  have ex : Ex (upd H1 a (.lst c'.vs)) H' := fun b o hb nt => by
    by_cases eb : b = a
    · subst eb
      rw [upd_same] at hb; cases hb
      exact ha
    · rw [upd_ne eb] at hb; exact e b o eb hb nt
  rw [hd_same hs] at iv
  refine q os1 _ H' (ku.mono ex t) (g1.trans ⟨?_, fun b hb => ?_, fun _ _ h => h⟩) iv
  · have := hd_mono (O := hid C.O os1) ex
    rw [show hd (hid C.O os1) (upd H1 a _) = Rh C.O os1 H1 from Rh_upd hh] at this
    exact this
  · obtain ⟨o, hb1, nt⟩ := k1.ol b hb
    rw [hb1]
    exact e b o (fun z => k1.dj b hb (by rw [z]; exact List.mem_of_getElem? f3')) hb1 nt
end
end Py
end

section
set_option Elab.async false
set_option linter.all false
set_option maxRecDepth 100000
set_option maxHeartbeats 4000000
set_option autoImplicit false
namespace Py
open PySem PySem.Spec PyProof.Rows L2
section
variable {C : Ct} {A A1 A2 A3 A4 : AS} {te : TE} {tl : TA} {ta tb : TO} {xs ys : List Dt} {lo hi : Option Int}
/-- [x, ..] + ys[lo:hi] -/
theorem e_catSl (h0 : EvA C tl A xs A1) (h : EvS C te A1 (.lst ys) A2) (h1 : EvO C ta A2 lo A3) (h2 : EvO C tb A3 hi A4) (hl : xs.length + ys.length ≤ 100000) : EvS C (tOp (rAddA C.K) (tLst tl) (tSl (rSlL C.K) te ta tb)) A (.lst (xs ++ cutL ys lo hi)) A4 := fun os σ H k Q q =>
  h0 os σ H k _ fun os0 us H0 k0 g0 i0 => ⟨by rw [isA_len i0]; exact Nat.le_trans (by omega) (by decide : 100000 ≤ sizeLine), fun p hp => by
    have kp := k0.monoN (o := .lst us) hp
    refine h os0 σ _ kp _ fun os1 v H1 k1 e1 i1 => h1 os1 σ H1 k1 _ fun os2 H2 k2 e2 => h2 os2 σ H2 k2 _ fun os3 H3 k3 e3 => ?_
    have i3 := Is.mono (e2.trans e3).e _ _ i1
    rw [Is] at i3
    obtain ⟨a, vs, rfl, h4, h5⟩ := i3
    have np : p ∉ hid C.O os0 := k0.new hp
    have r1 : Rh C.O os0 (upd H0 p (.lst us)) p = some (.lst us) := (hd_of np).trans upd_same
    have r2 : H3 p = some (.lst us) := hd_ex _ _ (((e1.trans e2).trans e3).e _ _ r1 nt_l) nt_l
    refine ⟨a, vs, rfl, hd_ex.l h4, fun l hl' => ?_⟩
    have ne : p ≠ l := fun z => by rw [z, hl'] at r2; cases r2
    have i5 := isA_cutL (lo := lo) (hi := hi) h5
    have kl := k3.monoN (o := .lst (cutV vs lo hi)) hl'
    refine .inr (.inr (.inr ⟨p, l, us, cutV vs lo hi, rfl, rfl, by rw [upd_ne ne]; exact r2, upd_same, ?_, fun r hr => ?_⟩))
    · have e5 := isA_len i5
      rw [isA_len i0, e5]
      refine Nat.le_trans ?_ (by decide : 100000 ≤ sizeLine)
      unfold cutL
      rw [List.length_take, List.length_drop]
      omega
    · have g3 := (((g0.trans (k0.gr (Ex.new hp))).trans e1).trans e2).trans e3
      refine q os3 _ _ (kl.monoN hr) ((g3.trans (k3.gr (Ex.new hl'))).trans (kl.gr (Ex.new hr))) ?_
      rw [Is]
      have ex := hd_mono (O := hid C.O os3) ((Ex.new (o := .lst (cutV vs lo hi)) hl').trans (Ex.new (o := .lst (us ++ cutV vs lo hi)) hr))
      refine ⟨r, _, rfl, SqL.of (kl.fresh hr), isA_app (IsA.mono (((((hd_mono (Ex.new hp)).trans e1.e).trans e2.e).trans e3.e).trans ex) _ _ i0) (IsA.mono ex _ _ i5)⟩⟩
/-- first is not None -/
theorem o_notNone {x : Dt} {b : Bool} (h : (x = dn ∧ b = false) ∨ (∃ ys, x = .tup ys) ∧ b = true) : OpS C (fun x y H Q => y = .non ∧ Q (.bl (!decide (x = .non))) H) x dn (db b) := fun os A σ H vx vy k i1 i2 Q q => by
  refine ⟨Is.v_iff.mp i2, ?_⟩
  rcases h with ⟨rfl, rfl⟩ | ⟨⟨zs, rfl⟩, rfl⟩
  · rw [Is.v_iff.mp i1]
    exact q _ H (Ex.refl _) k.tb is_v
  · rw [Is] at i1
    obtain ⟨a, vs, rfl, _⟩ := i1
    exact q _ H (Ex.refl _) k.tb is_v
end
end Py
end

section
set_option Elab.async false
set_option linter.all false
set_option maxRecDepth 100000
set_option maxHeartbeats 4000000
set_option autoImplicit false
namespace Py
open PySem PySem.Spec PyProof.Rows L2
/-! ### a lambda that is kept: no parameter, nothing captured -/
def LamO (params : Arguments) (body : Expr) (scope : Scope) (q : Str) (f c' : Addr) : HO := .ext fun h => ∃ pm ctv, h.get? f = some (PySem.W.kla_obj "<lambda>" q params body scope [] pm c' ctv)
theorem nt_lamO {params : Arguments} {body : Expr} {scope : Scope} {q : Str} {f c' : Addr} : NoT (LamO params body scope q f c') := fun ps z => by unfold LamO at z; cases z
section
variable {X : Cx} {pins : List (Addr × Obj)} {σ : L2.St} {H Hb : Hp} {s sb : Shared}
/-- what stands at a new place is known from now on -/
theorem know_new {f : Addr} {o : Obj} {φ : Heap → Prop} (J : Inv X pins σ Hb sb) (I : Inv X pins σ H s) (far : sb.heap.objs.size ≤ f) (hf : s.heap.get? f = some o) (hn : H f = none) (h1 : φ s.heap) (h2 : ∀ a b : Heap, φ a → (∀ o, a.get? f = some o → b.get? f = some o) → φ b) : Inv X pins σ (upd H f (.ext φ)) s := by
  have neq : ∀ b u, H b = some u → b ≠ f := fun b u e => ne_of_none e hn
  have old : ∀ b o, sb.heap.get? b = some o → b ≠ f := fun b o e z => by
    rw [z] at e
    exact absurd (Heap.lt_size e) (Nat.not_lt.mpr far)
  refine I.step (h' := s.heap) (ch := [f]) (fun b hb => ?_) (fun b o _ _ _ e _ => e) (fun b o _ _ _ e _ => ⟨o.slots, e⟩) (fun b o hb _ e => ?_) (fun b o _ e => ⟨o, e⟩) (fun b xs e => ?_) (fun b o u e => ?_) (fun b ps e => ⟨#[], ?_⟩) (fun m k => k) (fun b u e => ?_) I.bare
  · obtain rfl : b = f := List.mem_singleton.mp hb
    refine ⟨.inr (Nat.le_trans J.sz far), fun z => ?_, fun x c e z => ?_, fun p hp z => ?_⟩
    · exact absurd J.lt (Nat.not_lt.mpr (z ▸ far))
    · obtain ⟨w, o', e', _⟩ := J.cell x c e
      exact old c o' e' z
    · exact old p.1 p.2 (J.pin p hp).1 z
  · rw [upd_ne fun z => hb (List.mem_singleton.mpr z)]; exact e
  · rw [upd_ne (neq b _ e)]; exact e
  · rw [upd_ne (neq b _ e)]; exact e
  · rw [upd_ne (neq b _ e), e]; simp
  · by_cases z : b = f
    · subst z
      rw [upd_same] at e
      cases e
      exact ⟨h1, ⟨o, hf⟩, h2⟩
    · rw [upd_ne z] at e
      exact (I.hok b u e).stay (fun d v _ k => k) (fun d k => by rw [upd_ne (neq d _ k)]; exact k) fun d xs k => by rw [upd_ne (neq d _ k)]; exact k
/-- nothing is captured where nothing is free -/
theorem clo_nil (cells : List (Str × Addr)) : ∀ names : List (Str × NameKind), (∀ y ∈ names, y.2 ≠ .free) → cloFrom cells names [] = []
  | [], _ => rfl
  | (x, k) :: r, h => by
    have hk : k ≠ .free := h (x, k) (List.mem_cons_self ..)
    have ih := clo_nil cells r fun y hy => h y (List.mem_cons_of_mem _ hy)
    cases k <;> first | exact absurd rfl hk | exact ih
theorem lam_mk {T : List (Addr × Str)} {c pT : Addr} {q : Str} {params : Arguments} {body : Expr} {scope : Scope} {pos : Pos} {E : Value → Shared → Prop} {Q : Value → Shared → Prop} (I : Inv X pins σ H s) (TB : LamX.TabB X.base X.mg c pT) (hcd : X.env.code = .ref c) (hq : X.env.qual ++ "<lambda>" = q)
    (hm : (pT, q) ∈ T) (hu : ∀ p ∈ T, p.1 = pT → p.2 = q) (hT : LamX.Tabs T H) (hdef : defaultsOf params X.env = ([], [])) (hno : ∀ y ∈ scope.names, y.2 ≠ .free)
    (k : ∀ (f c' : Addr) (H1 : Hp) (s' : Shared), Inv X pins σ (upd H1 f (LamO params body scope q f c')) s' → LamX.ExtN H H1 → LamX.Tabs T H1 → H1 f = none → H1 c' = some (LamX.CodeO c' q) → Q (.ref f) s') : wpAny (model X.prog X.w) X.A (eval (.Lambda params body scope pos) X.env) Q E s := by
  subst hq
  obtain ⟨ps, hP, tr, am⟩ := hT _ hm
  have here : s.heap.get? pT = some { cls := .none, data := .fields ps } := I.hok pT _ hP
  have bi := TB.bm.keeps I.bk
  have co := TB.code.keeps I.bk
  have gl := I.mod.glob.keeps I.bk
  have cl0 : closureFor scope X.env = pure [] := by
    have z := closure_ok (env := X.env) (scope := scope) fun y hy e => absurd e (hno y hy)
    rwa [clo_nil _ _ hno] at z
  apply PySem.W.kla_eval hdef
  cases hc2 : codeAmong pos ps.toList with
  | none =>
    refine PySem.W.kla_makeFunction (mg := X.mg) (P := pT) (ps := ps) cl0 I.ok.glob gl hcd co here tr hc2 TB.gP bi fun d ctv h2 tk hx ge lt rc tb => ?_
    obtain ⟨d', oc, vs, t, ed, ho, hd, hv⟩ := rc
    cases ed
    have far : s.heap.objs.size ≤ h2.objs.size := by omega
    have nd : H d = none := I.hok.fresh ge
    have I1 := LamX.inv_table (t' := tk) (more := #[rawInt pos.line, rawInt pos.col, .ref d]) (h' := h2.push (PySem.W.kla_obj "<lambda>" (X.env.qual ++ "<lambda>") params body scope [] ((X.mg "__name__").getD .none) d ctv)) I hP (fun b o z e => Heap.get?_push_of_some _ (hx b o z e)) (Heap.get?_push_of_some _ tb) ge ⟨oc, vs, t, Heap.get?_push_of_some _ ho, hd, hv⟩
    have nf : upd (upd H pT (.tbl (ps ++ #[rawInt pos.line, rawInt pos.col, .ref d]))) d (LamX.CodeO d (X.env.qual ++ "<lambda>")) h2.objs.size = none := by
      have n2 : h2.objs.size ≠ pT := fun z => absurd (Heap.lt_size here) (Nat.not_lt.mpr (z ▸ far))
      rw [upd_ne (Nat.ne_of_gt lt), upd_ne n2]
      exact I.hok.fresh far
    have hE : LamX.ExtN H (upd (upd H pT (.tbl (ps ++ #[rawInt pos.line, rawInt pos.col, .ref d]))) d (LamX.CodeO d (X.env.qual ++ "<lambda>"))) := fun b o e n => by
      have z1 : b ≠ pT := fun z => n ps (Option.some.inj (e.symm.trans (z ▸ hP)))
      rw [upd_ne (ne_of_none e nd), upd_ne z1, e]
    have lst : (ps ++ #[rawInt pos.line, rawInt pos.col, .ref d]).toList = ps.toList ++ [rawInt pos.line, rawInt pos.col, .ref d] := by simp
    have hT1 : LamX.Tabs T (upd (upd H pT (.tbl (ps ++ #[rawInt pos.line, rawInt pos.col, .ref d]))) d (LamX.CodeO d (X.env.qual ++ "<lambda>"))) := by
      intro p hp
      by_cases z : p.1 = pT
      · have e2 := hu p hp z
        rw [e2, z]
        refine ⟨_, by rw [upd_ne (ne_of_none hP nd), upd_same], by rw [lst]; exact PySem.TriplesOk_snoc _ _ _ _ tr, ?_⟩
        intro pp cv hcv
        rw [lst] at hcv
        rcases LamX.among_app _ tr hcv with y | y
        · obtain ⟨c0, y1, y2⟩ := am pp cv y
          exact ⟨c0, y1, hE _ _ y2 LamX.codeO_ne⟩
        · exact ⟨d, y, upd_same⟩
      · obtain ⟨qs, b1, b2, b3⟩ := hT p hp
        refine ⟨qs, by rw [upd_ne (ne_of_none b1 nd), upd_ne z, b1], b2, fun pp cv hcv => ?_⟩
        obtain ⟨c0, y1, y2⟩ := b3 pp cv hcv
        exact ⟨c0, y1, hE _ _ y2 LamX.codeO_ne⟩
    exact k h2.objs.size d _ _ (know_new I I1 far (Heap.get?_push_size _ rfl) nf ⟨_, _, Heap.get?_push_size _ rfl⟩ fun a b ⟨u, v, e⟩ st => ⟨u, v, st _ e⟩) hE hT1 nf upd_same
  | some cv =>
    obtain ⟨d, rfl, hd⟩ := am pos cv hc2
    refine PySem.W.kla_makeFunctionHit (mg := X.mg) (P := pT) (ps := ps) cl0 I.ok.glob gl hcd co here tr hc2 bi fun ctv h2 tk hx far => ?_
    have I1 : Inv X pins σ H { s with heap := h2.push (PySem.W.kla_obj "<lambda>" (X.env.qual ++ "<lambda>") params body scope [] ((X.mg "__name__").getD .none) d ctv), toks := tk } := I.kept fun b o e => Heap.get?_push_of_some _ (hx b o e)
    have nf : H h2.objs.size = none := I.hok.fresh far
    exact k h2.objs.size d H _ (know_new I I1 far (Heap.get?_push_size _ rfl) nf ⟨_, _, Heap.get?_push_size _ rfl⟩ fun a b ⟨u, v, e⟩ st => ⟨u, v, st _ e⟩) (LamX.ExtN.refl H) hT nf hd
def tMk (T : List (Addr × Str)) (q : Str) (P : Addr → Addr → HO) : TE := fun σ H Q => LamX.Tabs T H ∧ ∀ (f c' : Addr) (H1 : Hp), LamX.ExtN H H1 → LamX.Tabs T H1 → H1 f = none → H1 c' = some (LamX.CodeO c' q) → Q (.ref f) (upd H1 f (P f c'))
/-- lambda: body, kept -/
theorem pe_mk {T : List (Addr × Str)} {f : Str} {params : Arguments} {body : Expr} {scope : Scope} {lpos : Pos} (LB : LamB X.K X.base X.mg T f) (hq : X.env.qual ++ "<lambda>" = lamQ f) (hcd : X.env.code = .ref (He.cT X.K (f, none)).1) (hdef : defaultsOf params X.env = ([], [])) (hno : ∀ y ∈ scope.names, y.2 ≠ .free) :
    PE X (.Lambda params body scope lpos) (tMk T (lamQ f) (LamO params body scope (lamQ f))) := by
  constructor
  intro pins s σ H Q I h
  exact lam_mk I LB.tb hcd hq LB.mm LB.hu h.1 hdef hno fun f c' H1 s' I1 e t n hc => ⟨.ref f, _, I1, rfl, h.2 f c' H1 e t n hc⟩
/-- a(), in the def that got the kept lambda -/
theorem pe_actV {CXg : CXT} {Eg : XK} {Ng : List Str} {qg q : Str} {sg : Scope} {g f c' : Addr} {cdg : Value} {params : Arguments} {body : Expr} {scope : Scope} {k i : Nat} {a : Str} {pn : List (Addr × Obj)} {xe : Value → Shared → Prop} {W : WX} {E : XK} {tb : TE} {p1 p2 : Pos}
    (I : Inv X pins σ H s) (L : LamX.LamS X.env.scope scope) (hno : ∀ y ∈ scope.names, y.2 ≠ .free) (hq : X.env.qual ++ "<lambda>" = q)
    (hbind : ∀ pm ctv : Value, bindArgs (PySem.W.kla_fn "<lambda>" q params body scope [] pm (.ref c') ctv) ⟨[], []⟩ = pure [])
    (tk : Takes (Cx.tr (cxOf CXg X.prog X.w X.K X.mg X.base Ng qg sg g cdg X.A X.stack s H Eg) pn xe) W) (hW : ∀ cls d σ' H', E cls d H' → W cls d σ' H') (hr : Room (k + 1) (X.A.deeper (envOfC qg sg s.heap.objs.size g cdg)))
    (hbody : ∀ (A : Around) (outer : List Env) (s : Shared) (H : Hp), Room k (A.deeper (LamX.lamEnv X scope s.heap.objs.size f c')) → PE (LamX.lamCx X A outer s H E scope f c') body tb)
    (hN : Ng[i]? = some a) (hv : Vis sg a) (hd : (a == ("__debug__" : Str)) = false) (hcd : (a == ("__classdict__" : Str)) = false) :
    PE (Cx.tr (cxOf CXg X.prog X.w X.K X.mg X.base Ng qg sg g cdg X.A X.stack s H Eg) pn xe) (.Call (.Name a p1) [] [] p2)
      (fun σZ HZ Q => σZ[i]? = some (some (.ref f)) ∧ HZ c' = some (LamX.CodeO c' q) ∧ HZ f = some (LamO params body scope q f c') ∧ tb σ HZ Q) := by
  subst hq
  have cl0 : cloFrom X.env.cells scope.names [] = [] := clo_nil _ _ hno
  refine ⟨fun pz sz σZ HZ Q IZ hz => ?_⟩
  obtain ⟨z1, z2, z3, z4⟩ := hz
  refine wpAny_Call_Name_kw (thn ((pe_var (pos := p1) (i := i) hN hv hd hcd).run pz sz σZ HZ (fun v K1 => v = .ref f ∧ K1 = HZ) IZ ⟨.ref f, z1, rfl, rfl⟩) fun u s1 got => ?_)
  obtain ⟨v, K1, J, ru, ev, rfl⟩ := got
  subst ev
  obtain rfl : u = .ref f := ru
  obtain ⟨pm, ctv, of⟩ : ∃ pm ctv, s1.heap.get? f = some (PySem.W.kla_obj "<lambda>" (X.env.qual ++ "<lambda>") params body scope [] pm c' ctv) := (J.hok f _ z3).1
  obtain ⟨⟨oc, vs, t, o1, o2, o3⟩, _, _⟩ := J.hok c' _ z2
  refine PySem.W.callWith_F0 ⟨_, _, _, _, of⟩ ?_
  have run : codeAny (model X.prog X.w) (X.A.deeper (envOfC qg sg s.heap.objs.size g cdg)) (.call (.ref f) ⟨[], []⟩) (CR (L2.CX X.prog X.w) (envOfC qg sg s.heap.objs.size g cdg :: X.stack) X.prog X.w K1 s1 Q E) s1 := by
    apply PySem.W.kla_callFunE hr.depth of rfl L.co L.gen rfl ⟨c', oc, vs, t, rfl, o1, o2, o3⟩
    rw [hbind]
    refine wpAny_pure (wpAny_newFunctionEnv (fun y hy => (L.own y hy).2) (fun y hy => (by simp at hy)) (fun h₂ hn2 hb2 => ⟨J.nolimit.fresh _ hb2, ?_⟩) L.kind)
    have kept : ∀ b o, s1.heap.get? b = some o → h₂.get? b = some o := fun b o e => hb2.extBut b o (Nat.ne_of_lt (Heap.lt_size e)) (Heap.get?_push_of_some _ e)
    have S : Inv (LamX.lamCx X (X.A.deeper (envOfC qg sg s.heap.objs.size g cdg)) (envOfC qg sg s.heap.objs.size g cdg :: X.stack) s1 K1 E scope f c') [] σ K1 { s1 with heap := h₂, toks := s1.toks + ([] : List (Str × Value)).length } := LamX.lam_start2 I L J.env0 hr.hd J.base hn2 kept
    have B := (hbody _ _ s1 K1 (hr.deeper _)).run [] _ _ K1 Q S z4
    rw [← cl0]
    refine PySem.W.kla_codeExpr (wpAny_mono B (fun v s' got => ?_) fun e s' got => got)
    obtain ⟨w', H', S', rv, q⟩ := got
    exact ⟨w', H', S'.os, S'.bare, S'.base, S'.hok, rv, q⟩
  have through : Passes (L2.CX X.prog X.w) (Cx.tr (cxOf CXg X.prog X.w X.K X.mg X.base Ng qg sg g cdg X.A X.stack s H Eg) pn xe) E := passes_call tk hW
  refine wpAny_call (codeAny_mono run fun r s' got => ?_)
  cases r with
  | error e => exact through pz σZ K1 s1 e s' J got
  | ok fl => cases fl with
    | ret u => exact J.after got
    | next => exact got.elim
    | brk => exact got.elim
    | cont => exact got.elim
/-- a kept lambda, and its body's reading -/
structure LamD where
  params : Arguments
  body : Expr
  scope : Scope
  t : XK → TE
def LamD.P (l : LamD) (q : Str) : Addr → Addr → HO := LamO l.params l.body l.scope q
def tToldV (K : Frg) (q : Str) (i : Nat) (CS : Addr) (ret : Str) (LT : List LamD) : TE := fun σ H Q => ∃ (f c' : Addr) (l : LamD), l ∈ LT ∧ σ[i]? = some (some (.ref f)) ∧ H f = some (l.P q f c') ∧ H c' = some (LamX.CodeO c' q) ∧ LamX.TTold K CS ret (fun E H' Q' => H' f = some (l.P q f c') ∧ l.t E σ H' Q') H Q
structure LamOk (X : Cx) (k : Nat) (l : LamD) : Prop where
  own : LamX.LamS X.env.scope l.scope
  no : ∀ y ∈ l.scope.names, y.2 ≠ .free
  bind : ∀ (q : Str) (c' : Addr) (pm ctv : Value), bindArgs (PySem.W.kla_fn "<lambda>" q l.params l.body l.scope [] pm (.ref c') ctv) ⟨[], []⟩ = pure []
  body : ∀ (A : Around) (outer : List Env) (s : Shared) (H : Hp) (E : XK) (f c' : Addr), Room k (A.deeper (LamX.lamEnv X l.scope s.heap.objs.size f c')) → PE (LamX.lamCx X A outer s H E l.scope f c') l.body (l.t E)
/-- told(f), f a kept lambda -/
theorem pe_toldV {x a e ret : Str} {stT : Stmt} {CS : Addr} {q : Str} {k j i : Nat} {y : Str} {LT : List LamD} {p1 p2 p3 p4 p5 p6 p7 p8 p p9 pos : Pos}
    (F : ∃ fd, FunD X.K x x (defArgs stT) (defBody stT) (defScope stT) [] [] (He.ga X.K x) fd) (hm : X.mg x = some (.ref (He.ga X.K x)))
    (hbod : defBody stT = [.Try [.Return (some (.Call (.Name a p1) [] [] p2)) p3] [.ExceptHandler (some (.Name e p4)) none [.Return (some (.Constant (.str ret) j p5)) p6] p7] [] [] p8])
    (Sg : FnScope [a] [a] (defScope stT)) (hva : Vis (defScope stT) a) (hge : (defScope stT).names.lookup e = some .globalImplicit) (hde : (e == ("__debug__" : Str)) = false) (hme : X.mg e = some (.ref CS))
    (hbT : ∀ (kV doc pm : Value) (an : Option Addr) (cdv ct : Value) (us : List Value), us.length = 1 → bindArgs (PySem.W.fnOf x x (defArgs stT) (defBody stT) (defScope stT) .none kV doc pm an cdv ct) ⟨us, []⟩ = pure ([a].zip us))
    (hq : X.env.qual ++ "<lambda>" = q) (hr : Room (k + 2) X.A) (ok : ∀ l ∈ LT, LamOk X k l) (hv : PE X (.Name y p9) (tVar i)) (hg : Gl X x := by rfl) (hdb : (x == ("__debug__" : Str)) = false := by decide) (hd : (a == ("__debug__" : Str)) = false := by decide) (hcd : (a == ("__classdict__" : Str)) = false := by decide) :
    PE X (.Call (.Name x p) [.Name y p9] [] pos) (tToldV X.K q i CS ret LT) := by
  obtain ⟨fd, F⟩ := F
  have kb := F.bindsN (ps := [a]) hbT
  have kp := F.kp
  obtain ⟨oc, od, dV, kV, doc, pm, an, cdv, ct, osl, e1, lk, hc⟩ := fnd_of F
  subst e1
  constructor
  intro pins s σ H Q I h
  obtain ⟨f, c', l, hl, h1, h2, h3, h4⟩ := h
  have o := ok l hl
  apply wpAny_Call_Name_kw (ld_glob I hg hm ?_ hdb)
  have ha : PA X [.Name y p9] (tCons (tVar i) tNil) := pa_cons hv pa_nil
  refine PySem.W.callWith_K (h₀ := X.base) I.ok.mod.kin kp (thn (ha.run pos pins s σ H (fun vs K1 => vs = [.ref f] ∧ K1 = H) I ⟨.ref f, h1, rfl, rfl⟩) fun us s1 got => ?_) rfl rfl
  obtain ⟨vs, K1, J, rv, ev, rfl⟩ := got
  subst ev
  refine ⟨J.kIn, ?_⟩
  obtain rfl : us = [.ref f] := by
    cases rv with
    | cons r1 r2 =>
      cases r2
      obtain rfl := r1
      rfl
  have G : LamX.GivesTo X [a] x (defScope stT) (He.ga X.K x) cdv (defBody stT) a q (LamX.TTold X.K CS ret) := by
    rw [hbod]
    exact LamX.told_gives hge hme hde fun _ => rfl
  have run : codeAny (model X.prog X.w) X.A (.call (.ref (He.ga X.K x)) ⟨[.ref f], []⟩) (CR C8.CX0 X.stack X.prog X.w K1 s1 Q C8.E0) s1 := by
    refine LamX.run_ofS (N := [a]) (ps := [a]) (us := [.ref f]) (vs := [.ref f]) lk hc Sg hr J.env0 (kb s1 [.ref f] J.kIn rfl) (.cons rfl .nil) rfl fun hr2 => ?_
    obtain ⟨t', ht', hq'⟩ := G f c' s1 K1 Q (fun E H' Q' => H' f = some (l.P q f c') ∧ l.t E σ H' Q') (fun W pn xe E q1 q2 tk hW => pe_actV (i := 0) J o.own o.no hq (o.bind _ _) tk hW hr2 (fun A outer s H r3 => o.body A outer s H E f c' r3) rfl hva hd hcd) h3 h4
    exact ⟨t', ht'.nox, hq'⟩
  refine wpAny_call (codeAny_mono run fun r s2 got => ?_)
  cases r with
  | error e => exact (show False from got).elim
  | ok fl => cases fl with
    | ret u => exact J.after got
    | next => exact got.elim
    | brk => exact got.elim
    | cont => exact got.elim
end
section
variable {C : Ct} {A A1 : AS} {d : Dt} {q : Str} {i : Nat} {CS : Addr} {ret : Str} {LT : List LamD}
theorem e_mk {P : Addr → Addr → HO} (hP : ∀ f c', NoT (P f c')) (hO : C.O = []) (hst : ∀ s ∈ A.st, ∃ xs, s = .lst xs) : EvS C (tMk C.T q P) A (.lam P q) A := fun os σ H k Q z =>
  ⟨k.tb, fun f c' H1 eN T1 hn hc => by
    have k1 := k.mono (H' := H1) eN T1
    have k2 := k1.monoN (o := P f c') hn
    refine z os _ _ k2 ((k.gr eN).trans (k1.gr (Ex.new hn))) ?_
    rw [Is]
    refine ⟨f, c', rfl, k1.fresh hn, hP f c', ?_⟩
    have nf : c' ≠ f := ne_of_none hc hn
    have nh : c' ∉ hid C.O os := fun hh => by
      rcases mem_hid.mp hh with y | y
      · rw [hO] at y; cases y
      · obtain ⟨xs, e⟩ := st_lst k1 hst y
        rw [hc] at e
        unfold LamX.CodeO at e
        cases e
    show hd _ _ _ = _
    rw [hd_of nh, upd_ne nf, hc]⟩
theorem lam_slot {os : List (Option Addr)} {σ : Sg} {H : Hp} {P : Addr → Addr → HO} (k : Ok C os A σ H) (h : A.sl[i]? = some (.d (.lam P q))) : ∃ f c', σ[i]? = some (some (.ref f)) ∧ H f = some (P f c') ∧ H c' = some (LamX.CodeO c' q) := by
  obtain ⟨o, e1, v, e2, e3⟩ := k.slot h
  subst e2
  rw [Is] at e3
  obtain ⟨f, c', rfl, h2, h3, h4⟩ := e3
  exact ⟨f, c', e1, hd_ex f _ h2 h3, hd_ex c' _ h4 fun ps z => LamX.codeO_ne ps z⟩
theorem e_toldVOk {l : LamD} (hl : l ∈ LT) (h : A.sl[i]? = some (.d (.lam (l.P q) q))) (ht : ∀ E, EvS C (l.t E) A d A1) : EvS C (tToldV C.K q i CS ret LT) A d A1 := fun os σ H k Q z => by
  obtain ⟨f, c', h1, h2, h3⟩ := lam_slot k h
  exact ⟨f, c', l, hl, h1, h2, h3, h2, ht _ os σ H k Q z⟩
theorem e_toldVErr {l : LamD} (hm : PySem.W.exmOne C.K (.ref CS) (.ref CS) = some true) (hl : l ∈ LT) (h : A.sl[i]? = some (.d (.lam (l.P q) q))) (ht : ∀ E, EvX C E (l.t E) A CS A1) : EvS C (tToldV C.K q i CS ret LT) A (Dt.v (.str ret)) A1 := fun os σ H k Q z => by
  obtain ⟨f, c', h1, h2, h3⟩ := lam_slot k h
  exact ⟨f, c', l, hl, h1, h2, h3, h2, ht _ os σ H k (fun os' H' k' g => ⟨true, hm, fun _ => z os' _ H' k' g is_v, fun y => by cases y⟩) Q⟩
end
/-! ### the law's own def, nothing hidden -/
def spD0 (K : Frg) (T : List (Addr × Str)) (g : List Dt → Rs → Prop) : Sp := fun vs H Q E => ∃ ds r, LamX.Tabs T H ∧ IsA K H ds vs ∧ g ds r ∧
  match r with
  | .ok d => ∀ v H', Ex H H' → LamX.Tabs T H' → Is K H' d v → Q v H'
  | .err c => ∀ H', Ex H H' → LamX.Tabs T H' → E (.ref c) none H'
theorem fin0 {t : TS} {N : List Str} {K : Frg} {T : List (Addr × Str)} {E : XK} {g : List Dt → Rs → Prop} {vs : List V} {H : Hp} {Q : VK} (h : spD0 K T g vs H Q E) (run : ∀ ds r, g ds r → RunS ⟨K, T, H, []⟩ E t (start N ds) (poR r)) : t { nx := fun _ H' => Q .non H', rt := Q } (L2.start N vs) H := by
  obtain ⟨ds, r, ht, hi, hg, hr⟩ := h
  refine run ds r hg [] _ H _ (start_ok (fun a z => by cases z) ht (by rw [hd_nil]; exact hi)) ⟨fun os A σ H' z k _ => ?_, fun os A σ d v H' z k _ i => ?_, fun _ _ _ _ z => z.elim, fun _ _ _ _ z => z.elim, fun c H' z e t => ?_⟩
  · obtain rfl : r = .ok dn := z
    exact hr _ H' k.ex k.tb is_v
  · obtain rfl : r = .ok d := z
    have i : Is K (hd [] H') d v := Is.mono hid_ex _ _ i
    rw [hd_nil] at i
    exact hr v H' k.ex k.tb i
  · obtain rfl : r = .err c := z
    exact hr H' e t
theorem mkFL0 {P : Program} {w : World} {K : Frg} {T : List (Addr × Str)} {mg : Str → Option Value} {base : Heap} {f : Str} {st : Stmt} {N ps : List Str} {k : Nat} {g : List Dt → Rs → Prop} {fd : FuncData}
    (F : FunD K f f (defArgs st) (defBody st) (defScope st) [] [] (He.ga K f) fd) (S : FnScope N ps (defScope st))
    (len : ∀ ds r, g ds r → ds.length = ps.length)
    (hbody : ∀ (A : Around) (outer : List Env) (s : Shared) (H : Hp) (E : XK), Room k (A.deeper (envOfC f (defScope st) s.heap.objs.size (He.ga K f) (.ref (He.cT K (f, none)).1))) →
      ∃ t, PSs (cxOf (L2.CX P w) P w K mg base N f (defScope st) (He.ga K f) (.ref (He.cT K (f, none)).1) A outer s H E) (defBody st) t ∧ ∀ ds r, g ds r → RunS ⟨K, T, H, []⟩ E t (start N ds) (poR r)) : FnOk P w K mg base (L2.CX P w) (k + 1) (He.ga K f) fd ps (spD0 K T g) := by
  obtain ⟨oc, od, dV, kV, doc, pm, an, cdv, ct, osl, e, lk, hc⟩ := fnd_of F
  obtain ⟨c, rfl⟩ := He.codeIn_ref hc
  have ec : (He.cT K (f, none)).1 = c := He.codeOf_eq (p := (f, none)) lk rfl
  subst ec
  subst e
  refine fn_of lk hc S (fun vs H Q E h => ?_) (fun A outer s H vs Q E hr h => ?_)
  · obtain ⟨ds, r, _, hi, hg, _⟩ := h
    rw [isA_len hi]
    exact len ds r hg
  · obtain ⟨t, ht, run⟩ := hbody A outer s H E hr
    exact ⟨t, ht, fin0 h run⟩
end Py
end

section
set_option Elab.async false
set_option linter.all false
set_option maxRecDepth 100000
set_option maxHeartbeats 4000000
set_option autoImplicit false
namespace Py
open PySem PySem.Spec PyProof.Rows L2
/-! ### new lists, known as such -/
section
variable {C : Ct} {A A1 A2 : AS} {te tl : TE} {tt : TT} {g : TG} {ws : List Nat} {xs ys : List Dt}
theorem is_lstN {K : Frg} {H : Hp} {v : V} (h : Is K H (.lstN xs) v) : Is K H (.lst xs) v := by
  rw [Is] at h
  obtain ⟨a, vs, h1, h2, h3⟩ := h
  rw [Is]
  exact ⟨a, vs, h1, .inl h2, h3⟩
theorem e_ofN (h : EvS C te A (.lstN xs) A1) : EvS C te A (.lst xs) A1 := fun os σ H k Q q => h os σ H k Q fun os1 v H1 k1 g1 i1 => q os1 v H1 k1 g1 (is_lstN i1)
theorem e_lstN {tl : TA} {ds : List Dt} (h : EvA C tl A ds A1) (hl : ds.length ≤ 100000) : EvS C (tLst tl) A (.lstN ds) A1 := fun os σ H k Q q =>
  h os σ H k _ fun os1 vs H1 k1 e1 i1 => ⟨by rw [isA_len i1]; exact Nat.le_trans hl (by decide), fun p hp => q os1 _ _ (k1.monoN hp) (e1.trans (k1.gr (Ex.new hp))) (by
    rw [Is]
    exact ⟨p, vs, rfl, .inl (k1.fresh hp), IsA.mono (hd_mono (Ex.new hp)) _ _ i1⟩)⟩
theorem lc_endN {p : Addr} {σ : Sg} {os1 os2 : List (Option Addr)} {H1 H2 : Hp} {ys : List Dt} {acc : List V} {Q : VK} (k1 : Ok C os1 A σ H1) (hp : H1 p = none) (k2 : Ok (C.hide p) os2 A2 σ H2) (g : GrP p C.O os1 (upd H1 p (.lst [])) os2 H2) (hl : H2 p = some (.lst acc)) (ha : IsA C.K (Rh (p :: C.O) os2 H2) ys acc)
    (q : ∀ os' v H', Ok C os' A2 σ H' → Gr C.O os1 H1 os' H' → Is C.K (Rh C.O os' H') (.lstN ys) v → Q v H') : Q (.ref p) H2 := by
  refine q os2 _ H2 k2.unhide ⟨?_, fun a h => ?_, g.p⟩ ?_
  · have e := g.e
    rw [Rh_hide hp] at e
    exact e.trans Rh_unhide
  · rw [g.o a h, upd_ne fun z => fresh_O k1 hp (by rw [← z]; exact h)]
  · rw [Is]
    refine ⟨p, acc, rfl, .inl ?_, IsA.mono Rh_unhide _ _ ha⟩
    show hd _ H2 p = _
    rw [hd_of fun z => ?_]
    · exact hl
    · rcases mem_hid.mp z with z | z
      · exact fresh_O k1 hp z
      · exact k2.dj p (List.mem_cons_self ..) z
theorem e_lcRN {lo : Int} {n : Nat} {wi : TI} (hw : ∀ os σ H, Ok C os A σ H → ∀ R : It → Hp → Prop, (∀ os' H', Ok C os' A1 σ H' → Gr C.O os H os' H' → R (Itr lo n) H') → wi σ H R) (B : Nat → AS) (Y : Nat → List Dt) (h0 : A1 = B 0) (hY : Y 0 = [])
    (hs : ∀ i, i < n → ∀ O, LcT ⟨C.K, C.T, C.H0, O⟩ g tt te ws (di (lo + i)) (B i) (Y i) (B (i + 1)) (Y (i + 1))) (hn : n < 100000) : EvS C (tLc wi g tt te ws) A (.lstN (Y n)) (B n) := fun os σ H k Q q =>
  hw os σ H k _ fun os1 H1 k1 g1 p hp => by
    have hl : ∀ i, i ≤ n → (Y i).length ≤ i := by
      intro i
      induction i with
      | zero => intro _; rw [hY]; exact Nat.le_refl _
      | succ i ih =>
        intro hi
        obtain ⟨_, _, _, _, _, h⟩ := hs i hi []
        rcases h with ⟨_, _, _, _, e, _⟩ | ⟨_, e, _⟩ <;> rw [e] <;> have := ih (by omega) <;> (try simp only [List.length_append, List.length_singleton]) <;> omega
    subst h0
    refine lc_range (lo := lo) (n := n) (fun i H' => ∃ os' acc, Ok (C.hide p) os' (B i) σ H' ∧ GrP p C.O os1 (upd H1 p (.lst [])) os' H' ∧ H' p = some (.lst acc) ∧ IsA C.K (Rh (p :: C.O) os' H') (Y i) acc) ⟨os1, [], k1.hide hp nt_l, ⟨Ex.refl _, fun _ _ => rfl, fun _ _ h => h⟩, upd_same, by rw [hY]; exact isA_nil⟩ ?_ ?_
    · rintro i H' hi ⟨os', acc, k', g', hp', ha⟩
      exact lc_turn (hs i hi _) k' hp' ha is_v (fresh_0 k1 hp) (fresh_O k1 hp) (by have := hl i (by omega); omega) _ fun os2 acc2 H2 k2 g2 hp2 ha2 => ⟨os2, acc2, k2, g'.trans g2, hp2, ha2⟩
    · rintro H' ⟨os', acc, k', g', hp', ha⟩
      exact lc_endN k1 hp k' g' hp' ha fun os2 v H2 k2 g2 i2 => q os2 v H2 k2 (g1.trans g2) i2
end
/-- xs + ys, new lists -/
def rCatR : R2 := fun x y H Q => ∃ l b xs zs, x = .ref l ∧ y = .ref b ∧ Rd H l (.lst xs) ∧ Rd H b (.lst zs) ∧ xs.length + zs.length ≤ sizeLine ∧ ∀ p, H p = none → Q (.ref p) (upd H p (.lst (xs ++ zs)))
theorem op_catR {X : Cx} : OpR X (binaryOp .Add) rCatR := by
  rintro pins s σ H x y v u Q I rx ry ⟨l, b, xs, zs, rfl, rfl, hx, hy, hz, q⟩
  cases rx
  cases ry
  obtain ⟨z1, its, n, r, e⟩ := hx.ok I.hok
  obtain ⟨z2, its2, n2, r2, e2⟩ := hy.ok I.hok
  have l1 := r.length
  have l2 := r2.length
  apply PySem.P.add_list e e2 _ (by rw [List.size_toArray, List.size_toArray]; omega)
  rw [show its.toArray ++ its2.toArray = (its ++ its2).toArray by simp]
  have sz : (xs ++ zs).length ≤ sizeLine := by rw [List.length_append]; omega
  exact ⟨.ref _, _, I.lnew (t' := s.toks) (r.append r2) sz, rfl, q _ I.fresh⟩
theorem o_catR {C : Ct} {xs ys : List Dt} (hl : xs.length + ys.length ≤ 100000) : OpS C rCatR (.lstN xs) (.lstN ys) (.lstN (xs ++ ys)) := fun os A σ H vx vy k i1 i2 Q q => by
  rw [Is] at i1 i2
  obtain ⟨a, vs, rfl, h2, h3⟩ := i1
  obtain ⟨b, us, rfl, h4, h5⟩ := i2
  refine ⟨a, b, vs, us, rfl, rfl, hd_ex.rd nt_l h2, hd_ex.rd nt_l h4, by rw [isA_len h3, isA_len h5]; exact Nat.le_trans hl (by decide), fun p hp => q _ _ (Ex.new hp) (tabs_new k.tb hp) ?_⟩
  rw [Is]
  exact ⟨p, vs ++ us, rfl, .inl (k.fresh hp), isA_app (IsA.mono (hd_mono (Ex.new hp)) _ _ h3) (IsA.mono (hd_mono (Ex.new hp)) _ _ h5)⟩
/-! ### the whole root -/
def rIsqrt : List V → Hp → VK → Prop := fun vs H Q => ∃ n : Nat, vs = [.int (n : Int)] ∧ n < 2 ^ 63 ∧ ∀ w : Nat, w * w ≤ n → n < (w + 1) * (w + 1) → Q (.int (w : Int)) H
theorem cr_isqrt {X : Cx} : CallR X (.builtin "math.isqrt") rIsqrt := by
  rintro pins s σ H vs us Q I r ⟨n, rfl, hn, q⟩
  obtain ⟨u, rfl, hu⟩ := vals1 r
  obtain ⟨t, rfl⟩ := hu
  have sp := Float64.isqrt_spec n
  exact PySem.W.mg_isqrt (by omega) (by omega) ⟨.int _, H, I.tok _, ⟨_, rfl⟩, q _ sp.1 sp.2⟩
theorem e_isqrt {C : Ct} {A A1 : AS} {ta : TE} {n w : Nat} (h : EvS C ta A (di (n : Int)) A1) (hn : n < 2 ^ 63) (h1 : w * w ≤ n) (h2 : n < (w + 1) * (w + 1)) : EvS C (tCB rIsqrt (tCons ta tNil)) A (di (w : Int)) A1 := fun os σ H k Q q =>
  h os σ H k _ fun os1 v H1 k1 e1 i1 => by
    rw [Is.v_iff.mp i1]
    refine ⟨n, rfl, hn, fun w' a b => ?_⟩
    have : w' = w := by
      rcases Nat.lt_trichotomy w' w with z | z | z
      · have := Nat.mul_self_le_mul_self (show w' + 1 ≤ w by omega)
        omega
      · exact z
      · have := Nat.mul_self_le_mul_self (show w + 1 ≤ w' by omega)
        omega
    subst this
    exact q os1 _ H1 k1 e1 is_v
/-! ### in -/
theorem inV_ints (n : Int) : ∀ ns : List Int, inV (.int n) (ns.map V.int) = decide (n ∈ ns)
  | [] => rfl
  | m :: r => by
    have e : inV (.int n) ((m :: r).map V.int) = (eqV (.int m) (.int n) || inV (.int n) (r.map V.int)) := rfl
    rw [e, inV_ints n r]
    have e2 : eqV (.int m) (.int n) = decide (n = m) := by
      show (m == n) = _
      rw [Bool.beq_eq_decide_eq]
      exact decide_eq_decide.mpr ⟨Eq.symm, Eq.symm⟩
    rw [e2]
    simp
theorem ints_is {K : Frg} {H : Hp} : ∀ {ns : List Int} {vs : List V}, IsA K H (ns.map di) vs → vs = ns.map V.int
  | [], vs, h => by rw [List.map_nil, IsA] at h; exact h
  | n :: r, vs, h => by
    rw [List.map_cons, IsA] at h
    obtain ⟨v, w, rfl, h1, h2⟩ := h
    rw [Is.v_iff.mp h1, ints_is h2]
    rfl
theorem o_inL {C : Ct} {n : Int} {ns : List Int} : OpS C (rIn C.K false) (di n) (.lst (ns.map di)) (db (decide (n ∈ ns))) := fun os A σ H vx vy k i1 i2 Q q => by
  rw [Is] at i2
  obtain ⟨a, vs, rfl, h2, h3⟩ := i2
  rw [Is.v_iff.mp i1]
  have e := ints_is h3
  subst e
  refine ⟨a, _, rfl, .inl (hd_ex.l h2), rfl, ?_, ?_⟩
  · rw [List.all_map]; exact List.all_eq_true.mpr fun _ _ => rfl
  · rw [if_neg (by decide), inV_ints]
    exact q _ H (Ex.refl _) k.tb is_v
theorem e_notInO {C : Ct} {A : AS} {te : TE} {i n : Nat} {x : Dt} {xs : List Dt} {p : PyData} {ps : List PyData} {m m' : Nat} (he : EvS C te A x A) (hp : Nice m x p) (h1 : A.sl[i]? = some (.own n)) (h2 : A.st[n]? = some (.lst xs)) (hq : Nice m' (.lst xs) (.list ps)) (hm : m ≤ 64) (hm' : m' ≤ 64) :
    EvS C (tOp (rNotInD C.K) te (tVar i)) A (db (!ps.any fun z => PyData.eqv z p)) A := fun os σ H k Q q =>
  he os σ H k _ fun os1 v H1 k1 e1 i1 => by
    obtain ⟨o, f1, a, f2, f3⟩ := k1.slot h1
    subst f2
    exact ⟨_, f1, p, ps, Dp.mono hd_ex (Is.dp x v p i1 hp.all.1), own_dp k1 f3 h2 hq, hp.shaped hm, hq.shaped hm', q os1 _ H1 k1 e1 is_v⟩
end Py
end

section
set_option Elab.async false
set_option linter.all false
set_option maxRecDepth 100000
set_option maxHeartbeats 4000000
set_option autoImplicit false
namespace Py
open PySem PySem.Spec PyProof.Rows L2
/-! ### f(e, ..), f a variable that holds a def -/
structure FvOk (P : Program) (w : World) (K : Frg) (mg : Str → Option Value) (base : Heap) (k : Nat) (a : Addr) (sp : Sp) : Prop where
  ex : ∃ (fd : FuncData) (ps : List Str), FnOk P w K mg base (L2.CX P w) k a fd ps sp ∧ Binds K fd ps [] ∧ PySem.W.keepIn K (.ref a) = true
theorem Gd.fv {P : Program} {w : World} {K : Frg} {mg : Str → Option Value} {base : Heap} {f : Str} {ps : List Str} {k j : Nat} {sp : Sp} {a : Addr} (G : Gd P w K mg base f ps k sp) (hm : mg f = some (.ref a)) (hk : k ≤ j) : FvOk P w K mg base j a sp := by
  obtain ⟨a', fd, F, hb, hkp, hm'⟩ := G.ex
  rw [hm] at hm'
  cases hm'
  exact ⟨fd, ps, F.mono hk, hb, hkp⟩
def tCallF (i : Nat) (Fs : List (Addr × Sp)) (E : XK) (ta : TA) : TE := fun σ H Q => ∃ a sp, (a, sp) ∈ Fs ∧ σ[i]? = some (some (.ref a)) ∧ ta σ H fun vs H1 => sp vs H1 Q E
theorem pe_callF {X : Cx} {k i : Nat} {Fs : List (Addr × Sp)} {E : XK} {y : Str} {p pos : Pos} {e : Expr} {es : List Expr} {t : TA} (ok : ∀ z ∈ Fs, FvOk X.prog X.w X.K X.mg X.base k z.1 z.2) (hr : Room k X.A) (hx : Passes (L2.CX X.prog X.w) X E) (hv : PE X (.Name y p) (tVar i)) (ha : PA X (e :: es) t)
    (he : starEach (e :: es) X.env = (false, eval e X.env) :: starEach es X.env := by rfl) (hpl : (backTo pos (starEach es X.env)).any (·.1) = false := by rfl) : PE X (.Call (.Name y p) (e :: es) [] pos) (tCallF i Fs E t) := by
  constructor
  intro pins s σ H Q I h
  obtain ⟨a, sp, hz, h1, h2⟩ := h
  obtain ⟨fd, ps, F, hb, hk⟩ := (ok _ hz).ex
  refine wpAny_Call_Name_kw (thn (hv.run pins s σ H (fun v K1 => v = .ref a ∧ K1 = H) I ⟨.ref a, h1, rfl, rfl⟩) fun u s1 got => ?_)
  obtain ⟨v, K1, J, ru, ev, rfl⟩ := got
  subst ev
  obtain rfl : u = .ref a := ru
  refine PySem.W.callWith_K (h₀ := X.base) I.ok.mod.kin hk (thn (ha.run pos pins s1 σ K1 _ J h2) fun us s2 ⟨vs, H2, J2, r, q⟩ => ⟨J2.kIn, ?_⟩) he hpl
  exact run_fn F hr hb .nil hx J2 r (by rw [List.append_nil]; exact q)
section
variable {C : Ct} {A A1 : AS} {d : Dt} {i : Nat} {Fs : List (Addr × Sp)} {ta : TA} {ds : List Dt} {a : Addr} {g : List Dt → Rs → Prop}
theorem e_callF {E' : XK} (hz : (a, spD C.K C.T g) ∈ Fs) (h : A.sl[i]? = some (.d (.v (.ref a)))) (ha : EvA C ta A ds A1) (hg : g ds (.ok d)) : EvS C (tCallF i Fs E' ta) A d A1 := fun os σ H k Q q => by
  obtain ⟨o, e1, v, e2, e3⟩ := k.slot h
  subst e2
  rw [Is.v_iff.mp e3] at e1
  refine ⟨a, _, hz, e1, ha os σ H k _ fun os1 vs H1 k1 e1 i1 => ⟨hid C.O os1, ds, .ok d, fun a h => k1.hidden h, k1.tb, i1, hg, fun v H' e t i => q os1 v H' (k1.mono e t) (e1.trans (k1.gr e)) i⟩⟩
theorem x_callF {E : XK} {c : Addr} (hz : (a, spD C.K C.T g) ∈ Fs) (h : A.sl[i]? = some (.d (.v (.ref a)))) (ha : EvA C ta A ds A1) (hg : g ds (.err c)) : EvX C E (tCallF i Fs E ta) A c A1 := fun os σ H k hE Q => by
  obtain ⟨o, e1, v, e2, e3⟩ := k.slot h
  subst e2
  rw [Is.v_iff.mp e3] at e1
  refine ⟨a, _, hz, e1, ha os σ H k _ fun os1 vs H1 k1 e1 i1 => ⟨hid C.O os1, ds, .err c, fun a h => k1.hidden h, k1.tb, i1, hg, fun H' e t => hE os1 H' (k1.mono e t) (e1.trans (k1.gr e))⟩⟩
end
end Py
end

section
set_option Elab.async false
set_option linter.all false
set_option maxRecDepth 100000
set_option maxHeartbeats 4000000
set_option autoImplicit false
namespace Py
open PySem PySem.Spec PyProof.Rows L2
/-! ### lists, tuples, ranges as iterators over data -/
section
variable {C : Ct} {A A1 A2 : AS} {te : TE} {tl : TA} {xs : List Dt}
theorem getD_of {xs : List Dt} {i : Nat} {d x0 : Dt} (h : xs[i]? = some d) : xs.getD i x0 = d := by rw [List.getD_eq_getElem?_getD, h]; rfl
theorem yl_list {R0 : Hp} {K : Frg} {a : Addr} {vs : List V} (h1 : SqL K R0 a vs) (h2 : IsA K R0 xs vs) (x0 : Dt) : Yl K R0 (Itl K a) xs.length fun i => xs.getD i x0 where
  go i H hi e := ⟨vs, vs[i]'(by rw [isA_len h2]; exact hi), e.l h1, List.getElem?_eq_getElem _⟩
  stop H e := ⟨vs, e.l h1, by rw [isA_len h2]; exact Nat.le_refl _⟩
  yl i H v H' O hi hy e hO := by
    obtain ⟨rfl, hx⟩ := hy
    obtain ⟨d, hd', hi'⟩ := isA_get' h2 (hx vs ((e.trans hd_ex).l h1))
    rw [getD_of hd']
    exact ⟨Ex.refl _, fun _ t => t, Is.mono e _ _ hi'⟩
theorem yl_tup {R0 : Hp} {K : Frg} {a : Addr} {vs : List V} (h1 : SqT K R0 a vs) (h2 : IsA K R0 xs vs) (x0 : Dt) : Yl K R0 (Itt K a) xs.length fun i => xs.getD i x0 where
  go i H hi e := ⟨vs, vs[i]'(by rw [isA_len h2]; exact hi), e.t h1, List.getElem?_eq_getElem _⟩
  stop H e := ⟨vs, e.t h1, by rw [isA_len h2]; exact Nat.le_refl _⟩
  yl i H v H' O hi hy e hO := by
    obtain ⟨rfl, hx⟩ := hy
    obtain ⟨d, hd', hi'⟩ := isA_get' h2 (hx vs ((e.trans hd_ex).t h1))
    rw [getD_of hd']
    exact ⟨Ex.refl _, fun _ t => t, Is.mono e _ _ hi'⟩
theorem yl_rng {R0 : Hp} {K : Frg} {lo : Int} {n : Nat} : Yl K R0 (Itr lo n) n fun i => di (lo + i) where
  go i H hi e := hi
  stop H e := Nat.le_refl _
  yl i H v H' O hi hy e hO := by
    obtain ⟨rfl, rfl⟩ := hy
    exact ⟨Ex.refl _, fun _ t => t, is_v⟩
theorem w_list (h : EvS C te A (.lst xs) A1) (x0 : Dt) : WiS C (iList C.K te) A xs.length (fun i => xs.getD i x0) A1 := fun os σ H k R q =>
  h os σ H k _ fun os1 v H1 k1 e1 i1 => by
    rw [Is] at i1
    obtain ⟨a, vs, rfl, h1, h2⟩ := i1
    exact ⟨a, rfl, ⟨vs, hd_ex.l h1⟩, q os1 H1 _ k1 e1 (yl_list h1 h2 x0)⟩
theorem w_tup (h : EvS C te A (.tup xs) A1) (x0 : Dt) : WiS C (iTup C.K te) A xs.length (fun i => xs.getD i x0) A1 := fun os σ H k R q =>
  h os σ H k _ fun os1 v H1 k1 e1 i1 => by
    rw [Is] at i1
    obtain ⟨a, vs, rfl, h1, h2⟩ := i1
    exact ⟨a, rfl, ⟨vs, hd_ex.t h1⟩, q os1 H1 _ k1 e1 (yl_tup h1 h2 x0)⟩
theorem w_rngY {wi : TI} {lo : Int} {n : Nat} (hw : ∀ os σ H, Ok C os A σ H → ∀ R : It → Hp → Prop, (∀ os' H', Ok C os' A1 σ H' → Gr C.O os H os' H' → R (Itr lo n) H') → wi σ H R) : WiS C wi A n (fun i => di (lo + i)) A1 := fun os σ H k R q =>
  hw os σ H k R fun os1 H1 k1 g1 => q os1 H1 _ k1 g1 yl_rng
end
/-! ### {k: v for ..}: a dict as data -/
abbrev KD := List (Key × Dt)
def putD (kvs : KD) (k : Key) (d : Dt) : KD := if kvs.any (fun kv => decide (kv.1 = k)) then kvs.map (fun kv => if kv.1 = k then (kv.1, d) else kv) else kvs ++ [(k, d)]
def KvA (K : Frg) (R : Hp) (kvs : KD) (acc : List (Key × V)) : Prop := acc.map (·.1) = kvs.map (·.1) ∧ IsA K R (kvs.map (·.2)) (acc.map (·.2))
abbrev dD (kvs : KD) : Dt := .dct (kvs.map (·.1)) (kvs.map (·.2))
theorem zip_un {α β : Type} : ∀ l : List (α × β), (l.map (·.1)).zip (l.map (·.2)) = l
  | [] => rfl
  | (a, b) :: r => by rw [List.map_cons, List.map_cons, List.zip_cons_cons, zip_un r]
section
variable {K : Frg} {R : Hp} {kvs : KD} {acc : List (Key × V)} {k : Key} {d : Dt} {v : V}
theorem KvA.nil : KvA K R [] [] := ⟨rfl, isA_nil⟩
theorem KvA.cons {k' : Key} {d' : Dt} {v' : V} (h : Is K R d' v') (r : KvA K R kvs acc) : KvA K R ((k', d') :: kvs) ((k', v') :: acc) := ⟨by rw [List.map_cons, List.map_cons, r.1], by rw [List.map_cons, List.map_cons]; exact isA_cons h r.2⟩
theorem KvA.inv : ∀ {kvs : KD} {acc : List (Key × V)}, KvA K R kvs acc → (kvs = [] ∧ acc = []) ∨ ∃ k d v r s, kvs = (k, d) :: r ∧ acc = (k, v) :: s ∧ Is K R d v ∧ KvA K R r s
  | [], acc, h => .inl ⟨rfl, by simpa using h.1⟩
  | (k, d) :: r, [], h => by have := h.1; simp at this
  | (k, d) :: r, (k', v) :: s, h => by
    obtain ⟨h1, h2⟩ := h
    rw [List.map_cons, List.map_cons, IsA] at h2
    obtain ⟨u, w, e, h3, h4⟩ := h2
    cases e
    rw [List.map_cons, List.map_cons] at h1
    have h1 := List.cons.inj h1
    obtain rfl : k' = k := h1.1
    exact .inr ⟨k', d, v, r, s, rfl, rfl, h3, h1.2, h4⟩
theorem KvA.any : ∀ {kvs : KD} {acc : List (Key × V)}, KvA K R kvs acc → (acc.any fun kv => decide (kv.1 = k)) = kvs.any fun kv => decide (kv.1 = k)
  | kvs, acc, h => by
    have e : ∀ (l : List Key), (l.any fun x => decide (x = k)) = l.any fun x => decide (x = k) := fun _ => rfl
    rw [show (acc.any fun kv => decide (kv.1 = k)) = (acc.map (·.1)).any (fun x => decide (x = k)) by rw [List.any_map]; rfl, h.1, List.any_map]
    rfl
theorem KvA.repl (hv : Is K R d v) : ∀ {kvs : KD} {acc : List (Key × V)}, KvA K R kvs acc → KvA K R (kvs.map fun kv => if kv.1 = k then (kv.1, d) else kv) (acc.map fun kv => if kv.1 = k then (kv.1, v) else kv)
  | [], acc, h => by
    rcases h.inv with ⟨_, rfl⟩ | ⟨_, _, _, _, _, e, _⟩
    · exact .nil
    · cases e
  | (k', d') :: r, acc, h => by
    rcases h.inv with ⟨e, _⟩ | ⟨k', d', u, r, s, e, rfl, h1, h2⟩
    · cases e
    · cases e
      rw [List.map_cons, List.map_cons]
      by_cases q : k' = k
      · rw [if_pos q, if_pos q]; exact (h2.repl hv).cons hv
      · rw [if_neg q, if_neg q]; exact (h2.repl hv).cons h1
theorem KvA.app : ∀ {kvs : KD} {acc : List (Key × V)}, KvA K R kvs acc → Is K R d v → KvA K R (kvs ++ [(k, d)]) (acc ++ [(k, v)])
  | kvs, acc, h, hv => ⟨by rw [List.map_append, List.map_append, h.1]; rfl, by rw [List.map_append, List.map_append]; exact isA_app h.2 (isA_cons hv isA_nil)⟩
theorem KvA.put (h : KvA K R kvs acc) (hv : Is K R d v) : KvA K R (putD kvs k d) (putK acc k v) := by
  unfold putD putK
  rw [h.any]
  split
  · exact h.repl hv
  · exact h.app hv
theorem KvA.mono {R' : Hp} (e : Ex R R') (h : KvA K R kvs acc) : KvA K R' kvs acc := ⟨h.1, IsA.mono e _ _ h.2⟩
theorem putD_len (kvs : KD) (k : Key) (d : Dt) : (putD kvs k d).length ≤ kvs.length + 1 := by
  unfold putD
  split
  · rw [List.length_map]; omega
  · simp
end
section
variable {C : Ct} {A A1 A2 A3 : AS} {te tl tk tv : TE} {tt : TT} {g : TG} {ws : List Nat}
def DcT (C : Ct) (g : TG) (tt : TT) (tk tv : TE) (ws : List Nat) (x : Dt) (A : AS) (ys : KD) (A2 : AS) (ys2 : KD) : Prop :=
  ∃ A1 b A', TgS C g x (A.wipe ws) A1 ws ∧ EvT C tt A1 b A' ∧ ((b = true ∧ ∃ k y A3 A4, EvS C tk A' (.v (kV k)) A3 ∧ EvS C tv A3 y A4 ∧ ys2 = putD ys k y ∧ A4.wipe ws = A2) ∨ (b = false ∧ ys2 = ys ∧ A'.wipe ws = A2))
theorem dc_turn {p : Addr} {x : Dt} {v : V} {σ : Sg} {os : List (Option Addr)} {H : Hp} {ys ys2 : KD} {acc : List (Key × V)} (t : DcT (C.hide p) g tt tk tv ws x A ys A2 ys2) (k : Ok (C.hide p) os A σ H) (hp : H p = some (.dK acc)) (ha : KvA C.K (Rh (p :: C.O) os H) ys acc) (hx : Is C.K (Rh (p :: C.O) os H) x v)
    (h0 : ∀ o, C.H0 p = some o → ¬ NoT o) (hO : p ∉ C.O) (hl : ys.length < 100000) (R : Hp → Prop) (hR : ∀ os' acc' H', Ok (C.hide p) os' A2 σ H' → GrP p C.O os H os' H' → H' p = some (.dK acc') → KvA C.K (Rh (p :: C.O) os' H') ys2 acc' → R H') :
    g v (wipe σ ws) H fun σ2 H2 => wipe σ2 ws = wipe σ ws ∧ tt σ2 H2 fun b H3 => if b = true then tk σ2 H3 fun y H4 => tv σ2 H4 fun z H5 => ∃ kvs k, y = kV k ∧ H5 p = some (HO.dK kvs) ∧ kvs.length < sizeLine ∧ R (upd H5 p (HO.dK (putK kvs k z))) else R H3 := by
  obtain ⟨A1, b, A', tg, ht, hb⟩ := t
  refine tg os _ H v _ k.wiped hx fun σ2 k2 e2 => ⟨e2.trans wipe_wipe, ht os σ2 H k2 _ fun os3 H3 k3 g3 => ?_⟩
  have e2' : wipe σ2 ws = wipe σ ws := e2.trans wipe_wipe
  have hp3 : H3 p = some (.dK acc) := (g3.o p (List.mem_cons_self ..)).trans hp
  rcases hb with ⟨rfl, k0, y, A3, A4, hk, hv, rfl, rfl⟩ | ⟨rfl, rfl, rfl⟩
  · rw [if_pos rfl]
    refine hk os3 σ2 H3 k3 _ fun os4 w H4 k4 g4 i4 => hv os4 σ2 H4 k4 _ fun os5 z H5 k5 g5 i5 => ?_
    rw [Is.v_iff.mp i4]
    have g := (g3.trans g4).trans g5
    have hp5 : H5 p = some (.dK acc) := (g.o p (List.mem_cons_self ..)).trans hp
    have el : acc.length = ys.length := by
      have := congrArg List.length ha.1
      simpa using this
    refine ⟨acc, k0, rfl, hp5, by rw [el]; exact Nat.lt_of_lt_of_le hl (by decide), hR os5 _ _ (Ok.updK (C := C.hide p) (k5.back e2') (List.mem_cons_self ..) h0 hp5) ⟨?_, fun a h => ?_, g.p⟩ upd_same ?_⟩
    · rw [Rh_updO (List.mem_cons_self ..)]; exact g.e
    · rw [upd_ne fun z => hO (by rw [← z]; exact h)]
      exact g.o a (List.mem_cons_of_mem _ h)
    · rw [Rh_updO (List.mem_cons_self ..)]
      exact (ha.mono g.e).put i5
  · rw [if_neg (by decide)]
    exact hR os3 acc H3 (k3.back e2') ⟨g3.e, fun a h => g3.o a (List.mem_cons_of_mem _ h), g3.p⟩ hp3 (ha.mono g3.e)
theorem dc_end {p : Addr} {σ : Sg} {os1 os2 : List (Option Addr)} {H1 H2 : Hp} {ys : KD} {acc : List (Key × V)} {Q : VK} (k1 : Ok C os1 A σ H1) (hp : H1 p = none) (k2 : Ok (C.hide p) os2 A2 σ H2) (g : GrP p C.O os1 (upd H1 p (.dK [])) os2 H2) (hl : H2 p = some (.dK acc)) (ha : KvA C.K (Rh (p :: C.O) os2 H2) ys acc)
    (q : ∀ os' v H', Ok C os' A2 σ H' → Gr C.O os1 H1 os' H' → Is C.K (Rh C.O os' H') (dD ys) v → Q v H') : Q (.ref p) H2 := by
  refine q os2 _ H2 k2.unhide ⟨?_, fun a h => ?_, g.p⟩ ?_
  · have e := g.e
    rw [Rh_hide hp] at e
    exact e.trans Rh_unhide
  · rw [g.o a h, upd_ne fun z => fresh_O k1 hp (by rw [← z]; exact h)]
  · rw [Is]
    refine ⟨p, acc.map (·.2), rfl, ?_, IsA.mono Rh_unhide _ _ ha.2⟩
    rw [← ha.1, zip_un]
    show hd _ H2 p = _
    rw [hd_of fun z => ?_]
    · exact hl
    · rcases mem_hid.mp z with z | z
      · exact fresh_O k1 hp z
      · exact k2.dj p (List.mem_cons_self ..) z
theorem e_dcY {wi : TI} {n : Nat} {y : Nat → Dt} (hw : WiS C wi A n y A1) (B : Nat → AS) (Z : Nat → KD) (h0 : A1 = B 0) (hZ : Z 0 = [])
    (hs : ∀ i, i < n → ∀ O, DcT ⟨C.K, C.T, C.H0, O⟩ g tt tk tv ws (y i) (B i) (Z i) (B (i + 1)) (Z (i + 1))) (hn : n < 100000) : EvS C (tDc wi g tt tk tv ws) A (dD (Z n)) (B n) := fun os σ H k Q q =>
  hw os σ H k _ fun os1 H1 J k1 g1 Y p hp => by
    have hl : ∀ i, i ≤ n → (Z i).length ≤ i := by
      intro i
      induction i with
      | zero => intro _; rw [hZ]; exact Nat.le_refl _
      | succ i ih =>
        intro hi
        obtain ⟨_, _, _, _, _, h⟩ := hs i hi []
        rcases h with ⟨_, k0, y0, _, _, _, _, e, _⟩ | ⟨_, e, _⟩
        · rw [e]; have := ih (by omega); have := putD_len (Z i) k0 y0; omega
        · rw [e]; have := ih (by omega); omega
    subst h0
    refine ⟨fun i m H' => m = n - i ∧ i ≤ n ∧ ∃ os' acc, Ok (C.hide p) os' (B i) σ H' ∧ GrP p C.O os1 (upd H1 p (.dK [])) os' H' ∧ H' p = some (.dK acc) ∧ KvA C.K (Rh (p :: C.O) os' H') (Z i) acc, ⟨n, rfl, Nat.zero_le _, os1, [], k1.hide hp nt_k, ⟨Ex.refl _, fun _ _ => rfl, fun _ _ h => h⟩, upd_same, by rw [hZ]; exact .nil⟩, ?_⟩
    rintro i m H' ⟨rfl, hi, os', acc, k', g', hp', ha⟩
    have e' : Ex (Rh C.O os1 H1) (Rh (p :: C.O) os' H') := by
      have e := g'.e
      rw [Rh_hide hp] at e
      exact e
    by_cases hlt : i < n
    · refine .inr ⟨Y.go i H' hlt (e'.trans hd_ex), fun H2 => i + 1 ≤ n ∧ ∃ os' acc, Ok (C.hide p) os' (B (i + 1)) σ H2 ∧ GrP p C.O os1 (upd H1 p (.dK [])) os' H2 ∧ H2 p = some (.dK acc) ∧ KvA C.K (Rh (p :: C.O) os' H2) (Z (i + 1)) acc, fun H2 q => ⟨n - (i + 1), by omega, rfl, q.1, q.2⟩, fun v H2 hy => ?_⟩
      obtain ⟨x1, x2, x3⟩ := Y.yl i H' v H2 (hid (p :: C.O) os') hlt hy e' fun a h => k'.hidden h
      have k2 := k'.mono x1 (x2 _ k'.tb)
      have gp : GrP p C.O os' H' os' H2 := ⟨hd_mono x1, fun a h => by
        obtain ⟨o, q, nt⟩ := k'.ol a (List.mem_cons_of_mem _ h)
        rw [q, x1 _ _ q nt], fun _ _ h => h⟩
      exact dc_turn (hs i hlt _) k2 (x1 _ _ hp' nt_k) (ha.mono (hd_mono x1)) x3 (fresh_0 k1 hp) (fresh_O k1 hp) (by have := hl i (by omega); omega) _ fun os2 acc2 H3 k3 g3 hp3 ha3 => ⟨hlt, os2, acc2, k3, (g'.trans gp).trans g3, hp3, ha3⟩
    · obtain rfl : i = n := by omega
      exact .inl ⟨Y.stop H' (e'.trans hd_ex), dc_end k1 hp k' g' hp' ha fun os2 v H2 k2 g2 i2 => q os2 v H2 k2 (g1.trans g2) i2⟩
/-! ### d[k], k in d, len(d), d as data -/
def getD (kvs : KD) (k : Key) : Option Dt := (kvs.find? fun q => decide (q.1 = k)).map (·.2)
theorem e_dgetD {td ty : TE} {kvs : KD} {k0 : Key} {d : Dt} (h1 : EvS C td A (dD kvs) A1) (h2 : EvS C ty A1 (.v (kV k0)) A2) (h : getD kvs k0 = some d) : EvS C (tDGet td ty) A d A2 := e_dget h1 h2 (by rw [zip_un]; exact h)
theorem valV_isSome {K : Frg} {R : Hp} {k0 : Key} {kvs : KD} {acc : List (Key × V)} (h : KvA K R kvs acc) : (valV acc k0).isSome = kvs.any fun kv => decide (kv.1 = k0) := by
  rw [← valV_any, h.any]
theorem kvA_of {K : Frg} {R : Hp} {kvs : KD} {vs : List V} (h : IsA K R (kvs.map (·.2)) vs) : KvA K R kvs ((kvs.map (·.1)).zip vs) := by
  have hl := isA_len h
  rw [List.length_map] at hl
  exact ⟨by rw [List.map_fst_zip (by rw [List.length_map]; omega)], by rw [List.map_snd_zip (by rw [List.length_map]; omega)]; exact h⟩
theorem e_din {td ty : TE} {kvs : KD} {k0 : Key} (h1 : EvS C ty A (.v (kV k0)) A1) (h2 : EvS C td A1 (dD kvs) A2) : EvS C (tDIn ty td) A (db (kvs.any fun kv => decide (kv.1 = k0))) A2 := fun os σ H k Q q =>
  h1 os σ H k _ fun os1 v1 H1 k1 e1 i1 => h2 os1 σ H1 k1 _ fun os2 v2 H2 k2 e2 i2 => by
    rw [Is.v_iff.mp i1]
    rw [Is] at i2
    obtain ⟨a, vs, rfl, g1, g2⟩ := i2
    refine ⟨a, _, rfl, .inl ⟨_, k0, .inl (hd_ex a _ g1 nt_k), rfl, rfl⟩, ?_⟩
    rw [valV_isSome (kvA_of g2)]
    exact q os2 _ H2 k2 (e1.trans e2) is_v
theorem e_dnotin {td ty : TE} {kvs : KD} {k0 : Key} (h1 : EvS C ty A (.v (kV k0)) A1) (h2 : EvS C td A1 (dD kvs) A2) : EvS C (tDNotIn ty td) A (db (!kvs.any fun kv => decide (kv.1 = k0))) A2 := fun os σ H k Q q =>
  h1 os σ H k _ fun os1 v1 H1 k1 e1 i1 => h2 os1 σ H1 k1 _ fun os2 v2 H2 k2 e2 i2 => by
    rw [Is.v_iff.mp i1]
    rw [Is] at i2
    obtain ⟨a, vs, rfl, g1, g2⟩ := i2
    refine ⟨a, _, rfl, .inl ⟨_, k0, .inl (hd_ex a _ g1 nt_k), rfl, rfl⟩, ?_⟩
    rw [valV_isSome (kvA_of g2)]
    exact q os2 _ H2 k2 (e1.trans e2) is_v
theorem e_lenD {kvs : KD} {ta : TA} (h : EvA C ta A [dD kvs] A1) : EvS C (tCB (fun xs H Q => ∃ a kvs, xs = [V.ref a] ∧ H a = some (.dK kvs) ∧ Q (.int kvs.length) H) ta) A (di kvs.length) A1 := fun os σ H k Q q =>
  h os σ H k _ fun os1 vs H1 k1 e1 i1 => by
    rw [IsA] at i1
    obtain ⟨v, w, rfl, i1, i2⟩ := i1
    rw [IsA] at i2
    subst i2
    rw [Is] at i1
    obtain ⟨a, us, rfl, g1, g2⟩ := i1
    refine ⟨a, _, rfl, hd_ex a _ g1 nt_k, ?_⟩
    have e : ((kvs.map (·.1)).zip us).length = kvs.length := by
      have := congrArg List.length (kvA_of g2).1
      simpa using this
    rw [e]
    exact q os1 _ H1 k1 e1 is_v
/-! ### all([..]), any([..]) -/
theorem isA_bls {K : Frg} {R : Hp} : ∀ {bs : List Bool} {vs : List V}, IsA K R (bs.map db) vs → vs = bs.map V.bl
  | [], vs, h => by rw [List.map_nil, IsA] at h; exact h
  | b :: r, vs, h => by
    rw [List.map_cons, IsA] at h
    obtain ⟨v, w, rfl, h1, h2⟩ := h
    rw [Is.v_iff.mp h1, isA_bls h2]; rfl
theorem e_all {bs : List Bool} {ta : TA} (h : EvA C ta A [.lst (bs.map db)] A1) : EvS C (tCB (rAll C.K) ta) A (db (bs.all id)) A1 := fun os σ H k Q q =>
  h os σ H k _ fun os1 vs H1 k1 e1 i1 => by
    rw [IsA] at i1
    obtain ⟨v, w, rfl, i1, i2⟩ := i1
    rw [IsA] at i2
    subst i2
    rw [Is] at i1
    obtain ⟨a, us, rfl, g1, g2⟩ := i1
    rw [isA_bls g2] at g1
    exact ⟨a, bs, rfl, hd_ex.l g1, q os1 _ H1 k1 e1 is_v⟩
theorem e_any {bs : List Bool} {ta : TA} (h : EvA C ta A [.lst (bs.map db)] A1) : EvS C (tCB (rAny C.K) ta) A (db (bs.any id)) A1 := fun os σ H k Q q =>
  h os σ H k _ fun os1 vs H1 k1 e1 i1 => by
    rw [IsA] at i1
    obtain ⟨v, w, rfl, i1, i2⟩ := i1
    rw [IsA] at i2
    subst i2
    rw [Is] at i1
    obtain ⟨a, us, rfl, g1, g2⟩ := i1
    rw [isA_bls g2] at g1
    exact ⟨a, bs, rfl, hd_ex.l g1, q os1 _ H1 k1 e1 is_v⟩
end
end Py
end

section
set_option Elab.async false
set_option linter.all false
set_option maxRecDepth 100000
set_option maxHeartbeats 4000000
set_option autoImplicit false
namespace Py
open PySem PySem.Spec PyProof.Rows L2
/-! ### own things of any kind -/
/-- a new own thing, in no slot yet -/
def AS.newG (A : AS) (o : OD) : AS := ⟨A.sl, A.st ++ [o]⟩
def AS.upG (A : AS) (n : Nat) (o : OD) : AS := ⟨A.sl, A.st.set n o⟩
section
variable {C : Ct} {A A1 A2 : AS} {σ : Sg} {H : Hp} {os : List (Option Addr)} {p : Addr}
theorem Ok.newG {o : HO} {od : OD} (k : Ok C os A σ H) (hp : H p = none) (hn : NoT o) (hs : StOk C.K (os ++ [some p]) (Rh C.O os H) (upd H p o) (some p) od) : Ok C (os ++ [some p]) (A.newG od) σ (upd H p o) := by
  have np : some p ∉ os := fun z => by
    obtain ⟨o, q, _⟩ := (k.fr p z).2
    rw [hp] at q; cases q
  refine ⟨k.ex.trans (Ex.new hp), tabs_new k.tb hp, fun a h => by obtain ⟨o, q, n⟩ := k.ol a h; exact ⟨o, Ex.new hp _ _ q n, n⟩, fun a h z => ?dj, by simp [AS.newG, k.ln], fun a b c h1 h2 => ?_, fun a h => ?_, k.sn, fun j s o h1 h2 => ?_, fun j s o h1 h2 => ?_⟩
  case dj =>
    rcases List.mem_append.mp z with z | z
    · exact k.dj a h z
    · simp at z
      subst z
      obtain ⟨o, q, _⟩ := k.ol a h
      rw [hp] at q; cases q
  · rw [List.getElem?_append] at h1 h2
    split at h1 <;> split at h2
    · exact k.nd a b c h1 h2
    · rename_i q1 q2
      have e : c = p := by
        cases z : b - os.length with
        | zero => rw [z] at h2; simpa using h2.symm
        | succ n => rw [z] at h2; simp at h2
      rw [e] at h1
      exact absurd (List.mem_of_getElem? h1) np
    · have e : c = p := by
        cases z : a - os.length with
        | zero => rw [z] at h1; simpa using h1.symm
        | succ n => rw [z] at h1; simp at h1
      rw [e] at h2
      exact absurd (List.mem_of_getElem? h2) np
    · rename_i q1 q2
      have e1 : a - os.length = 0 := by
        cases z : a - os.length with
        | zero => rfl
        | succ n => rw [z] at h1; simp at h1
      have e2 : b - os.length = 0 := by
        cases z : b - os.length with
        | zero => rfl
        | succ n => rw [z] at h2; simp at h2
      omega
  · rcases List.mem_append.mp h with h | h
    · obtain ⟨h1, o, h2, n⟩ := k.fr a h
      exact ⟨h1, o, Ex.new hp _ _ h2 n, n⟩
    · simp at h
      subst h
      exact ⟨fun o q n => (by have := k.ex _ _ q n; rw [hp] at this; cases this), _, upd_same, hn⟩
  · rw [Rh_app hp]
    exact (k.sl j s o h1 h2).app
  · rw [Rh_app hp]
    have h1 : (A.st ++ [od])[j]? = some s := h1
    rw [List.getElem?_append] at h1 h2
    rw [k.ln] at h2
    split at h1
    · rename_i q1
      rw [if_pos q1] at h2
      exact ((k.st j s o h1 h2).mono (Ex.refl _) (Ex.new hp)).app
    · rename_i q1
      rw [if_neg q1] at h2
      cases z : j - A.st.length with
      | succ n => rw [z] at h1; simp at h1
      | zero =>
        rw [z] at h1 h2
        simp at h1 h2
        subst h1 h2
        exact hs
theorem Gr.newG {o : HO} (k : Ok C os A σ H) (hp : H p = none) : Gr C.O os H (os ++ [some p]) (upd H p o) :=
  ⟨by rw [Rh_app hp]; exact Ex.refl _, fun a h => by obtain ⟨o, q, n⟩ := k.ol a h; rw [q, Ex.new hp _ _ q n], fun k x h => by rw [List.getElem?_append_left (List.getElem?_eq_some_iff.mp h).1]; exact h⟩
theorem Ok.upG {o : HO} {od : OD} {n : Nat} (k : Ok C os A σ H) (h1 : os[n]? = some (some p)) (ht : LamX.Tabs C.T (upd H p o)) (hn : NoT o) (hs : StOk C.K os (Rh C.O os H) (upd H p o) (some p) od) : Ok C os (A.upG n od) σ (upd H p o) := by
  have hp : p ∈ hid C.O os := mem_hid.mpr (.inr (List.mem_of_getElem? h1))
  refine ⟨fun a u e nt => ?_, ht, fun a h => ?ol, k.dj, by simp [AS.upG, k.ln], k.nd, fun a h => ?_, k.sn, fun j s u e1 e2 => ?_, fun j s u e1 e2 => ?_⟩
  case ol =>
    obtain ⟨o, q, n⟩ := k.ol a h
    exact ⟨o, by rw [upd_ne fun z => k.dj a h (by rw [z]; exact List.mem_of_getElem? h1)]; exact q, n⟩
  · have ne : a ≠ p := fun z => (k.fr p (List.mem_of_getElem? h1)).1 u (by rw [← z]; exact e) nt
    rw [upd_ne ne]
    exact k.ex _ _ e nt
  · obtain ⟨q1, o, q2, n⟩ := k.fr a h
    refine ⟨q1, ?_⟩
    by_cases e : a = p
    · rw [e]; exact ⟨_, upd_same, hn⟩
    · exact ⟨o, by rw [upd_ne e]; exact q2, n⟩
  · rw [Rh_upd hp]
    exact k.sl j s u e1 e2
  · rw [Rh_upd hp]
    have e1 : (A.st.set n od)[j]? = some s := e1
    rw [List.getElem?_set] at e1
    by_cases e : n = j
    · rw [if_pos e] at e1
      split at e1
      · cases e1
        subst e
        rw [h1] at e2; cases e2
        exact hs
      · cases e1
    · rw [if_neg e] at e1
      refine (k.st j s u e1 e2).heap fun a q1 => upd_ne fun z => ?_
      rw [q1, z] at e2
      exact e (k.nd n j p h1 e2)
theorem Gr.up {o : HO} {n : Nat} (k : Ok C os A σ H) (h1 : os[n]? = some (some p)) : Gr C.O os H os (upd H p o) :=
  ⟨by rw [Rh_upd (mem_hid.mpr (.inr (List.mem_of_getElem? h1)))]; exact Ex.refl _, fun a h => upd_ne fun z => k.dj a h (by rw [z]; exact List.mem_of_getElem? h1), fun _ _ h => h⟩
end
/-! ### own dicts whose values are data -/
abbrev oD (kvs : KD) : OD := .dct (kvs.map (·.1)) (kvs.map fun kv => SD.d kv.2)
theorem svA_d {K : Frg} {os : List (Option Addr)} {R : Hp} : ∀ {xs : List Dt} {vs : List V}, SvA K os R (xs.map SD.d) vs ↔ IsA K R xs vs
  | [], vs => by rw [List.map_nil, SvA, IsA]
  | x :: r, vs => by
    rw [List.map_cons, SvA, IsA]
    constructor
    · rintro ⟨v, w, h1, ⟨u, e, h2⟩, h3⟩
      cases e
      exact ⟨v, w, h1, h2, svA_d.mp h3⟩
    · rintro ⟨v, w, h1, h2, h3⟩
      exact ⟨v, w, h1, ⟨v, rfl, h2⟩, svA_d.mpr h3⟩
theorem stD {K : Frg} {os : List (Option Addr)} {R H : Hp} {o : Option Addr} {kvs : KD} : StOk K os R H o (oD kvs) ↔ ∃ a acc, o = some a ∧ H a = some (.dK acc) ∧ KvA K R kvs acc := by
  have e : (kvs.map fun kv => SD.d kv.2) = (kvs.map (·.2)).map SD.d := by rw [List.map_map]; rfl
  constructor
  · rintro ⟨a, acc, h1, h2, h3, h4⟩
    rw [e] at h4
    exact ⟨a, acc, h1, h2, h3, svA_d.mp h4⟩
  · rintro ⟨a, acc, h1, h2, h3, h4⟩
    exact ⟨a, acc, h1, h2, h3, by rw [e]; exact svA_d.mpr h4⟩
section
variable {C : Ct} {E : XK} {A A1 A2 A3 : AS} {td ty tv te : TE} {tl : TA} {P : Po} {kvs : KD} {k0 : Key} {d : Dt} {i n : Nat}
theorem p_D {tr : TA} {ss : List SD} (hr : EvP C tr (A.newG (oD [])) ss A2) : EvP C (tCons tDNewK tr) A (.own A.st.length :: ss) A2 := fun os σ H k Q q p hp =>
  hr _ σ _ (k.newG hp nt_k (stD.mpr ⟨p, [], rfl, upd_same, .nil⟩)) _ fun os2 ws H2 k2 e2 i2 => q os2 _ H2 k2 ((Gr.newG k hp).trans e2) ⟨_, ws, rfl, ⟨p, rfl, e2.p _ _ (by rw [← k.ln]; simp)⟩, i2⟩
theorem r_newD (hn : P.nx ((A.newG (oD [])).putS i (.own A.st.length))) : RunS C E (tAsg tDNewK (gName i)) A P := fun os σ H D k T p hp =>
  T.nx _ _ _ _ hn ((k.newG hp nt_k (stD.mpr ⟨p, [], rfl, upd_same, .nil⟩)).putS ⟨p, rfl, by rw [← k.ln]; simp⟩) (Gr.s (Gr.newG k hp))
theorem own_at {os : List (Option Addr)} {σ : Sg} {H : Hp} (k : Ok C os A σ H) (h1 : A.sl[i]? = some (.own n)) (h2 : A.st[n]? = some (oD kvs)) : ∃ a acc, σ[i]? = some (some (.ref a)) ∧ os[n]? = some (some a) ∧ H a = some (.dK acc) ∧ KvA C.K (Rh C.O os H) kvs acc := by
  obtain ⟨o, f1, a, f2, f3⟩ := k.slot h1
  subst f2
  obtain ⟨o3, s1, s2⟩ := k.store h2
  rw [f3] at s1; cases s1
  obtain ⟨a', acc, q1, q2, q3⟩ := stD.mp s2
  cases q1
  exact ⟨a, acc, f1, f3, q2, q3⟩
theorem KvA.get {K : Frg} {R : Hp} : ∀ {kvs : KD} {acc : List (Key × V)}, KvA K R kvs acc → getD kvs k0 = some d → ∃ v, valV acc k0 = some v ∧ Is K R d v := fun {kvs acc} h e => by
  have := dct_get (K := K) (R := R) (k0 := k0) (ks := kvs.map (·.1)) (xs := kvs.map (·.2)) (vs := acc.map (·.2)) (d := d) h.2 (by rw [zip_un]; exact e)
  rw [← h.1, zip_un] at this
  exact this
theorem e_dgetO (h1 : A.sl[i]? = some (.own n)) (h2 : EvS C ty A (.v (kV k0)) A1) (h3 : A1.sl[i]? = some (.own n)) (h4 : A1.st[n]? = some (oD kvs)) (h : getD kvs k0 = some d) : EvS C (tDGet (tVar i) ty) A d A1 := fun os σ H k Q q => by
  obtain ⟨o, f1, a, f2, f3⟩ := k.slot h1
  subst f2
  refine ⟨_, f1, h2 os σ H k _ fun os1 v1 H1 k1 g1 i1 => ?_⟩
  rw [Is.v_iff.mp i1]
  obtain ⟨a', acc, e1, e2, e3, e4⟩ := own_at k1 h3 h4
  rw [f1] at e1; cases e1
  obtain ⟨v, z1, z2⟩ := e4.get h
  exact ⟨a, v, rfl, .inl ⟨_, k0, .inl e3, rfl, z1.symm⟩, q os1 v H1 k1 g1 z2⟩
theorem e_dinO (h2 : EvS C ty A (.v (kV k0)) A1) (h3 : A1.sl[i]? = some (.own n)) (h4 : A1.st[n]? = some (oD kvs)) : EvS C (tDIn ty (tVar i)) A (db (kvs.any fun kv => decide (kv.1 = k0))) A1 := fun os σ H k Q q =>
  h2 os σ H k _ fun os1 v1 H1 k1 g1 i1 => by
    rw [Is.v_iff.mp i1]
    obtain ⟨a, acc, e1, e2, e3, e4⟩ := own_at k1 h3 h4
    refine ⟨_, e1, a, _, rfl, .inl ⟨_, k0, .inl e3, rfl, rfl⟩, ?_⟩
    rw [valV_isSome e4]
    exact q os1 _ H1 k1 g1 is_v
theorem e_dnotinO (h2 : EvS C ty A (.v (kV k0)) A1) (h3 : A1.sl[i]? = some (.own n)) (h4 : A1.st[n]? = some (oD kvs)) : EvS C (tDNotIn ty (tVar i)) A (db (!kvs.any fun kv => decide (kv.1 = k0))) A1 := fun os σ H k Q q =>
  h2 os σ H k _ fun os1 v1 H1 k1 g1 i1 => by
    rw [Is.v_iff.mp i1]
    obtain ⟨a, acc, e1, e2, e3, e4⟩ := own_at k1 h3 h4
    refine ⟨_, e1, a, _, rfl, .inl ⟨_, k0, .inl e3, rfl, rfl⟩, ?_⟩
    rw [valV_isSome e4]
    exact q os1 _ H1 k1 g1 is_v
/-- d[k] = v, d one's own -/
theorem r_dputO (hv : EvS C tv A d A1) (hy : EvS C ty A1 (.v (kV k0)) A1) (h3 : A1.sl[i]? = some (.own n)) (h4 : A1.st[n]? = some (oD kvs)) (hl : kvs.length < 100000) (h : P.nx (A1.upG n (oD (putD kvs k0 d)))) : RunS C E (sDPut (tVar i) ty tv) A P := fun os σ H D k T =>
  hv os σ H k _ fun os1 v H1 k1 g1 i1 => by
    obtain ⟨a, acc, e1, e2, e3, e4⟩ := own_at k1 h3 h4
    refine ⟨_, e1, hy os1 σ H1 k1 _ fun os2 y H2 k2 g2 i2 => ?_⟩
    rw [Is.v_iff.mp i2]
    obtain ⟨a', acc', f1, f2, f3, f4⟩ := own_at k2 h3 h4
    rw [e1] at f1; cases f1
    have el : acc'.length = kvs.length := by
      have := congrArg List.length f4.1
      simpa using this
    refine ⟨a, _, rfl, .inl ⟨acc', k0, f3, rfl, by rw [el]; exact Nat.lt_of_lt_of_le hl (by decide), rfl⟩, ?_⟩
    exact T.nx os2 _ σ _ h (k2.upG f2 (tabs_dk k2.tb f3) nt_k (stD.mpr ⟨a, _, rfl, upd_same, f4.put (Is.mono g2.e _ _ i1)⟩)) (Gr.s ((g1.trans g2).trans (Gr.up k2 f2)))
theorem e_lenDO (h3 : A.sl[i]? = some (.own n)) (h4 : A.st[n]? = some (oD kvs)) : EvS C (tCB (fun xs H Q => ∃ a kvs, xs = [V.ref a] ∧ H a = some (.dK kvs) ∧ Q (.int kvs.length) H) (tCons (tVar i) tNil)) A (di kvs.length) A := fun os σ H k Q q => by
  obtain ⟨a, acc, e1, e2, e3, e4⟩ := own_at k h3 h4
  have el : acc.length = kvs.length := by
    have := congrArg List.length e4.1
    simpa using this
  exact ⟨_, e1, a, acc, rfl, e3, by rw [el]; exact q os _ H k Gr.refl is_v⟩
/-! ### a new list that becomes one's own -/
def EvN (C : Ct) (te : TE) (A : AS) (xs : List Dt) (A1 : AS) : Prop := ∀ os σ H, Ok C os A σ H → ∀ Q : VK, (∀ os1 H1 vs p, Ok C os1 A1 σ H1 → Gr C.O os H os1 H1 → IsA C.K (Rh C.O os1 H1) xs vs → H1 p = none → Q (.ref p) (upd H1 p (.lst vs))) → te σ H Q
theorem r_asgN {xs : List Dt} (h : EvN C te A xs A1) (hn : P.nx (A1.newO i xs)) : RunS C E (tAsg te (gName i)) A P := fun os σ H D k T =>
  h os σ H k _ fun os1 H1 vs p k1 g1 i1 hp => T.nx _ _ _ _ hn (k1.newO hp i1) (Gr.s (g1.trans (Gr.app k1 hp)))
/-- list(x), x a list or a tuple -/
def rLst (K : Frg) : List V → Hp → VK → Prop := fun xs H Q => ∃ p ys, xs = [.ref p] ∧ (SqL K H p ys ∨ SqT K H p ys) ∧ ∀ l, H l = none → Q (.ref l) (upd H l (.lst ys))
theorem e_listTN {xs : List Dt} {ta : TA} (h : EvA C ta A [.tup xs] A1) : EvS C (tCB (rLst C.K) ta) A (.lstN xs) A1 := fun os σ H k Q q =>
  h os σ H k _ fun os1 vs H1 k1 g1 i1 => by
    rw [IsA] at i1
    obtain ⟨v, w, rfl, i1, i2⟩ := i1
    rw [IsA] at i2
    subst i2
    rw [Is] at i1
    obtain ⟨a, us, rfl, h1, h2⟩ := i1
    refine ⟨a, us, rfl, .inr (hd_ex.t h1), fun l hl => q os1 _ _ (k1.monoN hl) (g1.trans (k1.gr (Ex.new hl))) ?_⟩
    rw [Is]
    exact ⟨l, us, rfl, .inl (k1.fresh hl), IsA.mono (hd_mono (Ex.new hl)) _ _ h2⟩
/-- one's own list + a new one: a new one -/
theorem n_catO {xs ys : List Dt} {tb : TE} (h1 : A.sl[i]? = some (.own n)) (hb : EvS C tb A (.lstN ys) A1) (h3 : A1.st[n]? = some (.lst xs)) (hl : xs.length + ys.length ≤ 100000) : EvN C (tOp rCatR (tVar i) tb) A (xs ++ ys) A1 := fun os σ H k Q q => by
  obtain ⟨o, f1, a, f2, f3⟩ := k.slot h1
  subst f2
  refine ⟨_, f1, hb os σ H k _ fun os1 v H1 k1 g1 i1 => ?_⟩
  rw [Is] at i1
  obtain ⟨b, us, rfl, h4, h5⟩ := i1
  obtain ⟨o3, s1, a3, ws, s2, s3, s4⟩ := k1.store h3
  rw [g1.p n _ f3] at s1; cases s1; cases s2
  exact ⟨a, b, ws, us, rfl, rfl, .inl s3, hd_ex.rd nt_l h4, by rw [isA_len s4, isA_len h5]; exact Nat.le_trans hl (by decide), fun p hp => q os1 H1 _ p k1 g1 (isA_app s4 h5) hp⟩
end
/-! ### sorted(d, reverse=True), the keys ints -/
def rSortDR (b : Bool) : List V → List V → Hp → VK → Prop := fun vs zs H Q => ∃ (a : Addr) (kvs : List (Key × V)) (ks : List Int), vs = [.ref a] ∧ zs = [.bl b] ∧ Rd H a (.dK kvs) ∧ kvs.map (·.1) = ks.map Sum.inl ∧ ks.length ≤ 100000 ∧
    ∀ (ys : List Int) (p : Addr), ys.Perm ks → OrdB b ys → H p = none → Q (.ref p) (upd H p (.lst (ys.map V.int)))
/-- the keys that are told one behind the other are the dict's ints -/
theorem told_ints {P : Program} {w : World} {pairs : List (Key × Value)} {got : Array Value} {ns : List Int} (hk : pairs.map Prod.fst = ns.map Sum.inl) (hg : ItemsOf (fun j v => ∃ k x, pairs[j]? = some (k, x) ∧ (mixKind P w).is k v = true) got pairs.length) : IntsAre got.toList ns ∧ got.toList.length = ns.length := by
  have many : pairs.length = ns.length := by simpa using congrArg List.length hk
  have size : got.toList.length = ns.length := by rw [Array.length_toList, hg.1, many]
  refine ⟨ints_each size fun j v hv => ?_, size⟩
  obtain ⟨k, x, p1, p2⟩ := hg.2 j v (by rwa [Array.getElem?_toList] at hv)
  have at_j : (ns.map (Sum.inl : Int → Key))[j]? = some k := by rw [← hk, List.getElem?_map, p1]; rfl
  rw [List.getElem?_map] at at_j
  obtain ⟨n, hn, rfl⟩ := Option.map_eq_some_iff.mp at_j
  rcases keyIs_shape (show keyIs (Sum.inl n) v = true from p2) with ⟨m, t, z1, z2⟩ | ⟨_, _, z1, _⟩
  · exact ⟨n, t, hn, by cases z1; exact z2⟩
  · cases z1
/-- a new list of ints behind the heap, put in order there -/
theorem put_in_order {X : Cx} {pins : List (Addr × Obj)} {σ : L2.St} {H : Hp} {s : Shared} {b : Bool} {got out : List Value} {ns : List Int} {Q : VK} (I : Inv X pins σ H s) (hi : IntsAre got ns) (hz : ns.length ≤ sizeLine) (o1 : SrtO.Srtd SrtO.ltIv out) (o2 : SrtO.Stb SrtO.ltIv out (if b = true then got.reverse else got))
    (q : ∀ (ys : List Int) (p : Addr), ys.Perm ns → OrdB b ys → H p = none → Q (.ref p) (upd H p (.lst (ys.map V.int)))) :
    EP X pins σ Q (.ref s.heap.objs.size) { s with heap := sortedHeap (s.heap.push (seqObj "list" got.toArray 0)) s.heap.objs.size got (if b = true then out.toArray.reverse else out.toArray) } := by
  obtain ⟨ys, y1, y2, y3⟩ := SrtR.ints_outR hi o1 o2
  obtain ⟨n, there⟩ := sortedHeap_at (vs := got) (out := (if b = true then out.toArray.reverse else out.toArray)) (Heap.get?_push_size s.heap (o := seqObj "list" got.toArray 0) rfl)
  have room : (ys.map V.int).length ≤ sizeLine := by rw [List.length_map]; exact y2.length_eq ▸ hz
  have arr : ((if b = true then out.toArray.reverse else out.toArray).toList).toArray = (if b = true then out.toArray.reverse else out.toArray) := Array.toArray_toList
  refine ⟨.ref s.heap.objs.size, upd H s.heap.objs.size (.lst (ys.map V.int)), I.laid (t' := s.toks) (fun c u hc => ?_) (Nat.le_refl _) ⟨room, _, n, vals_of_ints y1, by rw [arr]; exact there⟩, rfl, q ys _ y2 y3 (I.hok.fresh (Nat.le_refl _))⟩
  have lt := Heap.lt_size hc
  exact (sortedHeap_old (Nat.ne_of_lt lt) (by rw [size_push']; exact Nat.lt_succ_of_lt lt)).trans (Heap.get?_push_of_some _ hc)
theorem cr_sortDR {X : Cx} {b : Bool} (hcalm : X.calm = true) : CallRK X (.builtin "sorted") [Str.ofString "reverse"] (rSortDR b) := by
  rintro pins s σ H _ _ us wz Q I r rz ⟨a, kvs, ns, rfl, rfl, hd, hks, few, q⟩
  have hz : ns.length ≤ sizeLine := Nat.le_trans few (by decide)
  have eu := Vals.ref1 r
  obtain ⟨b', eb, rb⟩ := vals1 rz
  have rb : b' = Value.bool b := rb
  subst eu eb rb
  obtain ⟨_, notSys, pairs, rel, isD⟩ := dk_rd I.hok hd
  obtain ⟨ep, hat⟩ := isD.dictAt
  have keys : pairs.map Prod.fst = ns.map Sum.inl := (rel.keys).symm.trans hks
  have many : pairs.length ≤ sizeLine := by
    have : pairs.length = ns.length := by simpa using congrArg List.length keys
    rw [this]; exact hz
  apply call_function_entry_kw kind_sorted plain_sorted entry_sorted (args_sorted_rev _ _)
  unfold Builtin.«sorted»
  apply wpAny_bind (m := checkCount "sorted" 1 1 _)
  apply wpAny_pure
  refine wpAny_bind (PySem.W.kdu_collect (A := X.A.in1) (PySem.W.kdl_dict (knd := mixKind X.prog X.w) (kvs := pairs) (ep := ep) notSys) (I.ok.hd hcalm) hat many fun h' tk got kept items => ?_)
  obtain ⟨hi, len⟩ := told_ints (P := X.prog) (w := X.w) keys items
  have I1 : Inv X pins σ H { s with heap := h', toks := tk } := I.kept kept
  refine wpAny_bind (wpAny_newList ?_ (by rw [len]; exact hz))
  show wpAny _ _ _ _ _ ({ s with heap := h'.push (seqObj "list" got.toList.toArray 0), toks := tk } : Shared)
  have here : (h'.push (seqObj "list" got.toList.toArray 0)).get? h'.objs.size = some (seqObj "list" got.toList.toArray 0) := Heap.get?_push_size _ rfl
  refine wpAny_bind (wpAny_holding (wpAny_call_entry_kw slot_list_sort ⟨_, here, rfl⟩ entry_list_sort ?sort (args_list_sort_rev _ _)))
  exact SrtR.list_sort_ordR (s := { s with heap := h'.push (seqObj "list" got.toList.toArray 0), toks := tk }) SrtO.swo_int here (by rw [len]; exact hz) (fun _ => SrtO.ints_sortable hi (by omega)) fun out o1 o2 => ⟨_, rfl, wpAny_pure ⟨_, rfl, put_in_order I1 hi hz o1 o2 q⟩⟩
theorem ord_uniq : ∀ {xs ys : List Int}, xs.Perm ys → xs.Pairwise (· ≥ ·) → ys.Pairwise (· ≥ ·) → xs = ys
  | [], ys, h, _, _ => (List.nil_perm.mp h).symm
  | x :: r, ys, h, h1, h2 => by
    cases ys with
    | nil => exact absurd (List.perm_nil.mp h) (by simp)
    | cons y s =>
      have a := List.pairwise_cons.mp h1
      have b := List.pairwise_cons.mp h2
      have e : x = y := by
        have g1 : y ∈ x :: r := h.mem_iff.mpr (List.mem_cons_self ..)
        have g2 : x ∈ y :: s := h.mem_iff.mp (List.mem_cons_self ..)
        rcases List.mem_cons.mp g1 with z | z
        · exact z.symm
        · rcases List.mem_cons.mp g2 with w | w
          · exact w
          · have := a.1 y z; have := b.1 x w; omega
      subst e
      rw [ord_uniq (List.Perm.cons_inv h) a.2 b.2]
section
variable {C : Ct} {A : AS} {kvs : KD} {i n : Nat}
theorem isA_ints {K : Frg} {R : Hp} : ∀ ns : List Int, IsA K R (ns.map di) (ns.map V.int)
  | [] => isA_nil
  | n :: r => by rw [List.map_cons, List.map_cons]; exact isA_cons is_v (isA_ints r)
/-- sorted(d, reverse=True), d one's own -/
theorem e_sortDRO {tk : TA} {ks zs : List Int} (h3 : A.sl[i]? = some (.own n)) (h4 : A.st[n]? = some (oD kvs)) (hk : kvs.map (·.1) = ks.map Sum.inl) (hl : ks.length ≤ 100000) (ht : EvA C tk A [db true] A) (hp : zs.Perm ks) (ho : zs.Pairwise (· ≥ ·)) : EvS C (tCKw (rSortDR true) (tCons (tVar i) tNil) tk) A (.lst (zs.map di)) A := fun os σ H k Q q => by
  obtain ⟨a, acc, e1, e2, e3, e4⟩ := own_at k h3 h4
  refine ⟨_, e1, ht os σ H k _ fun os1 vs H1 k1 g1 i1 => ?_⟩
  rw [IsA] at i1
  obtain ⟨v, w, rfl, i1, i2⟩ := i1
  rw [IsA] at i2
  subst i2
  rw [Is.v_iff.mp i1]
  obtain ⟨a', acc', f1, f2, f3, f4⟩ := own_at k1 h3 h4
  rw [e1] at f1; cases f1
  refine ⟨a, acc', ks, rfl, rfl, .inl f3, by rw [f4.1, hk], hl, fun ys p g3 g4 hp' => ?_⟩
  have : ys = zs := ord_uniq (g3.trans hp.symm) g4 ho
  subst this
  refine q os1 _ _ (k1.monoN hp') (g1.trans (k1.gr (Ex.new hp'))) ?_
  rw [Is]
  exact ⟨p, ys.map V.int, rfl, SqL.of (k1.fresh hp'), isA_ints ys⟩
end
end Py
end

section
set_option Elab.async false
set_option linter.all false
set_option maxRecDepth 100000
set_option maxHeartbeats 4000000
set_option autoImplicit false
namespace Py
open PySem PySem.Spec PyProof.Rows L2
/-! ### xs[::-1], xs a list -/
def rRevL (K : Frg) : V → Hp → VK → Prop := fun x H Q => ∃ a xs, x = .ref a ∧ SqL K H a xs ∧ ∀ p, H p = none → Q (.ref p) (upd H p (.lst xs.reverse))
theorem pe_rev {X : Cx} {e st : Expr} {te ts : TE} {pos p2 : Pos} (he : PE X e te) (hs : PE X st ts) : PE X (.Subscript e (.Slice none none (some st) p2) pos) (fun σ H Q => te σ H fun x H1 => ts σ H1 fun y H2 => y = .int (-1) ∧ rRevL X.K x H2 Q) := by
  refine ⟨fun pins s σ H Q I h => ?_⟩
  refine Subscript_ (thn (he.run pins s σ H _ I h) fun v s1 ⟨x, H1, I1, r1, q1⟩ => ?_)
  refine wpAny_Slice ?_
  rw [evalPart_none]
  refine wpAny_pure ?_
  refine wpAny_pure ?_
  rw [evalPart_some]
  refine thn (hs.run pins s1 σ H1 _ I1 q1) fun vk s3 ⟨y, H3, I3, r3, ey, q3⟩ => ?_
  subst ey
  obtain ⟨t, rfl⟩ := r3
  obtain ⟨a, xs, rfl, hx, q⟩ := q3
  cases r1
  have I4 : Inv X pins σ H3 { s3 with heap := s3.heap.push { cls := .type "slice", data := .fields #[.none, .none, .int (-1) t] } } := I3.kept (t' := s3.toks) fun b ob q => Heap.get?_push_of_some _ q
  obtain ⟨its, r, ht, hz⟩ := I4.list hx
  show wpAny (model X.prog X.w) X.A (subscriptTail e (.Slice none none (some st) p2) (.ref a) (.ref s3.heap.objs.size)) (EP X pins σ Q) X.xe { s3 with heap := s3.heap.push { cls := .type "slice", data := .fields #[.none, .none, .int (-1) t] } }
  refine tail_any (ops := [.ref a, .ref s3.heap.objs.size]) ht.isList.typeIs slot_list_getitem.lookup ?_ (by with_unfolding_all rfl)
  refine wpAny_getItem_list_slice ht.isList (Heap.IsSliceOf.new ..) .none .none (.int _ _) (by decide) ?_ (by rw [List.size_toArray, ← r.length]; exact hz)
  rw [PySem.W.krv_pick]
  refine ⟨.ref _, _, I4.laid (t' := s3.toks) (o := .lst xs.reverse) (fun b ob q => Heap.get?_push_of_some _ q) (Nat.le_refl _) ?_, rfl, q _ (I4.hok.fresh (Nat.le_refl _))⟩
  exact ⟨by rw [List.length_reverse]; exact hz, _, 0, r.reverse, Heap.get?_push_size _ rfl⟩
section
variable {C : Ct} {A A1 A2 : AS} {te ts : TE} {xs : List Dt}
theorem isA_rev {K : Frg} {R : Hp} : ∀ {xs : List Dt} {vs : List V}, IsA K R xs vs → IsA K R xs.reverse vs.reverse
  | [], vs, h => by rw [IsA] at h; subst h; exact isA_nil
  | x :: r, vs, h => by
    rw [IsA] at h
    obtain ⟨v, w, rfl, h1, h2⟩ := h
    rw [List.reverse_cons, List.reverse_cons]
    exact isA_app (isA_rev h2) (isA_cons h1 isA_nil)
theorem e_rev (h : EvS C te A (.lst xs) A1) (h2 : EvS C ts A1 (di (-1)) A2) : EvS C (fun σ H Q => te σ H fun x H1 => ts σ H1 fun y H2 => y = .int (-1) ∧ rRevL C.K x H2 Q) A (.lst xs.reverse) A2 := fun os σ H k Q q =>
  h os σ H k _ fun os1 v H1 k1 g1 i1 => h2 os1 σ H1 k1 _ fun os2 y H2 k2 g2 i2 => by
    have i1 := Is.mono g2.e _ _ i1
    rw [Is] at i1
    obtain ⟨a, vs, rfl, h3, h4⟩ := i1
    refine ⟨Is.v_iff.mp i2, a, vs, rfl, hd_ex.l h3, fun p hp => q os2 _ _ (k2.monoN hp) ((g1.trans g2).trans (k2.gr (Ex.new hp))) ?_⟩
    rw [Is]
    exact ⟨p, _, rfl, SqL.of (k2.fresh hp), IsA.mono (hd_mono (Ex.new hp)) _ _ (isA_rev h4)⟩
end
/-! ### sorted(rows) by the rows' first items, which are ints and all different -/
section
open SrtO
variable {prog : Program} {w : World} {A : Around} {E : Value → Shared → Prop} {s : Shared}
def IsF (h : Heap) (v : Value) (k : Int) : Prop := ∃ (a : Addr) (o : Obj) (t : Tok) (r : List Value) (n : Nat), v = .ref a ∧ h.get? a = some o ∧ o.cls = .type "tuple" ∧ o.data = .seq (Value.int k t :: r).toArray n
theorem IsF.keeps {h h' : Heap} {v : Value} {k : Int} (x : IsF h v k) (kp : ∀ b o, h.get? b = some o → o.cls = .type "tuple" → h'.get? b = some o) : IsF h' v k := by
  obtain ⟨a, o, t, r, n, e, ho, hc, hd⟩ := x
  exact ⟨a, o, t, r, n, e, kp _ _ ho hc, hc, hd⟩
theorem lex_same {b : Bool} {Q : Bool → Shared → Prop} : ∀ (l : List Value) (i : Nat), Q false s → PySem.W.KatLex prog w A b false Q (l.zip l) i s
  | [], i, h => PySem.W.kat_nil h
  | v :: r, i, h => PySem.W.kat_cons (SeqAt.EqAt.same v prog w _ _ (PySem.W.kat_yes (lex_same r (i + 1) h)))
theorem fst_cmp {vs : List Value} {k : Value → Int} (hp : ∀ v ∈ vs, IsF s.heap v (k v)) (nd : ∀ v ∈ vs, ∀ u ∈ vs, k v = k u → v = u) : Cmp prog w A s (tuples' true) (fun p => p.1 ∈ vs) (lt2 fun v u => decide (k v < k u)) := by
  intro p q hm hm'
  have h1 := hp _ hm
  have h2 := hp _ hm'
  show wpAny (model prog w) A (keyLt' (tuples' true) p.1 q.1) (fun r s' => s' = s ∧ r = decide (k p.1 < k q.1)) (fun _ _ => False) s
  by_cases e : k p.1 = k q.1
  · have e' := nd _ hm _ hm' e
    rw [← e']
    obtain ⟨a, o, t, r, n, e1, ho, hc, hd⟩ := h1
    rw [e1] at e' ⊢
    refine PySem.W.kat_lt ho hd ho hd ?_
    rw [show decide ((Value.int (k p.1) t :: r).toArray.size < (Value.int (k p.1) t :: r).toArray.size) = false from decide_eq_false (Nat.lt_irrefl _)]
    refine lex_same _ _ ⟨rfl, ?_⟩
    exact (decide_eq_false (Int.lt_irrefl _)).symm
  · obtain ⟨a, o, t, r, n, e1, ho, hc, hd⟩ := h1
    obtain ⟨a', o', t', r', n', e2, ho', hc', hd'⟩ := h2
    generalize k p.1 = x at *
    generalize k q.1 = y at *
    rw [e1, e2]
    apply PySem.W.kat_lt ho hd ho' hd'
    show PySem.W.KatLex prog w A true _ _ ((Value.int x t, Value.int y t') :: r.zip r') 0 s
    refine PySem.W.kat_cons (SeqAt.EqAt.int_int x t y t' prog w _ _ ?_)
    rw [show (x == y) = false from by simpa using e]
    exact PySem.W.kat_no (oneLt_int ⟨rfl, rfl⟩)
theorem firsts_F {h : Heap} {k : Value → Int} : ∀ {vs : List Value}, (∀ v ∈ vs, IsF h v (k v)) → ∃ fs : List Value, PySem.W.KatTups h vs fs ∧ fs.length = vs.length ∧ ∀ f ∈ fs, ∃ x t, f = Value.int x t
  | [], _ => ⟨[], .nil, rfl, fun _ z => nomatch z⟩
  | v :: vs, hp => by
    obtain ⟨fs, h1, h2, h3⟩ := firsts_F (vs := vs) fun v' hm => hp v' (List.mem_cons_of_mem _ hm)
    obtain ⟨a, o, t, r, n, e, ho, hc, hd⟩ := hp v (List.mem_cons_self ..)
    generalize k v = x at hd
    subst e
    refine ⟨Value.int x t :: fs, .cons ho hc hd rfl h1, congrArg (· + 1) h2, fun f m => ?_⟩
    cases m with
    | head => exact ⟨x, t, rfl⟩
    | tail _ m => exact h3 f m
theorem fst_sortable {a : Addr} {vs : List Value} {k : Value → Int} (h0 : 0 < vs.length) (hp : ∀ v ∈ vs, IsF s.heap v (k v)) (nd : ∀ v ∈ vs, ∀ u ∈ vs, k v = k u → v = u) (ha : ∀ o, s.heap.get? a = some o → o.cls ≠ .type "tuple") : SortableO prog w A s a vs fun v u => decide (k v < k u) := by
  intro h' keep
  have hp' : ∀ v ∈ vs, IsF h' v (k v) := fun v hm => (hp v hm).keeps fun b o e c => keep b o (fun z => by subst z; exact ha o e c) e
  obtain ⟨fs, h1, h2, h3⟩ := firsts_F hp'
  refine ⟨tuples' true, fun Q E hq => ?_, fst_cmp hp' nd⟩
  have other : (Value.type "int" != Value.type "tuple") = true := by decide +kernel
  exact PySem.W.kat_kind (T := Value.type "int") h1 (by omega) (fun f m => match h3 f m with | ⟨_, _, e⟩ => e ▸ PySem.W.Looks.now) rfl (other.symm ▸ hq)
theorem swo_fst (k : Value → Int) : Swo fun v u => decide (k v < k u) := by
  constructor
  · intro x y h
    rw [decide_eq_true_eq] at h
    rw [decide_eq_false_iff_not]; omega
  · intro x y z h1 h2
    rw [decide_eq_false_iff_not] at *; omega
theorem sorted_fst {t : Addr} {us : List Value} {k : Value → Int} {Q : Value → Shared → Prop} (ht : IsTup s.heap t us.toArray) (hz : us.length ≤ sizeLine) (hp : ∀ u ∈ us, IsF s.heap u (k u)) (nd : ∀ v ∈ us, ∀ u ∈ us, k v = k u → v = u)
    (q : ∀ (h' : Heap) (out : List Value), Srtd (fun a b => decide (k a < k b)) out → Stb (fun a b => decide (k a < k b)) out us → (∀ b ob, s.heap.get? b = some ob → h'.get? b = some ob) → (∃ n, h'.get? (s.heap.objs.size + 1) = some (seqObj "list" out.toArray n)) → Q (.ref (s.heap.objs.size + 1)) { s with heap := h' }) :
    wpAny (model prog w) A (call (.builtin "sorted") [.ref t]) Q E s := by
  apply Calls.call_function_entry kind_sorted plain_sorted entry_sorted (args_sorted1 _)
  unfold Builtin.«sorted»
  refine wpAny_bind (m := checkCount "sorted" 1 1 _) (wpAny_pure (wpAny_bind (gather_tuple ht hz (wpAny_bind (wpAny_newList ?_ hz)))))
  generalize hG : (gath s.heap us).push (seqObj "list" us.toArray 0) = G
  have gL : G.get? (s.heap.objs.size + 1) = some (seqObj "list" us.toArray 0) := by
    rw [← hG, ← gath_size s.heap us]; exact Heap.get?_push_size _ rfl
  have gO : ∀ b ob, s.heap.get? b = some ob → b ≠ s.heap.objs.size + 1 ∧ G.get? b = some ob := fun b ob g => by
    refine ⟨Nat.ne_of_lt (Nat.lt_succ_of_lt (Heap.lt_size g)), ?_⟩
    rw [← hG]; exact Heap.get?_push_of_some _ (gath_old g)
  show wpAny _ _ (holding [Value.ref (gath s.heap us).objs.size] (call (Value.builtin "list.sort") [Value.ref (gath s.heap us).objs.size] []) >>= fun _ => _) _ _ { s with heap := G }
  rw [gath_size]
  refine wpAny_bind (wpAny_holding (wpAny_call_entry slot_list_sort ⟨_, gL, rfl⟩ entry_list_sort (list_sort_ord (swo_fst k) gL hz (fun h2 => ?_) fun out h3 h4 => ⟨_, rfl, wpAny_pure ⟨_, rfl, ?_⟩⟩) (args_list_sort _)))
  · refine fst_sortable (by omega) (fun u hu => (hp u hu).keeps fun b ob g _ => (gO b ob g).2) nd fun ob g c => ?_
    have g' := g.symm.trans gL
    cases g'
    have c := Value.type.inj c
    revert c; decide
  · obtain ⟨n, e⟩ := PyProof.Rows.sortedHeap_at (vs := us) (out := out.toArray) gL
    exact q _ out h3 h4 (fun b ob g => (PyProof.Rows.sortedHeap_old (gO b ob g).1 (Heap.lt_size (gO b ob g).2)).trans (gO b ob g).2) ⟨n, e⟩
end
def FstV (K : Frg) (H : Hp) (x : V) (k : Int) : Prop := ∃ t ys, x = V.ref t ∧ SqT K H t (.int k :: ys)
def rSortF (K : Frg) : List V → Hp → VK → Prop := fun vs H Q => ∃ (a : Addr) (xs : List V) (ks : List Int), vs = [.ref a] ∧ SqT K H a xs ∧ Paired (FstV K H) xs ks ∧ ks.Nodup ∧
  ∀ (zs : List (V × Int)) (d : Addr), zs.Perm (xs.zip ks) → zs.Pairwise (fun x y => x.2 ≤ y.2) → H d = none → Q (.ref d) (upd H d (.lst (zs.map (·.1))))
open Classical in
noncomputable def keyF (K : Frg) (H : Hp) (x : V) : Int := if h : ∃ p, FstV K H x p then h.choose else 0
section
variable {X : Cx}
theorem keyF_eq {pins : List (Addr × Obj)} {s : Shared} {σ : L2.St} {H : Hp} (I : Inv X pins σ H s) {x : V} {p : Int} (h : FstV X.K H x p) : keyF X.K H x = p := by
  have e : ∃ p, FstV X.K H x p := ⟨p, h⟩
  unfold keyF
  rw [dif_pos e]
  obtain ⟨t, ys, h1, h2⟩ := e.choose_spec
  obtain ⟨t', ys', h3, h4⟩ := h
  rw [h1] at h3
  cases h3
  have q := I.tuple_inj h2 h4
  have := (List.cons.inj q).1
  exact V.int.inj this
theorem pairedF_zip {K : Frg} {H : Hp} {k : V → Int} : ∀ {xs : List V} {ps : List Int}, Paired (FstV K H) xs ps → (∀ x p, FstV K H x p → k x = p) → xs.zip ps = xs.map (fun x => (x, k x)) ∧ ps = xs.map k
  | _, _, .nil, _ => ⟨rfl, rfl⟩
  | _, _, .cons h t, e => by
    obtain ⟨a, b⟩ := pairedF_zip t e
    exact ⟨by rw [List.zip_cons_cons, List.map_cons, a, e _ _ h], by rw [List.map_cons, ← b, e _ _ h]⟩
theorem pairedF_mem {K : Frg} {H : Hp} : ∀ {xs : List V} {ps : List Int}, Paired (FstV K H) xs ps → ∀ x ∈ xs, ∃ p, FstV K H x p
  | _, _, .nil, x, h => by cases h
  | _, _, .cons h t, x, m => by
    cases m with
    | head => exact ⟨_, h⟩
    | tail _ m => exact pairedF_mem t x m
theorem nd_inj {α β : Type} {f : α → β} : ∀ {l : List α}, (l.map f).Nodup → ∀ x ∈ l, ∀ y ∈ l, f x = f y → x = y
  | [], _, x, h, _, _, _ => by cases h
  | a :: r, nd, x, hx, y, hy, e => by
    have nd := List.nodup_cons.mp (show (f a :: r.map f).Nodup from nd)
    rcases List.mem_cons.mp hx with z | z <;> rcases List.mem_cons.mp hy with u | u
    · rw [z, u]
    · exact absurd (List.mem_map.mpr ⟨y, u, by rw [← e, z]⟩) nd.1
    · exact absurd (List.mem_map.mpr ⟨x, z, by rw [e, u]⟩) nd.1
    · exact nd_inj nd.2 x z y u e
theorem cr_sortF : CallR X (.builtin "sorted") (rSortF X.K) := by
  rintro pins s σ H _ us Q I r ⟨a, xs, ks, rfl, hs, hp, hnd, q⟩
  cases Vals.ref1 r
  obtain ⟨its, rv, hl, hz⟩ := I.tuple hs
  have back := refs_back rv fun x m => match pairedF_mem hp x m with | ⟨_, t, _, e, _⟩ => ⟨t, e⟩
  have e1 := back.1
  have e2 := back.2
  obtain ⟨ez, ek⟩ := pairedF_zip (k := keyF X.K H) hp fun x p h => keyF_eq I h
  have pr : ∀ v ∈ its, IsF s.heap v (keyF X.K H (backV v)) := fun v hv => by
    obtain ⟨t, rfl⟩ := e2 v hv
    obtain ⟨p, hp'⟩ := pairedF_mem hp (V.ref t) (by rw [e1]; exact List.mem_map.mpr ⟨_, hv, rfl⟩)
    show IsF s.heap _ (keyF X.K H (V.ref t))
    rw [keyF_eq I hp']
    obtain ⟨t', ys, h1, h2⟩ := hp'
    cases h1
    obtain ⟨its2, r2, ⟨o, ho, hc, n, hd⟩, _⟩ := I.tuple h2
    cases r2 with
    | cons ri rr =>
      obtain ⟨t1, rfl⟩ := ri
      exact ⟨t, o, t1, _, n, rfl, ho, hc, hd⟩
  have nd : ∀ v ∈ its, ∀ u ∈ its, keyF X.K H (backV v) = keyF X.K H (backV u) → v = u := fun v hv u hu e => by
    obtain ⟨t, rfl⟩ := e2 v hv
    obtain ⟨t', rfl⟩ := e2 u hu
    rw [ek] at hnd
    have := nd_inj hnd (V.ref t) (by rw [e1]; exact List.mem_map.mpr ⟨_, hv, rfl⟩) (V.ref t') (by rw [e1]; exact List.mem_map.mpr ⟨_, hu, rfl⟩) e
    cases this
    rfl
  refine sorted_fst (k := fun u => keyF X.K H (backV u)) hl (by rw [← rv.length]; exact hz) pr nd fun h' out h1 h2 kp hn => ?_
  have h3 : ∀ u ∈ out, ∃ a, u = Value.ref a := fun u hu => e2 u (h2.perm.mem_iff.mp hu)
  obtain ⟨n, hn⟩ := hn
  have eo : (out.map fun u => (backV u, keyF X.K H (backV u))).map (·.1) = out.map backV := by rw [List.map_map]; rfl
  have pm : (out.map fun u => (backV u, keyF X.K H (backV u))).Perm (xs.zip ks) := by
    rw [ez, e1, List.map_map]
    exact h2.perm.map _
  have g := q (out.map fun u => (backV u, keyF X.K H (backV u))) (s.heap.objs.size + 1) pm (List.pairwise_map.mpr (h1.imp fun {x y} h => by
    have := of_decide_eq_false h
    show keyF X.K H (backV x) ≤ keyF X.K H (backV y)
    omega)) (I.hok.fresh (Nat.le_succ _))
  rw [eo] at g
  refine ⟨.ref _, upd H (s.heap.objs.size + 1) (.lst (out.map backV)), I.laid (t' := s.toks) kp (Nat.le_succ _) ⟨?_, out, n, vals_back h3, hn⟩, rfl, g⟩
  rw [List.length_map, h2.perm.length_eq, ← rv.length]
  exact hz
end
section
variable {C : Ct} {A A1 : AS} {te : TE}
/-- the rows and their first ints -/
def Rows : List Dt → List Int → Prop := Paired fun d k => ∃ r, d = .tup (di k :: r)
theorem rows_fst {K : Frg} {R H : Hp} (e : Ex R H) : ∀ {ds : List Dt} {ks : List Int} {vs : List V}, Rows ds ks → IsA K R ds vs → Paired (FstV K H) vs ks ∧ Paired (Is K R) ds vs
  | [], _, vs, .nil, h => by rw [IsA] at h; subst h; exact ⟨.nil, .nil⟩
  | d :: r, k :: _, vs, .cons hx t, h => by
    obtain ⟨x, rfl⟩ : ∃ r, d = .tup (di k :: r) := hx
    rw [IsA] at h
    obtain ⟨v, w, rfl, h1, h2⟩ := h
    obtain ⟨a, b⟩ := rows_fst e t h2
    refine ⟨.cons ?_ a, .cons h1 b⟩
    rw [Is] at h1
    obtain ⟨p, us, rfl, h3, h4⟩ := h1
    rw [IsA] at h4
    obtain ⟨u, us', rfl, h5, _⟩ := h4
    rw [Is.v_iff.mp h5] at h3
    exact ⟨p, us', rfl, e.t h3⟩
/-- sorted(rows): the same rows, by their first ints -/
theorem e_sortF {ds : List Dt} {ks : List Int} {ms : List (Dt × Int)} (h : EvS C te A (.tup ds) A1) (hr : Rows ds ks) (nd : ks.Nodup) (hm : ms.Perm (ds.zip ks)) (ho : ms.Pairwise fun x y => x.2 < y.2) : EvS C (tCB (rSortF C.K) (tCons te tNil)) A (.lst (ms.map (·.1))) A1 := fun os σ H k Q q =>
  h os σ H k _ fun os1 v H1 k1 e1 i1 => by
    rw [Is] at i1
    obtain ⟨a, vs, rfl, h2, h3⟩ := i1
    obtain ⟨p1, p2⟩ := rows_fst (H := H1) hd_ex hr h3
    refine ⟨a, vs, ks, rfl, hd_ex.t h2, p1, nd, fun zs d hp hw hn => q os1 _ _ (k1.monoN hn) (e1.trans (k1.gr (Ex.new hn))) ?_⟩
    have l1 : ds.length = ks.length := Paired.length hr
    have l2 : vs.length = ks.length := Paired.length p1
    -- zs is ms with values for data
    have key : ∀ (ds : List Dt) (vs : List V) (ks : List Int), Paired (Is C.K (Rh C.O os1 H1)) ds vs → ds.length = ks.length → ∀ z ∈ vs.zip ks, ∃ d, (d, z.2) ∈ ds.zip ks ∧ Is C.K (Rh C.O os1 H1) d z.1 := by
      intro ds vs ks pr
      induction pr generalizing ks with
      | nil => intro _ z hz; simp at hz
      | cons hh _ ih =>
        intro hl z hz
        cases ks with
        | nil => simp at hl
        | cons k0 kr =>
          rw [List.zip_cons_cons] at hz
          rcases List.mem_cons.mp hz with e | e
          · subst e
            exact ⟨_, List.mem_cons_self .., hh⟩
          · obtain ⟨d, z1, z2⟩ := ih kr (by simpa using hl) z e
            exact ⟨d, List.mem_cons_of_mem _ z1, z2⟩
    have sndz : (zs.map (·.2)).Perm ks := by
      have := hp.map (·.2)
      rw [List.map_snd_zip (by omega)] at this
      exact this
    have sndm : (ms.map (·.2)).Perm ks := by
      have := hm.map (·.2)
      rw [List.map_snd_zip (by omega)] at this
      exact this
    have es : zs.map (·.2) = ms.map (·.2) := List.Perm.eq_of_pairwise (le := fun x y : Int => x ≤ y) (fun a b _ _ h1 h2 => Int.le_antisymm h1 h2) (List.pairwise_map.mpr hw) (List.pairwise_map.mpr (ho.imp fun {x y} h => (by omega : x.2 ≤ y.2))) (sndz.trans sndm.symm)
    have ndz : (ds.zip ks |>.map (·.2)).Nodup := by rw [List.map_snd_zip (by omega)]; exact nd
    have fin : ∀ (zs : List (V × Int)) (ms : List (Dt × Int)), zs.map (·.2) = ms.map (·.2) → (∀ z ∈ zs, z ∈ vs.zip ks) → (∀ m ∈ ms, m ∈ ds.zip ks) → IsA C.K (Rh C.O os1 H1) (ms.map (·.1)) (zs.map (·.1)) := by
      intro zs
      induction zs with
      | nil =>
        intro ms e _ _
        cases ms with
        | nil => exact isA_nil
        | cons m r => simp at e
      | cons z r ih =>
        intro ms e h1 h2
        cases ms with
        | nil => simp at e
        | cons m t =>
          rw [List.map_cons, List.map_cons] at e
          have e := List.cons.inj e
          rw [List.map_cons, List.map_cons]
          refine isA_cons ?_ (ih t e.2 (fun x hx => h1 x (List.mem_cons_of_mem _ hx)) fun x hx => h2 x (List.mem_cons_of_mem _ hx))
          obtain ⟨d, z1, z2⟩ := key ds vs ks p2 l1 z (h1 z (List.mem_cons_self ..))
          have := nd_inj ndz _ z1 _ (h2 m (List.mem_cons_self ..)) e.1
          rw [← this]
          exact z2
    rw [Is]
    refine ⟨d, _, rfl, SqL.of (k1.fresh hn), IsA.mono (hd_mono (Ex.new hn)) _ _ (fin zs ms es (fun z hz => hp.mem_iff.mp hz) fun m h => hm.mem_iff.mp h)⟩
end
end Py
end

section
set_option Elab.async false
set_option linter.all false
set_option maxRecDepth 100000
set_option maxHeartbeats 4000000
set_option autoImplicit false
namespace Py
open PySem PySem.Spec PyProof.Rows L2
/-! ### dict(list of pairs) -/
def mergeD (kvs more : KD) : KD := more.foldl (fun acc kv => putD acc kv.1 kv.2) kvs
theorem KvA.merge {K : Frg} {R : Hp} : ∀ {more : KD} {am : List (Key × V)} {kvs : KD} {acc : List (Key × V)}, KvA K R more am → KvA K R kvs acc → KvA K R (mergeD kvs more) (mergeK acc am)
  | [], am, kvs, acc, h, g => by
    rcases h.inv with ⟨_, rfl⟩ | ⟨_, _, _, _, _, e, _⟩
    · exact g
    · cases e
  | (k, d) :: r, am, kvs, acc, h, g => by
    rcases h.inv with ⟨e, _⟩ | ⟨k', d', v, r', s, e, rfl, h1, h2⟩
    · cases e
    · cases e
      show KvA K R (mergeD (putD kvs k d) r) (mergeK (putK acc k v) s)
      exact KvA.merge h2 (g.put h1)
/-- rDictL: what dict does with a list of pairs -/
def rDictL (K : Frg) : List V → Hp → VK → Prop := fun xs H Q => ∃ (a : Addr) (ps : List Addr) (kvs : List (Key × V)), xs = [.ref a] ∧ SqL K H a (ps.map V.ref) ∧ Paired (fun p kv => SqT K H p [kV kv.1, kv.2]) ps kvs ∧
    ∀ p, H p = none → Q (.ref p) (upd H p (.dK (mergeK [] kvs)))
theorem cr_dictL {X : Cx} (hc : X.calm = true) : CallR X (.type "dict") (rDictL X.K) := call_dictP hc
theorem cr_dictLK {X : Cx} {K : Frg} (hK : X.K = K) (hc : X.calm = true) : CallR X (.type "dict") (rDictL K) := by subst hK; exact call_dictP hc
theorem pairs_kv {K : Frg} {R H : Hp} (e : Ex R H) : ∀ {kvs : KD} {vs : List V}, IsA K R (kvs.map fun kv => Dt.tup [.v (kV kv.1), kv.2]) vs → ∃ (ps : List Addr) (acc : List (Key × V)), vs = ps.map V.ref ∧ Paired (fun p (kv : Key × V) => SqT K H p [kV kv.1, kv.2]) ps acc ∧ KvA K R kvs acc
  | [], vs, h => by
    rw [List.map_nil, IsA] at h
    subst h
    exact ⟨[], [], rfl, .nil, .nil⟩
  | (k, d) :: r, vs, h => by
    rw [List.map_cons, IsA] at h
    obtain ⟨v, w, rfl, h1, h2⟩ := h
    obtain ⟨ps, acc, rfl, p1, p2⟩ := pairs_kv e h2
    rw [Is] at h1
    obtain ⟨a, us, rfl, h3, h4⟩ := h1
    rw [IsA] at h4
    obtain ⟨u1, w1, rfl, h5, h4⟩ := h4
    rw [IsA] at h4
    obtain ⟨u2, w2, rfl, h6, h4⟩ := h4
    rw [IsA] at h4
    subst h4
    rw [Is.v_iff.mp h5] at h3
    exact ⟨a :: ps, (k, u2) :: acc, rfl, .cons (e.t h3) p1, KvA.cons h6 p2⟩
section
variable {C : Ct} {A A1 : AS} {ta : TA}
theorem e_dictL {kvs : KD} (h : EvA C ta A [.lst (kvs.map fun kv => Dt.tup [.v (kV kv.1), kv.2])] A1) : EvS C (tCB (rDictL C.K) ta) A (dD (mergeD [] kvs)) A1 := fun os σ H k Q q =>
  h os σ H k _ fun os1 vs H1 k1 e1 i1 => by
    rw [IsA] at i1
    obtain ⟨v, w, rfl, i1, i2⟩ := i1
    rw [IsA] at i2
    subst i2
    rw [Is] at i1
    obtain ⟨a, us, rfl, g1, g2⟩ := i1
    obtain ⟨ps, acc, rfl, p1, p2⟩ := pairs_kv (H := H1) hd_ex g2
    refine ⟨a, ps, acc, rfl, hd_ex.l g1, p1, fun p hp => q os1 _ _ (k1.monoN hp) (e1.trans (k1.gr (Ex.new hp))) ?_⟩
    have kk := (p2.merge .nil).mono (hd_mono (O := hid C.O os1) (Ex.new (o := .dK (mergeK [] acc)) hp))
    rw [Is]
    refine ⟨p, (mergeK [] acc).map (·.2), rfl, ?_, kk.2⟩
    rw [← kk.1, zip_un]
    exact k1.fresh hp
end
theorem mergeD_len : ∀ (l acc : KD), (mergeD acc l).length ≤ acc.length + l.length
  | [], acc => Nat.le_refl _
  | (k, d) :: r, acc => by
    have h1 := mergeD_len r (putD acc k d)
    have h2 := putD_len acc k d
    show (mergeD (putD acc k d) r).length ≤ _
    rw [List.length_cons]
    omega
theorem putD_new {acc : KD} {k : Key} {d : Dt} (h : k ∉ acc.map (·.1)) : putD acc k d = acc ++ [(k, d)] := by
  unfold putD
  rw [if_neg]
  intro z
  obtain ⟨x, hx, e⟩ := List.any_eq_true.mp z
  exact h (List.mem_map.mpr ⟨x, hx, of_decide_eq_true e⟩)
theorem putD_old {acc : KD} {k : Key} {d : Dt} (h : k ∈ acc.map (·.1)) : (putD acc k d).length = acc.length := by
  unfold putD
  rw [if_pos, List.length_map]
  obtain ⟨x, hx, e⟩ := List.mem_map.mp h
  exact List.any_eq_true.mpr ⟨x, hx, decide_eq_true e⟩
theorem putD_keys (acc : KD) (k : Key) (d : Dt) : ∀ x, x ∈ (putD acc k d).map (·.1) ↔ x ∈ acc.map (·.1) ∨ x = k := fun x => by
  unfold putD
  split
  · rename_i h
    obtain ⟨y, hy, e⟩ := List.any_eq_true.mp h
    have e := of_decide_eq_true e
    have : (acc.map fun kv => if kv.1 = k then (kv.1, d) else kv).map (·.1) = acc.map (·.1) := by
      rw [List.map_map]
      apply List.map_congr_left
      intro z _
      show (if z.1 = k then (z.1, d) else z).1 = z.1
      split <;> rfl
    rw [this]
    constructor
    · exact .inl
    · rintro (z | z)
      · exact z
      · rw [z, ← e]; exact List.mem_map.mpr ⟨y, hy, rfl⟩
  · rw [List.map_append, List.mem_append]
    simp
/-- as many as there are, if no key stands twice; else fewer -/
theorem mergeD_iff : ∀ (l acc : KD), (mergeD acc l).length = acc.length + l.length ↔ (l.map (·.1)).Nodup ∧ ∀ k ∈ l.map (·.1), k ∉ acc.map (·.1)
  | [], acc => by simp [mergeD]
  | (k, d) :: r, acc => by
    show (mergeD (putD acc k d) r).length = _ ↔ _
    rw [List.length_cons, List.map_cons, List.nodup_cons]
    by_cases h : k ∈ acc.map (·.1)
    · have h1 := mergeD_len r (putD acc k d)
      rw [putD_old h] at h1
      constructor
      · intro z; omega
      · intro z; exact absurd h (z.2 k (List.mem_cons_self ..))
    · have ih := mergeD_iff r (putD acc k d)
      have e : (putD acc k d).length = acc.length + 1 := by rw [putD_new h]; simp
      rw [e] at ih
      rw [show acc.length + (r.length + 1) = acc.length + 1 + r.length by omega, ih]
      constructor
      · rintro ⟨z1, z2⟩
        have kr : k ∉ r.map (·.1) := fun q => z2 k q ((putD_keys acc k d k).mpr (.inr rfl))
        refine ⟨⟨kr, z1⟩, fun x hx => ?_⟩
        rcases List.mem_cons.mp hx with q | q
        · rw [q]; exact h
        · exact fun w => z2 x q ((putD_keys acc k d x).mpr (.inl w))
      · rintro ⟨⟨z1, z2⟩, z3⟩
        refine ⟨z2, fun x hx w => ?_⟩
        rcases (putD_keys acc k d x).mp w with q | q
        · exact z3 x (List.mem_cons_of_mem _ hx) q
        · exact z1 (by rw [← q]; exact hx)
theorem mergeD_nd {l : KD} (h : (l.map (·.1)).Nodup) : mergeD [] l = l := by
  have go : ∀ (l acc : KD), (l.map (·.1)).Nodup → (∀ k ∈ l.map (·.1), k ∉ acc.map (·.1)) → mergeD acc l = acc ++ l := by
    intro l
    induction l with
    | nil => intro acc _ _; rw [List.append_nil]; rfl
    | cons a r ih =>
      intro acc nd hk
      obtain ⟨k, d⟩ := a
      rw [List.map_cons, List.nodup_cons] at nd
      show mergeD (putD acc k d) r = _
      rw [putD_new (hk k (List.mem_cons_self ..)), ih _ nd.2 fun x hx w => ?_]
      · simp
      · rw [List.map_append, List.mem_append] at w
        rcases w with w | w
        · exact hk x (List.mem_cons_of_mem _ hx) w
        · simp at w
          exact nd.1 (by rw [← w]; exact hx)
  have := go l [] h (fun _ _ z => by cases z)
  rw [this, List.nil_append]
end Py
end

section
set_option Elab.async false
set_option linter.all false
set_option maxRecDepth 100000
set_option maxHeartbeats 4000000
set_option autoImplicit false
namespace Py
open PySem PySem.Spec PyProof.Rows L2
variable {X : Cx}
/-- a block's end: what it made goes to a local name -/
theorem named_end {pins : List (Addr × Obj)} {σ : L2.St} {H' : Hp} {s' : Shared} {D : Ends} {i : Nat} {y : Str} {py : Pos} {L B : Addr} {m : Str → Option Value} (hN : X.N.Nodup) (hy : X.N[i]? = some y) (hyl : X.env.scope.names.lookup y = some .local)
    (I : Inv X pins σ H' s') (q : gName i (.ref L) σ H' D.nx) (hn : s'.heap.Ns B m) (f : FpOk X pins H' B) : compPost (model X.prog X.w) X.A X.xe (some (assign (.Name y py) X.env)) (fun _ z => SP X pins D .next z) (.ref L) B (.ok .next) s' := by
  obtain ⟨b0, b1, _, b3, b4, b5⟩ := id f
  show wpAny _ _ (assign (Expr.Name y py) X.env (Value.ref L)) _ _ _
  apply wpAny_assign_Name
  refine store_ok2 (v := V.ref L) I hN hy (Or.inl hyl) rfl ?_ (Or.inr hyl)
  rintro z J ⟨c, same, whose⟩
  have apart : B ≠ c := fun e => by
    rcases whose with w | w
    · exact b1 (e.trans w)
    · exact b4 y c w e.symm
  refine ⟨m, hn.sameBut same apart, fun _ left => ⟨_, H', ?_, q⟩⟩
  exact J.turned (t' := z.toks) (fun d o hd e => (left.2 d hd).trans e) b0 b1 b3 b4 b5
/-- x = {k: v for ..}, x a local name -/
theorem ps_setDc {i : Nat} {y : Str} {py : Pos} {kx vx tg iter : Expr} {ifs : List Expr} {scope : Scope} {own : List (Str × Nat)} {pos spos : Pos} {wi : TI} {g : TG} {tt : TT} {tk tv : TE} (calm : X.calm = true) (hN : X.N.Nodup) (hy : X.N[i]? = some y) (hyl : X.env.scope.names.lookup y = some .local)
    (hsw : swapsWith (.DictComp kx vx [⟨tg, iter, ifs, 0⟩] scope pos) (some (.Name y py)) spos.line X.env = pure true) (over : PI X tg iter wi) (ok : BlkOk X.N X.env.scope scope own)
    (tgt : ∀ (s : Shared) (H : Hp) (B : Addr) (cells : List (Str × Addr)) (fp : List Addr), PG (X.blk s H scope (compEnvC scope cells B X.env) fp) tg g) (tests : ∀ (s : Shared) (H : Hp) (B : Addr) (cells : List (Str × Addr)) (fp : List Addr), PTs (X.blk s H scope (compEnvC scope cells B X.env) fp) ifs tt)
    (key : ∀ (s : Shared) (H : Hp) (B : Addr) (cells : List (Str × Addr)) (fp : List Addr), PE (X.blk s H scope (compEnvC scope cells B X.env) fp) kx tk)
    (val : ∀ (s : Shared) (H : Hp) (B : Addr) (cells : List (Str × Addr)) (fp : List Addr), PE (X.blk s H scope (compEnvC scope cells B X.env) fp) vx tv) (fold : ∀ x, foldedSetIterable iter X.env x = pure x := by intro _; rfl) :
    PS X (.Assign [.Name y py] (.DictComp kx vx [⟨tg, iter, ifs, 0⟩] scope pos) spos) (tAsg (tDc wi g tt tk tv (own.map (·.2))) (gName i)) where
  run pins s σ H D I h := by
    rw [exec_Assign_Name_used _ _ _ _ hsw]
    apply wpAny_bind
    apply wpAny_standAt
    apply wpAny_bind
    have gives : tDc wi g tt tk tv (own.map (·.2)) σ H fun x H1 => gName i x σ H1 D.nx := h
    have made := dc_core (pos := pos) (pos' := firstIterPos [⟨tg, iter, ifs, 0⟩] pos) (use := some (assign (.Name y py) X.env)) (Qf := fun _ z => SP X pins D .next z) calm hN I over ok tgt tests key val fold gives fun _ _ _ _ _ J q hn f => named_end hN hy hyl J q hn f
    show wpAny _ X.A (comprehension (.DictComp kx vx [⟨tg, iter, ifs, 0⟩] scope pos) scope X.env _ newDict false (eval iter X.env) (some (assign (.Name y py) X.env)) >>= fun _ => _) _ _ s
    exact wpAny_bind (thn made fun _ _ e => wpAny_pure (wpAny_pure e))
/-- such a dict is made before the name is given away -/
theorem sw_trueD {kx vx : Expr} {gs : List Comprehension} {scope : Scope} {pos py : Pos} {y : Str} {l : Nat} {env : Env} (isF : env.scope.kind = .function) (isL : env.scope.names.lookup y = some .local) (line : (py.line == pos.line) = true)
    (notIn : (scope.names.any fun (n, k) => n == y && (k == .local || k == .cell)) = false) : swapsWith (.DictComp kx vx gs scope pos) (some (.Name y py)) l env = pure true := by
  have here : env.blockKind = .function := by
    unfold Env.blockKind
    rw [isF]
    rfl
  have kind : env.kindOf y = some .local := isL
  unfold swapsWith
  simp only [here, kind, notIn, Expr.pos, line]
  rfl
end Py
end

section
set_option Elab.async false
set_option linter.all false
set_option maxRecDepth 100000
set_option maxHeartbeats 4000000
set_option autoImplicit false
namespace Py
open PySem PySem.Spec PyProof.Rows L2
/-! ### instances that are made and then read only: data -/
theorem nt_own {x : Addr} : NoT (.own x) := fun ps z => by cases z
section
variable {C : Ct} {A A1 A2 : AS} {E : XK} {ta tv : TE} {tl : TA} {P : Po} {Cl : Addr} {ns : List Str} {xs ds : List Dt} {d : Dt} {f m : Str} {i n : Nat}
theorem look_zip {K : Frg} {R : Hp} : ∀ {ns : List Str} {xs : List Dt} {vs : List V}, IsA K R xs vs → (ns.zip xs).lookup f = some d → ∃ v, (ns.zip vs).lookup f = some v ∧ Is K R d v
  | [], xs, vs, h, e => by simp at e
  | n :: ns, [], vs, h, e => by simp at e
  | n :: ns, x :: xs, vs, h, e => by
    rw [IsA] at h
    obtain ⟨v, w, rfl, h1, h2⟩ := h
    rw [List.zip_cons_cons, List.lookup_cons] at e ⊢
    split at e
    · cases e
      exact ⟨v, rfl, h1⟩
    · exact look_zip h2 e
/-- e.f, e an instance -/
theorem e_fld (h : EvS C ta A (.obj Cl ns xs) A1) (c : Cls C.K Cl) (na : NoAttr C.K Cl f) (hl : (ns.zip xs).lookup f = some d) : EvS C (tFld C.K ta f) A d A1 := fun os σ H k Q q =>
  h os σ H k _ fun os1 v1 H1 k1 g1 i1 => by
    rw [Is] at i1
    obtain ⟨a, dx, vs, rfl, h2, h3⟩ := i1
    obtain ⟨v, e1, e2⟩ := look_zip h3 hl
    exact ⟨a, Cl, dx, ns.zip vs, v, rfl, hd_ex a _ h2 nt_i, c, na, e1, q os1 v H1 k1 g1 e2⟩
theorem look_none {α : Type} : ∀ {ns : List Str} {vs : List α}, m ∉ ns → (ns.zip vs).lookup m = none
  | [], vs, h => by simp
  | n :: ns, [], h => by simp
  | n :: ns, v :: vs, h => by
    rw [List.zip_cons_cons, List.lookup_cons]
    have h1 : m ≠ n := fun z => h (by rw [z]; exact List.mem_cons_self ..)
    rw [show (m == n) = false from beq_eq_false_iff_ne.mpr h1]
    exact look_none fun z => h (List.mem_cons_of_mem _ z)
/-- o.m(..), o an instance -/
theorem e_meth {g : List Dt → Rs → Prop} {E' : XK} (h : EvS C ta A (.obj Cl ns xs) A1) (hm : m ∉ ns) (ha : EvA C tl A1 ds A2) (hg : g (.obj Cl ns xs :: ds) (.ok d)) : EvS C (tMeth Cl m (spD C.K C.T g) [] E' ta tl) A d A2 := fun os σ H k Q q =>
  h os σ H k _ fun os1 v1 H1 k1 g1 i1 => by
    have j1 := i1
    rw [Is] at i1
    obtain ⟨a, dx, vs, rfl, h2, h3⟩ := i1
    refine ⟨a, dx, ns.zip vs, rfl, hd_ex a _ h2 nt_i, look_none hm, ha os1 σ H1 k1 _ fun os2 us H2 k2 g2 i2 => ?_⟩
    exact ⟨hid C.O os2, .obj Cl ns xs :: ds, .ok d, fun b hb => k2.hidden hb, k2.tb, by rw [List.append_nil]; exact isA_cons (Is.mono g2.e _ _ j1) i2, hg, fun v H' e t i => q os2 v H' (k2.mono e t) ((g1.trans g2).trans (k2.gr e)) i⟩
theorem x_meth {g : List Dt → Rs → Prop} {c : Addr} (h : EvS C ta A (.obj Cl ns xs) A1) (hm : m ∉ ns) (ha : EvA C tl A1 ds A2) (hg : g (.obj Cl ns xs :: ds) (.err c)) : EvX C E (tMeth Cl m (spD C.K C.T g) [] E ta tl) A c A2 := fun os σ H k hE Q =>
  h os σ H k _ fun os1 v1 H1 k1 g1 i1 => by
    have j1 := i1
    rw [Is] at i1
    obtain ⟨a, dx, vs, rfl, h2, h3⟩ := i1
    refine ⟨a, dx, ns.zip vs, rfl, hd_ex a _ h2 nt_i, look_none hm, ha os1 σ H1 k1 _ fun os2 us H2 k2 g2 i2 => ?_⟩
    exact ⟨hid C.O os2, .obj Cl ns xs :: ds, .err c, fun b hb => k2.hidden hb, k2.tb, by rw [List.append_nil]; exact isA_cons (Is.mono g2.e _ _ j1) i2, hg, fun H' e t => hE os2 H' (k2.mono e t) ((g1.trans g2).trans (k2.gr e))⟩
end
/-! ### __init__: a new instance's fields are set -/
inductive IR where
  | ok (ns : List Str) (xs : List Dt)
  | err (c : Addr)
def spInit (K : Frg) (T : List (Addr × Str)) (Cl : Addr) (g : List Dt → IR → Prop) : Sp := fun vs H Q E => ∃ (O : List Addr) (a dx : Addr) (ws : List V) (ds : List Dt) (r : IR), vs = .ref a :: ws ∧ a ∉ O ∧ (∀ b ∈ O, ∃ o, H b = some o ∧ NoT o) ∧ H a = some (.ins Cl dx []) ∧ IsA K (hd (a :: O) H) ds ws ∧ g ds r ∧ LamX.Tabs T H ∧
  match r with
  | .ok ns xs => ∀ H' dx' fs, (∀ b o, b ≠ a → H b = some o → NoT o → H' b = some o) → LamX.Tabs T H' → H' a = some (.ins Cl dx' fs) → fs.map (·.1) = ns → IsA K (hd (a :: O) H') xs (fs.map (·.2)) → Q .non H'
  | .err c => ∀ H', (∀ b o, b ≠ a → H b = some o → NoT o → H' b = some o) → LamX.Tabs T H' → E (.ref c) none H'
section
variable {C : Ct} {A A1 : AS} {E : XK} {tl : TA} {Cl : Addr} {ns : List Str} {xs ds : List Dt}
theorem make_start {os1 : List (Option Addr)} {σ : Sg} {H1 : Hp} {x dx : Addr} {vs : List V} (k1 : Ok C os1 A1 σ H1) (i1 : IsA C.K (Rh C.O os1 H1) ds vs) (hx : H1 x = none) (hdx : H1 dx = none) (ne : dx ≠ x) :
    Ok C os1 A1 σ (upd H1 dx (.own x)) ∧ (upd H1 dx (.own x)) x = none ∧ x ∉ hid C.O os1 ∧ (∀ b ∈ hid C.O os1, ∃ o, (upd (upd H1 dx (.own x)) x (.ins Cl dx [])) b = some o ∧ NoT o) ∧ IsA C.K (hd (x :: hid C.O os1) (upd (upd H1 dx (.own x)) x (.ins Cl dx []))) ds vs ∧ LamX.Tabs C.T (upd (upd H1 dx (.own x)) x (.ins Cl dx [])) := by
  have k2 := k1.monoN (o := .own x) hdx
  have hx2 : (upd H1 dx (.own x)) x = none := by rw [upd_ne (fun z => ne z.symm)]; exact hx
  have k3 := k2.hide (o := .ins Cl dx []) hx2 nt_i
  refine ⟨k2, hx2, k1.new hx, fun b hb => ?_, ?_, k3.tb⟩
  · obtain ⟨o, e, nt⟩ := k2.hidden hb
    exact ⟨o, by rw [upd_ne (ne_of_none e hx2)]; exact e, nt⟩
  · have e : hd (x :: hid C.O os1) (upd (upd H1 dx (.own x)) x (.ins Cl dx [])) = Rh C.O os1 (upd H1 dx (.own x)) := Rh_hide (O := C.O) (os := os1) hx2
    rw [e]
    exact IsA.mono (hd_mono (Ex.new hdx)) _ _ i1
/-- Cl(..) -/
theorem e_make {g : List Dt → IR → Prop} {E' : XK} (ha : EvA C tl A ds A1) (hg : g ds (.ok ns xs)) : EvS C (tMake Cl (spInit C.K C.T Cl g) [] E' tl) A (.obj Cl ns xs) A1 := fun os σ H k Q q =>
  ha os σ H k _ fun os1 vs H1 k1 g1 i1 x dx hx hdx ne => by
    obtain ⟨k2, hx2, nx, hO, hi, ht⟩ := make_start (Cl := Cl) k1 i1 hx hdx ne
    refine ⟨hid C.O os1, x, dx, vs, ds, .ok ns xs, by rw [List.append_nil], nx, hO, upd_same, hi, hg, ht, fun H' dx' fs ex tb hins hns hxs => ⟨rfl, ?_⟩⟩
    have e2 : Ex (upd H1 dx (.own x)) H' := fun b o hb nt => by
      have nb : b ≠ x := ne_of_none hb hx2
      exact ex b o nb (by rw [upd_ne nb]; exact hb) nt
    refine q os1 _ H' (k2.mono e2 tb) ((g1.trans (k1.gr (Ex.new hdx))).trans (k2.gr e2)) ?_
    rw [Is]
    refine ⟨x, dx', fs.map (fun kv : Str × V => kv.2), rfl, ?_, IsA.mono (Rh_unhide (O := C.O) (os := os1) (p := x)) _ _ (show IsA C.K (Rh (x :: C.O) os1 H') xs _ from hxs)⟩
    rw [← hns, zip_un]
    show hd _ H' x = _
    rw [hd_of nx]
    exact hins
theorem x_make {g : List Dt → IR → Prop} {c : Addr} (ha : EvA C tl A ds A1) (hg : g ds (.err c)) : EvX C E (tMake Cl (spInit C.K C.T Cl g) [] E tl) A c A1 := fun os σ H k hE Q =>
  ha os σ H k _ fun os1 vs H1 k1 g1 i1 x dx hx hdx ne => by
    obtain ⟨k2, hx2, nx, hO, hi, ht⟩ := make_start (Cl := Cl) k1 i1 hx hdx ne
    refine ⟨hid C.O os1, x, dx, vs, ds, .err c, by rw [List.append_nil], nx, hO, upd_same, hi, hg, ht, fun H' ex tb => ?_⟩
    have e2 : Ex (upd H1 dx (.own x)) H' := fun b o hb nt => by
      have nb : b ≠ x := ne_of_none hb hx2
      exact ex b o nb (by rw [upd_ne nb]; exact hb) nt
    exact hE os1 H' (k2.mono e2 tb) ((g1.trans (k1.gr (Ex.new hdx))).trans (k2.gr e2))
end
theorem putF_new {f : Str} {v : V} : ∀ {fs : List (Str × V)}, f ∉ fs.map (·.1) → putF f v fs = fs ++ [(f, v)]
  | [], _ => rfl
  | (g, x) :: r, h => by
    rw [List.map_cons] at h
    have h1 : g ≠ f := fun z => h (by rw [← z]; exact List.mem_cons_self ..)
    rw [putF, if_neg h1, putF_new fun z => h (List.mem_cons_of_mem _ z)]; rfl
theorem tabs_ins {T : List (Addr × Str)} {H : Hp} {p C dx C' dx' : Addr} {fs fs' : List (Str × V)} (t : LamX.Tabs T H) (hp : H p = some (.ins C dx fs)) : LamX.Tabs T (upd H p (.ins C' dx' fs')) := fun q hq => by
  obtain ⟨ps, h1, h2, h3⟩ := t q hq
  refine ⟨ps, ?_, h2, fun pos cv hc => ?_⟩
  · rw [upd_ne (ne_of h1 hp (fun z => by cases z))]
    exact h1
  · obtain ⟨c, e1, e2⟩ := h3 pos cv hc
    refine ⟨c, e1, ?_⟩
    rw [upd_ne (ne_of e2 hp (fun z => by unfold LamX.CodeO at z; cases z))]
    exact e2
theorem svA_app {K : Frg} {os : List (Option Addr)} {R : Hp} : ∀ {xs ys : List SD} {vs ws : List V}, SvA K os R xs vs → SvA K os R ys ws → SvA K os R (xs ++ ys) (vs ++ ws)
  | [], ys, vs, ws, h, g => by rw [SvA] at h; subst h; exact g
  | x :: r, ys, vs, ws, h, g => by
    obtain ⟨v, w, rfl, h1, h2⟩ := h
    exact ⟨v, w ++ ws, rfl, h1, svA_app h2 g⟩
section
variable {C : Ct} {A A1 : AS} {E : XK} {tv : TE} {P : Po} {Cl : Addr} {ns : List Str} {xs : List SD} {d : Dt} {f : Str} {i n : Nat}
theorem obj_at {os : List (Option Addr)} {σ : Sg} {H : Hp} (k : Ok C os A σ H) (h1 : A.sl[i]? = some (.own n)) (h2 : A.st[n]? = some (.obj Cl ns xs)) : ∃ a dx fs, σ[i]? = some (some (.ref a)) ∧ os[n]? = some (some a) ∧ H a = some (.ins Cl dx fs) ∧ fs.map (·.1) = ns ∧ SvA C.K os (Rh C.O os H) xs (fs.map (·.2)) := by
  obtain ⟨o, f1, a, f2, f3⟩ := k.slot h1
  subst f2
  obtain ⟨o3, s1, a', dx, fs, s2, s3, s4, s5⟩ := k.store h2
  rw [f3] at s1; cases s1; cases s2
  exact ⟨a, dx, fs, f1, f3, s3, s4, s5⟩
/-- self.f = value, f not there yet -/
theorem r_fldN (hv : EvS C tv A d A1) (h1 : A1.sl[i]? = some (.own n)) (h2 : A1.st[n]? = some (.obj Cl ns xs)) (c : Cls C.K Cl) (na : NoAttr C.K Cl f) (hl : ns.length < 1000) (hf : f ∉ ns) (h : P.nx (A1.upG n (.obj Cl (ns ++ [f]) (xs ++ [.d d])))) : RunS C E (sFld C.K (tVar i) tv f) A P := fun os σ H D k T =>
  hv os σ H k _ fun os1 v H1 k1 g1 i1 => by
    obtain ⟨a, dx, fs, e1, e2, e3, e4, e5⟩ := obj_at k1 h1 h2
    refine ⟨_, e1, a, Cl, dx, fs, rfl, e3, c, na, by rw [← List.length_map (f := (·.1)), e4]; exact hl, ?_⟩
    rw [putF_new (by rw [e4]; exact hf)]
    refine T.nx os1 _ σ _ h (k1.upG e2 (tabs_ins k1.tb e3) nt_i ⟨a, dx, _, rfl, upd_same, by rw [List.map_append, e4]; rfl, ?_⟩) (Gr.s (g1.trans (Gr.up k1 e2)))
    rw [List.map_append]
    exact svA_app e5 ⟨v, [], rfl, ⟨v, rfl, i1⟩, rfl⟩
theorem look_sv {K : Frg} {os : List (Option Addr)} {R : Hp} : ∀ {fs : List (Str × V)} {xs : List SD}, SvA K os R xs (fs.map (·.2)) → ((fs.map (·.1)).zip xs).lookup f = some (.d d) → ∃ v, fs.lookup f = some v ∧ Is K R d v
  | [], xs, h, e => by simp at e
  | (g, v) :: r, [], h, e => by simp at e
  | (g, v) :: r, x :: xs, h, e => by
    rw [List.map_cons, SvA] at h
    obtain ⟨u, w, e1, h1, h2⟩ := h
    cases e1
    rw [List.map_cons, List.zip_cons_cons, List.lookup_cons] at e
    rw [List.lookup_cons]
    split at e
    · cases e
      rename_i q
      have q : (f == g) = true := q
      rw [q]
      obtain ⟨v', z1, z2⟩ := h1
      cases z1
      exact ⟨v, rfl, z2⟩
    · rename_i q
      have q : (f == g) = false := q
      rw [q]
      exact look_sv h2 e
/-- self.f, self one's own -/
theorem e_fldO (h1 : A.sl[i]? = some (.own n)) (h2 : A.st[n]? = some (.obj Cl ns xs)) (c : Cls C.K Cl) (na : NoAttr C.K Cl f) (hl : (ns.zip xs).lookup f = some (.d d)) : EvS C (tFld C.K (tVar i) f) A d A := fun os σ H k Q q => by
  obtain ⟨a, dx, fs, e1, e2, e3, e4, e5⟩ := obj_at k h1 h2
  subst e4
  obtain ⟨v, z1, z2⟩ := look_sv e5 hl
  exact ⟨_, e1, a, Cl, dx, fs, v, rfl, e3, c, na, z1, q os v H k Gr.refl z2⟩
end
/-! ### a def whose first argument is one's own, of any kind -/
theorem start_ownG {K : Frg} {T : List (Addr × Str)} {N : List Str} {O : List Addr} {a : Addr} {ho : HO} {od : OD} {ws : List V} {ds : List Dt} {H : Hp} (ht : LamX.Tabs T H) (ha : H a = some ho) (hn : NoT ho) (hO : a ∉ O) (hO2 : ∀ b ∈ O, ∃ o, H b = some o ∧ NoT o) (hw : IsA K (hd (a :: O) H) ds ws)
    (hs : StOk K [some a] (hd (a :: O) H) H (some a) od) : Ok ⟨K, T, fun b => if b = a then none else H b, O⟩ [some a] ⟨.own 0 :: (ds.map SD.d) ++ List.replicate (N.length - (ds.length + 1)) .un, [od]⟩ (L2.start N (.ref a :: ws)) H := by
  have hr : Rh O [some a] H = hd (a :: O) H := hd_same fun b => hid_one
  have hl := isA_len hw
  refine ⟨fun b o e n => ?_, ht, hO2, fun b h z => ?_, rfl, fun i j b h1 h2 => ?_, fun b h => ?_, ?_, fun i s o h1 h2 => ?_, fun i s o h1 h2 => ?_⟩
  · have e : (if b = a then none else H b) = some o := e
    split at e
    · cases e
    · exact e
  · obtain rfl := Option.some.inj (List.mem_singleton.mp z); exact hO h
  · cases i with
    | succ i => simp at h1
    | zero => cases j with
      | succ j => simp at h2
      | zero => rfl
  · obtain rfl := Option.some.inj (List.mem_singleton.mp h)
    refine ⟨fun o e => ?_, _, ha, hn⟩
    have e : (if b = b then none else H b) = some o := e
    rw [if_pos rfl] at e; cases e
  · simp [L2.start, hl]
  · rw [hr]
    cases i with
    | zero =>
      simp [L2.start] at h1 h2
      subst h1 h2
      exact ⟨a, rfl, rfl⟩
    | succ i =>
      have h1 : (ds.map SD.d ++ List.replicate (N.length - (ds.length + 1)) SD.un)[i]? = some s := by simpa using h1
      have h2 : (ws.map some ++ List.replicate (N.length - (ws.length + 1)) none)[i]? = some o := by simpa [L2.start] using h2
      rw [List.getElem?_append] at h1 h2
      rw [List.length_map] at h1 h2
      by_cases c : i < ds.length
      · rw [if_pos c, List.getElem?_map] at h1
        rw [if_pos (by omega), List.getElem?_map] at h2
        obtain ⟨d, e1, rfl⟩ := Option.map_eq_some_iff.mp h1
        obtain ⟨w, e2, rfl⟩ := Option.map_eq_some_iff.mp h2
        obtain ⟨w', e3, e4⟩ := isA_get hw e1
        rw [e2] at e3; cases e3
        exact ⟨w, rfl, e4⟩
      · rw [if_neg c, List.getElem?_replicate] at h1
        split at h1
        · cases h1; trivial
        · cases h1
  · cases i with
    | zero =>
      simp at h1 h2
      subst h1 h2
      rw [hr]
      exact hs
    | succ i => simp at h1
/-- what is asked of an __init__'s end -/
def poI (Cl : Addr) (r : IR) : Po := { nx := fun A => ∃ ns xs, r = .ok ns xs ∧ A.st[0]? = some (.obj Cl ns (xs.map SD.d)), rt := fun d A => d = dn ∧ ∃ ns xs, r = .ok ns xs ∧ A.st[0]? = some (.obj Cl ns (xs.map SD.d)), er := fun c => r = .err c }
def startI (N : List Str) (Cl : Addr) (ds : List Dt) : AS := ⟨.own 0 :: (ds.map SD.d) ++ List.replicate (N.length - (ds.length + 1)) .un, [.obj Cl [] []]⟩
theorem init_fin {K : Frg} {T : List (Addr × Str)} {N : List Str} {E : XK} {Cl : Addr} {g : List Dt → IR → Prop} {vs : List V} {H : Hp} {Q : VK} {t : TS} (h : spInit K T Cl g vs H Q E)
    (run : ∀ (H0 : Hp) (O : List Addr) ds r, g ds r → RunS ⟨K, T, H0, O⟩ E t (startI N Cl ds) (poI Cl r)) : t { nx := fun _ H' => Q .non H', rt := Q } (L2.start N vs) H := by
  obtain ⟨O, a, dx, ws, ds, r, rfl, hO, hO2, ha, hw, hg, ht, q⟩ := h
  have k := start_ownG (N := N) (od := .obj Cl [] []) ht ha nt_i hO hO2 hw ⟨a, dx, [], rfl, ha, rfl, rfl⟩
  have fin : ∀ {os : List (Option Addr)} {A : AS} {σ : Sg} {H' : Hp}, (∃ ns xs, r = .ok ns xs ∧ A.st[0]? = some (.obj Cl ns (xs.map SD.d))) → Ok ⟨K, T, fun b => if b = a then none else H b, O⟩ os A σ H' → Gs O [some a] H os H' → Q .non H' := by
    rintro os A σ H' ⟨ns, xs, rfl, h3⟩ k' g'
    obtain ⟨o, s1, a3, dx', fs, s2, s3, s4, s5⟩ := k'.store h3
    subst s2
    have o0 := (g'.p 0 (some a) rfl).resolve_right fun z => by rw [s1] at z; cases z
    rw [o0] at s1; cases s1
    refine q H' dx' fs (fun b o hb e n => k'.ex b o ?_ n) k'.tb s3 s4 ?_
    · show (if b = a then none else H b) = some o
      rw [if_neg hb]; exact e
    · refine IsA.mono (H' := hd (a :: O) H') (fun b o hb _ => ?_) _ _ (svA_d.mp s5)
      have hb : hd (hid O os) H' b = some o := hb
      unfold hd at hb ⊢
      split at hb
      · cases hb
      · rename_i nb
        rw [if_neg fun z => nb (mem_hid.mpr ?_)]
        · exact hb
        · rcases List.mem_cons.mp z with e | e
          · rw [e]; exact .inr (List.mem_of_getElem? o0)
          · exact .inl e
  refine run _ O ds r hg [some a] _ H _ k ⟨fun os A σ H' z k' g' => fin z k' g', fun os A σ r' u H' ⟨h1, z⟩ k' g' i' => ?_, fun _ _ _ _ z => z.elim, fun _ _ _ _ z => z.elim, fun c H' z e t => ?_⟩
  · subst h1
    rw [Is.v_iff.mp i']
    exact fin z k' g'
  · have z : r = .err c := z
    subst z
    exact q H' (fun b o hb h1 n => e b o (by show (if b = a then none else H b) = some o; rw [if_neg hb]; exact h1) n) t
end Py
end

section
set_option Elab.async false
set_option linter.all false
set_option maxRecDepth 100000
set_option maxHeartbeats 4000000
set_option autoImplicit false
namespace Py
open PySem PySem.Spec PyProof.Rows L2
/-! ### a class's methods and its making, with their promises -/
structure Gm (P : Program) (w : World) (K : Frg) (mg : Str → Option Value) (base : Heap) (Cl : Addr) (m : Str) (k : Nat) (sp : Sp) : Prop where
  ex : ∃ (a : Addr) (fd : FuncData) (ps : List Str), FnOk P w K mg base (L2.CX P w) k a fd ps sp ∧ Binds K fd ps [] ∧ Meth K Cl m a
  cl : Cls K Cl
structure Gk (P : Program) (w : World) (K : Frg) (mg : Str → Option Value) (base : Heap) (x : Str) (Cl : Addr) (k : Nat) (sp : Sp) : Prop where
  ex : ∃ (a : Addr) (fd : FuncData) (ps : List Str), FnOk P w K mg base (L2.CX P w) k a fd ps sp ∧ Binds K fd ps [] ∧ Mk K Cl a
  nm : mg x = some (.ref Cl)
/-- what stands behind such a promise may be used: o.m(..) by pe_meth, Cl(..) by pe_make -/
theorem Gm.use {P : Program} {w : World} {K : Frg} {mg : Str → Option Value} {base : Heap} {Cl : Addr} {m : Str} {k : Nat} {sp : Sp} {p : Prop} (G : Gm P w K mg base Cl m k sp)
    (h : ∀ a fd ps, FnOk P w K mg base (L2.CX P w) k a fd ps sp → Binds K fd ps [] → Meth K Cl m a → p) : p := by
  obtain ⟨a, fd, ps, F, hb, hm⟩ := G.ex
  exact h a fd ps F hb hm
theorem Gk.use {P : Program} {w : World} {K : Frg} {mg : Str → Option Value} {base : Heap} {Cl : Addr} {x : Str} {k : Nat} {sp : Sp} {p : Prop} (G : Gk P w K mg base x Cl k sp)
    (h : ∀ a fd ps, FnOk P w K mg base (L2.CX P w) k a fd ps sp → Binds K fd ps [] → Mk K Cl a → p) : p := by
  obtain ⟨a, fd, ps, F, hb, hm⟩ := G.ex
  exact h a fd ps F hb hm
/-- a method, by its body told over data (the instance is data, too) -/
theorem mkM {P : Program} {w : World} {K : Frg} {T : List (Addr × Str)} {mg : Str → Option Value} {base : Heap} {m q : Str} {params : Arguments} {body : List Stmt} {scope : Scope} {N ps : List Str} {k : Nat} {g : List Dt → Rs → Prop} {a Cl : Addr}
    (F : ∃ fd, FunD K m q params body scope [] [] a fd) (hm : Meth K Cl m a) (cl : Cls K Cl) (S : FnScope N ps scope)
    (hb : ∀ (kV doc pm : Value) (an : Option Addr) (cdv ct : Value) (us : List Value), us.length = ps.length → bindArgs (PySem.W.fnOf m q params body scope .none kV doc pm an cdv ct) ⟨us, []⟩ = pure (ps.zip us))
    (len : ∀ ds r, g ds r → ds.length = ps.length)
    (hbody : ∀ (cdv : Value) (A : Around) (outer : List Env) (s : Shared) (H : Hp) (E : XK), Room k (A.deeper (envOfC q scope s.heap.objs.size a cdv)) →
      ∃ t, PSs (cxOf (L2.CX P w) P w K mg base N q scope a cdv A outer s H E) body t ∧ ∀ O ds r, g ds r → RunS ⟨K, T, H, O⟩ E t (start N ds) (poR r)) : Gm P w K mg base Cl m (k + 1) (spD K T g) := by
  obtain ⟨fd, F⟩ := F
  refine ⟨⟨a, fd, ps, F.ok S (fun vs H Q E h => spD_len len vs H Q E h) (fun cdv A outer s H vs Q E hr h => ?_), F.bindsN hb, hm⟩, cl⟩
  obtain ⟨t, ht, run⟩ := hbody cdv A outer s H E hr
  exact ⟨t, ht, fin h run⟩
theorem spInit_len {K : Frg} {T : List (Addr × Str)} {Cl : Addr} {g : List Dt → IR → Prop} {n : Nat} (hg : ∀ ds r, g ds r → ds.length + 1 = n) : ∀ vs H Q E, spInit K T Cl g vs H Q E → vs.length = n := fun vs H Q E h => by
  obtain ⟨O, a, dx, ws, ds, r, rfl, _, _, _, hi, hg', _⟩ := h
  rw [List.length_cons, isA_len hi]
  exact hg _ _ hg'
/-- an __init__ -/
theorem mkI {P : Program} {w : World} {K : Frg} {T : List (Addr × Str)} {mg : Str → Option Value} {base : Heap} {x q : Str} {params : Arguments} {body : List Stmt} {scope : Scope} {N ps : List Str} {k : Nat} {g : List Dt → IR → Prop} {a Cl : Addr}
    (F : ∃ fd, FunD K "__init__" q params body scope [] [] a fd) (hm : Mk K Cl a) (nm : mg x = some (.ref Cl)) (S : FnScope N ps scope)
    (hb : ∀ (kV doc pm : Value) (an : Option Addr) (cdv ct : Value) (us : List Value), us.length = ps.length → bindArgs (PySem.W.fnOf "__init__" q params body scope .none kV doc pm an cdv ct) ⟨us, []⟩ = pure (ps.zip us))
    (len : ∀ ds r, g ds r → ds.length + 1 = ps.length)
    (hbody : ∀ (cdv : Value) (A : Around) (outer : List Env) (s : Shared) (H : Hp) (E : XK), Room k (A.deeper (envOfC q scope s.heap.objs.size a cdv)) →
      ∃ t, PSs (cxOf (L2.CX P w) P w K mg base N q scope a cdv A outer s H E) body t ∧ ∀ H0 O ds r, g ds r → RunS ⟨K, T, H0, O⟩ E t (startI N Cl ds) (poI Cl r)) : Gk P w K mg base x Cl (k + 1) (spInit K T Cl g) := by
  obtain ⟨fd, F⟩ := F
  refine ⟨⟨a, fd, ps, F.ok S (fun vs H Q E h => spInit_len len vs H Q E h) (fun cdv A outer s H vs Q E hr h => ?_), F.bindsN hb, hm⟩, nm⟩
  obtain ⟨t, ht, run⟩ := hbody cdv A outer s H E hr
  exact ⟨t, ht, init_fin h run⟩
end Py
end

section
set_option Elab.async false
set_option linter.all false
set_option maxRecDepth 100000
set_option maxHeartbeats 4000000
set_option autoImplicit false
namespace Py
open PySem PySem.Spec PyProof.Rows L2
/-! ### tuples known as objects, and dicts whose keys are such -/
section
variable {C : Ct} {A A1 A2 : AS} {te td ty : TE} {tl : TA} {xs ds : List Dt} {d : Dt}
theorem is_tupE {K : Frg} {H : Hp} {v : V} (h : Is K H (.tupE xs) v) : Is K H (.tup xs) v := by
  rw [Is] at h
  obtain ⟨a, vs, h1, h2, h3⟩ := h
  rw [Is]
  exact ⟨a, vs, h1, SqT.of h2, h3⟩
theorem e_unE (h : EvS C te A (.tupE xs) A1) : EvS C te A (.tup xs) A1 := fun os σ H k Q q => h os σ H k Q fun os1 v H1 k1 g1 i1 => q os1 v H1 k1 g1 (is_tupE i1)
theorem e_tupE (h : EvA C tl A ds A1) (hl : ds.length ≤ 100000) : EvS C (tTup tl) A (.tupE ds) A1 := fun os σ H k Q q =>
  h os σ H k _ fun os1 vs H1 k1 e1 i1 => ⟨by rw [isA_len i1]; exact Nat.le_trans hl (by decide), fun p hp => q os1 _ _ (k1.monoN hp) (e1.trans (k1.gr (Ex.new hp))) (by
    rw [Is]
    exact ⟨p, vs, rfl, k1.fresh hp, IsA.mono (hd_mono (Ex.new hp)) _ _ i1⟩)⟩
/-- tuple(xs), xs a list -/
theorem e_tupLE (h : EvS C te A (.lst xs) A1) :
    EvS C (tCB (fun ys H Q => ∃ p zs, ys = [V.ref p] ∧ ((SqL C.K H p zs ∧ ∀ (l : Addr), H l = none → Q (V.ref l) (upd H l (HO.tup zs))) ∨ SqT C.K H p zs ∧ Q (V.ref p) H)) (tCons te tNil)) A (.tupE xs) A1 := fun os σ H k Q q =>
  h os σ H k _ fun os1 v H1 k1 e1 i1 => by
    rw [Is] at i1
    obtain ⟨a, vs, rfl, h2, h3⟩ := i1
    refine ⟨a, vs, rfl, .inl ⟨hd_ex.l h2, fun l hl => q os1 _ _ (k1.monoN hl) (e1.trans (k1.gr (Ex.new hl))) ?_⟩⟩
    rw [Is]
    exact ⟨l, vs, rfl, k1.fresh hl, IsA.mono (hd_mono (Ex.new hl)) _ _ h3⟩
/-! dicts as data, the keys tuples of ints and texts -/
abbrev KDT := List (List Key × Dt)
abbrev dDT (kvs : KDT) : Dt := .dctT (kvs.map (·.1)) (kvs.map (·.2))
/-- a key's datum -/
def keyD (k : List Key) : Dt := .tupE (k.map fun x => .v (kV x))
theorem keyD_at {K : Frg} {H : Hp} {k : List Key} {v : V} (h : Is K H (keyD k) v) : ∃ b, v = .ref b ∧ H b = some (.tup (k.map kV)) := by
  unfold keyD at h
  rw [Is] at h
  obtain ⟨a, vs, rfl, h2, h3⟩ := h
  have : ∀ (k : List Key) (vs : List V), IsA K H (k.map fun x => Dt.v (kV x)) vs → vs = k.map kV := by
    intro k
    induction k with
    | nil => intro vs h; rw [List.map_nil, IsA] at h; exact h
    | cons x r ih =>
      intro vs h
      rw [List.map_cons, IsA] at h
      obtain ⟨v, w, rfl, h1, h2⟩ := h
      rw [Is.v_iff.mp h1, ih w h2]; rfl
  rw [this k vs h3] at h2
  exact ⟨a, rfl, h2⟩
def KvT (K : Frg) (R : Hp) (kvs : KDT) (acc : List (List Key × V)) : Prop := acc.map (·.1) = kvs.map (·.1) ∧ IsA K R (kvs.map (·.2)) (acc.map (·.2))
theorem kvT_of {K : Frg} {R : Hp} {kvs : KDT} {vs : List V} (h : IsA K R (kvs.map (·.2)) vs) : KvT K R kvs ((kvs.map (·.1)).zip vs) := by
  have hl := isA_len h
  rw [List.length_map] at hl
  exact ⟨by rw [List.map_fst_zip (by rw [List.length_map]; omega)], by rw [List.map_snd_zip (by rw [List.length_map]; omega)]; exact h⟩
theorem KvT.any {K : Frg} {R : Hp} {kvs : KDT} {acc : List (List Key × V)} {k : List Key} (h : KvT K R kvs acc) : (acc.any fun kv => decide (kv.1 = k)) = kvs.any fun kv => decide (kv.1 = k) := by
  rw [show (acc.any fun kv => decide (kv.1 = k)) = (acc.map (·.1)).any (fun x => decide (x = k)) by rw [List.any_map]; rfl, h.1, List.any_map]
  rfl
theorem valT_isSome {K : Frg} {R : Hp} {k0 : List Key} {kvs : KDT} {acc : List (List Key × V)} (h : KvT K R kvs acc) : (valV acc k0).isSome = kvs.any fun kv => decide (kv.1 = k0) := by
  rw [← valV_any, h.any]
theorem e_dinT {kvs : KDT} {k0 : List Key} (h1 : EvS C ty A (keyD k0) A1) (h2 : EvS C td A1 (dDT kvs) A2) : EvS C (tDIn ty td) A (db (kvs.any fun kv => decide (kv.1 = k0))) A2 := fun os σ H k Q q =>
  h1 os σ H k _ fun os1 v1 H1 k1 e1 i1 => h2 os1 σ H1 k1 _ fun os2 v2 H2 k2 e2 i2 => by
    obtain ⟨b, rfl, hb⟩ := keyD_at (Is.mono e2.e _ _ i1)
    rw [Is] at i2
    obtain ⟨a, vs, rfl, g1, g2⟩ := i2
    refine ⟨a, _, rfl, .inr ⟨_, k0, b, .inl (hd_ex a _ g1 nt_dt), rfl, hd_ex b _ hb nt_t, rfl⟩, ?_⟩
    rw [valT_isSome (kvT_of g2)]
    exact q os2 _ H2 k2 (e1.trans e2) is_v
theorem e_dnotinT {kvs : KDT} {k0 : List Key} (h1 : EvS C ty A (keyD k0) A1) (h2 : EvS C td A1 (dDT kvs) A2) : EvS C (tDNotIn ty td) A (db (!kvs.any fun kv => decide (kv.1 = k0))) A2 := fun os σ H k Q q =>
  h1 os σ H k _ fun os1 v1 H1 k1 e1 i1 => h2 os1 σ H1 k1 _ fun os2 v2 H2 k2 e2 i2 => by
    obtain ⟨b, rfl, hb⟩ := keyD_at (Is.mono e2.e _ _ i1)
    rw [Is] at i2
    obtain ⟨a, vs, rfl, g1, g2⟩ := i2
    refine ⟨a, _, rfl, .inr ⟨_, k0, b, .inl (hd_ex a _ g1 nt_dt), rfl, hd_ex b _ hb nt_t, rfl⟩, ?_⟩
    rw [valT_isSome (kvT_of g2)]
    exact q os2 _ H2 k2 (e1.trans e2) is_v
end
end Py
end

section
set_option Elab.async false
set_option linter.all false
set_option maxRecDepth 100000
set_option maxHeartbeats 4000000
set_option autoImplicit false
namespace Py
open PySem PySem.Spec PyProof.Rows L2
/-! ### sorted(x), x a list or a tuple of ints -/
section
open SrtO
variable {prog : Program} {w : World} {A : Around} {E : Value → Shared → Prop} {s : Shared}
theorem sorted_tupI {t : Addr} {us : List Value} {ns : List Int} {Q : Value → Shared → Prop} (ht : IsTup s.heap t us.toArray) (hz : us.length ≤ sizeLine) (hi : IntsAre us ns)
    (q : ∀ (h' : Heap) (out : List Value), Srtd ltIv out → Stb ltIv out us → (∀ b ob, s.heap.get? b = some ob → h'.get? b = some ob) → (∃ n, h'.get? (s.heap.objs.size + 1) = some (seqObj "list" out.toArray n)) → Q (.ref (s.heap.objs.size + 1)) { s with heap := h' }) :
    wpAny (model prog w) A (call (.builtin "sorted") [.ref t]) Q E s := by
  refine Calls.call_function_entry kind_sorted plain_sorted entry_sorted (args_sorted1 _) ?_
  unfold Builtin.«sorted»
  refine wpAny_bind (m := checkCount "sorted" 1 1 _) (wpAny_pure (wpAny_bind (gather_tuple ht hz (wpAny_bind (wpAny_newList ?_ hz)))))
  generalize hG : (gath s.heap us).push (seqObj "list" us.toArray 0) = G
  have gL : G.get? (s.heap.objs.size + 1) = some (seqObj "list" us.toArray 0) := by
    rw [← hG, ← gath_size s.heap us]; exact Heap.get?_push_size _ rfl
  have gO : ∀ b ob, s.heap.get? b = some ob → b ≠ s.heap.objs.size + 1 ∧ G.get? b = some ob := fun b ob g => by
    refine ⟨Nat.ne_of_lt (Nat.lt_succ_of_lt (Heap.lt_size g)), ?_⟩
    rw [← hG]; exact Heap.get?_push_of_some _ (gath_old g)
  show wpAny _ _ (holding [Value.ref (gath s.heap us).objs.size] (call (Value.builtin "list.sort") [Value.ref (gath s.heap us).objs.size] []) >>= fun _ => _) _ _ { s with heap := G }
  rw [gath_size]
  refine wpAny_bind (wpAny_holding (wpAny_call_entry slot_list_sort ⟨_, gL, rfl⟩ entry_list_sort (list_sort_ord swo_int gL hz (fun h2 => ints_sortable hi h2) fun out h3 h4 => ⟨_, rfl, wpAny_pure ⟨_, rfl, ?_⟩⟩) (args_list_sort _)))
  obtain ⟨n, e⟩ := PyProof.Rows.sortedHeap_at (vs := us) (out := out.toArray) gL
  exact q _ out h3 h4 (fun b ob g => (PyProof.Rows.sortedHeap_old (gO b ob g).1 (Heap.lt_size (gO b ob g).2)).trans (gO b ob g).2) ⟨n, e⟩
end
def rSortIA (K : Frg) : List V → Hp → VK → Prop := fun vs H Q => ∃ (a : Addr) (ns : List Int), vs = [.ref a] ∧ (SqL K H a (ns.map V.int) ∨ SqT K H a (ns.map V.int)) ∧
  ∀ (ms : List Int) (d : Addr), ms.Perm ns → ms.Pairwise (· ≤ ·) → H d = none → Q (.ref d) (upd H d (.lst (ms.map V.int)))
section
variable {X : Cx}
theorem cr_sortIA : CallR X (.builtin "sorted") (rSortIA X.K) := by
  intro pins s σ H vs us Q I r h
  obtain ⟨a, ns, rfl, hs | hs, q⟩ := h
  · exact cr_sortedI pins s σ H _ us Q I r ⟨a, ns, rfl, hs, q⟩
  obtain ⟨its, rv, hl, hz⟩ := I.tuple hs
  rw [Vals.ref1 r]
  have hi := rv.ints
  refine sorted_tupI hl (by rw [← rv.length]; exact hz) hi fun h' out h1 h2 kp hn => ?_
  obtain ⟨k1, k2, k3⟩ := SrtO.ints_out hi h1 h2
  obtain ⟨n, hn⟩ := hn
  have sz : ((out.map SrtO.iv).map V.int).length ≤ sizeLine := by
    rw [List.length_map] at hz ⊢
    rw [k2.length_eq]; exact hz
  exact ⟨.ref _, upd H (s.heap.objs.size + 1) (.lst ((out.map SrtO.iv).map V.int)), I.laid (t' := s.toks) kp (Nat.le_succ _) ⟨sz, out, n, vals_of_ints k1, hn⟩, rfl, q _ _ k2 k3 (I.hok.fresh (Nat.le_succ _))⟩
end
section
variable {C : Ct} {A A1 : AS} {te : TE}
theorem e_sortIT {ns ms : List Int} (h : EvS C te A (.tup (ns.map di)) A1) (hp : ms.Perm ns) (ho : ms.Pairwise (· ≤ ·)) : EvS C (tCB (rSortIA C.K) (tCons te tNil)) A (.lst (ms.map di)) A1 := fun os σ H k Q q =>
  h os σ H k _ fun os1 v H1 k1 e1 i1 => by
    rw [Is] at i1
    obtain ⟨a, vs, rfl, h2, h3⟩ := i1
    rw [show ns.map di = (ns.map V.int).map Dt.v by rw [List.map_map]; rfl] at h3
    rw [flat_eq h3] at h2
    refine ⟨a, ns, rfl, .inr (hd_ex.t h2), fun ns' p hp' hs hn => ?_⟩
    rw [sorted_one (hp'.trans hp.symm) hs ho]
    refine q os1 _ _ (k1.monoN hn) (e1.trans (k1.gr (Ex.new hn))) ?_
    rw [Is]
    exact ⟨p, _, rfl, SqL.of (k1.fresh hn), by rw [show ms.map di = (ms.map V.int).map Dt.v by rw [List.map_map]; rfl]; exact flat_isA⟩
end
end Py
end

section
set_option Elab.async false
set_option linter.all false
set_option maxRecDepth 100000
set_option maxHeartbeats 4000000
set_option autoImplicit false
namespace Py
open PySem PySem.Spec PyProof.Rows L2
/-! ### what an expression gives, data or one's own -/
def EvG (C : Ct) (te : TE) (A : AS) (s : SD) (A1 : AS) : Prop := ∀ os σ H, Ok C os A σ H → ∀ Q : VK, (∀ os' v H', Ok C os' A1 σ H' → Gr C.O os H os' H' → SlOk C.K os' (Rh C.O os' H') s (some v) → Q v H') → te σ H Q
section
variable {C : Ct} {A A1 A2 A3 : AS} {ta tb td ty te tv : TE} {tl : TA} {E : XK} {P : Po} {s : SD} {d : Dt} {i n : Nat} {Cl : Addr} {ns : List Str} {xs : List SD} {f m : Str}
theorem g_d (h : EvS C te A d A1) : EvG C te A (.d d) A1 := fun os σ H k Q q => h os σ H k Q fun os1 v H1 k1 g1 i1 => q os1 v H1 k1 g1 ⟨v, rfl, i1⟩
theorem e_g (h : EvG C te A (.d d) A1) : EvS C te A d A1 := fun os σ H k Q q => h os σ H k Q fun os1 v H1 k1 g1 ⟨u, e, i1⟩ => by
  cases e
  exact q os1 v H1 k1 g1 i1
theorem g_own (h : A.sl[i]? = some (.own n)) : EvG C (tVar i) A (.own n) A := fun os σ H k Q q => by
  obtain ⟨o, e, a, h1, h2⟩ := k.slot h
  subst h1
  exact ⟨_, e, q os _ H k Gr.refl ⟨a, rfl, h2⟩⟩
theorem g_is {s' : SD} (h : EvG C te A s A1) (e : s = s') : EvG C te A s' A1 := by rw [← e]; exact h
theorem g_st (h : EvG C te A s A1) (e : A1 = A2) : EvG C te A s A2 := by rw [← e]; exact h
/-- an own thing's address and its content -/
theorem Ok.at {os : List (Option Addr)} {σ : Sg} {H : Hp} {o : OD} {a : Addr} (k : Ok C os A σ H) (h1 : os[n]? = some (some a)) (h2 : A.st[n]? = some o) : StOk C.K os (Rh C.O os H) H (some a) o := k.st n o (some a) h2 h1
theorem look_svG {K : Frg} {os : List (Option Addr)} {R : Hp} : ∀ {fs : List (Str × V)} {xs : List SD}, SvA K os R xs (fs.map (·.2)) → ((fs.map (·.1)).zip xs).lookup f = some s → ∃ v, fs.lookup f = some v ∧ SlOk K os R s (some v)
  | [], xs, h, e => by simp at e
  | (g, v) :: r, [], h, e => by simp at e
  | (g, v) :: r, x :: xs, h, e => by
    rw [List.map_cons, SvA] at h
    obtain ⟨u, w, e1, h1, h2⟩ := h
    cases e1
    rw [List.map_cons, List.zip_cons_cons, List.lookup_cons] at e
    rw [List.lookup_cons]
    cases q : f == g with
    | true => rw [q] at e; cases e; exact ⟨v, rfl, h1⟩
    | false => rw [q] at e; exact look_svG h2 e
/-- e.f, e one's own -/
theorem g_fld (h : EvG C ta A (.own n) A1) (h2 : A1.st[n]? = some (.obj Cl ns xs)) (c : Cls C.K Cl) (na : NoAttr C.K Cl f) (hl : (ns.zip xs).lookup f = some s) : EvG C (tFld C.K ta f) A s A1 := fun os σ H k Q q =>
  h os σ H k _ fun os1 v1 H1 k1 g1 ⟨a, e1, e2⟩ => by
    cases e1
    obtain ⟨a', dx, fs, s1, s2, s3, s4⟩ := k1.at e2 h2
    cases s1
    subst s3
    obtain ⟨v, z1, z2⟩ := look_svG s4 hl
    exact ⟨a, Cl, dx, fs, v, rfl, s2, c, na, z1, q os1 v H1 k1 g1 z2⟩
theorem e_fldG (h : EvG C ta A (.own n) A1) (h2 : A1.st[n]? = some (.obj Cl ns xs)) (c : Cls C.K Cl) (na : NoAttr C.K Cl f) (hl : (ns.zip xs).lookup f = some (.d d)) : EvS C (tFld C.K ta f) A d A1 := e_g (g_fld h h2 c na hl)
end
/-! ### dicts of one's own with values of any kind -/
abbrev KS := List (Key × SD)
abbrev oS (kvs : KS) : OD := .dct (kvs.map (·.1)) (kvs.map (·.2))
def getS {β : Type} [DecidableEq β] (kvs : List (β × SD)) (k : β) : Option SD := (kvs.find? fun q => decide (q.1 = k)).map (·.2)
def putS {β α : Type} [DecidableEq β] (kvs : List (β × α)) (k : β) (s : α) : List (β × α) := if kvs.any (fun kv => decide (kv.1 = k)) then kvs.map (fun kv => if kv.1 = k then (kv.1, s) else kv) else kvs ++ [(k, s)]
def KvS {β : Type} (K : Frg) (os : List (Option Addr)) (R : Hp) (kvs : List (β × SD)) (acc : List (β × V)) : Prop := acc.map (·.1) = kvs.map (·.1) ∧ SvA K os R (kvs.map (·.2)) (acc.map (·.2))
section
variable {K : Frg} {os : List (Option Addr)} {R : Hp} {β : Type} [DecidableEq β] {kvs : List (β × SD)} {acc : List (β × V)} {k : β} {s : SD} {v : V}
theorem KvS.nil : KvS (β := β) K os R [] [] := ⟨rfl, rfl⟩
theorem KvS.cons {k' : β} {s' : SD} {v' : V} (h : SlOk K os R s' (some v')) (r : KvS K os R kvs acc) : KvS K os R ((k', s') :: kvs) ((k', v') :: acc) := ⟨by rw [List.map_cons, List.map_cons, r.1], ⟨v', acc.map (·.2), rfl, h, r.2⟩⟩
theorem KvS.inv : ∀ {kvs : List (β × SD)} {acc : List (β × V)}, KvS K os R kvs acc → (kvs = [] ∧ acc = []) ∨ ∃ k s v r t, kvs = (k, s) :: r ∧ acc = (k, v) :: t ∧ SlOk K os R s (some v) ∧ KvS K os R r t
  | [], acc, h => .inl ⟨rfl, by simpa using h.1⟩
  | (k, d) :: r, [], h => by have := h.1; simp at this
  | (k, d) :: r, (k', v) :: t, h => by
    obtain ⟨h1, u, w, e, h3, h4⟩ := h
    cases e
    rw [List.map_cons, List.map_cons] at h1
    obtain ⟨e1, e2⟩ := List.cons.inj h1
    have e1 : k' = k := e1
    subst e1
    exact .inr ⟨k', d, v, r, t, rfl, rfl, h3, e2, h4⟩
theorem KvS.len (h : KvS K os R kvs acc) : acc.length = kvs.length := by
  have := congrArg List.length h.1
  simpa using this
theorem KvS.any (h : KvS K os R kvs acc) : (acc.any fun kv => decide (kv.1 = k)) = kvs.any fun kv => decide (kv.1 = k) := by
  rw [show (acc.any fun kv => decide (kv.1 = k)) = (acc.map (·.1)).any (fun x => decide (x = k)) by rw [List.any_map]; rfl, h.1, List.any_map]
  rfl
theorem KvS.repl (hv : SlOk K os R s (some v)) : ∀ {kvs : List (β × SD)} {acc : List (β × V)}, KvS K os R kvs acc → KvS K os R (kvs.map fun kv => if kv.1 = k then (kv.1, s) else kv) (acc.map fun kv => if kv.1 = k then (kv.1, v) else kv)
  | [], acc, h => by
    rcases h.inv with ⟨_, rfl⟩ | ⟨_, _, _, _, _, e, _⟩
    · exact .nil
    · cases e
  | (k', d') :: r, acc, h => by
    rcases h.inv with ⟨e, _⟩ | ⟨k', d', u, r, t, e, rfl, h1, h2⟩
    · cases e
    · cases e
      rw [List.map_cons, List.map_cons]
      by_cases q : k' = k
      · rw [if_pos q, if_pos q]; exact (h2.repl hv).cons hv
      · rw [if_neg q, if_neg q]; exact (h2.repl hv).cons h1
theorem SvA.snoc : ∀ {xs : List SD} {vs : List V}, SvA K os R xs vs → SlOk K os R s (some v) → SvA K os R (xs ++ [s]) (vs ++ [v])
  | [], vs, h, hv => by
    obtain rfl : vs = [] := h
    exact ⟨v, [], rfl, hv, rfl⟩
  | x :: r, vs, ⟨u, w, e, h1, h2⟩, hv => by
    subst e
    exact ⟨u, w ++ [v], rfl, h1, h2.snoc hv⟩
theorem KvS.put (h : KvS K os R kvs acc) (hv : SlOk K os R s (some v)) : KvS K os R (putS kvs k s) (putS acc k v) := by
  unfold putS
  rw [h.any]
  split
  · exact h.repl hv
  · exact ⟨by rw [List.map_append, List.map_append, h.1]; rfl, by rw [List.map_append, List.map_append]; exact h.2.snoc hv⟩
theorem KvS.get : ∀ {kvs : List (β × SD)} {acc : List (β × V)}, KvS K os R kvs acc → getS kvs k = some s → ∃ v, ((acc.find? fun q => decide (q.1 = k)).map (·.2)) = some v ∧ SlOk K os R s (some v)
  | [], acc, h, e => by simp [getS] at e
  | (k', d') :: r, acc, h, e => by
    rcases h.inv with ⟨z, _⟩ | ⟨k', d', u, r, t, z, rfl, h1, h2⟩
    · cases z
    · cases z
      unfold getS at e
      by_cases q : k' = k
      · rw [List.find?_cons_of_pos (by simpa using q)] at e ⊢
        cases e
        exact ⟨u, rfl, h1⟩
      · rw [List.find?_cons_of_neg (by simpa using q)] at e ⊢
        exact h2.get e
theorem putK_S {acc : List (Key × V)} {k : Key} {v : V} : putK acc k v = putS acc k v := rfl
theorem putS_len {α : Type} (kvs : List (β × α)) (k : β) (s : α) : (putS kvs k s).length ≤ kvs.length + 1 := by
  unfold putS
  split
  · rw [List.length_map]; omega
  · simp
theorem SvA.gr {O : List Addr} {os' : List (Option Addr)} {H H' : Hp} (g : Gr O os H os' H') : ∀ {xs : List SD} {vs : List V}, SvA K os (Rh O os H) xs vs → SvA K os' (Rh O os' H') xs vs
  | [], _, h => h
  | _ :: _, _, ⟨v, w, h1, h2, h3⟩ => ⟨v, w, h1, h2.gr g, SvA.gr g h3⟩
theorem KvS.gr {O : List Addr} {os' : List (Option Addr)} {H H' : Hp} (g : Gr O os H os' H') (h : KvS K os (Rh O os H) kvs acc) : KvS K os' (Rh O os' H') kvs acc := ⟨h.1, h.2.gr g⟩
end
end Py
end

section
set_option Elab.async false
set_option linter.all false
set_option maxRecDepth 100000
set_option maxHeartbeats 4000000
set_option autoImplicit false
namespace Py
open PySem PySem.Spec PyProof.Rows L2
/-! ### own things read and written, wherever they stand -/
theorem tabs_at {T : List (Addr × Str)} {H : Hp} {p : Addr} {u o : HO} (t : LamX.Tabs T H) (hp : H p = some u) (h1 : NoT u) (h2 : ∀ φ, u ≠ .ext φ) : LamX.Tabs T (upd H p o) := fun q hq => by
  obtain ⟨ps, e1, e2, e3⟩ := t q hq
  refine ⟨ps, ?_, e2, fun pos cv hc => ?_⟩
  · rw [upd_ne fun z => ?_]
    · exact e1
    · rw [z, hp] at e1
      exact h1 ps (Option.some.inj e1)
  · obtain ⟨c, e4, e5⟩ := e3 pos cv hc
    refine ⟨c, e4, ?_⟩
    rw [upd_ne fun z => ?_]
    · exact e5
    · rw [z, hp] at e5
      exact h2 _ (Option.some.inj e5)
section
variable {C : Ct} {A A1 A2 A3 : AS} {ta tb td ty te tv : TE} {tl : TA} {E : XK} {P : Po} {s : SD} {d : Dt} {i n : Nat} {Cl : Addr} {ns : List Str} {xs : List SD} {f m : Str} {b : Bool}
/-- what a key is asked by -/
structure KyA (β : Type) (C : Ct) (A : AS) (ty : TE) (k0 : β) (A1 : AS) (Rel : V → Hp → Prop) : Prop where
  ev : ∀ os σ H, Ok C os A σ H → ∀ Q : VK, (∀ os' v H', Ok C os' A1 σ H' → Gr C.O os H os' H' → Rel v H' → Q v H') → ty σ H Q
/-- an own dict's content as told in the heap, locked or not -/
def OwnK (A : AS) (n : Nat) (kvs : KS) : Prop := A.st[n]? = some (oS kvs) ∨ ∃ u acc, A.st[n]? = some (.lckK u acc (kvs.map (·.2))) ∧ acc.map (·.1) = kvs.map (·.1)
theorem OwnK.at {os : List (Option Addr)} {σ : Sg} {H : Hp} {kvs : KS} {a : Addr} (h : OwnK A n kvs) (k : Ok C os A σ H) (h1 : os[n]? = some (some a)) : ∃ acc, Rd H a (.dK acc) ∧ KvS C.K os (Rh C.O os H) kvs acc := by
  rcases h with h | ⟨u, acc, h, e⟩
  · obtain ⟨a', acc, s1, s2, s3, s4⟩ := k.at h1 h
    cases s1
    exact ⟨acc, .inl s2, s3, s4⟩
  · obtain ⟨a', s1, s2, s4⟩ := k.at h1 h
    cases s1
    exact ⟨acc, .inr ⟨u, s2⟩, e, s4⟩
abbrev KST := List (List Key × SD)
abbrev oST (kvs : KST) : OD := .dctT (kvs.map (·.1)) (kvs.map (·.2))
def OwnT (A : AS) (n : Nat) (kvs : KST) : Prop := A.st[n]? = some (oST kvs) ∨ ∃ u acc, A.st[n]? = some (.lckT u acc (kvs.map (·.2))) ∧ acc.map (·.1) = kvs.map (·.1)
theorem OwnT.at {os : List (Option Addr)} {σ : Sg} {H : Hp} {kvs : KST} {a : Addr} (h : OwnT A n kvs) (k : Ok C os A σ H) (h1 : os[n]? = some (some a)) : ∃ acc, Rd H a (.dT acc) ∧ KvS C.K os (Rh C.O os H) kvs acc := by
  rcases h with h | ⟨u, acc, h, e⟩
  · obtain ⟨a', acc, s1, s2, s3, s4⟩ := k.at h1 h
    cases s1
    exact ⟨acc, .inl s2, s3, s4⟩
  · obtain ⟨a', s1, s2, s4⟩ := k.at h1 h
    cases s1
    exact ⟨acc, .inr ⟨u, s2⟩, e, s4⟩
theorem isSome_S {β : Type} [DecidableEq β] {K : Frg} {os : List (Option Addr)} {R : Hp} {kvs : List (β × SD)} {acc : List (β × V)} {k0 : β} (h : KvS K os R kvs acc) : (((acc.find? fun q => decide (q.1 = k0)).map (·.2)).isSome) = kvs.any fun kv => decide (kv.1 = k0) := by
  rw [← h.any]
  cases e : acc.find? fun q => decide (q.1 = k0) with
  | none =>
    rw [List.find?_eq_none] at e
    symm
    rw [Option.map_none, Option.isSome_none, List.any_eq_false]
    exact e
  | some x =>
    symm
    rw [Option.map_some, Option.isSome_some, List.any_eq_true]
    exact ⟨x, List.mem_of_find?_eq_some e, List.find?_some (p := fun q : β × V => decide (q.1 = k0)) e⟩
theorem g_dget {kvs : KS} {k0 : Key} (h1 : EvG C td A (.own n) A1) (h2 : EvS C ty A1 (.v (kV k0)) A2) (h3 : OwnK A2 n kvs) (h : getS kvs k0 = some s) : EvG C (tDGet td ty) A s A2 := fun os σ H k Q q =>
  h1 os σ H k _ fun os1 v1 H1 k1 g1 ⟨a, e1, e2⟩ => h2 os1 σ H1 k1 _ fun os2 v2 H2 k2 g2 i2 => by
    cases e1
    rw [Is.v_iff.mp i2]
    obtain ⟨acc, hr, hk⟩ := h3.at k2 (g2.p _ _ e2)
    obtain ⟨v, z1, z2⟩ := hk.get h
    exact ⟨a, v, rfl, .inl ⟨_, k0, hr, rfl, z1.symm⟩, q os2 v H2 k2 (g1.trans g2) z2⟩
theorem g_dgetT {kvs : KST} {k0 : List Key} (h1 : EvG C td A (.own n) A1) (h2 : EvS C ty A1 (keyD k0) A2) (h3 : OwnT A2 n kvs) (h : getS kvs k0 = some s) : EvG C (tDGet td ty) A s A2 := fun os σ H k Q q =>
  h1 os σ H k _ fun os1 v1 H1 k1 g1 ⟨a, e1, e2⟩ => h2 os1 σ H1 k1 _ fun os2 v2 H2 k2 g2 i2 => by
    cases e1
    obtain ⟨b, rfl, hb⟩ := keyD_at i2
    obtain ⟨acc, hr, hk⟩ := h3.at k2 (g2.p _ _ e2)
    obtain ⟨v, z1, z2⟩ := hk.get h
    exact ⟨a, v, rfl, .inr ⟨_, k0, b, hr, rfl, hd_ex b _ hb nt_t, z1.symm⟩, q os2 v H2 k2 (g1.trans g2) z2⟩
theorem e_dinG {kvs : KS} {k0 : Key} (h2 : EvS C ty A (.v (kV k0)) A1) (h1 : EvG C td A1 (.own n) A2) (h3 : OwnK A2 n kvs) : EvS C (tDIn ty td) A (db (kvs.any fun kv => decide (kv.1 = k0))) A2 := fun os σ H k Q q =>
  h2 os σ H k _ fun os1 v1 H1 k1 g1 i1 => h1 os1 σ H1 k1 _ fun os2 v2 H2 k2 g2 ⟨a, e1, e2⟩ => by
    cases e1
    rw [Is.v_iff.mp i1]
    obtain ⟨acc, hr, hk⟩ := h3.at k2 e2
    refine ⟨a, _, rfl, .inl ⟨_, k0, hr, rfl, rfl⟩, ?_⟩
    rw [show (valV acc k0).isSome = _ from isSome_S hk]
    exact q os2 _ H2 k2 (g1.trans g2) is_v
theorem e_dnotinG {kvs : KS} {k0 : Key} (h2 : EvS C ty A (.v (kV k0)) A1) (h1 : EvG C td A1 (.own n) A2) (h3 : OwnK A2 n kvs) : EvS C (tDNotIn ty td) A (db (!kvs.any fun kv => decide (kv.1 = k0))) A2 := fun os σ H k Q q =>
  h2 os σ H k _ fun os1 v1 H1 k1 g1 i1 => h1 os1 σ H1 k1 _ fun os2 v2 H2 k2 g2 ⟨a, e1, e2⟩ => by
    cases e1
    rw [Is.v_iff.mp i1]
    obtain ⟨acc, hr, hk⟩ := h3.at k2 e2
    refine ⟨a, _, rfl, .inl ⟨_, k0, hr, rfl, rfl⟩, ?_⟩
    rw [show (valV acc k0).isSome = _ from isSome_S hk]
    exact q os2 _ H2 k2 (g1.trans g2) is_v
theorem e_dinGT {kvs : KST} {k0 : List Key} (h2 : EvS C ty A (keyD k0) A1) (h1 : EvG C td A1 (.own n) A2) (h3 : OwnT A2 n kvs) : EvS C (tDIn ty td) A (db (kvs.any fun kv => decide (kv.1 = k0))) A2 := fun os σ H k Q q =>
  h2 os σ H k _ fun os1 v1 H1 k1 g1 i1 => h1 os1 σ H1 k1 _ fun os2 v2 H2 k2 g2 ⟨a, e1, e2⟩ => by
    cases e1
    obtain ⟨b, rfl, hb⟩ := keyD_at (Is.mono g2.e _ _ i1)
    obtain ⟨acc, hr, hk⟩ := h3.at k2 e2
    refine ⟨a, _, rfl, .inr ⟨_, k0, b, hr, rfl, hd_ex b _ hb nt_t, rfl⟩, ?_⟩
    rw [show (valV acc k0).isSome = _ from isSome_S hk]
    exact q os2 _ H2 k2 (g1.trans g2) is_v
theorem e_dnotinGT {kvs : KST} {k0 : List Key} (h2 : EvS C ty A (keyD k0) A1) (h1 : EvG C td A1 (.own n) A2) (h3 : OwnT A2 n kvs) : EvS C (tDNotIn ty td) A (db (!kvs.any fun kv => decide (kv.1 = k0))) A2 := fun os σ H k Q q =>
  h2 os σ H k _ fun os1 v1 H1 k1 g1 i1 => h1 os1 σ H1 k1 _ fun os2 v2 H2 k2 g2 ⟨a, e1, e2⟩ => by
    cases e1
    obtain ⟨b, rfl, hb⟩ := keyD_at (Is.mono g2.e _ _ i1)
    obtain ⟨acc, hr, hk⟩ := h3.at k2 e2
    refine ⟨a, _, rfl, .inr ⟨_, k0, b, hr, rfl, hd_ex b _ hb nt_t, rfl⟩, ?_⟩
    rw [show (valV acc k0).isSome = _ from isSome_S hk]
    exact q os2 _ H2 k2 (g1.trans g2) is_v
/-- d[k] = v -/
theorem r_dputG {kvs : KS} {k0 : Key} (hv : EvG C tv A s A1) (h1 : EvG C td A1 (.own n) A2) (hy : EvS C ty A2 (.v (kV k0)) A3) (h3 : A3.st[n]? = some (oS kvs)) (hl : kvs.length < 100000) (h : P.nx (A3.upG n (oS (putS kvs k0 s)))) : RunS C E (sDPut td ty tv) A P := fun os σ H D k T =>
  hv os σ H k _ fun os1 v H1 k1 g1 i1 => h1 os1 σ H1 k1 _ fun os2 v2 H2 k2 g2 ⟨a, e1, e2⟩ => hy os2 σ H2 k2 _ fun os3 y H3 k3 g3 i3 => by
    cases e1
    rw [Is.v_iff.mp i3]
    have e3 := g3.p _ _ e2
    obtain ⟨a', acc, s1, s2, s3, s4⟩ := k3.at e3 h3
    cases s1
    have hk : KvS C.K os3 (Rh C.O os3 H3) kvs acc := ⟨s3, s4⟩
    have hs := (i1.gr g2).gr g3
    refine ⟨a, _, rfl, .inl ⟨acc, k0, s2, rfl, by rw [hk.len]; exact Nat.lt_of_lt_of_le hl (by decide), rfl⟩, ?_⟩
    have kp := hk.put hs (k := k0)
    exact T.nx os3 _ σ _ h (k3.upG e3 (tabs_at k3.tb s2 nt_k (fun _ z => nomatch z)) nt_k ⟨a, _, rfl, upd_same, kp.1, kp.2⟩) (Gr.s (((g1.trans g2).trans g3).trans (Gr.up k3 e3)))
theorem r_dputGT {kvs : KST} {k0 : List Key} (hv : EvG C tv A s A1) (h1 : EvG C td A1 (.own n) A2) (hy : EvS C ty A2 (keyD k0) A3) (h3 : A3.st[n]? = some (oST kvs)) (hl : kvs.length < 100000) (h : P.nx (A3.upG n (oST (putS kvs k0 s)))) : RunS C E (sDPut td ty tv) A P := fun os σ H D k T =>
  hv os σ H k _ fun os1 v H1 k1 g1 i1 => h1 os1 σ H1 k1 _ fun os2 v2 H2 k2 g2 ⟨a, e1, e2⟩ => hy os2 σ H2 k2 _ fun os3 y H3 k3 g3 i3 => by
    cases e1
    obtain ⟨b, rfl, hb⟩ := keyD_at i3
    have e3 := g3.p _ _ e2
    obtain ⟨a', acc, s1, s2, s3, s4⟩ := k3.at e3 h3
    cases s1
    have hk : KvS C.K os3 (Rh C.O os3 H3) kvs acc := ⟨s3, s4⟩
    have hs := (i1.gr g2).gr g3
    refine ⟨a, _, rfl, .inr ⟨acc, k0, b, s2, rfl, hd_ex b _ hb nt_t, by rw [hk.len]; exact Nat.lt_of_lt_of_le hl (by decide), rfl⟩, ?_⟩
    have kp := hk.put hs (k := k0)
    exact T.nx os3 _ σ _ h (k3.upG e3 (tabs_at k3.tb s2 nt_dt (fun _ z => nomatch z)) nt_dt ⟨a, _, rfl, upd_same, kp.1, kp.2⟩) (Gr.s (((g1.trans g2).trans g3).trans (Gr.up k3 e3)))
/-- a field's place -/
def fat (f : Str) (ns : List Str) : Option Nat := match ns with
  | [] => none
  | g :: r => if g = f then some 0 else (fat f r).map (· + 1)
theorem fat_put {K : Frg} {os : List (Option Addr)} {R : Hp} {v : V} : ∀ {fs : List (Str × V)} {xs : List SD} {j : Nat}, SvA K os R xs (fs.map (·.2)) → fat f (fs.map (·.1)) = some j → SlOk K os R s (some v) → (putF f v fs).map (·.1) = fs.map (·.1) ∧ SvA K os R (xs.set j s) ((putF f v fs).map (·.2))
  | [], xs, j, h, e, hs => by simp [fat] at e
  | (g, u) :: r, [], j, h, e, hs => by
    rw [List.map_cons, SvA] at h
    cases h
  | (g, u) :: r, x :: xs, j, h, e, hs => by
    rw [List.map_cons, SvA] at h
    obtain ⟨u', w, e1, h1, h2⟩ := h
    cases e1
    rw [List.map_cons, fat] at e
    by_cases q : g = f
    · rw [if_pos q] at e
      cases e
      rw [putF, if_pos q]
      exact ⟨rfl, ⟨v, _, rfl, hs, h2⟩⟩
    · rw [if_neg q] at e
      obtain ⟨j', e2, rfl⟩ := Option.map_eq_some_iff.mp e
      obtain ⟨z1, z2⟩ := fat_put h2 e2 hs
      rw [putF, if_neg q]
      exact ⟨by rw [List.map_cons, List.map_cons, z1], ⟨u, _, rfl, h1, z2⟩⟩
/-- e.f = value, f there -/
theorem r_fldG {j : Nat} (hv : EvG C tv A s A1) (h1 : EvG C ta A1 (.own n) A2) (h2 : A2.st[n]? = some (.obj Cl ns xs)) (c : Cls C.K Cl) (na : NoAttr C.K Cl f) (hl : ns.length < 1000) (hf : fat f ns = some j) (h : P.nx (A2.upG n (.obj Cl ns (xs.set j s)))) : RunS C E (sFld C.K ta tv f) A P := fun os σ H D k T =>
  hv os σ H k _ fun os1 v H1 k1 g1 i1 => h1 os1 σ H1 k1 _ fun os2 v2 H2 k2 g2 ⟨a, e1, e2⟩ => by
    cases e1
    obtain ⟨a', dx, fs, s1, s2, s3, s4⟩ := k2.at e2 h2
    cases s1
    subst s3
    obtain ⟨z1, z2⟩ := fat_put s4 hf (i1.gr g2)
    refine ⟨a, Cl, dx, fs, rfl, s2, c, na, by rw [← List.length_map (f := (·.1))]; exact hl, ?_⟩
    exact T.nx os2 _ σ _ h (k2.upG e2 (tabs_ins k2.tb s2) nt_i ⟨a, dx, _, rfl, upd_same, z1, z2⟩) (Gr.s ((g1.trans g2).trans (Gr.up k2 e2)))
/-- e.f = value, f not there yet -/
theorem r_fldNG (hv : EvG C tv A s A1) (h1 : EvG C ta A1 (.own n) A2) (h2 : A2.st[n]? = some (.obj Cl ns xs)) (c : Cls C.K Cl) (na : NoAttr C.K Cl f) (hl : ns.length < 1000) (hf : f ∉ ns) (h : P.nx (A2.upG n (.obj Cl (ns ++ [f]) (xs ++ [s])))) : RunS C E (sFld C.K ta tv f) A P := fun os σ H D k T =>
  hv os σ H k _ fun os1 v H1 k1 g1 i1 => h1 os1 σ H1 k1 _ fun os2 v2 H2 k2 g2 ⟨a, e1, e2⟩ => by
    cases e1
    obtain ⟨a', dx, fs, s1, s2, s3, s4⟩ := k2.at e2 h2
    cases s1
    subst s3
    refine ⟨a, Cl, dx, fs, rfl, s2, c, na, by rw [← List.length_map (f := (·.1))]; exact hl, ?_⟩
    rw [putF_new hf]
    refine T.nx os2 _ σ _ h (k2.upG e2 (tabs_ins k2.tb s2) nt_i ⟨a, dx, _, rfl, upd_same, by rw [List.map_append]; rfl, ?_⟩) (Gr.s ((g1.trans g2).trans (Gr.up k2 e2)))
    rw [List.map_append]
    exact s4.snoc (i1.gr g2)
/-- xs.append(e), xs one's own, of data -/
theorem e_appendG {ys ys0 : List Dt} (h1 : EvG C ta A (.own n) A1) (h0 : A1.st[n]? = some (.lst ys0)) (he : EvS C te A1 d A2) (h2 : A2.st[n]? = some (.lst ys)) (hl : ys.length < 100000) : EvS C (tBM C.K "list" rAppend ta (tCons te tNil)) A dn (A2.upO n (ys ++ [d])) := fun os σ H k Q q =>
  h1 os σ H k _ fun os1 v1 H1 k1 g1 ⟨a, e1, e2⟩ => by
    cases e1
    obtain ⟨a', vs, s1, s2, s3⟩ := k1.at e2 h0
    cases s1
    refine ⟨.inl ⟨rfl, _, .inl (.inl s2)⟩, he os1 σ H1 k1 _ fun os2 v H2 k2 g2 i2 => ?_⟩
    have e3 := g2.p _ _ e2
    obtain ⟨a', vs, s1, s2, s3⟩ := k2.at e3 h2
    cases s1
    refine ⟨a, vs, v, rfl, rfl, s2, by rw [isA_len s3]; exact Nat.lt_of_lt_of_le hl (by decide), ?_⟩
    exact q os2 _ _ (k2.upO e3 h2 (isA_app s3 (isA_cons i2 isA_nil))) ((g1.trans g2).trans (Gr.up k2 e3)) is_v
theorem svA_len {K : Frg} {os : List (Option Addr)} {R : Hp} : ∀ {xs : List SD} {vs : List V}, SvA K os R xs vs → vs.length = xs.length
  | [], vs, h => by
    obtain rfl : vs = [] := h
    rfl
  | x :: r, vs, ⟨u, w, e, _, h2⟩ => by rw [e, List.length_cons, List.length_cons, svA_len h2]
/-- the same of things of any kind -/
theorem e_appendS {ys ys0 : List SD} (h1 : EvG C ta A (.own n) A1) (h0 : A1.st[n]? = some (.lstS ys0)) (he : EvG C te A1 s A2) (h2 : A2.st[n]? = some (.lstS ys)) (hl : ys.length < 100000) : EvS C (tBM C.K "list" rAppend ta (tCons te tNil)) A dn (A2.upG n (.lstS (ys ++ [s]))) := fun os σ H k Q q =>
  h1 os σ H k _ fun os1 v1 H1 k1 g1 ⟨a, e1, e2⟩ => by
    cases e1
    obtain ⟨a', vs, s1, s2, s3⟩ := k1.at e2 h0
    cases s1
    refine ⟨.inl ⟨rfl, _, .inl (.inl s2)⟩, he os1 σ H1 k1 _ fun os2 v H2 k2 g2 i2 => ?_⟩
    have e3 := g2.p _ _ e2
    obtain ⟨a', vs, s1, s2, s3⟩ := k2.at e3 h2
    cases s1
    have hn : vs.length = ys.length := svA_len s3
    refine ⟨a, vs, v, rfl, rfl, s2, by rw [hn]; exact Nat.lt_of_lt_of_le hl (by decide), ?_⟩
    exact q os2 _ _ (k2.upG e3 (tabs_at k2.tb s2 nt_l (fun _ z => nomatch z)) nt_l ⟨a, _, rfl, upd_same, s3.snoc i2⟩) ((g1.trans g2).trans (Gr.up k2 e3)) is_v
end
end Py
end

section
set_option Elab.async false
set_option linter.all false
set_option maxRecDepth 100000
set_option maxHeartbeats 4000000
set_option autoImplicit false
namespace Py
open PySem PySem.Spec PyProof.Rows L2
/-! ### promises over the whole store -/
structure StA (K : Frg) (O : List Addr) (os : List (Option Addr)) (st : List OD) (H : Hp) : Prop where
  ol : ∀ a ∈ O, ∃ o, H a = some o ∧ NoT o
  dj : ∀ a ∈ O, some a ∉ os
  ln : os.length = st.length
  nd : ∀ (i j : Nat) (a : Addr), os[i]? = some (some a) → os[j]? = some (some a) → i = j
  fr : ∀ a, some a ∈ os → ∃ o, H a = some o ∧ NoT o
  st : ∀ (k : Nat) s o, st[k]? = some s → os[k]? = some o → StOk K os (Rh O os H) H o s
/-- how such a def ends: what it gives, the store behind it -/
inductive RS where
  | ok (s : SD) (st : List OD)
  | err (c : Addr)
structure KeepA (K : Frg) (O : List Addr) (os : List (Option Addr)) (H : Hp) (os' : List (Option Addr)) (st' : List OD) (H' : Hp) : Prop where
  kp : ∀ b o, some b ∉ os → H b = some o → NoT o → H' b = some o
  sa : StA K O os' st' H'
  p : ∀ (k : Nat) x, os[k]? = some x → os'[k]? = some x
  nw : ∀ a, some a ∈ os' → some a ∈ os ∨ ∀ o, H a = some o → ¬ NoT o
  e : Ex (Rh O os H) (Rh O os' H')
def spS (K : Frg) (T : List (Addr × Str)) (g : List OD → List SD → RS → Prop) : Sp := fun vs H Q E => ∃ O os st ss r, StA K O os st H ∧ SlA K os (Rh O os H) ss vs ∧ g st ss r ∧ LamX.Tabs T H ∧
  match r with
  | .ok s st' => ∀ v H' os', LamX.Tabs T H' → KeepA K O os H os' st' H' → SlOk K os' (Rh O os' H') s (some v) → Q v H'
  | .err c => ∀ H', (∀ b o, some b ∉ os → H b = some o → NoT o → H' b = some o) → LamX.Tabs T H' → E (.ref c) none H'
section
variable {C : Ct} {A A1 A2 : AS} {os os' : List (Option Addr)} {σ : Sg} {H H' : Hp} {st' : List OD}
theorem Ok.sta (k : Ok C os A σ H) : StA C.K C.O os A.st H := ⟨k.ol, k.dj, k.ln, k.nd, fun a h => (k.fr a h).2, k.st⟩
theorem Ok.kept (k : Ok C os A σ H) (t : LamX.Tabs C.T H') (h : KeepA C.K C.O os H os' st' H') : Ok C os' ⟨A.sl, st'⟩ σ H' := by
  refine ⟨fun a o e n => ?_, t, h.sa.ol, h.sa.dj, h.sa.ln, h.sa.nd, fun a m => ⟨fun o e n => ?_, h.sa.fr a m⟩, k.sn, fun i s o h1 h2 => ?_, h.sa.st⟩
  · exact h.kp a o (fun z => (k.fr a z).1 o e n) (k.ex a o e n) n
  · rcases h.nw a m with z | z
    · exact (k.fr a z).1 o e n
    · exact z o (k.ex a o e n) n
  · have := k.sl i s o h1 h2
    cases s with
    | un => exact this
    | d x =>
      obtain ⟨v, e, i⟩ := this
      exact ⟨v, e, Is.mono h.e _ _ i⟩
    | own n =>
      obtain ⟨a, e, i⟩ := this
      exact ⟨a, e, h.p _ _ i⟩
theorem Ok.keptGr (k : Ok C os A σ H) (h : KeepA C.K C.O os H os' st' H') : Gr C.O os H os' H' := ⟨h.e, fun a m => by
  obtain ⟨o, q, n⟩ := k.ol a m
  rw [q]
  exact h.kp a o (k.dj a m) q n, h.p⟩
end
section
variable {C : Ct} {A A1 A2 : AS} {ta : TE} {tl : TA} {ss : List SD} {s : SD} {st' : List OD} {g : List OD → List SD → RS → Prop} {E' : XK} {n : Nat} {Cl : Addr} {ns : List Str} {xs : List SD} {m : Str}
/-- f(..) -/
theorem g_callS (h : EvP C tl A ss A1) (hg : g A1.st ss (.ok s st')) : EvG C (tCall (spS C.K C.T g) [] E' tl) A s ⟨A1.sl, st'⟩ := fun os σ H k Q q =>
  h os σ H k _ fun os1 vs H1 k1 g1 i1 => ⟨C.O, os1, A1.st, ss, .ok s st', k1.sta, by rw [List.append_nil]; exact i1, hg, k1.tb, fun v H' os' t ka iv => q os' v H' (k1.kept t ka) (g1.trans (k1.keptGr ka)) iv⟩
theorem SlA.gr {K : Frg} {O : List Addr} {os os' : List (Option Addr)} {H H' : Hp} (g : Gr O os H os' H') : ∀ {xs : List SD} {vs : List V}, SlA K os (Rh O os H) xs vs → SlA K os' (Rh O os' H') xs vs
  | [], _, h => h
  | _ :: _, _, ⟨v, w, h1, h2, h3⟩ => ⟨v, w, h1, h2.gr g, SlA.gr g h3⟩
/-- o.m(..), o one's own -/
theorem g_methS (h : EvG C ta A (.own n) A1) (h2 : A1.st[n]? = some (.obj Cl ns xs)) (hm : m ∉ ns) (ha : EvP C tl A1 ss A2) (hg : g A2.st (.own n :: ss) (.ok s st')) : EvG C (tMeth Cl m (spS C.K C.T g) [] E' ta tl) A s ⟨A2.sl, st'⟩ := fun os σ H k Q q =>
  h os σ H k _ fun os1 v1 H1 k1 g1 ⟨a, e1, e2⟩ => by
    cases e1
    obtain ⟨a', dx, fs, s1, s2, s3, s4⟩ := k1.at e2 h2
    cases s1
    refine ⟨a, dx, fs, rfl, s2, ?_, ha os1 σ H1 k1 _ fun os2 vs H2 k2 g2 i2 => ?_⟩
    · rw [← zip_un fs, s3]
      exact look_none hm
    · refine ⟨C.O, os2, A2.st, .own n :: ss, .ok s st', k2.sta, ?_, hg, k2.tb, fun v H' os' t ka iv => q os' v H' (k2.kept t ka) ((g1.trans g2).trans (k2.keptGr ka)) iv⟩
      rw [List.append_nil]
      exact ⟨.ref a, vs, rfl, ⟨a, rfl, g2.p _ _ e2⟩, i2⟩
/-- Cl(..) -/
theorem g_makeS (h : EvP C tl A ss A1) (hg : g (A1.st ++ [.obj Cl [] []]) (.own A1.st.length :: ss) (.ok (.d dn) st')) : EvG C (tMake Cl (spS C.K C.T g) [] E' tl) A (.own A1.st.length) ⟨A1.sl, st'⟩ := fun os σ H k Q q =>
  h os σ H k _ fun os1 vs H1 k1 g1 i1 x dx hx hdx ne => by
    have k2 := k1.monoN (o := .own x) hdx
    have gx := k1.gr (Ex.new (o := .own x) hdx)
    have hx2 : (upd H1 dx (.own x)) x = none := by rw [upd_ne (fun z => ne z.symm)]; exact hx
    have k3 := k2.newG (o := .ins Cl dx []) (od := .obj Cl [] []) hx2 nt_i ⟨x, dx, [], rfl, upd_same, rfl, rfl⟩
    have gn : Gr C.O os1 (upd H1 dx (.own x)) (os1 ++ [some x]) (upd (upd H1 dx (.own x)) x (.ins Cl dx [])) := Gr.newG k2 hx2
    have en : (os1 ++ [some x])[A1.st.length]? = some (some x) := by rw [← k1.ln]; simp
    refine ⟨C.O, os1 ++ [some x], A1.st ++ [.obj Cl [] []], .own A1.st.length :: ss, .ok (.d dn) st', k3.sta, ?_, hg, k3.tb, fun v H' os' t ka iv => ⟨?_, ?_⟩⟩
    · rw [List.append_nil]
      exact ⟨.ref x, vs, rfl, ⟨x, rfl, en⟩, (i1.gr gx).gr gn⟩
    · obtain ⟨u, e, i⟩ := iv
      cases e
      exact Is.v_iff.mp i
    · exact q os' _ H' (k3.kept t ka) (((g1.trans gx).trans gn).trans (k3.keptGr ka)) ⟨x, rfl, ka.p _ _ en⟩
end
/-! ### such a def's body -/
def startS (N : List Str) (ss : List SD) (st : List OD) : AS := ⟨ss ++ List.replicate (N.length - ss.length) .un, st⟩
def OwnIn (j : Nat) (s : SD) : Prop := s = .own j
def odS : OD → List SD
  | .gone => []
  | .lst _ => []
  | .dct _ xs => xs
  | .obj _ _ xs => xs
  | .lstS xs => xs
  | .dctT _ xs => xs
  | .lckK _ _ xs => xs
  | .lckT _ _ xs => xs
/-- the store that is left, what was made on the way being dropped -/
structure Cut (st full st' : List OD) : Prop where
  pre : ∃ more, full = st' ++ more
  n0 : st.length ≤ st'.length
  cl : ∀ o ∈ st', ∀ s ∈ odS o, ∀ j, s = .own j → j < st'.length
  go : ∀ k, k < st.length → st'[k]? = some .gone → st[k]? = some .gone
def poS (st : List OD) (r : RS) : Po := { nx := fun A => ∃ st', r = .ok (.d dn) st' ∧ Cut st A.st st', rt := fun d A => ∃ st', r = .ok (.d d) st' ∧ Cut st A.st st', er := fun c => r = .err c }
section
variable {K : Frg} {O : List Addr} {os os' : List (Option Addr)} {H : Hp}
theorem Rh_cut {m : Nat} : Ex (Rh O os H) (Rh O (os.take m) H) := fun b o h _ => by
  have h : hd (hid O os) H b = some o := h
  show hd (hid O (os.take m)) H b = some o
  unfold hd at h ⊢
  split at h
  · cases h
  · rename_i q
    rw [if_neg fun z => q ?_]
    · exact h
    · rcases mem_hid.mp z with z | z
      · exact mem_hid.mpr (.inl z)
      · exact mem_hid.mpr (.inr (List.mem_of_mem_take z))
theorem take_at {m k : Nat} {x : Option Addr} (h : os[k]? = some x) (hk : k < m) : (os.take m)[k]? = some x := by rw [List.getElem?_take, if_pos hk]; exact h
theorem at_take {m k : Nat} {x : Option Addr} (h : (os.take m)[k]? = some x) : k < m ∧ os[k]? = some x := by
  rw [List.getElem?_take] at h
  split at h
  · exact ⟨by assumption, h⟩
  · cases h
theorem SvA.cut {m : Nat} : ∀ {xs : List SD} {vs : List V}, SvA K os (Rh O os H) xs vs → (∀ s ∈ xs, ∀ j, s = .own j → j < m) → SvA K (os.take m) (Rh O (os.take m) H) xs vs
  | [], _, h, _ => h
  | s :: _, _, ⟨v, w, h1, h2, h3⟩, hc => by
    refine ⟨v, w, h1, ?_, SvA.cut h3 fun s hs => hc s (List.mem_cons_of_mem _ hs)⟩
    cases s with
    | un => trivial
    | d x =>
      obtain ⟨v, e, i⟩ := h2
      exact ⟨v, e, Is.mono Rh_cut _ _ i⟩
    | own n =>
      obtain ⟨a, e, i⟩ := h2
      exact ⟨a, e, take_at i (hc _ (List.mem_cons_self ..) n rfl)⟩
theorem StOk.cut {m : Nat} {o : Option Addr} : ∀ {s : OD}, StOk K os (Rh O os H) H o s → (∀ x ∈ odS s, ∀ j, x = .own j → j < m) → StOk K (os.take m) (Rh O (os.take m) H) H o s
  | .gone, h, _ => h
  | .lst xs, ⟨a, vs, h1, h2, h3⟩, _ => ⟨a, vs, h1, h2, IsA.mono Rh_cut xs vs h3⟩
  | .dct ks xs, ⟨a, kvs, h1, h2, h3, h4⟩, hc => ⟨a, kvs, h1, h2, h3, h4.cut hc⟩
  | .obj C ns xs, ⟨a, dx, fs, h1, h2, h3, h4⟩, hc => ⟨a, dx, fs, h1, h2, h3, h4.cut hc⟩
  | .lstS xs, ⟨a, vs, h1, h2, h3⟩, hc => ⟨a, vs, h1, h2, h3.cut hc⟩
  | .dctT ks xs, ⟨a, kvs, h1, h2, h3, h4⟩, hc => ⟨a, kvs, h1, h2, h3, h4.cut hc⟩
  | .lckK u acc xs, ⟨a, h1, h2, h4⟩, hc => ⟨a, h1, h2, h4.cut hc⟩
  | .lckT u acc xs, ⟨a, h1, h2, h4⟩, hc => ⟨a, h1, h2, h4.cut hc⟩
end
theorem start_okS {N : List Str} {ss : List SD} {st : List OD} {vs : List V} {K : Frg} {T : List (Addr × Str)} {H : Hp} {O : List Addr} {os : List (Option Addr)} (h : StA K O os st H) (ht : LamX.Tabs T H) (hs : SlA K os (Rh O os H) ss vs) : Ok ⟨K, T, fun b => if some b ∈ os then none else H b, O⟩ os (startS N ss st) (L2.start N vs) H := by
  have hl : vs.length = ss.length := by
    have : ∀ {ss : List SD} {vs : List V}, SlA K os (Rh O os H) ss vs → vs.length = ss.length := by
      intro ss
      induction ss with
      | nil => intro vs h; have : vs = [] := h; rw [this]; rfl
      | cons x r ih => rintro vs ⟨v, w, e, _, h2⟩; rw [e, List.length_cons, List.length_cons, ih h2]
    exact this hs
  have get : ∀ {ss : List SD} {vs : List V}, SlA K os (Rh O os H) ss vs → ∀ (i : Nat) s, ss[i]? = some s → ∃ v, vs[i]? = some v ∧ SlOk K os (Rh O os H) s (some v) := by
    intro ss
    induction ss with
    | nil => intro vs _ i s e; simp at e
    | cons x r ih =>
      rintro vs ⟨v, w, rfl, h1, h2⟩ i s e
      cases i with
      | zero => simp at e; subst e; exact ⟨v, rfl, h1⟩
      | succ i =>
        obtain ⟨u, z1, z2⟩ := ih h2 i s (by simpa using e)
        exact ⟨u, by simpa using z1, z2⟩
  refine ⟨fun a o e n => ?_, ht, h.ol, h.dj, h.ln, h.nd, fun a m => ⟨fun o e => ?_, h.fr a m⟩, by simp [startS, L2.start, hl], fun i s o h1 h2 => ?_, h.st⟩
  · have e : (if some a ∈ os then none else H a) = some o := e
    split at e
    · cases e
    · exact e
  · have e : (if some a ∈ os then none else H a) = some o := e
    rw [if_pos m] at e; cases e
  · have h1 : (ss ++ List.replicate (N.length - ss.length) SD.un)[i]? = some s := h1
    have h2 : (vs.map some ++ List.replicate (N.length - vs.length) none)[i]? = some o := h2
    rw [List.getElem?_append] at h1 h2
    rw [List.length_map] at h2
    split at h1
    · rename_i q
      rw [if_pos (by omega), List.getElem?_map] at h2
      obtain ⟨v, z1, z2⟩ := get hs i s h1
      rw [z1] at h2
      cases h2
      exact z2
    · rw [List.getElem?_replicate] at h1
      split at h1
      · cases h1; trivial
      · cases h1
theorem cut_end {K : Frg} {T : List (Addr × Str)} {H H2 : Hp} {O : List Addr} {os os2 : List (Option Addr)} {st st' : List OD} {A : AS} {σ : Sg} (h : StA K O os st H) (k : Ok ⟨K, T, fun b => if some b ∈ os then none else H b, O⟩ os2 A σ H2) (g : Gs O os H os2 H2) (c : Cut st A.st st') :
    KeepA K O os H (os2.take st'.length) st' H2 := by
  obtain ⟨more, hm⟩ := c.pre
  have hl : st'.length ≤ os2.length := by rw [k.ln, hm, List.length_append]; omega
  have stAt : ∀ {i : Nat} {s : OD}, st'[i]? = some s → A.st[i]? = some s := fun {i s} e => by
    rw [hm, List.getElem?_append_left (List.getElem?_eq_some_iff.mp e).1]; exact e
  refine ⟨fun b o hb e n => k.ex b o (by show (if some b ∈ os then none else H b) = some o; rw [if_neg hb]; exact e) n, ⟨k.ol, fun a m z => k.dj a m (List.mem_of_mem_take z), ?_, fun i j a h1 h2 => k.nd i j a (at_take h1).2 (at_take h2).2, fun a m => (k.fr a (List.mem_of_mem_take m)).2, fun i s o h1 h2 => ?_⟩, fun i x e => ?_, fun a m => ?_, g.e.trans Rh_cut⟩
  · rw [List.length_take]; omega
  · have := (k.st i s o (stAt h1) (at_take h2).2).cut (m := st'.length) fun x hx j e => c.cl s (List.mem_of_getElem? h1) x hx j e
    exact this
  · have hi : i < st.length := by rw [← h.ln]; exact (List.getElem?_eq_some_iff.mp e).1
    have hi' : i < st'.length := Nat.lt_of_lt_of_le hi c.n0
    refine take_at ?_ hi'
    rcases g.p i x e with z | z
    · exact z
    · have e1 : st'[i]? = some st'[i] := List.getElem?_eq_getElem hi'
      have e2 := k.st i _ none (stAt e1) z
      have go : st'[i] = .gone := by
        cases q : st'[i] with
        | gone => rfl
        | _ =>
          rw [q] at e2
          obtain ⟨a, e2⟩ := e2
          simp at e2
      have e3 := c.go i hi (by rw [e1, go])
      have e4 : StOk K os (Rh O os H) H x .gone := h.st i _ _ e3 e
      have e4 : x = none := e4
      rw [e4]; exact z
  · by_cases z : some a ∈ os
    · exact .inl z
    · refine .inr fun o e n => (k.fr a (List.mem_of_mem_take m)).1 o ?_ n
      show (if some a ∈ os then none else H a) = some o
      rw [if_neg z]; exact e
theorem finS {t : TS} {N : List Str} {K : Frg} {T : List (Addr × Str)} {E : XK} {g : List OD → List SD → RS → Prop} {vs : List V} {H : Hp} {Q : VK} (h : spS K T g vs H Q E)
    (run : ∀ H0 O st ss r, g st ss r → RunS ⟨K, T, H0, O⟩ E t (startS N ss st) (poS st r)) : t { nx := fun _ H' => Q .non H', rt := Q } (L2.start N vs) H := by
  obtain ⟨O, os, st, ss, r, hs, hi, hg, ht, hr⟩ := h
  refine run _ O st ss r hg os _ H _ (start_okS hs ht hi) ⟨fun os2 A σ H' ⟨st', z, c⟩ k gs => ?_, fun os2 A σ d v H' ⟨st', z, c⟩ k gs i => ?_, fun _ _ _ _ z => z.elim, fun _ _ _ _ z => z.elim, fun c H' z e t => ?_⟩
  · subst z
    exact hr _ H' _ k.tb (cut_end hs k gs c) ⟨_, rfl, is_v⟩
  · subst z
    exact hr v H' _ k.tb (cut_end hs k gs c) ⟨v, rfl, Is.mono Rh_cut _ _ i⟩
  · have z : r = .err c := z
    subst z
    exact hr H' (fun b o hb h1 n => e b o (by show (if some b ∈ os then none else H b) = some o; rw [if_neg hb]; exact h1) n) t
theorem spS_len {K : Frg} {T : List (Addr × Str)} {g : List OD → List SD → RS → Prop} {n : Nat} (hg : ∀ st ss r, g st ss r → ss.length = n) : ∀ vs H Q E, spS K T g vs H Q E → vs.length = n := fun vs H Q E h => by
  obtain ⟨O, os, st, ss, r, hs, hi, hg', _⟩ := h
  have : ∀ {ss : List SD} {vs : List V}, SlA K os (Rh O os H) ss vs → vs.length = ss.length := by
    intro ss
    induction ss with
    | nil => intro vs h; have : vs = [] := h; rw [this]; rfl
    | cons x r ih => rintro vs ⟨v, w, e, _, h2⟩; rw [e, List.length_cons, List.length_cons, ih h2]
  rw [this hi]
  exact hg st ss r hg'
/-- a method, by its body told over the store -/
theorem mkMS {P : Program} {w : World} {K : Frg} {T : List (Addr × Str)} {mg : Str → Option Value} {base : Heap} {m q : Str} {params : Arguments} {body : List Stmt} {scope : Scope} {N ps : List Str} {k : Nat} {g : List OD → List SD → RS → Prop} {a Cl : Addr}
    (F : ∃ fd, FunD K m q params body scope [] [] a fd) (hm : Meth K Cl m a) (cl : Cls K Cl) (S : FnScope N ps scope)
    (hb : ∀ (kV doc pm : Value) (an : Option Addr) (cdv ct : Value) (us : List Value), us.length = ps.length → bindArgs (PySem.W.fnOf m q params body scope .none kV doc pm an cdv ct) ⟨us, []⟩ = pure (ps.zip us))
    (len : ∀ st ss r, g st ss r → ss.length = ps.length)
    (hbody : ∀ (cdv : Value) (A : Around) (outer : List Env) (s : Shared) (H : Hp) (E : XK), Room k (A.deeper (envOfC q scope s.heap.objs.size a cdv)) →
      ∃ t, PSs (cxOf (L2.CX P w) P w K mg base N q scope a cdv A outer s H E) body t ∧ ∀ H0 O st ss r, g st ss r → RunS ⟨K, T, H0, O⟩ E t (startS N ss st) (poS st r)) : Gm P w K mg base Cl m (k + 1) (spS K T g) := by
  obtain ⟨fd, F⟩ := F
  refine ⟨⟨a, fd, ps, F.ok S (fun vs H Q E h => spS_len len vs H Q E h) (fun cdv A outer s H vs Q E hr h => ?_), F.bindsN hb, hm⟩, cl⟩
  obtain ⟨t, ht, run⟩ := hbody cdv A outer s H E hr
  exact ⟨t, ht, finS h run⟩
/-- an __init__, told over the store -/
theorem mkIS {P : Program} {w : World} {K : Frg} {T : List (Addr × Str)} {mg : Str → Option Value} {base : Heap} {x q : Str} {params : Arguments} {body : List Stmt} {scope : Scope} {N ps : List Str} {k : Nat} {g : List OD → List SD → RS → Prop} {a Cl : Addr}
    (F : ∃ fd, FunD K "__init__" q params body scope [] [] a fd) (hm : Mk K Cl a) (nm : mg x = some (.ref Cl)) (S : FnScope N ps scope)
    (hb : ∀ (kV doc pm : Value) (an : Option Addr) (cdv ct : Value) (us : List Value), us.length = ps.length → bindArgs (PySem.W.fnOf "__init__" q params body scope .none kV doc pm an cdv ct) ⟨us, []⟩ = pure (ps.zip us))
    (len : ∀ st ss r, g st ss r → ss.length = ps.length)
    (hbody : ∀ (cdv : Value) (A : Around) (outer : List Env) (s : Shared) (H : Hp) (E : XK), Room k (A.deeper (envOfC q scope s.heap.objs.size a cdv)) →
      ∃ t, PSs (cxOf (L2.CX P w) P w K mg base N q scope a cdv A outer s H E) body t ∧ ∀ H0 O st ss r, g st ss r → RunS ⟨K, T, H0, O⟩ E t (startS N ss st) (poS st r)) : Gk P w K mg base x Cl (k + 1) (spS K T g) := by
  obtain ⟨fd, F⟩ := F
  refine ⟨⟨a, fd, ps, F.ok S (fun vs H Q E h => spS_len len vs H Q E h) (fun cdv A outer s H vs Q E hr h => ?_), F.bindsN hb, hm⟩, nm⟩
  obtain ⟨t, ht, run⟩ := hbody cdv A outer s H E hr
  exact ⟨t, ht, finS h run⟩
end Py
end

section
set_option Elab.async false
set_option linter.all false
set_option maxRecDepth 100000
set_option maxHeartbeats 4000000
set_option autoImplicit false
namespace Py
open PySem PySem.Spec PyProof.Rows L2
/-! ### an own dict that is walked -/
section
variable {C : Ct} {A A1 A2 : AS} {te tl : TE} {tt : TT} {g : TG} {ws : List Nat} {d : Dt} {n : Nat} {sl1 : List SD}
theorem set_back {α : Type} {l : List α} {n : Nat} {x y : α} (h : l[n]? = some y) : (l.set n x).set n y = l := by
  rw [List.set_set]
  apply List.ext_getElem?
  intro i
  rw [List.getElem?_set]
  by_cases e : n = i
  · subst e
    rw [if_pos rfl, if_pos (List.getElem?_eq_some_iff.mp h).1]; exact h.symm
  · rw [if_neg e]
theorem e_lockK {kvs : KS} (h2 : A.st[n]? = some (oS kvs)) (h : ∀ u acc, acc.map (·.1) = kvs.map (·.1) → EvS C te (A.upG n (.lckK u acc (kvs.map (·.2)))) d ⟨sl1, A.st.set n (.lckK u acc (kvs.map (·.2)))⟩) : EvS C (tLockE te) A d ⟨sl1, A.st⟩ := fun os σ H k Q q => by
  obtain ⟨o, e3, a, acc, s1, s2, s3, s4⟩ := k.store h2
  subst s1
  have hn : n < A.st.length := (List.getElem?_eq_some_iff.mp h2).1
  refine ⟨a, .dK acc, s2, trivial, fun u => ?_⟩
  have k1 := k.upG (o := .frz u (.dK acc)) (od := .lckK u acc (kvs.map (·.2))) e3 (tabs_at k.tb s2 nt_k (fun _ z => nomatch z)) nt_f ⟨a, rfl, upd_same, s4⟩
  refine h u acc s3 os σ _ k1 _ fun os2 v H2 k2 g2 i2 => ?_
  have e4 := g2.p _ _ e3
  obtain ⟨a', t1, t2, t3⟩ := k2.at e4 (show (A.st.set n (.lckK u acc (kvs.map (·.2))))[n]? = _ from List.getElem?_set_self hn)
  cases t1
  refine ⟨t2, ?_⟩
  have k3 := k2.upG (o := .dK acc) (od := oS kvs) e4 (tabs_at k2.tb t2 nt_f (fun _ z => nomatch z)) nt_k ⟨a, acc, rfl, upd_same, s3, t3⟩
  have e : (⟨sl1, A.st.set n (.lckK u acc (kvs.map (·.2)))⟩ : AS).upG n (oS kvs) = ⟨sl1, A.st⟩ := by
    show (⟨sl1, (A.st.set n _).set n (oS kvs)⟩ : AS) = _
    rw [set_back h2]
  rw [e] at k3
  refine q os2 v _ k3 (((Gr.up k e3).trans g2).trans (Gr.up k2 e4)) ?_
  rw [show Rh C.O os2 (upd H2 a (.dK acc)) = Rh C.O os2 H2 from Rh_upd (mem_hid.mpr (.inr (List.mem_of_getElem? e4)))]
  exact i2
/-- [.. for k in d ..], d locked -/
theorem e_lcK {u : Obj} {acc : List (Key × V)} {xs : List SD} (he : EvG C tl A (.own n) A1) (B : Nat → AS) (Z : Nat → List Dt) (h0 : A1 = B 0) (hZ : Z 0 = []) (hst : ∀ i, i ≤ acc.length → (B i).st[n]? = some (.lckK u acc xs))
    (hs : ∀ i (hi : i < acc.length), ∀ O, LcT ⟨C.K, C.T, C.H0, O⟩ g tt te ws (.v (kV acc[i].1)) (B i) (Z i) (B (i + 1)) (Z (i + 1))) (hn : acc.length < 100000) : EvS C (tLc (iKeys tl) g tt te ws) A (.lst (Z acc.length)) (B acc.length) := fun os σ H k Q q =>
  he os σ H k _ fun os1 v H1 k1 g1 ⟨a, e1, e2⟩ => by
    cases e1
    subst h0
    obtain ⟨a', s1, s2, s3⟩ := k1.at e2 (hst 0 (Nat.zero_le _))
    cases s1
    refine ⟨a, u, rfl, .inl ⟨acc, s2, fun p hp => ?_⟩⟩
    have hl : ∀ i, i ≤ acc.length → (Z i).length ≤ i := by
      intro i
      induction i with
      | zero => intro _; rw [hZ]; exact Nat.le_refl _
      | succ i ih =>
        intro hi
        obtain ⟨_, _, _, _, _, h⟩ := hs i hi []
        rcases h with ⟨_, _, _, _, e, _⟩ | ⟨_, e, _⟩ <;> rw [e] <;> have := ih (by omega) <;> (try simp only [List.length_append, List.length_singleton]) <;> omega
    refine ⟨fun i m H' => m = acc.length - i ∧ i ≤ acc.length ∧ ∃ os' ys, Ok (C.hide p) os' (B i) σ H' ∧ GrP p C.O os1 (upd H1 p (.lst [])) os' H' ∧ H' p = some (.lst ys) ∧ IsA C.K (Rh (p :: C.O) os' H') (Z i) ys, ⟨acc.length, rfl, Nat.zero_le _, os1, [], k1.hide hp nt_l, ⟨Ex.refl _, fun _ _ => rfl, fun _ _ h => h⟩, upd_same, by rw [hZ]; exact isA_nil⟩, ?_⟩
    rintro i m H' ⟨rfl, hi, os', ys, k', g', hp', ha⟩
    have here : H' a = some (.frz u (.dK acc)) := by
      obtain ⟨a', t1, t2, t3⟩ := k'.at (g'.p _ _ e2) (hst i hi)
      cases t1
      exact t2
    by_cases hlt : i < acc.length
    · refine .inr ⟨⟨here, hlt⟩, fun H2 => i + 1 ≤ acc.length ∧ ∃ os' ys, Ok (C.hide p) os' (B (i + 1)) σ H2 ∧ GrP p C.O os1 (upd H1 p (.lst [])) os' H2 ∧ H2 p = some (.lst ys) ∧ IsA C.K (Rh (p :: C.O) os' H2) (Z (i + 1)) ys, fun H2 q => ⟨acc.length - (i + 1), by omega, rfl, q.1, q.2⟩, fun v H2 hy => ?_⟩
      obtain ⟨rfl, k0, v0, z1, rfl⟩ := hy
      have e : acc[i].1 = k0 := by
        have := List.getElem?_eq_getElem hlt
        rw [this] at z1
        exact congrArg Prod.fst (Option.some.inj z1)
      refine lc_turn (hs i hlt _) k' hp' ha (by rw [e]; exact is_v) (fresh_0 k1 hp) (fresh_O k1 hp) (by have := hl i (by omega); omega) _ fun os2 acc2 H3 k3 g3 hp3 ha3 => ⟨hlt, os2, acc2, k3, g'.trans g3, hp3, ha3⟩
    · obtain rfl : i = acc.length := by omega
      exact .inl ⟨⟨here, Nat.le_refl _⟩, lc_end k1 hp k' g' hp' ha fun os2 v H2 k2 g2 i2 => q os2 v H2 k2 (g1.trans g2) i2⟩
end
/-! ### new own things out of comprehensions -/
section
variable {C : Ct} {A A1 A2 : AS} {σ : Sg} {H : Hp} {os : List (Option Addr)} {p : Addr}
theorem Rh_own {O : List Addr} : Rh O (os ++ [some p]) H = Rh (p :: O) os H := hd_same fun b => by
  rw [mem_hide, mem_hid, mem_hid]
  constructor
  · intro h
    rcases h with z | z
    · exact .inr (.inl z)
    · rcases List.mem_append.mp z with z | z
      · exact .inr (.inr z)
      · exact .inl (Option.some.inj (List.mem_singleton.mp z))
  · intro h
    rcases h with z | z | z
    · rw [z]; exact .inr (List.mem_append_right _ (List.mem_singleton.mpr rfl))
    · exact .inl z
    · exact .inr (List.mem_append_left _ z)
/-- a new thing that was hidden becomes one's own -/
theorem Ok.ownH {ho : HO} {od : OD} (k : Ok (C.hide p) os A σ H) (hp : H p = some ho) (hn : NoT ho) (h0 : ∀ o, C.H0 p = some o → ¬ NoT o) (hO : p ∉ C.O) (hs : StOk C.K (os ++ [some p]) (Rh (p :: C.O) os H) H (some p) od) : Ok C (os ++ [some p]) (A.newG od) σ H := by
  have np : some p ∉ os := k.dj p (List.mem_cons_self ..)
  have last : ∀ {i : Nat} {b : Addr}, (os ++ [some p])[i]? = some (some b) → os[i]? = some (some b) ∨ (i = os.length ∧ b = p) := fun {i b} z => by
    rw [List.getElem?_append] at z
    split at z
    · exact .inl z
    · rename_i q
      cases w : i - os.length with
      | zero => rw [w] at z; exact .inr ⟨by omega, by simpa using z.symm⟩
      | succ m => rw [w] at z; simp at z
  refine ⟨k.ex, k.tb, fun a h => k.ol a (List.mem_cons_of_mem _ h), fun a h z => ?_, by simp [AS.newG, k.ln], fun i j b h1 h2 => ?_, fun a h => ?_, k.sn, fun i s o h1 h2 => ?_, fun i s o h1 h2 => ?_⟩
  · rcases List.mem_append.mp z with z | z
    · exact k.dj a (List.mem_cons_of_mem _ h) z
    · exact hO (by rw [← Option.some.inj (List.mem_singleton.mp z)]; exact h)
  · rcases last h1 with e1 | ⟨e1, e1'⟩ <;> rcases last h2 with e2 | ⟨e2, e2'⟩
    · exact k.nd i j b e1 e2
    · rw [e2'] at e1; exact absurd (List.mem_of_getElem? e1) np
    · rw [e1'] at e2; exact absurd (List.mem_of_getElem? e2) np
    · omega
  · rcases List.mem_append.mp h with h | h
    · exact k.fr a h
    · obtain rfl := Option.some.inj (List.mem_singleton.mp h)
      exact ⟨h0, ho, hp, hn⟩
  · rw [Rh_own]
    exact (k.sl i s o h1 h2).app
  · rw [Rh_own]
    have h1 : (A.st ++ [od])[i]? = some s := h1
    rw [List.getElem?_append] at h1 h2
    rw [k.ln] at h2
    split at h1
    · rename_i q
      rw [if_pos q] at h2
      exact (k.st i s o h1 h2).app
    · rename_i q
      rw [if_neg q] at h2
      cases z : i - A.st.length with
      | succ m => rw [z] at h1; simp at h1
      | zero =>
        rw [z] at h1 h2
        simp at h1 h2
        subst h1 h2
        exact hs
theorem Gr.ownH {os1 : List (Option Addr)} {H1 : Hp} {o : HO} (k1 : Ok C os1 A σ H1) (hp : H1 p = none) (g : GrP p C.O os1 (upd H1 p o) os H) : Gr C.O os1 H1 (os ++ [some p]) H := by
  refine ⟨?_, fun a h => ?_, fun i x e => ?_⟩
  · have e := g.e
    rw [Rh_hide hp] at e
    rw [Rh_own]
    exact e
  · rw [g.o a h, upd_ne fun z => fresh_O k1 hp (by rw [← z]; exact h)]
  · have := g.p i x e
    rw [List.getElem?_append_left (List.getElem?_eq_some_iff.mp this).1]
    exact this
end
section
variable {C : Ct} {A A1 A2 : AS} {te tl tk tv : TE} {tt : TT} {g : TG} {ws : List Nat}
def DcG (C : Ct) (g : TG) (tt : TT) (tk tv : TE) (ws : List Nat) (x : Dt) (A : AS) (ys : KS) (A2 : AS) (ys2 : KS) : Prop :=
  ∃ A1 b A', TgS C g x (A.wipe ws) A1 ws ∧ EvT C tt A1 b A' ∧ ((b = true ∧ ∃ k s A3 A4, EvS C tk A' (.v (kV k)) A3 ∧ EvG C tv A3 s A4 ∧ ys2 = putS ys k s ∧ A4.wipe ws = A2) ∨ (b = false ∧ ys2 = ys ∧ A'.wipe ws = A2))
theorem dcG_turn {p : Addr} {x : Dt} {v : V} {σ : Sg} {os : List (Option Addr)} {H : Hp} {ys ys2 : KS} {acc : List (Key × V)} (t : DcG (C.hide p) g tt tk tv ws x A ys A2 ys2) (k : Ok (C.hide p) os A σ H) (hp : H p = some (.dK acc)) (ha : KvS C.K os (Rh (p :: C.O) os H) ys acc) (hx : Is C.K (Rh (p :: C.O) os H) x v)
    (h0 : ∀ o, C.H0 p = some o → ¬ NoT o) (hO : p ∉ C.O) (hl : ys.length < 100000) (R : Hp → Prop) (hR : ∀ os' acc' H', Ok (C.hide p) os' A2 σ H' → GrP p C.O os H os' H' → H' p = some (.dK acc') → KvS C.K os' (Rh (p :: C.O) os' H') ys2 acc' → R H') :
    g v (wipe σ ws) H fun σ2 H2 => wipe σ2 ws = wipe σ ws ∧ tt σ2 H2 fun b H3 => if b = true then tk σ2 H3 fun y H4 => tv σ2 H4 fun z H5 => ∃ kvs k, y = kV k ∧ H5 p = some (HO.dK kvs) ∧ kvs.length < sizeLine ∧ R (upd H5 p (HO.dK (putK kvs k z))) else R H3 := by
  obtain ⟨A1, b, A', tg, ht, hb⟩ := t
  refine tg os _ H v _ k.wiped hx fun σ2 k2 e2 => ⟨e2.trans wipe_wipe, ht os σ2 H k2 _ fun os3 H3 k3 g3 => ?_⟩
  have e2' : wipe σ2 ws = wipe σ ws := e2.trans wipe_wipe
  have hp3 : H3 p = some (.dK acc) := (g3.o p (List.mem_cons_self ..)).trans hp
  rcases hb with ⟨rfl, k0, y, A3, A4, hk, hv, rfl, rfl⟩ | ⟨rfl, rfl, rfl⟩
  · rw [if_pos rfl]
    refine hk os3 σ2 H3 k3 _ fun os4 w H4 k4 g4 i4 => hv os4 σ2 H4 k4 _ fun os5 z H5 k5 g5 i5 => ?_
    rw [Is.v_iff.mp i4]
    have gg := (g3.trans g4).trans g5
    have hp5 : H5 p = some (.dK acc) := (gg.o p (List.mem_cons_self ..)).trans hp
    have ka := ha.gr gg
    refine ⟨acc, k0, rfl, hp5, by rw [ha.len]; exact Nat.lt_of_lt_of_le hl (by decide), hR os5 _ _ (Ok.updK (C := C.hide p) (k5.back e2') (List.mem_cons_self ..) h0 hp5) ⟨?_, fun a h => ?_, gg.p⟩ upd_same ?_⟩
    · rw [Rh_updO (List.mem_cons_self ..)]; exact gg.e
    · rw [upd_ne fun z => hO (by rw [← z]; exact h)]
      exact gg.o a (List.mem_cons_of_mem _ h)
    · rw [Rh_updO (List.mem_cons_self ..)]
      exact ka.put i5
  · rw [if_neg (by decide)]
    exact hR os3 acc H3 (k3.back e2') ⟨g3.e, fun a h => g3.o a (List.mem_cons_of_mem _ h), g3.p⟩ hp3 (ha.gr g3)
/-- {k: v for ..}, a new dict of one's own -/
theorem g_dcY {wi : TI} {n : Nat} {y : Nat → Dt} (hw : WiS C wi A n y A1) (B : Nat → AS) (Z : Nat → KS) (h0 : A1 = B 0) (hZ : Z 0 = [])
    (hs : ∀ i, i < n → ∀ O, DcG ⟨C.K, C.T, C.H0, O⟩ g tt tk tv ws (y i) (B i) (Z i) (B (i + 1)) (Z (i + 1))) (hn : n < 100000) : EvG C (tDc wi g tt tk tv ws) A (.own (B n).st.length) ((B n).newG (oS (Z n))) := fun os σ H k Q q =>
  hw os σ H k _ fun os1 H1 J k1 g1 Y p hp => by
    have hl : ∀ i, i ≤ n → (Z i).length ≤ i := by
      intro i
      induction i with
      | zero => intro _; rw [hZ]; exact Nat.le_refl _
      | succ i ih =>
        intro hi
        obtain ⟨_, _, _, _, _, h⟩ := hs i hi []
        rcases h with ⟨_, k0, y0, _, _, _, _, e, _⟩ | ⟨_, e, _⟩
        · rw [e]; have := ih (by omega); have := putS_len (Z i) k0 y0; omega
        · rw [e]; have := ih (by omega); omega
    subst h0
    refine ⟨fun i m H' => m = n - i ∧ i ≤ n ∧ ∃ os' acc, Ok (C.hide p) os' (B i) σ H' ∧ GrP p C.O os1 (upd H1 p (.dK [])) os' H' ∧ H' p = some (.dK acc) ∧ KvS C.K os' (Rh (p :: C.O) os' H') (Z i) acc, ⟨n, rfl, Nat.zero_le _, os1, [], k1.hide hp nt_k, ⟨Ex.refl _, fun _ _ => rfl, fun _ _ h => h⟩, upd_same, by rw [hZ]; exact .nil⟩, ?_⟩
    rintro i m H' ⟨rfl, hi, os', acc, k', g', hp', ha⟩
    have e' : Ex (Rh C.O os1 H1) (Rh (p :: C.O) os' H') := by
      have e := g'.e
      rw [Rh_hide hp] at e
      exact e
    by_cases hlt : i < n
    · refine .inr ⟨Y.go i H' hlt (e'.trans hd_ex), fun H2 => i + 1 ≤ n ∧ ∃ os' acc, Ok (C.hide p) os' (B (i + 1)) σ H2 ∧ GrP p C.O os1 (upd H1 p (.dK [])) os' H2 ∧ H2 p = some (.dK acc) ∧ KvS C.K os' (Rh (p :: C.O) os' H2) (Z (i + 1)) acc, fun H2 q => ⟨n - (i + 1), by omega, rfl, q.1, q.2⟩, fun v H2 hy => ?_⟩
      obtain ⟨x1, x2, x3⟩ := Y.yl i H' v H2 (hid (p :: C.O) os') hlt hy e' fun a h => k'.hidden h
      have k2 := k'.mono x1 (x2 _ k'.tb)
      have gp : GrP p C.O os' H' os' H2 := ⟨hd_mono x1, fun a h => by
        obtain ⟨o, q, nt⟩ := k'.ol a (List.mem_cons_of_mem _ h)
        rw [q, x1 _ _ q nt], fun _ _ h => h⟩
      exact dcG_turn (hs i hlt _) k2 (x1 _ _ hp' nt_k) ⟨ha.1, ha.2.mono (hd_mono x1)⟩ x3 (fresh_0 k1 hp) (fresh_O k1 hp) (by have := hl i (by omega); omega) _ fun os2 acc2 H3 k3 g3 hp3 ha3 => ⟨hlt, os2, acc2, k3, (g'.trans gp).trans g3, hp3, ha3⟩
    · obtain rfl : i = n := by omega
      refine .inl ⟨Y.stop H' (e'.trans hd_ex), ?_⟩
      have ko := k'.ownH (od := oS (Z i)) hp' nt_k (fresh_0 k1 hp) (fresh_O k1 hp) ⟨p, acc, rfl, hp', ha.1, ha.2.app⟩
      exact q _ _ H' ko (g1.trans (Gr.ownH k1 hp g')) ⟨p, rfl, by rw [← k'.ln]; simp⟩
end
end Py
end

section
set_option Elab.async false
set_option linter.all false
set_option maxRecDepth 100000
set_option maxHeartbeats 4000000
set_option autoImplicit false
namespace Py
open PySem PySem.Spec PyProof.Rows L2
/-! ### dict comprehensions, keys of any kind, one clause or two: what is done with an item is a reading of its own -/
section
variable {prog : Program} {w : World} {A : Around} {R : Result → Shared → Prop} {s : Shared} {kx vx : Expr} {gs : List Comprehension} {scope : Scope} {pos : Pos} {it acc : Value} {env : Env}
abbrev Asks (ifs : List Expr) (env : Env) : Sem Bool := forIn ifs true fun c r => if r = true then do let ok ← isTrue c env (eval c env); pure (ForInStep.yield ok) else pure (ForInStep.yield r)
abbrev No : Value → Shared → Prop := fun _ _ => False
theorem no {α : Type} {t : Sem α} {Q : α → Shared → Prop} {M : Model} {E : Value → Shared → Prop} (h : wpAny M A t Q No s) : wpAny M A t Q E s := wpAny_mono h (fun _ _ x => x) fun _ _ z => z.elim
/-- a clause's loop; code: what is done with an item that passes the clause's tests -/
theorem clause_loop {dp : Nat} {tg src : Expr} {ifs : List Expr} {code : Sem Unit}
    (shape : compTurn (.DictComp kx vx gs scope pos) dp it acc env = (do
      standAt src.pos
      match ← pyNext it with
      | none => pure (.done .next)
      | some v =>
        letOwnedTupleGo tg it v
        assign tg env v
        let mut ok := true
        for c in ifs do
          if ok then ok ← isTrue c env (eval c env)
        if ok then code
        again (.compLoop (.DictComp kx vx gs scope pos) dp it acc env)))
    (J : Nat → Shared → Prop)
    (turn : ∀ n s, J n s → wpAny (model prog w) A (pyNext it) (fun r sa => match r with
      | none => R (.ok .next) sa
      | some v => wpAny (model prog w) A (letOwnedTupleGo tg it v) (fun _ sb => wpAny (model prog w) A (assign tg env v) (fun _ sc =>
          wpAny (model prog w) A (Asks ifs env) (fun ok sd => if ok = true then wpAny (model prog w) A code (fun _ se => ∃ m, m < n ∧ J m se) No sd else ∃ m, m < n ∧ J m sd) No sc) No sb) No sa) No s)
    (n : Nat) (h : J n s) : codeAny (model prog w) A (.compLoop (.DictComp kx vx gs scope pos) dp it acc env) R s := by
  refine codeAny_loop rfl J (fun n s hJ => ?_) n h
  show wpAny _ A ((compTurn (.DictComp kx vx gs scope pos) dp it acc env).onRaise (fun x => do noteFrame x env; theTreesLotGoes x)) _ _ s
  refine wpAny_noted (no ?_)
  rw [shape]
  refine wpAny_bind (wpAny_standAt (wpAny_bind (thn (turn n s hJ) fun r sa ha => ?_)))
  cases r with
  | none => exact wpAny_pure ha
  | some v =>
    refine wpAny_bind (thn ha fun _ sb hb => wpAny_bind (thn hb fun _ sc hc => wpAny_bind (thn hc fun ok sd hd' => ?_)))
    cases ok with
    | false => exact wpAny_pure ⟨rfl, hd'⟩
    | true => exact wpAny_bind (thn hd' fun _ se he => wpAny_pure ⟨rfl, he⟩)
/-- the start of the second clause -/
theorem clause_start {g0 g1 : Comprehension} {rest : List Comprehension} (h1 : g1.is_async = 0)
    (h0 : codeAny (model prog w) A (.compLoop (.DictComp kx vx (g0 :: g1 :: rest) scope pos) 1 it acc env) R s)
    (h : wpAny (model prog w) A (pyIter it) (fun it' s' => codeAny (model prog w) A (.compLoop (.DictComp kx vx (g0 :: g1 :: rest) scope pos) 1 it' acc env) R s') No s) :
    codeAny (model prog w) A (.compStart (.DictComp kx vx (g0 :: g1 :: rest) scope pos) 1 it acc env) R s := by
  refine codeAny_of_tree ?_
  show wpAny _ _ ((compStart (.DictComp kx vx (g0 :: g1 :: rest) scope pos) 1 it acc env).onRaise (fun x => do noteFrame x env; standAt theWindowsPlace)) _ _ s
  refine wpAny_notedAt (no ?_)
  unfold compStart
  rw [if_neg (by show ¬ (g1.is_async != 0) = true; rw [h1]; decide)]
  show wpAny _ _ (ask >>= _) _ _ s
  refine wpAny_bind (wpAny_askSetting (wpAny_ite ?_))
  split
  · first
      | exact wpAny_bind (wpAny_pure (wpAny_pure (And.intro rfl h0)))
      | exact wpAny_pure (And.intro rfl h0)
  · first
      | exact wpAny_bind (wpAny_rule (wpAny_bind (wpAny_standAt (wpAny_bind (thn h fun it' s' q => wpAny_pure (And.intro rfl q))))))
      | (refine wpAny_bind (wpAny_rule ?_); show wpAny _ _ (standAt g1.iter.pos >>= _) _ _ s; exact wpAny_bind (wpAny_standAt (wpAny_bind (thn h fun it' s' q => wpAny_pure (And.intro rfl q)))))
end
/-- what is done with an item, told by a reading; own: the block's slots -/
structure BodyOk (X : Cx) (own : List Nat) (body : (Hp → Prop) → Sg → Hp → Prop) (code : Sem Unit) : Prop where
  run : ∀ pins s σ H Nx, Inv X pins σ H s → body Nx σ H → wpAny (model X.prog X.w) X.A code (fun _ s' => ∃ σ' H', Inv X pins σ' H' s' ∧ σ'.length = σ.length ∧ (∀ (j : Nat) v, j ∉ own → σ[j]? = some (some v) → σ'[j]? = some (some v)) ∧ Nx H') No s
/-- d[k] = v for an item -/
def bPut (tk tv : TE) (D : Addr) : (Hp → Prop) → Sg → Hp → Prop := fun Nx σ H => tk σ H fun y H4 => tv σ H4 fun z H5 => ∃ H6, DPut H5 D y z H6 ∧ Nx H6
/-- a second clause -/
def bFor (wi1 : TI) (g1 : TG) (tt1 : TT) (vs1 : List Nat) (inner : (Hp → Prop) → Sg → Hp → Prop) : (Hp → Prop) → Sg → Hp → Prop := fun Nx σ H => wi1 σ H fun J1 H4 => ∃ W1 : Nat → Nat → Hp → Prop, (∃ m, W1 0 m H4) ∧ ∀ j k H, W1 j k H →
  (J1.stop j H ∧ Nx H) ∨ (J1.go j H ∧ ∃ Nx1 : Hp → Prop, (∀ H', Nx1 H' → ∃ k', k' < k ∧ W1 (j + 1) k' H') ∧ ∀ x H', J1.yld j H x H' → g1 x (L2.wipe σ vs1) H' fun σ3 H5 => L2.wipe σ3 vs1 = L2.wipe σ vs1 ∧ tt1 σ3 H5 fun b H6 => if b = true then inner Nx1 σ3 H6 else Nx1 H6)
/-- the whole -/
def tCmp (emp : HO) (wi : TI) (g : TG) (tt : TT) (body : Addr → (Hp → Prop) → Sg → Hp → Prop) (vs : List Nat) : TE := fun σ H Q => wi σ H fun J H1 => ∀ D, H1 D = none → ∃ W : Nat → Nat → Hp → Prop, (∃ m, W 0 m (upd H1 D emp)) ∧ ∀ i m H, W i m H →
  (J.stop i H ∧ Q (.ref D) H) ∨ (J.go i H ∧ ∃ Nx : Hp → Prop, (∀ H', Nx H' → ∃ m', m' < m ∧ W (i + 1) m' H') ∧ ∀ x H', J.yld i H x H' → g x (L2.wipe σ vs) H' fun σ2 H2 => L2.wipe σ2 vs = L2.wipe σ vs ∧ tt σ2 H2 fun b H3 => if b = true then body D Nx σ2 H3 else Nx H3)
section
variable {X : Cx}
theorem d_dictPut {pins : List (Addr × Obj)} {σ : Sg} {H H' : Hp} {s : Shared} {E : Value → Shared → Prop} {D : Addr} {y v : V} {u r : Value} {Q : Unit → Shared → Prop} (hu : X.A.units + 1 < cLine) (I : Inv X pins σ H s) (g : DPut H D y v H') (ry : RelV y u) (rv : RelV v r)
    (h : ∀ s', Inv X pins σ H' s' → Q () s') : wpAny (model X.prog X.w) X.A (dictSet D u r) Q E s := by
  rcases g with ⟨kvs, k, e, rfl, l, rfl⟩ | ⟨kvs, k, b, e, rfl, eb, l, rfl⟩
  · exact d_dictSet I e l ry rv h
  · cases (show u = Value.ref b from ry)
    obtain ⟨z, hd, xs, rel, dd⟩ := dt_of I.hok e
    have hz : xs.length ≤ sizeLine := by rw [← Paired.length rel]; exact z
    have few : (putK kvs k v).length ≤ sizeLine := by have := length_putK kvs k v; omega
    refine wpAny_dictSet_heap (hsz := hz) (show (tupleKind (mixKind X.prog X.w)).room X.A from Nat.lt_of_succ_lt hu) (key_of I.hok eb) dd fun h' dd' same => h _ ?_
    obtain ⟨q, es, ep, at', p2, p3, p4, _, p5⟩ := dd'
    refine d_write I (by rw [e]; exact True.intro) same ⟨q, at'⟩ ⟨few, hd, _, (rel.put k eb rv).keeps fun c ys ec => ?_, q, es, ep, at', p2, p3, p4, p5⟩
    rw [upd_ne (ne_of ec e (fun z => nomatch z))]
    exact ec
theorem body_put {kx vx : Expr} {tk tv : TE} {own : List Nat} {D : Addr} (hx : X.xe = No) (hu : X.A.units + 1 < cLine) (hk : PE X kx tk) (hv : PE X vx tv) : BodyOk X own (bPut tk tv D) (do
      let kv ← eval kx X.env
      let vv ← holding [kv] (eval vx X.env)
      standAt { kx.pos with endLine := vx.pos.endLine, endCol := vx.pos.endCol }
      holding [kv, vv] (dictSet D kv vv)) := ⟨fun pins s σ H Nx I h => by
  have rk := hk.run pins s σ H _ I h
  rw [hx] at rk
  refine wpAny_bind (thn rk fun kv sa ⟨y, Ha, Ia, ry, qa⟩ => ?_)
  have rv := hv.run pins sa σ Ha _ Ia qa
  rw [hx] at rv
  exact wpAny_bind (wpAny_holding (thn rv fun vv sb ⟨z, Hb, Ib, rz, Hc, dp, nx⟩ => wpAny_bind (wpAny_standAt (wpAny_holding (d_dictPut hu Ib dp ry rz fun sc Ic => ⟨σ, Hc, Ic, rfl, fun _ _ _ e => e, nx⟩)))))⟩
/-- a second clause's loop -/
theorem body_for {kx vx : Expr} {g0 : Comprehension} {tg1 src1 : Expr} {ifs1 : List Expr} {scope : Scope} {pos : Pos} {own vs1 : List Nat} {D : Addr} {wi1 : TI} {g1 : TG} {tt1 : TT} {inner : (Hp → Prop) → Sg → Hp → Prop} (hx : X.xe = No) (hc : X.calm = true) (hv : ∀ i ∈ vs1, i ∈ own)
    (hi : PI X tg1 src1 wi1) (hg : PG X tg1 g1) (ht : PTs X ifs1 tt1) (hs : ∀ x, foldedSetIterable src1 X.env x = pure x)
    (hb : BodyOk X vs1 inner (do
      let kv ← eval kx X.env
      let vv ← holding [kv] (eval vx X.env)
      standAt { kx.pos with endLine := vx.pos.endLine, endCol := vx.pos.endCol }
      holding [kv, vv] (dictSet D kv vv))) :
    BodyOk X own (bFor wi1 g1 tt1 vs1 inner) (do
      let x ← eval src1 X.env
      standAt src1.pos
      let x ← foldedSetIterable src1 X.env x
      let _ ← runOwn (.compStart (.DictComp kx vx [g0, ⟨tg1, src1, ifs1, 0⟩] scope pos) 1 (← holding [x] (pyIter x)) (.ref D) X.env) X.env) := ⟨fun pins s σ H Nx I h => by
  have ri := hi.run pins s σ H _ I h
  rw [hx] at ri
  refine wpAny_bind (thn ri fun xv sa ha => wpAny_bind (wpAny_standAt (wpAny_bind (wpAny_of_eq (hs xv) (wpAny_bind (wpAny_holding (thn ha fun itv sb hb' => ?_)))))))
  obtain ⟨it, fp, tn, J, H1, rfl, I1, T, st1, f1, W, ⟨m0, w0⟩, turn⟩ := hb'
  have fpk : ∀ {H' : Hp}, (∀ b ∈ fp, H' b = none) → ∀ b ∈ fp, FpOk X pins H' b := fun free b hb => ⟨free b hb, (f1 b hb).2⟩
  refine wpAny_bind (wpAny_runOwn ?_)
  rw [Around.mark_none]
  have loop : codeAny (model X.prog X.w) X.A (.compLoop (.DictComp kx vx [g0, ⟨tg1, src1, ifs1, 0⟩] scope pos) 1 (.ref it) (.ref D) X.env)
      (fun r s' => match r with
        | .ok _ => ∃ σ' H', Inv X pins σ' H' s' ∧ σ'.length = σ.length ∧ (∀ (j : Nat) v, j ∉ own → σ[j]? = some (some v) → σ'[j]? = some (some v)) ∧ Nx H'
        | .error _ => False) sb := by
    refine clause_loop (tg := tg1) (src := src1) (ifs := ifs1) (by rfl) (fun k s' => ∃ j H', Inv X pins (L2.wipe σ vs1) H' s' ∧ tn j s'.heap ∧ (∀ b ∈ fp, H' b = none) ∧ W j k H') ?_ m0 ⟨0, H1, I1.weak (wipe_length _ _) (fun j v e => (wipe_some e).1), st1, fun b hb => (f1 b hb).1, w0⟩
    rintro k sc ⟨j, H2, I2, st2, free2, w2⟩
    rcases turn j k H2 w2 with ⟨stop, nx⟩ | ⟨go, Nx1, hNx, step⟩
    · refine thn (T.done X rfl rfl rfl hc j pins sc (L2.wipe σ vs1) H2 No I2 (fpk free2) st2 stop) fun r sd ⟨hr, I3⟩ => ?_
      subst hr
      refine ⟨L2.wipe σ vs1, H2, I3, wipe_length _ _, fun i v hi e => ?_, nx⟩
      rw [wipe_out fun z => hi (hv i z)]
      exact e
    · refine thn (T.item X rfl rfl rfl hc j pins sc (L2.wipe σ vs1) H2 No I2 (fpk free2) st2 go) fun r sd ⟨u, hr, hd'⟩ => ?_
      subst hr
      refine thn hd' fun _ se ⟨x, H3, I3, rx, y3, st3, free3⟩ => ?_
      have I3' := I3.pinned (fpk free3) (T.obj _ _ st3)
      have rg := hg.run _ se (L2.wipe σ vs1) H3 x u _ I3' rx (step x H3 y3)
      rw [hx] at rg
      refine thn rg fun _ sf ⟨σ4, H4, I4, w4, q4⟩ => ?_
      have rt := ht.run _ sf σ4 H4 _ I4 q4
      rw [hx] at rt
      refine thn rt fun ok sg ⟨H5, I5, q5⟩ => ?_
      have next : ∀ {σ9 : Sg} {s' : Shared} {H' : Hp}, Inv X (pins ++ pinsAt fp se.heap) σ9 H' s' → σ9.length = σ4.length → (∀ (i : Nat) v, i ∉ vs1 → σ4[i]? = some (some v) → σ9[i]? = some (some v)) → Nx1 H' → ∃ m, m < k ∧ ∃ j H', Inv X pins (L2.wipe σ vs1) H' s' ∧ tn j s'.heap ∧ (∀ b ∈ fp, H' b = none) ∧ W j m H' := fun {σ9 s' H'} I' hl hk nx => by
        obtain ⟨m', lt, w'⟩ := hNx H' nx
        have pin' : ∀ b ∈ fp, ∀ o, se.heap.get? b = some o → s'.heap.get? b = some o ∧ H' b = none := fun b hb o e =>
          let z := I'.pin (b, o) (List.mem_append_right _ (List.mem_append_right _ (mem_pinsAt hb e)))
          ⟨z.1, z.2.1⟩
        refine ⟨m', lt, j + 1, H', I'.unpinned.weak (by rw [hl, ← wipe_length σ4 vs1, w4]) (fun i v e => ?_), T.keep _ _ _ st3 fun b hb o e => (pin' b hb o e).1, fun b hb => ?_, w'⟩
        · rw [← w4] at e
          obtain ⟨e1, e2⟩ := wipe_some e
          exact hk i v e2 e1
        · obtain ⟨o, e, _⟩ := T.obj _ _ st3 b hb
          exact (pin' b hb o e).2
      cases ok with
      | false =>
        simp only [Bool.false_eq_true, if_false] at q5 ⊢
        exact next I5 rfl (fun _ _ _ e => e) q5
      | true =>
        simp only [if_true] at q5 ⊢
        refine thn (hb.run _ sg σ4 H5 _ I5 q5) fun _ sh ⟨σ6, H6, I6, l6, k6, nx⟩ => next I6 l6 k6 nx
  refine codeAny_mono (clause_start rfl loop (T.self X.A 0 _ _ _ st1 loop)) fun r s' hr => ?_
  cases r with
  | ok f =>
    first
      | exact wpAny_pure hr
      | exact wpAny_bind (wpAny_pure (wpAny_pure hr))
  | error e => exact hr.elim⟩
/-- a block's frame, for each of its entries -/
abbrev InBlk (X : Cx) (scope : Scope) (p : Cx → Prop) : Prop := ∀ (s : Shared) (H : Hp) (C : Addr) (cl : List (Str × Addr)) (fp : List Addr), p (X.blk s H scope (compEnvC scope cl C X.env) fp)
theorem cmp_core {pins : List (Addr × Obj)} {s : Shared} {σ : Sg} {H : Hp} {Q : VK} {kx vx tg src : Expr} {ifs : List Expr} {rest : List Comprehension} {scope : Scope} {own : List (Str × Nat)} {pos pos' : Pos} {wi : TI} {g : TG} {tt : TT} {emp : HO} {body : Addr → (Hp → Prop) → Sg → Hp → Prop} {code : Value → Env → Sem Unit} {use : Option (Value → Sem Unit)} {Qf : Value → Shared → Prop}
    (he : emp = .dK [] ∨ emp = .dT []) (hc : X.calm = true) (hN : X.N.Nodup) (I : Inv X pins σ H s) (hi : PI X tg src wi) (ok : BlkOk X.N X.env.scope scope own)
    (hg : InBlk X scope fun Y => PG Y tg g) (ht : InBlk X scope fun Y => PTs Y ifs tt) (hb : InBlk X scope fun Y => ∀ D, BodyOk Y (own.map (·.2)) (body D) (code (.ref D) Y.env)) (hs : ∀ x, foldedSetIterable src X.env x = pure x)
    (shape : ∀ it acc env, compTurn (.DictComp kx vx (⟨tg, src, ifs, 0⟩ :: rest) scope pos) 0 it acc env = (do
      standAt src.pos
      match ← pyNext it with
      | none => pure (.done .next)
      | some v =>
        letOwnedTupleGo tg it v
        assign tg env v
        let mut ok := true
        for c in ifs do
          if ok then ok ← isTrue c env (eval c env)
        if ok then code acc env
        again (.compLoop (.DictComp kx vx (⟨tg, src, ifs, 0⟩ :: rest) scope pos) 0 it acc env)))
    (h : tCmp emp wi g tt body (own.map (·.2)) σ H Q)
    (fin : ∀ D C s' m H', Inv X pins σ H' s' → Q (.ref D) H' → s'.heap.Ns C m → FpOk X pins H' C → compPost (model X.prog X.w) X.A X.xe use Qf (.ref D) C (.ok .next) s') :
    wpAny (model X.prog X.w) X.A (comprehension (.DictComp kx vx (⟨tg, src, ifs, 0⟩ :: rest) scope pos) scope X.env pos' newDict false (eval src X.env) use) Qf X.xe s := by
  have cellsThere : ∀ y ∈ scope.names, y.2 = .free → ∃ c, X.env.cells.lookup y.1 = some c := fun y hy e => (ok.free y hy e).elim (fun k => I.ok.has _ (.inl k)) fun k => I.ok.has _ (.inr k)
  refine wpAny_comprehension_free (use := use) rfl hs (closure_ok cellsThere) ok.kind (fun y hy e => by rw [ok.uniq y hy, e]) (thn (hi.run pins s σ H _ I h) fun xv sa ha => thn ha fun itv sb hb0 => ?_)
  obtain ⟨it, fp, tn, J, Hb, rfl, Ib, T, stb, fpb, q⟩ := hb0
  refine wpAny_newObj_type (newEnv_comp ?_)
  generalize hD : sb.heap.objs.size = D
  obtain ⟨W, ⟨m0, w0⟩, turn⟩ := q D (Ib.hok.fresh (Nat.le_of_eq hD))
  generalize hsc : ({ sb with heap := sb.heap.push { cls := .type "dict", data := .dict #[] } } : Shared) = sc
  have hph : sc.heap = sb.heap.push { cls := .type "dict", data := .dict #[] } := by rw [← hsc]
  have Ic : Inv X pins σ (upd Hb D emp) sc := by
    rw [← hsc]
    refine Ib.laid (t' := sb.toks) (fun b o e => Heap.get?_push_of_some _ e) (Nat.le_of_eq hD) ?_
    rw [← hD]
    rcases he with rfl | rfl
    · exact dk_empty sb.heap Ib.big
    · exact dt_empty sb.heap Ib.big
  have fpc : ∀ b ∈ fp, FpOk X pins (upd Hb D emp) b ∧ b < sc.heap.objs.size := fun b hb => by
    obtain ⟨o, e, _⟩ := T.obj _ _ stb b hb
    have lt := Heap.lt_size e
    refine ⟨⟨?_, (fpb b hb).2⟩, by rw [hph, Heap.size_push]; exact Nat.lt_succ_of_lt lt⟩
    rw [upd_ne (by rw [← hD]; exact Nat.ne_of_lt lt)]
    exact (fpb b hb).1
  have stc : tn 0 sc.heap := T.keep _ _ _ stb fun b _ o e => by rw [hph]; exact Heap.get?_push_of_some _ e
  have Id := block_start Ic ok hN fpc
  have hgY := hg sc (upd Hb D emp) sc.heap.objs.size (cellsFrom (sc.heap.objs.size + 1) scope.names (cloFrom X.env.cells scope.names [])) fp
  have htY := ht sc (upd Hb D emp) sc.heap.objs.size (cellsFrom (sc.heap.objs.size + 1) scope.names (cloFrom X.env.cells scope.names [])) fp
  have hbY := hb sc (upd Hb D emp) sc.heap.objs.size (cellsFrom (sc.heap.objs.size + 1) scope.names (cloFrom X.env.cells scope.names [])) fp
  show codeAny _ _ (.compStart (.DictComp kx vx (⟨tg, src, ifs, 0⟩ :: rest) scope pos) 0 (.ref it) (.ref D) (compEnvC scope (cellsFrom (sc.heap.objs.size + 1) scope.names (cloFrom X.env.cells scope.names [])) sc.heap.objs.size X.env)) (compPost (model X.prog X.w) X.A X.xe use Qf (.ref D) sc.heap.objs.size) { sc with heap := pushCells (sc.heap.push { cls := .type "dict", data := .dict #[] }) scope.names }
  have free0 : ∀ b ∈ fp, (upd Hb D emp) b = none := fun b hb => (fpc b hb).1.1
  generalize hce : compEnvC scope (cellsFrom (sc.heap.objs.size + 1) scope.names (cloFrom X.env.cells scope.names [])) sc.heap.objs.size X.env = ce at Id hgY htY hbY ⊢
  have locals : ce.locals = sc.heap.objs.size := by subst hce; rfl
  generalize hHc : upd Hb D emp = Hc at Ic Id hgY htY hbY w0 free0 fpc
  generalize hsd : ({ sc with heap := pushCells (sc.heap.push { cls := .type "dict", data := .dict #[] }) scope.names } : Shared) = sd at Id ⊢
  have std : tn 0 sd.heap := T.keep _ _ _ stc fun b _ o e => by rw [← hsd]; exact pushCells_keeps _ _ _ _ (Heap.get?_push_of_some _ e)
  generalize hY : X.blk sc Hc scope ce fp = Y at Id hgY htY hbY
  have eY : Y.prog = X.prog ∧ Y.w = X.w ∧ Y.K = X.K ∧ Y.calm = X.calm ∧ Y.A = X.A ∧ Y.xe = No ∧ Y.env = ce := by rw [← hY]; exact ⟨rfl, rfl, rfl, rfl, rfl, rfl, rfl⟩
  obtain ⟨eP, eW, eK, eC, eA, eX, eE⟩ := eY
  have hcY : Y.calm = true := eC.trans hc
  have fpk : ∀ {σ' : Sg} {H' : Hp} {s' : Shared}, Inv Y [] σ' H' s' → (∀ b ∈ fp, H' b = none) → ∀ b ∈ fp, FpOk Y [] H' b := by
    rw [← hY]
    exact fun {σ' H' s'} I' free b hb => ⟨free b hb, (I'.ok.exf b hb).1, I'.ok.exfs b hb, .inl hb, fun x c e => (I'.ok.exf b hb).2 x c e, fun p hp => absurd (show p ∈ ([] : List (Addr × Obj)) ++ [] from hp) (by simp)⟩
  have loop : codeAny (model X.prog X.w) X.A (.compLoop (.DictComp kx vx (⟨tg, src, ifs, 0⟩ :: rest) scope pos) 0 (.ref it) (.ref D) ce) (compPost (model X.prog X.w) X.A X.xe use Qf (.ref D) sc.heap.objs.size) sd := by
    refine clause_loop (shape (.ref it) (.ref D) ce) (fun n s' => ∃ i H', Inv Y [] (L2.wipe σ (own.map (·.2))) H' s' ∧ tn i s'.heap ∧ (∀ b ∈ fp, H' b = none) ∧ W i n H') ?_ m0 ⟨0, Hc, Id, std, free0, w0⟩
    rintro n se ⟨i, He, Ie, ste, freee, we⟩
    rcases turn i n He we with ⟨stop, qq⟩ | ⟨go, Nx, hNx, step⟩
    · have td := T.done Y eP eW eK hcY i [] se _ He No Ie (fpk Ie freee) ste stop
      rw [eA] at td
      refine thn td fun r sf ⟨hr, If⟩ => ?_
      subst hr
      subst hY
      have Ig : Inv X pins σ He sf := Ic.call' (ch := fp) If.os If.base If.hok If.bare fun b hb => ⟨(fpc b hb).1.2.2.2.1, (fpc b hb).1.2.1, (fpc b hb).1.2.2.2.2.1, (fpc b hb).1.2.2.2.2.2⟩
      have nC : He sc.heap.objs.size = none := by
        have z : He ce.locals = none := If.free
        rw [locals] at z
        exact z
      obtain ⟨m, hn, _⟩ := If.loc
      have hn : sf.heap.Ns ce.locals m := hn
      rw [locals] at hn
      exact fin D sc.heap.objs.size sf m He Ig qq hn (Ic.fpOk (Nat.le_refl _) nC)
    · have ti := T.item Y eP eW eK hcY i [] se _ He No Ie (fpk Ie freee) ste go
      rw [eA] at ti
      refine thn ti fun r sf ⟨u, hr, hf⟩ => ?_
      subst hr
      refine thn hf fun _ sg ⟨x, Hg, Ig, rg, yg, stg, freeg⟩ => ?_
      have Ig' := Ig.pinned (fpk Ig freeg) (T.obj _ _ stg)
      have pg := hgY.run _ sg _ Hg x u _ Ig' rg (step x Hg yg)
      rw [eX, eP, eW, eA, eE] at pg
      refine thn pg fun _ sh ⟨σh, Hh, Ih, wh, qh⟩ => ?_
      have pt := htY.run _ sh σh Hh _ Ih qh
      rw [eX, eP, eW, eA, eE] at pt
      refine thn pt fun okb si ⟨Hi, Ii, qi⟩ => ?_
      have next : ∀ {σ9 : Sg} {s' : Shared} {H' : Hp}, Inv Y ([] ++ pinsAt fp sg.heap) σ9 H' s' → σ9.length = σh.length → (∀ (j : Nat) v, j ∉ own.map (·.2) → σh[j]? = some (some v) → σ9[j]? = some (some v)) → Nx H' → ∃ m, m < n ∧ ∃ i H', Inv Y [] (L2.wipe σ (own.map (·.2))) H' s' ∧ tn i s'.heap ∧ (∀ b ∈ fp, H' b = none) ∧ W i m H' := fun {σ9 s' H'} I' hl hk nx => by
        obtain ⟨m', lt, w'⟩ := hNx H' nx
        have pin' : ∀ b ∈ fp, ∀ o, sg.heap.get? b = some o → s'.heap.get? b = some o ∧ H' b = none := fun b hb o e =>
          let z := I'.pin (b, o) (List.mem_append_right _ (List.mem_append_right _ (mem_pinsAt hb e)))
          ⟨z.1, z.2.1⟩
        refine ⟨m', lt, i + 1, H', (I'.unpinned (pins := [])).weak (by rw [hl, ← wipe_length σh (own.map (·.2)), wh]) (fun j v e => ?_), T.keep _ _ _ stg fun b hb o e => (pin' b hb o e).1, fun b hb => ?_, w'⟩
        · rw [← wh] at e
          obtain ⟨e1, e2⟩ := wipe_some e
          exact hk j v e2 e1
        · obtain ⟨o, e, _⟩ := T.obj _ _ stg b hb
          exact (pin' b hb o e).2
      cases okb with
      | false =>
        simp only [Bool.false_eq_true, if_false] at qi ⊢
        exact next Ii rfl (fun _ _ _ e => e) qi
      | true =>
        simp only [if_true] at qi ⊢
        have pb := (hbY D).run _ si σh Hi _ Ii qi
        rw [eP, eW, eA, eE] at pb
        exact thn pb fun _ sj ⟨σj, Hj, Ij, lj, kj, nx⟩ => next Ij lj kj nx
  exact codeAny_compStart_dict loop (no (T.self X.A 0 _ _ _ std loop))
/-- as a value -/
theorem pe_cmpD {kx vx tg src : Expr} {ifs : List Expr} {rest : List Comprehension} {scope : Scope} {own : List (Str × Nat)} {pos : Pos} {wi : TI} {g : TG} {tt : TT} {emp : HO} {body : Addr → (Hp → Prop) → Sg → Hp → Prop} {code : Value → Env → Sem Unit}
    (he : emp = .dK [] ∨ emp = .dT []) (hc : X.calm = true) (hN : X.N.Nodup) (hi : PI X tg src wi) (ok : BlkOk X.N X.env.scope scope own)
    (hg : InBlk X scope fun Y => PG Y tg g) (ht : InBlk X scope fun Y => PTs Y ifs tt) (hb : InBlk X scope fun Y => ∀ D, BodyOk Y (own.map (·.2)) (body D) (code (.ref D) Y.env))
    (shape : ∀ it acc env, compTurn (.DictComp kx vx (⟨tg, src, ifs, 0⟩ :: rest) scope pos) 0 it acc env = (do
      standAt src.pos
      match ← pyNext it with
      | none => pure (.done .next)
      | some v =>
        letOwnedTupleGo tg it v
        assign tg env v
        let mut ok := true
        for c in ifs do
          if ok then ok ← isTrue c env (eval c env)
        if ok then code acc env
        again (.compLoop (.DictComp kx vx (⟨tg, src, ifs, 0⟩ :: rest) scope pos) 0 it acc env)) := by intro _ _ _; rfl) (hs : ∀ x, foldedSetIterable src X.env x = pure x := by intro _; rfl) :
    PE X (.DictComp kx vx (⟨tg, src, ifs, 0⟩ :: rest) scope pos) (tCmp emp wi g tt body (own.map (·.2))) := by
  refine ⟨fun pins s σ H Q I h => ?_⟩
  rw [arm_eval_DictComp]
  refine cmp_core he hc hN I hi ok hg ht hb hs shape h fun D C s' m H' I' q hn f => ⟨m, hn, fun h'' sb => ?_⟩
  obtain ⟨f0, f1, f2, f3, f4, f5⟩ := f
  exact ⟨.ref D, H', I'.turned (t' := s'.toks) (fun b o hb e => (sb.2 b hb).trans e) f0 f1 f3 f4 f5, rfl, q⟩
end
end Py
end

section
set_option Elab.async false
set_option linter.all false
set_option maxRecDepth 100000
set_option maxHeartbeats 4000000
set_option autoImplicit false
namespace Py
open PySem PySem.Spec PyProof.Rows L2
section
variable {X : Cx}
/-- x = {k: v for ..}, x a local name -/
theorem ps_setCmp {i : Nat} {y : Str} {py : Pos} {kx vx tg src : Expr} {ifs : List Expr} {rest : List Comprehension} {scope : Scope} {own : List (Str × Nat)} {pos spos : Pos} {wi : TI} {g : TG} {tt : TT} {emp : HO} {body : Addr → (Hp → Prop) → Sg → Hp → Prop} {code : Value → Env → Sem Unit}
    (he : emp = .dK [] ∨ emp = .dT []) (calm : X.calm = true) (hN : X.N.Nodup) (hy : X.N[i]? = some y) (hyl : X.env.scope.names.lookup y = some .local)
    (hsw : swapsWith (.DictComp kx vx (⟨tg, src, ifs, 0⟩ :: rest) scope pos) (some (.Name y py)) spos.line X.env = pure true) (hi : PI X tg src wi) (ok : BlkOk X.N X.env.scope scope own)
    (hg : InBlk X scope fun Y => PG Y tg g) (ht : InBlk X scope fun Y => PTs Y ifs tt) (hb : InBlk X scope fun Y => ∀ D, BodyOk Y (own.map (·.2)) (body D) (code (.ref D) Y.env))
    (shape : ∀ it acc env, compTurn (.DictComp kx vx (⟨tg, src, ifs, 0⟩ :: rest) scope pos) 0 it acc env = (do
      standAt src.pos
      match ← pyNext it with
      | none => pure (.done .next)
      | some v =>
        letOwnedTupleGo tg it v
        assign tg env v
        let mut ok := true
        for c in ifs do
          if ok then ok ← isTrue c env (eval c env)
        if ok then code acc env
        again (.compLoop (.DictComp kx vx (⟨tg, src, ifs, 0⟩ :: rest) scope pos) 0 it acc env)) := by intro _ _ _; rfl) (fold : ∀ x, foldedSetIterable src X.env x = pure x := by intro _; rfl) :
    PS X (.Assign [.Name y py] (.DictComp kx vx (⟨tg, src, ifs, 0⟩ :: rest) scope pos) spos) (tAsg (tCmp emp wi g tt body (own.map (·.2))) (gName i)) where
  run pins s σ H D I h := by
    rw [exec_Assign_Name_used _ _ _ _ hsw]
    refine wpAny_bind (wpAny_standAt (wpAny_bind ?_))
    have gives : tCmp emp wi g tt body (own.map (·.2)) σ H fun x H1 => gName i x σ H1 D.nx := h
    have made := cmp_core (pos' := firstIterPos (⟨tg, src, ifs, 0⟩ :: rest) pos) (use := some (assign (.Name y py) X.env)) (Qf := fun _ z => SP X pins D .next z) he calm hN I hi ok hg ht hb fold shape gives fun _ _ _ _ _ J q hn f => named_end hN hy hyl J q hn f
    show wpAny _ X.A (comprehension (.DictComp kx vx (⟨tg, src, ifs, 0⟩ :: rest) scope pos) scope X.env _ newDict false (eval src X.env) (some (assign (.Name y py) X.env)) >>= fun _ => _) _ _ s
    exact wpAny_bind (thn made fun _ _ e => wpAny_pure (wpAny_pure e))
end
/-! ### what they give: new dicts of one's own -/
section
variable {C : Ct} {A A1 A2 : AS} {te tl tk tv : TE} {tt tt1 : TT} {g g1 : TG} {ws ws1 : List Nat} {σ : Sg} {H : Hp} {os : List (Option Addr)}
theorem bput_turn {p : Addr} {x : Dt} {v : V} {ys ys2 : KS} {acc : List (Key × V)} (t : DcG (C.hide p) g tt tk tv ws x A ys A2 ys2) (k : Ok (C.hide p) os A σ H) (hp : H p = some (.dK acc)) (ha : KvS C.K os (Rh (p :: C.O) os H) ys acc) (hx : Is C.K (Rh (p :: C.O) os H) x v)
    (h0 : ∀ o, C.H0 p = some o → ¬ NoT o) (hO : p ∉ C.O) (hl : ys.length < 100000) (R : Hp → Prop) (hR : ∀ os' acc' H', Ok (C.hide p) os' A2 σ H' → GrP p C.O os H os' H' → H' p = some (.dK acc') → KvS C.K os' (Rh (p :: C.O) os' H') ys2 acc' → R H') :
    g v (L2.wipe σ ws) H fun σ2 H2 => L2.wipe σ2 ws = L2.wipe σ ws ∧ tt σ2 H2 fun b H3 => if b = true then bPut tk tv p R σ2 H3 else R H3 := by
  obtain ⟨A1, b, A', tg, ht, hb⟩ := t
  refine tg os _ H v _ k.wiped hx fun σ2 k2 e2 => ⟨e2.trans wipe_wipe, ht os σ2 H k2 _ fun os3 H3 k3 g3 => ?_⟩
  have e2' : L2.wipe σ2 ws = L2.wipe σ ws := e2.trans wipe_wipe
  have hp3 : H3 p = some (.dK acc) := (g3.o p (List.mem_cons_self ..)).trans hp
  rcases hb with ⟨rfl, k0, y, A3, A4, hk, hv, rfl, rfl⟩ | ⟨rfl, rfl, rfl⟩
  · rw [if_pos rfl]
    refine hk os3 σ2 H3 k3 _ fun os4 w H4 k4 g4 i4 => hv os4 σ2 H4 k4 _ fun os5 z H5 k5 g5 i5 => ?_
    rw [Is.v_iff.mp i4]
    have gg := (g3.trans g4).trans g5
    have hp5 : H5 p = some (.dK acc) := (gg.o p (List.mem_cons_self ..)).trans hp
    have ka := ha.gr gg
    refine ⟨_, .inl ⟨acc, k0, hp5, rfl, by rw [ha.len]; exact Nat.lt_of_lt_of_le hl (by decide), rfl⟩, hR os5 _ _ (Ok.updK (C := C.hide p) (k5.back e2') (List.mem_cons_self ..) h0 hp5) ⟨?_, fun a h => ?_, gg.p⟩ upd_same ?_⟩
    · rw [Rh_updO (List.mem_cons_self ..)]; exact gg.e
    · rw [upd_ne fun z => hO (by rw [← z]; exact h)]
      exact gg.o a (List.mem_cons_of_mem _ h)
    · rw [Rh_updO (List.mem_cons_self ..)]
      exact ka.put i5
  · rw [if_neg (by decide)]
    exact hR os3 acc H3 (k3.back e2') ⟨g3.e, fun a h => g3.o a (List.mem_cons_of_mem _ h), g3.p⟩ hp3 (ha.gr g3)
theorem DcG.few {x : Dt} {ys ys2 : KS} (h : DcG C g tt tk tv ws x A ys A2 ys2) : ys2.length ≤ ys.length + 1 := by
  obtain ⟨_, _, _, _, _, h⟩ := h
  rcases h with ⟨_, k0, y0, _, _, _, _, e, _⟩ | ⟨_, e, _⟩
  · rw [e]; exact putS_len ..
  · rw [e]; omega
theorem g_cmp {wi : TI} {n : Nat} {y : Nat → Dt} (hw : WiS C wi A n y A1) (B : Nat → AS) (Z : Nat → KS) (h0 : A1 = B 0) (hZ : Z 0 = [])
    (hs : ∀ i, i < n → ∀ O, DcG ⟨C.K, C.T, C.H0, O⟩ g tt tk tv ws (y i) (B i) (Z i) (B (i + 1)) (Z (i + 1))) (hn : n < 100000) : EvG C (tCmp (.dK []) wi g tt (bPut tk tv) ws) A (.own (B n).st.length) ((B n).newG (oS (Z n))) := fun os σ H k Q q =>
  hw os σ H k _ fun os1 H1 J k1 g1 Y p hp => by
    have hl : ∀ i, i ≤ n → (Z i).length ≤ i := by
      intro i
      induction i with
      | zero => intro _; rw [hZ]; exact Nat.le_refl _
      | succ i ih => intro hi; have := (hs i hi []).few; have := ih (by omega); omega
    subst h0
    refine ⟨fun i m H' => m = n - i ∧ i ≤ n ∧ ∃ os' acc, Ok (C.hide p) os' (B i) σ H' ∧ GrP p C.O os1 (upd H1 p (.dK [])) os' H' ∧ H' p = some (.dK acc) ∧ KvS C.K os' (Rh (p :: C.O) os' H') (Z i) acc, ⟨n, rfl, Nat.zero_le _, os1, [], k1.hide hp nt_k, ⟨Ex.refl _, fun _ _ => rfl, fun _ _ h => h⟩, upd_same, by rw [hZ]; exact .nil⟩, ?_⟩
    rintro i m H' ⟨rfl, hi, os', acc, k', g', hp', ha⟩
    have e' : Ex (Rh C.O os1 H1) (Rh (p :: C.O) os' H') := by
      have e := g'.e
      rw [Rh_hide hp] at e
      exact e
    by_cases hlt : i < n
    · refine .inr ⟨Y.go i H' hlt (e'.trans hd_ex), fun H2 => i + 1 ≤ n ∧ ∃ os' acc, Ok (C.hide p) os' (B (i + 1)) σ H2 ∧ GrP p C.O os1 (upd H1 p (.dK [])) os' H2 ∧ H2 p = some (.dK acc) ∧ KvS C.K os' (Rh (p :: C.O) os' H2) (Z (i + 1)) acc, fun H2 q => ⟨n - (i + 1), by omega, rfl, q.1, q.2⟩, fun v H2 hy => ?_⟩
      obtain ⟨x1, x2, x3⟩ := Y.yl i H' v H2 (hid (p :: C.O) os') hlt hy e' fun a h => k'.hidden h
      have k2 := k'.mono x1 (x2 _ k'.tb)
      have gp : GrP p C.O os' H' os' H2 := ⟨hd_mono x1, fun a h => by
        obtain ⟨o, q, nt⟩ := k'.ol a (List.mem_cons_of_mem _ h)
        rw [q, x1 _ _ q nt], fun _ _ h => h⟩
      exact bput_turn (hs i hlt _) k2 (x1 _ _ hp' nt_k) ⟨ha.1, ha.2.mono (hd_mono x1)⟩ x3 (fresh_0 k1 hp) (fresh_O k1 hp) (by have := hl i (by omega); omega) _ fun os2 acc2 H3 k3 g3 hp3 ha3 => ⟨hlt, os2, acc2, k3, (g'.trans gp).trans g3, hp3, ha3⟩
    · obtain rfl : i = n := by omega
      refine .inl ⟨Y.stop H' (e'.trans hd_ex), ?_⟩
      have ko := k'.ownH (od := oS (Z i)) hp' nt_k (fresh_0 k1 hp) (fresh_O k1 hp) ⟨p, acc, rfl, hp', ha.1, ha.2.app⟩
      exact q _ _ H' ko (g1.trans (Gr.ownH k1 hp g')) ⟨p, rfl, by rw [← k'.ln]; simp⟩
/-! keys that are tuples -/
def DcGT (C : Ct) (g : TG) (tt : TT) (tk tv : TE) (ws : List Nat) (x : Dt) (A : AS) (ys : KST) (A2 : AS) (ys2 : KST) : Prop :=
  ∃ A1 b A', TgS C g x (A.wipe ws) A1 ws ∧ EvT C tt A1 b A' ∧ ((b = true ∧ ∃ k s A3 A4, EvS C tk A' (keyD k) A3 ∧ EvG C tv A3 s A4 ∧ ys2 = putS ys k s ∧ A4.wipe ws = A2) ∨ (b = false ∧ ys2 = ys ∧ A'.wipe ws = A2))
theorem Ok.updT {p : Addr} {us vs : List (List Key × V)} (k : Ok C os A σ H) (h : p ∈ C.O) (h0 : ∀ o, C.H0 p = some o → ¬ NoT o) (hl : H p = some (.dT us)) : Ok C os A σ (upd H p (.dT vs)) := by
  refine ⟨fun a o e n => ?_, tabs_at k.tb hl nt_dt (fun _ z => nomatch z), fun a m => ?_, k.dj, k.ln, k.nd, fun a m => ?_, k.sn, fun i s o h1 h2 => ?_, fun i s o h1 h2 => ?_⟩
  · rw [upd_ne fun z => h0 o (by rw [← z]; exact e) n]
    exact k.ex _ _ e n
  · by_cases e : a = p
    · rw [e]; exact ⟨_, upd_same, nt_dt⟩
    · rw [upd_ne e]; exact k.ol a m
  · rw [upd_ne fun z => k.dj p h (by rw [← z]; exact m)]
    exact k.fr a m
  · rw [Rh_updO h]
    exact k.sl i s o h1 h2
  · rw [Rh_updO h]
    exact (k.st i s o h1 h2).heap fun a q1 => upd_ne fun z => k.dj p h (by rw [← z, ← q1]; exact List.mem_of_getElem? h2)
theorem bput_turnT {p : Addr} {x : Dt} {v : V} {ys ys2 : KST} {acc : List (List Key × V)} (t : DcGT (C.hide p) g tt tk tv ws x A ys A2 ys2) (k : Ok (C.hide p) os A σ H) (hp : H p = some (.dT acc)) (ha : KvS C.K os (Rh (p :: C.O) os H) ys acc) (hx : Is C.K (Rh (p :: C.O) os H) x v)
    (h0 : ∀ o, C.H0 p = some o → ¬ NoT o) (hO : p ∉ C.O) (hl : ys.length < 100000) (R : Hp → Prop) (hR : ∀ os' acc' H', Ok (C.hide p) os' A2 σ H' → GrP p C.O os H os' H' → H' p = some (.dT acc') → KvS C.K os' (Rh (p :: C.O) os' H') ys2 acc' → R H') :
    g v (L2.wipe σ ws) H fun σ2 H2 => L2.wipe σ2 ws = L2.wipe σ ws ∧ tt σ2 H2 fun b H3 => if b = true then bPut tk tv p R σ2 H3 else R H3 := by
  obtain ⟨A1, b, A', tg, ht, hb⟩ := t
  refine tg os _ H v _ k.wiped hx fun σ2 k2 e2 => ⟨e2.trans wipe_wipe, ht os σ2 H k2 _ fun os3 H3 k3 g3 => ?_⟩
  have e2' : L2.wipe σ2 ws = L2.wipe σ ws := e2.trans wipe_wipe
  have hp3 : H3 p = some (.dT acc) := (g3.o p (List.mem_cons_self ..)).trans hp
  rcases hb with ⟨rfl, k0, y, A3, A4, hk, hv, rfl, rfl⟩ | ⟨rfl, rfl, rfl⟩
  · rw [if_pos rfl]
    refine hk os3 σ2 H3 k3 _ fun os4 w H4 k4 g4 i4 => hv os4 σ2 H4 k4 _ fun os5 z H5 k5 g5 i5 => ?_
    obtain ⟨b, rfl, hb⟩ := keyD_at (Is.mono g5.e _ _ i4)
    have gg := (g3.trans g4).trans g5
    have hp5 : H5 p = some (.dT acc) := (gg.o p (List.mem_cons_self ..)).trans hp
    have ka := ha.gr gg
    refine ⟨_, .inr ⟨acc, k0, b, hp5, rfl, hd_ex b _ hb nt_t, by rw [ha.len]; exact Nat.lt_of_lt_of_le hl (by decide), rfl⟩, hR os5 _ _ (Ok.updT (C := C.hide p) (k5.back e2') (List.mem_cons_self ..) h0 hp5) ⟨?_, fun a h => ?_, gg.p⟩ upd_same ?_⟩
    · rw [Rh_updO (List.mem_cons_self ..)]; exact gg.e
    · rw [upd_ne fun z => hO (by rw [← z]; exact h)]
      exact gg.o a (List.mem_cons_of_mem _ h)
    · rw [Rh_updO (List.mem_cons_self ..)]
      exact ka.put i5
  · rw [if_neg (by decide)]
    exact hR os3 acc H3 (k3.back e2') ⟨g3.e, fun a h => g3.o a (List.mem_cons_of_mem _ h), g3.p⟩ hp3 (ha.gr g3)
theorem DcGT.few {x : Dt} {ys ys2 : KST} (h : DcGT C g tt tk tv ws x A ys A2 ys2) : ys2.length ≤ ys.length + 1 := by
  obtain ⟨_, _, _, _, _, h⟩ := h
  rcases h with ⟨_, k0, y0, _, _, _, _, e, _⟩ | ⟨_, e, _⟩
  · rw [e]; exact putS_len ..
  · rw [e]; omega
theorem g_cmpT {wi : TI} {n : Nat} {y : Nat → Dt} (hw : WiS C wi A n y A1) (B : Nat → AS) (Z : Nat → KST) (h0 : A1 = B 0) (hZ : Z 0 = [])
    (hs : ∀ i, i < n → ∀ O, DcGT ⟨C.K, C.T, C.H0, O⟩ g tt tk tv ws (y i) (B i) (Z i) (B (i + 1)) (Z (i + 1))) (hn : n < 100000) : EvG C (tCmp (.dT []) wi g tt (bPut tk tv) ws) A (.own (B n).st.length) ((B n).newG (oST (Z n))) := fun os σ H k Q q =>
  hw os σ H k _ fun os1 H1 J k1 g1 Y p hp => by
    have hl : ∀ i, i ≤ n → (Z i).length ≤ i := by
      intro i
      induction i with
      | zero => intro _; rw [hZ]; exact Nat.le_refl _
      | succ i ih => intro hi; have := (hs i hi []).few; have := ih (by omega); omega
    subst h0
    refine ⟨fun i m H' => m = n - i ∧ i ≤ n ∧ ∃ os' acc, Ok (C.hide p) os' (B i) σ H' ∧ GrP p C.O os1 (upd H1 p (.dT [])) os' H' ∧ H' p = some (.dT acc) ∧ KvS C.K os' (Rh (p :: C.O) os' H') (Z i) acc, ⟨n, rfl, Nat.zero_le _, os1, [], k1.hide hp nt_dt, ⟨Ex.refl _, fun _ _ => rfl, fun _ _ h => h⟩, upd_same, by rw [hZ]; exact .nil⟩, ?_⟩
    rintro i m H' ⟨rfl, hi, os', acc, k', g', hp', ha⟩
    have e' : Ex (Rh C.O os1 H1) (Rh (p :: C.O) os' H') := by
      have e := g'.e
      rw [Rh_hide hp] at e
      exact e
    by_cases hlt : i < n
    · refine .inr ⟨Y.go i H' hlt (e'.trans hd_ex), fun H2 => i + 1 ≤ n ∧ ∃ os' acc, Ok (C.hide p) os' (B (i + 1)) σ H2 ∧ GrP p C.O os1 (upd H1 p (.dT [])) os' H2 ∧ H2 p = some (.dT acc) ∧ KvS C.K os' (Rh (p :: C.O) os' H2) (Z (i + 1)) acc, fun H2 q => ⟨n - (i + 1), by omega, rfl, q.1, q.2⟩, fun v H2 hy => ?_⟩
      obtain ⟨x1, x2, x3⟩ := Y.yl i H' v H2 (hid (p :: C.O) os') hlt hy e' fun a h => k'.hidden h
      have k2 := k'.mono x1 (x2 _ k'.tb)
      have gp : GrP p C.O os' H' os' H2 := ⟨hd_mono x1, fun a h => by
        obtain ⟨o, q, nt⟩ := k'.ol a (List.mem_cons_of_mem _ h)
        rw [q, x1 _ _ q nt], fun _ _ h => h⟩
      exact bput_turnT (hs i hlt _) k2 (x1 _ _ hp' nt_dt) ⟨ha.1, ha.2.mono (hd_mono x1)⟩ x3 (fresh_0 k1 hp) (fresh_O k1 hp) (by have := hl i (by omega); omega) _ fun os2 acc2 H3 k3 g3 hp3 ha3 => ⟨hlt, os2, acc2, k3, (g'.trans gp).trans g3, hp3, ha3⟩
    · obtain rfl : i = n := by omega
      refine .inl ⟨Y.stop H' (e'.trans hd_ex), ?_⟩
      have ko := k'.ownH (od := oST (Z i)) hp' nt_dt (fresh_0 k1 hp) (fresh_O k1 hp) ⟨p, acc, rfl, hp', ha.1, ha.2.app⟩
      exact q _ _ H' ko (g1.trans (Gr.ownH k1 hp g')) ⟨p, rfl, by rw [← k'.ln]; simp⟩
/-! two clauses -/
/-- one turn of the outer one -/
def Dc2 (C : Ct) (g : TG) (tt : TT) (wi1 : TI) (g1 : TG) (tt1 : TT) (tk tv : TE) (ws ws1 : List Nat) (x : Dt) (A : AS) (ys : KS) (A2 : AS) (ys2 : KS) : Prop :=
  ∃ A1 A', TgS C g x (A.wipe ws) A1 ws ∧ EvT C tt A1 true A' ∧ ∃ n1 y1 Am, WiS C wi1 A' n1 y1 Am ∧ ∃ (B1 : Nat → AS) (Y1 : Nat → KS), Am = B1 0 ∧ Y1 0 = ys ∧ Y1 n1 = ys2 ∧ (∀ j, j < n1 → DcG C g1 tt1 tk tv ws1 (y1 j) (B1 j) (Y1 j) (B1 (j + 1)) (Y1 (j + 1))) ∧ (B1 n1).wipe ws = A2 ∧ ys.length + n1 < 100000
theorem bfor_turn {wi1 : TI} {p : Addr} {x : Dt} {v : V} {ys ys2 : KS} {acc : List (Key × V)} (t : Dc2 (C.hide p) g tt wi1 g1 tt1 tk tv ws ws1 x A ys A2 ys2) (k : Ok (C.hide p) os A σ H) (hp : H p = some (.dK acc)) (ha : KvS C.K os (Rh (p :: C.O) os H) ys acc) (hx : Is C.K (Rh (p :: C.O) os H) x v)
    (h0 : ∀ o, C.H0 p = some o → ¬ NoT o) (hO : p ∉ C.O) (R : Hp → Prop) (hR : ∀ os' acc' H', Ok (C.hide p) os' A2 σ H' → GrP p C.O os H os' H' → H' p = some (.dK acc') → KvS C.K os' (Rh (p :: C.O) os' H') ys2 acc' → R H') :
    g v (L2.wipe σ ws) H fun σ2 H2 => L2.wipe σ2 ws = L2.wipe σ ws ∧ tt σ2 H2 fun b H3 => if b = true then bFor wi1 g1 tt1 ws1 (bPut tk tv p) R σ2 H3 else R H3 := by
  obtain ⟨A1, A', tg, ht, n1, y1, Am, hw, B1, Y1, rfl, e0, en, hs, eA, few⟩ := t
  refine tg os _ H v _ k.wiped hx fun σ2 k2 e2 => ⟨e2.trans wipe_wipe, ht os σ2 H k2 _ fun os3 H3 k3 g3 => ?_⟩
  have e2' : L2.wipe σ2 ws = L2.wipe σ ws := e2.trans wipe_wipe
  rw [if_pos rfl]
  refine hw os3 σ2 H3 k3 _ fun os4 H4 J1 k4 g4 Y => ?_
  have gg := g3.trans g4
  have hp4 : H4 p = some (.dK acc) := (gg.o p (List.mem_cons_self ..)).trans hp
  have g0 : GrP p C.O os H os4 H4 := ⟨gg.e, fun a h => gg.o a (List.mem_cons_of_mem _ h), gg.p⟩
  have ka := ha.gr gg
  have hl : ∀ j, j ≤ n1 → (Y1 j).length ≤ ys.length + j := by
    intro j
    induction j with
    | zero => intro _; rw [e0]; omega
    | succ j ih => intro hj; have := (hs j hj).few; have := ih (by omega); omega
  refine ⟨fun j m H' => m = n1 - j ∧ j ≤ n1 ∧ ∃ os' acc', Ok (C.hide p) os' (B1 j) σ2 H' ∧ GrP p C.O os4 H4 os' H' ∧ H' p = some (.dK acc') ∧ KvS C.K os' (Rh (p :: C.O) os' H') (Y1 j) acc', ⟨n1, rfl, Nat.zero_le _, os4, acc, k4, ⟨Ex.refl _, fun _ _ => rfl, fun _ _ h => h⟩, hp4, by rw [e0]; exact ka⟩, ?_⟩
  rintro j m H' ⟨rfl, hj, os', acc', k', g', hp', ha'⟩
  by_cases hlt : j < n1
  · refine .inr ⟨Y.go j H' hlt (g'.e.trans hd_ex), fun H2 => j + 1 ≤ n1 ∧ ∃ os' acc', Ok (C.hide p) os' (B1 (j + 1)) σ2 H2 ∧ GrP p C.O os4 H4 os' H2 ∧ H2 p = some (.dK acc') ∧ KvS C.K os' (Rh (p :: C.O) os' H2) (Y1 (j + 1)) acc', fun H2 q => ⟨n1 - (j + 1), by omega, rfl, q.1, q.2⟩, fun v H2 hy => ?_⟩
    obtain ⟨x1, x2, x3⟩ := Y.yl j H' v H2 (hid (p :: C.O) os') hlt hy g'.e fun a h => k'.hidden h
    have k5 := k'.mono x1 (x2 _ k'.tb)
    have gp : GrP p C.O os' H' os' H2 := ⟨hd_mono x1, fun a h => by
      obtain ⟨o, q, nt⟩ := k'.ol a (List.mem_cons_of_mem _ h)
      rw [q, x1 _ _ q nt], fun _ _ h => h⟩
    exact bput_turn (hs j hlt) k5 (x1 _ _ hp' nt_k) ⟨ha'.1, ha'.2.mono (hd_mono x1)⟩ x3 h0 hO (by have := hl j (by omega); omega) _ fun os2 acc2 H5 k6 g6 hp6 ha6 => ⟨hlt, os2, acc2, k6, (g'.trans gp).trans g6, hp6, ha6⟩
  · obtain rfl : j = n1 := by omega
    refine .inl ⟨Y.stop H' (g'.e.trans hd_ex), hR os' acc' H' ?_ (g0.trans g') hp' (by rw [← en]; exact ha')⟩
    rw [← eA]
    exact k'.back e2'
theorem g_cmp2 {wi wi1 : TI} {n : Nat} {y : Nat → Dt} (hw : WiS C wi A n y A1) (B : Nat → AS) (Z : Nat → KS) (h0 : A1 = B 0) (hZ : Z 0 = [])
    (hs : ∀ i, i < n → ∀ O, Dc2 ⟨C.K, C.T, C.H0, O⟩ g tt wi1 g1 tt1 tk tv ws ws1 (y i) (B i) (Z i) (B (i + 1)) (Z (i + 1))) : EvG C (tCmp (.dK []) wi g tt (fun D => bFor wi1 g1 tt1 ws1 (bPut tk tv D)) ws) A (.own (B n).st.length) ((B n).newG (oS (Z n))) := fun os σ H k Q q =>
  hw os σ H k _ fun os1 H1 J k1 g1 Y p hp => by
    subst h0
    refine ⟨fun i m H' => m = n - i ∧ i ≤ n ∧ ∃ os' acc, Ok (C.hide p) os' (B i) σ H' ∧ GrP p C.O os1 (upd H1 p (.dK [])) os' H' ∧ H' p = some (.dK acc) ∧ KvS C.K os' (Rh (p :: C.O) os' H') (Z i) acc, ⟨n, rfl, Nat.zero_le _, os1, [], k1.hide hp nt_k, ⟨Ex.refl _, fun _ _ => rfl, fun _ _ h => h⟩, upd_same, by rw [hZ]; exact .nil⟩, ?_⟩
    rintro i m H' ⟨rfl, hi, os', acc, k', g', hp', ha⟩
    have e' : Ex (Rh C.O os1 H1) (Rh (p :: C.O) os' H') := by
      have e := g'.e
      rw [Rh_hide hp] at e
      exact e
    by_cases hlt : i < n
    · refine .inr ⟨Y.go i H' hlt (e'.trans hd_ex), fun H2 => i + 1 ≤ n ∧ ∃ os' acc, Ok (C.hide p) os' (B (i + 1)) σ H2 ∧ GrP p C.O os1 (upd H1 p (.dK [])) os' H2 ∧ H2 p = some (.dK acc) ∧ KvS C.K os' (Rh (p :: C.O) os' H2) (Z (i + 1)) acc, fun H2 q => ⟨n - (i + 1), by omega, rfl, q.1, q.2⟩, fun v H2 hy => ?_⟩
      obtain ⟨x1, x2, x3⟩ := Y.yl i H' v H2 (hid (p :: C.O) os') hlt hy e' fun a h => k'.hidden h
      have k2 := k'.mono x1 (x2 _ k'.tb)
      have gp : GrP p C.O os' H' os' H2 := ⟨hd_mono x1, fun a h => by
        obtain ⟨o, q, nt⟩ := k'.ol a (List.mem_cons_of_mem _ h)
        rw [q, x1 _ _ q nt], fun _ _ h => h⟩
      exact bfor_turn (hs i hlt _) k2 (x1 _ _ hp' nt_k) ⟨ha.1, ha.2.mono (hd_mono x1)⟩ x3 (fresh_0 k1 hp) (fresh_O k1 hp) _ fun os2 acc2 H3 k3 g3 hp3 ha3 => ⟨hlt, os2, acc2, k3, (g'.trans gp).trans g3, hp3, ha3⟩
    · obtain rfl : i = n := by omega
      refine .inl ⟨Y.stop H' (e'.trans hd_ex), ?_⟩
      have ko := k'.ownH (od := oS (Z i)) hp' nt_k (fresh_0 k1 hp) (fresh_O k1 hp) ⟨p, acc, rfl, hp', ha.1, ha.2.app⟩
      exact q _ _ H' ko (g1.trans (Gr.ownH k1 hp g')) ⟨p, rfl, by rw [← k'.ln]; simp⟩
end
section
variable {C : Ct} {E : XK} {A A1 : AS} {te : TE} {P : Po} {s : SD} {i : Nat}
/-- x = e, e of any kind -/
theorem r_asgG (h : EvG C te A s A1) (hn : P.nx (A1.putS i s)) : RunS C E (tAsg te (gName i)) A P := fun os σ H D k T =>
  h os σ H k _ fun os1 v H1 k1 g1 i1 => T.nx _ _ _ _ hn (k1.putS i1) g1.s
end
end Py
end

section
set_option Elab.async false
set_option linter.all false
set_option maxRecDepth 100000
set_option maxHeartbeats 4000000
set_option autoImplicit false
namespace Py
open PySem PySem.Spec PyProof.Rows L2
/-! ### sorted(xs), xs a list of data that are alike -/
def rSortA (K : Frg) : List V → Hp → VK → Prop := fun vs H Q => ∃ (a : Addr) (zs : List (V × PyData)), vs = [.ref a] ∧ SqL K H a (zs.map (·.1)) ∧ (∀ z ∈ zs, Dp K H z.1 z.2) ∧ PySem.W.AllAlike (zs.map (·.2)) ∧ PySem.W.Sortable (zs.map (·.2)) ∧ (∀ z ∈ zs, z.2.depth ≤ 60) ∧
  ∀ p, H p = none → Q (.ref p) (upd H p (.lst ((zs.mergeSort (PySem.W.dataLe false (·.2))).map (·.1))))
theorem each_vals {zs : List (V × PyData)} : ∀ {us : List Value}, Vals (zs.map (·.1)) us → PySem.W.EachIs (fun v (z : V × PyData) => RelV z.1 v) us zs := by
  induction zs with
  | nil => intro us h; cases h; exact .nil
  | cons z r ih =>
    intro us h
    cases h with
    | cons h t => exact .cons h (ih t)
theorem vals_each {zs : List (V × PyData)} : ∀ {us : List Value}, PySem.W.EachIs (fun v (z : V × PyData) => RelV z.1 v) us zs → Vals (zs.map (·.1)) us := by
  induction zs with
  | nil => intro us h; cases h; exact .nil
  | cons z r ih =>
    intro us h
    cases h with
    | cons h t => exact .cons h (ih t)
theorem cr_sortA {X : Cx} (hu : X.A.units + 65 < cLine) : CallR X (.builtin "sorted") (rSortA X.K) := by
  intro pins s σ H vs us Q I r h
  obtain ⟨a, zs, rfl, hs, hd, al, so, dp, q⟩ := h
  obtain ⟨its, rv, hl, hz⟩ := I.list hs
  rw [Vals.ref1 r]
  have e := each_vals rv
  have er : PySem.W.EachIs (fun v (z : V × PyData) => ∃ as, Reads s.heap v z.2 as) its zs := (PySem.W.each_mem e).mono fun v z ⟨h1, h2⟩ => Dp.reads I z.2 z.1 v (hd z h2) h1
  rw [List.length_map] at hz
  refine PySem.W.sorted_data (enc := fun z : V × PyData => z.2) hl.isList e er al so hz (fun z m => by have := dp z m; omega) fun out hlen hout => ?_
  have vo := vals_each hout
  obtain ⟨ep, he'⟩ := PyProof.Rows.sortedAll_at s.heap its out.toArray
  have few : ((zs.mergeSort (PySem.W.dataLe false (·.2))).map (·.1)).length ≤ sizeLine := by rw [List.length_map, List.length_mergeSort]; exact hz
  exact ⟨.ref _, upd H (s.heap.objs.size + 1) (.lst ((zs.mergeSort (PySem.W.dataLe false (·.2))).map (·.1))), I.laid (t' := s.toks) (fun _ _ => PyProof.Rows.sortedAll_old) (Nat.le_succ _) ⟨few, out, ep, vo, he'⟩, rfl, q _ (I.hok.fresh (Nat.le_succ _))⟩
section
variable {C : Ct} {A A1 A2 : AS} {te tl : TE} {n : Nat}
theorem isA_zip {K : Frg} {R : Hp} : ∀ {xs : List (Dt × PyData)} {vs : List V}, IsA K R (xs.map (·.1)) vs → ∃ zs : List (V × (Dt × PyData)), zs.map (·.1) = vs ∧ zs.map (·.2) = xs ∧ ∀ z ∈ zs, Is K R z.2.1 z.1
  | [], vs, h => by
    rw [List.map_nil, IsA] at h
    subst h
    exact ⟨[], rfl, rfl, fun _ z => by cases z⟩
  | x :: r, vs, h => by
    rw [List.map_cons, IsA] at h
    obtain ⟨v, w, rfl, h1, h2⟩ := h
    obtain ⟨zs, e1, e2, e3⟩ := isA_zip h2
    refine ⟨(v, x) :: zs, by rw [List.map_cons, e1], by rw [List.map_cons, e2], fun z hz => ?_⟩
    rcases List.mem_cons.mp hz with q | q
    · rw [q]; exact h1
    · exact e3 z q
theorem isA_of {K : Frg} {R : Hp} : ∀ {zs : List (V × (Dt × PyData))}, (∀ z ∈ zs, Is K R z.2.1 z.1) → IsA K R (zs.map fun z => z.2.1) (zs.map (·.1))
  | [], _ => isA_nil
  | z :: r, h => isA_cons (h z (List.mem_cons_self ..)) (isA_of fun y hy => h y (List.mem_cons_of_mem _ hy))
theorem e_sortA {xs : List (Dt × PyData)} (h : EvS C te A (.lst (xs.map (·.1))) A1) (hp : ∀ x ∈ xs, x.1.py = some x.2) (al : PySem.W.AllAlike (xs.map (·.2))) (so : PySem.W.Sortable (xs.map (·.2))) (dp : ∀ x ∈ xs, x.2.depth ≤ 60) :
    EvS C (tCB (rSortA C.K) (tCons te tNil)) A (.lst ((xs.mergeSort (PySem.W.dataLe false (·.2))).map (·.1))) A1 := fun os σ H k Q q =>
  h os σ H k _ fun os1 v H1 k1 e1 i1 => by
    rw [Is] at i1
    obtain ⟨a, vs, rfl, h2, h3⟩ := i1
    obtain ⟨zs, z1, z2, z3⟩ := isA_zip h3
    refine ⟨a, zs.map fun z => (z.1, z.2.2), rfl, ?_, fun z hz => ?_, ?_, ?_, fun z hz => ?_, fun p hp' => ?_⟩
    · rw [List.map_map]
      exact hd_ex.l (by rw [show (Prod.fst ∘ fun z : V × (Dt × PyData) => (z.1, z.2.2)) = Prod.fst from rfl, z1]; exact h2)
    · obtain ⟨y, hy, rfl⟩ := List.mem_map.mp hz
      exact Dp.mono hd_ex (Is.dp _ _ _ (z3 y hy) (hp y.2 (by rw [← z2]; exact List.mem_map.mpr ⟨y, hy, rfl⟩)))
    · rw [← z2, List.map_map] at al
      rw [List.map_map]; exact al
    · rw [← z2, List.map_map] at so
      rw [List.map_map]; exact so
    · obtain ⟨y, hy, rfl⟩ := List.mem_map.mp hz
      exact dp y.2 (by rw [← z2]; exact List.mem_map.mpr ⟨y, hy, rfl⟩)
    · refine q os1 _ _ (k1.monoN hp') (e1.trans (k1.gr (Ex.new hp'))) ?_
      rw [Is]
      refine ⟨p, _, rfl, SqL.of (k1.fresh hp'), ?_⟩
      have m1 : (zs.map fun z => (z.1, z.2.2)).mergeSort (PySem.W.dataLe false (·.2)) = (zs.mergeSort (PySem.W.dataLe false fun z => z.2.2)).map fun z => (z.1, z.2.2) := (PySem.W.sort_maps (fun z : V × (Dt × PyData) => (z.1, z.2.2)) (fun _ _ _ _ => rfl)).symm
      have m2 : xs.mergeSort (PySem.W.dataLe false (·.2)) = (zs.mergeSort (PySem.W.dataLe false fun z => z.2.2)).map (·.2) := by
        rw [← z2]
        exact (PySem.W.sort_maps (fun z : V × (Dt × PyData) => z.2) (fun _ _ _ _ => rfl)).symm
      rw [m1, m2, List.map_map, List.map_map]
      exact isA_of (zs := zs.mergeSort (PySem.W.dataLe false fun z => z.2.2)) fun z hz => Is.mono (hd_mono (Ex.new hp')) _ _ (z3 z ((List.mergeSort_perm ..).mem_iff.mp hz))
end
/-! ### sorted(d), the keys ints -/
def rSortD : List V → Hp → VK → Prop := fun vs H Q => ∃ (a : Addr) (kvs : List (Key × V)) (ks : List Int), vs = [.ref a] ∧ Rd H a (.dK kvs) ∧ kvs.map (·.1) = ks.map Sum.inl ∧ ks.length ≤ 100000 ∧
    ∀ (ys : List Int) (p : Addr), ys.Perm ks → ys.Pairwise (· ≤ ·) → H p = none → Q (.ref p) (upd H p (.lst (ys.map V.int)))
theorem cr_sortD {X : Cx} (hcalm : X.calm = true) : CallR X (.builtin "sorted") rSortD := by
  rintro pins s σ H vs us Q I r ⟨a, kvs, ns, rfl, hd, hks, few, q⟩
  have hz : ns.length ≤ sizeLine := Nat.le_trans few (by decide)
  have eu := Vals.ref1 r
  subst eu
  obtain ⟨_, notSys, pairs, rel, isD⟩ := dk_rd I.hok hd
  obtain ⟨ep, hat⟩ := isD.dictAt
  have keys : pairs.map Prod.fst = ns.map Sum.inl := (rel.keys).symm.trans hks
  have many : pairs.length ≤ sizeLine := by
    have : pairs.length = ns.length := by simpa using congrArg List.length keys
    rw [this]; exact hz
  refine Calls.call_function_entry kind_sorted plain_sorted entry_sorted (args_sorted1 _) ?_
  unfold Builtin.«sorted»
  refine wpAny_bind (m := checkCount "sorted" 1 1 _) (wpAny_pure ?_)
  refine wpAny_bind (PySem.W.kdu_collect (A := X.A.in1) (PySem.W.kdl_dict (knd := mixKind X.prog X.w) (kvs := pairs) (ep := ep) notSys) (I.ok.hd hcalm) hat many fun h' tk got kept items => ?_)
  obtain ⟨hi, len⟩ := told_ints (P := X.prog) (w := X.w) keys items
  have I1 : Inv X pins σ H { s with heap := h', toks := tk } := I.kept kept
  refine wpAny_bind (wpAny_newList ?_ (by rw [len]; exact hz))
  show wpAny _ _ _ _ _ ({ s with heap := h'.push (seqObj "list" got.toList.toArray 0), toks := tk } : Shared)
  have here : (h'.push (seqObj "list" got.toList.toArray 0)).get? h'.objs.size = some (seqObj "list" got.toList.toArray 0) := Heap.get?_push_size _ rfl
  refine wpAny_bind (wpAny_holding (wpAny_call_entry slot_list_sort ⟨_, here, rfl⟩ entry_list_sort (SrtO.list_sort_ord (s := { s with heap := h'.push (seqObj "list" got.toList.toArray 0), toks := tk }) SrtO.swo_int here (by rw [len]; exact hz) (fun _ => SrtO.ints_sortable hi (by omega)) fun out o1 o2 => ⟨_, rfl, wpAny_pure ⟨_, rfl, ?_⟩⟩) (args_list_sort _)))
  exact put_in_order (b := false) (s := { s with heap := h', toks := tk }) I1 hi hz o1 o2 q
section
variable {C : Ct} {A A1 A2 : AS} {te tl : TE} {n : Nat}
theorem e_sortD {kvs : KD} {ks zs : List Int} (h : EvS C te A (dD kvs) A1) (hk : kvs.map (·.1) = ks.map Sum.inl) (hl : ks.length ≤ 100000) (hp : zs.Perm ks) (ho : zs.Pairwise (· ≤ ·)) : EvS C (tCB rSortD (tCons te tNil)) A (.lst (zs.map di)) A1 := fun os σ H k Q q =>
  h os σ H k _ fun os1 v H1 k1 g1 i1 => by
    rw [Is] at i1
    obtain ⟨a, us, rfl, h1, h2⟩ := i1
    have kv := kvA_of h2
    refine ⟨a, _, ks, rfl, .inl (hd_ex a _ h1 nt_k), by rw [kv.1, hk], hl, fun ys p g3 g4 hp' => ?_⟩
    rw [sorted_one (g3.trans hp.symm) g4 ho]
    refine q os1 _ _ (k1.monoN hp') (g1.trans (k1.gr (Ex.new hp'))) ?_
    rw [Is]
    exact ⟨p, zs.map V.int, rfl, SqL.of (k1.fresh hp'), isA_ints zs⟩
theorem e_sortDG {kvs : KS} {ks zs : List Int} (h : EvG C te A (.own n) A1) (h3 : OwnK A1 n kvs) (hk : kvs.map (·.1) = ks.map Sum.inl) (hl : ks.length ≤ 100000) (hp : zs.Perm ks) (ho : zs.Pairwise (· ≤ ·)) : EvS C (tCB rSortD (tCons te tNil)) A (.lst (zs.map di)) A1 := fun os σ H k Q q =>
  h os σ H k _ fun os1 v H1 k1 g1 ⟨a, e1, e2⟩ => by
    cases e1
    obtain ⟨acc, hr, hkv⟩ := h3.at k1 e2
    refine ⟨a, acc, ks, rfl, hr, by rw [hkv.1, hk], hl, fun ys p g3 g4 hp' => ?_⟩
    rw [sorted_one (g3.trans hp.symm) g4 ho]
    refine q os1 _ _ (k1.monoN hp') (g1.trans (k1.gr (Ex.new hp'))) ?_
    rw [Is]
    exact ⟨p, zs.map V.int, rfl, SqL.of (k1.fresh hp'), isA_ints zs⟩
/-- tuple(xs), xs one's own -/
theorem e_tupG {xs : List Dt} (h : EvG C te A (.own n) A1) (h3 : A1.st[n]? = some (.lst xs)) :
    EvS C (tCB (fun ys H Q => ∃ p zs, ys = [V.ref p] ∧ ((SqL C.K H p zs ∧ ∀ (l : Addr), H l = none → Q (V.ref l) (upd H l (HO.tup zs))) ∨ SqT C.K H p zs ∧ Q (V.ref p) H)) (tCons te tNil)) A (.tupE xs) A1 := fun os σ H k Q q =>
  h os σ H k _ fun os1 v H1 k1 g1 ⟨a, e1, e2⟩ => by
    cases e1
    obtain ⟨a', vs, s1, s2, s3⟩ := k1.at e2 h3
    cases s1
    refine ⟨a, vs, rfl, .inl ⟨SqL.of s2, fun l hl => q os1 _ _ (k1.monoN hl) (g1.trans (k1.gr (Ex.new hl))) ?_⟩⟩
    rw [Is]
    exact ⟨l, vs, rfl, k1.fresh hl, IsA.mono (hd_mono (Ex.new hl)) _ _ s3⟩
/-- max([..]) of ints -/
theorem e_maxL {ns : List Int} {m : Int} (h : EvS C te A (.lst (ns.map di)) A1) (hm : m ∈ ns) (hle : ∀ y ∈ ns, y ≤ m) : EvS C (tCB (rMax C.K) (tCons te tNil)) A (di m) A1 := fun os σ H k Q q =>
  h os σ H k _ fun os1 v H1 k1 g1 i1 => by
    rw [Is] at i1
    obtain ⟨a, vs, rfl, h1, h2⟩ := i1
    rw [show ns.map di = (ns.map V.int).map Dt.v by rw [List.map_map]; rfl] at h2
    rw [flat_eq h2] at h1
    refine ⟨a, ns, rfl, hd_ex.l h1, List.length_pos_of_mem hm, fun m' h3 h4 => ?_⟩
    rw [Int.le_antisymm (hle m' h3) (h4 m hm)]
    exact q os1 _ H1 k1 g1 is_v
/-- x in xs, x not in xs: data -/
theorem o_inN2 {x : Dt} {xs : List Dt} {p : PyData} {ps : List PyData} {a b : Nat} (h : Nice a x p) (h' : Nice b (.lst xs) (.list ps)) (ha : a ≤ 64 := by decide) (hb : b ≤ 64 := by decide) : OpS C (rInD C.K) x (.lst xs) (db (ps.any fun z => PyData.eqv z p)) := fun os A σ H vx vy k i1 i2 Q q =>
  ⟨p, ps, Dp.mono hd_ex (Is.dp _ _ _ i1 h.all.1), Dp.mono hd_ex (Is.dp _ _ _ i2 h'.all.1), h.shaped ha, h'.shaped hb, q _ H (Ex.refl _) k.tb is_v⟩
theorem o_notinN2 {x : Dt} {xs : List Dt} {p : PyData} {ps : List PyData} {a b : Nat} (h : Nice a x p) (h' : Nice b (.lst xs) (.list ps)) (ha : a ≤ 64 := by decide) (hb : b ≤ 64 := by decide) : OpS C (rNotInD C.K) x (.lst xs) (db (!ps.any fun z => PyData.eqv z p)) := fun os A σ H vx vy k i1 i2 Q q =>
  ⟨p, ps, Dp.mono hd_ex (Is.dp _ _ _ i1 h.all.1), Dp.mono hd_ex (Is.dp _ _ _ i2 h'.all.1), h.shaped ha, h'.shaped hb, q _ H (Ex.refl _) k.tb is_v⟩
/-- x is None, x is not None: what is no plain value -/
def isRef : Dt → Bool
  | .v _ => false
  | _ => true
theorem is_ref {K : Frg} {R : Hp} : ∀ {x : Dt} {v : V}, isRef x = true → Is K R x v → ∃ a, v = .ref a
  | .v _, _, h, _ => by cases h
  | .tup _, _, _, i => by rw [Is] at i; obtain ⟨a, _, e, _⟩ := i; exact ⟨a, e⟩
  | .lst _, _, _, i => by rw [Is] at i; obtain ⟨a, _, e, _⟩ := i; exact ⟨a, e⟩
  | .obj .., _, _, i => by rw [Is] at i; obtain ⟨a, _, _, e, _⟩ := i; exact ⟨a, e⟩
  | .dct .., _, _, i => by rw [Is] at i; obtain ⟨a, _, e, _⟩ := i; exact ⟨a, e⟩
  | .tupZ _, _, _, i => by rw [Is] at i; obtain ⟨a, _, _, e, _⟩ := i; exact ⟨a, e⟩
  | .lam _ _, _, _, i => by rw [Is] at i; obtain ⟨a, _, e, _⟩ := i; exact ⟨a, e⟩
  | .lstN _, _, _, i => by rw [Is] at i; obtain ⟨a, _, e, _⟩ := i; exact ⟨a, e⟩
  | .tupE _, _, _, i => by rw [Is] at i; obtain ⟨a, _, e, _⟩ := i; exact ⟨a, e⟩
  | .dctT .., _, _, i => by rw [Is] at i; obtain ⟨a, _, e, _⟩ := i; exact ⟨a, e⟩
theorem o_isNo {x : Dt} (h : isRef x = true) : OpS C (fun x y H Q => y = .non ∧ Q (.bl (decide (x = .non))) H) x dn (db false) := fun os A σ H vx vy k i1 i2 Q q => by
  obtain ⟨a, rfl⟩ := is_ref h i1
  refine ⟨Is.v_iff.mp i2, ?_⟩
  rw [decide_eq_false (by simp)]
  exact q _ H (Ex.refl _) k.tb is_v
theorem o_notNo {x : Dt} (h : isRef x = true) : OpS C (fun x y H Q => y = .non ∧ Q (.bl (!decide (x = .non))) H) x dn (db true) := fun os A σ H vx vy k i1 i2 Q q => by
  obtain ⟨a, rfl⟩ := is_ref h i1
  refine ⟨Is.v_iff.mp i2, ?_⟩
  rw [decide_eq_false (by simp)]
  exact q _ H (Ex.refl _) k.tb is_v
end
/-! ### a.x, b.y = ..: fields as targets -/
def gFld (K : Frg) (ta : TE) (f : Str) : TG := fun v σ H Q => ta σ H fun x H1 => ∃ a C dx fs, x = .ref a ∧ H1 a = some (.ins C dx fs) ∧ Cls K C ∧ NoAttr K C f ∧ fs.length < 1000 ∧ Q σ (upd H1 a (.ins C dx (putF f v fs)))
theorem pg_fld {X : Cx} {o : Expr} {f : Str} {pos : Pos} {ta : TE} (ho : PE X o ta) : PG X (.Attribute o f pos) (gFld X.K ta f) := by
  refine ⟨fun pins s σ H v u Q I r h => ?_⟩
  rw [assign_Attribute]
  refine wpAny_bind (wpAny_holding (thn (ho.run pins s σ H _ I h) fun ov sa ⟨x, Ha, Ia, rx, a, C, dx, fs, e, at', c, na, few, q⟩ => ?_))
  subst e
  obtain rfl : ov = Value.ref a := rx
  refine wpAny_bind (wpAny_standAt (wpAny_bind (wpAny_holding (setattr_ok Ia at' c na few r fun sb Ib => ?_))))
  exact wpAny_release ⟨σ, _, Ib, q⟩
section
variable {C : Ct} {A A1 A2 A3 : AS} {te ta : TE} {tl : TA} {E : XK} {P : Po} {s : SD} {n i j : Nat} {Cl : Addr} {ns : List Str} {xs : List SD} {f : Str}
/-- a target that takes a thing of any kind -/
def TgG (C : Ct) (g : TG) (s : SD) (A A' : AS) : Prop := ∀ os σ H v (Q : Sg → Hp → Prop), Ok C os A σ H → SlOk C.K os (Rh C.O os H) s (some v) → (∀ os' σ' H', Ok C os' A' σ' H' → Gr C.O os H os' H' → Q σ' H') → g v σ H Q
def TgsG (C : Ct) (g : TGs) (ss : List SD) (A A' : AS) : Prop := ∀ os σ H vs (Q : Sg → Hp → Prop), Ok C os A σ H → SlA C.K os (Rh C.O os H) ss vs → (∀ os' σ' H', Ok C os' A' σ' H' → Gr C.O os H os' H' → Q σ' H') → g vs σ H Q
theorem tgG_name : TgG C (gName i) s A (A.putS i s) := fun os σ H v Q k i1 q => q os _ H (k.putS i1) Gr.refl
theorem tgG_fld (h1 : EvG C ta A (.own n) A1) (h2 : A1.st[n]? = some (.obj Cl ns xs)) (c : Cls C.K Cl) (na : NoAttr C.K Cl f) (hl : ns.length < 1000) (hf : fat f ns = some j) : TgG C (gFld C.K ta f) s A (A1.upG n (.obj Cl ns (xs.set j s))) := fun os σ H v Q k i1 q =>
  h1 os σ H k _ fun os1 v1 H1 k1 g1 ⟨a, e1, e2⟩ => by
    cases e1
    obtain ⟨a', dx, fs, s1, s2, s3, s4⟩ := k1.at e2 h2
    cases s1
    subst s3
    obtain ⟨z1, z2⟩ := fat_put s4 hf (i1.gr g1)
    refine ⟨a, Cl, dx, fs, rfl, s2, c, na, by rw [← List.length_map (f := (·.1))]; exact hl, ?_⟩
    exact q os1 σ _ (k1.upG e2 (tabs_ins k1.tb s2) nt_i ⟨a, dx, _, rfl, upd_same, z1, z2⟩) (g1.trans (Gr.up k1 e2))
theorem tgsG_nil : TgsG C gNil [] A A := fun os σ H vs Q k i q => ⟨i, q os σ H k Gr.refl⟩
theorem tgsG_cons {g : TG} {gs : TGs} {ss : List SD} (h : TgG C g s A A1) (h' : TgsG C gs ss A1 A2) : TgsG C (gCons g gs) (s :: ss) A A2 := fun os σ H vs Q k ⟨v, w, e, h1, h2⟩ q =>
  ⟨v, w, e, h os σ H v _ k h1 fun os1 σ1 H1 k1 g1 => h' os1 σ1 H1 w Q k1 (h2.gr g1) fun os2 σ2 H2 k2 g2 => q os2 σ2 H2 k2 (g1.trans g2)⟩
/-- a, b.c = x, y -/
theorem r_tgTup {gs : TGs} {m : Nat} {ss : List SD} (h : EvP C tl A ss A1) (hl : ss.length = m) (hm : m ≤ 100000) (hg : TgsG C gs ss A1 A2) (hn : P.nx A2) : RunS C E (tAsg (tTup tl) (gTup C.K m gs)) A P := fun os σ H D k T =>
  h os σ H k _ fun os1 vs H1 k1 g1 i1 => by
    have len : ∀ {ss : List SD} {vs : List V} {os : List (Option Addr)} {R : Hp}, SlA C.K os R ss vs → vs.length = ss.length := by
      intro ss
      induction ss with
      | nil => intro vs os R h; have : vs = [] := h; rw [this]; rfl
      | cons x r ih => rintro vs os R ⟨v, w, e, _, h2⟩; rw [e, List.length_cons, List.length_cons, ih h2]
    have el : vs.length = m := (len i1).trans hl
    refine ⟨by rw [el]; exact Nat.le_trans hm (by decide), fun p hp => ⟨p, vs, rfl, SqT.of upd_same, el, ?_⟩⟩
    have k2 := k1.monoN (o := .tup vs) hp
    have g2 := k1.gr (Ex.new (o := .tup vs) hp)
    exact hg os1 σ _ vs _ k2 (i1.gr g2) fun os3 σ3 H3 k3 g3 => T.nx os3 A2 σ3 H3 hn k3 (Gr.s ((g1.trans g2).trans g3))
theorem p_g {tr : TA} {ss : List SD} (ha : EvG C te A s A1) (hr : EvP C tr A1 ss A2) : EvP C (tCons te tr) A (s :: ss) A2 := fun os σ H k Q q =>
  ha os σ H k _ fun os1 v1 H1 k1 g1 i1 => hr os1 σ H1 k1 _ fun os2 vs H2 k2 g2 i2 => q os2 (v1 :: vs) H2 k2 (g1.trans g2) ⟨v1, vs, rfl, i1.gr g2, i2⟩
/-- {}, [] -/
theorem g_dnew : EvG C tDNewK A (.own A.st.length) (A.newG (oS [])) := fun os σ H k Q q p hp =>
  q _ _ _ (k.newG hp nt_k ⟨p, [], rfl, upd_same, rfl, rfl⟩) (Gr.newG k hp) ⟨p, rfl, by rw [← k.ln]; simp⟩
theorem g_lnew {ds : List Dt} (h : EvA C tl A ds A1) (hl : ds.length ≤ 100000) : EvG C (tLst tl) A (.own A1.st.length) (A1.more ds) := fun os σ H k Q q =>
  h os σ H k _ fun os1 vs H1 k1 e1 i1 => ⟨by rw [isA_len i1]; exact Nat.le_trans hl (by decide), fun p hp => q _ _ _ (k1.more hp i1) (e1.trans (Gr.app k1 hp)) ⟨p, rfl, by rw [← k1.ln]; simp⟩⟩
end
end Py
end

section
set_option Elab.async false
set_option linter.all false
set_option maxRecDepth 100000
set_option maxHeartbeats 4000000
set_option autoImplicit false
namespace Py
open PySem PySem.Spec PyProof.Rows L2
section
variable {C : Ct} {A A1 A2 : AS} {te tl : TE} {tt : TT} {g : TG} {ws : List Nat} {xs : List Dt} {n : Nat}
/-! ### an int in a tuple or a list of ints -/
theorem o_inT {m : Int} {ns : List Int} : OpS C (rIn C.K false) (di m) (.tup (ns.map di)) (db (decide (m ∈ ns))) := fun os A σ H vx vy k i1 i2 Q q => by
  rw [Is] at i2
  obtain ⟨a, vs, rfl, h2, h3⟩ := i2
  rw [Is.v_iff.mp i1]
  have e := ints_is h3
  subst e
  refine ⟨a, _, rfl, .inr (hd_ex.t h2), rfl, ?_, ?_⟩
  · rw [List.all_map]; exact List.all_eq_true.mpr fun _ _ => rfl
  · rw [if_neg (by decide), inV_ints]
    exact q _ H (Ex.refl _) k.tb is_v
theorem o_notinT {m : Int} {ns : List Int} : OpS C (rIn C.K true) (di m) (.tup (ns.map di)) (db (!decide (m ∈ ns))) := fun os A σ H vx vy k i1 i2 Q q => by
  rw [Is] at i2
  obtain ⟨a, vs, rfl, h2, h3⟩ := i2
  rw [Is.v_iff.mp i1]
  have e := ints_is h3
  subst e
  refine ⟨a, _, rfl, .inr (hd_ex.t h2), rfl, ?_, ?_⟩
  · rw [List.all_map]; exact List.all_eq_true.mpr fun _ _ => rfl
  · rw [if_pos rfl, inV_ints]
    exact q _ H (Ex.refl _) k.tb is_v
theorem o_notinL {m : Int} {ns : List Int} : OpS C (rIn C.K true) (di m) (.lst (ns.map di)) (db (!decide (m ∈ ns))) := fun os A σ H vx vy k i1 i2 Q q => by
  rw [Is] at i2
  obtain ⟨a, vs, rfl, h2, h3⟩ := i2
  rw [Is.v_iff.mp i1]
  have e := ints_is h3
  subst e
  refine ⟨a, _, rfl, .inl (hd_ex.l h2), rfl, ?_, ?_⟩
  · rw [List.all_map]; exact List.all_eq_true.mpr fun _ _ => rfl
  · rw [if_pos rfl, inV_ints]
    exact q _ H (Ex.refl _) k.tb is_v
/-! ### a comprehension's list known as an object; any iterator -/
theorem e_lcWN {wi : TI} {m : Nat} {y : Nat → Dt} (hw : WiS C wi A m y A1) (B : Nat → AS) (Y : Nat → List Dt) (h0 : A1 = B 0) (hY : Y 0 = [])
    (hs : ∀ i, i < m → ∀ O, LcT ⟨C.K, C.T, C.H0, O⟩ g tt te ws (y i) (B i) (Y i) (B (i + 1)) (Y (i + 1))) (hn : m < 100000) : EvS C (tLc wi g tt te ws) A (.lstN (Y m)) (B m) := fun os σ H k Q q =>
  hw os σ H k _ fun os1 H1 J k1 g1 W p hp => by
    have hl : ∀ i, i ≤ m → (Y i).length ≤ i := by
      intro i
      induction i with
      | zero => intro _; rw [hY]; exact Nat.le_refl _
      | succ i ih =>
        intro hi
        obtain ⟨_, _, _, _, _, h⟩ := hs i hi []
        rcases h with ⟨_, _, _, _, e, _⟩ | ⟨_, e, _⟩ <;> rw [e] <;> have := ih (by omega) <;> (try simp only [List.length_append, List.length_singleton]) <;> omega
    subst h0
    refine ⟨fun i j H' => j = m - i ∧ i ≤ m ∧ ∃ os' acc, Ok (C.hide p) os' (B i) σ H' ∧ GrP p C.O os1 (upd H1 p (.lst [])) os' H' ∧ H' p = some (.lst acc) ∧ IsA C.K (Rh (p :: C.O) os' H') (Y i) acc, ⟨m, rfl, Nat.zero_le _, os1, [], k1.hide hp nt_l, ⟨Ex.refl _, fun _ _ => rfl, fun _ _ h => h⟩, upd_same, by rw [hY]; exact isA_nil⟩, ?_⟩
    rintro i j H' ⟨rfl, hi, os', acc, k', g', hp', ha⟩
    have e' : Ex (Rh C.O os1 H1) (Rh (p :: C.O) os' H') := by
      have e := g'.e
      rw [Rh_hide hp] at e
      exact e
    by_cases hlt : i < m
    · refine .inr ⟨W.go i H' hlt (e'.trans hd_ex), fun H2 => i + 1 ≤ m ∧ ∃ os' acc, Ok (C.hide p) os' (B (i + 1)) σ H2 ∧ GrP p C.O os1 (upd H1 p (.lst [])) os' H2 ∧ H2 p = some (.lst acc) ∧ IsA C.K (Rh (p :: C.O) os' H2) (Y (i + 1)) acc, fun H2 q => ⟨m - (i + 1), by omega, rfl, q.1, q.2⟩, fun v H2 hy => ?_⟩
      obtain ⟨x1, x2, x3⟩ := W.yl i H' v H2 (hid (p :: C.O) os') hlt hy e' fun a h => k'.hidden h
      have k2 := k'.mono x1 (x2 _ k'.tb)
      have gp : GrP p C.O os' H' os' H2 := ⟨hd_mono x1, fun a h => by
        obtain ⟨o, q, nt⟩ := k'.ol a (List.mem_cons_of_mem _ h)
        rw [q, x1 _ _ q nt], fun _ _ h => h⟩
      exact lc_turn (hs i hlt _) k2 (x1 _ _ hp' nt_l) (IsA.mono (hd_mono x1) _ _ ha) x3 (fresh_0 k1 hp) (fresh_O k1 hp) (by have := hl i (by omega); omega) _ fun os2 acc2 H3 k3 g3 hp3 ha3 => ⟨hlt, os2, acc2, k3, (g'.trans gp).trans g3, hp3, ha3⟩
    · obtain rfl : i = m := by omega
      exact .inl ⟨W.stop H' (e'.trans hd_ex), lc_endN k1 hp k' g' hp' ha fun os2 v H2 k2 g2 i2 => q os2 v H2 k2 (g1.trans g2) i2⟩
/-! ### [f(k) for k in d], d one's own dict with int keys -/
abbrev lkS (kvs : KS) (u : Obj) (acc : List (Key × V)) : OD := .lckK u acc (kvs.map (·.2))
theorem e_lcLock {kvs : KS} {ks : List Int} {f : Int → Dt} (h2 : A.st[n]? = some (oS kvs)) (hk : kvs.map (·.1) = ks.map Sum.inl) (hl : ks.length < 100000) (hd : ∀ A', A'.sl = A.sl → EvG C tl A' (.own n) A')
    (hs : ∀ u acc, acc.map (·.1) = kvs.map (·.1) → ∀ k ∈ ks, ∀ O, ∃ A1 A2, TgS ⟨C.K, C.T, C.H0, O⟩ g (di k) ((A.upG n (lkS kvs u acc)).wipe ws) A1 ws ∧ EvT ⟨C.K, C.T, C.H0, O⟩ tt A1 true A1 ∧ EvS ⟨C.K, C.T, C.H0, O⟩ te A1 (f k) A2 ∧ A2.wipe ws = A.upG n (lkS kvs u acc)) :
    EvS C (tLockE (tLc (iKeys tl) g tt te ws)) A (.lst (ks.map f)) A := by
  refine e_lockK (sl1 := A.sl) h2 fun u acc ha => ?_
  have la : acc.length = ks.length := by
    have := congrArg List.length (ha.trans hk)
    rwa [List.length_map, List.length_map] at this
  have hn : n < A.st.length := (List.getElem?_eq_some_iff.mp h2).1
  have r := e_lcK (C := C) (te := te) (tt := tt) (g := g) (ws := ws) (tl := tl) (u := u) (acc := acc) (xs := List.map Prod.snd kvs) (n := n) (A := A.upG n (lkS kvs u acc)) (A1 := A.upG n (lkS kvs u acc)) (hd _ rfl) (fun _ => A.upG n (lkS kvs u acc)) (fun i => (ks.take i).map f) rfl rfl (fun i _ => (List.getElem?_set_self hn : (A.st.set n (lkS kvs u acc))[n]? = _)) (fun i hi O => ?_) (by omega)
  · rw [la, List.take_length] at r
    exact r
  · have hi' : i < ks.length := by omega
    have e : acc[i].1 = Sum.inl ks[i] := by
      have h1 : (acc.map (·.1))[i]? = some acc[i].1 := by rw [List.getElem?_map, List.getElem?_eq_getElem hi]; rfl
      rw [ha, hk, List.getElem?_map, List.getElem?_eq_getElem hi'] at h1
      exact (Option.some.inj h1).symm
    obtain ⟨A1, A2, t1, t2, t3, t4⟩ := hs u acc ha ks[i] (List.getElem_mem hi') O
    rw [e]
    refine ⟨A1, true, A1, t1, t2, .inl ⟨rfl, f ks[i], A2, t3, ?_, t4⟩⟩
    rw [List.take_add_one, List.getElem?_eq_getElem hi', List.map_append]
    rfl
end
end Py
namespace Py
open PySem PySem.Spec PyProof.Rows L2
section
variable {X : Cx} {o e value : Expr} {f : Str} {pos pos' tpos : Pos} {ta tv : TE}
theorem pe_fldK {K : Frg} (hK : X.K = K) (he : PE X e ta) (hb : attributeBase e f X.env (eval e X.env) = eval e X.env) : PE X (.Attribute e f pos) (tFld K ta f) := by
  subst hK
  exact pe_fld he hb
theorem op_inK {K : Frg} (hK : X.K = K) : OpR X (compareOp .In) (rIn K false) := by
  subst hK
  exact op_in_seq
theorem op_notInK {K : Frg} (hK : X.K = K) : OpR X (compareOp .NotIn) (rIn K true) := by
  subst hK
  exact op_notIn_seq
end
end Py
namespace Py
open PySem PySem.Spec PyProof.Rows L2
section
variable {X : Cx} {i : Nat} {y : Str} {py : Pos} {kx vx tg src tg1 src1 : Expr} {ifs ifs1 : List Expr} {scope : Scope} {own : List (Str × Nat)} {pos spos : Pos} {wi wi1 : TI} {g g1 : TG} {tt tt1 : TT} {emp : HO} {tk tv : TE} {vs1 : List Nat}
def putCode (kx vx : Expr) (acc : Value) (env : Env) : Sem Unit := do
  let kv ← eval kx env
  let vv ← holding [kv] (eval vx env)
  match acc with
  | .ref d => do
    standAt { kx.pos with endLine := vx.pos.endLine, endCol := vx.pos.endCol }
    holding [kv, vv] (dictSet d kv vv)
  | _ => unsupported "internal:dictcomp"
theorem ps_setCmp1 (he : emp = .dK [] ∨ emp = .dT []) (calm : X.calm = true) (hN : X.N.Nodup) (hy : X.N[i]? = some y) (hyl : X.env.scope.names.lookup y = some .local)
    (hsw : swapsWith (.DictComp kx vx [⟨tg, src, ifs, 0⟩] scope pos) (some (.Name y py)) spos.line X.env = pure true) (hi : PI X tg src wi) (ok : BlkOk X.N X.env.scope scope own)
    (hg : InBlk X scope fun Y => PG Y tg g) (ht : InBlk X scope fun Y => PTs Y ifs tt) (hu : X.A.units + 1 < cLine) (hk : InBlk X scope fun Y => PE Y kx tk) (hv : InBlk X scope fun Y => PE Y vx tv) (hf : ∀ x, foldedSetIterable src X.env x = pure x := by intro _; rfl) :
    PS X (.Assign [.Name y py] (.DictComp kx vx [⟨tg, src, ifs, 0⟩] scope pos) spos) (tAsg (tCmp emp wi g tt (bPut tk tv) (own.map (·.2))) (gName i)) :=
  ps_setCmp (code := putCode kx vx) he calm hN hy hyl hsw hi ok hg ht (fun a b c d e D => body_put rfl hu (hk a b c d e) (hv a b c d e)) (fun _ _ _ => rfl) hf
theorem pe_cmpD1 (he : emp = .dK [] ∨ emp = .dT []) (calm : X.calm = true) (hN : X.N.Nodup) (hi : PI X tg src wi) (ok : BlkOk X.N X.env.scope scope own)
    (hg : InBlk X scope fun Y => PG Y tg g) (ht : InBlk X scope fun Y => PTs Y ifs tt) (hu : X.A.units + 1 < cLine) (hk : InBlk X scope fun Y => PE Y kx tk) (hv : InBlk X scope fun Y => PE Y vx tv) (hf : ∀ x, foldedSetIterable src X.env x = pure x := by intro _; rfl) :
    PE X (.DictComp kx vx [⟨tg, src, ifs, 0⟩] scope pos) (tCmp emp wi g tt (bPut tk tv) (own.map (·.2))) :=
  pe_cmpD (code := putCode kx vx) he calm hN hi ok hg ht (fun a b c d e D => body_put rfl hu (hk a b c d e) (hv a b c d e)) (fun _ _ _ => rfl) hf
def forCode (kx vx tg src tg1 src1 : Expr) (ifs ifs1 : List Expr) (scope : Scope) (pos : Pos) (acc : Value) (env : Env) : Sem Unit := do
  let x ← eval src1 env
  standAt src1.pos
  let x ← foldedSetIterable src1 env x
  let _ ← runOwn (.compStart (.DictComp kx vx [⟨tg, src, ifs, 0⟩, ⟨tg1, src1, ifs1, 0⟩] scope pos) 1 (← holding [x] (pyIter x)) acc env) env
theorem pe_cmpD2 (he : emp = .dK [] ∨ emp = .dT []) (calm : X.calm = true) (hN : X.N.Nodup) (hi : PI X tg src wi) (ok : BlkOk X.N X.env.scope scope own)
    (hg : InBlk X scope fun Y => PG Y tg g) (ht : InBlk X scope fun Y => PTs Y ifs tt) (hu : X.A.units + 1 < cLine) (hvs : ∀ i ∈ vs1, i ∈ own.map (·.2)) (hi1 : InBlk X scope fun Y => PI Y tg1 src1 wi1) (hg1 : InBlk X scope fun Y => PG Y tg1 g1) (ht1 : InBlk X scope fun Y => PTs Y ifs1 tt1)
    (hk : InBlk X scope fun Y => PE Y kx tk) (hv : InBlk X scope fun Y => PE Y vx tv) (hf : ∀ x, foldedSetIterable src X.env x = pure x := by intro _; rfl)
    (hf1 : InBlk X scope fun Y => ∀ x, foldedSetIterable src1 Y.env x = pure x := by intro _ _ _ _ _ _; rfl) :
    PE X (.DictComp kx vx [⟨tg, src, ifs, 0⟩, ⟨tg1, src1, ifs1, 0⟩] scope pos) (tCmp emp wi g tt (fun D => bFor wi1 g1 tt1 vs1 (bPut tk tv D)) (own.map (·.2))) :=
  pe_cmpD (code := forCode kx vx tg src tg1 src1 ifs ifs1 scope pos) he calm hN hi ok hg ht (fun a b c d e D => body_for rfl calm hvs (hi1 a b c d e) (hg1 a b c d e) (ht1 a b c d e) (hf1 a b c d e) (body_put rfl hu (hk a b c d e) (hv a b c d e))) (fun it acc env => by unfold forCode; simp only [bind_assoc, pure_bind]; rfl) hf
end
end Py
namespace Py
open PySem PySem.Spec PyProof.Rows L2
theorem e_absI {C : Ct} {A A1 : AS} {ta : TE} {i : Int} (h : EvS C ta A (di i) A1) : EvS C (tCB (fun xs H Q => ∃ i, xs = [V.int i] ∧ Q (V.int (if i < 0 then -i else i)) H) (tCons ta tNil)) A (di (i.natAbs : Int)) A1 :=
  e_is (e_abs h) (congrArg di (by split <;> omega))
end Py
/-! ### [f(x) for x in xs if p(x)], the state staying as it is -/
namespace Py
open PySem PySem.Spec PyProof.Rows L2
section
variable {C : Ct} {A A1 : AS} {te tl : TE} {tt : TT} {g : TG} {ws : List Nat} {wi : TI} {α : Type} {l : List α} {D f : α → Dt} {p : α → Bool}
def MfT (C : Ct) (g : TG) (tt : TT) (te : TE) (ws : List Nat) (d : Dt) (A1 : AS) (b : Bool) (e : Dt) : Prop :=
  ∃ A2 A3 A4, TgS C g d (A1.wipe ws) A2 ws ∧ EvT C tt A2 b A3 ∧ (b = true → EvS C te A3 e A4 ∧ A4.wipe ws = A1) ∧ (b = false → A3.wipe ws = A1)
theorem mf_yes {d e : Dt} {A2 A4 : AS} (h : TgS C g d (A1.wipe ws) A2 ws) (he : EvS C te A2 e A4) (hw : A4.wipe ws = A1) : MfT C g tYes te ws d A1 true e := ⟨A2, A2, A4, h, t_yes, fun _ => ⟨he, hw⟩, fun z => nomatch z⟩
theorem mf_if {d e : Dt} {b : Bool} {A2 A3 A4 : AS} (h : TgS C g d (A1.wipe ws) A2 ws) (ht : EvT C tt A2 b A3) (he : EvS C te A3 e A4) (hw : A4.wipe ws = A1) (hw' : A3.wipe ws = A1) : MfT C g tt te ws d A1 b e := ⟨A2, A3, A4, h, ht, fun _ => ⟨he, hw⟩, fun _ => hw'⟩
theorem e_mf {m : Nat} {y : Nat → Dt} (hw : WiS C wi A m y A1) (hm : m = l.length) (hy : ∀ i (h : i < l.length), y i = D l[i]) (hs : ∀ x ∈ l, ∀ O, MfT ⟨C.K, C.T, C.H0, O⟩ g tt te ws (D x) A1 (p x) (f x)) (hl : l.length < 100000) :
    EvS C (tLc wi g tt te ws) A (.lstN ((l.filter p).map f)) A1 := by
  subst hm
  have r := e_lcWN (g := g) (tt := tt) (te := te) (ws := ws) hw (fun _ => A1) (fun i => ((l.take i).filter p).map f) rfl rfl (fun i hi O => ?_) hl
  · rw [List.take_length] at r
    exact r
  · obtain ⟨A2, A3, A4, h1, h2, h3, h4⟩ := hs l[i] (List.getElem_mem hi) O
    rw [hy i hi]
    have e : l.take (i + 1) = l.take i ++ [l[i]] := by rw [List.take_add_one, List.getElem?_eq_getElem hi]; rfl
    refine ⟨A2, p l[i], A3, h1, h2, ?_⟩
    rw [e, List.filter_append, List.map_append]
    cases hp : p l[i] with
    | true =>
      obtain ⟨h5, h6⟩ := h3 hp
      exact .inl ⟨rfl, f l[i], A4, h5, by rw [List.filter_cons_of_pos hp]; rfl, h6⟩
    | false => exact .inr ⟨rfl, by rw [List.filter_cons_of_neg (by rw [hp]; decide)]; simp, h4 hp⟩
theorem getD_map {i : Nat} {x0 : Dt} (h : i < l.length) : (l.map D).getD i x0 = D l[i] := by rw [List.getD_eq_getElem?_getD, List.getElem?_map, List.getElem?_eq_getElem h]; rfl
theorem e_mfT (he : EvS C tl A (.tup (l.map D)) A1) (hs : ∀ x ∈ l, ∀ O, MfT ⟨C.K, C.T, C.H0, O⟩ g tt te ws (D x) A1 (p x) (f x)) (hl : l.length < 100000) : EvS C (tLc (iTup C.K tl) g tt te ws) A (.lstN ((l.filter p).map f)) A1 :=
  e_mf (w_tup he dn) (List.length_map ..) (fun _ h => getD_map h) hs hl
theorem e_mfL (he : EvS C tl A (.lst (l.map D)) A1) (hs : ∀ x ∈ l, ∀ O, MfT ⟨C.K, C.T, C.H0, O⟩ g tt te ws (D x) A1 (p x) (f x)) (hl : l.length < 100000) : EvS C (tLc (iList C.K tl) g tt te ws) A (.lstN ((l.filter p).map f)) A1 :=
  e_mf (w_list he dn) (List.length_map ..) (fun _ h => getD_map h) hs hl
/-- without a test -/
theorem e_mapT (he : EvS C tl A (.tup (l.map D)) A1) (hs : ∀ x ∈ l, ∀ O, MfT ⟨C.K, C.T, C.H0, O⟩ g tt te ws (D x) A1 true (f x)) (hl : l.length < 100000) : EvS C (tLc (iTup C.K tl) g tt te ws) A (.lstN (l.map f)) A1 :=
  e_is (e_mfT (p := fun _ => true) he hs hl) (by rw [List.filter_eq_self.mpr fun _ _ => rfl])
theorem e_mapL (he : EvS C tl A (.lst (l.map D)) A1) (hs : ∀ x ∈ l, ∀ O, MfT ⟨C.K, C.T, C.H0, O⟩ g tt te ws (D x) A1 true (f x)) (hl : l.length < 100000) : EvS C (tLc (iList C.K tl) g tt te ws) A (.lstN (l.map f)) A1 :=
  e_is (e_mfL (p := fun _ => true) he hs hl) (by rw [List.filter_eq_self.mpr fun _ _ => rfl])
end
end Py
namespace Py
open PySem PySem.Spec PyProof.Rows L2
theorem o_eqB {C : Ct} {a b : Bool} : OpS C (rEqA C.K) (db a) (db b) (db (decide (a = b))) := by
  have := o_eq (C := C) (a := .bl a) (b := .bl b) rfl
  rwa [show decide (V.bl a = V.bl b) = decide (a = b) from decide_eq_decide.mpr ⟨fun h => by cases h; rfl, fun h => by rw [h]⟩] at this
theorem o_neB {C : Ct} {a b : Bool} : OpS C (rNeA C.K) (db a) (db b) (db (!decide (a = b))) := by
  have := o_ne (C := C) (a := .bl a) (b := .bl b) rfl
  rwa [show decide (V.bl a = V.bl b) = decide (a = b) from decide_eq_decide.mpr ⟨fun h => by cases h; rfl, fun h => by rw [h]⟩] at this
end Py
end

section
set_option Elab.async false
set_option linter.all false
set_option maxRecDepth 100000
set_option maxHeartbeats 4000000
set_option autoImplicit false
set_option exponentiation.threshold 300
namespace Law
open PySem PySem.Spec PyProof.Rows L2 Py

local macro_rules | `(tactic| wtm_at "op") => `(tactic| first
  | with_reducible exact o_I0 | with_reducible exact o_add | with_reducible exact o_eqI | with_reducible exact o_neI
  | ((with_reducible apply o_mul); first | assumption | wtm_at "si")
  | ((with_reducible apply o_I); first | assumption | wtm_at "si")
  | ((with_reducible apply o_ixT); rfl) | ((with_reducible apply o_ixL); rfl)
  | ((with_reducible apply o_eqD) <;> first | rfl | decide | assumption) | ((with_reducible apply o_neD) <;> first | rfl | decide | assumption)
  | with_reducible assumption)
local macro_rules | `(tactic| wtm_at "si") => `(tactic| first | decide | exact ⟨by decide, by decide +kernel⟩ | omega)
local macro_rules | `(tactic| wtm_at "ev") => `(tactic| first
  | ((with_reducible apply e_var); rfl) | with_reducible exact e_c | with_reducible exact a_nil
  | ((with_reducible apply a_cons) <;> wtm_at "ev")
  | ((with_reducible apply e_bin) <;> first | wtm_at "ev" | wtm_at "op")
  | ((with_reducible apply e_ixO) <;> first | rfl | wtm_at "ev")
  | ((with_reducible apply e_U) <;> wtm_at "ev")
  | ((with_reducible apply t_test) <;> wtm_at "ev")
  | ((with_reducible apply t_B) <;> wtm_at "ev")
  | ((with_reducible apply t_not) <;> wtm_at "ev")
  | ((with_reducible apply e_tup) <;> first | wtm_at "ev" | exact Nat.le_of_ble_eq_true rfl)
  | ((with_reducible apply e_lst) <;> first | wtm_at "ev" | exact Nat.le_of_ble_eq_true rfl)
  | ((with_reducible apply e_gcd) <;> wtm_at "ev")
  | ((with_reducible apply e_abs) <;> wtm_at "ev")
  | ((with_reducible apply e_max2) <;> wtm_at "ev")
  | ((with_reducible apply e_int) <;> wtm_at "ev")
  | ((with_reducible apply e_intB) <;> wtm_at "ev")
  | ((with_reducible apply e_bits) <;> wtm_at "ev")
  | ((with_reducible apply e_not) <;> wtm_at "ev")
  | with_reducible assumption)

def top (i : Nat) : Stmt := PySem.Challenge.pw_algebrastack_k21_clauses_that_fit_or_nev.main.body.getD i (.Pass ⟨0, 0, 0, 0⟩)


structure Txt (K : Frg) (mg : Str → Option Value) : Prop where
  gSolveError : mg "SolveError" = some (.ref (He.ga K "SolveError"))
  xSolveError : PySem.W.excIn K (He.ga K "SolveError") He.veBase "ValueError.__new__" = true ∧ PySem.W.keepIn K (.ref (He.ga K "SolveError")) = true ∧ PySem.W.subIn K (.ref (He.ga K "SolveError")) (.type "BaseException") = some true ∧ PySem.W.typeIn K (.ref (He.ga K "SolveError")) = some (.type "type")
  m : PySem.W.exmOne K (.ref (He.ga K "SolveError")) (.ref (He.ga K "SolveError")) = some true
  n_abs : mg "abs" = none
  n_all : mg "all" = none
  n_any : mg "any" = none
  n_dict : mg "dict" = none
  n_int : mg "int" = none
  n_len : mg "len" = none
  n_list : mg "list" = none
  n_max : mg "max" = none
  n_range : mg "range" = none
  n_sorted : mg "sorted" = none
  n_tuple : mg "tuple" = none
  n_zip : mg "zip" = none
  c_MOST_NAMES : ∃ u, mg "MOST_NAMES" = some u ∧ RelV (.int 60) u
  c_MOST_CLAUSES : ∃ u, mg "MOST_CLAUSES" = some u ∧ RelV (.int 400) u
  c_MOST_PARTINGS : ∃ u, mg "MOST_PARTINGS" = some u ∧ RelV (.int 20000) u
  g_Solver : mg "Solver" = some (.ref (He.ga K "Solver"))
  cl : Cls K (He.ga K "Solver")
  mks : Mk K (He.ga K "Solver") (He.ma K (He.ga K "Solver") "__init__")
  na_clauses : NoAttr K (He.ga K "Solver") "clauses"
  na_given : NoAttr K (He.ga K "Solver") "given"
  na_ending : NoAttr K (He.ga K "Solver") "ending"
  na_truths : NoAttr K (He.ga K "Solver") "truths"
  na_steps : NoAttr K (He.ga K "Solver") "steps"
  na_tried : NoAttr K (He.ga K "Solver") "tried"
  me_solve : Meth K (He.ga K "Solver") "solve" (He.ma K (He.ga K "Solver") "solve")
  me_parted : Meth K (He.ga K "Solver") "parted" (He.ma K (He.ga K "Solver") "parted")
  me_told : Meth K (He.ga K "Solver") "told" (He.ma K (He.ga K "Solver") "told")
/-- the class SolveError -/
abbrev SE (K : Frg) : Addr := He.ga K "SolveError"
abbrev SV (K : Frg) : Addr := He.ga K "Solver"

section
variable {P : Program} {w : World} {K : Frg} {T : List (Addr × Str)} {mg : Str → Option Value} {base : Heap}

abbrev s_clause_of : Stmt := top 7
theorem sc_clause_of : FnScope ["numbers", "found", "number"] ["numbers"] (defScope s_clause_of) := ⟨rfl, rfl, rfl, by decide +kernel, rfl, by decide +kernel, by decide +kernel⟩
abbrev s_joined_clauses : Stmt := top 8
theorem sc_joined_clauses : FnScope ["one", "other", "name", "number"] ["one", "other", "name"] (defScope s_joined_clauses) := ⟨rfl, rfl, rfl, by decide +kernel, rfl, by decide +kernel, by decide +kernel⟩
abbrev s_holds_by : Stmt := top 10
theorem sc_holds_by : FnScope ["clause", "names", "number"] ["clause", "names"] (defScope s_holds_by) := ⟨rfl, rfl, rfl, by decide +kernel, rfl, by decide +kernel, by decide +kernel⟩
/-! clauses as lists of ints -/
abbrev clD (c : List Int) : Dt := .tupE (c.map di)
theorem keyD_cl (c : List Int) : keyD (c.map Sum.inl) = clD c := by
  unfold keyD
  rw [List.map_map]; rfl
def addK (acc : List Int) (n : Int) : List Int := if n ∈ acc then acc else acc ++ [n]
def ddup (ns : List Int) : List Int := ns.foldl addK []
theorem ddup_snoc (ns : List Int) (n : Int) : ddup (ns ++ [n]) = addK (ddup ns) n := by
  unfold ddup
  rw [List.foldl_append]; rfl
theorem mem_addK {acc : List Int} {n m : Int} : m ∈ addK acc n ↔ m ∈ acc ∨ m = n := by
  unfold addK
  split
  · constructor
    · exact .inl
    · rintro (h | rfl)
      · exact h
      · assumption
  · simp
theorem mem_ddup {ns : List Int} {m : Int} : m ∈ ddup ns ↔ m ∈ ns := by
  have : ∀ (l acc : List Int), m ∈ l.foldl addK acc ↔ m ∈ acc ∨ m ∈ l := by
    intro l
    induction l with
    | nil => intro acc; simp
    | cons n r ih => intro acc; rw [List.foldl_cons, ih, mem_addK, List.mem_cons, or_assoc]
  have h := this ns []
  simp only [List.not_mem_nil, false_or] at h
  exact h
theorem nd_addK {acc : List Int} {n : Int} (h : acc.Nodup) : (addK acc n).Nodup := by
  unfold addK
  split
  · exact h
  · rw [List.nodup_append]
    exact ⟨h, by simp, fun a ha b hb => by rw [List.mem_singleton.mp hb]; intro e; rw [e] at ha; contradiction⟩
theorem nd_ddup (ns : List Int) : (ddup ns).Nodup := by
  have : ∀ (l acc : List Int), acc.Nodup → (l.foldl addK acc).Nodup := by
    intro l
    induction l with
    | nil => intro acc h; exact h
    | cons n r ih => intro acc h; exact ih _ (nd_addK h)
  exact this ns [] List.nodup_nil
theorem len_ddup (ns : List Int) : (ddup ns).length ≤ ns.length := by
  have : ∀ (l acc : List Int), (l.foldl addK acc).length ≤ acc.length + l.length := by
    intro l
    induction l with
    | nil => intro acc; simp
    | cons n r ih =>
      intro acc
      have h := ih (addK acc n)
      have : (addK acc n).length ≤ acc.length + 1 := by unfold addK; split <;> simp
      rw [List.foldl_cons, List.length_cons]; omega
  have h := this ns []
  rwa [List.length_nil, Nat.zero_add] at h
/-- the sorted clause -/
def canon (ns : List Int) : List Int := (ddup ns).mergeSort (fun a b => decide (a ≤ b))
theorem canon_perm (ns : List Int) : (canon ns).Perm (ddup ns) := List.mergeSort_perm ..
theorem canon_sorted (ns : List Int) : (canon ns).Pairwise (· ≤ ·) := by
  have := List.pairwise_mergeSort (le := fun a b : Int => decide (a ≤ b)) (fun a b c h1 h2 => decide_eq_true (Int.le_trans (of_decide_eq_true h1) (of_decide_eq_true h2))) (fun a b => by simp only [Bool.or_eq_true, decide_eq_true_eq]; omega) (ddup ns)
  exact this.imp fun h => of_decide_eq_true h
theorem mem_canon {ns : List Int} {m : Int} : m ∈ canon ns ↔ m ∈ ns := (canon_perm ns).mem_iff.trans mem_ddup
theorem nd_canon (ns : List Int) : (canon ns).Nodup := (canon_perm ns).nodup_iff.mpr (nd_ddup ns)
theorem len_canon (ns : List Int) : (canon ns).length ≤ ns.length := by rw [(canon_perm ns).length_eq]; exact len_ddup ns
/-- two sorted clauses with the same members are one -/
theorem sorted_ext {a b : List Int} (ha : a.Pairwise (· ≤ ·)) (hb : b.Pairwise (· ≤ ·)) (na : a.Nodup) (nb : b.Nodup) (h : ∀ m, m ∈ a ↔ m ∈ b) : a = b :=
  ((List.perm_ext_iff_of_nodup na nb).mpr h).eq_of_pairwise (le := (· ≤ ·)) (fun x y _ _ h1 h2 => Int.le_antisymm h1 h2) ha hb
def taut (ns : List Int) : Bool := ns.any fun n => decide (0 - n ∈ ns)
/-- no name from 1 to 60 -/
def strange (ns : List Int) : Bool := decide (0 ∈ ns) || ns.any fun n => decide (60 < (n.natAbs : Int))
def clauseR (K : Frg) (ns : List Int) : Rs := if strange ns then .err (SE K) else if taut ns then .ok dn else .ok (clD (canon ns))
def sp_clause (K : Frg) : List Dt → Rs → Prop := fun ds r => ∃ ns : List Int, ds = [.lst (ns.map di)] ∧ ns.length < 100000 ∧ r = clauseR K ns
/-- the keys kept, with True -/
def kvC (ks : List Int) : KS := ks.map fun k => (Sum.inl k, SD.d (db true))
theorem kvC_1 (ks : List Int) : (kvC ks).map (·.1) = ks.map Sum.inl := by unfold kvC; rw [List.map_map]; rfl
theorem any_kvC (ks : List Int) (n : Int) : ((kvC ks).any fun kv => decide (kv.1 = Sum.inl n)) = decide (n ∈ ks) := by
  unfold kvC
  rw [List.any_map]
  induction ks with
  | nil => rfl
  | cons k r ih =>
    rw [List.any_cons, ih]
    simp only [Function.comp, Sum.inl.injEq, List.mem_cons]
    by_cases h : k = n
    · simp [h]
    · have h' : ¬ n = k := fun e => h e.symm
      simp [h, h']
theorem put_kvC (ks : List Int) (n : Int) : putS (kvC ks) (Sum.inl n) (.d (db true)) = kvC (addK ks n) := by
  unfold putS
  rw [any_kvC]
  unfold addK
  by_cases h : n ∈ ks
  · rw [if_pos (decide_eq_true h), if_pos h]
    unfold kvC
    rw [List.map_map]
    refine List.map_congr_left fun k hk => ?_
    show (if (Sum.inl k : Key) = Sum.inl n then _ else _) = _
    split
    · rfl
    · rfl
  · rw [if_neg (by rw [decide_eq_false h]; decide), if_neg h]
    unfold kvC
    rw [List.map_append]; rfl
theorem any_ddup {f : Int → Bool} (ns : List Int) : ((ddup ns).map f).any id = ns.any f := by
  rw [List.any_map]
  rw [Bool.eq_iff_iff, List.any_eq_true, List.any_eq_true]
  constructor
  · rintro ⟨x, h, e⟩; exact ⟨x, mem_ddup.mp h, e⟩
  · rintro ⟨x, h, e⟩; exact ⟨x, mem_ddup.mpr h, e⟩

theorem ok_clause_of (X : Txt K mg) (F : ∃ fd, FunD K "clause_of" "clause_of" (defArgs s_clause_of) (defBody s_clause_of) (defScope s_clause_of) [] [] (He.ga K "clause_of") fd) (hm : mg "clause_of" = some (.ref (He.ga K "clause_of"))) : Gd P w K mg base "clause_of" ["numbers"] 1 (spD K T (sp_clause K)) := by
  have Tx := X
  refine mkG F hm sc_clause_of (fun _ _ _ _ _ _ us hl => match us, hl with | [_], _ => rfl) (fun ds r h => ?len) (fun cdv A outer s H E hr => ?body)
  case len => (obtain ⟨_, rfl, _⟩ := h; rfl)
  case body =>
    have sc := sc_clause_of
    refine ⟨_, (pss_cons (ps_set (i := 1) sc.nd rfl (Or.inr rfl) (pe_cmpD1 (own := [("number", 2)]) (.inl rfl) rfl sc.nd (pi_list (pv 0)) (blkOk_by (own := [("number", 2)]) (N := ["numbers", "found", "number"]) (sc := defScope s_clause_of) (by decide +kernel)) (fun _ _ _ _ _ => (pg_name (i := 2) sc.nd rfl (Or.inl rfl))) (fun _ _ _ _ _ => pts_nil) (Nat.lt_of_le_of_lt (Nat.add_le_add_left (by decide : 1 ≤ 64) _) hr.units) (fun _ _ _ _ _ => (pv 2)) (fun _ _ _ _ _ => pe_bl)))
  (pss_cons (ps_if (PW.pt (pw_or (pt_cmp (pc_din (Nat.lt_of_le_of_lt (Nat.add_le_add_left (by decide : 1 ≤ 64) _) hr.units) pe_int (pv 1))) (pw_or1 (pt_val (pe_callB (cr_any rfl) (by rfl) Tx.n_any (by decide +kernel) (pa_cons (pe_lock (pe_lc (own := [("number", 2)]) rfl sc.nd (pi_keys (pv 1)) (blkOk_by (own := [("number", 2)]) (N := ["numbers", "found", "number"]) (sc := defScope s_clause_of) (by decide +kernel)) (fun _ _ _ _ _ => (pg_name (i := 2) sc.nd rfl (Or.inl rfl))) (fun _ _ _ _ _ => pts_nil) (fun _ _ _ _ _ => (pe_cmpR op_gt (pe_callB call_abs (by rfl) Tx.n_abs (by decide +kernel) (pa_cons (pv 2) pa_nil)) (peC Tx.c_MOST_NAMES) (nomark _))))) pa_nil)))))) (pss_one (ps_rz rfl takesE PySem.F.excBase_ValueError Tx.xSolveError.1 Tx.gSolveError Tx.xSolveError.2.1 (raises_own Tx.xSolveError.2.2.1 Tx.xSolveError.2.2.2) rfl)) pss_nil)
  (pss_cons (ps_if (pt_val (pe_callB (cr_any rfl) (by rfl) Tx.n_any (by decide +kernel) (pa_cons (pe_lock (pe_lc (own := [("number", 2)]) rfl sc.nd (pi_keys (pv 1)) (blkOk_by (own := [("number", 2)]) (N := ["numbers", "found", "number"]) (sc := defScope s_clause_of) (by decide +kernel)) (fun _ _ _ _ _ => (pg_name (i := 2) sc.nd rfl (Or.inl rfl))) (fun _ _ _ _ _ => pts_nil) (fun _ _ _ _ _ => (pe_cmp (pc_din (Nat.lt_of_le_of_lt (Nat.add_le_add_left (by decide : 1 ≤ 64) _) hr.units) (pe_op op_sub pe_int (pv 2)) (pv 1)))))) pa_nil))) (pss_one (ps_ret pe_non)) pss_nil)
  (pss_one (ps_ret (pe_callTy call_tuple_of (by rfl) Tx.n_tuple (by decide +kernel) (pa_cons (pe_callB (cr_sortD rfl) (by rfl) Tx.n_sorted (by decide +kernel) (pa_cons (pv 1) pa_nil)) pa_nil))))))), fun O ds r hg => ?_⟩
    clear sc hr
    try dsimp only [cxOf]

    obtain ⟨ns, rfl, hl, rfl⟩ := hg
    have ld := len_ddup ns
    have hk : (kvC (ddup ns)).map (·.1) = (ddup ns).map Sum.inl := kvC_1 _
    refine r_seq (r_asgG (g_cmp (w_list (e_var rfl) dn) (fun i => ⟨[.d (.lst (ns.map di)), .un, .un], []⟩) (fun i => kvC (ddup (ns.take i))) rfl rfl (fun i hi O' => ?t1) (by rw [List.length_map]; exact hl)) ?_)
    case t1 =>
      rw [List.length_map] at hi
      have e1 : (ns.map di).getD i dn = di ns[i] := by rw [List.getD_eq_getElem?_getD, List.getElem?_map, List.getElem?_eq_getElem hi]; rfl
      have e2 : ns.take (i + 1) = ns.take i ++ [ns[i]] := by rw [List.take_add_one, List.getElem?_eq_getElem hi]; rfl
      rw [e1, e2, ddup_snoc]
      exact ⟨_, true, _, tgS_name (by simp), t_yes, .inl ⟨rfl, Sum.inl ns[i], .d (db true), _, _, e_var rfl, g_d e_c, (put_kvC _ _).symm, rfl⟩⟩
    rw [List.length_map, List.take_length]
    have e_s : strange ns = (((kvC (ddup ns)).any fun kv => decide (kv.1 = Sum.inl 0)) || ((ddup ns).map fun n => decide (60 < (n.natAbs : Int))).any id) := by
      rw [any_kvC, any_ddup]
      unfold strange
      rw [decide_eq_decide.mpr (mem_ddup (ns := ns) (m := 0))]
    have e_t : taut ns = ((ddup ns).map fun n => decide (0 - n ∈ ddup ns)).any id := by
      rw [any_ddup]
      unfold taut
      congr 1
      funext n
      exact decide_eq_decide.mpr mem_ddup.symm
    refine r_seq (r_ifs (b := strange ns) (t_is (t_or (t_test (e_dinG (k0 := Sum.inl 0) e_c (g_own rfl) (.inl rfl))) fun _ => t_test (e_any (bs := (ddup ns).map fun n => decide (60 < (n.natAbs : Int))) (a_cons (e_is (e_lcLock (f := fun n => db (decide (60 < (n.natAbs : Int)))) rfl hk (by omega) (fun A' hA' => g_own (by rw [hA']; rfl)) (fun u acc ha k hkm O' => ?t2)) (by rw [List.map_map]; rfl)) a_nil))) e_s.symm) (fun hb => r_raise ?_) fun hb => r_next ?_)
    case t2 =>
      exact ⟨_, _, tgS_name (by simp), t_yes, e_bin (e_absI (e_var rfl)) e_c o_I0, rfl⟩
    · show clauseR K ns = _
      unfold clauseR
      rw [if_pos hb]
    refine r_seq (r_ifs (b := taut ns) (t_is (t_test (e_any (bs := (ddup ns).map fun n => decide (0 - n ∈ ddup ns)) (a_cons (e_is (e_lcLock (f := fun n => db (decide (0 - n ∈ ddup ns))) rfl hk (by omega) (fun A' hA' => g_own (by rw [hA']; rfl)) (fun u acc ha k hkm O' => ?t3)) (by rw [List.map_map]; rfl)) a_nil))) e_t.symm) (fun ht => r_ret e_c ?_) fun ht => r_next ?_)
    case t3 =>
      refine ⟨_, _, tgS_name (by simp), t_yes, e_is (e_dinG (k0 := Sum.inl (0 - k)) (e_bin e_c (e_var rfl) o_I0) (g_own rfl) (.inr ⟨u, acc, rfl, ha⟩)) ?_, rfl⟩
      rw [any_kvC]
    · show clauseR K ns = _
      unfold clauseR
      rw [if_neg (by rw [hb]; decide), if_pos ht]
    refine r_ret (e_tupLE (e_sortDG (g_own rfl) (.inl rfl) hk (by omega) (canon_perm ns) (canon_sorted ns))) ?_
    show clauseR K ns = _
    unfold clauseR
    rw [if_neg (by rw [hb]; decide), if_neg (by rw [ht]; decide)]

def joinR (K : Frg) (c d : List Int) (n : Int) : Rs := if n ∉ c ∨ 0 - n ∉ d then .err (SE K) else clauseR K (c.filter (fun m => !decide (m = n)) ++ d.filter fun m => !decide (m = 0 - n))
def sp_join (K : Frg) : List Dt → Rs → Prop := fun ds r => ∃ (c d : List Int) (n : Int), ds = [clD c, clD d, di n] ∧ c.length < 10000 ∧ d.length < 10000 ∧ r = joinR K c d n
/-- holds_by -/
def holdsB (c ns : List Int) : Bool := c.any fun n => decide (decide (((n.natAbs : Nat) : Int) ∈ ns) = decide (n > 0))
def sp_holds : List Dt → Rs → Prop := fun ds r => ∃ c ns : List Int, (ds = [.tup (c.map di), .tup (ns.map di)]) ∧ c.length < 10000 ∧ ns.length < 10000 ∧ r = .ok (db (holdsB c ns))

theorem ok_joined_clauses (X : Txt K mg) (F : ∃ fd, FunD K "joined_clauses" "joined_clauses" (defArgs s_joined_clauses) (defBody s_joined_clauses) (defScope s_joined_clauses) [] [] (He.ga K "joined_clauses") fd) (hm : mg "joined_clauses" = some (.ref (He.ga K "joined_clauses"))) (G_clause_of : Gd P w K mg base "clause_of" ["numbers"] 1 (spD K T (sp_clause K))) : Gd P w K mg base "joined_clauses" ["one", "other", "name"] 2 (spD K T (sp_join K)) := by
  have Tx := X
  refine mkG F hm sc_joined_clauses (fun _ _ _ _ _ _ us hl => match us, hl with | [_, _, _], _ => rfl) (fun ds r h => ?len) (fun cdv A outer s H E hr => ?body)
  case len => (obtain ⟨_, _, _, rfl, _⟩ := h; rfl)
  case body =>
    have sc := sc_joined_clauses
    refine ⟨_, (pss_cons (ps_if (PW.pt (pw_or (pt_cmpR op_notIn_seq (pv 2) (pv 0) rfl) (pw_or1 (pt_cmpR op_notIn_seq (pe_op op_sub pe_int (pv 2)) (pv 1) rfl)))) (pss_one (ps_rz rfl takesE PySem.F.excBase_ValueError Tx.xSolveError.1 Tx.gSolveError Tx.xSolveError.2.1 (raises_own Tx.xSolveError.2.2.1 Tx.xSolveError.2.2.2) rfl)) pss_nil)
  (pss_one (ps_ret (pe_callG G_clause_of (hr.mono (by decide)) psE (pa_cons (pe_op op_catR (pe_lc (own := [("number", 3)]) rfl sc.nd (pi_tup (pv 0)) (blkOk_by (own := [("number", 3)]) (N := ["one", "other", "name", "number"]) (sc := defScope s_joined_clauses) (by decide +kernel)) (fun _ _ _ _ _ => (pg_name (i := 3) sc.nd rfl (Or.inl rfl))) (fun _ _ _ _ _ => (pts_one (pt_cmpR (op_neAK (K := K) rfl hr.units) (pv 3) (pv 2) (nomark _)))) (fun _ _ _ _ _ => (pv 3))) (pe_lc (own := [("number", 3)]) rfl sc.nd (pi_tup (pv 1)) (blkOk_by (own := [("number", 3)]) (N := ["one", "other", "name", "number"]) (sc := defScope s_joined_clauses) (by decide +kernel)) (fun _ _ _ _ _ => (pg_name (i := 3) sc.nd rfl (Or.inl rfl))) (fun _ _ _ _ _ => (pts_one (pt_cmpR (op_neAK (K := K) rfl hr.units) (pv 3) (pe_op op_sub pe_int (pv 2)) (nomark _)))) (fun _ _ _ _ _ => (pv 3)))) pa_nil))))), fun O ds r hg => ?_⟩
    clear sc hr
    try dsimp only [cxOf]

    obtain ⟨c, d, n, rfl, hc, hd, rfl⟩ := hg
    refine r_seq (r_ifs (b := !decide (n ∈ c) || !decide (0 - n ∈ d)) (t_or (t_test (e_bin (e_var rfl) (e_unE (e_var rfl)) o_notinT)) fun _ => t_test (e_bin (e_bin e_c (e_var rfl) o_I0) (e_unE (e_var rfl)) o_notinT)) (fun hb => r_raise ?_) fun hb => r_next ?_)
    · show joinR K c d n = _
      unfold joinR
      rw [if_pos (by simpa using hb)]
    have l1 := List.length_filter_le (fun m => !decide (m = n)) c
    have l2 := List.length_filter_le (fun m => !decide (m = 0 - n)) d
    have hj : joinR K c d n = clauseR K (c.filter (fun m => !decide (m = n)) ++ d.filter fun m => !decide (m = 0 - n)) := by
      unfold joinR
      rw [if_neg (by simpa using hb)]
    rw [hj]
    exact r_retCall (a_cons (e_ofN (e_is (e_bin (e_mfT (l := c) (D := di) (f := di) (p := fun m => !decide (m = n)) (e_unE (e_var rfl)) (fun x hx O' => mf_if (tgS_name (by simp)) (t_test (e_bin (e_var rfl) (e_var rfl) o_neI)) (e_var rfl) rfl rfl) (by omega)) (e_mfT (l := d) (D := di) (f := di) (p := fun m => !decide (m = 0 - n)) (e_unE (e_var rfl)) (fun x hx O' => mf_if (tgS_name (by simp)) (t_test (e_bin (e_var rfl) (e_bin e_c (e_var rfl) o_I0) o_neI)) (e_var rfl) rfl rfl) (by omega)) (o_catR (by rw [List.length_map, List.length_map]; omega))) (by rw [List.map_append]))) a_nil) ⟨_, rfl, by rw [List.length_append]; omega, rfl⟩

theorem ok_holds_by (X : Txt K mg) (F : ∃ fd, FunD K "holds_by" "holds_by" (defArgs s_holds_by) (defBody s_holds_by) (defScope s_holds_by) [] [] (He.ga K "holds_by") fd) (hm : mg "holds_by" = some (.ref (He.ga K "holds_by"))) : Gd P w K mg base "holds_by" ["clause", "names"] 1 (spD K T sp_holds) := by
  have Tx := X
  refine mkG F hm sc_holds_by (fun _ _ _ _ _ _ us hl => match us, hl with | [_, _], _ => rfl) (fun ds r h => ?len) (fun cdv A outer s H E hr => ?body)
  case len => (obtain ⟨_, _, rfl, _⟩ := h; rfl)
  case body =>
    have sc := sc_holds_by
    refine ⟨_, (pss_one (ps_ret (pe_callB (cr_any rfl) (by rfl) Tx.n_any (by decide +kernel) (pa_cons (pe_lc (own := [("number", 2)]) rfl sc.nd (pi_tup (pv 0)) (blkOk_by (own := [("number", 2)]) (N := ["clause", "names", "number"]) (sc := defScope s_holds_by) (by decide +kernel)) (fun _ _ _ _ _ => (pg_name (i := 2) sc.nd rfl (Or.inl rfl))) (fun _ _ _ _ _ => pts_nil) (fun _ _ _ _ _ => (pe_cmpR (op_eqAK (K := K) rfl hr.units) (pe_cmpR (op_inK (K := K) rfl) (pe_callB call_abs (by rfl) Tx.n_abs (by decide +kernel) (pa_cons (pv 2) pa_nil)) (pv 1) rfl) (pe_cmpR op_gt (pv 2) pe_int (nomark _)) (nomark _)))) pa_nil)))), fun O ds r hg => ?_⟩
    clear sc hr
    try dsimp only [cxOf]

    obtain ⟨c, ns, rfl, hc, hn, rfl⟩ := hg
    refine r_ret (e_is (e_any (bs := c.map fun n => decide (decide (((n.natAbs : Nat) : Int) ∈ ns) = decide (n > 0))) (a_cons (e_is (e_ofN (e_mapT (l := c) (D := di) (f := fun n => db (decide (decide (((n.natAbs : Nat) : Int) ∈ ns) = decide (n > 0)))) (e_var rfl) (fun x hx O' => mf_yes (tgS_name (by simp)) (e_bin (e_bin (e_absI (e_var rfl)) (e_var rfl) o_inT) (e_bin (e_var rfl) e_c o_I0) o_eqB) rfl) (by omega))) (by rw [List.map_map]; rfl)) a_nil)) (by unfold holdsB; rw [List.any_map]; rfl)) rfl

end
end Law
end

section
set_option Elab.async false
set_option linter.all false
set_option maxRecDepth 100000
set_option maxHeartbeats 4000000
set_option autoImplicit false
set_option exponentiation.threshold 300
namespace Law
open PySem PySem.Spec PyProof.Rows L2 Py Mt

local macro_rules | `(tactic| wtm_at "op") => `(tactic| first
  | with_reducible exact o_I0 | with_reducible exact o_add | with_reducible exact o_eqI | with_reducible exact o_neI
  | ((with_reducible apply o_mul); first | assumption | wtm_at "si")
  | ((with_reducible apply o_I); first | assumption | wtm_at "si")
  | ((with_reducible apply o_ixT); rfl) | ((with_reducible apply o_ixL); rfl)
  | ((with_reducible apply o_eqD) <;> first | rfl | decide | assumption) | ((with_reducible apply o_neD) <;> first | rfl | decide | assumption)
  | with_reducible assumption)
local macro_rules | `(tactic| wtm_at "si") => `(tactic| first | decide | exact ⟨by decide, by decide +kernel⟩ | omega)
local macro_rules | `(tactic| wtm_at "ev") => `(tactic| first
  | ((with_reducible apply e_var); rfl) | with_reducible exact e_c | with_reducible exact a_nil
  | ((with_reducible apply a_cons) <;> wtm_at "ev")
  | ((with_reducible apply e_bin) <;> first | wtm_at "ev" | wtm_at "op")
  | ((with_reducible apply e_ixO) <;> first | rfl | wtm_at "ev")
  | ((with_reducible apply e_U) <;> wtm_at "ev")
  | ((with_reducible apply t_test) <;> wtm_at "ev")
  | ((with_reducible apply t_B) <;> wtm_at "ev")
  | ((with_reducible apply t_not) <;> wtm_at "ev")
  | ((with_reducible apply e_tup) <;> first | wtm_at "ev" | exact Nat.le_of_ble_eq_true rfl)
  | ((with_reducible apply e_lst) <;> first | wtm_at "ev" | exact Nat.le_of_ble_eq_true rfl)
  | ((with_reducible apply e_gcd) <;> wtm_at "ev")
  | ((with_reducible apply e_abs) <;> wtm_at "ev")
  | ((with_reducible apply e_max2) <;> wtm_at "ev")
  | ((with_reducible apply e_int) <;> wtm_at "ev")
  | ((with_reducible apply e_intB) <;> wtm_at "ev")
  | ((with_reducible apply e_bits) <;> wtm_at "ev")
  | ((with_reducible apply e_not) <;> wtm_at "ev")
  | with_reducible assumption)

section
variable {P : Program} {w : World} {K : Frg} {T : List (Addr × Str)} {mg : Str → Option Value} {base : Heap}

abbrev s__law_dice : Stmt := top 13
theorem sc__law_dice : FnScope ["cell"] ["cell"] (defScope s__law_dice) := ⟨rfl, rfl, rfl, by decide +kernel, rfl, by decide +kernel, by decide +kernel⟩
abbrev s__law_roll : Stmt := top 14
theorem sc__law_roll : FnScope ["dice", "many", "found"] ["dice", "many"] (defScope s__law_roll) := ⟨rfl, rfl, rfl, by decide +kernel, rfl, by decide +kernel, by decide +kernel⟩
abbrev s__law_rounds : Stmt := top 15
theorem sc__law_rounds : FnScope ["script", "most", "cells", "cell"] ["script", "most"] (defScope s__law_rounds) := ⟨rfl, rfl, rfl, by decide +kernel, rfl, by decide +kernel, by decide +kernel⟩
theorem ok_law_dice (X : Txt K mg) (F : ∃ fd, FunD K "_law_dice" "_law_dice" (defArgs s__law_dice) (defBody s__law_dice) (defScope s__law_dice) [] [] (He.ga K "_law_dice") fd) (hm : mg "_law_dice" = some (.ref (He.ga K "_law_dice"))) : Gd P w K mg base "_law_dice" ["cell"] 1 (spDice K T) := by
  have Tx := X
  obtain ⟨fd, F⟩ := F
  have hb := F.bindsN (ps := ["cell"]) fun _ _ _ _ _ _ us hl => match us, hl with | [_], _ => rfl
  refine ⟨_, fd, F.ok sc__law_dice (fun vs H Q E h => ?len) (fun cdv A outer s H vs Q E hr h => ?body), hb, F.kp, hm⟩
  case len => (obtain ⟨c, rfl, _⟩ := h; rfl)
  case body =>
    have sc := sc__law_dice
    refine ⟨_, (pss_cons (ps_if (pt_chain op_lt op_lt (pe_op op_sub pe_int pe_int) (pv 0) pe_int) (pss_one (ps_ret (pe_lst (pa_cons (pe_callB call_abs (by rfl) Tx.n_abs (by decide +kernel) (pa_cons (pv 0) pa_nil)) (pa_cons pe_int (pa_cons pe_int pa_nil)))))) pss_nil)
  (pss_one (ps_ret (pe_lst (pa_cons (pv 0) (pa_cons (pe_op op_addA pe_int (pe_op op_modN (pe_callTy call_int1 (by rfl) Tx.n_int (by decide +kernel) (pa_cons (pv 0) pa_nil)) pe_int)) (pa_cons (pe_callTy call_int1 (by rfl) Tx.n_int (by decide +kernel) (pa_cons (pe_cmpR op_ge (pv 0) (pe_op op_pow pe_int pe_int) (nomark _)) pa_nil)) pa_nil))))))), ?_⟩
    clear sc hr
    try dsimp only [cxOf]

    obtain ⟨c, rfl, hz, ht, q⟩ := h
    have k := start_flat (K := K) (N := ["cell"]) (vs := [.int c]) ht
    have lt : ∀ {x y : Int} {b : Bool}, decide (x < y) = b → OpS ⟨K, T, H, []⟩ (rI0 fun i j => .bl (decide (i < j))) (di x) (di y) (db b) := fun e => o_is o_I0 (by rw [e])
    have no : ¬ (-10 < c ∧ c < 10) → mkDice c = ⟨c, 1 + c.fmod 1009, if 10 ^ 18 ≤ c then 1 else 0⟩ := fun h => if_neg h
    by_cases h1 : (0 : Int) - 10 < c
    · by_cases h2 : c < 10
      · refine t_test (e_chainT (by wtm_at "ev") (by wtm_at "ev") (lt (decide_eq_true h1)) (by wtm_at "ev") (lt (decide_eq_true h2))) [] _ H k _ fun os1 H1 k1 g1 => ?_
        rw [if_pos rfl]
        refine ret_newL (xs := [.int (if c < 0 then -c else c), .int 0, .int 2]) k1 (by wtm_at "ev") (Nat.le_of_ble_eq_true rfl) (by rfl) rfl fun a H' f e t hl => q a H' f e t ?_
        have em : mkDice c = ⟨c.natAbs, 0, 2⟩ := if_pos ⟨by omega, h2⟩
        rw [hl, em]
        have ea : (if c < 0 then -c else c) = (c.natAbs : Int) := by split <;> omega
        rw [ea]
        rfl
      · refine t_test (e_chainT (by wtm_at "ev") (by wtm_at "ev") (lt (decide_eq_true h1)) (by wtm_at "ev") (lt (decide_eq_false h2))) [] _ H k _ fun os1 H1 k1 g1 => ?_
        rw [if_neg (by decide)]
        dsimp only [tNext]
        refine ret_newL (xs := [.int c, .int (1 + c.fmod 1009), .int (if decide ((10 : Int) ^ (18 : Int).toNat ≤ c) = true then 1 else 0)]) k1 (by wtm_at "ev") (Nat.le_of_ble_eq_true rfl) (by rfl) rfl fun a H' f e t hl => q a H' f e t ?_
        rw [hl, no (by omega)]
        show some (HO.lst [V.int c, V.int (1 + c.fmod 1009), V.int (if decide ((10 : Int) ^ 18 ≤ c) = true then 1 else 0)]) = _
        simp [Dice.vs]
    · refine t_test (e_chainF (by wtm_at "ev") (by wtm_at "ev") (lt (decide_eq_false h1))) [] _ H k _ fun os1 H1 k1 g1 => ?_
      rw [if_neg (by decide)]
      dsimp only [tNext]
      refine ret_newL (xs := [.int c, .int (1 + c.fmod 1009), .int (if decide ((10 : Int) ^ (18 : Int).toNat ≤ c) = true then 1 else 0)]) k1 (by wtm_at "ev") (Nat.le_of_ble_eq_true rfl) (by rfl) rfl fun a H' f e t hl => q a H' f e t ?_
      rw [hl, no (by omega)]
      show some (HO.lst [V.int c, V.int (1 + c.fmod 1009), V.int (if decide ((10 : Int) ^ 18 ≤ c) = true then 1 else 0)]) = _
      simp [Dice.vs]

theorem ok_law_roll (X : Txt K mg) (F : ∃ fd, FunD K "_law_roll" "_law_roll" (defArgs s__law_roll) (defBody s__law_roll) (defScope s__law_roll) [] [] (He.ga K "_law_roll") fd) (hm : mg "_law_roll" = some (.ref (He.ga K "_law_roll"))) : Gd P w K mg base "_law_roll" ["dice", "many"] 1 (spRoll K T) := by
  have Tx := X
  obtain ⟨fd, F⟩ := F
  have hb := F.bindsN (ps := ["dice", "many"]) fun _ _ _ _ _ _ us hl => match us, hl with | [_, _], _ => rfl
  refine ⟨_, fd, F.ok sc__law_roll (fun vs H Q E h => ?len) (fun cdv A outer s H vs Q E hr h => ?body), hb, F.kp, hm⟩
  case len => (obtain ⟨a, d, m, c, rfl, _⟩ := h; rfl)
  case body =>
    have sc := sc__law_roll
    refine ⟨_, (pss_cons (ps_if (PW.pt (pw_or (pt_cmpR (op_eqA hr.units) (pe_ix ix_seq (pv 0) pe_int (fun _ _ => rfl)) pe_int (nomark _)) (pw_or1 (PW.pt (pw_and (pt_cmpR (op_eqA hr.units) (pe_ix ix_seq (pv 0) pe_int (fun _ _ => rfl)) pe_int (nomark _)) (pw_and1 (pt_cmpR op_gt (pe_ix ix_seq (pv 0) pe_int (fun _ _ => rfl)) pe_int (nomark _)))))))) (pss_cons (ps_set (i := 2) sc.nd rfl (Or.inl rfl) (pe_op op_modN (pe_callTy call_int1 (by rfl) Tx.n_int (by decide +kernel) (pa_cons (pe_ix ix_seq (pv 0) pe_int (fun _ _ => rfl)) pa_nil)) (pv 1)))
  (pss_cons (ps_asg (pe_op op_fdivX (pe_ix ix_seq (pv 0) pe_int (fun _ _ => rfl)) (pv 1)) (pg_sub (pv 0) pe_int set_list))
  (pss_one (ps_ret (pv 2))))) pss_nil)
  (pss_cons (ps_asg pe_int (pg_sub (pv 0) pe_int set_list))
  (pss_cons (ps_asg (pe_op op_modN (pe_callTy call_int1 (by rfl) Tx.n_int (by decide +kernel) (pa_cons (pe_op op_addA (pe_op op_addA (pe_op op_mulA (pe_ix ix_seq (pv 0) pe_int (fun _ _ => rfl)) pe_int) (pe_op op_mulA (pe_ix ix_seq (pv 0) pe_int (fun _ _ => rfl)) pe_int)) pe_int) pa_nil)) pe_int) (pg_sub (pv 0) pe_int set_list))
  (pss_cons (ps_asg (pe_op op_addA (pe_ix ix_seq (pv 0) pe_int (fun _ _ => rfl)) pe_int) (pg_sub (pv 0) pe_int set_list))
  (pss_one (ps_ret (pe_op op_modN (pe_callTy call_int1 (by rfl) Tx.n_int (by decide +kernel) (pa_cons (pe_op op_fdivX (pe_ix ix_seq (pv 0) pe_int (fun _ _ => rfl)) pe_int) pa_nil)) (pv 1)))))))), ?_⟩
    clear sc hr
    try dsimp only [cxOf]

    obtain ⟨a, d, m, c, rfl, ha, hk, hc, h0, hs, ht, q⟩ := h
    have k := start_own (K := K) (N := ["dice", "many", "found"]) (ws := [.int m]) ht ha
    have hm0 : m ≠ 0 := by omega
    have dv : PDiv d.x m := divX 8000 hs hm0
    have m1 : PMul d.x 48271 := mulX 2000000 20 hk.x (by decide)
    have m2 : PMul d.y 69621 := mulX 30 20 (Nat.lt_of_le_of_lt hk.y (by omega)) (by decide)
    suffices R : RunS ⟨K, T, _, []⟩ E _ _ { rt := fun r A => r = di (rollV d m) ∧ A.sl[0]? = some (.own 0) ∧ A.st = [.lst (rollD d m).ds] } from
      R [some a] _ H _ k ⟨fun _ _ _ _ z => z.elim, fun os A σ r v H' ⟨h1, h2, h3⟩ k' g' i' => by
        obtain ⟨o, s1, a3, vs, s2, s3, s4⟩ := k'.store (i := 0) (s := .lst (rollD d m).ds) (by rw [h3]; rfl)
        subst s2
        have o0 := (g'.p 0 (some a) rfl).resolve_right fun z => by rw [s1] at z; cases z
        rw [o0] at s1; cases s1
        rw [vs_of s4] at s3
        subst h1
        rw [Is.v_iff.mp i']
        refine q H' (fun b o hb e n => k'.ex b o ?_ n) k'.tb s3
        show (if b = a then none else H b) = some o
        rw [if_neg hb]
        exact e, fun _ _ _ _ z => z.elim, fun _ _ _ _ z => z.elim, fun _ _ z => z.elim⟩
    have dz : ∀ z : Int, EvS ⟨K, T, (fun b => if b = a then none else H b), []⟩ (tOp (rEqA K) (tOp (rIx K) (tVar 0) (tC (.int 2))) (tC (.int z))) ⟨[.own 0, .d (di m), .un], [.lst d.ds]⟩ (db (decide (d.z = z))) ⟨[.own 0, .d (di m), .un], [.lst d.ds]⟩ := fun z => by wtm_at "ev"
    have dx : EvS ⟨K, T, (fun b => if b = a then none else H b), []⟩ (tOp (rI0 fun i j => .bl (decide (j < i))) (tOp (rIx K) (tVar 0) (tC (.int 0))) (tC (.int 0))) ⟨[.own 0, .d (di m), .un], [.lst d.ds]⟩ (db (decide (0 < d.x))) ⟨[.own 0, .d (di m), .un], [.lst d.ds]⟩ := by wtm_at "ev"
    by_cases hz : d.z = 2 ∨ (d.z = 1 ∧ 0 < d.x)
    · have eV : rollV d m = d.x.fmod m := if_pos hz
      have eD : rollD d m = ⟨d.x.fdiv m, d.y, d.z⟩ := if_pos hz
      refine r_seq (r_ifTs ?tt ?_)
      case tt =>
        by_cases z2 : d.z = 2
        · exact t_orT (t_is (t_test (dz 2)) (decide_eq_true z2))
        · exact t_orF (t_is (t_test (dz 2)) (decide_eq_false z2)) (t_andT (t_is (t_test (dz 1)) (decide_eq_true (hz.resolve_left z2).1)) (t_is (t_test dx) (decide_eq_true (hz.resolve_left z2).2)))
      refine r_seq (r_asg (by wtm_at "ev") ?_)
      refine r_seq (r_setO (by wtm_at "ev") rfl rfl rfl ?_)
      refine r_ret (by wtm_at "ev") ⟨by rw [eV], rfl, by rw [eD]; rfl⟩
    · have eV : rollV d m = (((d.x * 48271 + d.y * 69621 + 11).fmod 2147483647).fdiv 7).fmod m := if_neg hz
      have eD : rollD d m = ⟨(d.x * 48271 + d.y * 69621 + 11).fmod 2147483647, d.y + 1, 0⟩ := if_neg hz
      refine r_seq (r_ifFs ?tt (r_next ?_))
      case tt =>
        refine t_orF (t_is (t_test (dz 2)) (decide_eq_false fun z => hz (.inl z))) ?_
        by_cases z1 : d.z = 1
        · exact t_andT (t_is (t_test (dz 1)) (decide_eq_true z1)) (t_is (t_test dx) (decide_eq_false fun z => hz (.inr ⟨z1, z⟩)))
        · exact t_andF (t_is (t_test (dz 1)) (decide_eq_false z1))
      refine r_seq (r_setO (by wtm_at "ev") rfl rfl rfl ?_)
      refine r_seq (r_setO (by wtm_at "ev") rfl rfl rfl ?_)
      refine r_seq (r_setO (by wtm_at "ev") rfl rfl rfl ?_)
      refine r_ret (by wtm_at "ev") ⟨by rw [eV], rfl, by rw [eD]; rfl⟩

theorem ok_law_rounds (X : Txt K mg) (F : ∃ fd, FunD K "_law_rounds" "_law_rounds" (defArgs s__law_rounds) (defBody s__law_rounds) (defScope s__law_rounds) [] [] (He.ga K "_law_rounds") fd) (hm : mg "_law_rounds" = some (.ref (He.ga K "_law_rounds"))) (G__law_dice : Gd P w K mg base "_law_dice" ["cell"] 1 (spDice K T)) : Gd P w K mg base "_law_rounds" ["script", "most"] 2 (spRounds K T) := by
  have Tx := X
  obtain ⟨fd, F⟩ := F
  have hb := F.bindsN (ps := ["script", "most"]) fun _ _ _ _ _ _ us hl => match us, hl with | [_, _], _ => rfl
  refine ⟨_, fd, F.ok sc__law_rounds (fun vs H Q E h => ?len) (fun cdv A outer s H vs Q E hr h => ?body), hb, F.kp, hm⟩
  case len => (obtain ⟨s, ns, rfl, _⟩ := h; rfl)
  case body =>
    have sc := sc__law_rounds
    refine ⟨_, (pss_cons (ps_set (i := 2) sc.nd rfl (Or.inl rfl) (pe_slice sl_list (pv 0) po_none (po_some (pv 1))))
  (pss_cons (ps_if (pt_cmpR (op_eqA hr.units) (pv 2) (pe_lst pa_nil) (nomark _)) (pss_one (ps_set (i := 2) sc.nd rfl (Or.inl rfl) (pe_lst (pa_cons pe_int pa_nil)))) pss_nil)
  (pss_one (ps_ret (pe_lc (own := [("cell", 3)]) rfl sc.nd (pi_list (pv 2)) (blkOk_by (own := [("cell", 3)]) (N := ["script", "most", "cells", "cell"]) (sc := defScope s__law_rounds) (by decide +kernel)) (fun _ _ _ _ _ => (pg_name (i := 3) sc.nd rfl (Or.inl rfl))) (fun _ _ _ _ _ => pts_nil) (fun _ _ _ _ _ => (pe_callG G__law_dice (hr.mono (by decide)) passL (pa_cons (pv 3) pa_nil)))))))), ?_⟩
    clear sc hr
    try dsimp only [cxOf]

    obtain ⟨s, ns, rfl, hq, hl, hz, ht, q⟩ := h
    have i1 : IsA K H [.lst (ns.map di), di 1] [.ref s, .int 1] := isA_cons (by rw [Is]; exact ⟨s, _, rfl, hq, (by rw [show ns.map di = (ns.map V.int).map Dt.v by rw [List.map_map]; rfl]; exact flat_isA)⟩) (isA_cons is_v isA_nil)
    have k := start_ok (K := K) (T := T) (N := ["script", "most", "cells", "cell"]) (H := H) (O := []) (fun a h => by cases h) ht i1
    have hc : Sz 1048576 (ns.headD 0) := by
      cases ns with
      | nil => exact Nat.pow_pos (by decide)
      | cons a r => exact hz a (List.mem_cons_self ..)
    have cut : cutL (ns.map di) none (some 1) = (ns.take 1).map di := by
      cases ns with
      | nil => rfl
      | cons a r => simp [cutL, HT.sIx]
    have R : RunS ⟨K, T, H, []⟩ E (tSeq (tAsg (tSl (rSlL K) (tVar 0) tNoPart (tPart (tVar 1))) (gName 2)) (tSeq (tIfS (tTest (tOp (rEqA K) (tVar 2) (tLst tNil))) (tAsg (tLst (tCons (tC (.int 0)) tNil)) (gName 2)) tNext) tNext)) ⟨[.d (.lst (ns.map di)), .d (di 1), .un, .un], []⟩ { nx := fun A => A = ⟨[.d (.lst (ns.map di)), .d (di 1), .d (.lst [di (ns.headD 0)]), .un], []⟩ } := by
      refine r_seq (r_asg (e_slL (by wtm_at "ev") o_no (o_part (by wtm_at "ev"))) ?_)
      rw [cut]
      cases ns with
      | nil =>
        refine r_seq (r_ifTs (t_is (t_test (by wtm_at "ev")) (by rfl)) ?_)
        refine r_asg (by wtm_at "ev") (r_next ?_)
        rfl
      | cons a r =>
        refine r_seq (r_ifFs (t_is (t_test (by wtm_at "ev")) (by rfl)) (r_next (r_next ?_)))
        rfl
    refine seq_last (R [] _ H _ k ⟨fun os A σ H1 hA k1 g1 => ?_, fun _ _ _ _ _ _ z => z.elim, fun _ _ _ _ z => z.elim, fun _ _ _ _ z => z.elim, fun _ _ z => z.elim⟩)
    subst hA
    exact ret_dice (i := 2) (j := 3) k1 rfl hc (by decide) (by rw [k1.sn]; exact Nat.le_of_ble_eq_true rfl) rfl q

end
end Law
end

section
set_option Elab.async false
set_option linter.all false
set_option maxRecDepth 100000
set_option maxHeartbeats 4000000
set_option autoImplicit false
namespace Py
open PySem PySem.Spec PyProof.Rows L2
/-! ### t + u, tuples, empty ones too -/
def rCatE (K : Frg) : R2 := fun x y H Q => ∃ a b ys, x = .ref a ∧ y = .ref b ∧ SqT K H a [] ∧ SqT K H b ys ∧ Q (.ref b) H
theorem op_catE {X : Cx} : OpR X (binaryOp .Add) (rCatE X.K) := by
  intro pins s σ H x y v u Q I rx ry h
  obtain ⟨a, b, ys, rfl, rfl, ha, hb, q⟩ := h
  cases rx
  cases ry
  obtain ⟨its, r1, p1, _⟩ := I.tuple ha
  obtain ⟨its2, r2, p2, _⟩ := I.tuple hb
  obtain ⟨⟨cls, dd, data, sl⟩, ho, hc, n, hd⟩ := id p1
  obtain ⟨⟨cls2, dd2, data2, sl2⟩, ho2, hc2, n2, hd2⟩ := id p2
  simp only at hc hd hc2 hd2
  subst hc hd hc2 hd2
  exact concat_meets ⟨_, ho, rfl⟩ ⟨_, ho2, rfl⟩ noFill_tuple_add seq_tuple_add PySem.F.slot_tuple_add PySem.F.entry_tuple_add (PySem.F.args_tuple_add_2 _ _)
      (tuple_addW0 a b its.toArray its2.toArray n n2 dd dd2 sl sl2 (by simp [r1.nil_iff.mpr rfl])) ⟨ho, ho2, ⟨.ref b, H, I, rfl, q⟩⟩
def rAddT (K : Frg) : R2 := fun x y H Q => rCatE K x y H Q ∨ rCatT K x y H Q
theorem op_addT {X : Cx} : OpR X (binaryOp .Add) (rAddT X.K) := OpR.or op_catE op_catT
theorem op_addTK {X : Cx} {K : Frg} (hK : X.K = K) : OpR X (binaryOp .Add) (rAddT K) := by subst hK; exact op_addT
section
variable {C : Ct} {xs ys : List Dt}
theorem o_addT (hl : xs.length + ys.length ≤ 100000) : OpS C (rAddT C.K) (.tup xs) (.tup ys) (.tup (xs ++ ys)) := fun os A σ H vx vy k i1 i2 Q q => by
  have j1 := i1
  have j2 := i2
  rw [Is] at i1 i2
  obtain ⟨a, vs, rfl, h2, h3⟩ := i1
  obtain ⟨b, us, rfl, h4, h5⟩ := i2
  cases vs with
  | nil =>
    have e : xs = [] := List.eq_nil_of_length_eq_zero (by rw [← isA_len h3]; rfl)
    subst e
    exact .inl ⟨a, b, us, rfl, rfl, hd_ex.t h2, hd_ex.t h4, q _ H (Ex.refl _) k.tb j2⟩
  | cons v vs =>
    refine .inr ⟨a, b, v :: vs, us, rfl, rfl, hd_ex.t h2, hd_ex.t h4, by simp, by rw [isA_len h3, isA_len h5]; exact Nat.le_trans hl (by decide), fun e => ?_, fun _ p hp => ?_⟩
    · subst e
      have e : ys = [] := List.eq_nil_of_length_eq_zero (by rw [← isA_len h5]; rfl)
      subst e
      rw [List.append_nil] at q
      exact q _ H (Ex.refl _) k.tb j1
    · refine q _ _ (Ex.new hp) (tabs_new k.tb hp) ?_
      rw [Is]
      exact ⟨p, _, rfl, .inl (.inl (k.fresh hp)), isA_app (IsA.mono (hd_mono (Ex.new hp)) _ _ h3) (IsA.mono (hd_mono (Ex.new hp)) _ _ h5)⟩
theorem o_addTE (hl : xs.length + ys.length ≤ 100000) : OpS C (rAddT C.K) (.tupE xs) (.tupE ys) (.tupE (xs ++ ys)) := fun os A σ H vx vy k i1 i2 Q q => by
  have j1 := i1
  have j2 := i2
  rw [Is] at i1 i2
  obtain ⟨a, vs, rfl, h2, h3⟩ := i1
  obtain ⟨b, us, rfl, h4, h5⟩ := i2
  cases vs with
  | nil =>
    have e : xs = [] := List.eq_nil_of_length_eq_zero (by rw [← isA_len h3]; rfl)
    subst e
    exact .inl ⟨a, b, us, rfl, rfl, hd_ex.t (SqT.of h2), hd_ex.t (SqT.of h4), q _ H (Ex.refl _) k.tb j2⟩
  | cons v vs =>
    refine .inr ⟨a, b, v :: vs, us, rfl, rfl, hd_ex.t (SqT.of h2), hd_ex.t (SqT.of h4), by simp, by rw [isA_len h3, isA_len h5]; exact Nat.le_trans hl (by decide), fun e => ?_, fun _ p hp => ?_⟩
    · subst e
      have e : ys = [] := List.eq_nil_of_length_eq_zero (by rw [← isA_len h5]; rfl)
      subst e
      rw [List.append_nil] at q
      exact q _ H (Ex.refl _) k.tb j1
    · refine q _ _ (Ex.new hp) (tabs_new k.tb hp) ?_
      rw [Is]
      exact ⟨p, _, rfl, k.fresh hp, isA_app (IsA.mono (hd_mono (Ex.new hp)) _ _ h3) (IsA.mono (hd_mono (Ex.new hp)) _ _ h5)⟩
end
/-! ### a test that raises -/
theorem x_ifS {C : Ct} {E : XK} {A A1 : AS} {te : TE} {t u : TS} {P : Po} {c : Addr} (h : EvX C E te A c A1) (hp : P.er c) : RunS C E (tIfS (tTest te) t u) A P := fun os σ H D k T => h os σ H k (fun os' H' k' _ => T.er c H' hp k'.ex k'.tb) _
/-! ### equality of tuples of ints -/
def pyI (c : List Int) : List PyData := c.map PyData.int
theorem eqvA_I : ∀ a b : List Int, PyData.eqvAll (pyI a) (pyI b) = decide (a = b)
  | [], [] => by unfold pyI; rw [List.map_nil, PyData.eqvAll]; rfl
  | [], q :: b => by unfold pyI; rw [List.map_nil, List.map_cons, PyData.eqvAll]; rfl
  | p :: a, [] => by unfold pyI; rw [List.map_nil, List.map_cons, PyData.eqvAll]; rfl
  | p :: a, q :: b => by
    have h := eqvA_I a b
    unfold pyI at h ⊢
    rw [List.map_cons, List.map_cons, PyData.eqvAll, h]
    have : PyData.eqv (.int p) (.int q) = decide (p = q) := by rw [PyData.eqv]; rfl
    rw [this]
    by_cases h1 : p = q
    · by_cases h2 : a = b <;> simp [h1, h2]
    · simp [h1]
theorem nice_I {n : Nat} (c : List Int) : NiceA n (c.map di) (pyI c) := niceA_map (fun _ => .int) c
theorem nice_tE {n : Nat} (c : List Int) : Nice (n + 1) (.tupE (c.map di)) (.tuple (pyI c)) := .tupE (nice_I c)
theorem nice_tI {n : Nat} (c : List Int) : Nice (n + 1) (.tup (c.map di)) (.tuple (pyI c)) := .tup (nice_I c)
theorem eqv_tI (a b : List Int) : PyData.eqv (.tuple (pyI a)) (.tuple (pyI b)) = decide (a = b) := by rw [PyData.eqv, eqvA_I]
theorem eqv_nonT (ps : List PyData) : PyData.eqv .none (.tuple ps) = false := by rw [PyData.eqv] <;> (first | rfl | (intros; simp))
theorem eqv_Tnon (ps : List PyData) : PyData.eqv (.tuple ps) .none = false := by rw [PyData.eqv] <;> (first | rfl | (intros; simp))
end Py
namespace Py
open PySem PySem.Spec PyProof.Rows L2
theorem o_isNon {C : Ct} : OpS C (fun x y H Q => y = .non ∧ Q (.bl (decide (x = .non))) H) dn dn (db true) := fun os A σ H vx vy k i1 i2 Q q => by
  rw [Is.v_iff.mp i1]
  exact ⟨Is.v_iff.mp i2, q _ H (Ex.refl _) k.tb is_v⟩
end Py
namespace Py
open PySem PySem.Spec PyProof.Rows L2
theorem units65 {k : Nat} {A : Around} (r : Room k A) : A.units + 65 < cLine := by have := r.un; omega
end Py
namespace Py
open PySem PySem.Spec PyProof.Rows L2
theorem upG_at {A : AS} {n : Nat} {o o' : OD} (h : A.st[n]? = some o') : (A.upG n o).st[n]? = some o := List.getElem?_set_self (List.getElem?_eq_some_iff.mp h).1
end Py
end

section
set_option Elab.async false
set_option linter.all false
set_option maxRecDepth 100000
set_option maxHeartbeats 4000000
set_option autoImplicit false
set_option exponentiation.threshold 300
namespace Law
open PySem PySem.Spec PyProof.Rows L2 Py

local macro_rules | `(tactic| wtm_at "op") => `(tactic| first
  | with_reducible exact o_I0 | with_reducible exact o_add | with_reducible exact o_eqI | with_reducible exact o_neI
  | ((with_reducible apply o_mul); first | assumption | wtm_at "si")
  | ((with_reducible apply o_I); first | assumption | wtm_at "si")
  | ((with_reducible apply o_ixT); rfl) | ((with_reducible apply o_ixL); rfl)
  | ((with_reducible apply o_eqD) <;> first | rfl | decide | assumption) | ((with_reducible apply o_neD) <;> first | rfl | decide | assumption)
  | with_reducible assumption)
local macro_rules | `(tactic| wtm_at "si") => `(tactic| first | decide | exact ⟨by decide, by decide +kernel⟩ | omega)
local macro_rules | `(tactic| wtm_at "ev") => `(tactic| first
  | ((with_reducible apply e_var); rfl) | with_reducible exact e_c | with_reducible exact a_nil
  | ((with_reducible apply a_cons) <;> wtm_at "ev")
  | ((with_reducible apply e_bin) <;> first | wtm_at "ev" | wtm_at "op")
  | ((with_reducible apply e_ixO) <;> first | rfl | wtm_at "ev")
  | ((with_reducible apply e_U) <;> wtm_at "ev")
  | ((with_reducible apply t_test) <;> wtm_at "ev")
  | ((with_reducible apply t_B) <;> wtm_at "ev")
  | ((with_reducible apply t_not) <;> wtm_at "ev")
  | ((with_reducible apply e_tup) <;> first | wtm_at "ev" | exact Nat.le_of_ble_eq_true rfl)
  | ((with_reducible apply e_lst) <;> first | wtm_at "ev" | exact Nat.le_of_ble_eq_true rfl)
  | ((with_reducible apply e_gcd) <;> wtm_at "ev")
  | ((with_reducible apply e_abs) <;> wtm_at "ev")
  | ((with_reducible apply e_max2) <;> wtm_at "ev")
  | ((with_reducible apply e_int) <;> wtm_at "ev")
  | ((with_reducible apply e_intB) <;> wtm_at "ev")
  | ((with_reducible apply e_bits) <;> wtm_at "ev")
  | ((with_reducible apply e_not) <;> wtm_at "ev")
  | with_reducible assumption)

section
variable {P : Program} {w : World} {K : Frg} {T : List (Addr × Str)} {mg : Str → Option Value} {base : Heap}

abbrev s_check_steps : Stmt := top 11
theorem sc_check_steps : FnScope ["clauses", "steps", "told", "clause", "shown", "name", "one", "other", "found"] ["clauses", "steps"] (defScope s_check_steps) := ⟨rfl, rfl, rfl, by decide +kernel, rfl, by decide +kernel, by decide +kernel⟩
theorem inl_inj : ∀ {a b : List Int}, a.map (Sum.inl : Int → Key) = b.map Sum.inl ↔ a = b
  | [], [] => ⟨fun _ => rfl, fun _ => rfl⟩
  | [], _ :: _ => ⟨fun h => (by cases h), fun h => (by cases h)⟩
  | _ :: _, [] => ⟨fun h => (by cases h), fun h => (by cases h)⟩
  | p :: a, q :: b => by
    have := inl_inj (a := a) (b := b)
    rw [List.map_cons, List.map_cons, List.cons.injEq, List.cons.injEq, this, Sum.inl.injEq]
def addL (acc : List (List Int)) (c : List Int) : List (List Int) := if c ∈ acc then acc else acc ++ [c]
theorem mem_addL {acc : List (List Int)} {n m : List Int} : m ∈ addL acc n ↔ m ∈ acc ∨ m = n := by
  unfold addL
  split
  · constructor
    · exact .inl
    · rintro (h | rfl)
      · exact h
      · assumption
  · simp
def kvL (cs : List (List Int)) : KST := cs.map fun c => (c.map Sum.inl, SD.d (db true))
theorem any_kvL (cs : List (List Int)) (c : List Int) : ((kvL cs).any fun kv => decide (kv.1 = c.map Sum.inl)) = decide (c ∈ cs) := by
  unfold kvL
  rw [List.any_map]
  induction cs with
  | nil => rfl
  | cons k r ih =>
    rw [List.any_cons, ih]
    simp only [Function.comp, inl_inj, List.mem_cons]
    by_cases h : k = c
    · simp [h]
    · have h' : ¬ c = k := fun e => h e.symm
      simp [h, h']
theorem put_kvL (cs : List (List Int)) (c : List Int) : putS (kvL cs) (c.map Sum.inl) (.d (db true)) = kvL (addL cs c) := by
  unfold putS
  rw [any_kvL]
  unfold addL
  by_cases h : c ∈ cs
  · rw [if_pos (decide_eq_true h), if_pos h]
    unfold kvL
    rw [List.map_map]
    refine List.map_congr_left fun k hk => ?_
    show (if k.map Sum.inl = c.map Sum.inl then _ else _) = _
    split
    · rfl
    · rfl
  · rw [if_neg (by rw [decide_eq_false h]; decide), if_neg h]
    unfold kvL
    rw [List.map_append]; rfl
theorem len_kvL (cs : List (List Int)) : (kvL cs).length = cs.length := by unfold kvL; rw [List.length_map]
theorem len_addL (acc : List (List Int)) (c : List Int) : (addL acc c).length ≤ acc.length + 1 := by unfold addL; split <;> simp
/-- the clause of the numbers, None if it holds always -/
def clauseO (ns : List Int) : Option (List Int) := if taut ns then none else some (canon ns)
def optD : Option (List Int) → Dt
  | none => dn
  | some c => clD c
theorem clauseR_ok {ns : List Int} (h : strange ns = false) : clauseR K ns = .ok (optD (clauseO ns)) := by
  unfold clauseR clauseO
  rw [if_neg (by rw [h]; decide)]
  split <;> rfl
def joinO (c d : List Int) (n : Int) : Option (Option (List Int)) := if n ∉ c ∨ 0 - n ∉ d then none else (let e := c.filter (fun m => !decide (m = n)) ++ d.filter fun m => !decide (m = 0 - n); if strange e then none else some (clauseO e))
theorem joinR_eq {c d : List Int} {n : Int} : joinR K c d n = match joinO c d n with
    | none => .err (SE K)
    | some o => .ok (optD o) := by
  unfold joinR joinO
  by_cases h : n ∉ c ∨ 0 - n ∉ d
  · rw [if_pos h, if_pos h]
  · rw [if_neg h, if_neg h]
    dsimp only
    generalize c.filter (fun m => !decide (m = n)) ++ d.filter (fun m => !decide (m = 0 - n)) = e
    cases h : strange e with
    | true => unfold clauseR; rw [if_pos h]; rfl
    | false => rw [clauseR_ok h]; rfl
structure Stp where
  n : Int
  c : List Int
  d : List Int
  f : List Int
def stD (s : Stp) : Dt := .tup [di s.n, clD s.c, clD s.d, clD s.f]
def chk : List (List Int) → List Stp → Bool
  | sh, [] => decide ([] ∈ sh)
  | sh, s :: r => if s.c ∈ sh ∧ s.d ∈ sh ∧ joinO s.c s.d s.n = some (some s.f) then chk (addL sh s.f) r else false
/-- what is shown at the start -/
def shown0 (cls : List (List Int)) : List (List Int) := (cls.map clauseO).foldl (fun acc o => match o with | none => acc | some c => addL acc c) []
theorem mem_shown0 {cls : List (List Int)} {c : List Int} : c ∈ shown0 cls ↔ some c ∈ cls.map clauseO := by
  unfold shown0
  have : ∀ (l : List (Option (List Int))) (acc : List (List Int)), c ∈ l.foldl (fun acc o => match o with | none => acc | some c => addL acc c) acc ↔ c ∈ acc ∨ some c ∈ l := by
    intro l
    induction l with
    | nil => intro acc; simp
    | cons o r ih =>
      intro acc
      rw [List.foldl_cons, ih]
      cases o with
      | none => simp
      | some d => simp only [mem_addL, List.mem_cons, Option.some.injEq, or_assoc]
  rw [this]
  simp
def checkR (K : Frg) (cls : List (List Int)) (ss : List Stp) : Rs := if chk (shown0 cls) ss then .ok dn else .err (SE K)
abbrev nsD (ns : List Int) : Dt := .lst (ns.map di)
def sp_check (K : Frg) : List Dt → Rs → Prop := fun ds r => ∃ (cls : List (List Int)) (ss : List Stp), ds = [.lst (cls.map nsD), .tup (ss.map stD)] ∧ (∀ ns ∈ cls, strange ns = false ∧ ns.length < 10000) ∧ (∀ s ∈ ss, s.c.length < 10000 ∧ s.d.length < 10000) ∧ cls.length + ss.length < 90000 ∧ r = checkR K cls ss

theorem ok_check_steps (X : Txt K mg) (F : ∃ fd, FunD K "check_steps" "check_steps" (defArgs s_check_steps) (defBody s_check_steps) (defScope s_check_steps) [] [] (He.ga K "check_steps") fd) (hm : mg "check_steps" = some (.ref (He.ga K "check_steps"))) (G_clause_of : Gd P w K mg base "clause_of" ["numbers"] 1 (spD K T (sp_clause K))) (G_joined_clauses : Gd P w K mg base "joined_clauses" ["one", "other", "name"] 2 (spD K T (sp_join K))) : Gd P w K mg base "check_steps" ["clauses", "steps"] 3 (spD K T (sp_check K)) := by
  have Tx := X
  refine mkG F hm sc_check_steps (fun _ _ _ _ _ _ us hl => match us, hl with | [_, _], _ => rfl) (fun ds r h => ?len) (fun cdv A outer s H E hr => ?body)
  case len => (obtain ⟨_, _, rfl, _⟩ := h; rfl)
  case body =>
    have sc := sc_check_steps
    refine ⟨_, (pss_cons (ps_setLc (i := 2) (own := [("clause", 3)]) rfl sc.nd rfl rfl (sw_true rfl rfl rfl (by decide +kernel)) (pi_list (pv 0)) (blkOk_by (own := [("clause", 3)]) (N := ["clauses", "steps", "told", "clause", "shown", "name", "one", "other", "found"]) (sc := defScope s_check_steps) (by decide +kernel)) (fun _ _ _ _ _ => (pg_name (i := 3) sc.nd rfl (Or.inl rfl))) (fun _ _ _ _ _ => pts_nil) (fun _ _ _ _ _ => (pe_callG G_clause_of (hr.mono (by decide)) passL (pa_cons (pv 3) pa_nil))))
  (pss_cons (ps_setCmp1 (i := 4) (own := [("clause", 3)]) (.inr rfl) rfl sc.nd rfl rfl (sw_trueD rfl rfl rfl (by decide +kernel)) (pi_list (pv 2)) (blkOk_by (own := [("clause", 3)]) (N := ["clauses", "steps", "told", "clause", "shown", "name", "one", "other", "found"]) (sc := defScope s_check_steps) (by decide +kernel)) (fun _ _ _ _ _ => (pg_name (i := 3) sc.nd rfl (Or.inl rfl))) (fun _ _ _ _ _ => (pts_one (pt_cmpR op_notN (pv 3) pe_non (nomark _)))) (Nat.lt_of_le_of_lt (Nat.add_le_add_left (by decide : 1 ≤ 64) _) hr.units) (fun _ _ _ _ _ => (pv 3)) (fun _ _ _ _ _ => pe_bl))
  (pss_cons (ps_for (passesE) rfl (pi_tup (pv 1)) (pg_tup rfl (pgs_cons (pg_name (i := 5) sc.nd rfl (Or.inl rfl)) (pgs_cons (pg_name (i := 6) sc.nd rfl (Or.inl rfl)) (pgs_cons (pg_name (i := 7) sc.nd rfl (Or.inl rfl)) (pgs_cons (pg_name (i := 8) sc.nd rfl (Or.inl rfl)) pgs_nil))))) (pss_cons (ps_if (PW.pt (pw_or (pt_cmp (pc_dnotin (Nat.lt_of_le_of_lt (Nat.add_le_add_left (by decide : 1 ≤ 64) _) hr.units) (pv 6) (pv 4))) (pw_or (pt_cmp (pc_dnotin (Nat.lt_of_le_of_lt (Nat.add_le_add_left (by decide : 1 ≤ 64) _) hr.units) (pv 7) (pv 4))) (pw_or1 (pt_cmpR op_isN (pv 8) pe_non (nomark _)))))) (pss_one (ps_rz rfl takesE PySem.F.excBase_ValueError Tx.xSolveError.1 Tx.gSolveError Tx.xSolveError.2.1 (raises_own Tx.xSolveError.2.2.1 Tx.xSolveError.2.2.2) rfl)) pss_nil)
  (pss_cons (ps_if (pt_cmpR (op_neA hr.units) (pe_callG G_joined_clauses (hr.mono (by decide)) psE (pa_cons (pv 6) (pa_cons (pv 7) (pa_cons (pv 5) pa_nil)))) (pv 8) (nomark _)) (pss_one (ps_rz rfl takesE PySem.F.excBase_ValueError Tx.xSolveError.1 Tx.gSolveError Tx.xSolveError.2.1 (raises_own Tx.xSolveError.2.2.1 Tx.xSolveError.2.2.2) rfl)) pss_nil)
  (pss_one (ps_dput (Nat.lt_of_le_of_lt (Nat.add_le_add_left (by decide : 1 ≤ 64) _) hr.units) (pv 4) (pv 8) pe_bl (by rfl))))))
  (pss_one (ps_if (pt_cmp (pc_dnotin (Nat.lt_of_le_of_lt (Nat.add_le_add_left (by decide : 1 ≤ 64) _) hr.units) (pe_tup pa_nil) (pv 4))) (pss_one (ps_rz rfl takesE PySem.F.excBase_ValueError Tx.xSolveError.1 Tx.gSolveError Tx.xSolveError.2.1 (raises_own Tx.xSolveError.2.2.1 Tx.xSolveError.2.2.2) rfl)) pss_nil))))), fun O ds r hg => ?_⟩
    clear sc hr
    try dsimp only [cxOf]

    obtain ⟨cls, ss, rfl, hcl, hss, hlen, rfl⟩ := hg
    refine r_seq (r_asg (d := .lst ((cls.map clauseO).map optD)) (e_ofN (e_is (e_mapL (l := cls) (D := nsD) (f := fun ns => optD (clauseO ns)) (e_var rfl) (fun ns hns O' => mf_yes (tgS_name (by simp)) (e_call (C := ⟨K, T, H, O'⟩) (a_cons (e_var rfl) a_nil) ⟨ns, rfl, by have := (hcl ns hns).2; omega, (clauseR_ok (hcl ns hns).1).symm⟩) rfl) (by omega)) (by rw [List.map_map]; rfl))) ?_)
    have l0 : ((cls.map clauseO).map optD).length = cls.length := by rw [List.length_map, List.length_map]
    refine r_seq (r_asgG (g_cmpT (w_list (e_var rfl) dn) (fun i => ⟨[.d (.lst (cls.map nsD)), .d (.tup (ss.map stD)), .d (.lst ((cls.map clauseO).map optD)), .un, .un, .un, .un, .un, .un], []⟩) (fun i => kvL (((cls.map clauseO).take i).foldl (fun acc o => match o with | none => acc | some c => addL acc c) [])) rfl rfl (fun i hi O' => ?t1) (by omega)) ?_)
    case t1 =>
      rw [List.length_map] at hi
      rw [getD_map hi]
      have e2 : (cls.map clauseO).take (i + 1) = (cls.map clauseO).take i ++ [(cls.map clauseO)[i]] := by rw [List.take_add_one, List.getElem?_eq_getElem hi]; rfl
      rw [e2, List.foldl_append]
      generalize (cls.map clauseO)[i] = o
      cases o with
      | none => exact ⟨_, false, _, tgS_name (by simp), t_test (e_bin (e_var rfl) e_c (o_notNone (.inl ⟨rfl, rfl⟩))), .inr ⟨rfl, rfl, rfl⟩⟩
      | some c => exact ⟨_, true, _, tgS_name (by simp), t_test (e_bin (e_var rfl) e_c (o_notNo rfl)), .inl ⟨rfl, c.map Sum.inl, .d (db true), _, _, e_is (e_var rfl) (keyD_cl c).symm, g_d e_c, (put_kvL _ _).symm, rfl⟩⟩
    rw [l0, ← List.length_map (as := cls) clauseO, List.take_length]
    refine r_seq (r_forT (xs := ss.map stD) (e_var rfl) (fun i A => ∃ (sh : List (List Int)) (x5 x6 x7 x8 : SD), chk sh (ss.drop i) = chk (shown0 cls) ss ∧ sh.length ≤ cls.length + i ∧ A = ⟨[.d (.lst (cls.map nsD)), .d (.tup (ss.map stD)), .d (.lst ((cls.map clauseO).map optD)), .un, .own 0, x5, x6, x7, x8], [oST (kvL sh)]⟩) ⟨shown0 cls, _, _, _, _, rfl, ?l0, rfl⟩ ?_ ?_)
    case l0 =>
      have : ∀ (l : List (Option (List Int))) (acc : List (List Int)), (l.foldl (fun acc o => match o with | none => acc | some c => addL acc c) acc).length ≤ acc.length + l.length := by
        intro l
        induction l with
        | nil => intro acc; simp
        | cons o r ih =>
          intro acc
          rw [List.foldl_cons, List.length_cons]
          cases o with
          | none => have h := ih acc; dsimp only; omega
          | some c => have h := ih (addL acc c); have := len_addL acc c; dsimp only; omega
      have h := this (cls.map clauseO) []
      rw [List.length_map, List.length_nil] at h
      show (shown0 cls).length ≤ _
      unfold shown0; omega
    · rintro i x A hx ⟨sh, x5, x6, x7, x8, hc, hsl, rfl⟩
      rw [List.getElem?_map] at hx
      obtain ⟨s, hs, rfl⟩ := Option.map_eq_some_iff.mp hx
      have hil := (List.getElem?_eq_some_iff.mp hs).1
      have hsm := hss s (List.mem_of_getElem? hs)
      have dr : ss.drop i = s :: ss.drop (i + 1) := by rw [List.drop_eq_getElem_cons hil]; congr 1; exact (List.getElem?_eq_some_iff.mp hs).2
      rw [dr, chk] at hc
      refine ⟨⟨[.d (.lst (cls.map nsD)), .d (.tup (ss.map stD)), .d (.lst ((cls.map clauseO).map optD)), .un, .own 0, .d (di s.n), .d (clD s.c), .d (clD s.d), .d (clD s.f)], [oST (kvL sh)]⟩, tg_tup rfl (tgA_cons tg_name (tgA_cons tg_name (tgA_cons tg_name (tgA_cons tg_name tgA_nil)))), ?_⟩
      have bad : chk (shown0 cls) ss = false → checkR K cls ss = .err (SE K) := fun h => by unfold checkR; rw [if_neg (by rw [h]; decide)]
      refine r_seq (r_ifs (b := !decide (s.c ∈ sh) || !decide (s.d ∈ sh)) (t_is (t_or (t_test (e_dnotinGT (k0 := s.c.map Sum.inl) (e_is (e_var rfl) (keyD_cl _).symm) (g_own rfl) (.inl rfl))) fun _ => t_or (t_test (e_dnotinGT (k0 := s.d.map Sum.inl) (e_is (e_var rfl) (keyD_cl _).symm) (g_own rfl) (.inl rfl))) fun _ => t_test (e_bin (e_var rfl) e_c (o_isNo rfl))) (by rw [any_kvL, any_kvL, Bool.or_false])) (fun hb => r_raise ?_) fun hb => r_next ?_)
      · refine bad ?_
        rw [← hc, if_neg]
        rintro ⟨h1, h2, _⟩
        simp [h1, h2] at hb
      have h1 : s.c ∈ sh := by
        cases h : decide (s.c ∈ sh) with
        | true => exact of_decide_eq_true h
        | false => rw [h] at hb; simp at hb
      have h2 : s.d ∈ sh := by
        cases h : decide (s.d ∈ sh) with
        | true => exact of_decide_eq_true h
        | false => rw [h] at hb; simp at hb
      cases hj : joinO s.c s.d s.n with
      | none =>
        refine r_seq (x_ifS (x_op1 (x_call (c := SE K) (a_cons (e_var rfl) (a_cons (e_var rfl) (a_cons (e_var rfl) a_nil))) ⟨s.c, s.d, s.n, rfl, hsm.1, hsm.2, by rw [joinR_eq, hj]⟩)) ?_)
        refine bad ?_
        rw [← hc, if_neg]
        rintro ⟨_, _, h3⟩
        rw [hj] at h3
        cases h3
      | some o =>
        have on : OpS ⟨K, T, H, O⟩ (rNeA K) (optD o) (clD s.f) (db (!decide (o = some s.f))) := by
          cases o with
          | none =>
            have z := o_neN (C := ⟨K, T, H, O⟩) (n := 0) (m := 1) .non (nice_tE s.f)
            rw [eqv_nonT] at z
            exact z
          | some e =>
            have z := o_neN (C := ⟨K, T, H, O⟩) (n := 1) (m := 1) (nice_tE e) (nice_tE s.f)
            rw [eqv_tI, show decide (e = s.f) = decide (some e = some s.f) from decide_eq_decide.mpr (Option.some.injEq ..).symm.to_iff] at z
            exact z
        refine r_seq (r_ifs (b := !decide (o = some s.f)) (t_test (e_bin (e_call (d := optD o) (a_cons (e_var rfl) (a_cons (e_var rfl) (a_cons (e_var rfl) a_nil))) ⟨s.c, s.d, s.n, rfl, hsm.1, hsm.2, by rw [joinR_eq, hj]⟩) (e_var rfl) on)) (fun hb => r_raise ?_) fun hb => r_next ?_)
        · refine bad ?_
          rw [← hc, if_neg]
          rintro ⟨_, _, h3⟩
          rw [hj, Option.some.injEq] at h3
          simp [h3] at hb
        have ho : o = some s.f := by
          cases h : decide (o = some s.f) with
          | true => exact of_decide_eq_true h
          | false => rw [h] at hb; simp at hb
        rw [if_pos ⟨h1, h2, by rw [hj, ho]⟩] at hc
        refine r_dputGT (n := 0) (k0 := s.f.map Sum.inl) (s := .d (db true)) (kvs := kvL sh) (g_d e_c) (g_own rfl) (e_is (A1 := ⟨[.d (.lst (cls.map nsD)), .d (.tup (ss.map stD)), .d (.lst ((cls.map clauseO).map optD)), .un, .own 0, .d (di s.n), .d (clD s.c), .d (clD s.d), .d (clD s.f)], [oST (kvL sh)]⟩) (e_var rfl) (keyD_cl _).symm) rfl (by rw [len_kvL]; omega) ?_
        rw [put_kvL]
        exact ⟨addL sh s.f, _, _, _, _, hc, by have := len_addL sh s.f; omega, rfl⟩
    · rintro A ⟨sh, x5, x6, x7, x8, hc, hsl, rfl⟩
      rw [List.length_map, List.drop_length, chk] at hc
      refine r_ifs (b := !decide ([] ∈ sh)) (t_is (t_test (e_dnotinGT (k0 := []) (e_tupE a_nil (Nat.le_of_ble_eq_true rfl)) (g_own rfl) (.inl rfl))) ?_) (fun hb => r_raise ?_) fun hb => r_next ?_
      · rw [show (kvL sh).any (fun kv => decide (kv.1 = [])) = _ from any_kvL sh []]
      · show checkR K cls ss = _
        unfold checkR
        rw [if_neg]
        rw [← hc]
        simpa using hb
      · show checkR K cls ss = _
        unfold checkR
        rw [if_pos]
        rw [← hc]
        simpa using hb

end
end Law
end

section
set_option Elab.async false
set_option linter.all false
set_option maxRecDepth 100000
set_option maxHeartbeats 4000000
set_option autoImplicit false
namespace Law
open PySem PySem.Spec PyProof.Rows L2 Py
/-! ### the search, as functions -/
theorem len_sub {α : Type} [DecidableEq α] : ∀ {l m : List α}, l.Nodup → (∀ x ∈ l, x ∈ m) → l.length ≤ m.length
  | [], _, _, _ => Nat.zero_le _
  | a :: l, m, h, hs => by
    have ha := hs a (List.mem_cons_self ..)
    have h2 := List.nodup_cons.mp h
    have := len_sub (l := l) (m := m.erase a) h2.2 fun x hx => (List.mem_erase_of_ne fun e => h2.1 (by rw [← e]; exact hx)).mpr (hs x (List.mem_cons_of_mem _ hx))
    rw [List.length_erase_of_mem ha] at this
    have : 0 < m.length := List.length_pos_of_mem ha
    rw [List.length_cons]; omega
def mx (c : List Int) : Int := c.foldl (fun a n => if a < (n.natAbs : Int) then (n.natAbs : Int) else a) 0
theorem mx_go : ∀ (c : List Int) (a : Int), 0 ≤ a → a ≤ c.foldl (fun a n => if a < (n.natAbs : Int) then (n.natAbs : Int) else a) a ∧ (∀ n ∈ c, (n.natAbs : Int) ≤ c.foldl (fun a n => if a < (n.natAbs : Int) then (n.natAbs : Int) else a) a) ∧ (c.foldl (fun a n => if a < (n.natAbs : Int) then (n.natAbs : Int) else a) a = a ∨ ∃ n ∈ c, (n.natAbs : Int) = c.foldl (fun a n => if a < (n.natAbs : Int) then (n.natAbs : Int) else a) a)
  | [], a, h => ⟨Int.le_refl _, fun n hn => (by cases hn), .inl rfl⟩
  | n :: c, a, h => by
    rw [List.foldl_cons]
    by_cases hl : a < (n.natAbs : Int)
    · rw [if_pos hl]
      obtain ⟨h1, h2, h3⟩ := mx_go c (n.natAbs : Int) (by omega)
      refine ⟨by omega, fun m hm => ?_, ?_⟩
      · rcases List.mem_cons.mp hm with rfl | hm
        · exact h1
        · exact h2 m hm
      · rcases h3 with h3 | ⟨m, hm, h3⟩
        · exact .inr ⟨n, List.mem_cons_self .., h3.symm⟩
        · exact .inr ⟨m, List.mem_cons_of_mem _ hm, h3⟩
    · rw [if_neg hl]
      obtain ⟨h1, h2, h3⟩ := mx_go c a h
      refine ⟨h1, fun m hm => ?_, ?_⟩
      · rcases List.mem_cons.mp hm with rfl | hm
        · omega
        · exact h2 m hm
      · rcases h3 with h3 | ⟨m, hm, h3⟩
        · exact .inl h3
        · exact .inr ⟨m, List.mem_cons_of_mem _ hm, h3⟩
theorem mx_ge {c : List Int} {n : Int} (h : n ∈ c) : (n.natAbs : Int) ≤ mx c := (mx_go c 0 (by decide)).2.1 n h
theorem mx_mem {c : List Int} (h : c ≠ []) (h0 : 0 ∉ c) : ∃ n ∈ c, (n.natAbs : Int) = mx c := by
  rcases (mx_go c 0 (by decide)).2.2 with e | e
  · obtain ⟨n, hn⟩ := List.exists_mem_of_ne_nil c h
    have h1 := mx_ge hn
    have e : mx c = 0 := e
    have : n = 0 := by omega
    rw [this] at hn
    exact absurd hn h0
  · exact e
structure Slv where
  cls : List (List Int)
  giv : List Int
structure Sv where
  tr : List (Int × Bool)
  steps : List Stp
  tried : Nat
def Slv.at (v : Slv) (i : Nat) : Int := v.giv.getD i 0
/-- the clauses whose greatest name is n -/
def Slv.E (v : Slv) (n : Int) : List (List Int) := v.cls.filter fun c => decide (c ≠ []) && decide (mx c = n)
def getB (tr : List (Int × Bool)) (n : Int) : Option Bool := (tr.find? fun q => decide (q.1 = n)).map (·.2)
/-- every number of it is false -/
def fals (tr : List (Int × Bool)) (c : List Int) : Bool := c.all fun x => (getB tr (x.natAbs : Int)).getD false != decide (x > 0)
def toldW (p : Sv → Option (List Int) × Sv) (v : Slv) (place : Nat) (b : Bool) (S : Sv) : Option (List Int) × Sv :=
  match (v.E (v.at place)).find? (fals (putS S.tr (v.at place) b)) with
  | some c => (some c, { S with tr := putS S.tr (v.at place) b })
  | none => p { S with tr := putS S.tr (v.at place) b }
def join (c d : List Int) (n : Int) : List Int := c.filter (fun m => !decide (m = n)) ++ d.filter fun m => !decide (m = 0 - n)
def highW (nm : Int) (low : List Int) (r : Option (List Int) × Sv) : Option (List Int) × Sv :=
  match r.1 with
  | none => (none, r.2)
  | some high => if 0 - nm ∉ high then (some high, r.2) else (some (canon (join low high nm)), { r.2 with steps := r.2.steps ++ [⟨nm, low, high, canon (join low high nm)⟩] })
def lowW (nm : Int) (again : Sv → Option (List Int) × Sv) (r : Option (List Int) × Sv) : Option (List Int) × Sv :=
  match r.1 with
  | none => (none, r.2)
  | some low => if nm ∉ low then (some low, r.2) else highW nm low (again r.2)
def partW (v : Slv) : Nat → Nat → Sv → Option (List Int) × Sv
  | 0, _, S => (none, S)
  | d + 1, place, S => lowW (v.at place) (toldW (partW v d (place + 1)) v place true) (toldW (partW v d (place + 1)) v place false { S with tried := S.tried + 1 })
/-! ### what stands in the dict -/
theorem getB_put {tr : List (Int × Bool)} {n m : Int} {b : Bool} : getB (putS tr n b) m = if m = n then some b else getB tr m := by
  unfold putS getB
  split
  · rename_i h
    induction tr with
    | nil => simp at h
    | cons q r ih =>
      rw [List.map_cons]
      by_cases hq : q.1 = n
      · rw [if_pos hq, List.find?_cons, List.find?_cons]
        by_cases hm : m = n
        · rw [if_pos hm]
          simp [hq, hm]
        · rw [if_neg hm]
          have : decide (q.1 = m) = false := decide_eq_false fun e => hm (by rw [← e, hq])
          rw [this]
          have : ∀ l : List (Int × Bool), (List.find? (fun q => decide (q.1 = m)) (l.map fun kv => if kv.1 = n then (kv.1, b) else kv)).map (·.2) = (l.find? fun q => decide (q.1 = m)).map (·.2) := by
            intro l
            induction l with
            | nil => rfl
            | cons a l ih2 =>
              rw [List.map_cons, List.find?_cons, List.find?_cons]
              by_cases ha : a.1 = n
              · rw [if_pos ha]
                have e3 : decide (a.1 = m) = false := decide_eq_false fun e => hm (by rw [← e, ha])
                rw [e3]; exact ih2
              · rw [if_neg ha]
                cases decide (a.1 = m) with
                | true => rfl
                | false => exact ih2
          exact this r
      · rw [if_neg hq, List.find?_cons, List.find?_cons]
        have h' : (r.any fun kv => decide (kv.1 = n)) = true := by
          rw [List.any_cons, decide_eq_false hq, Bool.false_or] at h; exact h
        by_cases hm : q.1 = m
        · rw [decide_eq_true hm, if_neg fun e => hq (by rw [hm, e])]
        · rw [decide_eq_false hm]
          exact ih h'
  · rename_i h
    rw [List.find?_append]
    by_cases hm : m = n
    · rw [if_pos hm]
      have : tr.find? (fun q => decide (q.1 = m)) = none := List.find?_eq_none.mpr fun x hx e => h (List.any_eq_true.mpr ⟨x, hx, by rw [← hm]; exact e⟩)
      rw [this]
      simp [hm]
    · rw [if_neg hm]
      have hm' : ¬ n = m := fun e => hm e.symm
      cases tr.find? fun q => decide (q.1 = m) <;> simp [hm']
/-! ### what is kept -/
structure ClOk (c : List Int) : Prop where
  st : strange c = false
  ta : taut c = false
  so : c.Pairwise (· ≤ ·)
  nd : c.Nodup
theorem strange_iff {c : List Int} : strange c = false ↔ ∀ x ∈ c, x ≠ 0 ∧ (x.natAbs : Int) ≤ 60 := by
  unfold strange
  rw [Bool.or_eq_false_iff, decide_eq_false_iff_not, List.any_eq_false]
  constructor
  · rintro ⟨h1, h2⟩ x hx
    refine ⟨fun e => h1 (by rw [← e]; exact hx), ?_⟩
    have := h2 x hx
    rw [decide_eq_true_eq] at this
    omega
  · intro h
    refine ⟨fun hx => (h 0 hx).1 rfl, fun x hx => ?_⟩
    have := (h x hx).2
    rw [decide_eq_true_eq]
    omega
theorem taut_iff {c : List Int} : taut c = false ↔ ∀ x ∈ c, 0 - x ∉ c := by
  unfold taut
  rw [List.any_eq_false]
  constructor
  · intro h x hx hy
    exact h x hx (decide_eq_true hy)
  · intro h x hx e
    exact h x hx (of_decide_eq_true e)
theorem ClOk.len {c : List Int} (h : ClOk c) : c.length ≤ 121 := by
  have := len_sub (m := (List.range 121).map fun (i : Nat) => (i : Int) - 60) h.nd fun x hx => by
    have := (strange_iff.mp h.st x hx).2
    exact List.mem_map.mpr ⟨(x + 60).toNat, List.mem_range.mpr (by omega), by omega⟩
  rw [List.length_map, List.length_range] at this
  exact this
structure Slv.Ok (v : Slv) : Prop where
  cl : ∀ c ∈ v.cls, ClOk c
  nm : ∀ c ∈ v.cls, ∀ x ∈ c, (x.natAbs : Int) ∈ v.giv
  gs : v.giv.Pairwise (· < ·)
  gp : ∀ n ∈ v.giv, 0 < n ∧ n ≤ 60
  few : v.cls.length ≤ 400
/-- a clause of names before place, each number of it false -/
structure CL (v : Slv) (place : Nat) (tr : List (Int × Bool)) (c : List Int) : Prop where
  ok : ClOk c
  nm : ∀ x ∈ c, ∃ i, i < place ∧ v.giv[i]? = some (x.natAbs : Int) ∧ getB tr (x.natAbs : Int) = some (decide (x < 0))
/-- the names before place are known -/
def Kn (v : Slv) (place : Nat) (tr : List (Int × Bool)) : Prop := ∀ i n, i < place → v.giv[i]? = some n → ∃ b, getB tr n = some b
/-- the names before place stand as they stood -/
def Sm (v : Slv) (place : Nat) (tr tr' : List (Int × Bool)) : Prop := ∀ i n, i < place → v.giv[i]? = some n → getB tr' n = getB tr n
section
variable {v : Slv} {place : Nat} {tr tr' : List (Int × Bool)} {c : List Int}
theorem giv_inj (V : v.Ok) {i j : Nat} {n : Int} (h1 : v.giv[i]? = some n) (h2 : v.giv[j]? = some n) : i = j := by
  obtain ⟨l1, e1⟩ := List.getElem?_eq_some_iff.mp h1
  obtain ⟨l2, e2⟩ := List.getElem?_eq_some_iff.mp h2
  rcases Nat.lt_trichotomy i j with h | h | h
  · have := List.pairwise_iff_getElem.mp V.gs i j l1 l2 h
    omega
  · exact h
  · have := List.pairwise_iff_getElem.mp V.gs j i l2 l1 h
    omega
theorem at_eq {i : Nat} (h : i < v.giv.length) : v.giv[i]? = some (v.at i) := by
  unfold Slv.at
  rw [List.getD_eq_getElem?_getD, List.getElem?_eq_getElem h]; rfl
theorem CL.same (h : CL v place tr c) (s : Sm v place tr tr') : CL v place tr' c := ⟨h.ok, fun x hx => by
  obtain ⟨i, h1, h2, h3⟩ := h.nm x hx
  exact ⟨i, h1, h2, by rw [s i _ h1 h2]; exact h3⟩⟩
theorem fals_iff : fals tr c = true ↔ ∀ x ∈ c, (getB tr (x.natAbs : Int)).getD false ≠ decide (x > 0) := by
  unfold fals
  rw [List.all_eq_true]
  constructor
  · intro h x hx
    simpa using h x hx
  · intro h x hx
    simpa using h x hx
theorem E_mem {n : Int} (h : c ∈ v.E n) : c ∈ v.cls ∧ c ≠ [] ∧ mx c = n := by
  unfold Slv.E at h
  obtain ⟨h1, h2⟩ := List.mem_filter.mp h
  rw [Bool.and_eq_true, decide_eq_true_eq, decide_eq_true_eq] at h2
  exact ⟨h1, h2.1, h2.2⟩
/-- the names of a clause that ends at place stand up to place -/
theorem E_names (V : v.Ok) (hp : place < v.giv.length) (h : c ∈ v.E (v.at place)) {x : Int} (hx : x ∈ c) : ∃ i, i < place + 1 ∧ v.giv[i]? = some (x.natAbs : Int) := by
  obtain ⟨h1, h2, h3⟩ := E_mem h
  obtain ⟨i, hi⟩ := List.getElem?_of_mem (V.nm c h1 x hx)
  refine ⟨i, ?_, hi⟩
  have := mx_ge hx
  rw [h3] at this
  obtain ⟨l1, e1⟩ := List.getElem?_eq_some_iff.mp hi
  obtain ⟨l2, e2⟩ := List.getElem?_eq_some_iff.mp (at_eq (v := v) hp)
  refine Classical.byContradiction fun z => ?_
  have := List.pairwise_iff_getElem.mp V.gs place i l2 l1 (by omega)
  omega
theorem CL_of (V : v.Ok) (hp : place < v.giv.length) (h : c ∈ v.E (v.at place)) (hk : Kn v (place + 1) tr) (hf : fals tr c = true) : CL v (place + 1) tr c := ⟨V.cl c (E_mem h).1, fun x hx => by
  obtain ⟨i, h1, h2⟩ := E_names V hp h hx
  refine ⟨i, h1, h2, ?_⟩
  obtain ⟨b, hb⟩ := hk i _ h1 h2
  have := fals_iff.mp hf x hx
  rw [hb] at this ⊢
  have h0 := (strange_iff.mp (V.cl c (E_mem h).1).st x hx).1
  have this : b ≠ decide (x > 0) := this
  congr 1
  cases b with
  | true =>
    have := of_decide_eq_false (Bool.eq_false_iff.mpr fun z => this (by rw [z]))
    exact (decide_eq_true (by omega)).symm
  | false =>
    have h5 : decide (x > 0) = true := by
      cases hd : decide (x > 0) with
      | true => rfl
      | false => exact absurd hd.symm this
    have := of_decide_eq_true h5
    exact (decide_eq_false (by omega)).symm⟩
theorem Kn.put (V : v.Ok) (hp : place < v.giv.length) (hk : Kn v place tr) {b : Bool} : Kn v (place + 1) (putS tr (v.at place) b) := fun i n hi hn => by
  rw [getB_put]
  by_cases e : n = v.at place
  · rw [if_pos e]; exact ⟨_, rfl⟩
  · rw [if_neg e]
    refine hk i n ?_ hn
    rcases Nat.lt_or_ge i place with z | z
    · exact z
    · obtain rfl : i = place := by omega
      rw [at_eq hp] at hn
      exact absurd (Option.some.inj hn).symm e
theorem Sm.put (V : v.Ok) (hp : place < v.giv.length) {b : Bool} : Sm v place tr (putS tr (v.at place) b) := fun i n hi hn => by
  rw [getB_put, if_neg fun e => ?_]
  rw [e] at hn
  have := giv_inj V hn (at_eq hp)
  omega
theorem Sm.trans {tr2 : List (Int × Bool)} (a : Sm v place tr tr') (b : Sm v place tr' tr2) : Sm v place tr tr2 := fun i n hi hn => (b i n hi hn).trans (a i n hi hn)
theorem Sm.less {p : Nat} (h : Sm v p tr tr') (hp : place ≤ p) : Sm v place tr tr' := fun i n hi hn => h i n (by omega) hn
theorem Kn.same (h : Kn v place tr) (s : Sm v place tr tr') : Kn v place tr' := fun i n hi hn => by
  rw [s i n hi hn]; exact h i n hi hn
/-- low without name, high without the other -/
theorem join_ok (V : v.Ok) (hp : place < v.giv.length) {low high : List Int} {tr1 : List (Int × Bool)} (h1 : CL v (place + 1) (putS tr (v.at place) false) low) (h2 : CL v (place + 1) (putS tr1 (v.at place) true) high) (s : Sm v place tr tr1) (m1 : v.at place ∈ low) (m2 : 0 - v.at place ∈ high) :
    strange (join low high (v.at place)) = false ∧ taut (join low high (v.at place)) = false ∧ (∀ x ∈ join low high (v.at place), ∃ i, i < place ∧ v.giv[i]? = some (x.natAbs : Int) ∧ getB tr (x.natAbs : Int) = some (decide (x < 0))) := by
  have key : ∀ x ∈ join low high (v.at place), ∃ i, i < place ∧ v.giv[i]? = some (x.natAbs : Int) ∧ getB tr (x.natAbs : Int) = some (decide (x < 0)) := by
    intro x hx
    have gp := (V.gp (v.at place) (List.mem_of_getElem? (at_eq hp))).1
    unfold join at hx
    rcases List.mem_append.mp hx with h | h
    · obtain ⟨hm, hne⟩ := List.mem_filter.mp h
      have hne : x ≠ v.at place := by simpa using hne
      obtain ⟨i, a1, a2, a3⟩ := h1.nm x hm
      have ne : (x.natAbs : Int) ≠ v.at place := fun e => by
        have : x = 0 - v.at place := by omega
        rw [this] at hm
        exact taut_iff.mp h1.ok.ta _ m1 hm
      rw [getB_put, if_neg ne] at a3
      refine ⟨i, ?_, a2, a3⟩
      rcases Nat.lt_or_ge i place with z | z
      · exact z
      · obtain rfl : i = place := by omega
        rw [at_eq hp] at a2
        exact absurd (Option.some.inj a2).symm ne
    · obtain ⟨hm, hne⟩ := List.mem_filter.mp h
      have hne : x ≠ 0 - v.at place := by simpa using hne
      obtain ⟨i, a1, a2, a3⟩ := h2.nm x hm
      have ne : (x.natAbs : Int) ≠ v.at place := fun e => by
        have : x = v.at place := by omega
        rw [this] at hm
        exact taut_iff.mp h2.ok.ta _ hm m2
      rw [getB_put, if_neg ne] at a3
      have hi : i < place := by
        rcases Nat.lt_or_ge i place with z | z
        · exact z
        · obtain rfl : i = place := by omega
          rw [at_eq hp] at a2
          exact absurd (Option.some.inj a2).symm ne
      exact ⟨i, hi, a2, by rw [← s i _ hi a2]; exact a3⟩
  refine ⟨strange_iff.mpr fun x hx => ?_, taut_iff.mpr fun x hx hy => ?_, key⟩
  · unfold join at hx
    rcases List.mem_append.mp hx with h | h
    · exact strange_iff.mp h1.ok.st x (List.mem_filter.mp h).1
    · exact strange_iff.mp h2.ok.st x (List.mem_filter.mp h).1
  · obtain ⟨i, a1, a2, a3⟩ := key x hx
    obtain ⟨j, b1, b2, b3⟩ := key _ hy
    have : (0 - x).natAbs = x.natAbs := by omega
    rw [this, a3] at b3
    have b3 := Option.some.inj b3
    have gp := (V.gp _ (List.mem_of_getElem? a2)).1
    rcases Int.lt_or_gt_of_ne (show x ≠ 0 by omega) with z | z
    · rw [decide_eq_true z, decide_eq_false (by omega)] at b3; cases b3
    · rw [decide_eq_false (by omega), decide_eq_true (by omega)] at b3; cases b3
theorem ClOk.canon {c : List Int} (h1 : strange c = false) (h2 : taut c = false) : ClOk (canon c) := ⟨strange_iff.mpr fun x hx => strange_iff.mp h1 x (mem_canon.mp hx), taut_iff.mpr fun x hx hy => taut_iff.mp h2 x (mem_canon.mp hx) (mem_canon.mp hy), canon_sorted _, nd_canon _⟩
theorem joinO_ok {low high : List Int} {n : Int} (h1 : n ∈ low) (h2 : 0 - n ∈ high) (h3 : strange (join low high n) = false) (h4 : taut (join low high n) = false) : joinO low high n = some (some (canon (join low high n))) := by
  unfold joinO
  rw [if_neg fun z => z.elim (fun y => y h1) fun y => y h2]
  show (if strange (join low high n) = true then none else some (clauseO (join low high n))) = _
  rw [if_neg (by rw [h3]; decide)]
  unfold clauseO
  rw [if_neg (by rw [h4]; decide)]
end
/-- what a search from place on leaves -/
structure Left (v : Slv) (place : Nat) (k : Nat) (S : Sv) (r : Option (List Int) × Sv) : Prop where
  sm : Sm v place S.tr r.2.tr
  cl : ∀ c, r.1 = some c → CL v place S.tr c
  few : r.2.tried + 1 ≤ S.tried + k
  st : r.2.steps.length + 1 ≤ S.steps.length + k
structure LeftT (v : Slv) (place : Nat) (b : Bool) (k : Nat) (S : Sv) (r : Option (List Int) × Sv) : Prop where
  sm : Sm v place S.tr r.2.tr
  cl : ∀ c, r.1 = some c → CL v (place + 1) (putS S.tr (v.at place) b) c
  few : r.2.tried + 1 ≤ S.tried + k
  st : r.2.steps.length + 1 ≤ S.steps.length + k
section
variable {v : Slv} {place k : Nat} {S : Sv}
theorem told_left {b : Bool} {p : Sv → Option (List Int) × Sv} (V : v.Ok) (hp : place < v.giv.length) (hk : Kn v place S.tr) (h0 : 0 < k)
    (ih : ∀ S, Kn v (place + 1) S.tr → Left v (place + 1) k S (p S)) : LeftT v place b k S (toldW p v place b S) := by
  have hk1 := hk.put V hp (b := b)
  unfold toldW
  cases hf : (v.E (v.at place)).find? (fals (putS S.tr (v.at place) b)) with
  | some c =>
    refine ⟨Sm.put V hp, fun d e => ?_, by show S.tried + 1 ≤ S.tried + k; omega, by show S.steps.length + 1 ≤ S.steps.length + k; omega⟩
    cases e
    exact CL_of V hp (List.mem_of_find?_eq_some hf) hk1 (List.find?_some hf)
  | none =>
    obtain ⟨a1, a2, a3, a4⟩ := ih { S with tr := putS S.tr (v.at place) b } hk1
    exact ⟨(Sm.put V hp).trans (a1.less (Nat.le_succ _)), a2, a3, a4⟩
theorem CL.down (V : v.Ok) (hp : place < v.giv.length) {tr : List (Int × Bool)} {b : Bool} {c : List Int} (h : CL v (place + 1) (putS tr (v.at place) b) c) (hn : (if b then 0 - v.at place else v.at place) ∉ c) : CL v place tr c := ⟨h.ok, fun x hx => by
  obtain ⟨i, a1, a2, a3⟩ := h.nm x hx
  have gp := (V.gp (v.at place) (List.mem_of_getElem? (at_eq hp))).1
  have ne : (x.natAbs : Int) ≠ v.at place := fun e => by
    rw [getB_put, if_pos e] at a3
    have a3 := Option.some.inj a3
    cases b with
    | true =>
      have := of_decide_eq_true a3.symm
      rw [if_pos rfl] at hn
      exact hn (by rw [show 0 - v.at place = x by omega]; exact hx)
    | false =>
      have := of_decide_eq_false a3.symm
      rw [if_neg (by decide)] at hn
      exact hn (by rw [show v.at place = x by omega]; exact hx)
  rw [getB_put, if_neg ne] at a3
  refine ⟨i, ?_, a2, a3⟩
  rcases Nat.lt_or_ge i place with z | z
  · exact z
  · obtain rfl : i = place := by omega
    rw [at_eq hp] at a2
    exact absurd (Option.some.inj a2).symm ne⟩
theorem part_left (V : v.Ok) : ∀ (d place : Nat) (S : Sv), place + d = v.giv.length → Kn v place S.tr → Left v place (2 ^ (d + 1)) S (partW v d place S)
  | 0, place, S, _, _ => ⟨fun _ _ _ _ => rfl, fun _ e => (by cases e), by show S.tried + 1 ≤ S.tried + 2; omega, by show S.steps.length + 1 ≤ S.steps.length + 2; omega⟩
  | d + 1, place, S, hd, hk => by
    have hp : place < v.giv.length := by omega
    have e2 : 2 ^ (d + 1 + 1) = 2 ^ (d + 1) + 2 ^ (d + 1) := by rw [Nat.pow_succ]; omega
    have p0 : 0 < 2 ^ (d + 1) := Nat.pow_pos (by decide)
    have ih := fun S => part_left V d (place + 1) S (by omega)
    rw [partW]
    have L1 := told_left (b := false) (S := { S with tried := S.tried + 1 }) V hp hk p0 ih
    generalize toldW (partW v d (place + 1)) v place false { S with tried := S.tried + 1 } = r1 at L1
    obtain ⟨a1, a2, a3, a4⟩ := L1
    have a3 : r1.2.tried + 1 ≤ S.tried + 1 + 2 ^ (d + 1) := a3
    have a4 : r1.2.steps.length + 1 ≤ S.steps.length + 2 ^ (d + 1) := a4
    unfold lowW
    cases h1 : r1.1 with
    | none => exact ⟨a1, fun _ e => (by cases e), by show r1.2.tried + 1 ≤ _; omega, by show r1.2.steps.length + 1 ≤ _; omega⟩
    | some low =>
      have c1 := a2 low h1
      dsimp only
      by_cases m1 : v.at place ∉ low
      · rw [if_pos m1]
        refine ⟨a1, fun c e => ?_, by show r1.2.tried + 1 ≤ _; omega, by show r1.2.steps.length + 1 ≤ _; omega⟩
        cases e
        exact c1.down V hp m1
      · rw [if_neg m1]
        have m1 := Classical.not_not.mp m1
        have L2 := told_left (b := true) (S := r1.2) V hp (hk.same a1) p0 ih
        generalize toldW (partW v d (place + 1)) v place true r1.2 = r2 at L2
        obtain ⟨b1, b2, b3, b4⟩ := L2
        have ab : Sm v place S.tr r2.2.tr := a1.trans b1
        unfold highW
        cases h2 : r2.1 with
        | none => exact ⟨ab, fun _ e => (by cases e), by show r2.2.tried + 1 ≤ _; omega, by show r2.2.steps.length + 1 ≤ _; omega⟩
        | some high =>
          have c2 := b2 high h2
          dsimp only
          by_cases m2 : 0 - v.at place ∉ high
          · rw [if_pos m2]
            refine ⟨ab, fun c e => ?_, by show r2.2.tried + 1 ≤ _; omega, by show r2.2.steps.length + 1 ≤ _; omega⟩
            cases e
            have := c2.down V hp m2
            exact this.same fun i n hi hn => (a1 i n hi hn).symm
          · rw [if_neg m2]
            have m2 := Classical.not_not.mp m2
            obtain ⟨j1, j2, j3⟩ := join_ok V hp c1 c2 a1 m1 m2
            refine ⟨ab, fun c e => ?_, by show r2.2.tried + 1 ≤ _; omega, by show (r2.2.steps ++ [_]).length + 1 ≤ _; rw [List.length_append, List.length_singleton]; omega⟩
            cases e
            exact ⟨ClOk.canon j1 j2, fun x hx => j3 x (mem_canon.mp hx)⟩
end
/-! the dict's keys are names -/
structure Ky (v : Slv) (tr : List (Int × Bool)) : Prop where
  nd : (tr.map (·.1)).Nodup
  gi : ∀ p ∈ tr, p.1 ∈ v.giv
section
variable {v : Slv} {place : Nat} {S : Sv}
theorem Ky.len {tr : List (Int × Bool)} (h : Ky v tr) : tr.length ≤ v.giv.length := by
  have := len_sub h.nd (m := v.giv) fun x hx => by
    obtain ⟨p, hp, rfl⟩ := List.mem_map.mp hx
    exact h.gi p hp
  rwa [List.length_map] at this
theorem Ky.put {tr : List (Int × Bool)} (h : Ky v tr) (hp : place < v.giv.length) {b : Bool} : Ky v (putS tr (v.at place) b) := by
  unfold putS
  split
  · have e : (tr.map fun kv => if kv.1 = v.at place then (kv.1, b) else kv).map (·.1) = tr.map (·.1) := by
      rw [List.map_map]
      refine List.map_congr_left fun p _ => ?_
      show (if p.1 = v.at place then (p.1, b) else p).1 = p.1
      split <;> rfl
    refine ⟨by rw [e]; exact h.nd, fun p hp => ?_⟩
    have : p.1 ∈ tr.map (·.1) := by rw [← e]; exact List.mem_map.mpr ⟨p, hp, rfl⟩
    obtain ⟨q, hq, e2⟩ := List.mem_map.mp this
    rw [← e2]; exact h.gi q hq
  · rename_i ha
    refine ⟨?_, fun p hp' => ?_⟩
    · rw [List.map_append, List.nodup_append]
      refine ⟨h.nd, by simp, fun a ha' b' hb e => ha ?_⟩
      have hb : b' = v.at place := by simpa using hb
      obtain ⟨q, hq, e2⟩ := List.mem_map.mp ha'
      exact List.any_eq_true.mpr ⟨q, hq, decide_eq_true (by rw [e2, e, hb])⟩
    · rcases List.mem_append.mp hp' with z | z
      · exact h.gi p z
      · rw [List.mem_singleton.mp z]
        exact List.mem_of_getElem? (at_eq hp)
theorem told_ky {b : Bool} {p : Sv → Option (List Int) × Sv} (hp : place < v.giv.length) (hk : Ky v S.tr) (ih : ∀ S, Ky v S.tr → Ky v (p S).2.tr) : Ky v (toldW p v place b S).2.tr := by
  unfold toldW
  cases (v.E (v.at place)).find? (fals (putS S.tr (v.at place) b)) with
  | some c => exact hk.put hp
  | none => exact ih _ (hk.put hp)
theorem part_ky : ∀ (d place : Nat) (S : Sv), place + d = v.giv.length → Ky v S.tr → Ky v (partW v d place S).2.tr
  | 0, _, _, _, h => h
  | d + 1, place, S, hd, h => by
    have hp : place < v.giv.length := by omega
    have ih := fun S => part_ky d (place + 1) S (by omega)
    rw [partW]
    have L1 := told_ky (b := false) (S := { S with tried := S.tried + 1 }) hp h ih
    generalize toldW (partW v d (place + 1)) v place false { S with tried := S.tried + 1 } = r1 at L1
    unfold lowW
    cases r1.1 with
    | none => exact L1
    | some low =>
      dsimp only
      split
      · exact L1
      · have L2 := told_ky (b := true) (S := r1.2) hp L1 ih
        generalize toldW (partW v d (place + 1)) v place true r1.2 = r2 at L2
        unfold highW
        cases r2.1 with
        | none => exact L2
        | some high =>
          dsimp only
          split
          · exact L2
          · exact L2
end
section
variable {v : Slv} {place : Nat} {S : Sv}
theorem told_none {b : Bool} {p : Sv → Option (List Int) × Sv} (h : (toldW p v place b S).1 = none) : (v.E (v.at place)).find? (fals (putS S.tr (v.at place) b)) = none ∧ toldW p v place b S = p { S with tr := putS S.tr (v.at place) b } := by
  unfold toldW at h ⊢
  cases hf : (v.E (v.at place)).find? (fals (putS S.tr (v.at place) b)) with
  | some c => rw [hf] at h; cases h
  | none => exact ⟨rfl, rfl⟩
/-- how a search ends with None -/
theorem part_none {d : Nat} (h : (partW v (d + 1) place S).1 = none) : ∃ b S1, partW v (d + 1) place S = toldW (partW v d (place + 1)) v place b S1 ∧ (toldW (partW v d (place + 1)) v place b S1).1 = none ∧ ((b = false ∧ S1 = { S with tried := S.tried + 1 }) ∨ (b = true ∧ S1 = (toldW (partW v d (place + 1)) v place false { S with tried := S.tried + 1 }).2 ∧ ∃ low, (toldW (partW v d (place + 1)) v place false { S with tried := S.tried + 1 }).1 = some low ∧ v.at place ∈ low)) := by
  rw [partW] at h ⊢
  generalize hr1 : toldW (partW v d (place + 1)) v place false { S with tried := S.tried + 1 } = r1 at *
  unfold lowW at h ⊢
  obtain ⟨o1, S1⟩ := r1
  cases o1 with
  | none => exact ⟨false, _, by rw [hr1], by rw [hr1], .inl ⟨rfl, rfl⟩⟩
  | some low =>
    dsimp only at h ⊢
    by_cases m1 : v.at place ∉ low
    · rw [if_pos m1] at h; cases h
    · rw [if_neg m1] at h ⊢
      generalize hr2 : toldW (partW v d (place + 1)) v place true S1 = r2 at *
      obtain ⟨o2, S2⟩ := r2
      unfold highW at h ⊢
      cases o2 with
      | none => exact ⟨true, S1, by rw [hr2], by rw [hr2], .inr ⟨rfl, rfl, low, rfl, Classical.not_not.mp m1⟩⟩
      | some high =>
        dsimp only at h
        split at h <;> cases h
theorem part_kn (V : v.Ok) : ∀ (d place : Nat) (S : Sv), place + d = v.giv.length → Kn v place S.tr → (partW v d place S).1 = none → Kn v v.giv.length (partW v d place S).2.tr
  | 0, place, S, hd, hk, _ => by rw [← hd]; exact hk
  | d + 1, place, S, hd, hk, h => by
    have hp : place < v.giv.length := by omega
    obtain ⟨b, S1, e1, h1, h2⟩ := part_none h
    obtain ⟨_, e2⟩ := told_none h1
    have hk1 : Kn v place S1.tr := by
      rcases h2 with ⟨_, rfl⟩ | ⟨_, rfl, _⟩
      · exact hk
      · exact hk.same (told_left (b := false) (S := { S with tried := S.tried + 1 }) V hp hk (Nat.pow_pos (by decide : 0 < 2) (n := d + 1)) (fun S hk => part_left V d (place + 1) S (by omega) hk)).sm
    rw [e2] at h1
    rw [e1, e2]
    exact part_kn V d (place + 1) _ (by omega) (hk1.put V hp) h1
end
end Law
end

section
set_option Elab.async false
set_option linter.all false
set_option maxRecDepth 100000
set_option maxHeartbeats 4000000
set_option autoImplicit false
set_option exponentiation.threshold 300
namespace Law
open PySem PySem.Spec PyProof.Rows L2 Py

local macro_rules | `(tactic| wtm_at "op") => `(tactic| first
  | with_reducible exact o_I0 | with_reducible exact o_add | with_reducible exact o_eqI | with_reducible exact o_neI
  | ((with_reducible apply o_mul); first | assumption | wtm_at "si")
  | ((with_reducible apply o_I); first | assumption | wtm_at "si")
  | ((with_reducible apply o_ixT); rfl) | ((with_reducible apply o_ixL); rfl)
  | ((with_reducible apply o_eqD) <;> first | rfl | decide | assumption) | ((with_reducible apply o_neD) <;> first | rfl | decide | assumption)
  | with_reducible assumption)
local macro_rules | `(tactic| wtm_at "si") => `(tactic| first | decide | exact ⟨by decide, by decide +kernel⟩ | omega)
local macro_rules | `(tactic| wtm_at "ev") => `(tactic| first
  | ((with_reducible apply e_var); rfl) | with_reducible exact e_c | with_reducible exact a_nil
  | ((with_reducible apply a_cons) <;> wtm_at "ev")
  | ((with_reducible apply e_bin) <;> first | wtm_at "ev" | wtm_at "op")
  | ((with_reducible apply e_ixO) <;> first | rfl | wtm_at "ev")
  | ((with_reducible apply e_U) <;> wtm_at "ev")
  | ((with_reducible apply t_test) <;> wtm_at "ev")
  | ((with_reducible apply t_B) <;> wtm_at "ev")
  | ((with_reducible apply t_not) <;> wtm_at "ev")
  | ((with_reducible apply e_tup) <;> first | wtm_at "ev" | exact Nat.le_of_ble_eq_true rfl)
  | ((with_reducible apply e_lst) <;> first | wtm_at "ev" | exact Nat.le_of_ble_eq_true rfl)
  | ((with_reducible apply e_gcd) <;> wtm_at "ev")
  | ((with_reducible apply e_abs) <;> wtm_at "ev")
  | ((with_reducible apply e_max2) <;> wtm_at "ev")
  | ((with_reducible apply e_int) <;> wtm_at "ev")
  | ((with_reducible apply e_intB) <;> wtm_at "ev")
  | ((with_reducible apply e_bits) <;> wtm_at "ev")
  | ((with_reducible apply e_not) <;> wtm_at "ev")
  | with_reducible assumption)

section
variable {P : Program} {w : World} {K : Frg} {T : List (Addr × Str)} {mg : Str → Option Value} {base : Heap}

def bodyC : Stmt → List Stmt
  | .ClassDef _ _ _ b .. => b
  | _ => []
abbrev s_Solver_init : Stmt := (bodyC (top 9)).getD 0 (.Pass ⟨0, 0, 0, 0⟩)
theorem sc_Solver_init : FnScope ["self", "clauses", "found", "clause", "number", "name"] ["self", "clauses"] (defScope s_Solver_init) := ⟨rfl, rfl, rfl, by decide +kernel, rfl, by decide +kernel, by decide +kernel⟩
abbrev s_Solver_solve : Stmt := (bodyC (top 9)).getD 1 (.Pass ⟨0, 0, 0, 0⟩)
theorem sc_Solver_solve : FnScope ["self", "name"] ["self"] (defScope s_Solver_solve) := ⟨rfl, rfl, rfl, by decide +kernel, rfl, by decide +kernel, by decide +kernel⟩
abbrev s_Solver_parted : Stmt := (bodyC (top 9)).getD 2 (.Pass ⟨0, 0, 0, 0⟩)
theorem sc_Solver_parted : FnScope ["self", "place", "name", "low", "high", "found"] ["self", "place"] (defScope s_Solver_parted) := ⟨rfl, rfl, rfl, by decide +kernel, rfl, by decide +kernel, by decide +kernel⟩
abbrev s_Solver_told : Stmt := (bodyC (top 9)).getD 3 (.Pass ⟨0, 0, 0, 0⟩)
theorem sc_Solver_told : FnScope ["self", "place", "truth", "clause", "number"] ["self", "place", "truth"] (defScope s_Solver_told) := ⟨rfl, rfl, rfl, by decide +kernel, rfl, by decide +kernel, by decide +kernel⟩
/-! ### the object in the store -/
def FN : List Str := ["clauses", "given", "ending", "truths", "steps", "tried"]
def trK (tr : List (Int × Bool)) : KS := tr.map fun p => (Sum.inl p.1, SD.d (db p.2))
def endK (v : Slv) : KD := v.giv.map fun n => ((Sum.inl n : Key), Dt.lst ((v.E n).map clD))
def objS (K : Frg) (v : Slv) (t s tried : Nat) : OD := .obj (SV K) FN [.d (.lst (v.cls.map clD)), .d (.lst (v.giv.map di)), .d (dD (endK v)), .own t, .own s, .d (di (tried : Int))]
structure SA (K : Frg) (st : List OD) (n t s : Nat) (v : Slv) (S : Sv) : Prop where
  o : st[n]? = some (objS K v t s S.tried)
  ht : st[t]? = some (oS (trK S.tr))
  hs : st[s]? = some (.lst (S.steps.map stD))
  nt : n ≠ t
  ns : n ≠ s
  ts : t ≠ s
def setSv (K : Frg) (st : List OD) (n t s : Nat) (v : Slv) (S : Sv) : List OD := ((st.set t (oS (trK S.tr))).set s (.lst (S.steps.map stD))).set n (objS K v t s S.tried)
section
variable {st : List OD} {n t s : Nat} {v : Slv} {S S1 : Sv}
theorem set_same {α : Type} {l : List α} {n : Nat} {x : α} (h : l[n]? = some x) : l.set n x = l := by
  apply List.ext_getElem?
  intro i
  rw [List.getElem?_set]
  split
  · rename_i e
    subst e
    rw [if_pos (List.getElem?_eq_some_iff.mp h).1, h]
  · rfl
theorem SA.same (h : SA K st n t s v S) : setSv K st n t s v S = st := by
  unfold setSv
  rw [set_same h.ht, set_same h.hs, set_same h.o]
theorem SA.set (h : SA K st n t s v S) : SA K (setSv K st n t s v S1) n t s v S1 := by
  have ln := (List.getElem?_eq_some_iff.mp h.o).1
  have lt := (List.getElem?_eq_some_iff.mp h.ht).1
  have ls := (List.getElem?_eq_some_iff.mp h.hs).1
  refine ⟨?_, ?_, ?_, h.nt, h.ns, h.ts⟩ <;> unfold setSv
  · rw [List.getElem?_set_self (by simp; exact ln)]
  · rw [List.getElem?_set_ne h.nt, List.getElem?_set_ne h.ts.symm, List.getElem?_set_self lt]
  · rw [List.getElem?_set_ne h.ns, List.getElem?_set_self (by simp; exact ls)]
theorem set_swap {α : Type} {l : List α} {a b : Nat} {x y : α} (h : a ≠ b) : (l.set a x).set b y = (l.set b y).set a x := List.set_comm _ _ h
theorem SA.set2 (h : SA K st n t s v S) {S2 : Sv} : setSv K (setSv K st n t s v S1) n t s v S2 = setSv K st n t s v S2 := by
  unfold setSv
  rw [set_swap (l := ((st.set t (oS (trK S1.tr))).set s (.lst (S1.steps.map stD)))) h.nt, set_swap (l := (st.set t (oS (trK S1.tr)))) h.ts.symm, List.set_set, set_swap h.ns, List.set_set, List.set_set]
theorem SA.tru (h : SA K st n t s v S) {tr : List (Int × Bool)} : st.set t (oS (trK tr)) = setSv K st n t s v { S with tr := tr } := by
  have e1 : (st.set t (oS (trK tr))).set s (.lst (S.steps.map stD)) = st.set t (oS (trK tr)) := set_same (by rw [List.getElem?_set_ne h.ts]; exact h.hs)
  have e2 : (st.set t (oS (trK tr))).set n (objS K v t s S.tried) = st.set t (oS (trK tr)) := set_same (by rw [List.getElem?_set_ne h.nt.symm]; exact h.o)
  show _ = ((st.set t (oS (trK tr))).set s (.lst (S.steps.map stD))).set n (objS K v t s S.tried)
  rw [e1, e2]
theorem SA.sp (h : SA K st n t s v S) {l : List Stp} : st.set s (.lst (l.map stD)) = setSv K st n t s v { S with steps := l } := by
  have e2 : (st.set s (.lst (l.map stD))).set n (objS K v t s S.tried) = st.set s (.lst (l.map stD)) := set_same (by rw [List.getElem?_set_ne h.ns.symm]; exact h.o)
  show _ = ((st.set t (oS (trK S.tr))).set s (.lst (l.map stD))).set n (objS K v t s S.tried)
  rw [set_same h.ht, e2]
theorem SA.td (h : SA K st n t s v S) {m : Nat} : st.set n (objS K v t s m) = setSv K st n t s v { S with tried := m } := by
  show _ = ((st.set t (oS (trK S.tr))).set s (.lst (S.steps.map stD))).set n (objS K v t s m)
  rw [set_same h.ht, set_same h.hs]
theorem len_setSv : (setSv K st n t s v S).length = st.length := by unfold setSv; rw [List.length_set, List.length_set, List.length_set]
/-- all own places named in the store are in it -/
def Clo (st : List OD) : Prop := ∀ o ∈ st, ∀ x ∈ odS o, ∀ j, x = SD.own j → j < st.length
theorem trK_own {tr : List (Int × Bool)} {x : SD} (h : x ∈ odS (oS (trK tr))) : ∃ d, x = .d d := by
  have h : x ∈ (trK tr).map (·.2) := h
  unfold trK at h
  rw [List.map_map] at h
  obtain ⟨p, _, rfl⟩ := List.mem_map.mp h
  exact ⟨_, rfl⟩
theorem SA.clo (h : SA K st n t s v S) (hc : Clo st) : Clo (setSv K st n t s v S1) := by
  have lt := (List.getElem?_eq_some_iff.mp h.ht).1
  have ls := (List.getElem?_eq_some_iff.mp h.hs).1
  intro o ho x hx j hj
  rw [len_setSv]
  unfold setSv at ho
  rcases List.mem_or_eq_of_mem_set ho with ho | rfl
  · rcases List.mem_or_eq_of_mem_set ho with ho | rfl
    · rcases List.mem_or_eq_of_mem_set ho with ho | rfl
      · exact hc o ho x hx j hj
      · obtain ⟨d, rfl⟩ := trK_own hx; cases hj
    · cases hx
  · subst hj
    have hx : SD.own j ∈ [SD.d (.lst (v.cls.map clD)), .d (.lst (v.giv.map di)), .d (dD (endK v)), .own t, .own s, .d (di (S1.tried : Int))] := hx
    simp only [List.mem_cons, SD.own.injEq, List.not_mem_nil, or_false, reduceCtorEq, false_or] at hx
    rcases hx with rfl | rfl
    · exact lt
    · exact ls
theorem SA.cut (h : SA K st n t s v S) (hc : Clo st) : Cut st (setSv K st n t s v S1) (setSv K st n t s v S1) := by
  refine ⟨⟨[], by rw [List.append_nil]⟩, by rw [len_setSv]; exact Nat.le_refl _, fun o ho x hx j hj => h.clo hc o ho x hx j hj, fun k hk e => ?_⟩
  unfold setSv at e
  rw [List.getElem?_set] at e
  split at e
  · split at e <;> cases e
  · rw [List.getElem?_set] at e
    split at e
    · split at e <;> cases e
    · rw [List.getElem?_set] at e
      split at e
      · split at e <;> cases e
      · exact e
theorem trK_put (tr : List (Int × Bool)) (m : Int) (b : Bool) : putS (trK tr) (Sum.inl m) (.d (db b)) = trK (putS tr m b) := by
  unfold putS trK
  rw [List.any_map, List.map_map]
  have e : (tr.any ((fun kv => decide (kv.1 = (Sum.inl m : Key))) ∘ fun p : Int × Bool => ((Sum.inl p.1 : Key), SD.d (db p.2)))) = tr.any fun kv => decide (kv.1 = m) := by
    congr 1
    funext p
    exact decide_eq_decide.mpr (by simp)
  rw [e]
  split
  · rw [List.map_map]
    refine List.map_congr_left fun p _ => ?_
    by_cases h : p.1 = m
    · simp [h]
    · simp [h]
  · rw [List.map_append]; rfl
theorem trK_get (tr : List (Int × Bool)) (m : Int) : getS (trK tr) (Sum.inl m) = (getB tr m).map fun b => SD.d (db b) := by
  unfold getS getB trK
  rw [List.find?_map, Option.map_map, Option.map_map]
  have e : ((fun q : Key × SD => decide (q.1 = Sum.inl m)) ∘ fun p : Int × Bool => ((Sum.inl p.1 : Key), SD.d (db p.2))) = fun p => decide (p.1 = m) := by
    funext p
    exact decide_eq_decide.mpr (by simp)
  rw [e]
  rfl
end

/-! reading the object's fields -/
section
variable {C : Ct} {A : AS} {ta : TE} {n t s k : Nat} {v : Slv} (X : Txt C.K mg)
include X
theorem f_clauses (h : EvG C ta A (.own n) A) (h2 : A.st[n]? = some (objS C.K v t s k)) : EvS C (tFld C.K ta "clauses") A (.lst (v.cls.map clD)) A := e_fldG h h2 X.cl X.na_clauses rfl
theorem f_given (h : EvG C ta A (.own n) A) (h2 : A.st[n]? = some (objS C.K v t s k)) : EvS C (tFld C.K ta "given") A (.lst (v.giv.map di)) A := e_fldG h h2 X.cl X.na_given rfl
theorem f_ending (h : EvG C ta A (.own n) A) (h2 : A.st[n]? = some (objS C.K v t s k)) : EvS C (tFld C.K ta "ending") A (dD (endK v)) A := e_fldG h h2 X.cl X.na_ending rfl
theorem f_truths (h : EvG C ta A (.own n) A) (h2 : A.st[n]? = some (objS C.K v t s k)) : EvG C (tFld C.K ta "truths") A (.own t) A := g_fld h h2 X.cl X.na_truths rfl
theorem f_steps (h : EvG C ta A (.own n) A) (h2 : A.st[n]? = some (objS C.K v t s k)) : EvG C (tFld C.K ta "steps") A (.own s) A := g_fld h h2 X.cl X.na_steps rfl
theorem f_tried (h : EvG C ta A (.own n) A) (h2 : A.st[n]? = some (objS C.K v t s k)) : EvS C (tFld C.K ta "tried") A (di (k : Int)) A := e_fldG h h2 X.cl X.na_tried rfl
end
theorem giv_at {v : Slv} {i : Nat} (h : i < v.giv.length) : atI (v.giv.map di) (i : Int) = some (di (v.at i)) := by
  have e := at_eq h
  unfold atI ixN
  rw [if_pos (by omega), if_pos (by rw [List.length_map]; omega)]
  show (v.giv.map di)[((i : Int)).toNat]? = _
  rw [Int.toNat_natCast, List.getElem?_map, e]; rfl
theorem end_get {v : Slv} {i : Nat} (h : i < v.giv.length) : getD (endK v) (Sum.inl (v.at i)) = some (.lst ((v.E (v.at i)).map clD)) := by
  have : ∀ l : List Int, v.at i ∈ l → getD (l.map fun n => ((Sum.inl n : Key), Dt.lst ((v.E n).map clD))) (Sum.inl (v.at i)) = some (.lst ((v.E (v.at i)).map clD)) := by
    intro l
    induction l with
    | nil => intro h; cases h
    | cons a l ih =>
      intro hm
      unfold getD
      rw [List.map_cons, List.find?_cons]
      by_cases e : a = v.at i
      · rw [e]; simp
      · have e' : decide ((Sum.inl a : Key) = Sum.inl (v.at i)) = false := decide_eq_false fun z => e (Sum.inl.inj z)
        dsimp only
        rw [e']
        rcases List.mem_cons.mp hm with z | z
        · exact absurd z.symm e
        · exact ih z
  exact this v.giv (List.mem_of_getElem? (at_eq h))
/-- told, parted: from place on, d names ahead -/
def gTold (K : Frg) (d : Nat) : List OD → List SD → RS → Prop := fun st ss r => ∃ (n t s place : Nat) (b : Bool) (v : Slv) (S : Sv), ss = [.own n, .d (di (place : Int)), .d (db b)] ∧ SA K st n t s v S ∧ Clo st ∧ v.Ok ∧ place + 1 + d = v.giv.length ∧ Kn v place S.tr ∧ Ky v S.tr ∧ S.tried + 2 ^ (d + 1) ≤ 20001 ∧ S.steps.length + 2 ^ (d + 1) ≤ 50000 ∧
  r = .ok (.d (optD (toldW (partW v d (place + 1)) v place b S).1)) (setSv K st n t s v (toldW (partW v d (place + 1)) v place b S).2)
def gPart (K : Frg) (d : Nat) : List OD → List SD → RS → Prop := fun st ss r => ∃ (n t s place : Nat) (v : Slv) (S : Sv), ss = [.own n, .d (di (place : Int))] ∧ SA K st n t s v S ∧ Clo st ∧ v.Ok ∧ place + d = v.giv.length ∧ Kn v place S.tr ∧ Ky v S.tr ∧ S.tried + 2 ^ (d + 1) ≤ 20001 ∧ S.steps.length + 2 ^ (d + 1) ≤ 50000 ∧
  r = .ok (.d (optD (partW v d place S).1)) (setSv K st n t s v (partW v d place S).2)
/-- up to so many names ahead -/
def gToldL (K : Frg) (D : Nat) : List OD → List SD → RS → Prop := fun st ss r => ∃ d, d ≤ D ∧ gTold K d st ss r
def gPartL (K : Frg) (D : Nat) : List OD → List SD → RS → Prop := fun st ss r => ∃ d, d ≤ D ∧ gPart K d st ss r

theorem len_giv {v : Slv} (V : v.Ok) : v.giv.length ≤ 60 := by
  have nd : v.giv.Nodup := V.gs.imp fun h => Int.ne_of_lt h
  have := len_sub (m := (List.range 60).map fun (i : Nat) => (i : Int) + 1) nd fun x hx => by
    have := V.gp x hx
    exact List.mem_map.mpr ⟨(x - 1).toNat, List.mem_range.mpr (by omega), by omega⟩
  rw [List.length_map, List.length_range] at this
  exact this

theorem ok_Solver_told {D l : Nat} (X : Txt K mg) (F : ∃ fd, FunD K "told" "Solver.told" (defArgs s_Solver_told) (defBody s_Solver_told) (defScope s_Solver_told) [] [] (He.ma K (SV K) "told") fd) (G_parted : Gm P w K mg base (SV K) "parted" l (spS K T (gPartL K D))) : Gm P w K mg base (SV K) "told" (l + 1) (spS K T (gToldL K D)) := by
  have Tx := X
  refine mkMS F X.me_told X.cl sc_Solver_told (fun _ _ _ _ _ _ us hl => match us, hl with | [_, _, _], _ => rfl) (fun st ss r h => ?len) (fun cdv A outer s H E hr => ?body)
  case len => (obtain ⟨_, _, _, _, _, _, _, _, _, rfl, _⟩ := h; rfl)
  case body =>
    have sc := sc_Solver_told
    refine ⟨_, (pss_cons (ps_dput (Nat.lt_of_le_of_lt (Nat.add_le_add_left (by decide : 1 ≤ 64) _) hr.units) (pe_fld (pv 0) (by rfl)) (pe_ix ix_seq (pe_fld (pv 0) (by rfl)) (pv 1) (fun _ _ => rfl)) (pv 2) (by rfl))
  (pss_cons (ps_for (passesE) rfl (pi_list (pe_dget (Nat.lt_of_le_of_lt (Nat.add_le_add_left (by decide : 1 ≤ 64) _) hr.units) (pe_fld (pv 0) (by rfl)) (pe_ix ix_seq (pe_fld (pv 0) (by rfl)) (pv 1) (fun _ _ => rfl)) (fun _ _ => rfl))) (pg_name (i := 3) sc.nd rfl (Or.inl rfl)) (pss_one (ps_if (pt_val (pe_callB (cr_all rfl) (by rfl) Tx.n_all (by decide +kernel) (pa_cons (pe_lc (own := [("number", 4)]) rfl sc.nd (pi_tup (pv 3)) (blkOk_by (own := [("number", 4)]) (N := ["self", "place", "truth", "clause", "number"]) (sc := defScope s_Solver_told) (by decide +kernel)) (fun _ _ _ _ _ => (pg_name (i := 4) sc.nd rfl (Or.inl rfl))) (fun _ _ _ _ _ => pts_nil) (fun _ _ _ _ _ => (pe_cmpR (op_neAK (K := K) rfl hr.units) (pe_dget (Nat.lt_of_le_of_lt (Nat.add_le_add_left (by decide : 1 ≤ 64) _) hr.units) (pe_fldK (K := K) rfl (pv 0) (by rfl)) (pe_callB call_abs (by rfl) Tx.n_abs (by decide +kernel) (pa_cons (pv 4) pa_nil)) (fun _ _ => rfl)) (pe_cmpR op_gt (pv 4) pe_int (nomark _)) (nomark _)))) pa_nil))) (pss_one (ps_ret (pv 3))) pss_nil)))
  (pss_one (ps_ret (G_parted.use fun _ _ _ F hb M => pe_meth (pv 0) G_parted.cl M F (hr.mono (by omega)) hb .nil psE (pa_cons (pe_op op_addA (pv 1) pe_int) pa_nil)))))), fun H0 O st ss r hg => ?_⟩
    clear sc hr
    try dsimp only [cxOf]
    obtain ⟨d, hdD, n, t, s, place, b, v, S, rfl, h, hc, V, hd, hk, ht, hq, hs, rfl⟩ := hg
    have hp : place < v.giv.length := by omega
    have hk1 := hk.put V hp (b := b)
    have lg := len_giv V
    refine r_seq (r_dputG (k0 := Sum.inl (v.at place)) (s := .d (db b)) (kvs := trK S.tr) (g_d (e_var rfl)) (f_truths X (g_own rfl) h.o) (e_bin (f_given X (g_own rfl) h.o) (e_var rfl) (o_ixL (giv_at hp))) h.ht (by unfold trK; rw [List.length_map]; have := ht.len; omega) ?_)
    rw [trK_put]
    show RunS _ _ _ ⟨[SD.own n, SD.d (di (place : Int)), SD.d (db b), SD.un, SD.un], st.set t (oS (trK (putS S.tr (v.at place) b)))⟩ _
    rw [h.tru]
    have h1 : SA K (setSv K st n t s v { S with tr := putS S.tr (v.at place) b }) n t s v { S with tr := putS S.tr (v.at place) b } := h.set
    have c1 : Clo (setSv K st n t s v { S with tr := putS S.tr (v.at place) b }) := h.clo hc
    have cut := h.cut (S1 := { S with tr := putS S.tr (v.at place) b }) hc
    have e0 : toldW (partW v d (place + 1)) v place b S = (match (v.E (v.at place)).find? (fals (putS S.tr (v.at place) b)) with
      | some c => (some c, { S with tr := putS S.tr (v.at place) b })
      | none => partW v d (place + 1) { S with tr := putS S.tr (v.at place) b }) := rfl
    generalize hS1 : ({ S with tr := putS S.tr (v.at place) b } : Sv) = S1 at *
    have etr : putS S.tr (v.at place) b = S1.tr := by rw [← hS1]
    rw [etr] at e0 hk1
    generalize hst1 : setSv K st n t s v S1 = st1 at *
    refine r_seq (r_forL (xs := (v.E (v.at place)).map clD) (e_dgetD (k0 := Sum.inl (v.at place)) (f_ending X (g_own rfl) h1.o) (e_bin (f_given X (g_own rfl) h1.o) (e_var rfl) (o_ixL (giv_at hp))) (end_get hp)) (fun i A => (∀ c ∈ (v.E (v.at place)).take i, fals S1.tr c = false) ∧ ∃ x3, A = ⟨[.own n, .d (di (place : Int)), .d (db b), x3, .un], st1⟩) ⟨fun c hc => (by rw [List.take_zero] at hc; cases hc), _, rfl⟩ ?_ ?_)
    · rintro i x A hx ⟨hn, x3, rfl⟩
      rw [List.getElem?_map] at hx
      obtain ⟨c, hcc, rfl⟩ := Option.map_eq_some_iff.mp hx
      have hcm := List.mem_of_getElem? hcc
      have hcl := V.cl c (E_mem hcm).1
      have e1 : (v.E (v.at place)).take (i + 1) = (v.E (v.at place)).take i ++ [c] := by rw [List.take_add_one, hcc]; rfl
      refine ⟨⟨[.own n, .d (di (place : Int)), .d (db b), .d (clD c), .un], st1⟩, tg_name, ?_⟩
      refine r_ifs (b := fals S1.tr c) (t_is (t_test (e_all (bs := c.map fun x => (getB S1.tr (x.natAbs : Int)).getD false != decide (x > 0)) (a_cons (e_is (e_ofN (e_mapT (l := c) (D := di) (f := fun x => db ((getB S1.tr (x.natAbs : Int)).getD false != decide (x > 0))) (e_unE (e_var rfl)) (fun x hx O' => ?t1) (by have := hcl.len; omega))) (by rw [List.map_map]; rfl)) a_nil))) (by unfold fals; rw [List.all_map]; rfl)) (fun hb => r_ret (e_var rfl) ?_) fun hb => r_next ⟨fun c' hc' => ?_, _, rfl⟩
      case t1 =>
        obtain ⟨j, j1, j2⟩ := E_names V hp hcm hx
        obtain ⟨bb, hbb⟩ := hk1 j _ j1 j2
        rw [hbb]
        refine mf_yes (tgS_name (by simp)) (e_is (e_bin (e_g (d := db bb) (g_dget (k0 := Sum.inl (x.natAbs : Int)) (f_truths X (C := ⟨K, T, H0, O'⟩) (g_own rfl) h1.o) (e_absI (e_var rfl)) (.inl h1.ht) (by rw [trK_get, hbb]; rfl))) (e_bin (e_var rfl) e_c o_I0) o_neB) ?_) rfl
        show db (!decide (bb = decide (x > 0))) = db (bb != decide (x > 0))
        cases bb <;> cases decide (x > 0) <;> rfl
      · have ef : (v.E (v.at place)).find? (fals S1.tr) = some c := by
          rw [List.find?_eq_some_iff_getElem]
          obtain ⟨hl, hge⟩ := List.getElem?_eq_some_iff.mp hcc
          refine ⟨hb, i, hl, hge, fun j hj => ?_⟩
          have : (v.E (v.at place))[j] ∈ (v.E (v.at place)).take i := List.mem_take_iff_getElem.mpr ⟨j, by omega, rfl⟩
          rw [hn _ this]; rfl
        rw [ef] at e0
        rw [e0]
        exact ⟨_, rfl, by rw [hst1]; exact cut⟩
      · rw [e1] at hc'
        rcases List.mem_append.mp hc' with z | z
        · exact hn c' z
        · rw [List.mem_singleton.mp z]; exact hb
    · rintro A ⟨hn, x3, rfl⟩
      have ef : (v.E (v.at place)).find? (fals S1.tr) = none := by
        rw [List.length_map, List.take_length] at hn
        exact List.find?_eq_none.mpr fun c hc => by rw [hn c hc]; decide
      rw [ef] at e0
      rw [e0]
      have ltr : Ky v S1.tr := by
        rw [← etr]
        exact ht.put hp
      refine r_ret (e_g (d := optD (partW v d (place + 1) S1).1) (g_methS (s := .d (optD (partW v d (place + 1) S1).1)) (st' := setSv K st1 n t s v (partW v d (place + 1) S1).2) (g_own rfl) h1.o (by decide) (p_g (g_d (e_bin (e_var rfl) e_c o_add)) p_nil) ⟨d, hdD, n, t, s, place + 1, v, S1, rfl, h1, c1, V, by omega, hk1, ltr, by rw [← hS1]; exact hq, by rw [← hS1]; exact hs, rfl⟩)) ?_
      refine ⟨setSv K st n t s v (partW v d (place + 1) S1).2, rfl, ?_⟩
      rw [← hst1, h.set2]
      exact h.cut hc

theorem ok_Solver_parted {D l : Nat} (hl2 : 2 ≤ l) (X : Txt K mg) (F : ∃ fd, FunD K "parted" "Solver.parted" (defArgs s_Solver_parted) (defBody s_Solver_parted) (defScope s_Solver_parted) [] [] (He.ma K (SV K) "parted") fd) (G_told : Gm P w K mg base (SV K) "told" l (spS K T (gToldL K D))) (G_joined_clauses : Gd P w K mg base "joined_clauses" ["one", "other", "name"] 2 (spD K T (sp_join K))) : Gm P w K mg base (SV K) "parted" (l + 1) (spS K T (gPartL K (D + 1))) := by
  have Tx := X
  refine mkMS F X.me_parted X.cl sc_Solver_parted (fun _ _ _ _ _ _ us hl => match us, hl with | [_, _], _ => rfl) (fun st ss r h => ?len) (fun cdv A outer s H E hr => ?body)
  case len => (obtain ⟨_, _, _, _, _, _, _, _, rfl, _⟩ := h; rfl)
  case body =>
    have sc := sc_Solver_parted
    refine ⟨_, (pss_cons (ps_if (pt_cmpR (op_eqA hr.units) (pv 1) (pe_callB call_len (by rfl) Tx.n_len (by decide +kernel) (pa_cons (pe_fld (pv 0) (by rfl)) pa_nil)) (nomark _)) (pss_one (ps_ret pe_non)) pss_nil)
  (pss_cons (ps_fld (pv 0) (pe_op op_addA (pe_fld (pv 0) (by rfl)) pe_int) (by rfl))
  (pss_cons (ps_if (pt_cmpR op_gt (pe_fld (pv 0) (by rfl)) (peC Tx.c_MOST_PARTINGS) (nomark _)) (pss_one (ps_rz rfl takesE PySem.F.excBase_ValueError Tx.xSolveError.1 Tx.gSolveError Tx.xSolveError.2.1 (raises_own Tx.xSolveError.2.2.1 Tx.xSolveError.2.2.2) rfl)) pss_nil)
  (pss_cons (ps_set (i := 2) sc.nd rfl (Or.inl rfl) (pe_ix ix_seq (pe_fld (pv 0) (by rfl)) (pv 1) (fun _ _ => rfl)))
  (pss_cons (ps_set (i := 3) sc.nd rfl (Or.inl rfl) (G_told.use fun _ _ _ F hb M => pe_meth (pv 0) G_told.cl M F (hr.mono (by omega)) hb .nil psE (pa_cons (pv 1) (pa_cons pe_bl pa_nil))))
  (pss_cons (ps_if (PW.pt (pw_or (pt_cmpR op_isN (pv 3) pe_non (nomark _)) (pw_or1 (pt_cmpR op_notIn_seq (pv 2) (pv 3) rfl)))) (pss_one (ps_ret (pv 3))) pss_nil)
  (pss_cons (ps_set (i := 4) sc.nd rfl (Or.inl rfl) (G_told.use fun _ _ _ F hb M => pe_meth (pv 0) G_told.cl M F (hr.mono (by omega)) hb .nil psE (pa_cons (pv 1) (pa_cons pe_bl pa_nil))))
  (pss_cons (ps_if (PW.pt (pw_or (pt_cmpR op_isN (pv 4) pe_non (nomark _)) (pw_or1 (pt_cmpR op_notIn_seq (pe_op op_sub pe_int (pv 2)) (pv 4) rfl)))) (pss_one (ps_ret (pv 4))) pss_nil)
  (pss_cons (ps_set (i := 5) sc.nd rfl (Or.inl rfl) (pe_callG G_joined_clauses (hr.mono (by omega)) psE (pa_cons (pv 3) (pa_cons (pv 4) (pa_cons (pv 2) pa_nil)))))
  (pss_cons (ps_expr (pe_bm PySem.F.plainAttrs_list PySem.F.slot_list_append PySem.F.type_list_append mt_append (pe_fld (pv 0) (by rfl)) (pa_cons (pe_tup (pa_cons (pv 2) (pa_cons (pv 3) (pa_cons (pv 4) (pa_cons (pv 5) pa_nil))))) pa_nil)))
  (pss_one (ps_ret (pv 5))))))))))))), fun H0 O st ss r hg => ?_⟩
    clear sc hr
    try dsimp only [cxOf]
    obtain ⟨d, hdD, n, t, s, place, v, S, rfl, h, hc, V, hd, hk, ht, hq, hs, rfl⟩ := hg
    cases d with
    | zero =>
      refine r_seq (r_ifTs (t_is (t_test (e_bin (e_var rfl) (e_lenL (f_given X (g_own rfl) h.o)) o_eqI)) (decide_eq_true (by rw [List.length_map]; omega))) (r_ret (d := optD none) e_c ⟨setSv K st n t s v S, rfl, ?_⟩))
      have := h.cut (S1 := S) hc
      rw [h.same] at this ⊢
      exact this
    | succ d =>
      have hp : place < v.giv.length := by omega
      have lg := len_giv V
      have e2 : 2 ^ (d + 1 + 1) = 2 ^ (d + 1) + 2 ^ (d + 1) := by rw [Nat.pow_succ]; omega
      have p0 : 0 < 2 ^ (d + 1) := Nat.pow_pos (by decide)
      have gp := V.gp (v.at place) (List.mem_of_getElem? (at_eq hp))
      refine r_seq (r_ifFs (t_is (t_test (e_bin (e_var rfl) (e_lenL (f_given X (g_own rfl) h.o)) o_eqI)) (decide_eq_false (by rw [List.length_map]; omega))) (r_next ?_))
      refine r_seq (r_fldG (s := .d (di ((S.tried + 1 : Nat) : Int))) (g_d (e_is (e_bin (f_tried X (g_own rfl) h.o) e_c o_add) (congrArg di (by omega)))) (g_own rfl) h.o X.cl X.na_tried (by decide) (j := 5) rfl ?_)
      show RunS _ _ _ ⟨[SD.own n, SD.d (di (place : Int)), SD.un, SD.un, SD.un, SD.un], st.set n (objS K v t s (S.tried + 1))⟩ _
      rw [h.td]
      have h0 : SA K (setSv K st n t s v { S with tried := S.tried + 1 }) n t s v { S with tried := S.tried + 1 } := h.set
      have c0 : Clo (setSv K st n t s v { S with tried := S.tried + 1 }) := h.clo hc
      have cut : ∀ S2 : Sv, Cut st (setSv K st n t s v S2) (setSv K st n t s v S2) := fun S2 => h.cut hc
      have L1 := told_left (b := false) (S := { S with tried := S.tried + 1 }) V hp hk p0 (fun S hk => part_left V d (place + 1) S (by omega) hk)
      have Y1 := told_ky (b := false) (S := { S with tried := S.tried + 1 }) hp ht (fun S hk => part_ky d (place + 1) S (by omega) hk)
      have e0 : partW v (d + 1) place S = lowW (v.at place) (toldW (partW v d (place + 1)) v place true) (toldW (partW v d (place + 1)) v place false { S with tried := S.tried + 1 }) := rfl
      generalize hS1 : ({ S with tried := S.tried + 1 } : Sv) = S0 at *
      have t0 : S0.tried = S.tried + 1 := by rw [← hS1]
      have s0 : S0.steps = S.steps := by rw [← hS1]
      have r0 : S0.tr = S.tr := by rw [← hS1]
      generalize hst0 : setSv K st n t s v S0 = st0 at *
      refine r_seq (r_ifFs (t_is (t_test (e_bin (f_tried X (g_own rfl) h0.o) e_c o_I0)) (decide_eq_false (by rw [t0]; omega))) (r_next ?_))
      refine r_seq (r_asg (e_bin (f_given X (g_own rfl) h0.o) (e_var rfl) (o_ixL (giv_at hp))) ?_)
      obtain ⟨a1, a2, a3, a4⟩ := L1
      refine r_seq (r_asg (d := optD (toldW (partW v d (place + 1)) v place false S0).1) (e_g (g_methS (st' := setSv K st0 n t s v (toldW (partW v d (place + 1)) v place false S0).2) (g_own rfl) h0.o (by decide) (p_g (g_d (e_var rfl)) (p_g (g_d e_c) p_nil)) ⟨d, by omega, n, t, s, place, false, v, S0, rfl, h0, c0, V, by omega, by rw [r0]; exact hk, by rw [r0]; exact ht, by omega, by rw [s0]; omega, rfl⟩)) ?_)
      rw [← hst0, h.set2]
      have hr1 : SA K (setSv K st n t s v (toldW (partW v d (place + 1)) v place false S0).2) n t s v (toldW (partW v d (place + 1)) v place false S0).2 := h.set
      have cr1 : Clo (setSv K st n t s v (toldW (partW v d (place + 1)) v place false S0).2) := h.clo hc
      have kr1 : Kn v place (toldW (partW v d (place + 1)) v place false S0).2.tr := (show Kn v place S0.tr by rw [r0]; exact hk).same a1
      have L2 := told_left (b := true) (S := (toldW (partW v d (place + 1)) v place false S0).2) V hp kr1 p0 (fun S hk => part_left V d (place + 1) S (by omega) hk)
      generalize toldW (partW v d (place + 1)) v place false S0 = r1 at *
      obtain ⟨o1, S1⟩ := r1
      dsimp only at a1 a2 a3 a4 Y1 hr1 cr1 kr1 L2 e0
      generalize hst1 : setSv K st n t s v S1 = st1 at *
      have PX : ∀ {A : AS} {o : Option (List Int)} {S2 : Sv}, partW v (d + 1) place S = (o, S2) → A.st = setSv K st n t s v S2 → (poS st (.ok (.d (optD (partW v (d + 1) place S).1)) (setSv K st n t s v (partW v (d + 1) place S).2))).rt (optD o) A := fun {A o S2} e1 e3 => by
        rw [e1]
        exact ⟨setSv K st n t s v S2, rfl, by rw [e3]; exact cut S2⟩
      cases o1 with
      | none =>
        refine r_seq (r_ifTs (t_orT (t_test (e_bin (e_var rfl) e_c o_isNon))) (r_ret (d := optD none) (e_var rfl) (PX e0 hst1.symm)))
      | some low =>
        have cl1 := a2 low rfl
        have e0 : partW v (d + 1) place S = if v.at place ∉ low then (some low, S1) else highW (v.at place) low (toldW (partW v d (place + 1)) v place true S1) := e0
        refine r_seq (r_ifs (b := !decide (v.at place ∈ low)) (t_orF (t_test (e_bin (e_var rfl) e_c (o_isNo rfl))) (t_test (e_bin (e_var rfl) (e_unE (e_var rfl)) o_notinT))) (fun hb => r_ret (d := optD (some low)) (e_var rfl) (PX (by rw [e0, if_pos (by simpa using hb)]) hst1.symm)) fun hb => r_next ?_)
        have m1 : v.at place ∈ low := by simpa using hb
        rw [if_neg fun z => z m1] at e0
        obtain ⟨b1, b2, b3, b4⟩ := L2
        have s1 : S1.steps.length + 1 ≤ S.steps.length + 2 ^ (d + 1) := by rw [← s0]; exact a4
        have t1 : S1.tried + 1 ≤ S.tried + 1 + 2 ^ (d + 1) := by rw [← t0]; exact a3
        refine r_seq (r_asg (d := optD (toldW (partW v d (place + 1)) v place true S1).1) (e_g (g_methS (st' := setSv K st1 n t s v (toldW (partW v d (place + 1)) v place true S1).2) (g_own rfl) hr1.o (by decide) (p_g (g_d (e_var rfl)) (p_g (g_d e_c) p_nil)) ⟨d, by omega, n, t, s, place, true, v, S1, rfl, hr1, cr1, V, by omega, kr1, Y1, by omega, by omega, rfl⟩)) ?_)
        rw [← hst1, h.set2]
        have hr2 : SA K (setSv K st n t s v (toldW (partW v d (place + 1)) v place true S1).2) n t s v (toldW (partW v d (place + 1)) v place true S1).2 := h.set
        generalize toldW (partW v d (place + 1)) v place true S1 = r2 at *
        obtain ⟨o2, S2⟩ := r2
        dsimp only at b1 b2 b3 b4 hr2
        generalize hst2 : setSv K st n t s v S2 = st2 at *
        cases o2 with
        | none =>
          refine r_seq (r_ifTs (t_orT (t_test (e_bin (e_var rfl) e_c o_isNon))) (r_ret (d := optD none) (e_var rfl) (PX e0 hst2.symm)))
        | some high =>
          have cl2 := b2 high rfl
          have e0 : partW v (d + 1) place S = if 0 - v.at place ∉ high then (some high, S2) else (some (canon (join low high (v.at place))), { S2 with steps := S2.steps ++ [⟨v.at place, low, high, canon (join low high (v.at place))⟩] }) := e0
          refine r_seq (r_ifs (b := !decide (0 - v.at place ∈ high)) (t_orF (t_test (e_bin (e_var rfl) e_c (o_isNo rfl))) (t_test (e_bin (e_bin e_c (e_var rfl) o_I0) (e_unE (e_var rfl)) o_notinT))) (fun hb => r_ret (d := optD (some high)) (e_var rfl) (PX (by rw [e0, if_pos (by simpa using hb)]) hst2.symm)) fun hb => r_next ?_)
          have m2 : 0 - v.at place ∈ high := by simpa using hb
          rw [if_neg fun z => z m2] at e0
          rw [r0] at a1 cl1
          obtain ⟨j1, j2, j3⟩ := join_ok V hp cl1 cl2 a1 m1 m2
          have jo := joinO_ok m1 m2 j1 j2
          refine r_seq (r_asg (d := clD (canon (join low high (v.at place)))) (e_call (a_cons (e_var rfl) (a_cons (e_var rfl) (a_cons (e_var rfl) a_nil))) ⟨low, high, v.at place, rfl, by have := cl1.ok.len; omega, by have := cl2.ok.len; omega, by rw [joinR_eq, jo]; rfl⟩) ?_)
          generalize hf : canon (join low high (v.at place)) = f at *
          have s2 : (S2.steps.map stD).length < 100000 := by rw [List.length_map]; omega
          refine r_seq (r_drop (e_appendG (f_steps X (g_own rfl) hr2.o) hr2.hs (e_tup (a_cons (e_var rfl) (a_cons (e_var rfl) (a_cons (e_var rfl) (a_cons (e_var rfl) a_nil)))) (Nat.le_of_ble_eq_true rfl)) hr2.hs s2) ?_)
          have eL : S2.steps.map stD ++ [stD (Stp.mk (v.at place) low high f)] = (S2.steps ++ [Stp.mk (v.at place) low high f]).map stD := by rw [List.map_append]; rfl
          refine r_ret (d := optD (some f)) (e_var rfl) (PX e0 ?_)
          show st2.set s (.lst (S2.steps.map stD ++ [stD (Stp.mk (v.at place) low high f)])) = _
          rw [eL, hr2.sp, ← hst2, h.set2]

theorem ok_Solver_parted0 {l : Nat} (hl2 : 2 ≤ l) (X : Txt K mg) (F : ∃ fd, FunD K "parted" "Solver.parted" (defArgs s_Solver_parted) (defBody s_Solver_parted) (defScope s_Solver_parted) [] [] (He.ma K (SV K) "parted") fd) (G_told : Gm P w K mg base (SV K) "told" l (spS K T (fun _ _ _ => False))) (G_joined_clauses : Gd P w K mg base "joined_clauses" ["one", "other", "name"] 2 (spD K T (sp_join K))) : Gm P w K mg base (SV K) "parted" (l + 1) (spS K T (gPartL K 0)) := by
  have Tx := X
  refine mkMS F X.me_parted X.cl sc_Solver_parted (fun _ _ _ _ _ _ us hl => match us, hl with | [_, _], _ => rfl) (fun st ss r h => ?len) (fun cdv A outer s H E hr => ?body)
  case len => (obtain ⟨_, _, _, _, _, _, _, _, rfl, _⟩ := h; rfl)
  case body =>
    have sc := sc_Solver_parted
    refine ⟨_, (pss_cons (ps_if (pt_cmpR (op_eqA hr.units) (pv 1) (pe_callB call_len (by rfl) Tx.n_len (by decide +kernel) (pa_cons (pe_fld (pv 0) (by rfl)) pa_nil)) (nomark _)) (pss_one (ps_ret pe_non)) pss_nil)
  (pss_cons (ps_fld (pv 0) (pe_op op_addA (pe_fld (pv 0) (by rfl)) pe_int) (by rfl))
  (pss_cons (ps_if (pt_cmpR op_gt (pe_fld (pv 0) (by rfl)) (peC Tx.c_MOST_PARTINGS) (nomark _)) (pss_one (ps_rz rfl takesE PySem.F.excBase_ValueError Tx.xSolveError.1 Tx.gSolveError Tx.xSolveError.2.1 (raises_own Tx.xSolveError.2.2.1 Tx.xSolveError.2.2.2) rfl)) pss_nil)
  (pss_cons (ps_set (i := 2) sc.nd rfl (Or.inl rfl) (pe_ix ix_seq (pe_fld (pv 0) (by rfl)) (pv 1) (fun _ _ => rfl)))
  (pss_cons (ps_set (i := 3) sc.nd rfl (Or.inl rfl) (G_told.use fun _ _ _ F hb M => pe_meth (pv 0) G_told.cl M F (hr.mono (by omega)) hb .nil psE (pa_cons (pv 1) (pa_cons pe_bl pa_nil))))
  (pss_cons (ps_if (PW.pt (pw_or (pt_cmpR op_isN (pv 3) pe_non (nomark _)) (pw_or1 (pt_cmpR op_notIn_seq (pv 2) (pv 3) rfl)))) (pss_one (ps_ret (pv 3))) pss_nil)
  (pss_cons (ps_set (i := 4) sc.nd rfl (Or.inl rfl) (G_told.use fun _ _ _ F hb M => pe_meth (pv 0) G_told.cl M F (hr.mono (by omega)) hb .nil psE (pa_cons (pv 1) (pa_cons pe_bl pa_nil))))
  (pss_cons (ps_if (PW.pt (pw_or (pt_cmpR op_isN (pv 4) pe_non (nomark _)) (pw_or1 (pt_cmpR op_notIn_seq (pe_op op_sub pe_int (pv 2)) (pv 4) rfl)))) (pss_one (ps_ret (pv 4))) pss_nil)
  (pss_cons (ps_set (i := 5) sc.nd rfl (Or.inl rfl) (pe_callG G_joined_clauses (hr.mono (by omega)) psE (pa_cons (pv 3) (pa_cons (pv 4) (pa_cons (pv 2) pa_nil)))))
  (pss_cons (ps_expr (pe_bm PySem.F.plainAttrs_list PySem.F.slot_list_append PySem.F.type_list_append mt_append (pe_fld (pv 0) (by rfl)) (pa_cons (pe_tup (pa_cons (pv 2) (pa_cons (pv 3) (pa_cons (pv 4) (pa_cons (pv 5) pa_nil))))) pa_nil)))
  (pss_one (ps_ret (pv 5))))))))))))), fun H0 O st ss r hg => ?_⟩
    clear sc hr
    try dsimp only [cxOf]

    obtain ⟨d, hdD, n, t, s, place, v, S, rfl, h, hc, V, hd, hk, ht, hq, hs, rfl⟩ := hg
    obtain rfl : d = 0 := by omega
    refine r_seq (r_ifTs (t_is (t_test (e_bin (e_var rfl) (e_lenL (f_given X (g_own rfl) h.o)) o_eqI)) (decide_eq_true (by rw [List.length_map]; omega))) (r_ret (d := optD none) e_c ⟨setSv K st n t s v S, rfl, ?_⟩))
    have := h.cut (S1 := S) hc
    rw [h.same] at this ⊢
    exact this

/-- what solve starts from -/
def baseS (K : Frg) (st : List OD) (n : Nat) (v : Slv) : List OD := (st ++ [oS []] ++ [OD.lst []]).set n (objS K v st.length (st ++ [oS []]).length 0)
def S00 : Sv := ⟨[], [], 0⟩
def endW (v : Slv) : Option (List Int) × Sv := partW v v.giv.length 0 S00
/-- the names that are true -/
def named (v : Slv) (tr : List (Int × Bool)) : List Int := v.giv.filter fun n => (getB tr n).getD false
def solD (v : Slv) : Dt := if [] ∈ v.cls then .tup [ds "never", .tup []] else match (endW v).1 with
  | none => .tup [ds "fits", .tup ((named v (endW v).2.tr).map di)]
  | some _ => .tup [ds "never", .tup ((endW v).2.steps.map stD)]
def solS (K : Frg) (st : List OD) (n : Nat) (v : Slv) : List OD := if [] ∈ v.cls then baseS K st n v else setSv K (baseS K st n v) n st.length (st ++ [oS []]).length v (endW v).2
def gSolve (K : Frg) (d : Nat) : List OD → List SD → RS → Prop := fun st ss r => ∃ (n t s k : Nat) (v : Slv), ss = [.own n] ∧ st[n]? = some (objS K v t s k) ∧ Clo st ∧ v.Ok ∧ v.giv.length ≤ d ∧ r = .ok (.d (solD v)) (solS K st n v)

theorem ok_Solver_solve {D l : Nat} (hD : D ≤ 9) (X : Txt K mg) (F : ∃ fd, FunD K "solve" "Solver.solve" (defArgs s_Solver_solve) (defBody s_Solver_solve) (defScope s_Solver_solve) [] [] (He.ma K (SV K) "solve") fd) (G_parted : Gm P w K mg base (SV K) "parted" l (spS K T (gPartL K D))) : Gm P w K mg base (SV K) "solve" (l + 1) (spS K T (gSolve K D)) := by
  have Tx := X
  refine mkMS F X.me_solve X.cl sc_Solver_solve (fun _ _ _ _ _ _ us hl => match us, hl with | [_], _ => rfl) (fun st ss r h => ?len) (fun cdv A outer s H E hr => ?body)
  case len => (obtain ⟨_, _, _, _, _, rfl, _⟩ := h; rfl)
  case body =>
    have sc := sc_Solver_solve
    refine ⟨_, (pss_cons (ps_asg (pe_tup (pa_cons pe_dnewK (pa_cons (pe_lst pa_nil) (pa_cons pe_int pa_nil)))) (pg_tup rfl (pgs_cons (pg_fld (pv 0)) (pgs_cons (pg_fld (pv 0)) (pgs_cons (pg_fld (pv 0)) pgs_nil)))))
  (pss_cons (ps_if (pt_cmpR (op_inD (units65 hr)) (pe_tup pa_nil) (pe_fld (pv 0) (by rfl)) rfl) (pss_one (ps_ret (pe_tup (pa_cons pe_str (pa_cons (pe_tup pa_nil) pa_nil))))) pss_nil)
  (pss_cons (ps_if (pt_cmpR op_isN (G_parted.use fun _ _ _ F hb M => pe_meth (pv 0) G_parted.cl M F (hr.mono (by omega)) hb .nil psE (pa_cons pe_int pa_nil)) pe_non (nomark _)) (pss_one (ps_ret (pe_tup (pa_cons pe_str (pa_cons (pe_callTy call_tuple_of (by rfl) Tx.n_tuple (by decide +kernel) (pa_cons (pe_lc (own := [("name", 1)]) rfl sc.nd (pi_list (pe_fld (pv 0) (by rfl))) (blkOk_by (own := [("name", 1)]) (N := ["self", "name"]) (sc := defScope s_Solver_solve) (by decide +kernel)) (fun _ _ _ _ _ => (pg_name (i := 1) sc.nd rfl (Or.inl rfl))) (fun _ _ _ _ _ => (pts_one (pt_val (pe_dget (Nat.lt_of_le_of_lt (Nat.add_le_add_left (by decide : 1 ≤ 64) _) hr.units) (pe_fldK (K := K) rfl (pv 0) (by rfl)) (pv 1) (fun _ _ => rfl))))) (fun _ _ _ _ _ => (pv 1))) pa_nil)) pa_nil))))) pss_nil)
  (pss_one (ps_ret (pe_tup (pa_cons pe_str (pa_cons (pe_callTy call_tuple_of (by rfl) Tx.n_tuple (by decide +kernel) (pa_cons (pe_fld (pv 0) (by rfl)) pa_nil)) pa_nil)))))))), fun H0 O st ss r hg => ?_⟩
    clear sc hr
    try dsimp only [cxOf]
    obtain ⟨n, t, s, k, v, rfl, ho, hc, V, hqD, rfl⟩ := hg
    obtain ⟨d, hq⟩ : ∃ d, v.giv.length = d := ⟨_, rfl⟩
    have hd : d ≤ 9 := by omega
    have ln := (List.getElem?_eq_some_iff.mp ho).1
    have l1 : (st ++ [oS []])[n]? = some (objS K v t s k) := by rw [List.getElem?_append_left ln]; exact ho
    have l2 : (st ++ [oS []] ++ [OD.lst []])[n]? = some (objS K v t s k) := by rw [List.getElem?_append_left (by rw [List.length_append]; omega)]; exact l1
    refine r_seq (r_tgTup (p_g g_dnew (p_g (g_lnew a_nil (by decide)) (p_g (g_d e_c) p_nil))) rfl (Nat.le_of_ble_eq_true rfl) (tgsG_cons (tgG_fld (g_own rfl) l2 X.cl X.na_truths (by decide) (j := 3) rfl) (tgsG_cons (tgG_fld (g_own rfl) (upG_at l2) X.cl X.na_steps (by decide) (j := 4) rfl) (tgsG_cons (tgG_fld (g_own rfl) (upG_at (upG_at l2)) X.cl X.na_tried (by decide) (j := 5) rfl) tgsG_nil))) ?_)
    have eb : (((st ++ [oS []] ++ [OD.lst []]).set n (.obj (SV K) FN ([.d (.lst (v.cls.map clD)), .d (.lst (v.giv.map di)), .d (dD (endK v)), .own t, .own s, .d (di (k : Int))].set 3 (.own st.length)))).set n (.obj (SV K) FN (([.d (.lst (v.cls.map clD)), .d (.lst (v.giv.map di)), .d (dD (endK v)), .own t, .own s, .d (di (k : Int))].set 3 (.own st.length)).set 4 (.own (st ++ [oS []]).length)))).set n (objS K v st.length (st ++ [oS []]).length 0) = baseS K st n v := by
      rw [List.set_set, List.set_set]; rfl
    show RunS _ _ _ ⟨[SD.own n, SD.un], (((st ++ [oS []] ++ [OD.lst []]).set n (.obj (SV K) FN ([.d (.lst (v.cls.map clD)), .d (.lst (v.giv.map di)), .d (dD (endK v)), .own t, .own s, .d (di (k : Int))].set 3 (.own st.length)))).set n (.obj (SV K) FN (([.d (.lst (v.cls.map clD)), .d (.lst (v.giv.map di)), .d (dD (endK v)), .own t, .own s, .d (di (k : Int))].set 3 (.own st.length)).set 4 (.own (st ++ [oS []]).length)))).set n (objS K v st.length (st ++ [oS []]).length 0)⟩ _
    rw [eb]
    have lb : (baseS K st n v).length = st.length + 2 := by unfold baseS; rw [List.length_set, List.length_append, List.length_append]; rfl
    have hb : SA K (baseS K st n v) n st.length (st ++ [oS []]).length v S00 := by
      refine ⟨List.getElem?_set_self (List.getElem?_eq_some_iff.mp l2).1, ?_, ?_, by omega, by rw [List.length_append]; omega, by rw [List.length_append, List.length_singleton]; omega⟩
      · unfold baseS
        rw [List.getElem?_set_ne (by omega), List.getElem?_append_left (by rw [List.length_append, List.length_singleton]; omega), List.getElem?_append_right (Nat.le_refl _), Nat.sub_self]; rfl
      · unfold baseS
        rw [List.getElem?_set_ne (by rw [List.length_append, List.length_singleton]; omega), List.getElem?_append_right (Nat.le_refl _), Nat.sub_self]; rfl
    have cb : Clo (baseS K st n v) := by
      intro o hm x hx j hj
      rw [lb]
      unfold baseS at hm
      rcases List.mem_or_eq_of_mem_set hm with hm | rfl
      · rcases List.mem_append.mp hm with hm | hm
        · rcases List.mem_append.mp hm with hm | hm
          · have := hc o hm x hx j hj; omega
          · rw [List.mem_singleton.mp hm] at hx; cases hx
        · rw [List.mem_singleton.mp hm] at hx; cases hx
      · subst hj
        have hx : SD.own j ∈ [SD.d (.lst (v.cls.map clD)), .d (.lst (v.giv.map di)), .d (dD (endK v)), .own st.length, .own (st ++ [oS []]).length, .d (di ((0 : Nat) : Int))] := hx
        simp only [List.mem_cons, SD.own.injEq, List.not_mem_nil, or_false, reduceCtorEq, false_or] at hx
        rcases hx with rfl | rfl
        · omega
        · rw [List.length_append, List.length_singleton]; omega
    have cut : ∀ {st' : List OD}, Cut (baseS K st n v) st' st' → Cut st st' st' := fun {st'} z => ⟨z.pre, by have := z.n0; omega, z.cl, fun i hi e => by
      have := z.go i (by omega) e
      unfold baseS at this
      rw [List.getElem?_set] at this
      split at this
      · split at this <;> cases this
      · rw [List.getElem?_append_left (by rw [List.length_append]; omega), List.getElem?_append_left hi] at this
        exact this⟩
    have lg := len_giv V
    have lc : v.cls.length ≤ 400 := V.few
    have nl : Nice 2 (.lst (v.cls.map clD)) (.list (v.cls.map fun c => .tuple (pyI c))) := .lst (niceA_map (fun c => nice_tE c) v.cls)
    have e1 : ((v.cls.map fun c => PyData.tuple (pyI c)).any fun z => PyData.eqv z (.tuple [])) = decide ([] ∈ v.cls) := by
      rw [List.any_map, Bool.eq_iff_iff, List.any_eq_true, decide_eq_true_eq]
      constructor
      · rintro ⟨c, hc, e⟩
        have e : PyData.eqv (.tuple (pyI c)) (.tuple (pyI [])) = true := e
        rw [eqv_tI, decide_eq_true_eq] at e
        rw [← e]; exact hc
      · intro h
        exact ⟨[], h, by show PyData.eqv (.tuple (pyI [])) (.tuple (pyI [])) = true; rw [eqv_tI]; rfl⟩
    have SD1 : ∀ {A : AS} {d : Dt} {st' : List OD}, solD v = d → solS K st n v = st' → A.st = st' → Cut st st' st' → (poS st (.ok (.d (solD v)) (solS K st n v))).rt d A := fun {A d st'} h1 h2 h3 h4 => by
      rw [h1, h2]
      exact ⟨st', rfl, by rw [h3]; exact h4⟩
    refine r_seq (r_ifs (b := decide ([] ∈ v.cls)) (t_is (t_test (e_bin (e_tupE a_nil (by decide)) (f_clauses X (g_own rfl) hb.o) (o_inN2 (nice_tE (n := 0) []) nl))) e1) (fun hm => ?_) fun hm => r_next ?_)
    · have hm := of_decide_eq_true hm
      refine r_ret (d := .tup [ds "never", .tup []]) (e_tup (a_cons e_c (a_cons (e_tup a_nil (by decide)) a_nil)) (by decide)) (SD1 (st' := baseS K st n v) (by unfold solD; rw [if_pos hm]) (by unfold solS; rw [if_pos hm]) rfl (cut ?_))
      have z := hb.cut (S1 := S00) cb
      rw [hb.same] at z
      exact z
    have hm := of_decide_eq_false hm
    have two9 : 2 ^ (d + 1) ≤ 1024 := Nat.le_trans (Nat.pow_le_pow_right (by decide) (by omega : d + 1 ≤ 10)) (by decide)
    have hk0 : Kn v 0 S00.tr := fun i n hi => by omega
    have yk0 : Ky v S00.tr := ⟨List.nodup_nil, fun p hp => by cases hp⟩
    have PL := part_left V d 0 S00 (by omega) hk0
    have hp : gPartL K D (baseS K st n v) [.own n, .d (di ((0 : Nat) : Int))] (.ok (.d (optD (endW v).1)) (setSv K (baseS K st n v) n st.length (st ++ [oS []]).length v (endW v).2)) := ⟨d, by omega, n, st.length, _, 0, v, S00, rfl, hb, cb, V, by omega, hk0, yk0, by show 0 + _ ≤ _; omega, by show 0 + _ ≤ _; omega, by unfold endW; rw [hq]⟩
    have es : solS K st n v = setSv K (baseS K st n v) n st.length (st ++ [oS []]).length v (endW v).2 := by unfold solS; rw [if_neg hm]
    have ed : solD v = match (endW v).1 with
      | none => .tup [ds "fits", .tup ((named v (endW v).2.tr).map di)]
      | some _ => .tup [ds "never", .tup ((endW v).2.steps.map stD)] := by unfold solD; rw [if_neg hm]
    have hend : SA K (setSv K (baseS K st n v) n st.length (st ++ [oS []]).length v (endW v).2) n st.length (st ++ [oS []]).length v (endW v).2 := hb.set
    have cend := cut (hb.cut (S1 := (endW v).2) cb)
    have call := g_methS (C := ⟨K, T, H0, O⟩) (E' := E) (A := ⟨[SD.own n, SD.un], baseS K st n v⟩) (m := "parted") (s := .d (optD (endW v).1)) (g_own (i := 0) rfl) hb.o (by decide) (p_g (g_d (e_c (x := .int 0))) p_nil) hp
    have kn := part_kn V d 0 S00 (by omega) hk0
    rw [← hq] at kn
    have kn : (endW v).1 = none → Kn v v.giv.length (endW v).2.tr := kn
    generalize endW v = ew at *
    obtain ⟨o, S⟩ := ew
    dsimp only at es ed hend cend call kn
    generalize hst : setSv K (baseS K st n v) n st.length (st ++ [oS []]).length v S = st' at *
    cases o with
    | none =>
      have kn := kn rfl
      refine r_seq (r_ifT (t_test (e_bin (e_g (d := optD none) call) e_c o_isNon)) (r_ret (d := .tup [ds "fits", .tup ((named v S.tr).map di)]) (e_tup (a_cons e_c (a_cons (e_unE (e_tupLE (e_ofN (e_mfL (l := v.giv) (D := di) (f := di) (p := fun n => (getB S.tr n).getD false) (f_given X (g_own rfl) hend.o) (fun x hx O' => ?t1) (by omega))))) a_nil)) (Nat.le_of_ble_eq_true rfl)) (SD1 ed es rfl cend)))
      case t1 =>
        obtain ⟨i, hi⟩ := List.getElem?_of_mem hx
        obtain ⟨bb, hbb⟩ := kn i x (List.getElem?_eq_some_iff.mp hi).1 hi
        rw [hbb]
        exact mf_if (tgS_name (by simp)) (t_test (e_g (d := db bb) (g_dget (k0 := Sum.inl x) (f_truths X (C := ⟨K, T, H0, O'⟩) (g_own rfl) hend.o) (e_var rfl) (.inl hend.ht) (by rw [trK_get, hbb]; rfl)))) (e_var rfl) rfl rfl
    | some c =>
      refine r_seq (r_ifF (t_test (e_bin (e_g (d := optD (some c)) call) e_c (o_isNo rfl))) (r_next ?_))
      exact r_ret (d := .tup [ds "never", .tup (S.steps.map stD)]) (e_tup (a_cons e_c (a_cons (e_unE (e_tupG (f_steps X (g_own rfl) hend.o) hend.hs)) a_nil)) (Nat.le_of_ble_eq_true rfl)) (SD1 ed es rfl cend)

end
end Law
end

section
set_option Elab.async false
set_option linter.all false
set_option maxRecDepth 100000
set_option maxHeartbeats 4000000
set_option autoImplicit false
namespace Py
open PySem PySem.Spec PyProof.Rows L2
/-! ### a dict of lists of one's own that becomes data -/
section
variable {C : Ct} {E : XK} {A : AS} {P : Po} {t : TS} {n m : Nat} {d : Dt}
theorem svA_data {K : Frg} {os : List (Option Addr)} {R : Hp} : ∀ {xs : List Dt} {vs : List V}, SvA K os R (xs.map SD.d) vs → IsA K R xs vs
  | [], vs, h => by rw [IsA]; exact h
  | x :: r, vs, ⟨v, w, h1, ⟨u, e, i⟩, h3⟩ => by
    rw [IsA]
    cases e
    exact ⟨v, w, h1, i, svA_data h3⟩
theorem fz_dct {os : List (Option Addr)} {σ : Sg} {H : Hp} {ks : List Key} {xs : List Dt} (k : Ok C os A σ H) (h2 : A.st[n]? = some (.dct ks (xs.map SD.d))) : ∃ a, os[n]? = some (some a) ∧ Is C.K (Rh C.O (os.set n none) H) (.dct ks xs) (.ref a) := by
  obtain ⟨o, s1, a, kvs, s2, s3, s4, s5⟩ := k.store h2
  subst s2
  refine ⟨a, s1, ?_⟩
  rw [Is]
  refine ⟨a, kvs.map (·.2), rfl, ?_, IsA.mono Rh_fz _ _ (svA_data s5)⟩
  rw [← s4, zip_un]
  show hd _ H a = _
  rw [hd_of fun z => ?_]
  · exact s3
  · rcases mem_hid.mp z with z | z
    · exact k.dj a z (List.mem_of_getElem? s1)
    · obtain ⟨i, hi⟩ := List.getElem?_of_mem z
      rw [List.getElem?_set] at hi
      by_cases c : n = i
      · rw [if_pos c] at hi
        split at hi <;> cases hi
      · rw [if_neg c] at hi
        exact c (k.nd n i a s1 hi)
theorem r_fzD {ks : List Key} {xs : List Dt} (h2 : A.st[n]? = some (.dct ks (xs.map SD.d))) (h : RunS C E t (A.fz n (.dct ks xs)) P) : RunS C E t A P := r_fz (fun _ _ _ k => fz_dct k h2) h
theorem fzS_ne {s : SD} (h : s ≠ .own n) : fzS n d s = s := by
  cases s with
  | un => rfl
  | d x => rfl
  | own k =>
    show (if k = n then _ else _) = _
    rw [if_neg fun e => h (by rw [e])]
theorem fzS_map {l : List SD} (h : ∀ s ∈ l, s ≠ .own n) : l.map (fzS n d) = l := by
  rw [List.map_congr_left fun s hs => fzS_ne (h s hs), List.map_id']
theorem fzO_ne {o : OD} (h : ∀ s ∈ odS o, s ≠ .own n) : fzO n d o = o := by
  cases o with
  | gone => rfl
  | lst xs => rfl
  | dct ks xs => exact congrArg _ (fzS_map h)
  | obj C ns xs => exact congrArg _ (fzS_map h)
  | lstS xs => exact congrArg _ (fzS_map h)
  | dctT ks xs => exact congrArg _ (fzS_map h)
  | lckK u acc xs => exact congrArg _ (fzS_map h)
  | lckT u acc xs => exact congrArg _ (fzS_map h)
theorem fzO_map {l : List OD} (h : ∀ o ∈ l, ∀ s ∈ odS o, s ≠ .own n) : l.map (fzO n d) = l := by
  rw [List.map_congr_left fun o ho => fzO_ne (h o ho), List.map_id']
/-- the dict's values, the first j lists data already -/
def valsF (L : Nat) (Ls : List (List Dt)) (j : Nat) : List SD := Ls.zipIdx.map fun q => if q.2 < j then SD.d (.lst q.1) else .own (L + q.2)
theorem valsF_all {L : Nat} {Ls : List (List Dt)} : valsF L Ls Ls.length = (Ls.map Dt.lst).map SD.d := by
  unfold valsF
  rw [List.map_congr_left (g := fun q => SD.d (.lst q.1)) fun q hq => by
    obtain ⟨x, i⟩ := q
    have := (List.mem_zipIdx hq).2.1
    simp only at this ⊢
    rw [if_pos (by omega)]]
  rw [show (fun q : List Dt × Nat => SD.d (.lst q.1)) = (fun x => SD.d (.lst x)) ∘ Prod.fst from rfl, ← List.map_map, List.zipIdx_map_fst, List.map_map]
  rfl
theorem valsF_fz {L : Nat} {Ls : List (List Dt)} {j : Nat} {l : List Dt} (h : Ls[j]? = some l) : (valsF L Ls j).map (fzS (L + j) (.lst l)) = valsF L Ls (j + 1) := by
  unfold valsF
  rw [List.map_map]
  refine List.map_congr_left fun q hq => ?_
  obtain ⟨x, i⟩ := q
  have hx : Ls[i]? = some x := List.mk_mem_zipIdx_iff_getElem?.mp hq
  show fzS (L + j) (.lst l) (if i < j then _ else _) = if i < j + 1 then _ else _
  by_cases h1 : i < j
  · rw [if_pos h1, if_pos (by omega)]; rfl
  · rw [if_neg h1]
    show (if L + i = L + j then _ else _) = _
    by_cases h2 : i = j
    · rw [if_pos (by omega), if_pos (by omega)]
      rw [h2, h] at hx
      rw [Option.some.inj hx]
    · rw [if_neg (by omega), if_neg (by omega)]
/-- lists of one's own at L .., named in the dict behind them -/
theorem r_fzLs {L : Nat} {sl : List SD} {pre : List OD} {ks : List Key} {Ls : List (List Dt)} (hL : pre.length = L) (hs : ∀ s ∈ sl, ∀ i, i < Ls.length → s ≠ .own (L + i)) (hp : ∀ o ∈ pre, ∀ s ∈ odS o, ∀ i, i < Ls.length → s ≠ .own (L + i))
    (h : RunS C E t ⟨sl, pre ++ List.replicate Ls.length .gone ++ [.dct ks ((Ls.map Dt.lst).map SD.d)]⟩ P) : RunS C E t ⟨sl, pre ++ Ls.map OD.lst ++ [.dct ks (valsF L Ls 0)]⟩ P := by
  have key : ∀ m j, m + j = Ls.length → RunS C E t ⟨sl, pre ++ (List.replicate j .gone ++ (Ls.drop j).map OD.lst) ++ [.dct ks (valsF L Ls j)]⟩ P := by
    intro m
    induction m with
    | zero =>
      intro j hj
      have e : j = Ls.length := by omega
      subst e
      rw [List.drop_length, valsF_all]
      simpa using h
    | succ m ih =>
      intro j hj
      have hjl : j < Ls.length := by omega
      have r := ih (j + 1) (by omega)
      have hd : Ls.drop j = Ls[j] :: Ls.drop (j + 1) := List.drop_eq_getElem_cons hjl
      have hget : (pre ++ (List.replicate j OD.gone ++ (Ls.drop j).map OD.lst) ++ [.dct ks (valsF L Ls j)])[L + j]? = some (.lst Ls[j]) := by
        rw [hd, List.append_assoc, List.getElem?_append_right (by omega), List.append_assoc, List.getElem?_append_right (by rw [List.length_replicate]; omega), List.length_replicate, hL, show L + j - L - j = 0 by omega]
        rfl
      refine r_fzL hget ?_
      have e : (⟨sl, pre ++ (List.replicate j .gone ++ (Ls.drop j).map OD.lst) ++ [.dct ks (valsF L Ls j)]⟩ : AS).fz (L + j) (.lst Ls[j]) = ⟨sl, pre ++ (List.replicate (j + 1) .gone ++ (Ls.drop (j + 1)).map OD.lst) ++ [.dct ks (valsF L Ls (j + 1))]⟩ := by
        show (⟨_, _⟩ : AS) = _
        have e1 : sl.map (fzS (L + j) (.lst Ls[j])) = sl := fzS_map fun s h => hs s h j hjl
        have e2 : pre.map (fzO (L + j) (.lst Ls[j])) = pre := fzO_map fun o ho s h => hp o ho s h j hjl
        have e3 : (List.replicate j OD.gone ++ (Ls.drop j).map OD.lst).map (fzO (L + j) (.lst Ls[j])) = List.replicate j OD.gone ++ (Ls.drop j).map OD.lst := fzO_map fun o ho s h => by
          rcases List.mem_append.mp ho with z | z
          · rw [List.eq_of_mem_replicate z] at h; cases h
          · obtain ⟨x, _, rfl⟩ := List.mem_map.mp z; cases h
        rw [e1, List.map_append, List.map_append, e2, e3, List.map_cons, List.map_nil]
        rw [show fzO (L + j) (.lst Ls[j]) (.dct ks (valsF L Ls j)) = .dct ks ((valsF L Ls j).map (fzS (L + j) (.lst Ls[j]))) from rfl, valsF_fz (List.getElem?_eq_getElem hjl)]
        congr 1
        rw [hd, List.append_assoc, List.set_append_right _ _ (by omega), List.append_assoc, List.append_assoc, List.set_append_right _ _ (by rw [List.length_replicate]; omega), List.length_replicate, hL, show L + j - L - j = 0 by omega]
        rw [List.map_cons, List.cons_append, List.set_cons_zero, List.replicate_succ', List.append_assoc, List.append_assoc]
        rfl
      rw [e]
      exact r
  have r := key Ls.length 0 (by omega)
  simpa using r
end
end Py
theorem Py.P_nx_eq {A A' : Py.AS} {p : Py.AS → Prop} (e : A = A') (h : p A') : p A := by rw [e]; exact h
end

section
set_option Elab.async false
set_option linter.all false
set_option maxRecDepth 100000
set_option maxHeartbeats 4000000
set_option autoImplicit false
set_option exponentiation.threshold 300
namespace Law
open PySem PySem.Spec PyProof.Rows L2 Py

local macro_rules | `(tactic| wtm_at "op") => `(tactic| first
  | with_reducible exact o_I0 | with_reducible exact o_add | with_reducible exact o_eqI | with_reducible exact o_neI
  | ((with_reducible apply o_mul); first | assumption | wtm_at "si")
  | ((with_reducible apply o_I); first | assumption | wtm_at "si")
  | ((with_reducible apply o_ixT); rfl) | ((with_reducible apply o_ixL); rfl)
  | ((with_reducible apply o_eqD) <;> first | rfl | decide | assumption) | ((with_reducible apply o_neD) <;> first | rfl | decide | assumption)
  | with_reducible assumption)
local macro_rules | `(tactic| wtm_at "si") => `(tactic| first | decide | exact ⟨by decide, by decide +kernel⟩ | omega)
local macro_rules | `(tactic| wtm_at "ev") => `(tactic| first
  | ((with_reducible apply e_var); rfl) | with_reducible exact e_c | with_reducible exact a_nil
  | ((with_reducible apply a_cons) <;> wtm_at "ev")
  | ((with_reducible apply e_bin) <;> first | wtm_at "ev" | wtm_at "op")
  | ((with_reducible apply e_ixO) <;> first | rfl | wtm_at "ev")
  | ((with_reducible apply e_U) <;> wtm_at "ev")
  | ((with_reducible apply t_test) <;> wtm_at "ev")
  | ((with_reducible apply t_B) <;> wtm_at "ev")
  | ((with_reducible apply t_not) <;> wtm_at "ev")
  | ((with_reducible apply e_tup) <;> first | wtm_at "ev" | exact Nat.le_of_ble_eq_true rfl)
  | ((with_reducible apply e_lst) <;> first | wtm_at "ev" | exact Nat.le_of_ble_eq_true rfl)
  | ((with_reducible apply e_gcd) <;> wtm_at "ev")
  | ((with_reducible apply e_abs) <;> wtm_at "ev")
  | ((with_reducible apply e_max2) <;> wtm_at "ev")
  | ((with_reducible apply e_int) <;> wtm_at "ev")
  | ((with_reducible apply e_intB) <;> wtm_at "ev")
  | ((with_reducible apply e_bits) <;> wtm_at "ev")
  | ((with_reducible apply e_not) <;> wtm_at "ev")
  | with_reducible assumption)

section
variable {P : Program} {w : World} {K : Frg} {T : List (Addr × Str)} {mg : Str → Option Value} {base : Heap}

def absF (cs : List (List Int)) : List Int := cs.flatten.map fun n => (n.natAbs : Int)
def vOf (cls0 : List (List Int)) : Slv := ⟨(cls0.map clauseO).filterMap id, canon (absF ((cls0.map clauseO).filterMap id))⟩
theorem clauseO_ok {ns c : List Int} (h : strange ns = false) (e : clauseO ns = some c) : ClOk c ∧ c = canon ns := by
  unfold clauseO at e
  split at e
  · cases e
  · rename_i ht
    cases e
    exact ⟨ClOk.canon h (by simpa using ht), rfl⟩
theorem absF_mem {cs : List (List Int)} {x : Int} : x ∈ absF cs ↔ ∃ c ∈ cs, ∃ n ∈ c, (n.natAbs : Int) = x := by
  unfold absF
  rw [List.mem_map]
  constructor
  · rintro ⟨n, h, e⟩
    obtain ⟨c, h1, h2⟩ := List.mem_flatten.mp h
    exact ⟨c, h1, n, h2, e⟩
  · rintro ⟨c, h1, n, h2, e⟩
    exact ⟨n, List.mem_flatten.mpr ⟨c, h1, h2⟩, e⟩
theorem vOf_ok {cls0 : List (List Int)} (h : ∀ ns ∈ cls0, strange ns = false ∧ ns.length < 10000) (hf : cls0.length ≤ 400) : (vOf cls0).Ok := by
  have hc : ∀ c ∈ (vOf cls0).cls, ClOk c := by
    intro c hc
    obtain ⟨o, h1, h2⟩ := List.mem_filterMap.mp hc
    obtain ⟨ns, h3, h4⟩ := List.mem_map.mp h1
    have h2 : o = some c := h2
    rw [h2] at h4
    exact (clauseO_ok (h ns h3).1 h4).1
  refine ⟨hc, fun c hcm x hx => ?_, ?_, fun n hn => ?_, ?_⟩
  · exact mem_canon.mpr (absF_mem.mpr ⟨c, hcm, x, hx, rfl⟩)
  · have h1 := canon_sorted (absF (vOf cls0).cls)
    have h2 : (canon (absF (vOf cls0).cls)).Pairwise (· ≠ ·) := nd_canon _
    exact (h1.and h2).imp fun h => by omega
  · obtain ⟨c, h1, m, h2, e⟩ := absF_mem.mp (mem_canon.mp hn)
    have := strange_iff.mp (hc c h1).st m h2
    omega
  · have : (vOf cls0).cls.length ≤ (cls0.map clauseO).length := List.length_filterMap_le ..
    rw [List.length_map] at this
    omega
theorem len_abs {v : Slv} (V : v.Ok) : (ddup (absF v.cls)).length ≤ 61 := by
  have := len_sub (m := (List.range 61).map fun (i : Nat) => (i : Int)) (nd_ddup (absF v.cls)) fun x hx => by
    obtain ⟨c, h1, n, h2, e⟩ := absF_mem.mp (mem_ddup.mp hx)
    have := (strange_iff.mp (V.cl c h1).st n h2).2
    exact List.mem_map.mpr ⟨x.toNat, List.mem_range.mpr (by omega), by omega⟩
  rw [List.length_map, List.length_range] at this
  exact this
/-- the dict of the lists at L .. -/
def zE (L : Nat) (gs : List Int) : KS := gs.zipIdx.map fun q => ((Sum.inl q.1 : Key), SD.own (L + q.2))
theorem zE_keys {L : Nat} {gs : List Int} : (zE L gs).map (·.1) = gs.map Sum.inl := by
  unfold zE
  rw [List.map_map, show ((fun x : Key × SD => x.1) ∘ fun q : Int × Nat => ((Sum.inl q.1 : Key), SD.own (L + q.2))) = (Sum.inl : Int → Key) ∘ Prod.fst from rfl, ← List.map_map, List.zipIdx_map_fst]
theorem zE_snoc {L i : Nat} {gs : List Int} (nd : gs.Nodup) (hi : i < gs.length) : putS (zE L (gs.take i)) (Sum.inl gs[i]) (.own (L + i)) = zE L (gs.take (i + 1)) := by
  have e2 : gs.take (i + 1) = gs.take i ++ [gs[i]] := by rw [List.take_add_one, List.getElem?_eq_getElem hi]; rfl
  unfold putS
  rw [if_neg]
  · unfold zE
    rw [e2, List.zipIdx_append, List.map_append]
    simp [List.length_take, Nat.min_eq_left (Nat.le_of_lt hi)]
  · intro h
    obtain ⟨q, hq, e⟩ := List.any_eq_true.mp h
    have hm : q.1 ∈ (zE L (gs.take i)).map (·.1) := List.mem_map.mpr ⟨q, hq, rfl⟩
    rw [zE_keys, of_decide_eq_true e] at hm
    obtain ⟨x, hx, e3⟩ := List.mem_map.mp hm
    cases e3
    obtain ⟨j, hj, e4⟩ := List.mem_take_iff_getElem.mp hx
    have := (List.getElem_inj (h₀ := by omega) (h₁ := hi) nd).mp e4
    omega
theorem zE_get {L j : Nat} {gs : List Int} {m : Int} (nd : gs.Nodup) (h : gs[j]? = some m) : getS (zE L gs) (Sum.inl m) = some (.own (L + j)) := by
  unfold getS zE
  rw [List.find?_map, Option.map_map]
  have : gs.zipIdx.find? ((fun q : Key × SD => decide (q.1 = Sum.inl m)) ∘ fun q : Int × Nat => ((Sum.inl q.1 : Key), SD.own (L + q.2))) = some (m, j) := by
    rw [List.find?_eq_some_iff_getElem]
    obtain ⟨hl, e⟩ := List.getElem?_eq_some_iff.mp h
    refine ⟨by simp, j, by rw [List.length_zipIdx]; exact hl, by rw [List.getElem_zipIdx, e]; simp, fun i hi => ?_⟩
    rw [List.getElem_zipIdx]
    simp only [Function.comp, Sum.inl.injEq, Bool.not_eq_true']
    refine decide_eq_false fun z => ?_
    have := (List.getElem_inj (h₀ := by omega) (h₁ := hl) nd).mp (z.trans e.symm)
    omega
  rw [this]
  rfl
theorem zE_vals {L : Nat} {gs : List Int} {F : Int → List Dt} : (zE L gs).map (·.2) = valsF L (gs.map F) 0 := by
  unfold zE valsF
  rw [List.zipIdx_map, List.map_map, List.map_map]
  refine List.map_congr_left fun q _ => ?_
  simp
/-- the lists after i clauses -/
def lsF (v : Slv) (i : Nat) (m : Int) : List Dt := ((v.cls.take i).filter fun c => decide (c ≠ []) && decide (mx c = m)).map clD
def lsS (v : Slv) (i : Nat) : List OD := v.giv.map fun m => OD.lst (lsF v i m)
theorem lsF_snoc {v : Slv} {i : Nat} {c : List Int} {m : Int} (h : v.cls[i]? = some c) : lsF v (i + 1) m = if c ≠ [] ∧ mx c = m then lsF v i m ++ [clD c] else lsF v i m := by
  unfold lsF
  rw [List.take_add_one, h, List.filter_append, List.map_append]
  show _ ++ ([c].filter _).map clD = _
  by_cases h1 : c ≠ [] ∧ mx c = m
  · rw [if_pos h1, List.filter_cons_of_pos (by simp [h1.1, h1.2])]; rfl
  · rw [if_neg h1, List.filter_cons_of_neg (by
      rw [Bool.and_eq_true, decide_eq_true_eq, decide_eq_true_eq]; exact h1)]
    simp
theorem lsS_same {v : Slv} {i : Nat} {c : List Int} (h : v.cls[i]? = some c) (hc : c = []) : lsS v (i + 1) = lsS v i := by
  unfold lsS
  refine List.map_congr_left fun m _ => ?_
  rw [lsF_snoc h, if_neg fun z => z.1 hc]
theorem lsS_set {v : Slv} {i j : Nat} {c : List Int} (nd : v.giv.Nodup) (h : v.cls[i]? = some c) (hc : c ≠ []) (hj : v.giv[j]? = some (mx c)) : (lsS v i).set j (.lst (lsF v i (mx c) ++ [clD c])) = lsS v (i + 1) := by
  apply List.ext_getElem?
  intro k
  unfold lsS
  rw [List.getElem?_set, List.getElem?_map, List.length_map]
  obtain ⟨hl, e⟩ := List.getElem?_eq_some_iff.mp hj
  by_cases hk : j = k
  · subst hk
    rw [if_pos rfl, if_pos hl, List.getElem?_map, hj]
    show _ = some (OD.lst (lsF v (i + 1) (mx c)))
    rw [lsF_snoc h, if_pos ⟨hc, rfl⟩]
  · rw [if_neg hk, List.getElem?_map]
    cases hq : v.giv[k]? with
    | none => rfl
    | some m =>
      show some (OD.lst (lsF v i m)) = some (OD.lst (lsF v (i + 1) m))
      rw [lsF_snoc h, if_neg]
      rintro ⟨_, e2⟩
      rw [← e2] at hq
      obtain ⟨hl2, e3⟩ := List.getElem?_eq_some_iff.mp hq
      exact hk ((List.getElem_inj (h₀ := hl) (h₁ := hl2) nd).mp (e.trans e3.symm))
theorem len_lsF {v : Slv} {i : Nat} {m : Int} : (lsF v i m).length ≤ v.cls.length := by
  unfold lsF
  rw [List.length_map]
  exact Nat.le_trans (List.length_filter_le ..) (by rw [List.length_take]; omega)
theorem lsS_all {v : Slv} : lsS v v.cls.length = (v.giv.map fun m => (v.E m).map clD).map OD.lst := by
  unfold lsS lsF Slv.E
  rw [List.take_length, List.map_map]; rfl
def initMid (K : Frg) (st : List OD) (n : Nat) (v : Slv) (o : OD) : List OD := st.set n o ++ [oS (kvC (ddup (absF v.cls)))] ++ List.replicate v.giv.length .gone ++ [.gone]
def initS (K : Frg) (st : List OD) (n : Nat) (v : Slv) : List OD := initMid K st n v (objS K v (st.length + v.giv.length + 2) (st.length + v.giv.length + 3) 0) ++ [oS []] ++ [OD.lst []]
def gInit (K : Frg) : List OD → List SD → RS → Prop := fun st ss r => ∃ (n : Nat) (cls0 : List (List Int)), ss = [.own n, .d (.lst (cls0.map nsD))] ∧ st[n]? = some (.obj (SV K) [] []) ∧ Clo st ∧ (∀ ns ∈ cls0, strange ns = false ∧ ns.length < 10000) ∧ cls0.length ≤ 400 ∧ r = .ok (.d dn) (initS K st n (vOf cls0))

theorem ok_Solver_init (X : Txt K mg) (F : ∃ fd, FunD K "__init__" "Solver.__init__" (defArgs s_Solver_init) (defBody s_Solver_init) (defScope s_Solver_init) [] [] (He.ma K (SV K) "__init__") fd) (G_clause_of : Gd P w K mg base "clause_of" ["numbers"] 1 (spD K T (sp_clause K))) : Gk P w K mg base "Solver" (SV K) (2) (spS K T (gInit K)) := by
  have Tx := X
  refine mkIS F X.mks X.g_Solver sc_Solver_init (fun _ _ _ _ _ _ us hl => match us, hl with | [_, _], _ => rfl) (fun st ss r h => ?len) (fun cdv A outer s H E hr => ?body)
  case len => (obtain ⟨_, _, rfl, _⟩ := h; rfl)
  case body =>
    have sc := sc_Solver_init
    refine ⟨_, (pss_cons (ps_setLc (i := 2) (own := [("clause", 3)]) rfl sc.nd rfl rfl (sw_true rfl rfl rfl (by decide +kernel)) (pi_list (pv 1)) (blkOk_by (own := [("clause", 3)]) (N := ["self", "clauses", "found", "clause", "number", "name"]) (sc := defScope s_Solver_init) (by decide +kernel)) (fun _ _ _ _ _ => (pg_name (i := 3) sc.nd rfl (Or.inl rfl))) (fun _ _ _ _ _ => pts_nil) (fun _ _ _ _ _ => (pe_callG G_clause_of (hr.mono (by decide)) passL (pa_cons (pv 3) pa_nil))))
  (pss_cons (ps_fld (pv 0) (pe_lc (own := [("clause", 3)]) rfl sc.nd (pi_list (pv 2)) (blkOk_by (own := [("clause", 3)]) (N := ["self", "clauses", "found", "clause", "number", "name"]) (sc := defScope s_Solver_init) (by decide +kernel)) (fun _ _ _ _ _ => (pg_name (i := 3) sc.nd rfl (Or.inl rfl))) (fun _ _ _ _ _ => (pts_one (pt_cmpR op_notN (pv 3) pe_non (nomark _)))) (fun _ _ _ _ _ => (pv 3))) (by rfl))
  (pss_cons (ps_if (pt_cmpR op_gt (pe_callB call_len (by rfl) Tx.n_len (by decide +kernel) (pa_cons (pe_fld (pv 0) (by rfl)) pa_nil)) (peC Tx.c_MOST_CLAUSES) (nomark _)) (pss_one (ps_rz rfl takesE PySem.F.excBase_ValueError Tx.xSolveError.1 Tx.gSolveError Tx.xSolveError.2.1 (raises_own Tx.xSolveError.2.2.1 Tx.xSolveError.2.2.2) rfl)) pss_nil)
  (pss_cons (ps_fld (pv 0) (pe_callB (cr_sortD rfl) (by rfl) Tx.n_sorted (by decide +kernel) (pa_cons (pe_cmpD2 (own := [("clause", 3), ("number", 4)]) (vs1 := [4]) (.inl rfl) rfl sc.nd (pi_list (pe_fld (pv 0) (by rfl))) (blkOk_by (own := [("clause", 3), ("number", 4)]) (N := ["self", "clauses", "found", "clause", "number", "name"]) (sc := defScope s_Solver_init) (by decide +kernel)) (fun _ _ _ _ _ => (pg_name (i := 3) sc.nd rfl (Or.inl rfl))) (fun _ _ _ _ _ => pts_nil) (Nat.lt_of_le_of_lt (Nat.add_le_add_left (by decide : 1 ≤ 64) _) hr.units) (by decide) (fun _ _ _ _ _ => (pi_tupK (K := K) rfl (pv 3))) (fun _ _ _ _ _ => (pg_name (i := 4) sc.nd rfl (Or.inl rfl))) (fun _ _ _ _ _ => pts_nil) (fun _ _ _ _ _ => (pe_callB call_abs (by rfl) Tx.n_abs (by decide +kernel) (pa_cons (pv 4) pa_nil))) (fun _ _ _ _ _ => pe_bl)) pa_nil)) (by rfl))
  (pss_cons (ps_fld (pv 0) (pe_cmpD1 (own := [("name", 5)]) (.inl rfl) rfl sc.nd (pi_list (pe_fld (pv 0) (by rfl))) (blkOk_by (own := [("name", 5)]) (N := ["self", "clauses", "found", "clause", "number", "name"]) (sc := defScope s_Solver_init) (by decide +kernel)) (fun _ _ _ _ _ => (pg_name (i := 5) sc.nd rfl (Or.inl rfl))) (fun _ _ _ _ _ => pts_nil) (Nat.lt_of_le_of_lt (Nat.add_le_add_left (by decide : 1 ≤ 64) _) hr.units) (fun _ _ _ _ _ => (pv 5)) (fun _ _ _ _ _ => (pe_lst pa_nil))) (by rfl))
  (pss_cons (ps_for (passesE) rfl (pi_list (pe_fld (pv 0) (by rfl))) (pg_name (i := 3) sc.nd rfl (Or.inl rfl)) (pss_one (ps_if (pt_cmpR (op_neA hr.units) (pv 3) (pe_tup pa_nil) (nomark _)) (pss_one (ps_expr (pe_bm PySem.F.plainAttrs_list PySem.F.slot_list_append PySem.F.type_list_append mt_append (pe_dget (Nat.lt_of_le_of_lt (Nat.add_le_add_left (by decide : 1 ≤ 64) _) hr.units) (pe_fld (pv 0) (by rfl)) (pe_callB (cr_max rfl) (by rfl) Tx.n_max (by decide +kernel) (pa_cons (pe_lc (own := [("number", 4)]) rfl sc.nd (pi_tup (pv 3)) (blkOk_by (own := [("number", 4)]) (N := ["self", "clauses", "found", "clause", "number", "name"]) (sc := defScope s_Solver_init) (by decide +kernel)) (fun _ _ _ _ _ => (pg_name (i := 4) sc.nd rfl (Or.inl rfl))) (fun _ _ _ _ _ => pts_nil) (fun _ _ _ _ _ => (pe_callB call_abs (by rfl) Tx.n_abs (by decide +kernel) (pa_cons (pv 4) pa_nil)))) pa_nil)) (fun _ _ => rfl)) (pa_cons (pv 3) pa_nil)))) pss_nil)))
  (pss_cons (ps_fld (pv 0) pe_dnewK (by rfl))
  (pss_cons (ps_fld (pv 0) (pe_lst pa_nil) (by rfl))
  (pss_one (ps_fld (pv 0) pe_int (by rfl))))))))))), fun H0 O st ss r hg => ?_⟩
    clear sc hr
    try dsimp only [cxOf]
    obtain ⟨n, cls0, rfl, ho, hc, hcl, hfew, rfl⟩ := hg
    have ln := (List.getElem?_eq_some_iff.mp ho).1
    have V := vOf_ok hcl hfew
    have hcs : (vOf cls0).cls = (cls0.map clauseO).filterMap id := rfl
    have lcs : (vOf cls0).cls.length ≤ 400 := V.few
    have lg := len_giv V
    refine r_seq (r_asg (d := .lst ((cls0.map clauseO).map optD)) (e_ofN (e_is (e_mapL (l := cls0) (D := nsD) (f := fun ns => optD (clauseO ns)) (e_var rfl) (fun ns hns O' => mf_yes (tgS_name (by simp)) (e_call (C := ⟨K, T, H0, O'⟩) (a_cons (e_var rfl) a_nil) ⟨ns, rfl, by have := (hcl ns hns).2; omega, (clauseR_ok (hcl ns hns).1).symm⟩) rfl) (by omega)) (by rw [List.map_map]; rfl))) ?_)
    have ecl : ((cls0.map clauseO).filter Option.isSome).map optD = (vOf cls0).cls.map clD := by
      rw [hcs]
      generalize cls0.map clauseO = l
      induction l with
      | nil => rfl
      | cons o r ih =>
        cases o with
        | none => exact ih
        | some c => exact congrArg (clD c :: ·) ih
    refine r_seq (r_fldNG (s := .d (.lst ((vOf cls0).cls.map clD))) (g_d (e_ofN (e_is (e_mfL (l := cls0.map clauseO) (D := optD) (f := optD) (p := Option.isSome) (e_var rfl) (fun o ho O' => ?t1) (by rw [List.length_map]; omega)) (congrArg Dt.lstN ecl)))) (g_own rfl) ho X.cl X.na_clauses (by decide) (by decide) ?_)
    case t1 =>
      cases o with
      | none => exact mf_if (tgS_name (by simp)) (t_test (e_bin (e_var rfl) e_c (o_notNone (.inl ⟨rfl, rfl⟩)))) (e_var rfl) rfl rfl
      | some c => exact mf_if (tgS_name (by simp)) (t_test (e_bin (e_var rfl) e_c (o_notNo rfl))) (e_var rfl) rfl rfl
    generalize hv : vOf cls0 = v at *
    show RunS _ _ _ ⟨[SD.own n, SD.d (.lst (cls0.map nsD)), SD.d (.lst ((cls0.map clauseO).map optD)), .un, .un, .un], st.set n (.obj (SV K) ["clauses"] [.d (.lst (v.cls.map clD))])⟩ _
    have h1 : (st.set n (.obj (SV K) ["clauses"] [.d (.lst (v.cls.map clD))]))[n]? = some (.obj (SV K) ["clauses"] [.d (.lst (v.cls.map clD))]) := List.getElem?_set_self ln
    refine r_seq (r_ifFs (t_is (t_test (e_bin (e_lenL (e_fldG (g_own rfl) h1 X.cl X.na_clauses rfl)) e_c o_I0)) (decide_eq_false (by rw [List.length_map]; omega))) (r_next ?_))
    have gvn : v.giv = canon (absF v.cls) := by rw [← hv]; rfl
    refine r_seq (r_fldNG (ns := ["clauses"]) (xs := [.d (.lst (v.cls.map clD))]) (s := .d (.lst (v.giv.map di))) (g_d (e_is (e_sortDG (ks := ddup (absF v.cls)) (zs := canon (absF v.cls)) (g_cmp2 (w_list (e_fldG (g_own rfl) h1 X.cl X.na_clauses rfl) dn) (fun i => ⟨[SD.own n, SD.d (.lst (cls0.map nsD)), SD.d (.lst ((cls0.map clauseO).map optD)), .un, .un, .un], st.set n (.obj (SV K) ["clauses"] [.d (.lst (v.cls.map clD))])⟩) (fun i => kvC (ddup (absF (v.cls.take i)))) rfl rfl (fun i hi O' => ?t2)) (.inl ?t3) (kvC_1 _) (by have := len_abs V; omega) (canon_perm _) (canon_sorted _)) (by rw [gvn]))) (g_own rfl) ?t4 X.cl X.na_given (by decide) (by decide) ?_)
    case t2 =>
      rw [List.length_map] at hi
      rw [getD_map hi]
      have hcm := (V.cl v.cls[i] (List.getElem_mem hi)).len
      have lt := len_abs V
      have ltk : (kvC (ddup (absF (v.cls.take i)))).length ≤ 61 := by
        unfold kvC
        rw [List.length_map]
        refine Nat.le_trans (len_sub (nd_ddup _) fun x hx => ?_) lt
        obtain ⟨c, h1, m, h2, e⟩ := absF_mem.mp (mem_ddup.mp hx)
        exact mem_ddup.mpr (absF_mem.mpr ⟨c, List.mem_of_mem_take h1, m, h2, e⟩)
      refine ⟨_, _, tgS_name (by simp), t_yes, _, _, _, w_tup (e_unE (e_var rfl)) dn, (fun _ => ⟨[SD.own n, SD.d (.lst (cls0.map nsD)), SD.d (.lst ((cls0.map clauseO).map optD)), .d (clD v.cls[i]), .un, .un], st.set n (.obj (SV K) ["clauses"] [.d (.lst (v.cls.map clD))])⟩), (fun j => kvC (ddup (absF (v.cls.take i) ++ (v.cls[i].take j).map fun m => (m.natAbs : Int)))), rfl, by simp, ?_, fun j hj => ?_, rfl, by rw [List.length_map]; omega⟩
      · dsimp only
        have e2 : v.cls.take (i + 1) = v.cls.take i ++ [v.cls[i]] := by rw [List.take_add_one, List.getElem?_eq_getElem hi]; rfl
        rw [List.length_map, List.take_length, e2]
        congr 2
        unfold absF
        rw [List.flatten_append, List.map_append]
        simp
      · rw [List.length_map] at hj
        rw [getD_map hj]
        refine ⟨_, true, _, tgS_name (by simp), t_yes, .inl ⟨rfl, Sum.inl ((v.cls[i][j].natAbs : Nat) : Int), .d (db true), _, _, e_absI (e_var rfl), g_d e_c, ?_, rfl⟩⟩
        dsimp only
        have e3 : v.cls[i].take (j + 1) = v.cls[i].take j ++ [v.cls[i][j]] := by rw [List.take_add_one, List.getElem?_eq_getElem hj]; rfl
        rw [put_kvC, ← ddup_snoc, e3, List.map_append, List.append_assoc]
        rfl
    case t3 =>
      show (_ ++ [oS (kvC (ddup (absF (v.cls.take (v.cls.map clD).length))))])[_]? = _
      rw [List.getElem?_append_right (Nat.le_refl _), Nat.sub_self, List.length_map, List.take_length]
      rfl
    case t4 =>
      show (_ ++ [oS (kvC (ddup (absF (v.cls.take (v.cls.map clD).length))))])[n]? = _
      rw [List.getElem?_append_left (by rw [List.length_set]; exact ln)]
      exact h1
    have eP : ∀ {o o' : OD} {tail : List OD}, (st.set n o ++ tail).set n o' = st.set n o' ++ tail := fun {o o' tail} => by rw [List.set_append_left _ _ (by rw [List.length_set]; exact ln), List.set_set]
    have gP : ∀ {o : OD} {tail : List OD}, (st.set n o ++ tail)[n]? = some o := fun {o tail} => by rw [List.getElem?_append_left (by rw [List.length_set]; exact ln)]; exact List.getElem?_set_self ln
    generalize hsl : [SD.own n, SD.d (.lst (cls0.map nsD)), SD.d (.lst ((cls0.map clauseO).map optD)), .un, .un, .un] = sl0
    generalize htmp : oS (kvC (ddup (absF v.cls))) = tmp
    have en : AS.upG ⟨sl0, st.set n (.obj (SV K) ["clauses"] [.d (.lst (v.cls.map clD))]) ++ [oS (kvC (ddup (absF (v.cls.take (v.cls.map clD).length))))]⟩ n (.obj (SV K) ["clauses", "given"] [.d (.lst (v.cls.map clD)), .d (.lst (v.giv.map di))]) = ⟨sl0, st.set n (.obj (SV K) ["clauses", "given"] [.d (.lst (v.cls.map clD)), .d (.lst (v.giv.map di))]) ++ [tmp]⟩ := by
      show (⟨_, _⟩ : AS) = _
      rw [eP, List.length_map, List.take_length, htmp]
    show RunS _ _ _ (AS.upG ⟨sl0, st.set n (.obj (SV K) ["clauses"] [.d (.lst (v.cls.map clD))]) ++ [oS (kvC (ddup (absF (v.cls.take (v.cls.map clD).length))))]⟩ n (.obj (SV K) ["clauses", "given"] [.d (.lst (v.cls.map clD)), .d (.lst (v.giv.map di))])) _
    rw [en]
    clear en
    subst hsl
    have nd : v.giv.Nodup := V.gs.imp fun h => Int.ne_of_lt h
    generalize ho2 : OD.obj (SV K) ["clauses", "given"] [.d (.lst (v.cls.map clD)), .d (.lst (v.giv.map di))] = o2
    have gP2 : ∀ {tail : List OD}, (st.set n o2 ++ [tmp] ++ tail)[n]? = some (OD.obj (SV K) ["clauses", "given"] [.d (.lst (v.cls.map clD)), .d (.lst (v.giv.map di))]) := fun {tail} => by rw [List.append_assoc, gP, ho2]
    have lP : ∀ {o : OD}, (st.set n o ++ [tmp]).length = st.length + 1 := fun {o} => by rw [List.length_append, List.length_set]; rfl
    have e1 : (⟨[SD.own n, SD.d (.lst (cls0.map nsD)), SD.d (.lst ((cls0.map clauseO).map optD)), .un, .un, .un], st.set n o2 ++ [tmp]⟩ : AS) = ⟨[SD.own n, SD.d (.lst (cls0.map nsD)), SD.d (.lst ((cls0.map clauseO).map optD)), .un, .un, .un], st.set n o2 ++ [tmp] ++ List.replicate 0 (OD.lst [])⟩ := by simp
    rw [e1]
    refine r_seq (r_fldNG (ns := ["clauses", "given"]) (xs := [.d (.lst (v.cls.map clD)), .d (.lst (v.giv.map di))]) (s := .own (st.length + 1 + v.giv.length)) (g_is (g_st (g_cmp (w_list (e_fldG (g_own rfl) gP2 X.cl X.na_given rfl) dn) (fun i => ⟨[SD.own n, SD.d (.lst (cls0.map nsD)), SD.d (.lst ((cls0.map clauseO).map optD)), .un, .un, .un], st.set n o2 ++ [tmp] ++ List.replicate i (OD.lst [])⟩) (fun i => zE (st.length + 1) (v.giv.take i)) rfl (by rw [List.take_zero]; rfl) (fun i hi O' => ?t5) (by rw [List.length_map]; omega)) ?t6) ?t7) (g_own rfl) (A2 := ⟨[SD.own n, SD.d (.lst (cls0.map nsD)), SD.d (.lst ((cls0.map clauseO).map optD)), .un, .un, .un], st.set n o2 ++ [tmp] ++ (List.replicate v.giv.length (OD.lst []) ++ [oS (zE (st.length + 1) v.giv)])⟩) gP2 X.cl X.na_ending (by decide) (by decide) ?_)
    case t5 =>
      rw [List.length_map] at hi
      rw [getD_map hi]
      refine ⟨_, true, _, tgS_name (by simp), t_yes, .inl ⟨rfl, Sum.inl v.giv[i], _, _, _, e_var rfl, g_lnew a_nil (by decide), ?_, ?_⟩⟩
      · show _ = putS _ _ (SD.own (st.set n o2 ++ [tmp] ++ List.replicate i (OD.lst [])).length)
        rw [List.length_append, lP, List.length_replicate, zE_snoc nd hi]
      · show (⟨_, _ ++ [OD.lst []]⟩ : AS) = ⟨_, _⟩
        rw [List.replicate_succ', ← List.append_assoc]
        rfl
    case t6 =>
      show (⟨[SD.own n, SD.d (.lst (cls0.map nsD)), SD.d (.lst ((cls0.map clauseO).map optD)), .un, .un, .un], st.set n o2 ++ [tmp] ++ List.replicate (v.giv.map di).length (OD.lst []) ++ [oS (zE (st.length + 1) (v.giv.take (v.giv.map di).length))]⟩ : AS) = _
      rw [List.length_map, List.take_length, List.append_assoc (st.set n o2 ++ [tmp])]
    case t7 =>
      show SD.own (st.set n o2 ++ [tmp] ++ List.replicate (v.giv.map di).length (OD.lst [])).length = _
      rw [List.length_append, lP, List.length_replicate, List.length_map]
    have en : AS.upG ⟨[SD.own n, SD.d (.lst (cls0.map nsD)), SD.d (.lst ((cls0.map clauseO).map optD)), .un, .un, .un], st.set n o2 ++ [tmp] ++ (List.replicate v.giv.length (OD.lst []) ++ [oS (zE (st.length + 1) v.giv)])⟩ n (.obj (SV K) ((["clauses", "given"] : List Str) ++ (["ending"] : List Str)) (([.d (.lst (v.cls.map clD)), .d (.lst (v.giv.map di))] : List SD) ++ ([.own (st.length + 1 + v.giv.length)] : List SD))) = ⟨[SD.own n, SD.d (.lst (cls0.map nsD)), SD.d (.lst ((cls0.map clauseO).map optD)), .un, .un, .un], st.set n (.obj (SV K) ["clauses", "given", "ending"] [.d (.lst (v.cls.map clD)), .d (.lst (v.giv.map di)), .own (st.length + 1 + v.giv.length)]) ++ [tmp] ++ lsS v 0 ++ [oS (zE (st.length + 1) v.giv)]⟩ := by
      show (⟨_, _⟩ : AS) = _
      rw [List.append_assoc, eP]
      unfold lsS lsF
      simp [List.map_const']
    refine P_nx_eq en ?_
    clear en e1 gP2 ho2 h1
    generalize ho3 : OD.obj (SV K) ["clauses", "given", "ending"] [.d (.lst (v.cls.map clD)), .d (.lst (v.giv.map di)), .own (st.length + 1 + v.giv.length)] = o3
    have gP3 : ∀ {t1 t2 : List OD}, (st.set n o3 ++ [tmp] ++ t1 ++ t2)[n]? = some (OD.obj (SV K) ["clauses", "given", "ending"] [.d (.lst (v.cls.map clD)), .d (.lst (v.giv.map di)), .own (st.length + 1 + v.giv.length)]) := fun {t1 t2} => by rw [List.append_assoc, List.append_assoc, gP, ho3]
    have lS : ∀ i, (lsS v i).length = v.giv.length := fun i => by unfold lsS; rw [List.length_map]
    have gD : ∀ i, (st.set n o3 ++ [tmp] ++ lsS v i ++ [oS (zE (st.length + 1) v.giv)])[st.length + 1 + v.giv.length]? = some (oS (zE (st.length + 1) v.giv)) := fun i => by
      have e : (st.set n o3 ++ [tmp] ++ lsS v i).length = st.length + 1 + v.giv.length := by rw [List.length_append, lP, lS]
      rw [← e, List.getElem?_append_right (Nat.le_refl _), Nat.sub_self]; rfl
    have gL : ∀ i j m, v.giv[j]? = some m → (st.set n o3 ++ [tmp] ++ lsS v i ++ [oS (zE (st.length + 1) v.giv)])[st.length + 1 + j]? = some (.lst (lsF v i m)) := fun i j m hj => by
      have hl := (List.getElem?_eq_some_iff.mp hj).1
      rw [List.getElem?_append_left (by rw [List.length_append, lP, lS]; omega), List.getElem?_append_right (by rw [lP]; omega), lP, show st.length + 1 + j - (st.length + 1) = j by omega]
      unfold lsS
      rw [List.getElem?_map, hj]; rfl
    refine r_seq (r_forL (xs := v.cls.map clD) (e_fldG (g_own rfl) gP3 X.cl X.na_clauses rfl) (fun i A => ∃ x3, (x3 = .un ∨ ∃ d, x3 = .d d) ∧ A = ⟨[SD.own n, SD.d (.lst (cls0.map nsD)), SD.d (.lst ((cls0.map clauseO).map optD)), x3, .un, .un], st.set n o3 ++ [tmp] ++ lsS v i ++ [oS (zE (st.length + 1) v.giv)]⟩) ⟨.un, .inl rfl, rfl⟩ ?_ ?_)
    · rintro i x A hx ⟨x3, h3, rfl⟩
      rw [List.getElem?_map] at hx
      obtain ⟨c, hcc, rfl⟩ := Option.map_eq_some_iff.mp hx
      have hcm := List.mem_of_getElem? hcc
      have hcl := V.cl c hcm
      refine ⟨⟨[SD.own n, SD.d (.lst (cls0.map nsD)), SD.d (.lst ((cls0.map clauseO).map optD)), .d (clD c), .un, .un], st.set n o3 ++ [tmp] ++ lsS v i ++ [oS (zE (st.length + 1) v.giv)]⟩, tg_name, ?_⟩
      have ne0 := o_neN (C := ⟨K, T, H0, O⟩) (n := 1) (m := 1) (nice_tE c) (nice_tI [])
      rw [eqv_tI] at ne0
      refine r_ifs (b := !decide (c = [])) (t_test (e_bin (e_var rfl) (e_tup a_nil (by decide)) ne0)) (fun hb => ?_) fun hb => r_next ⟨.d (clD c), .inr ⟨clD c, rfl⟩, ?_⟩
      · have hne : c ≠ [] := by simpa using hb
        obtain ⟨x, hx1, hx2⟩ := mx_mem hne fun z => (strange_iff.mp hcl.st 0 z).1 rfl
        obtain ⟨j, hj⟩ := List.getElem?_of_mem (by rw [← hx2]; exact V.nm c hcm x hx1 : mx c ∈ v.giv)
        have hjl := (List.getElem?_eq_some_iff.mp hj).1
        refine r_drop (e_appendG (n := st.length + 1 + j) (ys := lsF v i (mx c)) (d := clD c) (g_dget (k0 := Sum.inl (mx c)) (g_fld (g_own rfl) gP3 X.cl X.na_ending rfl) (e_maxL (ns := c.map fun x => (x.natAbs : Int)) (m := mx c) (e_ofN (e_is (e_mapT (l := c) (D := di) (f := fun x => di (x.natAbs : Int)) (e_unE (e_var rfl)) (fun y hy O' => mf_yes (tgS_name (by simp)) (e_absI (e_var rfl)) rfl) (by have := hcl.len; omega)) (by rw [List.map_map]; rfl))) (List.mem_map.mpr ⟨x, hx1, hx2⟩) (fun y hy => by
          obtain ⟨z, hz, rfl⟩ := List.mem_map.mp hy
          exact mx_ge hz)) (.inl (gD i)) (zE_get nd hj)) (gL i j _ hj) (e_var rfl) (gL i j _ hj) (by have := len_lsF (v := v) (i := i) (m := mx c); omega)) ?_
        refine ⟨.d (clD c), .inr ⟨clD c, rfl⟩, ?_⟩
        show (⟨_, (st.set n o3 ++ [tmp] ++ lsS v i ++ [oS (zE (st.length + 1) v.giv)]).set (st.length + 1 + j) (.lst (lsF v i (mx c) ++ [clD c]))⟩ : AS) = _
        rw [List.set_append_left _ _ (by rw [List.length_append, lP, lS]; omega), List.set_append_right _ _ (by rw [lP]; omega), lP, show st.length + 1 + j - (st.length + 1) = j by omega, lsS_set nd hcc hne hj]
      · have hce : c = [] := by simpa using hb
        rw [lsS_same hcc hce]
    rintro A ⟨x3, h3, rfl⟩
    rw [List.length_map, lsS_all]
    rw [show oS (zE (st.length + 1) v.giv) = .dct (v.giv.map Sum.inl) (valsF (st.length + 1) (v.giv.map fun m => (v.E m).map clD) 0) by
      show OD.dct _ _ = _
      rw [zE_keys, zE_vals]]
    have hsl : ∀ s ∈ [SD.own n, SD.d (.lst (cls0.map nsD)), SD.d (.lst ((cls0.map clauseO).map optD)), x3, .un, .un], ∀ i, s ≠ .own (st.length + 1 + i) := by
      intro s hs i
      simp only [List.mem_cons, List.not_mem_nil, or_false] at hs
      rcases hs with rfl | rfl | rfl | rfl | rfl | rfl
      · intro e; have := SD.own.inj e; omega
      · intro e; cases e
      · intro e; cases e
      · rcases h3 with rfl | ⟨d, rfl⟩
        · intro e; cases e
        · intro e; cases e
      · intro e; cases e
      · intro e; cases e
    have hst : ∀ o ∈ st, ∀ s ∈ odS o, ∀ i, s ≠ .own (st.length + 1 + i) := fun o ho s hs i e => by
      have := hc o ho s hs _ e; omega
    have htm : ∀ s ∈ odS tmp, ∀ i, s ≠ .own (st.length + 1 + i) := fun s hs i e => by
      rw [← htmp] at hs
      have hs : s ∈ (kvC (ddup (absF v.cls))).map (·.2) := hs
      unfold kvC at hs
      rw [List.map_map] at hs
      obtain ⟨k, _, e2⟩ := List.mem_map.mp hs
      rw [e] at e2; cases e2
    refine r_fzLs (L := st.length + 1) (Ls := v.giv.map fun m => (v.E m).map clD) lP (fun s hs i _ => hsl s hs i) (fun o ho s hs i hi => ?_) ?_
    · rcases List.mem_append.mp ho with z | z
      · rcases List.mem_or_eq_of_mem_set z with z | rfl
        · exact hst o z s hs i
        · rw [← ho3] at hs
          have hs : s ∈ [SD.d (.lst (v.cls.map clD)), .d (.lst (v.giv.map di)), .own (st.length + 1 + v.giv.length)] := hs
          rw [List.length_map] at hi
          simp only [List.mem_cons, List.not_mem_nil, or_false] at hs
          rcases hs with rfl | rfl | rfl
          · intro e; cases e
          · intro e; cases e
          · intro e; have := SD.own.inj e; omega
      · rw [List.mem_singleton.mp z] at hs
        exact htm s hs i
    rw [List.length_map]
    have lR : (st.set n o3 ++ [tmp] ++ List.replicate v.giv.length OD.gone).length = st.length + 1 + v.giv.length := by rw [List.length_append, lP, List.length_replicate]
    refine r_fzD (n := st.length + 1 + v.giv.length) (ks := v.giv.map Sum.inl) (xs := (v.giv.map fun m => (v.E m).map clD).map Dt.lst) (by
      show (st.set n o3 ++ [tmp] ++ List.replicate v.giv.length OD.gone ++ [_])[_]? = _
      rw [← lR, List.getElem?_append_right (Nat.le_refl _), Nat.sub_self]; rfl) ?_
    have eE : Dt.dct (v.giv.map Sum.inl) ((v.giv.map fun m => (v.E m).map clD).map Dt.lst) = dD (endK v) := by
      unfold dD endK
      rw [List.map_map, List.map_map, List.map_map]; rfl
    rw [eE]
    have en : AS.fz ⟨[SD.own n, SD.d (.lst (cls0.map nsD)), SD.d (.lst ((cls0.map clauseO).map optD)), x3, .un, .un], st.set n o3 ++ [tmp] ++ List.replicate v.giv.length OD.gone ++ [.dct (v.giv.map Sum.inl) (((v.giv.map fun m => (v.E m).map clD).map Dt.lst).map SD.d)]⟩ (st.length + 1 + v.giv.length) (dD (endK v)) = ⟨[SD.own n, SD.d (.lst (cls0.map nsD)), SD.d (.lst ((cls0.map clauseO).map optD)), x3, .un, .un], initMid K st n v (.obj (SV K) ["clauses", "given", "ending"] [.d (.lst (v.cls.map clD)), .d (.lst (v.giv.map di)), .d (dD (endK v))])⟩ := by
      have e1 : ([SD.own n, SD.d (.lst (cls0.map nsD)), SD.d (.lst ((cls0.map clauseO).map optD)), x3, .un, .un] : List SD).map (fzS (st.length + 1 + v.giv.length) (dD (endK v))) = [SD.own n, SD.d (.lst (cls0.map nsD)), SD.d (.lst ((cls0.map clauseO).map optD)), x3, .un, .un] := fzS_map fun s hs => hsl s hs _
      show (⟨_, _⟩ : AS) = ⟨_, _⟩
      rw [e1]
      congr 1
      rw [List.map_append, List.map_append, List.map_append, List.map_set, fzO_map (l := st) fun o ho s hs => hst o ho s hs _, List.map_cons, List.map_nil, fzO_ne (o := tmp) fun s hs => htm s hs _, fzO_map (l := List.replicate v.giv.length OD.gone) fun o ho s hs => by rw [List.eq_of_mem_replicate ho] at hs; cases hs]
      have lR2 : ∀ o, (st.set n o ++ [tmp] ++ List.replicate v.giv.length OD.gone).length = st.length + 1 + v.giv.length := fun o => by rw [List.length_append, lP, List.length_replicate]
      rw [List.set_append_right _ _ (by rw [lR2]; omega), lR2, Nat.sub_self]
      unfold initMid
      rw [htmp]
      show _ = _ ++ [OD.gone]
      rw [← ho3]
      show st.set n (OD.obj (SV K) ["clauses", "given", "ending"] ([SD.d (.lst (v.cls.map clD)), .d (.lst (v.giv.map di)), .own (st.length + 1 + v.giv.length)].map (fzS _ _))) ++ _ ++ _ ++ [OD.gone] = _
      rw [List.map_cons, List.map_cons, List.map_cons, List.map_nil, show fzS (st.length + 1 + v.giv.length) (dD (endK v)) (.own (st.length + 1 + v.giv.length)) = .d (dD (endK v)) from if_pos rfl]
      rfl
    rw [en]
    clear en gL gD gP3 hst
    have lM : ∀ o, (initMid K st n v o).length = st.length + v.giv.length + 2 := fun o => by unfold initMid; simp only [List.length_append, List.length_set, List.length_replicate, List.length_singleton]; omega
    have eM : ∀ {o o' : OD} {tail : List OD}, (initMid K st n v o ++ tail).set n o' = initMid K st n v o' ++ tail := fun {o o' tail} => by unfold initMid; rw [List.append_assoc, List.append_assoc, List.append_assoc, eP, List.append_assoc, List.append_assoc, List.append_assoc]
    have gM : ∀ {o : OD} {tail : List OD}, (initMid K st n v o ++ tail)[n]? = some o := fun {o tail} => by unfold initMid; rw [List.append_assoc, List.append_assoc, List.append_assoc, gP]
    generalize hsl0 : ([SD.own n, SD.d (.lst (cls0.map nsD)), SD.d (.lst ((cls0.map clauseO).map optD)), x3, .un, .un] : List SD) = sl0
    have own0 : sl0[0]? = some (.own n) := by rw [← hsl0]; rfl
    have gM0 : ∀ {o : OD}, (initMid K st n v o)[n]? = some o := fun {o} => by have := gM (o := o) (tail := []); rwa [List.append_nil] at this
    refine r_seq (r_fldNG (ns := ["clauses", "given", "ending"]) (xs := [.d (.lst (v.cls.map clD)), .d (.lst (v.giv.map di)), .d (dD (endK v))]) (s := .own (st.length + v.giv.length + 2)) (g_is (g_dnew (A := ⟨sl0, initMid K st n v _⟩)) (congrArg SD.own (lM _))) (g_own own0) gM X.cl X.na_truths (by decide) (by decide) ?_)
    refine P_nx_eq (A' := ⟨sl0, initMid K st n v (.obj (SV K) ["clauses", "given", "ending", "truths"] [.d (.lst (v.cls.map clD)), .d (.lst (v.giv.map di)), .d (dD (endK v)), .own (st.length + v.giv.length + 2)]) ++ [oS []]⟩) (congrArg (AS.mk sl0) eM) ?_
    have l3 : ∀ {o : OD}, (initMid K st n v o ++ [oS []]).length = st.length + v.giv.length + 3 := fun {o} => by rw [List.length_append, lM]; rfl
    refine r_seq (r_fldNG (ns := ["clauses", "given", "ending", "truths"]) (xs := [.d (.lst (v.cls.map clD)), .d (.lst (v.giv.map di)), .d (dD (endK v)), .own (st.length + v.giv.length + 2)]) (s := .own (st.length + v.giv.length + 3)) (g_is (g_lnew (A := ⟨sl0, initMid K st n v _ ++ [oS []]⟩) a_nil (by decide)) (congrArg SD.own l3)) (g_own own0) (by show ((_ ++ [oS []]) ++ [OD.lst []])[n]? = _; rw [List.append_assoc, gM]) X.cl X.na_steps (by decide) (by decide) ?_)
    refine P_nx_eq (A' := ⟨sl0, initMid K st n v (.obj (SV K) ["clauses", "given", "ending", "truths", "steps"] [.d (.lst (v.cls.map clD)), .d (.lst (v.giv.map di)), .d (dD (endK v)), .own (st.length + v.giv.length + 2), .own (st.length + v.giv.length + 3)]) ++ ([oS []] ++ [OD.lst []])⟩) (by show AS.mk sl0 (((_ ++ [oS []]) ++ [OD.lst []]).set n _) = _; rw [List.append_assoc, eM]; rfl) ?_
    refine r_fldNG (ns := ["clauses", "given", "ending", "truths", "steps"]) (xs := [.d (.lst (v.cls.map clD)), .d (.lst (v.giv.map di)), .d (dD (endK v)), .own (st.length + v.giv.length + 2), .own (st.length + v.giv.length + 3)]) (s := .d (di ((0 : Nat) : Int))) (g_d e_c) (g_own own0) gM X.cl X.na_tried (by decide) (by decide) ?_
    have eF : initS K st n v = initMid K st n v (objS K v (st.length + v.giv.length + 2) (st.length + v.giv.length + 3) 0) ++ ([oS []] ++ [OD.lst []]) := by unfold initS; rw [List.append_assoc]
    refine P_nx_eq (A' := ⟨sl0, initS K st n v⟩) (by rw [eF]; exact congrArg (AS.mk sl0) eM) ?_
    refine ⟨initS K st n v, rfl, ⟨[], by rw [List.append_nil]⟩, by rw [eF, List.length_append, lM]; omega, fun o ho x hx j hj => ?_, fun k hk e => ?_⟩
    · rw [eF, List.length_append, lM]
      show j < _ + 2
      subst hj
      rw [eF] at ho
      rcases List.mem_append.mp ho with z | z
      · unfold initMid at z
        rcases List.mem_append.mp z with z | z
        · rcases List.mem_append.mp z with z | z
          · rcases List.mem_append.mp z with z | z
            · rcases List.mem_or_eq_of_mem_set z with z | rfl
              · have := hc o z _ hx j rfl; omega
              · have hx : SD.own j ∈ [SD.d (.lst (v.cls.map clD)), .d (.lst (v.giv.map di)), .d (dD (endK v)), .own (st.length + v.giv.length + 2), .own (st.length + v.giv.length + 3), .d (di ((0 : Nat) : Int))] := hx
                simp only [List.mem_cons, SD.own.injEq, List.not_mem_nil, or_false, reduceCtorEq, false_or] at hx
                omega
            · rw [htmp] at z
              rw [List.mem_singleton.mp z, ← htmp] at hx
              have hx : SD.own j ∈ (kvC (ddup (absF v.cls))).map (·.2) := hx
              unfold kvC at hx
              rw [List.map_map] at hx
              obtain ⟨k, _, e2⟩ := List.mem_map.mp hx
              cases e2
          · rw [List.eq_of_mem_replicate z] at hx; cases hx
        · rw [List.mem_singleton.mp z] at hx; cases hx
      · rcases List.mem_append.mp z with z | z
        · rw [List.mem_singleton.mp z] at hx; cases hx
        · rw [List.mem_singleton.mp z] at hx; cases hx
    · rw [eF] at e
      unfold initMid at e
      rw [List.append_assoc, List.append_assoc, List.append_assoc, List.getElem?_append_left (by rw [List.length_set]; exact hk), List.getElem?_set] at e
      split at e
      · first | cases e | (split at e <;> cases e)
      · exact e

end
end Law
end

section
set_option Elab.async false
set_option linter.all false
set_option maxRecDepth 100000
set_option maxHeartbeats 4000000
set_option autoImplicit false
namespace Law
open PySem PySem.Spec PyProof.Rows L2 Py
/-! ### what the search tells -/
def Sat (α : Int → Bool) (c : List Int) : Prop := ∃ x ∈ c, α (x.natAbs : Int) = decide (x > 0)
def Ent (v : Slv) (c : List Int) : Prop := ∀ α, (∀ d ∈ v.cls, Sat α d) → Sat α c
theorem sat_canon {α : Int → Bool} {c : List Int} : Sat α (canon c) ↔ Sat α c := by
  unfold Sat
  constructor
  · rintro ⟨x, h, e⟩; exact ⟨x, mem_canon.mp h, e⟩
  · rintro ⟨x, h, e⟩; exact ⟨x, mem_canon.mpr h, e⟩
theorem sat_join {α : Int → Bool} {low high : List Int} {n : Int} (hn : 0 < n) (h1 : Sat α low) (h2 : Sat α high) : Sat α (join low high n) := by
  obtain ⟨x, hx, ex⟩ := h1
  obtain ⟨y, hy, ey⟩ := h2
  unfold join
  by_cases hxn : x = n
  · by_cases hyn : y = 0 - n
    · exfalso
      subst hxn hyn
      rw [decide_eq_true (by omega)] at ex
      rw [decide_eq_false (by omega), show (0 - x).natAbs = x.natAbs by omega, ex] at ey
      cases ey
    · exact ⟨y, List.mem_append_right _ (List.mem_filter.mpr ⟨hy, by simpa using hyn⟩), ey⟩
  · exact ⟨x, List.mem_append_left _ (List.mem_filter.mpr ⟨hx, by simpa using hxn⟩), ex⟩
/-- the steps, one after another -/
def runC : List (List Int) → List Stp → Option (List (List Int))
  | sh, [] => some sh
  | sh, s :: r => if s.c ∈ sh ∧ s.d ∈ sh ∧ joinO s.c s.d s.n = some (some s.f) then runC (addL sh s.f) r else none
theorem chk_run : ∀ {sh : List (List Int)} {ss : List Stp}, chk sh ss = match runC sh ss with | some sh' => decide ([] ∈ sh') | none => false
  | sh, [] => rfl
  | sh, s :: r => by
    rw [chk, runC]
    split
    · exact chk_run
    · rfl
theorem runC_app : ∀ {sh : List (List Int)} {a b : List Stp}, runC sh (a ++ b) = (runC sh a).bind fun sh' => runC sh' b
  | sh, [], b => rfl
  | sh, s :: a, b => by
    rw [List.cons_append, runC, runC]
    split
    · exact runC_app
    · rfl
/-- new steps that show res from the clauses -/
def Shows (v : Slv) (S S' : Sv) (res : Option (List Int)) : Prop := ∃ new, S'.steps = S.steps ++ new ∧ ∀ sh, (∀ c ∈ v.cls, c ∈ sh) → ∃ sh', runC sh new = some sh' ∧ (∀ c ∈ sh, c ∈ sh') ∧ ∀ c, res = some c → c ∈ sh'
section
variable {v : Slv} {place : Nat} {S : Sv}
theorem Shows.nil {tr : List (Int × Bool)} {t : Nat} {res : Option (List Int)} (h : ∀ c, res = some c → c ∈ v.cls) : Shows v S ⟨tr, S.steps, t⟩ res := ⟨[], by rw [List.append_nil], fun sh hs => ⟨sh, rfl, fun _ z => z, fun c e => hs c (h c e)⟩⟩
theorem Shows.trans {S1 S2 : Sv} {r1 r2 : Option (List Int)} (a : Shows v S S1 r1) (b : Shows v S1 S2 r2) : ∃ new, S2.steps = S.steps ++ new ∧ ∀ sh, (∀ c ∈ v.cls, c ∈ sh) → ∃ sh', runC sh new = some sh' ∧ (∀ c ∈ sh, c ∈ sh') ∧ (∀ c, r1 = some c → c ∈ sh') ∧ ∀ c, r2 = some c → c ∈ sh' := by
  obtain ⟨n1, e1, h1⟩ := a
  obtain ⟨n2, e2, h2⟩ := b
  refine ⟨n1 ++ n2, by rw [e2, e1, List.append_assoc], fun sh hs => ?_⟩
  obtain ⟨s1, p1, q1, t1⟩ := h1 sh hs
  obtain ⟨s2, p2, q2, t2⟩ := h2 s1 fun c hc => q1 c (hs c hc)
  exact ⟨s2, by rw [runC_app, p1]; exact p2, fun c hc => q2 c (q1 c hc), fun c e => q2 c (t1 c e), t2⟩
theorem told_shows {b : Bool} {p : Sv → Option (List Int) × Sv} (hp : place < v.giv.length) (hk : Kn v place S.tr) (V : v.Ok) (ih : ∀ S, Kn v (place + 1) S.tr → (∀ c, (p S).1 = some c → Ent v c) ∧ Shows v S (p S).2 (p S).1) :
    (∀ c, (toldW p v place b S).1 = some c → Ent v c) ∧ Shows v S (toldW p v place b S).2 (toldW p v place b S).1 := by
  unfold toldW
  cases hf : (v.E (v.at place)).find? (fals (putS S.tr (v.at place) b)) with
  | some c =>
    have hm := (E_mem (List.mem_of_find?_eq_some hf)).1
    exact ⟨fun d e α h => by cases e; exact h c hm, Shows.nil fun d e => by cases e; exact hm⟩
  | none => exact ih _ (hk.put V hp)
theorem part_shows (V : v.Ok) : ∀ (d place : Nat) (S : Sv), place + d = v.giv.length → Kn v place S.tr → (∀ c, (partW v d place S).1 = some c → Ent v c) ∧ Shows v S (partW v d place S).2 (partW v d place S).1
  | 0, place, S, _, _ => ⟨fun c e => (by cases e), ⟨[], by rw [List.append_nil]; rfl, fun sh hs => ⟨sh, rfl, fun _ z => z, fun c e => (by cases e)⟩⟩⟩
  | d + 1, place, S, hd, hk => by
    have hp : place < v.giv.length := by omega
    have p0 : 0 < 2 ^ (d + 1) := Nat.pow_pos (by decide)
    have gp := (V.gp (v.at place) (List.mem_of_getElem? (at_eq hp))).1
    have ih := fun S => part_shows V d (place + 1) S (by omega)
    have il := fun S => part_left V d (place + 1) S (by omega)
    rw [partW]
    have T1 := told_shows (b := false) (S := { S with tried := S.tried + 1 }) hp hk V ih
    have L1 := told_left (b := false) (S := { S with tried := S.tried + 1 }) V hp hk p0 il
    generalize toldW (partW v d (place + 1)) v place false { S with tried := S.tried + 1 } = r1 at *
    obtain ⟨o1, S1⟩ := r1
    have T1b : Shows v S S1 o1 := T1.2
    have kn1 : Kn v place S1.tr := hk.same L1.sm
    unfold lowW
    cases o1 with
    | none => exact ⟨fun c e => (by cases e), T1b⟩
    | some low =>
      dsimp only
      by_cases m1 : v.at place ∉ low
      · rw [if_pos m1]; exact ⟨T1.1, T1b⟩
      · rw [if_neg m1]
        have m1 := Classical.not_not.mp m1
        have T2 := told_shows (b := true) (S := S1) hp kn1 V ih
        have L2 := told_left (b := true) (S := S1) V hp kn1 p0 il
        generalize toldW (partW v d (place + 1)) v place true S1 = r2 at *
        obtain ⟨o2, S2⟩ := r2
        obtain ⟨new, e2, hnew⟩ := T1b.trans (show Shows v S1 S2 o2 from T2.2)
        unfold highW
        cases o2 with
        | none => exact ⟨fun c e => (by cases e), new, e2, fun sh hs => by obtain ⟨sh', a, b, _, c⟩ := hnew sh hs; exact ⟨sh', a, b, c⟩⟩
        | some high =>
          dsimp only
          by_cases m2 : 0 - v.at place ∉ high
          · rw [if_pos m2]; exact ⟨T2.1, new, e2, fun sh hs => by obtain ⟨sh', a, b, _, c⟩ := hnew sh hs; exact ⟨sh', a, b, c⟩⟩
          · rw [if_neg m2]
            have m2 := Classical.not_not.mp m2
            obtain ⟨j1, j2, j3⟩ := join_ok V hp (L1.cl low rfl) (L2.cl high rfl) L1.sm m1 m2
            refine ⟨fun c e α h => ?_, new ++ [⟨v.at place, low, high, canon (join low high (v.at place))⟩], by show S2.steps ++ _ = _; rw [e2, List.append_assoc], fun sh hs => ?_⟩
            · cases e
              exact sat_canon.mpr (sat_join gp (T1.1 low rfl α h) (T2.1 high rfl α h))
            · obtain ⟨sh', a, b, c1, c2⟩ := hnew sh hs
              refine ⟨addL sh' (canon (join low high (v.at place))), ?_, fun c hc => mem_addL.mpr (.inl (b c hc)), fun c e => ?_⟩
              · rw [runC_app, a]
                show runC sh' [_] = _
                rw [runC, if_pos ⟨c1 low rfl, c2 high rfl, joinO_ok m1 m2 j1 j2⟩]
                rfl
              · cases e; exact mem_addL.mpr (.inr rfl)
/-! ### None: an assignment, the least one -/
def asg (tr : List (Int × Bool)) (n : Int) : Bool := (getB tr n).getD false
def Agr (v : Slv) (place : Nat) (α β : Int → Bool) : Prop := ∀ i n, i < place → v.giv[i]? = some n → α n = β n
/-- β comes first, or they are the same, over the names from place on -/
def Fst (v : Slv) (place : Nat) (β α : Int → Bool) : Prop := (∀ i n, place ≤ i → v.giv[i]? = some n → α n = β n) ∨ ∃ j m, place ≤ j ∧ v.giv[j]? = some m ∧ β m = false ∧ α m = true ∧ ∀ i n, place ≤ i → i < j → v.giv[i]? = some n → α n = β n
theorem fals_same {place : Nat} {tr tr' : List (Int × Bool)} {c : List Int} (s : Sm v place tr tr') (h : ∀ x ∈ c, ∃ i, i < place ∧ v.giv[i]? = some (x.natAbs : Int)) : fals tr' c = fals tr c := by
  unfold fals
  rw [Bool.eq_iff_iff, List.all_eq_true, List.all_eq_true]
  constructor
  · intro hh x hx
    obtain ⟨i, h1, h2⟩ := h x hx
    have := hh x hx
    rwa [s i _ h1 h2] at this
  · intro hh x hx
    obtain ⟨i, h1, h2⟩ := h x hx
    have := hh x hx
    rwa [s i _ h1 h2]
theorem part_end (V : v.Ok) : ∀ (d place : Nat) (S : Sv), place + d = v.giv.length → Kn v place S.tr → (partW v d place S).1 = none →
    (∀ j m, place ≤ j → v.giv[j]? = some m → ∀ c ∈ v.E m, fals (partW v d place S).2.tr c = false) ∧ ∀ α, (∀ c ∈ v.cls, Sat α c) → Agr v place α (asg S.tr) → Fst v place (asg (partW v d place S).2.tr) α
  | 0, place, S, hd, _, _ => by
    have no : ∀ j m, place ≤ j → v.giv[j]? ≠ some m := fun j m hj e => by
      have := (List.getElem?_eq_some_iff.mp e).1
      omega
    exact ⟨fun j m hj e => absurd e (no j m hj), fun α _ _ => .inl fun i n hi e => absurd e (no i n hi)⟩
  | d + 1, place, S, hd, hk, h => by
    have hp : place < v.giv.length := by omega
    have p0 : 0 < 2 ^ (d + 1) := Nat.pow_pos (by decide)
    have gp := (V.gp (v.at place) (List.mem_of_getElem? (at_eq hp))).1
    have il := fun S => part_left V d (place + 1) S (by omega)
    have is := fun S => part_shows V d (place + 1) S (by omega)
    have L1 := told_left (b := false) (S := { S with tried := S.tried + 1 }) V hp hk p0 il
    have T1 := told_shows (b := false) (S := { S with tried := S.tried + 1 }) hp hk V is
    obtain ⟨b, S1, e1, h1, h2⟩ := part_none h
    obtain ⟨hf, e2⟩ := told_none h1
    have hk1 : Kn v place S1.tr := by
      rcases h2 with ⟨_, rfl⟩ | ⟨_, rfl, _⟩
      · exact hk
      · exact hk.same L1.sm
    have sm1 : Sm v place S.tr S1.tr := by
      rcases h2 with ⟨_, rfl⟩ | ⟨_, rfl, _⟩
      · exact fun _ _ _ _ => rfl
      · exact L1.sm
    rw [e2] at h1
    rw [e1, e2]
    have hk2 := hk1.put V hp (b := b)
    have IH := part_end V d (place + 1) { S1 with tr := putS S1.tr (v.at place) b } (by omega) hk2 h1
    have smF : Sm v (place + 1) (putS S1.tr (v.at place) b) (partW v d (place + 1) { S1 with tr := putS S1.tr (v.at place) b }).2.tr := (il { S1 with tr := putS S1.tr (v.at place) b } hk2).sm
    generalize (partW v d (place + 1) { S1 with tr := putS S1.tr (v.at place) b }).2 = S2 at *
    have atB : getB S2.tr (v.at place) = some b := by rw [smF place _ (by omega) (at_eq hp), getB_put, if_pos rfl]
    refine ⟨fun j m hj hm c hc => ?_, fun α hα ha => ?_⟩
    · rcases Nat.eq_or_lt_of_le hj with rfl | hlt
      · rw [at_eq hp] at hm
        cases hm
        rw [fals_same smF fun x hx => E_names V hp hc hx]
        have := List.find?_eq_none.mp hf c hc
        simpa using this
      · exact IH.1 j m hlt hm c hc
    · have ab : asg S2.tr (v.at place) = b := by unfold asg; rw [atB]; rfl
      have agr : α (v.at place) = b → Agr v (place + 1) α (asg (putS S1.tr (v.at place) b)) := fun hab i n hi hn => by
        unfold asg
        rw [getB_put]
        by_cases e : n = v.at place
        · rw [if_pos e, e, hab]; rfl
        · rw [if_neg e]
          have hi' : i < place := by
            rcases Nat.lt_or_ge i place with z | z
            · exact z
            · obtain rfl : i = place := by omega
              rw [at_eq hp] at hn
              exact absurd (Option.some.inj hn).symm e
          rw [ha i n hi' hn, sm1 i n hi' hn]; rfl
      have down : α (v.at place) = b → Fst v place (asg S2.tr) α := fun hab => by
        have same : ∀ n, v.giv[place]? = some n → α n = asg S2.tr n := fun n hn => by
          rw [at_eq hp] at hn
          cases hn
          rw [hab, ab]
        rcases IH.2 α hα (agr hab) with z | ⟨j, m, hj, hm, f1, f2, f3⟩
        · refine .inl fun i n hi hn => ?_
          rcases Nat.eq_or_lt_of_le hi with rfl | hlt
          · exact same n hn
          · exact z i n hlt hn
        · refine .inr ⟨j, m, by omega, hm, f1, f2, fun i n hi hij hn => ?_⟩
          rcases Nat.eq_or_lt_of_le hi with rfl | hlt
          · exact same n hn
          · exact f3 i n hlt hij hn
      rcases h2 with ⟨rfl, rfl⟩ | ⟨rfl, rfl, low, el, ml⟩
      · cases hab : α (v.at place) with
        | false => exact down hab
        | true => exact .inr ⟨place, v.at place, Nat.le_refl _, at_eq hp, ab, hab, fun i n hi hij => by omega⟩
      · cases hab : α (v.at place) with
        | true => exact down hab
        | false =>
          exfalso
          have cl := L1.cl low el
          obtain ⟨x, hx, ex⟩ := T1.1 low el α hα
          obtain ⟨i, q1, q2, q3⟩ := cl.nm x hx
          have h0 := (strange_iff.mp cl.ok.st x hx).1
          have ev : α (x.natAbs : Int) = decide (x < 0) := by
            rw [getB_put] at q3
            by_cases e : (x.natAbs : Int) = v.at place
            · rw [if_pos e] at q3
              rw [e, hab]; exact Option.some.inj q3
            · rw [if_neg e] at q3
              have hi' : i < place := by
                rcases Nat.lt_or_ge i place with z | z
                · exact z
                · obtain rfl : i = place := by omega
                  rw [at_eq hp] at q2
                  exact absurd (Option.some.inj q2).symm e
              rw [ha i _ hi' q2]
              unfold asg
              have q3 : getB S.tr (x.natAbs : Int) = some (decide (x < 0)) := q3
              rw [q3]; rfl
          rw [ev] at ex
          rcases Int.lt_or_gt_of_ne h0 with z | z
          · rw [decide_eq_true z, decide_eq_false (by omega)] at ex; cases ex
          · rw [decide_eq_false (by omega), decide_eq_true z] at ex; cases ex
end
end Law
end

section
set_option Elab.async false
set_option linter.all false
set_option maxRecDepth 100000
set_option maxHeartbeats 4000000
set_option autoImplicit false
namespace Py
open PySem PySem.Spec PyProof.Rows L2
section
variable {C : Ct} {A A1 A2 : AS} {te tl : TE} {tt : TT} {g : TG} {ws : List Nat} {wi : TI} {α : Type} {l : List α} {D f : α → Dt} {p : α → Bool} {n : Nat}
/-- a comprehension's list, one's own -/
theorem g_lcW {wi : TI} {m : Nat} {y : Nat → Dt} (hw : WiS C wi A m y A1) (B : Nat → AS) (Y : Nat → List Dt) (h0 : A1 = B 0) (hY : Y 0 = [])
    (hs : ∀ i, i < m → ∀ O, LcT ⟨C.K, C.T, C.H0, O⟩ g tt te ws (y i) (B i) (Y i) (B (i + 1)) (Y (i + 1))) (hn : m < 100000) : EvG C (tLc wi g tt te ws) A (.own (B m).st.length) ((B m).newG (.lst (Y m))) := fun os σ H k Q q =>
  hw os σ H k _ fun os1 H1 J k1 g1 W p hp => by
    have hl : ∀ i, i ≤ m → (Y i).length ≤ i := by
      intro i
      induction i with
      | zero => intro _; rw [hY]; exact Nat.le_refl _
      | succ i ih =>
        intro hi
        obtain ⟨_, _, _, _, _, h⟩ := hs i hi []
        rcases h with ⟨_, _, _, _, e, _⟩ | ⟨_, e, _⟩ <;> rw [e] <;> have := ih (by omega) <;> (try simp only [List.length_append, List.length_singleton]) <;> omega
    subst h0
    refine ⟨fun i j H' => j = m - i ∧ i ≤ m ∧ ∃ os' acc, Ok (C.hide p) os' (B i) σ H' ∧ GrP p C.O os1 (upd H1 p (.lst [])) os' H' ∧ H' p = some (.lst acc) ∧ IsA C.K (Rh (p :: C.O) os' H') (Y i) acc, ⟨m, rfl, Nat.zero_le _, os1, [], k1.hide hp nt_l, ⟨Ex.refl _, fun _ _ => rfl, fun _ _ h => h⟩, upd_same, by rw [hY]; exact isA_nil⟩, ?_⟩
    rintro i j H' ⟨rfl, hi, os', acc, k', g', hp', ha⟩
    have e' : Ex (Rh C.O os1 H1) (Rh (p :: C.O) os' H') := by
      have e := g'.e
      rw [Rh_hide hp] at e
      exact e
    by_cases hlt : i < m
    · refine .inr ⟨W.go i H' hlt (e'.trans hd_ex), fun H2 => i + 1 ≤ m ∧ ∃ os' acc, Ok (C.hide p) os' (B (i + 1)) σ H2 ∧ GrP p C.O os1 (upd H1 p (.lst [])) os' H2 ∧ H2 p = some (.lst acc) ∧ IsA C.K (Rh (p :: C.O) os' H2) (Y (i + 1)) acc, fun H2 q => ⟨m - (i + 1), by omega, rfl, q.1, q.2⟩, fun v H2 hy => ?_⟩
      obtain ⟨x1, x2, x3⟩ := W.yl i H' v H2 (hid (p :: C.O) os') hlt hy e' fun a h => k'.hidden h
      have k2 := k'.mono x1 (x2 _ k'.tb)
      have gp : GrP p C.O os' H' os' H2 := ⟨hd_mono x1, fun a h => by
        obtain ⟨o, q, nt⟩ := k'.ol a (List.mem_cons_of_mem _ h)
        rw [q, x1 _ _ q nt], fun _ _ h => h⟩
      exact lc_turn (hs i hlt _) k2 (x1 _ _ hp' nt_l) (IsA.mono (hd_mono x1) _ _ ha) x3 (fresh_0 k1 hp) (fresh_O k1 hp) (by have := hl i (by omega); omega) _ fun os2 acc2 H3 k3 g3 hp3 ha3 => ⟨hlt, os2, acc2, k3, (g'.trans gp).trans g3, hp3, ha3⟩
    · obtain rfl : i = m := by omega
      refine .inl ⟨W.stop H' (e'.trans hd_ex), ?_⟩
      have ko := k'.ownH (od := .lst (Y i)) hp' nt_l (fresh_0 k1 hp) (fresh_O k1 hp) ⟨p, acc, rfl, hp', ha⟩
      exact q _ _ H' ko (g1.trans (Gr.ownH k1 hp g')) ⟨p, rfl, by rw [← k'.ln]; simp⟩
theorem g_mf {m : Nat} {y : Nat → Dt} (hw : WiS C wi A m y A1) (hm : m = l.length) (hy : ∀ i (h : i < l.length), y i = D l[i]) (hs : ∀ x ∈ l, ∀ O, MfT ⟨C.K, C.T, C.H0, O⟩ g tt te ws (D x) A1 (p x) (f x)) (hl : l.length < 100000) :
    EvG C (tLc wi g tt te ws) A (.own A1.st.length) (A1.newG (.lst ((l.filter p).map f))) := by
  subst hm
  have r := g_lcW (g := g) (tt := tt) (te := te) (ws := ws) hw (fun _ => A1) (fun i => ((l.take i).filter p).map f) rfl rfl (fun i hi O => ?_) hl
  · rw [List.take_length] at r
    exact r
  · obtain ⟨A2, A3, A4, h1, h2, h3, h4⟩ := hs l[i] (List.getElem_mem hi) O
    rw [hy i hi]
    have e : l.take (i + 1) = l.take i ++ [l[i]] := by rw [List.take_add_one, List.getElem?_eq_getElem hi]; rfl
    refine ⟨A2, p l[i], A3, h1, h2, ?_⟩
    rw [e, List.filter_append, List.map_append]
    cases hp : p l[i] with
    | true =>
      obtain ⟨h5, h6⟩ := h3 hp
      exact .inl ⟨rfl, f l[i], A4, h5, by rw [List.filter_cons_of_pos hp]; rfl, h6⟩
    | false => exact .inr ⟨rfl, by rw [List.filter_cons_of_neg (by rw [hp]; decide)]; simp, h4 hp⟩
theorem g_mapL (he : EvS C tl A (.lst (l.map D)) A1) (hs : ∀ x ∈ l, ∀ O, MfT ⟨C.K, C.T, C.H0, O⟩ g tt te ws (D x) A1 true (f x)) (hl : l.length < 100000) : EvG C (tLc (iList C.K tl) g tt te ws) A (.own A1.st.length) (A1.newG (.lst (l.map f))) := by
  have r := g_mf (p := fun _ => true) (w_list he dn) (List.length_map ..) (fun _ h => getD_map h) hs hl
  rwa [List.filter_eq_self.mpr fun _ _ => rfl] at r
/-- x in xs, xs one's own -/
theorem e_inO {te : TE} {i n : Nat} {x : Dt} {xs : List Dt} {p : PyData} {ps : List PyData} {m m' : Nat} (he : EvS C te A x A) (hp : Nice m x p) (h1 : A.sl[i]? = some (.own n)) (h2 : A.st[n]? = some (.lst xs)) (hq : Nice m' (.lst xs) (.list ps)) (hm : m ≤ 64) (hm' : m' ≤ 64) :
    EvS C (tOp (rInD C.K) te (tVar i)) A (db (ps.any fun z => PyData.eqv z p)) A := fun os σ H k Q q =>
  he os σ H k _ fun os1 v H1 k1 e1 i1 => by
    obtain ⟨o, f1, a, f2, f3⟩ := k1.slot h1
    subst f2
    exact ⟨_, f1, p, ps, Dp.mono hd_ex (Is.dp x v p i1 hp.all.1), own_dp k1 f3 h2 hq, hp.shaped hm, hq.shaped hm', q os1 _ H1 k1 e1 is_v⟩
end
/-- the dict of (n, d) for n in ns -/
theorem mergeD_keys {d : Dt} : ∀ (ns : List Int) (acc : KD) (ks : List Int), acc.map (·.1) = ks.map Sum.inl → (mergeD acc (ns.map fun n => ((Sum.inl n : Key), d))).map (·.1) = (ns.foldl (fun a n => if n ∈ a then a else a ++ [n]) ks).map Sum.inl
  | [], acc, ks, h => h
  | n :: ns, acc, ks, h => by
    show (mergeD (putD acc (Sum.inl n) d) (ns.map fun n => ((Sum.inl n : Key), d))).map (·.1) = _
    rw [List.foldl_cons]
    refine mergeD_keys ns _ _ ?_
    have e : (acc.any fun kv => decide (kv.1 = (Sum.inl n : Key))) = decide (n ∈ ks) := by
      rw [show (acc.any fun kv => decide (kv.1 = (Sum.inl n : Key))) = (acc.map (·.1)).any fun x => decide (x = Sum.inl n) by rw [List.any_map]; rfl, h, List.any_map]
      rw [Bool.eq_iff_iff, List.any_eq_true, decide_eq_true_eq]
      constructor
      · rintro ⟨x, hx, e⟩
        have : x = n := by simpa using e
        rw [← this]; exact hx
      · intro hx; exact ⟨n, hx, by simp⟩
    unfold putD
    rw [e]
    by_cases hn : n ∈ ks
    · rw [if_pos (decide_eq_true hn), if_pos hn, List.map_map, ← h]
      refine List.map_congr_left fun q _ => ?_
      show (if q.1 = Sum.inl n then (q.1, d) else q).1 = q.1
      split <;> rfl
    · rw [if_neg (by rw [decide_eq_false hn]; decide), if_neg hn, List.map_append, List.map_append, h]
      rfl
end Py
namespace Py
open PySem PySem.Spec PyProof.Rows L2
theorem call_tupleK {X : Cx} {K : Frg} (hK : X.K = K) : CallR X (.type "tuple") (fun ys H Q => ∃ p zs, ys = [V.ref p] ∧ ((SqL K H p zs ∧ ∀ (l : Addr), H l = none → Q (V.ref l) (upd H l (HO.tup zs))) ∨ SqT K H p zs ∧ Q (V.ref p) H)) := by
  subst hK
  exact call_tuple_of
theorem call_listK {X : Cx} {K : Frg} (hK : X.K = K) : CallR X (.type "list") (rLst K) := by
  subst hK
  exact call_list_of
end Py
end

section
set_option Elab.async false
set_option linter.all false
set_option maxRecDepth 100000
set_option maxHeartbeats 4000000
set_option autoImplicit false
set_option exponentiation.threshold 300
namespace Law
open PySem PySem.Spec PyProof.Rows L2 Py

local macro_rules | `(tactic| wtm_at "op") => `(tactic| first
  | with_reducible exact o_I0 | with_reducible exact o_add | with_reducible exact o_eqI | with_reducible exact o_neI
  | ((with_reducible apply o_mul); first | assumption | wtm_at "si")
  | ((with_reducible apply o_I); first | assumption | wtm_at "si")
  | ((with_reducible apply o_ixT); rfl) | ((with_reducible apply o_ixL); rfl)
  | ((with_reducible apply o_eqD) <;> first | rfl | decide | assumption) | ((with_reducible apply o_neD) <;> first | rfl | decide | assumption)
  | with_reducible assumption)
local macro_rules | `(tactic| wtm_at "si") => `(tactic| first | decide | exact ⟨by decide, by decide +kernel⟩ | omega)
local macro_rules | `(tactic| wtm_at "ev") => `(tactic| first
  | ((with_reducible apply e_var); rfl) | with_reducible exact e_c | with_reducible exact a_nil
  | ((with_reducible apply a_cons) <;> wtm_at "ev")
  | ((with_reducible apply e_bin) <;> first | wtm_at "ev" | wtm_at "op")
  | ((with_reducible apply e_ixO) <;> first | rfl | wtm_at "ev")
  | ((with_reducible apply e_U) <;> wtm_at "ev")
  | ((with_reducible apply t_test) <;> wtm_at "ev")
  | ((with_reducible apply t_B) <;> wtm_at "ev")
  | ((with_reducible apply t_not) <;> wtm_at "ev")
  | ((with_reducible apply e_tup) <;> first | wtm_at "ev" | exact Nat.le_of_ble_eq_true rfl)
  | ((with_reducible apply e_lst) <;> first | wtm_at "ev" | exact Nat.le_of_ble_eq_true rfl)
  | ((with_reducible apply e_gcd) <;> wtm_at "ev")
  | ((with_reducible apply e_abs) <;> wtm_at "ev")
  | ((with_reducible apply e_max2) <;> wtm_at "ev")
  | ((with_reducible apply e_int) <;> wtm_at "ev")
  | ((with_reducible apply e_intB) <;> wtm_at "ev")
  | ((with_reducible apply e_bits) <;> wtm_at "ev")
  | ((with_reducible apply e_not) <;> wtm_at "ev")
  | with_reducible assumption)

section
variable {P : Program} {w : World} {K : Frg} {T : List (Addr × Str)} {mg : Str → Option Value} {base : Heap}

abbrev s__law_true : Stmt := top 17
theorem sc__law_true : FnScope ["clause", "names", "number"] ["clause", "names"] (defScope s__law_true) := ⟨rfl, rfl, rfl, by decide +kernel, rfl, by decide +kernel, by decide +kernel⟩
abbrev s__law_proved : Stmt := top 18
theorem sc__law_proved : FnScope ["clauses", "steps", "shown", "one", "name", "other", "found", "due", "number", "both"] ["clauses", "steps"] (defScope s__law_proved) := ⟨rfl, rfl, rfl, by decide +kernel, rfl, by decide +kernel, by decide +kernel⟩
def sp_true : List Dt → Rs → Prop := fun ds r => ∃ c ns : List Int, ds = [nsD c, .tup (ns.map di)] ∧ c.length < 10000 ∧ ns.length < 10000 ∧ r = .ok (db (holdsB c ns))
theorem any_filter {f : Int → Bool} (c : List Int) : (!((c.filter f).map di).isEmpty) = c.any f := by
  induction c with
  | nil => rfl
  | cons a c ih =>
    cases h : f a with
    | true => rw [List.filter_cons_of_pos h, List.any_cons, h]; rfl
    | false => rw [List.filter_cons_of_neg (by rw [h]; decide), List.any_cons, h, Bool.false_or]; exact ih

theorem ok__law_true (X : Txt K mg) (F : ∃ fd, FunD K "_law_true" "_law_true" (defArgs s__law_true) (defBody s__law_true) (defScope s__law_true) [] [] (He.ga K "_law_true") fd) (hm : mg "_law_true" = some (.ref (He.ga K "_law_true"))) : Gd P w K mg base "_law_true" ["clause", "names"] 1 (spD K T sp_true) := by
  have Tx := X
  refine mkG F hm sc__law_true (fun _ _ _ _ _ _ us hl => match us, hl with | [_, _], _ => rfl) (fun ds r h => ?len) (fun cdv A outer s H E hr => ?body)
  case len => (obtain ⟨_, _, rfl, _⟩ := h; rfl)
  case body =>
    have sc := sc__law_true
    refine ⟨_, (pss_one (ps_ret (pe_cmpR (op_neA hr.units) (pe_lc (own := [("number", 2)]) rfl sc.nd (pi_list (pv 0)) (blkOk_by (own := [("number", 2)]) (N := ["clause", "names", "number"]) (sc := defScope s__law_true) (by decide +kernel)) (fun _ _ _ _ _ => (pg_name (i := 2) sc.nd rfl (Or.inl rfl))) (fun _ _ _ _ _ => (pts_one (pt_cmpR (op_eqAK (K := K) rfl hr.units) (pe_cmpR (op_inK (K := K) rfl) (pe_callB call_abs (by rfl) Tx.n_abs (by decide +kernel) (pa_cons (pv 2) pa_nil)) (pv 1) rfl) (pe_cmpR op_gt (pv 2) pe_int (nomark _)) (nomark _)))) (fun _ _ _ _ _ => (pv 2))) (pe_lst pa_nil) (nomark _)))), fun O ds r hg => ?_⟩
    clear sc hr
    try dsimp only [cxOf]

    obtain ⟨c, ns, rfl, hc, hn, rfl⟩ := hg
    refine r_ret (e_is (e_bin (e_ofN (e_mfL (l := c) (D := di) (f := di) (p := fun n => decide (decide (((n.natAbs : Nat) : Int) ∈ ns) = decide (n > 0))) (e_var rfl) (fun x hx O' => mf_if (tgS_name (by simp)) (t_test (e_bin (e_bin (e_absI (e_var rfl)) (e_var rfl) o_inT) (e_bin (e_var rfl) e_c o_I0) o_eqB)) (e_var rfl) rfl rfl) (by omega))) (e_lst a_nil (by decide)) (o_neNil (n := 0) (nice_I _))) (by rw [any_filter]; rfl)) rfl

/-- what a step must give -/
def dueL (s : Stp) : List Int := canon ((s.c ++ s.d).filter fun m => !decide (m ∈ [s.n, -s.n]))
def stepB (sh : List (List Int)) (s : Stp) : Bool := !(!decide (s.c ∈ sh) || (!decide (s.d ∈ sh) || (!decide (s.n ∈ s.c) || (!decide (-s.n ∈ s.d) || ((dueL s).any (fun m => decide (-m ∈ dueL s)) || (decide (-s.n ∈ s.c) || (decide (s.n ∈ s.d) || !decide (s.f = dueL s))))))))
def prv : List (List Int) → List Stp → Bool
  | sh, [] => decide ([] ∈ sh)
  | sh, s :: r => if stepB sh s then prv (sh ++ [s.f]) r else false
def sp_proved : List Dt → Rs → Prop := fun ds r => ∃ (cls : List (List Int)) (ss : List Stp), ds = [.lst (cls.map nsD), .tup (ss.map stD)] ∧ (∀ ns ∈ cls, ns.length < 10000) ∧ (∀ s ∈ ss, s.c.length < 10000 ∧ s.d.length < 10000) ∧ cls.length + ss.length < 90000 ∧ r = .ok (db (prv (cls.map canon) ss))
theorem e_oneD {C : Ct} {A A1 : AS} {tl : TA} {ns : List Int} (h : EvA C tl A [.lst (ns.map fun n => Dt.tup [di n, di 1])] A1) : EvS C (tCB (rDictL C.K) tl) A (dD (mergeD [] (ns.map fun n => ((Sum.inl n : Key), di 1)))) A1 :=
  e_dictL (kvs := ns.map fun n => ((Sum.inl n : Key), di 1)) (by rw [List.map_map]; exact h)
theorem keys_one (ns : List Int) : (mergeD [] (ns.map fun n => ((Sum.inl n : Key), di 1))).map (·.1) = (ddup ns).map Sum.inl := mergeD_keys ns [] [] rfl
theorem nice_sh (sh : List (List Int)) : Nice 2 (.lst (sh.map clD)) (.list (sh.map fun c => .tuple (pyI c))) := .lst (niceA_map (fun c => nice_tE c) sh)
theorem in_sh (sh : List (List Int)) (c : List Int) : ((sh.map fun c => PyData.tuple (pyI c)).any fun z => PyData.eqv z (.tuple (pyI c))) = decide (c ∈ sh) := by
  rw [List.any_map, Bool.eq_iff_iff, List.any_eq_true, decide_eq_true_eq]
  constructor
  · rintro ⟨d, hc, e⟩
    have e : PyData.eqv (.tuple (pyI d)) (.tuple (pyI c)) = true := e
    rw [eqv_tI, decide_eq_true_eq] at e
    rw [← e]; exact hc
  · intro h
    exact ⟨c, h, by show PyData.eqv (.tuple (pyI c)) (.tuple (pyI c)) = true; rw [eqv_tI]; exact decide_eq_true rfl⟩

theorem ok__law_proved (X : Txt K mg) (F : ∃ fd, FunD K "_law_proved" "_law_proved" (defArgs s__law_proved) (defBody s__law_proved) (defScope s__law_proved) [] [] (He.ga K "_law_proved") fd) (hm : mg "_law_proved" = some (.ref (He.ga K "_law_proved"))) : Gd P w K mg base "_law_proved" ["clauses", "steps"] 1 (spD K T sp_proved) := by
  have Tx := X
  refine mkG F hm sc__law_proved (fun _ _ _ _ _ _ us hl => match us, hl with | [_, _], _ => rfl) (fun ds r h => ?len) (fun cdv A outer s H E hr => ?body)
  case len => (obtain ⟨_, _, rfl, _⟩ := h; rfl)
  case body =>
    have sc := sc__law_proved
    refine ⟨_, (pss_cons (ps_setLc (i := 2) (own := [("one", 3)]) rfl sc.nd rfl rfl (sw_true rfl rfl rfl (by decide +kernel)) (pi_list (pv 0)) (blkOk_by (own := [("one", 3)]) (N := ["clauses", "steps", "shown", "one", "name", "other", "found", "due", "number", "both"]) (sc := defScope s__law_proved) (by decide +kernel)) (fun _ _ _ _ _ => (pg_name (i := 3) sc.nd rfl (Or.inl rfl))) (fun _ _ _ _ _ => pts_nil) (fun _ _ _ _ _ => (pe_callTy (call_tupleK (K := K) rfl) (by rfl) Tx.n_tuple (by decide +kernel) (pa_cons (pe_callB (cr_sortD rfl) (by rfl) Tx.n_sorted (by decide +kernel) (pa_cons (pe_callTy (cr_dictLK (K := K) rfl rfl) (by rfl) Tx.n_dict (by decide +kernel) (pa_cons (pe_lc (own := [("number", 8)]) rfl sc.nd (pi_listK (K := K) rfl (pv 3)) (blkOk_rel (blkOk_by (own := [("number", 8)]) (N := ["clauses", "steps", "shown", "one", "name", "other", "found", "due", "number", "both"]) (sc := (lcScope ((defBody s__law_proved).getD 0 (.Pass ⟨0, 0, 0, 0⟩)))) (by decide +kernel))) (fun _ _ _ _ _ => (pg_name (i := 8) sc.nd rfl (Or.inl rfl))) (fun _ _ _ _ _ => pts_nil) (fun _ _ _ _ _ => (pe_tup (pa_cons (pv 8) (pa_cons pe_int pa_nil))))) pa_nil)) pa_nil)) pa_nil))))
  (pss_cons (ps_for (passesE) rfl (pi_tup (pv 1)) (pg_tup rfl (pgs_cons (pg_name (i := 4) sc.nd rfl (Or.inr rfl)) (pgs_cons (pg_name (i := 3) sc.nd rfl (Or.inl rfl)) (pgs_cons (pg_name (i := 5) sc.nd rfl (Or.inl rfl)) (pgs_cons (pg_name (i := 6) sc.nd rfl (Or.inl rfl)) pgs_nil))))) (pss_cons (ps_set (i := 7) sc.nd rfl (Or.inr rfl) (pe_callB (cr_sortD rfl) (by rfl) Tx.n_sorted (by decide +kernel) (pa_cons (pe_callTy (cr_dictL rfl) (by rfl) Tx.n_dict (by decide +kernel) (pa_cons (pe_lc (own := [("number", 8)]) rfl sc.nd (pi_list (pe_op op_catR (pe_callTy call_list_of (by rfl) Tx.n_list (by decide +kernel) (pa_cons (pv 3) pa_nil)) (pe_callTy call_list_of (by rfl) Tx.n_list (by decide +kernel) (pa_cons (pv 5) pa_nil)))) (blkOk_by (own := [("number", 8)]) (N := ["clauses", "steps", "shown", "one", "name", "other", "found", "due", "number", "both"]) (sc := defScope s__law_proved) (by decide +kernel)) (fun _ _ _ _ _ => (pg_name (i := 8) sc.nd rfl (Or.inl rfl))) (fun _ _ _ _ _ => (pts_one (pt_cmpR (op_notInK (K := K) rfl) (pv 8) (pe_lst (pa_cons (pv 4) (pa_cons (pe_un un_neg (pv 4)) pa_nil))) rfl))) (fun _ _ _ _ _ => (pe_tup (pa_cons (pv 8) (pa_cons pe_int pa_nil))))) pa_nil)) pa_nil)))
  (pss_cons (ps_setLc (i := 9) (own := [("number", 8)]) rfl sc.nd rfl rfl (sw_true rfl rfl rfl (by decide +kernel)) (pi_list (pv 7)) (blkOk_by (own := [("number", 8)]) (N := ["clauses", "steps", "shown", "one", "name", "other", "found", "due", "number", "both"]) (sc := defScope s__law_proved) (by decide +kernel)) (fun _ _ _ _ _ => (pg_name (i := 8) sc.nd rfl (Or.inl rfl))) (fun _ _ _ _ _ => (pts_one (pt_cmpR (op_inK (K := K) rfl) (pe_un un_neg (pv 8)) (pv 7) rfl))) (fun _ _ _ _ _ => (pv 8)))
  (pss_cons (ps_if (PW.pt (pw_or (pt_cmpR (op_notInD (units65 hr)) (pv 3) (pv 2) rfl) (pw_or (pt_cmpR (op_notInD (units65 hr)) (pv 5) (pv 2) rfl) (pw_or (pt_cmpR op_notIn_seq (pv 4) (pv 3) rfl) (pw_or (pt_cmpR op_notIn_seq (pe_un un_neg (pv 4)) (pv 5) rfl) (pw_or (pt_cmpR (op_neA hr.units) (pv 9) (pe_lst pa_nil) (nomark _)) (pw_or (pt_cmpR op_in_seq (pe_un un_neg (pv 4)) (pv 3) rfl) (pw_or (pt_cmpR op_in_seq (pv 4) (pv 5) rfl) (pw_or1 (pt_cmpR (op_neA hr.units) (pv 6) (pe_callTy call_tuple_of (by rfl) Tx.n_tuple (by decide +kernel) (pa_cons (pv 7) pa_nil)) (nomark _))))))))))) (pss_one (ps_ret pe_bl)) pss_nil)
  (pss_one (ps_expr (pe_bm PySem.F.plainAttrs_list PySem.F.slot_list_append PySem.F.type_list_append mt_append (pv 2) (pa_cons (pv 6) pa_nil))))))))
  (pss_one (ps_ret (pe_cmpR (op_inD (units65 hr)) (pe_tup pa_nil) (pv 2) rfl))))), fun O ds r hg => ?_⟩
    clear sc hr
    try dsimp only [cxOf]

    obtain ⟨cls, ss, rfl, hcl, hss, hlen, rfl⟩ := hg
    refine r_seq (r_asgG (g_mapL (l := cls) (D := nsD) (f := fun ns => clD (canon ns)) (e_var rfl) (fun ns hns O' => ?t1) (by omega)) ?_)
    case t1 =>
      have hn := hcl ns hns
      have ld := len_ddup ns
      refine mf_yes (tgS_name (by simp)) (e_tupLE (e_sortD (ks := ddup ns) (e_oneD (a_cons (e_ofN (e_mapL (l := ns) (D := di) (f := fun n => Dt.tup [di n, di 1]) (e_var rfl) (fun x hx O' => mf_yes (tgS_name (by simp)) (e_tup (a_cons (e_var rfl) (a_cons e_c a_nil)) (Nat.le_of_ble_eq_true rfl)) rfl) (by omega))) a_nil)) (keys_one ns) (by omega) (canon_perm ns) (canon_sorted ns))) rfl
    rw [show (cls.map fun ns => clD (canon ns)) = (cls.map canon).map clD by rw [List.map_map]; rfl]
    refine r_seq (r_forT (xs := ss.map stD) (e_var rfl) (fun i A => ∃ (sh : List (List Int)) (x3 x4 x5 x6 x7 x9 : SD), prv sh (ss.drop i) = prv (cls.map canon) ss ∧ sh.length ≤ cls.length + i ∧ A = ⟨[.d (.lst (cls.map nsD)), .d (.tup (ss.map stD)), .own 0, x3, x4, x5, x6, x7, .un, x9], [.lst (sh.map clD)]⟩) ⟨cls.map canon, _, _, _, _, _, _, rfl, by rw [List.length_map]; omega, rfl⟩ ?_ ?_)
    · rintro i x A hx ⟨sh, x3, x4, x5, x6, x7, x9, hc, hsl, rfl⟩
      rw [List.getElem?_map] at hx
      obtain ⟨s, hs, rfl⟩ := Option.map_eq_some_iff.mp hx
      have hil := (List.getElem?_eq_some_iff.mp hs).1
      have hsm := hss s (List.mem_of_getElem? hs)
      have dr : ss.drop i = s :: ss.drop (i + 1) := by rw [List.drop_eq_getElem_cons hil]; congr 1; exact (List.getElem?_eq_some_iff.mp hs).2
      rw [dr, prv] at hc
      refine ⟨⟨[.d (.lst (cls.map nsD)), .d (.tup (ss.map stD)), .own 0, .d (clD s.c), .d (di s.n), .d (clD s.d), .d (clD s.f), x7, .un, x9], [.lst (sh.map clD)]⟩, tg_tup rfl (tgA_cons tg_name (tgA_cons tg_name (tgA_cons tg_name (tgA_cons tg_name tgA_nil)))), ?_⟩
      have l1 := List.length_filter_le (fun m => !decide (m ∈ [s.n, -s.n])) (s.c ++ s.d)
      rw [List.length_append] at l1
      have l2 := len_ddup ((s.c ++ s.d).filter fun m => !decide (m ∈ [s.n, -s.n]))
      have l3 := len_canon ((s.c ++ s.d).filter fun m => !decide (m ∈ [s.n, -s.n]))
      refine r_seq (r_asg (d := .lst ((dueL s).map di)) (e_sortD (ks := ddup ((s.c ++ s.d).filter fun m => !decide (m ∈ [s.n, -s.n]))) (e_oneD (a_cons (e_ofN (e_mfL (l := s.c ++ s.d) (D := di) (f := fun n => Dt.tup [di n, di 1]) (p := fun m => !decide (m ∈ [s.n, -s.n])) (e_ofN (e_is (e_bin (e_listTN (a_cons (e_unE (e_var rfl)) a_nil)) (e_listTN (a_cons (e_unE (e_var rfl)) a_nil)) (o_catR (by rw [List.length_map, List.length_map]; omega))) (by rw [List.map_append]))) (fun x hx O' => mf_if (tgS_name (by simp)) (t_test (e_bin (e_var rfl) (e_lst (a_cons (e_var rfl) (a_cons (e_U (e_var rfl)) a_nil)) (Nat.le_of_ble_eq_true rfl)) (o_notinL (ns := [s.n, -s.n])))) (e_tup (a_cons (e_var rfl) (a_cons e_c a_nil)) (Nat.le_of_ble_eq_true rfl)) rfl rfl) (by rw [List.length_append]; omega))) a_nil)) (keys_one _) (by omega) (canon_perm _) (canon_sorted _)) ?_)
      have hdl : (dueL s).length < 100000 := by unfold dueL; omega
      refine r_seq (r_asg (d := .lst (((dueL s).filter fun m => decide (-m ∈ dueL s)).map di)) (e_ofN (e_mfL (l := dueL s) (D := di) (f := di) (p := fun m => decide (-m ∈ dueL s)) (e_var rfl) (fun x hx O' => mf_if (tgS_name (by simp)) (t_test (e_bin (e_U (e_var rfl)) (e_var rfl) o_inL)) (e_var rfl) rfl rfl) hdl)) ?_)
      have on := o_neN (C := ⟨K, T, H, O⟩) (n := 1) (m := 1) (nice_tE s.f) (nice_tE (dueL s))
      rw [eqv_tI] at on
      refine r_seq (r_ifs (b := !stepB sh s) (t_is (t_or (t_test (e_notInO (e_var rfl) (nice_tE (n := 0) s.c) rfl rfl (nice_sh sh) (by decide) (by decide))) fun _ => t_or (t_test (e_notInO (e_var rfl) (nice_tE (n := 0) s.d) rfl rfl (nice_sh sh) (by decide) (by decide))) fun _ => t_or (t_test (e_bin (e_var rfl) (e_unE (e_var rfl)) o_notinT)) fun _ => t_or (t_test (e_bin (e_U (e_var rfl)) (e_unE (e_var rfl)) o_notinT)) fun _ => t_or (t_test (e_bin (e_var rfl) (e_lst a_nil (by decide)) (o_neNil (n := 0) (nice_I _)))) fun _ => t_or (t_test (e_bin (e_U (e_var rfl)) (e_unE (e_var rfl)) o_inT)) fun _ => t_or (t_test (e_bin (e_var rfl) (e_unE (e_var rfl)) o_inT)) fun _ => t_test (e_bin (e_var rfl) (e_tupLE (e_var rfl)) on)) ?_) (fun hb => r_ret e_c ?_) fun hb => r_next ?_)
      · rw [in_sh, in_sh, any_filter]
        unfold stepB
        rw [Bool.not_not]
      · rw [if_neg (by simpa using hb)] at hc
        show Rs.ok (db (prv (cls.map canon) ss)) = Rs.ok (db false)
        rw [← hc]
      · rw [if_pos (by simpa using hb)] at hc
        refine r_drop (e_appendG (g_own rfl) rfl (e_var rfl) rfl (by rw [List.length_map]; omega)) ⟨sh ++ [s.f], .d (clD s.c), .d (di s.n), .d (clD s.d), .d (clD s.f), .d (.lst ((dueL s).map di)), .d (.lst (((dueL s).filter fun m => decide (-m ∈ dueL s)).map di)), hc, by rw [List.length_append, List.length_singleton]; omega, ?_⟩
        rw [List.map_append]
        rfl
    · rintro A ⟨sh, x3, x4, x5, x6, x7, x9, hc, hsl, rfl⟩
      rw [List.length_map, List.drop_length, prv] at hc
      refine r_ret (e_is (e_inO (e_tup a_nil (by decide)) (nice_tI (n := 0) []) rfl rfl (nice_sh sh) (by decide) (by decide)) ?_) rfl
      rw [in_sh, hc]

end
end Law
end

section
set_option Elab.async false
set_option linter.all false
set_option maxRecDepth 100000
set_option maxHeartbeats 4000000
set_option autoImplicit false
namespace Law
open PySem PySem.Spec PyProof.Rows L2 Py
/-! ### the two checks agree -/
theorem ok_nil : ClOk [] := ⟨rfl, rfl, List.Pairwise.nil, List.nodup_nil⟩
theorem taut_canon {c : List Int} : taut (canon c) = taut c := by
  rw [Bool.eq_iff_iff]
  unfold taut
  rw [List.any_eq_true, List.any_eq_true]
  constructor
  · rintro ⟨x, h, e⟩
    exact ⟨x, mem_canon.mp h, decide_eq_true (mem_canon.mp (of_decide_eq_true e))⟩
  · rintro ⟨x, h, e⟩
    exact ⟨x, mem_canon.mpr h, decide_eq_true (mem_canon.mpr (of_decide_eq_true e))⟩
theorem join_filter {c d : List Int} {n : Int} (hc : ClOk c) (hd : ClOk d) (h1 : n ∈ c) (h2 : 0 - n ∈ d) : join c d n = (c ++ d).filter fun m => !decide (m ∈ [n, -n]) := by
  unfold join
  rw [List.filter_append]
  congr 1
  · refine List.filter_congr fun x hx => ?_
    have : x ≠ -n := fun e => taut_iff.mp hc.ta n h1 (by rw [show 0 - n = -n by omega, ← e]; exact hx)
    simp [this]
  · refine List.filter_congr fun x hx => ?_
    have : x ≠ n := fun e => taut_iff.mp hd.ta _ h2 (by rw [show 0 - (0 - n) = n by omega, ← e]; exact hx)
    simp [this]
theorem strange_join {c d : List Int} {n : Int} (hc : ClOk c) (hd : ClOk d) : strange (join c d n) = false := strange_iff.mpr fun x hx => by
  unfold join at hx
  rcases List.mem_append.mp hx with h | h
  · exact strange_iff.mp hc.st x (List.mem_filter.mp h).1
  · exact strange_iff.mp hd.st x (List.mem_filter.mp h).1
theorem joinO_eq {c d : List Int} {n : Int} (hc : ClOk c) (hd : ClOk d) : joinO c d n = if n ∉ c ∨ 0 - n ∉ d then none else some (clauseO (join c d n)) := by
  unfold joinO
  split
  · rfl
  · show (if strange (join c d n) = true then none else _) = _
    rw [if_neg (by rw [strange_join hc hd]; decide)]
    rfl
theorem any_neg {c : List Int} : (c.any fun m => decide (-m ∈ c)) = taut c := by
  unfold taut
  congr 1
  funext m
  exact decide_eq_decide.mpr (by rw [show 0 - m = -m by omega])
theorem step_eq {sh sh' : List (List Int)} {s : Stp} (hc : ClOk s.c) (hd : ClOk s.d) (h : ∀ x, ClOk x → (x ∈ sh ↔ x ∈ sh')) : stepB sh s = true ↔ s.c ∈ sh' ∧ s.d ∈ sh' ∧ joinO s.c s.d s.n = some (some s.f) := by
  rw [joinO_eq hc hd]
  unfold stepB
  rw [any_neg]
  have m1 := h s.c hc
  have m2 := h s.d hd
  by_cases n1 : s.n ∈ s.c
  · by_cases n2 : -s.n ∈ s.d
    · have n2' : 0 - s.n ∈ s.d := by rw [show 0 - s.n = -s.n by omega]; exact n2
      rw [if_neg (by rintro (z | z); exact z n1; exact z n2')]
      have e : dueL s = canon (join s.c s.d s.n) := by unfold dueL; rw [join_filter hc hd n1 n2']
      have t1 : -s.n ∉ s.c := by have := taut_iff.mp hc.ta _ n1; rwa [show 0 - s.n = -s.n by omega] at this
      have t2 : s.n ∉ s.d := by have := taut_iff.mp hd.ta _ n2; rwa [show 0 - -s.n = s.n by omega] at this
      have d1 : decide (s.c ∈ sh) = decide (s.c ∈ sh') := decide_eq_decide.mpr m1
      have d2 : decide (s.d ∈ sh) = decide (s.d ∈ sh') := decide_eq_decide.mpr m2
      rw [e, taut_canon, d1, d2, decide_eq_true n1, decide_eq_true n2, decide_eq_false t1, decide_eq_false t2]
      unfold clauseO
      generalize canon (join s.c s.d s.n) = J
      clear e m1 m2 h d1 d2 n1 n2 n2' t1 t2
      cases taut (join s.c s.d s.n) with
      | true => simp
      | false =>
        rw [if_neg (by decide), Option.some.injEq, Option.some.injEq]
        simp only [Bool.not_true, Bool.false_or, Bool.not_or, Bool.not_not, Bool.and_eq_true, decide_eq_true_eq]
        exact ⟨fun z => ⟨z.1, z.2.1, z.2.2.symm⟩, fun z => ⟨z.1, z.2.1, z.2.2.symm⟩⟩
    · have n2' : 0 - s.n ∉ s.d := by rw [show 0 - s.n = -s.n by omega]; exact n2
      rw [if_pos (.inr n2')]
      simp [n2]
  · rw [if_pos (.inl n1)]
    simp [n1]
theorem joinO_ClOk {c d f : List Int} {n : Int} (hc : ClOk c) (hd : ClOk d) (h : joinO c d n = some (some f)) : ClOk f := by
  rw [joinO_eq hc hd] at h
  split at h
  · cases h
  · exact (clauseO_ok (strange_join hc hd) (Option.some.inj h)).1
theorem chk_prv : ∀ (ss : List Stp) {sh sh' : List (List Int)}, (∀ s ∈ ss, ClOk s.c ∧ ClOk s.d) → (∀ x, ClOk x → (x ∈ sh ↔ x ∈ sh')) → chk sh' ss = prv sh ss
  | [], sh, sh', _, h => by
    rw [chk, prv]
    exact decide_eq_decide.mpr (h [] ok_nil).symm
  | s :: r, sh, sh', hs, h => by
    obtain ⟨hc, hd⟩ := hs s (List.mem_cons_self ..)
    have e := step_eq hc hd h
    rw [chk, prv]
    by_cases hb : stepB sh s = true
    · rw [if_pos hb, if_pos (e.mp hb)]
      refine chk_prv r (fun s hs' => hs s (List.mem_cons_of_mem _ hs')) fun x hx => ?_
      rw [mem_addL, List.mem_append, List.mem_singleton, h x hx]
    · rw [if_neg hb, if_neg fun z => hb (e.mpr z)]
theorem shown_iff {cls0 : List (List Int)} (h : ∀ ns ∈ cls0, strange ns = false) {x : List Int} (hx : ClOk x) : x ∈ cls0.map canon ↔ x ∈ shown0 cls0 := by
  rw [mem_shown0, List.mem_map, List.mem_map]
  constructor
  · rintro ⟨ns, h1, rfl⟩
    refine ⟨ns, h1, ?_⟩
    unfold clauseO
    have := hx.ta
    rw [taut_canon] at this
    rw [if_neg (by rw [this]; decide)]
  · rintro ⟨ns, h1, e⟩
    exact ⟨ns, h1, (clauseO_ok (h ns h1) e).2.symm⟩
theorem both_agree {cls0 : List (List Int)} {ss : List Stp} (h : ∀ ns ∈ cls0, strange ns = false) (hs : ∀ s ∈ ss, ClOk s.c ∧ ClOk s.d) : chk (shown0 cls0) ss = prv (cls0.map canon) ss := chk_prv ss hs fun _ hx => shown_iff h hx
theorem run_ok : ∀ {ss : List Stp} {sh sh' : List (List Int)}, (∀ x ∈ sh, ClOk x) → runC sh ss = some sh' → ∀ s ∈ ss, ClOk s.c ∧ ClOk s.d ∧ ClOk s.f
  | [], _, _, _, _, s, h => by cases h
  | t :: r, sh, sh', hx, h, s, hs => by
    rw [runC] at h
    split at h
    · rename_i hh
      have hf := joinO_ClOk (hx _ hh.1) (hx _ hh.2.1) hh.2.2
      rcases List.mem_cons.mp hs with rfl | hs
      · exact ⟨hx _ hh.1, hx _ hh.2.1, hf⟩
      · exact run_ok (fun x hm => by
          rcases mem_addL.mp hm with z | z
          · exact hx x z
          · rw [z]; exact hf) h s hs
    · cases h
/-! ### how solve ends -/
section
variable {cls0 : List (List Int)} (hc : ∀ ns ∈ cls0, strange ns = false ∧ ns.length < 10000) (hf : cls0.length ≤ 400)
include hc hf
theorem cls_mem {c : List Int} : c ∈ (vOf cls0).cls ↔ some c ∈ cls0.map clauseO := by
  show c ∈ (cls0.map clauseO).filterMap id ↔ _
  rw [List.mem_filterMap]
  constructor
  · rintro ⟨o, h, e⟩
    have e : o = some c := e
    rw [← e]; exact h
  · intro h; exact ⟨_, h, rfl⟩
/-- the clauses hold, the ones that always hold aside -/
theorem sat_all {α : Int → Bool} : (∀ ns ∈ cls0, Sat α ns) ↔ ∀ c ∈ (vOf cls0).cls, Sat α c := by
  constructor
  · intro h c hm
    obtain ⟨ns, h1, e⟩ := List.mem_map.mp ((cls_mem hc hf).mp hm)
    rw [(clauseO_ok (hc ns h1).1 e).2]
    exact sat_canon.mpr (h ns h1)
  · intro h ns hm
    cases ht : taut ns with
    | true =>
      unfold taut at ht
      obtain ⟨x, hx, e⟩ := List.any_eq_true.mp ht
      have e := of_decide_eq_true e
      have h0 := (strange_iff.mp (hc ns hm).1 x hx).1
      have ab : (0 - x).natAbs = x.natAbs := by omega
      cases ha : α (x.natAbs : Int) with
      | true =>
        rcases Int.lt_or_gt_of_ne h0 with z | z
        · exact ⟨0 - x, e, by rw [ab, ha, decide_eq_true (by omega)]⟩
        · exact ⟨x, hx, by rw [ha, decide_eq_true (by omega)]⟩
      | false =>
        rcases Int.lt_or_gt_of_ne h0 with z | z
        · exact ⟨x, hx, by rw [ha, decide_eq_false (by omega)]⟩
        · exact ⟨0 - x, e, by rw [ab, ha, decide_eq_false (by omega)]⟩
    | false =>
      have e : clauseO ns = some (canon ns) := by unfold clauseO; rw [if_neg (by rw [ht]; decide)]
      exact sat_canon.mp (h _ ((cls_mem hc hf).mpr (List.mem_map.mpr ⟨ns, hm, e⟩)))
theorem shown_cls : ∀ c ∈ (vOf cls0).cls, c ∈ shown0 cls0 := fun c h => mem_shown0.mpr ((cls_mem hc hf).mp h)
theorem shown_ok : ∀ c ∈ shown0 cls0, ClOk c := fun c h => (vOf_ok hc hf).cl c ((cls_mem hc hf).mpr (mem_shown0.mp h))
/-- never -/
theorem end_never (c : List Int) (h : (endW (vOf cls0)).1 = some c) : (∀ α, ¬ ∀ ns ∈ cls0, Sat α ns) ∧ chk (shown0 cls0) (endW (vOf cls0)).2.steps = true ∧ ∀ s ∈ (endW (vOf cls0)).2.steps, ClOk s.c ∧ ClOk s.d ∧ ClOk s.f := by
  have V := vOf_ok hc hf
  have k0 : Kn (vOf cls0) 0 S00.tr := fun i n hi => by omega
  have L := part_left V _ 0 S00 (Nat.zero_add _) k0
  obtain ⟨E1, new, e2, hs⟩ := part_shows V _ 0 S00 (Nat.zero_add _) k0
  have hn : c = [] := by
    have := (L.cl c h).nm
    cases c with
    | nil => rfl
    | cons x r =>
      obtain ⟨i, hi, _⟩ := this x (List.mem_cons_self ..)
      omega
  subst hn
  obtain ⟨sh', r1, r2, r3⟩ := hs (shown0 cls0) (shown_cls hc hf)
  have e2 : (endW (vOf cls0)).2.steps = new := by have : (endW (vOf cls0)).2.steps = [] ++ new := e2; rwa [List.nil_append] at this
  refine ⟨fun α z => ?_, ?_, ?_⟩
  · obtain ⟨x, hx, _⟩ := E1 [] h α ((sat_all hc hf).mp z)
    cases hx
  · rw [e2, chk_run, r1]
    exact decide_eq_true (r3 [] h)
  · rw [e2]
    exact run_ok (shown_ok hc hf) r1
/-- fits: the least assignment -/
theorem end_fits (h0 : [] ∉ (vOf cls0).cls) (h : (endW (vOf cls0)).1 = none) : (∀ ns ∈ cls0, Sat (asg (endW (vOf cls0)).2.tr) ns) ∧ ∀ α, (∀ ns ∈ cls0, Sat α ns) → Fst (vOf cls0) 0 (asg (endW (vOf cls0)).2.tr) α := by
  have V := vOf_ok hc hf
  have k0 : Kn (vOf cls0) 0 S00.tr := fun i n hi => by omega
  obtain ⟨h1, h2⟩ := part_end V _ 0 S00 (Nat.zero_add _) k0 h
  refine ⟨(sat_all hc hf).mpr fun c hm => ?_, fun α hα => h2 α ((sat_all hc hf).mp hα) fun i n hi => by omega⟩
  have hne : c ≠ [] := fun e => h0 (by rw [← e]; exact hm)
  have hcl := V.cl c hm
  obtain ⟨x, hx, ex⟩ := mx_mem hne fun z => (strange_iff.mp hcl.st 0 z).1 rfl
  obtain ⟨j, hj⟩ := List.getElem?_of_mem (by rw [← ex]; exact V.nm c hm x hx : mx c ∈ (vOf cls0).giv)
  have hE : c ∈ (vOf cls0).E (mx c) := List.mem_filter.mpr ⟨hm, by simp [hne]⟩
  have hf := h1 j _ (Nat.zero_le _) hj c hE
  have hf : fals (endW (vOf cls0)).2.tr c = false := hf
  refine Classical.byContradiction fun z => ?_
  have : fals (endW (vOf cls0)).2.tr c = true := fals_iff.mpr fun x hx e => z ⟨x, hx, e⟩
  rw [this] at hf
  cases hf
end
theorem holds_iff {c r : List Int} : holdsB c r = true ↔ Sat (fun n => decide (n ∈ r)) c := by
  unfold holdsB Sat
  rw [List.any_eq_true]
  constructor
  · rintro ⟨x, h, e⟩; exact ⟨x, h, of_decide_eq_true e⟩
  · rintro ⟨x, h, e⟩; exact ⟨x, h, decide_eq_true e⟩
end Law
end

section
set_option Elab.async false
set_option linter.all false
set_option maxRecDepth 100000
set_option maxHeartbeats 4000000
set_option autoImplicit false
namespace Law
open PySem PySem.Spec PyProof.Rows L2 Py
/-! ### the rows -/
def srt : Nat → List (List Bool)
  | 0 => [[]]
  | m + 1 => (srt m).map (false :: ·) ++ (srt m).map (true :: ·)
def rsU : Nat → List (List Bool)
  | 0 => [[]]
  | m + 1 => (rsU m).map (· ++ [false]) ++ (rsU m).map (· ++ [true])
def bR (b : List Bool) : Dt := .tup (b.map db)
def pyB (b : List Bool) : PyData := .tuple (b.map PyData.bool)
abbrev leB (a b : List Bool) : Bool := PySem.W.dataLe false (fun x : Dt × PyData => x.2) (bR a, pyB a) (bR b, pyB b)
theorem nice_bR {n : Nat} (b : List Bool) : Nice (n + 1) (bR b) (pyB b) := .tup (niceA_map (fun _ => .bl) b)
theorem mem_srt : ∀ {m : Nat} {b : List Bool}, b ∈ srt m ↔ b.length = m
  | 0, b => by
    rw [srt, List.mem_singleton]
    exact ⟨fun h => by rw [h]; rfl, fun h => List.eq_nil_of_length_eq_zero h⟩
  | m + 1, b => by
    rw [srt, List.mem_append, List.mem_map, List.mem_map]
    constructor
    · rintro (⟨a, h, rfl⟩ | ⟨a, h, rfl⟩)
      · rw [List.length_cons, mem_srt.mp h]
      · rw [List.length_cons, mem_srt.mp h]
    · intro h
      cases b with
      | nil => cases h
      | cons x r =>
        have hr : r ∈ srt m := mem_srt.mpr (by rw [List.length_cons] at h; omega)
        cases x with
        | false => exact .inl ⟨r, hr, rfl⟩
        | true => exact .inr ⟨r, hr, rfl⟩
/-- which comes first -/
def Lx : List Bool → List Bool → Prop
  | x :: a, y :: b => (x = false ∧ y = true) ∨ (x = y ∧ Lx a b)
  | _, _ => False
theorem srt_lx : ∀ m, (srt m).Pairwise Lx
  | 0 => List.pairwise_singleton _ _
  | m + 1 => by
    rw [srt, List.pairwise_append, List.pairwise_map, List.pairwise_map]
    have h := srt_lx m
    refine ⟨h.imp fun z => .inr ⟨rfl, z⟩, h.imp fun z => .inr ⟨rfl, z⟩, fun a ha b hb => ?_⟩
    obtain ⟨a, _, rfl⟩ := List.mem_map.mp ha
    obtain ⟨b, _, rfl⟩ := List.mem_map.mp hb
    exact .inl ⟨rfl, rfl⟩
theorem rs_perm : ∀ m, m ≤ 5 → (rsU m).Perm (srt m)
  | 0, _ => by decide
  | 1, _ => by decide +kernel
  | 2, _ => by decide +kernel
  | 3, _ => by decide +kernel
  | 4, _ => by decide +kernel
  | 5, _ => by decide +kernel
  | m + 6, h => by omega
theorem srt_le : ∀ m, m ≤ 5 → (srt m).Pairwise fun a b => leB a b = true ∧ leB b a = false
  | 0, _ => by decide +kernel
  | 1, _ => by decide +kernel
  | 2, _ => by decide +kernel
  | 3, _ => by decide +kernel
  | 4, _ => by decide +kernel
  | 5, _ => by decide +kernel
  | m + 6, h => by omega
theorem len_rs : ∀ m, (rsU m).length = 2 ^ m
  | 0 => rfl
  | m + 1 => by rw [rsU, List.length_append, List.length_map, List.length_map, len_rs m, Nat.pow_succ]; omega
def xsR (m : Nat) : List (Dt × PyData) := (rsU m).map fun b => (bR b, pyB b)
theorem sort_rows {m : Nat} (hm : m ≤ 5) : ((xsR m).mergeSort (PySem.W.dataLe false (·.2))).map (·.1) = (srt m).map bR := by
  have h1 : ((xsR m).mergeSort (PySem.W.dataLe false (·.2))).Perm ((srt m).map fun b => (bR b, pyB b)) := (List.mergeSort_perm ..).trans ((rs_perm m hm).map _)
  have h2 : ((xsR m).mergeSort (PySem.W.dataLe false (·.2))).Pairwise fun a b => PySem.W.dataLe false (·.2) a b = true := PySem.W.sort_pairwise (PySem.W.sortLe_total _ _ _) _
  have h3 : ((srt m).map fun b => (bR b, pyB b)).Pairwise fun a b => PySem.W.dataLe false (fun x : Dt × PyData => x.2) a b = true := List.pairwise_map.mpr ((srt_le m hm).imp fun z => z.1)
  have e : (xsR m).mergeSort (PySem.W.dataLe false (·.2)) = (srt m).map fun b => (bR b, pyB b) := h1.eq_of_pairwise (le := fun a b => PySem.W.dataLe false (fun x : Dt × PyData => x.2) a b = true) (fun a b ha hb h4 h5 => ?_) h2 h3
  · rw [e, List.map_map]; rfl
  · have ha := h1.mem_iff.mp ha
    obtain ⟨x, hx, rfl⟩ := List.mem_map.mp ha
    obtain ⟨y, hy, rfl⟩ := List.mem_map.mp hb
    by_cases e : x = y
    · rw [e]
    exfalso
    obtain ⟨i, hi, rfl⟩ := List.getElem_of_mem hx
    obtain ⟨j, hj, rfl⟩ := List.getElem_of_mem hy
    have pw := List.pairwise_iff_getElem.mp (srt_le m hm)
    rcases Nat.lt_trichotomy i j with z | z | z
    · have := (pw i j hi hj z).2
      have h5 : leB (srt m)[j] (srt m)[i] = true := h5
      rw [h5] at this; cases this
    · subst z; exact e rfl
    · have := (pw j i hj hi z).2
      have h4 : leB (srt m)[i] (srt m)[j] = true := h4
      rw [h4] at this; cases this
end Law
end

section
set_option Elab.async false
set_option linter.all false
set_option maxRecDepth 100000
set_option maxHeartbeats 4000000
set_option autoImplicit false
namespace Law
open PySem PySem.Spec PyProof.Rows L2 Py
/-! ### the rows' names, the least row -/
def nmB (b : List Bool) : List Int := ((List.range b.length).filter fun k => b.getD k false).map fun (k : Nat) => (k : Int) + 1
theorem mem_nmB {b : List Bool} {n : Int} : n ∈ nmB b ↔ ∃ k : Nat, b[k]? = some true ∧ n = (k : Int) + 1 := by
  unfold nmB
  rw [List.mem_map]
  constructor
  · rintro ⟨k, hk, rfl⟩
    obtain ⟨h1, h2⟩ := List.mem_filter.mp hk
    have h1 := List.mem_range.mp h1
    refine ⟨k, ?_, rfl⟩
    rw [List.getD_eq_getElem?_getD, List.getElem?_eq_getElem h1] at h2
    rw [List.getElem?_eq_getElem h1]
    exact congrArg some h2
  · rintro ⟨k, hk, rfl⟩
    have h1 := (List.getElem?_eq_some_iff.mp hk).1
    exact ⟨k, List.mem_filter.mpr ⟨List.mem_range.mpr h1, by rw [List.getD_eq_getElem?_getD, hk]; rfl⟩, rfl⟩
theorem nmB_lt (b : List Bool) : (nmB b).Pairwise (· < ·) := by
  unfold nmB
  rw [List.pairwise_map]
  have : (List.range b.length).Pairwise (· < ·) := List.pairwise_lt_range
  exact (this.filter _).imp fun h => by omega
def bitsOf (m : Nat) (ns : List Int) : List Bool := (List.range m).map fun (k : Nat) => decide ((k : Int) + 1 ∈ ns)
theorem bits_get {m k : Nat} {ns : List Int} (h : k < m) : (bitsOf m ns)[k]? = some (decide ((k : Int) + 1 ∈ ns)) := by
  unfold bitsOf
  rw [List.getElem?_map, List.getElem?_range h]; rfl
theorem len_bits {m : Nat} {ns : List Int} : (bitsOf m ns).length = m := by unfold bitsOf; rw [List.length_map, List.length_range]
theorem lt_ext {a b : List Int} (ha : a.Pairwise (· < ·)) (hb : b.Pairwise (· < ·)) (h : ∀ m, m ∈ a ↔ m ∈ b) : a = b :=
  sorted_ext (ha.imp fun h => Int.le_of_lt h) (hb.imp fun h => Int.le_of_lt h) (ha.imp fun h => Int.ne_of_lt h) (hb.imp fun h => Int.ne_of_lt h) h
theorem nm_bits {m : Nat} {ns : List Int} (hs : ns.Pairwise (· < ·)) (hr : ∀ n ∈ ns, 0 < n ∧ n ≤ m) : nmB (bitsOf m ns) = ns := by
  refine lt_ext (nmB_lt _) hs fun n => ?_
  rw [mem_nmB]
  constructor
  · rintro ⟨k, hk, rfl⟩
    have hl := (List.getElem?_eq_some_iff.mp hk).1
    rw [len_bits] at hl
    rw [bits_get hl] at hk
    exact of_decide_eq_true (Option.some.inj hk)
  · intro h
    obtain ⟨h1, h2⟩ := hr n h
    refine ⟨(n - 1).toNat, ?_, by omega⟩
    rw [bits_get (by omega), decide_eq_true (by rw [show (((n - 1).toNat : Nat) : Int) + 1 = n by omega]; exact h)]
theorem lx_of : ∀ {a b : List Bool} {k : Nat}, (∀ j, j < k → a[j]? = b[j]?) → a[k]? = some false → b[k]? = some true → Lx a b
  | [], _, k, _, h, _ => by simp at h
  | _ :: _, [], k, _, _, h => by simp at h
  | x :: a, y :: b, 0, _, h1, h2 => .inl ⟨by simpa using h1, by simpa using h2⟩
  | x :: a, y :: b, k + 1, h, h1, h2 => .inr ⟨by simpa using h 0 (Nat.succ_pos _), lx_of (k := k) (fun j hj => by simpa using h (j + 1) (by omega)) (by simpa using h1) (by simpa using h2)⟩
theorem lx_asym : ∀ {a b : List Bool}, Lx a b → Lx b a → False
  | x :: a, y :: b, h1, h2 => by
    rcases h1 with ⟨rfl, rfl⟩ | ⟨rfl, h1⟩
    · rcases h2 with ⟨h, _⟩ | ⟨h, _⟩ <;> cases h
    · rcases h2 with ⟨h, h'⟩ | ⟨_, h2⟩
      · rw [h] at h'; cases h'
      · exact lx_asym h1 h2
  | [], _, h, _ => h.elim
  | _ :: _, [], h, _ => h.elim
theorem first_of {α : Type} {R : α → α → Prop} {L : List α} {Q : α → Bool} {x : α} (hp : L.Pairwise R) (has : ∀ a b, R a b → R b a → False) (hx : x ∈ L) (hq : Q x = true) (h : ∀ y ∈ L, Q y = true → y = x ∨ R x y) : ∃ r, L.filter Q = x :: r := by
  have hm : x ∈ L.filter Q := List.mem_filter.mpr ⟨hx, hq⟩
  have hp2 := hp.filter Q
  cases e : L.filter Q with
  | nil => rw [e] at hm; cases hm
  | cons y r =>
    rw [e] at hm hp2
    have hy : y ∈ L.filter Q := by rw [e]; exact List.mem_cons_self ..
    obtain ⟨y1, y2⟩ := List.mem_filter.mp hy
    rcases List.mem_cons.mp hm with rfl | hm
    · exact ⟨r, rfl⟩
    · rcases h y y1 y2 with rfl | h2
      · exact ⟨r, rfl⟩
      · exact (has _ _ h2 ((List.pairwise_cons.mp hp2).1 x hm)).elim
/-- the names of the clauses that do not hold always -/
def usedL (m : Nat) (cls0 : List (List Int)) : List Int := ((List.range m).map fun (k : Nat) => (k : Int) + 1).filter fun k => cls0.any fun one => (decide (k ∈ one) || decide (-k ∈ one)) && !taut one
def rowP (m : Nat) (cls0 : List (List Int)) (r : List Int) : Bool := (cls0.all fun ns => holdsB ns r) && r.all fun k => decide (k ∈ usedL m cls0)
def rowsN (m : Nat) : List (List Int) := (srt m).map nmB
section
variable {cls0 : List (List Int)} {m : Nat} (hc : ∀ ns ∈ cls0, strange ns = false ∧ ns.length < 10000) (hf : cls0.length ≤ 400) (hm : ∀ ns ∈ cls0, ∀ x ∈ ns, (x.natAbs : Int) ≤ m)
include hc hf hm
theorem used_iff {n : Int} : n ∈ usedL m cls0 ↔ n ∈ (vOf cls0).giv := by
  unfold usedL
  rw [List.mem_filter, List.mem_map]
  have eg : n ∈ (vOf cls0).giv ↔ ∃ c ∈ (vOf cls0).cls, ∃ x ∈ c, (x.natAbs : Int) = n := by
    show n ∈ canon (absF (vOf cls0).cls) ↔ _
    rw [mem_canon, absF_mem]
  rw [eg]
  constructor
  · rintro ⟨⟨k, _, rfl⟩, h⟩
    obtain ⟨one, h1, h2⟩ := List.any_eq_true.mp h
    rw [Bool.and_eq_true, Bool.or_eq_true, decide_eq_true_eq, decide_eq_true_eq] at h2
    have ht : taut one = false := by simpa using h2.2
    refine ⟨canon one, (cls_mem hc hf).mpr (List.mem_map.mpr ⟨one, h1, by unfold clauseO; rw [if_neg (by rw [ht]; decide)]⟩), ?_⟩
    rcases h2.1 with z | z
    · exact ⟨_, mem_canon.mpr z, by omega⟩
    · exact ⟨_, mem_canon.mpr z, by omega⟩
  · rintro ⟨c, h1, x, hx, rfl⟩
    obtain ⟨one, h2, e⟩ := List.mem_map.mp ((cls_mem hc hf).mp h1)
    have e2 := (clauseO_ok (hc one h2).1 e).2
    rw [e2] at hx
    have hx := mem_canon.mp hx
    have hle := hm one h2 x hx
    have h0 := (strange_iff.mp (hc one h2).1 x hx).1
    have ht : taut one = false := by
      unfold clauseO at e
      split at e
      · cases e
      · simp_all
    refine ⟨⟨x.natAbs - 1, List.mem_range.mpr (by omega), by omega⟩, List.any_eq_true.mpr ⟨one, h2, ?_⟩⟩
    rw [ht, Bool.not_false, Bool.and_true, Bool.or_eq_true, decide_eq_true_eq, decide_eq_true_eq]
    rcases Int.lt_or_gt_of_ne h0 with z | z
    · exact .inr (by rw [show -((x.natAbs : Nat) : Int) = x by omega]; exact hx)
    · exact .inl (by rw [show ((x.natAbs : Nat) : Int) = x by omega]; exact hx)
theorem rows_never (h : ∀ α, ¬ ∀ ns ∈ cls0, Sat α ns) : (rowsN m).filter (rowP m cls0) = [] := by
  rw [List.filter_eq_nil_iff]
  intro r _ hp
  unfold rowP at hp
  rw [Bool.and_eq_true, List.all_eq_true] at hp
  exact h _ fun ns hn => holds_iff.mp (hp.1 ns hn)
theorem rows_fits (h0 : [] ∉ (vOf cls0).cls) (h : (endW (vOf cls0)).1 = none) : (∃ r, (rowsN m).filter (rowP m cls0) = named (vOf cls0) (endW (vOf cls0)).2.tr :: r) ∧ (cls0.all fun ns => holdsB ns (named (vOf cls0) (endW (vOf cls0)).2.tr)) = true := by
  have V := vOf_ok hc hf
  obtain ⟨h1, h2⟩ := end_fits hc hf h0 h
  have ky := part_ky _ 0 S00 (Nat.zero_add (vOf cls0).giv.length) ⟨List.nodup_nil, fun p hp => by cases hp⟩
  have ky : Ky (vOf cls0) (endW (vOf cls0)).2.tr := ky
  have ui : ∀ n, n ∈ usedL m cls0 ↔ n ∈ (vOf cls0).giv := fun n => used_iff hc hf hm
  have gm : ∀ n ∈ (vOf cls0).giv, 0 < n ∧ n ≤ m := fun n hn => by
    refine ⟨(V.gp n hn).1, ?_⟩
    have := (ui n).mpr hn
    unfold usedL at this
    obtain ⟨k, hk, e⟩ := List.mem_map.mp (List.mem_filter.mp this).1
    have := List.mem_range.mp hk
    omega
  generalize hv : vOf cls0 = v at *
  generalize (endW v).2.tr = tr at *
  have ef : ∀ n, n ∈ named v tr ↔ asg tr n = true := fun n => by
    unfold named
    rw [List.mem_filter]
    constructor
    · exact fun z => z.2
    · intro z
      refine ⟨?_, z⟩
      unfold asg getB at z
      cases q : tr.find? fun q => decide (q.1 = n) with
      | none => rw [q] at z; cases z
      | some p =>
        have := List.find?_some (p := fun q : Int × Bool => decide (q.1 = n)) q
        have := of_decide_eq_true this
        rw [← this]
        exact ky.gi p (List.mem_of_find?_eq_some q)
  have ea : (fun n => decide (n ∈ named v tr)) = asg tr := by
    funext n
    rw [Bool.eq_iff_iff, decide_eq_true_eq]
    exact ef n
  have hall : (cls0.all fun ns => holdsB ns (named v tr)) = true := List.all_eq_true.mpr fun ns hn => holds_iff.mpr (by rw [ea]; exact h1 ns hn)
  refine ⟨?_, hall⟩
  have hs : (named v tr).Pairwise (· < ·) := V.gs.filter _
  have hsub : ∀ n ∈ named v tr, n ∈ v.giv := fun n hn => (List.mem_filter.mp hn).1
  have hnb : nmB (bitsOf m (named v tr)) = named v tr := nm_bits hs fun n hn => gm n (hsub n hn)
  obtain ⟨r, hr⟩ := first_of (R := Lx) (Q := fun b => rowP m cls0 (nmB b)) (srt_lx m) (fun a b => lx_asym) (mem_srt.mpr len_bits : bitsOf m (named v tr) ∈ srt m) (by
    show rowP m cls0 (nmB _) = true
    rw [hnb]
    unfold rowP
    rw [hall, Bool.true_and, List.all_eq_true]
    exact fun k hk => decide_eq_true ((ui k).mpr (hsub k hk))) (fun b hb hq => by
    have hq : rowP m cls0 (nmB b) = true := hq
    unfold rowP at hq
    rw [Bool.and_eq_true, List.all_eq_true, List.all_eq_true] at hq
    have lb := mem_srt.mp hb
    have sub : ∀ n ∈ nmB b, n ∈ v.giv := fun n hn => (ui n).mp (of_decide_eq_true (hq.2 n hn))
    have bit : ∀ k, k < m → b[k]? = some (decide ((k : Int) + 1 ∈ nmB b)) := fun k hk => by
      have e := List.getElem?_eq_getElem (l := b) (i := k) (by omega)
      rw [e]
      congr 1
      rw [Bool.eq_iff_iff, decide_eq_true_eq, mem_nmB]
      constructor
      · intro z; exact ⟨k, by rw [e, z], rfl⟩
      · rintro ⟨j, hj, ej⟩
        obtain rfl : k = j := by omega
        rw [e] at hj
        exact Option.some.inj hj
    rcases h2 (fun n => decide (n ∈ nmB b)) (fun ns hn => holds_iff.mp (hq.1 ns hn)) with z | ⟨j, n0, _, hj, f1, f2, f3⟩
    · refine .inl ?_
      have e : nmB b = named v tr := lt_ext (nmB_lt b) hs fun n => by
        by_cases hg : n ∈ v.giv
        · obtain ⟨i, hi⟩ := List.getElem?_of_mem hg
          have := z i n (Nat.zero_le _) hi
          rw [ef n, ← this, decide_eq_true_eq]
        · exact ⟨fun w => absurd (sub n w) hg, fun w => absurd (hsub n w) hg⟩
      apply List.ext_getElem?
      intro k
      by_cases hk : k < m
      · rw [bit k hk, bits_get hk, e]
      · rw [List.getElem?_eq_none (by omega), List.getElem?_eq_none (by rw [len_bits]; omega)]
    · refine .inr ?_
      obtain ⟨g1, g2⟩ := gm n0 (List.mem_of_getElem? hj)
      have n0b : n0 ∈ nmB b := of_decide_eq_true f2
      have n0f : n0 ∉ named v tr := fun z => by rw [(ef n0).mp z] at f1; cases f1
      have en : (((n0 - 1).toNat : Nat) : Int) + 1 = n0 := by omega
      refine lx_of (k := (n0 - 1).toNat) (fun i hi => ?_) ?_ ?_
      · have hi2 : i < m := by omega
        rw [bit i hi2, bits_get hi2]
        congr 1
        refine decide_eq_decide.mpr ?_
        by_cases hg : (i : Int) + 1 ∈ v.giv
        · obtain ⟨i', hi'⟩ := List.getElem?_of_mem hg
          have lt : i' < j := by
            refine Classical.byContradiction fun w => ?_
            obtain ⟨l1, e1⟩ := List.getElem?_eq_some_iff.mp hi'
            obtain ⟨l2, e2⟩ := List.getElem?_eq_some_iff.mp hj
            rcases Nat.lt_or_ge j i' with w2 | w2
            · have := List.pairwise_iff_getElem.mp V.gs j i' l2 l1 w2
              omega
            · obtain rfl : i' = j := by omega
              omega
          have := f3 i' _ (Nat.zero_le _) lt hi'
          rw [ef, ← this, decide_eq_true_eq]
        · exact ⟨fun w => absurd (hsub _ w) hg, fun w => absurd (sub _ w) hg⟩
      · rw [bits_get (by omega), en, decide_eq_false n0f]
      · rw [bit _ (by omega), en, decide_eq_true n0b])
  refine ⟨r.map nmB, ?_⟩
  unfold rowsN
  rw [List.filter_map, show (rowP m cls0 ∘ nmB) = fun b => rowP m cls0 (nmB b) from rfl, hr, List.map_cons, hnb]
end
end Law
end

section
set_option Elab.async false
set_option linter.all false
set_option maxRecDepth 100000
set_option maxHeartbeats 4000000
set_option autoImplicit false
set_option exponentiation.threshold 100
namespace Py
open PySem PySem.Spec PyProof.Rows L2
/-! ### the end: a law's promise -/
def spLaw (K : Frg) (T : List (Addr × Str)) : Sp := fun vs H Q _ => ∃ (a : Addr) (ns : List Int), vs = [.ref a] ∧ SqL K H a (ns.map V.int) ∧ ns.length ≤ 63 ∧ (∀ z ∈ ns, Sz 1048576 z) ∧ LamX.Tabs T H ∧ ∀ H', Q (.bl true) H'
theorem sz_bits {z : Int} (h : Builtin.Int.intBits z ≤ 1048576) : Sz 1048576 z := by
  unfold Builtin.Int.intBits at h
  unfold Sz
  by_cases e : z = 0
  · subst e
    exact Nat.pow_pos (by decide)
  · have e' : (z == 0) = false := by simpa using e
    rw [e', if_neg (by decide)] at h
    have : z.natAbs < 2 ^ (z.natAbs.log2 + 1) := Nat.lt_log2_self
    exact Nat.lt_of_lt_of_le this (Nat.pow_le_pow_right (by decide) h)
def tfOf (fs : List Str) : List He.Defn := fs.map fun f => (f, none)
theorem walk_mine {l : PySem.W.OpenLaw} {k : Nat} {q : Program} {loose : List Str} {XP : (Str → Option Value) → Heap → Prop} {d : DefRec} {x nm : Str} {N : Nat} {fa : List He.Fa} {fn : List He.DefD} {fs : List Str} {ex : PySem.W.Frag → Bool} {st : Stmt}
    (hn : l.most = some 63) (hdf : d.params.defaults = []) (hr : Room k callerA) (hd : d.name = nm) (hl : He.Fa.glo nm ∈ fa) (hdef : (⟨(nm, none), nm, nm, defArgs st, defBody st, defScope st, [], []⟩ : He.DefD) ∈ fn)
    (hb : ∀ (kV doc pm : Value) (an : Option Addr) (cdv ct : Value) (us : List Value), us.length = 1 → bindArgs (PySem.W.fnOf nm nm (defArgs st) (defBody st) (defScope st) .none kV doc pm an cdv ct) ⟨us, []⟩ = pure ([x].zip us))
    (nd : ∀ K, ex K = true → (fs.map fun f => (He.cT K (f, none)).2).Nodup)
    (F : ∀ (w : World) (K : Frg) (mg : Str → Option Value) (base : Heap), K.In base → base.Ns mainGlobals mg → He.SaysD fa fn K → ex K = true → (∀ f ∈ fs, LamB K base mg (tabL K fs) f) →
      ∀ fd, FunD K nm nm (defArgs st) (defBody st) (defScope st) [] [] (He.ga K nm) fd → FnOk l.prog w K mg base (L2.CX l.prog w) k (He.ga K nm) fd [x] (spLaw K (tabL K fs))) :
    PySem.W.WalkO q loose XP (He.hookX N fa fn [] (tfOf fs) ex).says l.row.toRowW d [] (fun f vs => PySem.call f vs) := by
  refine LamX.walk_ofTsE (n := 63) (k := k) (CX := fun w => L2.CX l.prog w) (x := x) hn (by decide) hdf hr (fun w mg f h Y G hmg => ?_) ?_
  · obtain ⟨K, KX, c⟩ := Y
    have cd : He.SaysD fa fn K := congrArg (fun z : He.AlT => z.1) c.t
    obtain ⟨fd, FD⟩ := cd.defs hdef
    have e := hmg.symm.trans ((congrArg mg hd).trans (He.glo_ok KX G (cd.facts hl)))
    cases e
    refine ⟨K, KX, fd, (tfOf fs).map (He.cT K), spLaw K (tabL K fs), fun p hp => ?_, fun p hp => ?_, fun p hp => ?_, fun s u => ?_, fun H a ns h1 h2 h3 h4 => ?_, fun base hB nB hT => ?_⟩
    · obtain ⟨p2, hp2, rfl⟩ := List.mem_map.mp hp
      exact c.empty p2 hp2
    · obtain ⟨p2, hp2, rfl⟩ := List.mem_map.mp hp
      exact c.out p2 hp2
    · obtain ⟨p2, hp2, rfl⟩ := List.mem_map.mp hp
      exact PySem.W.codeHd_of_K KX (c.hd p2 hp2)
    · have b := FunD.bindsA (ps := [x]) FD hb
      exact b s [u] rfl
    · refine ⟨a, ns, rfl, h4, h1, fun z hz => sz_bits (h2 z hz), fun p hp => ?_, fun _ => rfl⟩
      obtain ⟨f, hf, rfl⟩ := List.mem_map.mp hp
      exact LamX.TabS.nil (h3 (He.cT K (f, none)) (List.mem_map.mpr ⟨(f, none), List.mem_map.mpr ⟨f, hf, rfl⟩, rfl⟩))
    · exact F w K mg base hB nB cd c.more (fun f hf => ⟨hT _ (List.mem_map.mpr ⟨(f, none), List.mem_map.mpr ⟨f, hf, rfl⟩, rfl⟩), tabL_mem hf, tabL_one (nd K c.more) hf⟩) fd FD
  · rintro w H s e s' ⟨a, B, H', cls, d', _, _, _, _, _, _, _, z⟩
    exact z
end Py
end

section
set_option Elab.async false
set_option linter.all false
set_option maxRecDepth 100000
set_option maxHeartbeats 4000000
set_option autoImplicit false
set_option exponentiation.threshold 300
namespace Law
open PySem PySem.Spec PyProof.Rows L2 Py

local macro_rules | `(tactic| wtm_at "op") => `(tactic| first
  | with_reducible exact o_I0 | with_reducible exact o_add | with_reducible exact o_eqI | with_reducible exact o_neI
  | ((with_reducible apply o_mul); first | assumption | wtm_at "si")
  | ((with_reducible apply o_I); first | assumption | wtm_at "si")
  | ((with_reducible apply o_ixT); rfl) | ((with_reducible apply o_ixL); rfl)
  | ((with_reducible apply o_eqD) <;> first | rfl | decide | assumption) | ((with_reducible apply o_neD) <;> first | rfl | decide | assumption)
  | with_reducible assumption)
local macro_rules | `(tactic| wtm_at "si") => `(tactic| first | decide | exact ⟨by decide, by decide +kernel⟩ | omega)
local macro_rules | `(tactic| wtm_at "ev") => `(tactic| first
  | ((with_reducible apply e_var); rfl) | with_reducible exact e_c | with_reducible exact a_nil
  | ((with_reducible apply a_cons) <;> wtm_at "ev")
  | ((with_reducible apply e_bin) <;> first | wtm_at "ev" | wtm_at "op")
  | ((with_reducible apply e_ixO) <;> first | rfl | wtm_at "ev")
  | ((with_reducible apply e_U) <;> wtm_at "ev")
  | ((with_reducible apply t_test) <;> wtm_at "ev")
  | ((with_reducible apply t_B) <;> wtm_at "ev")
  | ((with_reducible apply t_not) <;> wtm_at "ev")
  | ((with_reducible apply e_tup) <;> first | wtm_at "ev" | exact Nat.le_of_ble_eq_true rfl)
  | ((with_reducible apply e_lst) <;> first | wtm_at "ev" | exact Nat.le_of_ble_eq_true rfl)
  | ((with_reducible apply e_gcd) <;> wtm_at "ev")
  | ((with_reducible apply e_abs) <;> wtm_at "ev")
  | ((with_reducible apply e_max2) <;> wtm_at "ev")
  | ((with_reducible apply e_int) <;> wtm_at "ev")
  | ((with_reducible apply e_intB) <;> wtm_at "ev")
  | ((with_reducible apply e_bits) <;> wtm_at "ev")
  | ((with_reducible apply e_not) <;> wtm_at "ev")
  | with_reducible assumption)

abbrev s__law_told : Stmt := top 16
theorem sc__law_told : FnScope ["what"] ["what"] (defScope s__law_told) := ⟨rfl, rfl, rfl, by decide +kernel, rfl, by decide +kernel, by decide +kernel⟩
abbrev s_law : Stmt := top 19
abbrev NL : List Str := ["script", "dice", "many", "clauses", "k", "j", "rows", "row", "used", "one", "due", "word", "found", "spot", "name", "other", "more", "bent", "steps", "left", "right", "number", "rest", "bad", "a", "b", "c", "f"]
theorem sc_law : FnScope NL ["script"] (defScope s_law) := ⟨rfl, rfl, rfl, by decide +kernel, rfl, by decide +kernel, by decide +kernel⟩
/-- the body of a def's first loop -/
def bodyF : Stmt → List Stmt
  | .For _ _ b _ _ => b
  | _ => []
structure GS (P : Program) (w : World) (K : Frg) (T : List (Addr × Str)) (mg : Str → Option Value) (base : Heap) : Prop where
  G_clause_of : Gd P w K mg base "clause_of" ["numbers"] 1 (spD K T (sp_clause K))
  G_joined_clauses : Gd P w K mg base "joined_clauses" ["one", "other", "name"] 2 (spD K T (sp_join K))
  G_holds_by : Gd P w K mg base "holds_by" ["clause", "names"] 1 (spD K T sp_holds)
  G_check_steps : Gd P w K mg base "check_steps" ["clauses", "steps"] 3 (spD K T (sp_check K))
  G__law_true : Gd P w K mg base "_law_true" ["clause", "names"] 1 (spD K T sp_true)
  G__law_proved : Gd P w K mg base "_law_proved" ["clauses", "steps"] 1 (spD K T sp_proved)
  G_solve : Gm P w K mg base (SV K) "solve" 23 (spS K T (gSolve K 9))
  G_Solver : Gk P w K mg base "Solver" (SV K) 2 (spS K T (gInit K))
  G__law_roll : Gd P w K mg base "_law_roll" ["dice", "many"] 1 (spRoll K T)
  G__law_rounds : Gd P w K mg base "_law_rounds" ["script", "most"] 2 (spRounds K T)
  F_told : ∃ fd, FunD K "_law_told" "_law_told" (defArgs s__law_told) (defBody s__law_told) (defScope s__law_told) [] [] (He.ga K "_law_told") fd
  hm_told : mg "_law_told" = some (.ref (He.ga K "_law_told"))
theorem told_body : ∃ p1 p2 p3 p4 p5 p6 p7 p8 j, defBody s__law_told = [.Try [.Return (some (.Call (.Name "what" p1) [] [] p2)) p3] [.ExceptHandler (some (.Name "SolveError" p4)) none [.Return (some (.Constant (.str "SolveError") j p5)) p6] p7] [] [] p8] := ⟨_, _, _, _, _, _, _, _, _, rfl⟩
theorem told_look : (defScope s__law_told).names.lookup ("SolveError" : Str) = some .globalImplicit := by decide +kernel
theorem told_bind : ∀ (kV doc pm : Value) (an : Option Addr) (cdv ct : Value) (us : List Value), us.length = 1 → bindArgs (PySem.W.fnOf "_law_told" "_law_told" (defArgs s__law_told) (defBody s__law_told) (defScope s__law_told) .none kV doc pm an cdv ct) ⟨us, []⟩ = pure ((["what"] : List Str).zip us) := fun _ _ _ _ _ _ us hl => match us, hl with | [_], _ => rfl
theorem told_vis : Vis (defScope s__law_told) "what" := Or.inl rfl
theorem pe_toldN {X : Cx} {T : List (Addr × Str)} {CS : Addr} {f : Str} {k : Nat} {params : Arguments} {body : Expr} {scope : Scope} {t : XK → TE} {p lpos pos : Pos}
    (F : ∃ fd, FunD X.K "_law_told" "_law_told" (defArgs s__law_told) (defBody s__law_told) (defScope s__law_told) [] [] (He.ga X.K "_law_told") fd) (hm : X.mg "_law_told" = some (.ref (He.ga X.K "_law_told"))) (hme : X.mg "SolveError" = some (.ref CS))
    (LB : LamB X.K X.base X.mg T f) (hq : X.env.qual ++ "<lambda>" = lamQ f) (hcode : X.env.code = .ref (He.cT X.K (f, none)).1) (hr : Room (k + 2) X.A) (L : LamX.LamS X.env.scope scope) (hdef : defaultsOf params X.env = ([], []))
    (hbind : ∀ (q : Str) (cl : List (Str × Addr)) (pm cv ctv : Value), bindArgs (PySem.W.kla_fn "<lambda>" q params body scope cl pm cv ctv) ⟨[], []⟩ = pure [])
    (hbody : ∀ (A : Around) (outer : List Env) (s : Shared) (H : Hp) (E : XK) (f c' : Addr), Room k (A.deeper (LamX.lamEnv X scope s.heap.objs.size f c')) → PE (LamX.lamCx X A outer s H E scope f c') body (t E)) (hg : Gl X "_law_told" := by rfl) :
    PE X (.Call (.Name "_law_told" p) [.Lambda params body scope lpos] [] pos) (LamX.tLam T (LamX.TTold X.K CS "SolveError") t) := by
  obtain ⟨p1, p2, p3, p4, p5, p6, p7, p8, j, e⟩ := told_body
  exact pe_told F hm e sc__law_told told_vis told_look (by decide) hme told_bind LB hq hcode hr L hdef hbind hbody hg
theorem pe_toldW {X : Cx} {CS : Addr} {k i : Nat} {y q : Str} {LT : List LamD} {p p9 pos : Pos}
    (F : ∃ fd, FunD X.K "_law_told" "_law_told" (defArgs s__law_told) (defBody s__law_told) (defScope s__law_told) [] [] (He.ga X.K "_law_told") fd) (hm : X.mg "_law_told" = some (.ref (He.ga X.K "_law_told"))) (hme : X.mg "SolveError" = some (.ref CS))
    (hq : X.env.qual ++ "<lambda>" = q) (hr : Room (k + 2) X.A) (ok : ∀ l ∈ LT, LamOk X k l) (hv : PE X (.Name y p9) (tVar i)) (hg : Gl X "_law_told" := by rfl) :
    PE X (.Call (.Name "_law_told" p) [.Name y p9] [] pos) (tToldV X.K q i CS "SolveError" LT) := by
  obtain ⟨p1, p2, p3, p4, p5, p6, p7, p8, j, e⟩ := told_body
  exact pe_toldV F hm e sc__law_told told_vis told_look (by decide) hme told_bind hq hr ok hv hg
/-- the loop's body -/
abbrev LBd : List Stmt := bodyF ((defBody s_law).getD 0 (.Pass ⟨0, 0, 0, 0⟩))
/-- where the law's body is read -/
abbrev XL (P : Program) (w : World) (K : Frg) (mg : Str → Option Value) (base : Heap) (A0 : Around) (outer : List Env) (s0 : Shared) (H0 : Hp) (E : XK) : Cx := cxOf (L2.CX P w) P w K mg base NL "law" (defScope s_law) (He.ga K "law") (.ref (He.cT K ("law", none)).1) A0 outer s0 H0 E
/-- a turn's end: the script is still there -/
structure IL (S0 : SD) (A : AS) : Prop where
  ln : A.sl.length = 28
  h0 : A.sl[0]? = some S0
  cl : Clo A.st
def PF (S0 : SD) : Po := { nx := IL S0, ct := IL S0, bk := IL S0 }
theorem exL : ∀ l : List SD, l.length = 28 → ∃ v0 v1 v2 v3 v4 v5 v6 v7 v8 v9 v10 v11 v12 v13 v14 v15 v16 v17 v18 v19 v20 v21 v22 v23 v24 v25 v26 v27, l = [v0, v1, v2, v3, v4, v5, v6, v7, v8, v9, v10, v11, v12, v13, v14, v15, v16, v17, v18, v19, v20, v21, v22, v23, v24, v25, v26, v27]
  | [v0, v1, v2, v3, v4, v5, v6, v7, v8, v9, v10, v11, v12, v13, v14, v15, v16, v17, v18, v19, v20, v21, v22, v23, v24, v25, v26, v27], _ => ⟨v0, v1, v2, v3, v4, v5, v6, v7, v8, v9, v10, v11, v12, v13, v14, v15, v16, v17, v18, v19, v20, v21, v22, v23, v24, v25, v26, v27, rfl⟩

end Law
end

section
set_option Elab.async false
set_option linter.all false
set_option maxRecDepth 100000
set_option maxHeartbeats 4000000
set_option autoImplicit false
namespace Py
open PySem PySem.Spec PyProof.Rows L2
/-! ### what is no longer asked of a slot -/
inductive Wk : List SD → List SD → Prop
  | nil : Wk [] []
  | same {a : SD} {l m : List SD} (h : Wk l m) : Wk (a :: l) (a :: m)
  | un {a : SD} {l m : List SD} (h : Wk l m) : Wk (.un :: l) (a :: m)
theorem Wk.len {l m : List SD} (h : Wk l m) : l.length = m.length := by
  induction h with
  | nil => rfl
  | same h ih => rw [List.length_cons, List.length_cons, ih]
  | un h ih => rw [List.length_cons, List.length_cons, ih]
theorem Wk.get {l m : List SD} (h : Wk l m) : ∀ {i : Nat} {s : SD}, l[i]? = some s → s = .un ∨ m[i]? = some s := by
  induction h with
  | nil => intro i s e; simp at e
  | same h ih =>
    intro i s e
    cases i with
    | zero => exact .inr e
    | succ i => simpa using ih (by simpa using e)
  | un h ih =>
    intro i s e
    cases i with
    | zero => exact .inl (by simpa using e.symm)
    | succ i => simpa using ih (by simpa using e)
theorem Ok.wk {C : Ct} {os : List (Option Addr)} {sl sl' : List SD} {st : List OD} {σ : Sg} {H : Hp} (h : Wk sl' sl) (k : Ok C os ⟨sl, st⟩ σ H) : Ok C os ⟨sl', st⟩ σ H :=
  ⟨k.ex, k.tb, k.ol, k.dj, k.ln, k.nd, k.fr, by rw [k.sn]; exact h.len.symm, fun i s o h1 h2 => by
    have h1 : sl'[i]? = some s := h1
    rcases h.get h1 with rfl | z
    · exact True.intro
    · exact k.sl i s o z h2, k.st⟩
theorem r_wk {C : Ct} {E : XK} {t : TS} {P : Po} {sl sl' : List SD} {st : List OD} (h : Wk sl' sl) (r : RunS C E t ⟨sl', st⟩ P) : RunS C E t ⟨sl, st⟩ P := fun os σ H D k T => r os σ H D (k.wk h) T
theorem DOk.up {c c' : Nat} {d : Dice} (h : DOk c d) (hc : c ≤ c') : DOk c' d := ⟨h.x, Nat.le_trans h.y (by omega)⟩
/-- a method that no input reaches -/
theorem gm_none {P : Program} {w : World} {K : Frg} {T : List (Addr × Str)} {mg : Str → Option Value} {base : Heap} {m q : Str} {params : Arguments} {body : List Stmt} {scope : Scope} {ps : List Str} {k : Nat} {a Cl : Addr}
    (F : ∃ fd, FunD K m q params body scope [] [] a fd) (hm : Meth K Cl m a) (cl : Cls K Cl)
    (hb : ∀ (kV doc pm : Value) (an : Option Addr) (cdv ct : Value) (us : List Value), us.length = ps.length → bindArgs (PySem.W.fnOf m q params body scope .none kV doc pm an cdv ct) ⟨us, []⟩ = pure (ps.zip us)) : Gm P w K mg base Cl m k (spS K T fun _ _ _ => False) := by
  obtain ⟨fd, F⟩ := F
  exact ⟨⟨a, fd, ps, ⟨fun vs H Q E ⟨_, _, _, _, _, _, _, z, _⟩ => z.elim, fun A outer s H args us vs Q E _ _ _ _ ⟨_, _, _, _, _, _, _, z, _⟩ => z.elim⟩, F.bindsN hb, hm⟩, cl⟩
end Py
end

section
set_option Elab.async false
set_option linter.all false
set_option maxRecDepth 100000
set_option maxHeartbeats 4000000
set_option autoImplicit false
set_option exponentiation.threshold 300
namespace Law
open PySem PySem.Spec PyProof.Rows L2 Py

local macro_rules | `(tactic| wtm_at "op") => `(tactic| first
  | with_reducible exact o_I0 | with_reducible exact o_add | with_reducible exact o_eqI | with_reducible exact o_neI
  | ((with_reducible apply o_mul); first | assumption | wtm_at "si")
  | ((with_reducible apply o_I); first | assumption | wtm_at "si")
  | ((with_reducible apply o_ixT); rfl) | ((with_reducible apply o_ixL); rfl)
  | ((with_reducible apply o_eqD) <;> first | rfl | decide | assumption) | ((with_reducible apply o_neD) <;> first | rfl | decide | assumption)
  | with_reducible assumption)
local macro_rules | `(tactic| wtm_at "si") => `(tactic| first | decide | exact ⟨by decide, by decide +kernel⟩ | omega)
local macro_rules | `(tactic| wtm_at "ev") => `(tactic| first
  | ((with_reducible apply e_var); rfl) | with_reducible exact e_c | with_reducible exact a_nil
  | ((with_reducible apply a_cons) <;> wtm_at "ev")
  | ((with_reducible apply e_bin) <;> first | wtm_at "ev" | wtm_at "op")
  | ((with_reducible apply e_ixO) <;> first | rfl | wtm_at "ev")
  | ((with_reducible apply e_U) <;> wtm_at "ev")
  | ((with_reducible apply t_test) <;> wtm_at "ev")
  | ((with_reducible apply t_B) <;> wtm_at "ev")
  | ((with_reducible apply t_not) <;> wtm_at "ev")
  | ((with_reducible apply e_tup) <;> first | wtm_at "ev" | exact Nat.le_of_ble_eq_true rfl)
  | ((with_reducible apply e_lst) <;> first | wtm_at "ev" | exact Nat.le_of_ble_eq_true rfl)
  | ((with_reducible apply e_gcd) <;> wtm_at "ev")
  | ((with_reducible apply e_abs) <;> wtm_at "ev")
  | ((with_reducible apply e_max2) <;> wtm_at "ev")
  | ((with_reducible apply e_int) <;> wtm_at "ev")
  | ((with_reducible apply e_intB) <;> wtm_at "ev")
  | ((with_reducible apply e_bits) <;> wtm_at "ev")
  | ((with_reducible apply e_not) <;> wtm_at "ev")
  | with_reducible assumption)

variable {P : Program} {w : World} {K : Frg} {T : List (Addr × Str)} {mg : Str → Option Value} {base : Heap} {A0 : Around} {outer : List Env} {s0 : Shared} {H0 : Hp} {E : XK}

/-! the dice's clauses -/
abbrev dN (n : Nat) : Dt := di (n : Int)
def cntV (d : Dice) : Int := if rollV d 6 = 0 then rollV (rollD d 6) 4 else 1 + rollV (rollD d 6) 3
def cntD (d : Dice) : Dice := if rollV d 6 = 0 then rollD (rollD d 6) 4 else rollD (rollD d 6) 3
def sgn (i : Int) : Int := if i = 0 then 1 else -1
def litV (a m : Int) (d : Dice) : Int := (a + rollV d m) * sgn (rollV (rollD d m) 2)
def litD (m : Int) (d : Dice) : Dice := rollD (rollD d m) 2
def litsD (m : Int) (d : Dice) : Nat → Dice
  | 0 => d
  | i + 1 => litD m (litsD m d i)
def litsV (a m : Int) (d : Dice) (n : Nat) : List Int := (List.range n).map fun (i : Nat) => litV a m (litsD m d i)
theorem litsV_snoc (a m : Int) (d : Dice) (n : Nat) : litsV a m d (n + 1) = litsV a m d n ++ [litV a m (litsD m d n)] := by
  unfold litsV
  rw [List.range_succ, List.map_append]; rfl
theorem litsD_ok {m : Int} {d : Dice} {c : Nat} (h : DOk c d) (hm : 0 < m) : ∀ i, DOk (c + 2 * i) (litsD m d i)
  | 0 => h
  | i + 1 => (roll_ok (roll_ok (litsD_ok h hm i) hm) (by decide)).up (by omega)
theorem sgn_ix (d : Dice) : atI [di 1, di (-1)] (rollV d 2) = some (di (sgn (rollV d 2))) := by
  have := roll_lt (d := d) (m := 2) (by decide)
  generalize rollV d 2 = i at *
  have : i = 0 ∨ i = 1 := by omega
  rcases this with rfl | rfl <;> rfl
theorem litV_ok {a m : Int} {d : Dice} (ha : 0 < a) (hm : 0 < m) : litV a m d ≠ 0 ∧ ((litV a m d).natAbs : Int) ≤ a + m - 1 ∧ a ≤ ((litV a m d).natAbs : Int) := by
  have h := roll_lt (d := d) hm
  unfold litV sgn
  split
  · rw [Int.mul_one]; omega
  · rw [Int.mul_neg, Int.mul_one]; omega
structure ClsOk (m : Nat) (cls0 : List (List Int)) : Prop where
  len : cls0.length ≤ 18
  len3 : ∀ ns ∈ cls0, ns.length ≤ 3
  nm : ∀ ns ∈ cls0, ∀ x ∈ ns, x ≠ 0 ∧ (x.natAbs : Int) ≤ m
theorem e_ifb {C : Ct} {A A1 A2 : AS} {tt : TT} {ta tb : TE} {d : Dt} {b : Bool} (hc : EvT C tt A b A1) (h1 : b = true → EvS C ta A1 d A2) (h2 : b = false → EvS C tb A1 d A2) : EvS C (tIf tt ta tb) A d A2 := by
  cases b with
  | true => exact e_ifT hc (h1 rfl)
  | false => exact e_ifF hc (h2 rfl)
def Inv0 (S0 : SD) (A : AS) : Prop := ∃ d : Dice, (∃ x, S0 = .d x) ∧ A.sl.length = 28 ∧ A.sl[0]? = some S0 ∧ A.sl[1]? = some (.own 0) ∧ A.st = [.lst d.ds] ∧ DOk 0 d
def InvA (S0 : SD) (A : AS) : Prop := ∃ (d : Dice) (m : Nat) (cls0 : List (List Int)), (∃ x, S0 = .d x) ∧ DOk 400 d ∧ 1 ≤ m ∧ m ≤ 5 ∧ ClsOk m cls0 ∧ A = ⟨[S0, .own 0, .d (dN m), .d (.lst (cls0.map nsD)), .un, .un, .un, .un, .un, .un, .un, .un, .un, .un, .un, .un, .un, .un, .un, .un, .un, .un, .un, .un, .un, .un, .un, .un], [.lst d.ds, .gone]⟩
theorem sz5 {m : Int} (h : m.natAbs < 2 ^ 20) : Sz 8000 m := Nat.lt_of_lt_of_le h (Nat.pow_le_pow_right (by decide) (by decide))

theorem segA (Z : GS P w K T mg base) (Tx : Txt K mg) (LB : LamB K base mg T "law") (hr : Room 30 (XL P w K mg base A0 outer s0 H0 E).A)
    (next : ∃ t, PSs (XL P w K mg base A0 outer s0 H0 E) (LBd.drop 2) t ∧ ∀ S0 O A, InvA S0 A → RunS ⟨K, T, H0, O⟩ E t A (PF S0)) :
    ∃ t, PSs (XL P w K mg base A0 outer s0 H0 E) (LBd.drop 0) t ∧ ∀ S0 O A, Inv0 S0 A → RunS ⟨K, T, H0, O⟩ E t A (PF S0) := by
  obtain ⟨t', h', r0'⟩ := next
  have sc := sc_law
  refine ⟨_, (pss_cons (ps_asg (pe_tup (pa_cons (pe_op op_addA pe_int (pe_callG Z.G__law_roll (hr.mono (by decide)) psE (pa_cons (pv 1) (pa_cons pe_int pa_nil)))) (pa_cons (pe_lst pa_nil) pa_nil))) (pg_tup rfl (pgs_cons (pg_name (i := 2) sc.nd rfl (Or.inr rfl)) (pgs_cons (pg_name (i := 3) sc.nd rfl (Or.inr rfl)) pgs_nil))))
  (pss_cons (ps_for (passesE) rfl (pi_range1 rfl Tx.n_range (pa_cons (pe_callG Z.G__law_roll (hr.mono (by decide)) psE (pa_cons (pv 1) (pa_cons pe_int pa_nil))) pa_nil)) (pg_name (i := 4) sc.nd rfl (Or.inl rfl)) (pss_one (ps_expr (pe_bm PySem.F.plainAttrs_list PySem.F.slot_list_append PySem.F.type_list_append mt_append (pv 3) (pa_cons (pe_lc (own := [("j", 5)]) rfl sc.nd (pi_range1 rfl Tx.n_range (pa_cons (pe_ifExp (pt_cmpR (op_eqA hr.units) (pe_callG Z.G__law_roll (hr.mono (by decide)) psE (pa_cons (pv 1) (pa_cons pe_int pa_nil))) pe_int (nomark _)) (pe_callG Z.G__law_roll (hr.mono (by decide)) psE (pa_cons (pv 1) (pa_cons pe_int pa_nil))) (pe_op op_addA pe_int (pe_callG Z.G__law_roll (hr.mono (by decide)) psE (pa_cons (pv 1) (pa_cons pe_int pa_nil))))) pa_nil)) (blkOk_by (own := [("j", 5)]) (N := ["script", "dice", "many", "clauses", "k", "j", "rows", "row", "used", "one", "due", "word", "found", "spot", "name", "other", "more", "bent", "steps", "left", "right", "number", "rest", "bad", "a", "b", "c", "f"]) (sc := defScope s_law) (by decide +kernel)) (fun _ _ _ _ _ => (pg_name (i := 5) sc.nd rfl (Or.inl rfl))) (fun _ _ _ _ _ => pts_nil) (fun _ _ _ _ _ => (pe_op (op_mulAK (K := K) rfl) (pe_op (op_addAK (K := K) rfl) pe_int (pe_callG Z.G__law_roll (hr.mono (by decide)) passL (pa_cons (pv 1) (pa_cons (pv 2) pa_nil)))) (pe_ix (ix_seqK (K := K) rfl) (pe_lst (pa_cons pe_int (pa_cons (pe_un un_neg pe_int) pa_nil))) (pe_callG Z.G__law_roll (hr.mono (by decide)) passL (pa_cons (pv 1) (pa_cons pe_int pa_nil))) (fun _ _ => rfl))))) pa_nil)))))
  h')), fun S0 O A hA => ?_⟩
  have r' := r0' S0
  clear r0'
  clear sc hr h'
  try dsimp only [XL, cxOf]
  obtain ⟨d, ⟨xS, rfl⟩, ln, h0, h1, st, dk⟩ := hA
  obtain ⟨sl, st'⟩ := A
  obtain rfl : st' = _ := st
  obtain ⟨v0, v1, v2, v3, v4, v5, v6, v7, v8, v9, v10, v11, v12, v13, v14, v15, v16, v17, v18, v19, v20, v21, v22, v23, v24, v25, v26, v27, rfl⟩ := exL sl ln
  obtain rfl : _ = v0 := (Option.some.inj h0).symm
  obtain rfl : _ = v1 := (Option.some.inj h1).symm
  clear ln
  refine r_wk (sl' := [.d xS, .own 0, .un, .un, .un, .un, .un, .un, .un, .un, .un, .un, .un, .un, .un, .un, .un, .un, .un, .un, .un, .un, .un, .un, .un, .un, .un, .un]) (by repeat (first | exact Wk.nil | apply Wk.same | apply Wk.un)) ?_
  have q0 := roll_lt (d := d) (m := 5) (by decide)
  have d1 := roll_ok (m := 5) dk (by decide)
  obtain ⟨m, hm⟩ : ∃ m : Nat, 1 + rollV d 5 = (m : Int) := ⟨(1 + rollV d 5).toNat, by omega⟩
  refine r_seq (r_tgTup (p_g (g_d (e_is (e_bin e_c (e_roll (n := 0) (c := 0) rfl rfl e_c dk (by decide) (by decide) (sz5 (by decide))) o_add) (congrArg di hm))) (p_g (g_lnew a_nil (by decide)) p_nil)) rfl (Nat.le_of_ble_eq_true rfl) (tgsG_cons tgG_name (tgsG_cons tgG_name tgsG_nil)) ?_)
  generalize rollD d 5 = d' at d1
  have d1 : DOk 1 d' := d1
  show RunS _ _ _ ⟨[.d xS, .own 0, .d (dN m), .own 1, .un, .un, .un, .un, .un, .un, .un, .un, .un, .un, .un, .un, .un, .un, .un, .un, .un, .un, .un, .un, .un, .un, .un, .un], [.lst d'.ds, .lst []]⟩ _
  have q1 := roll_lt (d := d') (m := 19) (by decide)
  have d2 := roll_ok (m := 19) d1 (by decide)
  obtain ⟨N, hN⟩ : ∃ N : Nat, (rollV d' 19).toNat = N := ⟨_, rfl⟩
  refine r_cut (fun A => ∃ (d : Dice) (x4 : SD) (cls0 : List (List Int)), DOk 400 d ∧ ClsOk m cls0 ∧ A = ⟨[.d xS, .own 0, .d (dN m), .own 1, x4, .un, .un, .un, .un, .un, .un, .un, .un, .un, .un, .un, .un, .un, .un, .un, .un, .un, .un, .un, .un, .un, .un, .un], [.lst d.ds, .lst (cls0.map nsD)]⟩) (r_forR (lo := 0) (n := N) (w_rng1n (a_cons (e_roll (n := 0) (c := 1) rfl rfl e_c d1 (by decide) (by decide) (sz5 (by decide))) a_nil) hN (by omega)) (fun i A => ∃ (d : Dice) (x4 : SD) (cls0 : List (List Int)), DOk (2 + 10 * i) d ∧ cls0.length = i ∧ ClsOk m cls0 ∧ A = ⟨[.d xS, .own 0, .d (dN m), .own 1, x4, .un, .un, .un, .un, .un, .un, .un, .un, .un, .un, .un, .un, .un, .un, .un, .un, .un, .un, .un, .un, .un, .un, .un], [.lst d.ds, .lst (cls0.map nsD)]⟩) ⟨rollD d' 19, .un, [], d2, rfl, ⟨by decide, fun _ h => (by cases h), fun _ h => (by cases h)⟩, rfl⟩ ?_ ?_) ?_
  · rintro i A hi ⟨d, x4, cls0, dk, hl, hcl, rfl⟩
    refine ⟨⟨[.d xS, .own 0, .d (dN m), .own 1, .d (di (0 + (i : Int))), .un, .un, .un, .un, .un, .un, .un, .un, .un, .un, .un, .un, .un, .un, .un, .un, .un, .un, .un, .un, .un, .un, .un], [.lst d.ds, .lst (cls0.map nsD)]⟩, tg_name, ?_⟩
    have m0 : (0 : Int) < (m : Int) := by omega
    have q6 := roll_lt (d := d) (m := 6) (by decide)
    have k6 := roll_ok (m := 6) dk (by decide)
    have q4 := roll_lt (d := rollD d 6) (m := 4) (by decide)
    have q3 := roll_lt (d := rollD d 6) (m := 3) (by decide)
    have kc : DOk (2 + 10 * i + 2) (cntD d) := by
      unfold cntD
      split
      · exact roll_ok k6 (by decide)
      · exact roll_ok k6 (by decide)
    have cv : 0 ≤ cntV d ∧ cntV d ≤ 3 := by
      unfold cntV
      split <;> omega
    obtain ⟨n, hn⟩ : ∃ n : Nat, (cntV d).toNat = n := ⟨_, rfl⟩
    have n3 : n ≤ 3 := by omega
    have ev : ∀ {E' : XK}, EvS ⟨K, T, H0, O⟩ (tIf (tTest (tOp (rEqA K) (tCall (spRoll K T) [] E' (tCons (tVar 1) (tCons (tC (.int 6)) tNil))) (tC (.int 0)))) (tCall (spRoll K T) [] E' (tCons (tVar 1) (tCons (tC (.int 4)) tNil))) (tOp (rAddA K) (tC (.int 1)) (tCall (spRoll K T) [] E' (tCons (tVar 1) (tCons (tC (.int 3)) tNil))))) ⟨[.d xS, .own 0, .d (dN m), .own 1, .d (di (0 + (i : Int))), .un, .un, .un, .un, .un, .un, .un, .un, .un, .un, .un, .un, .un, .un, .un, .un, .un, .un, .un, .un, .un, .un, .un], [.lst d.ds, .lst (cls0.map nsD)]⟩ (di (cntV d)) ⟨[.d xS, .own 0, .d (dN m), .own 1, .d (di (0 + (i : Int))), .un, .un, .un, .un, .un, .un, .un, .un, .un, .un, .un, .un, .un, .un, .un, .un, .un, .un, .un, .un, .un, .un, .un], [.lst (cntD d).ds, .lst (cls0.map nsD)]⟩ := fun {E'} => by
      refine e_ifb (b := decide (rollV d 6 = 0)) (t_test (e_bin (e_roll (n := 0) (c := 2 + 10 * i) rfl rfl e_c dk (by omega) (by decide) (sz5 (by decide))) e_c o_eqI)) (fun hb => ?_) fun hb => ?_
      · have hb := of_decide_eq_true hb
        have e1 : cntV d = rollV (rollD d 6) 4 := if_pos hb
        have e2 : cntD d = rollD (rollD d 6) 4 := if_pos hb
        rw [e1, e2]
        exact e_roll (n := 0) (c := 2 + 10 * i + 1) (d := rollD d 6) rfl rfl e_c k6 (by omega) (by decide) (sz5 (by decide))
      · have hb := of_decide_eq_false hb
        have e1 : cntV d = 1 + rollV (rollD d 6) 3 := if_neg hb
        have e2 : cntD d = rollD (rollD d 6) 3 := if_neg hb
        rw [e1, e2]
        exact e_bin e_c (e_roll (n := 0) (c := 2 + 10 * i + 1) (d := rollD d 6) rfl rfl e_c k6 (by omega) (by decide) (sz5 (by decide))) o_add
    refine r_drop (e_appendG (n := 1) (ys := cls0.map nsD) (d := nsD (litsV 1 m (cntD d) n)) (g_own rfl) rfl (e_is (e_lcR (lo := 0) (n := n) (w_rng1n (a_cons ev a_nil) hn (by omega)) (fun j => ⟨[.d xS, .own 0, .d (dN m), .own 1, .d (di (0 + (i : Int))), .un, .un, .un, .un, .un, .un, .un, .un, .un, .un, .un, .un, .un, .un, .un, .un, .un, .un, .un, .un, .un, .un, .un], [.lst (litsD m (cntD d) j).ds, .lst (cls0.map nsD)]⟩) (fun j => (litsV 1 m (cntD d) j).map di) rfl rfl (fun j hj O' => ?t1) (by omega)) rfl) rfl (by rw [List.length_map]; have := hcl.len; omega)) ?_
    case t1 =>
      have kj := litsD_ok kc m0 j
      generalize hdj : litsD m (cntD d) j = dj at kj
      have hdj1 : litsD m (cntD d) (j + 1) = litD m dj := by rw [← hdj]; rfl
      have rm := roll_lt (d := dj) m0
      have kj1 := roll_ok kj m0
      rw [hdj1, litsV_snoc, hdj, List.map_append]
      refine ⟨_, true, _, tgS_name (by simp), t_yes, .inl ⟨rfl, di (litV 1 m dj), _, e_bin (e_bin e_c (e_roll (C := ⟨K, T, H0, O'⟩) (n := 0) (c := 2 + 10 * i + 2 + 2 * j) rfl rfl (e_var rfl) kj (by omega) m0 (sz5 (by omega))) o_add) (e_bin (e_lst (a_cons e_c (a_cons (e_U e_c) a_nil)) (Nat.le_of_ble_eq_true rfl)) (e_roll (C := ⟨K, T, H0, O'⟩) (n := 0) (c := 2 + 10 * i + 2 + 2 * j + 1) (d := rollD dj m) rfl rfl e_c kj1 (by omega) (by decide) (sz5 (by decide))) (o_ixL (sgn_ix _))) (o_mul (mulX 20 20 (by omega) (by unfold sgn; split <;> decide))), rfl, rfl⟩⟩
    have kn := litsD_ok kc m0 n
    refine ⟨litsD m (cntD d) n, .d (di (0 + (i : Int))), cls0 ++ [litsV 1 m (cntD d) n], kn.up (by omega), by rw [List.length_append, hl]; rfl, ⟨by rw [List.length_append, hl]; show i + 1 ≤ 18; omega, fun ns hns => ?_, fun ns hns x hx => ?_⟩, ?_⟩
    · rcases List.mem_append.mp hns with z | z
      · exact hcl.len3 ns z
      · rw [List.mem_singleton.mp z]
        unfold litsV
        rw [List.length_map, List.length_range]; omega
    · rcases List.mem_append.mp hns with z | z
      · exact hcl.nm ns z x hx
      · rw [List.mem_singleton.mp z] at hx
        unfold litsV at hx
        obtain ⟨j, _, rfl⟩ := List.mem_map.mp hx
        have := litV_ok (a := 1) (d := litsD m (cntD d) j) (by decide) m0
        exact ⟨this.1, by omega⟩
    · rw [List.map_append]; rfl
  · rintro A ⟨d, x4, cls0, dk, hl, hcl, rfl⟩
    exact ⟨d, x4, cls0, dk.up (by omega), hcl, rfl⟩
  · rintro A ⟨d, x4, cls0, dk, hcl, rfl⟩
    have e := r' O ⟨[.d xS, .own 0, .d (dN m), .d (.lst (cls0.map nsD)), .un, .un, .un, .un, .un, .un, .un, .un, .un, .un, .un, .un, .un, .un, .un, .un, .un, .un, .un, .un, .un, .un, .un, .un], [.lst d.ds, .gone]⟩ ⟨d, m, cls0, ⟨xS, rfl⟩, dk, by omega, by omega, hcl, rfl⟩
    refine r_wk (sl' := [.d xS, .own 0, .d (dN m), .own 1, .un, .un, .un, .un, .un, .un, .un, .un, .un, .un, .un, .un, .un, .un, .un, .un, .un, .un, .un, .un, .un, .un, .un, .un]) (by repeat (first | exact Wk.nil | apply Wk.same | apply Wk.un)) (r_fzL (n := 1) rfl ?_)
    exact e

end Law
end

section
set_option Elab.async false
set_option linter.all false
set_option maxRecDepth 100000
set_option maxHeartbeats 4000000
set_option autoImplicit false
set_option exponentiation.threshold 300
namespace Law
open PySem PySem.Spec PyProof.Rows L2 Py

local macro_rules | `(tactic| wtm_at "op") => `(tactic| first
  | with_reducible exact o_I0 | with_reducible exact o_add | with_reducible exact o_eqI | with_reducible exact o_neI
  | ((with_reducible apply o_mul); first | assumption | wtm_at "si")
  | ((with_reducible apply o_I); first | assumption | wtm_at "si")
  | ((with_reducible apply o_ixT); rfl) | ((with_reducible apply o_ixL); rfl)
  | ((with_reducible apply o_eqD) <;> first | rfl | decide | assumption) | ((with_reducible apply o_neD) <;> first | rfl | decide | assumption)
  | with_reducible assumption)
local macro_rules | `(tactic| wtm_at "si") => `(tactic| first | decide | exact ⟨by decide, by decide +kernel⟩ | omega)
local macro_rules | `(tactic| wtm_at "ev") => `(tactic| first
  | ((with_reducible apply e_var); rfl) | with_reducible exact e_c | with_reducible exact a_nil
  | ((with_reducible apply a_cons) <;> wtm_at "ev")
  | ((with_reducible apply e_bin) <;> first | wtm_at "ev" | wtm_at "op")
  | ((with_reducible apply e_ixO) <;> first | rfl | wtm_at "ev")
  | ((with_reducible apply e_U) <;> wtm_at "ev")
  | ((with_reducible apply t_test) <;> wtm_at "ev")
  | ((with_reducible apply t_B) <;> wtm_at "ev")
  | ((with_reducible apply t_not) <;> wtm_at "ev")
  | ((with_reducible apply e_tup) <;> first | wtm_at "ev" | exact Nat.le_of_ble_eq_true rfl)
  | ((with_reducible apply e_lst) <;> first | wtm_at "ev" | exact Nat.le_of_ble_eq_true rfl)
  | ((with_reducible apply e_gcd) <;> wtm_at "ev")
  | ((with_reducible apply e_abs) <;> wtm_at "ev")
  | ((with_reducible apply e_max2) <;> wtm_at "ev")
  | ((with_reducible apply e_int) <;> wtm_at "ev")
  | ((with_reducible apply e_intB) <;> wtm_at "ev")
  | ((with_reducible apply e_bits) <;> wtm_at "ev")
  | ((with_reducible apply e_not) <;> wtm_at "ev")
  | with_reducible assumption)

variable {P : Program} {w : World} {K : Frg} {T : List (Addr × Str)} {mg : Str → Option Value} {base : Heap} {A0 : Around} {outer : List Env} {s0 : Shared} {H0 : Hp} {E : XK}

abbrev rowD (r : List Int) : Dt := .tup (r.map di)
def InvB (S0 : SD) (A : AS) : Prop := ∃ (d : Dice) (m : Nat) (cls0 : List (List Int)), (∃ x, S0 = .d x) ∧ DOk 400 d ∧ 1 ≤ m ∧ m ≤ 5 ∧ ClsOk m cls0 ∧ A = ⟨[S0, .own 0, .d (dN m), .d (.lst (cls0.map nsD)), .un, .un, .d (.lst ((rowsN m).map rowD)), .un, .un, .un, .un, .un, .un, .un, .un, .un, .un, .un, .un, .un, .un, .un, .un, .un, .un, .un, .un, .un], [.lst d.ds, .gone]⟩
theorem alike_B : ∀ a b : List Bool, PySem.W.alikeAll (a.map PyData.bool) (b.map PyData.bool) = true
  | [], _ => by rw [List.map_nil, PySem.W.alikeAll]
  | _ :: _, [] => by rw [List.map_cons, List.map_nil, PySem.W.alikeAll]
  | x :: a, y :: b => by rw [List.map_cons, List.map_cons, PySem.W.alikeAll, alike_B a b]; rfl
theorem mem_rsU {m : Nat} {b : List Bool} (hm : m ≤ 5) (h : b ∈ rsU m) : b.length = m := mem_srt.mp ((rs_perm m hm).mem_iff.mp h)

theorem segB (Z : GS P w K T mg base) (Tx : Txt K mg) (LB : LamB K base mg T "law") (hr : Room 30 (XL P w K mg base A0 outer s0 H0 E).A)
    (next : ∃ t, PSs (XL P w K mg base A0 outer s0 H0 E) (LBd.drop 5) t ∧ ∀ S0 O A, InvB S0 A → RunS ⟨K, T, H0, O⟩ E t A (PF S0)) :
    ∃ t, PSs (XL P w K mg base A0 outer s0 H0 E) (LBd.drop 2) t ∧ ∀ S0 O A, InvA S0 A → RunS ⟨K, T, H0, O⟩ E t A (PF S0) := by
  obtain ⟨t', h', r0'⟩ := next
  have sc := sc_law
  refine ⟨_, (pss_cons (ps_set (i := 6) sc.nd rfl (Or.inl rfl) (pe_lst (pa_cons (pe_tup pa_nil) pa_nil)))
  (pss_cons (ps_for (passesE) rfl (pi_range1 rfl Tx.n_range (pa_cons (pv 2) pa_nil)) (pg_name (i := 4) sc.nd rfl (Or.inl rfl)) (pss_one (ps_set (i := 6) sc.nd rfl (Or.inl rfl) (pe_op op_catR (pe_lc (own := [("row", 7)]) rfl sc.nd (pi_list (pv 6)) (blkOk_by (own := [("row", 7)]) (N := ["script", "dice", "many", "clauses", "k", "j", "rows", "row", "used", "one", "due", "word", "found", "spot", "name", "other", "more", "bent", "steps", "left", "right", "number", "rest", "bad", "a", "b", "c", "f"]) (sc := defScope s_law) (by decide +kernel)) (fun _ _ _ _ _ => (pg_name (i := 7) sc.nd rfl (Or.inl rfl))) (fun _ _ _ _ _ => pts_nil) (fun _ _ _ _ _ => (pe_op (op_addTK (K := K) rfl) (pv 7) (pe_tup (pa_cons pe_bl pa_nil))))) (pe_lc (own := [("row", 7)]) rfl sc.nd (pi_list (pv 6)) (blkOk_by (own := [("row", 7)]) (N := ["script", "dice", "many", "clauses", "k", "j", "rows", "row", "used", "one", "due", "word", "found", "spot", "name", "other", "more", "bent", "steps", "left", "right", "number", "rest", "bad", "a", "b", "c", "f"]) (sc := defScope s_law) (by decide +kernel)) (fun _ _ _ _ _ => (pg_name (i := 7) sc.nd rfl (Or.inl rfl))) (fun _ _ _ _ _ => pts_nil) (fun _ _ _ _ _ => (pe_op (op_addTK (K := K) rfl) (pv 7) (pe_tup (pa_cons pe_bl pa_nil)))))))))
  (pss_cons (ps_setLc (i := 6) (own := [("row", 7)]) rfl sc.nd rfl rfl (sw_true rfl rfl rfl (by decide +kernel)) (pi_list (pe_callB (cr_sortA (units65 hr)) (by rfl) Tx.n_sorted (by decide +kernel) (pa_cons (pv 6) pa_nil))) (blkOk_by (own := [("row", 7)]) (N := ["script", "dice", "many", "clauses", "k", "j", "rows", "row", "used", "one", "due", "word", "found", "spot", "name", "other", "more", "bent", "steps", "left", "right", "number", "rest", "bad", "a", "b", "c", "f"]) (sc := defScope s_law) (by decide +kernel)) (fun _ _ _ _ _ => (pg_name (i := 7) sc.nd rfl (Or.inr rfl))) (fun _ _ _ _ _ => pts_nil) (fun _ _ _ _ _ => (pe_callTy (call_tupleK (K := K) rfl) (by rfl) Tx.n_tuple (by decide +kernel) (pa_cons (pe_lc (own := [("k", 4)]) rfl sc.nd (pi_range1 rfl Tx.n_range (pa_cons (pv 2) pa_nil)) (blkOk_rel (blkOk_by (own := [("k", 4)]) (N := ["script", "dice", "many", "clauses", "k", "j", "rows", "row", "used", "one", "due", "word", "found", "spot", "name", "other", "more", "bent", "steps", "left", "right", "number", "rest", "bad", "a", "b", "c", "f"]) (sc := (lcScope (LBd.getD 4 (.Pass ⟨0, 0, 0, 0⟩)))) (by decide +kernel))) (fun _ _ _ _ _ => (pg_name (i := 4) sc.nd rfl (Or.inl rfl))) (fun _ _ _ _ _ => (pts_one (pt_val (pe_ix (ix_seqK (K := K) rfl) (pv 7) (pv 4) (fun _ _ => rfl))))) (fun _ _ _ _ _ => (pe_op (op_addAK (K := K) rfl) (pv 4) pe_int))) pa_nil))))
  h'))), fun S0 O A hA => ?_⟩
  have r' := r0' S0
  clear r0'
  clear sc hr h'
  try dsimp only [XL, cxOf]
  obtain ⟨d, m, cls0, hS, dk, m1, m5, hcl, rfl⟩ := hA
  refine r_seq (r_asg (d := .lst ((rsU 0).map bR)) (e_lst (a_cons (e_tup a_nil (by decide)) a_nil) (by decide)) ?_)
  have lr : ∀ i, i ≤ m → (rsU i).length ≤ 32 := fun i hi => by
    rw [len_rs]
    exact Nat.le_trans (Nat.pow_le_pow_right (by decide) (by omega : i ≤ 5)) (by decide)
  refine r_cut (fun A => ∃ x4, A = ⟨[S0, .own 0, .d (dN m), .d (.lst (cls0.map nsD)), x4, .un, .d (.lst ((rsU m).map bR)), .un, .un, .un, .un, .un, .un, .un, .un, .un, .un, .un, .un, .un, .un, .un, .un, .un, .un, .un, .un, .un], [.lst d.ds, .gone]⟩) (r_forR (lo := 0) (n := m) (w_rng1n (a_cons (e_var rfl) a_nil) (by omega) (by omega)) (fun i A => ∃ x4, A = ⟨[S0, .own 0, .d (dN m), .d (.lst (cls0.map nsD)), x4, .un, .d (.lst ((rsU i).map bR)), .un, .un, .un, .un, .un, .un, .un, .un, .un, .un, .un, .un, .un, .un, .un, .un, .un, .un, .un, .un, .un], [.lst d.ds, .gone]⟩) ⟨.un, rfl⟩ ?_ fun A h => h) ?_
  · rintro i A hi ⟨x4, rfl⟩
    have l1 := lr i (by omega)
    refine ⟨⟨[S0, .own 0, .d (dN m), .d (.lst (cls0.map nsD)), .d (di (0 + (i : Int))), .un, .d (.lst ((rsU i).map bR)), .un, .un, .un, .un, .un, .un, .un, .un, .un, .un, .un, .un, .un, .un, .un, .un, .un, .un, .un, .un, .un], [.lst d.ds, .gone]⟩, tg_name, ?_⟩
    refine r_asg (d := .lst ((rsU (i + 1)).map bR)) (e_ofN (e_is (e_bin (e_mapL (l := rsU i) (D := bR) (f := fun b => bR (b ++ [false])) (e_var rfl) (fun b hb O' => mf_yes (tgS_name (by simp)) (e_is (e_bin (e_var rfl) (e_tup (a_cons e_c a_nil) (Nat.le_of_ble_eq_true rfl)) (o_addT (by have := mem_rsU (by omega) hb; rw [List.length_map]; show _ + 1 ≤ _; omega))) (by unfold bR; rw [List.map_append]; rfl)) rfl) (by omega)) (e_mapL (l := rsU i) (D := bR) (f := fun b => bR (b ++ [true])) (e_var rfl) (fun b hb O' => mf_yes (tgS_name (by simp)) (e_is (e_bin (e_var rfl) (e_tup (a_cons e_c a_nil) (Nat.le_of_ble_eq_true rfl)) (o_addT (by have := mem_rsU (by omega) hb; rw [List.length_map]; show _ + 1 ≤ _; omega))) (by unfold bR; rw [List.map_append]; rfl)) rfl) (by omega)) (o_catR (by rw [List.length_map, List.length_map]; omega))) (by rw [rsU, List.map_append, List.map_map, List.map_map]; rfl))) ⟨_, rfl⟩
  · rintro A ⟨x4, rfl⟩
    refine r_wk (sl' := [S0, .own 0, .d (dN m), .d (.lst (cls0.map nsD)), .un, .un, .d (.lst ((rsU m).map bR)), .un, .un, .un, .un, .un, .un, .un, .un, .un, .un, .un, .un, .un, .un, .un, .un, .un, .un, .un, .un, .un]) (by repeat (first | exact Wk.nil | apply Wk.same | apply Wk.un)) ?_
    have l1 := lr m (Nat.le_refl _)
    refine r_seq (r_asg (d := .lst ((rowsN m).map rowD)) (e_is (e_ofN (e_mapL (l := srt m) (D := bR) (f := fun b => rowD (nmB b)) (e_is (e_sortA (xs := xsR m) (e_is (e_var rfl) (by unfold xsR; rw [List.map_map]; rfl)) (fun x hx => ?p1) (fun x hx y hy => ?p2) (.inl fun x hx => ?p3) (fun x hx => ?p4)) (by rw [sort_rows m5])) (fun b hb O' => ?t1) (by rw [← (rs_perm m m5).length_eq]; omega))) (by unfold rowsN; rw [List.map_map]; rfl)) ?_)
    case p1 =>
      obtain ⟨b, _, rfl⟩ := List.mem_map.mp hx
      exact (nice_bR (n := 0) b).all.1
    case p2 =>
      obtain ⟨x1, hx1, e1⟩ := List.mem_map.mp hx
      obtain ⟨y1, hy1, e2⟩ := List.mem_map.mp hy
      obtain ⟨a, _, e3⟩ := List.mem_map.mp hx1
      obtain ⟨b, _, e4⟩ := List.mem_map.mp hy1
      rw [← e1, ← e2, ← e3, ← e4]
      show PySem.W.alike (.tuple _) (.tuple _) = true
      rw [PySem.W.alike]
      exact alike_B a b
    case p3 =>
      obtain ⟨x1, hx1, e1⟩ := List.mem_map.mp hx
      obtain ⟨a, ha, e3⟩ := List.mem_map.mp hx1
      rw [← e1, ← e3]
      have := mem_rsU m5 ha
      cases a with
      | nil => simp at this; omega
      | cons z r => exact ⟨.bool z, r.map PyData.bool, rfl⟩
    case p4 =>
      obtain ⟨b, _, rfl⟩ := List.mem_map.mp hx
      have := (nice_bR (n := 0) b).all.2.2
      show (pyB b).depth ≤ 60
      omega
    case t1 =>
      have lb := mem_srt.mp hb
      refine mf_yes (tgS_name (by simp)) (e_unE (e_tupLE (e_ofN (e_is (e_mf (l := List.range m) (D := fun (i : Nat) => di (0 + (i : Int))) (f := fun (i : Nat) => di ((i : Int) + 1)) (p := fun i => b.getD i false) (w_rngY (w_rng1n (a_cons (e_var rfl) a_nil) (Int.toNat_natCast m) (by omega))) (by rw [List.length_range]) (fun i hi => by rw [List.getElem_range]) (fun i hi O2 => ?t2) (by rw [List.length_range]; omega)) ?t3)))) rfl
      case t2 =>
        have hi := List.mem_range.mp hi
        refine mf_if (tgS_name (by simp)) (t_test (e_bin (e_var rfl) (e_var rfl) (o_ixT ?_))) (e_is (e_bin (e_var rfl) e_c o_add) (congrArg di (by omega))) rfl rfl
        show atI (b.map db) (0 + (i : Int)) = _
        unfold atI ixN
        rw [if_pos (by omega), if_pos (by rw [List.length_map]; omega)]
        show (b.map db)[(0 + (i : Int)).toNat]? = _
        rw [show (0 + (i : Int)).toNat = i by omega, List.getElem?_map, List.getD_eq_getElem?_getD, List.getElem?_eq_getElem (by omega)]
        rfl
      case t3 =>
        unfold nmB
        rw [lb, List.map_map]; rfl
    exact r' O _ ⟨d, m, cls0, hS, dk, m1, m5, hcl, rfl⟩

end Law
end

section
set_option Elab.async false
set_option linter.all false
set_option maxRecDepth 100000
set_option maxHeartbeats 4000000
set_option autoImplicit false
set_option exponentiation.threshold 300
namespace Law
open PySem PySem.Spec PyProof.Rows L2 Py

local macro_rules | `(tactic| wtm_at "op") => `(tactic| first
  | with_reducible exact o_I0 | with_reducible exact o_add | with_reducible exact o_eqI | with_reducible exact o_neI
  | ((with_reducible apply o_mul); first | assumption | wtm_at "si")
  | ((with_reducible apply o_I); first | assumption | wtm_at "si")
  | ((with_reducible apply o_ixT); rfl) | ((with_reducible apply o_ixL); rfl)
  | ((with_reducible apply o_eqD) <;> first | rfl | decide | assumption) | ((with_reducible apply o_neD) <;> first | rfl | decide | assumption)
  | with_reducible assumption)
local macro_rules | `(tactic| wtm_at "si") => `(tactic| first | decide | exact ⟨by decide, by decide +kernel⟩ | omega)
local macro_rules | `(tactic| wtm_at "ev") => `(tactic| first
  | ((with_reducible apply e_var); rfl) | with_reducible exact e_c | with_reducible exact a_nil
  | ((with_reducible apply a_cons) <;> wtm_at "ev")
  | ((with_reducible apply e_bin) <;> first | wtm_at "ev" | wtm_at "op")
  | ((with_reducible apply e_ixO) <;> first | rfl | wtm_at "ev")
  | ((with_reducible apply e_U) <;> wtm_at "ev")
  | ((with_reducible apply t_test) <;> wtm_at "ev")
  | ((with_reducible apply t_B) <;> wtm_at "ev")
  | ((with_reducible apply t_not) <;> wtm_at "ev")
  | ((with_reducible apply e_tup) <;> first | wtm_at "ev" | exact Nat.le_of_ble_eq_true rfl)
  | ((with_reducible apply e_lst) <;> first | wtm_at "ev" | exact Nat.le_of_ble_eq_true rfl)
  | ((with_reducible apply e_gcd) <;> wtm_at "ev")
  | ((with_reducible apply e_abs) <;> wtm_at "ev")
  | ((with_reducible apply e_max2) <;> wtm_at "ev")
  | ((with_reducible apply e_int) <;> wtm_at "ev")
  | ((with_reducible apply e_intB) <;> wtm_at "ev")
  | ((with_reducible apply e_bits) <;> wtm_at "ev")
  | ((with_reducible apply e_not) <;> wtm_at "ev")
  | with_reducible assumption)

variable {P : Program} {w : World} {K : Frg} {T : List (Addr × Str)} {mg : Str → Option Value} {base : Heap} {A0 : Around} {outer : List Env} {s0 : Shared} {H0 : Hp} {E : XK}

/-- what stands in a statement -/
def lcV : Stmt → Expr
  | .Assign _ v _ => v
  | _ => .Name "x" ⟨0, 0, 0, 0⟩
def ifL : Expr → Expr
  | .ListComp _ (⟨_, _, (.Compare l _ _ _) :: _, _⟩ :: _) _ _ => l
  | e => e
def scE : Expr → Scope
  | .ListComp _ _ sc _ => sc
  | _ => default
def InvC (S0 : SD) (A : AS) : Prop := ∃ (d : Dice) (m : Nat) (cls0 : List (List Int)), (∃ x, S0 = .d x) ∧ DOk 400 d ∧ 1 ≤ m ∧ m ≤ 5 ∧ ClsOk m cls0 ∧ A = ⟨[S0, .own 0, .d (dN m), .d (.lst (cls0.map nsD)), .un, .un, .d (.lst ((rowsN m).map rowD)), .un, .d (.lst ((usedL m cls0).map di)), .un, .d (.lst (((rowsN m).filter (rowP m cls0)).map rowD)), .un, .un, .un, .un, .un, .un, .un, .un, .un, .un, .un, .un, .un, .un, .un, .un, .un], [.lst d.ds, .gone]⟩
theorem any_filterG {α : Type} {D : α → Dt} {f : α → Bool} (c : List α) : (!((c.filter f).map D).isEmpty) = c.any f := by
  induction c with
  | nil => rfl
  | cons a c ih =>
    cases h : f a with
    | true => rw [List.filter_cons_of_pos h, List.any_cons, h]; rfl
    | false => rw [List.filter_cons_of_neg (by rw [h]; decide), List.any_cons, h, Bool.false_or]; exact ih
theorem none_filterG {α : Type} {D : α → Dt} {f : α → Bool} (c : List α) : ((c.filter f).map D).isEmpty = !c.any f := by rw [← any_filterG (D := D), Bool.not_not]
theorem nice_ns (cs : List (List Int)) : NiceA 1 (cs.map nsD) (cs.map fun c => .list (pyI c)) := niceA_map (fun c => .lst (nice_I c)) cs
theorem nice_rw (cs : List (List Int)) : NiceA 1 (cs.map rowD) (cs.map fun c => .tuple (pyI c)) := niceA_map (fun c => nice_tI c) cs

theorem segC (Z : GS P w K T mg base) (Tx : Txt K mg) (LB : LamB K base mg T "law") (hr : Room 30 (XL P w K mg base A0 outer s0 H0 E).A)
    (next : ∃ t, PSs (XL P w K mg base A0 outer s0 H0 E) (LBd.drop 7) t ∧ ∀ S0 O A, InvC S0 A → RunS ⟨K, T, H0, O⟩ E t A (PF S0)) :
    ∃ t, PSs (XL P w K mg base A0 outer s0 H0 E) (LBd.drop 5) t ∧ ∀ S0 O A, InvB S0 A → RunS ⟨K, T, H0, O⟩ E t A (PF S0) := by
  obtain ⟨t', h', r0'⟩ := next
  have sc := sc_law
  refine ⟨_, (pss_cons (ps_set (i := 8) sc.nd rfl (Or.inr rfl) (pe_lc (own := [("k", 4)]) rfl sc.nd (pi_range2 rfl Tx.n_range (pa_cons pe_int (pa_cons (pe_op op_addA (pv 2) pe_int) pa_nil))) (blkOk_by (own := [("k", 4)]) (N := ["script", "dice", "many", "clauses", "k", "j", "rows", "row", "used", "one", "due", "word", "found", "spot", "name", "other", "more", "bent", "steps", "left", "right", "number", "rest", "bad", "a", "b", "c", "f"]) (sc := defScope s_law) (by decide +kernel)) (fun _ _ _ _ _ => (pg_name (i := 4) sc.nd rfl (Or.inr rfl))) (fun _ _ _ _ _ => (pts_one (pt_cmpR (op_neAK (K := K) rfl hr.units) (pe_lc (own := [("one", 9)]) rfl sc.nd (pi_listK (K := K) rfl (pv 3)) (blkOk_rel (blkOk_by (own := [("one", 9)]) (N := ["script", "dice", "many", "clauses", "k", "j", "rows", "row", "used", "one", "due", "word", "found", "spot", "name", "other", "more", "bent", "steps", "left", "right", "number", "rest", "bad", "a", "b", "c", "f"]) (sc := (lcScope (LBd.getD 5 (.Pass ⟨0, 0, 0, 0⟩)))) (by decide +kernel))) (fun _ _ _ _ _ => (pg_name (i := 9) sc.nd rfl (Or.inr rfl))) (fun _ _ _ _ _ => (pts_one (PW.pt (pw_and (PW.pt (pw_or (pt_cmpR (op_inK (K := K) rfl) (pv 4) (pv 9) rfl) (pw_or1 (pt_cmpR (op_inK (K := K) rfl) (pe_un un_neg (pv 4)) (pv 9) rfl)))) (pw_and1 (pt_cmpR (op_eqAK (K := K) rfl hr.units) (pe_lc (own := [("number", 21)]) rfl sc.nd (pi_listK (K := K) rfl (pv 9)) (blkOk_rel (blkOk_by (own := [("number", 21)]) (N := ["script", "dice", "many", "clauses", "k", "j", "rows", "row", "used", "one", "due", "word", "found", "spot", "name", "other", "more", "bent", "steps", "left", "right", "number", "rest", "bad", "a", "b", "c", "f"]) (sc := (scE (ifL (lcV (LBd.getD 5 (.Pass ⟨0, 0, 0, 0⟩)))))) (by decide +kernel))) (fun _ _ _ _ _ => (pg_name (i := 21) sc.nd rfl (Or.inl rfl))) (fun _ _ _ _ _ => (pts_one (pt_cmpR (op_inK (K := K) rfl) (pe_un un_neg (pv 21)) (pv 9) rfl))) (fun _ _ _ _ _ => (pv 21))) (pe_lst pa_nil) (nomark _))))))) (fun _ _ _ _ _ => (pv 9))) (pe_lst pa_nil) (nomark _)))) (fun _ _ _ _ _ => (pv 4))))
  (pss_cons (ps_setLc (i := 10) (own := [("row", 7)]) rfl sc.nd rfl rfl (sw_true rfl rfl rfl (by decide +kernel)) (pi_list (pv 6)) (blkOk_by (own := [("row", 7)]) (N := ["script", "dice", "many", "clauses", "k", "j", "rows", "row", "used", "one", "due", "word", "found", "spot", "name", "other", "more", "bent", "steps", "left", "right", "number", "rest", "bad", "a", "b", "c", "f"]) (sc := defScope s_law) (by decide +kernel)) (fun _ _ _ _ _ => (pg_name (i := 7) sc.nd rfl (Or.inr rfl))) (fun _ _ _ _ _ => (pts_one (PW.pt (pw_and (pt_cmpR (op_eqAK (K := K) rfl hr.units) (pe_lc (own := [("one", 9)]) rfl sc.nd (pi_listK (K := K) rfl (pv 3)) (blkOk_rel (blkOk_by (own := [("one", 9)]) (N := ["script", "dice", "many", "clauses", "k", "j", "rows", "row", "used", "one", "due", "word", "found", "spot", "name", "other", "more", "bent", "steps", "left", "right", "number", "rest", "bad", "a", "b", "c", "f"]) (sc := (lcScope (LBd.getD 6 (.Pass ⟨0, 0, 0, 0⟩)))) (by decide +kernel))) (fun _ _ _ _ _ => (pg_name (i := 9) sc.nd rfl (Or.inl rfl))) (fun _ _ _ _ _ => (pts_one (pt_not (pt_val (pe_callG Z.G__law_true (hr.mono (by decide)) passL (pa_cons (pv 9) (pa_cons (pv 7) pa_nil))))))) (fun _ _ _ _ _ => (pv 9))) (pe_lst pa_nil) (nomark _)) (pw_and1 (pt_cmpR (op_eqAK (K := K) rfl hr.units) (pe_lc (own := [("k", 4)]) rfl sc.nd (pi_tupK (K := K) rfl (pv 7)) (blkOk_rel (blkOk_by (own := [("k", 4)]) (N := ["script", "dice", "many", "clauses", "k", "j", "rows", "row", "used", "one", "due", "word", "found", "spot", "name", "other", "more", "bent", "steps", "left", "right", "number", "rest", "bad", "a", "b", "c", "f"]) (sc := (lcScope (LBd.getD 6 (.Pass ⟨0, 0, 0, 0⟩)))) (by decide +kernel))) (fun _ _ _ _ _ => (pg_name (i := 4) sc.nd rfl (Or.inl rfl))) (fun _ _ _ _ _ => (pts_one (pt_cmpR (op_notInK (K := K) rfl) (pv 4) (pv 8) rfl))) (fun _ _ _ _ _ => (pv 4))) (pe_lst pa_nil) (nomark _))))))) (fun _ _ _ _ _ => (pv 7)))
  h')), fun S0 O A hA => ?_⟩
  have r' := r0' S0
  clear r0'
  clear sc hr h'
  try dsimp only [XL, cxOf]
  obtain ⟨d, m, cls0, hS, dk, m1, m5, hcl, rfl⟩ := hA
  have lc := hcl.len
  refine r_seq (r_asg (d := .lst ((usedL m cls0).map di)) (e_ofN (e_is (e_mf (l := (List.range m).map fun (k : Nat) => (k : Int) + 1) (D := di) (f := di) (p := fun k => cls0.any fun one => (decide (k ∈ one) || decide (-k ∈ one)) && !taut one) (w_rngY (w_rng2n (c := m) (m := 1) (n := (m : Int) + 1) (a_cons e_c (a_cons (e_bin (e_var rfl) e_c o_add) a_nil)) (by omega) (by decide) (by omega))) (by rw [List.length_map, List.length_range]) (fun i hi => by rw [List.getElem_map, List.getElem_range]; exact congrArg di (by omega)) (fun k hk O' => ?t1) (by rw [List.length_map, List.length_range]; omega)) rfl)) ?_)
  case t1 =>
    refine mf_if (tgS_name (by simp)) (t_is (t_test (e_bin (e_ofN (e_mfL (l := cls0) (D := nsD) (f := nsD) (p := fun one => (decide (k ∈ one) || decide (-k ∈ one)) && !taut one) (e_var rfl) (fun one ho O2 => ?t2) (by omega))) (e_lst a_nil (by decide)) (o_neNil (n := 1) (nice_ns _)))) (any_filterG cls0)) (e_var rfl) rfl rfl
    case t2 =>
      have l3 := hcl.len3 one ho
      exact mf_if (tgS_name (by simp)) (t_and (t_or (t_test (e_bin (e_var rfl) (e_var rfl) o_inL)) fun _ => t_test (e_bin (e_U (e_var rfl)) (e_var rfl) o_inL)) fun _ => t_is (t_test (e_bin (e_ofN (e_mfL (l := one) (D := di) (f := di) (p := fun x => decide (-x ∈ one)) (e_var rfl) (fun x hx O3 => mf_if (tgS_name (by simp)) (t_test (e_bin (e_U (e_var rfl)) (e_var rfl) o_inL)) (e_var rfl) rfl rfl) (by omega))) (e_lst a_nil (by decide)) (o_eqNil (n := 0) (nice_I _)))) (by rw [none_filterG, any_neg])) (e_var rfl) rfl rfl
  have lrn : (rowsN m).length ≤ 32 := by
    unfold rowsN
    rw [List.length_map, ← (rs_perm m m5).length_eq, len_rs]
    exact Nat.le_trans (Nat.pow_le_pow_right (by decide) m5) (by decide)
  have lrow : ∀ r ∈ rowsN m, r.length ≤ 5 := fun r hr => by
    obtain ⟨b, hb, rfl⟩ := List.mem_map.mp hr
    unfold nmB
    rw [List.length_map]
    refine Nat.le_trans (List.length_filter_le ..) ?_
    rw [List.length_range, mem_srt.mp hb]; exact m5
  refine r_seq (r_asg (d := .lst (((rowsN m).filter (rowP m cls0)).map rowD)) (e_ofN (e_mfL (l := rowsN m) (D := rowD) (f := rowD) (p := rowP m cls0) (e_var rfl) (fun r hr O' => ?u1) (by omega))) ?_)
  case u1 =>
    have lr5 := lrow r hr
    refine mf_if (tgS_name (by simp)) (t_is (t_and (t_test (e_bin (e_ofN (e_mfL (l := cls0) (D := nsD) (f := nsD) (p := fun one => !holdsB one r) (e_var rfl) (fun one ho O2 => ?u2) (by omega))) (e_lst a_nil (by decide)) (o_eqNil (n := 1) (nice_ns _)))) fun _ => t_test (e_bin (e_ofN (e_mfT (l := r) (D := di) (f := di) (p := fun k => !decide (k ∈ usedL m cls0)) (e_var rfl) (fun k hk O2 => mf_if (tgS_name (by simp)) (t_test (e_bin (e_var rfl) (e_var rfl) o_notinL)) (e_var rfl) rfl rfl) (by omega))) (e_lst a_nil (by decide)) (o_eqNil (n := 0) (nice_I _)))) ?_) (e_var rfl) rfl rfl
    case u2 => exact mf_if (tgS_name (by simp)) (t_not (t_B (e_call (C := ⟨K, T, H0, O2⟩) (d := db (holdsB one r)) (a_cons (e_var rfl) (a_cons (e_var rfl) a_nil)) ⟨one, r, rfl, by have := hcl.len3 one ho; omega, by omega, rfl⟩))) (e_var rfl) rfl rfl
    rw [none_filterG, none_filterG]
    unfold rowP
    congr 1
    · rw [Bool.eq_iff_iff]; simp
    · rw [Bool.eq_iff_iff]; simp
  exact r' O _ ⟨d, m, cls0, hS, dk, m1, m5, hcl, rfl⟩

end Law
end

section
set_option Elab.async false
set_option linter.all false
set_option maxRecDepth 100000
set_option maxHeartbeats 4000000
set_option autoImplicit false
set_option exponentiation.threshold 300
namespace Law
open PySem PySem.Spec PyProof.Rows L2 Py

local macro_rules | `(tactic| wtm_at "op") => `(tactic| first
  | with_reducible exact o_I0 | with_reducible exact o_add | with_reducible exact o_eqI | with_reducible exact o_neI
  | ((with_reducible apply o_mul); first | assumption | wtm_at "si")
  | ((with_reducible apply o_I); first | assumption | wtm_at "si")
  | ((with_reducible apply o_ixT); rfl) | ((with_reducible apply o_ixL); rfl)
  | ((with_reducible apply o_eqD) <;> first | rfl | decide | assumption) | ((with_reducible apply o_neD) <;> first | rfl | decide | assumption)
  | with_reducible assumption)
local macro_rules | `(tactic| wtm_at "si") => `(tactic| first | decide | exact ⟨by decide, by decide +kernel⟩ | omega)
local macro_rules | `(tactic| wtm_at "ev") => `(tactic| first
  | ((with_reducible apply e_var); rfl) | with_reducible exact e_c | with_reducible exact a_nil
  | ((with_reducible apply a_cons) <;> wtm_at "ev")
  | ((with_reducible apply e_bin) <;> first | wtm_at "ev" | wtm_at "op")
  | ((with_reducible apply e_ixO) <;> first | rfl | wtm_at "ev")
  | ((with_reducible apply e_U) <;> wtm_at "ev")
  | ((with_reducible apply t_test) <;> wtm_at "ev")
  | ((with_reducible apply t_B) <;> wtm_at "ev")
  | ((with_reducible apply t_not) <;> wtm_at "ev")
  | ((with_reducible apply e_tup) <;> first | wtm_at "ev" | exact Nat.le_of_ble_eq_true rfl)
  | ((with_reducible apply e_lst) <;> first | wtm_at "ev" | exact Nat.le_of_ble_eq_true rfl)
  | ((with_reducible apply e_gcd) <;> wtm_at "ev")
  | ((with_reducible apply e_abs) <;> wtm_at "ev")
  | ((with_reducible apply e_max2) <;> wtm_at "ev")
  | ((with_reducible apply e_int) <;> wtm_at "ev")
  | ((with_reducible apply e_intB) <;> wtm_at "ev")
  | ((with_reducible apply e_bits) <;> wtm_at "ev")
  | ((with_reducible apply e_not) <;> wtm_at "ev")
  | with_reducible assumption)

variable {P : Program} {w : World} {K : Frg} {T : List (Addr × Str)} {mg : Str → Option Value} {base : Heap} {A0 : Around} {outer : List Env} {s0 : Shared} {H0 : Hp} {E : XK}

/-! the store behind the Solver -/
theorem clo_init {st : List OD} {n : Nat} {v : Slv} (hc : Clo st) (hn : n < st.length) : Clo (initS K st n v) := by
  have lM : ∀ o, (initMid K st n v o).length = st.length + v.giv.length + 2 := fun o => by unfold initMid; simp only [List.length_append, List.length_set, List.length_replicate, List.length_singleton]; omega
  intro o ho x hx j hj
  have lI : (initS K st n v).length = st.length + v.giv.length + 4 := by unfold initS; rw [List.length_append, List.length_append, lM]; rfl
  rw [lI]
  subst hj
  unfold initS at ho
  rcases List.mem_append.mp ho with z | z
  · rcases List.mem_append.mp z with z | z
    · unfold initMid at z
      rcases List.mem_append.mp z with z | z
      · rcases List.mem_append.mp z with z | z
        · rcases List.mem_append.mp z with z | z
          · rcases List.mem_or_eq_of_mem_set z with z | rfl
            · have := hc o z _ hx j rfl; omega
            · have hx : SD.own j ∈ [SD.d (.lst (v.cls.map clD)), .d (.lst (v.giv.map di)), .d (dD (endK v)), .own (st.length + v.giv.length + 2), .own (st.length + v.giv.length + 3), .d (di ((0 : Nat) : Int))] := hx
              simp only [List.mem_cons, SD.own.injEq, List.not_mem_nil, or_false, reduceCtorEq, false_or] at hx
              omega
          · rw [List.mem_singleton.mp z] at hx
            have hx : SD.own j ∈ (kvC (ddup (absF v.cls))).map (·.2) := hx
            unfold kvC at hx
            rw [List.map_map] at hx
            obtain ⟨k, _, e2⟩ := List.mem_map.mp hx
            cases e2
        · rw [List.eq_of_mem_replicate z] at hx; cases hx
      · rw [List.mem_singleton.mp z] at hx; cases hx
    · rw [List.mem_singleton.mp z] at hx; cases hx
  · rw [List.mem_singleton.mp z] at hx; cases hx
theorem at_init {st : List OD} {n : Nat} {v : Slv} (hn : n < st.length) : (initS K st n v)[n]? = some (objS K v (st.length + v.giv.length + 2) (st.length + v.giv.length + 3) 0) := by
  unfold initS initMid
  rw [List.append_assoc, List.append_assoc, List.append_assoc, List.append_assoc, List.getElem?_append_left (by rw [List.length_set]; exact hn)]
  exact List.getElem?_set_self hn
theorem hd_init {st : List OD} {n i : Nat} {v : Slv} (hi : i < st.length) (hn : n ≠ i) : (initS K st n v)[i]? = st[i]? := by
  unfold initS initMid
  rw [List.append_assoc, List.append_assoc, List.append_assoc, List.append_assoc, List.getElem?_append_left (by rw [List.length_set]; exact hi), List.getElem?_set_ne hn]
theorem base_ok {st : List OD} {n t s k : Nat} {v : Slv} (ho : st[n]? = some (objS K v t s k)) (hc : Clo st) : SA K (baseS K st n v) n st.length (st ++ [oS []]).length v S00 ∧ Clo (baseS K st n v) := by
  have ln := (List.getElem?_eq_some_iff.mp ho).1
  have l1 : (st ++ [oS []])[n]? = some (objS K v t s k) := by rw [List.getElem?_append_left ln]; exact ho
  have l2 : (st ++ [oS []] ++ [OD.lst []])[n]? = some (objS K v t s k) := by rw [List.getElem?_append_left (by rw [List.length_append]; omega)]; exact l1
  have lb : (baseS K st n v).length = st.length + 2 := by unfold baseS; rw [List.length_set, List.length_append, List.length_append]; rfl
  refine ⟨⟨List.getElem?_set_self (List.getElem?_eq_some_iff.mp l2).1, ?_, ?_, by omega, by rw [List.length_append]; omega, by rw [List.length_append, List.length_singleton]; omega⟩, ?_⟩
  · unfold baseS
    rw [List.getElem?_set_ne (by omega), List.getElem?_append_left (by rw [List.length_append, List.length_singleton]; omega), List.getElem?_append_right (Nat.le_refl _), Nat.sub_self]; rfl
  · unfold baseS
    rw [List.getElem?_set_ne (by rw [List.length_append, List.length_singleton]; omega), List.getElem?_append_right (Nat.le_refl _), Nat.sub_self]; rfl
  · intro o hm x hx j hj
    rw [lb]
    unfold baseS at hm
    rcases List.mem_or_eq_of_mem_set hm with hm | rfl
    · rcases List.mem_append.mp hm with hm | hm
      · rcases List.mem_append.mp hm with hm | hm
        · have := hc o hm x hx j hj; omega
        · rw [List.mem_singleton.mp hm] at hx; cases hx
      · rw [List.mem_singleton.mp hm] at hx; cases hx
    · subst hj
      have hx : SD.own j ∈ [SD.d (.lst (v.cls.map clD)), .d (.lst (v.giv.map di)), .d (dD (endK v)), .own st.length, .own (st ++ [oS []]).length, .d (di ((0 : Nat) : Int))] := hx
      simp only [List.mem_cons, SD.own.injEq, List.not_mem_nil, or_false, reduceCtorEq, false_or] at hx
      rcases hx with rfl | rfl
      · omega
      · rw [List.length_append, List.length_singleton]; omega
theorem clo_sol {st : List OD} {n t s k : Nat} {v : Slv} (ho : st[n]? = some (objS K v t s k)) (hc : Clo st) : Clo (solS K st n v) := by
  obtain ⟨h1, h2⟩ := base_ok ho hc
  unfold solS
  split
  · exact h2
  · exact h1.clo h2
theorem hd_sol {st : List OD} {n i : Nat} {v : Slv} (hi : i < st.length) (hn : n ≠ i) : (solS K st n v)[i]? = st[i]? := by
  have hb : (baseS K st n v)[i]? = st[i]? := by
    unfold baseS
    rw [List.getElem?_set_ne hn, List.getElem?_append_left (by rw [List.length_append]; omega), List.getElem?_append_left hi]
  unfold solS
  split
  · exact hb
  · unfold setSv
    rw [List.getElem?_set_ne hn, List.getElem?_set_ne (by rw [List.length_append]; omega), List.getElem?_set_ne (by omega), hb]
theorem clo_lst {x y : List Dt} {r : List OD} (h : Clo (.lst x :: r)) : Clo (.lst y :: r) := fun o ho z hz j hj => by
  rcases List.mem_cons.mp ho with rfl | ho
  · cases hz
  · exact h o (List.mem_cons_of_mem _ ho) z hz j hj
theorem cls_cond {m : Nat} {cls0 : List (List Int)} (h : ClsOk m cls0) (m5 : m ≤ 5) : (∀ ns ∈ cls0, strange ns = false ∧ ns.length < 10000) ∧ cls0.length ≤ 400 ∧ (∀ ns ∈ cls0, ∀ x ∈ ns, (x.natAbs : Int) ≤ m) := ⟨fun ns hn => ⟨strange_iff.mpr fun x hx => by have := h.nm ns hn x hx; omega, by have := h.len3 ns hn; omega⟩, by have := h.len; omega, fun ns hn x hx => (h.nm ns hn x hx).2⟩
theorem giv_len {m : Nat} {cls0 : List (List Int)} (hc : ∀ ns ∈ cls0, strange ns = false ∧ ns.length < 10000) (hf : cls0.length ≤ 400) (hm : ∀ ns ∈ cls0, ∀ x ∈ ns, (x.natAbs : Int) ≤ m) : (vOf cls0).giv.length ≤ m := by
  have V := vOf_ok hc hf
  have nd : (vOf cls0).giv.Nodup := V.gs.imp fun h => Int.ne_of_lt h
  have := len_sub (m := (List.range m).map fun (k : Nat) => (k : Int) + 1) nd fun x hx => by
    have := (used_iff hc hf hm).mpr hx
    exact (List.mem_filter.mp this).1
  rw [List.length_map, List.length_range] at this
  exact this
/-- what solve gives, told -/
structure Told (m : Nat) (cls0 : List (List Int)) (wd : Str) (fd : Dt) : Prop where
  or : (wd = "fits" ∧ ∃ ns : List Int, fd = rowD ns ∧ ns.length ≤ m ∧ (∃ r, (rowsN m).filter (rowP m cls0) = ns :: r) ∧ (cls0.all fun c => holdsB c ns) = true ∧ [] ∉ shown0 cls0) ∨
    (wd = "never" ∧ ∃ ss : List Stp, fd = .tup (ss.map stD) ∧ (rowsN m).filter (rowP m cls0) = [] ∧ chk (shown0 cls0) ss = true ∧ (∀ s ∈ ss, ClOk s.c ∧ ClOk s.d ∧ ClOk s.f) ∧ ss.length ≤ 1000)
theorem sol_told {m : Nat} {cls0 : List (List Int)} (h : ClsOk m cls0) (m5 : m ≤ 5) : ∃ wd fd, solD (vOf cls0) = .tup [ds wd, fd] ∧ Told m cls0 wd fd := by
  obtain ⟨hc, hf, hm⟩ := cls_cond h m5
  have gl := giv_len hc hf hm
  unfold solD
  by_cases h0 : [] ∈ (vOf cls0).cls
  · rw [if_pos h0]
    refine ⟨_, _, rfl, ⟨.inr ⟨rfl, [], rfl, rows_never hc hf hm fun α z => ?_, decide_eq_true (shown_cls hc hf [] h0), fun s hs => (by cases hs), Nat.zero_le _⟩⟩⟩
    obtain ⟨x, hx, _⟩ := (sat_all hc hf).mp z [] h0
    cases hx
  · rw [if_neg h0]
    cases he : (endW (vOf cls0)).1 with
    | none =>
      obtain ⟨h1, h2⟩ := rows_fits hc hf hm h0 he
      refine ⟨_, _, rfl, ⟨.inl ⟨rfl, _, rfl, ?_, h1, h2, fun z => h0 ((cls_mem hc hf).mpr (mem_shown0.mp z))⟩⟩⟩
      exact Nat.le_trans (List.length_filter_le ..) gl
    | some c =>
      obtain ⟨h1, h2, h3⟩ := end_never hc hf c he
      refine ⟨_, _, rfl, ⟨.inr ⟨rfl, _, rfl, rows_never hc hf hm h1, h2, h3, ?_⟩⟩⟩
      have V := vOf_ok hc hf
      have L := part_left V _ 0 S00 (Nat.zero_add _) fun i n hi => by omega
      have l2 : (endW (vOf cls0)).2.steps.length + 1 ≤ 0 + 2 ^ ((vOf cls0).giv.length + 1) := L.st
      have : 2 ^ ((vOf cls0).giv.length + 1) ≤ 64 := Nat.le_trans (Nat.pow_le_pow_right (by decide) (by omega : (vOf cls0).giv.length + 1 ≤ 6)) (by decide)
      omega
def InvD (S0 : SD) (A : AS) : Prop := ∃ (d : Dice) (m : Nat) (cls0 : List (List Int)) (wd : Str) (fd : Dt) (rest : List OD), DOk 400 d ∧ 1 ≤ m ∧ m ≤ 5 ∧ ClsOk m cls0 ∧ Told m cls0 wd fd ∧ Clo (.lst d.ds :: rest) ∧ A = ⟨[S0, .own 0, .d (dN m), .d (.lst (cls0.map nsD)), .un, .un, .d (.lst ((rowsN m).map rowD)), .un, .d (.lst ((usedL m cls0).map di)), .un, .d (.lst (((rowsN m).filter (rowP m cls0)).map rowD)), .d (ds wd), .d fd, .un, .un, .un, .un, .un, .un, .un, .un, .un, .un, .un, .un, .un, .un, .un], .lst d.ds :: rest⟩

theorem segD (Z : GS P w K T mg base) (Tx : Txt K mg) (LB : LamB K base mg T "law") (hr : Room 30 (XL P w K mg base A0 outer s0 H0 E).A)
    (next : ∃ t, PSs (XL P w K mg base A0 outer s0 H0 E) (LBd.drop 10) t ∧ ∀ S0 O A, InvD S0 A → RunS ⟨K, T, H0, O⟩ E t A (PF S0)) :
    ∃ t, PSs (XL P w K mg base A0 outer s0 H0 E) (LBd.drop 7) t ∧ ∀ S0 O A, InvC S0 A → RunS ⟨K, T, H0, O⟩ E t A (PF S0) := by
  obtain ⟨t', h', r0'⟩ := next
  have sc := sc_law
  refine ⟨_, (pss_cons (ps_asg (Z.G_solve.use fun _ _ _ F hb M => pe_meth0 (Z.G_Solver.use fun _ _ _ F hb M => pe_make M F (hr.mono (by decide)) (by rfl) Z.G_Solver.nm hb .nil psE (pa_cons (pv 3) pa_nil)) Z.G_solve.cl M F (hr.mono (by decide)) hb .nil psE) (pg_tup rfl (pgs_cons (pg_name (i := 11) sc.nd rfl (Or.inl rfl)) (pgs_cons (pg_name (i := 12) sc.nd rfl (Or.inr rfl)) pgs_nil))))
  (pss_cons (ps_if (PW.pt (pw_or (pt_cmpR (op_neA hr.units) (pe_cmpR (op_eqA hr.units) (pv 11) pe_str (nomark _)) (pe_cmpR (op_neA hr.units) (pv 10) (pe_lst pa_nil) (nomark _)) (nomark _)) (pw_or1 (PW.pt (pw_and (pt_cmpR (op_eqA hr.units) (pv 11) pe_str (nomark _)) (pw_and1 (PW.pt (pw_or (pt_cmpR (op_neA hr.units) (pv 12) (pe_ix ix_seq (pv 10) pe_int (fun _ _ => rfl)) (nomark _)) (pw_or1 (pt_cmpR (op_neA hr.units) (pe_lc (own := [("one", 9)]) rfl sc.nd (pi_list (pv 3)) (blkOk_by (own := [("one", 9)]) (N := ["script", "dice", "many", "clauses", "k", "j", "rows", "row", "used", "one", "due", "word", "found", "spot", "name", "other", "more", "bent", "steps", "left", "right", "number", "rest", "bad", "a", "b", "c", "f"]) (sc := defScope s_law) (by decide +kernel)) (fun _ _ _ _ _ => (pg_name (i := 9) sc.nd rfl (Or.inl rfl))) (fun _ _ _ _ _ => (pts_one (pt_not (pt_val (pe_callG Z.G_holds_by (hr.mono (by decide)) passL (pa_cons (pe_callTy (call_tupleK (K := K) rfl) (by rfl) Tx.n_tuple (by decide +kernel) (pa_cons (pv 9) pa_nil)) (pa_cons (pv 12) pa_nil))))))) (fun _ _ _ _ _ => (pv 9))) (pe_lst pa_nil) (nomark _))))))))))) (pss_one (ps_ret pe_bl)) pss_nil)
  (pss_cons (ps_for (passesE) rfl (pi_list (pv 6)) (pg_name (i := 7) sc.nd rfl (Or.inr rfl)) (pss_one (ps_if (pt_cmpR (op_neA hr.units) (pe_lc (own := [("one", 9)]) rfl sc.nd (pi_list (pv 3)) (blkOk_by (own := [("one", 9)]) (N := ["script", "dice", "many", "clauses", "k", "j", "rows", "row", "used", "one", "due", "word", "found", "spot", "name", "other", "more", "bent", "steps", "left", "right", "number", "rest", "bad", "a", "b", "c", "f"]) (sc := defScope s_law) (by decide +kernel)) (fun _ _ _ _ _ => (pg_name (i := 9) sc.nd rfl (Or.inl rfl))) (fun _ _ _ _ _ => (pts_one (pt_cmpR (op_neAK (K := K) rfl hr.units) (pe_callG Z.G_holds_by (hr.mono (by decide)) passL (pa_cons (pe_callTy (call_tupleK (K := K) rfl) (by rfl) Tx.n_tuple (by decide +kernel) (pa_cons (pv 9) pa_nil)) (pa_cons (pv 7) pa_nil))) (pe_callG Z.G__law_true (hr.mono (by decide)) passL (pa_cons (pv 9) (pa_cons (pv 7) pa_nil))) (nomark _)))) (fun _ _ _ _ _ => (pv 9))) (pe_lst pa_nil) (nomark _)) (pss_one (ps_ret pe_bl)) pss_nil)))
  h'))), fun S0 O A hA => ?_⟩
  have r' := r0' S0
  clear r0'
  clear sc hr h'
  try dsimp only [XL, cxOf]
  obtain ⟨d, m, cls0, hS, dk, m1, m5, hcl, rfl⟩ := hA
  obtain ⟨hc, hf, hm⟩ := cls_cond hcl m5
  have gl := giv_len hc hf hm
  have V := vOf_ok hc hf
  have lc := hcl.len
  obtain ⟨wd, fd, hsol, told⟩ := sol_told hcl m5
  have c0 : Clo [OD.lst d.ds, .gone, .obj (SV K) [] []] := fun o ho x hx j hj => by
    simp only [List.mem_cons, List.not_mem_nil, or_false] at ho
    rcases ho with rfl | rfl | rfl <;> cases hx
  have c1 : Clo (initS K [OD.lst d.ds, .gone, .obj (SV K) [] []] 2 (vOf cls0)) := clo_init c0 (by show 2 < 3; decide)
  have a1 : (initS K [OD.lst d.ds, .gone, .obj (SV K) [] []] 2 (vOf cls0))[2]? = _ := at_init (by show 2 < 3; decide)
  have c2 := clo_sol a1 c1
  have a0 : (solS K (initS K [OD.lst d.ds, .gone, .obj (SV K) [] []] 2 (vOf cls0)) 2 (vOf cls0))[0]? = some (.lst d.ds) := by
    rw [hd_sol (by have := (List.getElem?_eq_some_iff.mp a1).1; omega) (by decide), hd_init (by show 0 < 3; decide) (by decide)]; rfl
  refine r_seq (r_tg (d := .tup [ds wd, fd]) (e_is (e_g (d := solD (vOf cls0)) (g_methS (n := 2) (st' := solS K (initS K [OD.lst d.ds, .gone, .obj (SV K) [] []] 2 (vOf cls0)) 2 (vOf cls0)) (g_makeS (st' := initS K [OD.lst d.ds, .gone, .obj (SV K) [] []] 2 (vOf cls0)) (p_g (g_d (e_var rfl)) p_nil) ⟨2, cls0, rfl, rfl, c0, hc, hf, rfl⟩) a1 (by decide) p_nil ⟨2, _, _, 0, vOf cls0, rfl, a1, c1, V, by omega, rfl⟩)) hsol) (tg_tup rfl (tgA_cons tg_name (tgA_cons tg_name tgA_nil))) ?_)
  generalize solS K (initS K [OD.lst d.ds, .gone, .obj (SV K) [] []] 2 (vOf cls0)) 2 (vOf cls0) = st2 at *
  obtain ⟨rest, rfl⟩ : ∃ rest, st2 = .lst d.ds :: rest := by
    cases st2 with
    | nil => simp at a0
    | cons o r => exact ⟨r, by rw [List.getElem?_cons_zero] at a0; rw [Option.some.inj a0]⟩
  clear a0 a1 c1 c0 hsol V
  show RunS _ _ _ ⟨[S0, .own 0, .d (dN m), .d (.lst (cls0.map nsD)), .un, .un, .d (.lst ((rowsN m).map rowD)), .un, .d (.lst ((usedL m cls0).map di)), .un, .d (.lst (((rowsN m).filter (rowP m cls0)).map rowD)), .d (ds wd), .d fd, .un, .un, .un, .un, .un, .un, .un, .un, .un, .un, .un, .un, .un, .un, .un], .lst d.ds :: rest⟩ _
  have lrn : (rowsN m).length ≤ 32 := by
    unfold rowsN
    rw [List.length_map, ← (rs_perm m m5).length_eq, len_rs]
    exact Nat.le_trans (Nat.pow_le_pow_right (by decide) m5) (by decide)
  have lrow : ∀ r ∈ rowsN m, r.length ≤ 5 := fun r hr => by
    obtain ⟨b, hb, rfl⟩ := List.mem_map.mp hr
    unfold nmB
    rw [List.length_map]
    refine Nat.le_trans (List.length_filter_le ..) ?_
    rw [List.length_range, mem_srt.mp hb]; exact m5
  have fin := r' O ⟨[S0, .own 0, .d (dN m), .d (.lst (cls0.map nsD)), .un, .un, .d (.lst ((rowsN m).map rowD)), .un, .d (.lst ((usedL m cls0).map di)), .un, .d (.lst (((rowsN m).filter (rowP m cls0)).map rowD)), .d (ds wd), .d fd, .un, .un, .un, .un, .un, .un, .un, .un, .un, .un, .un, .un, .un, .un, .un], .lst d.ds :: rest⟩ ⟨d, m, cls0, wd, fd, rest, dk, m1, m5, hcl, told, c2, rfl⟩
  refine r_seq (r_ifFs ?ht (r_next ?nine))
  case nine => exact r_seq (r_forL (xs := (rowsN m).map rowD) (e_var rfl) (fun i A => ∃ x7, A = ⟨[S0, .own 0, .d (dN m), .d (.lst (cls0.map nsD)), .un, .un, .d (.lst ((rowsN m).map rowD)), x7, .d (.lst ((usedL m cls0).map di)), .un, .d (.lst (((rowsN m).filter (rowP m cls0)).map rowD)), .d (ds wd), .d fd, .un, .un, .un, .un, .un, .un, .un, .un, .un, .un, .un, .un, .un, .un, .un], .lst d.ds :: rest⟩) ⟨.un, rfl⟩ (fun i x A hx ⟨x7, hA⟩ => by
    subst hA
    rw [List.getElem?_map] at hx
    obtain ⟨r, hr, rfl⟩ := Option.map_eq_some_iff.mp hx
    have hr := lrow r (List.mem_of_getElem? hr)
    refine ⟨⟨[S0, .own 0, .d (dN m), .d (.lst (cls0.map nsD)), .un, .un, .d (.lst ((rowsN m).map rowD)), .d (rowD r), .d (.lst ((usedL m cls0).map di)), .un, .d (.lst (((rowsN m).filter (rowP m cls0)).map rowD)), .d (ds wd), .d fd, .un, .un, .un, .un, .un, .un, .un, .un, .un, .un, .un, .un, .un, .un, .un], .lst d.ds :: rest⟩, tg_name, ?_⟩
    refine r_ifF (t_is (t_test (e_bin (e_ofN (e_mfL (l := cls0) (D := nsD) (f := nsD) (p := fun _ => false) (e_var rfl) (fun one ho O2 => mf_if (tgS_name (by simp)) (t_is (t_test (e_bin (e_call (C := ⟨K, T, H0, O2⟩) (d := db (holdsB one r)) (a_cons (e_unE (e_tupLE (e_var rfl))) (a_cons (e_var rfl) a_nil)) ⟨one, r, rfl, by have := hcl.len3 one ho; omega, by omega, rfl⟩) (e_call (C := ⟨K, T, H0, O2⟩) (d := db (holdsB one r)) (a_cons (e_var rfl) (a_cons (e_var rfl) a_nil)) ⟨one, r, rfl, by have := hcl.len3 one ho; omega, by omega, rfl⟩) o_neB)) (by simp)) (e_var rfl) rfl rfl) (by omega))) (e_lst a_nil (by decide)) (o_neNil (n := 1) (nice_ns _)))) (by rw [any_filterG]; simp)) (r_next ⟨_, rfl⟩)) (fun A ⟨x7, hA⟩ => by
    subst hA
    exact r_wk (sl' := [S0, .own 0, .d (dN m), .d (.lst (cls0.map nsD)), .un, .un, .d (.lst ((rowsN m).map rowD)), .un, .d (.lst ((usedL m cls0).map di)), .un, .d (.lst (((rowsN m).filter (rowP m cls0)).map rowD)), .d (ds wd), .d fd, .un, .un, .un, .un, .un, .un, .un, .un, .un, .un, .un, .un, .un, .un, .un]) (by repeat (first | exact Wk.nil | apply Wk.same | apply Wk.un)) fin))
  case ht =>
    obtain ⟨or⟩ := told
    rcases or with ⟨rfl, ns, rfl, hns, ⟨r, hr⟩, hall, _⟩ | ⟨rfl, ss, rfl, hr, _⟩
    · refine (t_orF (t_is (t_test (e_bin (e_bin (e_var rfl) e_c (o_eq rfl)) (e_bin (e_var rfl) (e_lst a_nil (by decide)) (o_neNil (n := 1) (nice_rw _))) o_neB)) ?q1) (t_andT (t_is (t_test (e_bin (e_var rfl) e_c (o_eq rfl))) (by decide)) (t_orF (t_is (t_test (e_bin (e_var rfl) (e_bin (e_var rfl) e_c (o_ixL (d := rowD ns) ?q2)) (o_neSame (n := 1) (nice_tI ns)))) rfl) (t_is (t_test (e_bin (e_ofN (e_mfL (l := cls0) (D := nsD) (f := nsD) (p := fun _ => false) (e_var rfl) (fun one ho O2 => mf_if (tgS_name (by simp)) (t_is (t_not (t_B (e_call (C := ⟨K, T, H0, O2⟩) (d := db (holdsB one ns)) (a_cons (e_unE (e_tupLE (e_var rfl))) (a_cons (e_var rfl) a_nil)) ⟨one, ns, rfl, by have := hcl.len3 one ho; omega, by omega, rfl⟩))) ?q3) (e_var rfl) rfl rfl) (by omega))) (e_lst a_nil (by decide)) (o_neNil (n := 1) (nice_ns _)))) (by rw [any_filterG]; simp)))))
      case q1 => rw [hr, decide_eq_true (rfl : V.str (Str.ofString "fits") = V.str (Str.ofString "fits"))]; rfl
      case q2 =>
        rw [hr]
        unfold atI ixN
        rw [if_pos (by decide), if_pos (by rw [List.length_map, List.length_cons]; omega)]
        rfl
      case q3 => rw [List.all_eq_true.mp hall one ho]; rfl
    · refine (t_orF (t_is (t_test (e_bin (e_bin (e_var rfl) e_c (o_eq rfl)) (e_bin (e_var rfl) (e_lst a_nil (by decide)) (o_neNil (n := 1) (nice_rw _))) o_neB)) ?q1) (t_andF (t_is (t_test (e_bin (e_var rfl) e_c (o_eq rfl))) (by decide))))
      case q1 => rw [hr]; decide

end Law
end

section
set_option Elab.async false
set_option linter.all false
set_option maxRecDepth 100000
set_option maxHeartbeats 4000000
set_option autoImplicit false
set_option exponentiation.threshold 300
namespace Law
open PySem PySem.Spec PyProof.Rows L2 Py

local macro_rules | `(tactic| wtm_at "op") => `(tactic| first
  | with_reducible exact o_I0 | with_reducible exact o_add | with_reducible exact o_eqI | with_reducible exact o_neI
  | ((with_reducible apply o_mul); first | assumption | wtm_at "si")
  | ((with_reducible apply o_I); first | assumption | wtm_at "si")
  | ((with_reducible apply o_ixT); rfl) | ((with_reducible apply o_ixL); rfl)
  | ((with_reducible apply o_eqD) <;> first | rfl | decide | assumption) | ((with_reducible apply o_neD) <;> first | rfl | decide | assumption)
  | with_reducible assumption)
local macro_rules | `(tactic| wtm_at "si") => `(tactic| first | decide | exact ⟨by decide, by decide +kernel⟩ | omega)
local macro_rules | `(tactic| wtm_at "ev") => `(tactic| first
  | ((with_reducible apply e_var); rfl) | with_reducible exact e_c | with_reducible exact a_nil
  | ((with_reducible apply a_cons) <;> wtm_at "ev")
  | ((with_reducible apply e_bin) <;> first | wtm_at "ev" | wtm_at "op")
  | ((with_reducible apply e_ixO) <;> first | rfl | wtm_at "ev")
  | ((with_reducible apply e_U) <;> wtm_at "ev")
  | ((with_reducible apply t_test) <;> wtm_at "ev")
  | ((with_reducible apply t_B) <;> wtm_at "ev")
  | ((with_reducible apply t_not) <;> wtm_at "ev")
  | ((with_reducible apply e_tup) <;> first | wtm_at "ev" | exact Nat.le_of_ble_eq_true rfl)
  | ((with_reducible apply e_lst) <;> first | wtm_at "ev" | exact Nat.le_of_ble_eq_true rfl)
  | ((with_reducible apply e_gcd) <;> wtm_at "ev")
  | ((with_reducible apply e_abs) <;> wtm_at "ev")
  | ((with_reducible apply e_max2) <;> wtm_at "ev")
  | ((with_reducible apply e_int) <;> wtm_at "ev")
  | ((with_reducible apply e_intB) <;> wtm_at "ev")
  | ((with_reducible apply e_bits) <;> wtm_at "ev")
  | ((with_reducible apply e_not) <;> wtm_at "ev")
  | with_reducible assumption)

variable {P : Program} {w : World} {K : Frg} {T : List (Addr × Str)} {mg : Str → Option Value} {base : Heap} {A0 : Around} {outer : List Env} {s0 : Shared} {H0 : Hp} {E : XK}

theorem cut_to {xs : List Dt} {s : Nat} (h : s ≤ xs.length) : cutL xs none (some (s : Int)) = xs.take s := by
  unfold cutL
  rw [HT.sIx_nat, HT.sIx_none, Nat.min_eq_left h, List.drop_zero, Nat.sub_zero]
theorem cut_from {xs : List Dt} {s : Nat} (h : s ≤ xs.length) : cutL xs (some (s : Int)) none = xs.drop s := by
  unfold cutL
  rw [HT.sIx_nat, HT.sIx_none, Nat.min_eq_left h, List.take_of_length_le (by rw [List.length_drop]; exact Nat.le_refl _)]
/-- the bent steps -/
def bentS (ss : List Stp) (i : Nat) (s : Stp) : List (List Stp) := [ss.take i ++ ss.drop (i + 1), ss.take i ++ [⟨s.n, s.c, s.d, s.f ++ [60]⟩] ++ ss.drop (i + 1), ss.take i ++ [⟨s.n, s.d, s.c, s.f⟩] ++ ss.drop (i + 1), ss.take (ss.length - 1)]
theorem bentS_ok {ss : List Stp} {i : Nat} {s : Stp} (h : ∀ s ∈ ss, ClOk s.c ∧ ClOk s.d) (hs : s ∈ ss) (hi : i < ss.length) (hl : ss.length ≤ 1000) : ∀ bs ∈ bentS ss i s, (∀ t ∈ bs, ClOk t.c ∧ ClOk t.d) ∧ bs.length ≤ 2000 := by
  intro bs hb
  have tk : ∀ {k : Nat} {t : Stp}, t ∈ ss.take k → ClOk t.c ∧ ClOk t.d := fun ht => h _ (List.mem_of_mem_take ht)
  have dp : ∀ {k : Nat} {t : Stp}, t ∈ ss.drop k → ClOk t.c ∧ ClOk t.d := fun ht => h _ (List.mem_of_mem_drop ht)
  have l1 := List.length_take_le i ss
  have l2 : (ss.drop (i + 1)).length ≤ ss.length := by rw [List.length_drop]; omega
  have l3 := List.length_take_le (ss.length - 1) ss
  have l4 : (ss.take i).length ≤ ss.length := by rw [List.length_take]; omega
  unfold bentS at hb
  simp only [List.mem_cons, List.not_mem_nil, or_false] at hb
  rcases hb with rfl | rfl | rfl | rfl
  · exact ⟨fun t ht => (List.mem_append.mp ht).elim tk dp, by rw [List.length_append]; omega⟩
  · exact ⟨fun t ht => (List.mem_append.mp ht).elim (fun z => (List.mem_append.mp z).elim tk fun y => by rw [List.mem_singleton.mp y]; exact h s hs) dp, by rw [List.length_append, List.length_append, List.length_singleton]; omega⟩
  · exact ⟨fun t ht => (List.mem_append.mp ht).elim (fun z => (List.mem_append.mp z).elim tk fun y => by rw [List.mem_singleton.mp y]; exact ⟨(h s hs).2, (h s hs).1⟩) dp, by rw [List.length_append, List.length_append, List.length_singleton]; omega⟩
  · exact ⟨fun t ht => tk ht, by omega⟩
theorem map3 (a b : List Stp) (s : Stp) : (a ++ [s] ++ b).map stD = a.map stD ++ [stD s] ++ b.map stD := by rw [List.map_append, List.map_append]; rfl
theorem stD_60 (s : Stp) : stD ⟨s.n, s.c, s.d, s.f ++ [60]⟩ = Dt.tup [di s.n, clD s.c, clD s.d, .tupE (s.f.map di ++ [di 60])] := by
  show Dt.tup [di s.n, clD s.c, clD s.d, .tupE ((s.f ++ [60]).map di)] = _
  rw [List.map_append]; rfl
def pySt (s : Stp) : PyData := .tuple [.int s.n, .tuple (pyI s.c), .tuple (pyI s.d), .tuple (pyI s.f)]
theorem nice_st (ss : List Stp) : Nice 3 (.tup (ss.map stD)) (.tuple (ss.map pySt)) := .tup (niceA_map (fun s => .tup (.cons .int (.cons (nice_tE _) (.cons (nice_tE _) (.cons (nice_tE _) .nil))))) ss)
theorem eqv_tnil (ss : List Stp) : PyData.eqv (.tuple (ss.map pySt)) (.tuple []) = ss.isEmpty := by
  cases ss with
  | nil => rw [List.map_nil, PyData.eqv, PyData.eqvAll]; rfl
  | cons s r => rw [List.map_cons, PyData.eqv, PyData.eqvAll]; rfl
theorem o_isStr {C : Ct} {s : Str} : OpS C (fun x y H Q => y = .non ∧ Q (.bl (decide (x = .non))) H) (ds s) dn (db false) := fun os A σ H vx vy k i1 i2 Q q => by
  rw [Is.v_iff.mp i1]
  refine ⟨Is.v_iff.mp i2, ?_⟩
  rw [decide_eq_false (by simp)]
  exact q _ H (Ex.refl _) k.tb is_v
def InvE (S0 : SD) (A : AS) : Prop := ∃ (d : Dice) (rest : List OD), DOk 500 d ∧ Clo (.lst d.ds :: rest) ∧ A = ⟨[S0, .own 0, .un, .un, .un, .un, .un, .un, .un, .un, .un, .un, .un, .un, .un, .un, .un, .un, .un, .un, .un, .un, .un, .un, .un, .un, .un, .un], .lst d.ds :: rest⟩

theorem segE (Z : GS P w K T mg base) (Tx : Txt K mg) (LB : LamB K base mg T "law") (hr : Room 30 (XL P w K mg base A0 outer s0 H0 E).A)
    (next : ∃ t, PSs (XL P w K mg base A0 outer s0 H0 E) (LBd.drop 11) t ∧ ∀ S0 O A, InvE S0 A → RunS ⟨K, T, H0, O⟩ E t A (PF S0)) :
    ∃ t, PSs (XL P w K mg base A0 outer s0 H0 E) (LBd.drop 10) t ∧ ∀ S0 O A, InvD S0 A → RunS ⟨K, T, H0, O⟩ E t A (PF S0) := by
  obtain ⟨t', h', r0'⟩ := next
  have sc := sc_law
  refine ⟨_, (pss_cons (ps_if (pt_cmpR (op_eqA hr.units) (pv 11) pe_str (nomark _)) (pss_cons (ps_if (PW.pt (pw_or (pt_not (pt_val (pe_callG Z.G__law_proved (hr.mono (by decide)) psE (pa_cons (pv 3) (pa_cons (pv 12) pa_nil))))) (pw_or1 (pt_cmpR op_notN (pe_toldN (f := "law") (k := 10) Z.F_told Z.hm_told Tx.gSolveError LB rfl rfl (hr.mono (by decide)) (show LamX.LamS (defScope s_law) _ from LamX.lamS_by (by decide +kernel)) rfl (fun _ _ _ _ _ => rfl) (fun A outer s H E f c' hr => (pe_callG Z.G_check_steps (hr.mono (by decide)) psF (pa_cons (pv 3) (pa_cons (pv 12) pa_nil))))) pe_non (nomark _))))) (pss_one (ps_ret pe_bl)) pss_nil)
  (pss_one (ps_if (pt_cmpR (op_neA hr.units) (pv 12) (pe_tup pa_nil) (nomark _)) (pss_cons (ps_set (i := 13) sc.nd rfl (Or.inl rfl) (pe_callG Z.G__law_roll (hr.mono (by decide)) psE (pa_cons (pv 1) (pa_cons (pe_callB call_len (by rfl) Tx.n_len (by decide +kernel) (pa_cons (pv 12) pa_nil)) pa_nil))))
  (pss_cons (ps_asg (pe_ix ix_seq (pv 12) (pv 13) (fun _ _ => rfl)) (pg_tup rfl (pgs_cons (pg_name (i := 14) sc.nd rfl (Or.inl rfl)) (pgs_cons (pg_name (i := 9) sc.nd rfl (Or.inr rfl)) (pgs_cons (pg_name (i := 15) sc.nd rfl (Or.inl rfl)) (pgs_cons (pg_name (i := 16) sc.nd rfl (Or.inl rfl)) pgs_nil))))))
  (pss_cons (ps_set (i := 17) sc.nd rfl (Or.inl rfl) (pe_lst (pa_cons (pe_op op_addT (pe_slice sl_tupA (pv 12) po_none (po_some (pv 13))) (pe_slice sl_tupA (pv 12) (po_some (pe_op op_addA (pv 13) pe_int)) po_none)) (pa_cons (pe_op op_addT (pe_op op_addT (pe_slice sl_tupA (pv 12) po_none (po_some (pv 13))) (pe_tup (pa_cons (pe_tup (pa_cons (pv 14) (pa_cons (pv 9) (pa_cons (pv 15) (pa_cons (pe_op op_addT (pv 16) (pe_tup (pa_cons pe_int pa_nil))) pa_nil))))) pa_nil))) (pe_slice sl_tupA (pv 12) (po_some (pe_op op_addA (pv 13) pe_int)) po_none)) (pa_cons (pe_op op_addT (pe_op op_addT (pe_slice sl_tupA (pv 12) po_none (po_some (pv 13))) (pe_tup (pa_cons (pe_tup (pa_cons (pv 14) (pa_cons (pv 15) (pa_cons (pv 9) (pa_cons (pv 16) pa_nil))))) pa_nil))) (pe_slice sl_tupA (pv 12) (po_some (pe_op op_addA (pv 13) pe_int)) po_none)) (pa_cons (pe_slice sl_tupA (pv 12) po_none (po_some (pe_op op_sub (pe_callB call_len (by rfl) Tx.n_len (by decide +kernel) (pa_cons (pv 12) pa_nil)) pe_int))) pa_nil))))))
  (pss_one (ps_for (passesE) rfl (pi_list (pv 17)) (pg_name (i := 18) sc.nd rfl (Or.inr rfl)) (pss_one (ps_if (pt_cmpR (op_neA hr.units) (pe_cmpR op_isN (pe_toldN (f := "law") (k := 10) Z.F_told Z.hm_told Tx.gSolveError LB rfl rfl (hr.mono (by decide)) (show LamX.LamS (defScope s_law) _ from LamX.lamS_by (by decide +kernel)) rfl (fun _ _ _ _ _ => rfl) (fun A outer s H E f c' hr => (pe_callG Z.G_check_steps (hr.mono (by decide)) psF (pa_cons (pv 3) (pa_cons (pv 18) pa_nil))))) pe_non (nomark _)) (pe_callG Z.G__law_proved (hr.mono (by decide)) psE (pa_cons (pv 3) (pa_cons (pv 18) pa_nil))) (nomark _)) (pss_one (ps_ret pe_bl)) pss_nil))))))) pss_nil))) (pss_one (ps_if (pt_cmpR (op_neA hr.units) (pe_toldN (f := "law") (k := 10) Z.F_told Z.hm_told Tx.gSolveError LB rfl rfl (hr.mono (by decide)) (show LamX.LamS (defScope s_law) _ from LamX.lamS_by (by decide +kernel)) rfl (fun _ _ _ _ _ => rfl) (fun A outer s H E f c' hr => (pe_callG Z.G_check_steps (hr.mono (by decide)) psF (pa_cons (pv 3) (pa_cons (pe_tup pa_nil) pa_nil))))) pe_str (nomark _)) (pss_one (ps_ret pe_bl)) pss_nil)))
  h'), fun S0 O A hA => ?_⟩
  have r' := r0' S0
  clear r0'
  clear sc hr h'
  try dsimp only [XL, cxOf]
  obtain ⟨d, m, cls0, wd, fd, rest, dk, m1, m5, hcl, told, c2, rfl⟩ := hA
  obtain ⟨hc, hf, hm⟩ := cls_cond hcl m5
  have lc := hcl.len
  have fin : ∀ (d' : Dice) (A' : AS), DOk 500 d' → A'.st = .lst d'.ds :: rest → Wk [S0, .own 0, .un, .un, .un, .un, .un, .un, .un, .un, .un, .un, .un, .un, .un, .un, .un, .un, .un, .un, .un, .un, .un, .un, .un, .un, .un, .un] A'.sl → RunS ⟨K, T, H0, O⟩ E t' A' (PF S0) := fun d' A' h1 h2 h3 => by
    obtain ⟨sl', st'⟩ := A'
    have h2 : st' = _ := h2
    subst h2
    exact r_wk h3 (r' O _ ⟨d', rest, h1, clo_lst c2, rfl⟩)
  have ck : ∀ (ss : List Stp), (∀ s ∈ ss, ClOk s.c ∧ ClOk s.d) → ss.length ≤ 2000 → sp_check K [.lst (cls0.map nsD), .tup (ss.map stD)] (checkR K cls0 ss) := fun ss h1 h2 => ⟨cls0, ss, rfl, hc, fun s hs => ⟨by have := (h1 s hs).1.len; omega, by have := (h1 s hs).2.len; omega⟩, by omega, rfl⟩
  have pv : ∀ (ss : List Stp), (∀ s ∈ ss, ClOk s.c ∧ ClOk s.d) → ss.length ≤ 2000 → sp_proved [.lst (cls0.map nsD), .tup (ss.map stD)] (.ok (db (chk (shown0 cls0) ss))) := fun ss h1 h2 => ⟨cls0, ss, rfl, fun ns hn => (hc ns hn).2, fun s hs => ⟨by have := (h1 s hs).1.len; omega, by have := (h1 s hs).2.len; omega⟩, by omega, by rw [both_agree (fun ns hn => (hc ns hn).1) h1]⟩
  obtain ⟨or⟩ := told
  rcases or with ⟨rfl, ns, rfl, hns, _, _, h0⟩ | ⟨rfl, ss, rfl, _, hchk, hok, hsl⟩
  · have e0 : checkR K cls0 [] = .err (SE K) := if_neg (by rw [chk, decide_eq_false h0]; decide)
    exact r_seq (r_ifF (t_is (t_test (e_bin (e_var rfl) e_c (o_eq rfl))) (by decide)) (r_ifF (t_is (t_test (e_bin (e_toldErr (C := ⟨K, T, H0, O⟩) Tx.m fun E' => x_call (C := ⟨K, T, H0, O⟩) (c := SE K) (a_cons (e_var rfl) (a_cons (e_tup a_nil (by decide)) a_nil)) (by rw [← e0]; exact ck [] (fun s hs => by cases hs) (by decide))) e_c (o_ne rfl))) (by decide)) (r_next (fin d _ (dk.up (by decide)) rfl (by repeat (first | exact Wk.nil | apply Wk.same | apply Wk.un))))))
  · have hok2 : ∀ s ∈ ss, ClOk s.c ∧ ClOk s.d := fun s hs => ⟨(hok s hs).1, (hok s hs).2.1⟩
    have e1 : checkR K cls0 ss = .ok dn := if_pos hchk
    refine r_seq (r_ifT (t_is (t_test (e_bin (e_var rfl) e_c (o_eq rfl))) (by decide)) (r_seq (r_ifF (t_orF (t_is (t_not (t_B (e_call (C := ⟨K, T, H0, O⟩) (d := db (chk (shown0 cls0) ss)) (a_cons (e_var rfl) (a_cons (e_var rfl) a_nil)) (pv ss hok2 (by omega))))) (by rw [hchk]; rfl)) (t_test (e_bin (e_toldOk (C := ⟨K, T, H0, O⟩) fun E' => e_call (C := ⟨K, T, H0, O⟩) (d := dn) (a_cons (e_var rfl) (a_cons (e_var rfl) a_nil)) (by rw [← e1]; exact ck ss hok2 (by omega))) e_c (o_notNone (.inl ⟨rfl, rfl⟩))))) (r_next ?_))))
    have nn := o_neN (C := ⟨K, T, H0, O⟩) (n := 3) (m := 1) (nice_st ss) (.tup .nil)
    rw [eqv_tnil] at nn
    cases ss with
    | nil => exact r_ifF (t_is (t_test (e_bin (e_var rfl) (e_tup a_nil (by decide)) nn)) rfl) (r_next (fin d _ (dk.up (by decide)) rfl (by repeat (first | exact Wk.nil | apply Wk.same | apply Wk.un))))
    | cons s0 r0 =>
      refine r_ifT (t_is (t_test (e_bin (e_var rfl) (e_tup a_nil (by decide)) nn)) rfl) ?_
      have hne : 0 < (s0 :: r0).length := Nat.succ_pos _
      generalize s0 :: r0 = ss at *
      have hL : (0 : Int) < ((ss.map stD).length : Int) := by rw [List.length_map]; omega
      have q1 := roll_lt (d := d) hL
      have d1 := roll_ok dk hL
      rw [List.length_map] at q1
      obtain ⟨i, hi⟩ : ∃ i : Nat, rollV d ((ss.map stD).length : Int) = (i : Int) := ⟨(rollV d ((ss.map stD).length : Int)).toNat, by rw [List.length_map]; omega⟩
      rw [List.length_map] at hi
      have il : i < ss.length := by omega
      refine r_seq (r_asg (d := dN i) (e_is (e_roll (n := 0) (c := 400) rfl rfl (e_lenT (e_var rfl)) dk (by decide) hL (sz5 (by rw [List.length_map]; omega))) (by rw [List.length_map, hi])) ?_)
      generalize rollD d ((ss.map stD).length : Int) = d' at d1
      have d1 : DOk 401 d' := d1
      have hgi : (ss.map stD)[i]? = some (stD ss[i]) := by rw [List.getElem?_map, List.getElem?_eq_getElem il]; rfl
      have hs : ss[i] ∈ ss := List.getElem_mem il
      generalize ss[i] = s at *
      refine r_seq (r_tg (d := stD s) (e_bin (e_var rfl) (e_var rfl) (o_ixT (by
        unfold atI ixN
        rw [if_pos (by omega), if_pos (by rw [List.length_map]; omega)]
        show (ss.map stD)[((i : Int)).toNat]? = _
        rw [Int.toNat_natCast]; exact hgi))) (tg_tup rfl (tgA_cons tg_name (tgA_cons tg_name (tgA_cons tg_name (tgA_cons tg_name tgA_nil))))) ?_)
      show RunS _ _ _ ⟨[S0, .own 0, .d (dN m), .d (.lst (cls0.map nsD)), .un, .un, .d (.lst ((rowsN m).map rowD)), .un, .d (.lst ((usedL m cls0).map di)), .d (clD s.c), .d (.lst (((rowsN m).filter (rowP m cls0)).map rowD)), .d (ds "never"), .d (.tup (ss.map stD)), .d (dN i), .d (di s.n), .d (clD s.d), .d (clD s.f), .un, .un, .un, .un, .un, .un, .un, .un, .un, .un, .un], .lst d'.ds :: rest⟩ _
      have lsm : (ss.map stD).length = ss.length := List.length_map ..
      have hs1 : i ≤ (ss.map stD).length := by omega
      have hs2 : i + 1 ≤ (ss.map stD).length := by omega
      have hs3 : ss.length - 1 ≤ (ss.map stD).length := by omega
      have sm : s.c.length ≤ 121 ∧ s.d.length ≤ 121 ∧ s.f.length ≤ 121 := ⟨(hok s hs).1.len, (hok s hs).2.1.len, (hok s hs).2.2.len⟩
      have lt1 : ((ss.map stD).take i).length ≤ 1000 := by rw [List.length_take]; omega
      have lt2 : ((ss.map stD).drop (i + 1)).length ≤ 1000 := by rw [List.length_drop]; omega
      refine r_seq (r_asg (d := .lst ((bentS ss i s).map fun ss => .tup (ss.map stD))) (e_lst (ds := (bentS ss i s).map fun ss => .tup (ss.map stD)) (a_cons (e_is (e_bin (e_is (e_slT (e_var rfl) o_no (o_part (e_var rfl))) (congrArg Dt.tup (cut_to hs1))) (e_is (e_slT (e_var rfl) (o_part (e_is (e_bin (e_var rfl) e_c o_add) (show _ = dN (i + 1) from rfl))) o_no) (congrArg Dt.tup (cut_from hs2))) (o_addT (by omega))) (by rw [← List.map_take, ← List.map_drop, ← List.map_append])) (a_cons (e_is (e_bin (e_bin (e_is (e_slT (e_var rfl) o_no (o_part (e_var rfl))) (congrArg Dt.tup (cut_to hs1))) (e_tup (a_cons (e_tup (a_cons (e_var rfl) (a_cons (e_var rfl) (a_cons (e_var rfl) (a_cons (e_bin (e_var rfl) (e_tupE (a_cons e_c a_nil) (Nat.le_of_ble_eq_true rfl)) (o_addTE (by rw [List.length_map]; show _ + 1 ≤ _; omega))) a_nil)))) (Nat.le_of_ble_eq_true rfl)) a_nil) (Nat.le_of_ble_eq_true rfl)) (o_addT (by show _ + 1 ≤ _; omega))) (e_is (e_slT (e_var rfl) (o_part (e_is (e_bin (e_var rfl) e_c o_add) (show _ = dN (i + 1) from rfl))) o_no) (congrArg Dt.tup (cut_from hs2))) (o_addT (by rw [List.length_append]; show _ + 1 + _ ≤ _; omega))) (by show _ = Dt.tup (List.map stD (_ ++ [_] ++ _)); rw [map3, stD_60, ← List.map_take, ← List.map_drop])) (a_cons (e_is (e_bin (e_bin (e_is (e_slT (e_var rfl) o_no (o_part (e_var rfl))) (congrArg Dt.tup (cut_to hs1))) (e_tup (a_cons (e_tup (a_cons (e_var rfl) (a_cons (e_var rfl) (a_cons (e_var rfl) (a_cons (e_var rfl) a_nil)))) (Nat.le_of_ble_eq_true rfl)) a_nil) (Nat.le_of_ble_eq_true rfl)) (o_addT (by show _ + 1 ≤ _; omega))) (e_is (e_slT (e_var rfl) (o_part (e_is (e_bin (e_var rfl) e_c o_add) (show _ = dN (i + 1) from rfl))) o_no) (congrArg Dt.tup (cut_from hs2))) (o_addT (by rw [List.length_append]; show _ + 1 + _ ≤ _; omega))) (by show _ = Dt.tup (List.map stD (_ ++ [_] ++ _)); rw [map3, ← List.map_take, ← List.map_drop]; rfl)) (a_cons (e_is (e_slT (e_var rfl) o_no (o_part (e_is (e_bin (e_lenT (e_var rfl)) e_c o_I0) (show _ = dN (ss.length - 1) from congrArg di (by omega))))) (by rw [cut_to hs3, ← List.map_take])) a_nil)))) (Nat.le_of_ble_eq_true rfl)) ?_)
      refine r_forL (xs := (bentS ss i s).map fun ss => .tup (ss.map stD)) (e_var rfl) (fun j A => ∃ x18, A = ⟨[S0, .own 0, .d (dN m), .d (.lst (cls0.map nsD)), .un, .un, .d (.lst ((rowsN m).map rowD)), .un, .d (.lst ((usedL m cls0).map di)), .d (clD s.c), .d (.lst (((rowsN m).filter (rowP m cls0)).map rowD)), .d (ds "never"), .d (.tup (ss.map stD)), .d (dN i), .d (di s.n), .d (clD s.d), .d (clD s.f), .d (.lst ((bentS ss i s).map fun ss => .tup (ss.map stD))), x18, .un, .un, .un, .un, .un, .un, .un, .un, .un], .lst d'.ds :: rest⟩) ⟨.un, rfl⟩ ?_ ?_
      · rintro j x A hx ⟨x18, rfl⟩
        rw [List.getElem?_map] at hx
        obtain ⟨bs, hbs, rfl⟩ := Option.map_eq_some_iff.mp hx
        have hbm := List.mem_of_getElem? hbs
        obtain ⟨k1, k2⟩ := bentS_ok hok2 hs il (by omega : ss.length ≤ 1000) bs hbm
        refine ⟨⟨[S0, .own 0, .d (dN m), .d (.lst (cls0.map nsD)), .un, .un, .d (.lst ((rowsN m).map rowD)), .un, .d (.lst ((usedL m cls0).map di)), .d (clD s.c), .d (.lst (((rowsN m).filter (rowP m cls0)).map rowD)), .d (ds "never"), .d (.tup (ss.map stD)), .d (dN i), .d (di s.n), .d (clD s.d), .d (clD s.f), .d (.lst ((bentS ss i s).map fun ss => .tup (ss.map stD))), .d (.tup (bs.map stD)), .un, .un, .un, .un, .un, .un, .un, .un, .un], .lst d'.ds :: rest⟩, tg_name, ?_⟩
        cases hb : chk (shown0 cls0) bs with
        | true =>
          have e1 : checkR K cls0 bs = .ok dn := if_pos hb
          exact r_ifF (t_is (t_test (e_bin (e_bin (e_toldOk (C := ⟨K, T, H0, O⟩) fun E' => e_call (C := ⟨K, T, H0, O⟩) (d := dn) (a_cons (e_var rfl) (a_cons (e_var rfl) a_nil)) (by rw [← e1]; exact ck bs k1 k2)) e_c o_isNon) (e_call (C := ⟨K, T, H0, O⟩) (d := db (chk (shown0 cls0) bs)) (a_cons (e_var rfl) (a_cons (e_var rfl) a_nil)) (pv bs k1 k2)) o_neB)) (by rw [hb]; rfl)) (r_next ⟨_, rfl⟩)
        | false =>
          have e1 : checkR K cls0 bs = .err (SE K) := if_neg (by rw [hb]; decide)
          exact r_ifF (t_is (t_test (e_bin (e_bin (e_toldErr (C := ⟨K, T, H0, O⟩) Tx.m fun E' => x_call (C := ⟨K, T, H0, O⟩) (c := SE K) (a_cons (e_var rfl) (a_cons (e_var rfl) a_nil)) (by rw [← e1]; exact ck bs k1 k2)) e_c o_isStr) (e_call (C := ⟨K, T, H0, O⟩) (d := db (chk (shown0 cls0) bs)) (a_cons (e_var rfl) (a_cons (e_var rfl) a_nil)) (pv bs k1 k2)) o_neB)) (by rw [hb]; rfl)) (r_next ⟨_, rfl⟩)
      · rintro A ⟨x18, rfl⟩
        exact fin d' _ (d1.up (by decide)) rfl (by repeat (first | exact Wk.nil | apply Wk.same | apply Wk.un))

end Law
end

section
set_option Elab.async false
set_option linter.all false
set_option maxRecDepth 100000
set_option maxHeartbeats 4000000
set_option autoImplicit false
set_option exponentiation.threshold 300
namespace Law
open PySem PySem.Spec PyProof.Rows L2 Py

local macro_rules | `(tactic| wtm_at "op") => `(tactic| first
  | with_reducible exact o_I0 | with_reducible exact o_add | with_reducible exact o_eqI | with_reducible exact o_neI
  | ((with_reducible apply o_mul); first | assumption | wtm_at "si")
  | ((with_reducible apply o_I); first | assumption | wtm_at "si")
  | ((with_reducible apply o_ixT); rfl) | ((with_reducible apply o_ixL); rfl)
  | ((with_reducible apply o_eqD) <;> first | rfl | decide | assumption) | ((with_reducible apply o_neD) <;> first | rfl | decide | assumption)
  | with_reducible assumption)
local macro_rules | `(tactic| wtm_at "si") => `(tactic| first | decide | exact ⟨by decide, by decide +kernel⟩ | omega)
local macro_rules | `(tactic| wtm_at "ev") => `(tactic| first
  | ((with_reducible apply e_var); rfl) | with_reducible exact e_c | with_reducible exact a_nil
  | ((with_reducible apply a_cons) <;> wtm_at "ev")
  | ((with_reducible apply e_bin) <;> first | wtm_at "ev" | wtm_at "op")
  | ((with_reducible apply e_ixO) <;> first | rfl | wtm_at "ev")
  | ((with_reducible apply e_U) <;> wtm_at "ev")
  | ((with_reducible apply t_test) <;> wtm_at "ev")
  | ((with_reducible apply t_B) <;> wtm_at "ev")
  | ((with_reducible apply t_not) <;> wtm_at "ev")
  | ((with_reducible apply e_tup) <;> first | wtm_at "ev" | exact Nat.le_of_ble_eq_true rfl)
  | ((with_reducible apply e_lst) <;> first | wtm_at "ev" | exact Nat.le_of_ble_eq_true rfl)
  | ((with_reducible apply e_gcd) <;> wtm_at "ev")
  | ((with_reducible apply e_abs) <;> wtm_at "ev")
  | ((with_reducible apply e_max2) <;> wtm_at "ev")
  | ((with_reducible apply e_int) <;> wtm_at "ev")
  | ((with_reducible apply e_intB) <;> wtm_at "ev")
  | ((with_reducible apply e_bits) <;> wtm_at "ev")
  | ((with_reducible apply e_not) <;> wtm_at "ev")
  | with_reducible assumption)

variable {P : Program} {w : World} {K : Frg} {T : List (Addr × Str)} {mg : Str → Option Value} {base : Heap} {A0 : Around} {outer : List Env} {s0 : Shared} {H0 : Hp} {E : XK}

theorem segF (Z : GS P w K T mg base) (Tx : Txt K mg) (LB : LamB K base mg T "law") (hr : Room 30 (XL P w K mg base A0 outer s0 H0 E).A)
    (next : ∃ t, PSs (XL P w K mg base A0 outer s0 H0 E) (LBd.drop 15) t ∧ ∀ S0 O A, IL S0 A → RunS ⟨K, T, H0, O⟩ E t A (PF S0)) :
    ∃ t, PSs (XL P w K mg base A0 outer s0 H0 E) (LBd.drop 11) t ∧ ∀ S0 O A, InvE S0 A → RunS ⟨K, T, H0, O⟩ E t A (PF S0) := by
  obtain ⟨t', h', r0'⟩ := next
  have sc := sc_law
  refine ⟨_, (pss_cons (ps_asg (pe_tup (pa_cons (pe_op op_catR (pe_lst (pa_cons pe_int pa_nil)) (pe_lc (own := [("k", 4)]) rfl sc.nd (pi_range1 rfl Tx.n_range (pa_cons (pe_callG Z.G__law_roll (hr.mono (by decide)) psE (pa_cons (pv 1) (pa_cons pe_int pa_nil))) pa_nil)) (blkOk_by (own := [("k", 4)]) (N := ["script", "dice", "many", "clauses", "k", "j", "rows", "row", "used", "one", "due", "word", "found", "spot", "name", "other", "more", "bent", "steps", "left", "right", "number", "rest", "bad", "a", "b", "c", "f"]) (sc := defScope s_law) (by decide +kernel)) (fun _ _ _ _ _ => (pg_name (i := 4) sc.nd rfl (Or.inl rfl))) (fun _ _ _ _ _ => pts_nil) (fun _ _ _ _ _ => (pe_op (op_mulAK (K := K) rfl) (pe_op (op_addAK (K := K) rfl) pe_int (pe_callG Z.G__law_roll (hr.mono (by decide)) passL (pa_cons (pv 1) (pa_cons pe_int pa_nil)))) (pe_ix (ix_seqK (K := K) rfl) (pe_lst (pa_cons pe_int (pa_cons (pe_un un_neg pe_int) pa_nil))) (pe_callG Z.G__law_roll (hr.mono (by decide)) passL (pa_cons (pv 1) (pa_cons pe_int pa_nil))) (fun _ _ => rfl)))))) (pa_cons (pe_op op_catR (pe_lst (pa_cons (pe_un un_neg pe_int) pa_nil)) (pe_lc (own := [("k", 4)]) rfl sc.nd (pi_range1 rfl Tx.n_range (pa_cons (pe_callG Z.G__law_roll (hr.mono (by decide)) psE (pa_cons (pv 1) (pa_cons pe_int pa_nil))) pa_nil)) (blkOk_by (own := [("k", 4)]) (N := ["script", "dice", "many", "clauses", "k", "j", "rows", "row", "used", "one", "due", "word", "found", "spot", "name", "other", "more", "bent", "steps", "left", "right", "number", "rest", "bad", "a", "b", "c", "f"]) (sc := defScope s_law) (by decide +kernel)) (fun _ _ _ _ _ => (pg_name (i := 4) sc.nd rfl (Or.inl rfl))) (fun _ _ _ _ _ => pts_nil) (fun _ _ _ _ _ => (pe_op (op_mulAK (K := K) rfl) (pe_op (op_addAK (K := K) rfl) pe_int (pe_callG Z.G__law_roll (hr.mono (by decide)) passL (pa_cons (pv 1) (pa_cons pe_int pa_nil)))) (pe_ix (ix_seqK (K := K) rfl) (pe_lst (pa_cons pe_int (pa_cons (pe_un un_neg pe_int) pa_nil))) (pe_callG Z.G__law_roll (hr.mono (by decide)) passL (pa_cons (pv 1) (pa_cons pe_int pa_nil))) (fun _ _ => rfl)))))) pa_nil))) (pg_tup rfl (pgs_cons (pg_name (i := 9) sc.nd rfl (Or.inr rfl)) (pgs_cons (pg_name (i := 15) sc.nd rfl (Or.inl rfl)) pgs_nil))))
  (pss_cons (ps_asg (pe_tup (pa_cons (pe_callG Z.G_clause_of (hr.mono (by decide)) psE (pa_cons (pv 9) pa_nil)) (pa_cons (pe_callG Z.G_clause_of (hr.mono (by decide)) psE (pa_cons (pv 15) pa_nil)) pa_nil))) (pg_tup rfl (pgs_cons (pg_name (i := 19) sc.nd rfl (Or.inr rfl)) (pgs_cons (pg_name (i := 20) sc.nd rfl (Or.inr rfl)) pgs_nil))))
  (pss_cons (ps_if (PW.pt (pw_or (pt_cmpR (op_neA hr.units) (pe_cmpR op_isN (pv 19) pe_non (nomark _)) (pe_cmpR (op_neA hr.units) (pe_lc (own := [("number", 21)]) rfl sc.nd (pi_list (pv 9)) (blkOk_by (own := [("number", 21)]) (N := ["script", "dice", "many", "clauses", "k", "j", "rows", "row", "used", "one", "due", "word", "found", "spot", "name", "other", "more", "bent", "steps", "left", "right", "number", "rest", "bad", "a", "b", "c", "f"]) (sc := defScope s_law) (by decide +kernel)) (fun _ _ _ _ _ => (pg_name (i := 21) sc.nd rfl (Or.inl rfl))) (fun _ _ _ _ _ => (pts_one (pt_cmpR (op_inK (K := K) rfl) (pe_un un_neg (pv 21)) (pv 9) rfl))) (fun _ _ _ _ _ => (pv 21))) (pe_lst pa_nil) (nomark _)) (nomark _)) (pw_or1 (PW.pt (pw_and (pt_cmpR op_notN (pv 19) pe_non (nomark _)) (pw_and1 (pt_cmpR (op_neA hr.units) (pv 19) (pe_callTy call_tuple_of (by rfl) Tx.n_tuple (by decide +kernel) (pa_cons (pe_callB (cr_sortD rfl) (by rfl) Tx.n_sorted (by decide +kernel) (pa_cons (pe_callTy (cr_dictL rfl) (by rfl) Tx.n_dict (by decide +kernel) (pa_cons (pe_lc (own := [("number", 21)]) rfl sc.nd (pi_list (pv 9)) (blkOk_by (own := [("number", 21)]) (N := ["script", "dice", "many", "clauses", "k", "j", "rows", "row", "used", "one", "due", "word", "found", "spot", "name", "other", "more", "bent", "steps", "left", "right", "number", "rest", "bad", "a", "b", "c", "f"]) (sc := defScope s_law) (by decide +kernel)) (fun _ _ _ _ _ => (pg_name (i := 21) sc.nd rfl (Or.inl rfl))) (fun _ _ _ _ _ => pts_nil) (fun _ _ _ _ _ => (pe_tup (pa_cons (pv 21) (pa_cons pe_int pa_nil))))) pa_nil)) pa_nil)) pa_nil)) (nomark _)))))))) (pss_one (ps_ret pe_bl)) pss_nil)
  (pss_cons (ps_if (PW.pt (pw_and (pt_cmpR op_notN (pv 19) pe_non (nomark _)) (pw_and1 (pt_cmpR op_notN (pv 20) pe_non (nomark _))))) (pss_cons (ps_set (i := 22) sc.nd rfl (Or.inr rfl) (pe_callB (cr_sortD rfl) (by rfl) Tx.n_sorted (by decide +kernel) (pa_cons (pe_callTy (cr_dictL rfl) (by rfl) Tx.n_dict (by decide +kernel) (pa_cons (pe_lc (own := [("number", 21)]) rfl sc.nd (pi_list (pe_op op_catR (pv 9) (pv 15))) (blkOk_by (own := [("number", 21)]) (N := ["script", "dice", "many", "clauses", "k", "j", "rows", "row", "used", "one", "due", "word", "found", "spot", "name", "other", "more", "bent", "steps", "left", "right", "number", "rest", "bad", "a", "b", "c", "f"]) (sc := defScope s_law) (by decide +kernel)) (fun _ _ _ _ _ => (pg_name (i := 21) sc.nd rfl (Or.inl rfl))) (fun _ _ _ _ _ => (pts_one (pt_cmpR (op_notInK (K := K) rfl) (pv 21) (pe_lst (pa_cons pe_int (pa_cons (pe_un un_neg pe_int) pa_nil))) rfl))) (fun _ _ _ _ _ => (pe_tup (pa_cons (pv 21) (pa_cons pe_int pa_nil))))) pa_nil)) pa_nil)))
  (pss_one (ps_if (PW.pt (pw_or (pt_cmpR (op_neA hr.units) (pe_callG Z.G_joined_clauses (hr.mono (by decide)) psE (pa_cons (pv 19) (pa_cons (pv 20) (pa_cons pe_int pa_nil)))) (pe_ifExp (pt_cmpR (op_neA hr.units) (pe_lc (own := [("number", 21)]) rfl sc.nd (pi_list (pv 22)) (blkOk_by (own := [("number", 21)]) (N := ["script", "dice", "many", "clauses", "k", "j", "rows", "row", "used", "one", "due", "word", "found", "spot", "name", "other", "more", "bent", "steps", "left", "right", "number", "rest", "bad", "a", "b", "c", "f"]) (sc := defScope s_law) (by decide +kernel)) (fun _ _ _ _ _ => (pg_name (i := 21) sc.nd rfl (Or.inl rfl))) (fun _ _ _ _ _ => (pts_one (pt_cmpR (op_inK (K := K) rfl) (pe_un un_neg (pv 21)) (pv 22) rfl))) (fun _ _ _ _ _ => (pv 21))) (pe_lst pa_nil) (nomark _)) pe_non (pe_callTy call_tuple_of (by rfl) Tx.n_tuple (by decide +kernel) (pa_cons (pv 22) pa_nil))) (nomark _)) (pw_or1 (pt_cmpR (op_neA hr.units) (pe_toldN (f := "law") (k := 10) Z.F_told Z.hm_told Tx.gSolveError LB rfl rfl (hr.mono (by decide)) (show LamX.LamS (defScope s_law) _ from LamX.lamS_by (by decide +kernel)) rfl (fun _ _ _ _ _ => rfl) (fun A outer s H E f c' hr => (pe_callG Z.G_joined_clauses (hr.mono (by decide)) psF (pa_cons (pv 20) (pa_cons (pv 19) (pa_cons pe_int pa_nil)))))) pe_str (nomark _))))) (pss_one (ps_ret pe_bl)) pss_nil))) pss_nil)
  h')))), fun S0 O A hA => ?_⟩
  have r' := r0' S0
  clear r0'
  clear sc hr h'
  try dsimp only [XL, cxOf]
  obtain ⟨d, rest, dk, c2, rfl⟩ := hA
  have q3 := roll_lt (d := d) (m := 3) (by decide)
  have k1 := roll_ok (m := 3) dk (by decide)
  obtain ⟨n1, hn1⟩ : ∃ n : Nat, (rollV d 3).toNat = n := ⟨_, rfl⟩
  generalize hd1 : rollD d 3 = d1 at k1
  have k2 := litsD_ok (m := 4) k1 (by decide) n1
  generalize hd2 : litsD 4 d1 n1 = d2 at k2
  have k2 : DOk 505 d2 := k2.up (by omega)
  have q4 := roll_lt (d := d2) (m := 3) (by decide)
  have k3 := roll_ok (m := 3) k2 (by decide)
  obtain ⟨n2, hn2⟩ : ∃ n : Nat, (rollV d2 3).toNat = n := ⟨_, rfl⟩
  generalize hd3 : rollD d2 3 = d3 at k3
  have lit1 : ∀ (e : Dice) (n : Nat), ∀ x ∈ litsV 2 4 e n, x ≠ 0 ∧ 2 ≤ (x.natAbs : Int) ∧ (x.natAbs : Int) ≤ 5 := fun e n x hx => by
    unfold litsV at hx
    obtain ⟨j, _, rfl⟩ := List.mem_map.mp hx
    have := litV_ok (a := 2) (m := 4) (d := litsD 4 e j) (by decide) (by decide)
    exact ⟨this.1, this.2.2, by omega⟩
  have len1 : ∀ (e : Dice) (n : Nat), (litsV 2 4 e n).length = n := fun e n => by unfold litsV; rw [List.length_map, List.length_range]
  refine r_seq (r_tgTup (p_g (g_d (e_is (e_bin (e_lstN (a_cons e_c a_nil) (Nat.le_of_ble_eq_true rfl)) (e_lcRN (lo := 0) (n := n1) (w_rng1n (a_cons (e_roll (n := 0) (c := 500) rfl rfl e_c dk (by decide) (by decide) (sz5 (by decide))) a_nil) hn1 (by omega)) (fun j => ⟨[S0, .own 0, .un, .un, .un, .un, .un, .un, .un, .un, .un, .un, .un, .un, .un, .un, .un, .un, .un, .un, .un, .un, .un, .un, .un, .un, .un, .un], .lst (litsD 4 d1 j).ds :: rest⟩) (fun j => (litsV 2 4 d1 j).map di) (by rw [hd1]; rfl) rfl (fun j hj O' => ?t1) (by omega)) (o_catR (by rw [List.length_map, len1]; show 1 + n1 ≤ _; omega))) (show _ = Dt.lstN ((1 :: litsV 2 4 d1 n1).map di) from rfl))) (p_g (g_d (e_is (e_bin (e_lstN (a_cons (e_U e_c) a_nil) (Nat.le_of_ble_eq_true rfl)) (e_lcRN (lo := 0) (n := n2) (w_rng1n (a_cons (e_roll (n := 0) (c := 505) (d := d2) rfl (by show some (OD.lst (litsD 4 d1 n1).ds) = _; rw [hd2]) e_c k2 (by decide) (by decide) (sz5 (by decide))) a_nil) hn2 (by omega)) (fun j => ⟨[S0, .own 0, .un, .un, .un, .un, .un, .un, .un, .un, .un, .un, .un, .un, .un, .un, .un, .un, .un, .un, .un, .un, .un, .un, .un, .un, .un, .un], .lst (litsD 4 d3 j).ds :: rest⟩) (fun j => (litsV 2 4 d3 j).map di) (by rw [hd3]; rfl) rfl (fun j hj O' => ?t2) (by omega)) (o_catR (by rw [List.length_map, len1]; show 1 + n2 ≤ _; omega))) (show _ = Dt.lstN ((-1 :: litsV 2 4 d3 n2).map di) from rfl))) p_nil)) rfl (Nat.le_of_ble_eq_true rfl) (tgsG_cons tgG_name (tgsG_cons tgG_name tgsG_nil)) ?_)
  case t1 =>
    have kj := litsD_ok (m := 4) k1 (by decide) j
    generalize hdj : litsD 4 d1 j = dj at kj
    have hdj1 : litsD 4 d1 (j + 1) = litD 4 dj := by rw [← hdj]; rfl
    have rm := roll_lt (d := dj) (m := 4) (by decide)
    have kj1 := roll_ok (m := 4) kj (by decide)
    rw [hdj1, litsV_snoc, hdj, List.map_append]
    refine ⟨_, true, _, tgS_name (by simp), t_yes, .inl ⟨rfl, di (litV 2 4 dj), _, e_bin (e_bin e_c (e_roll (C := ⟨K, T, H0, O'⟩) (n := 0) (c := 500 + 1 + 2 * j) rfl rfl e_c kj (by omega) (by decide) (sz5 (by decide))) o_add) (e_bin (e_lst (a_cons e_c (a_cons (e_U e_c) a_nil)) (Nat.le_of_ble_eq_true rfl)) (e_roll (C := ⟨K, T, H0, O'⟩) (n := 0) (c := 500 + 1 + 2 * j + 1) (d := rollD dj 4) rfl rfl e_c kj1 (by omega) (by decide) (sz5 (by decide))) (o_ixL (sgn_ix _))) (o_mul (mulX 20 20 (by omega) (by unfold sgn; split <;> decide))), rfl, rfl⟩⟩
  case t2 =>
    have kj := litsD_ok (m := 4) k3 (by decide) j
    generalize hdj : litsD 4 d3 j = dj at kj
    have hdj1 : litsD 4 d3 (j + 1) = litD 4 dj := by rw [← hdj]; rfl
    have rm := roll_lt (d := dj) (m := 4) (by decide)
    have kj1 := roll_ok (m := 4) kj (by decide)
    rw [hdj1, litsV_snoc, hdj, List.map_append]
    refine ⟨_, true, _, tgS_name (by simp), t_yes, .inl ⟨rfl, di (litV 2 4 dj), _, e_bin (e_bin e_c (e_roll (C := ⟨K, T, H0, O'⟩) (n := 0) (c := 505 + 1 + 2 * j) rfl rfl e_c kj (by omega) (by decide) (sz5 (by decide))) o_add) (e_bin (e_lst (a_cons e_c (a_cons (e_U e_c) a_nil)) (Nat.le_of_ble_eq_true rfl)) (e_roll (C := ⟨K, T, H0, O'⟩) (n := 0) (c := 505 + 1 + 2 * j + 1) (d := rollD dj 4) rfl rfl e_c kj1 (by omega) (by decide) (sz5 (by decide))) (o_ixL (sgn_ix _))) (o_mul (mulX 20 20 (by omega) (by unfold sgn; split <;> decide))), rfl, rfl⟩⟩
  have P1 := lit1 d1 n1
  have P2 := lit1 d3 n2
  have L1 := len1 d1 n1
  have L2 := len1 d3 n2
  generalize litsV 2 4 d1 n1 = la at *
  generalize litsV 2 4 d3 n2 = lb at *
  generalize hA1 : (1 : Int) :: la = a at *
  generalize hB1 : (-1 : Int) :: lb = b at *
  have sa : strange a = false := strange_iff.mpr fun x hx => by
    rw [← hA1] at hx
    rcases List.mem_cons.mp hx with rfl | h
    · decide
    · have := P1 x h; omega
  have sb : strange b = false := strange_iff.mpr fun x hx => by
    rw [← hB1] at hx
    rcases List.mem_cons.mp hx with rfl | h
    · decide
    · have := P2 x h; omega
  have a1 : (1 : Int) ∈ a := by rw [← hA1]; exact List.mem_cons_self ..
  have b1 : (-1 : Int) ∈ b := by rw [← hB1]; exact List.mem_cons_self ..
  have b2 : (1 : Int) ∉ b := fun z => by
    rw [← hB1] at z
    rcases List.mem_cons.mp z with e | h
    · cases e
    · have := P2 1 h; omega
  have la2 : a.length ≤ 3 := by rw [← hA1, List.length_cons, L1]; omega
  have lb2 : b.length ≤ 3 := by rw [← hB1, List.length_cons, L2]; omega
  generalize litsD 4 d3 n2 = d4
  show RunS _ _ _ ⟨[S0, .own 0, .un, .un, .un, .un, .un, .un, .un, .d (.lstN (a.map di)), .un, .un, .un, .un, .un, .d (.lstN (b.map di)), .un, .un, .un, .un, .un, .un, .un, .un, .un, .un, .un, .un], .lst d4.ds :: rest⟩ _
  refine r_seq (r_tgTup (p_g (g_d (e_call (d := optD (clauseO a)) (a_cons (e_ofN (e_var rfl)) a_nil) ⟨a, rfl, by omega, (clauseR_ok sa).symm⟩)) (p_g (g_d (e_call (d := optD (clauseO b)) (a_cons (e_ofN (e_var rfl)) a_nil) ⟨b, rfl, by omega, (clauseR_ok sb).symm⟩)) p_nil)) rfl (Nat.le_of_ble_eq_true rfl) (tgsG_cons tgG_name (tgsG_cons tgG_name tgsG_nil)) ?_)
  show RunS _ _ _ ⟨[S0, .own 0, .un, .un, .un, .un, .un, .un, .un, .d (.lstN (a.map di)), .un, .un, .un, .un, .un, .d (.lstN (b.map di)), .un, .un, .un, .d (optD (clauseO a)), .d (optD (clauseO b)), .un, .un, .un, .un, .un, .un, .un], .lst d4.ds :: rest⟩ _
  have lda := len_ddup a
  refine r_seq (r_ifFs ?ht (r_next ?_))
  case ht =>
    have t0 : ∀ {A : AS}, True := fun {A} => trivial
    cases hta : taut a with
    | true =>
      have e : clauseO a = none := if_pos hta
      rw [e]
      exact t_orF (t_is (t_test (e_bin (e_bin (e_var rfl) e_c o_isNon) (e_bin (e_ofN (e_mfL (l := a) (D := di) (f := di) (p := fun m => decide (-m ∈ a)) (e_ofN (e_var rfl)) (fun x hx O' => mf_if (tgS_name (by simp)) (t_test (e_bin (e_U (e_var rfl)) (e_ofN (e_var rfl)) o_inL)) (e_var rfl) rfl rfl) (by omega))) (e_lst a_nil (by decide)) (o_neNil (n := 0) (nice_I _))) o_neB)) (by rw [any_filter, any_neg, hta]; rfl)) (t_andF (t_test (e_bin (e_var rfl) e_c (o_notNone (.inl ⟨rfl, rfl⟩)))))
    | false =>
      have e : clauseO a = some (canon a) := if_neg (by rw [hta]; decide)
      rw [e]
      exact t_orF (t_is (t_test (e_bin (e_bin (e_var rfl) e_c (o_isNo rfl)) (e_bin (e_ofN (e_mfL (l := a) (D := di) (f := di) (p := fun m => decide (-m ∈ a)) (e_ofN (e_var rfl)) (fun x hx O' => mf_if (tgS_name (by simp)) (t_test (e_bin (e_U (e_var rfl)) (e_ofN (e_var rfl)) o_inL)) (e_var rfl) rfl rfl) (by omega))) (e_lst a_nil (by decide)) (o_neNil (n := 0) (nice_I _))) o_neB)) (by rw [any_filter, any_neg, hta]; rfl)) (t_andT (t_test (e_bin (e_var rfl) e_c (o_notNo rfl))) (t_test (e_bin (e_var rfl) (e_tupLE (e_sortD (ks := ddup a) (e_oneD (a_cons (e_ofN (e_mapL (l := a) (D := di) (f := fun n => Dt.tup [di n, di 1]) (e_ofN (e_var rfl)) (fun x hx O' => mf_yes (tgS_name (by simp)) (e_tup (a_cons (e_var rfl) (a_cons e_c a_nil)) (Nat.le_of_ble_eq_true rfl)) rfl) (by omega))) a_nil)) (keys_one a) (by omega) (canon_perm a) (canon_sorted a))) (o_neSame (n := 1) (nice_tE (canon a))))))
  cases hta : taut a with
  | true =>
    have e : clauseO a = none := if_pos hta
    rw [e]
    exact r_seq (r_ifF (t_andF (t_test (e_bin (e_var rfl) e_c (o_notNone (.inl ⟨rfl, rfl⟩))))) (r_next (r' O _ ⟨rfl, rfl, clo_lst c2⟩)))
  | false =>
    have ea : clauseO a = some (canon a) := if_neg (by rw [hta]; decide)
    rw [ea]
    cases htb : taut b with
    | true =>
      have e : clauseO b = none := if_pos htb
      rw [e]
      exact r_seq (r_ifF (t_andT (t_test (e_bin (e_var rfl) e_c (o_notNo rfl))) (t_test (e_bin (e_var rfl) e_c (o_notNone (.inl ⟨rfl, rfl⟩))))) (r_next (r' O _ ⟨rfl, rfl, clo_lst c2⟩)))
    | false =>
      have eb : clauseO b = some (canon b) := if_neg (by rw [htb]; decide)
      rw [eb]
      have oa := ClOk.canon sa hta
      have ob := ClOk.canon sb htb
      have fl := List.length_filter_le (fun m => !decide (m ∈ [(1 : Int), -1])) (a ++ b)
      rw [List.length_append] at fl
      have fd := len_ddup ((a ++ b).filter fun m => !decide (m ∈ [(1 : Int), -1]))
      have fc := len_canon ((a ++ b).filter fun m => !decide (m ∈ [(1 : Int), -1]))
      refine r_seq (r_ifT (t_andT (t_test (e_bin (e_var rfl) e_c (o_notNo rfl))) (t_test (e_bin (e_var rfl) e_c (o_notNo rfl)))) (r_seq (r_asg (d := .lst ((canon ((a ++ b).filter fun m => !decide (m ∈ [(1 : Int), -1]))).map di)) (e_sortD (ks := ddup ((a ++ b).filter fun m => !decide (m ∈ [(1 : Int), -1]))) (e_oneD (a_cons (e_ofN (e_mfL (l := a ++ b) (D := di) (f := fun n => Dt.tup [di n, di 1]) (p := fun m => !decide (m ∈ [(1 : Int), -1])) (e_ofN (e_is (e_bin (e_var rfl) (e_var rfl) (o_catR (by rw [List.length_map, List.length_map]; omega))) (by rw [List.map_append]))) (fun x hx O' => mf_if (tgS_name (by simp)) (t_test (e_bin (e_var rfl) (e_lst (a_cons e_c (a_cons (e_U e_c) a_nil)) (Nat.le_of_ble_eq_true rfl)) (o_notinL (ns := [(1 : Int), -1])))) (e_tup (a_cons (e_var rfl) (a_cons e_c a_nil)) (Nat.le_of_ble_eq_true rfl)) rfl rfl) (by rw [List.length_append]; omega))) a_nil)) (keys_one _) (by omega) (canon_perm _) (canon_sorted _)) ?_)))
      have jf := join_filter (n := 1) oa ob (mem_canon.mpr a1) (mem_canon.mpr b1)
      have mm : ∀ x, x ∈ join (canon a) (canon b) 1 ↔ x ∈ (a ++ b).filter fun m => !decide (m ∈ [(1 : Int), -1]) := fun x => by
        rw [jf, List.mem_filter, List.mem_filter, List.mem_append, List.mem_append, mem_canon, mem_canon]
      have cj : canon (join (canon a) (canon b) 1) = canon ((a ++ b).filter fun m => !decide (m ∈ [(1 : Int), -1])) := sorted_ext (canon_sorted _) (canon_sorted _) (nd_canon _) (nd_canon _) fun x => by rw [mem_canon, mem_canon]; exact mm x
      generalize canon ((a ++ b).filter fun m => !decide (m ∈ [(1 : Int), -1])) = R at *
      have tj : taut (join (canon a) (canon b) 1) = taut R := by rw [← taut_canon, cj]
      have jo : joinR K (canon a) (canon b) 1 = .ok (optD (if taut R then none else some R)) := by
        rw [joinR_eq, joinO_eq oa ob, if_neg (by
          rintro (z | z)
          · exact z (mem_canon.mpr a1)
          · exact z (mem_canon.mpr b1))]
        show Rs.ok (optD (clauseO _)) = _
        unfold clauseO
        rw [tj, cj]
      have je : joinR K (canon b) (canon a) 1 = .err (SE K) := if_pos (.inl fun z => b2 (mem_canon.mp z))
      have lca := oa.len
      have lcb := ob.len
      have told2 : ∀ {A : AS}, A.sl[19]? = some (.d (clD (canon a))) → A.sl[20]? = some (.d (clD (canon b))) → True := fun _ _ => trivial
      refine r_ifFs ?h2 (r_next (r' O _ ⟨rfl, rfl, clo_lst c2⟩))
      cases htr : taut R with
      | true =>
        rw [htr] at jo
        exact t_orF (t_test (e_bin (e_call (d := dn) (a_cons (e_var rfl) (a_cons (e_var rfl) (a_cons e_c a_nil))) ⟨canon a, canon b, 1, rfl, by omega, by omega, by rw [jo]; rfl⟩) (e_ifT (t_is (t_test (e_bin (e_ofN (e_mfL (l := R) (D := di) (f := di) (p := fun m => decide (-m ∈ R)) (e_var rfl) (fun x hx O' => mf_if (tgS_name (by simp)) (t_test (e_bin (e_U (e_var rfl)) (e_var rfl) o_inL)) (e_var rfl) rfl rfl) (by omega))) (e_lst a_nil (by decide)) (o_neNil (n := 0) (nice_I _)))) (by rw [any_filter, any_neg, htr])) e_c) (o_neSame (n := 0) .non))) (t_is (t_test (e_bin (e_toldErr (C := ⟨K, T, H0, O⟩) Tx.m fun E' => x_call (C := ⟨K, T, H0, O⟩) (c := SE K) (a_cons (e_var rfl) (a_cons (e_var rfl) (a_cons e_c a_nil))) ⟨canon b, canon a, 1, rfl, by omega, by omega, je.symm⟩) e_c (o_ne rfl))) (by decide))
      | false =>
        rw [htr] at jo
        exact t_orF (t_test (e_bin (e_call (d := clD R) (a_cons (e_var rfl) (a_cons (e_var rfl) (a_cons e_c a_nil))) ⟨canon a, canon b, 1, rfl, by omega, by omega, by rw [jo]; rfl⟩) (e_ifF (t_is (t_test (e_bin (e_ofN (e_mfL (l := R) (D := di) (f := di) (p := fun m => decide (-m ∈ R)) (e_var rfl) (fun x hx O' => mf_if (tgS_name (by simp)) (t_test (e_bin (e_U (e_var rfl)) (e_var rfl) o_inL)) (e_var rfl) rfl rfl) (by omega))) (e_lst a_nil (by decide)) (o_neNil (n := 0) (nice_I _)))) (by rw [any_filter, any_neg, htr])) (e_tupLE (e_var rfl))) (o_neSame (n := 1) (nice_tE R)))) (t_is (t_test (e_bin (e_toldErr (C := ⟨K, T, H0, O⟩) Tx.m fun E' => x_call (C := ⟨K, T, H0, O⟩) (c := SE K) (a_cons (e_var rfl) (a_cons (e_var rfl) (a_cons e_c a_nil))) ⟨canon b, canon a, 1, rfl, by omega, by omega, je.symm⟩) e_c (o_ne rfl))) (by decide))

end Law
end

section
set_option Elab.async false
set_option linter.all false
set_option maxRecDepth 100000
set_option maxHeartbeats 4000000
set_option autoImplicit false
namespace Py
open PySem PySem.Spec PyProof.Rows L2
/-! ### zip of three lists -/
def Itz3 (K : Frg) (a b c : Addr) : It :=
  ⟨fun i H => ∃ (xs ys us : List V) (x y u : V), SqL K H a xs ∧ SqL K H b ys ∧ SqL K H c us ∧ xs[i]? = some x ∧ ys[i]? = some y ∧ us[i]? = some u,
    fun i H v H' => ∃ T x y u, v = .ref T ∧ H T = none ∧ H' = upd H T (.tup [x, y, u]) ∧ (∀ xs, SqL K H a xs → xs[i]? = some x) ∧ (∀ ys, SqL K H b ys → ys[i]? = some y) ∧ ∀ us, SqL K H c us → us[i]? = some u,
    fun i H => ∃ xs ys us : List V, SqL K H a xs ∧ SqL K H b ys ∧ SqL K H c us ∧ min (min xs.length ys.length) us.length = i⟩
abbrev zipAt (z TI TO i1 i2 i3 a b c : Addr) (i : Nat) (h : Heap) : Prop := IsZip h z TI TO .none ∧ IsTupOf3 h TI (.ref i1) (.ref i2) (.ref i3) ∧ (∃ a1 a2 a3, IsTupOf3 h TO a1 a2 a3) ∧ h.IsListIter i1 a i ∧ h.IsListIter i2 b i ∧ h.IsListIter i3 c i
theorem turn_zip3 {P : Program} {w : World} {K : Frg} {elts : List Expr} {kk : Nat} {tpos : Pos} {a b c z TI TO i1 i2 i3 : Addr} (S : ZipSep3 z TI TO i1 i2 i3 [i1, a] [i2, b] [i3, c]) (n1 : a ≠ i1) (n2 : b ≠ i2) (n3 : c ≠ i3) :
    Turn P w K (.Tuple elts kk tpos) (Itz3 K a b c) [z, TI, TO, i1, i2, i3] z (zipAt z TI TO i1 i2 i3 a b c) where
  mem := by simp
  obj := fun i h st d hd => by
    obtain ⟨hz, hTI, ⟨x, y, u, hTO⟩, ⟨o1, e1, _, d1⟩, ⟨o2, e2, _, d2⟩, ⟨o3, e3, _, d3⟩⟩ := st
    have e' : d = z ∨ d = TI ∨ d = TO ∨ d = i1 ∨ d = i2 ∨ d = i3 := by simpa using hd
    rcases e' with q | q | q | q | q | q
    · rw [q]; exact ⟨_, hz, fun v q => nomatch q⟩
    · rw [q]; exact ⟨_, hTI, fun v q => nomatch q⟩
    · rw [q]; exact ⟨_, hTO, fun v q => nomatch q⟩
    · rw [q]; exact ⟨o1, e1, fun v q => by rw [d1] at q; cases q⟩
    · rw [q]; exact ⟨o2, e2, fun v q => by rw [d2] at q; cases q⟩
    · rw [q]; exact ⟨o3, e3, fun v q => by rw [d3] at q; cases q⟩
  keep := fun i h h' st k => by
    obtain ⟨hz, hTI, ⟨x, y, u, hTO⟩, h1, h2, h3⟩ := st
    exact ⟨k z (by simp) _ hz, k TI (by simp) _ hTI, ⟨x, y, u, k TO (by simp) _ hTO⟩, h1.at fun o q => k i1 (by simp) o q, h2.at fun o q => k i2 (by simp) o q, h3.at fun o q => k i3 (by simp) o q⟩
  item := by
    intro X hP hw hK hc i pins s σ H E I hf st hg
    subst hP hw hK
    obtain ⟨xs, ys, us, x, y, u, hqx, hqy, hqu, hx, hy, hu⟩ := hg
    obtain ⟨its, rv, p, _⟩ := I.list hqx
    obtain ⟨its2, rv2, p2, _⟩ := I.list hqy
    obtain ⟨its3, rv3, p3, _⟩ := I.list hqu
    obtain ⟨v1, hv1, ru1⟩ := rv.get hx
    obtain ⟨v2, hv2, ru2⟩ := rv2.get hy
    obtain ⟨v3, hv3, ru3⟩ := rv3.get hu
    have hin : X.A.in1.handled = none := I.ok.hd hc
    have W := GoesN.zip3 (prog := X.prog) (w := X.w) (A := X.A) (elts := elts) (x1 := kk) (pos := tpos) S (Draws.list hin i1 a n1 its.toArray) (Draws.list hin i2 b n2 its2.toArray) (Draws.list hin i3 c n3 its3.toArray)
    have g1 := (List.getElem?_eq_some_iff.mp hv1).1
    have g2 := (List.getElem?_eq_some_iff.mp hv2).1
    have g3 := (List.getElem?_eq_some_iff.mp hv3).1
    obtain ⟨hz, hTI, hTO, l1, l2, l3⟩ := st
    have lts : ∀ d ∈ [z, TI, TO, i1, i2, i3], d < s.heap.objs.size := fun d hd => by
      obtain ⟨x, y, u, hTO⟩ := hTO
      obtain ⟨o1, e1, _⟩ := id l1
      obtain ⟨o2, e2, _⟩ := id l2
      obtain ⟨o3, e3, _⟩ := id l3
      have e' : d = z ∨ d = TI ∨ d = TO ∨ d = i1 ∨ d = i2 ∨ d = i3 := by simpa using hd
      rcases e' with q | q | q | q | q | q
      · rw [q]; exact Heap.lt_size hz
      · rw [q]; exact Heap.lt_size hTI
      · rw [q]; exact Heap.lt_size hTO
      · rw [q]; exact Heap.lt_size e1
      · rw [q]; exact Heap.lt_size e2
      · rw [q]; exact Heap.lt_size e3
    refine W.goes i s (fun u s2 => ∃ x H', Inv X pins σ H' s2 ∧ RelV x u ∧ (Itz3 X.K a b c).yld i H x H' ∧ zipAt z TI TO i1 i2 i3 a b c (i + 1) s2.heap ∧ ∀ b ∈ [z, TI, TO, i1, i2, i3], H' b = none) E (by simp only [List.size_toArray]; omega) ⟨hz, hTI, hTO, ⟨l1, p.isList⟩, ⟨l2, p2.isList⟩, ⟨l3, p3.isList⟩⟩ fun v h' tk hY st' hk _ => ?_
    obtain ⟨T, w1, w2, w3, rfl, hle, y1, y2, y3, hT⟩ := hY
    have y1 : its.toArray[i]? = some w1 := y1
    have y2 : its2.toArray[i]? = some w2 := y2
    have y3 : its3.toArray[i]? = some w3 := y3
    obtain rfl : v1 = w1 := Option.some.inj (hv1.symm.trans (by simpa using y1))
    obtain rfl : v2 = w2 := Option.some.inj (hv2.symm.trans (by simpa using y2))
    obtain rfl : v3 = w3 := Option.some.inj (hv3.symm.trans (by simpa using y3))
    have new : ObjOk X.prog X.w (upd H T (.tup [x, y, u])) h' T (.tup [x, y, u]) := ⟨by show 3 ≤ sizeLine; decide, [v1, v2, v3], .cons ru1 (.cons ru2 (.cons ru3 .nil)), hT⟩
    have I1 : Inv X pins σ (upd H T (.tup [x, y, u])) { s with heap := h', toks := tk } :=
      I.turnedNew (t' := tk) (ch := [z, TI, TO, i1, i2, i3]) (fun d o hb q => hk d o (fun q' => hb (by
        simp only [List.mem_cons, List.not_mem_nil, or_false] at q' ⊢
        rcases q' with e | e | e | e | e <;> simp [e])) q) hf hle new
    obtain ⟨s1, s2, s3, s4, s5, s6⟩ := st'
    refine ⟨.ref T, _, I1, rfl, ⟨T, x, y, u, rfl, I.hok.fresh hle, rfl, fun l hl => by rw [I.list_inj hl hqx]; exact hx, fun l hl => by rw [I.list_inj hl hqy]; exact hy, fun l hl => by rw [I.list_inj hl hqu]; exact hu⟩, ⟨s1, s2, s3, s4.1, s5.1, s6.1⟩, fun d hd => ?_⟩
    rw [upd_ne (Nat.ne_of_lt (Nat.lt_of_lt_of_le (lts d hd) hle))]
    exact (hf d hd).1
  done := by
    intro X hP hw hK hc i pins s σ H E I hf st hg
    subst hP hw hK
    obtain ⟨xs, ys, us, hqx, hqy, hqu, hend⟩ := hg
    obtain ⟨its, rv, p, _⟩ := I.list hqx
    obtain ⟨its2, rv2, p2, _⟩ := I.list hqy
    obtain ⟨its3, rv3, p3, _⟩ := I.list hqu
    have l1 := rv.length
    have l2 := rv2.length
    have l3 := rv3.length
    have hin : X.A.in1.handled = none := I.ok.hd hc
    have W := GoesN.zip3 (prog := X.prog) (w := X.w) (A := X.A) (elts := elts) (x1 := kk) (pos := tpos) S (Draws.list hin i1 a n1 its.toArray) (Draws.list hin i2 b n2 its2.toArray) (Draws.list hin i3 c n3 its3.toArray)
    have e : min (min its.toArray.size its2.toArray.size) its3.toArray.size = i := by simp only [List.size_toArray]; omega
    obtain ⟨hz, hTI, hTO, m1, m2, m3⟩ := st
    refine W.stops s (fun s1 => Inv X pins σ H s1) E (by rw [e]; exact ⟨hz, hTI, hTO, ⟨m1, p.isList⟩, ⟨m2, p2.isList⟩, ⟨m3, p3.isList⟩⟩) fun h' tk hk _ => ?_
    exact I.turnedL (t' := tk) (ch := [z, TI, TO, i1, i2, i3]) (fun d o hb q => hk d o (fun q' => hb (by
        simp only [List.mem_cons, List.not_mem_nil, or_false] at q' ⊢
        rcases q' with e | e | e | e | e <;> simp [e])) q) hf
  self := fun A i s Q E st h => wpAny_pyIter_zip st.1 h
def iZip3 (K : Frg) (ta : TA) : TI := fun σ H R => ta σ H fun vs H1 => ∃ a b c xs ys us, vs = [.ref a, .ref b, .ref c] ∧ SqL K H1 a xs ∧ SqL K H1 b ys ∧ SqL K H1 c us ∧ R (Itz3 K a b c) H1
theorem pi_zip3 {X : Cx} {e e2 e3 : Expr} {ta : TA} {p pos tpos : Pos} {elts : List Expr} {kk : Nat} (hg : Gl X "zip") (hm : X.mg "zip" = none) (ha : PA X [e, e2, e3] ta)
    (hs : starEach [e, e2, e3] X.env = (false, eval e X.env) :: starEach [e2, e3] X.env := by rfl) (hpl : (backTo pos (starEach [e2, e3] X.env)).any (·.1) = false := by rfl) :
    PI X (.Tuple elts kk tpos) (.Call (.Name "zip" p) [e, e2, e3] [] pos) (iZip3 X.K ta) := by
  refine ⟨fun pins s σ H R I h => ?_⟩
  refine Call_ (ld_blt I hg hm PyProof.Rows.boot_zip (PyProof.Rows.callWith_type1 (thn (ha.run pos pins s σ H _ I h) fun us s1 ⟨vs, H1, I1, r1, q1⟩ => ?_) hs hpl))
  obtain ⟨a, b, c, xs, ys, zs, ex, hqx, hqy, hqz, q⟩ := q1
  subst ex
  cases r1 with
  | cons r rr =>
    cases rr with
    | cons r' rr =>
      cases rr with
      | cons r'' rr =>
        cases rr
        cases r
        cases r'
        cases r''
        obtain ⟨its, rv, p1, _⟩ := I1.list hqx
        obtain ⟨its2, rv2, p2, _⟩ := I1.list hqy
        obtain ⟨its3, rv3, p3, _⟩ := I1.list hqz
        have la : a < s1.heap.objs.size := p1.lt
        have lb : b < s1.heap.objs.size := p2.lt
        have lc : c < s1.heap.objs.size := p3.lt
        refine zip_begins3 (begins_list a its.toArray) (begins_list b its2.toArray) (begins_list c its3.toArray) p1.isList p2.isList p3.isList fun h' hz hTI hTO h1 h2 h3 hsz hk => wpAny_pyIter_zip hz ?_
        have I2 : Inv X pins σ H1 { s1 with heap := h' } := I1.kept (t' := s1.toks) hk
        refine ⟨s1.heap.objs.size + 5, [s1.heap.objs.size + 5, s1.heap.objs.size + 3, s1.heap.objs.size + 4, s1.heap.objs.size, s1.heap.objs.size + 1, s1.heap.objs.size + 2], _, _, H1, rfl, I2, turn_zip3 (zip_sep3 (fp1 := [a]) (fp2 := [b]) (fp3 := [c]) (fun d hd => by rw [List.mem_singleton.mp hd]; exact la) (fun d hd => by rw [List.mem_singleton.mp hd]; exact lb) (fun d hd => by rw [List.mem_singleton.mp hd]; exact lc)) (Nat.ne_of_lt la) (Nat.ne_of_lt (Nat.lt_succ_of_lt lb)) (Nat.ne_of_lt (Nat.lt_succ_of_lt (Nat.lt_succ_of_lt lc))), ⟨hz, hTI, ⟨_, _, _, hTO⟩, ⟨_, h1, rfl, rfl⟩, ⟨_, h2, rfl, rfl⟩, ⟨_, h3, rfl, rfl⟩⟩, fun d hcm => ?_, q⟩
        have hle : s1.heap.objs.size ≤ d := by
          simp only [List.mem_cons, List.not_mem_nil, or_false] at hcm
          rcases hcm with z | z | z | z | z | z
          · rw [z]; exact Nat.le_add_right _ _
          · rw [z]; exact Nat.le_add_right _ _
          · rw [z]; exact Nat.le_add_right _ _
          · rw [z]; exact Nat.le_refl _
          · rw [z]; exact Nat.le_add_right _ _
          · rw [z]; exact Nat.le_add_right _ _
        exact I1.fpOk hle (I1.hok.fresh hle)
end Py
namespace Py
open PySem PySem.Spec PyProof.Rows L2
section
variable {C : Ct} {A A1 : AS} {ta : TA} {xs ys us : List Dt}
theorem yl_zip3 {R0 : Hp} {K : Frg} {a b c : Addr} {vs ws zs : List V} (h1 : SqL K R0 a vs) (h2 : SqL K R0 b ws) (h3 : SqL K R0 c zs) (i1 : IsA K R0 xs vs) (i2 : IsA K R0 ys ws) (i3 : IsA K R0 us zs) (l2 : ys.length = xs.length) (l3 : us.length = xs.length) (x0 : Dt) :
    Yl K R0 (Itz3 K a b c) xs.length fun i => .tup [xs.getD i x0, ys.getD i x0, us.getD i x0] where
  go i H hi e := ⟨vs, ws, zs, vs[i]'(by rw [isA_len i1]; exact hi), ws[i]'(by rw [isA_len i2, l2]; exact hi), zs[i]'(by rw [isA_len i3, l3]; exact hi), e.l h1, e.l h2, e.l h3, List.getElem?_eq_getElem _, List.getElem?_eq_getElem _, List.getElem?_eq_getElem _⟩
  stop H e := ⟨vs, ws, zs, e.l h1, e.l h2, e.l h3, by rw [isA_len i1, isA_len i2, isA_len i3, l2, l3]; omega⟩
  yl i H v H' O hi hy e hO := by
    obtain ⟨T, x, y, u, rfl, hT, rfl, hx, hy, hu⟩ := hy
    obtain ⟨d1, e1, j1⟩ := isA_get' i1 (hx vs ((e.trans hd_ex).l h1))
    obtain ⟨d2, e2, j2⟩ := isA_get' i2 (hy ws ((e.trans hd_ex).l h2))
    obtain ⟨d3, e3, j3⟩ := isA_get' i3 (hu zs ((e.trans hd_ex).l h3))
    rw [getD_of e1, getD_of e2, getD_of e3]
    have nO : T ∉ O := fun z => by
      obtain ⟨o, q, _⟩ := hO T z
      rw [hT] at q; cases q
    have ex : Ex H (upd H T (.tup [x, y, u])) := Ex.new hT
    refine ⟨ex, fun T' t => tabs_new t hT, ?_⟩
    rw [Is]
    refine ⟨T, [x, y, u], rfl, SqT.of ?_, ?_⟩
    · show hd O _ T = _
      rw [hd_of nO, upd_same]
    · have m := e.trans (hd_mono (O := O) ex)
      exact isA_cons (Is.mono m _ _ j1) (isA_cons (Is.mono m _ _ j2) (isA_cons (Is.mono m _ _ j3) isA_nil))
theorem w_zip3 (h : EvA C ta A [.lst xs, .lst ys, .lst us] A1) (l2 : ys.length = xs.length) (l3 : us.length = xs.length) (x0 : Dt) : WiS C (iZip3 C.K ta) A xs.length (fun i => .tup [xs.getD i x0, ys.getD i x0, us.getD i x0]) A1 := fun os σ H k R q =>
  h os σ H k _ fun os1 vs H1 k1 e1 i1 => by
    rw [IsA] at i1
    obtain ⟨v1, w1, rfl, j1, i1⟩ := i1
    rw [IsA] at i1
    obtain ⟨v2, w2, rfl, j2, i1⟩ := i1
    rw [IsA] at i1
    obtain ⟨v3, w3, rfl, j3, i1⟩ := i1
    rw [IsA] at i1
    subst i1
    rw [Is] at j1 j2 j3
    obtain ⟨a, vs, rfl, a1, a2⟩ := j1
    obtain ⟨b, ws, rfl, b1, b2⟩ := j2
    obtain ⟨c, zs, rfl, c1, c2⟩ := j3
    exact ⟨a, b, c, vs, ws, zs, rfl, hd_ex.l a1, hd_ex.l b1, hd_ex.l c1, q os1 H1 _ k1 e1 (yl_zip3 a1 b1 c1 a2 b2 c2 l2 l3 x0)⟩
end
end Py
namespace Py
open PySem PySem.Spec PyProof.Rows L2
section
variable {C : Ct} {A A1 : AS} {q : Str}
theorem st_code {os : List (Option Addr)} {σ : Sg} {H : Hp} (k : Ok C os A σ H) {a : Addr} (h : some a ∈ os) (c : Addr) (q : Str) : H a ≠ some (LamX.CodeO c q) := by
  obtain ⟨i, hi⟩ := List.getElem?_of_mem h
  have hl := (List.getElem?_eq_some_iff.mp hi).1
  rw [k.ln] at hl
  have hs := k.st i A.st[i] (some a) (List.getElem?_eq_getElem hl) hi
  intro e
  unfold LamX.CodeO at e
  cases hq : A.st[i] with
  | gone => rw [hq] at hs; cases (show some a = none from hs)
  | lst xs => rw [hq] at hs; obtain ⟨b, vs, h1, h2, _⟩ := hs; cases h1; rw [h2] at e; cases e
  | dct ks xs => rw [hq] at hs; obtain ⟨b, vs, h1, h2, _⟩ := hs; cases h1; rw [h2] at e; cases e
  | obj Cl ns xs => rw [hq] at hs; obtain ⟨b, dx, vs, h1, h2, _⟩ := hs; cases h1; rw [h2] at e; cases e
  | lstS xs => rw [hq] at hs; obtain ⟨b, vs, h1, h2, _⟩ := hs; cases h1; rw [h2] at e; cases e
  | dctT ks xs => rw [hq] at hs; obtain ⟨b, vs, h1, h2, _⟩ := hs; cases h1; rw [h2] at e; cases e
  | lckK u acc xs => rw [hq] at hs; obtain ⟨b, h1, h2, _⟩ := hs; cases h1; rw [h2] at e; cases e
  | lckT u acc xs => rw [hq] at hs; obtain ⟨b, h1, h2, _⟩ := hs; cases h1; rw [h2] at e; cases e
/-- a lambda kept, whatever one's own store holds -/
theorem e_mkG {P : Addr → Addr → HO} (hP : ∀ f c', NoT (P f c')) (hO : C.O = []) : EvS C (tMk C.T q P) A (.lam P q) A := fun os σ H k Q z =>
  ⟨k.tb, fun f c' H1 eN T1 hn hc => by
    have k1 := k.mono (H' := H1) eN T1
    have k2 := k1.monoN (o := P f c') hn
    refine z os _ _ k2 ((k.gr eN).trans (k1.gr (Ex.new hn))) ?_
    rw [Is]
    refine ⟨f, c', rfl, k1.fresh hn, hP f c', ?_⟩
    have nf : c' ≠ f := ne_of_none hc hn
    have nh : c' ∉ hid C.O os := fun hh => by
      rcases mem_hid.mp hh with y | y
      · rw [hO] at y; cases y
      · exact st_code k1 y _ _ hc
    show hd _ _ _ = _
    rw [hd_of nh, upd_ne nf, hc]⟩
end
end Py
end

section
set_option Elab.async false
set_option linter.all false
set_option maxRecDepth 100000
set_option maxHeartbeats 4000000
set_option autoImplicit false
set_option exponentiation.threshold 300
namespace Law
open PySem PySem.Spec PyProof.Rows L2 Py

local macro_rules | `(tactic| wtm_at "op") => `(tactic| first
  | with_reducible exact o_I0 | with_reducible exact o_add | with_reducible exact o_eqI | with_reducible exact o_neI
  | ((with_reducible apply o_mul); first | assumption | wtm_at "si")
  | ((with_reducible apply o_I); first | assumption | wtm_at "si")
  | ((with_reducible apply o_ixT); rfl) | ((with_reducible apply o_ixL); rfl)
  | ((with_reducible apply o_eqD) <;> first | rfl | decide | assumption) | ((with_reducible apply o_neD) <;> first | rfl | decide | assumption)
  | with_reducible assumption)
local macro_rules | `(tactic| wtm_at "si") => `(tactic| first | decide | exact ⟨by decide, by decide +kernel⟩ | omega)
local macro_rules | `(tactic| wtm_at "ev") => `(tactic| first
  | ((with_reducible apply e_var); rfl) | with_reducible exact e_c | with_reducible exact a_nil
  | ((with_reducible apply a_cons) <;> wtm_at "ev")
  | ((with_reducible apply e_bin) <;> first | wtm_at "ev" | wtm_at "op")
  | ((with_reducible apply e_ixO) <;> first | rfl | wtm_at "ev")
  | ((with_reducible apply e_U) <;> wtm_at "ev")
  | ((with_reducible apply t_test) <;> wtm_at "ev")
  | ((with_reducible apply t_B) <;> wtm_at "ev")
  | ((with_reducible apply t_not) <;> wtm_at "ev")
  | ((with_reducible apply e_tup) <;> first | wtm_at "ev" | exact Nat.le_of_ble_eq_true rfl)
  | ((with_reducible apply e_lst) <;> first | wtm_at "ev" | exact Nat.le_of_ble_eq_true rfl)
  | ((with_reducible apply e_gcd) <;> wtm_at "ev")
  | ((with_reducible apply e_abs) <;> wtm_at "ev")
  | ((with_reducible apply e_max2) <;> wtm_at "ev")
  | ((with_reducible apply e_int) <;> wtm_at "ev")
  | ((with_reducible apply e_intB) <;> wtm_at "ev")
  | ((with_reducible apply e_bits) <;> wtm_at "ev")
  | ((with_reducible apply e_not) <;> wtm_at "ev")
  | with_reducible assumption)

variable {P : Program} {w : World} {K : Frg} {T : List (Addr × Str)} {mg : Str → Option Value} {base : Heap}
def sp_law : List Dt → Rs → Prop := fun dl r => ∃ ns : List Int, dl = [.lst (ns.map di)] ∧ ns.length ≤ 63 ∧ (∀ z ∈ ns, Sz 1048576 z) ∧ r = .ok (db true)
def badE (j : Nat) : Expr := match (defBody s_law).getD 1 (.Pass ⟨0, 0, 0, 0⟩) with
  | .Assign _ (.List es _) _ => es.getD j (.Constant (.int 0) 0 ⟨0, 0, 0, 0⟩)
  | _ => .Constant (.int 0) 0 ⟨0, 0, 0, 0⟩
def lamPar : Expr → Arguments
  | .Lambda p _ _ _ => p
  | _ => ⟨[], [], none, [], [], none, []⟩
def lamBody : Expr → Expr
  | .Lambda _ b _ _ => b
  | e => e
def lamSc : Expr → Scope
  | .Lambda _ _ s _ => s
  | _ => defScope s_law
theorem lamS_any {sc sc' scope : Scope} (L : LamX.LamS sc scope) (hno : ∀ y ∈ scope.names, y.2 ≠ .free) : LamX.LamS sc' scope := ⟨L.kind, L.co, L.gen, L.own, fun y hy e => absurd e (hno y hy)⟩
theorem gdX {X : Cx} {f : Str} {ps : List Str} {k : Nat} {sp : Sp} (e1 : X.prog = P) (e2 : X.w = w) (e3 : X.K = K) (e4 : X.mg = mg) (e5 : X.base = base) (G : Gd P w K mg base f ps k sp) : Gd X.prog X.w X.K X.mg X.base f ps k sp := by
  subst e1 e2 e3 e4 e5
  exact G
abbrev lamD (j : Nat) (t : XK → TE) : LamD := ⟨lamPar (badE j), lamBody (badE j), lamSc (badE j), t⟩
/-- a kept lambda that raises -/
def BadL (P : Program) (w : World) (K : Frg) (T : List (Addr × Str)) (mg : Str → Option Value) (base : Heap) (j : Nat) (t : XK → TE) : Prop := (∀ X : Cx, X.prog = P → X.w = w → X.K = K → X.mg = mg → X.base = base → LamOk X 10 (lamD j t)) ∧ ∀ (H : Hp) (O : List Addr) (E : XK) (A : AS), EvX ⟨K, T, H, O⟩ E (t E) A (SE K) A
theorem bad0 (Z : GS P w K T mg base) : ∃ t, BadL P w K T mg base 0 t := by
  have no : ∀ y ∈ (lamSc (badE 0)).names, y.2 ≠ .free := by decide +kernel
  have own : LamX.LamS (lamSc (badE 0)) (lamSc (badE 0)) := LamX.lamS_by (by decide +kernel)
  refine ⟨_, fun X e1 e2 e3 e4 e5 => ⟨lamS_any own no, no, fun _ _ _ _ => rfl, fun A outer s H E f c' hr => (pe_callG (gdX (X := LamX.lamCx X A outer s H E (lamSc (badE 0)) f c') e1 e2 e3 e4 e5 Z.G_clause_of) (hr.mono (by decide)) psF (pa_cons (pe_lst (pa_cons pe_int pa_nil)) pa_nil))⟩, fun H O E A => ?_⟩
  exact x_call (C := ⟨K, T, H, O⟩) (g := (sp_clause K)) (a_cons (e_lst (a_cons e_c a_nil) (by decide)) a_nil) ⟨[(0 : Int)], rfl, by decide, (if_pos (by decide)).symm⟩
theorem bad1 (Z : GS P w K T mg base) : ∃ t, BadL P w K T mg base 1 t := by
  have no : ∀ y ∈ (lamSc (badE 1)).names, y.2 ≠ .free := by decide +kernel
  have own : LamX.LamS (lamSc (badE 1)) (lamSc (badE 1)) := LamX.lamS_by (by decide +kernel)
  refine ⟨_, fun X e1 e2 e3 e4 e5 => ⟨lamS_any own no, no, fun _ _ _ _ => rfl, fun A outer s H E f c' hr => (pe_callG (gdX (X := LamX.lamCx X A outer s H E (lamSc (badE 1)) f c') e1 e2 e3 e4 e5 Z.G_clause_of) (hr.mono (by decide)) psF (pa_cons (pe_lst (pa_cons pe_int pa_nil)) pa_nil))⟩, fun H O E A => ?_⟩
  exact x_call (C := ⟨K, T, H, O⟩) (g := (sp_clause K)) (a_cons (e_lst (a_cons e_c a_nil) (by decide)) a_nil) ⟨[(61 : Int)], rfl, by decide, (if_pos (by decide)).symm⟩
theorem runS_pf {C : Ct} {E : XK} {t : TS} {A : AS} {S0 : SD} {M : AS → Prop} {P : Po} (h : RunS C E t A (PF S0)) (k : ∀ A', IL S0 A' → M A') : RunS C E t A { P with nx := M, ct := M, bk := M } := fun os σ H D o T =>
  h os σ H D o ⟨fun os1 A1 σ1 H1 m => T.nx os1 A1 σ1 H1 (k A1 m), fun _ _ _ _ _ _ z => z.elim, fun os1 A1 σ1 H1 m => T.bk os1 A1 σ1 H1 (k A1 m), fun os1 A1 σ1 H1 m => T.ct os1 A1 σ1 H1 (k A1 m), fun _ _ z => z.elim⟩
theorem seg_all (Z : GS P w K T mg base) (Tx : Txt K mg) (LB : LamB K base mg T "law") {A0 : Around} {outer : List Env} {s0 : Shared} {H0 : Hp} {E : XK} (hr : Room 30 (XL P w K mg base A0 outer s0 H0 E).A) :
    ∃ t, PSs (XL P w K mg base A0 outer s0 H0 E) (LBd.drop 0) t ∧ ∀ S0 O A, Inv0 S0 A → RunS ⟨K, T, H0, O⟩ E t A (PF S0) :=
  (segA Z Tx LB hr (segB Z Tx LB hr (segC Z Tx LB hr (segD Z Tx LB hr (segE Z Tx LB hr (segF Z Tx LB hr ⟨_, pss_nil, fun S0 O A h => r_next h⟩))))))
/-! the last examples -/
def MY : List (List Int) := [[1, 4, 7], [2, 5, 8], [3, 6, 9]]
theorem canon_nil : canon [] = [] := by unfold canon ddup; simp
theorem sol_0 : solD (vOf []) = .tup [ds "fits", .tup []] := by
  have e : vOf [] = ⟨[], []⟩ := by
    unfold vOf absF
    rw [List.map_nil, List.filterMap_nil, List.flatten_nil, List.map_nil, canon_nil]
  rw [e]
  rfl
theorem sol_1 : solD (vOf [[]]) = .tup [ds "never", .tup []] := by
  unfold solD
  rw [if_pos]
  exact (cls_mem (cls0 := [[]]) (by decide) (by decide)).mpr (List.mem_map.mpr ⟨[], by simp, by unfold clauseO; rw [if_neg (by decide), canon_nil]⟩)
theorem my_ok : (∀ ns ∈ MY, strange ns = false ∧ ns.length < 10000) ∧ MY.length ≤ 400 ∧ ∀ ns ∈ MY, ∀ x ∈ ns, (x.natAbs : Int) ≤ (9 : Nat) := by decide +kernel
theorem my_row : ((rowsN 9).filter (rowP 9 MY)).head? = some [7, 8, 9] := by decide +kernel
theorem sol_2 : solD (vOf MY) = .tup [ds "fits", rowD [7, 8, 9]] := by
  obtain ⟨hc, hf, hm⟩ := my_ok
  have h0 : [] ∉ (vOf MY).cls := fun z => by
    obtain ⟨ns, h1, e⟩ := List.mem_map.mp ((cls_mem hc hf).mp z)
    have e2 := (clauseO_ok (hc ns h1).1 e).2
    have l : ns.length = 0 := by
      cases ns with
      | nil => rfl
      | cons x r =>
        have : x ∈ canon (x :: r) := mem_canon.mpr (List.mem_cons_self ..)
        rw [← e2] at this
        cases this
    have : ∀ ns ∈ MY, ns.length ≠ 0 := by decide +kernel
    exact this ns h1 l
  have he : (endW (vOf MY)).1 = none := by
    cases he : (endW (vOf MY)).1 with
    | none => rfl
    | some c =>
      exfalso
      have ha : ∀ ns ∈ MY, holdsB ns [7, 8, 9] = true := by decide +kernel
      exact (end_never hc hf c he).1 (fun n => decide (n ∈ [(7 : Int), 8, 9])) fun ns hn => holds_iff.mp (ha ns hn)
  obtain ⟨⟨r, hr⟩, _⟩ := rows_fits (m := 9) hc hf hm h0 he
  have := my_row
  rw [hr] at this
  have this : named (vOf MY) (endW (vOf MY)).2.tr = [7, 8, 9] := Option.some.inj this
  unfold solD
  rw [if_neg h0, he, this]
/-- Solver(..).solve() -/
theorem e_solve {C : Ct} {A : AS} {te : TE} {E1 E2 : XK} {cls0 : List (List Int)} {r : Dt} (h : EvS C te A (.lst (cls0.map nsD)) A) (hc : ∀ ns ∈ cls0, strange ns = false ∧ ns.length < 10000) (hf : cls0.length ≤ 400) (hm : ∀ ns ∈ cls0, ∀ x ∈ ns, (x.natAbs : Int) ≤ (9 : Nat)) (hcl : Clo A.st) (hr : solD (vOf cls0) = r) (st1 st2 : List OD) (e1 : initS C.K (A.st ++ [.obj (SV C.K) [] []]) A.st.length (vOf cls0) = st1) (e2 : solS C.K st1 A.st.length (vOf cls0) = st2) :
    EvS C (tMeth (SV C.K) "solve" (spS C.K C.T (gSolve C.K 9)) [] E1 (tMake (SV C.K) (spS C.K C.T (gInit C.K)) [] E2 (tCons te tNil)) tNil) A r ⟨A.sl, st2⟩ := by
  have gl := giv_len hc hf hm
  have V := vOf_ok hc hf
  have c0 : Clo (A.st ++ [OD.obj (SV C.K) [] []]) := fun o ho x hx j hj => by
    rw [List.length_append, List.length_singleton]
    rcases List.mem_append.mp ho with z | z
    · have := hcl o z x hx j hj; omega
    · rw [List.mem_singleton.mp z] at hx; cases hx
  have ln : A.st.length < (A.st ++ [OD.obj (SV C.K) [] []]).length := by rw [List.length_append, List.length_singleton]; omega
  have an : (A.st ++ [OD.obj (SV C.K) [] []])[A.st.length]? = some (.obj (SV C.K) [] []) := by rw [List.getElem?_append_right (Nat.le_refl _), Nat.sub_self]; rfl
  have hI : gInit C.K (A.st ++ [OD.obj (SV C.K) [] []]) [.own A.st.length, .d (.lst (cls0.map nsD))] (.ok (.d dn) st1) := ⟨A.st.length, cls0, rfl, an, c0, hc, hf, by rw [e1]⟩
  have mk := g_makeS (C := C) (E' := E2) (Cl := SV C.K) (g := gInit C.K) (st' := st1) (p_g (g_d h) p_nil) hI
  have c1 : Clo st1 := by rw [← e1]; exact clo_init c0 ln
  have a1 : st1[A.st.length]? = some (objS C.K (vOf cls0) ((A.st ++ [OD.obj (SV C.K) [] []]).length + (vOf cls0).giv.length + 2) ((A.st ++ [OD.obj (SV C.K) [] []]).length + (vOf cls0).giv.length + 3) 0) := by rw [← e1]; exact at_init (K := C.K) (v := vOf cls0) ln
  have hS : gSolve C.K 9 st1 [.own A.st.length] (.ok (.d (solD (vOf cls0))) st2) := ⟨A.st.length, _, _, 0, vOf cls0, rfl, a1, c1, V, gl, by rw [e2]⟩
  clear e1 e2 hI c0 an
  have ms := g_methS (C := C) (E' := E1) (m := "solve") (g := gSolve C.K 9) (st' := st2) (s := .d (solD (vOf cls0))) mk a1 (by decide) p_nil hS
  exact e_is (e_g ms) hr
theorem clo_solve {st : List OD} {cls0 : List (List Int)} (hcl : Clo st) : Clo (solS K (initS K (st ++ [.obj (SV K) [] []]) st.length (vOf cls0)) st.length (vOf cls0)) := by
  have c0 : Clo (st ++ [OD.obj (SV K) [] []]) := fun o ho x hx j hj => by
    rw [List.length_append, List.length_singleton]
    rcases List.mem_append.mp ho with z | z
    · have := hcl o z x hx j hj; omega
    · rw [List.mem_singleton.mp z] at hx; cases hx
  have ln : st.length < (st ++ [OD.obj (SV K) [] []]).length := by rw [List.length_append, List.length_singleton]; omega
  exact clo_sol (at_init ln) (clo_init c0 ln)
end Law
end

section
set_option Elab.async false
set_option linter.all false
set_option maxRecDepth 100000
set_option maxHeartbeats 4000000
set_option autoImplicit false
set_option exponentiation.threshold 300
namespace Law
open PySem PySem.Spec PyProof.Rows L2 Py

local macro_rules | `(tactic| wtm_at "op") => `(tactic| first
  | with_reducible exact o_I0 | with_reducible exact o_add | with_reducible exact o_eqI | with_reducible exact o_neI
  | ((with_reducible apply o_mul); first | assumption | wtm_at "si")
  | ((with_reducible apply o_I); first | assumption | wtm_at "si")
  | ((with_reducible apply o_ixT); rfl) | ((with_reducible apply o_ixL); rfl)
  | ((with_reducible apply o_eqD) <;> first | rfl | decide | assumption) | ((with_reducible apply o_neD) <;> first | rfl | decide | assumption)
  | with_reducible assumption)
local macro_rules | `(tactic| wtm_at "si") => `(tactic| first | decide | exact ⟨by decide, by decide +kernel⟩ | omega)
local macro_rules | `(tactic| wtm_at "ev") => `(tactic| first
  | ((with_reducible apply e_var); rfl) | with_reducible exact e_c | with_reducible exact a_nil
  | ((with_reducible apply a_cons) <;> wtm_at "ev")
  | ((with_reducible apply e_bin) <;> first | wtm_at "ev" | wtm_at "op")
  | ((with_reducible apply e_ixO) <;> first | rfl | wtm_at "ev")
  | ((with_reducible apply e_U) <;> wtm_at "ev")
  | ((with_reducible apply t_test) <;> wtm_at "ev")
  | ((with_reducible apply t_B) <;> wtm_at "ev")
  | ((with_reducible apply t_not) <;> wtm_at "ev")
  | ((with_reducible apply e_tup) <;> first | wtm_at "ev" | exact Nat.le_of_ble_eq_true rfl)
  | ((with_reducible apply e_lst) <;> first | wtm_at "ev" | exact Nat.le_of_ble_eq_true rfl)
  | ((with_reducible apply e_gcd) <;> wtm_at "ev")
  | ((with_reducible apply e_abs) <;> wtm_at "ev")
  | ((with_reducible apply e_max2) <;> wtm_at "ev")
  | ((with_reducible apply e_int) <;> wtm_at "ev")
  | ((with_reducible apply e_intB) <;> wtm_at "ev")
  | ((with_reducible apply e_bits) <;> wtm_at "ev")
  | ((with_reducible apply e_not) <;> wtm_at "ev")
  | with_reducible assumption)

variable {P : Program} {w : World} {K : Frg} {T : List (Addr × Str)} {mg : Str → Option Value} {base : Heap}
theorem nice_sw {w : Str} (h : PyData.strOk w = true) (l : List Int) : Nice 2 (.tup [ds w, rowD l]) (.tuple [.str w, .tuple (pyI l)]) := .tup (.cons (.str h) (.cons (nice_tI l) .nil))
theorem ok_law (Z : GS P w K T mg base) (Tx : Txt K mg) (LB : LamB K base mg T "law") {fd : FuncData} (F : FunD K "law" "law" (defArgs s_law) (defBody s_law) (defScope s_law) [] [] (He.ga K "law") fd) :
    FnOk P w K mg base (L2.CX P w) 31 (He.ga K "law") fd ["script"] (spD0 K T sp_law) := by
  refine mkFL0 F sc_law (fun dl r h => ?len) (fun A outer s H E hr => ?body)
  case len => (obtain ⟨_, rfl, _⟩ := h; rfl)
  case body =>
    obtain ⟨tb, hb, rb⟩ := seg_all Z Tx LB hr
    obtain ⟨t0, ok0, ev0⟩ := bad0 Z
    obtain ⟨t1, ok1, ev1⟩ := bad1 Z
    have ⟨LT, hLT⟩ : ∃ LT, LT = [lamD 0 t0, lamD 1 t1] := ⟨_, rfl⟩
    have LTOK : ∀ X : Cx, X.prog = P → X.w = w → X.K = K → X.mg = mg → X.base = base → ∀ l ∈ LT, LamOk X 10 l := fun X e1 e2 e3 e4 e5 l hl => by
      rw [hLT] at hl
      simp only [List.mem_cons, List.not_mem_nil, or_false] at hl
      rcases hl with rfl | rfl
      · exact ok0 X e1 e2 e3 e4 e5
      · exact ok1 X e1 e2 e3 e4 e5
    have sc := sc_law
    have hb' : PSs (cxOf (L2.CX P w) P w K mg base NL "law" (defScope s_law) (He.ga K "law") (.ref (He.cT K ("law", none)).1) A outer s H E) LBd tb := hb
    refine ⟨_, (pss_cons (ps_for (passesE) rfl (pi_list (pe_callG Z.G__law_rounds (hr.mono (by decide)) psE (pa_cons (pv 0) (pa_cons pe_int pa_nil)))) (pg_name (i := 1) sc.nd rfl (Or.inr rfl)) hb') (pss_cons (ps_set (i := 23) sc.nd rfl (Or.inl rfl) (pe_lst (pa_cons (pe_mk LB rfl rfl rfl (by decide +kernel)) (pa_cons (pe_mk LB rfl rfl rfl (by decide +kernel)) pa_nil)))) (pss_cons (ps_set (i := 2) sc.nd rfl (Or.inr rfl) (pe_lc (own := [("a", 24), ("b", 25), ("c", 26)]) rfl sc.nd (pi_zip3 (by rfl) Tx.n_zip (pa_cons (pe_lst (pa_cons pe_int (pa_cons pe_int (pa_cons pe_int pa_nil)))) (pa_cons (pe_lst (pa_cons pe_int (pa_cons pe_int (pa_cons pe_int pa_nil)))) (pa_cons (pe_lst (pa_cons pe_int (pa_cons pe_int (pa_cons pe_int pa_nil)))) pa_nil)))) (blkOk_by (own := [("a", 24), ("b", 25), ("c", 26)]) (N := ["script", "dice", "many", "clauses", "k", "j", "rows", "row", "used", "one", "due", "word", "found", "spot", "name", "other", "more", "bent", "steps", "left", "right", "number", "rest", "bad", "a", "b", "c", "f"]) (sc := defScope s_law) (by decide +kernel)) (fun _ _ _ _ _ => (pg_tupK (K := K) (n := 3) rfl rfl (pgs_cons (pg_name (i := 24) sc.nd rfl (Or.inl rfl)) (pgs_cons (pg_name (i := 25) sc.nd rfl (Or.inl rfl)) (pgs_cons (pg_name (i := 26) sc.nd rfl (Or.inl rfl)) pgs_nil))))) (fun _ _ _ _ _ => pts_nil) (fun _ _ _ _ _ => (pe_lst (pa_cons (pv 24) (pa_cons (pv 25) (pa_cons (pv 26) pa_nil))))))) (pss_one (ps_ret (pe_and (pe_cmpR (op_eqA hr.units) (pe_lc (own := [("f", 27)]) rfl sc.nd (pi_list (pv 23)) (blkOk_by (own := [("f", 27)]) (N := ["script", "dice", "many", "clauses", "k", "j", "rows", "row", "used", "one", "due", "word", "found", "spot", "name", "other", "more", "bent", "steps", "left", "right", "number", "rest", "bad", "a", "b", "c", "f"]) (sc := defScope s_law) (by decide +kernel)) (fun _ _ _ _ _ => (pg_name (i := 27) sc.nd rfl (Or.inl rfl))) (fun _ _ _ _ _ => (pts_one (pt_cmpR (op_neAK (K := K) rfl hr.units) (show PE (Cx.blk (cxOf (L2.CX P w) P w K mg base NL "law" (defScope s_law) (He.ga K "law") (.ref (He.cT K ("law", none)).1) A outer s H E) _ _ _ _ _) _ (tToldV K (lamQ "law") 27 (SE K) "SolveError" LT) from (pe_toldW (k := 10) Z.F_told Z.hm_told Tx.gSolveError (by rfl) (hr.mono (by decide)) (LTOK _ rfl rfl rfl rfl rfl) (pv 27))) pe_str (nomark _)))) (fun _ _ _ _ _ => pe_int)) (pe_lst pa_nil) (nomark _)) (pe_and (pe_cmpR (op_eqA hr.units) (Z.G_solve.use fun _ _ _ F hb M => pe_meth0 (Z.G_Solver.use fun _ _ _ F hb M => pe_make M F (hr.mono (by decide)) (by rfl) Z.G_Solver.nm hb .nil psE (pa_cons (pe_lst pa_nil) pa_nil)) Z.G_solve.cl M F (hr.mono (by decide)) hb .nil psE) (pe_tup (pa_cons pe_str (pa_cons (pe_tup pa_nil) pa_nil))) (nomark _)) (pe_and (pe_cmpR (op_eqA hr.units) (Z.G_solve.use fun _ _ _ F hb M => pe_meth0 (Z.G_Solver.use fun _ _ _ F hb M => pe_make M F (hr.mono (by decide)) (by rfl) Z.G_Solver.nm hb .nil psE (pa_cons (pe_lst (pa_cons (pe_lst pa_nil) pa_nil)) pa_nil)) Z.G_solve.cl M F (hr.mono (by decide)) hb .nil psE) (pe_tup (pa_cons pe_str (pa_cons (pe_tup pa_nil) pa_nil))) (nomark _)) (pe_one (pe_cmpR (op_eqA hr.units) (Z.G_solve.use fun _ _ _ F hb M => pe_meth0 (Z.G_Solver.use fun _ _ _ F hb M => pe_make M F (hr.mono (by decide)) (by rfl) Z.G_Solver.nm hb .nil psE (pa_cons (pv 2) pa_nil)) Z.G_solve.cl M F (hr.mono (by decide)) hb .nil psE) (pe_tup (pa_cons pe_str (pa_cons (pe_tup (pa_cons pe_int (pa_cons pe_int (pa_cons pe_int pa_nil)))) pa_nil))) (nomark _))))))))))), fun dl r hg => ?_⟩
    clear sc hr hb hb' LTOK ok0 ok1
    try dsimp only [cxOf]
    obtain ⟨ns, rfl, hl, hz, rfl⟩ := hg
    have dk : DOk 0 (mkDice (ns.headD 0)) := mkDice_ok (by
      cases ns with
      | nil => show (0 : Int).natAbs < _; exact Nat.pow_pos (by decide)
      | cons a r => exact hz a (List.mem_cons_self ..))
    refine r_seq (r_rounds (i := 0) (ns := ns) rfl hl hz ?_)
    have go := rb (.d (.lst (ns.map di))) [] ((start NL [.lst (ns.map di)]).newO 1 (mkDice (ns.headD 0)).ds) ⟨mkDice (ns.headD 0), ⟨_, rfl⟩, rfl, rfl, rfl, rfl, dk⟩
    refine runS_pf go ?_
    rintro A' ⟨ln, h0, hclo⟩
    obtain ⟨sl, st⟩ := A'
    obtain ⟨v0, v1, v2, v3, v4, v5, v6, v7, v8, v9, v10, v11, v12, v13, v14, v15, v16, v17, v18, v19, v20, v21, v22, v23, v24, v25, v26, v27, rfl⟩ := exL sl ln
    obtain rfl : _ = v0 := (Option.some.inj h0).symm
    clear h0 ln go
    have hclo : Clo st := hclo
    refine r_wk (sl' := [.d (.lst (ns.map di)), .un, .un, .un, .un, .un, .un, .un, .un, .un, .un, .un, .un, .un, .un, .un, .un, .un, .un, .un, .un, .un, .un, .un, .un, .un, .un, .un]) (by repeat (first | exact Wk.nil | apply Wk.same | apply Wk.un)) ?_
    have nt : ∀ (t : XK → TE) (j : Nat) (f c' : Addr), NoT ((lamD j t).P (lamQ "law") f c') := fun t j f c' => nt_lamO
    refine r_seq (r_asg (d := .lst [.lam ((lamD 0 t0).P (lamQ "law")) (lamQ "law"), .lam ((lamD 1 t1).P (lamQ "law")) (lamQ "law")]) (e_lst (a_cons (e_mkG (nt t0 0) rfl) (a_cons (e_mkG (nt t1 1) rfl) a_nil)) (Nat.le_of_ble_eq_true rfl)) ?_)
    refine r_seq (r_asg (d := .lst (MY.map nsD)) (e_ofN (e_is (e_mf (l := [((1 : Int), (4 : Int), (7 : Int)), (2, 5, 8), (3, 6, 9)]) (D := fun p => .tup [di p.1, di p.2.1, di p.2.2]) (f := fun p => nsD [p.1, p.2.1, p.2.2]) (p := fun _ => true) (w_zip3 (xs := [di 1, di 2, di 3]) (ys := [di 4, di 5, di 6]) (us := [di 7, di 8, di 9]) (a_cons (e_lst (a_cons e_c (a_cons e_c (a_cons e_c a_nil))) (Nat.le_of_ble_eq_true rfl)) (a_cons (e_lst (a_cons e_c (a_cons e_c (a_cons e_c a_nil))) (Nat.le_of_ble_eq_true rfl)) (a_cons (e_lst (a_cons e_c (a_cons e_c (a_cons e_c a_nil))) (Nat.le_of_ble_eq_true rfl)) a_nil))) rfl rfl dn) rfl (fun i hi => ?z1) (fun p hp O' => mf_yes (tgS_tup rfl (tgsS_cons (tgS_name (by simp)) (tgsS_cons (tgS_name (by simp)) (tgsS_cons (tgS_name (by simp)) tgsS_nil)))) (e_lst (a_cons (e_var rfl) (a_cons (e_var rfl) (a_cons (e_var rfl) a_nil))) (Nat.le_of_ble_eq_true rfl)) rfl) (by decide)) rfl)) ?_)
    case z1 =>
      match i, hi with
      | 0, _ => rfl
      | 1, _ => rfl
      | 2, _ => rfl
    obtain ⟨m1, m2, m3⟩ := my_ok
    have cA := clo_solve (K := K) (cls0 := []) hclo
    obtain ⟨sA1, hA1⟩ : ∃ s, initS K (st ++ [.obj (SV K) [] []]) st.length (vOf []) = s := ⟨_, rfl⟩
    obtain ⟨sA2, hA2⟩ : ∃ s, solS K sA1 st.length (vOf []) = s := ⟨_, rfl⟩
    rw [hA1, hA2] at cA
    have cB := clo_solve (K := K) (cls0 := [[]]) cA
    obtain ⟨sB1, hB1⟩ : ∃ s, initS K (sA2 ++ [.obj (SV K) [] []]) sA2.length (vOf [[]]) = s := ⟨_, rfl⟩
    obtain ⟨sB2, hB2⟩ : ∃ s, solS K sB1 sA2.length (vOf [[]]) = s := ⟨_, rfl⟩
    rw [hB1, hB2] at cB
    obtain ⟨sC1, hC1⟩ : ∃ s, initS K (sB2 ++ [.obj (SV K) [] []]) sB2.length (vOf MY) = s := ⟨_, rfl⟩
    obtain ⟨sC2, hC2⟩ : ∃ s, solS K sC1 sB2.length (vOf MY) = s := ⟨_, rfl⟩
    refine r_ret (d := db true) (e_andT (e_bin (e_lcL (xs := [.lam ((lamD 0 t0).P (lamQ "law")) (lamQ "law"), .lam ((lamD 1 t1).P (lamQ "law")) (lamQ "law")]) (e_var rfl) (fun i => ⟨[.d (.lst (ns.map di)), .un, .d (.lst (MY.map nsD)), .un, .un, .un, .un, .un, .un, .un, .un, .un, .un, .un, .un, .un, .un, .un, .un, .un, .un, .un, .un, .d (.lst [.lam ((lamD 0 t0).P (lamQ "law")) (lamQ "law"), .lam ((lamD 1 t1).P (lamQ "law")) (lamQ "law")]), .un, .un, .un, .un], st⟩) (fun _ => []) rfl rfl (fun i x hx O' => ?turn) (by simp)) (e_lst a_nil (by decide)) (o_eqNil (n := 0) .nil))
      (e_andT (e_bin (e_solve (C := ⟨K, T, H, []⟩) (cls0 := []) (e_lst a_nil (by decide)) (by decide) (by decide) (by decide) hclo sol_0 sA1 sA2 hA1 hA2) (e_tup (a_cons e_c (a_cons (e_tup a_nil (by decide)) a_nil)) (by decide)) (o_eqSame (n := 2) (nice_sw (by decide +kernel) [])))
      (e_andT (e_bin (e_solve (C := ⟨K, T, H, []⟩) (cls0 := [[]]) (e_lst (a_cons (e_lst a_nil (by decide)) a_nil) (by decide)) (by decide) (by decide) (by decide) cA sol_1 sB1 sB2 hB1 hB2) (e_tup (a_cons e_c (a_cons (e_tup a_nil (by decide)) a_nil)) (by decide)) (o_eqSame (n := 2) (nice_sw (by decide +kernel) [])))
      (e_bin (e_solve (C := ⟨K, T, H, []⟩) (cls0 := MY) (e_var rfl) m1 m2 m3 cB sol_2 sC1 sC2 hC1 hC2) (e_tup (a_cons e_c (a_cons (e_tup (a_cons e_c (a_cons e_c (a_cons e_c a_nil))) (by decide)) a_nil)) (by decide)) (o_eqSame (n := 2) (nice_sw (by decide +kernel) [7, 8, 9])))))) rfl
    case turn =>
      match i, hx with
      | 0, hx => cases hx; exact ⟨_, false, _, tgS_name (by simp), t_is (t_test (e_bin (e_toldVErr (C := ⟨K, T, H, O'⟩) (l := lamD 0 t0) Tx.m (by rw [hLT]; simp) rfl (fun E => ev0 _ _ E _)) e_c (o_ne rfl))) (by simp), .inr ⟨rfl, rfl, rfl⟩⟩
      | 1, hx => cases hx; exact ⟨_, false, _, tgS_name (by simp), t_is (t_test (e_bin (e_toldVErr (C := ⟨K, T, H, O'⟩) (l := lamD 1 t1) Tx.m (by rw [hLT]; simp) rfl (fun E => ev1 _ _ E _)) e_c (o_ne rfl))) (by simp), .inr ⟨rfl, rfl, rfl⟩⟩
      | i + 2, hx => simp at hx
end Law
end

section
set_option Elab.async false
set_option linter.all false
set_option maxRecDepth 100000
set_option maxHeartbeats 0
namespace Law.CH
open PySem PySem.Spec PyProof.Rows L2 Py
def top (i : Nat) : Stmt := PySem.Challenge.pw_algebrastack_k21_clauses_that_fit_or_nev.main.body.getD i (.Pass ⟨0, 0, 0, 0⟩)
abbrev s_clause_of : Stmt := top 7
abbrev s_joined_clauses : Stmt := top 8
abbrev s_holds_by : Stmt := top 10
abbrev s_check_steps : Stmt := top 11
abbrev s__law_dice : Stmt := top 13
abbrev s__law_roll : Stmt := top 14
abbrev s__law_rounds : Stmt := top 15
abbrev s__law_told : Stmt := top 16
abbrev s__law_true : Stmt := top 17
abbrev s__law_proved : Stmt := top 18
abbrev s_law : Stmt := top 19
def dd (f : Str) (s : Stmt) : He.DefD := ⟨(f, none), f, f, defArgs s, defBody s, defScope s, [], []⟩
def dv (f : Str) (s : Stmt) (ds : List He.Dv) : He.DefD := ⟨(f, none), f, f, defArgs s, defBody s, defScope s, ds, []⟩
def fn0 : List He.DefD := [dd "clause_of" s_clause_of, dd "joined_clauses" s_joined_clauses, dd "holds_by" s_holds_by, dd "check_steps" s_check_steps, dd "_law_dice" s__law_dice, dd "_law_roll" s__law_roll, dd "_law_rounds" s__law_rounds, dd "_law_told" s__law_told, dd "_law_true" s__law_true, dd "_law_proved" s__law_proved, dd "law" s_law]
def bodyC : Stmt → List Stmt
  | .ClassDef _ _ _ b .. => b
  | _ => []
def dm (x m q : Str) (s : Stmt) : He.DefD := ⟨(x, some m), m, q, defArgs s, defBody s, defScope s, [], []⟩
abbrev m_Solver_init : Stmt := (bodyC (top 9)).getD 0 (.Pass ⟨0, 0, 0, 0⟩)
abbrev m_Solver_solve : Stmt := (bodyC (top 9)).getD 1 (.Pass ⟨0, 0, 0, 0⟩)
abbrev m_Solver_parted : Stmt := (bodyC (top 9)).getD 2 (.Pass ⟨0, 0, 0, 0⟩)
abbrev m_Solver_told : Stmt := (bodyC (top 9)).getD 3 (.Pass ⟨0, 0, 0, 0⟩)
def fnM : List He.DefD := [dm "Solver" "__init__" "Solver.__init__" m_Solver_init, dm "Solver" "solve" "Solver.solve" m_Solver_solve, dm "Solver" "parted" "Solver.parted" m_Solver_parted, dm "Solver" "told" "Solver.told" m_Solver_told]
def fn : List He.DefD := fn0 ++ fnM
def fa0 : List He.Fa := [.glo "clause_of", .glo "joined_clauses", .glo "holds_by", .glo "check_steps", .glo "_law_dice", .glo "_law_roll", .glo "_law_rounds", .glo "_law_told", .glo "_law_true", .glo "_law_proved", .glo "law", .free "abs", .free "all", .free "any", .free "dict", .free "int", .free "len", .free "list", .free "max", .free "range", .free "sorted", .free "tuple", .free "zip", .int "MOST_NAMES" 60]
def fa1 : List He.Fa := [.int "MOST_CLAUSES" 400, .int "MOST_PARTINGS" 20000, .exc "SolveError", .glo "SolveError", .exm "SolveError" "SolveError" true, .glo "Solver", .cls "Solver", .mkr "Solver", .noat "Solver" "clauses", .noat "Solver" "given", .noat "Solver" "ending", .noat "Solver" "truths", .noat "Solver" "steps", .noat "Solver" "tried", .meth "Solver" "solve", .meth "Solver" "parted", .meth "Solver" "told"]
def fa : List He.Fa := fa0 ++ fa1
def tf : List He.Defn := [("law", none)]
def lamF : List Str := ["law"]
def ex (K : PySem.W.Frag) : Bool := decide (lamF.map fun f => (He.cT K (f, none)).2).Nodup
abbrev R : PySem.W.OpenRow := PySem.W.OpenLaw.row PySem.Challenge.rw_algebrastack_k21_clauses_that_fit_or_nev
abbrev hk : PySem.W.Hook := He.hookX 6 fa fn [] tf ex
def ob (s : PySem.W.SharedT) : He.AlX := He.obsX 6 fa fn [] tf ex (HandSHeadRun.getT s)
theorem ob_eq (s : PySem.W.SharedT) : ob s = hk.obs s.abs := He.obsX_eq (HandSHeadRun.getT_eq s)
def lo0 : List Str := ["AlgebraError", "SolveError", "MOST_NAMES", "MOST_CLAUSES", "MOST_PARTINGS", "clause_of", "joined_clauses", "Solver", "holds_by", "check_steps", "_law_dice", "_law_roll", "_law_rounds", "_law_told", "_law_true", "_law_proved"]
def lo : List Str := lo0
theorem run (w : World) : HandSHeadRun.RunEqI R (PySem.W.view R.prog [12, 19]) hk ob 20000 lo w := by
  unfold HandSHeadRun.RunEqI
  kernel_rfl
end Law.CH
end

section
set_option Elab.async false
set_option linter.all false
set_option maxRecDepth 100000
set_option maxHeartbeats 4000000
set_option autoImplicit false
namespace Law.CH
open PySem PySem.Spec PyProof.Rows L2 Py Law
abbrev PR : Program := (PySem.Challenge.rw_algebrastack_k21_clauses_that_fit_or_nev).prog
theorem okLaw {w : World} {K : Frg} {mg : Str → Option Value} {base : Heap} (hK : K.In base) (G : base.Ns mainGlobals mg) (c : He.SaysD fa fn K) (e : ex K = true) (L : ∀ f ∈ lamF, LamB K base mg (tabL K lamF) f) (fd : FuncData) (F : FunD K "law" "law" (defArgs s_law) (defBody s_law) (defScope s_law) [] [] (He.ga K "law") fd) :
  FnOk PR w K mg base (L2.CX PR w) 31 (He.ga K "law") fd ["script"] (spLaw K (tabL K lamF)) := by
  have h_clause_of : mg "clause_of" = some (.ref (He.ga K "clause_of")) := He.glo_ok hK G (c.facts (List.mem_of_getElem? (i := 0) (by rfl)))
  have F_clause_of : ∃ fd, FunD K "clause_of" "clause_of" (defArgs s_clause_of) (defBody s_clause_of) (defScope s_clause_of) [] [] (He.ga K "clause_of") fd := c.defs (d := dd "clause_of" s_clause_of) (List.mem_of_getElem? (i := 0) (by rfl))
  have h_joined_clauses : mg "joined_clauses" = some (.ref (He.ga K "joined_clauses")) := He.glo_ok hK G (c.facts (List.mem_of_getElem? (i := 1) (by rfl)))
  have F_joined_clauses : ∃ fd, FunD K "joined_clauses" "joined_clauses" (defArgs s_joined_clauses) (defBody s_joined_clauses) (defScope s_joined_clauses) [] [] (He.ga K "joined_clauses") fd := c.defs (d := dd "joined_clauses" s_joined_clauses) (List.mem_of_getElem? (i := 1) (by rfl))
  have h_holds_by : mg "holds_by" = some (.ref (He.ga K "holds_by")) := He.glo_ok hK G (c.facts (List.mem_of_getElem? (i := 2) (by rfl)))
  have F_holds_by : ∃ fd, FunD K "holds_by" "holds_by" (defArgs s_holds_by) (defBody s_holds_by) (defScope s_holds_by) [] [] (He.ga K "holds_by") fd := c.defs (d := dd "holds_by" s_holds_by) (List.mem_of_getElem? (i := 2) (by rfl))
  have h_check_steps : mg "check_steps" = some (.ref (He.ga K "check_steps")) := He.glo_ok hK G (c.facts (List.mem_of_getElem? (i := 3) (by rfl)))
  have F_check_steps : ∃ fd, FunD K "check_steps" "check_steps" (defArgs s_check_steps) (defBody s_check_steps) (defScope s_check_steps) [] [] (He.ga K "check_steps") fd := c.defs (d := dd "check_steps" s_check_steps) (List.mem_of_getElem? (i := 3) (by rfl))
  have h__law_dice : mg "_law_dice" = some (.ref (He.ga K "_law_dice")) := He.glo_ok hK G (c.facts (List.mem_of_getElem? (i := 4) (by rfl)))
  have F__law_dice : ∃ fd, FunD K "_law_dice" "_law_dice" (defArgs s__law_dice) (defBody s__law_dice) (defScope s__law_dice) [] [] (He.ga K "_law_dice") fd := c.defs (d := dd "_law_dice" s__law_dice) (List.mem_of_getElem? (i := 4) (by rfl))
  have h__law_roll : mg "_law_roll" = some (.ref (He.ga K "_law_roll")) := He.glo_ok hK G (c.facts (List.mem_of_getElem? (i := 5) (by rfl)))
  have F__law_roll : ∃ fd, FunD K "_law_roll" "_law_roll" (defArgs s__law_roll) (defBody s__law_roll) (defScope s__law_roll) [] [] (He.ga K "_law_roll") fd := c.defs (d := dd "_law_roll" s__law_roll) (List.mem_of_getElem? (i := 5) (by rfl))
  have h__law_rounds : mg "_law_rounds" = some (.ref (He.ga K "_law_rounds")) := He.glo_ok hK G (c.facts (List.mem_of_getElem? (i := 6) (by rfl)))
  have F__law_rounds : ∃ fd, FunD K "_law_rounds" "_law_rounds" (defArgs s__law_rounds) (defBody s__law_rounds) (defScope s__law_rounds) [] [] (He.ga K "_law_rounds") fd := c.defs (d := dd "_law_rounds" s__law_rounds) (List.mem_of_getElem? (i := 6) (by rfl))
  have h__law_told : mg "_law_told" = some (.ref (He.ga K "_law_told")) := He.glo_ok hK G (c.facts (List.mem_of_getElem? (i := 7) (by rfl)))
  have F__law_told : ∃ fd, FunD K "_law_told" "_law_told" (defArgs s__law_told) (defBody s__law_told) (defScope s__law_told) [] [] (He.ga K "_law_told") fd := c.defs (d := dd "_law_told" s__law_told) (List.mem_of_getElem? (i := 7) (by rfl))
  have h__law_true : mg "_law_true" = some (.ref (He.ga K "_law_true")) := He.glo_ok hK G (c.facts (List.mem_of_getElem? (i := 8) (by rfl)))
  have F__law_true : ∃ fd, FunD K "_law_true" "_law_true" (defArgs s__law_true) (defBody s__law_true) (defScope s__law_true) [] [] (He.ga K "_law_true") fd := c.defs (d := dd "_law_true" s__law_true) (List.mem_of_getElem? (i := 8) (by rfl))
  have h__law_proved : mg "_law_proved" = some (.ref (He.ga K "_law_proved")) := He.glo_ok hK G (c.facts (List.mem_of_getElem? (i := 9) (by rfl)))
  have F__law_proved : ∃ fd, FunD K "_law_proved" "_law_proved" (defArgs s__law_proved) (defBody s__law_proved) (defScope s__law_proved) [] [] (He.ga K "_law_proved") fd := c.defs (d := dd "_law_proved" s__law_proved) (List.mem_of_getElem? (i := 9) (by rfl))
  have h_law : mg "law" = some (.ref (He.ga K "law")) := He.glo_ok hK G (c.facts (List.mem_of_getElem? (i := 10) (by rfl)))
  have n_abs : mg "abs" = none := He.free_ok hK G (c.facts (List.mem_of_getElem? (i := 11) (by rfl)))
  have n_all : mg "all" = none := He.free_ok hK G (c.facts (List.mem_of_getElem? (i := 12) (by rfl)))
  have n_any : mg "any" = none := He.free_ok hK G (c.facts (List.mem_of_getElem? (i := 13) (by rfl)))
  have n_dict : mg "dict" = none := He.free_ok hK G (c.facts (List.mem_of_getElem? (i := 14) (by rfl)))
  have n_int : mg "int" = none := He.free_ok hK G (c.facts (List.mem_of_getElem? (i := 15) (by rfl)))
  have n_len : mg "len" = none := He.free_ok hK G (c.facts (List.mem_of_getElem? (i := 16) (by rfl)))
  have n_list : mg "list" = none := He.free_ok hK G (c.facts (List.mem_of_getElem? (i := 17) (by rfl)))
  have n_max : mg "max" = none := He.free_ok hK G (c.facts (List.mem_of_getElem? (i := 18) (by rfl)))
  have n_range : mg "range" = none := He.free_ok hK G (c.facts (List.mem_of_getElem? (i := 19) (by rfl)))
  have n_sorted : mg "sorted" = none := He.free_ok hK G (c.facts (List.mem_of_getElem? (i := 20) (by rfl)))
  have n_tuple : mg "tuple" = none := He.free_ok hK G (c.facts (List.mem_of_getElem? (i := 21) (by rfl)))
  have n_zip : mg "zip" = none := He.free_ok hK G (c.facts (List.mem_of_getElem? (i := 22) (by rfl)))
  have c_MOST_NAMES : ∃ u, mg "MOST_NAMES" = some u ∧ RelV (.int 60) u := by
    obtain ⟨t, ht⟩ := He.int_ok hK G (c.facts (f := .int "MOST_NAMES" 60) (List.mem_of_getElem? (i := 23) (by rfl)))
    exact ⟨_, ht, t, rfl⟩
  have c_MOST_CLAUSES : ∃ u, mg "MOST_CLAUSES" = some u ∧ RelV (.int 400) u := by
    obtain ⟨t, ht⟩ := He.int_ok hK G (c.facts (f := .int "MOST_CLAUSES" 400) (List.mem_of_getElem? (i := 24) (by rfl)))
    exact ⟨_, ht, t, rfl⟩
  have c_MOST_PARTINGS : ∃ u, mg "MOST_PARTINGS" = some u ∧ RelV (.int 20000) u := by
    obtain ⟨t, ht⟩ := He.int_ok hK G (c.facts (f := .int "MOST_PARTINGS" 20000) (List.mem_of_getElem? (i := 25) (by rfl)))
    exact ⟨_, ht, t, rfl⟩
  have gSolveError : mg "SolveError" = some (.ref (He.ga K "SolveError")) := He.glo_ok hK G (c.facts (List.mem_of_getElem? (i := 27) (by rfl)))
  have xSolveError := He.exc_ok (c.facts (f := .exc "SolveError") (List.mem_of_getElem? (i := 26) (by rfl)))
  have mSolveError := He.exm_ok (c.facts (f := .exm "SolveError" "SolveError" true) (List.mem_of_getElem? (i := 28) (by rfl)))
  have gSolver : mg "Solver" = some (.ref (He.ga K "Solver")) := He.glo_ok hK G (c.facts (List.mem_of_getElem? (i := 29) (by rfl)))
  have clS := He.cls_ok (c.facts (f := .cls "Solver") (List.mem_of_getElem? (i := 30) (by rfl)))
  have mkS := He.mkr_ok (c.facts (f := .mkr "Solver") (List.mem_of_getElem? (i := 31) (by rfl)))
  have na_clauses := He.noat_ok (c.facts (f := .noat "Solver" "clauses") (List.mem_of_getElem? (i := 32) (by rfl)))
  have na_given := He.noat_ok (c.facts (f := .noat "Solver" "given") (List.mem_of_getElem? (i := 33) (by rfl)))
  have na_ending := He.noat_ok (c.facts (f := .noat "Solver" "ending") (List.mem_of_getElem? (i := 34) (by rfl)))
  have na_truths := He.noat_ok (c.facts (f := .noat "Solver" "truths") (List.mem_of_getElem? (i := 35) (by rfl)))
  have na_steps := He.noat_ok (c.facts (f := .noat "Solver" "steps") (List.mem_of_getElem? (i := 36) (by rfl)))
  have na_tried := He.noat_ok (c.facts (f := .noat "Solver" "tried") (List.mem_of_getElem? (i := 37) (by rfl)))
  have me_solve := He.meth_ok (c.facts (f := .meth "Solver" "solve") (List.mem_of_getElem? (i := 38) (by rfl)))
  have me_parted := He.meth_ok (c.facts (f := .meth "Solver" "parted") (List.mem_of_getElem? (i := 39) (by rfl)))
  have me_told := He.meth_ok (c.facts (f := .meth "Solver" "told") (List.mem_of_getElem? (i := 40) (by rfl)))
  have FM_init := c.defs (d := dm "Solver" "__init__" "Solver.__init__" m_Solver_init) (List.mem_of_getElem? (i := 11) (by rfl))
  have FM_solve := c.defs (d := dm "Solver" "solve" "Solver.solve" m_Solver_solve) (List.mem_of_getElem? (i := 12) (by rfl))
  have FM_parted := c.defs (d := dm "Solver" "parted" "Solver.parted" m_Solver_parted) (List.mem_of_getElem? (i := 13) (by rfl))
  have FM_told := c.defs (d := dm "Solver" "told" "Solver.told" m_Solver_told) (List.mem_of_getElem? (i := 14) (by rfl))
  have X : Law.Txt K mg := ⟨gSolveError, xSolveError, mSolveError, n_abs, n_all, n_any, n_dict, n_int, n_len, n_list, n_max, n_range, n_sorted, n_tuple, n_zip, c_MOST_NAMES, c_MOST_CLAUSES, c_MOST_PARTINGS, gSolver, clS, mkS, na_clauses, na_given, na_ending, na_truths, na_steps, na_tried, me_solve, me_parted, me_told⟩
  have B_law := L "law" (by decide)
  generalize tabL K lamF = T at *
  have G_clause_of := ok_clause_of (P := PR) (w := w) (T := T) (base := base) X F_clause_of h_clause_of
  have G_joined_clauses := ok_joined_clauses (P := PR) (w := w) (T := T) (base := base) X F_joined_clauses h_joined_clauses G_clause_of
  have G_holds_by := ok_holds_by (P := PR) (w := w) (T := T) (base := base) X F_holds_by h_holds_by
  have G_check_steps := ok_check_steps (P := PR) (w := w) (T := T) (base := base) X F_check_steps h_check_steps G_clause_of G_joined_clauses
  have G__law_true := ok__law_true (P := PR) (w := w) (T := T) (base := base) X F__law_true h__law_true
  have G__law_proved := ok__law_proved (P := PR) (w := w) (T := T) (base := base) X F__law_proved h__law_proved
  have G__law_dice := ok_law_dice (P := PR) (w := w) (T := T) (base := base) X F__law_dice h__law_dice
  have G__law_roll := ok_law_roll (P := PR) (w := w) (T := T) (base := base) X F__law_roll h__law_roll
  have G__law_rounds := ok_law_rounds (P := PR) (w := w) (T := T) (base := base) X F__law_rounds h__law_rounds G__law_dice
  have P0 : Gm PR w K mg base (Law.SV K) "parted" 4 (Py.spS K T (Law.gPartL K 0)) := ok_Solver_parted0 (P := PR) (w := w) (T := T) (base := base) (l := 3) (by decide) X FM_parted (gm_none (T := T) (ps := ["self", "place", "truth"]) FM_told X.me_told X.cl (fun _ _ _ _ _ _ us hl => match us, hl with | [_, _, _], _ => rfl)) G_joined_clauses
  have chain : ∀ D, Gm PR w K mg base (Law.SV K) "parted" (4 + 2 * D) (Py.spS K T (Law.gPartL K D)) := fun D => by
    induction D with
    | zero => exact P0
    | succ D ih =>
      rw [show 4 + 2 * (D + 1) = 4 + 2 * D + 1 + 1 by omega]
      exact ok_Solver_parted (P := PR) (w := w) (T := T) (base := base) (l := 4 + 2 * D + 1) (by omega) X FM_parted (ok_Solver_told (P := PR) (w := w) (T := T) (base := base) (l := 4 + 2 * D) X FM_told ih) G_joined_clauses
  have G_solve : Gm PR w K mg base (Law.SV K) "solve" 23 (Py.spS K T (Law.gSolve K 9)) := ok_Solver_solve (P := PR) (w := w) (T := T) (base := base) (D := 9) (l := 22) (by decide) X FM_solve (chain 9)
  have G_Solver : Gk PR w K mg base "Solver" (Law.SV K) 2 (Py.spS K T (Law.gInit K)) := ok_Solver_init (P := PR) (w := w) (T := T) (base := base) X FM_init G_clause_of
  have Z : GS PR w K T mg base := { G_clause_of := G_clause_of, G_joined_clauses := G_joined_clauses, G_holds_by := G_holds_by, G_check_steps := G_check_steps, G__law_true := G__law_true, G__law_proved := G__law_proved, G_solve := G_solve, G_Solver := G_Solver, G__law_roll := G__law_roll, G__law_rounds := G__law_rounds, F_told := F__law_told, hm_told := h__law_told }
  refine (ok_law (P := PR) (w := w) (T := T) (base := base) Z X B_law F).imp fun vs H Q E h => ?_
  obtain ⟨a, ns, rfl, h1, h2, h3, h4, h5⟩ := h
  have hL : IsA K (hd [] H) [.lst (ns.map di)] [.ref a] := isA_cons (by
    rw [hd_nil, Is]
    exact ⟨a, ns.map V.int, rfl, h1, by rw [show ns.map di = (ns.map V.int).map Dt.v by rw [List.map_map]; rfl]; exact flat_isA⟩) isA_nil
  exact ⟨[.lst (ns.map di)], .ok (db true), h4, (by rw [← hd_nil (H := H)]; exact hL), ⟨ns, rfl, h2, h3, rfl⟩, (fun v H' _ _ i => (by rw [Is.v_iff.mp i]; exact h5 H'))⟩
end Law.CH
open PySem PySem.W PySem.Calls PyProof.Rows
theorem PySem.Challenge.cw_algebrastack_k21_clauses_that_fit_or_nev_holds : PySem.Challenge.rw_algebrastack_k21_clauses_that_fit_or_nev.Holds := by
  w_on; o_law
  refine HandSHeadRun.head_imp (r := OpenLaw.row PySem.Challenge.rw_algebrastack_k21_clauses_that_fit_or_nev) (q := view (OpenLaw.row PySem.Challenge.rw_algebrastack_k21_clauses_that_fit_or_nev).prog [12, 19]) (H := Law.CH.hk) (ob := Law.CH.ob) (M := 20000) (loose := Law.CH.lo) (d := HandSHeadRun.topDef (OpenLaw.row PySem.Challenge.rw_algebrastack_k21_clauses_that_fit_or_nev).prog 19) (kwd := []) Law.CH.ob_eq
    Law.CH.run (by kernel_rfl) (by kernel_rfl) (by kernel_rfl) (by rfl) (by first | assumption | decide +kernel) (by decide +kernel) ⟨rfl, rfl, rfl, rfl, rfl, by decide +kernel⟩ ?hw ?hc
  case hw => w_witness2
  case hc => exact Py.walk_mine (l := PySem.Challenge.rw_algebrastack_k21_clauses_that_fit_or_nev) (k := 31) (x := "script") (nm := "law") (N := 6) (fs := Law.CH.lamF) (st := Law.CH.s_law) rfl (by kernel_rfl) ⟨rfl, by decide, by decide⟩ (by kernel_rfl) (List.mem_of_getElem? (i := 10) (by rfl)) (List.mem_of_getElem? (i := 10) (by rfl)) (fun _ _ _ _ _ _ us hl => match us, hl with | [_], _ => rfl) (fun K e => of_decide_eq_true e) fun w K mg base a b c d e fd F => Law.CH.okLaw a b c d e fd F
end

