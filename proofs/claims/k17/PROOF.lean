import PyProof.Rows.All
import Wide.All
import OpenK.AllK
import Wide.FinOn
import HandS.ForMost
import HandS.ForExc
import HandS.Wide
import HandS.WideBits
import HandS.Gcd
import HandS.Style
import HandS.FStr
import HandS.Lambda
import HandS.TupAny
import HandS.TupMul
import HandS.Head0
import HandS.Head1
import HandS.Head2
import HandS.HeadEnd
import HandS.HeadHook1
import HandS.HeadHook2
import HandS.HeadHook3
import HandS.HeadHook4
import HandS.HeadWalk
import HandS.Defaults
import HandS.SortInts
import KE.KDictPairs
import HandS.SortRule
import HandS.WordsDict
import HandS.SortOrd
import KE.GoesEnum
import KE.GoesMore
import HandS.Zip
import HandS.Rev
import KE.KMathG
import Flt.RightSqrt
import HandS.Deep
import HandS.DictComp
import HandS.SortKw
import KE.KRevSl
import HandS.Head3
import HandS.EndTab
import KE.KStateDown
import HandS.Base
import HandS.Call
import HandS.Ends
import HandS.More
import HandS.Words
import HandS.WordsExc
import PySem.Challenge.RW_algebrastack_k17_primes_that_are_proved
section
set_option Elab.async false
set_option linter.all false
set_option maxRecDepth 100000
set_option maxHeartbeats 4000000
/-! A layer over HandS: pure data in slots, lists of one's own in a store; readings told by what they evaluate to. -/
namespace Py
open PySem PySem.Spec PyProof.Rows L2
set_option autoImplicit false
abbrev Frg := PySem.W.Frag
abbrev Sg := L2.St
inductive Dt where
  | v (x : V)
  | tup (xs : List Dt)
  | lst (xs : List Dt)
  | obj (C : Addr) (ns : List Str) (xs : List Dt)
  | dct (ks : List Key) (xs : List Dt)
  | tupZ (xs : List Dt)
  | lam (P : Addr → Addr → HO) (q : Str)
  | lstN (xs : List Dt)
  | tupE (xs : List Dt)
  | dctT (ks : List (List Key)) (xs : List Dt)
abbrev di (i : Int) : Dt := .v (.int i)
abbrev db (b : Bool) : Dt := .v (.bl b)
abbrev dn : Dt := .v .non
abbrev ds (s : Str) : Dt := .v (.str s)
/-- an object that is no table of code objects -/
def NoT (o : HO) : Prop := ∀ ps, o ≠ .tbl ps
/-- all but the tables stay -/
def Ex (H H' : Hp) : Prop := ∀ a o, H a = some o → NoT o → H' a = some o
theorem nt_l {xs : List V} : NoT (.lst xs) := fun ps z => by cases z
theorem nt_t {xs : List V} : NoT (.tup xs) := fun ps z => by cases z
theorem nt_f {o : Obj} {u : HO} : NoT (.frz o u) := fun ps z => by cases z
theorem nt_dt {kvs : List (List Key × V)} : NoT (.dT kvs) := fun ps z => by cases z
theorem nt_k {kvs : List (Key × V)} : NoT (.dK kvs) := fun ps z => by cases z
theorem nt_i {C d : Addr} {fs : List (Str × V)} : NoT (.ins C d fs) := fun ps z => by cases z
theorem Ex.refl (H : Hp) : Ex H H := fun _ _ h _ => h
theorem Ex.trans {H H1 H2 : Hp} (a : Ex H H1) (b : Ex H1 H2) : Ex H H2 := fun x o h n => b x o (a x o h n) n
theorem Ex.new {H : Hp} {p : Addr} {o : HO} (h : H p = none) : Ex H (upd H p o) := fun a u e _ => by
  rw [upd_ne (ne_of_none e h)]
  exact e
theorem Ex.rd {H H' : Hp} {a : Addr} {u : HO} (e : Ex H H') (n : NoT u) (h : Rd H a u) : Rd H' a u := by
  rcases h with h | ⟨o, h⟩
  · exact .inl (e a _ h n)
  · exact .inr ⟨o, e a _ h nt_f⟩
theorem Ex.l {K : Frg} {H H' : Hp} {a : Addr} {xs : List V} (e : Ex H H') (h : SqL K H a xs) : SqL K H' a xs := by
  rcases h with h | h
  · exact .inl (e.rd nt_l h)
  · exact .inr h
theorem Ex.t {K : Frg} {H H' : Hp} {a : Addr} {xs : List V} (e : Ex H H') (h : SqT K H a xs) : SqT K H' a xs := by
  rcases h with h | h
  · exact .inl (e.rd nt_t h)
  · exact .inr h
mutual
/-- the value v, in the heap H, is the datum -/
def Is (K : Frg) (H : Hp) : Dt → V → Prop
  | .v x, v => v = x
  | .tup xs, v => ∃ a vs, v = .ref a ∧ SqT K H a vs ∧ IsA K H xs vs
  | .lst xs, v => ∃ a vs, v = .ref a ∧ SqL K H a vs ∧ IsA K H xs vs
  | .obj C ns xs, v => ∃ a dx vs, v = .ref a ∧ H a = some (.ins C dx (ns.zip vs)) ∧ IsA K H xs vs
  | .dct ks xs, v => ∃ a vs, v = .ref a ∧ H a = some (.dK (ks.zip vs)) ∧ IsA K H xs vs
  | .tupZ xs, v => ∃ a o vs, v = .ref a ∧ H a = some (.frz o (.tup vs)) ∧ o.dict = none ∧ IsA K H xs vs
  | .lam P q, v => ∃ f c', v = .ref f ∧ H f = some (P f c') ∧ NoT (P f c') ∧ H c' = some (LamX.CodeO c' q)
  | .lstN xs, v => ∃ a vs, v = .ref a ∧ Rd H a (.lst vs) ∧ IsA K H xs vs
  | .tupE xs, v => ∃ a vs, v = .ref a ∧ H a = some (.tup vs) ∧ IsA K H xs vs
  | .dctT ks xs, v => ∃ a vs, v = .ref a ∧ H a = some (.dT (ks.zip vs)) ∧ IsA K H xs vs
def IsA (K : Frg) (H : Hp) : List Dt → List V → Prop
  | [], vs => vs = []
  | d :: r, vs => ∃ v w, vs = v :: w ∧ Is K H d v ∧ IsA K H r w
end
section
variable {K : Frg} {H H' : Hp}
mutual
theorem Is.mono (e : Ex H H') : ∀ (d : Dt) (v : V), Is K H d v → Is K H' d v
  | .v x, v, h => by rw [Is] at h ⊢; exact h
  | .tup xs, v, h => by
    rw [Is] at h ⊢
    obtain ⟨a, vs, h1, h2, h3⟩ := h
    exact ⟨a, vs, h1, e.t h2, IsA.mono e xs vs h3⟩
  | .lst xs, v, h => by
    rw [Is] at h ⊢
    obtain ⟨a, vs, h1, h2, h3⟩ := h
    exact ⟨a, vs, h1, e.l h2, IsA.mono e xs vs h3⟩
  | .obj C ns xs, v, h => by
    rw [Is] at h ⊢
    obtain ⟨a, dx, vs, h1, h2, h3⟩ := h
    exact ⟨a, dx, vs, h1, e _ _ h2 nt_i, IsA.mono e xs vs h3⟩
  | .dct ks xs, v, h => by
    rw [Is] at h ⊢
    obtain ⟨a, vs, h1, h2, h3⟩ := h
    exact ⟨a, vs, h1, e _ _ h2 nt_k, IsA.mono e xs vs h3⟩
  | .tupZ xs, v, h => by
    rw [Is] at h ⊢
    obtain ⟨a, o, vs, h1, h2, h4, h3⟩ := h
    exact ⟨a, o, vs, h1, e _ _ h2 nt_f, h4, IsA.mono e xs vs h3⟩
  | .lam P q, v, h => by
    rw [Is] at h ⊢
    obtain ⟨f, c', h1, h2, h3, h4⟩ := h
    exact ⟨f, c', h1, e _ _ h2 h3, h3, e _ _ h4 (fun ps z => LamX.codeO_ne ps z)⟩
  | .lstN xs, v, h => by
    rw [Is] at h ⊢
    obtain ⟨a, vs, h1, h2, h3⟩ := h
    exact ⟨a, vs, h1, e.rd nt_l h2, IsA.mono e xs vs h3⟩
  | .tupE xs, v, h => by
    rw [Is] at h ⊢
    obtain ⟨a, vs, h1, h2, h3⟩ := h
    exact ⟨a, vs, h1, e _ _ h2 nt_t, IsA.mono e xs vs h3⟩
  | .dctT ks xs, v, h => by
    rw [Is] at h ⊢
    obtain ⟨a, vs, h1, h2, h3⟩ := h
    exact ⟨a, vs, h1, e _ _ h2 nt_dt, IsA.mono e xs vs h3⟩
theorem IsA.mono (e : Ex H H') : ∀ (ds : List Dt) (vs : List V), IsA K H ds vs → IsA K H' ds vs
  | [], vs, h => by rw [IsA] at h ⊢; exact h
  | d :: r, vs, h => by
    rw [IsA] at h ⊢
    obtain ⟨v, w, h1, h2, h3⟩ := h
    exact ⟨v, w, h1, Is.mono e d v h2, IsA.mono e r w h3⟩
end
theorem Is.v_iff {x v : V} : Is K H (.v x) v ↔ v = x := by rw [Is]
theorem is_v {x : V} : Is K H (.v x) x := by rw [Is]
theorem isA_nil : IsA K H [] [] := by rw [IsA]
theorem isA_cons {d : Dt} {r : List Dt} {v : V} {w : List V} (h : Is K H d v) (h' : IsA K H r w) : IsA K H (d :: r) (v :: w) := by rw [IsA]; exact ⟨v, w, rfl, h, h'⟩
theorem isA_len : ∀ {ds : List Dt} {vs : List V}, IsA K H ds vs → vs.length = ds.length
  | [], vs, h => by rw [IsA] at h; rw [h]; rfl
  | d :: r, vs, h => by
    rw [IsA] at h
    obtain ⟨v, w, h1, h2, h3⟩ := h
    rw [h1, List.length_cons, List.length_cons, isA_len h3]
theorem isA_get : ∀ {ds : List Dt} {vs : List V} {i : Nat} {d : Dt}, IsA K H ds vs → ds[i]? = some d → ∃ v, vs[i]? = some v ∧ Is K H d v
  | [], vs, i, d, h, e => by cases i <;> simp at e
  | d0 :: r, vs, i, d, h, e => by
    rw [IsA] at h
    obtain ⟨v, w, h1, h2, h3⟩ := h
    subst h1
    cases i with
    | zero =>
      simp at e
      subst e
      exact ⟨v, rfl, h2⟩
    | succ i =>
      obtain ⟨u, h4, h5⟩ := isA_get (i := i) h3 (by simpa using e)
      exact ⟨u, by simpa using h4, h5⟩
theorem isA_get' {ds : List Dt} {vs : List V} {i : Nat} {v : V} (h : IsA K H ds vs) (e : vs[i]? = some v) : ∃ d, ds[i]? = some d ∧ Is K H d v := by
  have hl := isA_len h
  have hi : i < vs.length := (List.getElem?_eq_some_iff.mp e).1
  have hd : ds[i]? = some ds[i] := List.getElem?_eq_getElem (by omega)
  obtain ⟨u, h1, h2⟩ := isA_get h hd
  rw [e] at h1
  cases h1
  exact ⟨_, hd, h2⟩
theorem isA_app : ∀ {xs ys : List Dt} {vs ws : List V}, IsA K H xs vs → IsA K H ys ws → IsA K H (xs ++ ys) (vs ++ ws)
  | [], ys, vs, ws, h, g => by rw [IsA] at h; subst h; exact g
  | d :: r, ys, vs, ws, h, g => by
    rw [IsA] at h
    obtain ⟨v, w, h1, h2, h3⟩ := h
    subst h1
    exact isA_cons h2 (isA_app h3 g)
theorem isA_set : ∀ {xs : List Dt} {vs : List V} {i : Nat} {d : Dt} {v : V}, IsA K H xs vs → Is K H d v → IsA K H (xs.set i d) (vs.set i v)
  | [], vs, i, d, v, h, g => by rw [IsA] at h; subst h; exact isA_nil
  | d0 :: r, vs, i, d, v, h, g => by
    rw [IsA] at h
    obtain ⟨v0, w, h1, h2, h3⟩ := h
    subst h1
    cases i with
    | zero => exact isA_cons g h3
    | succ i => exact isA_cons h2 (isA_set h3 g)
theorem isA_take : ∀ {xs : List Dt} {vs : List V} (n : Nat), IsA K H xs vs → IsA K H (xs.take n) (vs.take n)
  | xs, vs, 0, h => by simp only [List.take_zero]; exact isA_nil
  | [], vs, n + 1, h => by rw [IsA] at h; subst h; exact isA_nil
  | d :: r, vs, n + 1, h => by
    rw [IsA] at h
    obtain ⟨v, w, h1, h2, h3⟩ := h
    subst h1
    exact isA_cons h2 (isA_take n h3)
theorem isA_drop : ∀ {xs : List Dt} {vs : List V} (n : Nat), IsA K H xs vs → IsA K H (xs.drop n) (vs.drop n)
  | xs, vs, 0, h => h
  | [], vs, n + 1, h => by rw [IsA] at h; subst h; exact isA_nil
  | d :: r, vs, n + 1, h => by
    rw [IsA] at h
    obtain ⟨v, w, h1, h2, h3⟩ := h
    subst h1
    exact isA_drop n h3
theorem isA_cut {xs : List Dt} {vs : List V} (lo hi : Nat) (h : IsA K H xs vs) : IsA K H ((xs.drop lo).take hi) ((vs.drop lo).take hi) := isA_take hi (isA_drop lo h)
end
/-! ### the abstract state -/
inductive SD where
  | un
  | d (x : Dt)
  | own (k : Nat)
inductive OD where
  | gone
  | lst (xs : List Dt)
  | dct (ks : List Key) (xs : List SD)
  | obj (C : Addr) (ns : List Str) (xs : List SD)
structure AS where
  sl : List SD
  st : List OD
def hd (O : List Addr) (H : Hp) : Hp := fun b => if b ∈ O then none else H b
theorem hd_ex {O : List Addr} {H : Hp} : Ex (hd O H) H := fun a o e _ => by
  unfold hd at e
  split at e
  · cases e
  · exact e
theorem hd_mono {O : List Addr} {H H' : Hp} (e : Ex H H') : Ex (hd O H) (hd O H') := fun a o h n => by
  unfold hd at h ⊢
  split at h
  · cases h
  · rename_i q
    rw [if_neg q]
    exact e _ _ h n
theorem hd_of {O : List Addr} {H : Hp} {a : Addr} (h : a ∉ O) : hd O H a = H a := by unfold hd; rw [if_neg h]
theorem hd_nil {H : Hp} : hd [] H = H := by funext b; unfold hd; simp
/-- the addresses hidden -/
def hid (O : List Addr) (os : List (Option Addr)) : List Addr := O ++ os.filterMap id
theorem mem_hid {O : List Addr} {os : List (Option Addr)} {a : Addr} : a ∈ hid O os ↔ a ∈ O ∨ some a ∈ os := by
  unfold hid
  rw [List.mem_append, List.mem_filterMap]
  constructor
  · rintro (h | ⟨x, h1, h2⟩)
    · exact .inl h
    · have : x = some a := h2
      rw [this] at h1
      exact .inr h1
  · rintro (h | h)
    · exact .inl h
    · exact .inr ⟨_, h, rfl⟩
/-- the heap of data -/
abbrev Rh (O : List Addr) (os : List (Option Addr)) (H : Hp) : Hp := hd (hid O os) H
def SlOk (K : Frg) (os : List (Option Addr)) (R : Hp) : SD → Option V → Prop
  | .un, _ => True
  | .d x, o => ∃ v, o = some v ∧ Is K R x v
  | .own k, o => ∃ a, o = some (.ref a) ∧ os[k]? = some (some a)
def SvA (K : Frg) (os : List (Option Addr)) (R : Hp) : List SD → List V → Prop
  | [], vs => vs = []
  | s :: r, vs => ∃ v w, vs = v :: w ∧ SlOk K os R s (some v) ∧ SvA K os R r w
def StOk (K : Frg) (os : List (Option Addr)) (R H : Hp) (o : Option Addr) : OD → Prop
  | .gone => True
  | .lst xs => ∃ a vs, o = some a ∧ H a = some (.lst vs) ∧ IsA K R xs vs
  | .dct ks xs => ∃ a kvs, o = some a ∧ H a = some (.dK kvs) ∧ kvs.map (·.1) = ks ∧ SvA K os R xs (kvs.map (·.2))
  | .obj C ns xs => ∃ a dx fs, o = some a ∧ H a = some (.ins C dx fs) ∧ fs.map (·.1) = ns ∧ SvA K os R xs (fs.map (·.2))
/-- the context of a def's reading: the written part, the tables, the heap at the entry, what is hidden -/
structure Ct where
  K : Frg
  T : List (Addr × Str)
  H0 : Hp
  O : List Addr
section
variable {K : Frg} {H H' : Hp} {O : List Addr} {os : List (Option Addr)}
theorem SlOk.mono {R R' : Hp} (e : Ex R R') : ∀ {s : SD} {o : Option V}, SlOk K os R s o → SlOk K os R' s o
  | .un, _, _ => True.intro
  | .d x, _, h => by
    obtain ⟨v, h1, h2⟩ := h
    exact ⟨v, h1, Is.mono e x v h2⟩
  | .own k, _, h => h
theorem SvA.mono {R R' : Hp} (e : Ex R R') : ∀ {xs : List SD} {vs : List V}, SvA K os R xs vs → SvA K os R' xs vs
  | [], _, h => h
  | _ :: _, _, ⟨v, w, h1, h2, h3⟩ => ⟨v, w, h1, h2.mono e, SvA.mono e h3⟩
theorem SlOk.app {R : Hp} {p : Option Addr} : ∀ {s : SD} {o : Option V}, SlOk K os R s o → SlOk K (os ++ [p]) R s o
  | .un, _, _ => True.intro
  | .d x, _, h => h
  | .own k, _, ⟨a, h1, h2⟩ => ⟨a, h1, by rw [List.getElem?_append_left (List.getElem?_eq_some_iff.mp h2).1]; exact h2⟩
theorem SvA.app {R : Hp} {p : Option Addr} : ∀ {xs : List SD} {vs : List V}, SvA K os R xs vs → SvA K (os ++ [p]) R xs vs
  | [], _, h => h
  | _ :: _, _, ⟨v, w, h1, h2, h3⟩ => ⟨v, w, h1, h2.app, SvA.app h3⟩
theorem StOk.mono {R R' : Hp} (e : Ex R R') (g : Ex H H') {o : Option Addr} : ∀ {s : OD}, StOk K os R H o s → StOk K os R' H' o s
  | .gone, _ => True.intro
  | .lst xs, h => by
    obtain ⟨a, vs, h1, h2, h3⟩ := h
    exact ⟨a, vs, h1, g _ _ h2 nt_l, IsA.mono e xs vs h3⟩
  | .dct ks xs, h => by
    obtain ⟨a, vs, h1, h2, h3, h4⟩ := h
    exact ⟨a, vs, h1, g _ _ h2 nt_k, h3, h4.mono e⟩
  | .obj C ns xs, h => by
    obtain ⟨a, dx, vs, h1, h2, h3, h4⟩ := h
    exact ⟨a, dx, vs, h1, g _ _ h2 nt_i, h3, h4.mono e⟩
theorem StOk.app {R : Hp} {o p : Option Addr} : ∀ {s : OD}, StOk K os R H o s → StOk K (os ++ [p]) R H o s
  | .gone, _ => True.intro
  | .lst xs, h => h
  | .dct ks xs, ⟨a, vs, h1, h2, h3, h4⟩ => ⟨a, vs, h1, h2, h3, h4.app⟩
  | .obj C ns xs, ⟨a, dx, vs, h1, h2, h3, h4⟩ => ⟨a, dx, vs, h1, h2, h3, h4.app⟩
theorem StOk.heap {R : Hp} {o : Option Addr} : ∀ {s : OD}, StOk K os R H o s → (∀ a, o = some a → H' a = H a) → StOk K os R H' o s
  | .gone, _, _ => True.intro
  | .lst xs, ⟨a, vs, h1, h2, h3⟩, e => ⟨a, vs, h1, (e a h1).trans h2, h3⟩
  | .dct ks xs, ⟨a, vs, h1, h2, h3⟩, e => ⟨a, vs, h1, (e a h1).trans h2, h3⟩
  | .obj C ns xs, ⟨a, dx, vs, h1, h2, h3⟩, e => ⟨a, dx, vs, h1, (e a h1).trans h2, h3⟩
theorem hid_ex {os : List (Option Addr)} {H : Hp} : Ex (Rh O os H) (hd O H) := fun a o h _ => by
  have h : hd (hid O os) H a = some o := h
  unfold hd at h ⊢
  split at h
  · cases h
  · rename_i q
    rw [if_neg fun z => q (mem_hid.mpr (.inl z))]
    exact h
theorem hid_app {p a : Addr} (h : a ≠ p) : a ∈ hid O (os ++ [some p]) ↔ a ∈ hid O os := by
  rw [mem_hid, mem_hid, List.mem_append]
  constructor
  · rintro (z | z | z)
    · exact .inl z
    · exact .inr z
    · simp at z; exact absurd z h
  · rintro (z | z)
    · exact .inl z
    · exact .inr (.inl z)
theorem Rh_app {p : Addr} {o : HO} (hp : H p = none) : Rh O (os ++ [some p]) (upd H p o) = Rh O os H := by
  funext a
  show hd _ _ a = hd _ _ a
  unfold hd
  by_cases e : a = p
  · subst e
    rw [if_pos (mem_hid.mpr (.inr (by simp)))]
    split
    · rfl
    · exact hp.symm
  · by_cases q : a ∈ hid O os
    · rw [if_pos q, if_pos ((hid_app e).mpr q)]
    · rw [if_neg q, if_neg fun z => q ((hid_app e).mp z), upd_ne e]
theorem Rh_upd {p : Addr} {o : HO} (hp : p ∈ hid O os) : Rh O os (upd H p o) = Rh O os H := by
  funext a
  show hd _ _ a = hd _ _ a
  unfold hd
  by_cases e : a = p
  · subst e
    rw [if_pos hp, if_pos hp]
  · rw [upd_ne e]
theorem tabs_new {T : List (Addr × Str)} {p : Addr} {o : HO} (t : LamX.Tabs T H) (hp : H p = none) : LamX.Tabs T (upd H p o) := t.ext fun b u e => by
  rw [upd_ne (ne_of_none e hp)]
  exact e
theorem tabs_lst {T : List (Addr × Str)} {p : Addr} {xs ys : List V} (t : LamX.Tabs T H) (hp : H p = some (.lst xs)) : LamX.Tabs T (upd H p (.lst ys)) := fun q hq => by
  obtain ⟨ps, h1, h2, h3⟩ := t q hq
  refine ⟨ps, ?_, h2, fun pos cv hc => ?_⟩
  · rw [upd_ne (ne_of h1 hp (fun z => by cases z))]
    exact h1
  · obtain ⟨c, e1, e2⟩ := h3 pos cv hc
    refine ⟨c, e1, ?_⟩
    rw [upd_ne (ne_of e2 hp (fun z => by unfold LamX.CodeO at z; cases z))]
    exact e2
end
structure Ok (C : Ct) (os : List (Option Addr)) (A : AS) (σ : Sg) (H : Hp) : Prop where
  ex : Ex C.H0 H
  tb : LamX.Tabs C.T H
  ol : ∀ a ∈ C.O, ∃ o, H a = some o ∧ NoT o
  dj : ∀ a ∈ C.O, some a ∉ os
  ln : os.length = A.st.length
  nd : ∀ (i j : Nat) (a : Addr), os[i]? = some (some a) → os[j]? = some (some a) → i = j
  fr : ∀ a, some a ∈ os → (∀ o, C.H0 a = some o → ¬ NoT o) ∧ ∃ o, H a = some o ∧ NoT o
  sn : σ.length = A.sl.length
  sl : ∀ (i : Nat) s o, A.sl[i]? = some s → σ[i]? = some o → SlOk C.K os (Rh C.O os H) s o
  st : ∀ (k : Nat) s o, A.st[k]? = some s → os[k]? = some o → StOk C.K os (Rh C.O os H) H o s
section
variable {C : Ct} {H H' : Hp} {os : List (Option Addr)} {A : AS} {σ : Sg}
theorem Ok.mono (k : Ok C os A σ H) (e : Ex H H') (t : LamX.Tabs C.T H') : Ok C os A σ H' :=
  ⟨k.ex.trans e, t, fun a h => by obtain ⟨o, q, n⟩ := k.ol a h; exact ⟨o, e _ _ q n, n⟩, k.dj, k.ln, k.nd, fun a h => ⟨(k.fr a h).1, by obtain ⟨o, q, n⟩ := (k.fr a h).2; exact ⟨o, e _ _ q n, n⟩⟩, k.sn, fun i s o h1 h2 => (k.sl i s o h1 h2).mono (hd_mono e), fun i s o h1 h2 => (k.st i s o h1 h2).mono (hd_mono e) e⟩
theorem Ok.monoN (k : Ok C os A σ H) {p : Addr} {o : HO} (hp : H p = none) : Ok C os A σ (upd H p o) := k.mono (Ex.new hp) (tabs_new k.tb hp)
theorem Ok.hidden (k : Ok C os A σ H) {a : Addr} (h : a ∈ hid C.O os) : ∃ o, H a = some o ∧ NoT o := by
  rcases mem_hid.mp h with h | h
  · exact k.ol a h
  · exact (k.fr a h).2
theorem Ok.new (k : Ok C os A σ H) {a : Addr} (h : H a = none) : a ∉ hid C.O os := fun q => by
  obtain ⟨o, e, _⟩ := k.hidden q
  rw [h] at e; cases e
theorem Ok.slot (k : Ok C os A σ H) {i : Nat} {s : SD} (h : A.sl[i]? = some s) : ∃ o, σ[i]? = some o ∧ SlOk C.K os (Rh C.O os H) s o := by
  have hi : i < A.sl.length := (List.getElem?_eq_some_iff.mp h).1
  obtain ⟨o, e⟩ : ∃ o, σ[i]? = some o := ⟨_, List.getElem?_eq_getElem (by rw [k.sn]; exact hi)⟩
  exact ⟨_, e, k.sl i s _ h e⟩
theorem Ok.store (k : Ok C os A σ H) {i : Nat} {s : OD} (h : A.st[i]? = some s) : ∃ o, os[i]? = some o ∧ StOk C.K os (Rh C.O os H) H o s := by
  have hi : i < A.st.length := (List.getElem?_eq_some_iff.mp h).1
  obtain ⟨o, e⟩ : ∃ o, os[i]? = some o := ⟨_, List.getElem?_eq_getElem (by rw [k.ln]; exact hi)⟩
  exact ⟨_, e, k.st i s _ h e⟩
/-- a slot is given a datum -/
def AS.put (A : AS) (i : Nat) (d : Dt) : AS := ⟨A.sl.set i (.d d), A.st⟩
theorem Ok.put (k : Ok C os A σ H) {i : Nat} {d : Dt} {v : V} (h : Is C.K (Rh C.O os H) d v) : Ok C os (A.put i d) (σ.set i (some v)) H := by
  refine ⟨k.ex, k.tb, k.ol, k.dj, k.ln, k.nd, k.fr, by simp [AS.put, k.sn], fun j s o h1 h2 => ?_, k.st⟩
  have h1 : (A.sl.set i (SD.d d))[j]? = some s := h1
  rw [List.getElem?_set] at h1 h2
  by_cases e : i = j
  · rw [if_pos e] at h1 h2
    split at h1
    · split at h2
      · cases h1; cases h2
        exact ⟨v, rfl, h⟩
      · cases h2
    · cases h1
  · rw [if_neg e] at h1 h2
    exact k.sl j s o h1 h2
end
/-- what was known is known, what is hidden from outside stays -/
structure Gr (O : List Addr) (os : List (Option Addr)) (H : Hp) (os' : List (Option Addr)) (H' : Hp) : Prop where
  e : Ex (Rh O os H) (Rh O os' H')
  o : ∀ a ∈ O, H' a = H a
  p : ∀ (k : Nat) (x : Option Addr), os[k]? = some x → os'[k]? = some x
theorem Gr.refl {O : List Addr} {os : List (Option Addr)} {H : Hp} : Gr O os H os H := ⟨Ex.refl _, fun _ _ => rfl, fun _ _ h => h⟩
theorem Gr.trans {O : List Addr} {os os1 os2 : List (Option Addr)} {H H1 H2 : Hp} (a : Gr O os H os1 H1) (b : Gr O os1 H1 os2 H2) : Gr O os H os2 H2 := ⟨a.e.trans b.e, fun x h => (b.o x h).trans (a.o x h), fun k x h => b.p k x (a.p k x h)⟩
theorem Ok.gr {C : Ct} {H H' : Hp} {os : List (Option Addr)} {A : AS} {σ : Sg} (k : Ok C os A σ H) (e : Ex H H') : Gr C.O os H os H' := ⟨hd_mono e, fun a h => by
  obtain ⟨o, q, n⟩ := k.ol a h
  rw [q, e _ _ q n], fun _ _ h => h⟩
/-! ### what a reading evaluates to -/
section
variable (C : Ct)
def EvS (te : TE) (A : AS) (d : Dt) (A' : AS) : Prop := ∀ os σ H, Ok C os A σ H → ∀ Q : VK, (∀ os' v H', Ok C os' A' σ H' → Gr C.O os H os' H' → Is C.K (Rh C.O os' H') d v → Q v H') → te σ H Q
def EvT (tt : TT) (A : AS) (b : Bool) (A' : AS) : Prop := ∀ os σ H, Ok C os A σ H → ∀ Q : Bool → Hp → Prop, (∀ os' H', Ok C os' A' σ H' → Gr C.O os H os' H' → Q b H') → tt σ H Q
def EvA (ta : TA) (A : AS) (ds : List Dt) (A' : AS) : Prop := ∀ os σ H, Ok C os A σ H → ∀ Q : List V → Hp → Prop, (∀ os' vs H', Ok C os' A' σ H' → Gr C.O os H os' H' → IsA C.K (Rh C.O os' H') ds vs → Q vs H') → ta σ H Q
/-- raises c -/
def EvX (E : XK) (te : TE) (A : AS) (c : Addr) (A1 : AS) : Prop := ∀ os σ H, Ok C os A σ H → (∀ os' H', Ok C os' A1 σ H' → Gr C.O os H os' H' → E (.ref c) none H') → ∀ Q : VK, te σ H Q
def EvXA (E : XK) (ta : TA) (A : AS) (c : Addr) (A1 : AS) : Prop := ∀ os σ H, Ok C os A σ H → (∀ os' H', Ok C os' A1 σ H' → Gr C.O os H os' H' → E (.ref c) none H') → ∀ Q : List V → Hp → Prop, ta σ H Q
def EvXT (E : XK) (tt : TT) (A : AS) (c : Addr) (A1 : AS) : Prop := ∀ os σ H, Ok C os A σ H → (∀ os' H', Ok C os' A1 σ H' → Gr C.O os H os' H' → E (.ref c) none H') → ∀ Q : Bool → Hp → Prop, tt σ H Q
end
section
variable {C : Ct} {ta tb tc te : TE} {t u : TT} {A A1 A2 A3 : AS} {x y z : V} {d d1 d2 : Dt} {r : R2}
theorem e_var {i : Nat} (h : A.sl[i]? = some (.d d)) : EvS C (tVar i) A d A := fun os σ H k Q q => by
  obtain ⟨o, e, v, h1, h2⟩ := k.slot h
  subst h1
  exact ⟨v, e, q os v H k Gr.refl h2⟩
theorem e_c : EvS C (tC x) A (.v x) A := fun os σ H k Q q => q os x H k Gr.refl is_v
theorem e_op (ha : EvS C ta A (.v x) A1) (hb : EvS C tb A1 (.v y) A2) (hr : ∀ H (Q : VK), Q z H → r x y H Q) : EvS C (tOp r ta tb) A (.v z) A2 := fun os σ H k Q q =>
  ha os σ H k _ fun os1 v1 H1 k1 e1 i1 => hb os1 σ H1 k1 _ fun os2 v2 H2 k2 e2 i2 => by
    rw [Is.v_iff.mp i1, Is.v_iff.mp i2]
    exact hr H2 Q (q os2 z H2 k2 (e1.trans e2) is_v)
theorem e_I0 {g : Int → Int → V} {i j : Int} (ha : EvS C ta A (di i) A1) (hb : EvS C tb A1 (di j) A2) : EvS C (tOp (rI0 g) ta tb) A (.v (g i j)) A2 := e_op ha hb fun H Q q => ⟨i, j, rfl, rfl, q⟩
theorem e_I {cc : Int → Int → Prop} {g : Int → Int → V} {i j : Int} (hc : cc i j) (ha : EvS C ta A (di i) A1) (hb : EvS C tb A1 (di j) A2) : EvS C (tOp (rI cc g) ta tb) A (.v (g i j)) A2 := e_op ha hb fun H Q q => ⟨i, j, rfl, rfl, hc, q⟩
theorem e_eq (h : scal x y = true) (ha : EvS C ta A (.v x) A1) (hb : EvS C tb A1 (.v y) A2) : EvS C (tOp rEq ta tb) A (db (decide (x = y))) A2 := e_op ha hb fun H Q q => ⟨h, q⟩
theorem e_ne (h : scal x y = true) (ha : EvS C ta A (.v x) A1) (hb : EvS C tb A1 (.v y) A2) : EvS C (tOp rNe ta tb) A (db (!decide (x = y))) A2 := e_op ha hb fun H Q q => ⟨h, q⟩
theorem e_un {r : V → Hp → VK → Prop} (ha : EvS C ta A (.v x) A1) (hr : ∀ H (Q : VK), Q z H → r x H Q) : EvS C (tUn r ta) A (.v z) A1 := fun os σ H k Q q =>
  ha os σ H k _ fun os1 v1 H1 k1 e1 i1 => by
    rw [Is.v_iff.mp i1]
    exact hr H1 Q (q os1 z H1 k1 e1 is_v)
theorem e_U {g : Int → V} {i : Int} (ha : EvS C ta A (di i) A1) : EvS C (tUn (rU g) ta) A (.v (g i)) A1 := e_un ha fun H Q q => ⟨i, rfl, q⟩
theorem e_is (h : EvS C te A d A1) (e : d = d1) : EvS C te A d1 A1 := by rw [← e]; exact h
theorem e_isA (h : EvS C te A d A1) (e : A1 = A2) : EvS C te A d A2 := by rw [← e]; exact h
theorem isA_at {H : Hp} {xs : List Dt} {vs : List V} {i : Int} (h : IsA C.K H xs vs) (e : atI xs i = some d) : ∃ v, atI vs i = some v ∧ Is C.K H d v := by
  unfold atI at e ⊢
  rw [isA_len h]
  cases q : ixN xs.length i with
  | none => rw [q] at e; cases e
  | some j =>
    rw [q] at e
    obtain ⟨v, h1, h2⟩ := isA_get h (show xs[j]? = some d from e)
    exact ⟨v, h1, h2⟩
theorem e_ixT {xs : List Dt} {i : Int} (ha : EvS C ta A (.tup xs) A1) (hb : EvS C tb A1 (di i) A2) (h : atI xs i = some d) : EvS C (tOp (rIxT C.K) ta tb) A d A2 := fun os σ H k Q q =>
  ha os σ H k _ fun os1 v1 H1 k1 e1 i1 => hb os1 σ H1 k1 _ fun os2 v2 H2 k2 e2 i2 => by
    rw [Is] at i1
    obtain ⟨a, vs, rfl, h2, h3⟩ := i1
    obtain ⟨v, h4, h5⟩ := isA_at h3 h
    rw [Is.v_iff.mp i2]
    exact ⟨a, vs, i, v, rfl, rfl, (e2.e.trans hd_ex).t h2, h4, q os2 v H2 k2 (e1.trans e2) (Is.mono e2.e _ _ h5)⟩
theorem e_ixL {xs : List Dt} {i : Int} (ha : EvS C ta A (.lst xs) A1) (hb : EvS C tb A1 (di i) A2) (h : atI xs i = some d) : EvS C (tOp (rIxL C.K) ta tb) A d A2 := fun os σ H k Q q =>
  ha os σ H k _ fun os1 v1 H1 k1 e1 i1 => hb os1 σ H1 k1 _ fun os2 v2 H2 k2 e2 i2 => by
    rw [Is] at i1
    obtain ⟨a, vs, rfl, h2, h3⟩ := i1
    obtain ⟨v, h4, h5⟩ := isA_at h3 h
    rw [Is.v_iff.mp i2]
    exact ⟨a, vs, i, v, rfl, rfl, (e2.e.trans hd_ex).l h2, h4, q os2 v H2 k2 (e1.trans e2) (Is.mono e2.e _ _ h5)⟩
/-- an item of a list of one's own -/
theorem e_ixO0 {i : Nat} {n : Nat} {xs : List Dt} {j : Int} (h1 : A.sl[i]? = some (.own n)) (h2 : A.st[n]? = some (.lst xs)) (hb : EvS C tb A (di j) A) (h : atI xs j = some d) : EvS C (tOp (rIxL C.K) (tVar i) tb) A d A := fun os σ H k Q q => by
  obtain ⟨o, e1, a, e2, e3⟩ := k.slot h1
  subst e2
  refine ⟨_, e1, hb os σ H k _ fun os2 v2 H2 k2 e4 i2 => ?_⟩
  obtain ⟨o2, f1, f3⟩ := k2.slot h1
  obtain ⟨f1, f2, a2, g1, g2⟩ := k2.slot h1
  rw [e1] at f2; cases f2
  cases g1
  obtain ⟨o3, s1, a3, vs, s2, s3, s4⟩ := k2.store h2
  rw [g2] at s1; cases s1; cases s2
  obtain ⟨v, h4, h5⟩ := isA_at s4 h
  rw [Is.v_iff.mp i2]
  exact ⟨_, vs, j, v, rfl, rfl, SqL.of s3, h4, q os2 v H2 k2 e4 h5⟩
theorem a_nil : EvA C tNil A [] A := fun os σ H k Q q => q os [] H k Gr.refl isA_nil
theorem a_cons {tr : TA} {ds : List Dt} (ha : EvS C ta A d A1) (hr : EvA C tr A1 ds A2) : EvA C (tCons ta tr) A (d :: ds) A2 := fun os σ H k Q q =>
  ha os σ H k _ fun os1 v1 H1 k1 e1 i1 => hr os1 σ H1 k1 _ fun os2 vs H2 k2 e2 i2 => q os2 (v1 :: vs) H2 k2 (e1.trans e2) (isA_cons (Is.mono e2.e _ _ i1) i2)
theorem Ok.fresh {os : List (Option Addr)} {σ : Sg} {H : Hp} {p : Addr} {o : HO} (k : Ok C os A σ H) (hp : H p = none) : Rh C.O os (upd H p o) p = some o := by
  show hd _ _ _ = _
  rw [hd_of (k.new hp), upd_same]
theorem e_tup {tl : TA} {ds : List Dt} (h : EvA C tl A ds A1) (hl : ds.length ≤ 100000) : EvS C (tTup tl) A (.tup ds) A1 := fun os σ H k Q q =>
  h os σ H k _ fun os1 vs H1 k1 e1 i1 => ⟨by rw [isA_len i1]; exact Nat.le_trans hl (by decide), fun p hp => q os1 _ _ (k1.monoN hp) (e1.trans (k1.gr (Ex.new hp))) (by
    rw [Is]
    exact ⟨p, vs, rfl, SqT.of (k1.fresh hp), IsA.mono (hd_mono (Ex.new hp)) _ _ i1⟩)⟩
theorem e_lst {tl : TA} {ds : List Dt} (h : EvA C tl A ds A1) (hl : ds.length ≤ 100000) : EvS C (tLst tl) A (.lst ds) A1 := fun os σ H k Q q =>
  h os σ H k _ fun os1 vs H1 k1 e1 i1 => ⟨by rw [isA_len i1]; exact Nat.le_trans hl (by decide), fun p hp => q os1 _ _ (k1.monoN hp) (e1.trans (k1.gr (Ex.new hp))) (by
    rw [Is]
    exact ⟨p, vs, rfl, SqL.of (k1.fresh hp), IsA.mono (hd_mono (Ex.new hp)) _ _ i1⟩)⟩
theorem t_test {b : Bool} (h : EvS C te A (db b) A1) : EvT C (tTest te) A b A1 := fun os σ H k Q q => h os σ H k _ fun os1 v H1 k1 e1 i1 => ⟨b, Is.v_iff.mp i1, q os1 H1 k1 e1⟩
theorem t_B {b : Bool} (h : EvS C te A (db b) A1) : EvT C (tB te) A b A1 := fun os σ H k Q q => h os σ H k _ fun os1 v H1 k1 e1 i1 => ⟨b, Is.v_iff.mp i1, q os1 H1 k1 e1⟩
theorem t_is {a b : Bool} (h : EvT C t A a A1) (e : a = b) : EvT C t A b A1 := by rw [← e]; exact h
theorem t_andT {b : Bool} (h1 : EvT C t A true A1) (h2 : EvT C u A1 b A2) : EvT C (tAnd t u) A b A2 := fun os σ H k Q q =>
  h1 os σ H k _ fun os1 H1 k1 e1 => by
    rw [if_pos rfl]
    exact h2 os1 σ H1 k1 _ fun os2 H2 k2 e2 => q os2 H2 k2 (e1.trans e2)
theorem t_andF (h1 : EvT C t A false A1) : EvT C (tAnd t u) A false A1 := fun os σ H k Q q =>
  h1 os σ H k _ fun os1 H1 k1 e1 => by
    rw [if_neg (by decide)]
    exact q os1 H1 k1 e1
theorem t_orF {b : Bool} (h1 : EvT C t A false A1) (h2 : EvT C u A1 b A2) : EvT C (tOr t u) A b A2 := fun os σ H k Q q =>
  h1 os σ H k _ fun os1 H1 k1 e1 => by
    rw [if_neg (by decide)]
    exact h2 os1 σ H1 k1 _ fun os2 H2 k2 e2 => q os2 H2 k2 (e1.trans e2)
theorem t_orT (h1 : EvT C t A true A1) : EvT C (tOr t u) A true A1 := fun os σ H k Q q =>
  h1 os σ H k _ fun os1 H1 k1 e1 => by
    rw [if_pos rfl]
    exact q os1 H1 k1 e1
/-- and, or where the state stays -/
theorem t_and {a b : Bool} (h1 : EvT C t A a A) (h2 : a = true → EvT C u A b A) : EvT C (tAnd t u) A (a && b) A := by
  cases a with
  | true => exact t_andT h1 (h2 rfl)
  | false => exact t_andF h1
theorem t_or {a b : Bool} (h1 : EvT C t A a A) (h2 : a = false → EvT C u A b A) : EvT C (tOr t u) A (a || b) A := by
  cases a with
  | true => exact t_orT h1
  | false => exact t_orF h1 (h2 rfl)
theorem t_not {a : Bool} (h1 : EvT C t A a A1) : EvT C (tNot t) A (!a) A1 := fun os σ H k Q q => h1 os σ H k _ fun os1 H1 k1 e1 => q os1 H1 k1 e1
theorem e_ifT (h : EvT C t A true A1) (h1 : EvS C ta A1 d A2) : EvS C (tIf t ta tb) A d A2 := fun os σ H k Q q =>
  h os σ H k _ fun os1 H1 k1 e1 => by
    rw [if_pos rfl]
    exact h1 os1 σ H1 k1 _ fun os2 v H2 k2 e2 i => q os2 v H2 k2 (e1.trans e2) i
theorem e_ifF (h : EvT C t A false A1) (h1 : EvS C tb A1 d A2) : EvS C (tIf t ta tb) A d A2 := fun os σ H k Q q =>
  h os σ H k _ fun os1 H1 k1 e1 => by
    rw [if_neg (by decide)]
    exact h1 os1 σ H1 k1 _ fun os2 v H2 k2 e2 i => q os2 v H2 k2 (e1.trans e2) i
theorem e_if {b : Bool} (h : EvT C t A b A1) (h1 : b = true → EvS C ta A1 d A2) (h2 : b = false → EvS C tb A1 d A2) : EvS C (tIf t ta tb) A d A2 := by
  cases b with
  | true => exact e_ifT h (h1 rfl)
  | false => exact e_ifF h (h2 rfl)
theorem e_ite {b : Bool} (h : EvT C t A b A1) (h1 : b = true → EvS C ta A1 d1 A2) (h2 : b = false → EvS C tb A1 d2 A2) : EvS C (tIf t ta tb) A (if b then d1 else d2) A2 := by
  cases b with
  | true => exact e_ifT h (h1 rfl)
  | false => exact e_ifF h (h2 rfl)
theorem e_andT (h1 : EvS C ta A (db true) A1) (h2 : EvS C tb A1 d A2) : EvS C (tAndV ta tb) A d A2 := fun os σ H k Q q =>
  h1 os σ H k _ fun os1 v H1 k1 e1 i1 => ⟨true, Is.v_iff.mp i1, by
    rw [if_pos rfl]
    exact h2 os1 σ H1 k1 _ fun os2 v H2 k2 e2 i => q os2 v H2 k2 (e1.trans e2) i⟩
theorem e_andF (h1 : EvS C ta A (db false) A1) : EvS C (tAndV ta tb) A (db false) A1 := fun os σ H k Q q =>
  h1 os σ H k _ fun os1 v H1 k1 e1 i1 => ⟨false, Is.v_iff.mp i1, by
    rw [if_neg (by decide)]
    exact q os1 _ H1 k1 e1 is_v⟩
theorem e_orT (h1 : EvS C ta A (db true) A1) : EvS C (tOrV ta tb) A (db true) A1 := fun os σ H k Q q =>
  h1 os σ H k _ fun os1 v H1 k1 e1 i1 => ⟨true, Is.v_iff.mp i1, by
    rw [if_pos rfl]
    exact q os1 _ H1 k1 e1 is_v⟩
theorem e_orF (h1 : EvS C ta A (db false) A1) (h2 : EvS C tb A1 d A2) : EvS C (tOrV ta tb) A d A2 := fun os σ H k Q q =>
  h1 os σ H k _ fun os1 v H1 k1 e1 i1 => ⟨false, Is.v_iff.mp i1, by
    rw [if_neg (by decide)]
    exact h2 os1 σ H1 k1 _ fun os2 v H2 k2 e2 i => q os2 v H2 k2 (e1.trans e2) i⟩
theorem e_and {a b : Bool} (h1 : EvS C ta A (db a) A) (h2 : a = true → EvS C tb A (db b) A) : EvS C (tAndV ta tb) A (db (a && b)) A := by
  cases a with
  | true => exact e_andT h1 (h2 rfl)
  | false => exact e_andF h1
theorem e_or {a b : Bool} (h1 : EvS C ta A (db a) A) (h2 : a = false → EvS C tb A (db b) A) : EvS C (tOrV ta tb) A (db (a || b)) A := by
  cases a with
  | true => exact e_orT h1
  | false => exact e_orF h1 (h2 rfl)
theorem e_not {a : Bool} (h1 : EvS C ta A (db a) A1) : EvS C (tNotV ta) A (db (!a)) A1 := fun os σ H k Q q =>
  h1 os σ H k _ fun os1 v H1 k1 e1 i1 => ⟨a, Is.v_iff.mp i1, q os1 _ H1 k1 e1 is_v⟩
/-- a call of a built-in by values -/
theorem e_CB {r : List V → Hp → VK → Prop} {tl : TA} {vs : List V} (h : EvA C tl A (vs.map .v) A1) (hr : ∀ H (Q : VK), Q z H → r vs H Q) : EvS C (tCB r tl) A (.v z) A1 := fun os σ H k Q q =>
  h os σ H k _ fun os1 ws H1 k1 e1 i1 => by
    have e : ws = vs := by
      have : ∀ (vs ws : List V), IsA C.K (Rh C.O os1 H1) (vs.map .v) ws → ws = vs := by
        intro vs
        induction vs with
        | nil => intro ws h; simpa [IsA] using h
        | cons v r ih =>
          intro ws h
          rw [List.map_cons, IsA] at h
          obtain ⟨v', w, h1, h2, h3⟩ := h
          rw [h1, ih w h3, Is.v_iff.mp h2]
      exact this vs ws i1
    rw [e]
    exact hr H1 Q (q os1 z H1 k1 e1 is_v)
end
/-! ### statements -/
structure Po where
  nx : AS → Prop := fun _ => False
  rt : Dt → AS → Prop := fun _ _ => False
  bk : AS → Prop := fun _ => False
  ct : AS → Prop := fun _ => False
  er : Addr → Prop := fun _ => False
structure To (C : Ct) (P : Po) (E : XK) (os0 : List (Option Addr)) (Hs : Hp) (D : Ends) : Prop where
  nx : ∀ os A σ H, P.nx A → Ok C os A σ H → Gr C.O os0 Hs os H → D.nx σ H
  rt : ∀ os A σ d v H, P.rt d A → Ok C os A σ H → Gr C.O os0 Hs os H → Is C.K (hd C.O H) d v → D.rt v H
  bk : ∀ os A σ H, P.bk A → Ok C os A σ H → Gr C.O os0 Hs os H → D.bk σ H
  ct : ∀ os A σ H, P.ct A → Ok C os A σ H → Gr C.O os0 Hs os H → D.ct σ H
  er : ∀ c H, P.er c → Ex C.H0 H → LamX.Tabs C.T H → E (.ref c) none H
def RunS (C : Ct) (E : XK) (t : TS) (A : AS) (P : Po) : Prop := ∀ os σ H D, Ok C os A σ H → To C P E os H D → t D σ H
section
variable {C : Ct} {E : XK} {ta tb tc te : TE} {tt : TT} {t u : TS} {A A1 A2 A3 : AS} {d d1 d2 : Dt} {P : Po}
theorem To.from {os os1 : List (Option Addr)} {H H1 : Hp} {D : Ends} (T : To C P E os H D) (g : Gr C.O os H os1 H1) : To C P E os1 H1 D :=
  ⟨fun os2 A σ H2 h k q => T.nx os2 A σ H2 h k (g.trans q), fun os2 A σ d v H2 h k q i => T.rt os2 A σ d v H2 h k (g.trans q) i, fun os2 A σ H2 h k q => T.bk os2 A σ H2 h k (g.trans q), fun os2 A σ H2 h k q => T.ct os2 A σ H2 h k (g.trans q), T.er⟩
theorem r_seq (h : RunS C E t A { P with nx := fun A' => RunS C E u A' P }) : RunS C E (tSeq t u) A P := fun os σ H D k T =>
  h os σ H { D with nx := u D } k ⟨fun os1 A1 σ1 H1 h k q => h os1 σ1 H1 D k (T.from q), T.rt, T.bk, T.ct, T.er⟩
theorem r_next (h : P.nx A) : RunS C E tNext A P := fun os σ H D k T => T.nx os A σ H h k Gr.refl
theorem r_break (h : P.bk A) : RunS C E tBreak A P := fun os σ H D k T => T.bk os A σ H h k Gr.refl
theorem r_cont (h : P.ct A) : RunS C E tCont A P := fun os σ H D k T => T.ct os A σ H h k Gr.refl
theorem r_asg {i : Nat} (he : EvS C te A d A1) (h : P.nx (A1.put i d)) : RunS C E (tAsg te (gName i)) A P := fun os σ H D k T =>
  he os σ H k _ fun os1 v H1 k1 e1 i1 => T.nx os1 _ _ H1 h (k1.put i1) e1
theorem r_drop (he : EvS C te A d A1) (h : P.nx A1) : RunS C E (tDrop te) A P := fun os σ H D k T =>
  he os σ H k _ fun os1 v H1 k1 e1 i1 => T.nx os1 _ _ H1 h k1 e1
theorem r_ret (he : EvS C te A d A1) (h : P.rt d A1) : RunS C E (tRet te) A P := fun os σ H D k T =>
  he os σ H k _ fun os1 v H1 k1 e1 i1 => T.rt os1 A1 σ d v H1 h k1 e1 (Is.mono hid_ex _ _ i1)
theorem r_retN (h : P.rt dn A) : RunS C E tRetN A P := fun os σ H D k T => T.rt os A σ _ _ H h k Gr.refl is_v
/-- a list of one's own handed back -/
theorem r_retO {i n : Nat} {xs : List Dt} (h1 : A.sl[i]? = some (.own n)) (h2 : A.st[n]? = some (.lst xs)) (h : P.rt (.lst xs) A) : RunS C E (tRet (tVar i)) A P := fun os σ H D k T => by
  obtain ⟨o, e1, a, e2, e3⟩ := k.slot h1
  subst e2
  obtain ⟨o3, s1, a3, vs, s2, s3, s4⟩ := k.store h2
  rw [e3] at s1; cases s1; cases s2
  refine ⟨_, e1, T.rt os A σ _ _ H h k Gr.refl ?_⟩
  rw [Is]
  have na : a ∉ C.O := fun z => k.dj a z (List.mem_of_getElem? e3)
  exact ⟨a, vs, rfl, SqL.of (by rw [hd_of na]; exact s3), IsA.mono hid_ex _ _ s4⟩
theorem r_if {b : Bool} (hc : EvT C tt A b A1) (h1 : b = true → RunS C E t A1 P) (h2 : b = false → RunS C E u A1 P) : RunS C E (tIfS tt t u) A P := fun os σ H D k T =>
  hc os σ H k _ fun os1 H1 k1 e1 => by
    cases b with
    | true => rw [if_pos rfl]; exact h1 rfl os1 σ H1 D k1 (T.from e1)
    | false => rw [if_neg (by decide)]; exact h2 rfl os1 σ H1 D k1 (T.from e1)
theorem r_ifT (hc : EvT C tt A true A1) (h1 : RunS C E t A1 P) : RunS C E (tIfS tt t u) A P := r_if hc (fun _ => h1) fun z => by cases z
theorem r_ifF (hc : EvT C tt A false A1) (h1 : RunS C E u A1 P) : RunS C E (tIfS tt t u) A P := r_if hc (fun z => by cases z) fun _ => h1
theorem r_par {i j : Nat} {tl : TA} (h : EvA C tl A [d, d1] A1) (hn : P.nx ((A1.put i d).put j d1)) : RunS C E (tPar i j tl) A P := fun os σ H D k T =>
  h os σ H k _ fun os1 vs H1 k1 e1 i1 => by
    simp only [IsA] at i1
    obtain ⟨v, w, rfl, h1, v', w', rfl, h2, rfl⟩ := i1
    exact ⟨v, v', rfl, T.nx os1 _ _ H1 hn ((k1.put h1).put h2) e1⟩
theorem r_par3 {i j l : Nat} {tl : TA} (h : EvA C tl A [d, d1, d2] A1) (hn : P.nx (((A1.put i d).put j d1).put l d2)) : RunS C E (tPar3 i j l tl) A P := fun os σ H D k T =>
  h os σ H k _ fun os1 vs H1 k1 e1 i1 => by
    simp only [IsA] at i1
    obtain ⟨v, w, rfl, h1, v', w', rfl, h2, v'', w'', rfl, h3, rfl⟩ := i1
    exact ⟨v, v', v'', rfl, T.nx os1 _ _ H1 hn (((k1.put h1).put h2).put h3) e1⟩
/-- targets that take data one after another -/
def puts (A : AS) : List Nat → List Dt → AS
  | i :: is, d :: ds => puts (A.put i d) is ds
  | _, _ => A
def gNames : List Nat → TGs
  | [] => gNil
  | i :: is => gCons (gName i) (gNames is)
theorem gNames_ok {os : List (Option Addr)} {H : Hp} {Q : Sg → Hp → Prop} : ∀ (is : List Nat) {A : AS} {σ : Sg} {ds : List Dt} {vs : List V}, Ok C os A σ H → IsA C.K (Rh C.O os H) ds vs → ds.length = is.length → (∀ σ', Ok C os (puts A is ds) σ' H → Q σ' H) → gNames is vs σ H Q
  | [], A, σ, ds, vs, k, i, e, q => by
    cases ds with
    | nil => rw [IsA] at i; exact ⟨i, q σ k⟩
    | cons _ _ => cases e
  | n :: is, A, σ, ds, vs, k, i, e, q => by
    cases ds with
    | nil => cases e
    | cons d r =>
      rw [IsA] at i
      obtain ⟨v, w, rfl, h1, h2⟩ := i
      exact ⟨v, w, rfl, gNames_ok is (k.put h1) h2 (by simpa using e) q⟩
theorem r_asgT {is : List Nat} {n : Nat} {ds : List Dt} (he : EvS C te A (.tup ds) A1) (hl : ds.length = is.length) (hn : is.length = n) (h : P.nx (puts A1 is ds)) : RunS C E (tAsg te (gTup C.K n (gNames is))) A P := fun os σ H D k T =>
  he os σ H k _ fun os1 v H1 k1 e1 i1 => by
    rw [Is] at i1
    obtain ⟨a, vs, rfl, h1, h2⟩ := i1
    exact ⟨a, vs, rfl, hd_ex.t h1, by rw [isA_len h2, hl, hn], gNames_ok is k1 h2 hl fun σ' k' => T.nx os1 _ _ H1 h k' e1⟩
/-! ### a list of one's own -/
def AS.newO (A : AS) (i : Nat) (xs : List Dt) : AS := ⟨A.sl.set i (.own A.st.length), A.st ++ [.lst xs]⟩
def AS.upO (A : AS) (n : Nat) (xs : List Dt) : AS := ⟨A.sl, A.st.set n (.lst xs)⟩
theorem Ok.newO {os : List (Option Addr)} {σ : Sg} {H : Hp} {p : Addr} {xs : List Dt} {vs : List V} {i : Nat} (k : Ok C os A σ H) (hp : H p = none) (hx : IsA C.K (Rh C.O os H) xs vs) : Ok C (os ++ [some p]) (A.newO i xs) (σ.set i (some (.ref p))) (upd H p (.lst vs)) := by
  have np : some p ∉ os := fun z => by
    obtain ⟨o, q, _⟩ := (k.fr p z).2
    rw [hp] at q; cases q
  refine ⟨k.ex.trans (Ex.new hp), tabs_new k.tb hp, fun a h => by obtain ⟨o, q, n⟩ := k.ol a h; exact ⟨o, Ex.new hp _ _ q n, n⟩, fun a h z => ?dj, by simp [AS.newO, k.ln], fun a b c h1 h2 => ?_, fun a h => ?_, by simp [AS.newO, k.sn], fun j s o h1 h2 => ?_, fun j s o h1 h2 => ?_⟩
  case dj =>
    rcases List.mem_append.mp z with z | z
    · exact k.dj a h z
    · simp at z
      subst z
      obtain ⟨o, q, _⟩ := k.ol a h
      rw [hp] at q; cases q
  · rw [List.getElem?_append] at h1 h2
    split at h1 <;> split at h2
    · exact k.nd a b c h1 h2
    · rename_i q1 q2
      have e : c = p := by
        cases z : b - os.length with
        | zero => rw [z] at h2; simpa using h2.symm
        | succ n => rw [z] at h2; simp at h2
      rw [e] at h1
      exact absurd (List.mem_of_getElem? h1) np
    · have e : c = p := by
        cases z : a - os.length with
        | zero => rw [z] at h1; simpa using h1.symm
        | succ n => rw [z] at h1; simp at h1
      rw [e] at h2
      exact absurd (List.mem_of_getElem? h2) np
    · rename_i q1 q2
      have e1 : a - os.length = 0 := by
        cases z : a - os.length with
        | zero => rfl
        | succ n => rw [z] at h1; simp at h1
      have e2 : b - os.length = 0 := by
        cases z : b - os.length with
        | zero => rfl
        | succ n => rw [z] at h2; simp at h2
      omega
  · rcases List.mem_append.mp h with h | h
    · obtain ⟨h1, o, h2, n⟩ := k.fr a h
      exact ⟨h1, o, Ex.new hp _ _ h2 n, n⟩
    · simp at h
      subst h
      exact ⟨fun o q n => (by have := k.ex _ _ q n; rw [hp] at this; cases this), _, upd_same, nt_l⟩
  · rw [Rh_app hp]
    have h1 : (A.sl.set i (SD.own A.st.length))[j]? = some s := h1
    rw [List.getElem?_set] at h1 h2
    by_cases e : i = j
    · rw [if_pos e] at h1 h2
      split at h1
      · split at h2
        · cases h1; cases h2
          exact ⟨p, rfl, by rw [← k.ln]; simp⟩
        · cases h2
      · cases h1
    · rw [if_neg e] at h1 h2
      have q := k.sl j s o h1 h2
      cases s with
      | un => exact q
      | d x => exact q
      | own n =>
        obtain ⟨a, q1, q2⟩ := q
        exact ⟨a, q1, by rw [List.getElem?_append_left (List.getElem?_eq_some_iff.mp q2).1]; exact q2⟩
  · rw [Rh_app hp]
    have h1 : (A.st ++ [OD.lst xs])[j]? = some s := h1
    rw [List.getElem?_append] at h1 h2
    rw [k.ln] at h2
    split at h1
    · rename_i q1
      rw [if_pos q1] at h2
      exact ((k.st j s o h1 h2).mono (Ex.refl _) (Ex.new hp)).app
    · rename_i q1
      rw [if_neg q1] at h2
      cases z : j - A.st.length with
      | succ n => rw [z] at h1; simp at h1
      | zero =>
        rw [z] at h1 h2
        simp at h1 h2
        subst h1 h2
        exact ⟨p, vs, rfl, upd_same, hx⟩
theorem r_new {i : Nat} {tl : TA} {xs : List Dt} (h : EvA C tl A xs A1) (hl : xs.length ≤ 100000) (hn : P.nx (A1.newO i xs)) : RunS C E (tAsg (tLst tl) (gName i)) A P := fun os σ H D k T =>
  h os σ H k _ fun os1 vs H1 k1 e1 i1 => ⟨by rw [isA_len i1]; exact Nat.le_trans hl (by decide), fun p hp => T.nx _ _ _ _ hn (k1.newO hp i1) (e1.trans ⟨by rw [Rh_app hp]; exact Ex.refl _, fun a h => by obtain ⟨o, q, n⟩ := k1.ol a h; rw [q, Ex.new hp _ _ q n], fun k x h => by rw [List.getElem?_append_left (List.getElem?_eq_some_iff.mp h).1]; exact h⟩)⟩
theorem Ok.upO {os : List (Option Addr)} {σ : Sg} {H : Hp} {p : Addr} {xs ys : List Dt} {vs : List V} {n : Nat} (k : Ok C os A σ H) (h1 : os[n]? = some (some p)) (h2 : A.st[n]? = some (.lst xs)) (hx : IsA C.K (Rh C.O os H) ys vs) : Ok C os (A.upO n ys) σ (upd H p (.lst vs)) := by
  have hp : p ∈ hid C.O os := mem_hid.mpr (.inr (List.mem_of_getElem? h1))
  have hpl : ∃ ws, H p = some (.lst ws) := by
    obtain ⟨o, s1, a3, ws, s2, s3, s4⟩ := k.store h2
    rw [h1] at s1; cases s1; cases s2
    exact ⟨ws, s3⟩
  obtain ⟨ws, hpl⟩ := hpl
  refine ⟨fun a o e nt => ?_, tabs_lst k.tb hpl, fun a h => ?ol, k.dj, by simp [AS.upO, k.ln], k.nd, fun a h => ?_, k.sn, fun j s o e1 e2 => ?_, fun j s o e1 e2 => ?_⟩
  case ol =>
    obtain ⟨o, q, n⟩ := k.ol a h
    exact ⟨o, by rw [upd_ne fun z => k.dj a h (by rw [z]; exact List.mem_of_getElem? h1)]; exact q, n⟩
  · have ne : a ≠ p := fun z => (k.fr p (List.mem_of_getElem? h1)).1 o (by rw [← z]; exact e) nt
    rw [upd_ne ne]
    exact k.ex _ _ e nt
  · obtain ⟨q1, o, q2, n⟩ := k.fr a h
    refine ⟨q1, ?_⟩
    by_cases e : a = p
    · rw [e]; exact ⟨_, upd_same, nt_l⟩
    · exact ⟨o, by rw [upd_ne e]; exact q2, n⟩
  · rw [Rh_upd hp]
    exact k.sl j s o e1 e2
  · rw [Rh_upd hp]
    have e1 : (A.st.set n (OD.lst ys))[j]? = some s := e1
    rw [List.getElem?_set] at e1
    by_cases e : n = j
    · rw [if_pos e] at e1
      split at e1
      · cases e1
        subst e
        rw [h1] at e2; cases e2
        exact ⟨p, vs, rfl, upd_same, hx⟩
      · cases e1
    · rw [if_neg e] at e1
      refine (k.st j s o e1 e2).heap fun a q1 => upd_ne fun z => ?_
      rw [q1, z] at e2
      exact e (k.nd n j p h1 e2)
/-- xs.append(e) -/
theorem e_append {i n : Nat} {xs xs0 : List Dt} (h1 : A.sl[i]? = some (.own n)) (h0 : A.st[n]? = some (.lst xs0)) (he : EvS C te A d A1) (h1' : A1.sl[i]? = some (.own n)) (h2 : A1.st[n]? = some (.lst xs)) (hl : xs.length < 100000) : EvS C (tBM C.K "list" rAppend (tVar i) (tCons te tNil)) A dn (A1.upO n (xs ++ [d])) := fun os σ H k Q q => by
  obtain ⟨o, e1, a, e2, e3⟩ := k.slot h1
  subst e2
  obtain ⟨o3, s1, a3, vs, s2, s3, s4⟩ := k.store h0
  rw [e3] at s1; cases s1; cases s2
  refine ⟨_, e1, .inl ⟨rfl, _, .inl (.inl s3)⟩, ?_⟩
  · exact he os σ H k _ fun os1 v H1 k1 x1 i1 => by
      obtain ⟨o, f1, a1, f2, f3⟩ := k1.slot h1'
      rw [e1] at f1; cases f1; cases f2
      obtain ⟨o3, s1, a3, vs, s2, s3, s4⟩ := k1.store h2
      rw [f3] at s1; cases s1; cases s2
      refine ⟨a, vs, v, rfl, rfl, s3, by rw [isA_len s4]; exact Nat.lt_of_lt_of_le hl (by decide), ?_⟩
      exact q os1 _ _ (k1.upO f3 h2 (isA_app s4 (isA_cons i1 isA_nil))) (x1.trans ⟨by rw [Rh_upd (mem_hid.mpr (.inr (List.mem_of_getElem? f3)))]; exact Ex.refl _, fun b hb => (by rw [upd_ne fun z => k1.dj b hb (by rw [z]; exact List.mem_of_getElem? f3)]), fun _ _ h => h⟩) is_v
end
/-! ### loops -/
section
variable {C : Ct} {E : XK} {ta tb tc te tl : TE} {tt : TT} {t u : TS} {A A1 A2 A3 : AS} {d d1 d2 : Dt} {P : Po}
theorem r_while (W : Nat → AS → Prop) (m0 : Nat) (h0 : W m0 A)
    (hs : ∀ m A, W m A → ∃ b A1, EvT C tt A b A1 ∧ (b = true → RunS C E t A1 { P with nx := fun A' => ∃ m', m' < m ∧ W m' A', ct := fun A' => ∃ m', m' < m ∧ W m' A', bk := P.nx }) ∧ (b = false → P.nx A1)) :
    RunS C E (tWhile tt t) A P := fun os σ H D k T => by
  refine ⟨fun m σ' H' => ∃ os' A', W m A' ∧ Ok C os' A' σ' H' ∧ Gr C.O os H os' H', ⟨m0, os, A, h0, k, Gr.refl⟩, fun m σ1 H1 ⟨os1, A1, w1, k1, g1⟩ => ?_⟩
  obtain ⟨b, A2, ht, hy, hn⟩ := hs m A1 w1
  refine ht os1 σ1 H1 k1 _ fun os2 H2 k2 g2 => ?_
  cases b with
  | true =>
    rw [if_pos rfl]
    refine ⟨fun σ' H' => ∃ m', m' < m ∧ ∃ os' A', W m' A' ∧ Ok C os' A' σ' H' ∧ Gr C.O os H os' H', fun σ' H' ⟨m', h1, h2⟩ => ⟨m', h1, h2⟩, ?_⟩
    refine hy rfl os2 σ1 H2 _ k2 ⟨fun os3 A3 σ3 H3 ⟨m', h1, h2⟩ k3 g3 => ⟨m', h1, os3, A3, h2, k3, (g1.trans g2).trans g3⟩, fun os3 A3 σ3 d v H3 h k3 g3 i3 => T.rt os3 A3 σ3 d v H3 h k3 ((g1.trans g2).trans g3) i3, fun os3 A3 σ3 H3 h k3 g3 => T.nx os3 A3 σ3 H3 h k3 ((g1.trans g2).trans g3), fun os3 A3 σ3 H3 ⟨m', h1, h2⟩ k3 g3 => ⟨m', h1, os3, A3, h2, k3, (g1.trans g2).trans g3⟩, T.er⟩
  | false =>
    rw [if_neg (by decide)]
    exact T.nx os2 A2 σ1 H2 (hn rfl) k2 (g1.trans g2)
/-- a target that takes a datum -/
def Tg (C : Ct) (g : TG) (x : Dt) (A A' : AS) : Prop := ∀ os σ H v (Q : Sg → Hp → Prop), Ok C os A σ H → Is C.K (Rh C.O os H) x v → (∀ σ', Ok C os A' σ' H → Q σ' H) → g v σ H Q
def TgA (C : Ct) (g : TGs) (xs : List Dt) (A A' : AS) : Prop := ∀ os σ H vs (Q : Sg → Hp → Prop), Ok C os A σ H → IsA C.K (Rh C.O os H) xs vs → (∀ σ', Ok C os A' σ' H → Q σ' H) → g vs σ H Q
theorem tg_name {i : Nat} {x : Dt} : Tg C (gName i) x A (A.put i x) := fun os σ H v Q k i q => q _ (k.put i)
theorem tgA_nil : TgA C gNil [] A A := fun os σ H vs Q k i q => ⟨by rw [IsA] at i; exact i, q σ k⟩
theorem tgA_cons {g : TG} {gs : TGs} {x : Dt} {xs : List Dt} (h : Tg C g x A A1) (h' : TgA C gs xs A1 A2) : TgA C (gCons g gs) (x :: xs) A A2 := fun os σ H vs Q k i q => by
  rw [IsA] at i
  obtain ⟨v, w, rfl, h1, h2⟩ := i
  exact ⟨v, w, rfl, h os σ H v _ k h1 fun σ1 k1 => h' os σ1 H w Q k1 h2 q⟩
theorem tg_tup {gs : TGs} {n : Nat} {xs : List Dt} (hl : xs.length = n) (h : TgA C gs xs A A1) : Tg C (gTup C.K n gs) (.tup xs) A A1 := fun os σ H v Q k i q => by
  rw [Is] at i
  obtain ⟨a, vs, rfl, h1, h2⟩ := i
  exact ⟨a, vs, rfl, hd_ex.t h1, by rw [isA_len h2, hl], h os σ H vs Q k h2 q⟩
theorem r_tg {g : TG} (he : EvS C te A d A1) (hg : Tg C g d A1 A2) (h : P.nx A2) : RunS C E (tAsg te g) A P := fun os σ H D k T =>
  he os σ H k _ fun os1 v H1 k1 e1 i1 => hg os1 σ H1 v _ k1 i1 fun σ2 k2 => T.nx os1 _ _ H1 h k2 e1
/-- for target in a list (a tuple): turns over data -/
theorem r_forL {g : TG} {xs : List Dt} (he : EvS C tl A (.lst xs) A1) (Pv : Nat → AS → Prop) (h0 : Pv 0 A1)
    (hs : ∀ i x A, xs[i]? = some x → Pv i A → ∃ A', Tg C g x A A' ∧ RunS C E t A' { P with nx := Pv (i + 1), ct := Pv (i + 1), bk := P.nx }) (hd : ∀ A, Pv xs.length A → P.nx A) : RunS C E (tFor (iList C.K tl) g t) A P := fun os σ H D k T =>
  he os σ H k _ fun os1 v H1 k1 e1 i1 => by
    rw [Is] at i1
    obtain ⟨a, vs, rfl, h1, h2⟩ := i1
    refine ⟨a, rfl, ⟨vs, hd_ex.l h1⟩, for_list (K := C.K) (a := a) (xs := vs) (fun i σ' H' => ∃ os' A', Pv i A' ∧ Ok C os' A' σ' H' ∧ Gr C.O os1 H1 os' H') ⟨os1, A1, h0, k1, Gr.refl⟩ (fun i σ' H' _ ⟨os', A', p, k', g'⟩ => hd_ex.l (g'.e.l h1)) ?_ fun σ' H' ⟨os', A', p, k', g'⟩ => T.nx os' A' σ' H' (hd A' (by rw [← isA_len h2]; exact p)) k' (e1.trans g')⟩
    rintro i x σ' H' hx ⟨os', A', p, k', g'⟩
    obtain ⟨d, hd', hi⟩ := isA_get' h2 hx
    obtain ⟨A2, tg, run⟩ := hs i d A' hd' p
    refine tg os' σ' H' x _ k' (Is.mono g'.e _ _ hi) fun σ2 k2 => ?_
    exact run os' σ2 H' _ k2 ⟨fun os3 A3 σ3 H3 h k3 g3 => ⟨os3, A3, h, k3, g'.trans g3⟩, fun os3 A3 σ3 d v H3 h k3 g3 i3 => T.rt os3 A3 σ3 d v H3 h k3 ((e1.trans g').trans g3) i3, fun os3 A3 σ3 H3 h k3 g3 => T.nx os3 A3 σ3 H3 h k3 ((e1.trans g').trans g3), fun os3 A3 σ3 H3 h k3 g3 => ⟨os3, A3, h, k3, g'.trans g3⟩, T.er⟩
theorem r_forT {g : TG} {xs : List Dt} (he : EvS C tl A (.tup xs) A1) (Pv : Nat → AS → Prop) (h0 : Pv 0 A1)
    (hs : ∀ i x A, xs[i]? = some x → Pv i A → ∃ A', Tg C g x A A' ∧ RunS C E t A' { P with nx := Pv (i + 1), ct := Pv (i + 1), bk := P.nx }) (hd : ∀ A, Pv xs.length A → P.nx A) : RunS C E (tFor (iTup C.K tl) g t) A P := fun os σ H D k T =>
  he os σ H k _ fun os1 v H1 k1 e1 i1 => by
    rw [Is] at i1
    obtain ⟨a, vs, rfl, h1, h2⟩ := i1
    refine ⟨a, rfl, ⟨vs, hd_ex.t h1⟩, for_tup (K := C.K) (a := a) (xs := vs) (fun i σ' H' => ∃ os' A', Pv i A' ∧ Ok C os' A' σ' H' ∧ Gr C.O os1 H1 os' H') ⟨os1, A1, h0, k1, Gr.refl⟩ (fun i σ' H' _ ⟨os', A', p, k', g'⟩ => hd_ex.t (g'.e.t h1)) ?_ fun σ' H' ⟨os', A', p, k', g'⟩ => T.nx os' A' σ' H' (hd A' (by rw [← isA_len h2]; exact p)) k' (e1.trans g')⟩
    rintro i x σ' H' hx ⟨os', A', p, k', g'⟩
    obtain ⟨d, hd', hi⟩ := isA_get' h2 hx
    obtain ⟨A2, tg, run⟩ := hs i d A' hd' p
    refine tg os' σ' H' x _ k' (Is.mono g'.e _ _ hi) fun σ2 k2 => ?_
    exact run os' σ2 H' _ k2 ⟨fun os3 A3 σ3 H3 h k3 g3 => ⟨os3, A3, h, k3, g'.trans g3⟩, fun os3 A3 σ3 d v H3 h k3 g3 i3 => T.rt os3 A3 σ3 d v H3 h k3 ((e1.trans g').trans g3) i3, fun os3 A3 σ3 H3 h k3 g3 => T.nx os3 A3 σ3 H3 h k3 ((e1.trans g').trans g3), fun os3 A3 σ3 H3 h k3 g3 => ⟨os3, A3, h, k3, g'.trans g3⟩, T.er⟩
theorem r_forR {g : TG} {lo : Int} {n : Nat} {wi : TI} (hw : ∀ os σ H, Ok C os A σ H → ∀ R : It → Hp → Prop, (∀ os' H', Ok C os' A1 σ H' → Gr C.O os H os' H' → R (Itr lo n) H') → wi σ H R) (Pv : Nat → AS → Prop) (h0 : Pv 0 A1)
    (hs : ∀ (i : Nat) A, i < n → Pv i A → ∃ A', Tg C g (di (lo + i)) A A' ∧ RunS C E t A' { P with nx := Pv (i + 1), ct := Pv (i + 1), bk := P.nx }) (hd : ∀ A, Pv n A → P.nx A) : RunS C E (tFor wi g t) A P := fun os σ H D k T =>
  hw os σ H k _ fun os1 H1 k1 e1 => by
    refine for_range (lo := lo) (n := n) (fun i σ' H' => ∃ os' A', Pv i A' ∧ Ok C os' A' σ' H' ∧ Gr C.O os1 H1 os' H') ⟨os1, A1, h0, k1, Gr.refl⟩ ?_ fun σ' H' ⟨os', A', p, k', g'⟩ => T.nx os' A' σ' H' (hd A' p) k' (e1.trans g')
    rintro i σ' H' hi ⟨os', A', p, k', g'⟩
    obtain ⟨A2, tg, run⟩ := hs i A' hi p
    refine tg os' σ' H' _ _ k' is_v fun σ2 k2 => ?_
    exact run os' σ2 H' _ k2 ⟨fun os3 A3 σ3 H3 h k3 g3 => ⟨os3, A3, h, k3, g'.trans g3⟩, fun os3 A3 σ3 d v H3 h k3 g3 i3 => T.rt os3 A3 σ3 d v H3 h k3 ((e1.trans g').trans g3) i3, fun os3 A3 σ3 H3 h k3 g3 => T.nx os3 A3 σ3 H3 h k3 ((e1.trans g').trans g3), fun os3 A3 σ3 H3 h k3 g3 => ⟨os3, A3, h, k3, g'.trans g3⟩, T.er⟩
theorem w_rng1 {tl : TA} {n : Int} (h : EvA C tl A [di n] A1) (hn : -(2 ^ 62) ≤ n ∧ n < 2 ^ 62) : ∀ os σ H, Ok C os A σ H → ∀ R : It → Hp → Prop, (∀ os' H', Ok C os' A1 σ H' → Gr C.O os H os' H' → R (Itr 0 n.toNat) H') → iRng1 tl σ H R := fun os σ H k R q =>
  h os σ H k _ fun os1 vs H1 k1 e1 i1 => by
    simp only [IsA, Is] at i1
    obtain ⟨v, w, rfl, rfl, rfl⟩ := i1
    exact ⟨n, rfl, hn.1, hn.2, q os1 H1 k1 e1⟩
theorem w_rng2 {tl : TA} {m n : Int} (h : EvA C tl A [di m, di n] A1) (hm : -(2 ^ 62) ≤ m ∧ m < 2 ^ 62) (hn : -(2 ^ 62) ≤ n ∧ n < 2 ^ 62) : ∀ os σ H, Ok C os A σ H → ∀ R : It → Hp → Prop, (∀ os' H', Ok C os' A1 σ H' → Gr C.O os H os' H' → R (Itr m (n - m).toNat) H') → iRng2 tl σ H R := fun os σ H k R q =>
  h os σ H k _ fun os1 vs H1 k1 e1 i1 => by
    simp only [IsA, Is] at i1
    obtain ⟨v, w, rfl, rfl, v', w', rfl, rfl, rfl⟩ := i1
    exact ⟨m, n, rfl, ⟨hm.1, hm.2, hn.1, hn.2⟩, q os1 H1 k1 e1⟩
/-! ### raising, calls, promises -/
inductive Rs where
  | ok (d : Dt)
  | err (c : Addr)
def spD (K : Frg) (T : List (Addr × Str)) (g : List Dt → Rs → Prop) : Sp := fun vs H Q E => ∃ O ds r, (∀ a ∈ O, ∃ o, H a = some o ∧ NoT o) ∧ LamX.Tabs T H ∧ IsA K (hd O H) ds vs ∧ g ds r ∧
  match r with
  | .ok d => ∀ v H', Ex H H' → LamX.Tabs T H' → Is K (hd O H') d v → Q v H'
  | .err c => ∀ H', Ex H H' → LamX.Tabs T H' → E (.ref c) none H'
theorem e_call {g : List Dt → Rs → Prop} {E' : XK} {tl : TA} {ds : List Dt} (ha : EvA C tl A ds A1) (hg : g ds (.ok d)) : EvS C (tCall (spD C.K C.T g) [] E' tl) A d A1 := fun os σ H k Q q =>
  ha os σ H k _ fun os1 vs H1 k1 e1 i1 => ⟨hid C.O os1, ds, .ok d, fun a h => k1.hidden h, k1.tb, by rw [List.append_nil]; exact i1, hg, fun v H' e t i => q os1 v H' (k1.mono e t) (e1.trans (k1.gr e)) i⟩
theorem x_call {g : List Dt → Rs → Prop} {tl : TA} {ds : List Dt} {c : Addr} (ha : EvA C tl A ds A1) (hg : g ds (.err c)) : EvX C E (tCall (spD C.K C.T g) [] E tl) A c A1 := fun os σ H k hE Q =>
  ha os σ H k _ fun os1 vs H1 k1 e1 i1 => ⟨hid C.O os1, ds, .err c, fun a h => k1.hidden h, k1.tb, by rw [List.append_nil]; exact i1, hg, fun H' e t => hE os1 H' (k1.mono e t) (e1.trans (k1.gr e))⟩
theorem x_asg {g : TG} {c : Addr} (h : EvX C E te A c A1) (hp : P.er c) : RunS C E (tAsg te g) A P := fun os σ H D k T => h os σ H k (fun os' H' k' _ => T.er c H' hp k'.ex k'.tb) _
theorem x_ret {c : Addr} (h : EvX C E te A c A1) (hp : P.er c) : RunS C E (tRet te) A P := fun os σ H D k T => h os σ H k (fun os' H' k' _ => T.er c H' hp k'.ex k'.tb) _
theorem x_drop {c : Addr} (h : EvX C E te A c A1) (hp : P.er c) : RunS C E (tDrop te) A P := fun os σ H D k T => h os σ H k (fun os' H' k' _ => T.er c H' hp k'.ex k'.tb) _
theorem x_op1 {r : R2} {c : Addr} (h : EvX C E ta A c A1) : EvX C E (tOp r ta tb) A c A1 := fun os σ H k hE Q => h os σ H k hE _
theorem x_op2 {r : R2} {c : Addr} (ha : EvS C ta A d A1) (h : EvX C E tb A1 c A2) : EvX C E (tOp r ta tb) A c A2 := fun os σ H k hE Q => ha os σ H k _ fun os1 v1 H1 k1 e1 i1 => h os1 σ H1 k1 (fun os' H' k' g => hE os' H' k' (e1.trans g)) _
theorem xa_1 {tr : TA} {c : Addr} (h : EvX C E ta A c A1) : EvXA C E (tCons ta tr) A c A1 := fun os σ H k hE Q => h os σ H k hE _
theorem xa_2 {tr : TA} {c : Addr} (ha : EvS C ta A d A1) (h : EvXA C E tr A1 c A2) : EvXA C E (tCons ta tr) A c A2 := fun os σ H k hE Q => ha os σ H k _ fun os1 v1 H1 k1 e1 i1 => h os1 σ H1 k1 (fun os' H' k' g => hE os' H' k' (e1.trans g)) _
theorem x_args {sp : Sp} {dvs : List V} {tl : TA} {c : Addr} (h : EvXA C E tl A c A1) : EvX C E (tCall sp dvs E tl) A c A1 := fun os σ H k hE Q => h os σ H k hE _
theorem x_tup {tl : TA} {c : Addr} (h : EvXA C E tl A c A1) : EvX C E (tTup tl) A c A1 := fun os σ H k hE Q => h os σ H k hE _
theorem x_ifT {c : Addr} (h : EvT C tt A true A1) (h1 : EvX C E ta A1 c A2) : EvX C E (tIf tt ta tb) A c A2 := fun os σ H k hE Q =>
  h os σ H k _ fun os1 H1 k1 e1 => by
    rw [if_pos rfl]
    exact h1 os1 σ H1 k1 (fun os' H' k' g => hE os' H' k' (e1.trans g)) _
theorem x_ifF {c : Addr} (h : EvT C tt A false A1) (h1 : EvX C E tb A1 c A2) : EvX C E (tIf tt ta tb) A c A2 := fun os σ H k hE Q =>
  h os σ H k _ fun os1 H1 k1 e1 => by
    rw [if_neg (by decide)]
    exact h1 os1 σ H1 k1 (fun os' H' k' g => hE os' H' k' (e1.trans g)) _
/-- raise X('..') -/
def tRz (E : XK) (c : Addr) : TS := fun _ _ H => E (.ref c) none H
theorem r_raise {c : Addr} (h : P.er c) : RunS C E (tRz E c) A P := fun os σ H D k T => T.er c H h k.ex k.tb
/-- the end of a def -/
def poR (r : Rs) : Po := { nx := fun _ => r = .ok dn, rt := fun d _ => r = .ok d, er := fun c => r = .err c }
def start (N : List Str) (ds : List Dt) : AS := ⟨ds.map .d ++ List.replicate (N.length - ds.length) .un, []⟩
theorem start_ok {N : List Str} {ds : List Dt} {vs : List V} {K : Frg} {T : List (Addr × Str)} {H : Hp} {O : List Addr} (hO : ∀ a ∈ O, ∃ o, H a = some o ∧ NoT o) (ht : LamX.Tabs T H) (h : IsA K (hd O H) ds vs) : Ok ⟨K, T, H, O⟩ [] (start N ds) (L2.start N vs) H := by
  have e : Rh O [] H = hd O H := by
    show hd (O ++ []) H = _
    rw [List.append_nil]
  have hl := isA_len h
  refine ⟨Ex.refl _, ht, hO, fun a _ z => (by cases z), rfl, fun i j a z => (by simp at z), fun a z => (by cases z), (by simp [start, L2.start, hl]), fun i s o h1 h2 => ?_, fun i s o h1 h2 => by simp at h2⟩
  show SlOk K [] (Rh O [] H) s o
  rw [e]
  have h1 : (ds.map SD.d ++ List.replicate (N.length - ds.length) SD.un)[i]? = some s := h1
  have h2 : (vs.map some ++ List.replicate (N.length - vs.length) none)[i]? = some o := h2
  rw [List.getElem?_append] at h1 h2
  simp only [List.length_map] at h1 h2
  split at h1
  · rename_i q
    rw [if_pos (by rw [hl]; exact q)] at h2
    rw [List.getElem?_map] at h1 h2
    cases e1 : ds[i]? with
    | none => rw [e1] at h1; cases h1
    | some d =>
      obtain ⟨v, hv, hi⟩ := isA_get h e1
      rw [e1] at h1
      rw [hv] at h2
      cases h1; cases h2
      exact ⟨v, rfl, hi⟩
  · rw [List.getElem?_replicate] at h1
    split at h1
    · cases h1; exact True.intro
    · cases h1
theorem fin {t : TS} {N : List Str} {K : Frg} {T : List (Addr × Str)} {E : XK} {g : List Dt → Rs → Prop} {vs : List V} {H : Hp} {Q : VK} (h : spD K T g vs H Q E) (run : ∀ O ds r, g ds r → RunS ⟨K, T, H, O⟩ E t (start N ds) (poR r)) : t { nx := fun _ H' => Q .non H', rt := Q } (L2.start N vs) H := by
  obtain ⟨O, ds, r, hO, ht, hi, hg, hr⟩ := h
  refine run O ds r hg [] _ H _ (start_ok hO ht hi) ⟨fun os A σ H' z k _ => ?_, fun os A σ d v H' z k _ i => ?_, fun os A σ H' z => z.elim, fun os A σ H' z => z.elim, fun c H' z e t => ?_⟩
  · have z : r = .ok dn := z
    subst z
    exact hr _ H' k.ex k.tb is_v
  · have z : r = .ok d := z
    subst z
    exact hr v H' k.ex k.tb i
  · have z : r = .err c := z
    subst z
    exact hr H' e t
theorem spD_len {K : Frg} {T : List (Addr × Str)} {g : List Dt → Rs → Prop} {n : Nat} (hg : ∀ ds r, g ds r → ds.length = n) : ∀ vs H Q E, spD K T g vs H Q E → vs.length = n := fun vs H Q E h => by
  obtain ⟨O, ds, r, hO, ht, hi, hg', hr⟩ := h
  rw [isA_len hi]
  exact hg ds r hg'
end
/-- raise X('..'), in a def that may raise -/
theorem ps_rz {X : Cx} {E : XK} {C : Addr} {bmB : List Value} {B newId initId : String} {x m : Str} {j : Nat} {p p2 pos pos2 : Pos} (hc : X.calm = true) (tk : Takes X (fun cls d _ H => E cls d H)) (F : ExcBaseFacts B newId initId bmB) (q : PySem.W.excIn X.K C bmB newId = true) (gC : X.mg x = some (.ref C)) (kC : PySem.W.keepIn X.K (.ref C) = true) (r : Raises X (.ref C)) (hg : Gl X x)
    (hdb : (x == ("__debug__" : Str)) = false := by decide) : PS X (.Raise (some (.Call (.Name x p) [.Constant (.str m) j p2] [] pos)) none pos2) (tRz E C) := ps_raise hc tk (pmk_own F q gC kC r hg hdb)
end Py
end

section
set_option Elab.async false
set_option linter.all false
set_option maxRecDepth 100000
set_option maxHeartbeats 4000000
set_option autoImplicit false
namespace Py
open PySem PySem.Spec PyProof.Rows L2
/-! ### operators of several kinds -/
def PMul (i j : Int) : Prop := i.natAbs.log2 + j.natAbs.log2 < 100000000
def PDiv (_ j : Int) : Prop := j ≠ 0 ∧ j.natAbs.log2 < 9000
theorem PMul.ok {i j : Int} (h : PMul i j) : IntMulOk i j := by
  have b : ∀ x : Int, Builtin.Int.intBits x ≤ x.natAbs.log2 + 1 := fun x => by
    unfold Builtin.Int.intBits
    split <;> omega
  have h1 := b i
  have h2 := b j
  have h3 : i.natAbs.log2 + j.natAbs.log2 < 100000000 := h
  have e : bitsLine = 134217728 := by decide
  unfold IntMulOk
  intro z
  rw [Bool.and_eq_true] at z
  have z2 := z.2
  unfold Builtin.Int.intTooBig at z2
  have z3 := of_decide_eq_true z2
  rw [e] at z3
  omega
def rAddA (K : Frg) : R2 := fun x y H Q => (∃ i j, x = .int i ∧ y = .int j ∧ Q (.int (i + j)) H) ∨ (∃ i j, x = .str i ∧ y = .str j ∧ i.length + j.length ≤ sizeLine ∧ Q (.str (i ++ j)) H) ∨ rCatT K x y H Q ∨ rCat x y H Q
def rMulA (K : Frg) : R2 := fun x y H Q => rI PMul (fun i j => .int (i * j)) x y H Q ∨ rRep x y H Q
def rEqA (K : Frg) : R2 := fun x y H Q => rEq x y H Q ∨ rEqD K x y H Q
def rNeA (K : Frg) : R2 := fun x y H Q => rNe x y H Q ∨ rNeD K x y H Q
section
variable {X : Cx}
theorem op_addA : OpR X (binaryOp .Add) (rAddA X.K) := OpR.or op_add (OpR.or op_add_str (OpR.or op_catT op_cat))
theorem op_mulX : OpR X (binaryOp .Mult) (rI PMul fun i j => .int (i * j)) := opI fun _ _ _ _ _ _ _ hc q => mul_int q hc.ok
theorem op_mulA : OpR X (binaryOp .Mult) (rMulA X.K) := OpR.or op_mulX op_rep
theorem op_fdivX : OpR X (binaryOp .FloorDiv) (rI PDiv fun i j => .int (i.fdiv j)) := opI fun i j _ _ _ _ _ hc q => floordiv_int hc.1 q (.inl (PyProof.noPylong_of_log2 hc.2))
theorem op_eqA (hu : X.A.units + 64 < cLine) : OpR X (compareOp .Eq) (rEqA X.K) := OpR.or op_eq (op_eqD hu)
theorem op_neA (hu : X.A.units + 64 < cLine) : OpR X (compareOp .NotEq) (rNeA X.K) := OpR.or op_ne (op_neD hu)
end
/-! ### data that == compares -/
mutual
def Dt.py : Dt → Option PyData
  | .v .non => some .none
  | .v (.bl b) => some (.bool b)
  | .v (.int i) => some (.int i)
  | .v (.str s) => some (.str s)
  | .v _ => none
  | .tup xs => (Dt.pys xs).map .tuple
  | .lst xs => (Dt.pys xs).map .list
  | .obj _ _ _ => none
  | .dct _ _ => none
  | .tupZ _ => none
  | .lam _ _ => none
  | .lstN _ => none
  | .tupE xs => (Dt.pys xs).map .tuple
  | .dctT _ _ => none
def Dt.pys : List Dt → Option (List PyData)
  | [] => some []
  | d :: r => match Dt.py d, Dt.pys r with
    | some p, some q => some (p :: q)
    | _, _ => none
end
section
variable {K : Frg} {H : Hp}
mutual
theorem Is.dp : ∀ (d : Dt) (v : V) (p : PyData), Is K H d v → Dt.py d = some p → Dp K H v p
  | .v x, v, p, h, e => by
    rw [Is] at h
    subst h
    cases v <;> simp only [Dt.py] at e <;> first | (cases e; constructor) | cases e
  | .tup xs, v, p, h, e => by
    rw [Is] at h
    obtain ⟨a, vs, rfl, h1, h2⟩ := h
    rw [Dt.py] at e
    cases q : Dt.pys xs with
    | none => rw [q] at e; cases e
    | some ps =>
      rw [q] at e
      cases e
      exact .tup h1 (IsA.dp xs vs ps h2 q)
  | .lst xs, v, p, h, e => by
    rw [Is] at h
    obtain ⟨a, vs, rfl, h1, h2⟩ := h
    rw [Dt.py] at e
    cases q : Dt.pys xs with
    | none => rw [q] at e; cases e
    | some ps =>
      rw [q] at e
      cases e
      exact .lst h1 (IsA.dp xs vs ps h2 q)
  | .obj _ _ _, v, p, h, e => by
    rw [Dt.py] at e
    cases e
  | .dct _ _, v, p, h, e => by
    rw [Dt.py] at e
    cases e
  | .tupZ _, v, p, h, e => by
    rw [Dt.py] at e
    cases e
  | .lam _ _, v, p, h, e => by
    rw [Dt.py] at e
    cases e
  | .lstN _, v, p, h, e => by
    rw [Dt.py] at e
    cases e
  | .tupE xs, v, p, h, e => by
    rw [Is] at h
    obtain ⟨a, vs, rfl, h1, h2⟩ := h
    rw [Dt.py] at e
    cases q : Dt.pys xs with
    | none => rw [q] at e; cases e
    | some ps =>
      rw [q] at e
      cases e
      exact .tup (SqT.of h1) (IsA.dp xs vs ps h2 q)
  | .dctT _ _, v, p, h, e => by
    rw [Dt.py] at e
    cases e
theorem IsA.dp : ∀ (ds : List Dt) (vs : List V) (ps : List PyData), IsA K H ds vs → Dt.pys ds = some ps → DpAll K H vs ps
  | [], vs, ps, h, e => by
    rw [IsA] at h
    rw [Dt.pys] at e
    cases e
    subst h
    exact .nil
  | d :: r, vs, ps, h, e => by
    rw [IsA] at h
    obtain ⟨v, w, rfl, h1, h2⟩ := h
    rw [Dt.pys] at e
    cases q1 : Dt.py d with
    | none => rw [q1] at e; cases e
    | some p =>
      cases q2 : Dt.pys r with
      | none => rw [q1, q2] at e; cases e
      | some q =>
        rw [q1, q2] at e
        cases e
        exact .cons (Is.dp d v p h1 q1) (IsA.dp r w q h2 q2)
end
theorem Dp.mono {H H' : Hp} (e : Ex H H') {v : V} {d : PyData} : Dp K H v d → Dp K H' v d := by
  intro h
  exact Dp.rec (motive_1 := fun v d _ => Dp K H' v d) (motive_2 := fun vs ds _ => DpAll K H' vs ds) .non .bl .int .str (fun h _ ih => .lst (e.l h) ih) (fun h _ ih => .tup (e.t h) ih) .nil (fun _ _ a b => .cons a b) h
end
/-! ### operators by data -/
def OpS (C : Ct) (r : R2) (x y z : Dt) : Prop := ∀ os A σ H vx vy, Ok C os A σ H → Is C.K (Rh C.O os H) x vx → Is C.K (Rh C.O os H) y vy → ∀ Q : VK, (∀ v H', Ex H H' → LamX.Tabs C.T H' → Is C.K (Rh C.O os H') z v → Q v H') → r vx vy H Q
section
variable {C : Ct} {E : XK} {ta tb tc te tl : TE} {tt : TT} {t u : TS} {A A1 A2 A3 : AS} {d d1 d2 x y z : Dt} {P : Po} {r r' : R2}
theorem e_bin (ha : EvS C ta A x A1) (hb : EvS C tb A1 y A2) (hr : OpS C r x y z) : EvS C (tOp r ta tb) A z A2 := fun os σ H k Q q =>
  ha os σ H k _ fun os1 v1 H1 k1 e1 i1 => hb os1 σ H1 k1 _ fun os2 v2 H2 k2 e2 i2 => hr os2 _ σ H2 v1 v2 k2 (Is.mono e2.e _ _ i1) i2 Q fun v H' e t i => q os2 v H' (k2.mono e t) ((e1.trans e2).trans (k2.gr e)) i
theorem o_orL (h : OpS C r x y z) : OpS C (fun x y H Q => r x y H Q ∨ r' x y H Q) x y z := fun os A σ H vx vy k i1 i2 Q q => .inl (h os A σ H vx vy k i1 i2 Q q)
theorem o_orR (h : OpS C r' x y z) : OpS C (fun x y H Q => r x y H Q ∨ r' x y H Q) x y z := fun os A σ H vx vy k i1 i2 Q q => .inr (h os A σ H vx vy k i1 i2 Q q)
theorem o_v {a b c : V} (h : ∀ H (Q : VK), Q c H → r a b H Q) : OpS C r (.v a) (.v b) (.v c) := fun os A σ H vx vy k i1 i2 Q q => by
  rw [Is.v_iff.mp i1, Is.v_iff.mp i2]
  exact h H Q (q c H (Ex.refl _) k.tb is_v)
theorem o_I0 {g : Int → Int → V} {i j : Int} : OpS C (rI0 g) (di i) (di j) (.v (g i j)) := o_v fun H Q q => ⟨i, j, rfl, rfl, q⟩
theorem o_I {cc : Int → Int → Prop} {g : Int → Int → V} {i j : Int} (hc : cc i j) : OpS C (rI cc g) (di i) (di j) (.v (g i j)) := o_v fun H Q q => ⟨i, j, rfl, rfl, hc, q⟩
theorem o_add {i j : Int} : OpS C (rAddA C.K) (di i) (di j) (di (i + j)) := o_v fun H Q q => .inl ⟨i, j, rfl, rfl, q⟩
theorem o_addS {i j : Str} (h : i.length + j.length ≤ 100000) : OpS C (rAddA C.K) (ds i) (ds j) (ds (i ++ j)) := o_v fun H Q q => .inr (.inl ⟨i, j, rfl, rfl, Nat.le_trans h (by decide), q⟩)
theorem o_mul {i j : Int} (h : PMul i j) : OpS C (rMulA C.K) (di i) (di j) (di (i * j)) := o_v fun H Q q => .inl ⟨i, j, rfl, rfl, h, q⟩
theorem o_mulX {i j : Int} (h : PMul i j) : OpS C (rI PMul fun i j => .int (i * j)) (di i) (di j) (di (i * j)) := o_I h
theorem o_eq {a b : V} (h : scal a b = true) : OpS C (rEqA C.K) (.v a) (.v b) (db (decide (a = b))) := o_v fun H Q q => .inl ⟨h, q⟩
theorem o_ne {a b : V} (h : scal a b = true) : OpS C (rNeA C.K) (.v a) (.v b) (db (!decide (a = b))) := o_v fun H Q q => .inl ⟨h, q⟩
theorem o_eqI {i j : Int} : OpS C (rEqA C.K) (di i) (di j) (db (decide (i = j))) := by
  have e : decide (V.int i = V.int j) = decide (i = j) := by simp
  rw [← e]
  exact o_eq rfl
theorem o_neI {i j : Int} : OpS C (rNeA C.K) (di i) (di j) (db (!decide (i = j))) := by
  have e : decide (V.int i = V.int j) = decide (i = j) := by simp
  rw [← e]
  exact o_ne rfl
theorem o_eqD {p q : PyData} (hx : x.py = some p) (hy : y.py = some q) (sp : SeqAt.shaped p = true) (sq : SeqAt.shaped q = true) : OpS C (rEqA C.K) x y (db (PyData.eqv p q)) := fun os A σ H vx vy k i1 i2 Q kq =>
  .inr ⟨p, q, Dp.mono hd_ex (Is.dp x vx p i1 hx), Dp.mono hd_ex (Is.dp y vy q i2 hy), sp, sq, kq _ H (Ex.refl _) k.tb is_v⟩
theorem o_neD {p q : PyData} (hx : x.py = some p) (hy : y.py = some q) (sp : SeqAt.shaped p = true) (sq : SeqAt.shaped q = true) : OpS C (rNeA C.K) x y (db (!PyData.eqv p q)) := fun os A σ H vx vy k i1 i2 Q kq =>
  .inr ⟨p, q, Dp.mono hd_ex (Is.dp x vx p i1 hx), Dp.mono hd_ex (Is.dp y vy q i2 hy), sp, sq, kq _ H (Ex.refl _) k.tb is_v⟩
theorem o_ixT {xs : List Dt} {i : Int} (h : atI xs i = some d) : OpS C (rIx C.K) (.tup xs) (di i) d := fun os A σ H vx vy k i1 i2 Q q => by
  rw [Is] at i1
  obtain ⟨a, vs, rfl, h2, h3⟩ := i1
  obtain ⟨v, h4, h5⟩ := isA_at h3 h
  rw [Is.v_iff.mp i2]
  exact .inr (.inl ⟨a, vs, i, v, rfl, rfl, hd_ex.t h2, h4, q v H (Ex.refl _) k.tb h5⟩)
theorem o_ixL {xs : List Dt} {i : Int} (h : atI xs i = some d) : OpS C (rIx C.K) (.lst xs) (di i) d := fun os A σ H vx vy k i1 i2 Q q => by
  rw [Is] at i1
  obtain ⟨a, vs, rfl, h2, h3⟩ := i1
  obtain ⟨v, h4, h5⟩ := isA_at h3 h
  rw [Is.v_iff.mp i2]
  exact .inl ⟨a, vs, i, v, rfl, rfl, hd_ex.l h2, h4, q v H (Ex.refl _) k.tb h5⟩
/-- an item of a list of one's own -/
theorem e_ixO {i : Nat} {n : Nat} {xs : List Dt} {j : Int} (h1 : A.sl[i]? = some (.own n)) (h2 : A.st[n]? = some (.lst xs)) (hb : EvS C tb A (di j) A) (h : atI xs j = some d) : EvS C (tOp (rIx C.K) (tVar i) tb) A d A := fun os σ H k Q q => by
  obtain ⟨o, e1, a, e2, e3⟩ := k.slot h1
  subst e2
  refine ⟨_, e1, hb os σ H k _ fun os2 v2 H2 k2 e4 i2 => ?_⟩
  obtain ⟨f1, f2, a2, g1, g2⟩ := k2.slot h1
  rw [e1] at f2; cases f2
  cases g1
  obtain ⟨o3, s1, a3, vs, s2, s3, s4⟩ := k2.store h2
  rw [g2] at s1; cases s1; cases s2
  obtain ⟨v, h4, h5⟩ := isA_at s4 h
  rw [Is.v_iff.mp i2]
  exact .inl ⟨_, vs, j, v, rfl, rfl, SqL.of s3, h4, q os2 v H2 k2 e4 h5⟩
/-- tuple(xs), xs a list of one's own -/
theorem e_tupO {i n : Nat} {xs : List Dt} (h1 : A.sl[i]? = some (.own n)) (h2 : A.st[n]? = some (.lst xs)) :
    EvS C (tCB (fun ys H Q => ∃ p zs, ys = [V.ref p] ∧ ((SqL C.K H p zs ∧ ∀ (l : Addr), H l = none → Q (V.ref l) (upd H l (HO.tup zs))) ∨ SqT C.K H p zs ∧ Q (V.ref p) H)) (tCons (tVar i) tNil)) A (.tup xs) A := fun os σ H k Q q => by
  obtain ⟨o, e1, a, e2, e3⟩ := k.slot h1
  subst e2
  obtain ⟨o3, s1, a3, vs, s2, s3, s4⟩ := k.store h2
  rw [e3] at s1; cases s1; cases s2
  refine ⟨_, e1, a, vs, rfl, .inl ⟨SqL.of s3, fun l hl => q os _ _ (k.monoN hl) (k.gr (Ex.new hl)) ?_⟩⟩
  rw [Is]
  exact ⟨l, vs, rfl, SqT.of (k.fresh hl), IsA.mono (hd_mono (Ex.new hl)) _ _ s4⟩
/-- tuple(xs), xs data -/
theorem e_tupL {tl : TE} {xs : List Dt} (h : EvS C tl A (.lst xs) A1) :
    EvS C (tCB (fun ys H Q => ∃ p zs, ys = [V.ref p] ∧ ((SqL C.K H p zs ∧ ∀ (l : Addr), H l = none → Q (V.ref l) (upd H l (HO.tup zs))) ∨ SqT C.K H p zs ∧ Q (V.ref p) H)) (tCons tl tNil)) A (.tup xs) A1 := fun os σ H k Q q =>
  h os σ H k _ fun os1 v H1 k1 e1 i1 => by
    rw [Is] at i1
    obtain ⟨a, vs, rfl, h2, h3⟩ := i1
    refine ⟨a, vs, rfl, .inl ⟨hd_ex.l h2, fun l hl => q os1 _ _ (k1.monoN hl) (e1.trans (k1.gr (Ex.new hl))) ?_⟩⟩
    rw [Is]
    exact ⟨l, vs, rfl, SqT.of (k1.fresh hl), IsA.mono (hd_mono (Ex.new hl)) _ _ h3⟩
theorem e_tupT {tl : TE} {xs : List Dt} (h : EvS C tl A (.tup xs) A1) :
    EvS C (tCB (fun ys H Q => ∃ p zs, ys = [V.ref p] ∧ ((SqL C.K H p zs ∧ ∀ (l : Addr), H l = none → Q (V.ref l) (upd H l (HO.tup zs))) ∨ SqT C.K H p zs ∧ Q (V.ref p) H)) (tCons tl tNil)) A (.tup xs) A1 := fun os σ H k Q q =>
  h os σ H k _ fun os1 v H1 k1 e1 i1 => by
    have i1' := i1
    rw [Is] at i1
    obtain ⟨a, vs, rfl, h2, h3⟩ := i1
    exact ⟨a, vs, rfl, .inr ⟨hd_ex.t h2, q os1 _ _ k1 e1 i1'⟩⟩
/-- list(xs) of a list, a tuple -/
theorem e_listL {tl : TE} {xs : List Dt} (h : EvS C tl A (.lst xs) A1) :
    EvS C (tCB (fun ys H Q => ∃ p zs, ys = [V.ref p] ∧ (SqL C.K H p zs ∨ SqT C.K H p zs) ∧ ∀ (l : Addr), H l = none → Q (V.ref l) (upd H l (HO.lst zs))) (tCons tl tNil)) A (.lst xs) A1 := fun os σ H k Q q =>
  h os σ H k _ fun os1 v H1 k1 e1 i1 => by
    rw [Is] at i1
    obtain ⟨a, vs, rfl, h2, h3⟩ := i1
    refine ⟨a, vs, rfl, .inl (hd_ex.l h2), fun l hl => q os1 _ _ (k1.monoN hl) (e1.trans (k1.gr (Ex.new hl))) ?_⟩
    rw [Is]
    exact ⟨l, vs, rfl, SqL.of (k1.fresh hl), IsA.mono (hd_mono (Ex.new hl)) _ _ h3⟩
theorem e_listT {tl : TE} {xs : List Dt} (h : EvS C tl A (.tup xs) A1) :
    EvS C (tCB (fun ys H Q => ∃ p zs, ys = [V.ref p] ∧ (SqL C.K H p zs ∨ SqT C.K H p zs) ∧ ∀ (l : Addr), H l = none → Q (V.ref l) (upd H l (HO.lst zs))) (tCons tl tNil)) A (.lst xs) A1 := fun os σ H k Q q =>
  h os σ H k _ fun os1 v H1 k1 e1 i1 => by
    rw [Is] at i1
    obtain ⟨a, vs, rfl, h2, h3⟩ := i1
    refine ⟨a, vs, rfl, .inr (hd_ex.t h2), fun l hl => q os1 _ _ (k1.monoN hl) (e1.trans (k1.gr (Ex.new hl))) ?_⟩
    rw [Is]
    exact ⟨l, vs, rfl, SqL.of (k1.fresh hl), IsA.mono (hd_mono (Ex.new hl)) _ _ h3⟩
/-- len -/
theorem e_lenT {tl : TE} {xs : List Dt} (h : EvS C tl A (.tup xs) A1) : EvS C (tCB (fun ys H Q => ∃ x n, ys = [x] ∧ LenV C.K x H n ∧ Q (V.int n) H) (tCons tl tNil)) A (di xs.length) A1 := fun os σ H k Q q =>
  h os σ H k _ fun os1 v H1 k1 e1 i1 => by
    rw [Is] at i1
    obtain ⟨a, vs, rfl, h2, h3⟩ := i1
    exact ⟨_, vs.length, rfl, .inr ⟨vs, hd_ex.t h2, rfl⟩, by rw [isA_len h3]; exact q os1 _ H1 k1 e1 is_v⟩
theorem e_lenL {tl : TE} {xs : List Dt} (h : EvS C tl A (.lst xs) A1) : EvS C (tCB (fun ys H Q => ∃ x n, ys = [x] ∧ LenV C.K x H n ∧ Q (V.int n) H) (tCons tl tNil)) A (di xs.length) A1 := fun os σ H k Q q =>
  h os σ H k _ fun os1 v H1 k1 e1 i1 => by
    rw [Is] at i1
    obtain ⟨a, vs, rfl, h2, h3⟩ := i1
    exact ⟨_, vs.length, rfl, .inl ⟨vs, hd_ex.l h2, rfl⟩, by rw [isA_len h3]; exact q os1 _ H1 k1 e1 is_v⟩
end
/-! ### a def of the module and its promise -/
structure Gd (P : Program) (w : World) (K : Frg) (mg : Str → Option Value) (base : Heap) (f : Str) (ps : List Str) (k : Nat) (sp : Sp) : Prop where
  ex : ∃ (a : Addr) (fd : FuncData), FnOk P w K mg base (L2.CX P w) k a fd ps sp ∧ Binds K fd ps [] ∧ PySem.W.keepIn K (.ref a) = true ∧ mg f = some (.ref a)
section
variable {X : Cx} {k : Nat} {ps : List Str} {sp : Sp} {E : XK} {x : Str} {p pos : Pos} {e : Expr} {es : List Expr} {t : TA}
theorem pe_callG (G : Gd X.prog X.w X.K X.mg X.base x ps k sp) (hr : Room k X.A) (hx : Passes (L2.CX X.prog X.w) X E) (ha : PA X (e :: es) t) (hg : Gl X x := by rfl)
    (hdb : (x == ("__debug__" : Str)) = false := by decide) (he : starEach (e :: es) X.env = (false, eval e X.env) :: starEach es X.env := by rfl) (hpl : (backTo pos (starEach es X.env)).any (·.1) = false := by rfl) :
    PE X (.Call (.Name x p) (e :: es) [] pos) (tCall sp [] E t) := by
  obtain ⟨a, fd, F, hb, hk, hm⟩ := G.ex
  exact pe_call F hr hg hm hk hb .nil hx ha hdb he hpl
theorem pe_call0G (G : Gd X.prog X.w X.K X.mg X.base x ps k sp) (hr : Room k X.A) (hx : Passes (L2.CX X.prog X.w) X E) (hg : Gl X x := by rfl) (hdb : (x == ("__debug__" : Str)) = false := by decide) : PE X (.Call (.Name x p) [] [] pos) (tCall sp [] E tNil) := by
  obtain ⟨a, fd, F, hb, hk, hm⟩ := G.ex
  exact pe_call0 F hr hg hm hk hb .nil hx hdb
end
/-- a def, by its body told over data -/
theorem mkG {P : Program} {w : World} {K : Frg} {T : List (Addr × Str)} {mg : Str → Option Value} {base : Heap} {f : Str} {st : Stmt} {N ps : List Str} {k : Nat} {g : List Dt → Rs → Prop} {a : Addr}
    (F : ∃ fd, FunD K f f (defArgs st) (defBody st) (defScope st) [] [] a fd) (hm : mg f = some (.ref a)) (S : FnScope N ps (defScope st))
    (hb : ∀ (kV doc pm : Value) (an : Option Addr) (cdv ct : Value) (us : List Value), us.length = ps.length → bindArgs (PySem.W.fnOf f f (defArgs st) (defBody st) (defScope st) .none kV doc pm an cdv ct) ⟨us, []⟩ = pure (ps.zip us))
    (len : ∀ ds r, g ds r → ds.length = ps.length)
    (hbody : ∀ (cdv : Value) (A : Around) (outer : List Env) (s : Shared) (H : Hp) (E : XK), Room k (A.deeper (envOfC f (defScope st) s.heap.objs.size a cdv)) →
      ∃ t, PSs (cxOf (L2.CX P w) P w K mg base N f (defScope st) a cdv A outer s H E) (defBody st) t ∧ ∀ O ds r, g ds r → RunS ⟨K, T, H, O⟩ E t (start N ds) (poR r)) : Gd P w K mg base f ps (k + 1) (spD K T g) := by
  obtain ⟨fd, F⟩ := F
  refine ⟨a, fd, F.ok S (fun vs H Q E h => spD_len len vs H Q E h) (fun cdv A outer s H vs Q E hr h => ?_), F.bindsN hb, F.kp, hm⟩
  obtain ⟨t, ht, run⟩ := hbody cdv A outer s H E hr
  exact ⟨t, ht, fin h run⟩
/-- what a body lets out is what the def lets out -/
theorem takesE {P : Program} {w : World} {K : Frg} {mg : Str → Option Value} {base : Heap} {N : List Str} {q : Str} {sc : Scope} {a : Addr} {cdv : Value} {A : Around} {outer : List Env} {s : Shared} {H : Hp} {E : XK} :
    Takes (cxOf (L2.CX P w) P w K mg base N q sc a cdv A outer s H E) (fun cls d _ H => E cls d H) := takes_of rfl rfl rfl rfl
theorem psE {P : Program} {w : World} {K : Frg} {mg : Str → Option Value} {base : Heap} {N : List Str} {q : Str} {sc : Scope} {a : Addr} {cdv : Value} {A : Around} {outer : List Env} {s : Shared} {H : Hp} {E : XK} :
    Passes (L2.CX P w) (cxOf (L2.CX P w) P w K mg base N q sc a cdv A outer s H E) E := passes_call takesE fun _ _ _ _ h => h
theorem passesE {P : Program} {w : World} {K : Frg} {mg : Str → Option Value} {base : Heap} {N : List Str} {q : Str} {sc : Scope} {a : Addr} {cdv : Value} {A : Around} {outer : List Env} {s : Shared} {H : Hp} {E : XK} :
    PassesOwn (model (cxOf (L2.CX P w) P w K mg base N q sc a cdv A outer s H E).prog (cxOf (L2.CX P w) P w K mg base N q sc a cdv A outer s H E).w) (cxOf (L2.CX P w) P w K mg base N q sc a cdv A outer s H E).A (cxOf (L2.CX P w) P w K mg base N q sc a cdv A outer s H E).env (cxOf (L2.CX P w) P w K mg base N q sc a cdv A outer s H E).xe := passes_of rfl
/-- a module's constant -/
theorem peC {X : Cx} {x : Str} {v : V} {pos : Pos} (h : ∃ u, X.mg x = some u ∧ RelV v u) (hg : Gl X x := by rfl) (hd : (x == ("__debug__" : Str)) = false := by decide) : PE X (.Name x pos) (tC v) := by
  obtain ⟨u, hm, r⟩ := h
  exact pe_glob hg hm r hd
end Py
end

section
set_option Elab.async false
set_option linter.all false
set_option maxRecDepth 100000
set_option maxHeartbeats 4000000
set_option autoImplicit false
namespace Py
open PySem PySem.Spec PyProof.Rows L2
/-! ### lambdas with parameters, handed to a def that calls them -/
/-- a lambda's names: its parameters, captured ones, globals -/
structure LamP (sc scope : Scope) (ps : List Str) : Prop where
  kind : scope.kind = .function
  co : scope.isCoroutine = false
  gen : scope.isGenerator = false
  nd : ps.Nodup
  par : ∀ p ∈ ps, scope.names.lookup p = some .local
  own : ∀ y ∈ scope.names, y.2 ≠ .cell ∧ (y.2 = .local → y.1 ∈ ps)
  free : ∀ y ∈ scope.names, y.2 = .free → sc.names.lookup y.1 = some .cell ∨ sc.names.lookup y.1 = some .free
abbrev lamCxP (ps : List Str) (X : Cx) (A : Around) (outer : List Env) (s : Shared) (H : Hp) (E : XK) (scope : Scope) (f c' : Addr) : Cx := { LamX.lamCx X A outer s H E scope f c' with N := ps ++ X.N }
theorem zip_rev_lookup {α β : Type} [BEq α] [LawfulBEq α] : ∀ {ps : List α} {us : List β} {i : Nat} {x : α} {u : β}, ps.Nodup → ps[i]? = some x → us[i]? = some u → (ps.zip us).reverse.lookup x = some u := by
  intro ps us i x u nd h1 h2
  have key : ∀ (l : List (α × β)), (l.map (·.1)).Nodup → (x, u) ∈ l → l.lookup x = some u := by
    intro l
    induction l with
    | nil => intro _ h; cases h
    | cons p r ih =>
      intro n h
      obtain ⟨a, b⟩ := p
      simp only [List.map_cons, List.nodup_cons] at n
      rw [List.lookup_cons]
      rcases List.mem_cons.mp h with e | e
      · cases e
        simp
      · have ne : x ≠ a := fun z => n.1 (by rw [← z]; exact List.mem_map_of_mem (f := (·.1)) e)
        have : (x == a) = false := by simpa using ne
        rw [this]
        exact ih n.2 e
  have hz : (ps.zip us)[i]? = some (x, u) := by
    rw [List.getElem?_zip_eq_some]
    exact ⟨h1, h2⟩
  refine key _ ?_ (List.mem_reverse.mpr (List.mem_of_getElem? hz))
  rw [List.map_reverse]
  have nr : ∀ (l : List α), l.Nodup → l.reverse.Nodup := fun l h => by
    unfold List.Nodup
    rw [List.pairwise_reverse]
    exact h.imp fun z => Ne.symm z
  refine nr _ ?_
  have sub : ∀ (a : List α) (b : List β), ((a.zip b).map (·.1)).Sublist a := by
    intro a
    induction a with
    | nil => intro b; simp
    | cons q r ih =>
      intro b
      cases b with
      | nil => simp
      | cons c d =>
        simp only [List.zip_cons_cons, List.map_cons]
        exact (ih d).cons_cons q
  exact nd.sublist (sub ps us)
section
variable {X : Cx} {pins : List (Addr × Obj)} {σ : Sg} {H HZ : Hp} {s s1 : Shared}
theorem LamP.has {scope : Scope} {ps : List Str} (L : LamP X.env.scope scope ps) (ok : X.Ok) : ∀ y ∈ scope.names, y.2 = .free → ∃ c, X.env.cells.lookup y.1 = some c := fun y hy e =>
  (L.free y hy e).elim (fun k => ok.has _ (.inl k)) fun k => ok.has _ (.inr k)
theorem lamP_start {A : Around} {outer : List Env} {E : XK} {scope : Scope} {ps : List Str} {f c' : Addr} {h₁ : Heap} {tk : Nat} {vs : List V} {us : List Value} (I : Inv X pins σ H s) (L : LamP X.env.scope scope ps) (dj : ∀ x ∈ X.N, x ∉ ps) (e0 : Env0 X.prog X.w X.K X.mg X.base A outer s1 HZ) (hnd : A.handled = none)
    (un : Un (frs X.stack) [] H HZ s.heap s1.heap) (r : Vals vs us) (hl : vs.length = ps.length) (hns : h₁.Ns s1.heap.objs.size fun y => (ps.zip us).reverse.lookup y) (kp : ∀ b o, s1.heap.get? b = some o → h₁.get? b = some o) :
    Inv (lamCxP ps X A outer s1 HZ E scope f c') [] (vs.map some ++ σ) HZ { s1 with heap := h₁, toks := tk } := by
  have has := L.has I.ok
  have up : ∀ {y c}, (cloFrom X.env.cells scope.names []).lookup y = some c → X.env.cells.lookup y = some c := by
    intro y c e
    rcases cloFrom_mem (PySem.mem_of_lookup e) with z | ⟨z1, z2⟩
    · cases z
    · obtain ⟨d, hd⟩ := has _ z1 rfl
      have hd : X.env.cells.lookup y = some d := hd
      rw [hd, z2, hd]
      rfl
  have fnd : ∀ {y}, scope.names.lookup y = some .free → ∃ c, (cloFrom X.env.cells scope.names []).lookup y = some c := by
    intro y e
    have m : (y, NameKind.free) ∈ scope.names := PySem.mem_of_lookup e
    exact mem_lookup (cloFrom_has (cells := X.env.cells) (acc := []) m)
  have stays : ∀ {c : Addr} {v : Option Value}, H c = none → s.heap.IsCell c v → h₁.IsCell c v := by
    rintro c v n ⟨o, ho, hd⟩
    obtain ⟨sl, q⟩ := un.any ho n (by simp)
    exact ⟨_, kp _ _ q, hd⟩
  have none_ex : ∀ b : Addr, b ∉ (lamCxP ps X A outer s1 HZ E scope f c').ex := fun b z => by cases (show b ∈ ([] : List Addr) from z)
  refine ⟨?ok, rfl, e0.bare, Un.kept kp, ⟨_, hns, ?loc⟩, ?cell, e0.hok.fresh (Nat.le_refl _), ?freeC, ?pin, e0.hok.kept kp, ?len⟩
  case ok =>
    refine ⟨e0.mod, L.kind, rfl, rfl, Nat.le_refl _, ?_, ?_, ?_, fun _ => hnd, Around.frames_deeper e0.frames, .inr ⟨rfl, rfl⟩, fun b z => (none_ex b z).elim, e0.bs, e0.bsz, fun b _ _ => none_ex b, fun b z => (none_ex b z).elim, e0.funs, e0.frf⟩
    · intro y z c a b
      exact I.ok.inj y z c (up a) (up b)
    · intro y hy
      have hy : scope.names.lookup y = some .cell ∨ scope.names.lookup y = some .free := hy
      rcases hy with hy | hy
      · exact ((L.own _ (PySem.mem_of_lookup hy)).1 rfl).elim
      · exact fnd hy
    · intro y c z _
      cases (show false = true from z)
  case loc =>
    intro i y v e1 e2 e3
    have e1 : (ps ++ X.N)[i]? = some y := e1
    have e3 : Vis scope y := e3
    have hm : (vs.map some).length = ps.length := by rw [List.length_map, hl]
    by_cases hi : i < ps.length
    · rw [List.getElem?_append_left hi] at e1
      rw [List.getElem?_append_left (by rw [hm]; exact hi), List.getElem?_map] at e2
      have hv : vs[i]? = some v := by
        cases q : vs[i]? with
        | none => rw [q] at e2; cases e2
        | some a => rw [q] at e2; cases e2; rfl
      obtain ⟨u, hu, rv⟩ := r.get hv
      exact ⟨u, rv, .inl ⟨L.par y (List.mem_of_getElem? e1), zip_rev_lookup L.nd e1 hu⟩⟩
    · rw [List.getElem?_append_right (by omega)] at e1
      rw [List.getElem?_append_right (by rw [hm]; omega), hm] at e2
      have ny : y ∉ ps := dj y (List.mem_of_getElem? e1)
      rcases e3 with k | k | k
      · exact (ny ((L.own _ (PySem.mem_of_lookup k)).2 rfl)).elim
      · exact ((L.own _ (PySem.mem_of_lookup k)).1 rfl).elim
      · obtain ⟨m, hn, look⟩ := I.loc
        have fr := L.free _ (PySem.mem_of_lookup k) rfl
        have vis : Vis X.env.scope y := fr.elim (fun z => .inr (.inl z)) fun z => .inr (.inr z)
        obtain ⟨u, rv, q⟩ := look _ y v e1 e2 vis
        obtain ⟨c, hc⟩ := fnd k
        refine ⟨u, rv, .inr ⟨.inr k, c, hc, ?_⟩⟩
        rcases q with ⟨q, _⟩ | ⟨_, d, hd, z⟩
        · have q : X.env.scope.names.lookup y = some .local := q
          rcases fr with z | z <;> (rw [show X.env.scope.names.lookup y = _ from z] at q; cases q)
        · have := up hc
          rw [hd] at this
          cases this
          exact stays (I.freeC y _ hd) z
  case cell =>
    intro y c e
    obtain ⟨v, z⟩ := I.cell y c (up e)
    exact ⟨v, stays (I.freeC y c (up e)) z⟩
  case freeC =>
    intro y c e
    obtain ⟨v, o, ho, _⟩ := I.cell y c (up e)
    exact un.free c o ho (I.freeC y c (up e)) (by simp)
  case pin =>
    intro q hq
    cases (show q ∈ ([] : List (Addr × Obj)) from hq)
  case len =>
    show (vs.map some ++ σ).length = (ps ++ X.N).length
    rw [List.length_append, List.length_append, List.length_map, hl, I.len]
/-- a(e, ..), in the def that got the lambda -/
def tActP (i : Nat) (f c' : Addr) (q : Str) (n : Nat) (ta : TA) (tl : List V → Hp → VK → Prop) : TE := fun σZ HZ Q => σZ[i]? = some (some (.ref f)) ∧ ta σZ HZ fun vs H1 => vs.length = n ∧ H1 c' = some (LamX.CodeO c' q) ∧ tl vs H1 Q
theorem pe_actP {Eg : XK} {Ng : List Str} {qg : Str} {sg : Scope} {g f c' : Addr} {cdg pm ctv : Value} {params : Arguments} {body : Expr} {scope : Scope} {ps : List Str} {k i : Nat} {a : Str} {E : XK} {tb : TE} {p1 p2 : Pos} {e : Expr} {es : List Expr} {ta : TA}
    (I : Inv X pins σ H s) (L : LamP X.env.scope scope ps) (dj : ∀ x ∈ X.N, x ∉ ps) (hf : s.heap.get? f = some (PySem.W.kla_obj "<lambda>" (X.env.qual ++ "<lambda>") params body scope (cloFrom X.env.cells scope.names []) pm c' ctv)) (hfn : H f = none) (hfr : f ∉ frs X.stack)
    (hbind : ∀ us : List Value, us.length = ps.length → bindArgs (PySem.W.kla_fn "<lambda>" (X.env.qual ++ "<lambda>") params body scope (cloFrom X.env.cells scope.names []) pm (.ref c') ctv) ⟨us, []⟩ = pure (ps.zip us))
    (hx : Passes (L2.CX X.prog X.w) (cxOf (L2.CX X.prog X.w) X.prog X.w X.K X.mg X.base Ng qg sg g cdg X.A X.stack s H Eg) E) (hr : Room (k + 1) (X.A.deeper (envOfC qg sg s.heap.objs.size g cdg)))
    (hbody : ∀ (A : Around) (outer : List Env) (s : Shared) (H : Hp), Room k (A.deeper (LamX.lamEnv X scope s.heap.objs.size f c')) → PE (lamCxP ps X A outer s H E scope f c') body tb)
    (ha : PA (cxOf (L2.CX X.prog X.w) X.prog X.w X.K X.mg X.base Ng qg sg g cdg X.A X.stack s H Eg) (e :: es) ta)
    (hN : Ng[i]? = some a) (hv : Vis sg a) (hd : (a == ("__debug__" : Str)) = false := by decide) (hcd : (a == ("__classdict__" : Str)) = false := by decide)
    (he : starEach (e :: es) (cxOf (L2.CX X.prog X.w) X.prog X.w X.K X.mg X.base Ng qg sg g cdg X.A X.stack s H Eg).env = (false, eval e (cxOf (L2.CX X.prog X.w) X.prog X.w X.K X.mg X.base Ng qg sg g cdg X.A X.stack s H Eg).env) :: starEach es (cxOf (L2.CX X.prog X.w) X.prog X.w X.K X.mg X.base Ng qg sg g cdg X.A X.stack s H Eg).env := by rfl)
    (hpl : (backTo p2 (starEach es (cxOf (L2.CX X.prog X.w) X.prog X.w X.K X.mg X.base Ng qg sg g cdg X.A X.stack s H Eg).env)).any (·.1) = false := by rfl) :
    PE (cxOf (L2.CX X.prog X.w) X.prog X.w X.K X.mg X.base Ng qg sg g cdg X.A X.stack s H Eg) (.Call (.Name a p1) (e :: es) [] p2)
      (tActP i f c' (X.env.qual ++ "<lambda>") ps.length ta fun vs H1 Q => tb (vs.map some ++ σ) H1 Q) := by
  refine ⟨fun pinsZ sZ σZ HZ Q IZ h => ?_⟩
  obtain ⟨hs, ht⟩ := h
  refine wpAny_Call_Name_kw (thn ((pe_var (pos := p1) (i := i) hN hv hd hcd).run pinsZ sZ σZ HZ (fun v H1 => v = .ref f ∧ H1 = HZ) IZ ⟨.ref f, hs, rfl, rfl⟩) fun u s1 z => ?_)
  obtain ⟨v, H1, I1, r1, ev, eH⟩ := z
  rw [eH] at I1
  rw [ev] at r1
  obtain rfl : u = Value.ref f := r1
  have at_ : ∀ {σ' : Sg} {H' : Hp} {s' : Shared} {pn : List (Addr × Obj)}, Inv (cxOf (L2.CX X.prog X.w) X.prog X.w X.K X.mg X.base Ng qg sg g cdg X.A X.stack s H Eg) pn σ' H' s' → s'.heap.get? f = some (PySem.W.kla_obj "<lambda>" (X.env.qual ++ "<lambda>") params body scope (cloFrom X.env.cells scope.names []) pm c' ctv) :=
    fun J => J.base.keep f _ hf hfn hfr fun z => by cases (show f ∈ ([] : List Addr) from z)
  refine PySem.W.callWith_F ⟨_, _, _, _, at_ I1⟩ (thn (ha.run p2 pinsZ s1 σZ HZ _ I1 ht) fun us s2 z => ?_) he hpl
  obtain ⟨vs, H2, I2, r2, hl, hc, htb⟩ := z
  refine ⟨⟨_, _, _, _, at_ I2⟩, ?_⟩
  have un : Un (frs X.stack) [] H H2 s.heap s2.heap := I2.base
  obtain ⟨⟨oc, fs, t, hoc, hdc, hvc⟩, _, _⟩ := I2.hok c' _ hc
  have hlu : us.length = ps.length := by rw [← r2.length]; exact hl
  have rc : codeAny (model X.prog X.w) (X.A.deeper (envOfC qg sg s.heap.objs.size g cdg)) (.call (.ref f) ⟨us, []⟩) (CR (L2.CX X.prog X.w) (envOfC qg sg s.heap.objs.size g cdg :: X.stack) X.prog X.w H2 s2 Q E) s2 := by
    refine PySem.W.kla_callFunE hr.depth (at_ I2) rfl L.co L.gen rfl ⟨c', oc, fs, t, rfl, hoc, hdc, hvc⟩ ?_
    rw [hbind us hlu]
    refine wpAny_pure (wpAny_newFunctionEnv (fun y hy => (L.own y hy).1) (fun y hy => L.par _ (List.of_mem_zip hy).1) (fun h₁ hns hsb => ⟨I2.nolimit.fresh _ hsb, ?_⟩) L.kind)
    show codeAny _ _ (.expr body (LamX.lamEnv X scope s2.heap.objs.size f c')) _ _
    have kp : ∀ b o, s2.heap.get? b = some o → h₁.get? b = some o := fun b o q => hsb.extBut b o (Nat.ne_of_lt (Heap.lt_size q)) (Heap.get?_push_of_some _ q)
    have J : Inv (lamCxP ps X (X.A.deeper (envOfC qg sg s.heap.objs.size g cdg)) (envOfC qg sg s.heap.objs.size g cdg :: X.stack) s2 H2 E scope f c') [] (vs.map some ++ σ) H2 { s2 with heap := h₁, toks := s2.toks + (ps.zip us).length } :=
      lamP_start I L dj I2.env0 hr.hd un r2 hl hns kp
    refine PySem.W.kla_codeExpr (wpAny_mono ((hbody _ _ s2 H2 (hr.deeper _)).run [] _ _ H2 Q J htb) (fun v s' hq => ?_) fun _ _ hq => hq)
    obtain ⟨w', H', J', rv, q⟩ := hq
    exact ⟨w', H', J'.os, J'.bare, J'.base, J'.hok, rv, q⟩
  refine wpAny_call (codeAny_mono rc fun r s' hq => ?_)
  cases r with
  | error e => exact hx pinsZ σZ H2 s2 e s' I2 hq
  | ok fl =>
    cases fl with
    | ret u => exact I2.after hq
    | next => exact False.elim hq
    | brk => exact False.elim hq
    | cont => exact False.elim hq
end
/-! ### the maker's side -/
/-- the def that got the lambda calls it by the name a -/
def ActP (Z : Cx) (a : Str) (i n : Nat) (f c' : Addr) (q : Str) (tl : List V → Hp → VK → Prop) : Prop := ∀ {e : Expr} {es : List Expr} {ta : TA} {p1 p2 : Pos}, PA Z (e :: es) ta → starEach (e :: es) Z.env = (false, eval e Z.env) :: starEach es Z.env → (backTo p2 (starEach es Z.env)).any (·.1) = false →
  PE Z (.Call (.Name a p1) (e :: es) [] p2) (tActP i f c' q n ta tl)
def GivesP (X : Cx) (k : Nat) (Ng : List Str) (x : Str) (sg : Scope) (g : Addr) (cdg : Value) (bg : List Stmt) (a : Str) (n : Nat) (q : Str) (E : XK) (TT : (List V → Hp → VK → Prop) → List V → Hp → VK → Prop) : Prop :=
  ∀ (f c' : Addr) (s : Shared) (H : Hp) (Q : VK) (vs : List V) (tl : List V → Hp → VK → Prop), Room k (X.A.deeper (envOfC x sg s.heap.objs.size g cdg)) → ActP (cxOf (L2.CX X.prog X.w) X.prog X.w X.K X.mg X.base Ng x sg g cdg X.A X.stack s H E) a 0 n f c' q tl → H c' = some (LamX.CodeO c' q) → TT tl vs H Q →
    ∃ t, PSs (cxOf (L2.CX X.prog X.w) X.prog X.w X.K X.mg X.base Ng x sg g cdg X.A X.stack s H E) bg t ∧ t { nx := fun _ H' => Q .non H', rt := Q } (L2.start Ng (.ref f :: vs)) H
def tLamP (T : List (Addr × Str)) (q : Str) (m : Nat) (TT : (List V → Hp → VK → Prop) → List V → Hp → VK → Prop) (ta : TA) (tb : TE) : TE := fun σ H Q => LamX.Tabs T H ∧ ∀ H1 c', LamX.ExtN H H1 → LamX.Tabs T H1 → H1 c' = some (LamX.CodeO c' q) →
  ta σ H1 fun vs H2 => vs.length = m ∧ H2 c' = some (LamX.CodeO c' q) ∧ TT (fun ws H3 Q3 => tb (ws.map some ++ σ) H3 Q3) vs H2 Q
section
variable {X : Cx}
theorem fnd_of {K : Frg} {x qual : Str} {params : Arguments} {body : List Stmt} {scope : Scope} {f : Addr} {fd : FuncData} (F : FunD K x qual params body scope [] [] f fd) :
    ∃ (oc : Value) (od : Option Addr) (dV kV doc pm : Value) (an : Option Addr) (cdv ct : Value) (osl : Array (Option Value)), fd = PySem.W.fnOf x qual params body scope dV kV doc pm an cdv ct ∧ K.lookup f = some ⟨oc, od, .func (PySem.W.fnOf x qual params body scope dV kV doc pm an cdv ct), osl⟩ ∧ PySem.W.codeIn K cdv qual = true := by
  obtain ⟨oc, od, dV, kV, doc, pm, an, cdv, ct, osl, e, lk, hc, _, _⟩ := F.ex
  rw [e] at lk
  exact ⟨oc, od, dV, kV, doc, pm, an, cdv, ct, osl, e, lk, hc⟩
/-- x(lambda ps: body, e, ..) -/
theorem pe_lamP {T : List (Addr × Str)} {TT : (List V → Hp → VK → Prop) → List V → Hp → VK → Prop} {x a : Str} {g c P : Addr} {k kl : Nat} {pg : Arguments} {bg : List Stmt} {sg : Scope} {fd : FuncData} {Ng rs : List Str}
    {params : Arguments} {body : Expr} {scope : Scope} {ps : List Str} {tb : TE} {E : XK} {p lpos pos : Pos} {es : List Expr} {ta : TA}
    (F : FunD X.K x x pg bg sg [] [] g fd) (hm : X.mg x = some (.ref g)) (hb : L2.Binds X.K fd (a :: rs) []) (Sg' : FnScope Ng (a :: rs) sg) (hva : Vis sg a)
    (hG : ∀ cdv, GivesP X k Ng x sg g cdv bg a ps.length (X.env.qual ++ "<lambda>") E TT) (hkl : kl + 1 ≤ k)
    (TB : LamX.TabB X.base X.mg c P) (hcode : X.env.code = .ref c) (hmT : (P, X.env.qual ++ "<lambda>") ∈ T) (hu : ∀ p ∈ T, p.1 = P → p.2 = X.env.qual ++ "<lambda>") (hr : Room (k + 1) X.A) (L : LamP X.env.scope scope ps) (dj : ∀ x ∈ X.N, x ∉ ps) (hdef : defaultsOf params X.env = ([], []))
    (hbind : ∀ (q : Str) (cl : List (Str × Addr)) (pm cv ctv : Value) (us : List Value), us.length = ps.length → bindArgs (PySem.W.kla_fn "<lambda>" q params body scope cl pm cv ctv) ⟨us, []⟩ = pure (ps.zip us))
    (hx : Passes (L2.CX X.prog X.w) X E)
    (hbody : ∀ (A : Around) (outer : List Env) (s : Shared) (H : Hp) (f c' : Addr), Room kl (A.deeper (LamX.lamEnv X scope s.heap.objs.size f c')) → PE (lamCxP ps X A outer s H E scope f c') body tb)
    (ha : PA X es ta) (hg : Gl X x := by rfl) (hdb : (x == ("__debug__" : Str)) = false := by decide) (hda : (a == ("__debug__" : Str)) = false := by decide) (hcd : (a == ("__classdict__" : Str)) = false := by decide)
    (he : starEach (.Lambda params body scope lpos :: es) X.env = (false, eval (.Lambda params body scope lpos) X.env) :: starEach es X.env := by rfl) (hpl : (backTo pos (starEach es X.env)).any (·.1) = false := by rfl) :
    PE X (.Call (.Name x p) (.Lambda params body scope lpos :: es) [] pos) (tLamP T (X.env.qual ++ "<lambda>") rs.length TT ta tb) := by
  obtain ⟨oc, od, dV, kV, doc, pm, an, cdv, ct, osl, efd, lk, hcg⟩ := fnd_of F
  subst efd
  refine ⟨fun pins s σ H Q I h => ?_⟩
  obtain ⟨hT, h⟩ := h
  refine wpAny_Call_Name_kw (ld_glob I hg hm ?_ hdb)
  refine PySem.W.callWith_K (h₀ := X.base) I.ok.mod.kin F.kp ?_ he hpl
  rw [he]
  show wpAny _ _ (spliced ((false, eval (.Lambda params body scope lpos) X.env) :: backTo pos (starEach es X.env))) _ _ s
  refine Calls.spliced_cons (LamX.lam_make2 I TB hcode hmT hu hT hdef (L.has I.ok) fun f c' pm' ctv H1 s1 I1 eN T1 hf hfn hfr hco => ?_)
  have nloc : f ≠ X.env.locals := fun z => by
    obtain ⟨m, ⟨o, es', ep, ho, hd, _⟩, _⟩ := I1.loc
    rw [← z, hf] at ho
    cases ho
    cases hd
  have nfs : f ∉ X.fs := fun z => hfr (by
    rcases I1.ok.stk with e | ⟨e, hfm⟩
    · rw [e]; exact z
    · rw [e]
      unfold frs
      rw [List.filterMap_cons, hfm]
      exact List.mem_cons_of_mem _ z)
  have Ip : Inv X ((f, _) :: pins) σ H1 s1 := I1.pins_of fun q hq => by
    rcases List.mem_cons.mp hq with e | e
    · subst e
      exact ⟨hf, hfn, nloc, nfs, fun v z => by cases z⟩
    · exact I1.pin q (List.mem_append_right _ e)
  refine thn (ha.run pos _ s1 σ H1 _ Ip (h H1 c' eN T1 hco)) fun us s2 z => ?_
  obtain ⟨vs, H2, I2, r2, hl, hc2, ht2⟩ := z
  obtain ⟨hf2, hfn2, _⟩ := I2.pin (f, _) (List.mem_append_right _ (List.mem_cons_self ..))
  refine ⟨I2.kIn, ?_⟩
  have hlu : us.length = rs.length := by rw [← r2.length]; exact hl
  have rc : codeAny (model X.prog X.w) X.A (.call (.ref g) ⟨.ref f :: us, []⟩) (CR (L2.CX X.prog X.w) X.stack X.prog X.w H2 s2 Q E) s2 := by
    have bt := hb s2 (.ref f :: us) I2.kIn (by simp [hlu])
    rw [List.append_nil] at bt
    refine LamX.run_ofS (N := Ng) (ps := a :: rs) (us := .ref f :: us) (vs := .ref f :: vs) lk hcg Sg' hr I2.env0 bt (.cons rfl r2) (by simp [hl]) fun hr' => ?_
    have hN0 : Ng[0]? = some a := by
      have e := congrArg (·[0]?) Sg'.pre
      simp only [List.getElem?_cons_zero] at e
      rw [← e, List.getElem?_take]
      simp
    exact hG cdv f c' s2 H2 Q vs _ hr' (fun {e es ta p1 p2} hpa h1 h2 => pe_actP (k := kl) (i := 0) I2 L dj hf2 hfn2 hfr (fun us hl => hbind _ _ _ _ _ us hl) psE (hr'.mono hkl) (fun A outer s H hr2 => hbody A outer s H f c' hr2) hpa hN0 hva hda hcd h1 h2) hc2 ht2
  refine wpAny_call (codeAny_mono rc fun r s3 hq => ?_)
  cases r with
  | error e => exact hx _ σ H2 s2 e s3 I2 hq
  | ok fl =>
    cases fl with
    | ret u =>
      obtain ⟨v, H3, I3, q3⟩ := I2.after hq
      exact ⟨v, H3, I3.pins_of fun q hq => I3.pin q (List.mem_append_right _ (List.mem_cons_of_mem _ hq)), q3⟩
    | next => exact False.elim hq
    | brk => exact False.elim hq
    | cont => exact False.elim hq
end
end Py
end

section
set_option Elab.async false
set_option linter.all false
set_option maxRecDepth 100000
set_option maxHeartbeats 4000000
set_option autoImplicit false
namespace Py
open PySem PySem.Spec PyProof.Rows L2
/-! ### lambdas by data -/
/-- what a call of the lambda does with data, in heaps that know what Hm knows -/
def ActD (K : Frg) (T : List (Addr × Str)) (O : List Addr) (Hm : Hp) (tl : List V → Hp → VK → Prop) (R : List Dt → Dt → Prop) : Prop := ∀ ds r H vs (Q : VK), Ex Hm H → LamX.Tabs T H → (∀ a ∈ O, ∃ o, H a = some o ∧ NoT o) → IsA K (hd O H) ds vs → R ds r →
  (∀ v H', Ex H H' → LamX.Tabs T H' → Is K (hd O H') r v → Q v H') → tl vs H Q
/-- a promise that speaks of what the lambda does -/
def TTr (K : Frg) (T : List (Addr × Str)) (g : (List Dt → Dt → Prop) → List Dt → Dt → Prop) : (List V → Hp → VK → Prop) → List V → Hp → VK → Prop := fun tl vs H Q => ∃ O ds r R, (∀ a ∈ O, ∃ o, H a = some o ∧ NoT o) ∧ LamX.Tabs T H ∧ IsA K (hd O H) ds vs ∧ ActD K T O H tl R ∧ g R ds r ∧
  ∀ v H', Ex H H' → LamX.Tabs T H' → Is K (hd O H') r v → Q v H'
theorem nt_c {c : Addr} {q : Str} : NoT (LamX.CodeO c q) := fun ps z => by
  unfold LamX.CodeO at z
  cases z
section
variable {C : Ct} {E : XK} {A A1 : AS} {d r : Dt} {ta : TA} {tb : TE} {σ : Sg} {H H' : Hp} {os : List (Option Addr)}
theorem Ok.noOs (k : Ok C os A σ H) (h : A.st = []) : os = [] := by
  have := k.ln
  rw [h] at this
  exact List.eq_nil_of_length_eq_zero this
theorem Rh_nil {O : List Addr} {H : Hp} : Rh O [] H = hd O H := by
  show hd (O ++ []) H = _
  rw [List.append_nil]
theorem Gr.at {O : List Addr} {os os' : List (Option Addr)} {c : Addr} {o : HO} (g : Gr O os H os' H') (hn : NoT o) (hc : H c = some o) (hos : os = []) : H' c = some o := by
  by_cases hO : c ∈ O
  · rw [g.o c hO]; exact hc
  · refine hd_ex c o (g.e c o ?_ hn) hn
    rw [hos, Rh_nil, hd_of hO]
    exact hc
theorem e_act {f c' : Addr} {q : Str} {i n : Nat} {tl : List V → Hp → VK → Prop} {R : List Dt → Dt → Prop} {ds : List Dt} (ha : ActD C.K C.T C.O C.H0 tl R) (hc : C.H0 c' = some (LamX.CodeO c' q)) (hs : A.sl[i]? = some (.d (.v (.ref f)))) (hst : A.st = []) (h : EvA C ta A ds A) (hn : ds.length = n) (hR : R ds r) :
    EvS C (tActP i f c' q n ta tl) A r A := fun os σ H k Q qq => by
  obtain ⟨o, e1, v, e2, e3⟩ := k.slot hs
  rw [Is.v_iff] at e3
  subst e3 e2
  refine ⟨e1, h os σ H k _ fun os1 vs H1 k1 g1 i1 => ⟨by rw [isA_len i1]; exact hn, k1.ex _ _ hc nt_c, ?_⟩⟩
  have e0 := k1.noOs hst
  subst e0
  rw [Rh_nil] at i1
  exact ha ds r H1 vs Q k1.ex k1.tb k1.ol i1 hR fun v H' e t i => qq [] v H' (k1.mono e t) (g1.trans (k1.gr e)) (by rw [Rh_nil]; exact i)
/-- x(lambda ps: body, e, ..), by data -/
theorem e_lamP {q : Str} {m : Nat} {g : (List Dt → Dt → Prop) → List Dt → Dt → Prop} {ds : List Dt} {R : List Dt → Dt → Prop} (hst : A.st = []) (h : EvA C ta A ds A) (hm : ds.length = m)
    (hb : ∀ H xs y, R xs y → EvS ⟨C.K, C.T, H, C.O⟩ tb ⟨xs.map .d ++ A.sl, []⟩ y ⟨xs.map .d ++ A.sl, []⟩) (hg : g R ds r) : EvS C (tLamP C.T q m (TTr C.K C.T g) ta tb) A r A := fun os σ H k Q qq => by
  have e0 := k.noOs hst
  subst e0
  refine ⟨k.tb, fun H1 c' eN T1 hc => ?_⟩
  have k1 := k.mono (H' := H1) eN T1
  refine h [] σ H1 k1 _ fun os2 vs H2 k2 g2 i2 => ?_
  have e2 := k2.noOs hst
  subst e2
  refine ⟨by rw [isA_len i2]; exact hm, g2.at nt_c hc rfl, C.O, ds, r, R, k2.ol, k2.tb, by rw [← Rh_nil]; exact i2, ?_, hg, fun v H' e t i => qq [] v H' (k2.mono e t) (((k.gr eN).trans g2).trans (k2.gr e)) (by rw [Rh_nil]; exact i)⟩
  intro xs y H3 ws Q3 e3 t3 o3 i3 hR hq
  have k3 := k2.mono e3 t3
  refine hb H3 xs y hR [] _ H3 ⟨Ex.refl _, t3, o3, fun a _ z => (by cases z), rfl, fun i j a z => (by simp at z), fun a z => (by cases z), ?_, fun i s o h1 h2 => ?_, fun i s o h1 h2 => by simp at h2⟩ Q3 fun os4 v H4 k4 g4 i4 => ?_
  · show (ws.map some ++ σ).length = (xs.map SD.d ++ A.sl).length
    rw [List.length_append, List.length_append, List.length_map, List.length_map, isA_len i3, k3.sn]
  · show SlOk C.K [] (Rh C.O [] H3) s o
    have h1 : (xs.map SD.d ++ A.sl)[i]? = some s := h1
    rw [List.getElem?_append] at h1 h2
    simp only [List.length_map] at h1 h2
    rw [isA_len i3] at h2
    split at h1
    · rename_i hi
      rw [if_pos hi] at h2
      rw [List.getElem?_map] at h1 h2
      cases e1 : xs[i]? with
      | none => rw [e1] at h1; cases h1
      | some x =>
        obtain ⟨v, hv, hx⟩ := isA_get i3 e1
        rw [e1] at h1
        rw [hv] at h2
        cases h1; cases h2
        exact ⟨v, rfl, by rw [Rh_nil]; exact hx⟩
    · rename_i hi
      rw [if_neg hi] at h2
      exact k3.sl _ s o h1 h2
  · have e4 := k4.noOs rfl
    subst e4
    exact hq v H4 k4.ex k4.tb (by rw [← Rh_nil]; exact i4)
end
/-! ### told: x(lambda: body), x a def that tries the call and answers a text for an error -/
section
variable {C : Ct} {A A1 : AS} {d : Dt}
theorem e_toldOk {CS : Addr} {ret : Str} {t : XK → TE} (h : ∀ E, EvS C (t E) A d A1) : EvS C (LamX.tLam C.T (LamX.TTold C.K CS ret) t) A d A1 := fun os σ H k Q q =>
  ⟨k.tb, fun H1 eN T1 => h _ os σ H1 (k.mono (H' := H1) eN T1) Q fun os' v H' k' g i => q os' v H' k' ((k.gr eN).trans g) i⟩
theorem e_toldErr {CS : Addr} {ret : Str} {t : XK → TE} (hm : PySem.W.exmOne C.K (.ref CS) (.ref CS) = some true) (h : ∀ E, EvX C E (t E) A CS A1) : EvS C (LamX.tLam C.T (LamX.TTold C.K CS ret) t) A (Dt.v (.str ret)) A1 := fun os σ H k Q q =>
  ⟨k.tb, fun H1 eN T1 => h _ os σ H1 (k.mono (H' := H1) eN T1) (fun os' H' k' g => ⟨true, hm, fun _ => q os' _ H' k' ((k.gr eN).trans g) is_v, fun z => by cases z⟩) Q⟩
end
/-- the callee's side: its body told over data, for whatever the lambda does -/
theorem gives_of {X : Cx} {k : Nat} {Ng : List Str} {x : Str} {sg : Scope} {g : Addr} {cdg : Value} {bg : List Stmt} {a : Str} {n : Nat} {q : Str} {E : XK} {T : List (Addr × Str)} {gg : (List Dt → Dt → Prop) → List Dt → Dt → Prop}
    (hbody : ∀ (f c' : Addr) (s : Shared) (H : Hp) (tl : List V → Hp → VK → Prop), Room k (X.A.deeper (envOfC x sg s.heap.objs.size g cdg)) → ActP (cxOf (L2.CX X.prog X.w) X.prog X.w X.K X.mg X.base Ng x sg g cdg X.A X.stack s H E) a 0 n f c' q tl →
      ∃ t, PSs (cxOf (L2.CX X.prog X.w) X.prog X.w X.K X.mg X.base Ng x sg g cdg X.A X.stack s H E) bg t ∧ ∀ O ds r R, H c' = some (LamX.CodeO c' q) → ActD X.K T O H tl R → gg R ds r → RunS ⟨X.K, T, H, O⟩ E t (start Ng (.v (.ref f) :: ds)) (poR (.ok r))) :
    GivesP X k Ng x sg g cdg bg a n q E (TTr X.K T gg) := fun f c' s H Q vs tl hr act hc ht => by
  obtain ⟨O, ds, r, R, hO, hT, hi, hA, hg, hq⟩ := ht
  obtain ⟨t, h1, h2⟩ := hbody f c' s H tl hr act
  refine ⟨t, h1, h2 O ds r R hc hA hg [] _ H _ (start_ok hO hT (isA_cons is_v hi)) ⟨fun os A σ H' z k _ => ?_, fun os A σ d v H' z k _ i => ?_, fun os A σ H' z => z.elim, fun os A σ H' z => z.elim, fun c H' z e t => ?_⟩⟩
  · have z : Rs.ok r = .ok dn := z
    injection z with z
    rw [z] at hq
    exact hq _ H' k.ex k.tb is_v
  · have z : Rs.ok r = .ok d := z
    injection z with z
    rw [z] at hq
    exact hq v H' k.ex k.tb i
  · cases (show Rs.ok r = .err c from z)
end Py
end

section
set_option Elab.async false
set_option linter.all false
set_option maxRecDepth 100000
set_option maxHeartbeats 4000000
set_option autoImplicit false
namespace Py
open PySem PySem.Spec PyProof.Rows L2
/-! ### comprehensions by data -/
theorem wipe_in {σ : Sg} {i : Nat} : ∀ {vs : List Nat}, i ∈ vs → i < σ.length → (wipe σ vs)[i]? = some none
  | [], h, _ => by cases h
  | v :: vs, h, hl => by
    unfold wipe
    rw [List.getElem?_set]
    by_cases e : v = i
    · rw [if_pos e, wipe_length, if_pos (by rw [e]; exact hl)]
    · rw [if_neg e]
      exact wipe_in ((List.mem_cons.mp h).resolve_left fun z => e z.symm) hl
theorem wipe_eq {σ σ' : Sg} {vs : List Nat} (hl : σ'.length = σ.length) (h : ∀ i, i ∉ vs → σ'[i]? = σ[i]?) : wipe σ' vs = wipe σ vs := by
  apply List.ext_getElem?
  intro i
  by_cases m : i ∈ vs
  · by_cases l : i < σ.length
    · rw [wipe_in m l, wipe_in m (by rw [hl]; exact l)]
    · rw [List.getElem?_eq_none (by rw [wipe_length]; omega), List.getElem?_eq_none (by rw [wipe_length]; omega)]
  · rw [wipe_out m, wipe_out m, h i m]
theorem wipe_same {σ σ' : Sg} {vs : List Nat} {i : Nat} (h : wipe σ' vs = wipe σ vs) (m : i ∉ vs) : σ'[i]? = σ[i]? := by
  rw [← wipe_out m, h, wipe_out m]
theorem wipe_wipe {σ : Sg} {vs : List Nat} : wipe (wipe σ vs) vs = wipe σ vs := wipe_eq (wipe_length _ _) fun i m => wipe_out m
def wipeS : List SD → List Nat → List SD
  | l, [] => l
  | l, v :: vs => (wipeS l vs).set v .un
theorem wipeS_length : ∀ (l : List SD) (vs : List Nat), (wipeS l vs).length = l.length
  | l, [] => rfl
  | l, v :: vs => by unfold wipeS; rw [List.length_set, wipeS_length l vs]
theorem wipeS_get {l : List SD} {i : Nat} {s : SD} : ∀ {vs : List Nat}, (wipeS l vs)[i]? = some s → (i ∈ vs → s = .un) ∧ (i ∉ vs → l[i]? = some s)
  | [], h => ⟨fun z => (by cases z), fun _ => h⟩
  | v :: vs, h => by
    unfold wipeS at h
    rw [List.getElem?_set] at h
    by_cases e : v = i
    · rw [if_pos e] at h
      split at h
      · cases h
        exact ⟨fun _ => rfl, fun z => (z (by rw [e]; exact List.mem_cons_self ..)).elim⟩
      · cases h
    · rw [if_neg e] at h
      obtain ⟨h1, h2⟩ := wipeS_get h
      exact ⟨fun z => h1 ((List.mem_cons.mp z).resolve_left fun q => e q.symm), fun z => h2 fun q => z (List.mem_cons_of_mem _ q)⟩
def AS.wipe (A : AS) (ws : List Nat) : AS := ⟨wipeS A.sl ws, A.st⟩
abbrev Ct.hide (C : Ct) (p : Addr) : Ct := ⟨C.K, C.T, C.H0, p :: C.O⟩
section
variable {C : Ct} {A A1 A2 A3 : AS} {σ σ' : Sg} {H H' : Hp} {os os' : List (Option Addr)} {p : Addr} {ws : List Nat}
theorem Ok.wiped (k : Ok C os A σ H) : Ok C os (A.wipe ws) (L2.wipe σ ws) H := by
  refine ⟨k.ex, k.tb, k.ol, k.dj, k.ln, k.nd, k.fr, ?_, fun i s o h1 h2 => ?_, k.st⟩
  · rw [wipe_length, k.sn]
    exact (wipeS_length _ _).symm
  · obtain ⟨g1, g2⟩ := wipeS_get (show (wipeS A.sl ws)[i]? = some s from h1)
    by_cases m : i ∈ ws
    · rw [g1 m]; exact True.intro
    · rw [wipe_out m] at h2
      exact k.sl i s o (g2 m) h2
theorem Ok.back (k : Ok C os A σ' H) (h : L2.wipe σ' ws = L2.wipe σ ws) : Ok C os (A.wipe ws) σ H := by
  refine ⟨k.ex, k.tb, k.ol, k.dj, k.ln, k.nd, k.fr, ?_, fun i s o h1 h2 => ?_, k.st⟩
  · have e := congrArg List.length h
    rw [wipe_length, wipe_length] at e
    rw [← e, k.sn]
    exact (wipeS_length _ _).symm
  · obtain ⟨g1, g2⟩ := wipeS_get (show (wipeS A.sl ws)[i]? = some s from h1)
    by_cases m : i ∈ ws
    · rw [g1 m]; exact True.intro
    · rw [← wipe_same h m] at h2
      exact k.sl i s o (g2 m) h2
theorem mem_hide {O : List Addr} {a : Addr} : a ∈ hid (p :: O) os ↔ a = p ∨ a ∈ hid O os := by
  rw [mem_hid, mem_hid, List.mem_cons, or_assoc]
theorem Rh_hide {O : List Addr} {o : HO} (hp : H p = none) : Rh (p :: O) os (upd H p o) = Rh O os H := by
  funext a
  show hd _ _ a = hd _ _ a
  unfold hd
  by_cases e : a = p
  · rw [if_pos (mem_hide.mpr (.inl e))]
    split
    · rfl
    · rw [e]; exact hp.symm
  · by_cases q : a ∈ hid O os
    · rw [if_pos q, if_pos (mem_hide.mpr (.inr q))]
    · rw [if_neg q, if_neg fun z => (mem_hide.mp z).elim e q, upd_ne e]
theorem Rh_unhide {O : List Addr} : Ex (Rh (p :: O) os H) (Rh O os H) := fun a o h _ => by
  have h : hd _ H a = some o := h
  show hd _ H a = some o
  unfold hd at h ⊢
  split at h
  · cases h
  · rename_i q
    rw [if_neg fun z => q (mem_hide.mpr (.inr z))]
    exact h
theorem Ok.hide {o : HO} (k : Ok C os A σ H) (hp : H p = none) (hn : NoT o) : Ok (C.hide p) os A σ (upd H p o) := by
  have np : some p ∉ os := fun z => by
    obtain ⟨o, q, _⟩ := (k.fr p z).2
    rw [hp] at q; cases q
  refine ⟨k.ex.trans (Ex.new hp), tabs_new k.tb hp, fun a h => ?_, fun a h => ?_, k.ln, k.nd, fun a h => ?_, k.sn, fun i s o h1 h2 => ?_, fun i s o h1 h2 => ?_⟩
  · rcases List.mem_cons.mp h with e | e
    · rw [e]; exact ⟨o, upd_same, hn⟩
    · obtain ⟨u, q, n⟩ := k.ol a e
      exact ⟨u, Ex.new hp _ _ q n, n⟩
  · rcases List.mem_cons.mp h with e | e
    · rw [e]; exact np
    · exact k.dj a e
  · obtain ⟨h1, u, q, n⟩ := k.fr a h
    exact ⟨h1, u, Ex.new hp _ _ q n, n⟩
  · show SlOk C.K os (Rh (p :: C.O) os (upd H p _)) s o
    rw [Rh_hide hp]
    exact k.sl i s o h1 h2
  · show StOk C.K os (Rh (p :: C.O) os (upd H p _)) _ o s
    rw [Rh_hide hp]
    exact (k.st i s o h1 h2).mono (Ex.refl _) (Ex.new hp)
theorem Ok.unhide (k : Ok (C.hide p) os A σ H) : Ok C os A σ H :=
  ⟨k.ex, k.tb, fun a h => k.ol a (List.mem_cons_of_mem _ h), fun a h => k.dj a (List.mem_cons_of_mem _ h), k.ln, k.nd, k.fr, k.sn, fun i s o h1 h2 => (k.sl i s o h1 h2).mono Rh_unhide, fun i s o h1 h2 => (k.st i s o h1 h2).mono Rh_unhide (Ex.refl _)⟩
theorem Rh_updO {O : List Addr} {o : HO} (h : p ∈ O) : Rh O os (upd H p o) = Rh O os H := Rh_upd (mem_hid.mpr (.inl h))
/-- a hidden list grows -/
theorem Ok.updH {xs ys : List V} (k : Ok C os A σ H) (h : p ∈ C.O) (h0 : ∀ o, C.H0 p = some o → ¬ NoT o) (hl : H p = some (.lst xs)) : Ok C os A σ (upd H p (.lst ys)) := by
  refine ⟨fun a o e n => ?_, tabs_lst k.tb hl, fun a m => ?_, k.dj, k.ln, k.nd, fun a m => ?_, k.sn, fun i s o h1 h2 => ?_, fun i s o h1 h2 => ?_⟩
  · have ne : a ≠ p := fun z => h0 o (by rw [← z]; exact e) n
    rw [upd_ne ne]
    exact k.ex _ _ e n
  · by_cases e : a = p
    · rw [e]; exact ⟨_, upd_same, nt_l⟩
    · rw [upd_ne e]; exact k.ol a m
  · have ne : a ≠ p := fun z => k.dj p h (by rw [← z]; exact m)
    rw [upd_ne ne]
    exact k.fr a m
  · rw [Rh_updO h]
    exact k.sl i s o h1 h2
  · rw [Rh_updO h]
    exact (k.st i s o h1 h2).heap fun a q1 => upd_ne fun z => k.dj p h (by rw [← z, ← q1]; exact List.mem_of_getElem? h2)
end
section
variable {C : Ct} {A A1 A2 A3 : AS} {te tl : TE} {tt : TT} {g : TG} {ws : List Nat}
/-- a comprehension's target: it stores in the block's own slots alone -/
def TgS (C : Ct) (g : TG) (x : Dt) (A A' : AS) (ws : List Nat) : Prop := ∀ os σ H v (Q : Sg → Hp → Prop), Ok C os A σ H → Is C.K (Rh C.O os H) x v → (∀ σ', Ok C os A' σ' H → wipe σ' ws = wipe σ ws → Q σ' H) → g v σ H Q
theorem tgS_name {i : Nat} {x : Dt} (h : i ∈ ws) : TgS C (gName i) x A (A.put i x) ws := fun os σ H v Q k i1 q => q _ (k.put i1) (wipe_eq (by simp) fun j hj => by
  rw [List.getElem?_set_ne fun z => hj (by rw [← z]; exact h)])
def TgsS (C : Ct) (g : TGs) (xs : List Dt) (A A' : AS) (ws : List Nat) : Prop := ∀ os σ H vs (Q : Sg → Hp → Prop), Ok C os A σ H → IsA C.K (Rh C.O os H) xs vs → (∀ σ', Ok C os A' σ' H → wipe σ' ws = wipe σ ws → Q σ' H) → g vs σ H Q
theorem tgsS_nil : TgsS C gNil [] A A ws := fun os σ H vs Q k i q => ⟨by rw [IsA] at i; exact i, q σ k rfl⟩
theorem tgsS_cons {gs : TGs} {x : Dt} {xs : List Dt} (h : TgS C g x A A1 ws) (h' : TgsS C gs xs A1 A2 ws) : TgsS C (gCons g gs) (x :: xs) A A2 ws := fun os σ H vs Q k i q => by
  rw [IsA] at i
  obtain ⟨v, w, rfl, h1, h2⟩ := i
  exact ⟨v, w, rfl, h os σ H v _ k h1 fun σ1 k1 e1 => h' os σ1 H w Q k1 h2 fun σ2 k2 e2 => q σ2 k2 (e2.trans e1)⟩
theorem tgS_tup {gs : TGs} {n : Nat} {xs : List Dt} (hl : xs.length = n) (h : TgsS C gs xs A A1 ws) : TgS C (gTup C.K n gs) (.tup xs) A A1 ws := fun os σ H v Q k i q => by
  rw [Is] at i
  obtain ⟨a, vs, rfl, h1, h2⟩ := i
  exact ⟨a, vs, rfl, hd_ex.t h1, by rw [isA_len h2, hl], h os σ H vs Q k h2 q⟩
/-- one turn of a comprehension -/
def LcT (C : Ct) (g : TG) (tt : TT) (te : TE) (ws : List Nat) (x : Dt) (A : AS) (ys : List Dt) (A2 : AS) (ys2 : List Dt) : Prop :=
  ∃ A1 b A', TgS C g x (A.wipe ws) A1 ws ∧ EvT C tt A1 b A' ∧ ((b = true ∧ ∃ y A3, EvS C te A' y A3 ∧ ys2 = ys ++ [y] ∧ A3.wipe ws = A2) ∨ (b = false ∧ ys2 = ys ∧ A'.wipe ws = A2))
theorem t_yes : EvT C tYes A true A := fun os σ H k Q q => q os H k Gr.refl
def LcI (C : Ct) (p : Addr) (os1 : List (Option Addr)) (H1 : Hp) (σ : Sg) (A : AS) (ys : List Dt) (H : Hp) : Prop := ∃ os acc, Ok (C.hide p) os A σ H ∧ Gr (p :: C.O) os1 H1 os H ∧ H p = some (.lst acc) ∧ IsA C.K (Rh (p :: C.O) os H) ys acc
/-- all but the hidden list p itself -/
structure GrP (p : Addr) (O : List Addr) (os : List (Option Addr)) (H : Hp) (os' : List (Option Addr)) (H' : Hp) : Prop where
  e : Ex (Rh (p :: O) os H) (Rh (p :: O) os' H')
  o : ∀ a ∈ O, H' a = H a
  p : ∀ (k : Nat) (x : Option Addr), os[k]? = some x → os'[k]? = some x
theorem lc_turn {p : Addr} {x : Dt} {v : V} {σ : Sg} {os : List (Option Addr)} {H : Hp} {ys ys2 : List Dt} {acc : List V} (t : LcT (C.hide p) g tt te ws x A ys A2 ys2) (k : Ok (C.hide p) os A σ H) (hp : H p = some (.lst acc)) (ha : IsA C.K (Rh (p :: C.O) os H) ys acc) (hx : Is C.K (Rh (p :: C.O) os H) x v)
    (h0 : ∀ o, C.H0 p = some o → ¬ NoT o) (hO : p ∉ C.O) (hl : ys.length < 100000) (R : Hp → Prop) (hR : ∀ os' acc' H', Ok (C.hide p) os' A2 σ H' → GrP p C.O os H os' H' → H' p = some (.lst acc') → IsA C.K (Rh (p :: C.O) os' H') ys2 acc' → R H') :
    g v (wipe σ ws) H fun σ2 H2 => wipe σ2 ws = wipe σ ws ∧ tt σ2 H2 fun b H3 => if b = true then te σ2 H3 fun y H4 => ∃ acc, H4 p = some (HO.lst acc) ∧ acc.length < sizeLine ∧ R (upd H4 p (HO.lst (acc ++ [y]))) else R H3 := by
  obtain ⟨A1, b, A', tg, ht, hb⟩ := t
  refine tg os _ H v _ k.wiped hx fun σ2 k2 e2 => ⟨e2.trans wipe_wipe, ht os σ2 H k2 _ fun os3 H3 k3 g3 => ?_⟩
  have e2' : wipe σ2 ws = wipe σ ws := e2.trans wipe_wipe
  have hp3 : H3 p = some (.lst acc) := (g3.o p (List.mem_cons_self ..)).trans hp
  rcases hb with ⟨rfl, y, A3, he, rfl, rfl⟩ | ⟨rfl, rfl, rfl⟩
  · rw [if_pos rfl]
    refine he os3 σ2 H3 k3 _ fun os4 w H4 k4 g4 i4 => ?_
    have hp4 : H4 p = some (.lst acc) := (g4.o p (List.mem_cons_self ..)).trans hp3
    have g := g3.trans g4
    refine ⟨acc, hp4, by rw [isA_len ha]; exact Nat.lt_of_lt_of_le hl (by decide), hR os4 _ _ ((k4.back e2').updH (List.mem_cons_self ..) h0 hp4) ⟨?_, fun a h => ?_, g.p⟩ upd_same ?_⟩
    · rw [Rh_updO (List.mem_cons_self ..)]; exact g.e
    · rw [upd_ne fun z => hO (by rw [← z]; exact h)]
      exact g.o a (List.mem_cons_of_mem _ h)
    · rw [Rh_updO (List.mem_cons_self ..)]
      exact isA_app (IsA.mono g.e _ _ ha) (isA_cons i4 isA_nil)
  · rw [if_neg (by decide)]
    exact hR os3 acc H3 (k3.back e2') ⟨g3.e, fun a h => g3.o a (List.mem_cons_of_mem _ h), g3.p⟩ hp3 (IsA.mono g3.e _ _ ha)
theorem GrP.trans {p : Addr} {O : List Addr} {os os1 os2 : List (Option Addr)} {H H1 H2 : Hp} (a : GrP p O os H os1 H1) (b : GrP p O os1 H1 os2 H2) : GrP p O os H os2 H2 := ⟨a.e.trans b.e, fun x h => (b.o x h).trans (a.o x h), fun k x h => b.p k x (a.p k x h)⟩
theorem fresh_O {os : List (Option Addr)} {σ : Sg} {H : Hp} {p : Addr} (k : Ok C os A σ H) (hp : H p = none) : p ∉ C.O := fun z => k.new hp (mem_hid.mpr (.inl z))
theorem fresh_0 {os : List (Option Addr)} {σ : Sg} {H : Hp} {p : Addr} (k : Ok C os A σ H) (hp : H p = none) : ∀ o, C.H0 p = some o → ¬ NoT o := fun o e n => by
  have := k.ex _ _ e n
  rw [hp] at this; cases this
/-- the end: the list is data -/
theorem lc_end {p : Addr} {σ : Sg} {os1 os2 : List (Option Addr)} {H1 H2 : Hp} {ys : List Dt} {acc : List V} {Q : VK} (k1 : Ok C os1 A σ H1) (hp : H1 p = none) (k2 : Ok (C.hide p) os2 A2 σ H2) (g : GrP p C.O os1 (upd H1 p (.lst [])) os2 H2) (hl : H2 p = some (.lst acc)) (ha : IsA C.K (Rh (p :: C.O) os2 H2) ys acc)
    (q : ∀ os' v H', Ok C os' A2 σ H' → Gr C.O os1 H1 os' H' → Is C.K (Rh C.O os' H') (.lst ys) v → Q v H') : Q (.ref p) H2 := by
  refine q os2 _ H2 k2.unhide ⟨?_, fun a h => ?_, g.p⟩ ?_
  · have e := g.e
    rw [Rh_hide hp] at e
    exact e.trans Rh_unhide
  · rw [g.o a h, upd_ne fun z => fresh_O k1 hp (by rw [← z]; exact h)]
  · rw [Is]
    refine ⟨p, acc, rfl, SqL.of ?_, IsA.mono Rh_unhide _ _ ha⟩
    show hd _ H2 p = _
    rw [hd_of fun z => ?_]
    · exact hl
    · rcases mem_hid.mp z with z | z
      · exact fresh_O k1 hp z
      · exact k2.dj p (List.mem_cons_self ..) z
theorem e_lcR {lo : Int} {n : Nat} {wi : TI} (hw : ∀ os σ H, Ok C os A σ H → ∀ R : It → Hp → Prop, (∀ os' H', Ok C os' A1 σ H' → Gr C.O os H os' H' → R (Itr lo n) H') → wi σ H R) (B : Nat → AS) (Y : Nat → List Dt) (h0 : A1 = B 0) (hY : Y 0 = [])
    (hs : ∀ i, i < n → ∀ O, LcT ⟨C.K, C.T, C.H0, O⟩ g tt te ws (di (lo + i)) (B i) (Y i) (B (i + 1)) (Y (i + 1))) (hn : n < 100000) : EvS C (tLc wi g tt te ws) A (.lst (Y n)) (B n) := fun os σ H k Q q =>
  hw os σ H k _ fun os1 H1 k1 g1 p hp => by
    have hl : ∀ i, i ≤ n → (Y i).length ≤ i := by
      intro i
      induction i with
      | zero => intro _; rw [hY]; exact Nat.le_refl _
      | succ i ih =>
        intro hi
        obtain ⟨_, _, _, _, _, h⟩ := hs i hi []
        rcases h with ⟨_, _, _, _, e, _⟩ | ⟨_, e, _⟩ <;> rw [e] <;> have := ih (by omega) <;> (try simp only [List.length_append, List.length_singleton]) <;> omega
    subst h0
    refine lc_range (lo := lo) (n := n) (fun i H' => ∃ os' acc, Ok (C.hide p) os' (B i) σ H' ∧ GrP p C.O os1 (upd H1 p (.lst [])) os' H' ∧ H' p = some (.lst acc) ∧ IsA C.K (Rh (p :: C.O) os' H') (Y i) acc) ⟨os1, [], k1.hide hp nt_l, ⟨Ex.refl _, fun _ _ => rfl, fun _ _ h => h⟩, upd_same, by rw [hY]; exact isA_nil⟩ ?_ ?_
    · rintro i H' hi ⟨os', acc, k', g', hp', ha⟩
      exact lc_turn (hs i hi _) k' hp' ha is_v (fresh_0 k1 hp) (fresh_O k1 hp) (by have := hl i (by omega); omega) _ fun os2 acc2 H2 k2 g2 hp2 ha2 => ⟨os2, acc2, k2, g'.trans g2, hp2, ha2⟩
    · rintro H' ⟨os', acc, k', g', hp', ha⟩
      exact lc_end k1 hp k' g' hp' ha fun os2 v H2 k2 g2 i2 => q os2 v H2 k2 (g1.trans g2) i2
theorem e_lcL {xs : List Dt} (he : EvS C tl A (.lst xs) A1) (B : Nat → AS) (Y : Nat → List Dt) (h0 : A1 = B 0) (hY : Y 0 = [])
    (hs : ∀ i x, xs[i]? = some x → ∀ O, LcT ⟨C.K, C.T, C.H0, O⟩ g tt te ws x (B i) (Y i) (B (i + 1)) (Y (i + 1))) (hn : xs.length < 100000) : EvS C (tLc (iList C.K tl) g tt te ws) A (.lst (Y xs.length)) (B xs.length) := fun os σ H k Q q =>
  he os σ H k _ fun os1 v H1 k1 g1 i1 => by
    rw [Is] at i1
    obtain ⟨a, vs, rfl, h1, h2⟩ := i1
    refine ⟨a, rfl, ⟨vs, hd_ex.l h1⟩, fun p hp => ?_⟩
    have hl : ∀ i, i ≤ xs.length → (Y i).length ≤ i := by
      intro i
      induction i with
      | zero => intro _; rw [hY]; exact Nat.le_refl _
      | succ i ih =>
        intro hi
        obtain ⟨_, _, _, _, _, h⟩ := hs i xs[i] (List.getElem?_eq_getElem hi) []
        rcases h with ⟨_, _, _, _, e, _⟩ | ⟨_, e, _⟩ <;> rw [e] <;> have := ih (by omega) <;> (try simp only [List.length_append, List.length_singleton]) <;> omega
    subst h0
    have el : vs.length = xs.length := isA_len h2
    refine lc_list (K := C.K) (a := a) (xs := vs) (fun i H' => ∃ os' acc, Ok (C.hide p) os' (B i) σ H' ∧ GrP p C.O os1 (upd H1 p (.lst [])) os' H' ∧ H' p = some (.lst acc) ∧ IsA C.K (Rh (p :: C.O) os' H') (Y i) acc) ⟨os1, [], k1.hide hp nt_l, ⟨Ex.refl _, fun _ _ => rfl, fun _ _ h => h⟩, upd_same, by rw [hY]; exact isA_nil⟩ (fun i H' _ ⟨os', acc, k', g', hp', ha⟩ => ?_) ?_ ?_
    · have e := g'.e
      rw [Rh_hide hp] at e
      exact hd_ex.l (e.l h1)
    · rintro i x H' hi ⟨os', acc, k', g', hp', ha⟩
      obtain ⟨d, hd', hi'⟩ := isA_get' h2 hi
      have e := g'.e
      rw [Rh_hide hp] at e
      exact lc_turn (hs i d hd' _) k' hp' ha (Is.mono e _ _ hi') (fresh_0 k1 hp) (fresh_O k1 hp) (by have := hl i (by have := (List.getElem?_eq_some_iff.mp hd').1; omega); have := (List.getElem?_eq_some_iff.mp hd').1; omega) _ fun os2 acc2 H2 k2 g2 hp2 ha2 => ⟨os2, acc2, k2, g'.trans g2, hp2, ha2⟩
    · rintro H' ⟨os', acc, k', g', hp', ha⟩
      rw [el] at k' ha
      exact lc_end k1 hp k' g' hp' ha fun os2 v H2 k2 g2 i2 => q os2 v H2 k2 (g1.trans g2) i2
end
end Py
end

section
set_option Elab.async false
set_option linter.all false
set_option maxRecDepth 100000
set_option maxHeartbeats 4000000
set_option autoImplicit false
namespace Py
open PySem PySem.Spec PyProof.Rows L2
/-! ### built-ins by data -/
section
variable {C : Ct} {A A1 A2 : AS} {ta tb te : TE} {i j : Int}
theorem e_gcd (h : EvS C ta A (di i) A1) (h' : EvS C tb A1 (di j) A2) : EvS C (tCB rGcd (tCons ta (tCons tb tNil))) A (di (Int.gcd i j)) A2 :=
  e_CB (vs := [.int i, .int j]) (a_cons h (a_cons h' a_nil)) fun H Q q => ⟨i, j, rfl, q⟩
theorem e_abs (h : EvS C ta A (di i) A1) : EvS C (tCB (fun xs H Q => ∃ i, xs = [V.int i] ∧ Q (V.int (if i < 0 then -i else i)) H) (tCons ta tNil)) A (di (if i < 0 then -i else i)) A1 :=
  e_CB (vs := [.int i]) (a_cons h a_nil) fun H Q q => ⟨i, rfl, q⟩
theorem e_max2 (h : EvS C ta A (di i) A1) (h' : EvS C tb A1 (di j) A2) : EvS C (tCB (fun xs H Q => ∃ i j, xs = [V.int i, V.int j] ∧ Q (V.int (if j > i then j else i)) H) (tCons ta (tCons tb tNil))) A (di (if j > i then j else i)) A2 :=
  e_CB (vs := [.int i, .int j]) (a_cons h (a_cons h' a_nil)) fun H Q q => ⟨i, j, rfl, q⟩
theorem e_int (h : EvS C ta A (di i) A1) : EvS C (tCB (fun xs H Q => (∃ i, xs = [V.int i] ∧ Q (V.int i) H) ∨ ∃ k, xs = [V.bl k] ∧ Q (V.int (if k = true then 1 else 0)) H) (tCons ta tNil)) A (di i) A1 :=
  e_CB (vs := [.int i]) (a_cons h a_nil) fun H Q q => .inl ⟨i, rfl, q⟩
theorem e_intB {b : Bool} (h : EvS C ta A (db b) A1) : EvS C (tCB (fun xs H Q => (∃ i, xs = [V.int i] ∧ Q (V.int i) H) ∨ ∃ k, xs = [V.bl k] ∧ Q (V.int (if k = true then 1 else 0)) H) (tCons ta tNil)) A (di (if b = true then 1 else 0)) A1 :=
  e_CB (vs := [.bl b]) (a_cons h a_nil) fun H Q q => .inr ⟨b, rfl, q⟩
theorem e_strI (hb : i.natAbs.log2 < 1920) (h : EvS C ta A (di i) A1) : EvS C (tCB (fun xs H Q => ∃ i, xs = [V.int i] ∧ i.natAbs.log2 < 1920 ∧ Q (V.str (Str.ofString (toString i))) H) (tCons ta tNil)) A (ds (Str.ofString (toString i))) A1 :=
  e_CB (vs := [.int i]) (a_cons h a_nil) fun H Q q => ⟨i, rfl, hb, q⟩
theorem e_bits (h : EvS C ta A (di i) A1) : EvS C (tBits ta) A (di (Builtin.Int.intBits i : Nat)) A1 := fun os σ H k Q q =>
  h os σ H k _ fun os1 v H1 k1 e1 i1 => ⟨i, Is.v_iff.mp i1, q os1 _ H1 k1 e1 is_v⟩
theorem e_fmtI (hb : i.natAbs.log2 < 1920) (h : EvS C ta A (di i) A1) : EvS C (tFmt ta) A (ds (Str.ofString (toString i))) A1 := fun os σ H k Q q =>
  h os σ H k _ fun os1 v H1 k1 e1 i1 => .inr ⟨i, Is.v_iff.mp i1, hb, q os1 _ H1 k1 e1 is_v⟩
/-- a < b < c -/
theorem e_chainF {r r' : R2} {x y : Dt} {tc : TE} (ha : EvS C ta A x A1) (hb : EvS C tb A1 y A2) (hr : OpS C r x y (db false)) : EvS C (tChain r r' ta tb tc) A (db false) A2 := fun os σ H k Q q =>
  ha os σ H k _ fun os1 v1 H1 k1 e1 i1 => hb os1 σ H1 k1 _ fun os2 v2 H2 k2 e2 i2 => hr os2 _ σ H2 v1 v2 k2 (Is.mono e2.e _ _ i1) i2 _ fun v H' e t i => ⟨false, Is.v_iff.mp i, by
    rw [if_neg (by decide)]
    exact q os2 _ H' (k2.mono e t) ((e1.trans e2).trans (k2.gr e)) is_v⟩
theorem e_chainT {r r' : R2} {x y z d : Dt} {A3 : AS} {tc : TE} (ha : EvS C ta A x A1) (hb : EvS C tb A1 y A2) (hr : OpS C r x y (db true)) (hc : EvS C tc A2 z A3) (hr' : OpS C r' y z d) : EvS C (tChain r r' ta tb tc) A d A3 := fun os σ H k Q q =>
  ha os σ H k _ fun os1 v1 H1 k1 e1 i1 => hb os1 σ H1 k1 _ fun os2 v2 H2 k2 e2 i2 => hr os2 _ σ H2 v1 v2 k2 (Is.mono e2.e _ _ i1) i2 _ fun v H' e t i => ⟨true, Is.v_iff.mp i, by
    rw [if_pos rfl]
    have k3 := k2.mono e t
    refine hc os2 σ H' k3 _ fun os4 v4 H4 k4 e4 i4 => ?_
    exact hr' os4 _ σ H4 v2 v4 k4 (Is.mono ((k2.gr e).trans e4).e _ _ i2) i4 Q fun v5 H5 e5 t5 i5 => q os4 v5 H5 (k4.mono e5 t5) ((((e1.trans e2).trans (k2.gr e)).trans e4).trans (k4.gr e5)) i5⟩
end
/-! ### sizes -/
theorem log2_of {i : Int} {n : Nat} (h : i.natAbs < 2 ^ n) (hn : 0 < n) : i.natAbs.log2 < n := PySem.Flt.log2_lt_of hn h
theorem mulX {i j : Int} (a b : Nat) (h : i.natAbs < 2 ^ a) (h' : j.natAbs < 2 ^ b) (h0 : 0 < a := by decide) (h1 : 0 < b := by decide) (hs : a + b ≤ 100000000 := by decide) : PMul i j := by
  have := log2_of h h0
  have := log2_of h' h1
  show i.natAbs.log2 + j.natAbs.log2 < 100000000
  omega
theorem divX {i j : Int} (b : Nat) (h : j.natAbs < 2 ^ b) (hj : j ≠ 0) (h1 : 0 < b := by decide) (hs : b ≤ 9000 := by decide) : PDiv i j := ⟨hj, Nat.lt_of_lt_of_le (log2_of h h1) hs⟩
/-- a number of at most n bits -/
def Sz (n : Nat) (i : Int) : Prop := i.natAbs < 2 ^ n
theorem Sz.mono {m n : Nat} {i : Int} (h : Sz m i) (e : m ≤ n) : Sz n i := Nat.lt_of_lt_of_le h (Nat.pow_le_pow_right (by decide) e)
theorem Sz.mul {m n : Nat} {i j : Int} (h : Sz m i) (h' : Sz n j) : Sz (m + n) (i * j) := by
  unfold Sz at *
  rw [Int.natAbs_mul, Nat.pow_add]
  exact Nat.mul_lt_mul'' h h'
theorem Sz.add {n : Nat} {i j : Int} (h : Sz n i) (h' : Sz n j) : Sz (n + 1) (i + j) := by
  unfold Sz at *
  have := Int.natAbs_add_le i j
  rw [Nat.pow_succ]
  omega
theorem Sz.sub {n : Nat} {i j : Int} (h : Sz n i) (h' : Sz n j) : Sz (n + 1) (i - j) := by
  unfold Sz at *
  have := Int.natAbs_sub_le i j
  rw [Nat.pow_succ]
  omega
theorem Sz.neg {n : Nat} {i : Int} (h : Sz n i) : Sz n (-i) := by
  unfold Sz at *
  rw [Int.natAbs_neg]
  exact h
theorem Sz.of_le {n : Nat} {i j : Int} (h : Sz n j) (e : i.natAbs ≤ j.natAbs) : Sz n i := Nat.lt_of_le_of_lt e h
end Py
end

section
set_option Elab.async false
set_option linter.all false
set_option maxRecDepth 100000
set_option maxHeartbeats 4000000
set_option autoImplicit false
namespace Py
open PySem PySem.Spec PyProof.Rows L2
/-! ### defs that make lambdas -/
abbrev lamQ (f : Str) : Str := (f ++ ".<locals>.") ++ "<lambda>"
/-- the tables of the defs fs -/
def tabL (K : Frg) (fs : List Str) : List (Addr × Str) := fs.map fun f => ((He.cT K (f, none)).2, lamQ f)
theorem tabL_mem {K : Frg} {fs : List Str} {f : Str} (h : f ∈ fs) : ((He.cT K (f, none)).2, lamQ f) ∈ tabL K fs := List.mem_map.mpr ⟨f, h, rfl⟩
theorem tabL_one {K : Frg} : ∀ {fs : List Str} {f : Str}, (fs.map fun f => (He.cT K (f, none)).2).Nodup → f ∈ fs → ∀ p ∈ tabL K fs, p.1 = (He.cT K (f, none)).2 → p.2 = lamQ f := by
  intro fs f nd hf p hp e
  obtain ⟨g, hg, rfl⟩ := List.mem_map.mp hp
  have e : (He.cT K (g, none)).2 = (He.cT K (f, none)).2 := e
  have : g = f := by
    clear hp
    induction fs with
    | nil => cases hf
    | cons a r ih =>
      simp only [List.map_cons, List.nodup_cons] at nd
      rcases List.mem_cons.mp hf with z | z <;> rcases List.mem_cons.mp hg with y | y
      · rw [z, y]
      · exact absurd (List.mem_map.mpr ⟨g, y, by rw [e, z]⟩) nd.1
      · exact absurd (List.mem_map.mpr ⟨f, z, by rw [← e, y]⟩) nd.1
      · exact ih nd.2 z y
  rw [this]
/-- what a def's making of lambdas leans on -/
structure LamB (K : Frg) (base : Heap) (mg : Str → Option Value) (T : List (Addr × Str)) (f : Str) : Prop where
  tb : LamX.TabB base mg (He.cT K (f, none)).1 (He.cT K (f, none)).2
  mm : ((He.cT K (f, none)).2, lamQ f) ∈ T
  hu : ∀ p ∈ T, p.1 = (He.cT K (f, none)).2 → p.2 = lamQ f
/-- as mkG, the def's code object told -/
theorem mkGL {P : Program} {w : World} {K : Frg} {T : List (Addr × Str)} {mg : Str → Option Value} {base : Heap} {f : Str} {st : Stmt} {N ps : List Str} {k : Nat} {g : List Dt → Rs → Prop}
    (F : ∃ fd, FunD K f f (defArgs st) (defBody st) (defScope st) [] [] (He.ga K f) fd) (hm : mg f = some (.ref (He.ga K f))) (S : FnScope N ps (defScope st))
    (hb : ∀ (kV doc pm : Value) (an : Option Addr) (cdv ct : Value) (us : List Value), us.length = ps.length → bindArgs (PySem.W.fnOf f f (defArgs st) (defBody st) (defScope st) .none kV doc pm an cdv ct) ⟨us, []⟩ = pure (ps.zip us))
    (len : ∀ ds r, g ds r → ds.length = ps.length)
    (hbody : ∀ (A : Around) (outer : List Env) (s : Shared) (H : Hp) (E : XK), Room k (A.deeper (envOfC f (defScope st) s.heap.objs.size (He.ga K f) (.ref (He.cT K (f, none)).1))) →
      ∃ t, PSs (cxOf (L2.CX P w) P w K mg base N f (defScope st) (He.ga K f) (.ref (He.cT K (f, none)).1) A outer s H E) (defBody st) t ∧ ∀ O ds r, g ds r → RunS ⟨K, T, H, O⟩ E t (start N ds) (poR r)) : Gd P w K mg base f ps (k + 1) (spD K T g) := by
  obtain ⟨fd, F⟩ := F
  have kb := F.bindsN hb
  obtain ⟨oc, od, dV, kV, doc, pm, an, cdv, ct, osl, e, lk, hc⟩ := fnd_of F
  obtain ⟨c, rfl⟩ := He.codeIn_ref hc
  have ec : (He.cT K (f, none)).1 = c := He.codeOf_eq (p := (f, none)) lk rfl
  subst ec
  subst e
  refine ⟨_, _, fn_of lk hc S (fun vs H Q E h => spD_len len vs H Q E h) (fun A outer s H vs Q E hr h => ?_), kb, F.kp, hm⟩
  obtain ⟨t, ht, run⟩ := hbody A outer s H E hr
  exact ⟨t, ht, fin h run⟩
/-- a word between a statement and the rest -/
theorem r_cut {C : Ct} {E : XK} {t u : TS} {A : AS} {P : Po} (M : AS → Prop) (h : RunS C E t A { P with nx := M }) (k : ∀ A', M A' → RunS C E u A' P) : RunS C E (tSeq t u) A P := r_seq fun os σ H D o T =>
  h os σ H D o ⟨fun os1 A1 σ1 H1 m k1 g => T.nx os1 A1 σ1 H1 (k A1 m) k1 g, T.rt, T.bk, T.ct, T.er⟩
theorem r_ifTs {C : Ct} {E : XK} {tt : TT} {t u : TS} {A : AS} {P : Po} (hc : EvT C tt A true A) (h1 : RunS C E t A P) : RunS C E (tIfS tt t u) A P := r_ifT hc h1
theorem r_ifFs {C : Ct} {E : XK} {tt : TT} {t u : TS} {A : AS} {P : Po} (hc : EvT C tt A false A) (h1 : RunS C E u A P) : RunS C E (tIfS tt t u) A P := r_ifF hc h1
theorem r_ifs {C : Ct} {E : XK} {tt : TT} {t u : TS} {A : AS} {P : Po} {b : Bool} (hc : EvT C tt A b A) (h1 : b = true → RunS C E t A P) (h2 : b = false → RunS C E u A P) : RunS C E (tIfS tt t u) A P := r_if hc h1 h2
/-! ### the square-and-multiply promise: F i stands for the i-th power -/
def gRep : (List Dt → Dt → Prop) → List Dt → Dt → Prop := fun R ds r => ∃ (F : Nat → Dt) (n : Nat), ds = [F 0, F 1, di (n : Int)] ∧ (∀ i j, i + j ≤ n → R [F i, F j] (F (i + j))) ∧ r = F n
end Py
end

section
set_option Elab.async false
set_option linter.all false
set_option maxRecDepth 100000
set_option maxHeartbeats 4000000
set_option autoImplicit false
set_option exponentiation.threshold 100
namespace Py
open PySem PySem.Spec PyProof.Rows L2
/-! ### xs[i] = e, xs one's own -/
section
variable {C : Ct} {E : XK} {A A1 : AS} {te ti : TE} {d : Dt} {P : Po}
theorem r_setO {i n j : Nat} {z : Int} {xs : List Dt} (he : EvS C te A d A1) (h1 : A1.sl[i]? = some (.own n)) (h2 : A1.st[n]? = some (.lst xs)) (hj : ixN xs.length z = some j) (h : P.nx (A1.upO n (xs.set j d))) : RunS C E (tAsg te (gSub (tVar i) (tC (.int z)) rSetL)) A P := fun os σ H D k T =>
  he os σ H k _ fun os1 v H1 k1 e1 i1 => by
    obtain ⟨o, f1, a, f2, f3⟩ := k1.slot h1
    subst f2
    obtain ⟨o3, s1, a3, vs, s2, s3, s4⟩ := k1.store h2
    rw [f3] at s1; cases s1; cases s2
    refine ⟨_, f1, a, vs, z, j, rfl, rfl, s3, by rw [isA_len s4]; exact hj, ?_⟩
    refine T.nx os1 _ _ _ h (k1.upO f3 h2 (isA_set s4 i1)) (e1.trans ⟨?_, fun b hb => ?_, fun _ _ h => h⟩)
    · rw [Rh_upd (mem_hid.mpr (.inr (List.mem_of_getElem? f3)))]
      exact Ex.refl _
    · rw [upd_ne fun q => k1.dj b hb (by rw [q]; exact List.mem_of_getElem? f3)]
end
/-! ### the dice -/
structure Dice where
  x : Int
  y : Int
  z : Int
def Dice.ds (d : Dice) : List Dt := [di d.x, di d.y, di d.z]
def Dice.vs (d : Dice) : List V := [.int d.x, .int d.y, .int d.z]
def mkDice (c : Int) : Dice := if -10 < c ∧ c < 10 then ⟨c.natAbs, 0, 2⟩ else ⟨c, 1 + c.fmod 1009, if 10 ^ 18 ≤ c then 1 else 0⟩
def rollV (d : Dice) (m : Int) : Int := if d.z = 2 ∨ (d.z = 1 ∧ 0 < d.x) then d.x.fmod m else (((d.x * 48271 + d.y * 69621 + 11).fmod 2147483647).fdiv 7).fmod m
def rollD (d : Dice) (m : Int) : Dice := if d.z = 2 ∨ (d.z = 1 ∧ 0 < d.x) then ⟨d.x.fdiv m, d.y, d.z⟩ else ⟨(d.x * 48271 + d.y * 69621 + 11).fmod 2147483647, d.y + 1, 0⟩
/-- after at most c rolls -/
structure DOk (c : Nat) (d : Dice) : Prop where
  x : d.x.natAbs < 2 ^ 2000000
  y : d.y.natAbs ≤ 1010 + c
theorem roll_lt {d : Dice} {m : Int} (h : 0 < m) : 0 ≤ rollV d m ∧ rollV d m < m := by
  unfold rollV
  split
  · exact ⟨Int.fmod_nonneg_of_pos _ h, Int.fmod_lt_of_pos _ h⟩
  · exact ⟨Int.fmod_nonneg_of_pos _ h, Int.fmod_lt_of_pos _ h⟩
theorem fdiv_le_abs (a b : Int) (hb : 0 < b) : (a.fdiv b).natAbs ≤ a.natAbs := by
  rw [Int.fdiv_eq_ediv_of_nonneg a (by omega)]
  rcases Int.le_total 0 a with h | h
  · have h1 := Int.ediv_nonneg h (show 0 ≤ b by omega)
    have h2 := Int.ediv_le_self b h
    omega
  · have h1 : a / b ≤ 0 := by simpa using Int.ediv_le_ediv hb h
    have h2 : a ≤ a / b := by
      have e := Int.mul_ediv_add_emod a b
      have l2 := Int.emod_lt_of_pos a hb
      rcases Int.lt_or_le (a / b) a with z | z
      · have : b * (a / b + 1) ≤ b * a := Int.mul_le_mul_of_nonneg_left (by omega) (by omega)
        have : b * a ≤ 1 * a := Int.mul_le_mul_of_nonpos_right (by omega) h
        grind
      · exact z
    omega
theorem roll_ok {d : Dice} {m : Int} {c : Nat} (h : DOk c d) (hm : 0 < m) : DOk (c + 1) (rollD d m) := by
  unfold rollD
  split
  · exact ⟨Nat.lt_of_le_of_lt (fdiv_le_abs _ _ hm) h.x, Nat.le_trans h.y (by omega)⟩
  · refine ⟨?_, ?_⟩
    · show ((d.x * 48271 + d.y * 69621 + 11).fmod 2147483647).natAbs < 2 ^ 2000000
      have h1 := Int.fmod_nonneg_of_pos (d.x * 48271 + d.y * 69621 + 11) (show (0 : Int) < 2147483647 by decide)
      have h2 := Int.fmod_lt_of_pos (d.x * 48271 + d.y * 69621 + 11) (show (0 : Int) < 2147483647 by decide)
      have h3 : 2 ^ 31 ≤ 2 ^ 2000000 := Nat.pow_le_pow_right (by decide) (by decide)
      omega
    · show (d.y + 1).natAbs ≤ 1010 + (c + 1)
      have := h.y
      omega
theorem mkDice_ok {c : Int} (h : Sz 1048576 c) : DOk 0 (mkDice c) := by
  unfold mkDice
  have hp : 10 < 2 ^ 2000000 := Nat.lt_of_lt_of_le (by decide : 10 < 2 ^ 4) (Nat.pow_le_pow_right (by decide) (by decide))
  split
  · refine ⟨?_, by show (0 : Int).natAbs ≤ _; omega⟩
    show ((c.natAbs : Int)).natAbs < 2 ^ 2000000
    omega
  · refine ⟨Nat.lt_of_lt_of_le h (Nat.pow_le_pow_right (by decide) (by decide)), ?_⟩
    show (1 + c.fmod 1009).natAbs ≤ _
    have h1 := Int.fmod_nonneg_of_pos c (show (0 : Int) < 1009 by decide)
    have h2 := Int.fmod_lt_of_pos c (show (0 : Int) < 1009 by decide)
    omega
/-- what a roll promises: the dice at a has turned, all else stands -/
def spRoll (K : Frg) (T : List (Addr × Str)) : Sp := fun vs H Q _ => ∃ (a : Addr) (d : Dice) (m : Int) (c : Nat), vs = [.ref a, .int m] ∧ H a = some (.lst d.vs) ∧ DOk c d ∧ c ≤ 1000000 ∧ 0 < m ∧ Sz 8000 m ∧ LamX.Tabs T H ∧
  ∀ H', (∀ b o, b ≠ a → H b = some o → NoT o → H' b = some o) → LamX.Tabs T H' → H' a = some (.lst (rollD d m).vs) → Q (.int (rollV d m)) H'
section
variable {C : Ct} {E : XK} {A A1 : AS} {te ti : TE} {P : Po} {i n c : Nat} {d : Dice} {m : Int}
theorem vs_of {K : Frg} {H : Hp} {d : Dice} {vs : List V} (h : IsA K H d.ds vs) : vs = d.vs := by
  simp only [Dice.ds, IsA, Is] at h
  obtain ⟨v, w, rfl, rfl, v', w', rfl, rfl, v'', w'', rfl, rfl, rfl⟩ := h
  rfl
theorem ds_of {K : Frg} {H : Hp} {d : Dice} : IsA K H d.ds d.vs := isA_cons is_v (isA_cons is_v (isA_cons is_v isA_nil))
/-- roll(dice, m) -/
theorem e_roll {E' : XK} (h1 : A.sl[i]? = some (.own n)) (h2 : A.st[n]? = some (.lst d.ds)) (hm : EvS C te A (di m) A) (hk : DOk c d) (hc : c ≤ 1000000) (h0 : 0 < m) (hs : Sz 8000 m) :
    EvS C (tCall (spRoll C.K C.T) [] E' (tCons (tVar i) (tCons te tNil))) A (di (rollV d m)) (A.upO n (rollD d m).ds) := fun os σ H k Q q => by
  obtain ⟨o, f1, a, f2, f3⟩ := k.slot h1
  subst f2
  refine ⟨_, f1, hm os σ H k _ fun os1 v H1 k1 g1 i1 => ?_⟩
  rw [Is.v_iff.mp i1]
  have f3' := g1.p n _ f3
  obtain ⟨o3, s1, a3, vs, s2, s3, s4⟩ := k1.store h2
  rw [f3'] at s1; cases s1; cases s2
  rw [vs_of s4] at s3
  refine ⟨a, d, m, c, rfl, s3, hk, hc, h0, hs, k1.tb, fun H' e t ha => ?_⟩
  -- the heap behind: H1 with the dice turned, and more
  have hh : a ∈ hid C.O os1 := mem_hid.mpr (.inr (List.mem_of_getElem? f3'))
  have ku := k1.upO f3' h2 (ys := (rollD d m).ds) ds_of
  have ex : Ex (upd H1 a (.lst (rollD d m).vs)) H' := fun b o hb nt => by
    by_cases eb : b = a
    · subst eb
      rw [upd_same] at hb
      cases hb
      exact ha
    · rw [upd_ne eb] at hb
      exact e b o eb hb nt
  have kf := ku.mono ex t
  refine q os1 _ H' kf (g1.trans ⟨?_, fun b hb => ?_, fun _ _ h => h⟩) is_v
  · have := hd_mono (O := hid C.O os1) ex
    rw [show hd (hid C.O os1) (upd H1 a _) = Rh C.O os1 H1 from Rh_upd hh] at this
    exact this
  · obtain ⟨o, hb1, nt⟩ := k1.ol b hb
    have ne : b ≠ a := fun z => k1.dj b hb (by rw [z]; exact List.mem_of_getElem? f3')
    rw [hb1]
    exact e b o ne hb1 nt
/-- nothing but a table is known there -/
def Fr0 (H : Hp) (a : Addr) : Prop := ∀ o, H a = some o → ¬ NoT o
/-- a new dice; a new list that holds one new dice -/
def spDice (K : Frg) (T : List (Addr × Str)) : Sp := fun vs H Q _ => ∃ c : Int, vs = [.int c] ∧ Sz 1048576 c ∧ LamX.Tabs T H ∧ ∀ (a : Addr) (H' : Hp), Fr0 H a → Ex H H' → LamX.Tabs T H' → H' a = some (.lst (mkDice c).vs) → Q (.ref a) H'
def spRounds (K : Frg) (T : List (Addr × Str)) : Sp := fun vs H Q _ => ∃ (s : Addr) (ns : List Int), vs = [.ref s, .int 1] ∧ SqL K H s (ns.map V.int) ∧ ns.length ≤ 63 ∧ (∀ z ∈ ns, Sz 1048576 z) ∧ LamX.Tabs T H ∧
  ∀ (p a : Addr) (H' : Hp), Fr0 H p → Fr0 H a → p ≠ a → Ex H H' → LamX.Tabs T H' → H' p = some (.lst [.ref a]) → H' a = some (.lst (mkDice (ns.headD 0)).vs) → Q (.ref p) H'
/-- for dice in rounds(script, 1): one turn, with a dice of one's own -/
theorem r_rounds {E' : XK} {tb : TS} {ns : List Int} {j : Nat} (hs : A.sl[i]? = some (.d (.lst (ns.map di)))) (hl : ns.length ≤ 63) (hz : ∀ z ∈ ns, Sz 1048576 z)
    (hb : RunS C E tb (A.newO j (mkDice (ns.headD 0)).ds) { P with nx := P.nx, ct := P.nx, bk := P.nx }) : RunS C E (tFor (iList C.K (tCall (spRounds C.K C.T) [] E' (tCons (tVar i) (tCons (tC (.int 1)) tNil)))) (gName j) tb) A P := fun os σ H D k T => by
  obtain ⟨o, f1, v, f2, f3⟩ := k.slot hs
  subst f2
  rw [Is] at f3
  obtain ⟨s, vs, rfl, g1, g2⟩ := f3
  have ev : vs = ns.map V.int := by
    clear g1 hs hl hz hb f1
    induction ns generalizing vs with
    | nil => simpa [IsA] using g2
    | cons a r ih =>
      rw [List.map_cons, IsA] at g2
      obtain ⟨v, w, rfl, h1, h2⟩ := g2
      rw [Is.v_iff.mp h1, ih w h2]
      rfl
  subst ev
  refine ⟨_, f1, s, ns, rfl, hd_ex.l g1, hl, hz, k.tb, fun p a H1 hp ha hpa e t hp1 ha1 => ⟨p, rfl, ⟨_, SqL.of hp1⟩, ?_⟩⟩
  have np : some p ∉ os := fun z => by
    obtain ⟨o, q, n⟩ := (k.fr p z).2
    exact hp o q n
  have npO : p ∉ C.O := fun z => by
    obtain ⟨o, q, n⟩ := k.ol p z
    exact hp o q n
  -- the heap without the dice
  let G : Hp := fun b => if b = a then none else H1 b
  have gne : ∀ b, b ≠ a → G b = H1 b := fun b z => if_neg z
  have gG : upd G a (.lst (mkDice (ns.headD 0)).vs) = H1 := by
    funext b
    by_cases z : b = a
    · rw [z, upd_same, ha1]
    · rw [upd_ne z, gne b z]
  have eG : Ex H G := fun b o h n => by
    rw [gne b (fun z => by rw [z] at h; exact ha o h n)]
    exact e b o h n
  have tG : LamX.Tabs C.T G := fun q hq => by
    obtain ⟨qs, h1, h2, h3⟩ := t q hq
    refine ⟨qs, ?_, h2, fun pos cv hc => ?_⟩
    · rw [gne _ (ne_of h1 ha1 fun z => by cases z)]
      exact h1
    · obtain ⟨c, e1, e2⟩ := h3 pos cv hc
      refine ⟨c, e1, ?_⟩
      rw [gne _ (ne_of e2 ha1 fun z => by unfold LamX.CodeO at z; cases z)]
      exact e2
  have k1 := k.mono eG tG
  have k2 := k1.newO (i := j) (p := a) (if_pos rfl) (ds_of (d := mkDice (ns.headD 0)))
  rw [gG] at k2
  have g1 : Gr C.O os H (os ++ [some a]) H1 := by
    refine ⟨?_, fun b hb => ?_, fun k x h => by rw [List.getElem?_append_left (List.getElem?_eq_some_iff.mp h).1]; exact h⟩
    · have := hd_mono (O := hid C.O os) eG
      rw [← gG, Rh_app (show G a = none from if_pos rfl)]
      exact this
    · obtain ⟨o, q, n⟩ := k.ol b hb
      rw [q, e b o q n]
  have pH : p ∉ hid C.O (os ++ [some a]) := fun z => by
    rcases mem_hid.mp z with z | z
    · exact npO z
    · rcases List.mem_append.mp z with z | z
      · exact np z
      · simp at z; exact hpa z
  refine for_list (K := C.K) (a := p) (xs := [V.ref a]) (fun i σ' H' => SqL C.K H' p [V.ref a] ∧ ((i = 0 ∧ σ' = σ ∧ H' = H1) ∨ (i = 1 ∧ D.nx σ' H'))) ⟨SqL.of hp1, .inl ⟨rfl, rfl, rfl⟩⟩ (fun i σ' H' _ h => h.1) ?_ ?_
  · rintro i x σ' H' hx ⟨_, h⟩
    rcases h with ⟨rfl, rfl, rfl⟩ | ⟨rfl, _⟩
    · cases hx
      have here : ∀ {os3 H3}, Gr C.O (os ++ [some a]) H' os3 H3 → SqL C.K H3 p [V.ref a] := fun {os3 H3} g => SqL.of (hd_ex p _ (g.e p _ (by
        show hd _ H' p = _
        rw [hd_of pH]
        exact hp1) nt_l) nt_l)
      exact hb _ _ H' _ k2 ⟨fun os3 A3 σ3 H3 h k3 g3 => ⟨here g3, .inr ⟨rfl, T.nx os3 A3 σ3 H3 h k3 (g1.trans g3)⟩⟩, fun os3 A3 σ3 d v H3 h k3 g3 i3 => T.rt os3 A3 σ3 d v H3 h k3 (g1.trans g3) i3, fun os3 A3 σ3 H3 h k3 g3 => T.nx os3 A3 σ3 H3 h k3 (g1.trans g3), fun os3 A3 σ3 H3 h k3 g3 => ⟨here g3, .inr ⟨rfl, T.nx os3 A3 σ3 H3 h k3 (g1.trans g3)⟩⟩, T.er⟩
    · cases hx
  · rintro σ' H' ⟨_, h⟩
    rcases h with ⟨z, _⟩ | ⟨_, h⟩
    · cases z
    · exact h
end
theorem o_is {C : Ct} {r : R2} {x y z z' : Dt} (h : OpS C r x y z) (e : z = z') : OpS C r x y z' := by rw [← e]; exact h
/-! ### a new list handed back; a list of one's own as a parameter -/
theorem flat_isA {K : Frg} {H : Hp} : ∀ {vs : List V}, IsA K H (vs.map .v) vs
  | [] => isA_nil
  | _ :: _ => isA_cons is_v flat_isA
theorem flat_eq {K : Frg} {H : Hp} : ∀ {vs ws : List V}, IsA K H (vs.map .v) ws → ws = vs
  | [], ws, h => by rw [List.map_nil, IsA] at h; exact h
  | v :: r, ws, h => by
    rw [List.map_cons, IsA] at h
    obtain ⟨u, w, rfl, h1, h2⟩ := h
    rw [Is.v_iff.mp h1, flat_eq h2]
theorem start_flat {K : Frg} {T : List (Addr × Str)} {N : List Str} {vs : List V} {H : Hp} (ht : LamX.Tabs T H) : Ok ⟨K, T, H, []⟩ [] (start N (vs.map .v)) (L2.start N vs) H := start_ok (fun a h => by cases h) ht flat_isA
/-- return [..] of flat values: a new list -/
theorem ret_newL {K : Frg} {T : List (Addr × Str)} {H H1 : Hp} {A A1 : AS} {os : List (Option Addr)} {σ : Sg} {tl : TA} {xs : List V} {Q : VK} {D : Ends} {ds : List Dt} (k : Ok ⟨K, T, H, []⟩ os A σ H1) (h : EvA ⟨K, T, H, []⟩ tl A ds A1) (hl : xs.length ≤ 100000) (hd : ds = xs.map .v) (hD : D.rt = Q)
    (q : ∀ a H', Fr0 H a → Ex H H' → LamX.Tabs T H' → H' a = some (.lst xs) → Q (.ref a) H') : tRet (tLst tl) D σ H1 := by
  show tLst tl σ H1 D.rt
  rw [hD]
  refine h os σ H1 k _ fun os2 vs H2 k2 g2 i2 => ?_
  subst hd
  rw [flat_eq i2]
  refine ⟨Nat.le_trans hl (by decide), fun p hp => q p _ (fun o e n => ?_) (k2.ex.trans (Ex.new hp)) (tabs_new k2.tb hp) upd_same⟩
  have := k2.ex p o e n
  rw [hp] at this
  cases this
/-- the entry where the first parameter is a list that the def changes -/
theorem start_own {K : Frg} {T : List (Addr × Str)} {N : List Str} {a : Addr} {xs ws : List V} {H : Hp} (ht : LamX.Tabs T H) (ha : H a = some (.lst xs)) :
    Ok ⟨K, T, fun b => if b = a then none else H b, []⟩ [some a] ⟨.own 0 :: (ws.map fun v => SD.d (.v v)) ++ List.replicate (N.length - (ws.length + 1)) .un, [.lst (xs.map .v)]⟩ (L2.start N (.ref a :: ws)) H := by
  refine ⟨fun b o e n => ?_, ht, fun b h => (by cases h), fun b h => (by cases h), rfl, fun i j b h1 h2 => ?_, fun b h => ?_, ?_, fun i s o h1 h2 => ?_, fun i s o h1 h2 => ?_⟩
  · have e : (if b = a then none else H b) = some o := e
    split at e
    · cases e
    · exact e
  · cases i with
    | succ i => simp at h1
    | zero =>
      cases j with
      | succ j => simp at h2
      | zero => rfl
  · simp at h
    subst h
    refine ⟨fun o e => ?_, _, ha, nt_l⟩
    have e : (if b = b then none else H b) = some o := e
    rw [if_pos rfl] at e
    cases e
  · simp [L2.start]
  · cases i with
    | zero =>
      simp [L2.start] at h1 h2
      subst h1 h2
      exact ⟨a, rfl, rfl⟩
    | succ i =>
      have h1 : ((ws.map fun v => SD.d (.v v)) ++ List.replicate (N.length - (ws.length + 1)) SD.un)[i]? = some s := by simpa using h1
      have h2 : (ws.map some ++ List.replicate (N.length - (ws.length + 1)) none)[i]? = some o := by simpa [L2.start] using h2
      rw [List.getElem?_append] at h1 h2
      simp only [List.length_map] at h1 h2
      split at h1
      · rename_i q
        rw [if_pos q] at h2
        rw [List.getElem?_map] at h1 h2
        cases e1 : ws[i]? with
        | none => rw [e1] at h1; cases h1
        | some v =>
          rw [e1] at h1 h2
          cases h1; cases h2
          exact ⟨v, rfl, is_v⟩
      · rw [List.getElem?_replicate] at h1
        split at h1
        · cases h1; exact True.intro
        · cases h1
  · cases i with
    | zero =>
      simp at h1 h2
      subst h1 h2
      exact ⟨a, xs, rfl, ha, flat_isA⟩
    | succ i => simp at h1
end Py
end

section
set_option Elab.async false
set_option linter.all false
set_option maxRecDepth 100000
set_option maxHeartbeats 4000000
set_option autoImplicit false
namespace Py
open PySem PySem.Spec PyProof.Rows L2
/-! ### parts of lists -/
def EvO (C : Ct) (t : TO) (A : AS) (o : Option Int) (A1 : AS) : Prop := ∀ os σ H, Ok C os A σ H → ∀ Q, (∀ os' H', Ok C os' A1 σ H' → Gr C.O os H os' H' → Q o H') → t σ H Q
def cutL (xs : List Dt) (lo hi : Option Int) : List Dt := (xs.drop (HT.sIx xs.length 0 lo)).take (HT.sIx xs.length xs.length hi - HT.sIx xs.length 0 lo)
section
variable {C : Ct} {E : XK} {A A1 A2 A3 : AS} {te ti : TE} {tl th : TO} {d : Dt} {P : Po} {lo hi : Option Int} {xs : List Dt}
theorem o_no : EvO C tNoPart A none A := fun os σ H k Q q => q os H k (Gr.refl)
theorem o_part {i : Int} (h : EvS C te A (di i) A1) : EvO C (tPart te) A (some i) A1 := fun os σ H k Q q =>
  h os σ H k _ fun os1 v H1 k1 e1 i1 => ⟨i, Is.v_iff.mp i1, q os1 H1 k1 e1⟩
theorem isA_cutL {K : Frg} {H : Hp} {vs : List V} (h : IsA K H xs vs) : IsA K H (cutL xs lo hi) (cutV vs lo hi) := by
  unfold cutL cutV
  rw [isA_len h]
  exact isA_cut _ _ h
/-- xs[lo:hi] -/
theorem e_slL (h : EvS C te A (.lst xs) A1) (h1 : EvO C tl A1 lo A2) (h2 : EvO C th A2 hi A3) : EvS C (tSl (rSlL C.K) te tl th) A (.lst (cutL xs lo hi)) A3 := fun os σ H k Q q =>
  h os σ H k _ fun os1 v H1 k1 e1 i1 => h1 os1 σ H1 k1 _ fun os2 H2 k2 e2 => h2 os2 σ H2 k2 _ fun os3 H3 k3 e3 => by
    have i3 := Is.mono (e2.e.trans e3.e) _ _ i1
    rw [Is] at i3
    obtain ⟨a, vs, rfl, g1, g2⟩ := i3
    refine ⟨a, vs, rfl, hd_ex.l g1, fun p hp => q os3 _ _ (k3.monoN hp) ((e1.trans (e2.trans e3)).trans (k3.gr (Ex.new hp))) ?_⟩
    rw [Is]
    exact ⟨p, _, rfl, SqL.of (k3.fresh hp), IsA.mono (hd_mono (Ex.new hp)) _ _ (isA_cutL g2)⟩
end
theorem seq_last {a b c : TS} {D : Ends} {σ : Sg} {H : Hp} (h : tSeq a (tSeq b tNext) { D with nx := c D } σ H) : tSeq a (tSeq b c) D σ H := h
/-- return [dice(cell) for cell in cells], cells of one cell -/
theorem ret_dice {K : Frg} {T : List (Addr × Str)} {H H1 : Hp} {A : AS} {os : List (Option Addr)} {σ : Sg} {Q : VK} {D : Ends} {c : Int} {i j : Nat} {E' : XK} (k : Ok ⟨K, T, H, []⟩ os A σ H1) (hA : A.sl[i]? = some (.d (.lst [di c]))) (hz : Sz 1048576 c) (hij : i ≠ j) (hj : j < σ.length) (hD : D.rt = Q)
    (q : ∀ p a H', Fr0 H p → Fr0 H a → p ≠ a → Ex H H' → LamX.Tabs T H' → H' p = some (.lst [.ref a]) → H' a = some (.lst (mkDice c).vs) → Q (.ref p) H') : tRet (tLc (iList K (tVar i)) (gName j) tYes (tCall (spDice K T) [] E' (tCons (tVar j) tNil)) [j]) D σ H1 := by
  show tLc _ _ _ _ _ σ H1 D.rt
  rw [hD]
  obtain ⟨o, f1, v, f2, f3⟩ := k.slot hA
  subst f2
  rw [Is] at f3
  obtain ⟨s, vs, rfl, g1, g2⟩ := f3
  have ev : vs = [V.int c] := flat_eq (vs := [V.int c]) g2
  subst ev
  refine ⟨_, f1, s, rfl, ⟨_, hd_ex.l g1⟩, fun p hp => ?_⟩
  refine lc_list (K := K) (a := s) (xs := [V.int c]) (fun i H' => (i = 0 ∧ H' = upd H1 p (.lst [])) ∨ (i = 1 ∧ ∃ a, Fr0 H p ∧ Fr0 H a ∧ p ≠ a ∧ Ex H H' ∧ LamX.Tabs T H' ∧ H' p = some (.lst [.ref a]) ∧ H' a = some (.lst (mkDice c).vs) ∧ SqL K H' s [V.int c])) (.inl ⟨rfl, rfl⟩) ?_ ?_ ?_
  · rintro i H' _ (⟨rfl, rfl⟩ | ⟨rfl, a, _, _, _, _, _, _, _, h⟩)
    · exact (Ex.new hp).l (hd_ex.l g1)
    · exact h
  · rintro i x H' hx (⟨rfl, rfl⟩ | ⟨rfl, _⟩)
    · cases hx
      have h1p : (wipe σ [j])[j]? = some none := wipe_in (List.mem_cons_self ..) hj
      refine ⟨(wipe_eq (by simp) fun i hi => List.getElem?_set_ne fun z => hi (by rw [← z]; exact List.mem_cons_self ..)).trans wipe_wipe, ?_⟩
      · unfold tYes
        dsimp only
        rw [if_pos rfl]
        refine ⟨_, ?_, c, rfl, hz, tabs_new k.tb hp, fun a H2 fa e t ha => ?_⟩
        · rw [List.getElem?_set_self (by rw [wipe_length]; exact hj)]
        have np : upd H1 p (.lst []) p = some (.lst []) := upd_same
        have pa : p ≠ a := fun z => fa _ (by rw [← z]; exact np) nt_l
        have ex1 : Ex H1 (upd H2 p (.lst [.ref a])) := fun b o hb n => by
          have nb : b ≠ p := fun z => by rw [z, hp] at hb; cases hb
          rw [upd_ne nb]
          exact e b o (by rw [upd_ne nb]; exact hb) n
        have hH2 : H2 p = some (.lst []) := e p _ np nt_l
        refine ⟨[], hH2, by show 0 < sizeLine; decide, .inr ⟨rfl, a, fun o h n => ?_, fun o h n => ?_, pa, k.ex.trans ex1, ?_, upd_same, ?_, ex1.l (hd_ex.l g1)⟩⟩
        · have := k.ex p o h n
          rw [hp] at this
          cases this
        · have q1 := k.ex a o h n
          exact fa o (by rw [upd_ne fun z => pa z.symm]; exact q1) n
        · intro q hq
          obtain ⟨qs, h1, h2, h3⟩ := t q hq
          refine ⟨qs, ?_, h2, fun pos cv hc => ?_⟩
          · rw [upd_ne (ne_of h1 hH2 fun z => by cases z)]
            exact h1
          · obtain ⟨c, e1, e2⟩ := h3 pos cv hc
            refine ⟨c, e1, ?_⟩
            rw [upd_ne (ne_of e2 hH2 fun z => by unfold LamX.CodeO at z; cases z)]
            exact e2
        · rw [upd_ne fun z => pa z.symm]
          exact ha
    · cases hx
  · rintro H' (⟨z, _⟩ | ⟨_, a, h1, h2, h3, h4, h5, h6, h7, _⟩)
    · cases z
    · exact q p a H' h1 h2 h3 h4 h5 h6 h7
end Py
end

section
set_option Elab.async false
set_option linter.all false
set_option maxRecDepth 100000
set_option maxHeartbeats 4000000
set_option autoImplicit false
namespace Py
open PySem PySem.Spec PyProof.Rows L2
/-- as mkG, for a def with defaults whose callers give all -/
theorem mkGD {P : Program} {w : World} {K : Frg} {T : List (Addr × Str)} {mg : Str → Option Value} {base : Heap} {f : Str} {st : Stmt} {N ps : List Str} {k : Nat} {g : List Dt → Rs → Prop} {a : Addr} {dvs : List V}
    (F : ∃ fd, FunD K f f (defArgs st) (defBody st) (defScope st) dvs [] a fd) (hm : mg f = some (.ref a)) (hd : dvs ≠ []) (S : FnScope N ps (defScope st))
    (hb : ∀ (T : Addr) (kV doc pm : Value) (an : Option Addr) (cdv ct : Value) (us its : List Value), us.length = ps.length → its.length = dvs.length →
      ∃ k, bindArgs (PySem.W.fnOf f f (defArgs st) (defBody st) (defScope st) (.ref T) kV doc pm an cdv ct) ⟨us, []⟩ = seqItems? (.ref T) >>= k ∧ k (some its.toArray) = pure (ps.zip (us ++ its.drop dvs.length)))
    (len : ∀ ds r, g ds r → ds.length = ps.length)
    (hbody : ∀ (cdv : Value) (A : Around) (outer : List Env) (s : Shared) (H : Hp) (E : XK), Room k (A.deeper (envOfC f (defScope st) s.heap.objs.size a cdv)) →
      ∃ t, PSs (cxOf (L2.CX P w) P w K mg base N f (defScope st) a cdv A outer s H E) (defBody st) t ∧ ∀ O ds r, g ds r → RunS ⟨K, T, H, O⟩ E t (start N ds) (poR r)) : Gd P w K mg base f ps (k + 1) (spD K T g) := by
  obtain ⟨fd, F⟩ := F
  obtain ⟨ds, hv, hB⟩ := F.binds1 (ps := ps) ps.length dvs.length hd (by omega) hb
  rw [List.drop_length] at hv
  cases hv
  refine ⟨a, fd, F.ok S (fun vs H Q E h => spD_len len vs H Q E h) (fun cdv A outer s H vs Q E hr h => ?_), hB, F.kp, hm⟩
  obtain ⟨t, ht, run⟩ := hbody cdv A outer s H E hr
  exact ⟨t, ht, fin h run⟩
/-- return f(..): what f gives or raises -/
theorem r_retCall {C : Ct} {E : XK} {A A1 : AS} {g : List Dt → Rs → Prop} {tl : TA} {ds : List Dt} {r : Rs} (ha : EvA C tl A ds A1) (hg : g ds r) : RunS C E (tRet (tCall (spD C.K C.T g) [] E tl)) A (poR r) := by
  cases r with
  | ok d => exact r_ret (e_call ha hg) rfl
  | err c => exact x_ret (x_call ha hg) rfl
/-! ### fractions -/
abbrev fr (p : Int × Int) : Dt := .tup [di p.1, di p.2]
/-- in lowest terms, the lower part above 0 (b ≠ 0) -/
def ratI (a b : Int) : Int × Int := if b < 0 then (a.fdiv (-(Int.gcd a b : Int)), b.fdiv (-(Int.gcd a b : Int))) else (a.fdiv (Int.gcd a b), b.fdiv (Int.gcd a b))
def ratR (e : Addr) (a b : Int) : Rs := if b = 0 then .err e else .ok (fr (ratI a b))
structure SzF (n : Nat) (p : Int × Int) : Prop where
  a : Sz n p.1
  b : Sz n p.2
theorem gcd_sz {n : Nat} {a b : Int} (hb : b ≠ 0) (h : Sz n b) : Sz n (Int.gcd a b : Int) := by
  unfold Sz at *
  have h1 : Int.gcd a b ≤ b.natAbs := Nat.le_of_dvd (by omega) (Int.gcd_dvd_natAbs_right a b)
  omega
theorem gcd_ne {a b : Int} (hb : b ≠ 0) : (Int.gcd a b : Int) ≠ 0 := by
  have := Int.gcd_pos_of_ne_zero_right a hb
  omega
theorem at0 {a b : Dt} : atI [a, b] 0 = some a := rfl
theorem at1 {a b : Dt} : atI [a, b] 1 = some b := rfl
end Py
end

section
set_option Elab.async false
set_option linter.all false
set_option maxRecDepth 100000
set_option maxHeartbeats 4000000
set_option autoImplicit false
set_option exponentiation.threshold 100
namespace Py
open PySem PySem.Spec PyProof.Rows L2
/-- a fraction as data -/
def qp (q : Rat) : Int × Int := (q.num, (q.den : Int))
abbrev fq (q : Rat) : Dt := fr (qp q)
theorem dn0 (q : Rat) : ((q.den : Int) : Rat) ≠ 0 := by
  intro e
  have h : ((q.den : Int) : Rat) = ((0 : Int) : Rat) := e
  have := Rat.intCast_inj.mp h
  have := q.den_nz
  omega
theorem rdiv (q : Rat) : (q.num : Rat) / ((q.den : Int) : Rat) = q := by rw [← Rat.divInt_eq_div, Rat.num_divInt_den]
theorem ratI_eq {a b : Int} (hb : b ≠ 0) : ratI a b = qp ((a : Rat) / (b : Rat)) := by
  rw [qp, ← Rat.divInt_eq_div, Rat.num_divInt, Rat.den_divInt, if_neg hb, Int.gcd_comm b a]
  unfold ratI
  have g0 := gcd_ne (a := a) hb
  obtain ⟨x, hx⟩ := Int.gcd_dvd_left (a := a) (b := b)
  obtain ⟨y, hy⟩ := Int.gcd_dvd_right (a := a) (b := b)
  have hn : (b.natAbs : Int) / (Int.gcd a b : Int) = (y.natAbs : Int) := by
    have : b.natAbs = Int.gcd a b * y.natAbs := by rw (occs := .pos [1]) [hy]; rw [Int.natAbs_mul]; rfl
    rw [this, Int.natCast_mul, Int.mul_ediv_cancel_left _ g0]
  rw [Int.natCast_ediv, hn]
  have gp : 0 < (Int.gcd a b : Int) := by omega
  generalize (Int.gcd a b : Int) = g at *
  have e1 : a.fdiv g = x := by rw [hx]; exact Int.mul_fdiv_cancel_left _ g0
  have e2 : b.fdiv g = y := by rw [hy]; exact Int.mul_fdiv_cancel_left _ g0
  have e3 : a.fdiv (-g) = -x := by rw [hx, show g * x = (-g) * (-x) by grind]; exact Int.mul_fdiv_cancel_left _ (by omega)
  have e4 : b.fdiv (-g) = -y := by rw [hy, show g * y = (-g) * (-y) by grind]; exact Int.mul_fdiv_cancel_left _ (by omega)
  by_cases h : b < 0
  · rw [if_pos h, e3, e4, Int.sign_eq_neg_one_of_neg h, hx, show -1 * (g * x) = g * (-x) by grind, Int.mul_ediv_cancel_left _ g0]
    have : y < 0 := by
      refine Int.not_le.mp fun c => ?_
      have := Int.mul_nonneg (Int.le_of_lt gp) c
      omega
    rw [show (y.natAbs : Int) = -y by omega]
  · rw [if_neg h, e1, e2, Int.sign_eq_one_of_pos (by omega), hx, show 1 * (g * x) = g * x by grind, Int.mul_ediv_cancel_left _ g0]
    have : 0 ≤ y := by
      refine Int.not_lt.mp fun c => ?_
      have := Int.mul_neg_of_pos_of_neg gp c
      omega
    rw [show (y.natAbs : Int) = y by omega]
theorem den_ne (q : Rat) : (q.den : Int) ≠ 0 := by have := q.den_nz; omega
theorem mul_ne {a b : Int} (ha : a ≠ 0) (hb : b ≠ 0) : a * b ≠ 0 := fun e => by
  rcases Int.mul_eq_zero.mp e with h | h
  · exact ha h
  · exact hb h
theorem num_ne {q : Rat} (h : q ≠ 0) : q.num ≠ 0 := fun e => h (by have := rdiv q; rw [e] at this; rw [← this]; grind)
theorem q_sum (p q : Rat) : ratI (p.num * q.den + q.num * p.den) (p.den * q.den) = qp (p + q) := by
  rw [ratI_eq (mul_ne (den_ne p) (den_ne q))]
  have h1 := rdiv p
  have h2 := rdiv q
  have d1 := dn0 p
  have d2 := dn0 q
  have : ((p.num * q.den + q.num * p.den : Int) : Rat) / ((p.den * q.den : Int) : Rat) = p + q := by
    rw [Rat.intCast_add, Rat.intCast_mul, Rat.intCast_mul, Rat.intCast_mul]
    generalize ((p.den : Int) : Rat) = d at *
    generalize ((q.den : Int) : Rat) = e at *
    grind
  rw [this]
theorem q_mul (p q : Rat) : ratI (p.num * q.num) (p.den * q.den) = qp (p * q) := by
  rw [ratI_eq (mul_ne (den_ne p) (den_ne q))]
  have h1 := rdiv p
  have h2 := rdiv q
  have d1 := dn0 p
  have d2 := dn0 q
  have : ((p.num * q.num : Int) : Rat) / ((p.den * q.den : Int) : Rat) = p * q := by
    rw [Rat.intCast_mul, Rat.intCast_mul]
    generalize ((p.den : Int) : Rat) = d at *
    generalize ((q.den : Int) : Rat) = e at *
    grind
  rw [this]
theorem q_quo (p : Rat) {q : Rat} (h : q ≠ 0) : ratI (p.num * q.den) (p.den * q.num) = qp (p / q) := by
  rw [ratI_eq (mul_ne (den_ne p) (num_ne h))]
  have h1 := rdiv p
  have h2 := rdiv q
  have d1 := dn0 p
  have d2 := dn0 q
  have : ((p.num * q.den : Int) : Rat) / ((p.den * q.num : Int) : Rat) = p / q := by
    rw [Rat.intCast_mul, Rat.intCast_mul]
    generalize ((p.den : Int) : Rat) = d at *
    generalize ((q.den : Int) : Rat) = e at *
    grind
  rw [this]
theorem qp_inj {p q : Rat} (h : qp p = qp q) : p = q := by
  have h1 : p.num = q.num := congrArg Prod.fst h
  have h2 : (p.den : Int) = (q.den : Int) := congrArg Prod.snd h
  exact Rat.ext h1 (by omega)
/-- the size of a fraction's numbers -/
structure SzQ (n : Nat) (q : Rat) : Prop where
  a : q.num.natAbs < 2 ^ n
  b : q.den < 2 ^ n
end Py
namespace Py
open PySem PySem.Spec PyProof.Rows L2
/-- a def whose callers leave its last parameters out -/
structure GdD (P : Program) (w : World) (K : Frg) (mg : Str → Option Value) (base : Heap) (f : Str) (ps : List Str) (k : Nat) (dvs : List V) (sp : Sp) : Prop where
  ex : ∃ (a : Addr) (fd : FuncData) (ds : List Value), FnOk P w K mg base (L2.CX P w) k a fd ps sp ∧ Vals dvs ds ∧ Binds K fd ps ds ∧ PySem.W.keepIn K (.ref a) = true ∧ mg f = some (.ref a)
theorem mkGDD {P : Program} {w : World} {K : Frg} {T : List (Addr × Str)} {mg : Str → Option Value} {base : Heap} {f : Str} {st : Stmt} {N ps : List Str} {k : Nat} {g : List Dt → Rs → Prop} {a : Addr} {dvs : List V} (m : Nat) (hm' : m + dvs.length = ps.length)
    (F : ∃ fd, FunD K f f (defArgs st) (defBody st) (defScope st) dvs [] a fd) (hm : mg f = some (.ref a)) (hd : dvs ≠ []) (S : FnScope N ps (defScope st))
    (hb : ∀ (T : Addr) (kV doc pm : Value) (an : Option Addr) (cdv ct : Value) (us its : List Value), us.length = m → its.length = dvs.length →
      ∃ k, bindArgs (PySem.W.fnOf f f (defArgs st) (defBody st) (defScope st) (.ref T) kV doc pm an cdv ct) ⟨us, []⟩ = seqItems? (.ref T) >>= k ∧ k (some its.toArray) = pure (ps.zip (us ++ its.drop 0)))
    (len : ∀ ds r, g ds r → ds.length = ps.length)
    (hbody : ∀ (cdv : Value) (A : Around) (outer : List Env) (s : Shared) (H : Hp) (E : XK), Room k (A.deeper (envOfC f (defScope st) s.heap.objs.size a cdv)) →
      ∃ t, PSs (cxOf (L2.CX P w) P w K mg base N f (defScope st) a cdv A outer s H E) (defBody st) t ∧ ∀ O ds r, g ds r → RunS ⟨K, T, H, O⟩ E t (start N ds) (poR r)) : GdD P w K mg base f ps (k + 1) dvs (spD K T g) := by
  obtain ⟨fd, F⟩ := F
  obtain ⟨ds, hv, hB⟩ := F.binds1 (ps := ps) m 0 hd (by omega) hb
  refine ⟨a, fd, ds, F.ok S (fun vs H Q E h => spD_len len vs H Q E h) (fun cdv A outer s H vs Q E hr h => ?_), hv, hB, F.kp, hm⟩
  obtain ⟨t, ht, run⟩ := hbody cdv A outer s H E hr
  exact ⟨t, ht, fin h run⟩
theorem pe_callGD {X : Cx} {k : Nat} {ps : List Str} {sp : Sp} {E : XK} {x : Str} {p pos : Pos} {e : Expr} {es : List Expr} {t : TA} {dvs : List V} (G : GdD X.prog X.w X.K X.mg X.base x ps k dvs sp) (hr : Room k X.A) (hx : Passes (L2.CX X.prog X.w) X E) (ha : PA X (e :: es) t) (hg : Gl X x := by rfl)
    (hdb : (x == ("__debug__" : Str)) = false := by decide) (he : starEach (e :: es) X.env = (false, eval e X.env) :: starEach es X.env := by rfl) (hpl : (backTo pos (starEach es X.env)).any (·.1) = false := by rfl) :
    PE X (.Call (.Name x p) (e :: es) [] pos) (tCall sp dvs E t) := by
  obtain ⟨a, fd, ds, F, hv, hb, hk, hm⟩ := G.ex
  exact pe_call F hr hg hm hk hb hv hx ha hdb he hpl
theorem e_callD {C : Ct} {A A1 : AS} {d : Dt} {g : List Dt → Rs → Prop} {E' : XK} {tl : TA} {ds : List Dt} {dvs : List V} (ha : EvA C tl A ds A1) (hg : g (ds ++ dvs.map Dt.v) (.ok d)) : EvS C (tCall (spD C.K C.T g) dvs E' tl) A d A1 := fun os σ H k Q q =>
  ha os σ H k _ fun os1 vs H1 k1 e1 i1 => ⟨hid C.O os1, ds ++ dvs.map Dt.v, .ok d, fun a h => k1.hidden h, k1.tb, isA_app i1 flat_isA, hg, fun v H' e t i => q os1 v H' (k1.mono e t) (e1.trans (k1.gr e)) i⟩
end Py
end

section
set_option Elab.async false
set_option linter.all false
set_option maxRecDepth 100000
set_option maxHeartbeats 4000000
set_option autoImplicit false
namespace Py
open PySem PySem.Spec PyProof.Rows L2
/-! ### a, b = [..], .. : new lists of one's own at once with others -/
def AS.putS (A : AS) (i : Nat) (s : SD) : AS := ⟨A.sl.set i s, A.st⟩
/-- a new list, in no slot yet -/
def AS.more (A : AS) (xs : List Dt) : AS := ⟨A.sl, A.st ++ [.lst xs]⟩
section
variable {C : Ct} {E : XK} {A A1 A2 : AS} {te : TE} {P : Po} {s s1 s2 : SD} {d : Dt}
theorem Ok.putS {os : List (Option Addr)} {σ : Sg} {H : Hp} {i : Nat} {v : V} (k : Ok C os A σ H) (h : SlOk C.K os (Rh C.O os H) s (some v)) : Ok C os (A.putS i s) (σ.set i (some v)) H := by
  refine ⟨k.ex, k.tb, k.ol, k.dj, k.ln, k.nd, k.fr, by simp [AS.putS, k.sn], fun j s o h1 h2 => ?_, k.st⟩
  have h1 : (A.sl.set i _)[j]? = some s := h1
  rw [List.getElem?_set] at h1 h2
  by_cases e : i = j
  · rw [if_pos e] at h1 h2
    split at h1
    · split at h2
      · cases h1; cases h2
        exact h
      · cases h2
    · cases h1
  · rw [if_neg e] at h1 h2
    exact k.sl j s o h1 h2
theorem Ok.more {os : List (Option Addr)} {σ : Sg} {H : Hp} {p : Addr} {xs : List Dt} {vs : List V} (k : Ok C os A σ H) (hp : H p = none) (hx : IsA C.K (Rh C.O os H) xs vs) : Ok C (os ++ [some p]) (A.more xs) σ (upd H p (.lst vs)) := by
  have h := k.newO (i := A.sl.length) hp hx
  unfold AS.newO at h
  rw [List.set_eq_of_length_le (Nat.le_refl _), List.set_eq_of_length_le (by rw [k.sn]; exact Nat.le_refl _)] at h
  exact h
theorem Gr.app {os : List (Option Addr)} {σ : Sg} {H : Hp} {p : Addr} {vs : List V} (k : Ok C os A σ H) (hp : H p = none) : Gr C.O os H (os ++ [some p]) (upd H p (.lst vs)) :=
  ⟨by rw [Rh_app hp]; exact Ex.refl _, fun a h => by obtain ⟨o, q, n⟩ := k.ol a h; rw [q, Ex.new hp _ _ q n], fun k x h => by rw [List.getElem?_append_left (List.getElem?_eq_some_iff.mp h).1]; exact h⟩
theorem SlOk.gr {K : Frg} {O : List Addr} {os os' : List (Option Addr)} {H H' : Hp} {o : Option V} (g : Gr O os H os' H') (h : SlOk K os (Rh O os H) s o) : SlOk K os' (Rh O os' H') s o := by
  cases s with
  | un => exact h
  | d x =>
    obtain ⟨v, e, i⟩ := h
    exact ⟨v, e, Is.mono g.e _ _ i⟩
  | own n =>
    obtain ⟨a, e, i⟩ := h
    exact ⟨a, e, g.p _ _ i⟩
def SlA (K : Frg) (os : List (Option Addr)) (R : Hp) : List SD → List V → Prop
  | [], vs => vs = []
  | s :: ss, vs => ∃ v w, vs = v :: w ∧ SlOk K os R s (some v) ∧ SlA K os R ss w
def EvP (C : Ct) (tl : TA) (A : AS) (ss : List SD) (A1 : AS) : Prop := ∀ os σ H, Ok C os A σ H → ∀ Q : List V → Hp → Prop, (∀ os' vs H', Ok C os' A1 σ H' → Gr C.O os H os' H' → SlA C.K os' (Rh C.O os' H') ss vs → Q vs H') → tl σ H Q
theorem p_nil : EvP C tNil A [] A := fun os σ H k Q q => q os [] H k Gr.refl rfl
theorem p_d {tr : TA} {ss : List SD} (ha : EvS C te A d A1) (hr : EvP C tr A1 ss A2) : EvP C (tCons te tr) A (.d d :: ss) A2 := fun os σ H k Q q =>
  ha os σ H k _ fun os1 v1 H1 k1 e1 i1 => hr os1 σ H1 k1 _ fun os2 vs H2 k2 e2 i2 => q os2 (v1 :: vs) H2 k2 (e1.trans e2) ⟨v1, vs, rfl, ⟨v1, rfl, Is.mono e2.e _ _ i1⟩, i2⟩
theorem p_l {tl tr : TA} {ss : List SD} {xs : List Dt} (ha : EvA C tl A xs A1) (hl : xs.length ≤ 100000) (hr : EvP C tr (A1.more xs) ss A2) : EvP C (tCons (tLst tl) tr) A (.own A1.st.length :: ss) A2 := fun os σ H k Q q =>
  ha os σ H k _ fun os1 vs H1 k1 e1 i1 => ⟨by rw [isA_len i1]; exact Nat.le_trans hl (by decide), fun p hp => hr _ σ _ (k1.more hp i1) _ fun os2 ws H2 k2 e2 i2 => q os2 _ H2 k2 (e1.trans ((Gr.app k1 hp).trans e2)) ⟨_, ws, rfl, ⟨p, rfl, e2.p _ _ (by rw [← k1.ln]; simp)⟩, i2⟩⟩
theorem r_parP {i j : Nat} {tl : TA} (h : EvP C tl A [s, s1] A1) (hn : P.nx ((A1.putS i s).putS j s1)) : RunS C E (tPar i j tl) A P := fun os σ H D k T =>
  h os σ H k _ fun os1 vs H1 k1 e1 i1 => by
    obtain ⟨v, w, rfl, h1, v', w', rfl, h2, rfl⟩ := i1
    exact ⟨v, v', rfl, T.nx os1 _ _ H1 hn ((k1.putS h1).putS h2) e1⟩
theorem r_par3P {i j l : Nat} {tl : TA} (h : EvP C tl A [s, s1, s2] A1) (hn : P.nx (((A1.putS i s).putS j s1).putS l s2)) : RunS C E (tPar3 i j l tl) A P := fun os σ H D k T =>
  h os σ H k _ fun os1 vs H1 k1 e1 i1 => by
    obtain ⟨v, w, rfl, h1, v', w', rfl, h2, v'', w'', rfl, h3, rfl⟩ := i1
    exact ⟨v, v', v'', rfl, T.nx os1 _ _ H1 hn (((k1.putS h1).putS h2).putS h3) e1⟩
end
end Py
end

section
set_option Elab.async false
set_option linter.all false
set_option maxRecDepth 100000
set_option maxHeartbeats 4000000
set_option autoImplicit false
namespace Py
open PySem PySem.Spec PyProof.Rows L2
/-! ### a tuple of the top -/
def KTup (K : Frg) (a : Addr) (vs : List V) : Prop := ∃ (o : Obj) (its : Array Value) (n : Nat), K.lookup a = some o ∧ o.cls = .type "tuple" ∧ o.data = .seq its n ∧ its.size ≤ sizeLine ∧ Vals vs its.toList
def TupC (K : Frg) (mg : Str → Option Value) (x : Str) (vs : List V) : Prop := ∃ a, mg x = some (.ref a) ∧ KTup K a vs
theorem e_cT {C : Ct} {A : AS} {a : Addr} {vs : List V} (h : KTup C.K a vs) : EvS C (tC (.ref a)) A (.tup (vs.map .v)) A := fun os σ H k Q q => by
  refine q os _ H k Gr.refl ?_
  rw [Is]
  exact ⟨a, vs, rfl, .inr h, flat_isA⟩
theorem TupC.c {mg : Str → Option Value} {x : Str} {a : Addr} (h : mg x = some (.ref a)) : ∃ u, mg x = some u ∧ RelV (.ref a) u := ⟨_, h, rfl⟩
/-- while, by what is left to go; a state that one names -/
theorem t_callB {C : Ct} {E : XK} {A A1 : AS} {g : List Dt → Rs → Prop} {E' : XK} {tl : TA} {ds : List Dt} {b : Bool} (ha : EvA C tl A ds A1) (hg : g ds (.ok (db b))) : EvS C (tCall (spD C.K C.T g) [] E' tl) A (db b) A1 := e_call ha hg
theorem t_val {C : Ct} {A A1 : AS} {te : TE} {b : Bool} (h : EvS C te A (db b) A1) : EvT C (tTest te) A b A1 := t_test h
end Py
end

section
set_option Elab.async false
set_option linter.all false
set_option maxRecDepth 100000
set_option maxHeartbeats 4000000
set_option autoImplicit false
namespace Py
open PySem PySem.Spec PyProof.Rows L2
/-! ### (a, b), c = .., [] -/
section
variable {C : Ct} {E : XK} {A A1 A2 : AS} {te : TE} {P : Po} {s : SD} {ss : List SD} {d : Dt} {g : TG} {gs : TGs}
def TgP (C : Ct) (g : TG) (s : SD) (A A' : AS) : Prop := ∀ os σ H v (Q : Sg → Hp → Prop), Ok C os A σ H → SlOk C.K os (Rh C.O os H) s (some v) → (∀ σ', Ok C os A' σ' H → Q σ' H) → g v σ H Q
def TgPA (C : Ct) (g : TGs) (ss : List SD) (A A' : AS) : Prop := ∀ os σ H vs (Q : Sg → Hp → Prop), Ok C os A σ H → SlA C.K os (Rh C.O os H) ss vs → (∀ σ', Ok C os A' σ' H → Q σ' H) → g vs σ H Q
theorem tgP_name {i : Nat} : TgP C (gName i) s A (A.putS i s) := fun os σ H v Q k i q => q _ (k.putS i)
theorem tgP_d (h : Tg C g d A A1) : TgP C g (.d d) A A1 := fun os σ H v Q k i q => by
  obtain ⟨w, e, j⟩ := i
  cases e
  exact h os σ H v Q k j q
theorem tgPA_nil : TgPA C gNil [] A A := fun os σ H vs Q k i q => ⟨i, q σ k⟩
theorem tgPA_cons (h : TgP C g s A A1) (h' : TgPA C gs ss A1 A2) : TgPA C (gCons g gs) (s :: ss) A A2 := fun os σ H vs Q k i q => by
  obtain ⟨v, w, rfl, h1, h2⟩ := i
  exact ⟨v, w, rfl, h os σ H v _ k h1 fun σ1 k1 => h' os σ1 H w Q k1 h2 q⟩
theorem slA_len {K : Frg} {os : List (Option Addr)} {R : Hp} : ∀ {ss : List SD} {vs : List V}, SlA K os R ss vs → vs.length = ss.length
  | [], vs, h => by rw [show vs = [] from h]; rfl
  | _ :: _, vs, h => by
    obtain ⟨v, w, rfl, _, h2⟩ := h
    simp [slA_len h2]
theorem slA_gr {K : Frg} {O : List Addr} {os os' : List (Option Addr)} {H H' : Hp} (g : Gr O os H os' H') : ∀ {ss : List SD} {vs : List V}, SlA K os (Rh O os H) ss vs → SlA K os' (Rh O os' H') ss vs
  | [], vs, h => h
  | _ :: _, vs, h => by
    obtain ⟨v, w, rfl, h1, h2⟩ := h
    exact ⟨v, w, rfl, h1.gr g, slA_gr g h2⟩
theorem r_tgP {tl : TA} {n : Nat} (he : EvP C tl A ss A1) (hl : ss.length = n) (hn : n ≤ 100000) (hg : TgPA C gs ss A1 A2) (h : P.nx A2) : RunS C E (tAsg (tTup tl) (gTup C.K n gs)) A P := fun os σ H D k T =>
  he os σ H k _ fun os1 vs H1 k1 e1 i1 => ⟨by rw [slA_len i1, hl]; exact Nat.le_trans hn (by decide), fun p hp => by
    have g1 := k1.gr (Ex.new (o := .tup vs) hp)
    have k2 := k1.monoN (o := .tup vs) hp
    exact ⟨p, vs, rfl, hd_ex.t (SqT.of (k1.fresh hp)), by rw [slA_len i1, hl], hg os1 _ _ vs _ k2 (slA_gr g1 i1) fun σ' k' => T.nx os1 _ _ _ h k' (e1.trans g1)⟩⟩
end
end Py
end

section
set_option Elab.async false
set_option linter.all false
set_option maxRecDepth 100000
set_option maxHeartbeats 4000000
set_option autoImplicit false
namespace Py
open PySem PySem.Spec PyProof.Rows L2
/-! ### f'..' -/
section
variable {C : Ct} {E : XK} {A A1 A2 : AS} {te ta tb : TE} {P : Po} {tt : TT}
def EvJ (C : Ct) (ts : List TE) (acc : Str) (A : AS) (out : Str) (A1 : AS) : Prop := ∀ os σ H, Ok C os A σ H → ∀ Q : Str → Hp → Prop, (∀ os' H', Ok C os' A1 σ H' → Gr C.O os H os' H' → Q out H') → tJs ts acc σ H Q
theorem j_nil {acc : Str} : EvJ C [] acc A acc A := fun os σ H k Q q => q os H k Gr.refl
theorem j_cons {ts : List TE} {acc y out : Str} (h : EvS C te A (ds y) A1) (hl : (acc ++ y).length ≤ sizeLine) (hr : EvJ C ts (acc ++ y) A1 out A2) : EvJ C (te :: ts) acc A out A2 := fun os σ H k Q q =>
  h os σ H k _ fun os1 v H1 k1 e1 i1 => ⟨y, Is.v_iff.mp i1, hl, hr os1 σ H1 k1 _ fun os2 H2 k2 e2 => q os2 H2 k2 (e1.trans e2)⟩
theorem e_joined {ts : List TE} {out : Str} (h : EvJ C ts Str.empty A out A1) : EvS C (fun σ H Q => tJs ts Str.empty σ H fun out H1 => Q (.str out) H1) A (ds out) A1 := fun os σ H k Q q =>
  h os σ H k _ fun os1 H1 k1 e1 => q os1 _ H1 k1 e1 is_v
end
end Py
end

section
set_option Elab.async false
set_option linter.all false
set_option maxRecDepth 100000
set_option maxHeartbeats 4000000
set_option autoImplicit false
namespace Py
open PySem PySem.Spec PyProof.Rows L2
/-! ### data that == tells true -/
mutual
inductive Nice : Nat → Dt → PyData → Prop
  | int {n : Nat} {i : Int} : Nice n (di i) (.int i)
  | bl {n : Nat} {b : Bool} : Nice n (db b) (.bool b)
  | non {n : Nat} : Nice n dn .none
  | str {n : Nat} {s : Str} (h : PyData.strOk s = true) : Nice n (ds s) (.str s)
  | tup {n : Nat} {xs : List Dt} {ps : List PyData} (h : NiceA n xs ps) : Nice (n + 1) (.tup xs) (.tuple ps)
  | lst {n : Nat} {xs : List Dt} {ps : List PyData} (h : NiceA n xs ps) : Nice (n + 1) (.lst xs) (.list ps)
inductive NiceA : Nat → List Dt → List PyData → Prop
  | nil {n : Nat} : NiceA n [] []
  | cons {n : Nat} {x : Dt} {p : PyData} {xs : List Dt} {ps : List PyData} (h : Nice n x p) (r : NiceA n xs ps) : NiceA n (x :: xs) (p :: ps)
end
theorem niceA_map {α : Type} {n : Nat} {f : α → Dt} {g : α → PyData} (h : ∀ a, Nice n (f a) (g a)) : ∀ l : List α, NiceA n (l.map f) (l.map g)
  | [] => .nil
  | a :: l => .cons (h a) (niceA_map h l)
mutual
theorem Nice.all {n : Nat} {x : Dt} {p : PyData} : Nice n x p → x.py = some p ∧ p.canLay0 = true ∧ p.depth ≤ n
  | .int => ⟨by rw [Dt.py], by rw [PyData.canLay0], by rw [PyData.depth]; exact Nat.zero_le _⟩
  | .bl => ⟨by rw [Dt.py], by rw [PyData.canLay0], by rw [PyData.depth]; exact Nat.zero_le _⟩
  | .non => ⟨by rw [Dt.py], by rw [PyData.canLay0], by rw [PyData.depth]; exact Nat.zero_le _⟩
  | .str h => ⟨by rw [Dt.py], by rw [PyData.canLay0]; exact h, by rw [PyData.depth]; exact Nat.zero_le _⟩
  | .tup h => by
    obtain ⟨h1, h2, h3⟩ := h.all
    exact ⟨by rw [Dt.py, h1]; rfl, by rw [PyData.canLay0]; exact h2, by rw [PyData.depth]; omega⟩
  | .lst h => by
    obtain ⟨h1, h2, h3⟩ := h.all
    exact ⟨by rw [Dt.py, h1]; rfl, by rw [PyData.canLay0]; exact h2, by rw [PyData.depth]; omega⟩
theorem NiceA.all {n : Nat} {xs : List Dt} {ps : List PyData} : NiceA n xs ps → Dt.pys xs = some ps ∧ PyData.canLayAll0 ps = true ∧ PyData.depthAll ps ≤ n
  | .nil => ⟨by rw [Dt.pys], by rw [PyData.canLayAll0], by rw [PyData.depthAll]; exact Nat.zero_le _⟩
  | .cons h r => by
    obtain ⟨h1, h2, h3⟩ := h.all
    obtain ⟨r1, r2, r3⟩ := r.all
    exact ⟨by rw [Dt.pys, h1, r1], by rw [PyData.canLayAll0, h2, r2]; rfl, by rw [PyData.depthAll]; omega⟩
end
theorem Nice.shaped {n : Nat} {x : Dt} {p : PyData} (h : Nice n x p) (hn : n ≤ 64) : SeqAt.shaped p = true := by
  obtain ⟨_, h2, h3⟩ := h.all
  unfold SeqAt.shaped
  rw [h2, decide_eq_true (Nat.le_trans h3 hn)]
  rfl
section
variable {C : Ct} {E : XK} {A A1 A2 : AS} {x y : Dt} {p q : PyData} {n m : Nat}
theorem o_eqN (h : Nice n x p) (h' : Nice m y q) (hn : n ≤ 64 := by decide) (hm : m ≤ 64 := by decide) : OpS C (rEqA C.K) x y (db (PyData.eqv p q)) := o_eqD h.all.1 h'.all.1 (h.shaped hn) (h'.shaped hm)
theorem o_neN (h : Nice n x p) (h' : Nice m y q) (hn : n ≤ 64 := by decide) (hm : m ≤ 64 := by decide) : OpS C (rNeA C.K) x y (db (!PyData.eqv p q)) := o_neD h.all.1 h'.all.1 (h.shaped hn) (h'.shaped hm)
/-- a thing and itself -/
theorem o_eqSame (h : Nice n x p) (hn : n ≤ 64 := by decide) : OpS C (rEqA C.K) x x (db true) := by
  have := o_eqN (C := C) h h hn hn
  rw [SeqAt.eqv_refl p h.all.2.1] at this
  exact this
theorem o_neSame (h : Nice n x p) (hn : n ≤ 64 := by decide) : OpS C (rNeA C.K) x x (db false) := by
  have := o_neN (C := C) h h hn hn
  rw [SeqAt.eqv_refl p h.all.2.1] at this
  exact this
theorem eqv_nil : ∀ ps : List PyData, PyData.eqv (.list ps) (.list []) = ps.isEmpty
  | [] => by rw [PyData.eqv, PyData.eqvAll]; rfl
  | p :: ps => by rw [PyData.eqv, PyData.eqvAll]; rfl
theorem niceA_len {xs : List Dt} {ps : List PyData} (h : NiceA n xs ps) : xs.isEmpty = ps.isEmpty := by cases h <;> rfl
/-- a list and [] -/
theorem o_eqNil {xs : List Dt} {ps : List PyData} (h : NiceA n xs ps) (hn : n ≤ 63 := by decide) : OpS C (rEqA C.K) (.lst xs) (.lst []) (db xs.isEmpty) := by
  have := o_eqN (C := C) (Nice.lst h) (Nice.lst (n := n) NiceA.nil) (by omega) (by omega)
  rw [eqv_nil, ← niceA_len h] at this
  exact this
theorem o_neNil {xs : List Dt} {ps : List PyData} (h : NiceA n xs ps) (hn : n ≤ 63 := by decide) : OpS C (rNeA C.K) (.lst xs) (.lst []) (db (!xs.isEmpty)) := by
  have := o_neN (C := C) (Nice.lst h) (Nice.lst (n := n) NiceA.nil) (by omega) (by omega)
  rw [eqv_nil, ← niceA_len h] at this
  exact this
theorem nice_ints (l : List Int) : NiceA 0 (l.map di) (l.map .int) := niceA_map (fun _ => .int) l
theorem nice_fr (q : Int × Int) : Nice 1 (.tup [di q.1, di q.2]) (.tuple [.int q.1, .int q.2]) := .tup (.cons .int (.cons .int .nil))
end
/-! ### the operators of a comprehension's own frame -/
section
variable {X : Cx} {K : Frg}
theorem op_eqAK (hK : X.K = K) (hu : X.A.units + 64 < cLine) : OpR X (compareOp .Eq) (rEqA K) := by subst hK; exact op_eqA hu
theorem op_neAK (hK : X.K = K) (hu : X.A.units + 64 < cLine) : OpR X (compareOp .NotEq) (rNeA K) := by subst hK; exact op_neA hu
theorem op_addAK (hK : X.K = K) : OpR X (binaryOp .Add) (rAddA K) := by subst hK; exact op_addA
theorem op_mulAK (hK : X.K = K) : OpR X (binaryOp .Mult) (rMulA K) := by subst hK; exact op_mulA
theorem ix_seqK (hK : X.K = K) : IxR X (rIx K) := by subst hK; exact ix_seq
end
end Py
end

section
set_option Elab.async false
set_option linter.all false
set_option maxRecDepth 100000
set_option maxHeartbeats 4000000
set_option autoImplicit false
set_option exponentiation.threshold 100
namespace Py
open PySem PySem.Spec PyProof.Rows L2
/-! ### a def that turns a dice -/
def spTurn (K : Frg) (T : List (Addr × Str)) (g : Dice → List V → V → Dice → Prop) : Sp := fun vs H Q _ => ∃ (a : Addr) (d : Dice) (ws : List V) (v : V) (d' : Dice), vs = .ref a :: ws ∧ H a = some (.lst d.vs) ∧ g d ws v d' ∧ LamX.Tabs T H ∧
  ∀ H', (∀ b o, b ≠ a → H b = some o → NoT o → H' b = some o) → LamX.Tabs T H' → H' a = some (.lst d'.vs) → Q v H'
def gRoll : Dice → List V → V → Dice → Prop := fun d ws v d' => ∃ (m : Int) (c : Nat), ws = [.int m] ∧ DOk c d ∧ c ≤ 1000000 ∧ 0 < m ∧ Sz 8000 m ∧ v = .int (rollV d m) ∧ d' = rollD d m
theorem roll_turn {K : Frg} {T : List (Addr × Str)} {vs : List V} {H : Hp} {Q : VK} {E : XK} (h : spTurn K T gRoll vs H Q E) : spRoll K T vs H Q E := by
  obtain ⟨a, d, ws, v, d', rfl, h1, ⟨m, c, rfl, h2, h3, h4, h5, rfl, rfl⟩, h6, q⟩ := h
  exact ⟨a, d, m, c, rfl, h1, h2, h3, h4, h5, h6, q⟩
/-- the end of such a def's body -/
theorem turn_fin {K : Frg} {T : List (Addr × Str)} {N : List Str} {a : Addr} {d d' : Dice} {ws : List V} {v : V} {H : Hp} {t : TS} {E : XK} {Q : VK} {sl : List SD} (ha : H a = some (.lst d.vs)) (ht : LamX.Tabs T H)
    (q : ∀ H', (∀ b o, b ≠ a → H b = some o → NoT o → H' b = some o) → LamX.Tabs T H' → H' a = some (.lst d'.vs) → Q v H') (hs : sl = .own 0 :: (ws.map fun v => SD.d (.v v)) ++ List.replicate (N.length - (ws.length + 1)) .un)
    (R : RunS ⟨K, T, fun b => if b = a then none else H b, []⟩ E t ⟨sl, [.lst d.ds]⟩ { rt := fun r A => r = .v v ∧ A.sl[0]? = some (.own 0) ∧ A.st = [.lst d'.ds] }) : t { nx := fun _ H' => Q .non H', rt := Q } (L2.start N (.ref a :: ws)) H := by
  subst hs
  have k := start_own (K := K) (N := N) (ws := ws) ht ha
  exact R [some a] _ H _ k ⟨fun _ _ _ _ z => z.elim, fun os A σ r u H' ⟨h1, h2, h3⟩ k' g' i' => by
    have o0 := g'.p 0 (some a) rfl
    obtain ⟨o, s1, a3, vs, s2, s3, s4⟩ := k'.store (i := 0) (s := .lst d'.ds) (by rw [h3]; rfl)
    rw [o0] at s1; cases s1; cases s2
    rw [vs_of s4] at s3
    subst h1
    rw [Is.v_iff.mp i']
    refine q H' (fun b o hb e n => k'.ex b o ?_ n) k'.tb s3
    show (if b = a then none else H b) = some o
    rw [if_neg hb]
    exact e, fun _ _ _ _ z => z.elim, fun _ _ _ _ z => z.elim, fun _ _ z => z.elim⟩
section
variable {C : Ct} {E : XK} {A A1 : AS} {te ti : TE} {tl : TA} {P : Po} {i n : Nat} {d d' : Dice} {m : Int} {v : V} {ws : List V}
/-- f(dice, ..) -/
theorem e_turn {E' : XK} {g : Dice → List V → V → Dice → Prop} (h1 : A.sl[i]? = some (.own n)) (h2 : A.st[n]? = some (.lst d.ds)) (hm : EvA C tl A (ws.map .v) A) (hg : g d ws v d') :
    EvS C (tCall (spTurn C.K C.T g) [] E' (tCons (tVar i) tl)) A (.v v) (A.upO n d'.ds) := fun os σ H k Q q => by
  obtain ⟨o, f1, a, f2, f3⟩ := k.slot h1
  subst f2
  refine ⟨_, f1, hm os σ H k _ fun os1 vs H1 k1 g1 i1 => ?_⟩
  rw [flat_eq i1]
  have f3' := g1.p n _ f3
  obtain ⟨o3, s1, a3, us, s2, s3, s4⟩ := k1.store h2
  rw [f3'] at s1; cases s1; cases s2
  rw [vs_of s4] at s3
  refine ⟨a, d, ws, v, d', by rw [List.append_nil], s3, hg, k1.tb, fun H' e t ha => ?_⟩
  have hh : a ∈ hid C.O os1 := mem_hid.mpr (.inr (List.mem_of_getElem? f3'))
  have ku := k1.upO f3' h2 (ys := d'.ds) ds_of
  have ex : Ex (upd H1 a (.lst d'.vs)) H' := fun b o hb nt => by
    by_cases eb : b = a
    · subst eb
      rw [upd_same] at hb
      cases hb
      exact ha
    · rw [upd_ne eb] at hb
      exact e b o eb hb nt
  have kf := ku.mono ex t
  refine q os1 _ H' kf (g1.trans ⟨?_, fun b hb => ?_, fun _ _ h => h⟩) is_v
  · have := hd_mono (O := hid C.O os1) ex
    rw [show hd (hid C.O os1) (upd H1 a _) = Rh C.O os1 H1 from Rh_upd hh] at this
    exact this
  · obtain ⟨o, hb1, nt⟩ := k1.ol b hb
    have ne : b ≠ a := fun z => k1.dj b hb (by rw [z]; exact List.mem_of_getElem? f3')
    rw [hb1]
    exact e b o ne hb1 nt
end
/-- a promise that follows from another -/
theorem Gd.imp {P : Program} {w : World} {K : Frg} {mg : Str → Option Value} {base : Heap} {f : Str} {ps : List Str} {k : Nat} {sp sp' : Sp} (h : Gd P w K mg base f ps k sp) (e : ∀ vs H Q E, sp' vs H Q E → sp vs H Q E) : Gd P w K mg base f ps k sp' := by
  obtain ⟨a, fd, h1, h2, h3, h4⟩ := h.ex
  exact ⟨a, fd, h1.imp e, h2, h3, h4⟩
theorem Gd.roll {P : Program} {w : World} {K : Frg} {T : List (Addr × Str)} {mg : Str → Option Value} {base : Heap} {f : Str} {ps : List Str} {k : Nat} (h : Gd P w K mg base f ps k (spRoll K T)) : Gd P w K mg base f ps k (spTurn K T gRoll) := h.imp fun _ _ _ _ => roll_turn
end Py
end

section
set_option Elab.async false
set_option linter.all false
set_option maxRecDepth 100000
set_option maxHeartbeats 4000000
set_option autoImplicit false
set_option exponentiation.threshold 100
namespace Py
open PySem PySem.Spec PyProof.Rows L2
/-! ### [e for x in xs for y in range(n)] -/
/-- one turn of the outer one: the inner one from its start to its end -/
structure Lc2T (C : Ct) (g : TG) (wi1 : TI) (g1 : TG) (tt1 : TT) (te : TE) (ws ws1 : List Nat) (x : Dt) (A : AS) (ys : List Dt) (A2 : AS) (ys2 : List Dt) (lo1 : Int) (n1 : Nat) (A1 : AS) (B1 : Nat → AS) (Y1 : Nat → List Dt) : Prop where
  tg : TgS C g x (A.wipe ws) A1 ws
  wi : ∀ os σ H, Ok C os A1 σ H → ∀ R : It → Hp → Prop, (∀ os' H', Ok C os' (B1 0) σ H' → Gr C.O os H os' H' → R (Itr lo1 n1) H') → wi1 σ H R
  y0 : Y1 0 = ys
  yn : Y1 n1 = ys2
  tn : ∀ j, j < n1 → LcT C g1 tt1 te ws1 (di (lo1 + j)) (B1 j) (Y1 j) (B1 (j + 1)) (Y1 (j + 1))
  ln : ∀ j, j < n1 → (Y1 j).length < 100000
  bn : (B1 n1).wipe ws = A2
section
variable {C : Ct} {E : XK} {A A1 A2 : AS} {te : TE} {tl : TE} {g g1 : TG} {tt1 : TT} {wi1 : TI} {ws ws1 : List Nat}
theorem lc2_turn {p : Addr} {x : Dt} {v : V} {σ : Sg} {os : List (Option Addr)} {H : Hp} {ys ys2 : List Dt} {acc : List V} {lo1 : Int} {n1 : Nat} {Am : AS} {B1 : Nat → AS} {Y1 : Nat → List Dt} (t : Lc2T (C.hide p) g wi1 g1 tt1 te ws ws1 x A ys A2 ys2 lo1 n1 Am B1 Y1) (k : Ok (C.hide p) os A σ H) (hp : H p = some (.lst acc)) (ha : IsA C.K (Rh (p :: C.O) os H) ys acc) (hx : Is C.K (Rh (p :: C.O) os H) x v)
    (h0 : ∀ o, C.H0 p = some o → ¬ NoT o) (hO : p ∉ C.O) (R : Hp → Prop) (hR : ∀ os' acc' H', Ok (C.hide p) os' A2 σ H' → GrP p C.O os H os' H' → H' p = some (.lst acc') → IsA C.K (Rh (p :: C.O) os' H') ys2 acc' → R H') :
    g v (wipe σ ws) H fun σ2 H2 => wipe σ2 ws = wipe σ ws ∧ tYes σ2 H2 fun b H3 => if b = true then wi1 σ2 H3 fun J1 H4 => ∃ W1 : Nat → Nat → Hp → Prop, (∃ m, W1 0 m H4) ∧ ∀ j k H, W1 j k H →
      (J1.stop j H ∧ R H) ∨ (J1.go j H ∧ ∃ Nx1 : Hp → Prop, (∀ H', Nx1 H' → ∃ k', k' < k ∧ W1 (j + 1) k' H') ∧ ∀ x H', J1.yld j H x H' → g1 x (wipe σ2 ws1) H' fun σ3 H5 => wipe σ3 ws1 = wipe σ2 ws1 ∧ tt1 σ3 H5 fun b H6 =>
        if b = true then te σ3 H6 fun y H7 => ∃ acc, H7 p = some (.lst acc) ∧ acc.length < sizeLine ∧ Nx1 (upd H7 p (.lst (acc ++ [y]))) else Nx1 H6) else R H3 := by
  refine t.tg os _ H v _ k.wiped hx fun σ2 k2 e2 => ⟨e2.trans wipe_wipe, ?_⟩
  have e2' : wipe σ2 ws = wipe σ ws := e2.trans wipe_wipe
  unfold tYes
  dsimp only
  rw [if_pos rfl]
  refine t.wi os σ2 H k2 _ fun os4 H4 k4 g4 => ?_
  have gp4 : GrP p C.O os H os4 H4 := ⟨g4.e, fun a h => g4.o a (List.mem_cons_of_mem _ h), g4.p⟩
  have hp4 : H4 p = some (.lst acc) := (g4.o p (List.mem_cons_self ..)).trans hp
  refine ⟨fun j m H' => m = n1 - j ∧ j ≤ n1 ∧ ∃ os' acc', Ok (C.hide p) os' (B1 j) σ2 H' ∧ GrP p C.O os H os' H' ∧ H' p = some (.lst acc') ∧ IsA C.K (Rh (p :: C.O) os' H') (Y1 j) acc', ⟨n1, by omega, Nat.zero_le _, os4, acc, k4, gp4, hp4, by rw [t.y0]; exact IsA.mono g4.e _ _ ha⟩, ?_⟩
  rintro j m H' ⟨rfl, hj, os', acc', k', g', hp', ha'⟩
  by_cases lt : j < n1
  · refine .inr ⟨lt, fun H'' => ∃ m', m' < n1 - j ∧ (m' = n1 - (j + 1) ∧ j + 1 ≤ n1 ∧ ∃ os'' acc'', Ok (C.hide p) os'' (B1 (j + 1)) σ2 H'' ∧ GrP p C.O os H os'' H'' ∧ H'' p = some (.lst acc'') ∧ IsA C.K (Rh (p :: C.O) os'' H'') (Y1 (j + 1)) acc''), fun H'' h => h, fun x H'' y => ?_⟩
    obtain ⟨e, y⟩ := y
    subst e y
    exact lc_turn (t.tn j lt) k' hp' ha' is_v h0 hO (t.ln j lt) _ fun os2 acc2 H2 k2 g2 hp2 ha2 => ⟨n1 - (j + 1), by omega, rfl, lt, os2, acc2, k2, g'.trans g2, hp2, ha2⟩
  · have e : j = n1 := by omega
    subst e
    refine .inl ⟨Nat.le_refl _, hR os' acc' H' ?_ g' hp' (by rw [← t.yn]; exact ha')⟩
    have kb := k'.back e2'
    rw [t.bn] at kb
    exact kb
theorem e_lc2L {xs : List Dt} (he : EvS C tl A (.lst xs) A1) (B : Nat → AS) (Y : Nat → List Dt) (h0 : A1 = B 0) (hY : Y 0 = [])
    (hs : ∀ i x, xs[i]? = some x → ∀ O, ∃ lo1 n1 Am B1 Y1, Lc2T ⟨C.K, C.T, C.H0, O⟩ g wi1 g1 tt1 te ws ws1 x (B i) (Y i) (B (i + 1)) (Y (i + 1)) lo1 n1 Am B1 Y1) : EvS C (tLc2 (iList C.K tl) g tYes wi1 g1 tt1 te ws ws1) A (.lst (Y xs.length)) (B xs.length) := fun os σ H k Q q =>
  he os σ H k _ fun os1 v H1 k1 e1 i1 => by
    rw [Is] at i1
    obtain ⟨a, vs, rfl, h1, h2⟩ := i1
    refine ⟨a, rfl, ⟨vs, hd_ex.l h1⟩, fun p hp => ?_⟩
    subst h0
    have el : vs.length = xs.length := isA_len h2
    refine ⟨fun i m H' => m = vs.length - i ∧ i ≤ vs.length ∧ ∃ os' acc, Ok (C.hide p) os' (B i) σ H' ∧ GrP p C.O os1 (upd H1 p (.lst [])) os' H' ∧ H' p = some (.lst acc) ∧ IsA C.K (Rh (p :: C.O) os' H') (Y i) acc, ⟨vs.length, by omega, Nat.zero_le _, os1, [], k1.hide hp nt_l, ⟨Ex.refl _, fun _ _ => rfl, fun _ _ h => h⟩, upd_same, by rw [hY]; exact isA_nil⟩, ?_⟩
    rintro i m H' ⟨rfl, hi, os', acc, k', g', hp', ha⟩
    have e := g'.e
    rw [Rh_hide hp] at e
    have ql : SqL C.K H' a vs := hd_ex.l (e.l h1)
    by_cases lt : i < vs.length
    · refine .inr ⟨⟨vs, vs[i], ql, by simp [lt]⟩, fun H'' => ∃ m', m' < vs.length - i ∧ (m' = vs.length - (i + 1) ∧ i + 1 ≤ vs.length ∧ ∃ os'' acc'', Ok (C.hide p) os'' (B (i + 1)) σ H'' ∧ GrP p C.O os1 (upd H1 p (.lst [])) os'' H'' ∧ H'' p = some (.lst acc'') ∧ IsA C.K (Rh (p :: C.O) os'' H'') (Y (i + 1)) acc''), fun H'' h => h, fun x H'' y => ?_⟩
      obtain ⟨ex, y⟩ := y
      subst ex
      obtain ⟨d, hd', hi'⟩ := isA_get' h2 (y vs ql)
      obtain ⟨lo1, n1, Am, B1, Y1, t⟩ := hs i d hd' (p :: C.O)
      exact lc2_turn t k' hp' ha (Is.mono e _ _ hi') (fresh_0 k1 hp) (fresh_O k1 hp) _ fun os2 acc2 H2 k2 g2 hp2 ha2 => ⟨vs.length - (i + 1), by omega, rfl, lt, os2, acc2, k2, g'.trans g2, hp2, ha2⟩
    · have en : i = vs.length := by omega
      subst en
      refine .inl ⟨⟨vs, ql, Nat.le_refl _⟩, ?_⟩
      rw [el] at k' ha
      exact lc_end k1 hp k' g' hp' ha fun os2 v H2 k2 g2 i2 => q os2 v H2 k2 (e1.trans g2) i2
end
section
variable {C : Ct} {A A1 : AS} {te : TE}
/-- sorted(ints) -/
theorem e_sortI {ns ms : List Int} (h : EvS C te A (.lst (ns.map di)) A1) (hq : ∀ ns' : List Int, ns'.Perm ns → ns'.Pairwise (· ≤ ·) → ns' = ms) : EvS C (tCB (rSortedI C.K) (tCons te tNil)) A (.lst (ms.map di)) A1 := fun os σ H k Q q =>
  h os σ H k _ fun os1 v H1 k1 e1 i1 => by
    rw [Is] at i1
    obtain ⟨a, vs, rfl, h2, h3⟩ := i1
    have ev : ns.map di = (ns.map V.int).map Dt.v := by rw [List.map_map]; rfl
    rw [ev] at h3
    rw [flat_eq h3] at h2
    refine ⟨a, ns, rfl, hd_ex.l h2, fun ns' p hp hs hn => ?_⟩
    rw [hq ns' hp hs]
    refine q os1 _ _ (k1.monoN hn) (e1.trans (k1.gr (Ex.new hn))) ?_
    rw [Is]
    exact ⟨p, _, rfl, SqL.of (k1.fresh hn), by rw [show ms.map di = (ms.map V.int).map Dt.v by rw [List.map_map]; rfl]; exact flat_isA⟩
/-- two sorted lists of the same members -/
theorem sorted_one : ∀ {l m : List Int}, l.Perm m → l.Pairwise (· ≤ ·) → m.Pairwise (· ≤ ·) → l = m := fun {l m} h h1 h2 => h.eq_of_pairwise (fun a b _ _ x y => Int.le_antisymm x y) h1 h2
end
end Py
end

section
set_option Elab.async false
set_option linter.all false
set_option maxRecDepth 100000
set_option maxHeartbeats 4000000
set_option autoImplicit false
namespace Py
open PySem PySem.Spec PyProof.Rows L2
/-! ### tuple(xs), the new object known -/
section
variable {X : Cx}
theorem call_tupleZ : CallR X (.type "tuple") (fun xs H Q => ∃ p ys, xs = [.ref p] ∧ SqL X.K H p ys ∧ ∀ l o, o.dict = none → H l = none → Q (.ref l) (upd H l (.frz o (.tup ys)))) := by
  intro pins s σ H xs us Q I r h
  obtain ⟨p, ys, rfl, hq, q⟩ := h
  obtain ⟨u, rfl, rx⟩ := vals1 r
  cases rx
  obtain ⟨its, r', pl, hz⟩ := I.list hq
  have hlen := r'.length
  refine call_tuple_list pl.isList (fun h' kp => ?_) (by simp only [List.size_toArray] <;> omega)
  have I1 : Inv X pins σ H { s with heap := h' } := I.kept (t' := s.toks) kp
  have I2 : Inv X pins σ (upd H h'.objs.size (.frz { cls := .type "tuple", data := .seq its.toArray } (.tup ys))) { s with heap := h'.push { cls := .type "tuple", data := .seq its.toArray } } :=
    I1.laid (t' := s.toks) (fun b o e => Heap.get?_push_of_some _ e) (Nat.le_refl _) (show ObjOk X.prog X.w _ _ _ (.frz _ (.tup ys)) from ⟨Heap.get?_push_size _ rfl, hz, its, r', IsTup.new _ _⟩)
  exact ⟨.ref h'.objs.size, _, I2, rfl, q _ _ rfl (I1.hok.fresh (Nat.le_refl _))⟩
theorem told_pairs {h : Heap} {ps : List Addr} : ∀ {prs : List (Key × Value)}, (∀ (j : Nat) (q : Key × Value), prs[j]? = some q → ∃ (b : Addr) (u : Value), ps[j]? = some b ∧ IsTup h b #[u, q.2] ∧ keyIs q.1 u = true) →
    ∃ pv : List (Value × Value), pv.length = prs.length ∧ ∀ (j : Nat) (k v : Value), pv[j]? = some (k, v) → ∃ (q : Key × Value) (b : Addr), prs[j]? = some q ∧ q.2 = v ∧ ps[j]? = some b ∧ IsTup h b #[k, v] ∧ keyIs q.1 k = true := by
  intro prs
  induction prs generalizing ps with
  | nil => exact fun _ => ⟨[], rfl, fun j k v e => by simp at e⟩
  | cons q r ih =>
    intro hh
    obtain ⟨b, u, h1, h2, h3⟩ := hh 0 q rfl
    obtain ⟨pv, e1, e2⟩ := ih (ps := ps.drop 1) fun j q' e => by
      obtain ⟨b, u, z1, z2, z3⟩ := hh (j + 1) q' (by simpa using e)
      exact ⟨b, u, by rw [List.getElem?_drop, Nat.add_comm]; exact z1, z2, z3⟩
    refine ⟨(u, q.2) :: pv, by rw [List.length_cons, List.length_cons, e1], fun j k v e => ?_⟩
    cases j with
    | zero =>
      simp at e
      obtain ⟨rfl, rfl⟩ := e
      exact ⟨q, b, rfl, rfl, h1, h2, h3⟩
    | succ j =>
      obtain ⟨q', b', z1, z2, z3, z4⟩ := e2 j k v (by simpa using e)
      exact ⟨q', b', by simpa using z1, z2, by rw [List.getElem?_drop, Nat.add_comm] at z3; exact z3, z4⟩
theorem call_dictZ (hcalm : X.calm = true) : CallR X (.type "dict") (fun xs H Q => ∃ (a : Addr) (o : Obj) (ps : List Addr) (kvs : List (Key × V)), xs = [.ref a] ∧ H a = some (.frz o (.tup (ps.map V.ref))) ∧ o.dict = none ∧ Paired (fun p kv => SqT X.K H p [kV kv.1, kv.2]) ps kvs ∧
    ∀ p, H p = none → Q (.ref p) (upd H p (.dK (mergeK [] kvs)))) := by
  intro pins s σ H xs us Q I r q
  obtain ⟨a, o, ps, kvs, rfl, ha, hdn, hp, q⟩ := q
  obtain ⟨u, rfl, rx⟩ := vals1 r
  cases rx
  obtain ⟨ho, hz, its, rv, o', ho', hc, n, hdat⟩ := I.hok a _ ha
  rw [ho] at ho'
  cases ho'
  have ei := refs_at rv
  subst ei
  rw [List.length_map] at hz
  obtain ⟨prs, rel, hl, hpr⟩ := pairs_of I hp
  obtain ⟨pv, e1, e2⟩ := told_pairs hpr
  have hps : PairItems s.heap (ps.map Value.ref).toArray (fun j => ps.getD j 0) pv := by
    refine ⟨by simp [e1, hl], fun j k v e => ?_⟩
    obtain ⟨q', b, z1, z2, z3, z4, z5⟩ := e2 j k v e
    have g : ps.getD j 0 = b := by rw [List.getD_eq_getElem?_getD, z3]; rfl
    refine ⟨by simp [z3], ?_⟩
    show PairAt s.heap (ps.getD j 0) k v
    rw [g]
    exact .inl z4
  refine PySem.call_dict_pairs (knd := mixKind X.prog X.w) (kvs := prs) (PairArg.tuple a (ps.map Value.ref).toArray (fun j => ps.getD j 0) pv) (I.ok.hd hcalm) ⟨⟨o, n, ho, hc, hdn, hdat⟩, hps⟩ ⟨e1.symm, fun i key v rel => ?_⟩ (by rw [e1, hl]; exact hz) fun h' tk hd' k => ?_
  · obtain ⟨q', b, z1, z2, z3, z4, z5⟩ := e2 i key v rel
    exact ⟨q'.1, by rw [z1, ← z2], z5⟩
  · have hm : (s.heap.objs.size == sysModules) = false := beq_eq_false_iff_ne.mpr (Nat.ne_of_gt I.big)
    have hlen : (mergeK [] kvs).length ≤ sizeLine := by
      refine Nat.le_trans (length_mergeK kvs []) ?_
      rw [List.length_nil, Nat.zero_add, rel.length, hl]
      exact hz
    exact ⟨.ref s.heap.objs.size, upd H s.heap.objs.size (.dK (mergeK [] kvs)), I.laid (t' := tk) (fun b o e => k b o (by simp) e) (Nat.le_refl _) (show ObjOk X.prog X.w _ _ _ (.dK (mergeK [] kvs)) from ⟨hlen, hm, merged [] prs, KV.merge rel .nil, hd'⟩), rfl, q _ (I.hok.fresh (Nat.le_refl _))⟩
end
section
open SrtO
variable {prog : Program} {w : World} {A : Around} {E : Value → Shared → Prop} {s : Shared}
/-- the heap of s, behind it a new list of these items -/
def gath (h : Heap) (us : List Value) : Heap := (h.push (seqObj "list" #[] 0)).update h.objs.size (Obj.mapSeq fun z => z ++ us.toArray)
theorem gath_size (h : Heap) (us : List Value) : (gath h us).objs.size = h.objs.size + 1 := by
  unfold gath; rw [Heap.size_update, size_push']
theorem gath_old {h : Heap} {us : List Value} {b : Addr} {ob : Obj} (g : h.get? b = some ob) : (gath h us).get? b = some ob := by
  unfold gath
  rw [Heap.get?_update_ne _ _ _ _ (Nat.ne_of_lt (Heap.lt_size g))]
  exact Heap.get?_push_of_some _ g
theorem gather_tuple {t : Addr} {us : List Value} {Q : List Value → Shared → Prop} (ht : IsTup s.heap t us.toArray) (hsz : us.length ≤ sizeLine) (q : Q us { s with heap := gath s.heap us }) : wpAny (model prog w) A (collect (.ref t)) Q E s := by
  obtain ⟨ob, g, c, k, d⟩ := id ht
  have g1 : (s.heap.push (seqObj "list" #[] 0)).get? t = some ob := Heap.get?_push_of_some _ g
  have g2 : (s.heap.push (seqObj "list" #[] 0)).get? s.heap.objs.size = some (seqObj "list" #[] 0) := Heap.get?_push_size _ rfl
  have e0 : ((#[] : Array Value) ++ us.toArray).toList = us := by simp
  unfold collect
  refine wpAny_bind (wpAny_runValue (codeAny_builtin entry_proto_collect' ?_))
  show wpAny _ _ (do again (.builtin "list.__iadd__" ⟨[← newList [], .ref t], []⟩)) _ _ s
  refine wpAny_bind (wpAny_newList (wpAny_pure ⟨Code.quiet_builtin _ (by decide +kernel), codeAny_builtin entry_list_iadd' ?_⟩))
  show wpAny _ _ (Builtin.List.listExtendWith _ (.ref t) _) _ _ { s with heap := s.heap.push (seqObj "list" #[] 0) }
  unfold Builtin.List.listExtendWith
  refine wpAny_bind (wpAny_typeOf (T := "tuple") ⟨ob, g1, c⟩ ?_)
  have two : (Value.type "tuple" == Value.type "tuple") = true := by rfl
  rw [if_pos (by simp [two])]
  refine wpAny_bind (listItems_at g1 d (wpAny_bind (listItems_at (xs := #[]) (n := 0) g2 rfl ?_)))
  rw [if_neg (by simp)]
  refine wpAny_bind (listUpdate_at (xs := #[]) (n := 0) g2 rfl (wpAny_pure ?_) (Nat.zero_le _) (by show (#[] ++ us.toArray).size ≤ _; simp only [Array.size_append, List.size_toArray, List.length_nil]; omega))
  refine wpAny_bind (wpAny_load (get?_update_seq g2 _) ?_)
  show wpAny _ _ (pure ((#[] : Array Value) ++ us.toArray).toList) Q E _
  rw [e0]
  exact wpAny_pure q
theorem sorted_tup {t : Addr} {us : List Value} {k : Value → Int × Int} {Q : Value → Shared → Prop} (ht : IsTup s.heap t us.toArray) (hz : us.length ≤ sizeLine) (hp : ∀ u ∈ us, Srt.IsPair s.heap u (k u).1 (k u).2)
    (q : ∀ (h' : Heap) (out : List Value), Srtd (fun a b => lexB (k a) (k b)) out → Stb (fun a b => lexB (k a) (k b)) out us → (∀ b ob, s.heap.get? b = some ob → h'.get? b = some ob) → (∃ n, h'.get? (s.heap.objs.size + 1) = some (seqObj "list" out.toArray n)) → Q (.ref (s.heap.objs.size + 1)) { s with heap := h' }) :
    wpAny (model prog w) A (call (.builtin "sorted") [.ref t]) Q E s := by
  refine Calls.call_function_entry kind_sorted plain_sorted entry_sorted (args_sorted1 _) ?_
  unfold Builtin.«sorted»
  refine wpAny_bind (m := checkCount "sorted" 1 1 _) (wpAny_pure (wpAny_bind (gather_tuple ht hz (wpAny_bind (wpAny_newList ?_ hz)))))
  generalize hG : (gath s.heap us).push (seqObj "list" us.toArray 0) = G
  have gL : G.get? (s.heap.objs.size + 1) = some (seqObj "list" us.toArray 0) := by
    rw [← hG, ← gath_size s.heap us]; exact Heap.get?_push_size _ rfl
  have gO : ∀ b ob, s.heap.get? b = some ob → b ≠ s.heap.objs.size + 1 ∧ G.get? b = some ob := fun b ob g => by
    refine ⟨Nat.ne_of_lt (Nat.lt_succ_of_lt (Heap.lt_size g)), ?_⟩
    rw [← hG]; exact Heap.get?_push_of_some _ (gath_old g)
  show wpAny _ _ (holding [Value.ref (gath s.heap us).objs.size] (call (Value.builtin "list.sort") [Value.ref (gath s.heap us).objs.size] []) >>= fun _ => _) _ _ { s with heap := G }
  rw [gath_size]
  refine wpAny_bind (wpAny_holding (wpAny_call_entry slot_list_sort ⟨_, gL, rfl⟩ entry_list_sort (list_sort_ord (swo_lex k) gL hz (fun h2 => ?_) fun out h3 h4 => ⟨_, rfl, wpAny_pure ⟨_, rfl, ?_⟩⟩) (args_list_sort _)))
  · refine pairs_sortableO (by omega) (fun u hu => (hp u hu).keeps fun b ob g _ => (gO b ob g).2) fun ob g c => ?_
    have g' := g.symm.trans gL
    cases g'
    exact absurd (Value.type.inj c) (by decide)
  · obtain ⟨n, e⟩ := PyProof.Rows.sortedHeap_at (vs := us) (out := out.toArray) gL
    exact q _ out h3 h4 (fun b ob g => (PyProof.Rows.sortedHeap_old (gO b ob g).1 (Heap.lt_size (gO b ob g).2)).trans (gO b ob g).2) ⟨n, e⟩
end
/-! ### sorted(x), x a list or a tuple of pairs of ints -/
def PairV (K : Frg) (H : Hp) (x : V) (p : Int × Int) : Prop := ∃ t, x = V.ref t ∧ SqT K H t [.int p.1, .int p.2]
def rSortQ (K : Frg) : List V → Hp → VK → Prop := fun vs H Q => ∃ (a : Addr) (xs : List V) (ps : List (Int × Int)), vs = [.ref a] ∧ (SqL K H a xs ∨ SqT K H a xs) ∧ Paired (PairV K H) xs ps ∧
  ∀ (zs : List (V × (Int × Int))) (d : Addr), zs.Perm (xs.zip ps) → zs.Pairwise (fun x y => SrtO.lexB y.2 x.2 = false) → H d = none → Q (.ref d) (upd H d (.lst (zs.map (·.1))))
open Classical in
noncomputable def keyV (K : Frg) (H : Hp) (x : V) : Int × Int := if h : ∃ p, PairV K H x p then h.choose else (0, 0)
section
variable {X : Cx}
theorem keyV_eq {pins : List (Addr × Obj)} {s : Shared} {σ : L2.St} {H : Hp} (I : Inv X pins σ H s) {x : V} {p : Int × Int} (h : PairV X.K H x p) : keyV X.K H x = p := by
  have e : ∃ p, PairV X.K H x p := ⟨p, h⟩
  unfold keyV
  rw [dif_pos e]
  obtain ⟨t, h1, h2⟩ := e.choose_spec
  obtain ⟨t', h3, h4⟩ := h
  rw [h1] at h3
  cases h3
  have q := I.tuple_inj h2 h4
  simp only [List.cons.injEq, V.int.injEq, and_true] at q
  exact Prod.ext q.1 q.2
theorem paired_zip {K : Frg} {H : Hp} {k : V → Int × Int} : ∀ {xs : List V} {ps : List (Int × Int)}, Paired (PairV K H) xs ps → (∀ x p, PairV K H x p → k x = p) → xs.zip ps = xs.map fun x => (x, k x)
  | _, _, .nil, _ => rfl
  | _, _, .cons h t, e => by rw [List.zip_cons_cons, List.map_cons, paired_zip t e, e _ _ h]
theorem paired_mem {K : Frg} {H : Hp} : ∀ {xs : List V} {ps : List (Int × Int)}, Paired (PairV K H) xs ps → ∀ x ∈ xs, ∃ p, PairV K H x p
  | _, _, .nil, x, h => by cases h
  | _, _, .cons h t, x, hx => by
    rcases List.mem_cons.mp hx with e | e
    · exact ⟨_, by rw [e]; exact h⟩
    · exact paired_mem t x e
theorem cr_sortQ : CallR X (.builtin "sorted") (rSortQ X.K) := by
  intro pins s σ H vs us Q I r h
  obtain ⟨a, xs, ps, rfl, hs, hp, q⟩ := h
  obtain ⟨u, rfl, ru⟩ := vals1 r
  obtain rfl : u = Value.ref a := ru
  have src : ∃ its : List Value, Vals xs its ∧ xs.length ≤ sizeLine ∧ (s.heap.IsList a its.toArray ∨ IsTup s.heap a its.toArray) := by
    rcases hs with hs | hs
    · obtain ⟨its, rv, hl, hz⟩ := I.list hs
      exact ⟨its, rv, hz, .inl hl.isList⟩
    · obtain ⟨its, rv, hl, hz⟩ := I.tuple hs
      exact ⟨its, rv, hz, .inr hl⟩
  obtain ⟨its, rv, hz, hl⟩ := src
  obtain ⟨e1, e2⟩ := refs_back rv fun x m => by
    obtain ⟨p, t, e, _⟩ := paired_mem hp x m
    exact ⟨t, e⟩
  have ez := paired_zip (k := keyV X.K H) hp fun x p h => keyV_eq I h
  have pr : ∀ v ∈ its, Srt.IsPair s.heap v (keyV X.K H (backV v)).1 (keyV X.K H (backV v)).2 := fun v hv => by
    obtain ⟨t, rfl⟩ := e2 v hv
    obtain ⟨p, hp'⟩ := paired_mem hp (V.ref t) (by rw [e1]; exact List.mem_map.mpr ⟨_, hv, rfl⟩)
    show Srt.IsPair s.heap _ (keyV X.K H (V.ref t)).1 (keyV X.K H (V.ref t)).2
    rw [keyV_eq I hp']
    obtain ⟨t', h1, h2⟩ := hp'
    cases h1
    obtain ⟨its2, r2, ⟨o, ho, hc, n, hd⟩, _⟩ := I.tuple h2
    obtain ⟨u1, u2, rfl, ri, rj⟩ := vals2 r2
    obtain ⟨t1, rfl⟩ := ri
    obtain ⟨t2, rfl⟩ := rj
    exact ⟨t, o, t1, t2, n, rfl, ho, hc, hd⟩
  have fin : ∀ (h' : Heap) (d : Addr) (out : List Value), SrtO.Srtd (fun v u => SrtO.lexB (keyV X.K H (backV v)) (keyV X.K H (backV u))) out → SrtO.Stb (fun v u => SrtO.lexB (keyV X.K H (backV v)) (keyV X.K H (backV u))) out its →
      (∀ b o, s.heap.get? b = some o → h'.get? b = some o) → s.heap.objs.size ≤ d → (∃ n, h'.get? d = some (seqObj "list" out.toArray n)) → EP X pins σ Q (.ref d) { s with heap := h' } := by
    intro h' d out h1 h2 kp hd hn
    have h3 : ∀ u ∈ out, ∃ a, u = Value.ref a := fun u hu => e2 u (h2.perm.mem_iff.mp hu)
    obtain ⟨n, hn⟩ := hn
    have eo : (out.map fun u => (backV u, keyV X.K H (backV u))).map (·.1) = out.map backV := by rw [List.map_map]; rfl
    have pm : (out.map fun u => (backV u, keyV X.K H (backV u))).Perm (xs.zip ps) := by
      rw [ez, e1, List.map_map]
      exact h2.perm.map _
    have g := q (out.map fun u => (backV u, keyV X.K H (backV u))) d pm (List.pairwise_map.mpr h1) (I.hok.fresh hd)
    rw [eo] at g
    refine ⟨.ref d, upd H d (.lst (out.map backV)), I.laid (t' := s.toks) kp hd ⟨?_, out, n, vals_back h3, hn⟩, rfl, g⟩
    rw [List.length_map, h2.perm.length_eq, ← rv.length]
    exact hz
  rcases hl with hl | hl
  · exact SrtO.sorted_pairsO (k := fun u => keyV X.K H (backV u)) hl (by rw [← rv.length]; exact hz) pr fun h' d out h1 h2 kp hd hn => fin h' d out h1 h2 kp hd hn
  · exact sorted_tup (k := fun u => keyV X.K H (backV u)) hl (by rw [← rv.length]; exact hz) pr fun h' out h1 h2 kp hn => fin h' _ out h1 h2 kp (Nat.le_succ _) hn
end
section
variable {C : Ct} {A A1 : AS} {te : TE}
theorem is_pair {K : Frg} {R H : Hp} (e : Ex R H) {p : Int × Int} {v : V} (h : Is K R (fr p) v) : PairV K H v p := by
  unfold fr at h
  rw [Is] at h
  obtain ⟨a, vs, rfl, h2, h3⟩ := h
  simp only [IsA, Is] at h3
  obtain ⟨x, w, rfl, rfl, x', w', rfl, rfl, rfl⟩ := h3
  exact ⟨a, rfl, e.t h2⟩
theorem isA_pairs {K : Frg} {R H : Hp} (e : Ex R H) : ∀ {ps : List (Int × Int)} {vs : List V}, IsA K R (ps.map fr) vs → Paired (PairV K H) vs ps ∧ ∀ z ∈ vs.zip ps, Is K R (fr z.2) z.1
  | [], vs, h => by
    rw [List.map_nil, IsA] at h
    subst h
    exact ⟨.nil, fun z hz => by cases hz⟩
  | p :: r, vs, h => by
    rw [List.map_cons, IsA] at h
    obtain ⟨v, w, rfl, h1, h2⟩ := h
    obtain ⟨a, b⟩ := isA_pairs e h2
    refine ⟨.cons (is_pair e h1) a, fun z hz => ?_⟩
    rw [List.zip_cons_cons] at hz
    rcases List.mem_cons.mp hz with e1 | e1
    · rw [e1]; exact h1
    · exact b z e1
theorem isA_ofZip {K : Frg} {R : Hp} : ∀ {zs : List (V × (Int × Int))}, (∀ z ∈ zs, Is K R (fr z.2) z.1) → IsA K R ((zs.map (·.2)).map fr) (zs.map (·.1))
  | [], _ => isA_nil
  | z :: r, h => isA_cons (h z (List.mem_cons_self ..)) (isA_ofZip fun y hy => h y (List.mem_cons_of_mem _ hy))
theorem sortQ_at {os1 : List (Option Addr)} {σ : L2.St} {H1 : Hp} {a : Addr} {vs : List V} {ps ms : List (Int × Int)} {Q : VK} (k1 : Ok C os1 A1 σ H1) (hs : SqL C.K H1 a vs ∨ SqT C.K H1 a vs) (h3 : IsA C.K (Rh C.O os1 H1) (ps.map fr) vs) (hq : ∀ qs, qs.Perm ps → qs.Pairwise (fun x y => SrtO.lexB y x = false) → qs = ms)
    (q : ∀ (d : Addr) (ws : List V), H1 d = none → IsA C.K (Rh C.O os1 H1) (ms.map fr) ws → Q (.ref d) (upd H1 d (.lst ws))) : rSortQ C.K [.ref a] H1 Q := by
  obtain ⟨p1, p2⟩ := isA_pairs (H := H1) hd_ex h3
  refine ⟨a, vs, ps, rfl, hs, p1, fun zs d hp hw hn => ?_⟩
  have hl : vs.length = ps.length := by rw [isA_len h3, List.length_map]
  have e1 : (zs.map (·.2)).Perm ps := by
    have := hp.map (·.2)
    rw [List.map_snd_zip (by omega)] at this
    exact this
  refine q d _ hn ?_
  rw [← hq _ e1 (List.pairwise_map.mpr hw)]
  exact isA_ofZip fun z hz => p2 z (hp.mem_iff.mp hz)
theorem e_sortQT {ps ms : List (Int × Int)} (h : EvS C te A (.tup (ps.map fr)) A1) (hq : ∀ qs, qs.Perm ps → qs.Pairwise (fun x y => SrtO.lexB y x = false) → qs = ms) : EvS C (tCB (rSortQ C.K) (tCons te tNil)) A (.lst (ms.map fr)) A1 := fun os σ H k Q q =>
  h os σ H k _ fun os1 v H1 k1 e1 i1 => by
    rw [Is] at i1
    obtain ⟨a, vs, rfl, h2, h3⟩ := i1
    refine sortQ_at k1 (.inr (hd_ex.t h2)) h3 hq fun d ws hn hi => q os1 _ _ (k1.monoN hn) (e1.trans (k1.gr (Ex.new hn))) ?_
    rw [Is]
    exact ⟨d, ws, rfl, SqL.of (k1.fresh hn), IsA.mono (hd_mono (Ex.new hn)) _ _ hi⟩
theorem e_sortQL {ps ms : List (Int × Int)} (h : EvS C te A (.lst (ps.map fr)) A1) (hq : ∀ qs, qs.Perm ps → qs.Pairwise (fun x y => SrtO.lexB y x = false) → qs = ms) : EvS C (tCB (rSortQ C.K) (tCons te tNil)) A (.lst (ms.map fr)) A1 := fun os σ H k Q q =>
  h os σ H k _ fun os1 v H1 k1 e1 i1 => by
    rw [Is] at i1
    obtain ⟨a, vs, rfl, h2, h3⟩ := i1
    refine sortQ_at k1 (.inl (hd_ex.l h2)) h3 hq fun d ws hn hi => q os1 _ _ (k1.monoN hn) (e1.trans (k1.gr (Ex.new hn))) ?_
    rw [Is]
    exact ⟨d, ws, rfl, SqL.of (k1.fresh hn), IsA.mono (hd_mono (Ex.new hn)) _ _ hi⟩
/-- a list in order is the one list in order of its members -/
theorem lex_one {ps : List (Int × Int)} (h : ps.Pairwise fun x y => SrtO.lexB y x = false) : ∀ qs : List (Int × Int), qs.Perm ps → qs.Pairwise (fun x y => SrtO.lexB y x = false) → qs = ps := fun qs hp hw =>
  List.Perm.eq_of_pairwise (le := fun x y => SrtO.lexB y x = false) (fun a b _ _ h1 h2 => by
    have q1 := SrtO.lexB_no.mp h1
    have q2 := SrtO.lexB_no.mp h2
    have e1 : a.1 = b.1 := by omega
    have e2 : a.2 = b.2 := by omega
    exact Prod.ext e1 e2) hw h hp
/-! ### a tuple that is known as an object -/
theorem is_tupZ {K : Frg} {H : Hp} {xs : List Dt} {v : V} (h : Is K H (.tupZ xs) v) : Is K H (.tup xs) v := by
  rw [Is] at h
  obtain ⟨a, o, vs, h1, h2, _, h3⟩ := h
  rw [Is]
  exact ⟨a, vs, h1, .inl (.inr ⟨o, h2⟩), h3⟩
theorem e_unZ {xs : List Dt} (h : EvS C te A (.tupZ xs) A1) : EvS C te A (.tup xs) A1 := fun os σ H k Q q => h os σ H k Q fun os1 v H1 k1 e1 i1 => q os1 v H1 k1 e1 (is_tupZ i1)
def rTupZ (K : Frg) : List V → Hp → VK → Prop := fun xs H Q => ∃ p ys, xs = [.ref p] ∧ SqL K H p ys ∧ ∀ l o, o.dict = none → H l = none → Q (.ref l) (upd H l (.frz o (.tup ys)))
def rDictZ (K : Frg) : List V → Hp → VK → Prop := fun xs H Q => ∃ (a : Addr) (o : Obj) (ps : List Addr) (kvs : List (Key × V)), xs = [.ref a] ∧ H a = some (.frz o (.tup (ps.map V.ref))) ∧ o.dict = none ∧ Paired (fun p kv => SqT K H p [kV kv.1, kv.2]) ps kvs ∧
    ∀ p, H p = none → Q (.ref p) (upd H p (.dK (mergeK [] kvs)))
/-- tuple(xs), xs one's own -/
theorem e_tupOZ {i n : Nat} {xs : List Dt} (h1 : A.sl[i]? = some (.own n)) (h2 : A.st[n]? = some (.lst xs)) : EvS C (tCB (rTupZ C.K) (tCons (tVar i) tNil)) A (.tupZ xs) A := fun os σ H k Q q => by
  obtain ⟨o, e1, a, e2, e3⟩ := k.slot h1
  subst e2
  obtain ⟨o3, s1, a3, vs, s2, s3, s4⟩ := k.store h2
  rw [e3] at s1; cases s1; cases s2
  refine ⟨_, e1, a, vs, rfl, SqL.of s3, fun l o ho hl => q os _ _ (k.monoN hl) (k.gr (Ex.new hl)) ?_⟩
  rw [Is]
  exact ⟨l, o, vs, rfl, k.fresh hl, ho, IsA.mono (hd_mono (Ex.new hl)) _ _ s4⟩
/-- len(dict(rows)), the first parts all different -/
theorem e_lenDictZ {ps : List (Int × Int)} (h : EvS C te A (.tupZ (ps.map fr)) A1) (hd : (ps.map (·.1)).Nodup) : EvS C (tCB (fun xs H Q => ∃ a kvs, xs = [V.ref a] ∧ H a = some (.dK kvs) ∧ Q (.int kvs.length) H) (tCons (tCB (rDictZ C.K) (tCons te tNil)) tNil)) A (di ps.length) A1 := fun os σ H k Q q =>
  h os σ H k _ fun os1 v H1 k1 e1 i1 => by
    rw [Is] at i1
    obtain ⟨a, o, vs, rfl, h2, h4, h3⟩ := i1
    obtain ⟨p1, _⟩ := isA_pairs (H := H1) hd_ex h3
    have tell : ∀ {vs : List V} {ps : List (Int × Int)}, Paired (PairV C.K H1) vs ps → ∃ as : List Addr, vs = as.map V.ref ∧ Paired (fun p (kv : Key × V) => SqT C.K H1 p [kV kv.1, kv.2]) as (ps.map fun p => (Sum.inl p.1, V.int p.2)) := by
      intro vs ps r
      induction r with
      | nil => exact ⟨[], rfl, .nil⟩
      | cons hh _ ih =>
        obtain ⟨as, z1, z2⟩ := ih
        obtain ⟨t, rfl, ht⟩ := hh
        exact ⟨t :: as, by rw [z1]; rfl, .cons ht z2⟩
    obtain ⟨as, rfl, pp⟩ := tell p1
    refine ⟨a, o, as, _, rfl, hd_ex a _ h2 nt_f, h4, pp, fun d hn => ⟨d, _, rfl, upd_same, ?_⟩⟩
    have el : (mergeK [] (ps.map fun p => ((Sum.inl p.1 : Key), V.int p.2))).length = ps.length := by
      have go : ∀ (qs : List (Int × Int)) (acc : List (Key × V)), (qs.map (·.1)).Nodup → (∀ q ∈ qs, ∀ kv ∈ acc, kv.1 ≠ Sum.inl q.1) → (mergeK acc (qs.map fun p => ((Sum.inl p.1 : Key), V.int p.2))).length = acc.length + qs.length := by
        intro qs
        induction qs with
        | nil => intro acc _ _; rfl
        | cons x r ih =>
          intro acc hn ha
          rw [List.map_cons] at hn
          obtain ⟨n1, n2⟩ := List.nodup_cons.mp hn
          have ne : (acc.any fun kv => decide (kv.1 = (Sum.inl x.1 : Key))) = false := by
            rw [List.any_eq_false]
            intro kv hk z
            exact ha x (List.mem_cons_self ..) kv hk (of_decide_eq_true z)
          have ep : putK acc (Sum.inl x.1 : Key) (V.int x.2) = acc ++ [(Sum.inl x.1, V.int x.2)] := by
            unfold putK
            rw [if_neg (by rw [ne]; decide)]
          show (mergeK (putK acc (Sum.inl x.1) (V.int x.2)) _).length = _
          rw [ep, ih _ n2 fun q hq kv hk => ?_]
          · simp; omega
          · rcases List.mem_append.mp hk with z | z
            · exact ha q (List.mem_cons_of_mem _ hq) kv z
            · simp at z
              rw [z]
              intro e
              injection e with e
              exact n1 (by rw [e]; exact List.mem_map.mpr ⟨q, hq, rfl⟩)
      rw [go ps [] hd fun _ _ kv hk => by cases hk]
      simp
    rw [el]
    exact q os1 _ _ (k1.monoN hn) (e1.trans (k1.gr (Ex.new hn))) is_v
end
end Py
end

section
set_option Elab.async false
set_option linter.all false
set_option maxRecDepth 100000
set_option maxHeartbeats 4000000
set_option autoImplicit false
namespace Py
open PySem PySem.Spec PyProof.Rows L2
theorem takesF {X : Cx} {A : Around} {outer : List Env} {s : Shared} {H : Hp} {E : XK} {scope : Scope} {f c' : Addr} : Takes (LamX.lamCx X A outer s H E scope f c') (fun cls d _ H => E cls d H) := takes_of rfl rfl rfl rfl
/-- what a lambda's body calls lets out is what the lambda lets out -/
theorem psF {X : Cx} {A : Around} {outer : List Env} {s : Shared} {H : Hp} {E : XK} {scope : Scope} {f c' : Addr} : Passes (L2.CX (LamX.lamCx X A outer s H E scope f c').prog (LamX.lamCx X A outer s H E scope f c').w) (LamX.lamCx X A outer s H E scope f c') E := passes_call takesF fun _ _ _ _ h => h
/-- x(lambda: body), x a def that tries the call, and answers a text for an error -/
theorem pe_told {X : Cx} {T : List (Addr × Str)} {x a e ret : Str} {stT : Stmt} {CS : Addr} {f : Str} {k j : Nat} {p1 p2 p3 p4 p5 p6 p7 p8 : Pos} {params : Arguments} {body : Expr} {scope : Scope} {t : XK → TE} {p lpos pos : Pos}
    (F : ∃ fd, FunD X.K x x (defArgs stT) (defBody stT) (defScope stT) [] [] (He.ga X.K x) fd) (hm : X.mg x = some (.ref (He.ga X.K x)))
    (hbod : defBody stT = [.Try [.Return (some (.Call (.Name a p1) [] [] p2)) p3] [.ExceptHandler (some (.Name e p4)) none [.Return (some (.Constant (.str ret) j p5)) p6] p7] [] [] p8])
    (Sg : FnScope [a] [a] (defScope stT)) (hva : Vis (defScope stT) a) (hge : (defScope stT).names.lookup e = some .globalImplicit) (hde : (e == ("__debug__" : Str)) = false) (hme : X.mg e = some (.ref CS))
    (hbT : ∀ (kV doc pm : Value) (an : Option Addr) (cdv ct : Value) (us : List Value), us.length = 1 → bindArgs (PySem.W.fnOf x x (defArgs stT) (defBody stT) (defScope stT) .none kV doc pm an cdv ct) ⟨us, []⟩ = pure ([a].zip us))
    (LB : LamB X.K X.base X.mg T f) (hq : X.env.qual ++ "<lambda>" = lamQ f) (hcode : X.env.code = .ref (He.cT X.K (f, none)).1) (hr : Room (k + 2) X.A) (L : LamX.LamS X.env.scope scope) (hdef : defaultsOf params X.env = ([], []))
    (hbind : ∀ (q : Str) (cl : List (Str × Addr)) (pm cv ctv : Value), bindArgs (PySem.W.kla_fn "<lambda>" q params body scope cl pm cv ctv) ⟨[], []⟩ = pure [])
    (hbody : ∀ (A : Around) (outer : List Env) (s : Shared) (H : Hp) (E : XK) (f c' : Addr), Room k (A.deeper (LamX.lamEnv X scope s.heap.objs.size f c')) → PE (LamX.lamCx X A outer s H E scope f c') body (t E))
    (hg : Gl X x := by rfl) (hdb : (x == ("__debug__" : Str)) = false := by decide) (hd : (a == ("__debug__" : Str)) = false := by decide) (hcd : (a == ("__classdict__" : Str)) = false := by decide) :
    PE X (.Call (.Name x p) [.Lambda params body scope lpos] [] pos) (LamX.tLam T (LamX.TTold X.K CS ret) t) := by
  obtain ⟨fd, F⟩ := F
  have kb := F.bindsN (ps := [a]) hbT
  have kp := F.kp
  obtain ⟨oc, od, dV, kV, doc, pm, an, cdv, ct, osl, e1, lk, hc⟩ := fnd_of F
  subst e1
  refine LamX.pe_lamcall (k := k) hg hm kp lk hc kb Sg rfl hva ?_ LB.tb hcode (by rw [hq]; exact LB.mm) (by rw [hq]; exact LB.hu) hr L hdef hbind hbody hdb hd hcd
  rw [hbod]
  exact LamX.told_gives hge hme hde fun _ => rfl
end Py
end

section
set_option Elab.async false
set_option linter.all false
set_option maxRecDepth 100000
set_option maxHeartbeats 4000000
set_option autoImplicit false
namespace Py
open PySem PySem.Spec PyProof.Rows L2
/-! ### {k: v, ..}, d[k] -/
def EvPs (C : Ct) (trs : List (TE × TE)) (A : AS) (ks : List Key) (xs : List Dt) (A1 : AS) : Prop := ∀ os σ H, Ok C os A σ H → ∀ Q : List (V × V) → Hp → Prop, (∀ os' vs H', Ok C os' A1 σ H' → Gr C.O os H os' H' → IsA C.K (Rh C.O os' H') xs vs → Q ((ks.map kV).zip vs) H') → tPairs trs σ H Q
theorem tabs_dk {T : List (Addr × Str)} {H : Hp} {p : Addr} {ks ls : List (Key × V)} (t : LamX.Tabs T H) (hp : H p = some (.dK ks)) : LamX.Tabs T (upd H p (.dK ls)) := fun q hq => by
  obtain ⟨ps, h1, h2, h3⟩ := t q hq
  refine ⟨ps, ?_, h2, fun pos cv hc => ?_⟩
  · rw [upd_ne (ne_of h1 hp (fun z => by cases z))]
    exact h1
  · obtain ⟨c, e1, e2⟩ := h3 pos cv hc
    refine ⟨c, e1, ?_⟩
    rw [upd_ne (ne_of e2 hp (fun z => by unfold LamX.CodeO at z; cases z))]
    exact e2
section
variable {C : Ct} {E : XK} {A A1 A2 A3 : AS} {σ : L2.St} {H H' : Hp} {os os' : List (Option Addr)} {p : Addr} {tk tv td ty ta tb tc : TE} {trs : List (TE × TE)} {ks : List Key} {xs : List Dt} {d x y z : Dt}
theorem Ok.updK {us ws : List (Key × V)} (k : Ok C os A σ H) (h : p ∈ C.O) (h0 : ∀ o, C.H0 p = some o → ¬ NoT o) (hl : H p = some (.dK us)) : Ok C os A σ (upd H p (.dK ws)) := by
  refine ⟨fun a o e n => ?_, tabs_dk k.tb hl, fun a m => ?_, k.dj, k.ln, k.nd, fun a m => ?_, k.sn, fun i s o h1 h2 => ?_, fun i s o h1 h2 => ?_⟩
  · rw [upd_ne fun z => h0 o (by rw [← z]; exact e) n]
    exact k.ex _ _ e n
  · by_cases e : a = p
    · rw [e]; exact ⟨_, upd_same, nt_k⟩
    · rw [upd_ne e]; exact k.ol a m
  · rw [upd_ne fun z => k.dj p h (by rw [← z]; exact m)]
    exact k.fr a m
  · rw [Rh_updO h]
    exact k.sl i s o h1 h2
  · rw [Rh_updO h]
    exact (k.st i s o h1 h2).heap fun a q1 => upd_ne fun z => k.dj p h (by rw [← z, ← q1]; exact List.mem_of_getElem? h2)
theorem ps_nil : EvPs C [] A [] [] A := fun os σ H k Q q => q os [] H k Gr.refl isA_nil
theorem ps_cons {k0 : Key} (hk : EvS C tk A (.v (kV k0)) A1) (hv : EvS C tv A1 x A2) (hr : EvPs C trs A2 ks xs A3) : EvPs C ((tk, tv) :: trs) A (k0 :: ks) (x :: xs) A3 := fun os σ H k Q q =>
  hk os σ H k _ fun os1 v1 H1 k1 e1 i1 => hv os1 σ H1 k1 _ fun os2 v2 H2 k2 e2 i2 => hr os2 σ H2 k2 _ fun os3 vs H3 k3 e3 i3 => by
    rw [Is.v_iff.mp i1]
    exact q os3 (v2 :: vs) H3 k3 ((e1.trans e2).trans e3) (isA_cons (Is.mono e3.e _ _ i2) i3)
theorem merge_nd : ∀ (kvs acc : List (Key × V)), (acc ++ kvs).map (·.1) |>.Nodup → mergeK acc kvs = acc ++ kvs
  | [], acc, _ => by rw [List.append_nil]; rfl
  | kv :: r, acc, h => by
    have ne : (acc.any fun q => decide (q.1 = kv.1)) = false := by
      rw [List.any_eq_false]
      intro q hq z
      rw [List.map_append, List.nodup_append] at h
      exact h.2.2 _ (List.mem_map.mpr ⟨q, hq, rfl⟩) _ (List.mem_map.mpr ⟨kv, List.mem_cons_self .., rfl⟩) (of_decide_eq_true z)
    show mergeK (putK acc kv.1 kv.2) r = _
    unfold putK
    rw [if_neg (by rw [ne]; decide)]
    rw [merge_nd r (acc ++ [(kv.1, kv.2)]) (by simpa [List.append_assoc] using h)]
    simp
theorem zip_kV : ∀ (ks : List Key) (vs : List V), (ks.map kV).zip vs = (ks.zip vs).map fun kv => (kV kv.1, kv.2)
  | [], _ => rfl
  | _ :: _, [] => rfl
  | k :: ks, v :: vs => by rw [List.map_cons, List.zip_cons_cons, List.zip_cons_cons, List.map_cons, zip_kV ks vs]
theorem e_disp (h : ∀ O, EvPs ⟨C.K, C.T, C.H0, O⟩ trs A ks xs A1) (nd : ks.Nodup) (hl : ks.length ≤ 15) (hx : xs.length = ks.length) : EvS C (tDisp trs) A (.dct ks xs) A1 := fun os σ H k Q q p hp => by
  have k1 := k.hide hp (nt_k (kvs := []))
  refine h (p :: C.O) os σ _ k1 _ fun os2 vs H2 k2 g2 i2 => ⟨(g2.o p (List.mem_cons_self ..)).trans upd_same, ks.zip vs, zip_kV ks vs, ?_, ?_⟩
  · rw [List.length_zip]; omega
  · have hp2 : H2 p = some (.dK []) := (g2.o p (List.mem_cons_self ..)).trans upd_same
    have hv := isA_len i2
    rw [merge_nd (ks.zip vs) [] (by rw [List.nil_append, List.map_fst_zip (by omega)]; exact nd), List.nil_append]
    have k3 : Ok (C.hide p) os2 A1 σ (upd H2 p (.dK (ks.zip vs))) := Ok.updK (C := C.hide p) k2 (List.mem_cons_self ..) (fun o e => fresh_0 (C := C) k hp o e) hp2
    refine q os2 _ _ k3.unhide ⟨?_, fun a ha => ?_, g2.p⟩ ?_
    · have e := g2.e
      rw [Rh_hide hp] at e
      refine e.trans ?_
      rw [← Rh_updO (o := .dK (ks.zip vs)) (List.mem_cons_self ..)]
      exact Rh_unhide
    · rw [upd_ne fun z => fresh_O k hp (by rw [← z]; exact ha), g2.o a (List.mem_cons_of_mem _ ha), upd_ne fun z => fresh_O k hp (by rw [← z]; exact ha)]
    · rw [Is]
      refine ⟨p, vs, rfl, ?_, ?_⟩
      · show hd _ _ p = _
        rw [hd_of fun z => ?_, upd_same]
        rcases mem_hid.mp z with z | z
        · exact fresh_O k hp z
        · exact k2.dj p (List.mem_cons_self ..) z
      · refine IsA.mono ?_ _ _ i2
        rw [← Rh_updO (o := .dK (ks.zip vs)) (List.mem_cons_self ..)]
        exact Rh_unhide
theorem dct_get {K : Frg} {R : Hp} {k0 : Key} : ∀ {ks : List Key} {xs : List Dt} {vs : List V}, IsA K R xs vs → ((ks.zip xs).find? fun q => decide (q.1 = k0)).map (·.2) = some d → ∃ v, valV (ks.zip vs) k0 = some v ∧ Is K R d v
  | [], xs, vs, h, e => by simp at e
  | k :: ks, [], vs, h, e => by simp at e
  | k :: ks, x :: xs, vs, h, e => by
    rw [IsA] at h
    obtain ⟨v, w, rfl, h1, h2⟩ := h
    unfold valV
    rw [List.zip_cons_cons] at e ⊢
    by_cases q : k = k0
    · rw [List.find?_cons_of_pos (by simpa using q)] at e ⊢
      cases e
      exact ⟨v, rfl, h1⟩
    · rw [List.find?_cons_of_neg (by simpa using q)] at e ⊢
      exact dct_get h2 e
theorem e_dget {k0 : Key} (h1 : EvS C td A (.dct ks xs) A1) (h2 : EvS C ty A1 (.v (kV k0)) A2) (h : ((ks.zip xs).find? fun q => decide (q.1 = k0)).map (·.2) = some d) : EvS C (tDGet td ty) A d A2 := fun os σ H k Q q =>
  h1 os σ H k _ fun os1 v1 H1 k1 e1 i1 => h2 os1 σ H1 k1 _ fun os2 v2 H2 k2 e2 i2 => by
    rw [Is.v_iff.mp i2]
    have i1 := Is.mono e2.e _ _ i1
    rw [Is] at i1
    obtain ⟨a, vs, rfl, g1, g2⟩ := i1
    obtain ⟨v, z1, z2⟩ := dct_get g2 h
    exact ⟨a, v, rfl, .inl ⟨_, k0, .inl (hd_ex a _ g1 nt_k), rfl, z1.symm⟩, q os2 v H2 k2 (e1.trans e2) z2⟩
end
/-- a difference of two truths -/
def rSubB : R2 := fun x y H Q => ∃ p q : Bool, x = .bl p ∧ y = .bl q ∧ Q (.int ((if p then 1 else 0) - (if q then 1 else 0))) H
theorem op_subBB {X : Cx} : OpR X (binaryOp .Sub) rSubB := by
  intro pins s σ H x y v u Q I rx ry h
  obtain ⟨p, q, rfl, rfl, h⟩ := h
  cases rx
  cases ry
  exact PyProof.Rows.sub_bool ⟨.int _, H, I.tok _, ⟨_, rfl⟩, h⟩
theorem o_subBB {C : Ct} {p q : Bool} : OpS C rSubB (db p) (db q) (di ((if p then 1 else 0) - (if q then 1 else 0))) := o_v fun H Q h => ⟨p, q, rfl, rfl, h⟩
end Py
end

section
set_option Elab.async false
set_option linter.all false
set_option maxRecDepth 100000
set_option maxHeartbeats 4000000
set_option autoImplicit false
namespace Py
open PySem PySem.Spec PyProof.Rows L2
/-! ### a comprehension over a tuple -/
section
variable {C : Ct} {A A1 A2 A3 : AS} {te tl : TE} {tt : TT} {g : TG} {ws : List Nat}
theorem e_lcT {xs : List Dt} (he : EvS C tl A (.tup xs) A1) (B : Nat → AS) (Y : Nat → List Dt) (h0 : A1 = B 0) (hY : Y 0 = [])
    (hs : ∀ i x, xs[i]? = some x → ∀ O, LcT ⟨C.K, C.T, C.H0, O⟩ g tt te ws x (B i) (Y i) (B (i + 1)) (Y (i + 1))) (hn : xs.length < 100000) : EvS C (tLc (iTup C.K tl) g tt te ws) A (.lst (Y xs.length)) (B xs.length) := fun os σ H k Q q =>
  he os σ H k _ fun os1 v H1 k1 g1 i1 => by
    rw [Is] at i1
    obtain ⟨a, vs, rfl, h1, h2⟩ := i1
    refine ⟨a, rfl, ⟨vs, hd_ex.t h1⟩, fun p hp => ?_⟩
    have hl : ∀ i, i ≤ xs.length → (Y i).length ≤ i := by
      intro i
      induction i with
      | zero => intro _; rw [hY]; exact Nat.le_refl _
      | succ i ih =>
        intro hi
        obtain ⟨_, _, _, _, _, h⟩ := hs i xs[i] (List.getElem?_eq_getElem hi) []
        rcases h with ⟨_, _, _, _, e, _⟩ | ⟨_, e, _⟩ <;> rw [e] <;> have := ih (by omega) <;> (try simp only [List.length_append, List.length_singleton]) <;> omega
    subst h0
    have el : vs.length = xs.length := isA_len h2
    refine lc_tup (K := C.K) (a := a) (xs := vs) (fun i H' => ∃ os' acc, Ok (C.hide p) os' (B i) σ H' ∧ GrP p C.O os1 (upd H1 p (.lst [])) os' H' ∧ H' p = some (.lst acc) ∧ IsA C.K (Rh (p :: C.O) os' H') (Y i) acc) ⟨os1, [], k1.hide hp nt_l, ⟨Ex.refl _, fun _ _ => rfl, fun _ _ h => h⟩, upd_same, by rw [hY]; exact isA_nil⟩ (fun i H' _ ⟨os', acc, k', g', hp', ha⟩ => ?_) ?_ ?_
    · have e := g'.e
      rw [Rh_hide hp] at e
      exact hd_ex.t (e.t h1)
    · rintro i x H' hi ⟨os', acc, k', g', hp', ha⟩
      obtain ⟨d, hd', hi'⟩ := isA_get' h2 hi
      have e := g'.e
      rw [Rh_hide hp] at e
      exact lc_turn (hs i d hd' _) k' hp' ha (Is.mono e _ _ hi') (fresh_0 k1 hp) (fresh_O k1 hp) (by have := hl i (by have := (List.getElem?_eq_some_iff.mp hd').1; omega); have := (List.getElem?_eq_some_iff.mp hd').1; omega) _ fun os2 acc2 H2 k2 g2 hp2 ha2 => ⟨os2, acc2, k2, g'.trans g2, hp2, ha2⟩
    · rintro H' ⟨os', acc, k', g', hp', ha⟩
      rw [el] at k' ha
      exact lc_end k1 hp k' g' hp' ha fun os2 v H2 k2 g2 i2 => q os2 v H2 k2 (g1.trans g2) i2
end
theorem w_rng2n {C : Ct} {A A1 : AS} {tl : TA} {m n : Int} {c : Nat} (h : EvA C tl A [di m, di n] A1) (e : (n - m).toNat = c) (hm : -(2 ^ 62) ≤ m ∧ m < 2 ^ 62) (hn : -(2 ^ 62) ≤ n ∧ n < 2 ^ 62) : ∀ os σ H, Ok C os A σ H → ∀ R : It → Hp → Prop, (∀ os' H', Ok C os' A1 σ H' → Gr C.O os H os' H' → R (Itr m c) H') → iRng2 tl σ H R := by
  subst e
  exact w_rng2 h hm hn
theorem w_rng1n {C : Ct} {A A1 : AS} {tl : TA} {n : Int} {c : Nat} (h : EvA C tl A [di n] A1) (e : n.toNat = c) (hn : -(2 ^ 62) ≤ n ∧ n < 2 ^ 62) : ∀ os σ H, Ok C os A σ H → ∀ R : It → Hp → Prop, (∀ os' H', Ok C os' A1 σ H' → Gr C.O os H os' H' → R (Itr 0 c) H') → iRng1 tl σ H R := by
  subst e
  exact w_rng1 h hn
theorem pi_listK {X : Cx} {K : Frg} {tg : Expr} {l : Expr} {tl : TE} (hk : X.K = K) (hl : PE X l tl) : PI X tg l (iList K tl) := by
  subst hk
  exact pi_list hl
theorem pi_tupK {X : Cx} {K : Frg} {tg : Expr} {l : Expr} {tl : TE} (hk : X.K = K) (hl : PE X l tl) : PI X tg l (iTup K tl) := by
  subst hk
  exact pi_tup hl
/-- the scope of a comprehension that a statement gives to a name -/
def lcScope : Stmt → Scope
  | .Assign _ (.ListComp _ _ sc _) _ => sc
  | _ => default
theorem rel_lookup {env : Env} {x : Str} : ∀ {names : List (Str × NameKind)}, names.lookup x = some .cell ∨ names.lookup x = some .free →
    (names.map fun (n, k) => if (k == NameKind.free && env.scope.kind == .function && env.kindOf n == some .cell) then (n, NameKind.cell) else (n, k)).lookup x = some .cell ∨ (names.map fun (n, k) => if (k == NameKind.free && env.scope.kind == .function && env.kindOf n == some .cell) then (n, NameKind.cell) else (n, k)).lookup x = some .free
  | [], h => by simp at h
  | (n, k) :: r, h => by
    have ih := rel_lookup (env := env) (x := x) (names := r)
    rw [List.map_cons]
    dsimp only
    rw [List.lookup_cons] at h
    split
    · rw [List.lookup_cons]
      split
      · exact .inl rfl
      · rename_i q
        rw [q] at h
        exact ih h
    · rw [List.lookup_cons]
      split
      · rename_i q
        rw [q] at h
        exact h
      · rename_i q
        rw [q] at h
        exact ih h
theorem blkOk_rel {env : Env} {N : List Str} {sc scope : Scope} {own : List (Str × Nat)} (h : BlkOk N sc scope own) : BlkOk N (relabel sc env) scope own := ⟨h.kind, h.uniq, h.ix, fun y hy e => rel_lookup (env := env) (h.free y hy e), h.own⟩
theorem pg_tupK {X : Cx} {K : Frg} {es : List Expr} {k : Nat} {t : TGs} {n : Nat} {pos : Pos} (hk : X.K = K) (hc : X.calm = true) (h : PGs X es t) (hn : (assignEach es X.env).length = n := by rfl) (hst : (assignEach es X.env).findIdx? (·.1) = none := by rfl) : PG X (.Tuple es k pos) (gTup K n t) := by
  subst hk
  exact pg_tup hc h hn hst
end Py
end

section
set_option Elab.async false
set_option linter.all false
set_option maxRecDepth 100000
set_option maxHeartbeats 4000000
set_option autoImplicit false
namespace Py
open PySem PySem.Spec PyProof.Rows L2
/-! ### a list of one's own given to a def that only reads it -/
section
variable {C : Ct} {E : XK} {A A1 A2 : AS} {te : TE} {tl tr : TA} {d : Dt} {ss : List SD}
theorem p_own {i n : Nat} (h1 : A.sl[i]? = some (.own n)) (hr : EvP C tr A ss A1) : EvP C (tCons (tVar i) tr) A (.own n :: ss) A1 := fun os σ H k Q q => by
  obtain ⟨o, e1, a, e2, e3⟩ := k.slot h1
  subst e2
  exact ⟨_, e1, hr os σ H k _ fun os2 ws H2 k2 g2 i2 => q os2 _ H2 k2 g2 ⟨_, ws, rfl, ⟨a, rfl, g2.p _ _ e3⟩, i2⟩⟩
def SdD (A : AS) : List SD → List Dt → Prop
  | [], ds => ds = []
  | .d x :: ss, ds => ∃ r, ds = x :: r ∧ SdD A ss r
  | .own n :: ss, ds => ∃ xs r, A.st[n]? = some (.lst xs) ∧ ds = .lst xs :: r ∧ SdD A ss r
  | .un :: _, _ => False
theorem sd_nil : SdD A [] [] := rfl
theorem sd_d {x : Dt} {r : List Dt} (h : SdD A ss r) : SdD A (.d x :: ss) (x :: r) := ⟨r, rfl, h⟩
theorem sd_own {n : Nat} {xs : List Dt} {r : List Dt} (h1 : A.st[n]? = some (.lst xs)) (h : SdD A ss r) : SdD A (.own n :: ss) (.lst xs :: r) := ⟨xs, r, h1, rfl, h⟩
theorem sd_isA {os : List (Option Addr)} {σ : Sg} {H : Hp} (k : Ok C os A σ H) : ∀ {ss : List SD} {ds : List Dt} {vs : List V}, SdD A ss ds → SlA C.K os (Rh C.O os H) ss vs → IsA C.K (hd C.O H) ds vs
  | [], ds, vs, h, i => by
    obtain rfl : ds = [] := h
    obtain rfl : vs = [] := i
    exact isA_nil
  | .d x :: ss, ds, vs, h, i => by
    obtain ⟨r, rfl, h⟩ := h
    obtain ⟨v, w, rfl, h1, h2⟩ := i
    obtain ⟨v', e, h1⟩ := h1
    cases e
    exact isA_cons (Is.mono hid_ex _ _ h1) (sd_isA k h h2)
  | .own n :: ss, ds, vs, h, i => by
    obtain ⟨xs, r, h1, rfl, h⟩ := h
    obtain ⟨v, w, rfl, h2, h3⟩ := i
    obtain ⟨a, e, h2⟩ := h2
    cases e
    obtain ⟨o, e1, a', us, e2, e3, e4⟩ := k.store h1
    rw [h2] at e1; cases e1; cases e2
    refine isA_cons ?_ (sd_isA k h h3)
    rw [Is]
    refine ⟨a, us, rfl, SqL.of ?_, IsA.mono hid_ex _ _ e4⟩
    rw [hd_of fun z => ?_]
    · exact e3
    · exact k.dj a z (List.mem_of_getElem? h2)
mutual
/-- no list in it -/
def pl : Dt → Bool
  | .v _ => true
  | .tup xs => plA xs
  | .lst _ => false
  | .obj .. => false
  | .dct .. => false
  | .tupZ _ => false
  | .lam _ _ => false
  | .lstN _ => false
  | .tupE _ => false
  | .dctT .. => false
def plA : List Dt → Bool
  | [] => true
  | x :: r => pl x && plA r
end
mutual
theorem is_hide {K : Frg} {O O' : List Addr} {H : Hp} (hH : ∀ a ∈ O, a ∉ O' → ∃ xs, H a = some (.lst xs)) : ∀ (d : Dt) (v : V), pl d = true → Is K (hd O' H) d v → Is K (hd O H) d v
  | .v x, v, _, h => by rw [Is] at h ⊢; exact h
  | .tup xs, v, e, h => by
    rw [Is] at h ⊢
    obtain ⟨a, vs, h1, h2, h3⟩ := h
    refine ⟨a, vs, h1, ?_, isA_hide hH xs vs (by rw [pl] at e; exact e) h3⟩
    have st : ∀ o, hd O' H a = some o → (∀ xs, o ≠ .lst xs) → hd O H a = some o := fun o q n => by
      have q0 := q
      unfold hd at q
      split at q
      · cases q
      · rename_i z
        unfold hd
        rw [if_neg fun y => ?_]
        · exact q
        · obtain ⟨xs, e⟩ := hH a y z
          rw [e] at q
          cases q
          exact n xs rfl
    rcases h2 with (h2 | ⟨o, h2⟩) | h2
    · exact .inl (.inl (st _ h2 fun _ z => by cases z))
    · exact .inl (.inr ⟨o, st _ h2 fun _ z => by cases z⟩)
    · exact .inr h2
  | .lst _, _, e, _ => by rw [pl] at e; cases e
  | .obj .., _, e, _ => by rw [pl] at e; cases e
  | .dct .., _, e, _ => by rw [pl] at e; cases e
  | .tupZ _, _, e, _ => by rw [pl] at e; cases e
  | .lam _ _, _, e, _ => by rw [pl] at e; cases e
  | .lstN _, _, e, _ => by rw [pl] at e; cases e
  | .tupE _, _, e, _ => by rw [pl] at e; cases e
  | .dctT .., _, e, _ => by rw [pl] at e; cases e
theorem isA_hide {K : Frg} {O O' : List Addr} {H : Hp} (hH : ∀ a ∈ O, a ∉ O' → ∃ xs, H a = some (.lst xs)) : ∀ (ds : List Dt) (vs : List V), plA ds = true → IsA K (hd O' H) ds vs → IsA K (hd O H) ds vs
  | [], vs, _, h => by rw [IsA] at h ⊢; exact h
  | d :: r, vs, e, h => by
    rw [IsA] at h ⊢
    rw [plA, Bool.and_eq_true] at e
    obtain ⟨v, w, h1, h2, h3⟩ := h
    exact ⟨v, w, h1, is_hide hH d v e.1 h2, isA_hide hH r w e.2 h3⟩
end
theorem st_lst {os : List (Option Addr)} {σ : Sg} {H : Hp} (k : Ok C os A σ H) (hst : ∀ s ∈ A.st, ∃ xs, s = .lst xs) {a : Addr} (h : some a ∈ os) : ∃ xs, H a = some (.lst xs) := by
  obtain ⟨j, hj⟩ := List.getElem?_of_mem h
  have hl : j < A.st.length := by rw [← k.ln]; exact (List.getElem?_eq_some_iff.mp hj).1
  obtain ⟨xs, e⟩ := hst A.st[j] (List.getElem_mem hl)
  obtain ⟨o, e1, a', us, e2, e3, _⟩ := k.store (i := j) (s := .lst xs) (by rw [← e]; exact List.getElem?_eq_getElem hl)
  rw [hj] at e1; cases e1; cases e2
  exact ⟨us, e3⟩
theorem e_callP {g : List Dt → Rs → Prop} {E' : XK} {ds : List Dt} (ha : EvP C tl A ss A1) (hd' : SdD A1 ss ds) (hst : ∀ s ∈ A1.st, ∃ xs, s = .lst xs) (hp : pl d = true) (hg : g ds (.ok d)) : EvS C (tCall (spD C.K C.T g) [] E' tl) A d A1 := fun os σ H k Q q =>
  ha os σ H k _ fun os1 vs H1 k1 e1 i1 => ⟨C.O, ds, .ok d, fun a h => k1.ol a h, k1.tb, by rw [List.append_nil]; exact sd_isA k1 hd' i1, hg, fun v H' e t i => q os1 v H' (k1.mono e t) (e1.trans (k1.gr e)) (is_hide (fun a h n => by
    rcases mem_hid.mp h with h | h
    · exact absurd h n
    · obtain ⟨xs, z⟩ := st_lst k1 hst h
      exact ⟨xs, e _ _ z nt_l⟩) d v hp i)⟩
end
end Py
end

section
set_option linter.all false
set_option autoImplicit false
-- series of fractions, without end: sums, products, slopes, what is put in, undoing
namespace Sr
abbrev S := Nat → Rat
theorem nc (n : Nat) : ((n + 1 : Nat) : Rat) = (n : Rat) + 1 := by push_cast; rfl
def tl (f : S) : S := fun n => f (n + 1)
def mul (f g : S) : Nat → Rat
  | 0 => f 0 * g 0
  | n + 1 => f 0 * g (n + 1) + mul (tl f) g n
def add (f g : S) : S := fun n => f n + g n
def sc (c : Rat) (f : S) : S := fun n => c * f n
def cst (c : Rat) : S := fun n => if n = 0 then c else 0
def zer : S := fun _ => 0
def th (f : S) : S := fun n => (n : Rat) * f n
def X : S := fun n => if n = 1 then 1 else 0
def pw (f : S) : Nat → S
  | 0 => cst 1
  | n + 1 => mul (pw f n) f

theorem mul_0 (f g : S) : mul f g 0 = f 0 * g 0 := rfl
theorem mul_s (f g : S) (n : Nat) : mul f g (n + 1) = f 0 * g (n + 1) + mul (tl f) g n := rfl
theorem mul_congr {f f' g g' : S} {n : Nat} (h : ∀ k, k ≤ n → f k = f' k) (h' : ∀ k, k ≤ n → g k = g' k) : mul f g n = mul f' g' n := by
  induction n generalizing f f' with
  | zero => rw [mul_0, mul_0, h 0 (Nat.le_refl 0), h' 0 (Nat.le_refl 0)]
  | succ n ih =>
    rw [mul_s, mul_s, h 0 (Nat.zero_le _), h' (n + 1) (Nat.le_refl _), ih (f := tl f) (f' := tl f') (fun k hk => h (k + 1) (by omega)) (fun k hk => h' k (by omega))]
theorem add_mul (f f' g : S) : mul (add f f') g = add (mul f g) (mul f' g) := by
  funext n
  induction n generalizing f f' with
  | zero => simp only [mul_0, add]; grind
  | succ n ih =>
    have e : tl (add f f') = add (tl f) (tl f') := rfl
    simp only [add] at ih
    simp only [mul_s, e, ih, add]; grind
theorem sc_mul (c : Rat) (f g : S) : mul (sc c f) g = sc c (mul f g) := by
  funext n
  induction n generalizing f with
  | zero => simp only [mul_0, sc]; grind
  | succ n ih =>
    have e : tl (sc c f) = sc c (tl f) := rfl
    simp only [sc] at ih
    simp only [mul_s, e, ih, sc]; grind
theorem mul_s' (f g : S) (n : Nat) : mul f g (n + 1) = mul f (tl g) n + f (n + 1) * g 0 := by
  induction n generalizing f with
  | zero => simp only [mul_s, mul_0, tl]
  | succ n ih =>
    rw [mul_s, ih (tl f), mul_s f (tl g)]; simp only [tl]; grind
theorem mul_comm (f g : S) : mul f g = mul g f := by
  funext n
  induction n generalizing f g with
  | zero => simp only [mul_0]; grind
  | succ n ih => rw [mul_s, mul_s', ih (tl f) g]; grind
theorem tl_mul (f g : S) : tl (mul f g) = add (sc (f 0) (tl g)) (mul (tl f) g) := by
  funext n
  simp only [tl, mul_s, add, sc]
theorem mul_assoc (f g h : S) : mul (mul f g) h = mul f (mul g h) := by
  funext n
  induction n generalizing f with
  | zero => simp only [mul_0]; grind
  | succ n ih =>
    rw [mul_s, tl_mul, add_mul, sc_mul, mul_s f]
    simp only [add, sc, ih (tl f), mul_s g, mul_0]; grind
theorem mul_add (f g g' : S) : mul f (add g g') = add (mul f g) (mul f g') := by rw [mul_comm, add_mul, mul_comm g, mul_comm g']
theorem mul_sc (c : Rat) (f g : S) : mul f (sc c g) = sc c (mul f g) := by rw [mul_comm, sc_mul, mul_comm]
theorem mul_zer (f : S) : mul f zer = zer := by
  funext n
  induction n generalizing f with
  | zero => simp only [mul_0, zer]; grind
  | succ n ih => simp only [zer] at ih; simp only [mul_s, zer, ih]; grind
theorem zer_mul (f : S) : mul zer f = zer := by rw [mul_comm, mul_zer]
theorem cst_mul (c : Rat) (f : S) : mul (cst c) f = sc c f := by
  funext n
  cases n with
  | zero => rfl
  | succ n =>
    have e : tl (cst c) = zer := by funext k; simp [tl, cst, zer]
    rw [mul_s, e, zer_mul]; simp only [zer, cst, sc, if_pos]; grind
theorem sc_one (f : S) : sc 1 f = f := by funext n; simp only [sc]; grind
theorem one_mul (f : S) : mul (cst 1) f = f := by rw [cst_mul, sc_one]
theorem mul_one (f : S) : mul f (cst 1) = f := by rw [mul_comm, one_mul]
theorem X_mul_0 (f : S) : mul X f 0 = 0 := by simp only [mul_0, X]; grind
theorem X_mul_s (f : S) (n : Nat) : mul X f (n + 1) = f n := by
  have e : tl X = cst 1 := by funext k; simp [tl, X, cst]
  rw [mul_s, e, one_mul]; simp only [X]; grind
theorem X_tl {f : S} (h : f 0 = 0) : mul X (tl f) = f := by
  funext n
  cases n with
  | zero => rw [X_mul_0, h]
  | succ n => rw [X_mul_s]; rfl
theorem eq_tl (f : S) : f = add (cst (f 0)) (mul X (tl f)) := by
  funext n
  cases n with
  | zero => simp only [add, X_mul_0, cst, if_pos]; grind
  | succ n => simp only [add, X_mul_s, cst, tl]; grind
-- the slope, times the unknown
theorem th_mul (f g : S) : th (mul f g) = add (mul (th f) g) (mul f (th g)) := by
  funext n
  induction n generalizing f with
  | zero => simp only [th, add, mul_0]; grind
  | succ n ih =>
    have e : tl (th f) = add (th (tl f)) (tl f) := by funext k; simp only [tl, th, add, nc]; grind
    have i := ih (tl f)
    simp only [add] at i
    simp only [add, mul_s, e, add_mul]
    generalize mul (th (tl f)) g n = u at *
    generalize mul (tl f) (th g) n = v at *
    simp only [th, mul_s, nc] at *
    grind
theorem th_add (f g : S) : th (add f g) = add (th f) (th g) := by funext n; simp only [th, add]; grind
theorem th_sc (c : Rat) (f : S) : th (sc c f) = sc c (th f) := by funext n; simp only [th, sc]; grind
theorem th_cst (c : Rat) : th (cst c) = zer := by funext n; simp only [th, cst, zer]; split <;> simp_all
theorem pw_add (f : S) (m n : Nat) : pw f (m + n) = mul (pw f m) (pw f n) := by
  induction n with
  | zero => rw [pw, mul_one]; rfl
  | succ n ih => rw [← Nat.add_assoc, pw, pw, ih, mul_assoc]
theorem pw_mul (f g : S) (n : Nat) : pw (mul f g) n = mul (pw f n) (pw g n) := by
  induction n with
  | zero => rw [pw, pw, pw, mul_one]
  | succ n ih => rw [pw, pw, pw, ih, mul_assoc, mul_assoc, ← mul_assoc (pw g n), mul_comm (pw g n) f, mul_assoc f]
theorem pw_one (n : Nat) : pw (cst 1) n = cst 1 := by
  induction n with
  | zero => rfl
  | succ n ih => rw [pw, ih, mul_one]
theorem th_pw (f : S) (n : Nat) : th (pw f (n + 1)) = sc ((n : Rat) + 1) (mul (pw f n) (th f)) := by
  induction n with
  | zero => simp only [pw, one_mul]; funext k; simp only [sc]; grind
  | succ n ih =>
    rw [pw, th_mul, ih, sc_mul, mul_assoc, mul_comm (th f) f, ← mul_assoc, ← pw]
    funext k
    simp only [add, sc, nc]
    grind
end Sr
end

section
set_option linter.all false
set_option autoImplicit false
namespace Sr
theorem n0 {n : Nat} (h : 0 < n) : (n : Rat) ≠ 0 := by
  intro e
  have : (n : Rat) = ((0 : Nat) : Rat) := e
  have := Rat.natCast_inj.mp this
  omega
-- slopes and integrals
def D (f : S) : S := tl (th f)
def I (f : S) : S
  | 0 => 0
  | n + 1 => f n / ((n : Rat) + 1)
theorem th_0 (f : S) : th f 0 = 0 := by simp [th]
theorem th_I (f : S) : th (I f) = mul X f := by
  funext n
  cases n with
  | zero => rw [X_mul_0, th_0]
  | succ n =>
    rw [X_mul_s]
    have h := n0 (Nat.succ_pos n)
    rw [nc] at h
    simp only [th, I, nc]
    grind
theorem D_I (f : S) : D (I f) = f := by
  funext n
  rw [D, th_I]
  exact X_mul_s f n
theorem X_D (f : S) : mul X (D f) = th f := X_tl (th_0 f)
theorem th_inj {f g : S} (h : th f = th g) (h0 : f 0 = g 0) : f = g := by
  funext n
  cases n with
  | zero => exact h0
  | succ n =>
    have e := congrFun h (n + 1)
    have := n0 (Nat.succ_pos n)
    simp only [th] at e
    grind
-- one at a time
def cut (n : Nat) (f : S) : S := fun k => if k < n then f k else 0
theorem mul_cut (f g : S) (n : Nat) : mul (cut n f) g n + f n * g 0 = mul f g n := by
  induction n generalizing f with
  | zero => simp only [mul_0, cut]; grind
  | succ n ih =>
    have e : tl (cut (n + 1) f) = cut n (tl f) := by funext k; simp only [tl, cut, Nat.add_lt_add_iff_right]
    rw [mul_s, mul_s, e, ← ih (tl f)]
    simp only [cut, tl]
    grind
-- with no constant, what is multiplied matters below alone
theorem mulz {f : S} (h : f 0 = 0) {u v : S} {n : Nat} (e : ∀ k, k < n → u k = v k) : mul f u n = mul f v n := by
  cases n with
  | zero => rw [mul_0, mul_0, h]; grind
  | succ n =>
    rw [mul_s, mul_s, h, mul_congr (f := tl f) (f' := tl f) (g := u) (g' := v) (n := n) (fun k _ => rfl) (fun k hk => e k (by omega))]
    grind
-- quotients
theorem quo_unique {b q q' : S} (h : b 0 ≠ 0) (e : mul q b = mul q' b) : q = q' := by
  funext n
  induction n using Nat.strongRecOn with
  | ind n ih =>
    have e := congrFun e n
    rw [← mul_cut q b, ← mul_cut q' b] at e
    rw [mul_congr (f := cut n q) (f' := cut n q') (g := b) (g' := b) (n := n) (fun k _ => by
      simp only [cut]; split
      · exact ih k ‹_›
      · rfl) (fun _ _ => rfl)] at e
    grind
-- exponentials
structure IsExp (f E : S) : Prop where
  one : E 0 = 1
  th : th E = mul (th f) E
theorem exp_unique {f E E' : S} (h : IsExp f E) (h' : IsExp f E') : E = E' := by
  funext n
  induction n using Nat.strongRecOn with
  | ind n ih =>
    cases n with
    | zero => rw [h.one, h'.one]
    | succ n =>
      have e := congrFun h.th (n + 1)
      have e' := congrFun h'.th (n + 1)
      rw [mulz (th_0 f) (u := E) (v := E') (n := n + 1) ih, ← e'] at e
      have := n0 (Nat.succ_pos n)
      simp only [Sr.th] at e
      grind
theorem exp_add {f g E F : S} (h : IsExp f E) (h' : IsExp g F) : IsExp (add f g) (mul E F) := by
  refine ⟨?_, ?_⟩
  · rw [mul_0, h.one, h'.one]; grind
  · rw [th_mul, h.th, h'.th, th_add, add_mul, mul_assoc, ← mul_assoc E (th g) F, mul_comm E (th g), mul_assoc (th g)]
theorem exp_zer : IsExp zer (cst 1) := ⟨rfl, by rw [th_cst, mul_one]; funext n; simp only [zer, th]; grind⟩
theorem exp_pw {f E : S} (h : IsExp f E) (n : Nat) : IsExp (sc n f) (pw E n) := by
  induction n with
  | zero =>
    have : sc ((0 : Nat) : Rat) f = zer := by funext k; simp only [sc, zer]; simp
    rw [this]
    exact exp_zer
  | succ n ih =>
    have : sc ((n + 1 : Nat) : Rat) f = add (sc n f) f := by funext k; simp only [sc, add, nc]; grind
    rw [this]
    exact exp_add ih h
theorem exp_neg {f E F : S} (h : IsExp f E) (h' : IsExp (sc (-1) f) F) : mul E F = cst 1 := by
  have e := exp_add h h'
  have : add f (sc (-1) f) = zer := by funext k; simp only [sc, add, zer]; grind
  rw [this] at e
  exact exp_unique e exp_zer
-- logarithms
theorem log_exp {u q : S} (h0 : u 0 = 1) (hq : mul q u = D u) : IsExp (I q) u :=
  ⟨h0, by rw [th_I, mul_assoc, hq, X_D]⟩
theorem exp_log {f E q : S} (h0 : f 0 = 0) (h : IsExp f E) (hq : mul q E = D E) : I q = f := by
  have e := log_exp h.one hq
  refine th_inj (quo_unique (b := E) (by rw [h.one]; decide) ?_) (by rw [h0]; rfl)
  rw [← e.th, ← h.th]
-- what is put in
def Hn : Nat → S → S → S
  | 0, _, _ => zer
  | M + 1, a, g => add (cst (a 0)) (mul g (Hn M (tl a) g))
def comp (a g : S) : S := fun n => Hn (n + 1) a g n
theorem H_same {g : S} (h : g 0 = 0) {M N n : Nat} (hM : n < M) (hN : n < N) (a : S) : Hn M a g n = Hn N a g n := by
  induction M generalizing N n a with
  | zero => omega
  | succ M ih =>
    cases N with
    | zero => omega
    | succ N =>
      simp only [Hn, add]
      rw [mulz h (u := Hn M (tl a) g) (v := Hn N (tl a) g) (n := n) fun k hk => ih (by omega) (by omega) _]
theorem comp_H {g : S} (h : g 0 = 0) {M n : Nat} (hM : n < M) (a : S) : comp a g n = Hn M a g n := H_same h (Nat.lt_succ_self n) hM a
theorem comp_eq {g : S} (h : g 0 = 0) (a : S) : comp a g = add (cst (a 0)) (mul g (comp (tl a) g)) := by
  funext n
  simp only [comp, Hn, add]
  rw [mulz h (u := Hn n (tl a) g) (v := comp (tl a) g) (n := n) fun k hk => (comp_H h hk _).symm]
theorem H_add (M : Nat) (a b g : S) : Hn M (add a b) g = add (Hn M a g) (Hn M b g) := by
  induction M generalizing a b with
  | zero => funext n; simp only [Hn, zer, add]; grind
  | succ M ih =>
    have e : tl (add a b) = add (tl a) (tl b) := rfl
    simp only [Hn, e, ih, mul_add]
    funext n
    simp only [add, cst]
    split <;> grind
theorem H_sc (M : Nat) (c : Rat) (a g : S) : Hn M (sc c a) g = sc c (Hn M a g) := by
  induction M generalizing a with
  | zero => funext n; simp only [Hn, zer, sc]; grind
  | succ M ih =>
    have e : tl (sc c a) = sc c (tl a) := rfl
    simp only [Hn, e, ih, mul_sc]
    funext n
    simp only [add, cst, sc]
    split <;> grind
theorem comp_add (a b g : S) : comp (add a b) g = add (comp a g) (comp b g) := by funext n; simp only [comp, H_add, add]
theorem comp_sc (c : Rat) (a g : S) : comp (sc c a) g = sc c (comp a g) := by funext n; simp only [comp, H_sc, sc]
theorem comp_X {g : S} (h : g 0 = 0) (u : S) : comp (mul X u) g = mul g (comp u g) := by
  rw [comp_eq h (mul X u)]
  have e : tl (mul X u) = u := by funext k; exact X_mul_s u k
  rw [e, X_mul_0]
  funext n
  simp only [add, cst]
  split <;> grind
theorem comp_cst {g : S} (h : g 0 = 0) (c : Rat) : comp (cst c) g = cst c := by
  have e0 : tl (cst c) = zer := by funext k; simp [tl, cst, zer]
  have ez : ∀ M, Hn M zer g = zer := by
    intro M
    induction M with
    | zero => rfl
    | succ M ih =>
      have e1 : tl zer = zer := rfl
      simp only [Hn, e1, ih, mul_zer]
      funext n
      simp only [add, cst, zer]
      split <;> grind
  funext n
  simp only [comp, Hn, e0, ez, mul_zer]
  simp only [add, zer, cst]
  grind
theorem comp_mul {g : S} (h : g 0 = 0) (a b : S) : comp (mul a b) g = mul (comp a g) (comp b g) := by
  have P : ∀ n a, ∀ k, k < n → comp (mul a b) g k = mul (comp a g) (comp b g) k := by
    intro n
    induction n with
    | zero => intro a k hk; omega
    | succ n ih =>
      intro a k hk
      have e : mul a b = add (sc (a 0) b) (mul X (mul (tl a) b)) := by
        have := eq_tl a
        rw [congrArg (mul · b) this]
        simp only [add_mul, cst_mul, mul_assoc]
      rw [e, comp_add, comp_sc, comp_X h, congrArg (fun u => mul u (comp b g)) (comp_eq h a)]
      simp only [add_mul, cst_mul, mul_assoc, add]
      rw [mulz h (u := comp (mul (tl a) b) g) (v := mul (comp (tl a) g) (comp b g)) (n := k) fun j hj => ih (tl a) j (by omega)]
  funext n
  exact P (n + 1) a n (Nat.lt_succ_self n)
theorem comp_0 {g : S} (h : g 0 = 0) (a : S) : comp a g 0 = a 0 := by
  rw [comp_eq h]
  simp only [add, cst, mul_0, h]
  grind
theorem comp_assoc {g f : S} (hg : g 0 = 0) (hf : f 0 = 0) (a : S) : comp (comp a g) f = comp a (comp g f) := by
  have hz : comp g f 0 = 0 := by rw [comp_0 hf, hg]
  have P : ∀ n a, ∀ k, k < n → comp (comp a g) f k = comp a (comp g f) k := by
    intro n
    induction n with
    | zero => intro a k hk; omega
    | succ n ih =>
      intro a k hk
      rw [comp_eq hg a, comp_add, comp_cst hf, comp_mul hf, comp_eq hz a]
      simp only [add]
      rw [mulz hz (u := comp (comp (tl a) g) f) (v := comp (tl a) (comp g f)) (n := k) fun j hj => ih (tl a) j (by omega)]
  funext n
  exact P (n + 1) a n (Nat.lt_succ_self n)
theorem comp_id {g : S} (h : g 0 = 0) : comp X g = g := by
  have := comp_X h (cst 1)
  rw [mul_one, comp_cst h, mul_one] at this
  exact this
theorem H_id (M n : Nat) (hn : n < M) (a : S) : Hn M a X n = a n := by
  induction M generalizing n a with
  | zero => omega
  | succ M ih =>
    cases n with
    | zero => simp only [Hn, add, X_mul_0, cst]; grind
    | succ n => simp only [Hn, add, X_mul_s, cst, ih n (by omega), tl]; grind
theorem id_comp (a : S) : comp a X = a := by funext n; exact H_id _ _ (Nat.lt_succ_self n) a
theorem H_last (M : Nat) (a g : S) : Hn (M + 1) a g = add (Hn M a g) (sc (a M) (pw g M)) := by
  induction M generalizing a with
  | zero => simp only [Hn, pw, mul_zer]; funext n; simp only [add, cst, zer, sc]; split <;> grind
  | succ M ih =>
    rw [Hn, ih (tl a), Hn, pw, mul_add, mul_sc, mul_comm g (pw g M)]
    funext n
    simp only [add, sc, tl]
    grind
end Sr
end

section
set_option linter.all false
set_option autoImplicit false
namespace Sr
-- undoing: f = x p, p u = 1, what undoes f is by the powers of u
theorem X_pw (k : Nat) (u : S) (j : Nat) : mul (pw X k) u (j + k) = u j := by
  induction k generalizing u j with
  | zero => rw [pw, one_mul]; rfl
  | succ k ih =>
    rw [pw, mul_assoc, show j + (k + 1) = (j + 1) + k by omega, ih]
    exact X_mul_s u j
theorem X_pw_low (k : Nat) (u : S) (n : Nat) (h : n < k) : mul (pw X k) u n = 0 := by
  induction k generalizing u n with
  | zero => omega
  | succ k ih =>
    rw [pw, mul_assoc]
    by_cases e : n < k
    · exact ih _ _ e
    · have : n = 0 + k := by omega
      rw [this, X_pw, X_mul_0]
theorem th_Xpw (k : Nat) : th (pw X k) = sc k (pw X k) := by
  funext n
  simp only [th, sc]
  by_cases e : n < k
  · have := X_pw_low k (cst 1) n e
    rw [mul_one] at this
    rw [this]; grind
  · obtain ⟨j, rfl⟩ : ∃ j, n = j + k := ⟨n - k, by omega⟩
    have := X_pw k (cst 1) j
    rw [mul_one] at this
    rw [this]
    simp only [cst]
    split
    · rename_i e; rw [e, Nat.zero_add]
    · grind
theorem pw_cancel {p u : S} (h : mul p u = cst 1) (k : Nat) : mul (pw u k) (pw p k) = cst 1 := by
  rw [← pw_mul, mul_comm u p, h, pw_one]
theorem undo_at {p u : S} (h : mul p u = cst 1) (n k : Nat) (hk : 1 ≤ k) (hn : k ≤ n) : mul (pw u n) (th (pw (mul X p) k)) n = if k = n then (n : Rat) else 0 := by
  have e1 : th (pw (mul X p) k) = mul (pw X k) (add (sc k (pw p k)) (th (pw p k))) := by
    rw [pw_mul, th_mul, th_Xpw, sc_mul, mul_add, mul_sc]
  rw [e1, ← mul_assoc, mul_comm (pw u n), mul_assoc]
  obtain ⟨j, rfl⟩ : ∃ j, n = j + k := ⟨n - k, by omega⟩
  rw [X_pw, pw_add]
  have c := pw_cancel h k
  have c1 : mul (mul (pw u j) (pw u k)) (sc k (pw p k)) = sc k (pw u j) := by rw [mul_sc, mul_assoc, c, mul_one]
  rw [mul_add]
  simp only [add, c1]
  cases j with
  | zero =>
    rw [if_pos (by omega), mul_0, th_0]
    simp only [sc, pw, cst]
    simp
    grind
  | succ j =>
    rw [if_neg (by omega)]
    obtain ⟨k, rfl⟩ : ∃ k', k = k' + 1 := ⟨k - 1, by omega⟩
    have d : add (mul (th (pw u (k + 1))) (pw p (k + 1))) (mul (pw u (k + 1)) (th (pw p (k + 1)))) = zer := by rw [← th_mul, c, th_cst]
    have d1 : mul (th (pw u (k + 1))) (pw p (k + 1)) = sc ((k : Rat) + 1) (mul (th u) p) := by
      rw [th_pw, sc_mul, pw, mul_assoc, mul_comm (th u), mul_assoc, mul_comm p (th u), ← mul_assoc, pw_cancel h k, one_mul]
    have d2 : mul (pw u (k + 1)) (th (pw p (k + 1))) = sc (-((k : Rat) + 1)) (mul (th u) p) := by
      funext i
      have := congrFun d i
      rw [d1] at this
      simp only [add, sc, zer] at this
      simp only [sc]
      grind
    have d3 : mul (mul (pw u (j + 1)) (pw u (k + 1))) (th (pw p (k + 1))) = sc (-((k : Rat) + 1)) (mul (pw u j) (th u)) := by
      rw [mul_assoc, d2, mul_sc, pw, mul_assoc, mul_comm (th u) p, ← mul_assoc u, mul_comm u p, h, one_mul]
    rw [d3]
    have d4 := congrFun (th_pw u j) (j + 1)
    simp only [th, sc, nc] at d4 ⊢
    have := n0 (Nat.succ_pos j)
    rw [nc] at this
    grind
-- what is put in, by powers
def sm (a g : S) : Nat → S
  | 0 => zer
  | M + 1 => add (sm a g M) (sc (a M) (pw g M))
theorem sm_H (M : Nat) (a g : S) : Hn M a g = sm a g M := by
  induction M with
  | zero => rfl
  | succ M ih => rw [H_last, ih]; rfl
theorem undone {f u h : S} (f0 : f 0 = 0) (hu : mul (tl f) u = cst 1) (h0 : h 0 = 0) (hh : ∀ n, h (n + 1) = pw u (n + 1) n / ((n : Rat) + 1)) : comp h f = X := by
  have ef : mul X (tl f) = f := X_tl f0
  have u0 : u 0 ≠ 0 := by
    intro e
    have := congrFun hu 0
    rw [mul_0, e] at this
    simp [cst] at this
  have pu0 : ∀ n, pw u n 0 ≠ 0 := by
    intro n
    induction n with
    | zero => simp [pw, cst]
    | succ n ih => rw [pw, mul_0]; grind
  have A : ∀ n M, M ≤ n + 1 → mul (pw u (n + 1)) (th (sm h f (M + 1))) (n + 1) = if M = n + 1 then pw u (n + 1) n else 0 := by
    intro n M hM
    induction M with
    | zero =>
      rw [if_neg (by omega)]
      have : th (sm h f 1) = zer := by
        simp only [sm, h0]
        funext k
        simp only [th, add, sc, zer]
        grind
      rw [this, mul_zer]; rfl
    | succ M ih =>
      rw [sm, th_add, th_sc, mul_add, mul_sc]
      simp only [add, sc]
      rw [ih (by omega), if_neg (by omega)]
      have := undo_at hu (n + 1) (M + 1) (by omega) (by omega)
      rw [ef] at this
      rw [this, hh M]
      by_cases e : M = n
      · rw [if_pos (by omega), if_pos (by omega), e]
        have := n0 (Nat.succ_pos n)
        rw [nc] at this ⊢
        grind
      · rw [if_neg (by omega), if_neg (by omega)]; grind
  -- the slope of what is left is nothing
  have B : ∀ n, th (add X (sc (-1) (comp h f))) n = 0 := by
    intro n
    induction n using Nat.strongRecOn with
    | ind n ih =>
      cases n with
      | zero => exact th_0 _
      | succ n =>
        have e : mul (pw u (n + 1)) (th (add X (sc (-1) (comp h f)))) (n + 1) = 0 := by
          rw [mul_congr (f := pw u (n + 1)) (f' := pw u (n + 1)) (g := th (add X (sc (-1) (comp h f)))) (g' := th (add X (sc (-1) (sm h f (n + 2))))) (n := n + 1) (fun _ _ => rfl) (fun k hk => by
            simp only [th, add, sc, comp_H f0 (show k < n + 2 by omega), sm_H])]
          rw [th_add, th_sc, mul_add, mul_sc]
          simp only [add, sc]
          rw [A n (n + 1) (Nat.le_refl _), if_pos rfl]
          have : th X = X := by
            have := th_Xpw 1
            simp only [pw, one_mul] at this
            rw [this]
            funext k; simp only [sc]; grind
          rw [this, mul_comm, X_mul_s]
          grind
        rw [mul_comm, ← mul_cut] at e
        rw [mul_congr (f := cut (n + 1) (th (add X (sc (-1) (comp h f))))) (f' := zer) (g := pw u (n + 1)) (g' := pw u (n + 1)) (n := n + 1) (fun k hk => by
          simp only [cut, zer]
          split
          · exact ih k ‹_›
          · rfl) (fun _ _ => rfl), zer_mul] at e
        have := pu0 (n + 1)
        simp only [zer] at e
        grind
  funext n
  cases n with
  | zero => rw [comp_0 f0, h0]; rfl
  | succ n =>
    have := B (n + 1)
    have z := n0 (Nat.succ_pos n)
    simp only [th, add, sc] at this
    grind
-- an inverse, and both ways
def inv (b : S) : Nat → List Rat
  | 0 => []
  | n + 1 => inv b n ++ [(cst 1 n - mul (fun k => (inv b n).getD k 0) b n) / b 0]
theorem inv_len (b : S) (n : Nat) : (inv b n).length = n := by
  induction n with
  | zero => rfl
  | succ n ih => rw [inv, List.length_append, ih]; rfl
theorem inv_get (b : S) {k n : Nat} (h : k < n) : (inv b n).getD k 0 = (inv b (k + 1)).getD k 0 := by
  induction n with
  | zero => omega
  | succ n ih =>
    by_cases e : k < n
    · rw [← ih e, inv, List.getD_eq_getElem?_getD, List.getD_eq_getElem?_getD, List.getElem?_append_left (by rw [inv_len]; exact e)]
    · have : k = n := by omega
      rw [this]
theorem inv_ok {b : S} (h : b 0 ≠ 0) : ∃ u, mul b u = cst 1 := by
  refine ⟨fun n => (inv b (n + 1)).getD n 0, ?_⟩
  rw [mul_comm]
  funext n
  rw [← mul_cut]
  have e : (inv b (n + 1)).getD n 0 = (cst 1 n - mul (fun k => (inv b n).getD k 0) b n) / b 0 := by
    rw [inv, List.getD_eq_getElem?_getD, List.getElem?_append_right (by rw [inv_len]; exact Nat.le_refl _), inv_len, Nat.sub_self]; rfl
  rw [e, mul_congr (f := cut n fun n => (inv b (n + 1)).getD n 0) (f' := fun k => (inv b n).getD k 0) (g := b) (g' := b) (n := n) (fun k hk => by
    simp only [cut]
    split
    · exact (inv_get b ‹_›).symm
    · rw [List.getD_eq_getElem?_getD, List.getElem?_eq_none (by rw [inv_len]; omega)]; rfl) (fun _ _ => rfl)]
  grind
theorem undone_back {f u h : S} (f0 : f 0 = 0) (hu : mul (tl f) u = cst 1) (h0 : h 0 = 0) (hh : ∀ n, h (n + 1) = pw u (n + 1) n / ((n : Rat) + 1)) : comp f h = X := by
  have hf : comp h f = X := undone f0 hu h0 hh
  have h1 : tl h 0 ≠ 0 := by
    have e := congrFun hu 0
    have : tl h 0 = u 0 := by
      have := hh 0
      simp only [pw, one_mul] at this
      simp only [tl, this]
      grind
    rw [this]
    intro z
    rw [mul_0, z] at e
    simp [cst] at e
  obtain ⟨w, hw⟩ := inv_ok h1
  have hv : comp (fun n => match n with | 0 => 0 | n + 1 => pw w (n + 1) n / ((n : Rat) + 1)) h = X := undone h0 hw rfl fun n => rfl
  generalize (fun n => match n with | 0 => (0 : Rat) | n + 1 => pw w (n + 1) n / ((n : Rat) + 1)) = v at hv
  have := comp_assoc h0 f0 v
  rw [hv, hf, comp_id f0, id_comp] at this
  rw [this]
  exact hv
end Sr
end

section
set_option Elab.async false
set_option linter.all false
set_option maxRecDepth 100000
set_option maxHeartbeats 4000000
set_option autoImplicit false
set_option exponentiation.threshold 100
namespace Py
open PySem PySem.Spec PyProof.Rows L2
/-! ### rows of fractions -/
abbrev fl (l : List Rat) : List Dt := l.map fq
/-- a row as a series, 0 behind its end -/
def sr (l : List Rat) : Sr.S := fun n => l.getD n 0
theorem at_fl {l : List Rat} {i : Nat} (h : i < l.length) : atI (fl l) (i : Int) = some (fq (sr l i)) := by
  unfold atI fl sr ixN
  simp [h]
/-- the sum of the first j products -/
def pS (f g : Sr.S) (n : Nat) : Nat → Rat
  | 0 => 0
  | j + 1 => pS f g n j + f j * g (n - j)
theorem pS_tl (f g : Sr.S) (n j : Nat) : pS f g (n + 1) (j + 1) = f 0 * g (n + 1) + pS (Sr.tl f) g n j := by
  induction j with
  | zero => simp only [pS]; grind
  | succ j ih =>
    rw [pS, ih, pS, Nat.add_sub_add_right]
    simp only [Sr.tl]
    grind
theorem pS_mul (f g : Sr.S) (n : Nat) : pS f g n (n + 1) = Sr.mul f g n := by
  induction n generalizing f with
  | zero => simp only [pS, Sr.mul_0]; grind
  | succ n ih => rw [pS_tl, ih, Sr.mul_s]
structure CrOk (f g : Sr.S) (n : Nat) : Prop where
  a : ∀ j, j ≤ n → SzQ 3000 (f j)
  b : ∀ j, j ≤ n → SzQ 3000 (g j)
  m : ∀ j, j ≤ n → SzQ 3000 (f j * g (n - j))
  s : ∀ j, j ≤ n → SzQ 3000 (pS f g n j)
end Py
namespace Py
open PySem PySem.Spec PyProof.Rows L2
section
variable {C : Ct} {A A1 A2 : AS} {ta tb : TE} {i j : Int}
theorem e_min2 (h : EvS C ta A (di i) A1) (h' : EvS C tb A1 (di j) A2) : EvS C (tCB (fun xs H Q => ∃ i j, xs = [V.int i, V.int j] ∧ Q (V.int (if j < i then j else i)) H) (tCons ta (tCons tb tNil))) A (di (if j < i then j else i)) A2 := fun os σ H k Q q =>
  h os σ H k _ fun os1 v H1 k1 e1 i1 => h' os1 σ H1 k1 _ fun os2 v' H2 k2 e2 i2 => by
    rw [Is.v_iff.mp i1, Is.v_iff.mp i2]
    exact ⟨i, j, rfl, q os2 _ H2 k2 (e1.trans e2) is_v⟩
end
theorem sr_get {l : List Rat} {i : Nat} (h : i < l.length) : sr l i = l[i] := by unfold sr; simp [h]
theorem sr_mem {l : List Rat} {i : Nat} (h : i < l.length) : sr l i ∈ l := by rw [sr_get h]; exact List.getElem_mem h
theorem fl_at {l : List Rat} {i : Nat} {x : Dt} (h : (fl l)[i]? = some x) : ∃ h : i < l.length, x = fq (sr l i) := by
  rw [List.getElem?_map] at h
  obtain ⟨q, h1, rfl⟩ := Option.map_eq_some_iff.mp h
  obtain ⟨h2, rfl⟩ := List.getElem?_eq_some_iff.mp h1
  exact ⟨h2, by rw [sr_get h2]⟩
theorem fl_take {l : List Rat} {i : Nat} (h : i < l.length) (f : Rat → Rat) : fl ((l.take (i + 1)).map f) = fl ((l.take i).map f) ++ [fq (f (sr l i))] := by
  rw [List.take_add_one, List.getElem?_eq_getElem h, sr_get h, List.map_append, fl, fl, List.map_append]
  rfl
theorem fl_range (f : Nat → Rat) (i : Nat) : fl ((List.range (i + 1)).map f) = fl ((List.range i).map f) ++ [fq (f i)] := by
  rw [List.range_succ]
  simp
end Py
end

section
set_option Elab.async false
set_option linter.all false
set_option maxRecDepth 100000
set_option maxHeartbeats 4000000
set_option autoImplicit false
namespace Py
open PySem PySem.Spec PyProof.Rows L2
/-! ### facts of the top -/
def intsB : List Value → List Int → Bool
  | [], [] => true
  | .int j _ :: r, i :: s => decide (j = i) && intsB r s
  | _, _ => false
theorem intsB_ok : ∀ {us : List Value} {is : List Int}, intsB us is = true → Vals (is.map V.int) us
  | [], [], _ => .nil
  | .int j t :: r, i :: s, h => by
    obtain ⟨a, b⟩ := Bool.and_eq_true_iff.mp (show (decide (j = i) && intsB r s) = true from h)
    rw [of_decide_eq_true a]
    exact .cons ⟨t, rfl⟩ (intsB_ok b)
def tupB (K : Frg) (x : Str) (is : List Int) : Bool := match PySem.W.nsIn K mainGlobals x with
  | some (some (.ref a)) => (match K.lookup a with
    | some o => decide (o.cls = .type "tuple") && (match o.data with
      | .seq its _ => decide (its.size ≤ 1000) && intsB its.toList is
      | _ => false)
    | none => false)
  | _ => false
theorem tupB_ok {K : Frg} {base : Heap} {mg : Str → Option Value} {x : Str} {is : List Int} (hK : K.In base) (G : base.Ns mainGlobals mg) (h : tupB K x is = true) : TupC K mg x (is.map V.int) := by
  unfold tupB at h
  split at h
  · rename_i a e
    split at h
    · rename_i o e2
      obtain ⟨h1, h2⟩ := Bool.and_eq_true_iff.mp h
      split at h2
      · rename_i its n e3
        obtain ⟨h3, h4⟩ := Bool.and_eq_true_iff.mp h2
        exact ⟨a, PySem.W.mg_of hK G e, o, its, n, e2, of_decide_eq_true h1, e3, Nat.le_trans (of_decide_eq_true h3) (by decide), intsB_ok h4⟩
      · cases h2
    · cases h
  · cases h
def bltB (K : Frg) (x : Str) (id : String) : Bool := match PySem.W.nsIn K mainGlobals x with
  | some (some (.builtin n)) => decide (n = id)
  | _ => false
theorem bltB_ok {K : Frg} {base : Heap} {mg : Str → Option Value} {x : Str} {id : String} (hK : K.In base) (G : base.Ns mainGlobals mg) (h : bltB K x id = true) : mg x = some (.builtin id) := by
  unfold bltB at h
  split at h
  · rename_i n e
    rw [← of_decide_eq_true h]
    exact PySem.W.mg_of hK G e
  · cases h
/-! ### the law's own def, its promise told over data -/
theorem fin1 {t : TS} {N : List Str} {K : Frg} {T : List (Addr × Str)} {E : XK} {g : List Dt → Rs → Prop} {vs : List V} {H : Hp} {Q : VK} (h : spD K T g vs H Q E) (run : ∀ O ds r, g ds r → RunS ⟨K, T, H, O⟩ E t (start N ds) (poR r)) : t { nx := fun _ H' => Q .non H', rt := Q } (L2.start N vs) H := fin h run
theorem mkFL {P : Program} {w : World} {K : Frg} {T : List (Addr × Str)} {mg : Str → Option Value} {base : Heap} {f : Str} {st : Stmt} {N ps : List Str} {k : Nat} {g : List Dt → Rs → Prop} {fd : FuncData}
    (F : FunD K f f (defArgs st) (defBody st) (defScope st) [] [] (He.ga K f) fd) (S : FnScope N ps (defScope st))
    (len : ∀ ds r, g ds r → ds.length = ps.length)
    (hbody : ∀ (A : Around) (outer : List Env) (s : Shared) (H : Hp) (E : XK), Room k (A.deeper (envOfC f (defScope st) s.heap.objs.size (He.ga K f) (.ref (He.cT K (f, none)).1))) →
      ∃ t, PSs (cxOf (L2.CX P w) P w K mg base N f (defScope st) (He.ga K f) (.ref (He.cT K (f, none)).1) A outer s H E) (defBody st) t ∧ ∀ O ds r, g ds r → RunS ⟨K, T, H, O⟩ E t (start N ds) (poR r)) : FnOk P w K mg base (L2.CX P w) (k + 1) (He.ga K f) fd ps (spD K T g) := by
  obtain ⟨oc, od, dV, kV, doc, pm, an, cdv, ct, osl, e, lk, hc⟩ := fnd_of F
  obtain ⟨c, rfl⟩ := He.codeIn_ref hc
  have ec : (He.cT K (f, none)).1 = c := He.codeOf_eq (p := (f, none)) lk rfl
  subst ec
  subst e
  refine fn_of lk hc S (fun vs H Q E h => spD_len len vs H Q E h) (fun A outer s H vs Q E hr h => ?_)
  obtain ⟨t, ht, run⟩ := hbody A outer s H E hr
  exact ⟨t, ht, fin h run⟩
/-- a promise that no call asks for -/
theorem gd_none {P : Program} {w : World} {K : Frg} {T : List (Addr × Str)} {mg : Str → Option Value} {base : Heap} {f : Str} {st : Stmt} {ps : List Str} {k : Nat}
    (F : ∃ fd, FunD K f f (defArgs st) (defBody st) (defScope st) [] [] (He.ga K f) fd) (hm : mg f = some (.ref (He.ga K f)))
    (hb : ∀ (kV doc pm : Value) (an : Option Addr) (cdv ct : Value) (us : List Value), us.length = ps.length → bindArgs (PySem.W.fnOf f f (defArgs st) (defBody st) (defScope st) .none kV doc pm an cdv ct) ⟨us, []⟩ = pure (ps.zip us)) : Gd P w K mg base f ps k (spD K T fun _ _ => False) := by
  obtain ⟨fd, F⟩ := F
  exact ⟨_, fd, ⟨fun vs H Q E ⟨_, _, _, _, _, _, z, _⟩ => z.elim, fun A outer s H args us vs Q E _ _ _ _ ⟨_, _, _, _, _, _, z, _⟩ => z.elim⟩, F.bindsN hb, F.kp, hm⟩
section
variable {C : Ct} {A A1 : AS} {tl : TA}
/-- xs + [..], xs one's own -/
theorem e_catO {i n : Nat} {xs ys : List Dt} (h1 : A.sl[i]? = some (.own n)) (h : EvA C tl A ys A1) (h3 : A1.st[n]? = some (.lst xs)) (hl : xs.length + ys.length ≤ 100000) : EvS C (tOp (rAddA C.K) (tVar i) (tLst tl)) A (.lst (xs ++ ys)) A1 := fun os σ H k Q q => by
  obtain ⟨o, e1, a, e2, e3⟩ := k.slot h1
  subst e2
  refine ⟨_, e1, h os σ H k _ fun os1 vs H1 k1 g1 i1 => ⟨by rw [isA_len i1]; exact Nat.le_trans (by omega) (by decide : 100000 ≤ sizeLine), fun p hp => ?_⟩⟩
  have e3' := g1.p n _ e3
  obtain ⟨o3, s1, a3, us, s2, s3, s4⟩ := k1.store h3
  rw [e3'] at s1; cases s1; cases s2
  have k2 := k1.monoN (o := .lst vs) hp
  refine .inr (.inr (.inr ⟨a, p, us, vs, rfl, rfl, ?_, upd_same, by rw [isA_len s4, isA_len i1]; exact Nat.le_trans hl (by decide : 100000 ≤ sizeLine), fun r hr => ?_⟩))
  · rw [upd_ne (ne_of_none s3 hp)]
    exact s3
  · have k3 := k2.monoN (o := .lst (us ++ vs)) hr
    refine q os1 _ _ k3 ((g1.trans (k1.gr (Ex.new hp))).trans (k2.gr (Ex.new hr))) ?_
    rw [Is]
    exact ⟨r, us ++ vs, rfl, SqL.of (k2.fresh hr), isA_app (IsA.mono (hd_mono ((Ex.new hp).trans (Ex.new hr))) _ _ s4) (IsA.mono (hd_mono ((Ex.new hp).trans (Ex.new hr))) _ _ i1)⟩
theorem isA_rep {K : Frg} {R : Hp} {ds : List Dt} {vs : List V} (h : IsA K R ds vs) : ∀ m : Nat, IsA K R (List.replicate m ds).flatten (List.replicate m vs).flatten
  | 0 => isA_nil
  | m + 1 => by
    rw [List.replicate_succ, List.replicate_succ, List.flatten_cons, List.flatten_cons]
    exact isA_app h (isA_rep h m)
/-- [..] * k -/
theorem e_repD {ds : List Dt} {k0 : Int} (h : EvA C tl A ds A1) (h1 : 0 ≤ k0 ∧ k0 < 100000) (hl : ds.length * k0.toNat ≤ 100000) (hl0 : ds.length ≤ 100000) : EvS C (tOp (rMulA C.K) (tLst tl) (tC (.int k0))) A (.lst (List.replicate k0.toNat ds).flatten) A1 := fun os σ H k Q q =>
  h os σ H k _ fun os1 vs H1 k1 g1 i1 => ⟨by rw [isA_len i1]; exact Nat.le_trans hl0 (by decide : 100000 ≤ sizeLine), fun p hp => .inr ⟨p, k0, vs, rfl, rfl, upd_same, by omega, by omega, by rw [isA_len i1]; exact Nat.le_trans hl (by decide : 100000 ≤ sizeLine), fun r hr => by
    have k2 := k1.monoN (o := .lst vs) hp
    have k3 := k2.monoN (o := .lst (List.replicate k0.toNat vs).flatten) hr
    refine q os1 _ _ k3 ((g1.trans (k1.gr (Ex.new hp))).trans (k2.gr (Ex.new hr))) ?_
    rw [Is]
    exact ⟨r, _, rfl, SqL.of (k2.fresh hr), isA_rep (IsA.mono (hd_mono ((Ex.new hp).trans (Ex.new hr))) _ _ i1) _⟩⟩⟩
end
end Py
end

section
set_option Elab.async false
set_option linter.all false
set_option maxRecDepth 100000
set_option maxHeartbeats 4000000
set_option autoImplicit false
/-! ### a tuple, 0 times and once -/
namespace Py
open PySem PySem.Spec PyProof.Rows L2
theorem rep_once (l : Addr) (items : Array Value) (n : Nat) (dd : Option Addr) (sl : Array (Option Value)) (u : Tok) :
    Meets (Builtin.«tuple.__mul__» ⟨[.ref l, .int 1 u], []⟩) (fun _ R s => s.heap.get? l = some { cls := .type "tuple", dict := dd, data := .seq items n, slots := sl } ∧ R (.ok (.ret (Value.ref l))) s) := by
  refine .of_wp fun prog w A R s h => ?_
  obtain ⟨hp, g, d, tk, os⟩ := s; obtain ⟨hl, h⟩ := h; have f1 := AutoSeq1.idx_int
  wp_walk using wpAny_loadPart' hl; exact ⟨_, rfl, h⟩
theorem rep_none (l : Addr) (items : Array Value) (n : Nat) (dd : Option Addr) (sl : Array (Option Value)) (u : Tok) (hi : items.isEmpty = false) :
    Meets (Builtin.«tuple.__mul__» ⟨[.ref l, .int 0 u], []⟩) (fun _ R s => s.heap.get? l = some { cls := .type "tuple", dict := dd, data := .seq items n, slots := sl } ∧
      R (.ok (.ret (Value.ref s.heap.objs.size))) { s with heap := s.heap.push { cls := Value.type "tuple", data := Data.seq #[] }, toks := s.toks }) := by
  refine .of_wp fun prog w A R s h => ?_
  obtain ⟨hp, g, d, tk, os⟩ := s; obtain ⟨hl, h⟩ := h; have f1 := AutoSeq1.idx_int
  wp_walk using wpAny_loadPart' hl
  exact ⟨_, rfl, h⟩
def rRepA (K : Frg) : R2 := fun x y H Q => ∃ (l : Addr) (k : Int) (xs : List V), x = .ref l ∧ y = .int k ∧ SqT K H l xs ∧ xs ≠ [] ∧ 0 ≤ k ∧ k ≤ 1000 ∧ xs.length ≤ 1000 ∧ (k = 1 → Q (.ref l) H) ∧ (k ≠ 1 → ∀ p, H p = none → Q (.ref p) (upd H p (.tup (List.replicate k.toNat xs).flatten)))
theorem op_repA {X : Cx} : OpR X (binaryOp .Mult) (rRepA X.K) := by
  intro pins s σ H x y v u Q I rx ry h
  obtain ⟨l, k, xs, rfl, rfl, hT, hne, h0, h2, hz, q1, q2⟩ := h
  by_cases hk : 2 ≤ k
  · exact op_repT pins s σ H _ _ v u Q I rx ry ⟨l, k, xs, rfl, rfl, hT, hne, hk, h2, hz, q2 (by omega)⟩
  cases rx
  obtain ⟨t, rfl⟩ := ry
  obtain ⟨its, r, ⟨⟨cls, dd, data, sl⟩, ho, hc, n, hd⟩, hs⟩ := I.tuple hT
  simp only at hc hd; subst hc hd
  have hle : its.length = xs.length := r.length.symm
  have hi : its.toArray.isEmpty = false := by
    cases its with
    | nil => exact absurd (List.eq_nil_of_length_eq_zero hle.symm) hne
    | cons a b => rfl
  by_cases e1 : k = 1
  · subst e1
    exact wpAny_binaryOp_repeat_ref (T := "tuple") (U := "int") (by decide) ⟨_, ho, rfl⟩ (fun s' => typeIs_int s' 1 t) noFill_tuple_mul F.fills_int_mul F.slot_int_rmul repeat_tuple F.slot_int_index.lookup
      (call_meets F.slot_int_rmul (typeIs_int s 1 t) F.entry_int_rmul (F.args_int_rmul_2 _ _) (int_rmul_tuple 1 t l its.toArray n dd sl) ⟨ho, rfl, ⟨_, ho, rfl⟩, call_meets F.slot_tuple_mul ⟨_, ho, rfl⟩ F.entry_tuple_mul (F.args_tuple_mul_2 _ _) (rep_once l its.toArray n dd sl t) ⟨ho, .ref l, H, I, rfl, q1 rfl⟩⟩)
  · obtain rfl : k = 0 := by omega
    refine wpAny_binaryOp_repeat_ref (T := "tuple") (U := "int") (by decide) ⟨_, ho, rfl⟩ (fun s' => typeIs_int s' 0 t) noFill_tuple_mul F.fills_int_mul F.slot_int_rmul repeat_tuple F.slot_int_index.lookup
      (call_meets F.slot_int_rmul (typeIs_int s 0 t) F.entry_int_rmul (F.args_int_rmul_2 _ _) (int_rmul_tuple 0 t l its.toArray n dd sl) ⟨ho, rfl, ⟨_, ho, rfl⟩, call_meets F.slot_tuple_mul ⟨_, ho, rfl⟩ F.entry_tuple_mul (F.args_tuple_mul_2 _ _) (rep_none l its.toArray n dd sl t hi) ⟨ho, ?_⟩⟩)
    refine ⟨.ref s.heap.objs.size, _, I.laid (t' := s.toks) (o := .tup []) (fun b ob q => Heap.get?_push_of_some _ q) (Nat.le_refl _) ?_, rfl, q2 (by decide) _ (I.hok.fresh (Nat.le_refl _))⟩
    exact ⟨Nat.zero_le _, [], .nil, IsTup.new _ _⟩
section
variable {C : Ct} {xs ys : List Dt}
theorem isA_flat {K : Frg} {H : Hp} {ds : List Dt} {vs : List V} (h : IsA K H ds vs) (m : Nat) : IsA K H (List.replicate m ds).flatten (List.replicate m vs).flatten := isA_rep h m
/-- a tuple, some times -/
theorem o_repA {k : Int} (hx : xs ≠ []) (hz : xs.length ≤ 1000) (h0 : 0 ≤ k) (h1 : k ≤ 1000) : OpS C (rRepA C.K) (.tup xs) (di k) (.tup (List.replicate k.toNat xs).flatten) := fun os A σ H vx vy k' i1 i2 Q q => by
  have i1' := i1
  rw [Is] at i1
  obtain ⟨a, vs, rfl, h2, h3⟩ := i1
  rw [Is.v_iff.mp i2]
  have hl := isA_len h3
  refine ⟨a, k, vs, rfl, rfl, hd_ex.t h2, fun z => hx (List.eq_nil_of_length_eq_zero (by rw [← hl, z]; rfl)), h0, h1, by omega, fun e => ?_, fun e p hp => ?_⟩
  · subst e
    refine q _ H (Ex.refl _) k'.tb ?_
    have e1 : (List.replicate (1 : Int).toNat xs).flatten = xs := by simp
    rw [e1]
    exact i1'
  · refine q _ _ (Ex.new hp) (tabs_new k'.tb hp) ?_
    rw [Is]
    exact ⟨p, _, rfl, SqT.of (k'.fresh hp), IsA.mono (hd_mono (Ex.new hp)) _ _ (isA_rep h3 _)⟩
/-- two tuples, one behind the other -/
theorem o_catA (hz : xs.length + ys.length ≤ 100000) : OpS C (rCatA C.K) (.tup xs) (.tup ys) (.tup (xs ++ ys)) := fun os A σ H vx vy k i1 i2 Q q => by
  have j1 := i1
  have j2 := i2
  rw [Is] at i1 i2
  obtain ⟨a, vs, rfl, h2, h3⟩ := i1
  obtain ⟨b, us, rfl, h4, h5⟩ := i2
  have l1 := isA_len h3
  have l2 := isA_len h5
  have n1 : vs = [] → xs = [] := fun z => List.eq_nil_of_length_eq_zero (by rw [← l1, z]; rfl)
  have n2 : us = [] → ys = [] := fun z => List.eq_nil_of_length_eq_zero (by rw [← l2, z]; rfl)
  refine ⟨a, b, vs, us, rfl, rfl, hd_ex.t h2, hd_ex.t h4, by rw [l1, l2]; exact Nat.le_trans hz (by decide), fun z => ?_, fun _ z => ?_, fun _ _ p hp => ?_⟩
  · refine q _ H (Ex.refl _) k.tb ?_
    rw [n1 z]
    exact j2
  · refine q _ H (Ex.refl _) k.tb ?_
    rw [n2 z, List.append_nil]
    exact j1
  · refine q _ _ (Ex.new hp) (tabs_new k.tb hp) ?_
    rw [Is]
    exact ⟨p, _, rfl, SqT.of (k.fresh hp), IsA.mono (hd_mono (Ex.new hp)) _ _ (isA_app h3 h5)⟩
/-- a part of a tuple -/
theorem e_slT {A A1 A2 A3 : AS} {te : TE} {tl th : TO} {lo hi : Option Int} (h : EvS C te A (.tup xs) A1) (h1 : EvO C tl A1 lo A2) (h2 : EvO C th A2 hi A3) : EvS C (tSl (rSlA C.K) te tl th) A (.tup (cutL xs lo hi)) A3 := fun os σ H k Q q =>
  h os σ H k _ fun os1 v H1 k1 e1 i1 => h1 os1 σ H1 k1 _ fun os2 H2 k2 e2 => h2 os2 σ H2 k2 _ fun os3 H3 k3 e3 => by
    have i3 := Is.mono (e2.trans e3).e _ _ i1
    have j3 := i3
    rw [Is] at i3
    obtain ⟨a, vs, rfl, h4, h5⟩ := i3
    have l1 := isA_len h5
    refine ⟨a, vs, rfl, hd_ex.t h4, fun z => ?_, fun z p hp => ?_⟩
    · have e : cutL xs lo hi = xs := by
        unfold cutL
        rw [← l1, z.1, z.2, List.drop_zero, Nat.sub_zero, l1, List.take_length]
      refine q os3 _ H3 k3 ((e1.trans e2).trans e3) ?_
      rw [e]
      exact j3
    · refine q os3 _ _ (k3.monoN hp) (((e1.trans e2).trans e3).trans (k3.gr (Ex.new hp))) ?_
      rw [Is]
      exact ⟨p, _, rfl, SqT.of (k3.fresh hp), IsA.mono (hd_mono (Ex.new hp)) _ _ (isA_cutL h5)⟩
end
end Py
end

section
set_option Elab.async false
set_option linter.all false
set_option maxRecDepth 100000
set_option maxHeartbeats 4000000
set_option autoImplicit false
/-! ### enumerate of a tuple -/
namespace Py
open PySem PySem.Spec PyProof.Rows L2
theorem new_enumT (t : Addr) (items : Array Value) :
    Meets (Builtin.«enumerate.__new__» ⟨[.type "enumerate", .ref t], []⟩) (fun _ R s => s.heap.IsTuple t items ∧
      R (.ok (.ret (.ref (s.heap.push { cls := .type "tuple_iterator", data := .fields #[.ref t, .int 0 0] }).objs.size)))
        { s with heap := (s.heap.push { cls := .type "tuple_iterator", data := .fields #[.ref t, .int 0 0] }).push { cls := .type "enumerate", data := .fields #[.none, .bool false, .ref s.heap.objs.size, rawInt 0, .none, .none] } }) := by
  refine .of_wp fun prog w A R s h => ?_
  obtain ⟨hp, g, d, tk, os⟩ := s; obtain ⟨h1, h⟩ := h; have hsub := sub_enumerate
  have q1 : ∀ {A' : Around} {E : Value → Shared → Prop} {Q : Value → Shared → Prop}, Q (.ref hp.objs.size) ⟨hp.push { cls := .type "tuple_iterator", data := .fields #[.ref t, .int 0 0] }, g, d, tk, os⟩ → wpAny (model prog w) A' (pyIter (.ref t)) Q E ⟨hp, g, d, tk, os⟩ := fun q => (begins_tuple t items).iter prog w _ _ ⟨hp, g, d, tk, os⟩ _ h1 q
  wp_walk using q1; refine wpAny_stack_any fun st => wpAny_pure ?_; split
  · rename_i c _ _ _ _ _
    cases (c == Value.type "enumerate") <;> (wp_walk using q1; exact ⟨_, rfl, h⟩)
  · wp_walk using q1; exact ⟨_, rfl, h⟩
theorem call_enumT {prog : Program} {w : World} {A : Around} {E : Value → Shared → Prop} {s : Shared} {t : Addr} {items : Array Value} {Q : Value → Shared → Prop} (hT : s.heap.IsTuple t items)
    (h : ∀ h', IsEnum h' (s.heap.objs.size + 1) s.heap.objs.size 0 .none ∧ h'.IsTupleIter s.heap.objs.size t 0 ∧ h'.objs.size = s.heap.objs.size + 2 ∧ (∀ b o, s.heap.get? b = some o → h'.get? b = some o) → Q (.ref (s.heap.objs.size + 1)) { s with heap := h' }) :
    wpAny (model prog w) A (call (.type "enumerate") [.ref t]) Q E s := by
  refine callType_new F.called_enumerate (by decide) (F.typeCall_enumerate_1 _) (F.newCall_enumerate_1 _) (fun obj => F.args_object_init_2 obj _) F.entry_enumerate_new (new_enumT t items) ⟨hT, ?_⟩
  have hz : (s.heap.push { cls := .type "tuple_iterator", data := .fields #[.ref t, .int 0 0] }).objs.size = s.heap.objs.size + 1 := Heap.size_push ..
  show _ ∧ _; rw [hz]
  have he := Heap.get?_push_size (s.heap.push { cls := .type "tuple_iterator", data := .fields #[.ref t, .int 0 0] }) (o := { cls := .type "enumerate", data := .fields #[.none, .bool false, .ref s.heap.objs.size, rawInt 0, .none, .none] }) rfl
  rw [hz] at he
  exact ⟨⟨_, he, rfl⟩, h _ ⟨he, ⟨_, Heap.get?_push_of_some _ (Heap.get?_push_size _ rfl), rfl, rfl⟩, by rw [Heap.size_push, hz], fun b o x => Heap.get?_push_of_some _ (Heap.get?_push_of_some _ x)⟩⟩
/-- the tuple at a, each item in a new pair with its number -/
def ItTe (K : Frg) (a : Addr) : It where
  go i H := ∃ (xs : List V) (x : V), SqT K H a xs ∧ xs[i]? = some x
  yld i H v H' := ∃ T x, v = .ref T ∧ H T = none ∧ H' = upd H T (.tup [.int (i : Nat), x]) ∧ ∀ xs, SqT K H a xs → xs[i]? = some x
  stop i H := ∃ xs : List V, SqT K H a xs ∧ xs.length ≤ i
end Py
end

section
set_option Elab.async false
set_option linter.all false
set_option maxRecDepth 100000
set_option maxHeartbeats 4000000
set_option autoImplicit false
namespace Py
open PySem PySem.Spec PyProof.Rows L2
theorem turn_enumT {P : Program} {w : World} {K : Frg} {elts : List Expr} {kk : Nat} {tpos : Pos} (a e it : Addr) (hta : a ≠ it) (hea : e ≠ a) :
    Turn P w K (.Tuple elts kk tpos) (ItTe K a) [e, it] e (fun i h => (∃ old, IsEnum h e it ((i : Nat) : Int) old) ∧ h.IsTupleIter it a i ∧ e ≠ it) where
  mem := List.mem_cons_self ..
  obj i h st b hb := by
    obtain ⟨⟨old, he⟩, ⟨o, ho, hc, hd⟩, _⟩ := st
    rcases List.mem_cons.mp hb with z | hb
    · subst z; exact ⟨_, he, fun v q => nomatch q⟩
    · obtain rfl := List.mem_singleton.mp hb
      exact ⟨o, ho, fun v q => by rw [hd] at q; cases q⟩
  keep i h h' st k := ⟨⟨st.1.choose, k e (by simp) _ st.1.choose_spec⟩, st.2.1.at (fun o q => k it (by simp) o q), st.2.2⟩
  item := by
    rintro X rfl rfl rfl hc i pins s σ H E I hf ⟨⟨old, he⟩, hit, hne⟩ ⟨xs, x, hq, hx⟩
    obtain ⟨its, rv, p, hz⟩ := I.tuple hq
    obtain ⟨u, hu, ru⟩ := rv.get hx
    have hel : e < s.heap.objs.size := Heap.lt_size he
    have hil : it < s.heap.objs.size := by obtain ⟨_, q, _⟩ := hit; exact Heap.lt_size q
    have D := Draws.tuple (prog := X.prog) (w := X.w) (A := X.A.in1) (I.ok.hd hc) it a hta its.toArray
    have hi : i < its.toArray.size := by rw [List.size_toArray]; exact (List.getElem?_eq_some_iff.mp hu).1
    refine wpAny_pyNext_enum_itemD D he ⟨hit, p⟩ hi hne (by simp [hne, hea]) fun u' h' tk hP ho hs' hT hsz hk => ?_
    obtain rfl : u' = u := by simpa [hu] using hP.symm
    refine ⟨_, rfl, wpAny_letOwnedTupleGo_enum (s := { s with heap := h', toks := tk + 1 }) ho fun h'' he' sb => ?_⟩
    have hT2 := (sb.2 _ (Nat.ne_of_gt hel)).trans hT
    have new : ObjOk X.prog X.w (upd H s.heap.objs.size (.tup [.int (i : Nat), x])) h'' s.heap.objs.size (.tup [.int (i : Nat), x]) := ⟨by show 2 ≤ sizeLine; decide, [.int i tk, u'], .cons ⟨_, rfl⟩ (.cons ru .nil), ⟨_, hT2, rfl, _, rfl⟩⟩
    have I1 := I.turnedNew (t' := tk + 1) (ch := [e, it]) (fun b ob hb q => (sb.2 b (fun z => hb (by simp [z]))).trans (hk b ob (fun z => hb (by simp [z])) (fun z => hb (by simp [z])) q)) hf (Nat.le_refl _) new
    refine ⟨.ref s.heap.objs.size, _, I1, rfl, ⟨_, x, rfl, I.hok.fresh (Nat.le_refl _), rfl, fun ys hy => by rw [I.tuple_inj hy hq]; exact hx⟩, ⟨⟨u', ?_⟩, ?_, hne⟩, fun b hb => ?_⟩
    · rw [show ((i + 1 : Nat) : Int) = (i : Int) + 1 by omega]; exact he'
    · exact hs'.1.at fun o q => (sb.2 it (Ne.symm hne)).trans q
    · rw [upd_ne fun z => ?_]
      · exact (hf b hb).1
      · rcases List.mem_cons.mp hb with q | q
        · exact absurd (z.symm.trans q) (Nat.ne_of_gt hel)
        · exact absurd (z.symm.trans (List.mem_singleton.mp q)) (Nat.ne_of_gt hil)
  done := by
    rintro X rfl rfl rfl hc i pins s σ H E I hf ⟨⟨old, he⟩, hit, hne⟩ ⟨xs, hq, hx⟩
    obtain ⟨its, rv, p, hz⟩ := I.tuple hq
    obtain ⟨f0, f1, f2, f3, f4, f5⟩ := hf it (by simp)
    have hl := rv.length
    have hT : s.TypeIs (.ref e) "enumerate" := ⟨_, he, rfl⟩; unfold pyNext
    refine wpAny_bind (wpAny_attempt (wpAny_callSpecial?_slot (name := Str.ofString "__next__") hT F.slot_enumerate_next (wpAny_call_entry F.slot_enumerate_next hT F.entry_enumerate_next ?_ (F.args_enumerate_next_1 _))))
    show wpAny _ _ (field (.ref e) 2 >>= _) _ _ _; refine wpAny_bind (wpAny_field he rfl (x := .ref it) rfl ?_)
    refine wpAny_bind (wpAny_nextOf_tuple_end (I.ok.hd hc) hit p (by simp; omega) fun h' x' eb ⟨o, ho, hco⟩ => ?_)
    refine wpAny_bind (wpAny_isInstance (T := "StopIteration") (b := true) ⟨o, ho, hco⟩ isSubtype_stop ?_); refine wpAny_pure ?_
    exact ⟨rfl, I.turned (t' := s.toks) (fun b o hb q => eb b o hb q) f0 f1 f3 f4 f5⟩
  self A i s Q E st h := by obtain ⟨⟨_, he⟩, _⟩ := st; exact wpAny_pyIter_enum he h
end Py
end

section
set_option Elab.async false
set_option linter.all false
set_option maxRecDepth 100000
set_option maxHeartbeats 4000000
set_option autoImplicit false
namespace Py
open PySem PySem.Spec PyProof.Rows L2
/-- what an iterator gives, as data, where R0 is known -/
structure Yl (K : Frg) (R0 : Hp) (J : It) (n : Nat) (y : Nat → Dt) : Prop where
  go : ∀ i H, i < n → Ex R0 H → J.go i H
  stop : ∀ H, Ex R0 H → J.stop n H
  yl : ∀ i H v H' (O : List Addr), i < n → J.yld i H v H' → Ex R0 (hd O H) → (∀ a ∈ O, ∃ o, H a = some o ∧ NoT o) → Ex H H' ∧ (∀ T, LamX.Tabs T H → LamX.Tabs T H') ∧ Is K (hd O H') (y i) v
def WiS (C : Ct) (wi : TI) (A : AS) (n : Nat) (y : Nat → Dt) (A1 : AS) : Prop := ∀ os σ H, Ok C os A σ H → ∀ R : It → Hp → Prop, (∀ os' H' J, Ok C os' A1 σ H' → Gr C.O os H os' H' → Yl C.K (Rh C.O os' H') J n y → R J H') → wi σ H R
section
variable {C : Ct} {E : XK} {A A1 A2 : AS} {t : TS} {te : TE} {tt : TT} {P : Po} {g : TG} {ws : List Nat} {wi : TI} {n : Nat} {y : Nat → Dt}
theorem r_forY (hw : WiS C wi A n y A1) (Pv : Nat → AS → Prop) (h0 : Pv 0 A1)
    (hs : ∀ (i : Nat) A, i < n → Pv i A → ∃ A', Tg C g (y i) A A' ∧ RunS C E t A' { P with nx := Pv (i + 1), ct := Pv (i + 1), bk := P.nx }) (hd' : ∀ A, Pv n A → P.nx A) : RunS C E (tFor wi g t) A P := fun os σ H D k T =>
  hw os σ H k _ fun os1 H1 J k1 e1 Y => by
    refine ⟨fun i m σ' H' => m = n - i ∧ i ≤ n ∧ ∃ os' A', Pv i A' ∧ Ok C os' A' σ' H' ∧ Gr C.O os1 H1 os' H', ⟨n, rfl, Nat.zero_le _, os1, A1, h0, k1, Gr.refl⟩, ?_⟩
    rintro i m σ' H' ⟨rfl, hi, os', A', p, k', g'⟩
    by_cases hlt : i < n
    · obtain ⟨A2, tg, run⟩ := hs i A' hlt p
      refine .inr ⟨Y.go i H' hlt (g'.e.trans hd_ex), fun σ2 H2 => i + 1 ≤ n ∧ ∃ os' A', Pv (i + 1) A' ∧ Ok C os' A' σ2 H2 ∧ Gr C.O os1 H1 os' H2, fun σ2 H2 q => ⟨n - (i + 1), by omega, rfl, q.1, q.2⟩, fun v H2 hy => ?_⟩
      obtain ⟨x1, x2, x3⟩ := Y.yl i H' v H2 (hid C.O os') hlt hy g'.e fun a h => k'.hidden h
      have k2 := k'.mono x1 (x2 _ k'.tb)
      have g2 := g'.trans (k'.gr x1)
      refine tg os' σ' H2 v _ k2 x3 fun σ2 k3 => ?_
      exact run os' σ2 H2 _ k3 ⟨fun os3 A3 σ3 H3 h k3 g3 => ⟨hlt, os3, A3, h, k3, g2.trans g3⟩, fun os3 A3 σ3 d v H3 h k3 g3 i3 => T.rt os3 A3 σ3 d v H3 h k3 ((e1.trans g2).trans g3) i3, fun os3 A3 σ3 H3 h k3 g3 => T.nx os3 A3 σ3 H3 h k3 ((e1.trans g2).trans g3), fun os3 A3 σ3 H3 h k3 g3 => ⟨hlt, os3, A3, h, k3, g2.trans g3⟩, T.er⟩
    · obtain rfl : i = n := by omega
      exact .inl ⟨Y.stop H' (g'.e.trans hd_ex), T.nx os' A' σ' H' (hd' A' p) k' (e1.trans g')⟩
theorem e_lcY (hw : WiS C wi A n y A1) (B : Nat → AS) (Z : Nat → List Dt) (h0 : A1 = B 0) (hZ : Z 0 = [])
    (hs : ∀ i, i < n → ∀ O, LcT ⟨C.K, C.T, C.H0, O⟩ g tt te ws (y i) (B i) (Z i) (B (i + 1)) (Z (i + 1))) (hn : n < 100000) : EvS C (tLc wi g tt te ws) A (.lst (Z n)) (B n) := fun os σ H k Q q =>
  hw os σ H k _ fun os1 H1 J k1 g1 Y p hp => by
    have hl : ∀ i, i ≤ n → (Z i).length ≤ i := by
      intro i
      induction i with
      | zero => intro _; rw [hZ]; exact Nat.le_refl _
      | succ i ih =>
        intro hi
        obtain ⟨_, _, _, _, _, h⟩ := hs i hi []
        rcases h with ⟨_, _, _, _, e, _⟩ | ⟨_, e, _⟩ <;> rw [e] <;> have := ih (by omega) <;> (try simp only [List.length_append, List.length_singleton]) <;> omega
    subst h0
    refine ⟨fun i m H' => m = n - i ∧ i ≤ n ∧ ∃ os' acc, Ok (C.hide p) os' (B i) σ H' ∧ GrP p C.O os1 (upd H1 p (.lst [])) os' H' ∧ H' p = some (.lst acc) ∧ IsA C.K (Rh (p :: C.O) os' H') (Z i) acc, ⟨n, rfl, Nat.zero_le _, os1, [], k1.hide hp nt_l, ⟨Ex.refl _, fun _ _ => rfl, fun _ _ h => h⟩, upd_same, by rw [hZ]; exact isA_nil⟩, ?_⟩
    rintro i m H' ⟨rfl, hi, os', acc, k', g', hp', ha⟩
    have e' : Ex (Rh C.O os1 H1) (Rh (p :: C.O) os' H') := by
      have e := g'.e
      rw [Rh_hide hp] at e
      exact e
    by_cases hlt : i < n
    · refine .inr ⟨Y.go i H' hlt (e'.trans hd_ex), fun H2 => i + 1 ≤ n ∧ ∃ os' acc, Ok (C.hide p) os' (B (i + 1)) σ H2 ∧ GrP p C.O os1 (upd H1 p (.lst [])) os' H2 ∧ H2 p = some (.lst acc) ∧ IsA C.K (Rh (p :: C.O) os' H2) (Z (i + 1)) acc, fun H2 q => ⟨n - (i + 1), by omega, rfl, q.1, q.2⟩, fun v H2 hy => ?_⟩
      obtain ⟨x1, x2, x3⟩ := Y.yl i H' v H2 (hid (p :: C.O) os') hlt hy e' fun a h => k'.hidden h
      have k2 := k'.mono x1 (x2 _ k'.tb)
      have gp : GrP p C.O os' H' os' H2 := ⟨hd_mono x1, fun a h => by
        obtain ⟨o, q, nt⟩ := k'.ol a (List.mem_cons_of_mem _ h)
        rw [q, x1 _ _ q nt], fun _ _ h => h⟩
      exact lc_turn (hs i hlt _) k2 (x1 _ _ hp' nt_l) (IsA.mono (hd_mono x1) _ _ ha) x3 (fresh_0 k1 hp) (fresh_O k1 hp) (by have := hl i (by omega); omega) _ fun os2 acc2 H3 k3 g3 hp3 ha3 => ⟨hlt, os2, acc2, k3, (g'.trans gp).trans g3, hp3, ha3⟩
    · obtain rfl : i = n := by omega
      exact .inl ⟨Y.stop H' (e'.trans hd_ex), lc_end k1 hp k' g' hp' ha fun os2 v H2 k2 g2 i2 => q os2 v H2 k2 (g1.trans g2) i2⟩
end
end Py
end

section
set_option Elab.async false
set_option linter.all false
set_option maxRecDepth 100000
set_option maxHeartbeats 4000000
set_option autoImplicit false
namespace Py
open PySem PySem.Spec PyProof.Rows L2
/-- enumerate(t), t a tuple -/
def iEnT (K : Frg) (ta : TA) : TI := fun σ H R => ta σ H fun vs H1 => ∃ (a : Addr) (xs : List V), vs = [.ref a] ∧ SqT K H1 a xs ∧ R (ItTe K a) H1
theorem pi_enumT {X : Cx} {K : Frg} {e : Expr} {ta : TA} {p pos tpos : Pos} {elts : List Expr} {kk : Nat} (hK : X.K = K) (hg : Gl X "enumerate") (hm : X.mg "enumerate" = none) (ha : PA X [e] ta) (hs : starEach [e] X.env = [(false, eval e X.env)] := by rfl) :
    PI X (.Tuple elts kk tpos) (.Call (.Name "enumerate" p) [e] [] pos) (iEnT K ta) := by
  subst hK
  refine ⟨fun pins s σ H R I h => Call_ (ld_blt I hg hm boot_enumerate (PyProof.Rows.callWith_type1 (thn (ha.run pos pins s σ H _ I h) fun us s1 ⟨vs, H1, I1, r1, q1⟩ => ?_) hs rfl))⟩
  obtain ⟨a, xs, rfl, hq, q⟩ := q1
  obtain ⟨u, rfl, r⟩ := vals1 r1
  cases r
  obtain ⟨its, rv, p', hz⟩ := I1.tuple hq
  have hlt : a < s1.heap.objs.size := by obtain ⟨o, ho, _⟩ := id p'; exact Heap.lt_size ho
  refine call_enumT (show s1.heap.IsTuple a its.toArray from p') fun h' ⟨he, hit, hsz, hk⟩ => wpAny_pyIter_enum he ?_
  have I2 : Inv X pins σ H1 { s1 with heap := h' } := I1.kept (t' := s1.toks) hk
  refine ⟨s1.heap.objs.size + 1, [s1.heap.objs.size + 1, s1.heap.objs.size], _, _, H1, rfl, I2, turn_enumT a (s1.heap.objs.size + 1) s1.heap.objs.size (Nat.ne_of_lt hlt) (Nat.ne_of_gt (Nat.lt_succ_of_lt hlt)), ⟨⟨.none, he⟩, hit, Nat.succ_ne_self _⟩, fun b hb => ?_, q⟩
  have hle : s1.heap.objs.size ≤ b := by
    rcases List.mem_cons.mp hb with z | z
    · rw [z]; exact Nat.le_succ _
    · rw [List.mem_singleton.mp z]; exact Nat.le_refl _
  exact I1.fpOk hle (I1.hok.fresh hle)
section
variable {C : Ct} {A A1 : AS} {tl : TA} {xs ys : List Dt}
theorem new_pair {K : Frg} {H : Hp} {O : List Addr} {T : Addr} {x y : V} {d d' : Dt} {R0 : Hp} (hT : H T = none) (e0 : Ex R0 (hd O H)) (hO : ∀ a ∈ O, ∃ o, H a = some o ∧ NoT o) (h1 : Is K R0 d x) (h2 : Is K R0 d' y) :
    Ex H (upd H T (.tup [x, y])) ∧ (∀ Tb, LamX.Tabs Tb H → LamX.Tabs Tb (upd H T (.tup [x, y]))) ∧ Is K (hd O (upd H T (.tup [x, y]))) (.tup [d, d']) (.ref T) := by
  refine ⟨Ex.new hT, fun Tb h => tabs_new h hT, ?_⟩
  have e1 := e0.trans (hd_mono (O := O) (Ex.new (o := .tup [x, y]) hT))
  rw [Is]
  refine ⟨T, [x, y], rfl, SqT.of ?_, isA_cons (Is.mono e1 _ _ h1) (isA_cons (Is.mono e1 _ _ h2) isA_nil)⟩
  rw [hd_of fun z => ?_]
  · exact upd_same
  · obtain ⟨o, e, _⟩ := hO T z
    rw [hT] at e; cases e
theorem yl_enumT {R0 : Hp} {K : Frg} {a : Addr} {vs : List V} (h1 : SqT K R0 a vs) (h2 : IsA K R0 xs vs) (x0 : Dt) : Yl K R0 (ItTe K a) xs.length fun i => .tup [di i, xs.getD i x0] where
  go i H hi e := by
    have hl : i < vs.length := by rw [isA_len h2]; exact hi
    exact ⟨vs, vs[i], e.t h1, List.getElem?_eq_getElem hl⟩
  stop H e := ⟨vs, e.t h1, by rw [isA_len h2]; exact Nat.le_refl _⟩
  yl i H v H' O hi hy e hO := by
    obtain ⟨T, x, rfl, hT, rfl, hx⟩ := hy
    obtain ⟨d, hd', hi'⟩ := isA_get' h2 (hx vs ((e.trans hd_ex).t h1))
    have : xs.getD i x0 = d := by rw [List.getD_eq_getElem?_getD, hd']; rfl
    rw [this]
    exact new_pair hT e hO is_v hi'
theorem w_enumT (h : EvA C tl A [.tup xs] A1) (x0 : Dt) : WiS C (iEnT C.K tl) A xs.length (fun i => .tup [di i, xs.getD i x0]) A1 := fun os σ H k R q =>
  h os σ H k _ fun os1 vs H1 k1 e1 i1 => by
    simp only [IsA] at i1
    obtain ⟨v, w, rfl, i1, rfl⟩ := i1
    rw [Is] at i1
    obtain ⟨a, vs, rfl, h2, h3⟩ := i1
    exact ⟨a, vs, rfl, hd_ex.t h2, q os1 H1 _ k1 e1 (yl_enumT h2 h3 x0)⟩
theorem yl_zipT {R0 : Hp} {K : Frg} {a b : Addr} {vs us : List V} (h1 : SqT K R0 a vs) (h2 : IsA K R0 xs vs) (h3 : SqT K R0 b us) (h4 : IsA K R0 ys us) (x0 : Dt) : Yl K R0 (RZ.ItzT K a b) (min xs.length ys.length) fun i => .tup [xs.getD i x0, ys.getD i x0] where
  go i H hi e := by
    have hl : i < vs.length := by rw [isA_len h2]; omega
    have hl' : i < us.length := by rw [isA_len h4]; omega
    exact ⟨vs, us, vs[i], us[i], e.t h1, e.t h3, List.getElem?_eq_getElem hl, List.getElem?_eq_getElem hl'⟩
  stop H e := ⟨vs, us, e.t h1, e.t h3, by rw [isA_len h2, isA_len h4]; omega⟩
  yl i H v H' O hi hy e hO := by
    obtain ⟨T, x, y, rfl, hT, rfl, hx, hy⟩ := hy
    obtain ⟨d, hd1, hi1⟩ := isA_get' h2 (hx vs ((e.trans hd_ex).t h1))
    obtain ⟨d', hd2, hi2⟩ := isA_get' h4 (hy us ((e.trans hd_ex).t h3))
    have g1 : xs.getD i x0 = d := by rw [List.getD_eq_getElem?_getD, hd1]; rfl
    have g2 : ys.getD i x0 = d' := by rw [List.getD_eq_getElem?_getD, hd2]; rfl
    rw [g1, g2]
    exact new_pair hT e hO hi1 hi2
theorem w_zipT (h : EvA C tl A [.tup xs, .tup ys] A1) (x0 : Dt) : WiS C (RZ.iZipA C.K tl) A (min xs.length ys.length) (fun i => .tup [xs.getD i x0, ys.getD i x0]) A1 := fun os σ H k R q =>
  h os σ H k _ fun os1 vs H1 k1 e1 i1 => by
    simp only [IsA] at i1
    obtain ⟨v, w, rfl, i1, v', w', rfl, i2, rfl⟩ := i1
    rw [Is] at i1 i2
    obtain ⟨a, vs, rfl, h2, h3⟩ := i1
    obtain ⟨b, us, rfl, h4, h5⟩ := i2
    exact ⟨a, b, vs, us, rfl, .inr ⟨hd_ex.t h2, hd_ex.t h4, q os1 H1 _ k1 e1 (yl_zipT h2 h3 h4 h5 x0)⟩⟩
theorem yl_revT {R0 : Hp} {K : Frg} {a : Addr} {vs : List V} (h1 : SqT K R0 a vs) (h2 : IsA K R0 xs vs) (x0 : Dt) : Yl K R0 (RT.ItvT K a vs.length) xs.length fun i => xs.getD (xs.length - 1 - i) x0 where
  go i H hi e := by
    have hl := isA_len h2
    exact ⟨by omega, vs, vs[vs.length - 1 - i]'(by omega), e.t h1, List.getElem?_eq_getElem _⟩
  stop H e := by
    show vs.length ≤ xs.length
    rw [isA_len h2]; exact Nat.le_refl _
  yl i H v H' O hi hy e hO := by
    obtain ⟨rfl, hx⟩ := hy
    obtain ⟨d, hd', hi'⟩ := isA_get' h2 (hx vs ((e.trans hd_ex).t h1))
    have : xs.getD (xs.length - 1 - i) x0 = d := by rw [List.getD_eq_getElem?_getD, ← isA_len h2, hd']; rfl
    rw [this]
    exact ⟨Ex.refl _, fun _ h => h, Is.mono e _ _ hi'⟩
theorem w_revT {te : TE} (h : EvS C te A (.tup xs) A1) (x0 : Dt) : WiS C (RT.iRevA C.K te) A xs.length (fun i => xs.getD (xs.length - 1 - i) x0) A1 := fun os σ H k R q =>
  h os σ H k _ fun os1 v H1 k1 e1 i1 => by
    rw [Is] at i1
    obtain ⟨a, vs, rfl, h2, h3⟩ := i1
    exact ⟨a, vs, rfl, .inr ⟨hd_ex.t h2, q os1 H1 _ k1 e1 (yl_revT h2 h3 x0)⟩⟩
end
end Py
end

section
set_option Elab.async false
set_option linter.all false
set_option maxRecDepth 100000
set_option maxHeartbeats 4000000
set_option autoImplicit false
namespace Py
open PySem PySem.Spec PyProof.Rows L2
/-! ### fractions and rows of them, told alike or not -/
def pyq (q : Rat) : PyData := .tuple [.int (qp q).1, .int (qp q).2]
theorem nice_q (q : Rat) : Nice 1 (fq q) (pyq q) := nice_fr (qp q)
theorem nice_fl (l : List Rat) : Nice 2 (.tup (fl l)) (.tuple (l.map pyq)) := .tup (niceA_map nice_q l)
theorem eqv_q (p q : Rat) : PyData.eqv (pyq p) (pyq q) = decide (p = q) := by
  rw [pyq, pyq, PyData.eqv, PyData.eqvAll, PyData.eqvAll, PyData.eqvAll, PyData.eqv, PyData.eqv, Bool.and_true]
  by_cases h : p = q
  · subst h
    simp
  · rw [decide_eq_false h]
    by_cases h1 : (qp p).1 = (qp q).1
    · have h2 : (qp p).2 ≠ (qp q).2 := fun z => h (qp_inj (Prod.ext h1 z))
      simp [h2]
    · simp [h1]
theorem eqv_ql : ∀ a b : List Rat, PyData.eqvAll (a.map pyq) (b.map pyq) = decide (a = b)
  | [], [] => by rw [List.map_nil, PyData.eqvAll]; rfl
  | [], q :: b => by rw [List.map_nil, List.map_cons, PyData.eqvAll]; rfl
  | p :: a, [] => by rw [List.map_nil, List.map_cons, PyData.eqvAll]; rfl
  | p :: a, q :: b => by
    rw [List.map_cons, List.map_cons, PyData.eqvAll, eqv_q, eqv_ql a b]
    by_cases h : p = q <;> by_cases h' : a = b <;> simp [h, h']
section
variable {C : Ct}
theorem o_eqQ (p q : Rat) : OpS C (rEqA C.K) (fq p) (fq q) (db (decide (p = q))) := by
  have := o_eqN (C := C) (nice_q p) (nice_q q)
  rw [eqv_q] at this
  exact this
theorem o_neQ (p q : Rat) : OpS C (rNeA C.K) (fq p) (fq q) (db (!decide (p = q))) := by
  have := o_neN (C := C) (nice_q p) (nice_q q)
  rw [eqv_q] at this
  exact this
theorem o_eqF (a b : List Rat) : OpS C (rEqA C.K) (.tup (fl a)) (.tup (fl b)) (db (decide (a = b))) := by
  have := o_eqN (C := C) (nice_fl a) (nice_fl b)
  rw [PyData.eqv, eqv_ql] at this
  exact this
theorem o_neF (a b : List Rat) : OpS C (rNeA C.K) (.tup (fl a)) (.tup (fl b)) (db (!decide (a = b))) := by
  have := o_neN (C := C) (nice_fl a) (nice_fl b)
  rw [PyData.eqv, eqv_ql] at this
  exact this
end
theorem qp0 : qp 0 = (0, 1) := by decide
theorem qp1 : qp 1 = (1, 1) := by decide
theorem qpm : qp (-1) = (-1, 1) := by decide
end Py
end

section
set_option Elab.async false
set_option linter.all false
set_option maxRecDepth 100000
set_option maxHeartbeats 4000000
set_option autoImplicit false
namespace Py
open PySem PySem.Spec PyProof.Rows L2
/-! ### lists of one's own: list(..), what is taken off, how they compare -/
section
variable {C : Ct} {E : XK} {A A1 A2 : AS} {te : TE} {tl : TE} {P : Po} {i n : Nat} {xs : List Dt} {x : Dt}
/-- row = list(row) -/
theorem r_listO (h : EvS C te A x A1) (hx : x = .tup xs ∨ x = .lst xs) (hn : P.nx (A1.newO i xs)) : RunS C E (tAsg (tCB (fun ys H Q => ∃ p zs, ys = [V.ref p] ∧ (SqL C.K H p zs ∨ SqT C.K H p zs) ∧ ∀ (l : Addr), H l = none → Q (V.ref l) (upd H l (HO.lst zs))) (tCons te tNil)) (gName i)) A P := fun os σ H D k T =>
  h os σ H k _ fun os1 v H1 k1 e1 i1 => by
    have i1' : ∃ a vs, v = .ref a ∧ (SqL C.K (Rh C.O os1 H1) a vs ∨ SqT C.K (Rh C.O os1 H1) a vs) ∧ IsA C.K (Rh C.O os1 H1) xs vs := by
      rcases hx with rfl | rfl
      · rw [Is] at i1
        obtain ⟨a, vs, e, h2, h3⟩ := i1
        exact ⟨a, vs, e, .inr h2, h3⟩
      · rw [Is] at i1
        obtain ⟨a, vs, e, h2, h3⟩ := i1
        exact ⟨a, vs, e, .inl h2, h3⟩
    obtain ⟨a, vs, rfl, h2, h3⟩ := i1'
    refine ⟨a, vs, rfl, h2.imp hd_ex.l hd_ex.t, fun p hp => T.nx _ _ _ _ hn (k1.newO hp h3) (e1.trans ⟨?_, fun b hb => ?_, fun j y hj => ?_⟩)⟩
    · rw [Rh_app hp]; exact Ex.refl _
    · obtain ⟨o, q, m⟩ := k1.ol b hb
      rw [q, Ex.new hp _ _ q m]
    · rw [List.getElem?_append_left (List.getElem?_eq_some_iff.mp hj).1]; exact hj
/-- xs.pop() -/
theorem e_popO {d : Dt} (h1 : A.sl[i]? = some (.own n)) (h2 : A.st[n]? = some (.lst xs)) (hd' : xs[xs.length - 1]? = some d) : EvS C (tBM0 C.K "list" rPop (tVar i)) A d (A.upO n xs.dropLast) := fun os σ H k Q q => by
  obtain ⟨o, e1, a, e2, e3⟩ := k.slot h1
  subst e2
  obtain ⟨o3, s1, a3, vs, s2, s3, s4⟩ := k.store h2
  rw [e3] at s1; cases s1; cases s2
  obtain ⟨v, hv, iv⟩ := isA_get s4 hd'
  have hl := isA_len s4
  refine ⟨_, e1, .inl ⟨rfl, _, .inl (.inl s3)⟩, a, vs, v, rfl, rfl, s3, by rw [hl]; exact hv, ?_⟩
  have s5 : IsA C.K (Rh C.O os H) xs.dropLast vs.dropLast := by
    rw [List.dropLast_eq_take, List.dropLast_eq_take, hl]
    exact isA_take _ s4
  have e : Rh C.O os (upd H a (.lst vs.dropLast)) = Rh C.O os H := Rh_upd (mem_hid.mpr (.inr (List.mem_of_getElem? e3)))
  refine q os v _ (k.upO e3 h2 s5) ⟨by rw [e]; exact Ex.refl _, fun b hb => (by rw [upd_ne fun z => k.dj b hb (by rw [z]; exact List.mem_of_getElem? e3)]), fun _ _ h => h⟩ ?_
  rw [e]
  exact iv
/-- len(xs) -/
theorem e_lenO (h1 : A.sl[i]? = some (.own n)) (h2 : A.st[n]? = some (.lst xs)) : EvS C (tCB (fun ys H Q => ∃ x n, ys = [x] ∧ LenV C.K x H n ∧ Q (V.int n) H) (tCons (tVar i) tNil)) A (di xs.length) A := fun os σ H k Q q => by
  obtain ⟨o, e1, a, e2, e3⟩ := k.slot h1
  subst e2
  obtain ⟨o3, s1, a3, vs, s2, s3, s4⟩ := k.store h2
  rw [e3] at s1; cases s1; cases s2
  exact ⟨_, e1, _, vs.length, rfl, .inl ⟨vs, SqL.of s3, rfl⟩, by rw [isA_len s4]; exact q os _ H k Gr.refl is_v⟩
theorem own_dp {os : List (Option Addr)} {σ : Sg} {H : Hp} {p : PyData} {m : Nat} {a : Addr} (k : Ok C os A σ H) (e3 : os[n]? = some (some a)) (h2 : A.st[n]? = some (.lst xs)) (hp : Nice m (.lst xs) p) : Dp C.K H (.ref a) p := by
  obtain ⟨o3, s1, a3, vs, s2, s3, s4⟩ := k.store h2
  rw [e3] at s1; cases s1; cases s2
  have d1 : Is C.K (hd C.O H) (.lst xs) (.ref a) := by
    rw [Is]
    refine ⟨a, vs, rfl, SqL.of ?_, IsA.mono hid_ex _ _ s4⟩
    rw [hd_of fun z => k.dj a z (List.mem_of_getElem? e3)]
    exact s3
  exact Dp.mono hd_ex (Is.dp _ _ p d1 hp.all.1)
/-- xs != [] and the like -/
theorem e_neO {p q' : PyData} {m m' : Nat} {y : Dt} (h1 : A.sl[i]? = some (.own n)) (h2 : A.st[n]? = some (.lst xs)) (hp : Nice m (.lst xs) p) (hy : EvS C te A y A) (hq : Nice m' y q') (hm : m ≤ 64 := by decide) (hm' : m' ≤ 64 := by decide) : EvS C (tOp (rNeA C.K) (tVar i) te) A (db (!PyData.eqv p q')) A := fun os σ H k Q q => by
  obtain ⟨o, e1, a, e2, e3⟩ := k.slot h1
  subst e2
  refine ⟨_, e1, hy os σ H k _ fun os1 w H1 k1 g1 i1 => ?_⟩
  exact .inr ⟨p, q', own_dp k1 (g1.p _ _ e3) h2 hp, Dp.mono hd_ex (Is.dp _ _ _ i1 hq.all.1), hp.shaped hm, hq.shaped hm', q os1 _ H1 k1 g1 is_v⟩
end
theorem call_lenK {X : Cx} {K : Frg} (hK : X.K = K) : CallR X (.builtin "len") (fun xs H Q => ∃ x n, xs = [x] ∧ LenV K x H n ∧ Q (V.int (n : Nat)) H) := by subst hK; exact call_len
end Py
end

section
set_option Elab.async false
set_option linter.all false
set_option maxRecDepth 100000
set_option maxHeartbeats 4000000
set_option autoImplicit false
namespace Py
open PySem PySem.Spec PyProof.Rows L2
section
variable {C : Ct} {E : XK} {A A1 A2 : AS} {te ti tk : TE} {tl : TA} {P : Po} {i n : Nat} {xs : List Dt} {d : Dt}
/-- row = [x, ..] * k -/
theorem r_repO {k0 : Int} (h : EvA C tl A xs A1) (hk : EvS C tk A1 (di k0) A2) (h1 : 0 ≤ k0 ∧ k0 < 100000) (hl : xs.length * k0.toNat ≤ 100000) (hl0 : xs.length ≤ 100000) (hn : P.nx (A2.newO i (List.replicate k0.toNat xs).flatten)) : RunS C E (tAsg (tOp (rMulA C.K) (tLst tl) tk) (gName i)) A P := fun os σ H D k T =>
  h os σ H k _ fun os1 vs H1 k1 g1 i1 => ⟨by rw [isA_len i1]; exact Nat.le_trans hl0 (by decide), fun p hp => by
    have k2 := k1.monoN (o := .lst vs) hp
    refine hk os1 σ _ k2 _ fun os2 w H2 k3 g2 i2 => ?_
    rw [Is.v_iff.mp i2]
    have np : p ∉ hid C.O os1 := k1.new hp
    have r1 : Rh C.O os1 (upd H1 p (.lst vs)) p = some (.lst vs) := (hd_of np).trans upd_same
    have r2 : H2 p = some (.lst vs) := hd_ex _ _ (g2.e _ _ r1 nt_l) nt_l
    refine .inr ⟨p, k0, vs, rfl, rfl, r2, by omega, by omega, by rw [isA_len i1]; exact Nat.le_trans hl (by decide : 100000 ≤ sizeLine), fun r hr => ?_⟩
    have i3 := isA_rep (IsA.mono ((hd_mono (Ex.new hp)).trans g2.e) _ _ i1) k0.toNat
    refine T.nx _ _ _ _ hn (k3.newO hr i3) (((g1.trans (k1.gr (Ex.new hp))).trans g2).trans ⟨?_, fun b hb => ?_, fun j y hj => ?_⟩)
    · rw [Rh_app hr]; exact Ex.refl _
    · obtain ⟨o, q, m⟩ := k3.ol b hb
      rw [q, Ex.new hr _ _ q m]
    · rw [List.getElem?_append_left (List.getElem?_eq_some_iff.mp hj).1]; exact hj⟩
/-- row[e] = .. -/
theorem r_setE {z : Int} {j : Nat} (he : EvS C te A d A1) (hi : EvS C ti A1 (di z) A1) (h1 : A1.sl[i]? = some (.own n)) (h2 : A1.st[n]? = some (.lst xs)) (hj : ixN xs.length z = some j) (h : P.nx (A1.upO n (xs.set j d))) : RunS C E (tAsg te (gSub (tVar i) ti rSetL)) A P := fun os σ H D k T =>
  he os σ H k _ fun os1 v H1 k1 e1 i1 => by
    obtain ⟨o, f1, a, f2, f3⟩ := k1.slot h1
    subst f2
    refine ⟨_, f1, hi os1 σ H1 k1 _ fun os2 w H2 k2 e2 i2 => ?_⟩
    have f4 := e2.p _ _ f3
    obtain ⟨o3, s1, a3, vs, s2, s3, s4⟩ := k2.store h2
    rw [f4] at s1; cases s1; cases s2
    rw [Is.v_iff.mp i2]
    have i1' := Is.mono e2.e _ _ i1
    refine ⟨a, vs, z, j, rfl, rfl, s3, by rw [isA_len s4]; exact hj, ?_⟩
    exact T.nx os2 _ σ _ h (k2.upO f4 h2 (isA_set s4 i1')) ((e1.trans e2).trans ⟨by rw [Rh_upd (mem_hid.mpr (.inr (List.mem_of_getElem? f4)))]; exact Ex.refl _, fun b hb => (by rw [upd_ne fun z => k2.dj b hb (by rw [z]; exact List.mem_of_getElem? f4)]), fun _ _ h => h⟩)
end
end Py
end

section
set_option Elab.async false
set_option linter.all false
set_option maxRecDepth 100000
set_option maxHeartbeats 4000000
set_option autoImplicit false
namespace Py
open PySem PySem.Spec PyProof.Rows L2
/-! ### a def that turns a dice, over data -/
theorem hd_same {O O2 : List Addr} {H : Hp} (h : ∀ b, b ∈ O ↔ b ∈ O2) : hd O H = hd O2 H := by
  funext b
  unfold hd
  by_cases c : b ∈ O
  · rw [if_pos c, if_pos ((h b).mp c)]
  · rw [if_neg c, if_neg fun z => c ((h b).mpr z)]
def spTurnD (K : Frg) (T : List (Addr × Str)) (g : Dice → List Dt → Dt → Dice → Prop) : Sp := fun vs H Q _ => ∃ (O : List Addr) (a : Addr) (c : Dice) (ws : List V) (ds : List Dt) (r : Dt) (c' : Dice), vs = .ref a :: ws ∧ a ∉ O ∧ (∀ b ∈ O, ∃ o, H b = some o ∧ NoT o) ∧ H a = some (.lst c.vs) ∧ IsA K (hd (a :: O) H) ds ws ∧ g c ds r c' ∧ LamX.Tabs T H ∧
  ∀ v H', (∀ b o, b ≠ a → H b = some o → NoT o → H' b = some o) → LamX.Tabs T H' → H' a = some (.lst c'.vs) → Is K (hd (a :: O) H') r v → Q v H'
theorem hid_one {O : List Addr} {a b : Addr} : b ∈ hid O [some a] ↔ b ∈ a :: O := by
  rw [mem_hid]
  constructor
  · intro h
    rcases h with h | h
    · exact List.mem_cons_of_mem _ h
    · rw [Option.some.inj (List.mem_singleton.mp h)]; exact List.mem_cons_self ..
  · intro h
    rcases List.mem_cons.mp h with h | h
    · rw [h]; exact Or.inr (List.mem_cons_self ..)
    · exact Or.inl h
theorem start_ownD {K : Frg} {T : List (Addr × Str)} {N : List Str} {O : List Addr} {a : Addr} {xs ws : List V} {ds : List Dt} {H : Hp} (ht : LamX.Tabs T H) (ha : H a = some (.lst xs)) (hO : a ∉ O) (hO2 : ∀ b ∈ O, ∃ o, H b = some o ∧ NoT o) (hw : IsA K (hd (a :: O) H) ds ws) :
    Ok ⟨K, T, fun b => if b = a then none else H b, O⟩ [some a] ⟨.own 0 :: (ds.map SD.d) ++ List.replicate (N.length - (ds.length + 1)) .un, [.lst (xs.map .v)]⟩ (L2.start N (.ref a :: ws)) H := by
  have hr : Rh O [some a] H = hd (a :: O) H := hd_same fun b => hid_one
  have hl := isA_len hw
  refine ⟨fun b o e n => ?_, ht, hO2, fun b h z => ?_, rfl, fun i j b h1 h2 => ?_, fun b h => ?_, ?_, fun i s o h1 h2 => ?_, fun i s o h1 h2 => ?_⟩
  · have e : (if b = a then none else H b) = some o := e
    split at e
    · cases e
    · exact e
  · obtain rfl := Option.some.inj (List.mem_singleton.mp z); exact hO h
  · cases i with
    | succ i => simp at h1
    | zero => cases j with
      | succ j => simp at h2
      | zero => rfl
  · obtain rfl := Option.some.inj (List.mem_singleton.mp h)
    refine ⟨fun o e => ?_, _, ha, nt_l⟩
    have e : (if b = b then none else H b) = some o := e
    rw [if_pos rfl] at e; cases e
  · simp [L2.start, hl]
  · rw [hr]
    cases i with
    | zero =>
      simp [L2.start] at h1 h2
      subst h1 h2
      exact ⟨a, rfl, rfl⟩
    | succ i =>
      have h1 : (ds.map SD.d ++ List.replicate (N.length - (ds.length + 1)) SD.un)[i]? = some s := by simpa using h1
      have h2 : (ws.map some ++ List.replicate (N.length - (ws.length + 1)) none)[i]? = some o := by simpa [L2.start] using h2
      rw [List.getElem?_append] at h1 h2
      rw [List.length_map] at h1 h2
      by_cases c : i < ds.length
      · rw [if_pos c, List.getElem?_map] at h1
        rw [if_pos (by omega), List.getElem?_map] at h2
        obtain ⟨d, e1, rfl⟩ := Option.map_eq_some_iff.mp h1
        obtain ⟨w, e2, rfl⟩ := Option.map_eq_some_iff.mp h2
        obtain ⟨w', e3, e4⟩ := isA_get hw e1
        rw [e2] at e3; cases e3
        exact ⟨w, rfl, e4⟩
      · rw [if_neg c, List.getElem?_replicate] at h1
        split at h1
        · cases h1; trivial
        · cases h1
  · cases i with
    | zero =>
      simp at h1 h2
      subst h1 h2
      exact ⟨a, xs, rfl, ha, flat_isA⟩
    | succ i => simp at h1
/-- the end of such a def's body -/
theorem turn_finD {K : Frg} {T : List (Addr × Str)} {N : List Str} {O : List Addr} {a : Addr} {c c' : Dice} {ws : List V} {ds : List Dt} {r : Dt} {H : Hp} {t : TS} {E : XK} {Q : VK} {sl : List SD} (ha : H a = some (.lst c.vs)) (ht : LamX.Tabs T H) (hO : a ∉ O) (hO2 : ∀ b ∈ O, ∃ o, H b = some o ∧ NoT o) (hw : IsA K (hd (a :: O) H) ds ws)
    (q : ∀ v H', (∀ b o, b ≠ a → H b = some o → NoT o → H' b = some o) → LamX.Tabs T H' → H' a = some (.lst c'.vs) → Is K (hd (a :: O) H') r v → Q v H') (hs : sl = .own 0 :: (ds.map SD.d) ++ List.replicate (N.length - (ds.length + 1)) .un) (hp : pl r = true)
    (R : RunS ⟨K, T, fun b => if b = a then none else H b, O⟩ E t ⟨sl, [.lst c.ds]⟩ { rt := fun r' A => r' = r ∧ A.st = [.lst c'.ds] }) : t { nx := fun _ H' => Q .non H', rt := Q } (L2.start N (.ref a :: ws)) H := by
  subst hs
  have k := start_ownD (N := N) ht ha hO hO2 hw
  exact R [some a] _ H _ k ⟨fun _ _ _ _ z => z.elim, fun os A σ r' u H' ⟨h1, h3⟩ k' g' i' => by
    have o0 := g'.p 0 (some a) rfl
    obtain ⟨o, s1, a3, vs, s2, s3, s4⟩ := k'.store (i := 0) (s := .lst c'.ds) (by rw [h3]; rfl)
    rw [o0] at s1; cases s1; cases s2
    rw [vs_of s4] at s3
    subst h1
    refine q u H' (fun b o hb e n => k'.ex b o ?_ n) k'.tb s3 ?_
    · show (if b = a then none else H b) = some o
      rw [if_neg hb]; exact e
    · exact is_hide (fun b hb hn => (by
        rcases List.mem_cons.mp hb with z | z
        · rw [z]; exact ⟨_, s3⟩
        · exact absurd z hn)) _ _ hp i', fun _ _ _ _ z => z.elim, fun _ _ _ _ z => z.elim, fun _ _ z => z.elim⟩
section
variable {C : Ct} {A : AS} {tl : TA} {i n : Nat} {c c' : Dice} {ds : List Dt} {r : Dt}
/-- f(dice, ..) -/
theorem e_turnD {E' : XK} {g : Dice → List Dt → Dt → Dice → Prop} (h1 : A.sl[i]? = some (.own n)) (h2 : A.st[n]? = some (.lst c.ds)) (hm : EvA C tl A ds A) (hg : g c ds r c') :
    EvS C (tCall (spTurnD C.K C.T g) [] E' (tCons (tVar i) tl)) A r (A.upO n c'.ds) := fun os σ H k Q q => by
  obtain ⟨o, f1, a, f2, f3⟩ := k.slot h1
  subst f2
  refine ⟨_, f1, hm os σ H k _ fun os1 vs H1 k1 g1 i1 => ?_⟩
  have f3' := g1.p n _ f3
  obtain ⟨o3, s1, a3, us, s2, s3, s4⟩ := k1.store h2
  rw [f3'] at s1; cases s1; cases s2
  rw [vs_of s4] at s3
  have hh : a ∈ hid C.O os1 := mem_hid.mpr (.inr (List.mem_of_getElem? f3'))
  have hs : ∀ b, b ∈ a :: (hid C.O os1).filter (fun b => decide (b ≠ a)) ↔ b ∈ hid C.O os1 := fun b => by
    rw [List.mem_cons, List.mem_filter]
    constructor
    · intro z
      rcases z with z | z
      · rw [z]; exact hh
      · exact z.1
    · intro z
      by_cases e : b = a
      · exact .inl e
      · exact .inr ⟨z, decide_eq_true e⟩
  refine ⟨(hid C.O os1).filter (fun b => decide (b ≠ a)), a, c, vs, ds, r, c', by rw [List.append_nil], fun z => ?_, fun b z => k1.hidden (List.mem_filter.mp z).1, s3, by rw [hd_same hs]; exact i1, hg, k1.tb, fun v H' e t ha iv => ?_⟩
  · exact absurd rfl (of_decide_eq_true (List.mem_filter.mp z).2)
  have ku := k1.upO f3' h2 (ys := c'.ds) ds_of
  have ex : Ex (upd H1 a (.lst c'.vs)) H' := fun b o hb nt => by
    by_cases eb : b = a
    · subst eb
      rw [upd_same] at hb; cases hb
      exact ha
    · rw [upd_ne eb] at hb; exact e b o eb hb nt
  rw [hd_same hs] at iv
  refine q os1 _ H' (ku.mono ex t) (g1.trans ⟨?_, fun b hb => ?_, fun _ _ h => h⟩) iv
  · have := hd_mono (O := hid C.O os1) ex
    rw [show hd (hid C.O os1) (upd H1 a _) = Rh C.O os1 H1 from Rh_upd hh] at this
    exact this
  · obtain ⟨o, hb1, nt⟩ := k1.ol b hb
    rw [hb1]
    exact e b o (fun z => k1.dj b hb (by rw [z]; exact List.mem_of_getElem? f3')) hb1 nt
end
end Py
end

section
set_option Elab.async false
set_option linter.all false
set_option maxRecDepth 100000
set_option maxHeartbeats 4000000
set_option autoImplicit false
namespace Py
open PySem PySem.Spec PyProof.Rows L2
section
variable {C : Ct} {A A1 A2 A3 A4 : AS} {te : TE} {tl : TA} {ta tb : TO} {xs ys : List Dt} {lo hi : Option Int}
/-- [x, ..] + ys[lo:hi] -/
theorem e_catSl (h0 : EvA C tl A xs A1) (h : EvS C te A1 (.lst ys) A2) (h1 : EvO C ta A2 lo A3) (h2 : EvO C tb A3 hi A4) (hl : xs.length + ys.length ≤ 100000) : EvS C (tOp (rAddA C.K) (tLst tl) (tSl (rSlL C.K) te ta tb)) A (.lst (xs ++ cutL ys lo hi)) A4 := fun os σ H k Q q =>
  h0 os σ H k _ fun os0 us H0 k0 g0 i0 => ⟨by rw [isA_len i0]; exact Nat.le_trans (by omega) (by decide : 100000 ≤ sizeLine), fun p hp => by
    have kp := k0.monoN (o := .lst us) hp
    refine h os0 σ _ kp _ fun os1 v H1 k1 e1 i1 => h1 os1 σ H1 k1 _ fun os2 H2 k2 e2 => h2 os2 σ H2 k2 _ fun os3 H3 k3 e3 => ?_
    have i3 := Is.mono (e2.trans e3).e _ _ i1
    rw [Is] at i3
    obtain ⟨a, vs, rfl, h4, h5⟩ := i3
    have np : p ∉ hid C.O os0 := k0.new hp
    have r1 : Rh C.O os0 (upd H0 p (.lst us)) p = some (.lst us) := (hd_of np).trans upd_same
    have r2 : H3 p = some (.lst us) := hd_ex _ _ (((e1.trans e2).trans e3).e _ _ r1 nt_l) nt_l
    refine ⟨a, vs, rfl, hd_ex.l h4, fun l hl' => ?_⟩
    have ne : p ≠ l := fun z => by rw [z, hl'] at r2; cases r2
    have i5 := isA_cutL (lo := lo) (hi := hi) h5
    have kl := k3.monoN (o := .lst (cutV vs lo hi)) hl'
    refine .inr (.inr (.inr ⟨p, l, us, cutV vs lo hi, rfl, rfl, by rw [upd_ne ne]; exact r2, upd_same, ?_, fun r hr => ?_⟩))
    · have e5 := isA_len i5
      rw [isA_len i0, e5]
      refine Nat.le_trans ?_ (by decide : 100000 ≤ sizeLine)
      unfold cutL
      rw [List.length_take, List.length_drop]
      omega
    · have g3 := (((g0.trans (k0.gr (Ex.new hp))).trans e1).trans e2).trans e3
      refine q os3 _ _ (kl.monoN hr) ((g3.trans (k3.gr (Ex.new hl'))).trans (kl.gr (Ex.new hr))) ?_
      rw [Is]
      have ex := hd_mono (O := hid C.O os3) ((Ex.new (o := .lst (cutV vs lo hi)) hl').trans (Ex.new (o := .lst (us ++ cutV vs lo hi)) hr))
      refine ⟨r, _, rfl, SqL.of (kl.fresh hr), isA_app (IsA.mono (((((hd_mono (Ex.new hp)).trans e1.e).trans e2.e).trans e3.e).trans ex) _ _ i0) (IsA.mono ex _ _ i5)⟩⟩
/-- first is not None -/
theorem o_notNone {x : Dt} {b : Bool} (h : (x = dn ∧ b = false) ∨ (∃ ys, x = .tup ys) ∧ b = true) : OpS C (fun x y H Q => y = .non ∧ Q (.bl (!decide (x = .non))) H) x dn (db b) := fun os A σ H vx vy k i1 i2 Q q => by
  refine ⟨Is.v_iff.mp i2, ?_⟩
  rcases h with ⟨rfl, rfl⟩ | ⟨⟨zs, rfl⟩, rfl⟩
  · rw [Is.v_iff.mp i1]
    exact q _ H (Ex.refl _) k.tb is_v
  · rw [Is] at i1
    obtain ⟨a, vs, rfl, _⟩ := i1
    exact q _ H (Ex.refl _) k.tb is_v
end
end Py
end

section
set_option Elab.async false
set_option linter.all false
set_option maxRecDepth 100000
set_option maxHeartbeats 4000000
set_option autoImplicit false
namespace Py
open PySem PySem.Spec PyProof.Rows L2
/-! ### a lambda that is kept: no parameter, nothing captured -/
def LamO (params : Arguments) (body : Expr) (scope : Scope) (q : Str) (f c' : Addr) : HO := .ext fun h => ∃ pm ctv, h.get? f = some (PySem.W.kla_obj "<lambda>" q params body scope [] pm c' ctv)
theorem nt_lamO {params : Arguments} {body : Expr} {scope : Scope} {q : Str} {f c' : Addr} : NoT (LamO params body scope q f c') := fun ps z => by unfold LamO at z; cases z
section
variable {X : Cx} {pins : List (Addr × Obj)} {σ : L2.St} {H Hb : Hp} {s sb : Shared}
/-- what stands at a new place is known from now on -/
theorem know_new {f : Addr} {o : Obj} {φ : Heap → Prop} (J : Inv X pins σ Hb sb) (I : Inv X pins σ H s) (far : sb.heap.objs.size ≤ f) (hf : s.heap.get? f = some o) (hn : H f = none) (h1 : φ s.heap) (h2 : ∀ a b : Heap, φ a → (∀ o, a.get? f = some o → b.get? f = some o) → φ b) : Inv X pins σ (upd H f (.ext φ)) s := by
  have neq : ∀ b u, H b = some u → b ≠ f := fun b u e => ne_of_none e hn
  have old : ∀ b o, sb.heap.get? b = some o → b ≠ f := fun b o e z => by
    rw [z] at e
    exact absurd (Heap.lt_size e) (Nat.not_lt.mpr far)
  refine I.step (h' := s.heap) (ch := [f]) (fun b hb => ?_) (fun b o _ _ _ e _ => e) (fun b o _ _ _ e _ => ⟨o.slots, e⟩) (fun b o hb _ e => ?_) (fun b o _ e => ⟨o, e⟩) (fun b xs e => ?_) (fun b o u e => ?_) (fun b ps e => ⟨#[], ?_⟩) (fun m k => k) (fun b u e => ?_) I.bare
  · obtain rfl : b = f := List.mem_singleton.mp hb
    refine ⟨.inr (Nat.le_trans J.sz far), fun z => ?_, fun x c e z => ?_, fun p hp z => ?_⟩
    · exact absurd J.lt (Nat.not_lt.mpr (z ▸ far))
    · obtain ⟨w, o', e', _⟩ := J.cell x c e
      exact old c o' e' z
    · exact old p.1 p.2 (J.pin p hp).1 z
  · rw [upd_ne fun z => hb (List.mem_singleton.mpr z)]; exact e
  · rw [upd_ne (neq b _ e)]; exact e
  · rw [upd_ne (neq b _ e)]; exact e
  · rw [upd_ne (neq b _ e), e]; simp
  · by_cases z : b = f
    · subst z
      rw [upd_same] at e
      cases e
      exact ⟨h1, ⟨o, hf⟩, h2⟩
    · rw [upd_ne z] at e
      exact (I.hok b u e).stay (fun d v _ k => k) (fun d k => by rw [upd_ne (neq d _ k)]; exact k) fun d xs k => by rw [upd_ne (neq d _ k)]; exact k
/-- nothing is captured where nothing is free -/
theorem clo_nil (cells : List (Str × Addr)) : ∀ names : List (Str × NameKind), (∀ y ∈ names, y.2 ≠ .free) → cloFrom cells names [] = []
  | [], _ => rfl
  | (x, k) :: r, h => by
    have hk : k ≠ .free := h (x, k) (List.mem_cons_self ..)
    have ih := clo_nil cells r fun y hy => h y (List.mem_cons_of_mem _ hy)
    cases k <;> first | exact absurd rfl hk | exact ih
theorem lam_mk {T : List (Addr × Str)} {c pT : Addr} {q : Str} {params : Arguments} {body : Expr} {scope : Scope} {pos : Pos} {E : Value → Shared → Prop} {Q : Value → Shared → Prop} (I : Inv X pins σ H s) (TB : LamX.TabB X.base X.mg c pT) (hcd : X.env.code = .ref c) (hq : X.env.qual ++ "<lambda>" = q)
    (hm : (pT, q) ∈ T) (hu : ∀ p ∈ T, p.1 = pT → p.2 = q) (hT : LamX.Tabs T H) (hdef : defaultsOf params X.env = ([], [])) (hno : ∀ y ∈ scope.names, y.2 ≠ .free)
    (k : ∀ (f c' : Addr) (H1 : Hp) (s' : Shared), Inv X pins σ (upd H1 f (LamO params body scope q f c')) s' → LamX.ExtN H H1 → LamX.Tabs T H1 → H1 f = none → H1 c' = some (LamX.CodeO c' q) → Q (.ref f) s') : wpAny (model X.prog X.w) X.A (eval (.Lambda params body scope pos) X.env) Q E s := by
  subst hq
  obtain ⟨ps, hP, tr, am⟩ := hT _ hm
  have here : s.heap.get? pT = some { cls := .none, data := .fields ps } := I.hok pT _ hP
  have bi := TB.bm.keeps I.bk
  have co := TB.code.keeps I.bk
  have gl := I.mod.glob.keeps I.bk
  have cl0 : closureFor scope X.env = pure [] := by
    have z := closure_ok (env := X.env) (scope := scope) fun y hy e => absurd e (hno y hy)
    rwa [clo_nil _ _ hno] at z
  apply PySem.W.kla_eval hdef
  cases hc2 : codeAmong pos ps.toList with
  | none =>
    refine PySem.W.kla_makeFunction (mg := X.mg) (P := pT) (ps := ps) cl0 I.ok.glob gl hcd co here tr hc2 TB.gP bi fun d ctv h2 tk hx ge lt rc tb => ?_
    obtain ⟨d', oc, vs, t, ed, ho, hd, hv⟩ := rc
    cases ed
    have far : s.heap.objs.size ≤ h2.objs.size := by omega
    have nd : H d = none := I.hok.fresh ge
    have I1 := LamX.inv_table (t' := tk) (more := #[rawInt pos.line, rawInt pos.col, .ref d]) (h' := h2.push (PySem.W.kla_obj "<lambda>" (X.env.qual ++ "<lambda>") params body scope [] ((X.mg "__name__").getD .none) d ctv)) I hP (fun b o z e => Heap.get?_push_of_some _ (hx b o z e)) (Heap.get?_push_of_some _ tb) ge ⟨oc, vs, t, Heap.get?_push_of_some _ ho, hd, hv⟩
    have nf : upd (upd H pT (.tbl (ps ++ #[rawInt pos.line, rawInt pos.col, .ref d]))) d (LamX.CodeO d (X.env.qual ++ "<lambda>")) h2.objs.size = none := by
      have n2 : h2.objs.size ≠ pT := fun z => absurd (Heap.lt_size here) (Nat.not_lt.mpr (z ▸ far))
      rw [upd_ne (Nat.ne_of_gt lt), upd_ne n2]
      exact I.hok.fresh far
    have hE : LamX.ExtN H (upd (upd H pT (.tbl (ps ++ #[rawInt pos.line, rawInt pos.col, .ref d]))) d (LamX.CodeO d (X.env.qual ++ "<lambda>"))) := fun b o e n => by
      have z1 : b ≠ pT := fun z => n ps (Option.some.inj (e.symm.trans (z ▸ hP)))
      rw [upd_ne (ne_of_none e nd), upd_ne z1, e]
    have lst : (ps ++ #[rawInt pos.line, rawInt pos.col, .ref d]).toList = ps.toList ++ [rawInt pos.line, rawInt pos.col, .ref d] := by simp
    have hT1 : LamX.Tabs T (upd (upd H pT (.tbl (ps ++ #[rawInt pos.line, rawInt pos.col, .ref d]))) d (LamX.CodeO d (X.env.qual ++ "<lambda>"))) := by
      intro p hp
      by_cases z : p.1 = pT
      · have e2 := hu p hp z
        rw [e2, z]
        refine ⟨_, by rw [upd_ne (ne_of_none hP nd), upd_same], by rw [lst]; exact PySem.TriplesOk_snoc _ _ _ _ tr, ?_⟩
        intro pp cv hcv
        rw [lst] at hcv
        rcases LamX.among_app _ tr hcv with y | y
        · obtain ⟨c0, y1, y2⟩ := am pp cv y
          exact ⟨c0, y1, hE _ _ y2 LamX.codeO_ne⟩
        · exact ⟨d, y, upd_same⟩
      · obtain ⟨qs, b1, b2, b3⟩ := hT p hp
        refine ⟨qs, by rw [upd_ne (ne_of_none b1 nd), upd_ne z, b1], b2, fun pp cv hcv => ?_⟩
        obtain ⟨c0, y1, y2⟩ := b3 pp cv hcv
        exact ⟨c0, y1, hE _ _ y2 LamX.codeO_ne⟩
    exact k h2.objs.size d _ _ (know_new I I1 far (Heap.get?_push_size _ rfl) nf ⟨_, _, Heap.get?_push_size _ rfl⟩ fun a b ⟨u, v, e⟩ st => ⟨u, v, st _ e⟩) hE hT1 nf upd_same
  | some cv =>
    obtain ⟨d, rfl, hd⟩ := am pos cv hc2
    refine PySem.W.kla_makeFunctionHit (mg := X.mg) (P := pT) (ps := ps) cl0 I.ok.glob gl hcd co here tr hc2 bi fun ctv h2 tk hx far => ?_
    have I1 : Inv X pins σ H { s with heap := h2.push (PySem.W.kla_obj "<lambda>" (X.env.qual ++ "<lambda>") params body scope [] ((X.mg "__name__").getD .none) d ctv), toks := tk } := I.kept fun b o e => Heap.get?_push_of_some _ (hx b o e)
    have nf : H h2.objs.size = none := I.hok.fresh far
    exact k h2.objs.size d H _ (know_new I I1 far (Heap.get?_push_size _ rfl) nf ⟨_, _, Heap.get?_push_size _ rfl⟩ fun a b ⟨u, v, e⟩ st => ⟨u, v, st _ e⟩) (LamX.ExtN.refl H) hT nf hd
def tMk (T : List (Addr × Str)) (q : Str) (P : Addr → Addr → HO) : TE := fun σ H Q => LamX.Tabs T H ∧ ∀ (f c' : Addr) (H1 : Hp), LamX.ExtN H H1 → LamX.Tabs T H1 → H1 f = none → H1 c' = some (LamX.CodeO c' q) → Q (.ref f) (upd H1 f (P f c'))
/-- lambda: body, kept -/
theorem pe_mk {T : List (Addr × Str)} {f : Str} {params : Arguments} {body : Expr} {scope : Scope} {lpos : Pos} (LB : LamB X.K X.base X.mg T f) (hq : X.env.qual ++ "<lambda>" = lamQ f) (hcd : X.env.code = .ref (He.cT X.K (f, none)).1) (hdef : defaultsOf params X.env = ([], [])) (hno : ∀ y ∈ scope.names, y.2 ≠ .free) :
    PE X (.Lambda params body scope lpos) (tMk T (lamQ f) (LamO params body scope (lamQ f))) := by
  constructor
  intro pins s σ H Q I h
  exact lam_mk I LB.tb hcd hq LB.mm LB.hu h.1 hdef hno fun f c' H1 s' I1 e t n hc => ⟨.ref f, _, I1, rfl, h.2 f c' H1 e t n hc⟩
/-- a(), in the def that got the kept lambda -/
theorem pe_actV {CXg : CXT} {Eg : XK} {Ng : List Str} {qg q : Str} {sg : Scope} {g f c' : Addr} {cdg : Value} {params : Arguments} {body : Expr} {scope : Scope} {k i : Nat} {a : Str} {pn : List (Addr × Obj)} {xe : Value → Shared → Prop} {W : WX} {E : XK} {tb : TE} {p1 p2 : Pos}
    (I : Inv X pins σ H s) (L : LamX.LamS X.env.scope scope) (hno : ∀ y ∈ scope.names, y.2 ≠ .free) (hq : X.env.qual ++ "<lambda>" = q)
    (hbind : ∀ pm ctv : Value, bindArgs (PySem.W.kla_fn "<lambda>" q params body scope [] pm (.ref c') ctv) ⟨[], []⟩ = pure [])
    (tk : Takes (Cx.tr (cxOf CXg X.prog X.w X.K X.mg X.base Ng qg sg g cdg X.A X.stack s H Eg) pn xe) W) (hW : ∀ cls d σ' H', E cls d H' → W cls d σ' H') (hr : Room (k + 1) (X.A.deeper (envOfC qg sg s.heap.objs.size g cdg)))
    (hbody : ∀ (A : Around) (outer : List Env) (s : Shared) (H : Hp), Room k (A.deeper (LamX.lamEnv X scope s.heap.objs.size f c')) → PE (LamX.lamCx X A outer s H E scope f c') body tb)
    (hN : Ng[i]? = some a) (hv : Vis sg a) (hd : (a == ("__debug__" : Str)) = false) (hcd : (a == ("__classdict__" : Str)) = false) :
    PE (Cx.tr (cxOf CXg X.prog X.w X.K X.mg X.base Ng qg sg g cdg X.A X.stack s H Eg) pn xe) (.Call (.Name a p1) [] [] p2)
      (fun σZ HZ Q => σZ[i]? = some (some (.ref f)) ∧ HZ c' = some (LamX.CodeO c' q) ∧ HZ f = some (LamO params body scope q f c') ∧ tb σ HZ Q) := by
  subst hq
  have cl0 : cloFrom X.env.cells scope.names [] = [] := clo_nil _ _ hno
  refine ⟨fun pz sz σZ HZ Q IZ hz => ?_⟩
  obtain ⟨z1, z2, z3, z4⟩ := hz
  refine wpAny_Call_Name_kw (thn ((pe_var (pos := p1) (i := i) hN hv hd hcd).run pz sz σZ HZ (fun v K1 => v = .ref f ∧ K1 = HZ) IZ ⟨.ref f, z1, rfl, rfl⟩) fun u s1 got => ?_)
  obtain ⟨v, K1, J, ru, ev, rfl⟩ := got
  subst ev
  obtain rfl : u = .ref f := ru
  obtain ⟨pm, ctv, of⟩ : ∃ pm ctv, s1.heap.get? f = some (PySem.W.kla_obj "<lambda>" (X.env.qual ++ "<lambda>") params body scope [] pm c' ctv) := (J.hok f _ z3).1
  obtain ⟨⟨oc, vs, t, o1, o2, o3⟩, _, _⟩ := J.hok c' _ z2
  refine PySem.W.callWith_F0 ⟨_, _, _, _, of⟩ ?_
  have run : codeAny (model X.prog X.w) (X.A.deeper (envOfC qg sg s.heap.objs.size g cdg)) (.call (.ref f) ⟨[], []⟩) (CR (L2.CX X.prog X.w) (envOfC qg sg s.heap.objs.size g cdg :: X.stack) X.prog X.w K1 s1 Q E) s1 := by
    apply PySem.W.kla_callFunE hr.depth of rfl L.co L.gen rfl ⟨c', oc, vs, t, rfl, o1, o2, o3⟩
    rw [hbind]
    refine wpAny_pure (wpAny_newFunctionEnv (fun y hy => (L.own y hy).2) (fun y hy => (by simp at hy)) (fun h₂ hn2 hb2 => ⟨J.nolimit.fresh _ hb2, ?_⟩) L.kind)
    have kept : ∀ b o, s1.heap.get? b = some o → h₂.get? b = some o := fun b o e => hb2.extBut b o (Nat.ne_of_lt (Heap.lt_size e)) (Heap.get?_push_of_some _ e)
    have S : Inv (LamX.lamCx X (X.A.deeper (envOfC qg sg s.heap.objs.size g cdg)) (envOfC qg sg s.heap.objs.size g cdg :: X.stack) s1 K1 E scope f c') [] σ K1 { s1 with heap := h₂, toks := s1.toks + ([] : List (Str × Value)).length } := LamX.lam_start2 I L J.env0 hr.hd J.base hn2 kept
    have B := (hbody _ _ s1 K1 (hr.deeper _)).run [] _ _ K1 Q S z4
    rw [← cl0]
    refine PySem.W.kla_codeExpr (wpAny_mono B (fun v s' got => ?_) fun e s' got => got)
    obtain ⟨w', H', S', rv, q⟩ := got
    exact ⟨w', H', S'.os, S'.bare, S'.base, S'.hok, rv, q⟩
  have through : Passes (L2.CX X.prog X.w) (Cx.tr (cxOf CXg X.prog X.w X.K X.mg X.base Ng qg sg g cdg X.A X.stack s H Eg) pn xe) E := passes_call tk hW
  refine wpAny_call (codeAny_mono run fun r s' got => ?_)
  cases r with
  | error e => exact through pz σZ K1 s1 e s' J got
  | ok fl => cases fl with
    | ret u => exact J.after got
    | next => exact got.elim
    | brk => exact got.elim
    | cont => exact got.elim
/-- a kept lambda, and its body's reading -/
structure LamD where
  params : Arguments
  body : Expr
  scope : Scope
  t : XK → TE
def LamD.P (l : LamD) (q : Str) : Addr → Addr → HO := LamO l.params l.body l.scope q
def tToldV (K : Frg) (q : Str) (i : Nat) (CS : Addr) (ret : Str) (LT : List LamD) : TE := fun σ H Q => ∃ (f c' : Addr) (l : LamD), l ∈ LT ∧ σ[i]? = some (some (.ref f)) ∧ H f = some (l.P q f c') ∧ H c' = some (LamX.CodeO c' q) ∧ LamX.TTold K CS ret (fun E H' Q' => H' f = some (l.P q f c') ∧ l.t E σ H' Q') H Q
structure LamOk (X : Cx) (k : Nat) (l : LamD) : Prop where
  own : LamX.LamS X.env.scope l.scope
  no : ∀ y ∈ l.scope.names, y.2 ≠ .free
  bind : ∀ (q : Str) (c' : Addr) (pm ctv : Value), bindArgs (PySem.W.kla_fn "<lambda>" q l.params l.body l.scope [] pm (.ref c') ctv) ⟨[], []⟩ = pure []
  body : ∀ (A : Around) (outer : List Env) (s : Shared) (H : Hp) (E : XK) (f c' : Addr), Room k (A.deeper (LamX.lamEnv X l.scope s.heap.objs.size f c')) → PE (LamX.lamCx X A outer s H E l.scope f c') l.body (l.t E)
/-- told(f), f a kept lambda -/
theorem pe_toldV {x a e ret : Str} {stT : Stmt} {CS : Addr} {q : Str} {k j i : Nat} {y : Str} {LT : List LamD} {p1 p2 p3 p4 p5 p6 p7 p8 p p9 pos : Pos}
    (F : ∃ fd, FunD X.K x x (defArgs stT) (defBody stT) (defScope stT) [] [] (He.ga X.K x) fd) (hm : X.mg x = some (.ref (He.ga X.K x)))
    (hbod : defBody stT = [.Try [.Return (some (.Call (.Name a p1) [] [] p2)) p3] [.ExceptHandler (some (.Name e p4)) none [.Return (some (.Constant (.str ret) j p5)) p6] p7] [] [] p8])
    (Sg : FnScope [a] [a] (defScope stT)) (hva : Vis (defScope stT) a) (hge : (defScope stT).names.lookup e = some .globalImplicit) (hde : (e == ("__debug__" : Str)) = false) (hme : X.mg e = some (.ref CS))
    (hbT : ∀ (kV doc pm : Value) (an : Option Addr) (cdv ct : Value) (us : List Value), us.length = 1 → bindArgs (PySem.W.fnOf x x (defArgs stT) (defBody stT) (defScope stT) .none kV doc pm an cdv ct) ⟨us, []⟩ = pure ([a].zip us))
    (hq : X.env.qual ++ "<lambda>" = q) (hr : Room (k + 2) X.A) (ok : ∀ l ∈ LT, LamOk X k l) (hv : PE X (.Name y p9) (tVar i)) (hg : Gl X x := by rfl) (hdb : (x == ("__debug__" : Str)) = false := by decide) (hd : (a == ("__debug__" : Str)) = false := by decide) (hcd : (a == ("__classdict__" : Str)) = false := by decide) :
    PE X (.Call (.Name x p) [.Name y p9] [] pos) (tToldV X.K q i CS ret LT) := by
  obtain ⟨fd, F⟩ := F
  have kb := F.bindsN (ps := [a]) hbT
  have kp := F.kp
  obtain ⟨oc, od, dV, kV, doc, pm, an, cdv, ct, osl, e1, lk, hc⟩ := fnd_of F
  subst e1
  constructor
  intro pins s σ H Q I h
  obtain ⟨f, c', l, hl, h1, h2, h3, h4⟩ := h
  have o := ok l hl
  apply wpAny_Call_Name_kw (ld_glob I hg hm ?_ hdb)
  have ha : PA X [.Name y p9] (tCons (tVar i) tNil) := pa_cons hv pa_nil
  refine PySem.W.callWith_K (h₀ := X.base) I.ok.mod.kin kp (thn (ha.run pos pins s σ H (fun vs K1 => vs = [.ref f] ∧ K1 = H) I ⟨.ref f, h1, rfl, rfl⟩) fun us s1 got => ?_) rfl rfl
  obtain ⟨vs, K1, J, rv, ev, rfl⟩ := got
  subst ev
  refine ⟨J.kIn, ?_⟩
  obtain rfl : us = [.ref f] := by
    cases rv with
    | cons r1 r2 =>
      cases r2
      obtain rfl := r1
      rfl
  have G : LamX.GivesTo X [a] x (defScope stT) (He.ga X.K x) cdv (defBody stT) a q (LamX.TTold X.K CS ret) := by
    rw [hbod]
    exact LamX.told_gives hge hme hde fun _ => rfl
  have run : codeAny (model X.prog X.w) X.A (.call (.ref (He.ga X.K x)) ⟨[.ref f], []⟩) (CR C8.CX0 X.stack X.prog X.w K1 s1 Q C8.E0) s1 := by
    refine LamX.run_ofS (N := [a]) (ps := [a]) (us := [.ref f]) (vs := [.ref f]) lk hc Sg hr J.env0 (kb s1 [.ref f] J.kIn rfl) (.cons rfl .nil) rfl fun hr2 => ?_
    obtain ⟨t', ht', hq'⟩ := G f c' s1 K1 Q (fun E H' Q' => H' f = some (l.P q f c') ∧ l.t E σ H' Q') (fun W pn xe E q1 q2 tk hW => pe_actV (i := 0) J o.own o.no hq (o.bind _ _) tk hW hr2 (fun A outer s H r3 => o.body A outer s H E f c' r3) rfl hva hd hcd) h3 h4
    exact ⟨t', ht'.nox, hq'⟩
  refine wpAny_call (codeAny_mono run fun r s2 got => ?_)
  cases r with
  | error e => exact (show False from got).elim
  | ok fl => cases fl with
    | ret u => exact J.after got
    | next => exact got.elim
    | brk => exact got.elim
    | cont => exact got.elim
end
section
variable {C : Ct} {A A1 : AS} {d : Dt} {q : Str} {i : Nat} {CS : Addr} {ret : Str} {LT : List LamD}
theorem e_mk {P : Addr → Addr → HO} (hP : ∀ f c', NoT (P f c')) (hO : C.O = []) (hst : ∀ s ∈ A.st, ∃ xs, s = .lst xs) : EvS C (tMk C.T q P) A (.lam P q) A := fun os σ H k Q z =>
  ⟨k.tb, fun f c' H1 eN T1 hn hc => by
    have k1 := k.mono (H' := H1) eN T1
    have k2 := k1.monoN (o := P f c') hn
    refine z os _ _ k2 ((k.gr eN).trans (k1.gr (Ex.new hn))) ?_
    rw [Is]
    refine ⟨f, c', rfl, k1.fresh hn, hP f c', ?_⟩
    have nf : c' ≠ f := ne_of_none hc hn
    have nh : c' ∉ hid C.O os := fun hh => by
      rcases mem_hid.mp hh with y | y
      · rw [hO] at y; cases y
      · obtain ⟨xs, e⟩ := st_lst k1 hst y
        rw [hc] at e
        unfold LamX.CodeO at e
        cases e
    show hd _ _ _ = _
    rw [hd_of nh, upd_ne nf, hc]⟩
theorem lam_slot {os : List (Option Addr)} {σ : Sg} {H : Hp} {P : Addr → Addr → HO} (k : Ok C os A σ H) (h : A.sl[i]? = some (.d (.lam P q))) : ∃ f c', σ[i]? = some (some (.ref f)) ∧ H f = some (P f c') ∧ H c' = some (LamX.CodeO c' q) := by
  obtain ⟨o, e1, v, e2, e3⟩ := k.slot h
  subst e2
  rw [Is] at e3
  obtain ⟨f, c', rfl, h2, h3, h4⟩ := e3
  exact ⟨f, c', e1, hd_ex f _ h2 h3, hd_ex c' _ h4 fun ps z => LamX.codeO_ne ps z⟩
theorem e_toldVOk {l : LamD} (hl : l ∈ LT) (h : A.sl[i]? = some (.d (.lam (l.P q) q))) (ht : ∀ E, EvS C (l.t E) A d A1) : EvS C (tToldV C.K q i CS ret LT) A d A1 := fun os σ H k Q z => by
  obtain ⟨f, c', h1, h2, h3⟩ := lam_slot k h
  exact ⟨f, c', l, hl, h1, h2, h3, h2, ht _ os σ H k Q z⟩
theorem e_toldVErr {l : LamD} (hm : PySem.W.exmOne C.K (.ref CS) (.ref CS) = some true) (hl : l ∈ LT) (h : A.sl[i]? = some (.d (.lam (l.P q) q))) (ht : ∀ E, EvX C E (l.t E) A CS A1) : EvS C (tToldV C.K q i CS ret LT) A (Dt.v (.str ret)) A1 := fun os σ H k Q z => by
  obtain ⟨f, c', h1, h2, h3⟩ := lam_slot k h
  exact ⟨f, c', l, hl, h1, h2, h3, h2, ht _ os σ H k (fun os' H' k' g => ⟨true, hm, fun _ => z os' _ H' k' g is_v, fun y => by cases y⟩) Q⟩
end
/-! ### the law's own def, nothing hidden -/
def spD0 (K : Frg) (T : List (Addr × Str)) (g : List Dt → Rs → Prop) : Sp := fun vs H Q E => ∃ ds r, LamX.Tabs T H ∧ IsA K H ds vs ∧ g ds r ∧
  match r with
  | .ok d => ∀ v H', Ex H H' → LamX.Tabs T H' → Is K H' d v → Q v H'
  | .err c => ∀ H', Ex H H' → LamX.Tabs T H' → E (.ref c) none H'
theorem fin0 {t : TS} {N : List Str} {K : Frg} {T : List (Addr × Str)} {E : XK} {g : List Dt → Rs → Prop} {vs : List V} {H : Hp} {Q : VK} (h : spD0 K T g vs H Q E) (run : ∀ ds r, g ds r → RunS ⟨K, T, H, []⟩ E t (start N ds) (poR r)) : t { nx := fun _ H' => Q .non H', rt := Q } (L2.start N vs) H := by
  obtain ⟨ds, r, ht, hi, hg, hr⟩ := h
  refine run ds r hg [] _ H _ (start_ok (fun a z => by cases z) ht (by rw [hd_nil]; exact hi)) ⟨fun os A σ H' z k _ => ?_, fun os A σ d v H' z k _ i => ?_, fun _ _ _ _ z => z.elim, fun _ _ _ _ z => z.elim, fun c H' z e t => ?_⟩
  · obtain rfl : r = .ok dn := z
    exact hr _ H' k.ex k.tb is_v
  · obtain rfl : r = .ok d := z
    have i : Is K (hd [] H') d v := i
    rw [hd_nil] at i
    exact hr v H' k.ex k.tb i
  · obtain rfl : r = .err c := z
    exact hr H' e t
theorem mkFL0 {P : Program} {w : World} {K : Frg} {T : List (Addr × Str)} {mg : Str → Option Value} {base : Heap} {f : Str} {st : Stmt} {N ps : List Str} {k : Nat} {g : List Dt → Rs → Prop} {fd : FuncData}
    (F : FunD K f f (defArgs st) (defBody st) (defScope st) [] [] (He.ga K f) fd) (S : FnScope N ps (defScope st))
    (len : ∀ ds r, g ds r → ds.length = ps.length)
    (hbody : ∀ (A : Around) (outer : List Env) (s : Shared) (H : Hp) (E : XK), Room k (A.deeper (envOfC f (defScope st) s.heap.objs.size (He.ga K f) (.ref (He.cT K (f, none)).1))) →
      ∃ t, PSs (cxOf (L2.CX P w) P w K mg base N f (defScope st) (He.ga K f) (.ref (He.cT K (f, none)).1) A outer s H E) (defBody st) t ∧ ∀ ds r, g ds r → RunS ⟨K, T, H, []⟩ E t (start N ds) (poR r)) : FnOk P w K mg base (L2.CX P w) (k + 1) (He.ga K f) fd ps (spD0 K T g) := by
  obtain ⟨oc, od, dV, kV, doc, pm, an, cdv, ct, osl, e, lk, hc⟩ := fnd_of F
  obtain ⟨c, rfl⟩ := He.codeIn_ref hc
  have ec : (He.cT K (f, none)).1 = c := He.codeOf_eq (p := (f, none)) lk rfl
  subst ec
  subst e
  refine fn_of lk hc S (fun vs H Q E h => ?_) (fun A outer s H vs Q E hr h => ?_)
  · obtain ⟨ds, r, _, hi, hg, _⟩ := h
    rw [isA_len hi]
    exact len ds r hg
  · obtain ⟨t, ht, run⟩ := hbody A outer s H E hr
    exact ⟨t, ht, fin0 h run⟩
end Py
end

section
set_option Elab.async false
set_option linter.all false
set_option maxRecDepth 100000
set_option maxHeartbeats 4000000
set_option autoImplicit false
namespace Py
open PySem PySem.Spec PyProof.Rows L2
/-! ### new lists, known as such -/
section
variable {C : Ct} {A A1 A2 : AS} {te tl : TE} {tt : TT} {g : TG} {ws : List Nat} {xs ys : List Dt}
theorem is_lstN {K : Frg} {H : Hp} {v : V} (h : Is K H (.lstN xs) v) : Is K H (.lst xs) v := by
  rw [Is] at h
  obtain ⟨a, vs, h1, h2, h3⟩ := h
  rw [Is]
  exact ⟨a, vs, h1, .inl h2, h3⟩
theorem e_ofN (h : EvS C te A (.lstN xs) A1) : EvS C te A (.lst xs) A1 := fun os σ H k Q q => h os σ H k Q fun os1 v H1 k1 g1 i1 => q os1 v H1 k1 g1 (is_lstN i1)
theorem e_lstN {tl : TA} {ds : List Dt} (h : EvA C tl A ds A1) (hl : ds.length ≤ 100000) : EvS C (tLst tl) A (.lstN ds) A1 := fun os σ H k Q q =>
  h os σ H k _ fun os1 vs H1 k1 e1 i1 => ⟨by rw [isA_len i1]; exact Nat.le_trans hl (by decide), fun p hp => q os1 _ _ (k1.monoN hp) (e1.trans (k1.gr (Ex.new hp))) (by
    rw [Is]
    exact ⟨p, vs, rfl, .inl (k1.fresh hp), IsA.mono (hd_mono (Ex.new hp)) _ _ i1⟩)⟩
theorem lc_endN {p : Addr} {σ : Sg} {os1 os2 : List (Option Addr)} {H1 H2 : Hp} {ys : List Dt} {acc : List V} {Q : VK} (k1 : Ok C os1 A σ H1) (hp : H1 p = none) (k2 : Ok (C.hide p) os2 A2 σ H2) (g : GrP p C.O os1 (upd H1 p (.lst [])) os2 H2) (hl : H2 p = some (.lst acc)) (ha : IsA C.K (Rh (p :: C.O) os2 H2) ys acc)
    (q : ∀ os' v H', Ok C os' A2 σ H' → Gr C.O os1 H1 os' H' → Is C.K (Rh C.O os' H') (.lstN ys) v → Q v H') : Q (.ref p) H2 := by
  refine q os2 _ H2 k2.unhide ⟨?_, fun a h => ?_, g.p⟩ ?_
  · have e := g.e
    rw [Rh_hide hp] at e
    exact e.trans Rh_unhide
  · rw [g.o a h, upd_ne fun z => fresh_O k1 hp (by rw [← z]; exact h)]
  · rw [Is]
    refine ⟨p, acc, rfl, .inl ?_, IsA.mono Rh_unhide _ _ ha⟩
    show hd _ H2 p = _
    rw [hd_of fun z => ?_]
    · exact hl
    · rcases mem_hid.mp z with z | z
      · exact fresh_O k1 hp z
      · exact k2.dj p (List.mem_cons_self ..) z
theorem e_lcRN {lo : Int} {n : Nat} {wi : TI} (hw : ∀ os σ H, Ok C os A σ H → ∀ R : It → Hp → Prop, (∀ os' H', Ok C os' A1 σ H' → Gr C.O os H os' H' → R (Itr lo n) H') → wi σ H R) (B : Nat → AS) (Y : Nat → List Dt) (h0 : A1 = B 0) (hY : Y 0 = [])
    (hs : ∀ i, i < n → ∀ O, LcT ⟨C.K, C.T, C.H0, O⟩ g tt te ws (di (lo + i)) (B i) (Y i) (B (i + 1)) (Y (i + 1))) (hn : n < 100000) : EvS C (tLc wi g tt te ws) A (.lstN (Y n)) (B n) := fun os σ H k Q q =>
  hw os σ H k _ fun os1 H1 k1 g1 p hp => by
    have hl : ∀ i, i ≤ n → (Y i).length ≤ i := by
      intro i
      induction i with
      | zero => intro _; rw [hY]; exact Nat.le_refl _
      | succ i ih =>
        intro hi
        obtain ⟨_, _, _, _, _, h⟩ := hs i hi []
        rcases h with ⟨_, _, _, _, e, _⟩ | ⟨_, e, _⟩ <;> rw [e] <;> have := ih (by omega) <;> (try simp only [List.length_append, List.length_singleton]) <;> omega
    subst h0
    refine lc_range (lo := lo) (n := n) (fun i H' => ∃ os' acc, Ok (C.hide p) os' (B i) σ H' ∧ GrP p C.O os1 (upd H1 p (.lst [])) os' H' ∧ H' p = some (.lst acc) ∧ IsA C.K (Rh (p :: C.O) os' H') (Y i) acc) ⟨os1, [], k1.hide hp nt_l, ⟨Ex.refl _, fun _ _ => rfl, fun _ _ h => h⟩, upd_same, by rw [hY]; exact isA_nil⟩ ?_ ?_
    · rintro i H' hi ⟨os', acc, k', g', hp', ha⟩
      exact lc_turn (hs i hi _) k' hp' ha is_v (fresh_0 k1 hp) (fresh_O k1 hp) (by have := hl i (by omega); omega) _ fun os2 acc2 H2 k2 g2 hp2 ha2 => ⟨os2, acc2, k2, g'.trans g2, hp2, ha2⟩
    · rintro H' ⟨os', acc, k', g', hp', ha⟩
      exact lc_endN k1 hp k' g' hp' ha fun os2 v H2 k2 g2 i2 => q os2 v H2 k2 (g1.trans g2) i2
end
/-- xs + ys, new lists -/
def rCatR : R2 := fun x y H Q => ∃ l b xs zs, x = .ref l ∧ y = .ref b ∧ Rd H l (.lst xs) ∧ Rd H b (.lst zs) ∧ xs.length + zs.length ≤ sizeLine ∧ ∀ p, H p = none → Q (.ref p) (upd H p (.lst (xs ++ zs)))
theorem op_catR {X : Cx} : OpR X (binaryOp .Add) rCatR := by
  rintro pins s σ H x y v u Q I rx ry ⟨l, b, xs, zs, rfl, rfl, hx, hy, hz, q⟩
  cases rx
  cases ry
  obtain ⟨z1, its, n, r, e⟩ := hx.ok I.hok
  obtain ⟨z2, its2, n2, r2, e2⟩ := hy.ok I.hok
  have l1 := r.length
  have l2 := r2.length
  apply PySem.P.add_list e e2 _ (by rw [List.size_toArray, List.size_toArray]; omega)
  rw [show its.toArray ++ its2.toArray = (its ++ its2).toArray by simp]
  have sz : (xs ++ zs).length ≤ sizeLine := by rw [List.length_append]; omega
  exact ⟨.ref _, _, I.lnew (t' := s.toks) (r.append r2) sz, rfl, q _ I.fresh⟩
theorem o_catR {C : Ct} {xs ys : List Dt} (hl : xs.length + ys.length ≤ 100000) : OpS C rCatR (.lstN xs) (.lstN ys) (.lstN (xs ++ ys)) := fun os A σ H vx vy k i1 i2 Q q => by
  rw [Is] at i1 i2
  obtain ⟨a, vs, rfl, h2, h3⟩ := i1
  obtain ⟨b, us, rfl, h4, h5⟩ := i2
  refine ⟨a, b, vs, us, rfl, rfl, hd_ex.rd nt_l h2, hd_ex.rd nt_l h4, by rw [isA_len h3, isA_len h5]; exact Nat.le_trans hl (by decide), fun p hp => q _ _ (Ex.new hp) (tabs_new k.tb hp) ?_⟩
  rw [Is]
  exact ⟨p, vs ++ us, rfl, .inl (k.fresh hp), isA_app (IsA.mono (hd_mono (Ex.new hp)) _ _ h3) (IsA.mono (hd_mono (Ex.new hp)) _ _ h5)⟩
/-! ### the whole root -/
def rIsqrt : List V → Hp → VK → Prop := fun vs H Q => ∃ n : Nat, vs = [.int (n : Int)] ∧ n < 2 ^ 63 ∧ ∀ w : Nat, w * w ≤ n → n < (w + 1) * (w + 1) → Q (.int (w : Int)) H
theorem cr_isqrt {X : Cx} : CallR X (.builtin "math.isqrt") rIsqrt := by
  rintro pins s σ H vs us Q I r ⟨n, rfl, hn, q⟩
  obtain ⟨u, rfl, hu⟩ := vals1 r
  obtain ⟨t, rfl⟩ := hu
  have sp := Float64.isqrt_spec n
  exact PySem.W.mg_isqrt (by omega) (by omega) ⟨.int _, H, I.tok _, ⟨_, rfl⟩, q _ sp.1 sp.2⟩
theorem e_isqrt {C : Ct} {A A1 : AS} {ta : TE} {n w : Nat} (h : EvS C ta A (di (n : Int)) A1) (hn : n < 2 ^ 63) (h1 : w * w ≤ n) (h2 : n < (w + 1) * (w + 1)) : EvS C (tCB rIsqrt (tCons ta tNil)) A (di (w : Int)) A1 := fun os σ H k Q q =>
  h os σ H k _ fun os1 v H1 k1 e1 i1 => by
    rw [Is.v_iff.mp i1]
    refine ⟨n, rfl, hn, fun w' a b => ?_⟩
    have : w' = w := by
      rcases Nat.lt_trichotomy w' w with z | z | z
      · have := Nat.mul_self_le_mul_self (show w' + 1 ≤ w by omega)
        omega
      · exact z
      · have := Nat.mul_self_le_mul_self (show w + 1 ≤ w' by omega)
        omega
    subst this
    exact q os1 _ H1 k1 e1 is_v
/-! ### in -/
theorem inV_ints (n : Int) : ∀ ns : List Int, inV (.int n) (ns.map V.int) = decide (n ∈ ns)
  | [] => rfl
  | m :: r => by
    have e : inV (.int n) ((m :: r).map V.int) = (eqV (.int m) (.int n) || inV (.int n) (r.map V.int)) := rfl
    rw [e, inV_ints n r]
    have e2 : eqV (.int m) (.int n) = decide (n = m) := by
      show (m == n) = _
      rw [Bool.beq_eq_decide_eq]
      exact decide_eq_decide.mpr ⟨Eq.symm, Eq.symm⟩
    rw [e2]
    simp
theorem ints_is {K : Frg} {H : Hp} : ∀ {ns : List Int} {vs : List V}, IsA K H (ns.map di) vs → vs = ns.map V.int
  | [], vs, h => by rw [List.map_nil, IsA] at h; exact h
  | n :: r, vs, h => by
    rw [List.map_cons, IsA] at h
    obtain ⟨v, w, rfl, h1, h2⟩ := h
    rw [Is.v_iff.mp h1, ints_is h2]
    rfl
theorem o_inL {C : Ct} {n : Int} {ns : List Int} : OpS C (rIn C.K false) (di n) (.lst (ns.map di)) (db (decide (n ∈ ns))) := fun os A σ H vx vy k i1 i2 Q q => by
  rw [Is] at i2
  obtain ⟨a, vs, rfl, h2, h3⟩ := i2
  rw [Is.v_iff.mp i1]
  have e := ints_is h3
  subst e
  refine ⟨a, _, rfl, .inl (hd_ex.l h2), rfl, ?_, ?_⟩
  · rw [List.all_map]; exact List.all_eq_true.mpr fun _ _ => rfl
  · rw [if_neg (by decide), inV_ints]
    exact q _ H (Ex.refl _) k.tb is_v
theorem e_notInO {C : Ct} {A : AS} {te : TE} {i n : Nat} {x : Dt} {xs : List Dt} {p : PyData} {ps : List PyData} {m m' : Nat} (he : EvS C te A x A) (hp : Nice m x p) (h1 : A.sl[i]? = some (.own n)) (h2 : A.st[n]? = some (.lst xs)) (hq : Nice m' (.lst xs) (.list ps)) (hm : m ≤ 64) (hm' : m' ≤ 64) :
    EvS C (tOp (rNotInD C.K) te (tVar i)) A (db (!ps.any fun z => PyData.eqv z p)) A := fun os σ H k Q q =>
  he os σ H k _ fun os1 v H1 k1 e1 i1 => by
    obtain ⟨o, f1, a, f2, f3⟩ := k1.slot h1
    subst f2
    exact ⟨_, f1, p, ps, Dp.mono hd_ex (Is.dp x v p i1 hp.all.1), own_dp k1 f3 h2 hq, hp.shaped hm, hq.shaped hm', q os1 _ H1 k1 e1 is_v⟩
end Py
end

section
set_option Elab.async false
set_option linter.all false
set_option maxRecDepth 100000
set_option maxHeartbeats 4000000
set_option autoImplicit false
namespace Py
open PySem PySem.Spec PyProof.Rows L2
/-! ### f(e, ..), f a variable that holds a def -/
structure FvOk (P : Program) (w : World) (K : Frg) (mg : Str → Option Value) (base : Heap) (k : Nat) (a : Addr) (sp : Sp) : Prop where
  ex : ∃ (fd : FuncData) (ps : List Str), FnOk P w K mg base (L2.CX P w) k a fd ps sp ∧ Binds K fd ps [] ∧ PySem.W.keepIn K (.ref a) = true
theorem Gd.fv {P : Program} {w : World} {K : Frg} {mg : Str → Option Value} {base : Heap} {f : Str} {ps : List Str} {k j : Nat} {sp : Sp} {a : Addr} (G : Gd P w K mg base f ps k sp) (hm : mg f = some (.ref a)) (hk : k ≤ j) : FvOk P w K mg base j a sp := by
  obtain ⟨a', fd, F, hb, hkp, hm'⟩ := G.ex
  rw [hm] at hm'
  cases hm'
  exact ⟨fd, ps, F.mono hk, hb, hkp⟩
def tCallF (i : Nat) (Fs : List (Addr × Sp)) (E : XK) (ta : TA) : TE := fun σ H Q => ∃ a sp, (a, sp) ∈ Fs ∧ σ[i]? = some (some (.ref a)) ∧ ta σ H fun vs H1 => sp vs H1 Q E
theorem pe_callF {X : Cx} {k i : Nat} {Fs : List (Addr × Sp)} {E : XK} {y : Str} {p pos : Pos} {e : Expr} {es : List Expr} {t : TA} (ok : ∀ z ∈ Fs, FvOk X.prog X.w X.K X.mg X.base k z.1 z.2) (hr : Room k X.A) (hx : Passes (L2.CX X.prog X.w) X E) (hv : PE X (.Name y p) (tVar i)) (ha : PA X (e :: es) t)
    (he : starEach (e :: es) X.env = (false, eval e X.env) :: starEach es X.env := by rfl) (hpl : (backTo pos (starEach es X.env)).any (·.1) = false := by rfl) : PE X (.Call (.Name y p) (e :: es) [] pos) (tCallF i Fs E t) := by
  constructor
  intro pins s σ H Q I h
  obtain ⟨a, sp, hz, h1, h2⟩ := h
  obtain ⟨fd, ps, F, hb, hk⟩ := (ok _ hz).ex
  refine wpAny_Call_Name_kw (thn (hv.run pins s σ H (fun v K1 => v = .ref a ∧ K1 = H) I ⟨.ref a, h1, rfl, rfl⟩) fun u s1 got => ?_)
  obtain ⟨v, K1, J, ru, ev, rfl⟩ := got
  subst ev
  obtain rfl : u = .ref a := ru
  refine PySem.W.callWith_K (h₀ := X.base) I.ok.mod.kin hk (thn (ha.run pos pins s1 σ K1 _ J h2) fun us s2 ⟨vs, H2, J2, r, q⟩ => ⟨J2.kIn, ?_⟩) he hpl
  exact run_fn F hr hb .nil hx J2 r (by rw [List.append_nil]; exact q)
section
variable {C : Ct} {A A1 : AS} {d : Dt} {i : Nat} {Fs : List (Addr × Sp)} {ta : TA} {ds : List Dt} {a : Addr} {g : List Dt → Rs → Prop}
theorem e_callF {E' : XK} (hz : (a, spD C.K C.T g) ∈ Fs) (h : A.sl[i]? = some (.d (.v (.ref a)))) (ha : EvA C ta A ds A1) (hg : g ds (.ok d)) : EvS C (tCallF i Fs E' ta) A d A1 := fun os σ H k Q q => by
  obtain ⟨o, e1, v, e2, e3⟩ := k.slot h
  subst e2
  rw [Is.v_iff.mp e3] at e1
  refine ⟨a, _, hz, e1, ha os σ H k _ fun os1 vs H1 k1 e1 i1 => ⟨hid C.O os1, ds, .ok d, fun a h => k1.hidden h, k1.tb, i1, hg, fun v H' e t i => q os1 v H' (k1.mono e t) (e1.trans (k1.gr e)) i⟩⟩
theorem x_callF {E : XK} {c : Addr} (hz : (a, spD C.K C.T g) ∈ Fs) (h : A.sl[i]? = some (.d (.v (.ref a)))) (ha : EvA C ta A ds A1) (hg : g ds (.err c)) : EvX C E (tCallF i Fs E ta) A c A1 := fun os σ H k hE Q => by
  obtain ⟨o, e1, v, e2, e3⟩ := k.slot h
  subst e2
  rw [Is.v_iff.mp e3] at e1
  refine ⟨a, _, hz, e1, ha os σ H k _ fun os1 vs H1 k1 e1 i1 => ⟨hid C.O os1, ds, .err c, fun a h => k1.hidden h, k1.tb, i1, hg, fun H' e t => hE os1 H' (k1.mono e t) (e1.trans (k1.gr e))⟩⟩
end
end Py
end

section
set_option Elab.async false
set_option linter.all false
set_option maxRecDepth 100000
set_option maxHeartbeats 4000000
set_option autoImplicit false
namespace Py
open PySem PySem.Spec PyProof.Rows L2
/-! ### whole numbers from 0 on -/
theorem c_div (a b : Nat) : ((a : Int)).fdiv (b : Int) = ((a / b : Nat) : Int) := by
  rw [Int.fdiv_eq_ediv_of_nonneg _ (Int.natCast_nonneg b), Int.natCast_ediv]
theorem c_mod (a b : Nat) : ((a : Int)).fmod (b : Int) = ((a % b : Nat) : Int) := by
  rw [Int.fmod_eq_emod_of_nonneg _ (Int.natCast_nonneg b), Int.natCast_emod]
section
variable {C : Ct} {A A1 A2 : AS} {ta tb : TE} {a b : Nat} {i j : Int}
/-- a number that is small enough to be reckoned with -/
def Fits (a : Nat) : Prop := a < 2 ^ 4000
theorem Fits.m (ha : Fits a) (hb : Fits b) : PMul (a : Int) (b : Int) := mulX 4000 4000 ha hb
theorem Fits.d (hb : Fits b) (h : 0 < b) : PDiv i (b : Int) := divX 4000 hb (by omega)
theorem fits_of {n : Nat} (k : Nat) (h : n < 2 ^ k) (hk : k ≤ 4000) : Fits n := Nat.lt_of_lt_of_le h (Nat.pow_le_pow_right (by decide) hk)
theorem fits20 {n : Nat} (h : n < 2 ^ 20) : Fits n := fits_of 20 h (by decide)
theorem e_addN (h : EvS C ta A (di (a : Int)) A1) (h' : EvS C tb A1 (di (b : Int)) A2) : EvS C (tOp (rAddA C.K) ta tb) A (di ((a + b : Nat) : Int)) A2 := e_is (e_bin h h' o_add) (by rw [Int.natCast_add])
theorem e_subN (h : EvS C ta A (di (a : Int)) A1) (h' : EvS C tb A1 (di (b : Int)) A2) (hl : b ≤ a) : EvS C (tOp (rI0 fun i j => .int (i - j)) ta tb) A (di ((a - b : Nat) : Int)) A2 := e_is (e_bin h h' o_I0) (by rw [Int.natCast_sub hl])
theorem e_mulN (h : EvS C ta A (di (a : Int)) A1) (h' : EvS C tb A1 (di (b : Int)) A2) (ha : Fits a) (hb : Fits b) : EvS C (tOp (rMulA C.K) ta tb) A (di ((a * b : Nat) : Int)) A2 := e_is (e_bin h h' (o_mul (ha.m hb))) (by rw [Int.natCast_mul])
theorem e_divN (h : EvS C ta A (di (a : Int)) A1) (h' : EvS C tb A1 (di (b : Int)) A2) (hb : Fits b) (h0 : 0 < b) : EvS C (tOp (rI PDiv fun i j => .int (i.fdiv j)) ta tb) A (di ((a / b : Nat) : Int)) A2 := e_is (e_bin h h' (o_I (hb.d h0))) (by rw [c_div])
theorem e_modN (h : EvS C ta A (di (a : Int)) A1) (h' : EvS C tb A1 (di (b : Int)) A2) (h0 : 0 < b) : EvS C (tOp (rI (fun _ j => j ≠ 0) fun i j => .int (i.fmod j)) ta tb) A (di ((a % b : Nat) : Int)) A2 := e_is (e_bin h h' (o_I (by omega))) (by rw [c_mod])
theorem e_cN (n : Nat) : EvS C (tC (.int (n : Int))) A (di (n : Int)) A := e_c
theorem t_ltN (h : EvS C ta A (di (a : Int)) A1) (h' : EvS C tb A1 (di (b : Int)) A2) : EvT C (tTest (tOp (rI0 fun i j => .bl (decide (i < j))) ta tb)) A (decide (a < b)) A2 := t_is (t_test (e_bin h h' o_I0)) (by rw [decide_eq_decide]; omega)
theorem t_leN (h : EvS C ta A (di (a : Int)) A1) (h' : EvS C tb A1 (di (b : Int)) A2) : EvT C (tTest (tOp (rI0 fun i j => .bl (decide (i ≤ j))) ta tb)) A (decide (a ≤ b)) A2 := t_is (t_test (e_bin h h' o_I0)) (by rw [decide_eq_decide]; omega)
theorem t_eqN (h : EvS C ta A (di (a : Int)) A1) (h' : EvS C tb A1 (di (b : Int)) A2) : EvT C (tTest (tOp (rEqA C.K) ta tb)) A (decide (a = b)) A2 := t_is (t_test (e_bin h h' o_eqI)) (by rw [decide_eq_decide]; omega)
theorem t_neN (h : EvS C ta A (di (a : Int)) A1) (h' : EvS C tb A1 (di (b : Int)) A2) : EvT C (tTest (tOp (rNeA C.K) ta tb)) A (!decide (a = b)) A2 := t_is (t_test (e_bin h h' o_neI)) (congrArg (!·) (by rw [decide_eq_decide]; omega))
end
theorem x_CBa {C : Ct} {E : XK} {A A1 : AS} {r : List V → Hp → VK → Prop} {tl : TA} {c : Addr} (h : EvXA C E tl A c A1) : EvX C E (tCB r tl) A c A1 := fun os σ H k hE Q => h os σ H k hE _
/-- xs.append(e), the list told anew -/
theorem e_appendE {C : Ct} {A A1 : AS} {te : TE} {d : Dt} {i n : Nat} {xs xs0 ys : List Dt} (h1 : A.sl[i]? = some (.own n)) (h0 : A.st[n]? = some (.lst xs0)) (he : EvS C te A d A1) (h1' : A1.sl[i]? = some (.own n)) (h2 : A1.st[n]? = some (.lst xs)) (hl : xs.length < 100000) (e : ys = xs ++ [d]) : EvS C (tBM C.K "list" rAppend (tVar i) (tCons te tNil)) A dn (A1.upO n ys) := by
  rw [e]
  exact e_append h1 h0 he h1' h2 hl
/-- the expression leaves the state as it is -/
theorem r_asgS {C : Ct} {E : XK} {te : TE} {A : AS} {d : Dt} {P : Po} {i : Nat} (he : EvS C te A d A) (h : P.nx (A.put i d)) : RunS C E (tAsg te (gName i)) A P := r_asg he h
end Py
end

section
set_option Elab.async false
set_option linter.all false
set_option maxRecDepth 100000
set_option maxHeartbeats 4000000
set_option autoImplicit false
namespace Py
open PySem PySem.Spec PyProof.Rows L2
/-! ### lists, tuples, ranges as iterators over data -/
section
variable {C : Ct} {A A1 A2 : AS} {te : TE} {tl : TA} {xs : List Dt}
theorem getD_of {xs : List Dt} {i : Nat} {d x0 : Dt} (h : xs[i]? = some d) : xs.getD i x0 = d := by rw [List.getD_eq_getElem?_getD, h]; rfl
theorem yl_list {R0 : Hp} {K : Frg} {a : Addr} {vs : List V} (h1 : SqL K R0 a vs) (h2 : IsA K R0 xs vs) (x0 : Dt) : Yl K R0 (Itl K a) xs.length fun i => xs.getD i x0 where
  go i H hi e := ⟨vs, vs[i]'(by rw [isA_len h2]; exact hi), e.l h1, List.getElem?_eq_getElem _⟩
  stop H e := ⟨vs, e.l h1, by rw [isA_len h2]; exact Nat.le_refl _⟩
  yl i H v H' O hi hy e hO := by
    obtain ⟨rfl, hx⟩ := hy
    obtain ⟨d, hd', hi'⟩ := isA_get' h2 (hx vs ((e.trans hd_ex).l h1))
    rw [getD_of hd']
    exact ⟨Ex.refl _, fun _ t => t, Is.mono e _ _ hi'⟩
theorem yl_tup {R0 : Hp} {K : Frg} {a : Addr} {vs : List V} (h1 : SqT K R0 a vs) (h2 : IsA K R0 xs vs) (x0 : Dt) : Yl K R0 (Itt K a) xs.length fun i => xs.getD i x0 where
  go i H hi e := ⟨vs, vs[i]'(by rw [isA_len h2]; exact hi), e.t h1, List.getElem?_eq_getElem _⟩
  stop H e := ⟨vs, e.t h1, by rw [isA_len h2]; exact Nat.le_refl _⟩
  yl i H v H' O hi hy e hO := by
    obtain ⟨rfl, hx⟩ := hy
    obtain ⟨d, hd', hi'⟩ := isA_get' h2 (hx vs ((e.trans hd_ex).t h1))
    rw [getD_of hd']
    exact ⟨Ex.refl _, fun _ t => t, Is.mono e _ _ hi'⟩
theorem yl_rng {R0 : Hp} {K : Frg} {lo : Int} {n : Nat} : Yl K R0 (Itr lo n) n fun i => di (lo + i) where
  go i H hi e := hi
  stop H e := Nat.le_refl _
  yl i H v H' O hi hy e hO := by
    obtain ⟨rfl, rfl⟩ := hy
    exact ⟨Ex.refl _, fun _ t => t, is_v⟩
theorem w_list (h : EvS C te A (.lst xs) A1) (x0 : Dt) : WiS C (iList C.K te) A xs.length (fun i => xs.getD i x0) A1 := fun os σ H k R q =>
  h os σ H k _ fun os1 v H1 k1 e1 i1 => by
    rw [Is] at i1
    obtain ⟨a, vs, rfl, h1, h2⟩ := i1
    exact ⟨a, rfl, ⟨vs, hd_ex.l h1⟩, q os1 H1 _ k1 e1 (yl_list h1 h2 x0)⟩
theorem w_tup (h : EvS C te A (.tup xs) A1) (x0 : Dt) : WiS C (iTup C.K te) A xs.length (fun i => xs.getD i x0) A1 := fun os σ H k R q =>
  h os σ H k _ fun os1 v H1 k1 e1 i1 => by
    rw [Is] at i1
    obtain ⟨a, vs, rfl, h1, h2⟩ := i1
    exact ⟨a, rfl, ⟨vs, hd_ex.t h1⟩, q os1 H1 _ k1 e1 (yl_tup h1 h2 x0)⟩
theorem w_rngY {wi : TI} {lo : Int} {n : Nat} (hw : ∀ os σ H, Ok C os A σ H → ∀ R : It → Hp → Prop, (∀ os' H', Ok C os' A1 σ H' → Gr C.O os H os' H' → R (Itr lo n) H') → wi σ H R) : WiS C wi A n (fun i => di (lo + i)) A1 := fun os σ H k R q =>
  hw os σ H k R fun os1 H1 k1 g1 => q os1 H1 _ k1 g1 yl_rng
end
/-! ### {k: v for ..}: a dict as data -/
abbrev KD := List (Key × Dt)
def putD (kvs : KD) (k : Key) (d : Dt) : KD := if kvs.any (fun kv => decide (kv.1 = k)) then kvs.map (fun kv => if kv.1 = k then (kv.1, d) else kv) else kvs ++ [(k, d)]
def KvA (K : Frg) (R : Hp) (kvs : KD) (acc : List (Key × V)) : Prop := acc.map (·.1) = kvs.map (·.1) ∧ IsA K R (kvs.map (·.2)) (acc.map (·.2))
abbrev dD (kvs : KD) : Dt := .dct (kvs.map (·.1)) (kvs.map (·.2))
theorem zip_un {α β : Type} : ∀ l : List (α × β), (l.map (·.1)).zip (l.map (·.2)) = l
  | [] => rfl
  | (a, b) :: r => by rw [List.map_cons, List.map_cons, List.zip_cons_cons, zip_un r]
section
variable {K : Frg} {R : Hp} {kvs : KD} {acc : List (Key × V)} {k : Key} {d : Dt} {v : V}
theorem KvA.nil : KvA K R [] [] := ⟨rfl, isA_nil⟩
theorem KvA.cons {k' : Key} {d' : Dt} {v' : V} (h : Is K R d' v') (r : KvA K R kvs acc) : KvA K R ((k', d') :: kvs) ((k', v') :: acc) := ⟨by rw [List.map_cons, List.map_cons, r.1], by rw [List.map_cons, List.map_cons]; exact isA_cons h r.2⟩
theorem KvA.inv : ∀ {kvs : KD} {acc : List (Key × V)}, KvA K R kvs acc → (kvs = [] ∧ acc = []) ∨ ∃ k d v r s, kvs = (k, d) :: r ∧ acc = (k, v) :: s ∧ Is K R d v ∧ KvA K R r s
  | [], acc, h => .inl ⟨rfl, by simpa using h.1⟩
  | (k, d) :: r, [], h => by have := h.1; simp at this
  | (k, d) :: r, (k', v) :: s, h => by
    obtain ⟨h1, h2⟩ := h
    rw [List.map_cons, List.map_cons, IsA] at h2
    obtain ⟨u, w, e, h3, h4⟩ := h2
    cases e
    rw [List.map_cons, List.map_cons] at h1
    have h1 := List.cons.inj h1
    obtain rfl : k' = k := h1.1
    exact .inr ⟨k', d, v, r, s, rfl, rfl, h3, h1.2, h4⟩
theorem KvA.any : ∀ {kvs : KD} {acc : List (Key × V)}, KvA K R kvs acc → (acc.any fun kv => decide (kv.1 = k)) = kvs.any fun kv => decide (kv.1 = k)
  | kvs, acc, h => by
    have e : ∀ (l : List Key), (l.any fun x => decide (x = k)) = l.any fun x => decide (x = k) := fun _ => rfl
    rw [show (acc.any fun kv => decide (kv.1 = k)) = (acc.map (·.1)).any (fun x => decide (x = k)) by rw [List.any_map]; rfl, h.1, List.any_map]
    rfl
theorem KvA.repl (hv : Is K R d v) : ∀ {kvs : KD} {acc : List (Key × V)}, KvA K R kvs acc → KvA K R (kvs.map fun kv => if kv.1 = k then (kv.1, d) else kv) (acc.map fun kv => if kv.1 = k then (kv.1, v) else kv)
  | [], acc, h => by
    rcases h.inv with ⟨_, rfl⟩ | ⟨_, _, _, _, _, e, _⟩
    · exact .nil
    · cases e
  | (k', d') :: r, acc, h => by
    rcases h.inv with ⟨e, _⟩ | ⟨k', d', u, r, s, e, rfl, h1, h2⟩
    · cases e
    · cases e
      rw [List.map_cons, List.map_cons]
      by_cases q : k' = k
      · rw [if_pos q, if_pos q]; exact (h2.repl hv).cons hv
      · rw [if_neg q, if_neg q]; exact (h2.repl hv).cons h1
theorem KvA.app : ∀ {kvs : KD} {acc : List (Key × V)}, KvA K R kvs acc → Is K R d v → KvA K R (kvs ++ [(k, d)]) (acc ++ [(k, v)])
  | kvs, acc, h, hv => ⟨by rw [List.map_append, List.map_append, h.1]; rfl, by rw [List.map_append, List.map_append]; exact isA_app h.2 (isA_cons hv isA_nil)⟩
theorem KvA.put (h : KvA K R kvs acc) (hv : Is K R d v) : KvA K R (putD kvs k d) (putK acc k v) := by
  unfold putD putK
  rw [h.any]
  split
  · exact h.repl hv
  · exact h.app hv
theorem KvA.mono {R' : Hp} (e : Ex R R') (h : KvA K R kvs acc) : KvA K R' kvs acc := ⟨h.1, IsA.mono e _ _ h.2⟩
theorem putD_len (kvs : KD) (k : Key) (d : Dt) : (putD kvs k d).length ≤ kvs.length + 1 := by
  unfold putD
  split
  · rw [List.length_map]; omega
  · simp
end
section
variable {C : Ct} {A A1 A2 A3 : AS} {te tl tk tv : TE} {tt : TT} {g : TG} {ws : List Nat}
def DcT (C : Ct) (g : TG) (tt : TT) (tk tv : TE) (ws : List Nat) (x : Dt) (A : AS) (ys : KD) (A2 : AS) (ys2 : KD) : Prop :=
  ∃ A1 b A', TgS C g x (A.wipe ws) A1 ws ∧ EvT C tt A1 b A' ∧ ((b = true ∧ ∃ k y A3 A4, EvS C tk A' (.v (kV k)) A3 ∧ EvS C tv A3 y A4 ∧ ys2 = putD ys k y ∧ A4.wipe ws = A2) ∨ (b = false ∧ ys2 = ys ∧ A'.wipe ws = A2))
theorem dc_turn {p : Addr} {x : Dt} {v : V} {σ : Sg} {os : List (Option Addr)} {H : Hp} {ys ys2 : KD} {acc : List (Key × V)} (t : DcT (C.hide p) g tt tk tv ws x A ys A2 ys2) (k : Ok (C.hide p) os A σ H) (hp : H p = some (.dK acc)) (ha : KvA C.K (Rh (p :: C.O) os H) ys acc) (hx : Is C.K (Rh (p :: C.O) os H) x v)
    (h0 : ∀ o, C.H0 p = some o → ¬ NoT o) (hO : p ∉ C.O) (hl : ys.length < 100000) (R : Hp → Prop) (hR : ∀ os' acc' H', Ok (C.hide p) os' A2 σ H' → GrP p C.O os H os' H' → H' p = some (.dK acc') → KvA C.K (Rh (p :: C.O) os' H') ys2 acc' → R H') :
    g v (wipe σ ws) H fun σ2 H2 => wipe σ2 ws = wipe σ ws ∧ tt σ2 H2 fun b H3 => if b = true then tk σ2 H3 fun y H4 => tv σ2 H4 fun z H5 => ∃ kvs k, y = kV k ∧ H5 p = some (HO.dK kvs) ∧ kvs.length < sizeLine ∧ R (upd H5 p (HO.dK (putK kvs k z))) else R H3 := by
  obtain ⟨A1, b, A', tg, ht, hb⟩ := t
  refine tg os _ H v _ k.wiped hx fun σ2 k2 e2 => ⟨e2.trans wipe_wipe, ht os σ2 H k2 _ fun os3 H3 k3 g3 => ?_⟩
  have e2' : wipe σ2 ws = wipe σ ws := e2.trans wipe_wipe
  have hp3 : H3 p = some (.dK acc) := (g3.o p (List.mem_cons_self ..)).trans hp
  rcases hb with ⟨rfl, k0, y, A3, A4, hk, hv, rfl, rfl⟩ | ⟨rfl, rfl, rfl⟩
  · rw [if_pos rfl]
    refine hk os3 σ2 H3 k3 _ fun os4 w H4 k4 g4 i4 => hv os4 σ2 H4 k4 _ fun os5 z H5 k5 g5 i5 => ?_
    rw [Is.v_iff.mp i4]
    have g := (g3.trans g4).trans g5
    have hp5 : H5 p = some (.dK acc) := (g.o p (List.mem_cons_self ..)).trans hp
    have el : acc.length = ys.length := by
      have := congrArg List.length ha.1
      simpa using this
    refine ⟨acc, k0, rfl, hp5, by rw [el]; exact Nat.lt_of_lt_of_le hl (by decide), hR os5 _ _ (Ok.updK (C := C.hide p) (k5.back e2') (List.mem_cons_self ..) h0 hp5) ⟨?_, fun a h => ?_, g.p⟩ upd_same ?_⟩
    · rw [Rh_updO (List.mem_cons_self ..)]; exact g.e
    · rw [upd_ne fun z => hO (by rw [← z]; exact h)]
      exact g.o a (List.mem_cons_of_mem _ h)
    · rw [Rh_updO (List.mem_cons_self ..)]
      exact (ha.mono g.e).put i5
  · rw [if_neg (by decide)]
    exact hR os3 acc H3 (k3.back e2') ⟨g3.e, fun a h => g3.o a (List.mem_cons_of_mem _ h), g3.p⟩ hp3 (ha.mono g3.e)
theorem dc_end {p : Addr} {σ : Sg} {os1 os2 : List (Option Addr)} {H1 H2 : Hp} {ys : KD} {acc : List (Key × V)} {Q : VK} (k1 : Ok C os1 A σ H1) (hp : H1 p = none) (k2 : Ok (C.hide p) os2 A2 σ H2) (g : GrP p C.O os1 (upd H1 p (.dK [])) os2 H2) (hl : H2 p = some (.dK acc)) (ha : KvA C.K (Rh (p :: C.O) os2 H2) ys acc)
    (q : ∀ os' v H', Ok C os' A2 σ H' → Gr C.O os1 H1 os' H' → Is C.K (Rh C.O os' H') (dD ys) v → Q v H') : Q (.ref p) H2 := by
  refine q os2 _ H2 k2.unhide ⟨?_, fun a h => ?_, g.p⟩ ?_
  · have e := g.e
    rw [Rh_hide hp] at e
    exact e.trans Rh_unhide
  · rw [g.o a h, upd_ne fun z => fresh_O k1 hp (by rw [← z]; exact h)]
  · rw [Is]
    refine ⟨p, acc.map (·.2), rfl, ?_, IsA.mono Rh_unhide _ _ ha.2⟩
    rw [← ha.1, zip_un]
    show hd _ H2 p = _
    rw [hd_of fun z => ?_]
    · exact hl
    · rcases mem_hid.mp z with z | z
      · exact fresh_O k1 hp z
      · exact k2.dj p (List.mem_cons_self ..) z
theorem e_dcY {wi : TI} {n : Nat} {y : Nat → Dt} (hw : WiS C wi A n y A1) (B : Nat → AS) (Z : Nat → KD) (h0 : A1 = B 0) (hZ : Z 0 = [])
    (hs : ∀ i, i < n → ∀ O, DcT ⟨C.K, C.T, C.H0, O⟩ g tt tk tv ws (y i) (B i) (Z i) (B (i + 1)) (Z (i + 1))) (hn : n < 100000) : EvS C (tDc wi g tt tk tv ws) A (dD (Z n)) (B n) := fun os σ H k Q q =>
  hw os σ H k _ fun os1 H1 J k1 g1 Y p hp => by
    have hl : ∀ i, i ≤ n → (Z i).length ≤ i := by
      intro i
      induction i with
      | zero => intro _; rw [hZ]; exact Nat.le_refl _
      | succ i ih =>
        intro hi
        obtain ⟨_, _, _, _, _, h⟩ := hs i hi []
        rcases h with ⟨_, k0, y0, _, _, _, _, e, _⟩ | ⟨_, e, _⟩
        · rw [e]; have := ih (by omega); have := putD_len (Z i) k0 y0; omega
        · rw [e]; have := ih (by omega); omega
    subst h0
    refine ⟨fun i m H' => m = n - i ∧ i ≤ n ∧ ∃ os' acc, Ok (C.hide p) os' (B i) σ H' ∧ GrP p C.O os1 (upd H1 p (.dK [])) os' H' ∧ H' p = some (.dK acc) ∧ KvA C.K (Rh (p :: C.O) os' H') (Z i) acc, ⟨n, rfl, Nat.zero_le _, os1, [], k1.hide hp nt_k, ⟨Ex.refl _, fun _ _ => rfl, fun _ _ h => h⟩, upd_same, by rw [hZ]; exact .nil⟩, ?_⟩
    rintro i m H' ⟨rfl, hi, os', acc, k', g', hp', ha⟩
    have e' : Ex (Rh C.O os1 H1) (Rh (p :: C.O) os' H') := by
      have e := g'.e
      rw [Rh_hide hp] at e
      exact e
    by_cases hlt : i < n
    · refine .inr ⟨Y.go i H' hlt (e'.trans hd_ex), fun H2 => i + 1 ≤ n ∧ ∃ os' acc, Ok (C.hide p) os' (B (i + 1)) σ H2 ∧ GrP p C.O os1 (upd H1 p (.dK [])) os' H2 ∧ H2 p = some (.dK acc) ∧ KvA C.K (Rh (p :: C.O) os' H2) (Z (i + 1)) acc, fun H2 q => ⟨n - (i + 1), by omega, rfl, q.1, q.2⟩, fun v H2 hy => ?_⟩
      obtain ⟨x1, x2, x3⟩ := Y.yl i H' v H2 (hid (p :: C.O) os') hlt hy e' fun a h => k'.hidden h
      have k2 := k'.mono x1 (x2 _ k'.tb)
      have gp : GrP p C.O os' H' os' H2 := ⟨hd_mono x1, fun a h => by
        obtain ⟨o, q, nt⟩ := k'.ol a (List.mem_cons_of_mem _ h)
        rw [q, x1 _ _ q nt], fun _ _ h => h⟩
      exact dc_turn (hs i hlt _) k2 (x1 _ _ hp' nt_k) (ha.mono (hd_mono x1)) x3 (fresh_0 k1 hp) (fresh_O k1 hp) (by have := hl i (by omega); omega) _ fun os2 acc2 H3 k3 g3 hp3 ha3 => ⟨hlt, os2, acc2, k3, (g'.trans gp).trans g3, hp3, ha3⟩
    · obtain rfl : i = n := by omega
      exact .inl ⟨Y.stop H' (e'.trans hd_ex), dc_end k1 hp k' g' hp' ha fun os2 v H2 k2 g2 i2 => q os2 v H2 k2 (g1.trans g2) i2⟩
/-! ### d[k], k in d, len(d), d as data -/
def getD (kvs : KD) (k : Key) : Option Dt := (kvs.find? fun q => decide (q.1 = k)).map (·.2)
theorem e_dgetD {td ty : TE} {kvs : KD} {k0 : Key} {d : Dt} (h1 : EvS C td A (dD kvs) A1) (h2 : EvS C ty A1 (.v (kV k0)) A2) (h : getD kvs k0 = some d) : EvS C (tDGet td ty) A d A2 := e_dget h1 h2 (by rw [zip_un]; exact h)
theorem valV_isSome {K : Frg} {R : Hp} {k0 : Key} {kvs : KD} {acc : List (Key × V)} (h : KvA K R kvs acc) : (valV acc k0).isSome = kvs.any fun kv => decide (kv.1 = k0) := by
  rw [← valV_any, h.any]
theorem kvA_of {K : Frg} {R : Hp} {kvs : KD} {vs : List V} (h : IsA K R (kvs.map (·.2)) vs) : KvA K R kvs ((kvs.map (·.1)).zip vs) := by
  have hl := isA_len h
  rw [List.length_map] at hl
  exact ⟨by rw [List.map_fst_zip (by rw [List.length_map]; omega)], by rw [List.map_snd_zip (by rw [List.length_map]; omega)]; exact h⟩
theorem e_din {td ty : TE} {kvs : KD} {k0 : Key} (h1 : EvS C ty A (.v (kV k0)) A1) (h2 : EvS C td A1 (dD kvs) A2) : EvS C (tDIn ty td) A (db (kvs.any fun kv => decide (kv.1 = k0))) A2 := fun os σ H k Q q =>
  h1 os σ H k _ fun os1 v1 H1 k1 e1 i1 => h2 os1 σ H1 k1 _ fun os2 v2 H2 k2 e2 i2 => by
    rw [Is.v_iff.mp i1]
    rw [Is] at i2
    obtain ⟨a, vs, rfl, g1, g2⟩ := i2
    refine ⟨a, _, rfl, .inl ⟨_, k0, .inl (hd_ex a _ g1 nt_k), rfl, rfl⟩, ?_⟩
    rw [valV_isSome (kvA_of g2)]
    exact q os2 _ H2 k2 (e1.trans e2) is_v
theorem e_dnotin {td ty : TE} {kvs : KD} {k0 : Key} (h1 : EvS C ty A (.v (kV k0)) A1) (h2 : EvS C td A1 (dD kvs) A2) : EvS C (tDNotIn ty td) A (db (!kvs.any fun kv => decide (kv.1 = k0))) A2 := fun os σ H k Q q =>
  h1 os σ H k _ fun os1 v1 H1 k1 e1 i1 => h2 os1 σ H1 k1 _ fun os2 v2 H2 k2 e2 i2 => by
    rw [Is.v_iff.mp i1]
    rw [Is] at i2
    obtain ⟨a, vs, rfl, g1, g2⟩ := i2
    refine ⟨a, _, rfl, .inl ⟨_, k0, .inl (hd_ex a _ g1 nt_k), rfl, rfl⟩, ?_⟩
    rw [valV_isSome (kvA_of g2)]
    exact q os2 _ H2 k2 (e1.trans e2) is_v
theorem e_lenD {kvs : KD} {ta : TA} (h : EvA C ta A [dD kvs] A1) : EvS C (tCB (fun xs H Q => ∃ a kvs, xs = [V.ref a] ∧ H a = some (.dK kvs) ∧ Q (.int kvs.length) H) ta) A (di kvs.length) A1 := fun os σ H k Q q =>
  h os σ H k _ fun os1 vs H1 k1 e1 i1 => by
    rw [IsA] at i1
    obtain ⟨v, w, rfl, i1, i2⟩ := i1
    rw [IsA] at i2
    subst i2
    rw [Is] at i1
    obtain ⟨a, us, rfl, g1, g2⟩ := i1
    refine ⟨a, _, rfl, hd_ex a _ g1 nt_k, ?_⟩
    have e : ((kvs.map (·.1)).zip us).length = kvs.length := by
      have := congrArg List.length (kvA_of g2).1
      simpa using this
    rw [e]
    exact q os1 _ H1 k1 e1 is_v
/-! ### all([..]), any([..]) -/
theorem isA_bls {K : Frg} {R : Hp} : ∀ {bs : List Bool} {vs : List V}, IsA K R (bs.map db) vs → vs = bs.map V.bl
  | [], vs, h => by rw [List.map_nil, IsA] at h; exact h
  | b :: r, vs, h => by
    rw [List.map_cons, IsA] at h
    obtain ⟨v, w, rfl, h1, h2⟩ := h
    rw [Is.v_iff.mp h1, isA_bls h2]; rfl
theorem e_all {bs : List Bool} {ta : TA} (h : EvA C ta A [.lst (bs.map db)] A1) : EvS C (tCB (rAll C.K) ta) A (db (bs.all id)) A1 := fun os σ H k Q q =>
  h os σ H k _ fun os1 vs H1 k1 e1 i1 => by
    rw [IsA] at i1
    obtain ⟨v, w, rfl, i1, i2⟩ := i1
    rw [IsA] at i2
    subst i2
    rw [Is] at i1
    obtain ⟨a, us, rfl, g1, g2⟩ := i1
    rw [isA_bls g2] at g1
    exact ⟨a, bs, rfl, hd_ex.l g1, q os1 _ H1 k1 e1 is_v⟩
theorem e_any {bs : List Bool} {ta : TA} (h : EvA C ta A [.lst (bs.map db)] A1) : EvS C (tCB (rAny C.K) ta) A (db (bs.any id)) A1 := fun os σ H k Q q =>
  h os σ H k _ fun os1 vs H1 k1 e1 i1 => by
    rw [IsA] at i1
    obtain ⟨v, w, rfl, i1, i2⟩ := i1
    rw [IsA] at i2
    subst i2
    rw [Is] at i1
    obtain ⟨a, us, rfl, g1, g2⟩ := i1
    rw [isA_bls g2] at g1
    exact ⟨a, bs, rfl, hd_ex.l g1, q os1 _ H1 k1 e1 is_v⟩
end
end Py
end

section
set_option Elab.async false
set_option linter.all false
set_option maxRecDepth 100000
set_option maxHeartbeats 4000000
set_option autoImplicit false
namespace Py
open PySem PySem.Spec PyProof.Rows L2
/-! ### own things of any kind -/
/-- a new own thing, in no slot yet -/
def AS.newG (A : AS) (o : OD) : AS := ⟨A.sl, A.st ++ [o]⟩
def AS.upG (A : AS) (n : Nat) (o : OD) : AS := ⟨A.sl, A.st.set n o⟩
section
variable {C : Ct} {A A1 A2 : AS} {σ : Sg} {H : Hp} {os : List (Option Addr)} {p : Addr}
theorem Ok.newG {o : HO} {od : OD} (k : Ok C os A σ H) (hp : H p = none) (hn : NoT o) (hs : StOk C.K (os ++ [some p]) (Rh C.O os H) (upd H p o) (some p) od) : Ok C (os ++ [some p]) (A.newG od) σ (upd H p o) := by
  have np : some p ∉ os := fun z => by
    obtain ⟨o, q, _⟩ := (k.fr p z).2
    rw [hp] at q; cases q
  refine ⟨k.ex.trans (Ex.new hp), tabs_new k.tb hp, fun a h => by obtain ⟨o, q, n⟩ := k.ol a h; exact ⟨o, Ex.new hp _ _ q n, n⟩, fun a h z => ?dj, by simp [AS.newG, k.ln], fun a b c h1 h2 => ?_, fun a h => ?_, k.sn, fun j s o h1 h2 => ?_, fun j s o h1 h2 => ?_⟩
  case dj =>
    rcases List.mem_append.mp z with z | z
    · exact k.dj a h z
    · simp at z
      subst z
      obtain ⟨o, q, _⟩ := k.ol a h
      rw [hp] at q; cases q
  · rw [List.getElem?_append] at h1 h2
    split at h1 <;> split at h2
    · exact k.nd a b c h1 h2
    · rename_i q1 q2
      have e : c = p := by
        cases z : b - os.length with
        | zero => rw [z] at h2; simpa using h2.symm
        | succ n => rw [z] at h2; simp at h2
      rw [e] at h1
      exact absurd (List.mem_of_getElem? h1) np
    · have e : c = p := by
        cases z : a - os.length with
        | zero => rw [z] at h1; simpa using h1.symm
        | succ n => rw [z] at h1; simp at h1
      rw [e] at h2
      exact absurd (List.mem_of_getElem? h2) np
    · rename_i q1 q2
      have e1 : a - os.length = 0 := by
        cases z : a - os.length with
        | zero => rfl
        | succ n => rw [z] at h1; simp at h1
      have e2 : b - os.length = 0 := by
        cases z : b - os.length with
        | zero => rfl
        | succ n => rw [z] at h2; simp at h2
      omega
  · rcases List.mem_append.mp h with h | h
    · obtain ⟨h1, o, h2, n⟩ := k.fr a h
      exact ⟨h1, o, Ex.new hp _ _ h2 n, n⟩
    · simp at h
      subst h
      exact ⟨fun o q n => (by have := k.ex _ _ q n; rw [hp] at this; cases this), _, upd_same, hn⟩
  · rw [Rh_app hp]
    exact (k.sl j s o h1 h2).app
  · rw [Rh_app hp]
    have h1 : (A.st ++ [od])[j]? = some s := h1
    rw [List.getElem?_append] at h1 h2
    rw [k.ln] at h2
    split at h1
    · rename_i q1
      rw [if_pos q1] at h2
      exact ((k.st j s o h1 h2).mono (Ex.refl _) (Ex.new hp)).app
    · rename_i q1
      rw [if_neg q1] at h2
      cases z : j - A.st.length with
      | succ n => rw [z] at h1; simp at h1
      | zero =>
        rw [z] at h1 h2
        simp at h1 h2
        subst h1 h2
        exact hs
theorem Gr.newG {o : HO} (k : Ok C os A σ H) (hp : H p = none) : Gr C.O os H (os ++ [some p]) (upd H p o) :=
  ⟨by rw [Rh_app hp]; exact Ex.refl _, fun a h => by obtain ⟨o, q, n⟩ := k.ol a h; rw [q, Ex.new hp _ _ q n], fun k x h => by rw [List.getElem?_append_left (List.getElem?_eq_some_iff.mp h).1]; exact h⟩
theorem Ok.upG {o : HO} {od : OD} {n : Nat} (k : Ok C os A σ H) (h1 : os[n]? = some (some p)) (ht : LamX.Tabs C.T (upd H p o)) (hn : NoT o) (hs : StOk C.K os (Rh C.O os H) (upd H p o) (some p) od) : Ok C os (A.upG n od) σ (upd H p o) := by
  have hp : p ∈ hid C.O os := mem_hid.mpr (.inr (List.mem_of_getElem? h1))
  refine ⟨fun a u e nt => ?_, ht, fun a h => ?ol, k.dj, by simp [AS.upG, k.ln], k.nd, fun a h => ?_, k.sn, fun j s u e1 e2 => ?_, fun j s u e1 e2 => ?_⟩
  case ol =>
    obtain ⟨o, q, n⟩ := k.ol a h
    exact ⟨o, by rw [upd_ne fun z => k.dj a h (by rw [z]; exact List.mem_of_getElem? h1)]; exact q, n⟩
  · have ne : a ≠ p := fun z => (k.fr p (List.mem_of_getElem? h1)).1 u (by rw [← z]; exact e) nt
    rw [upd_ne ne]
    exact k.ex _ _ e nt
  · obtain ⟨q1, o, q2, n⟩ := k.fr a h
    refine ⟨q1, ?_⟩
    by_cases e : a = p
    · rw [e]; exact ⟨_, upd_same, hn⟩
    · exact ⟨o, by rw [upd_ne e]; exact q2, n⟩
  · rw [Rh_upd hp]
    exact k.sl j s u e1 e2
  · rw [Rh_upd hp]
    have e1 : (A.st.set n od)[j]? = some s := e1
    rw [List.getElem?_set] at e1
    by_cases e : n = j
    · rw [if_pos e] at e1
      split at e1
      · cases e1
        subst e
        rw [h1] at e2; cases e2
        exact hs
      · cases e1
    · rw [if_neg e] at e1
      refine (k.st j s u e1 e2).heap fun a q1 => upd_ne fun z => ?_
      rw [q1, z] at e2
      exact e (k.nd n j p h1 e2)
theorem Gr.up {o : HO} {n : Nat} (k : Ok C os A σ H) (h1 : os[n]? = some (some p)) : Gr C.O os H os (upd H p o) :=
  ⟨by rw [Rh_upd (mem_hid.mpr (.inr (List.mem_of_getElem? h1)))]; exact Ex.refl _, fun a h => upd_ne fun z => k.dj a h (by rw [z]; exact List.mem_of_getElem? h1), fun _ _ h => h⟩
end
/-! ### own dicts whose values are data -/
abbrev oD (kvs : KD) : OD := .dct (kvs.map (·.1)) (kvs.map fun kv => SD.d kv.2)
theorem svA_d {K : Frg} {os : List (Option Addr)} {R : Hp} : ∀ {xs : List Dt} {vs : List V}, SvA K os R (xs.map SD.d) vs ↔ IsA K R xs vs
  | [], vs => by rw [List.map_nil, SvA, IsA]
  | x :: r, vs => by
    rw [List.map_cons, SvA, IsA]
    constructor
    · rintro ⟨v, w, h1, ⟨u, e, h2⟩, h3⟩
      cases e
      exact ⟨v, w, h1, h2, svA_d.mp h3⟩
    · rintro ⟨v, w, h1, h2, h3⟩
      exact ⟨v, w, h1, ⟨v, rfl, h2⟩, svA_d.mpr h3⟩
theorem stD {K : Frg} {os : List (Option Addr)} {R H : Hp} {o : Option Addr} {kvs : KD} : StOk K os R H o (oD kvs) ↔ ∃ a acc, o = some a ∧ H a = some (.dK acc) ∧ KvA K R kvs acc := by
  have e : (kvs.map fun kv => SD.d kv.2) = (kvs.map (·.2)).map SD.d := by rw [List.map_map]; rfl
  constructor
  · rintro ⟨a, acc, h1, h2, h3, h4⟩
    rw [e] at h4
    exact ⟨a, acc, h1, h2, h3, svA_d.mp h4⟩
  · rintro ⟨a, acc, h1, h2, h3, h4⟩
    exact ⟨a, acc, h1, h2, h3, by rw [e]; exact svA_d.mpr h4⟩
section
variable {C : Ct} {E : XK} {A A1 A2 A3 : AS} {td ty tv te : TE} {tl : TA} {P : Po} {kvs : KD} {k0 : Key} {d : Dt} {i n : Nat}
theorem p_D {tr : TA} {ss : List SD} (hr : EvP C tr (A.newG (oD [])) ss A2) : EvP C (tCons tDNewK tr) A (.own A.st.length :: ss) A2 := fun os σ H k Q q p hp =>
  hr _ σ _ (k.newG hp nt_k (stD.mpr ⟨p, [], rfl, upd_same, .nil⟩)) _ fun os2 ws H2 k2 e2 i2 => q os2 _ H2 k2 ((Gr.newG k hp).trans e2) ⟨_, ws, rfl, ⟨p, rfl, e2.p _ _ (by rw [← k.ln]; simp)⟩, i2⟩
theorem r_newD (hn : P.nx ((A.newG (oD [])).putS i (.own A.st.length))) : RunS C E (tAsg tDNewK (gName i)) A P := fun os σ H D k T p hp =>
  T.nx _ _ _ _ hn ((k.newG hp nt_k (stD.mpr ⟨p, [], rfl, upd_same, .nil⟩)).putS ⟨p, rfl, by rw [← k.ln]; simp⟩) (Gr.newG k hp)
theorem own_at {os : List (Option Addr)} {σ : Sg} {H : Hp} (k : Ok C os A σ H) (h1 : A.sl[i]? = some (.own n)) (h2 : A.st[n]? = some (oD kvs)) : ∃ a acc, σ[i]? = some (some (.ref a)) ∧ os[n]? = some (some a) ∧ H a = some (.dK acc) ∧ KvA C.K (Rh C.O os H) kvs acc := by
  obtain ⟨o, f1, a, f2, f3⟩ := k.slot h1
  subst f2
  obtain ⟨o3, s1, s2⟩ := k.store h2
  rw [f3] at s1; cases s1
  obtain ⟨a', acc, q1, q2, q3⟩ := stD.mp s2
  cases q1
  exact ⟨a, acc, f1, f3, q2, q3⟩
theorem KvA.get {K : Frg} {R : Hp} : ∀ {kvs : KD} {acc : List (Key × V)}, KvA K R kvs acc → getD kvs k0 = some d → ∃ v, valV acc k0 = some v ∧ Is K R d v := fun {kvs acc} h e => by
  have := dct_get (K := K) (R := R) (k0 := k0) (ks := kvs.map (·.1)) (xs := kvs.map (·.2)) (vs := acc.map (·.2)) (d := d) h.2 (by rw [zip_un]; exact e)
  rw [← h.1, zip_un] at this
  exact this
theorem e_dgetO (h1 : A.sl[i]? = some (.own n)) (h2 : EvS C ty A (.v (kV k0)) A1) (h3 : A1.sl[i]? = some (.own n)) (h4 : A1.st[n]? = some (oD kvs)) (h : getD kvs k0 = some d) : EvS C (tDGet (tVar i) ty) A d A1 := fun os σ H k Q q => by
  obtain ⟨o, f1, a, f2, f3⟩ := k.slot h1
  subst f2
  refine ⟨_, f1, h2 os σ H k _ fun os1 v1 H1 k1 g1 i1 => ?_⟩
  rw [Is.v_iff.mp i1]
  obtain ⟨a', acc, e1, e2, e3, e4⟩ := own_at k1 h3 h4
  rw [f1] at e1; cases e1
  obtain ⟨v, z1, z2⟩ := e4.get h
  exact ⟨a, v, rfl, .inl ⟨_, k0, .inl e3, rfl, z1.symm⟩, q os1 v H1 k1 g1 z2⟩
theorem e_dinO (h2 : EvS C ty A (.v (kV k0)) A1) (h3 : A1.sl[i]? = some (.own n)) (h4 : A1.st[n]? = some (oD kvs)) : EvS C (tDIn ty (tVar i)) A (db (kvs.any fun kv => decide (kv.1 = k0))) A1 := fun os σ H k Q q =>
  h2 os σ H k _ fun os1 v1 H1 k1 g1 i1 => by
    rw [Is.v_iff.mp i1]
    obtain ⟨a, acc, e1, e2, e3, e4⟩ := own_at k1 h3 h4
    refine ⟨_, e1, a, _, rfl, .inl ⟨_, k0, .inl e3, rfl, rfl⟩, ?_⟩
    rw [valV_isSome e4]
    exact q os1 _ H1 k1 g1 is_v
theorem e_dnotinO (h2 : EvS C ty A (.v (kV k0)) A1) (h3 : A1.sl[i]? = some (.own n)) (h4 : A1.st[n]? = some (oD kvs)) : EvS C (tDNotIn ty (tVar i)) A (db (!kvs.any fun kv => decide (kv.1 = k0))) A1 := fun os σ H k Q q =>
  h2 os σ H k _ fun os1 v1 H1 k1 g1 i1 => by
    rw [Is.v_iff.mp i1]
    obtain ⟨a, acc, e1, e2, e3, e4⟩ := own_at k1 h3 h4
    refine ⟨_, e1, a, _, rfl, .inl ⟨_, k0, .inl e3, rfl, rfl⟩, ?_⟩
    rw [valV_isSome e4]
    exact q os1 _ H1 k1 g1 is_v
/-- d[k] = v, d one's own -/
theorem r_dputO (hv : EvS C tv A d A1) (hy : EvS C ty A1 (.v (kV k0)) A1) (h3 : A1.sl[i]? = some (.own n)) (h4 : A1.st[n]? = some (oD kvs)) (hl : kvs.length < 100000) (h : P.nx (A1.upG n (oD (putD kvs k0 d)))) : RunS C E (sDPut (tVar i) ty tv) A P := fun os σ H D k T =>
  hv os σ H k _ fun os1 v H1 k1 g1 i1 => by
    obtain ⟨a, acc, e1, e2, e3, e4⟩ := own_at k1 h3 h4
    refine ⟨_, e1, hy os1 σ H1 k1 _ fun os2 y H2 k2 g2 i2 => ?_⟩
    rw [Is.v_iff.mp i2]
    obtain ⟨a', acc', f1, f2, f3, f4⟩ := own_at k2 h3 h4
    rw [e1] at f1; cases f1
    have el : acc'.length = kvs.length := by
      have := congrArg List.length f4.1
      simpa using this
    refine ⟨a, _, rfl, .inl ⟨acc', k0, f3, rfl, by rw [el]; exact Nat.lt_of_lt_of_le hl (by decide), rfl⟩, ?_⟩
    exact T.nx os2 _ σ _ h (k2.upG f2 (tabs_dk k2.tb f3) nt_k (stD.mpr ⟨a, _, rfl, upd_same, f4.put (Is.mono g2.e _ _ i1)⟩)) ((g1.trans g2).trans (Gr.up k2 f2))
theorem e_lenDO (h3 : A.sl[i]? = some (.own n)) (h4 : A.st[n]? = some (oD kvs)) : EvS C (tCB (fun xs H Q => ∃ a kvs, xs = [V.ref a] ∧ H a = some (.dK kvs) ∧ Q (.int kvs.length) H) (tCons (tVar i) tNil)) A (di kvs.length) A := fun os σ H k Q q => by
  obtain ⟨a, acc, e1, e2, e3, e4⟩ := own_at k h3 h4
  have el : acc.length = kvs.length := by
    have := congrArg List.length e4.1
    simpa using this
  exact ⟨_, e1, a, acc, rfl, e3, by rw [el]; exact q os _ H k Gr.refl is_v⟩
/-! ### a new list that becomes one's own -/
def EvN (C : Ct) (te : TE) (A : AS) (xs : List Dt) (A1 : AS) : Prop := ∀ os σ H, Ok C os A σ H → ∀ Q : VK, (∀ os1 H1 vs p, Ok C os1 A1 σ H1 → Gr C.O os H os1 H1 → IsA C.K (Rh C.O os1 H1) xs vs → H1 p = none → Q (.ref p) (upd H1 p (.lst vs))) → te σ H Q
theorem r_asgN {xs : List Dt} (h : EvN C te A xs A1) (hn : P.nx (A1.newO i xs)) : RunS C E (tAsg te (gName i)) A P := fun os σ H D k T =>
  h os σ H k _ fun os1 H1 vs p k1 g1 i1 hp => T.nx _ _ _ _ hn (k1.newO hp i1) (g1.trans (Gr.app k1 hp))
/-- list(x), x a list or a tuple -/
def rLst (K : Frg) : List V → Hp → VK → Prop := fun xs H Q => ∃ p ys, xs = [.ref p] ∧ (SqL K H p ys ∨ SqT K H p ys) ∧ ∀ l, H l = none → Q (.ref l) (upd H l (.lst ys))
theorem e_listTN {xs : List Dt} {ta : TA} (h : EvA C ta A [.tup xs] A1) : EvS C (tCB (rLst C.K) ta) A (.lstN xs) A1 := fun os σ H k Q q =>
  h os σ H k _ fun os1 vs H1 k1 g1 i1 => by
    rw [IsA] at i1
    obtain ⟨v, w, rfl, i1, i2⟩ := i1
    rw [IsA] at i2
    subst i2
    rw [Is] at i1
    obtain ⟨a, us, rfl, h1, h2⟩ := i1
    refine ⟨a, us, rfl, .inr (hd_ex.t h1), fun l hl => q os1 _ _ (k1.monoN hl) (g1.trans (k1.gr (Ex.new hl))) ?_⟩
    rw [Is]
    exact ⟨l, us, rfl, .inl (k1.fresh hl), IsA.mono (hd_mono (Ex.new hl)) _ _ h2⟩
/-- one's own list + a new one: a new one -/
theorem n_catO {xs ys : List Dt} {tb : TE} (h1 : A.sl[i]? = some (.own n)) (hb : EvS C tb A (.lstN ys) A1) (h3 : A1.st[n]? = some (.lst xs)) (hl : xs.length + ys.length ≤ 100000) : EvN C (tOp rCatR (tVar i) tb) A (xs ++ ys) A1 := fun os σ H k Q q => by
  obtain ⟨o, f1, a, f2, f3⟩ := k.slot h1
  subst f2
  refine ⟨_, f1, hb os σ H k _ fun os1 v H1 k1 g1 i1 => ?_⟩
  rw [Is] at i1
  obtain ⟨b, us, rfl, h4, h5⟩ := i1
  obtain ⟨o3, s1, a3, ws, s2, s3, s4⟩ := k1.store h3
  rw [g1.p n _ f3] at s1; cases s1; cases s2
  exact ⟨a, b, ws, us, rfl, rfl, .inl s3, hd_ex.rd nt_l h4, by rw [isA_len s4, isA_len h5]; exact Nat.le_trans hl (by decide), fun p hp => q os1 H1 _ p k1 g1 (isA_app s4 h5) hp⟩
end
/-! ### sorted(d, reverse=True), the keys ints -/
def rSortDR (b : Bool) : List V → List V → Hp → VK → Prop := fun vs zs H Q => ∃ (a : Addr) (kvs : List (Key × V)) (ks : List Int), vs = [.ref a] ∧ zs = [.bl b] ∧ Rd H a (.dK kvs) ∧ kvs.map (·.1) = ks.map Sum.inl ∧ ks.length ≤ 100000 ∧
    ∀ (ys : List Int) (p : Addr), ys.Perm ks → OrdB b ys → H p = none → Q (.ref p) (upd H p (.lst (ys.map V.int)))
/-- the keys that are told one behind the other are the dict's ints -/
theorem told_ints {P : Program} {w : World} {pairs : List (Key × Value)} {got : Array Value} {ns : List Int} (hk : pairs.map Prod.fst = ns.map Sum.inl) (hg : ItemsOf (fun j v => ∃ k x, pairs[j]? = some (k, x) ∧ (mixKind P w).is k v = true) got pairs.length) : IntsAre got.toList ns ∧ got.toList.length = ns.length := by
  have many : pairs.length = ns.length := by simpa using congrArg List.length hk
  have size : got.toList.length = ns.length := by rw [Array.length_toList, hg.1, many]
  refine ⟨ints_each size fun j v hv => ?_, size⟩
  obtain ⟨k, x, p1, p2⟩ := hg.2 j v (by rwa [Array.getElem?_toList] at hv)
  have at_j : (ns.map (Sum.inl : Int → Key))[j]? = some k := by rw [← hk, List.getElem?_map, p1]; rfl
  rw [List.getElem?_map] at at_j
  obtain ⟨n, hn, rfl⟩ := Option.map_eq_some_iff.mp at_j
  rcases keyIs_shape (show keyIs (Sum.inl n) v = true from p2) with ⟨m, t, z1, z2⟩ | ⟨_, _, z1, _⟩
  · exact ⟨n, t, hn, by cases z1; exact z2⟩
  · cases z1
/-- a new list of ints behind the heap, put in order there -/
theorem put_in_order {X : Cx} {pins : List (Addr × Obj)} {σ : L2.St} {H : Hp} {s : Shared} {b : Bool} {got out : List Value} {ns : List Int} {Q : VK} (I : Inv X pins σ H s) (hi : IntsAre got ns) (hz : ns.length ≤ sizeLine) (o1 : SrtO.Srtd SrtO.ltIv out) (o2 : SrtO.Stb SrtO.ltIv out (if b = true then got.reverse else got))
    (q : ∀ (ys : List Int) (p : Addr), ys.Perm ns → OrdB b ys → H p = none → Q (.ref p) (upd H p (.lst (ys.map V.int)))) :
    EP X pins σ Q (.ref s.heap.objs.size) { s with heap := sortedHeap (s.heap.push (seqObj "list" got.toArray 0)) s.heap.objs.size got (if b = true then out.toArray.reverse else out.toArray) } := by
  obtain ⟨ys, y1, y2, y3⟩ := SrtR.ints_outR hi o1 o2
  obtain ⟨n, there⟩ := sortedHeap_at (vs := got) (out := (if b = true then out.toArray.reverse else out.toArray)) (Heap.get?_push_size s.heap (o := seqObj "list" got.toArray 0) rfl)
  have room : (ys.map V.int).length ≤ sizeLine := by rw [List.length_map]; exact y2.length_eq ▸ hz
  have arr : ((if b = true then out.toArray.reverse else out.toArray).toList).toArray = (if b = true then out.toArray.reverse else out.toArray) := Array.toArray_toList
  refine ⟨.ref s.heap.objs.size, upd H s.heap.objs.size (.lst (ys.map V.int)), I.laid (t' := s.toks) (fun c u hc => ?_) (Nat.le_refl _) ⟨room, _, n, vals_of_ints y1, by rw [arr]; exact there⟩, rfl, q ys _ y2 y3 (I.hok.fresh (Nat.le_refl _))⟩
  have lt := Heap.lt_size hc
  exact (sortedHeap_old (Nat.ne_of_lt lt) (by rw [size_push']; exact Nat.lt_succ_of_lt lt)).trans (Heap.get?_push_of_some _ hc)
theorem cr_sortDR {X : Cx} {b : Bool} (hcalm : X.calm = true) : CallRK X (.builtin "sorted") [Str.ofString "reverse"] (rSortDR b) := by
  rintro pins s σ H _ _ us wz Q I r rz ⟨a, kvs, ns, rfl, rfl, hd, hks, few, q⟩
  have hz : ns.length ≤ sizeLine := Nat.le_trans few (by decide)
  have eu := Vals.ref1 r
  obtain ⟨b', eb, rb⟩ := vals1 rz
  have rb : b' = Value.bool b := rb
  subst eu eb rb
  obtain ⟨_, notSys, pairs, rel, isD⟩ := dk_rd I.hok hd
  obtain ⟨ep, hat⟩ := isD.dictAt
  have keys : pairs.map Prod.fst = ns.map Sum.inl := (rel.keys).symm.trans hks
  have many : pairs.length ≤ sizeLine := by
    have : pairs.length = ns.length := by simpa using congrArg List.length keys
    rw [this]; exact hz
  apply call_function_entry_kw kind_sorted plain_sorted entry_sorted (args_sorted_rev _ _)
  unfold Builtin.«sorted»
  apply wpAny_bind (m := checkCount "sorted" 1 1 _)
  apply wpAny_pure
  refine wpAny_bind (PySem.W.kdu_collect (A := X.A.in1) (PySem.W.kdl_dict (knd := mixKind X.prog X.w) (kvs := pairs) (ep := ep) notSys) (I.ok.hd hcalm) hat many fun h' tk got kept items => ?_)
  obtain ⟨hi, len⟩ := told_ints (P := X.prog) (w := X.w) keys items
  have I1 : Inv X pins σ H { s with heap := h', toks := tk } := I.kept kept
  refine wpAny_bind (wpAny_newList ?_ (by rw [len]; exact hz))
  show wpAny _ _ _ _ _ ({ s with heap := h'.push (seqObj "list" got.toList.toArray 0), toks := tk } : Shared)
  have here : (h'.push (seqObj "list" got.toList.toArray 0)).get? h'.objs.size = some (seqObj "list" got.toList.toArray 0) := Heap.get?_push_size _ rfl
  refine wpAny_bind (wpAny_holding (wpAny_call_entry_kw slot_list_sort ⟨_, here, rfl⟩ entry_list_sort ?sort (args_list_sort_rev _ _)))
  exact SrtR.list_sort_ordR (s := { s with heap := h'.push (seqObj "list" got.toList.toArray 0), toks := tk }) SrtO.swo_int here (by rw [len]; exact hz) (fun _ => SrtO.ints_sortable hi (by omega)) fun out o1 o2 => ⟨_, rfl, wpAny_pure ⟨_, rfl, put_in_order I1 hi hz o1 o2 q⟩⟩
theorem ord_uniq : ∀ {xs ys : List Int}, xs.Perm ys → xs.Pairwise (· ≥ ·) → ys.Pairwise (· ≥ ·) → xs = ys
  | [], ys, h, _, _ => (List.nil_perm.mp h).symm
  | x :: r, ys, h, h1, h2 => by
    cases ys with
    | nil => exact absurd (List.perm_nil.mp h) (by simp)
    | cons y s =>
      have a := List.pairwise_cons.mp h1
      have b := List.pairwise_cons.mp h2
      have e : x = y := by
        have g1 : y ∈ x :: r := h.mem_iff.mpr (List.mem_cons_self ..)
        have g2 : x ∈ y :: s := h.mem_iff.mp (List.mem_cons_self ..)
        rcases List.mem_cons.mp g1 with z | z
        · exact z.symm
        · rcases List.mem_cons.mp g2 with w | w
          · exact w
          · have := a.1 y z; have := b.1 x w; omega
      subst e
      rw [ord_uniq (List.Perm.cons_inv h) a.2 b.2]
section
variable {C : Ct} {A : AS} {kvs : KD} {i n : Nat}
theorem isA_ints {K : Frg} {R : Hp} : ∀ ns : List Int, IsA K R (ns.map di) (ns.map V.int)
  | [] => isA_nil
  | n :: r => by rw [List.map_cons, List.map_cons]; exact isA_cons is_v (isA_ints r)
/-- sorted(d, reverse=True), d one's own -/
theorem e_sortDRO {tk : TA} {ks zs : List Int} (h3 : A.sl[i]? = some (.own n)) (h4 : A.st[n]? = some (oD kvs)) (hk : kvs.map (·.1) = ks.map Sum.inl) (hl : ks.length ≤ 100000) (ht : EvA C tk A [db true] A) (hp : zs.Perm ks) (ho : zs.Pairwise (· ≥ ·)) : EvS C (tCKw (rSortDR true) (tCons (tVar i) tNil) tk) A (.lst (zs.map di)) A := fun os σ H k Q q => by
  obtain ⟨a, acc, e1, e2, e3, e4⟩ := own_at k h3 h4
  refine ⟨_, e1, ht os σ H k _ fun os1 vs H1 k1 g1 i1 => ?_⟩
  rw [IsA] at i1
  obtain ⟨v, w, rfl, i1, i2⟩ := i1
  rw [IsA] at i2
  subst i2
  rw [Is.v_iff.mp i1]
  obtain ⟨a', acc', f1, f2, f3, f4⟩ := own_at k1 h3 h4
  rw [e1] at f1; cases f1
  refine ⟨a, acc', ks, rfl, rfl, .inl f3, by rw [f4.1, hk], hl, fun ys p g3 g4 hp' => ?_⟩
  have : ys = zs := ord_uniq (g3.trans hp.symm) g4 ho
  subst this
  refine q os1 _ _ (k1.monoN hp') (g1.trans (k1.gr (Ex.new hp'))) ?_
  rw [Is]
  exact ⟨p, ys.map V.int, rfl, SqL.of (k1.fresh hp'), isA_ints ys⟩
end
end Py
end

section
set_option linter.all false
set_option autoImplicit false
/-! Mathematics of whole numbers. -/
namespace Mt
/-- Euclid's steps with factors -/
theorem fmod_lt {a b : Int} (h : b ≠ 0) : (a - a.fdiv b * b).natAbs < b.natAbs := by
  have e : a - a.fdiv b * b = a.fmod b := by rw [Int.fmod_def, Int.mul_comm]
  rw [e]
  rcases Int.lt_or_gt_of_ne h with h | h
  · have e2 : a.fmod b = -((-a).fmod (-b)) := by rw [Int.neg_fmod_neg]; omega
    have h1 := Int.fmod_nonneg_of_pos (-a) (show 0 < -b by omega)
    have h2 := Int.fmod_lt_of_pos (-a) (show 0 < -b by omega)
    omega
  · have h1 := Int.fmod_nonneg_of_pos a h
    have h2 := Int.fmod_lt_of_pos a h
    omega
theorem fdiv_abs_le (a b : Int) : (a.fdiv b).natAbs ≤ a.natAbs := by
  by_cases hb : b = 0
  · subst hb
    simp
  · have h1 := fmod_lt (a := a) hb
    have key : ∀ a b : Int, 0 < b → (a.fdiv b).natAbs ≤ a.natAbs := by
      intro a b hb
      rw [Int.fdiv_eq_ediv_of_nonneg a (by omega)]
      rcases Int.le_total 0 a with h | h
      · have h1 := Int.ediv_nonneg h (show 0 ≤ b by omega)
        have h2 := Int.ediv_le_self b h
        omega
      · have h1 : a / b ≤ 0 := by
          have := Int.ediv_le_ediv hb h
          simpa using this
        have h2 : a ≤ a / b := by
          have e := Int.mul_ediv_add_emod a b
          have l := Int.emod_nonneg a (show b ≠ 0 by omega)
          have q : b * (a / b) ≤ 1 * (a / b) := Int.mul_le_mul_of_nonpos_right (by omega) h1
          have l2 := Int.emod_lt_of_pos a hb
          rcases Int.lt_or_le (a / b) a with z | z
          · have : b * (a / b + 1) ≤ b * a := Int.mul_le_mul_of_nonneg_left (by omega) (by omega)
            have : b * a ≤ 1 * a := Int.mul_le_mul_of_nonpos_right (by omega) h
            grind
          · exact z
        omega
    rcases Int.lt_or_gt_of_ne hb with h | h
    · have := key (-a) (-b) (by omega)
      rw [Int.neg_fdiv_neg, Int.natAbs_neg] at this
      exact this
    · exact key a b h
structure B6 where
  f : Int
  a : Int
  b : Int
  r : Int
  c : Int
  d : Int
def B6.step (s : B6) : B6 := ⟨s.r, s.c, s.d, s.f - s.f.fdiv s.r * s.r, s.a - s.f.fdiv s.r * s.c, s.b - s.f.fdiv s.r * s.d⟩
def bezGo (s : B6) : B6 := if h : s.r = 0 then s else bezGo s.step
termination_by s.r.natAbs
decreasing_by exact fmod_lt h
def bez (x y : Int) : Int × Int × Int :=
  let s := bezGo ⟨x, 1, 0, y, 0, 1⟩
  if s.f < 0 then (-s.f, -s.a, -s.b) else (s.f, s.a, s.b)
theorem bezGo_done {s : B6} (h : s.r = 0) : bezGo s = s := by rw [bezGo, dif_pos h]
theorem bezGo_step {s : B6} (h : s.r ≠ 0) : bezGo s = bezGo s.step := by rw [bezGo, dif_neg h]
/-- what holds between the steps -/
structure BI (x y : Int) (s : B6) : Prop where
  e1 : x * s.a + y * s.b = s.f
  e2 : x * s.c + y * s.d = s.r
  g : Int.gcd s.f s.r = Int.gcd x y
theorem BI.start (x y : Int) : BI x y ⟨x, 1, 0, y, 0, 1⟩ := ⟨by simp, by simp, rfl⟩
theorem BI.step {x y : Int} {s : B6} (h : BI x y s) : BI x y s.step := by
  refine ⟨h.e2, ?_, ?_⟩
  · show x * (s.a - s.f.fdiv s.r * s.c) + y * (s.b - s.f.fdiv s.r * s.d) = s.f - s.f.fdiv s.r * s.r
    have h1 := h.e1
    have h2 := h.e2
    generalize s.f.fdiv s.r = t at *
    grind
  · show Int.gcd s.r (s.f - s.f.fdiv s.r * s.r) = Int.gcd x y
    rw [← h.g, Int.gcd_comm s.r, Int.gcd_sub_mul_right_left]
theorem abs_sub_mul {a c t : Int} (h : a * c ≤ 0) (ht : 0 ≤ t) : (a - t * c).natAbs = a.natAbs + t.natAbs * c.natAbs := by
  rw [← Int.natAbs_mul]
  rcases Int.lt_trichotomy a 0 with ha | ha | ha
  · have hc : 0 ≤ c := by
      rcases Int.lt_or_le c 0 with z | z
      · have := Int.mul_pos_of_neg_of_neg ha z
        omega
      · exact z
    have := Int.mul_nonneg ht hc
    omega
  · subst ha
    omega
  · have hc : c ≤ 0 := by
      rcases Int.lt_or_le 0 c with z | z
      · have := Int.mul_pos ha z
        omega
      · exact z
    have := Int.mul_nonpos_of_nonneg_of_nonpos ht hc
    omega
theorem fdiv_same {f r : Int} (h : 0 ≤ f * r) (hr : r ≠ 0) : 0 ≤ f.fdiv r ∧ (f - f.fdiv r * r).natAbs + (f.fdiv r).natAbs * r.natAbs = f.natAbs ∧ 0 ≤ r * (f - f.fdiv r * r) := by
  have key : ∀ f r : Int, 0 ≤ f → 0 < r → 0 ≤ f.fdiv r ∧ (f - f.fdiv r * r).natAbs + (f.fdiv r).natAbs * r.natAbs = f.natAbs ∧ 0 ≤ r * (f - f.fdiv r * r) := by
    intro f r hf hr
    have h1 : 0 ≤ f.fdiv r := Int.fdiv_nonneg hf (by omega)
    have h2 : f - f.fdiv r * r = f.fmod r := by rw [Int.fmod_def, Int.mul_comm]
    have h3 := Int.fmod_nonneg_of_pos f hr
    have h4 : 0 ≤ f.fdiv r * r := Int.mul_nonneg h1 (by omega)
    refine ⟨h1, ?_, ?_⟩
    · rw [← Int.natAbs_mul]
      omega
    · rw [h2]
      exact Int.mul_nonneg (by omega) h3
  rcases Int.lt_or_gt_of_ne hr with z | z
  · have hf : f ≤ 0 := by
      rcases Int.lt_or_le 0 f with q | q
      · have := Int.mul_neg_of_pos_of_neg q z
        omega
      · exact q
    obtain ⟨h1, h2, h3⟩ := key (-f) (-r) (by omega) (by omega)
    rw [Int.neg_fdiv_neg] at h1 h2 h3
    refine ⟨h1, ?_, ?_⟩
    · have e : -f - f.fdiv r * -r = -(f - f.fdiv r * r) := by grind
      rw [e, Int.natAbs_neg, Int.natAbs_neg, Int.natAbs_neg] at h2
      exact h2
    · have e : -r * (-f - f.fdiv r * -r) = r * (f - f.fdiv r * r) := by grind
      rw [e] at h3
      exact h3
  · have hf : 0 ≤ f := by
      rcases Int.lt_or_le f 0 with q | q
      · have := Int.mul_neg_of_neg_of_pos q z
        omega
      · exact q
    exact key f r hf z
/-- sizes behind the first step -/
structure BS (y : Int) (s : B6) : Prop where
  f0 : s.f ≠ 0
  sg : 0 ≤ s.f * s.r
  ac : s.a * s.c ≤ 0
  n : s.f.natAbs * s.c.natAbs + s.r.natAbs * s.a.natAbs = y.natAbs
  fy : s.f.natAbs ≤ y.natAbs
  rf : s.r.natAbs < s.f.natAbs
  aa : s.a.natAbs ≤ y.natAbs
theorem BS.cc {y : Int} {s : B6} (h : BS y s) : s.c.natAbs ≤ y.natAbs := by
  have h1 : 1 * s.c.natAbs ≤ s.f.natAbs * s.c.natAbs := Nat.mul_le_mul_right _ (by have := h.f0; omega)
  have := h.n
  omega
theorem BS.step {y : Int} {s : B6} (h : BS y s) (hr : s.r ≠ 0) : BS y s.step := by
  obtain ⟨h1, h2, h3⟩ := fdiv_same h.sg hr
  have h4 := abs_sub_mul h.ac h1
  refine ⟨hr, h3, ?_, ?_, Nat.le_trans (Nat.le_of_lt h.rf) h.fy, fmod_lt hr, h.cc⟩
  · show s.c * (s.a - s.f.fdiv s.r * s.c) ≤ 0
    have e : s.c * (s.a - s.f.fdiv s.r * s.c) = s.a * s.c - s.f.fdiv s.r * (s.c * s.c) := by grind
    have q : 0 ≤ s.c * s.c := by
      rcases Int.le_total 0 s.c with z | z
      · exact Int.mul_nonneg z z
      · exact Int.mul_nonneg_of_nonpos_of_nonpos z z
    have := Int.mul_nonneg h1 q
    have := h.ac
    omega
  · show s.r.natAbs * (s.a - s.f.fdiv s.r * s.c).natAbs + (s.f - s.f.fdiv s.r * s.r).natAbs * s.c.natAbs = y.natAbs
    have := h.n
    rw [h4]
    generalize (s.f - s.f.fdiv s.r * s.r).natAbs = m at *
    generalize (s.f.fdiv s.r).natAbs = t at *
    rw [← this, ← h2]
    grind
theorem BS.first {x y : Int} (hy : y ≠ 0) : BS y (B6.step ⟨x, 1, 0, y, 0, 1⟩) := by
  refine ⟨hy, ?_, ?_, ?_, Nat.le_refl _, fmod_lt hy, Nat.zero_le _⟩
  · show 0 ≤ y * (x - x.fdiv y * y)
    have e : x - x.fdiv y * y = x.fmod y := by rw [Int.fmod_def, Int.mul_comm]
    rw [e]
    rcases Int.lt_or_gt_of_ne hy with h | h
    · have e2 : x.fmod y = -((-x).fmod (-y)) := by rw [Int.neg_fmod_neg]; omega
      have h1 := Int.fmod_nonneg_of_pos (-x) (show 0 < -y by omega)
      exact Int.mul_nonneg_of_nonpos_of_nonpos (by omega) (by omega)
    · exact Int.mul_nonneg (by omega) (Int.fmod_nonneg_of_pos x h)
  · show (0 : Int) * (1 - x.fdiv y * 0) ≤ 0
    omega
  · show y.natAbs * (1 - x.fdiv y * 0).natAbs + (x - x.fdiv y * y).natAbs * (0 : Int).natAbs = y.natAbs
    simp
/-- all sizes, at every state -/
structure BZ (n : Nat) (s : B6) : Prop where
  f : s.f.natAbs < 2 ^ n
  r : s.r.natAbs < 2 ^ n
  a : s.a.natAbs < 2 ^ n
  c : s.c.natAbs < 2 ^ n
  b : s.b.natAbs < 2 ^ (2 * n + 1)
  d : s.d.natAbs < 2 ^ (2 * n + 1)
theorem co_bound {x y a b f : Int} {n : Nat} (hy : y ≠ 0) (e : x * a + y * b = f) (hx : x.natAbs < 2 ^ n) (ha : a.natAbs < 2 ^ n) (hf : f.natAbs < 2 ^ n) : b.natAbs < 2 ^ (2 * n + 1) := by
  have e1 : y * b = f - x * a := by omega
  have e2 : y.natAbs * b.natAbs = (f - x * a).natAbs := by rw [← e1, Int.natAbs_mul]
  have h1 : (f - x * a).natAbs ≤ f.natAbs + x.natAbs * a.natAbs := by
    rw [← Int.natAbs_mul]; omega
  have h2 : 1 * b.natAbs ≤ y.natAbs * b.natAbs := Nat.mul_le_mul_right _ (by omega)
  have h3 : x.natAbs * a.natAbs < 2 ^ n * 2 ^ n := Nat.mul_lt_mul'' hx ha
  have h4 : 2 ^ (2 * n + 1) = 2 ^ n * 2 ^ n + 2 ^ n * 2 ^ n := by
    rw [show 2 * n + 1 = n + n + 1 by omega, Nat.pow_succ, Nat.pow_add]; omega
  have h5 : 2 ^ n * 1 ≤ 2 ^ n * 2 ^ n := Nat.mul_le_mul_left _ (Nat.one_le_two_pow)
  omega
theorem BS.sizes {x y : Int} {s : B6} {n : Nat} (h : BS y s) (i : BI x y s) (hy : y ≠ 0) (hx : x.natAbs < 2 ^ n) (hn : y.natAbs < 2 ^ n) : BZ n s := by
  have hc := h.cc
  have hf := h.fy
  have hr := h.rf
  have ha := h.aa
  exact ⟨by omega, by omega, by omega, by omega, co_bound hy i.e1 hx (by omega) (by omega), co_bound hy i.e2 hx (by omega) (by omega)⟩
/-- every state that the loop meets -/
inductive BR (x y : Int) : B6 → Prop
  | start : BR x y ⟨x, 1, 0, y, 0, 1⟩
  | step {s : B6} : BR x y s → s.r ≠ 0 → BR x y s.step
theorem BR.bi {x y : Int} {s : B6} (h : BR x y s) : BI x y s := by
  induction h with
  | start => exact BI.start x y
  | step _ _ ih => exact ih.step
theorem BR.bs {x y : Int} {s : B6} (h : BR x y s) : s = ⟨x, 1, 0, y, 0, 1⟩ ∨ (y ≠ 0 ∧ BS y s) := by
  induction h with
  | start => exact .inl rfl
  | step h0 hr ih =>
    rcases ih with e | ⟨hy, b⟩
    · subst e
      exact .inr ⟨hr, BS.first hr⟩
    · exact .inr ⟨hy, b.step hr⟩
theorem BR.sizes {x y : Int} {s : B6} {n : Nat} (h : BR x y s) (h0 : 0 < n) (hx : x.natAbs < 2 ^ n) (hy : y.natAbs < 2 ^ n) : BZ n s := by
  have p : 1 < 2 ^ n := Nat.one_lt_two_pow (by omega)
  have p2 : 1 < 2 ^ (2 * n + 1) := Nat.one_lt_two_pow (by omega)
  rcases h.bs with e | ⟨hn, b⟩
  · subst e
    exact ⟨hx, hy, p, by show 0 < 2 ^ n; omega, by show 0 < 2 ^ (2 * n + 1); omega, p2⟩
  · exact b.sizes h.bi hn hx hy
theorem bezGo_end : ∀ (s : B6), (bezGo s).r = 0
  | s => by
    rw [bezGo]
    split
    · assumption
    · exact bezGo_end s.step
termination_by s => s.r.natAbs
decreasing_by exact fmod_lt (by assumption)
theorem BR.go {x y : Int} : ∀ {s : B6}, BR x y s → BR x y (bezGo s)
  | s, h => by
    rw [bezGo]
    split
    · exact h
    · rename_i hr
      exact BR.go (h.step hr)
termination_by s => s.r.natAbs
decreasing_by exact fmod_lt (by assumption)
theorem bez_eq (x y : Int) : x * (bez x y).2.1 + y * (bez x y).2.2 = (bez x y).1 ∧ (bez x y).1 = Int.gcd x y := by
  have h := (BR.start (x := x) (y := y)).go.bi
  have h0 := bezGo_end ⟨x, 1, 0, y, 0, 1⟩
  have g := h.g
  rw [h0, Int.gcd_zero_right] at g
  have e := h.e1
  unfold bez
  dsimp only
  split
  · constructor
    · dsimp only
      grind
    · dsimp only
      omega
  · exact ⟨e, by dsimp only; omega⟩
end Mt
end

section
set_option Elab.async false
set_option linter.all false
set_option maxRecDepth 100000
set_option maxHeartbeats 4000000
set_option autoImplicit false
set_option exponentiation.threshold 300
namespace Law
open PySem PySem.Spec PyProof.Rows L2 Py Mt

local macro_rules | `(tactic| wtm_at "op") => `(tactic| first
  | with_reducible exact o_I0 | with_reducible exact o_add | with_reducible exact o_eqI | with_reducible exact o_neI
  | ((with_reducible apply o_mul); first | assumption | wtm_at "si")
  | ((with_reducible apply o_I); first | assumption | wtm_at "si")
  | ((with_reducible apply o_ixT); rfl) | ((with_reducible apply o_ixL); rfl)
  | ((with_reducible apply o_eqD) <;> first | rfl | decide | assumption) | ((with_reducible apply o_neD) <;> first | rfl | decide | assumption)
  | with_reducible assumption)
local macro_rules | `(tactic| wtm_at "si") => `(tactic| first | decide | exact ⟨by decide, by decide +kernel⟩ | omega)
local macro_rules | `(tactic| wtm_at "ev") => `(tactic| first
  | ((with_reducible apply e_var); rfl) | with_reducible exact e_c | with_reducible exact a_nil
  | ((with_reducible apply a_cons) <;> wtm_at "ev")
  | ((with_reducible apply e_bin) <;> first | wtm_at "ev" | wtm_at "op")
  | ((with_reducible apply e_ixO) <;> first | rfl | wtm_at "ev")
  | ((with_reducible apply e_U) <;> wtm_at "ev")
  | ((with_reducible apply t_test) <;> wtm_at "ev")
  | ((with_reducible apply t_B) <;> wtm_at "ev")
  | ((with_reducible apply t_not) <;> wtm_at "ev")
  | ((with_reducible apply e_tup) <;> first | wtm_at "ev" | exact Nat.le_of_ble_eq_true rfl)
  | ((with_reducible apply e_lst) <;> first | wtm_at "ev" | exact Nat.le_of_ble_eq_true rfl)
  | ((with_reducible apply e_gcd) <;> wtm_at "ev")
  | ((with_reducible apply e_abs) <;> wtm_at "ev")
  | ((with_reducible apply e_max2) <;> wtm_at "ev")
  | ((with_reducible apply e_int) <;> wtm_at "ev")
  | ((with_reducible apply e_intB) <;> wtm_at "ev")
  | ((with_reducible apply e_bits) <;> wtm_at "ev")
  | ((with_reducible apply e_not) <;> wtm_at "ev")
  | with_reducible assumption)

def top (i : Nat) : Stmt := PySem.Challenge.pw_algebrastack_k17_primes_that_are_proved.main.body.getD i (.Pass ⟨0, 0, 0, 0⟩)
structure Txt (K : Frg) (mg : Str → Option Value) : Prop where
  gNumberError : mg "NumberError" = some (.ref (He.ga K "NumberError"))
  xNumberError : PySem.W.excIn K (He.ga K "NumberError") He.veBase "ValueError.__new__" = true ∧ PySem.W.keepIn K (.ref (He.ga K "NumberError")) = true ∧ PySem.W.subIn K (.ref (He.ga K "NumberError")) (.type "BaseException") = some true ∧ PySem.W.typeIn K (.ref (He.ga K "NumberError")) = some (.type "type")
  m : PySem.W.exmOne K (.ref (He.ga K "NumberError")) (.ref (He.ga K "NumberError")) = some true
  n_isqrt : mg "isqrt" = some (.builtin "math.isqrt")
  n_abs : mg "abs" = none
  n_all : mg "all" = none
  n_dict : mg "dict" = none
  n_int : mg "int" = none
  n_len : mg "len" = none
  n_list : mg "list" = none
  n_range : mg "range" = none
  n_sorted : mg "sorted" = none
  n_tuple : mg "tuple" = none
  c_MOST_TRIAL : ∃ u, mg "MOST_TRIAL" = some u ∧ RelV (.int 1000000) u
  c_LITTLE : ∃ u, mg "LITTLE" = some u ∧ RelV (.int 1000) u
  c_MOST_PROOF : ∃ u, mg "MOST_PROOF" = some u ∧ RelV (.int 200) u
/-- the class NumberError -/
abbrev NE (K : Frg) : Addr := He.ga K "NumberError"

section
variable {P : Program} {w : World} {K : Frg} {T : List (Addr × Str)} {mg : Str → Option Value} {base : Heap}

abbrev s_repeated : Stmt := top 7
theorem sc_repeated : FnScope ["multiply", "unit", "one", "exponent", "found", "square", "left"] ["multiply", "unit", "one", "exponent"] (defScope s_repeated) := ⟨rfl, rfl, rfl, by decide +kernel, rfl, by decide +kernel, by decide +kernel⟩
abbrev s_power_by : Stmt := top 6
theorem sc_power_by : FnScope ["number", "exponent", "base"] ["number", "exponent", "base"] (defScope s_power_by) := ⟨rfl, rfl, rfl, by decide +kernel, rfl, by decide +kernel, by decide +kernel⟩
abbrev s_divided_out : Stmt := top 9
theorem sc_divided_out : FnScope ["number", "divisor", "rest", "exponent"] ["number", "divisor"] (defScope s_divided_out) := ⟨rfl, rfl, rfl, by decide +kernel, rfl, by decide +kernel, by decide +kernel⟩
abbrev s_prime_factors : Stmt := top 8
theorem sc_prime_factors : FnScope ["number", "rows", "left", "divisor", "exponent"] ["number"] (defScope s_prime_factors) := ⟨rfl, rfl, rfl, by decide +kernel, rfl, by decide +kernel, by decide +kernel⟩
theorem l_mod (l : Nat) : (l : Int).fmod 2 = ((l % 2 : Nat) : Int) := by
  rw [Int.fmod_eq_emod_of_nonneg _ (by decide)]
  omega
theorem l_div (l : Nat) : (l : Int).fdiv 2 = ((l / 2 : Nat) : Int) := by
  rw [Int.fdiv_eq_ediv_of_nonneg _ (by decide)]
  omega

theorem gives_repeated {X : Cx} {k : Nat} {g : Addr} {cdg : Value} {q : Str} {E : XK} {T : List (Addr × Str)} : GivesP X k ["multiply", "unit", "one", "exponent", "found", "square", "left"] "repeated" (defScope s_repeated) g cdg (defBody s_repeated) "multiply" 2 q E (TTr X.K T gRep) := by
  refine gives_of fun f c' s H tl hr act => ?_
  have sc := sc_repeated
  refine ⟨_, (pss_cons (ps_par3 (i := 4) (j := 5) (l := 6) rfl sc.nd rfl rfl rfl (by decide) (by decide) (by decide) rfl rfl rfl (pa_cons (pv 1) (pa_cons (pv 2) (pa_cons (pv 3) pa_nil))) (by rfl))
  (pss_cons (ps_while (passesE) (pt_cmpR op_gt (pv 6) pe_int (nomark _)) (pss_cons (ps_if (pt_cmpR (op_eqA hr.units) (pe_op op_modN (pv 6) pe_int) pe_int (nomark _)) (pss_one (ps_set (i := 4) sc.nd rfl (Or.inl rfl) (act (pa_cons (pv 4) (pa_cons (pv 5) pa_nil)) (by rfl) (by rfl)))) pss_nil)
  (pss_cons (ps_set (i := 6) sc.nd rfl (Or.inl rfl) (pe_op op_fdivX (pv 6) pe_int))
  (pss_one (ps_if (pt_cmpR op_gt (pv 6) pe_int (nomark _)) (pss_one (ps_set (i := 5) sc.nd rfl (Or.inl rfl) (act (pa_cons (pv 5) (pa_cons (pv 5) pa_nil)) (by rfl) (by rfl)))) pss_nil)))))
  (pss_one (ps_ret (pv 4))))), fun O ds r R hc hA hg => ?_⟩
  clear sc hr act
  try dsimp only [cxOf]
  obtain ⟨F, n, rfl, hF, rfl⟩ := hg
  refine r_seq (r_par3 (by wtm_at "ev") ?_)
  refine r_seq (r_while (fun m A => ∃ i j l : Nat, i + j * l = n ∧ 0 < j ∧ m = l ∧ A = ⟨[.d (.v (.ref f)), .d (F 0), .d (F 1), .d (di (n : Int)), .d (F i), .d (F j), .d (di (l : Int))], []⟩) n ⟨0, 1, n, by omega, by decide, rfl, rfl⟩ ?_)
  · rintro m A ⟨i, j, l, hn, hj, rfl, rfl⟩
    refine ⟨decide ((0 : Int) < (m : Int)), _, by wtm_at "ev", fun hb => ?_, fun hb => ?_⟩
    · have hl : 0 < m := by simpa using hb
      have hjl : j * 1 ≤ j * m := Nat.mul_le_mul_left _ hl
      have e1 : decide ((m : Int).fmod 2 = 1) = decide (m % 2 = 1) := by rw [l_mod]; simp; omega
      refine r_cut (fun A' => ∃ i', (m % 2 = 1 → i' = i + j) ∧ (m % 2 ≠ 1 → i' = i) ∧ A' = ⟨[.d (.v (.ref f)), .d (F 0), .d (F 1), .d (di (n : Int)), .d (F i'), .d (F j), .d (di (m : Int))], []⟩) ?_ ?_
      · refine r_if (b := decide (m % 2 = 1)) (t_is (by wtm_at "ev") e1) (fun hd => ?_) fun hd => ?_
        · have hd : m % 2 = 1 := by simpa using hd
          refine r_asg (e_act hA hc rfl rfl (a_cons (e_var rfl) (a_cons (e_var rfl) a_nil)) rfl (hF i j (by omega))) ?_
          exact ⟨i + j, fun _ => rfl, fun z => absurd hd z, rfl⟩
        · have hd : m % 2 ≠ 1 := by simpa using hd
          exact r_next ⟨i, fun z => absurd z hd, fun _ => rfl, rfl⟩
      · rintro A' ⟨i', h1, h2, rfl⟩
        have em := Nat.div_add_mod m 2
        have ei : i' + j * (2 * (m / 2)) = n := by
          by_cases z : m % 2 = 1
          · rw [h1 z, ← hn]
            have : j * m = j * (2 * (m / 2)) + j * 1 := by rw [← Nat.mul_add]; congr 1; omega
            omega
          · rw [h2 z, ← hn]
            congr 2
            omega
        refine r_seq (r_asg (e_is (by wtm_at "ev") (congrArg (fun z => di z) (l_div m))) ?_)
        refine r_if (b := decide ((0 : Int) < ((m / 2 : Nat) : Int))) (by wtm_at "ev") (fun hc' => ?_) fun hc' => ?_
        · have hp : 0 < m / 2 := by simp at hc'; omega
          have h2j : j * 2 ≤ j * (2 * (m / 2)) := Nat.mul_le_mul_left _ (by omega)
          refine r_asg (e_act hA hc rfl rfl (a_cons (e_var rfl) (a_cons (e_var rfl) a_nil)) rfl (hF j j (by omega))) ?_
          exact ⟨m / 2, by omega, i', j + j, m / 2, by rw [← ei, ← Nat.mul_assoc]; congr 2; omega, by omega, rfl, rfl⟩
        · have hp : m / 2 = 0 := by simp at hc'; omega
          exact r_next ⟨m / 2, by omega, i', j, m / 2, by rw [hp] at ei ⊢; simpa using ei, hj, rfl, rfl⟩
    · have hl : m = 0 := by simp at hb; omega
      subst hl
      have : i = n := by omega
      subst this
      exact r_ret (by wtm_at "ev") rfl


/-- a power by a base, or the error -/
def powByR (K : Frg) (x e b : Int) : Rs := if e < 0 ∨ b < 1 then .err (NE K) else .ok (di (x ^ e.toNat % b))
def sp_powBy (K : Frg) : List Dt → Rs → Prop := fun ds r => ∃ x e b : Int, ds = [di x, di e, di b] ∧ Sz 4000 b ∧ r = powByR K x e b
theorem mod_sz {x b : Int} {n : Nat} (h : Sz n b) (hb : 1 ≤ b) : Sz n (x % b) := by
  unfold Sz at *
  have h1 := Int.emod_nonneg x (show b ≠ 0 by omega)
  have h2 := Int.emod_lt_of_pos x (show 0 < b by omega)
  omega

theorem ok_power_by (X : Txt K mg) (F : ∃ fd, FunD K "power_by" "power_by" (defArgs s_power_by) (defBody s_power_by) (defScope s_power_by) [] [] (He.ga K "power_by") fd) (hm : mg "power_by" = some (.ref (He.ga K "power_by"))) (B : LamB K base mg T "power_by")
    (Fr : ∃ fd, FunD K "repeated" "repeated" (defArgs s_repeated) (defBody s_repeated) (defScope s_repeated) [] [] (He.ga K "repeated") fd) (hmr : mg "repeated" = some (.ref (He.ga K "repeated"))) : Gd P w K mg base "power_by" ["number", "exponent", "base"] 3 (spD K T (sp_powBy K)) := by
  have Tx := X
  obtain ⟨fdr, Fr⟩ := Fr
  have br : L2.Binds K fdr ("multiply" :: ["unit", "one", "exponent"]) [] := Fr.bindsN fun _ _ _ _ _ _ us hl => match us, hl with | [_, _, _, _], _ => rfl
  refine mkGL F hm sc_power_by (fun _ _ _ _ _ _ us hl => match us, hl with | [_, _, _], _ => rfl) (fun ds r h => ?len) (fun A outer s H E hr => ?body)
  case len => (obtain ⟨_, _, _, rfl, _⟩ := h; rfl)
  case body =>
    have sc := sc_power_by
    refine ⟨_, (pss_cons (ps_if (PW.pt (pw_or (pt_cmpR op_lt (pv 1) pe_int (nomark _)) (pw_or1 (pt_cmpR op_lt (pv 2) pe_int (nomark _))))) (pss_one (ps_rz rfl takesE PySem.F.excBase_ValueError Tx.xNumberError.1 Tx.gNumberError Tx.xNumberError.2.1 (raises_own Tx.xNumberError.2.2.1 Tx.xNumberError.2.2.2) rfl)) pss_nil)
  (pss_one (ps_ret (pe_lamP (ps := ["one", "other"]) (rs := ["unit", "one", "exponent"]) (k := 1) (kl := 0) Fr hmr br sc_repeated (Or.inl rfl) (fun _ => gives_repeated (T := T)) (by decide) B.tb rfl B.mm B.hu hr (show LamP (defScope s_power_by) _ _ from ⟨rfl, rfl, rfl, by decide +kernel, by decide +kernel, by decide +kernel, by decide +kernel⟩) (show ∀ x ∈ (["number", "exponent", "base"] : List Str), x ∉ (["one", "other"] : List Str) from by decide +kernel) rfl (fun _ _ _ _ _ us hl => match us, hl with | [_, _], _ => rfl) psE (fun A outer s H f c' hr => (pe_op op_modN (pe_op Py.op_mulX (pv 0) (pv 1)) (pv 4))) (pa_cons (pe_op op_modN pe_int (pv 2)) (pa_cons (pe_op op_modN (pv 0) (pv 2)) (pa_cons (pv 1) pa_nil))))))), fun O ds r hg => ?_⟩
    clear sc hr
    try dsimp only [cxOf]

    obtain ⟨x, e, b, rfl, hb, rfl⟩ := hg
    unfold powByR
    by_cases hc : e < 0 ∨ b < 1
    · rw [if_pos hc]
      refine r_seq (r_ifTs ?_ (r_raise rfl))
      by_cases he : e < 0
      · exact t_orT (t_is (by wtm_at "ev") (decide_eq_true he))
      · exact t_orF (t_is (by wtm_at "ev") (decide_eq_false he)) (t_is (by wtm_at "ev") (decide_eq_true (by omega)))
    · rw [if_neg hc]
      have hb1 : 1 ≤ b := by omega
      obtain ⟨n, rfl⟩ : ∃ n : Nat, e = n := ⟨e.toNat, by omega⟩
      refine r_seq (r_ifFs (t_orF (t_is (by wtm_at "ev") (decide_eq_false (by omega))) (t_is (by wtm_at "ev") (decide_eq_false (by omega)))) (r_next ?_))
      have fe : ∀ z : Int, z.fmod b = z % b := fun z => Int.fmod_eq_emod_of_nonneg z (by omega)
      have h0 : b ≠ 0 := by omega
      refine r_ret (d := di (x ^ n % b)) (e_lamP (R := fun ds r => ∃ i j : Nat, i + j ≤ n ∧ ds = [di (x ^ i % b), di (x ^ j % b)] ∧ r = di (x ^ (i + j) % b)) (ds := [di (x ^ 0 % b), di (x ^ 1 % b), di (n : Int)]) rfl ?_ rfl ?_ ⟨fun i => di (x ^ i % b), n, rfl, fun i j h => ⟨i, j, h, rfl, rfl⟩, rfl⟩) rfl
      · rw [Int.pow_zero, Int.pow_one, ← fe, ← fe]
        wtm_at "ev"
      · rintro H' xs y ⟨i, j, h, rfl, rfl⟩
        have m : PMul (x ^ i % b) (x ^ j % b) := mulX 4000 4000 (mod_sz hb hb1) (mod_sz hb hb1)
        have e1 : x ^ (i + j) % b = ((x ^ i % b) * (x ^ j % b)).fmod b := by rw [fe, Int.pow_add, Int.mul_emod]
        rw [e1]
        wtm_at "ev"


theorem n_mod (m d : Nat) : (m : Int).fmod (d : Int) = ((m % d : Nat) : Int) := by
  rw [Int.fmod_eq_emod_of_nonneg _ (Int.natCast_nonneg d)]
  rfl
theorem n_div (m d : Nat) : (m : Int).fdiv (d : Int) = ((m / d : Nat) : Int) := by
  rw [Int.fdiv_eq_ediv_of_nonneg _ (Int.natCast_nonneg d)]
  rfl
theorem n_sz {n : Nat} {m : Nat} (h : m < 2 ^ n) : Sz n (m : Int) := h
/-- a divisor is taken out: what is left, how often -/
def outF : Nat → Nat → Nat → Nat → Nat × Nat
  | 0, n, _, e => (n, e)
  | k + 1, n, d, e => if n % d = 0 then outF k (n / d) d (e + 1) else (n, e)
def outN (n d : Nat) : Nat × Nat := outF n n d 0
theorem outF_step {k n d e : Nat} (h : n % d = 0) : outF (k + 1) n d e = outF k (n / d) d (e + 1) := if_pos h
theorem outF_done {k n d e : Nat} (h : n % d ≠ 0) : outF k n d e = (n, e) := by
  cases k with
  | zero => rfl
  | succ k => exact if_neg h
theorem div_lt {n d : Nat} (h0 : 0 < n) (hd : 2 ≤ d) (h : n % d = 0) : 0 < n / d ∧ 2 * (n / d) ≤ n := by
  have e := Nat.div_add_mod n d
  have h1 : 2 * (n / d) ≤ d * (n / d) := Nat.mul_le_mul_right _ hd
  have h2 : n / d ≠ 0 := fun z => by rw [z] at e; omega
  omega
theorem outF_le {d : Nat} (hd : 2 ≤ d) : ∀ {k n e : Nat}, 0 < n → 0 < (outF k n d e).1 ∧ (outF k n d e).1 ≤ n
  | 0, n, e, h => ⟨h, Nat.le_refl _⟩
  | k + 1, n, e, h => by
    unfold outF
    split
    · rename_i q
      have := div_lt h hd q
      have := outF_le hd (k := k) (e := e + 1) this.1
      omega
    · exact ⟨h, Nat.le_refl _⟩
theorem outN_le {n d : Nat} (h0 : 0 < n) (hd : 2 ≤ d) (h : n % d = 0) : 0 < (outN n d).1 ∧ 2 * (outN n d).1 ≤ n := by
  unfold outN
  obtain ⟨m, rfl⟩ : ∃ m, n = m + 1 := ⟨n - 1, by omega⟩
  rw [outF_step h]
  have h1 := div_lt h0 hd h
  have h2 := outF_le hd (k := m) (e := 0 + 1) h1.1
  omega
def sp_out : List Dt → Rs → Prop := fun ds r => ∃ n d : Nat, ds = [di (n : Int), di (d : Int)] ∧ 0 < n ∧ 2 ≤ d ∧ d < 2 ^ 8000 ∧ r = .ok (.tup [di ((outN n d).1 : Int), di ((outN n d).2 : Int)])

theorem ok_divided_out (X : Txt K mg) (F : ∃ fd, FunD K "divided_out" "divided_out" (defArgs s_divided_out) (defBody s_divided_out) (defScope s_divided_out) [] [] (He.ga K "divided_out") fd) (hm : mg "divided_out" = some (.ref (He.ga K "divided_out"))) : Gd P w K mg base "divided_out" ["number", "divisor"] 1 (spD K T sp_out) := by
  have Tx := X
  refine mkG F hm sc_divided_out (fun _ _ _ _ _ _ us hl => match us, hl with | [_, _], _ => rfl) (fun ds r h => ?len) (fun cdv A outer s H E hr => ?body)
  case len => (obtain ⟨_, _, rfl, _⟩ := h; rfl)
  case body =>
    have sc := sc_divided_out
    refine ⟨_, (pss_cons (ps_par (i := 2) (j := 3) rfl sc.nd rfl rfl (by decide) rfl rfl (pa_cons (pv 0) (pa_cons pe_int pa_nil)) (by rfl))
  (pss_cons (ps_while (passesE) (pt_cmpR (op_eqA hr.units) (pe_op op_modN (pv 2) (pv 1)) pe_int (nomark _)) (pss_one (ps_par (i := 2) (j := 3) rfl sc.nd rfl rfl (by decide) rfl rfl (pa_cons (pe_op op_fdivX (pv 2) (pv 1)) (pa_cons (pe_op op_addA (pv 3) pe_int) pa_nil)) (by rfl))))
  (pss_one (ps_ret (pe_tup (pa_cons (pv 2) (pa_cons (pv 3) pa_nil))))))), fun O ds r hg => ?_⟩
    clear sc hr
    try dsimp only [cxOf]

    obtain ⟨n, d, rfl, hn, hd, hz, rfl⟩ := hg
    have hz' : (d : Int).natAbs < 2 ^ 8000 := hz
    have d0 : (d : Int) ≠ 0 := by omega
    refine r_seq (r_par (by wtm_at "ev") ?_)
    refine r_seq (r_while (fun m A => ∃ k e : Nat, 0 < m ∧ m ≤ k ∧ outF k m d e = outN n d ∧ A = ⟨[.d (di (n : Int)), .d (di (d : Int)), .d (di (m : Int)), .d (di (e : Int))], []⟩) n ⟨n, 0, hn, Nat.le_refl _, rfl, rfl⟩ ?_)
    rintro m A ⟨k, e, h0, hk, he, rfl⟩
    refine ⟨decide ((m : Int).fmod (d : Int) = 0), _, by wtm_at "ev", fun hb => ?_, fun hb => ?_⟩
    · have hb' : m % d = 0 := by
        have := of_decide_eq_true hb
        rw [n_mod] at this
        omega
      have dv : PDiv (m : Int) (d : Int) := divX 8000 hz' d0
      have lt := div_lt h0 hd hb'
      obtain ⟨k, rfl⟩ : ∃ j, k = j + 1 := ⟨k - 1, by omega⟩
      refine r_par (by wtm_at "ev") ⟨m / d, by omega, k, e + 1, lt.1, by omega, by rw [← he, outF_step hb'], ?_⟩
      rw [n_div]
      rfl
    · have hb' : m % d ≠ 0 := fun z => by
        have := of_decide_eq_false hb
        rw [n_mod, z] at this
        exact this rfl
      rw [outF_done hb'] at he
      refine r_ret (by wtm_at "ev") ?_
      rw [← he]
      rfl

/-! ### the prime factors -/
def nxt (d : Nat) : Nat := if 2 < d then d + 2 else 3
abbrev Row := Nat × Nat
def row (p : Row) : Dt := .tup [di (p.1 : Int), di (p.2 : Int)]
def pfF : Nat → Nat → Nat → List Row → Nat × List Row
  | 0, l, _, rs => (l, rs)
  | k + 1, l, d, rs => if d ≤ 1000000 ∧ d * d ≤ l then (if l % d = 0 then pfF k (outN l d).1 (nxt d) (rs ++ [(d, (outN l d).2)]) else pfF k l (nxt d) rs) else (l, rs)
def pfN (n : Nat) : Nat × List Row := pfF 1000001 n 2 []
def pfRows (p : Nat × List Row) : List Row := if 1 < p.1 then p.2 ++ [(p.1, 1)] else p.2
def pfR (e : Addr) (n : Int) : Rs := if n = 0 then .err e else if 1000000000000 < (pfN n.natAbs).1 then .err e else .ok (.tupZ ((pfRows (pfN n.natAbs)).map row))
theorem pfF_done {k l d : Nat} {rs : List Row} (h : ¬ (d ≤ 1000000 ∧ d * d ≤ l)) : pfF k l d rs = (l, rs) := by
  cases k with
  | zero => rfl
  | succ k => exact if_neg h
theorem nxt_le {d : Nat} (h : 2 ≤ d) : d < nxt d ∧ nxt d ≤ d + 2 := by
  unfold nxt
  split <;> omega
def sp_pf (K : Frg) : List Dt → Rs → Prop := fun ds r => ∃ n : Int, ds = [di n] ∧ Sz 8000 n ∧ r = pfR (NE K) n

theorem ok_prime_factors (X : Txt K mg) (F : ∃ fd, FunD K "prime_factors" "prime_factors" (defArgs s_prime_factors) (defBody s_prime_factors) (defScope s_prime_factors) [] [] (He.ga K "prime_factors") fd) (hm : mg "prime_factors" = some (.ref (He.ga K "prime_factors"))) (G_divided_out : Gd P w K mg base "divided_out" ["number", "divisor"] 1 (spD K T sp_out)) : Gd P w K mg base "prime_factors" ["number"] 2 (spD K T (sp_pf K)) := by
  have Tx := X
  refine mkG F hm sc_prime_factors (fun _ _ _ _ _ _ us hl => match us, hl with | [_], _ => rfl) (fun ds r h => ?len) (fun cdv A outer s H E hr => ?body)
  case len => (obtain ⟨_, rfl, _⟩ := h; rfl)
  case body =>
    have sc := sc_prime_factors
    refine ⟨_, (pss_cons (ps_if (pt_cmpR (op_eqA hr.units) (pv 0) pe_int (nomark _)) (pss_one (ps_rz rfl takesE PySem.F.excBase_ValueError Tx.xNumberError.1 Tx.gNumberError Tx.xNumberError.2.1 (raises_own Tx.xNumberError.2.2.1 Tx.xNumberError.2.2.2) rfl)) pss_nil)
  (pss_cons (ps_par3 (i := 1) (j := 2) (l := 3) rfl sc.nd rfl rfl rfl (by decide) (by decide) (by decide) rfl rfl rfl (pa_cons (pe_lst pa_nil) (pa_cons (pe_callB call_abs (by rfl) Tx.n_abs (by decide +kernel) (pa_cons (pv 0) pa_nil)) (pa_cons pe_int pa_nil))) (by rfl))
  (pss_cons (ps_while (passesE) (PW.pt (pw_and (pt_cmpR op_le (pv 3) (peC Tx.c_MOST_TRIAL) (nomark _)) (pw_and1 (pt_cmpR op_le (pe_op op_mulA (pv 3) (pv 3)) (pv 2) (nomark _))))) (pss_cons (ps_if (pt_cmpR (op_eqA hr.units) (pe_op op_modN (pv 2) (pv 3)) pe_int (nomark _)) (pss_cons (ps_asg (pe_callG G_divided_out (hr.mono (by decide)) psE (pa_cons (pv 2) (pa_cons (pv 3) pa_nil))) (pg_tup rfl (pgs_cons (pg_name (i := 2) sc.nd rfl (Or.inl rfl)) (pgs_cons (pg_name (i := 4) sc.nd rfl (Or.inl rfl)) pgs_nil))))
  (pss_one (ps_expr (pe_bm PySem.F.plainAttrs_list PySem.F.slot_list_append PySem.F.type_list_append mt_append (pv 1) (pa_cons (pe_tup (pa_cons (pv 3) (pa_cons (pv 4) pa_nil))) pa_nil))))) pss_nil)
  (pss_one (ps_set (i := 3) sc.nd rfl (Or.inl rfl) (pe_ifExp (pt_cmpR op_gt (pv 3) pe_int (nomark _)) (pe_op op_addA (pv 3) pe_int) pe_int)))))
  (pss_cons (ps_if (pt_cmpR op_gt (pv 2) (pe_op op_mulA (peC Tx.c_MOST_TRIAL) (peC Tx.c_MOST_TRIAL)) (nomark _)) (pss_one (ps_rz rfl takesE PySem.F.excBase_ValueError Tx.xNumberError.1 Tx.gNumberError Tx.xNumberError.2.1 (raises_own Tx.xNumberError.2.2.1 Tx.xNumberError.2.2.2) rfl)) pss_nil)
  (pss_cons (ps_if (pt_cmpR op_gt (pv 2) pe_int (nomark _)) (pss_one (ps_expr (pe_bm PySem.F.plainAttrs_list PySem.F.slot_list_append PySem.F.type_list_append mt_append (pv 1) (pa_cons (pe_tup (pa_cons (pv 2) (pa_cons pe_int pa_nil))) pa_nil)))) pss_nil)
  (pss_one (ps_ret (pe_callTy call_tupleZ (by rfl) Tx.n_tuple (by decide +kernel) (pa_cons (pv 1) pa_nil))))))))), fun O ds r hg => ?_⟩
    clear sc hr
    try dsimp only [cxOf]

    obtain ⟨n, rfl, hz, rfl⟩ := hg
    unfold pfR
    refine r_seq (r_ifs (b := decide (n = 0)) (by wtm_at "ev") (fun hc => ?_) fun hc => ?_)
    · rw [if_pos (by simpa using hc)]
      exact r_raise rfl
    have h0 : n ≠ 0 := by simpa using hc
    rw [if_neg h0]
    have ea : (if n < 0 then -n else n) = (n.natAbs : Int) := by split <;> omega
    refine r_next (r_seq (r_par3P (p_l a_nil (by decide) (p_d (e_is (by wtm_at "ev") (congrArg di ea)) (p_d (by wtm_at "ev") p_nil))) ?_))
    refine r_cut (fun A' => ∃ (l d : Nat) (rs : List Row) (x : SD), pfN n.natAbs = (l, rs) ∧ 0 < l ∧ rs.length < 8000 ∧ A' = ⟨[.d (di n), .own 0, .d (di (l : Int)), .d (di (d : Int)), x], [.lst (rs.map row)]⟩) (r_while (fun m A => ∃ (l d k : Nat) (rs : List Row) (x : SD), 0 < l ∧ l * 2 ^ rs.length ≤ n.natAbs ∧ 2 ≤ d ∧ d ≤ 1000002 ∧ m = 1000003 - d ∧ m ≤ k ∧ pfF k l d rs = pfN n.natAbs ∧ A = ⟨[.d (di n), .own 0, .d (di (l : Int)), .d (di (d : Int)), x], [.lst (rs.map row)]⟩) 1000001 ⟨n.natAbs, 2, 1000001, [], .un, by omega, by simp, by omega, by omega, rfl, by omega, rfl, rfl⟩ ?_) ?_
    case refine_2 =>
      rintro A' ⟨l, d, rs, x, he, hl, len, rfl⟩
      rw [he]
      dsimp only
      have mm : PMul 1000000 1000000 := mulX 20 20 (by decide) (by decide)
      by_cases c : 1000000000000 < l
      · rw [if_pos c]
        exact r_seq (r_ifTs (t_is (t_test (by wtm_at "ev")) (decide_eq_true (by omega))) (r_raise rfl))
      · rw [if_neg c]
        refine r_seq (r_ifFs (t_is (t_test (by wtm_at "ev")) (decide_eq_false (by omega))) (r_next ?_))
        unfold pfRows
        dsimp only
        by_cases c1 : 1 < l
        · rw [if_pos c1]
          refine r_seq (r_ifTs (t_is (t_test (by wtm_at "ev")) (decide_eq_true (by omega))) (r_drop (e_append (n := 0) rfl rfl (by wtm_at "ev") rfl rfl (by rw [List.length_map]; omega)) ?_))
          refine r_ret (e_tupOZ (n := 0) rfl rfl) ?_
          rw [List.map_append]
          rfl
        · rw [if_neg c1]
          refine r_seq (r_ifFs (t_is (t_test (by wtm_at "ev")) (decide_eq_false (by omega))) (r_next ?_))
          exact r_ret (e_tupOZ (n := 0) rfl rfl) rfl
    case refine_1 =>
      rintro m A ⟨l, d, k, rs, x, hl, hp, hd, hd2, rfl, hk, he, rfl⟩
      have hln : l ≤ n.natAbs := Nat.le_trans (Nat.le_mul_of_pos_right _ (Nat.pow_pos (by decide))) hp
      have hzn : n.natAbs < 2 ^ 8000 := hz
      have len : rs.length < 8000 := by
        have h1 : 2 ^ rs.length ≤ n.natAbs := Nat.le_trans (Nat.le_mul_of_pos_left _ hl) hp
        exact (Nat.pow_lt_pow_iff_right (by decide : 1 < 2)).mp (Nat.lt_of_le_of_lt h1 hzn)
      have mm : PMul (d : Int) (d : Int) := mulX 20 20 (by show d < 2 ^ 20; omega) (by show d < 2 ^ 20; omega)
      have sq : ((d : Int) * (d : Int) ≤ (l : Int)) ↔ d * d ≤ l := by rw [← Int.natCast_mul]; omega
      by_cases c : d ≤ 1000000 ∧ d * d ≤ l
      · refine ⟨true, _, t_andT (t_is (t_test (by wtm_at "ev")) (decide_eq_true (by omega))) (t_is (t_test (by wtm_at "ev")) (decide_eq_true (sq.mpr c.2))), fun _ => ?_, fun z => by cases z⟩
        obtain ⟨k, rfl⟩ : ∃ j, k = j + 1 := ⟨k - 1, by omega⟩
        have he' : (if l % d = 0 then pfF k (outN l d).1 (nxt d) (rs ++ [(d, (outN l d).2)]) else pfF k l (nxt d) rs) = pfN n.natAbs := by
          rw [← he]
          exact (if_pos c).symm
        have nx := nxt_le hd
        have n3 : nxt d ≤ 1000002 := by omega
        have d0 : (d : Int) ≠ 0 := by omega
        refine r_cut (fun A' => ∃ (l' : Nat) (rs' : List Row) (x' : SD), 0 < l' ∧ l' * 2 ^ rs'.length ≤ n.natAbs ∧ pfF k l' (nxt d) rs' = pfN n.natAbs ∧ A' = ⟨[.d (di n), .own 0, .d (di (l' : Int)), .d (di (d : Int)), x'], [.lst (rs'.map row)]⟩) ?_ ?_
        · by_cases hm : l % d = 0
          · refine r_ifTs (t_is (t_test (by wtm_at "ev")) (decide_eq_true (by rw [n_mod, hm]; rfl))) ?_
            rw [if_pos hm] at he'
            have lo := outN_le hl hd hm
            refine r_seq (r_tg (e_call (by wtm_at "ev") ⟨l, d, rfl, hl, hd, Nat.lt_of_lt_of_le (by omega : d < 2 ^ 20) (Nat.pow_le_pow_right (by decide) (by decide)), rfl⟩) (tg_tup rfl (tgA_cons tg_name (tgA_cons tg_name tgA_nil))) ?_)
            refine r_drop (e_append (n := 0) rfl rfl (by wtm_at "ev") rfl rfl (by rw [List.length_map]; omega)) ?_
            refine ⟨(outN l d).1, rs ++ [(d, (outN l d).2)], .d (di ((outN l d).2 : Int)), lo.1, ?_, he', ?_⟩
            · rw [List.length_append, List.length_singleton, Nat.pow_succ, ← Nat.mul_assoc, Nat.mul_right_comm]
              exact Nat.le_trans (Nat.mul_le_mul_right _ (by omega)) hp
            · rw [List.map_append]
              rfl
          · rw [if_neg hm] at he'
            refine r_ifFs (t_is (t_test (by wtm_at "ev")) (decide_eq_false fun z => hm (by rw [n_mod] at z; omega))) (r_next ?_)
            exact ⟨l, rs, x, hl, hp, he', rfl⟩
        · rintro A' ⟨l', rs', x', hl', hp', he'', rfl⟩
          have en : (if (2 : Int) < (d : Int) then (d : Int) + 2 else 3) = (nxt d : Int) := by
            unfold nxt
            split <;> split <;> omega
          by_cases h2 : 2 < d
          · refine r_asg (e_ifT (t_is (t_test (by wtm_at "ev")) (decide_eq_true (by omega))) (by wtm_at "ev")) ?_
            refine ⟨1000003 - nxt d, by omega, l', nxt d, k, rs', x', hl', hp', by omega, n3, rfl, by omega, he'', ?_⟩
            rw [show ((d : Int) + 2) = (nxt d : Int) by rw [← en, if_pos (by omega)]]
            rfl
          · refine r_asg (e_ifF (t_is (t_test (by wtm_at "ev")) (decide_eq_false (by omega))) (by wtm_at "ev")) ?_
            refine ⟨1000003 - nxt d, by omega, l', nxt d, k, rs', x', hl', hp', by omega, n3, rfl, by omega, he'', ?_⟩
            rw [show (3 : Int) = (nxt d : Int) by rw [← en, if_neg (by omega)]]
            rfl
      · have dn : pfN n.natAbs = (l, rs) := by rw [← he, pfF_done c]
        have nx : ∃ (l' d' : Nat) (rs' : List Row) (x' : SD), pfN n.natAbs = (l', rs') ∧ 0 < l' ∧ rs'.length < 8000 ∧ (⟨[.d (di n), .own 0, .d (di (l : Int)), .d (di (d : Int)), x], [.lst (rs.map row)]⟩ : AS) = ⟨[.d (di n), .own 0, .d (di (l' : Int)), .d (di (d' : Int)), x'], [.lst (rs'.map row)]⟩ := ⟨l, d, rs, x, dn, hl, len, rfl⟩
        by_cases c1 : d ≤ 1000000
        · have c2 : ¬ d * d ≤ l := fun z => c ⟨c1, z⟩
          exact ⟨false, _, t_andT (t_is (t_test (by wtm_at "ev")) (decide_eq_true (by omega))) (t_is (t_test (by wtm_at "ev")) (decide_eq_false fun z => c2 (sq.mp z))), fun z => (by cases z), fun _ => nx⟩
        · exact ⟨false, _, t_andF (t_is (t_test (by wtm_at "ev")) (decide_eq_false (by omega))), fun z => (by cases z), fun _ => nx⟩


end
end Law
end

section
set_option Elab.async false
set_option linter.all false
set_option maxRecDepth 100000
set_option maxHeartbeats 4000000
set_option autoImplicit false
set_option exponentiation.threshold 300
namespace Law
open PySem PySem.Spec PyProof.Rows L2 Py Mt

local macro_rules | `(tactic| wtm_at "op") => `(tactic| first
  | with_reducible exact o_I0 | with_reducible exact o_add | with_reducible exact o_eqI | with_reducible exact o_neI
  | ((with_reducible apply o_mul); first | assumption | wtm_at "si")
  | ((with_reducible apply o_I); first | assumption | wtm_at "si")
  | ((with_reducible apply o_ixT); rfl) | ((with_reducible apply o_ixL); rfl)
  | ((with_reducible apply o_eqD) <;> first | rfl | decide | assumption) | ((with_reducible apply o_neD) <;> first | rfl | decide | assumption)
  | with_reducible assumption)
local macro_rules | `(tactic| wtm_at "si") => `(tactic| first | decide | exact ⟨by decide, by decide +kernel⟩ | omega)
local macro_rules | `(tactic| wtm_at "ev") => `(tactic| first
  | ((with_reducible apply e_var); rfl) | with_reducible exact e_c | with_reducible exact a_nil
  | ((with_reducible apply a_cons) <;> wtm_at "ev")
  | ((with_reducible apply e_bin) <;> first | wtm_at "ev" | wtm_at "op")
  | ((with_reducible apply e_ixO) <;> first | rfl | wtm_at "ev")
  | ((with_reducible apply e_U) <;> wtm_at "ev")
  | ((with_reducible apply t_test) <;> wtm_at "ev")
  | ((with_reducible apply t_B) <;> wtm_at "ev")
  | ((with_reducible apply t_not) <;> wtm_at "ev")
  | ((with_reducible apply e_tup) <;> first | wtm_at "ev" | exact Nat.le_of_ble_eq_true rfl)
  | ((with_reducible apply e_lst) <;> first | wtm_at "ev" | exact Nat.le_of_ble_eq_true rfl)
  | ((with_reducible apply e_gcd) <;> wtm_at "ev")
  | ((with_reducible apply e_abs) <;> wtm_at "ev")
  | ((with_reducible apply e_max2) <;> wtm_at "ev")
  | ((with_reducible apply e_int) <;> wtm_at "ev")
  | ((with_reducible apply e_intB) <;> wtm_at "ev")
  | ((with_reducible apply e_bits) <;> wtm_at "ev")
  | ((with_reducible apply e_not) <;> wtm_at "ev")
  | with_reducible assumption)

section
variable {P : Program} {w : World} {K : Frg} {T : List (Addr × Str)} {mg : Str → Option Value} {base : Heap}

abbrev s__law_dice : Stmt := top 21
theorem sc__law_dice : FnScope ["cell"] ["cell"] (defScope s__law_dice) := ⟨rfl, rfl, rfl, by decide +kernel, rfl, by decide +kernel, by decide +kernel⟩
abbrev s__law_roll : Stmt := top 22
theorem sc__law_roll : FnScope ["dice", "many", "found"] ["dice", "many"] (defScope s__law_roll) := ⟨rfl, rfl, rfl, by decide +kernel, rfl, by decide +kernel, by decide +kernel⟩
abbrev s__law_rounds : Stmt := top 23
theorem sc__law_rounds : FnScope ["script", "most", "cells", "cell"] ["script", "most"] (defScope s__law_rounds) := ⟨rfl, rfl, rfl, by decide +kernel, rfl, by decide +kernel, by decide +kernel⟩
theorem ok_law_dice (X : Txt K mg) (F : ∃ fd, FunD K "_law_dice" "_law_dice" (defArgs s__law_dice) (defBody s__law_dice) (defScope s__law_dice) [] [] (He.ga K "_law_dice") fd) (hm : mg "_law_dice" = some (.ref (He.ga K "_law_dice"))) : Gd P w K mg base "_law_dice" ["cell"] 1 (spDice K T) := by
  have Tx := X
  obtain ⟨fd, F⟩ := F
  have hb := F.bindsN (ps := ["cell"]) fun _ _ _ _ _ _ us hl => match us, hl with | [_], _ => rfl
  refine ⟨_, fd, F.ok sc__law_dice (fun vs H Q E h => ?len) (fun cdv A outer s H vs Q E hr h => ?body), hb, F.kp, hm⟩
  case len => (obtain ⟨c, rfl, _⟩ := h; rfl)
  case body =>
    have sc := sc__law_dice
    refine ⟨_, (pss_cons (ps_if (pt_chain op_lt op_lt (pe_op op_sub pe_int pe_int) (pv 0) pe_int) (pss_one (ps_ret (pe_lst (pa_cons (pe_callB call_abs (by rfl) Tx.n_abs (by decide +kernel) (pa_cons (pv 0) pa_nil)) (pa_cons pe_int (pa_cons pe_int pa_nil)))))) pss_nil)
  (pss_one (ps_ret (pe_lst (pa_cons (pv 0) (pa_cons (pe_op op_addA pe_int (pe_op op_modN (pe_callTy call_int1 (by rfl) Tx.n_int (by decide +kernel) (pa_cons (pv 0) pa_nil)) pe_int)) (pa_cons (pe_callTy call_int1 (by rfl) Tx.n_int (by decide +kernel) (pa_cons (pe_cmpR op_ge (pv 0) (pe_op op_pow pe_int pe_int) (nomark _)) pa_nil)) pa_nil))))))), ?_⟩
    clear sc hr
    try dsimp only [cxOf]

    obtain ⟨c, rfl, hz, ht, q⟩ := h
    have k := start_flat (K := K) (N := ["cell"]) (vs := [.int c]) ht
    have lt : ∀ {x y : Int} {b : Bool}, decide (x < y) = b → OpS ⟨K, T, H, []⟩ (rI0 fun i j => .bl (decide (i < j))) (di x) (di y) (db b) := fun e => o_is o_I0 (by rw [e])
    have no : ¬ (-10 < c ∧ c < 10) → mkDice c = ⟨c, 1 + c.fmod 1009, if 10 ^ 18 ≤ c then 1 else 0⟩ := fun h => if_neg h
    by_cases h1 : (0 : Int) - 10 < c
    · by_cases h2 : c < 10
      · refine t_test (e_chainT (by wtm_at "ev") (by wtm_at "ev") (lt (decide_eq_true h1)) (by wtm_at "ev") (lt (decide_eq_true h2))) [] _ H k _ fun os1 H1 k1 g1 => ?_
        rw [if_pos rfl]
        refine ret_newL (xs := [.int (if c < 0 then -c else c), .int 0, .int 2]) k1 (by wtm_at "ev") (Nat.le_of_ble_eq_true rfl) (by rfl) rfl fun a H' f e t hl => q a H' f e t ?_
        have em : mkDice c = ⟨c.natAbs, 0, 2⟩ := if_pos ⟨by omega, h2⟩
        rw [hl, em]
        have ea : (if c < 0 then -c else c) = (c.natAbs : Int) := by split <;> omega
        rw [ea]
        rfl
      · refine t_test (e_chainT (by wtm_at "ev") (by wtm_at "ev") (lt (decide_eq_true h1)) (by wtm_at "ev") (lt (decide_eq_false h2))) [] _ H k _ fun os1 H1 k1 g1 => ?_
        rw [if_neg (by decide)]
        dsimp only [tNext]
        refine ret_newL (xs := [.int c, .int (1 + c.fmod 1009), .int (if decide ((10 : Int) ^ (18 : Int).toNat ≤ c) = true then 1 else 0)]) k1 (by wtm_at "ev") (Nat.le_of_ble_eq_true rfl) (by rfl) rfl fun a H' f e t hl => q a H' f e t ?_
        rw [hl, no (by omega)]
        show some (HO.lst [V.int c, V.int (1 + c.fmod 1009), V.int (if decide ((10 : Int) ^ 18 ≤ c) = true then 1 else 0)]) = _
        simp [Dice.vs]
    · refine t_test (e_chainF (by wtm_at "ev") (by wtm_at "ev") (lt (decide_eq_false h1))) [] _ H k _ fun os1 H1 k1 g1 => ?_
      rw [if_neg (by decide)]
      dsimp only [tNext]
      refine ret_newL (xs := [.int c, .int (1 + c.fmod 1009), .int (if decide ((10 : Int) ^ (18 : Int).toNat ≤ c) = true then 1 else 0)]) k1 (by wtm_at "ev") (Nat.le_of_ble_eq_true rfl) (by rfl) rfl fun a H' f e t hl => q a H' f e t ?_
      rw [hl, no (by omega)]
      show some (HO.lst [V.int c, V.int (1 + c.fmod 1009), V.int (if decide ((10 : Int) ^ 18 ≤ c) = true then 1 else 0)]) = _
      simp [Dice.vs]

theorem ok_law_roll (X : Txt K mg) (F : ∃ fd, FunD K "_law_roll" "_law_roll" (defArgs s__law_roll) (defBody s__law_roll) (defScope s__law_roll) [] [] (He.ga K "_law_roll") fd) (hm : mg "_law_roll" = some (.ref (He.ga K "_law_roll"))) : Gd P w K mg base "_law_roll" ["dice", "many"] 1 (spRoll K T) := by
  have Tx := X
  obtain ⟨fd, F⟩ := F
  have hb := F.bindsN (ps := ["dice", "many"]) fun _ _ _ _ _ _ us hl => match us, hl with | [_, _], _ => rfl
  refine ⟨_, fd, F.ok sc__law_roll (fun vs H Q E h => ?len) (fun cdv A outer s H vs Q E hr h => ?body), hb, F.kp, hm⟩
  case len => (obtain ⟨a, d, m, c, rfl, _⟩ := h; rfl)
  case body =>
    have sc := sc__law_roll
    refine ⟨_, (pss_cons (ps_if (PW.pt (pw_or (pt_cmpR (op_eqA hr.units) (pe_ix ix_seq (pv 0) pe_int (fun _ _ => rfl)) pe_int (nomark _)) (pw_or1 (PW.pt (pw_and (pt_cmpR (op_eqA hr.units) (pe_ix ix_seq (pv 0) pe_int (fun _ _ => rfl)) pe_int (nomark _)) (pw_and1 (pt_cmpR op_gt (pe_ix ix_seq (pv 0) pe_int (fun _ _ => rfl)) pe_int (nomark _)))))))) (pss_cons (ps_set (i := 2) sc.nd rfl (Or.inl rfl) (pe_op op_modN (pe_callTy call_int1 (by rfl) Tx.n_int (by decide +kernel) (pa_cons (pe_ix ix_seq (pv 0) pe_int (fun _ _ => rfl)) pa_nil)) (pv 1)))
  (pss_cons (ps_asg (pe_op op_fdivX (pe_ix ix_seq (pv 0) pe_int (fun _ _ => rfl)) (pv 1)) (pg_sub (pv 0) pe_int set_list))
  (pss_one (ps_ret (pv 2))))) pss_nil)
  (pss_cons (ps_asg pe_int (pg_sub (pv 0) pe_int set_list))
  (pss_cons (ps_asg (pe_op op_modN (pe_callTy call_int1 (by rfl) Tx.n_int (by decide +kernel) (pa_cons (pe_op op_addA (pe_op op_addA (pe_op op_mulA (pe_ix ix_seq (pv 0) pe_int (fun _ _ => rfl)) pe_int) (pe_op op_mulA (pe_ix ix_seq (pv 0) pe_int (fun _ _ => rfl)) pe_int)) pe_int) pa_nil)) pe_int) (pg_sub (pv 0) pe_int set_list))
  (pss_cons (ps_asg (pe_op op_addA (pe_ix ix_seq (pv 0) pe_int (fun _ _ => rfl)) pe_int) (pg_sub (pv 0) pe_int set_list))
  (pss_one (ps_ret (pe_op op_modN (pe_callTy call_int1 (by rfl) Tx.n_int (by decide +kernel) (pa_cons (pe_op op_fdivX (pe_ix ix_seq (pv 0) pe_int (fun _ _ => rfl)) pe_int) pa_nil)) (pv 1)))))))), ?_⟩
    clear sc hr
    try dsimp only [cxOf]

    obtain ⟨a, d, m, c, rfl, ha, hk, hc, h0, hs, ht, q⟩ := h
    have k := start_own (K := K) (N := ["dice", "many", "found"]) (ws := [.int m]) ht ha
    have hm0 : m ≠ 0 := by omega
    have dv : PDiv d.x m := divX 8000 hs hm0
    have m1 : PMul d.x 48271 := mulX 2000000 20 hk.x (by decide)
    have m2 : PMul d.y 69621 := mulX 30 20 (Nat.lt_of_le_of_lt hk.y (by omega)) (by decide)
    suffices R : RunS ⟨K, T, _, []⟩ E _ _ { rt := fun r A => r = di (rollV d m) ∧ A.sl[0]? = some (.own 0) ∧ A.st = [.lst (rollD d m).ds] } from
      R [some a] _ H _ k ⟨fun _ _ _ _ z => z.elim, fun os A σ r v H' ⟨h1, h2, h3⟩ k' g' i' => by
        have o0 := g'.p 0 (some a) rfl
        obtain ⟨o, s1, a3, vs, s2, s3, s4⟩ := k'.store (i := 0) (s := .lst (rollD d m).ds) (by rw [h3]; rfl)
        rw [o0] at s1; cases s1; cases s2
        rw [vs_of s4] at s3
        subst h1
        rw [Is.v_iff.mp i']
        refine q H' (fun b o hb e n => k'.ex b o ?_ n) k'.tb s3
        show (if b = a then none else H b) = some o
        rw [if_neg hb]
        exact e, fun _ _ _ _ z => z.elim, fun _ _ _ _ z => z.elim, fun _ _ z => z.elim⟩
    have dz : ∀ z : Int, EvS ⟨K, T, (fun b => if b = a then none else H b), []⟩ (tOp (rEqA K) (tOp (rIx K) (tVar 0) (tC (.int 2))) (tC (.int z))) ⟨[.own 0, .d (di m), .un], [.lst d.ds]⟩ (db (decide (d.z = z))) ⟨[.own 0, .d (di m), .un], [.lst d.ds]⟩ := fun z => by wtm_at "ev"
    have dx : EvS ⟨K, T, (fun b => if b = a then none else H b), []⟩ (tOp (rI0 fun i j => .bl (decide (j < i))) (tOp (rIx K) (tVar 0) (tC (.int 0))) (tC (.int 0))) ⟨[.own 0, .d (di m), .un], [.lst d.ds]⟩ (db (decide (0 < d.x))) ⟨[.own 0, .d (di m), .un], [.lst d.ds]⟩ := by wtm_at "ev"
    by_cases hz : d.z = 2 ∨ (d.z = 1 ∧ 0 < d.x)
    · have eV : rollV d m = d.x.fmod m := if_pos hz
      have eD : rollD d m = ⟨d.x.fdiv m, d.y, d.z⟩ := if_pos hz
      refine r_seq (r_ifTs ?tt ?_)
      case tt =>
        by_cases z2 : d.z = 2
        · exact t_orT (t_is (t_test (dz 2)) (decide_eq_true z2))
        · exact t_orF (t_is (t_test (dz 2)) (decide_eq_false z2)) (t_andT (t_is (t_test (dz 1)) (decide_eq_true (hz.resolve_left z2).1)) (t_is (t_test dx) (decide_eq_true (hz.resolve_left z2).2)))
      refine r_seq (r_asg (by wtm_at "ev") ?_)
      refine r_seq (r_setO (by wtm_at "ev") rfl rfl rfl ?_)
      refine r_ret (by wtm_at "ev") ⟨by rw [eV], rfl, by rw [eD]; rfl⟩
    · have eV : rollV d m = (((d.x * 48271 + d.y * 69621 + 11).fmod 2147483647).fdiv 7).fmod m := if_neg hz
      have eD : rollD d m = ⟨(d.x * 48271 + d.y * 69621 + 11).fmod 2147483647, d.y + 1, 0⟩ := if_neg hz
      refine r_seq (r_ifFs ?tt (r_next ?_))
      case tt =>
        refine t_orF (t_is (t_test (dz 2)) (decide_eq_false fun z => hz (.inl z))) ?_
        by_cases z1 : d.z = 1
        · exact t_andT (t_is (t_test (dz 1)) (decide_eq_true z1)) (t_is (t_test dx) (decide_eq_false fun z => hz (.inr ⟨z1, z⟩)))
        · exact t_andF (t_is (t_test (dz 1)) (decide_eq_false z1))
      refine r_seq (r_setO (by wtm_at "ev") rfl rfl rfl ?_)
      refine r_seq (r_setO (by wtm_at "ev") rfl rfl rfl ?_)
      refine r_seq (r_setO (by wtm_at "ev") rfl rfl rfl ?_)
      refine r_ret (by wtm_at "ev") ⟨by rw [eV], rfl, by rw [eD]; rfl⟩

theorem ok_law_rounds (X : Txt K mg) (F : ∃ fd, FunD K "_law_rounds" "_law_rounds" (defArgs s__law_rounds) (defBody s__law_rounds) (defScope s__law_rounds) [] [] (He.ga K "_law_rounds") fd) (hm : mg "_law_rounds" = some (.ref (He.ga K "_law_rounds"))) (G__law_dice : Gd P w K mg base "_law_dice" ["cell"] 1 (spDice K T)) : Gd P w K mg base "_law_rounds" ["script", "most"] 2 (spRounds K T) := by
  have Tx := X
  obtain ⟨fd, F⟩ := F
  have hb := F.bindsN (ps := ["script", "most"]) fun _ _ _ _ _ _ us hl => match us, hl with | [_, _], _ => rfl
  refine ⟨_, fd, F.ok sc__law_rounds (fun vs H Q E h => ?len) (fun cdv A outer s H vs Q E hr h => ?body), hb, F.kp, hm⟩
  case len => (obtain ⟨s, ns, rfl, _⟩ := h; rfl)
  case body =>
    have sc := sc__law_rounds
    refine ⟨_, (pss_cons (ps_set (i := 2) sc.nd rfl (Or.inl rfl) (pe_slice sl_list (pv 0) po_none (po_some (pv 1))))
  (pss_cons (ps_if (pt_cmpR (op_eqA hr.units) (pv 2) (pe_lst pa_nil) (nomark _)) (pss_one (ps_set (i := 2) sc.nd rfl (Or.inl rfl) (pe_lst (pa_cons pe_int pa_nil)))) pss_nil)
  (pss_one (ps_ret (pe_lc (own := [("cell", 3)]) rfl sc.nd (pi_list (pv 2)) (blkOk_by (own := [("cell", 3)]) (N := ["script", "most", "cells", "cell"]) (sc := defScope s__law_rounds) (by decide +kernel)) (fun _ _ _ _ _ => (pg_name (i := 3) sc.nd rfl (Or.inl rfl))) (fun _ _ _ _ _ => pts_nil) (fun _ _ _ _ _ => (pe_callG G__law_dice (hr.mono (by decide)) passL (pa_cons (pv 3) pa_nil)))))))), ?_⟩
    clear sc hr
    try dsimp only [cxOf]

    obtain ⟨s, ns, rfl, hq, hl, hz, ht, q⟩ := h
    have i1 : IsA K H [.lst (ns.map di), di 1] [.ref s, .int 1] := isA_cons (by rw [Is]; exact ⟨s, _, rfl, hq, (by rw [show ns.map di = (ns.map V.int).map Dt.v by rw [List.map_map]; rfl]; exact flat_isA)⟩) (isA_cons is_v isA_nil)
    have k := start_ok (K := K) (T := T) (N := ["script", "most", "cells", "cell"]) (H := H) (O := []) (fun a h => by cases h) ht i1
    have hc : Sz 1048576 (ns.headD 0) := by
      cases ns with
      | nil => exact Nat.pow_pos (by decide)
      | cons a r => exact hz a (List.mem_cons_self ..)
    have cut : cutL (ns.map di) none (some 1) = (ns.take 1).map di := by
      cases ns with
      | nil => rfl
      | cons a r => simp [cutL, HT.sIx]
    have R : RunS ⟨K, T, H, []⟩ E (tSeq (tAsg (tSl (rSlL K) (tVar 0) tNoPart (tPart (tVar 1))) (gName 2)) (tSeq (tIfS (tTest (tOp (rEqA K) (tVar 2) (tLst tNil))) (tAsg (tLst (tCons (tC (.int 0)) tNil)) (gName 2)) tNext) tNext)) ⟨[.d (.lst (ns.map di)), .d (di 1), .un, .un], []⟩ { nx := fun A => A = ⟨[.d (.lst (ns.map di)), .d (di 1), .d (.lst [di (ns.headD 0)]), .un], []⟩ } := by
      refine r_seq (r_asg (e_slL (by wtm_at "ev") o_no (o_part (by wtm_at "ev"))) ?_)
      rw [cut]
      cases ns with
      | nil =>
        refine r_seq (r_ifTs (t_is (t_test (by wtm_at "ev")) (by rfl)) ?_)
        refine r_asg (by wtm_at "ev") (r_next ?_)
        rfl
      | cons a r =>
        refine r_seq (r_ifFs (t_is (t_test (by wtm_at "ev")) (by rfl)) (r_next (r_next ?_)))
        rfl
    refine seq_last (R [] _ H _ k ⟨fun os A σ H1 hA k1 g1 => ?_, fun _ _ _ _ _ _ z => z.elim, fun _ _ _ _ z => z.elim, fun _ _ _ _ z => z.elim, fun _ _ z => z.elim⟩)
    subst hA
    exact ret_dice (i := 2) (j := 3) k1 rfl hc (by decide) (by rw [k1.sn]; exact Nat.le_of_ble_eq_true rfl) rfl q

end
end Law
end

section
set_option autoImplicit false
set_option linter.all false
/-! Primes: Fermat's little theorem, and numbers whose powers run through all (no library needed). -/
namespace Pm
def Prm (p : Nat) : Prop := 2 ≤ p ∧ ∀ d, d ∣ p → d = 1 ∨ d = p
theorem Prm.mul {p a b : Nat} (h : Prm p) (d : p ∣ a * b) : p ∣ a ∨ p ∣ b := by
  rcases h.2 (Nat.gcd p a) (Nat.gcd_dvd_left p a) with e | e
  · exact .inr (Nat.Coprime.dvd_of_dvd_mul_left e d)
  · exact .inl (by rw [← e]; exact Nat.gcd_dvd_right p a)
theorem Prm.pow {p a n : Nat} (h : Prm p) (d : p ∣ a ^ n) : p ∣ a := by
  induction n with
  | zero =>
    have := Nat.le_of_dvd (by rw [Nat.pow_zero]; decide) d
    have := h.1
    rw [Nat.pow_zero] at *
    omega
  | succ n ih =>
    rw [Nat.pow_succ] at d
    rcases h.mul d with e | e
    · exact ih e
    · exact e
theorem Prm.ne {p q : Nat} (hp : Prm p) (hq : Prm q) (ne : p ≠ q) : Nat.Coprime p q := by
  rcases hp.2 (Nat.gcd p q) (Nat.gcd_dvd_left p q) with e | e
  · exact e
  · rcases hq.2 p (by rw [← e]; exact Nat.gcd_dvd_right p q) with z | z
    · have := hp.1; omega
    · exact (ne z).elim
/-! ### a list without twins, in another one as short -/
theorem perm_of : ∀ {l m : List Nat}, l.Nodup → (∀ x ∈ l, x ∈ m) → m.length ≤ l.length → l.Perm m
  | [], m, _, _, h => by
    have : m = [] := List.length_eq_zero_iff.mp (by simpa using h)
    rw [this]
  | a :: t, m, nd, sub, h => by
    have ha := sub a (List.mem_cons_self ..)
    have e := List.perm_cons_erase ha
    have nd := List.nodup_cons.mp nd
    refine (List.Perm.cons a (perm_of nd.2 (fun x hx => ?_) ?_)).trans e.symm
    · have ne : x ≠ a := fun z => nd.1 (by rw [← z]; exact hx)
      rcases List.mem_cons.mp (e.mem_iff.mp (sub x (List.mem_cons_of_mem _ hx))) with z | z
      · exact (ne z).elim
      · exact z
    · have := e.length_eq
      simp only [List.length_cons] at this h
      omega
theorem map_nd {f : Nat → Nat} : ∀ {l : List Nat}, l.Nodup → (∀ x ∈ l, ∀ y ∈ l, f x = f y → x = y) → (l.map f).Nodup
  | [], _, _ => List.nodup_nil
  | a :: t, nd, inj => by
    have nd := List.nodup_cons.mp nd
    rw [List.map_cons]
    refine List.nodup_cons.mpr ⟨fun z => ?_, map_nd nd.2 fun x hx y hy => inj x (List.mem_cons_of_mem _ hx) y (List.mem_cons_of_mem _ hy)⟩
    obtain ⟨x, hx, e⟩ := List.mem_map.mp z
    exact nd.1 (by rw [← inj x (List.mem_cons_of_mem _ hx) a (List.mem_cons_self ..) e]; exact hx)
def prod : List Nat → Nat
  | [] => 1
  | a :: r => a * prod r
theorem prod_perm {l m : List Nat} (h : l.Perm m) : prod l = prod m := by
  induction h with
  | nil => rfl
  | cons x _ ih => simp only [prod, ih]
  | swap x y l => simp only [prod]; rw [← Nat.mul_assoc, ← Nat.mul_assoc, Nat.mul_comm y x]
  | trans _ _ h1 h2 => exact h1.trans h2
/-- 1 .. p - 1 -/
def below (p : Nat) : List Nat := List.range' 1 (p - 1)
theorem mem_below {p x : Nat} : x ∈ below p ↔ 1 ≤ x ∧ x < p := by
  unfold below
  rw [List.mem_range']
  constructor
  · rintro ⟨i, h, rfl⟩; omega
  · intro h
    exact ⟨x - 1, by omega, by omega⟩
theorem below_nd (p : Nat) : (below p).Nodup := List.nodup_range' ..
theorem below_len (p : Nat) : (below p).length = p - 1 := List.length_range' ..
section
variable {p : Nat}
theorem dvd_sub {x y : Nat} (l : x ≤ y) : x % p = y % p ↔ p ∣ y - x := by
  constructor
  · intro e
    exact Nat.dvd_of_mod_eq_zero (Nat.sub_mod_eq_zero_of_mod_eq e.symm)
  · rintro ⟨c, e⟩
    have : y = x + p * c := by omega
    rw [this, Nat.add_mul_mod_self_left]
theorem cancel (h : Prm p) {a x y : Nat} (ha : ¬ p ∣ a) (e : a * x % p = a * y % p) : x % p = y % p := by
  rcases Nat.le_total x y with l | l
  · have d : p ∣ a * (y - x) := by
      rw [Nat.mul_sub]
      exact (dvd_sub (Nat.mul_le_mul_left a l)).mp e
    exact (dvd_sub l).mpr ((h.mul d).resolve_left ha)
  · have d : p ∣ a * (x - y) := by
      rw [Nat.mul_sub]
      exact (dvd_sub (Nat.mul_le_mul_left a l)).mp e.symm
    exact ((dvd_sub l).mpr ((h.mul d).resolve_left ha)).symm
theorem prod_map (a : Nat) : ∀ l : List Nat, prod (l.map fun x => a * x % p) % p = a ^ l.length * prod l % p
  | [] => by simp [prod]
  | x :: r => by
    rw [List.map_cons, prod, List.length_cons, prod, Nat.mul_mod, prod_map a r, ← Nat.mul_mod, Nat.mod_mul_mod, Nat.pow_succ]
    congr 1
    grind
theorem prod_no (h : Prm p) : ∀ {l : List Nat}, (∀ x ∈ l, ¬ p ∣ x) → ¬ p ∣ prod l
  | [], _, d => by
    have := Nat.le_of_dvd (by decide) d
    have := h.1
    unfold prod at *
    omega
  | a :: r, hl, d => by
    rcases h.mul d with e | e
    · exact hl a (List.mem_cons_self ..) e
    · exact prod_no h (fun x hx => hl x (List.mem_cons_of_mem _ hx)) e
theorem no_dvd {x : Nat} (h1 : 1 ≤ x) (h2 : x < p) : ¬ p ∣ x := fun d => by
  have := Nat.le_of_dvd h1 d
  omega
theorem fermat (h : Prm p) {a : Nat} (ha : ¬ p ∣ a) : a ^ (p - 1) % p = 1 := by
  have h0 : 0 < p := by have := h.1; omega
  have pm : ((below p).map fun x => a * x % p).Perm (below p) := perm_of (map_nd (below_nd p) fun x hx y hy e => by
      have hx := mem_below.mp hx
      have hy := mem_below.mp hy
      have := cancel h ha e
      rwa [Nat.mod_eq_of_lt hx.2, Nat.mod_eq_of_lt hy.2] at this) (fun x hx => by
      obtain ⟨y, hy, rfl⟩ := List.mem_map.mp hx
      have hy := mem_below.mp hy
      refine mem_below.mpr ⟨Nat.pos_of_ne_zero fun z => ?_, Nat.mod_lt _ h0⟩
      rcases h.mul (Nat.dvd_of_mod_eq_zero z) with e | e
      · exact ha e
      · exact no_dvd hy.1 hy.2 e) (by rw [List.length_map]; exact Nat.le_refl _)
  have e := prod_map (p := p) a (below p)
  rw [prod_perm pm, below_len] at e
  have np := prod_no h (l := below p) fun x hx => no_dvd (mem_below.mp hx).1 (mem_below.mp hx).2
  have := cancel h np (x := 1) (y := a ^ (p - 1)) (by rw [Nat.mul_one, Nat.mul_comm]; exact e)
  rw [← this]
  exact Nat.mod_eq_of_lt (by have := h.1; omega)
/-! ### powers by p -/
theorem pow_m (a n : Nat) : (a % p) ^ n % p = a ^ n % p := (Nat.pow_mod a n p).symm
theorem one_pow {a : Nat} (h1 : 1 < p) (h : a % p = 1) (n : Nat) : a ^ n % p = 1 := by
  rw [← pow_m, h, Nat.one_pow]
  exact Nat.mod_eq_of_lt h1
/-- z^q and z^m are 1: so is z to their common divisor -/
theorem pow_gcd {z : Nat} (h1 : 1 < p) : ∀ m n : Nat, z ^ m % p = 1 → z ^ n % p = 1 → z ^ Nat.gcd m n % p = 1 := by
  intro m n
  induction m, n using Nat.gcd.induction with
  | H0 n => intro _ e; rw [Nat.gcd_zero_left]; exact e
  | H1 m n _ ih =>
    intro e1 e2
    rw [Nat.gcd_rec]
    refine ih ?_ e1
    have : z ^ n = z ^ (m * (n / m)) * z ^ (n % m) := by rw [← Nat.pow_add, Nat.div_add_mod]
    rw [this, Nat.pow_mul, Nat.mul_mod, one_pow h1 e1, Nat.one_mul, Nat.mod_mod] at e2
    exact e2
/-! ### polynomials by p have few roots -/
def ev (x : Int) : List Int → Int
  | [] => 0
  | c :: r => c + x * ev x r
def dv (r : Int) : List Int → List Int
  | [] => []
  | [_] => []
  | _ :: d :: t => ev r (d :: t) :: dv r (d :: t)
theorem dv_ev (r x : Int) : ∀ l : List Int, ev x l = ev r l + (x - r) * ev x (dv r l)
  | [] => by simp [ev, dv]
  | [c] => by simp [ev, dv]
  | c :: d :: t => by
    have ih := dv_ev r x (d :: t)
    have e : ev x (dv r (c :: d :: t)) = ev r (d :: t) + x * ev x (dv r (d :: t)) := rfl
    have e1 : ev x (c :: d :: t) = c + x * ev x (d :: t) := rfl
    have e2 : ev r (c :: d :: t) = c + r * ev r (d :: t) := rfl
    rw [e, e1, e2, ih]
    grind
theorem dv_len (r : Int) : ∀ l : List Int, (dv r l).length = l.length - 1
  | [] => rfl
  | [_] => rfl
  | _ :: d :: t => by
    rw [dv, List.length_cons, dv_len r (d :: t)]
    simp
theorem dv_last (r : Int) : ∀ (c d : Int) (t : List Int), (dv r (c :: d :: t)).getLast? = (d :: t).getLast?
  | c, d, [] => by simp [dv, ev]
  | c, d, e :: t => by
    have : dv r (c :: d :: e :: t) = ev r (d :: e :: t) :: dv r (d :: e :: t) := rfl
    rw [this]
    have ih := dv_last r d e t
    have hne : dv r (d :: e :: t) ≠ [] := fun z => by
      have := dv_len r (d :: e :: t)
      rw [z] at this
      simp at this
    rw [List.getLast?_cons, ih, List.getLast?_cons_cons]
    cases h : (e :: t).getLast? with
    | none => simp at h
    | some u => rfl
theorem roots (h : Prm p) : ∀ (n : Nat) (l : List Int) (u : Int) (rs : List Nat), l.length = n + 1 → l.getLast? = some u → ¬ (p : Int) ∣ u → rs.Nodup → (∀ x ∈ rs, x < p ∧ (p : Int) ∣ ev x l) → rs.length ≤ n
  | 0, l, u, rs, hl, hu, nu, nd, hr => by
    obtain ⟨c, rfl⟩ := List.length_eq_one_iff.mp hl
    cases rs with
    | nil => exact Nat.le_refl _
    | cons x r =>
      have d := (hr x (List.mem_cons_self ..)).2
      simp at hu
      subst hu
      simp [ev] at d
      exact (nu d).elim
  | n + 1, l, u, rs, hl, hu, nu, nd, hr => by
    cases rs with
    | nil => exact Nat.zero_le _
    | cons r rs =>
      match l, hl with
      | c :: d :: t, hl =>
        have nd := List.nodup_cons.mp nd
        have r0 := hr r (List.mem_cons_self ..)
        have ih := roots h n (dv r (c :: d :: t)) u rs (by rw [dv_len, hl]; rfl) (by rw [dv_last]; rwa [List.getLast?_cons_cons] at hu) nu nd.2 fun x hx => by
          have hx' := hr x (List.mem_cons_of_mem _ hx)
          refine ⟨hx'.1, ?_⟩
          have e := dv_ev r x (c :: d :: t)
          have dd : (p : Int) ∣ ((x : Int) - r) * ev x (dv r (c :: d :: t)) := by
            have : ((x : Int) - r) * ev x (dv r (c :: d :: t)) = ev x (c :: d :: t) - ev r (c :: d :: t) := by omega
            rw [this]
            exact Int.dvd_sub hx'.2 r0.2
          have dn : p ∣ ((x : Int) - r).natAbs * (ev x (dv r (c :: d :: t))).natAbs := by
            rw [← Int.natAbs_mul]
            exact Int.natAbs_dvd_natAbs.mpr dd
          rcases h.mul dn with z | z
          · exfalso
            have ne : x ≠ r := fun q => nd.1 (by rw [← q]; exact hx)
            have := Nat.le_of_dvd (by omega) z
            omega
          · exact Int.natAbs_dvd_natAbs.mp z
        rw [List.length_cons]
        omega
/-- x^m - 1 -/
def xm (m : Nat) : List Int := -1 :: (List.replicate (m - 1) 0 ++ [1])
theorem ev_rep (x : Int) : ∀ k : Nat, ev x (List.replicate k 0 ++ [1]) = x ^ k
  | 0 => by simp [ev]
  | k + 1 => by
    rw [List.replicate_succ, List.cons_append, ev, ev_rep x k, Int.pow_succ]
    grind
theorem ev_xm (x : Int) {m : Nat} (h : 1 ≤ m) : ev x (xm m) = x ^ m - 1 := by
  rw [xm, ev, ev_rep]
  obtain ⟨k, rfl⟩ : ∃ k, m = k + 1 := ⟨m - 1, by omega⟩
  rw [Nat.add_sub_cancel, Int.pow_succ]
  grind
/-- a number whose power is not 1 -/
theorem some_not (h : Prm p) {m : Nat} (h1 : 1 ≤ m) (h2 : m < p - 1) : ∃ x, 1 ≤ x ∧ x < p ∧ x ^ m % p ≠ 1 := by
  refine Classical.byContradiction fun no => ?_
  have all : ∀ x, 1 ≤ x → x < p → x ^ m % p = 1 := fun x a b => Classical.byContradiction fun z => no ⟨x, a, b, z⟩
  have := roots h m (xm m) 1 (below p) (by simp [xm]; omega) (by rw [xm, ← List.cons_append, List.getLast?_append]; rfl) (fun d => by
      have := Int.le_of_dvd (by decide) d
      have := h.1
      omega) (below_nd p) fun x hx => by
    have hx := mem_below.mp hx
    refine ⟨hx.2, ?_⟩
    rw [ev_xm _ h1]
    have e := all x hx.1 hx.2
    have d : p ∣ x ^ m - 1 := (dvd_sub (Nat.pow_pos hx.1)).mp (by rw [e]; exact Nat.mod_eq_of_lt (by have := h.1; omega))
    obtain ⟨c, hc⟩ := d
    have hp := Nat.pow_pos (n := m) hx.1
    refine ⟨c, ?_⟩
    have : x ^ m = p * c + 1 := by omega
    have := congrArg (fun n : Nat => (n : Int)) this
    simp only [Int.natCast_pow, Int.natCast_add, Int.natCast_mul] at this
    omega
  rw [below_len] at this
  omega
theorem split (q : Nat) (hq : 2 ≤ q) : ∀ n : Nat, 0 < n → ∃ e m, n = q ^ e * m ∧ ¬ q ∣ m := by
  intro n
  induction n using Nat.strongRecOn with
  | ind n ih =>
    intro hn
    by_cases d : q ∣ n
    · obtain ⟨k, rfl⟩ := d
      have hk : 0 < k := Nat.pos_of_ne_zero fun z => by rw [z] at hn; simp at hn
      obtain ⟨e, m, h1, h2⟩ := ih k (by
        have : 1 * k < q * k := Nat.mul_lt_mul_of_pos_right (by omega) hk
        omega) hk
      exact ⟨e + 1, m, by rw [h1, Nat.pow_succ]; grind, h2⟩
    · exact ⟨0, n, by simp, d⟩
/-- one for a prime factor -/
theorem one_for (h : Prm p) {q : Nat} (hq : Prm q) (d : q ∣ p - 1) (h3 : 2 < p) : ∃ y, ¬ p ∣ y ∧ y ^ ((p - 1) / q) % p ≠ 1 ∧ ∀ q', Prm q' → q' ∣ p - 1 → q' ≠ q → y ^ ((p - 1) / q') % p = 1 := by
  have hp1 : 1 < p := by omega
  obtain ⟨k, hk⟩ := d
  have q2 := hq.1
  have k0 : 0 < k := Nat.pos_of_ne_zero fun z => by rw [z] at hk; omega
  have kq : (p - 1) / q = k := by rw [hk, Nat.mul_div_cancel_left _ (by omega)]
  obtain ⟨x, x1, x2, x3⟩ := some_not h (m := k) k0 (by
    have : 1 * k < q * k := Nat.mul_lt_mul_of_pos_right (by omega) k0
    omega)
  obtain ⟨e, m, hm, nm⟩ := split q hq.1 (p - 1) (by omega)
  have nx : ¬ p ∣ x := no_dvd x1 x2
  have fx := fermat h nx
  refine ⟨x ^ m, fun z => nx (h.pow z), ?_, fun q' h' d' ne => ?_⟩
  · rw [kq, ← Nat.pow_mul, Nat.mul_comm, Nat.pow_mul]
    intro z
    have e1 : (x ^ k) ^ q % p = 1 := by rw [← Nat.pow_mul, Nat.mul_comm, ← hk]; exact fx
    have := pow_gcd hp1 q m e1 z
    have co : Nat.gcd q m = 1 := by
      rcases hq.2 (Nat.gcd q m) (Nat.gcd_dvd_left q m) with c | c
      · exact c
      · exact (nm (by rw [← c]; exact Nat.gcd_dvd_right q m)).elim
    rw [co, Nat.pow_one] at this
    exact x3 this
  · obtain ⟨k', hk'⟩ := d'
    have q2' := h'.1
    have kq' : (p - 1) / q' = k' := by rw [hk', Nat.mul_div_cancel_left _ (by omega)]
    have co : Nat.Coprime (q ^ e) q' := Nat.Coprime.pow_left e (hq.ne h' fun z => ne z.symm)
    have dd : q ^ e ∣ k' := Nat.Coprime.dvd_of_dvd_mul_left co (by rw [← hk', hm]; exact Nat.dvd_mul_right _ _)
    obtain ⟨s, hs⟩ := dd
    rw [kq', ← Nat.pow_mul, hs, ← Nat.mul_assoc, Nat.mul_comm m, ← hm, Nat.pow_mul]
    exact one_pow hp1 fx s
theorem all_for (h : Prm p) (h3 : 2 < p) : ∀ qs : List Nat, qs.Nodup → (∀ q ∈ qs, Prm q ∧ q ∣ p - 1) → ∃ g, ¬ p ∣ g ∧ (∀ q ∈ qs, g ^ ((p - 1) / q) % p ≠ 1) ∧ ∀ q', Prm q' → q' ∣ p - 1 → q' ∉ qs → g ^ ((p - 1) / q') % p = 1
  | [], _, _ => ⟨1, no_dvd (by decide) (by omega), ⟨fun q z => (by cases z), fun q' _ _ _ => (by rw [Nat.one_pow]; exact Nat.mod_eq_of_lt (by omega))⟩⟩
  | q :: r, nd, hq => by
    have nd := List.nodup_cons.mp nd
    obtain ⟨g, g1, g2, g3⟩ := all_for h h3 r nd.2 fun x hx => hq x (List.mem_cons_of_mem _ hx)
    obtain ⟨y, y1, y2, y3⟩ := one_for h (hq q (List.mem_cons_self ..)).1 (hq q (List.mem_cons_self ..)).2 h3
    refine ⟨g * y, fun z => (h.mul z).elim g1 y1, fun x hx => ?_, fun q' h1 h2 h4 => ?_⟩
    · rw [Nat.mul_pow, Nat.mul_mod]
      rcases List.mem_cons.mp hx with z | z
      · subst z
        rw [g3 x (hq x (List.mem_cons_self ..)).1 (hq x (List.mem_cons_self ..)).2 nd.1, Nat.one_mul, Nat.mod_mod]
        exact y2
      · rw [y3 x (hq x hx).1 (hq x hx).2 fun e => nd.1 (by rw [← e]; exact z), Nat.mul_one, Nat.mod_mod]
        exact g2 x z
    · rw [Nat.mul_pow, Nat.mul_mod, g3 q' h1 h2 fun z => h4 (List.mem_cons_of_mem _ z), y3 q' h1 h2 fun z => h4 (by rw [z]; exact List.mem_cons_self ..)]
      exact Nat.mod_eq_of_lt (by omega)
/-- the least one from 2 on -/
def Wit (p : Nat) (qs : List Nat) (g : Nat) : Prop := ∀ q ∈ qs, g ^ ((p - 1) / q) % p ≠ 1
instance (p : Nat) (qs : List Nat) (g : Nat) : Decidable (Wit p qs g) := inferInstanceAs (Decidable (∀ q ∈ qs, _))
theorem least {W : Nat → Prop} [DecidablePred W] {a n : Nat} (h : a ≤ n) (hw : W n) : ∃ k, a ≤ k ∧ k ≤ n ∧ W k ∧ ∀ j, a ≤ j → j < k → ¬ W j := by
  induction n using Nat.strongRecOn with
  | ind n ih =>
    by_cases e : ∃ j, a ≤ j ∧ j < n ∧ W j
    · obtain ⟨j, j1, j2, j3⟩ := e
      obtain ⟨k, k1, k2, k3, k4⟩ := ih j j2 j1 j3
      exact ⟨k, k1, by omega, k3, k4⟩
    · exact ⟨n, h, Nat.le_refl _, hw, fun j j1 j2 j3 => e ⟨j, j1, j2, j3⟩⟩
theorem witness (h : Prm p) (h3 : 2 < p) {qs : List Nat} (nd : qs.Nodup) (hq : ∀ q ∈ qs, Prm q ∧ q ∣ p - 1) (ne : qs ≠ []) : ∃ g, 2 ≤ g ∧ g < p ∧ Wit p qs g ∧ ∀ j, 2 ≤ j → j < g → ¬ Wit p qs j := by
  obtain ⟨g, g1, g2, _⟩ := all_for h h3 qs nd hq
  have h0 : 0 < p := by omega
  have w : Wit p qs (g % p) := fun q hq => by rw [pow_m]; exact g2 q hq
  have lo : 2 ≤ g % p := by
    have l := Nat.mod_lt g h0
    have n0 : g % p ≠ 0 := fun z => g1 (Nat.dvd_of_mod_eq_zero z)
    have n1 : g % p ≠ 1 := fun z => by
      obtain ⟨q, hq⟩ := List.exists_mem_of_ne_nil qs ne
      refine w q hq ?_
      rw [z, Nat.one_pow]
      exact Nat.mod_eq_of_lt (by omega)
    omega
  obtain ⟨k, k1, k2, k3, k4⟩ := least lo w
  exact ⟨k, k1, Nat.lt_of_le_of_lt k2 (Nat.mod_lt g h0), k3, k4⟩
end
end Pm
end

section
set_option Elab.async false
set_option linter.all false
set_option autoImplicit false
set_option maxRecDepth 100000
set_option exponentiation.threshold 300
namespace Law
open Pm
/-! ### the prime factors are right -/
theorem outF_spec {d : Nat} (hd : 2 ≤ d) : ∀ {k n e : Nat}, 0 < n → n ≤ k → ∃ j, (outF k n d e).2 = e + j ∧ n = (outF k n d e).1 * d ^ j ∧ ¬ d ∣ (outF k n d e).1 ∧ (d ∣ n → 1 ≤ j)
  | 0, n, e, h, hk => by omega
  | k + 1, n, e, h, hk => by
    by_cases q : n % d = 0
    · rw [outF_step q]
      have lt := div_lt h hd q
      obtain ⟨j, h1, h2, h3, _⟩ := outF_spec hd (k := k) (n := n / d) (e := e + 1) lt.1 (by omega)
      refine ⟨j + 1, by omega, ?_, h3, fun _ => by omega⟩
      have := Nat.div_add_mod n d
      rw [q, Nat.add_zero] at this
      generalize (outF k (n / d) d (e + 1)).1 = y at *
      have g : d * (y * d ^ j) = n := by rw [← h2]; exact this
      rw [Nat.pow_succ]
      exact g.symm.trans (by grind)
    · rw [outF_done q]
      exact ⟨0, rfl, by simp, fun z => q (Nat.mod_eq_zero_of_dvd z), fun z => absurd (Nat.mod_eq_zero_of_dvd z) q⟩
theorem outN_spec {d n : Nat} (hd : 2 ≤ d) (hn : 0 < n) : n = (outN n d).1 * d ^ (outN n d).2 ∧ ¬ d ∣ (outN n d).1 ∧ (d ∣ n → 1 ≤ (outN n d).2) := by
  obtain ⟨j, h1, h2, h3, h4⟩ := outF_spec hd (k := n) (e := 0) hn (Nat.le_refl _)
  have e : (outN n d).2 = j := by unfold outN; omega
  rw [e]
  exact ⟨h2, h3, h4⟩
def rp : List Row → Nat
  | [] => 1
  | r :: t => r.1 ^ r.2 * rp t
theorem rp_app (rs : List Row) (r : Row) : rp (rs ++ [r]) = rp rs * r.1 ^ r.2 := by
  induction rs with
  | nil => simp [rp]
  | cons a t ih => rw [List.cons_append, rp, ih, rp, Nat.mul_assoc]
/-- what is known on the way: the rows are primes below d, ascending; n is their product times l, whose divisors are from d on -/
structure PfI (n l d : Nat) (rs : List Row) : Prop where
  l0 : 0 < l
  d2 : 2 ≤ d
  n : n = l * rp rs
  dv : ∀ q, 2 ≤ q → q ∣ l → d ≤ q
  od : d = 2 ∨ (d % 2 = 1 ∧ ¬ 2 ∣ l)
  pr : ∀ r ∈ rs, Prm r.1 ∧ 1 ≤ r.2 ∧ r.1 < d ∧ ¬ r.1 ∣ l
  as : rs.Pairwise fun a b => a.1 < b.1
theorem PfI.start {n : Nat} (h : 0 < n) : PfI n n 2 [] := ⟨h, Nat.le_refl _, by simp [rp], fun q a _ => a, .inl rfl, fun r h => (by cases h), List.Pairwise.nil⟩
theorem PfI.prime {n l d : Nat} {rs : List Row} (I : PfI n l d rs) (h : d ∣ l) : Prm d := ⟨I.d2, fun q hq => by
  have d2 := I.d2
  by_cases z : q = 1
  · exact .inl z
  · have q0 : 0 < q := Nat.pos_of_dvd_of_pos hq (by omega)
    have := I.dv q (by omega) (Nat.dvd_trans hq h)
    have := Nat.le_of_dvd (by omega) hq
    exact .inr (by omega)⟩
theorem PfI.nx {n l l' d : Nat} {rs rs' : List Row} (I : PfI n l d rs) (h0 : 0 < l') (hl : l' ∣ l) (hd : ¬ d ∣ l') (hn : n = l' * rp rs') (hp : ∀ r ∈ rs', Prm r.1 ∧ 1 ≤ r.2 ∧ r.1 ≤ d ∧ ¬ r.1 ∣ l') (ha : rs'.Pairwise fun a b => a.1 < b.1) : PfI n l' (nxt d) rs' := by
  have d2 := I.d2
  have ge : ∀ q, 2 ≤ q → q ∣ l' → d < q := fun q a b => by
    have := I.dv q a (Nat.dvd_trans b hl)
    have : q ≠ d := fun z => hd (by rw [← z]; exact b)
    omega
  have lt : d < nxt d := (nxt_le d2).1
  refine ⟨h0, by omega, hn, fun q a b => ?_, ?_, fun r hr => ?_, ha⟩
  · have g := ge q a b
    unfold nxt
    split
    · rename_i c
      rcases I.od with z | ⟨z1, z2⟩
      · omega
      · have : ¬ 2 ∣ q := fun z => z2 (Nat.dvd_trans (Nat.dvd_trans z b) hl)
        omega
    · omega
  · right
    unfold nxt
    split
    · rename_i c
      rcases I.od with z | ⟨z1, z2⟩
      · omega
      · exact ⟨by omega, fun z => z2 (Nat.dvd_trans z hl)⟩
    · rename_i c
      have : d = 2 := by omega
      subst this
      exact ⟨by decide, hd⟩
  · obtain ⟨a, b, c, e⟩ := hp r hr
    exact ⟨a, b, by omega, e⟩
/-- the end: what is left is 1, or a prime above all -/
structure PfE (n : Nat) (p : Nat × List Row) : Prop where
  l0 : 0 < p.1
  n : n = p.1 * rp p.2
  lp : p.1 = 1 ∨ (Prm p.1 ∧ ∀ r ∈ p.2, r.1 < p.1)
  pr : ∀ r ∈ p.2, Prm r.1 ∧ 1 ≤ r.2
  as : p.2.Pairwise fun a b => a.1 < b.1
theorem PfI.fin {n l d : Nat} {rs : List Row} (I : PfI n l d rs) (h : ¬ d * d ≤ l) : PfE n (l, rs) := by
  have d2 := I.d2
  refine ⟨I.l0, I.n, ?_, fun r hr => ⟨(I.pr r hr).1, (I.pr r hr).2.1⟩, I.as⟩
  by_cases z : l = 1
  · exact .inl z
  · have l2 : 2 ≤ l := by have := I.l0; omega
    have dl := I.dv l l2 (Nat.dvd_refl l)
    refine .inr ⟨⟨l2, fun q hq => ?_⟩, fun r hr => by have := (I.pr r hr).2.2.1; show r.1 < l; omega⟩
    by_cases c : q = 1
    · exact .inl c
    · right
      obtain ⟨m, hm⟩ := hq
      have q0 : 0 < q := Nat.pos_of_ne_zero fun e => by rw [e] at hm; omega
      have m0 : 0 < m := Nat.pos_of_ne_zero fun e => by rw [e] at hm; omega
      have a := I.dv q (by omega) ⟨m, hm⟩
      by_cases e : m = 1
      · rw [e, Nat.mul_one] at hm; exact hm.symm
      · have b := I.dv m (by omega) ⟨q, by rw [Nat.mul_comm]; exact hm⟩
        have := Nat.mul_le_mul a b
        omega
theorem pfF_ok {n : Nat} (hn : n ≤ 1000000000000) : ∀ (k l d : Nat) (rs : List Row), PfI n l d rs → 1000001 ≤ k + d - 1 → PfE n (pfF k l d rs)
  | 0, l, d, rs, I, hk => by
    have d2 := I.d2
    refine I.fin fun z => ?_
    have : l ≤ n := by rw [I.n]; exact Nat.le_mul_of_pos_right _ (Nat.pos_of_ne_zero fun e => by
      have := I.n
      rw [e, Nat.mul_zero] at this
      have l0 := I.l0
      have hl : ∀ (rs : List Row), (∀ r ∈ rs, Prm r.1) → 0 < rp rs := by
        intro rs
        induction rs with
        | nil => intro _; decide
        | cons a t ih =>
          intro h
          have h1 := (h a (List.mem_cons_self ..)).1
          exact Nat.mul_pos (Nat.pow_pos (by omega)) (ih fun r hr => h r (List.mem_cons_of_mem _ hr))
      have := hl rs fun r hr => (I.pr r hr).1
      omega)
    have : 1000002 * 1000002 ≤ d * d := Nat.mul_le_mul (by omega) (by omega)
    omega
  | k + 1, l, d, rs, I, hk => by
    have d2 := I.d2
    have l0 := I.l0
    have hl : ∀ (rs : List Row), (∀ r ∈ rs, Prm r.1) → 0 < rp rs := by
      intro rs
      induction rs with
      | nil => intro _; decide
      | cons a t ih =>
        intro h
        have h1 := (h a (List.mem_cons_self ..)).1
        exact Nat.mul_pos (Nat.pow_pos (by omega)) (ih fun r hr => h r (List.mem_cons_of_mem _ hr))
    have hp := hl rs fun r hr => (I.pr r hr).1
    have ln : l ≤ n := by rw [I.n]; exact Nat.le_mul_of_pos_right _ hp
    have lt := nxt_le d2
    unfold pfF
    by_cases c : d ≤ 1000000 ∧ d * d ≤ l
    · rw [if_pos c]
      by_cases m : l % d = 0
      · rw [if_pos m]
        have dl : d ∣ l := Nat.dvd_of_mod_eq_zero m
        obtain ⟨s1, s2, s3⟩ := outN_spec d2 l0
        refine pfF_ok hn k _ _ _ (I.nx ((outN_le l0 d2 m).1) ⟨_, s1⟩ s2 ?_ (fun r hr => ?_) ?_) (by omega)
        · rw [rp_app, ← Nat.mul_assoc, Nat.mul_right_comm, ← s1]
          exact I.n
        · rcases List.mem_append.mp hr with z | z
          · obtain ⟨a, b, c, e⟩ := I.pr r z
            exact ⟨a, b, by omega, fun q => e (Nat.dvd_trans q ⟨_, s1⟩)⟩
          · simp at z
            subst z
            exact ⟨I.prime dl, s3 dl, Nat.le_refl _, s2⟩
        · refine List.pairwise_append.mpr ⟨I.as, List.pairwise_singleton _ _, fun a ha b hb => ?_⟩
          simp at hb
          subst hb
          exact (I.pr a ha).2.2.1
      · rw [if_neg m]
        refine pfF_ok hn k _ _ _ (I.nx l0 (Nat.dvd_refl l) (fun z => m (Nat.mod_eq_zero_of_dvd z)) I.n (fun r hr => ?_) I.as) (by omega)
        obtain ⟨a, b, c, e⟩ := I.pr r hr
        exact ⟨a, b, by omega, e⟩
    · rw [if_neg c]
      refine I.fin fun z => c ⟨?_, z⟩
      refine Classical.byContradiction fun q => ?_
      have : 1000001 * 1000001 ≤ d * d := Nat.mul_le_mul (by omega) (by omega)
      omega
/-- the prime factors, ascending -/
def qs (n : Nat) : List Nat := (pfRows (pfN n)).map (·.1)
structure Fa (n : Nat) (rs : List Row) : Prop where
  n : n = rp rs
  pr : ∀ r ∈ rs, Prm r.1 ∧ 1 ≤ r.2
  as : rs.Pairwise fun a b => a.1 < b.1
theorem pf_ok {n : Nat} (h0 : 0 < n) (hn : n ≤ 1000000000000) : Fa n (pfRows (pfN n)) ∧ (pfN n).1 ≤ n := by
  have E := pfF_ok hn 1000001 n 2 [] (PfI.start h0) (by omega)
  have E : PfE n (pfN n) := E
  obtain ⟨a, b, c, d, e⟩ := E
  generalize pfN n = p at *
  unfold pfRows
  refine ⟨?_, ?_⟩
  · split
    · rename_i z
      rcases c with c | ⟨c1, c2⟩
      · omega
      · refine ⟨by rw [rp_app, Nat.pow_one, Nat.mul_comm]; exact b, fun r hr => ?_, List.pairwise_append.mpr ⟨e, List.pairwise_singleton _ _, fun x hx y hy => ?_⟩⟩
        · rcases List.mem_append.mp hr with q | q
          · exact d r q
          · simp at q
            subst q
            exact ⟨c1, Nat.le_refl _⟩
        · simp at hy
          subst hy
          exact c2 x hx
    · have : p.1 = 1 := by omega
      rw [this, Nat.one_mul] at b
      exact ⟨b, d, e⟩
  · rw [b]
    refine Nat.le_mul_of_pos_right _ (Nat.pos_of_ne_zero fun z => ?_)
    rw [z, Nat.mul_zero] at b
    omega
theorem dvd_rp {q : Nat} (hq : Prm q) : ∀ {rs : List Row}, (∀ r ∈ rs, Prm r.1) → q ∣ rp rs → q ∈ rs.map (·.1)
  | [], _, h => by
    have := Nat.le_of_dvd (by decide) h
    have := hq.1
    unfold rp at *
    omega
  | r :: t, hp, h => by
    rw [List.map_cons]
    rcases hq.mul h with z | z
    · have := hq.pow z
      rcases (hp r (List.mem_cons_self ..)).2 q this with e | e
      · have := hq.1; omega
      · rw [e]; exact List.mem_cons_self ..
    · exact List.mem_cons_of_mem _ (dvd_rp hq (fun x hx => hp x (List.mem_cons_of_mem _ hx)) z)
theorem rp_dvd : ∀ {rs : List Row} {r : Row}, r ∈ rs → 1 ≤ r.2 → r.1 ∣ rp rs
  | a :: t, r, h, h1 => by
    rcases List.mem_cons.mp h with e | e
    · subst e
      refine Nat.dvd_trans ?_ (Nat.dvd_mul_right _ _)
      exact Nat.dvd_trans (by rw [Nat.pow_one]; exact Nat.dvd_refl _) (Nat.pow_dvd_pow r.1 h1)
    · exact Nat.dvd_trans (rp_dvd e h1) (Nat.dvd_mul_left _ _)
theorem qs_mem {n : Nat} (h0 : 0 < n) (hn : n ≤ 1000000000000) {q : Nat} : q ∈ qs n ↔ Prm q ∧ q ∣ n := by
  obtain ⟨⟨f1, f2, f3⟩, _⟩ := pf_ok h0 hn
  constructor
  · intro h
    obtain ⟨r, hr, rfl⟩ := List.mem_map.mp h
    have := f2 r hr
    exact ⟨this.1, by rw [f1]; exact rp_dvd hr this.2⟩
  · rintro ⟨h1, h2⟩
    rw [f1] at h2
    exact dvd_rp h1 (fun r hr => (f2 r hr).1) h2
theorem qs_asc {n : Nat} (h0 : 0 < n) (hn : n ≤ 1000000000000) : (qs n).Pairwise (· < ·) := List.pairwise_map.mpr (pf_ok h0 hn).1.as
theorem qs_nd {n : Nat} (h0 : 0 < n) (hn : n ≤ 1000000000000) : (qs n).Nodup := (qs_asc h0 hn).imp fun h e => by omega
/-- a prime has one row, another number has not that one -/
theorem pf_prime {n : Nat} (h2 : 2 ≤ n) (hn : n ≤ 1000000000000) : pfRows (pfN n) = [(n, 1)] ↔ Prm n := by
  obtain ⟨⟨f1, f2, f3⟩, _⟩ := pf_ok (by omega) hn
  constructor
  · intro h
    rw [h] at f2
    exact (f2 (n, 1) (List.mem_cons_self ..)).1
  · intro hp
    have hm : n ∈ (pfRows (pfN n)).map (·.1) := (qs_mem (by omega) hn).mpr ⟨hp, Nat.dvd_refl n⟩
    generalize pfRows (pfN n) = rs at *
    have all : ∀ r ∈ rs, r.1 = n := fun r hr => by
      have h := f2 r hr
      have d : r.1 ∣ n := by rw [f1]; exact rp_dvd hr h.2
      rcases hp.2 r.1 d with z | z
      · have := h.1.1; omega
      · exact z
    match rs, hm with
    | [r], _ =>
      have e := all r (List.mem_cons_self ..)
      obtain ⟨a, b⟩ := r
      have e : a = n := e
      subst e
      have hb := (f2 _ (List.mem_cons_self ..)).2
      have : b = 1 := by
        refine Classical.byContradiction fun z => ?_
        have hb : 2 ≤ b := by have : 1 ≤ b := hb; omega
        have f1 : a = a ^ b * 1 := f1
        have : a ^ 2 ≤ a ^ b := Nat.pow_le_pow_right (by omega) hb
        have : a * 2 ≤ a ^ 2 := by rw [Nat.pow_two]; exact Nat.mul_le_mul_left a h2
        omega
      rw [this]
    | r :: r' :: t, _ =>
      have h1 := List.pairwise_cons.mp f3
      have := h1.1 r' (List.mem_cons_self ..)
      rw [all r (List.mem_cons_self ..), all r' (List.mem_cons_of_mem _ (List.mem_cons_self ..))] at this
      omega
/-! ### witnesses -/
open Classical in
noncomputable def wit (p : Nat) (l : List Nat) : Nat := if h : ∃ g, 2 ≤ g ∧ g < p ∧ Wit p l g ∧ ∀ j, 2 ≤ j → j < g → ¬ Wit p l j then h.choose else 0
theorem wit_ok {p : Nat} {l : List Nat} (h : Prm p) (h3 : 2 < p) (nd : l.Nodup) (hq : ∀ q ∈ l, Prm q ∧ q ∣ p - 1) (ne : l ≠ []) : 2 ≤ wit p l ∧ wit p l < p ∧ Wit p l (wit p l) ∧ ∀ j, 2 ≤ j → j < wit p l → ¬ Wit p l j := by
  have w := witness h h3 nd hq ne
  unfold wit
  rw [dif_pos w]
  exact w.choose_spec
theorem some_prime : ∀ k : Nat, 2 ≤ k → ∃ q, Prm q ∧ q ∣ k := by
  intro k
  induction k using Nat.strongRecOn with
  | ind k ih =>
    intro h
    by_cases e : ∃ d, d ∣ k ∧ d ≠ 1 ∧ d ≠ k
    · obtain ⟨d, d1, d2, d3⟩ := e
      have := Nat.le_of_dvd (by omega) d1
      have d0 : d ≠ 0 := fun z => by rw [z] at d1; have := Nat.eq_zero_of_zero_dvd d1; omega
      obtain ⟨q, q1, q2⟩ := ih d (by omega) (by omega)
      exact ⟨q, q1, Nat.dvd_trans q2 d1⟩
    · refine ⟨k, ⟨h, fun d hd => ?_⟩, Nat.dvd_refl k⟩
      by_cases z : d = 1
      · exact .inl z
      · exact .inr (Classical.byContradiction fun y => e ⟨d, hd, z, y⟩)
/-- the least one stands ten below the prime, or further -/
theorem wit_far {p : Nat} {l : List Nat} (h : Prm p) (h3 : 1000 < p) (nd : l.Nodup) (hq : ∀ q ∈ l, Prm q ∧ q ∣ p - 1) (h2 : 2 ∈ l) (all : ∀ q, Prm q → q ∣ p - 1 → q ∈ l) : wit p l + 10 ≤ p := by
  obtain ⟨w1, w2, w3, w4⟩ := wit_ok h (by omega) nd hq (List.ne_nil_of_mem h2)
  refine Classical.byContradiction fun hcc => ?_
  generalize wit p l = g at *
  -- g is the prime less j, 1 <= j <= 9
  have ng : ¬ p ∣ g := no_dvd (by omega) w2
  have fm := fermat h ng
  -- its inverse
  have inv : g * (g ^ (p - 2) % p) % p = 1 := by
    rw [Nat.mul_mod_mod]
    have : g * g ^ (p - 2) = g ^ (p - 1) := by
      rw [show p - 1 = (p - 2) + 1 by omega, Nat.pow_succ, Nat.mul_comm]
    rw [this]
    exact fm
  have i0 : 0 < p := by omega
  have il := Nat.mod_lt (g ^ (p - 2)) i0
  generalize g ^ (p - 2) % p = i at *
  have i1 : 2 ≤ i := by
    refine Classical.byContradiction fun z => ?_
    have : i = 0 ∨ i = 1 := by omega
    rcases this with e | e
    · rw [e, Nat.mul_zero, Nat.zero_mod] at inv; omega
    · rw [e, Nat.mul_one, Nat.mod_eq_of_lt w2] at inv; omega
  -- the inverse is a witness too
  have wi : Wit p l i := fun q hq' z => by
    refine w3 q hq' ?_
    have : (g * i) ^ ((p - 1) / q) % p = 1 := by
      rw [← pow_m, inv, Nat.one_pow]
      exact Nat.mod_eq_of_lt (by omega)
    rw [Nat.mul_pow, Nat.mul_mod, z, Nat.mul_one, Nat.mod_mod] at this
    exact this
  have gi : g ≤ i := by
    refine Classical.byContradiction fun z => ?_
    exact w4 i i1 (by omega) wi
  obtain ⟨a, ha⟩ : ∃ a, g = p - a ∧ 1 ≤ a ∧ a ≤ 9 := ⟨p - g, by omega, by omega, by omega⟩
  obtain ⟨b, hb⟩ : ∃ b, i = p - b ∧ 1 ≤ b ∧ b ≤ 9 := ⟨p - i, by omega, by omega, by omega⟩
  obtain ⟨rfl, a1, a2⟩ := ha
  obtain ⟨rfl, b1, b2⟩ := hb
  have ab : a * b ≤ 81 := Nat.mul_le_mul a2 b2
  have e : (p - a) * (p - b) % p = a * b % p := by
    have : (p - a) * (p - b) + p * (a + b) = a * b + p * p := by
      obtain ⟨c, rfl⟩ : ∃ c, p = c + a := ⟨p - a, by omega⟩
      obtain ⟨d, hd⟩ : ∃ d, c + a = d + b := ⟨c + a - b, by omega⟩
      have : c + a - b = d := by omega
      rw [this]
      have : c + a - a = c := by omega
      rw [this]
      have : d = c + a - b := by omega
      have hdi : (d : Int) = c + a - b := by omega
      have goal : ((c * d + (c + a) * (a + b) : Nat) : Int) = ((a * b + (c + a) * (c + a) : Nat) : Int) := by
        simp only [Int.natCast_add, Int.natCast_mul]
        rw [hdi]
        grind
      exact Int.ofNat.inj goal
    have e1 := congrArg (· % p) this
    simp only [Nat.add_mul_mod_self_left, Nat.add_mul_mod_self_right] at e1
    exact e1
  rw [e, Nat.mod_eq_of_lt (by omega)] at inv
  have : a = 1 := Nat.eq_one_of_mul_eq_one_right inv
  subst this
  -- then it is -1: its even powers are 1
  obtain ⟨k, hk⟩ := (hq 2 h2).2
  have od : ∀ m : Nat, (p - 1) ^ (2 * m) % p = 1 := fun m => by
    rw [Nat.pow_mul]
    refine one_pow (by omega) ?_ m
    have : (p - 1) ^ 2 = p * (p - 2) + 1 := by
      obtain ⟨c, rfl⟩ : ∃ c, p = c + 2 := ⟨p - 2, by omega⟩
      have e1 : c + 2 - 1 = c + 1 := by omega
      have e2 : c + 2 - 2 = c := by omega
      rw [e1, e2]
      grind
    rw [this, Nat.add_comm, Nat.add_mul_mod_self_left]
    exact Nat.mod_eq_of_lt (by omega)
  have dk : (p - 1) / 2 = k := by omega
  by_cases ev : k % 2 = 0
  · refine w3 2 h2 ?_
    rw [dk, show k = 2 * (k / 2) by omega]
    exact od _
  · obtain ⟨q, hq1, m, hm⟩ := some_prime k (by omega)
    have qd : q ∣ p - 1 := ⟨2 * m, by rw [hk, hm]; grind⟩
    refine w3 q (all q hq1 qd) ?_
    have q0 : 0 < q := by have := hq1.1; omega
    have : (p - 1) / q = 2 * m := by
      rw [hk, hm, show 2 * (q * m) = q * (2 * m) by grind]
      exact Nat.mul_div_cancel_left _ q0
    rw [this]
    exact od _
end Law
end

section
set_option Elab.async false
set_option linter.all false
set_option maxRecDepth 100000
set_option maxHeartbeats 4000000
set_option autoImplicit false
set_option exponentiation.threshold 300
namespace Law
open PySem PySem.Spec PyProof.Rows L2 Py Mt Pm

local macro_rules | `(tactic| wtm_at "op") => `(tactic| first
  | with_reducible exact o_I0 | with_reducible exact o_add | with_reducible exact o_eqI | with_reducible exact o_neI
  | ((with_reducible apply o_mul); first | assumption | wtm_at "si")
  | ((with_reducible apply o_I); first | assumption | wtm_at "si")
  | ((with_reducible apply o_ixT); rfl) | ((with_reducible apply o_ixL); rfl)
  | ((with_reducible apply o_eqD) <;> first | rfl | decide | assumption) | ((with_reducible apply o_neD) <;> first | rfl | decide | assumption)
  | with_reducible assumption)
local macro_rules | `(tactic| wtm_at "si") => `(tactic| first | decide | exact ⟨by decide, by decide +kernel⟩ | omega)
local macro_rules | `(tactic| wtm_at "ev") => `(tactic| first
  | ((with_reducible apply e_var); rfl) | with_reducible exact e_c | with_reducible exact a_nil
  | ((with_reducible apply a_cons) <;> wtm_at "ev")
  | ((with_reducible apply e_bin) <;> first | wtm_at "ev" | wtm_at "op")
  | ((with_reducible apply e_ixO) <;> first | rfl | wtm_at "ev")
  | ((with_reducible apply e_U) <;> wtm_at "ev")
  | ((with_reducible apply t_test) <;> wtm_at "ev")
  | ((with_reducible apply t_B) <;> wtm_at "ev")
  | ((with_reducible apply t_not) <;> wtm_at "ev")
  | ((with_reducible apply e_tup) <;> first | wtm_at "ev" | exact Nat.le_of_ble_eq_true rfl)
  | ((with_reducible apply e_lst) <;> first | wtm_at "ev" | exact Nat.le_of_ble_eq_true rfl)
  | ((with_reducible apply e_gcd) <;> wtm_at "ev")
  | ((with_reducible apply e_abs) <;> wtm_at "ev")
  | ((with_reducible apply e_max2) <;> wtm_at "ev")
  | ((with_reducible apply e_int) <;> wtm_at "ev")
  | ((with_reducible apply e_intB) <;> wtm_at "ev")
  | ((with_reducible apply e_bits) <;> wtm_at "ev")
  | ((with_reducible apply e_not) <;> wtm_at "ev")
  | with_reducible assumption)

section
variable {P : Program} {w : World} {K : Frg} {T : List (Addr × Str)} {mg : Str → Option Value} {base : Heap}

abbrev s_is_little_prime : Stmt := top 13
theorem sc_is_little_prime : FnScope ["number", "divisor"] ["number"] (defScope s_is_little_prime) := ⟨rfl, rfl, rfl, by decide +kernel, rfl, by decide +kernel, by decide +kernel⟩
abbrev s_is_witness : Stmt := top 16
theorem sc_is_witness : FnScope ["prime", "one", "factors", "factor"] ["prime", "one", "factors"] (defScope s_is_witness) := ⟨rfl, rfl, rfl, by decide +kernel, rfl, by decide +kernel, by decide +kernel⟩
abbrev s_witness : Stmt := top 15
theorem sc_witness : FnScope ["prime", "factors", "one"] ["prime", "factors"] (defScope s_witness) := ⟨rfl, rfl, rfl, by decide +kernel, rfl, by decide +kernel, by decide +kernel⟩
abbrev dN (n : Nat) : Dt := di (n : Int)
theorem fits_10 {n : Nat} (h : n ≤ 1000000000000) : Fits n := fits_of 40 (by omega) (by decide)
theorem two_4000 : 1000000000000 < 2 ^ 4000 := Nat.lt_of_lt_of_le (by decide : 1000000000000 < 2 ^ 40) (Nat.pow_le_pow_right (by decide) (by decide))
theorem e_powN {C : Ct} {A A1 : AS} {E' : XK} {tl : TA} {b e p : Nat} (h : EvA C tl A [dN b, dN e, dN p] A1) (hp : 0 < p) (hs : p < 2 ^ 4000) : EvS C (tCall (spD C.K C.T (sp_powBy C.K)) [] E' tl) A (dN (b ^ e % p)) A1 :=
  e_is (e_call (d := di ((b : Int) ^ (e : Int).toNat % (p : Int))) h ⟨b, e, p, rfl, hs, (if_neg (by omega)).symm⟩) (congrArg di (by
    rw [Int.toNat_natCast, ← Int.natCast_pow, ← Int.natCast_emod]))
theorem root_of (n : Nat) : ∃ w, w * w ≤ n ∧ n < (w + 1) * (w + 1) := by
  induction n with
  | zero => exact ⟨0, by decide, by decide⟩
  | succ n ih =>
    obtain ⟨w, h1, h2⟩ := ih
    by_cases h : n + 1 < (w + 1) * (w + 1)
    · exact ⟨w, by omega, h⟩
    · refine ⟨w + 1, by omega, ?_⟩
      have : (w + 1 + 1) * (w + 1 + 1) = (w + 1) * (w + 1) + 2 * (w + 1) + 1 := by grind
      omega
/-- no divisor up to the root: a prime -/
theorem prm_root {n w : Nat} (h2 : 2 ≤ n) (h1 : n < (w + 1) * (w + 1)) (hd : ∀ d, 2 ≤ d → d ≤ w → n % d ≠ 0) : Prm n := by
  obtain ⟨q, q1, q2⟩ := some_prime n h2
  by_cases hq : q ≤ w
  · exact absurd (Nat.mod_eq_zero_of_dvd q2) (hd q q1.1 hq)
  · obtain ⟨m, hm⟩ := q2
    have q0 := q1.1
    by_cases e : m ≤ 1
    · have m0 : m ≠ 0 := fun z => by rw [z] at hm; omega
      have : m = 1 := by omega
      rw [this, Nat.mul_one] at hm
      rw [hm]; exact q1
    · have hm2 : m ≤ w := by
        refine Classical.byContradiction fun z => ?_
        have := Nat.mul_le_mul (show w + 1 ≤ q by omega) (show w + 1 ≤ m by omega)
        omega
      exact absurd (Nat.mod_eq_zero_of_dvd ⟨q, by rw [hm, Nat.mul_comm]⟩) (hd m (by omega) hm2)
theorem prm_no {n d : Nat} (h : Prm n) (h2 : 2 ≤ d) (hl : d < n) : n % d ≠ 0 := fun z => by
  rcases h.2 d (Nat.dvd_of_mod_eq_zero z) with e | e <;> omega
open Classical in
noncomputable def litB (n : Nat) : Bool := decide (n < 1000 ∧ Prm n)
theorem litB_t {n : Nat} : litB n = true ↔ n < 1000 ∧ Prm n := by simp [litB]
theorem litB_f {n : Nat} : litB n = false ↔ ¬ (n < 1000 ∧ Prm n) := by simp only [litB, decide_eq_false_iff_not]
def sp_little : List Dt → Rs → Prop := fun ds r => ∃ n : Nat, ds = [dN n] ∧ n < 2 ^ 60 ∧ r = .ok (db (litB n))

theorem ok_is_little_prime (X : Txt K mg) (F : ∃ fd, FunD K "is_little_prime" "is_little_prime" (defArgs s_is_little_prime) (defBody s_is_little_prime) (defScope s_is_little_prime) [] [] (He.ga K "is_little_prime") fd) (hm : mg "is_little_prime" = some (.ref (He.ga K "is_little_prime"))) : Gd P w K mg base "is_little_prime" ["number"] 1 (spD K T sp_little) := by
  have Tx := X
  refine mkG F hm sc_is_little_prime (fun _ _ _ _ _ _ us hl => match us, hl with | [_], _ => rfl) (fun ds r h => ?len) (fun cdv A outer s H E hr => ?body)
  case len => (obtain ⟨_, rfl, _⟩ := h; rfl)
  case body =>
    have sc := sc_is_little_prime
    refine ⟨_, (pss_cons (ps_if (pt_not (pt_chain op_le op_lt pe_int (pv 0) (peC Tx.c_LITTLE))) (pss_one (ps_ret pe_bl)) pss_nil)
  (pss_one (ps_ret (pe_callB (cr_all rfl) (by rfl) Tx.n_all (by decide +kernel) (pa_cons (pe_lc (own := [("divisor", 1)]) rfl sc.nd (pi_range2 rfl Tx.n_range (pa_cons pe_int (pa_cons (pe_op op_addA (pe_callBfun cr_isqrt (by rfl) Tx.n_isqrt (pa_cons (pv 0) pa_nil)) pe_int) pa_nil))) (blkOk_by (own := [("divisor", 1)]) (N := ["number", "divisor"]) (sc := defScope s_is_little_prime) (by decide +kernel)) (fun _ _ _ _ _ => (pg_name (i := 1) sc.nd rfl (Or.inl rfl))) (fun _ _ _ _ _ => pts_nil) (fun _ _ _ _ _ => (pe_cmpR (op_neAK (K := K) rfl hr.units) (pe_op op_modN (pv 0) (pv 1)) pe_int (nomark _)))) pa_nil))))), fun O ds r hg => ?_⟩
    clear sc hr
    try dsimp only [cxOf]

    obtain ⟨n, rfl, hn, rfl⟩ := hg
    obtain ⟨u, hu, lu⟩ := X.c_LITTLE
    by_cases h2 : 2 ≤ n
    · have c1 : OpS ⟨K, T, H, O⟩ (rI0 fun i j => .bl (decide (i ≤ j))) (di 2) (dN n) (db true) := by
        rw [show true = decide ((2 : Int) ≤ (n : Int)) from (decide_eq_true (by omega)).symm]
        exact o_I0
      by_cases h3 : n < 1000
      · have c2 : OpS ⟨K, T, H, O⟩ (rI0 fun i j => .bl (decide (i < j))) (dN n) (di 1000) (db true) := by
          rw [show true = decide ((n : Int) < (1000 : Int)) from (decide_eq_true (by omega)).symm]
          exact o_I0
        refine r_seq (r_ifFs (t_is (t_not (t_test (e_chainT e_c (e_var rfl) c1 e_c c2))) rfl) (r_next ?_))
        obtain ⟨w, w1, w2⟩ := root_of n
        have ww : w < n := by
          refine Classical.byContradiction fun z => ?_
          have := Nat.mul_le_mul (show 2 ≤ w by omega) (show n ≤ w by omega)
          omega
        refine r_ret (d := db (litB n)) (e_is (e_all (bs := (List.range (w - 1)).map fun i => !decide (n % (2 + i) = 0)) (a_cons (e_is (e_lcR (w_rng2n (c := w - 1) (m := 2) (n := ((w + 1 : Nat) : Int)) (a_cons e_c (a_cons (e_addN (e_isqrt (w := w) (e_var rfl) (by omega) w1 w2) (e_cN 1)) a_nil)) (by omega) (by omega) (by omega)) (fun i => ⟨[.d (dN n), .un], []⟩) (fun i => (List.range i).map fun j => db (!decide (n % (2 + j) = 0))) rfl rfl (fun i hi O' => ?_) (by omega)) (by rw [List.map_map]; rfl)) a_nil)) ?_) rfl
        · refine ⟨⟨[.d (dN n), .d (dN (2 + i))], []⟩, true, _, ?_, t_yes, .inl ⟨rfl, _, _, e_bin (e_modN (e_var rfl) (e_var rfl) (by omega)) e_c o_neI, ?_, rfl⟩⟩
          · rw [show (2 : Int) + (i : Int) = ((2 + i : Nat) : Int) by omega]
            exact tgS_name (by simp)
          · rw [List.range_succ, List.map_append]
            congr 3
            rw [List.map_cons, List.map_nil]
            congr 3
            rw [decide_eq_decide]
            omega
        · congr 2
          cases hb : litB n with
          | true =>
            have hp := litB_t.mp hb
            rw [List.all_eq_true]
            intro x hx
            obtain ⟨i, hi, rfl⟩ := List.mem_map.mp hx
            have hi := List.mem_range.mp hi
            have := prm_no hp.2 (d := 2 + i) (by omega) (by omega)
            simp [this]
          | false =>
            have hp := litB_f.mp hb
            rw [List.all_eq_false]
            refine Classical.byContradiction fun z => hp ⟨h3, prm_root h2 w2 fun d d1 d2 e => z ⟨_, List.mem_map.mpr ⟨d - 2, List.mem_range.mpr (by omega), rfl⟩, ?_⟩⟩
            rw [show 2 + (d - 2) = d by omega, e]
            decide
      · have c2 : OpS ⟨K, T, H, O⟩ (rI0 fun i j => .bl (decide (i < j))) (dN n) (di 1000) (db false) := by
          rw [show false = decide ((n : Int) < (1000 : Int)) from (decide_eq_false (by omega)).symm]
          exact o_I0
        refine r_seq (r_ifTs (t_is (t_not (t_test (e_chainT e_c (e_var rfl) c1 e_c c2))) rfl) (r_ret e_c ?_))
        show Rs.ok _ = _
        rw [litB_f.mpr (by omega)]
    · have c1 : OpS ⟨K, T, H, O⟩ (rI0 fun i j => .bl (decide (i ≤ j))) (di 2) (dN n) (db false) := by
        rw [show false = decide ((2 : Int) ≤ (n : Int)) from (decide_eq_false (by omega)).symm]
        exact o_I0
      refine r_seq (r_ifTs (t_is (t_not (t_test (e_chainF e_c (e_var rfl) c1))) rfl) (r_ret e_c ?_))
      show Rs.ok _ = _
      rw [litB_f.mpr (fun z => h2 z.2.1)]

/-! ### is_witness, witness -/
def witB (p g : Nat) (l : List Nat) : Bool := decide (g ^ (p - 1) % p = 1) && (l.all fun q => !decide (g ^ ((p - 1) / q) % p = 1))
def sp_isw : List Dt → Rs → Prop := fun ds r => ∃ (p g : Nat) (l : List Nat), ds = [dN p, dN g, .tup (l.map dN)] ∧ 1 ≤ p ∧ p ≤ 1000000000002 ∧ (∀ q ∈ l, 0 < q ∧ q ≤ 1000000000002) ∧ l.length ≤ 1000 ∧ r = .ok (db (witB p g l))
theorem big_4000 {p : Nat} (h : p ≤ 1000000000002) : p < 2 ^ 4000 := Nat.lt_of_le_of_lt h (Nat.lt_of_lt_of_le (by decide : 1000000000002 < 2 ^ 40) (Nat.pow_le_pow_right (by decide) (by decide)))
theorem fits_big {p : Nat} (h : p ≤ 1000000000002) : Fits p := big_4000 h

theorem ok_is_witness (X : Txt K mg) (F : ∃ fd, FunD K "is_witness" "is_witness" (defArgs s_is_witness) (defBody s_is_witness) (defScope s_is_witness) [] [] (He.ga K "is_witness") fd) (hm : mg "is_witness" = some (.ref (He.ga K "is_witness"))) (G_power_by : Gd P w K mg base "power_by" ["number", "exponent", "base"] 3 (spD K T (sp_powBy K))) : Gd P w K mg base "is_witness" ["prime", "one", "factors"] 4 (spD K T sp_isw) := by
  have Tx := X
  refine mkG F hm sc_is_witness (fun _ _ _ _ _ _ us hl => match us, hl with | [_, _, _], _ => rfl) (fun ds r h => ?len) (fun cdv A outer s H E hr => ?body)
  case len => (obtain ⟨_, _, _, rfl, _⟩ := h; rfl)
  case body =>
    have sc := sc_is_witness
    refine ⟨_, (pss_cons (ps_if (pt_cmpR (op_neA hr.units) (pe_callG G_power_by (hr.mono (by decide)) psE (pa_cons (pv 1) (pa_cons (pe_op op_sub (pv 0) pe_int) (pa_cons (pv 0) pa_nil)))) pe_int (nomark _)) (pss_one (ps_ret pe_bl)) pss_nil)
  (pss_one (ps_ret (pe_callB (cr_all rfl) (by rfl) Tx.n_all (by decide +kernel) (pa_cons (pe_lc (own := [("factor", 3)]) rfl sc.nd (pi_tup (pv 2)) (blkOk_by (own := [("factor", 3)]) (N := ["prime", "one", "factors", "factor"]) (sc := defScope s_is_witness) (by decide +kernel)) (fun _ _ _ _ _ => (pg_name (i := 3) sc.nd rfl (Or.inl rfl))) (fun _ _ _ _ _ => pts_nil) (fun _ _ _ _ _ => (pe_cmpR (op_neAK (K := K) rfl hr.units) (pe_callG G_power_by (hr.mono (by decide)) passL (pa_cons (pv 1) (pa_cons (pe_op op_fdivX (pe_op op_sub (pv 0) pe_int) (pv 3)) (pa_cons (pv 0) pa_nil)))) pe_int (nomark _)))) pa_nil))))), fun O ds r hg => ?_⟩
    clear sc hr
    try dsimp only [cxOf]

    obtain ⟨p, b, l, rfl, hp, hz, hl, hn, rfl⟩ := hg
    unfold witB
    by_cases h : b ^ (p - 1) % p = 1
    · refine r_seq (r_ifFs (t_is (t_neN (e_powN (a_cons (e_var rfl) (a_cons (e_subN (e_var rfl) (e_cN 1) hp) (a_cons (e_var rfl) a_nil))) hp (big_4000 hz)) (e_cN 1)) (by rw [decide_eq_true h]; rfl)) (r_next ?_))
      rw [decide_eq_true h, Bool.true_and]
      have hlen : (l.map dN).length = l.length := List.length_map ..
      refine r_ret (d := db (l.all fun q => !decide (b ^ ((p - 1) / q) % p = 1))) (e_is (e_all (bs := l.map fun q => !decide (b ^ ((p - 1) / q) % p = 1)) (a_cons (e_is (e_lcT (xs := l.map dN) (e_var rfl) (fun i => ⟨[.d (dN p), .d (dN b), .d (.tup (l.map dN)), .un], []⟩) (fun i => (l.take i).map fun q => db (!decide (b ^ ((p - 1) / q) % p = 1))) rfl rfl (fun i x hx O' => ?_) (by omega)) (by rw [hlen, List.take_of_length_le (Nat.le_refl _), List.map_map]; rfl)) a_nil)) ?_) rfl
      · rw [List.getElem?_map] at hx
        obtain ⟨q, hq, rfl⟩ := Option.map_eq_some_iff.mp hx
        have hm := hl q (List.mem_of_getElem? hq)
        refine ⟨⟨[.d (dN p), .d (dN b), .d (.tup (l.map dN)), .d (dN q)], []⟩, true, _, tgS_name (by simp), t_yes, .inl ⟨rfl, _, _, e_bin (e_powN (C := ⟨K, T, H, O'⟩) (a_cons (e_var rfl) (a_cons (e_divN (e_subN (e_var rfl) (e_cN 1) hp) (e_var rfl) (fits_big hm.2) hm.1) (a_cons (e_var rfl) a_nil))) hp (big_4000 hz)) e_c o_neI, ?_, rfl⟩⟩
        rw [List.take_add_one, hq, List.map_append]
        rw [show decide (((b ^ ((p - 1) / q) % p : Nat) : Int) = 1) = decide (b ^ ((p - 1) / q) % p = 1) from decide_eq_decide.mpr (by omega)]
        rfl
      · rw [List.all_map]; rfl
    · refine r_seq (r_ifTs (t_is (t_neN (e_powN (a_cons (e_var rfl) (a_cons (e_subN (e_var rfl) (e_cN 1) hp) (a_cons (e_var rfl) a_nil))) hp (big_4000 hz)) (e_cN 1)) (by rw [decide_eq_false h]; rfl)) (r_ret e_c ?_))
      rw [decide_eq_false h]; rfl
end
end Law
end

section
set_option Elab.async false
set_option linter.all false
set_option autoImplicit false
set_option maxRecDepth 100000
set_option maxHeartbeats 1000000
set_option exponentiation.threshold 300
namespace Law
open PySem PySem.Spec PyProof.Rows L2 Py Mt Pm
/-! ### the rows of a prime's proof -/
inductive Reach (n : Nat) : Nat → Prop
  | base (h : 1000 ≤ n) : Reach n n
  | step {p q : Nat} (h : Reach n p) (hq : q ∈ qs (p - 1)) (h1 : 1000 ≤ q) : Reach n q
theorem Reach.ok {n : Nat} (hp : Prm n) (hn : n ≤ 1000000000000) : ∀ {p : Nat}, Reach n p → Prm p ∧ p ≤ n ∧ 1000 ≤ p := by
  intro p h
  induction h with
  | base h => exact ⟨hp, Nat.le_refl _, h⟩
  | step h hq h1 ih =>
    rename_i p q
    have := (qs_mem (n := p - 1) (by omega) (by omega)).mp hq
    have := Nat.le_of_dvd (by omega) this.2
    exact ⟨((qs_mem (n := p - 1) (by omega) (by omega)).mp hq).1, by omega, h1⟩
open Classical in
noncomputable def big (n : Nat) : List Nat := ((List.range (n + 1)).filter fun p => decide (Reach n p)).reverse
theorem big_mem {n : Nat} (hp : Prm n) (hn : n ≤ 1000000000000) {p : Nat} : p ∈ big n ↔ Reach n p := by
  unfold big
  rw [List.mem_reverse, List.mem_filter, List.mem_range]
  constructor
  · intro h; simpa using h.2
  · intro h; exact ⟨by have := (h.ok hp hn).2.1; omega, by simpa using h⟩
theorem big_desc (n : Nat) : (big n).Pairwise (· > ·) := by
  unfold big
  rw [List.pairwise_reverse]
  exact List.Pairwise.filter _ List.pairwise_lt_range
noncomputable def rowD (p : Nat) : Dt := .tup [dN p, dN (wit p (qs (p - 1))), .tup ((qs (p - 1)).map dN)]
noncomputable def kv (ks : List Nat) : KD := ks.map fun (p : Nat) => (Sum.inl (p : Int), rowD p)
theorem kv_any (y : Nat) : ∀ ks : List Nat, ((kv ks).any fun x => decide (x.1 = Sum.inl (y : Int))) = decide (y ∈ ks)
  | [] => rfl
  | k :: r => by
    rw [kv, List.map_cons, List.any_cons]
    have := kv_any y r
    rw [kv] at this
    rw [this]
    by_cases e : k = y
    · subst e; simp
    · have e1 : ¬ ((Sum.inl (k : Int) : Key) = Sum.inl (y : Int)) := fun z => e (by have := Sum.inl.inj z; omega)
      rw [show decide ((Sum.inl (k : Int) : Key) = Sum.inl (y : Int)) = false from decide_eq_false e1, Bool.false_or, decide_eq_decide, List.mem_cons]
      exact ⟨fun h => .inr h, fun h => h.resolve_left fun z => e z.symm⟩
theorem kv_put {y : Nat} {ks : List Nat} (h : y ∉ ks) : putD (kv ks) (Sum.inl (y : Int)) (rowD y) = kv (ks ++ [y]) := by
  unfold putD
  rw [kv_any, decide_eq_false h, if_neg (by decide)]
  unfold kv
  rw [List.map_append]; rfl
theorem kv_get (y : Nat) : ∀ ks : List Nat, y ∈ ks → getD (kv ks) (Sum.inl (y : Int)) = some (rowD y)
  | k :: r, h => by
    unfold getD kv
    rw [List.map_cons]
    by_cases e : k = y
    · subst e
      rw [List.find?_cons_of_pos (by simp)]; rfl
    · have e1 : ¬ ((Sum.inl (k : Int) : Key) = Sum.inl (y : Int)) := fun z => e (by have := Sum.inl.inj z; omega)
      rw [List.find?_cons_of_neg (by simpa using e1)]
      exact kv_get y r ((List.mem_cons.mp h).resolve_left fun z => e z.symm)
theorem kv_len (ks : List Nat) : (kv ks).length = ks.length := List.length_map ..
/-! ### products -/
theorem prod_app (l m : List Nat) : prod (l ++ m) = prod l * prod m := by
  induction l with
  | nil => simp [prod]
  | cons a r ih => rw [List.cons_append, prod, ih, prod, Nat.mul_assoc]
theorem prod_pos : ∀ {l : List Nat}, (∀ x ∈ l, 0 < x) → 0 < prod l
  | [], _ => by decide
  | a :: r, h => Nat.mul_pos (h a (List.mem_cons_self ..)) (prod_pos fun x hx => h x (List.mem_cons_of_mem _ hx))
theorem prod_len : ∀ {l : List Nat}, (∀ x ∈ l, 2 ≤ x) → 2 ^ l.length ≤ prod l
  | [], _ => by decide
  | a :: r, h => by
    have h1 := prod_len (l := r) fun x hx => h x (List.mem_cons_of_mem _ hx)
    have h2 := h a (List.mem_cons_self ..)
    rw [List.length_cons, Nat.pow_succ, prod, Nat.mul_comm]
    exact Nat.mul_le_mul h2 h1
/-- the product of the numbers from 1000 on -/
def bigP (l : List Nat) : Nat := prod (l.filter fun x => decide (1000 ≤ x))
theorem bigP_app (l m : List Nat) : bigP (l ++ m) = bigP l * bigP m := by unfold bigP; rw [List.filter_append, prod_app]
theorem bigP_le : ∀ {l : List Nat}, (∀ x ∈ l, 0 < x) → bigP l ≤ prod l
  | [], _ => Nat.le_refl _
  | a :: r, h => by
    have ih := bigP_le (l := r) fun x hx => h x (List.mem_cons_of_mem _ hx)
    unfold bigP at *
    rw [List.filter_cons]
    split
    · exact Nat.mul_le_mul_left a ih
    · exact Nat.le_trans ih (Nat.le_mul_of_pos_left _ (h a (List.mem_cons_self ..)))
theorem bigP_pos {l : List Nat} (h : ∀ x ∈ l, 0 < x) : 0 < bigP l := prod_pos fun x hx => h x (List.mem_filter.mp hx).1
theorem prod_fst : ∀ {rs : List Row}, (∀ r ∈ rs, 1 ≤ r.1 ∧ 1 ≤ r.2) → prod (rs.map (·.1)) ≤ rp rs
  | [], _ => Nat.le_refl _
  | r :: t, h => by
    have ih := prod_fst (rs := t) fun x hx => h x (List.mem_cons_of_mem _ hx)
    have h1 := h r (List.mem_cons_self ..)
    rw [List.map_cons, prod, rp]
    refine Nat.mul_le_mul ?_ ih
    have := Nat.pow_le_pow_right h1.1 h1.2
    rwa [Nat.pow_one] at this
theorem qs_prod {n : Nat} (h0 : 0 < n) (hn : n ≤ 1000000000000) : prod (qs n) ≤ n := by
  obtain ⟨⟨f1, f2, f3⟩, _⟩ := pf_ok h0 hn
  have := prod_fst (rs := pfRows (pfN n)) fun r hr => ⟨by have := (f2 r hr).1.1; omega, (f2 r hr).2⟩
  rw [← f1] at this
  exact this
theorem prm2 : Prm 2 := ⟨by decide, fun d hd => by
  have := Nat.le_of_dvd (by decide) hd
  have : d ≠ 0 := fun z => by rw [z] at hd; have := Nat.eq_zero_of_zero_dvd hd; omega
  omega⟩
theorem odd_prm {p : Nat} (h : Prm p) (h3 : 2 < p) : 2 ∣ p - 1 := by
  refine Classical.byContradiction fun z => ?_
  have : 2 ∣ p := by omega
  rcases h.2 2 this with e | e <;> omega
/-- of the prime less 1 the factors from 1000 on make at most the half -/
theorem qs_big {p : Nat} (h : Prm p) (h3 : 2 < p) (hn : p ≤ 1000000000000) : 2 * bigP (qs (p - 1)) ≤ p - 1 := by
  have m2 : 2 ∈ qs (p - 1) := (qs_mem (by omega) (by omega)).mpr ⟨prm2, odd_prm h h3⟩
  have hp := qs_prod (n := p - 1) (by omega) (by omega)
  have all : ∀ x ∈ qs (p - 1), 0 < x := fun x hx => by have := ((qs_mem (n := p - 1) (by omega) (by omega)).mp hx).1.1; omega
  generalize qs (p - 1) = l at *
  obtain ⟨a, b, rfl⟩ := List.append_of_mem m2
  have ha := bigP_le (l := a) fun x hx => all x (by simp [hx])
  have hb := bigP_le (l := b) fun x hx => all x (by simp [hx])
  rw [prod_app, prod] at hp
  rw [bigP_app, show bigP (2 :: b) = bigP b by unfold bigP; rw [List.filter_cons, if_neg (by decide)]]
  have := Nat.mul_le_mul ha hb
  have e : prod a * (2 * prod b) = 2 * (prod a * prod b) := by grind
  omega
theorem qs_len {n : Nat} (h0 : 0 < n) (hn : n ≤ 1000000000000) : (qs n).length ≤ 40 := by
  have h1 := prod_len (l := qs n) fun x hx => ((qs_mem h0 hn).mp hx).1.1
  have h2 := qs_prod h0 hn
  have h3 : 2 ^ (qs n).length < 2 ^ 40 := by
    refine Nat.lt_of_le_of_lt (Nat.le_trans h1 h2) (Nat.lt_of_le_of_lt hn (by decide))
  exact Nat.le_of_lt ((Nat.pow_lt_pow_iff_right (by decide : 1 < 2)).mp h3)
/-- what holds while the primes are looked at -/
structure PI (n : Nat) (ks ls : List Nat) : Prop where
  pr : ∀ x ∈ ls, Prm x ∧ x ≤ n ∧ (1000 ≤ x → Reach n x)
  nd : ks.Nodup
  re : ∀ p ∈ ks, Reach n p
  cl : ∀ p ∈ ks, ∀ q ∈ qs (p - 1), 1000 ≤ q → q ∈ ks ∨ q ∈ ls
  st : 1000 ≤ n → n ∈ ks ∨ n ∈ ls
  pd : prod ls ≤ n
  ct : 2 ^ ks.length * bigP ls ≤ n
theorem PI.start {n : Nat} (hp : Prm n) : PI n [] [n] := ⟨fun x hx => by
    obtain rfl := List.mem_singleton.mp hx
    exact ⟨hp, Nat.le_refl _, fun h => .base h⟩, List.nodup_nil, fun p h => (by cases h), fun p h => (by cases h), fun _ => .inr (List.mem_singleton.mpr rfl), by simp [prod], by
    have := bigP_le (l := [n]) fun x hx => by obtain rfl := List.mem_singleton.mp hx; have := hp.1; omega
    simp [prod] at this
    simpa using this⟩
section
variable {n y : Nat} {ks ls : List Nat}
theorem PI.lens (I : PI n ks ls) (hn : n ≤ 1000000000000) : ls.length ≤ 40 ∧ ks.length ≤ 40 := by
  have h1 := prod_len (l := ls) fun x hx => (I.pr x hx).1.1
  have h2 := I.pd
  have p0 : 0 < bigP ls := bigP_pos fun x hx => by have := (I.pr x hx).1.1; omega
  have h3 : 2 ^ ks.length ≤ n := Nat.le_trans (Nat.le_mul_of_pos_right _ p0) I.ct
  have lt : ∀ k : Nat, 2 ^ k ≤ n → k ≤ 40 := fun k hk => by
    have : 2 ^ k < 2 ^ 40 := Nat.lt_of_le_of_lt (Nat.le_trans hk hn) (by decide)
    exact Nat.le_of_lt ((Nat.pow_lt_pow_iff_right (by decide : 1 < 2)).mp this)
  exact ⟨lt _ (Nat.le_trans h1 h2), lt _ h3⟩
/-- one that is little, or there, is dropped -/
theorem PI.drop (I : PI n ks (ls ++ [y])) (h : y < 1000 ∨ y ∈ ks) : PI n ks ls ∧ prod ls < prod (ls ++ [y]) := by
  have y2 := (I.pr y (by simp)).1.1
  have pp : 0 < prod ls := prod_pos fun x hx => by have := (I.pr x (by simp [hx])).1.1; omega
  have e : prod (ls ++ [y]) = prod ls * y := by rw [prod_app]; simp [prod]
  have lt : prod ls < prod (ls ++ [y]) := by
    rw [e]
    have : prod ls * 2 ≤ prod ls * y := Nat.mul_le_mul_left _ y2
    omega
  refine ⟨⟨fun x hx => I.pr x (by simp [hx]), I.nd, I.re, fun p hp q hq h1 => ?_, fun hn => ?_, by have := I.pd; omega, ?_⟩, lt⟩
  · rcases I.cl p hp q hq h1 with z | z
    · exact .inl z
    · rcases List.mem_append.mp z with z | z
      · exact .inr z
      · obtain rfl := List.mem_singleton.mp z
        rcases h with h | h
        · omega
        · exact .inl h
  · rcases I.st hn with z | z
    · exact .inl z
    · rcases List.mem_append.mp z with z | z
      · exact .inr z
      · obtain rfl := List.mem_singleton.mp z
        rcases h with h | h
        · omega
        · exact .inl h
  · refine Nat.le_trans ?_ I.ct
    rw [bigP_app]
    refine Nat.mul_le_mul_left _ (Nat.le_mul_of_pos_right _ (bigP_pos fun x hx => ?_))
    obtain rfl := List.mem_singleton.mp hx
    omega
/-- one that is new gets a row, and its factors are looked at -/
theorem PI.more (I : PI n ks (ls ++ [y])) (hn : n ≤ 1000000000000) (h : 1000 ≤ y) (hk : y ∉ ks) : PI n (ks ++ [y]) (ls ++ qs (y - 1)) ∧ prod (ls ++ qs (y - 1)) < prod (ls ++ [y]) := by
  have hy := I.pr y (by simp)
  have y1 : 0 < y - 1 := by omega
  have yn : y - 1 ≤ 1000000000000 := by omega
  have pp : 0 < prod ls := prod_pos fun x hx => by have := (I.pr x (by simp [hx])).1.1; omega
  have e : prod (ls ++ [y]) = prod ls * y := by rw [prod_app]; simp [prod]
  have lt : prod (ls ++ qs (y - 1)) < prod (ls ++ [y]) := by
    rw [e, prod_app]
    have := Nat.mul_le_mul_left (prod ls) (qs_prod y1 yn)
    have : prod ls * (y - 1) < prod ls * y := Nat.mul_lt_mul_of_pos_left (by omega) pp
    omega
  refine ⟨⟨fun x hx => ?_, ?_, fun p hp => ?_, fun p hp q hq h1 => ?_, fun h1 => ?_, by have := I.pd; omega, ?_⟩, lt⟩
  · rcases List.mem_append.mp hx with z | z
    · exact I.pr x (by simp [z])
    · have g := (qs_mem y1 yn).mp z
      have := Nat.le_of_dvd y1 g.2
      exact ⟨g.1, by omega, fun h1 => .step (hy.2.2 h) z h1⟩
  · refine List.nodup_append.mpr ⟨I.nd, by simp, fun a ha b hb => ?_⟩
    obtain rfl := List.mem_singleton.mp hb
    exact fun z => hk (by rw [← z]; exact ha)
  · rcases List.mem_append.mp hp with z | z
    · exact I.re p z
    · obtain rfl := List.mem_singleton.mp z
      exact hy.2.2 h
  · rcases List.mem_append.mp hp with z | z
    · rcases I.cl p z q hq h1 with w | w
      · exact .inl (by simp [w])
      · rcases List.mem_append.mp w with w | w
        · exact .inr (by simp [w])
        · exact .inl (by simp [List.mem_singleton.mp w])
    · obtain rfl := List.mem_singleton.mp z
      exact .inr (by simp [hq])
  · rcases I.st h1 with w | w
    · exact .inl (by simp [w])
    · rcases List.mem_append.mp w with w | w
      · exact .inr (by simp [w])
      · exact .inl (by simp [List.mem_singleton.mp w])
  · refine Nat.le_trans ?_ I.ct
    rw [bigP_app, bigP_app, show bigP [y] = y by unfold bigP; rw [List.filter_cons, if_pos (by simpa using h)]; simp [prod], List.length_append, List.length_singleton, Nat.pow_succ]
    have := qs_big hy.1 (by omega) (by omega)
    have h3 : 2 ^ ks.length * 2 * (bigP ls * bigP (qs (y - 1))) = 2 ^ ks.length * (bigP ls * (2 * bigP (qs (y - 1)))) := by grind
    rw [h3]
    exact Nat.mul_le_mul_left _ (Nat.mul_le_mul_left _ (by omega))
/-- the end: the rows are those of all that can be reached -/
theorem PI.fin (I : PI n ks []) (hp : Prm n) (hn : n ≤ 1000000000000) : (big n).Perm ks := by
  refine (perm_of I.nd (fun x hx => (big_mem hp hn).mpr (I.re x hx)) ?_).symm
  have sub : ∀ x ∈ big n, x ∈ ks := fun x hx => by
    have r := (big_mem hp hn).mp hx
    induction r with
    | base h => exact (I.st h).resolve_right (by simp)
    | step h hq h1 ih => exact (I.cl _ (ih ((big_mem hp hn).mpr h)) _ hq h1).resolve_right (by simp)
  have nd : (big n).Nodup := (big_desc n).imp fun h e => by omega
  -- a list without twins in another is no longer
  have len : ∀ {l m : List Nat}, l.Nodup → (∀ x ∈ l, x ∈ m) → l.length ≤ m.length := by
    intro l
    induction l with
    | nil => intro m _ _; exact Nat.zero_le _
    | cons a t ih =>
      intro m nd h
      have nd := List.nodup_cons.mp nd
      have ha := h a (List.mem_cons_self ..)
      have e := List.perm_cons_erase ha
      have := ih (m := m.erase a) nd.2 fun x hx => by
        rcases List.mem_cons.mp (e.mem_iff.mp (h x (List.mem_cons_of_mem _ hx))) with z | z
        · exact absurd (by rw [← z]; exact hx) nd.1
        · exact z
      have := e.length_eq
      simp only [List.length_cons] at *
      omega
  exact len nd sub
end
end Law
end

section
set_option Elab.async false
set_option linter.all false
set_option maxRecDepth 100000
set_option maxHeartbeats 4000000
set_option autoImplicit false
set_option exponentiation.threshold 300
namespace Law
open PySem PySem.Spec PyProof.Rows L2 Py Mt Pm

local macro_rules | `(tactic| wtm_at "op") => `(tactic| first
  | with_reducible exact o_I0 | with_reducible exact o_add | with_reducible exact o_eqI | with_reducible exact o_neI
  | ((with_reducible apply o_mul); first | assumption | wtm_at "si")
  | ((with_reducible apply o_I); first | assumption | wtm_at "si")
  | ((with_reducible apply o_ixT); rfl) | ((with_reducible apply o_ixL); rfl)
  | ((with_reducible apply o_eqD) <;> first | rfl | decide | assumption) | ((with_reducible apply o_neD) <;> first | rfl | decide | assumption)
  | with_reducible assumption)
local macro_rules | `(tactic| wtm_at "si") => `(tactic| first | decide | exact ⟨by decide, by decide +kernel⟩ | omega)
local macro_rules | `(tactic| wtm_at "ev") => `(tactic| first
  | ((with_reducible apply e_var); rfl) | with_reducible exact e_c | with_reducible exact a_nil
  | ((with_reducible apply a_cons) <;> wtm_at "ev")
  | ((with_reducible apply e_bin) <;> first | wtm_at "ev" | wtm_at "op")
  | ((with_reducible apply e_ixO) <;> first | rfl | wtm_at "ev")
  | ((with_reducible apply e_U) <;> wtm_at "ev")
  | ((with_reducible apply t_test) <;> wtm_at "ev")
  | ((with_reducible apply t_B) <;> wtm_at "ev")
  | ((with_reducible apply t_not) <;> wtm_at "ev")
  | ((with_reducible apply e_tup) <;> first | wtm_at "ev" | exact Nat.le_of_ble_eq_true rfl)
  | ((with_reducible apply e_lst) <;> first | wtm_at "ev" | exact Nat.le_of_ble_eq_true rfl)
  | ((with_reducible apply e_gcd) <;> wtm_at "ev")
  | ((with_reducible apply e_abs) <;> wtm_at "ev")
  | ((with_reducible apply e_max2) <;> wtm_at "ev")
  | ((with_reducible apply e_int) <;> wtm_at "ev")
  | ((with_reducible apply e_intB) <;> wtm_at "ev")
  | ((with_reducible apply e_bits) <;> wtm_at "ev")
  | ((with_reducible apply e_not) <;> wtm_at "ev")
  | with_reducible assumption)

section
variable {P : Program} {w : World} {K : Frg} {T : List (Addr × Str)} {mg : Str → Option Value} {base : Heap}

abbrev s_prime_proof : Stmt := top 14
theorem sc_prime_proof : FnScope ["number", "rows", "left", "one", "factors", "prime", "_"] ["number"] (defScope s_prime_proof) := ⟨rfl, rfl, rfl, by decide +kernel, rfl, by decide +kernel, by decide +kernel⟩
def s5 (v : SD) (i : Nat) : SD := match i with
  | 0 => v
  | _ + 1 => .un
theorem witB_iff {p b : Nat} {l : List Nat} (h : b ^ (p - 1) % p = 1) : witB p b l = true ↔ Wit p l b := by
  unfold witB Wit
  rw [decide_eq_true h, Bool.true_and, List.all_eq_true]
  constructor
  · intro z q hq e
    have := z q hq
    rw [e] at this
    exact absurd this (by decide)
  · intro z q hq
    simpa using z q hq
def sp_wit : List Dt → Rs → Prop := fun ds r => ∃ (p : Nat) (l : List Nat), ds = [dN p, .tup (l.map dN)] ∧ Prm p ∧ 2 < p ∧ p ≤ 1000000000000 ∧ l.Nodup ∧ (∀ q ∈ l, Prm q ∧ q ∣ p - 1) ∧ l ≠ [] ∧ l.length ≤ 1000 ∧ r = .ok (dN (wit p l))

theorem ok_witness (X : Txt K mg) (F : ∃ fd, FunD K "witness" "witness" (defArgs s_witness) (defBody s_witness) (defScope s_witness) [] [] (He.ga K "witness") fd) (hm : mg "witness" = some (.ref (He.ga K "witness"))) (G_power_by : Gd P w K mg base "power_by" ["number", "exponent", "base"] 3 (spD K T (sp_powBy K))) (G_is_witness : Gd P w K mg base "is_witness" ["prime", "one", "factors"] 4 (spD K T sp_isw)) : Gd P w K mg base "witness" ["prime", "factors"] 5 (spD K T sp_wit) := by
  have Tx := X
  refine mkG F hm sc_witness (fun _ _ _ _ _ _ us hl => match us, hl with | [_, _], _ => rfl) (fun ds r h => ?len) (fun cdv A outer s H E hr => ?body)
  case len => (obtain ⟨_, _, rfl, _⟩ := h; rfl)
  case body =>
    have sc := sc_witness
    refine ⟨_, (pss_cons (ps_for (passesE) rfl (pi_range2 rfl Tx.n_range (pa_cons pe_int (pa_cons (pv 0) pa_nil))) (pg_name (i := 2) sc.nd rfl (Or.inl rfl)) (pss_cons (ps_if (pt_cmpR (op_neA hr.units) (pe_callG G_power_by (hr.mono (by decide)) psE (pa_cons (pv 2) (pa_cons (pe_op op_sub (pv 0) pe_int) (pa_cons (pv 0) pa_nil)))) pe_int (nomark _)) (pss_one (ps_rz rfl takesE PySem.F.excBase_ValueError Tx.xNumberError.1 Tx.gNumberError Tx.xNumberError.2.1 (raises_own Tx.xNumberError.2.2.1 Tx.xNumberError.2.2.2) rfl)) pss_nil)
  (pss_one (ps_if (pt_val (pe_callG G_is_witness (hr.mono (by decide)) psE (pa_cons (pv 0) (pa_cons (pv 2) (pa_cons (pv 1) pa_nil))))) (pss_one (ps_ret (pv 2))) pss_nil))))
  (pss_one (ps_rz rfl takesE PySem.F.excBase_ValueError Tx.xNumberError.1 Tx.gNumberError Tx.xNumberError.2.1 (raises_own Tx.xNumberError.2.2.1 Tx.xNumberError.2.2.2) rfl))), fun O ds r hg => ?_⟩
    clear sc hr
    try dsimp only [cxOf]

    obtain ⟨p, l, rfl, hp, h3, hz, nd, hq, ne, hl, rfl⟩ := hg
    obtain ⟨w1, w2, w3, w4⟩ := wit_ok hp h3 nd hq ne
    refine r_seq (r_forR (w_rng2n (c := p - 2) (m := 2) (n := (p : Int)) (a_cons e_c (a_cons (e_var rfl) a_nil)) (by omega) (by omega) (by omega)) (fun i A => i ≤ wit p l - 2 ∧ ∃ x, A = ⟨[.d (dN p), .d (.tup (l.map dN)), x], []⟩) ⟨Nat.zero_le _, _, rfl⟩ ?_ ?_)
    · rintro i A hi ⟨h1, x, rfl⟩
      refine ⟨⟨[.d (dN p), .d (.tup (l.map dN)), .d (dN (2 + i))], []⟩, ?_, ?_⟩
      · rw [show (2 : Int) + (i : Int) = ((2 + i : Nat) : Int) by omega]
        exact tg_name
      · have fm : (2 + i) ^ (p - 1) % p = 1 := fermat hp (no_dvd (by omega) (by omega))
        refine r_seq (r_ifFs (t_is (t_neN (e_powN (a_cons (e_var rfl) (a_cons (e_subN (e_var rfl) (e_cN 1) (by omega)) (a_cons (e_var rfl) a_nil))) (by omega) (big_4000 (by omega))) (e_cN 1)) (by rw [decide_eq_true fm]; rfl)) (r_next ?_))
        have ev : EvS ⟨K, T, H, O⟩ _ _ _ _ := e_call (C := ⟨K, T, H, O⟩) (A := ⟨[.d (dN p), .d (.tup (l.map dN)), .d (dN (2 + i))], []⟩) (g := sp_isw) (d := db (witB p (2 + i) l)) (E' := E) (a_cons (e_var (i := 0) rfl) (a_cons (e_var (i := 2) rfl) (a_cons (e_var (i := 1) rfl) a_nil))) ⟨p, 2 + i, l, rfl, by omega, by omega, fun q hq' => ⟨by have := (hq q hq').1.1; omega, by have := Nat.le_of_dvd (by omega) (hq q hq').2; omega⟩, hl, rfl⟩
        by_cases e : 2 + i = wit p l
        · have wb : witB p (2 + i) l = true := (witB_iff fm).mpr (by rw [e]; exact w3)
          rw [wb] at ev
          exact r_ifTs (t_B ev) (r_ret (e_var rfl) (by rw [e]; rfl))
        · have wb : witB p (2 + i) l = false := by
            cases h : witB p (2 + i) l with
            | false => rfl
            | true => exact absurd ((witB_iff fm).mp h) (w4 _ (by omega) (by omega))
          rw [wb] at ev
          exact r_ifFs (t_B ev) (r_next ⟨by omega, _, rfl⟩)
    · rintro A ⟨h1, _⟩
      omega

open Classical in
noncomputable def proofR (e : Addr) (n : Nat) : Rs := if Prm n then .ok (.tup ((big n).map rowD)) else .err e
theorem proofR_t {e : Addr} {n : Nat} (h : Prm n) : proofR e n = .ok (.tup ((big n).map rowD)) := if_pos h
theorem proofR_f {e : Addr} {n : Nat} (h : ¬ Prm n) : proofR e n = .err e := if_neg h
def sp_proof (K : Frg) : List Dt → Rs → Prop := fun ds r => ∃ n : Nat, ds = [dN n] ∧ n ≤ 1000000000000 ∧ r = proofR (NE K) n
theorem nice_row (r : Row) : Nice 1 (row r) (.tuple [.int r.1, .int r.2]) := .tup (.cons .int (.cons .int .nil))
theorem niceN (l : List Nat) : NiceA 0 (l.map dN) (l.map fun (n : Nat) => .int (n : Int)) := niceA_map (fun _ => .int) l
theorem pfR_ok {e : Addr} {n : Nat} (h0 : 0 < n) (hn : n ≤ 1000000000000) : pfR e (n : Int) = .ok (.tupZ ((pfRows (pfN n)).map row)) := by
  unfold pfR
  rw [if_neg (by omega), Int.natAbs_natCast, if_neg (by have := (pf_ok h0 hn).2; omega)]
theorem e_pf {C : Ct} {A A1 : AS} {E' : XK} {tl : TA} {n : Nat} (h : EvA C tl A [dN n] A1) (h0 : 0 < n) (hn : n ≤ 1000000000000) : EvS C (tCall (spD C.K C.T (sp_pf C.K)) [] E' tl) A (.tup ((pfRows (pfN n)).map row)) A1 :=
  e_unZ (e_call h ⟨n, rfl, Nat.lt_of_le_of_lt (by rw [Int.natAbs_natCast]; exact hn) (Nat.lt_of_lt_of_le (by decide : 1000000000000 < 2 ^ 40) (Nat.pow_le_pow_right (by decide) (by decide))), (pfR_ok h0 hn).symm⟩)
/-- pf is not the one row, of another number -/
theorem pf_ne {n : Nat} (h2 : 2 ≤ n) (hn : n ≤ 1000000000000) (h : ¬ Prm n) : PyData.eqv (.tuple ((pfRows (pfN n)).map fun r => .tuple [.int r.1, .int r.2])) (.tuple [.tuple [.int (n : Int), .int 1]]) = false := by
  cases he : PyData.eqv (.tuple ((pfRows (pfN n)).map fun r => .tuple [.int r.1, .int r.2])) (.tuple [.tuple [.int (n : Int), .int 1]]) with
  | false => rfl
  | true =>
    exfalso
    refine h ((pf_prime h2 hn).mp ?_)
    generalize pfRows (pfN n) = rs at *
    match rs with
    | [] => simp [PyData.eqv, PyData.eqvAll] at he
    | [(a, b)] =>
      simp [PyData.eqv, PyData.eqvAll] at he
      obtain ⟨h1, h2⟩ := he
      have e1 : a = n := by omega
      have e2 : b = 1 := by omega
      rw [e1, e2]
    | _ :: _ :: _ => simp [PyData.eqv, PyData.eqvAll] at he

theorem ok_prime_proof (X : Txt K mg) (F : ∃ fd, FunD K "prime_proof" "prime_proof" (defArgs s_prime_proof) (defBody s_prime_proof) (defScope s_prime_proof) [] [] (He.ga K "prime_proof") fd) (hm : mg "prime_proof" = some (.ref (He.ga K "prime_proof"))) (G_is_little_prime : Gd P w K mg base "is_little_prime" ["number"] 1 (spD K T sp_little)) (G_prime_factors : Gd P w K mg base "prime_factors" ["number"] 2 (spD K T (sp_pf K))) (G_witness : Gd P w K mg base "witness" ["prime", "factors"] 5 (spD K T sp_wit)) : Gd P w K mg base "prime_proof" ["number"] 6 (spD K T (sp_proof K)) := by
  have Tx := X
  refine mkG F hm sc_prime_proof (fun _ _ _ _ _ _ us hl => match us, hl with | [_], _ => rfl) (fun ds r h => ?len) (fun cdv A outer s H E hr => ?body)
  case len => (obtain ⟨_, rfl, _⟩ := h; rfl)
  case body =>
    have sc := sc_prime_proof
    refine ⟨_, (pss_cons (ps_asg (pe_tup (pa_cons pe_dnewK (pa_cons (pe_lst (pa_cons (pv 0) pa_nil)) pa_nil))) (pg_tup rfl (pgs_cons (pg_name (i := 1) sc.nd rfl (Or.inr rfl)) (pgs_cons (pg_name (i := 2) sc.nd rfl (Or.inl rfl)) pgs_nil))))
  (pss_cons (ps_while (passesE) (pt_cmpR (op_neA hr.units) (pv 2) (pe_lst pa_nil) (nomark _)) (pss_cons (ps_set (i := 3) sc.nd rfl (Or.inl rfl) (pe_bm0 PySem.F.plainAttrs_list PySem.F.slot_list_pop PySem.F.type_list_pop mt_pop (pv 2)))
  (pss_one (ps_if (PW.pt (pw_and (pt_not (pt_val (pe_callG G_is_little_prime (hr.mono (by decide)) psE (pa_cons (pv 3) pa_nil)))) (pw_and1 (pt_cmp (pc_dnotin (Nat.lt_of_le_of_lt (Nat.add_le_add_left (by decide : 1 ≤ 64) _) hr.units) (pv 3) (pv 1)))))) (pss_cons (ps_if (PW.pt (pw_or (pt_cmpR op_lt (pv 3) (peC Tx.c_LITTLE) (nomark _)) (pw_or1 (pt_cmpR (op_neA hr.units) (pe_callG G_prime_factors (hr.mono (by decide)) psE (pa_cons (pv 3) pa_nil)) (pe_tup (pa_cons (pe_tup (pa_cons (pv 3) (pa_cons pe_int pa_nil))) pa_nil)) (nomark _))))) (pss_one (ps_rz rfl takesE PySem.F.excBase_ValueError Tx.xNumberError.1 Tx.gNumberError Tx.xNumberError.2.1 (raises_own Tx.xNumberError.2.2.1 Tx.xNumberError.2.2.2) rfl)) pss_nil)
  (pss_cons (ps_set (i := 4) sc.nd rfl (Or.inl rfl) (pe_callTy call_tuple_of (by rfl) Tx.n_tuple (by decide +kernel) (pa_cons (pe_lc (own := [("prime", 5), ("_", 6)]) rfl sc.nd (pi_tup (pe_callG G_prime_factors (hr.mono (by decide)) psE (pa_cons (pe_op op_sub (pv 3) pe_int) pa_nil))) (blkOk_by (own := [("prime", 5), ("_", 6)]) (N := ["number", "rows", "left", "one", "factors", "prime", "_"]) (sc := defScope s_prime_proof) (by decide +kernel)) (fun _ _ _ _ _ => (pg_tupK (K := K) (n := 2) rfl rfl (pgs_cons (pg_name (i := 5) sc.nd rfl (Or.inl rfl)) (pgs_cons (pg_name (i := 6) sc.nd rfl (Or.inl rfl)) pgs_nil)))) (fun _ _ _ _ _ => pts_nil) (fun _ _ _ _ _ => (pv 5))) pa_nil)))
  (pss_cons (ps_dput (Nat.lt_of_le_of_lt (Nat.add_le_add_left (by decide : 1 ≤ 64) _) hr.units) (pv 1) (pv 3) (pe_tup (pa_cons (pv 3) (pa_cons (pe_callG G_witness (hr.mono (by decide)) psE (pa_cons (pv 3) (pa_cons (pv 4) pa_nil))) (pa_cons (pv 4) pa_nil)))) (by rfl))
  (pss_one (ps_set (i := 2) sc.nd rfl (Or.inl rfl) (pe_op op_catR (pv 2) (pe_callTy call_list_of (by rfl) Tx.n_list (by decide +kernel) (pa_cons (pv 4) pa_nil)))))))) pss_nil))))
  (pss_one (ps_ret (pe_callTy call_tuple_of (by rfl) Tx.n_tuple (by decide +kernel) (pa_cons (pe_lc (own := [("one", 3)]) rfl sc.nd (pi_list (pe_callBK (cr_sortDR (b := true) rfl) (by rfl) Tx.n_sorted (by decide +kernel) (pa_cons (pv 1) pa_nil) (pk_cons pe_bl pk_nil))) (blkOk_by (own := [("one", 3)]) (N := ["number", "rows", "left", "one", "factors", "prime", "_"]) (sc := defScope s_prime_proof) (by decide +kernel)) (fun _ _ _ _ _ => (pg_name (i := 3) sc.nd rfl (Or.inl rfl))) (fun _ _ _ _ _ => pts_nil) (fun _ _ _ _ _ => (pe_dget (Nat.lt_of_le_of_lt (Nat.add_le_add_left (by decide : 1 ≤ 64) _) hr.units) (pv 1) (pv 3) (fun _ _ => rfl)))) pa_nil)))))), fun O ds r hg => ?_⟩
    clear sc hr
    try dsimp only [cxOf]

    obtain ⟨n, rfl, hn, rfl⟩ := hg
    obtain ⟨u, hu, lu⟩ := X.c_LITTLE
    refine r_seq (r_tgP (ss := [.own 0, .own 1]) (p_D (p_l (xs := [dN n]) (a_cons (e_var rfl) a_nil) (Nat.le_of_ble_eq_true rfl) p_nil)) rfl (Nat.le_of_ble_eq_true rfl) (tgPA_cons tgP_name (tgPA_cons tgP_name tgPA_nil)) ?_)
    by_cases hp : Prm n
    · rw [proofR_t hp]
      refine r_seq (r_while (fun m A => ∃ (ks ls : List Nat) (k : Nat) (st : List OD) (x3 x4 x5 x6 : SD), PI n ks ls ∧ m = prod ls ∧ k ≠ 0 ∧ st[0]? = some (oD (kv ks)) ∧ st[k]? = some (.lst (ls.map dN)) ∧ A = ⟨[.d (dN n), .own 0, .own k, x3, x4, x5, x6], st⟩) n ⟨[], [n], 1, _, _, _, _, _, PI.start hp, by simp [prod], by decide, rfl, rfl, rfl⟩ ?_)
      rintro m A ⟨ks, ls, k, st, x3, x4, x5, x6, I, rfl, hk, h0, h1, rfl⟩
      refine ⟨!(ls.map dN).isEmpty, _, t_is (t_test (e_neO rfl h1 (.lst (niceN ls)) (e_lst a_nil (by decide)) (.lst (n := 0) .nil))) (by rw [eqv_nil, ← niceA_len (niceN ls)]), fun hb => ?_, fun hb => ?_⟩
      · have hne : ls ≠ [] := fun z => by rw [z] at hb; cases hb
        obtain ⟨init, y, rfl⟩ : ∃ init y, ls = init ++ [y] := ⟨ls.dropLast, ls.getLast hne, (List.dropLast_concat_getLast hne).symm⟩
        have hy := I.pr y (by simp)
        have lens := I.lens hn
        have kl : k < st.length := (List.getElem?_eq_some_iff.mp h1).1
        refine r_seq (r_asg (e_popO (d := dN y) rfl h1 (by simp)) ?_)
        have e1 : (List.map dN (init ++ [y])).dropLast = init.map dN := by rw [List.map_append]; simp
        rw [e1]
        have g0 : (st.set k (.lst (init.map dN)))[0]? = some (oD (kv ks)) := by rw [List.getElem?_set_ne hk]; exact h0
        have g1 : (st.set k (.lst (init.map dN)))[k]? = some (.lst (init.map dN)) := by rw [List.getElem?_set_self kl]
        show RunS _ _ _ ⟨[.d (dN n), .own 0, .own k, .d (dN y), x4, x5, x6], st.set k (.lst (init.map dN))⟩ _
        generalize st.set k (.lst (init.map dN)) = s1 at g0 g1
        have el : EvS ⟨K, T, H, O⟩ _ _ _ _ := e_call (C := ⟨K, T, H, O⟩) (A := ⟨[.d (dN n), .own 0, .own k, .d (dN y), x4, x5, x6], s1⟩) (g := sp_little) (d := db (litB y)) (E' := E) (a_cons (e_var (i := 3) rfl) a_nil) ⟨y, rfl, by omega, rfl⟩
        by_cases hlit : y < 1000
        · have lb : litB y = true := litB_t.mpr ⟨hlit, hy.1⟩
          rw [lb] at el
          obtain ⟨D1, D2⟩ := I.drop (.inl hlit)
          exact r_ifFs (t_andF (t_is (t_not (t_B el)) rfl)) (r_next ⟨_, D2, ks, init, k, s1, _, _, _, _, D1, rfl, hk, g0, g1, rfl⟩)
        · have lb : litB y = false := litB_f.mpr fun z => hlit z.1
          rw [lb] at el
          by_cases hin : y ∈ ks
          · obtain ⟨D1, D2⟩ := I.drop (.inr hin)
            exact r_ifFs (t_andT (t_is (t_not (t_B el)) rfl) (t_B (e_is (e_dnotinO (k0 := Sum.inl (y : Int)) (e_var rfl) rfl g0) (by rw [kv_any, decide_eq_true hin]; rfl)))) (r_next ⟨_, D2, ks, init, k, s1, _, _, _, _, D1, rfl, hk, g0, g1, rfl⟩)
          · obtain ⟨D1, D2⟩ := I.more hn (by omega) hin
            refine r_ifTs (t_andT (t_is (t_not (t_B el)) rfl) (t_B (e_is (e_dnotinO (k0 := Sum.inl (y : Int)) (e_var rfl) rfl g0) (by rw [kv_any, decide_eq_false hin]; rfl)))) ?_
            have pf1 : (pfRows (pfN y)).map row = [row (y, 1)] := by rw [(pf_prime hy.1.1 (by omega)).mpr hy.1]; rfl
            refine r_seq (r_ifFs (t_orF (t_is (t_test (e_bin (e_var rfl) e_c o_I0)) (decide_eq_false (by omega))) (t_test (e_bin (e_is (e_pf (a_cons (e_var rfl) a_nil) (by omega) (by omega)) (congrArg Dt.tup pf1)) (e_tup (a_cons (e_tup (a_cons (e_var rfl) (a_cons e_c a_nil)) (Nat.le_of_ble_eq_true rfl)) a_nil) (Nat.le_of_ble_eq_true rfl)) (o_neSame (n := 2) (.tup (.cons (nice_row (y, 1)) .nil)))))) (r_next ?_))
            have y1 : 0 < y - 1 := by omega
            have yn : y - 1 ≤ 1000000000000 := by omega
            refine r_seq (r_asg (d := .tup ((qs (y - 1)).map dN)) (e_is (e_tupL (e_lcT (xs := (pfRows (pfN (y - 1))).map row) (e_pf (a_cons (e_subN (e_var rfl) (e_cN 1) (by omega)) a_nil) y1 yn) (fun i => ⟨[.d (dN n), .own 0, .own k, .d (dN y), x4, s5 x5 i, s5 x6 i], s1⟩) (fun i => ((pfRows (pfN (y - 1))).take i).map fun r => dN r.1) rfl rfl (fun i x hx O' => ?turn) (by have := qs_len y1 yn; unfold qs at this; rw [List.length_map] at this ⊢; omega))) (by rw [List.length_map, List.take_of_length_le (Nat.le_refl _)]; unfold qs; rw [List.map_map]; rfl)) ?_)
            case turn =>
              rw [List.getElem?_map] at hx
              obtain ⟨r, hr, rfl⟩ := Option.map_eq_some_iff.mp hx
              refine ⟨⟨[.d (dN n), .own 0, .own k, .d (dN y), x4, .d (dN r.1), .d (dN r.2)], s1⟩, true, _, ?_, t_yes, .inl ⟨rfl, _, _, e_var rfl, ?_, rfl⟩⟩
              · exact tgS_tup rfl (tgsS_cons (tgS_name (by simp)) (tgsS_cons (tgS_name (by simp)) tgsS_nil))
              · rw [List.take_add_one, hr, List.map_append]; rfl
            show RunS _ _ _ ⟨[.d (dN n), .own 0, .own k, .d (dN y), .d (.tup ((qs (y - 1)).map dN)), _, _], s1⟩ _
            generalize s5 x5 _ = z5
            generalize s5 x6 _ = z6
            have nd := qs_nd y1 yn
            have qq : ∀ q ∈ qs (y - 1), Prm q ∧ q ∣ y - 1 := fun q hq => (qs_mem y1 yn).mp hq
            have m2 : 2 ∈ qs (y - 1) := (qs_mem y1 yn).mpr ⟨prm2, odd_prm hy.1 (by omega)⟩
            have ql := qs_len y1 yn
            refine r_seq (r_dputO (k0 := Sum.inl (y : Int)) (d := rowD y) (e_tup (a_cons (e_var rfl) (a_cons (e_call (d := dN (wit y (qs (y - 1)))) (a_cons (e_var rfl) (a_cons (e_var rfl) a_nil)) ⟨y, qs (y - 1), rfl, hy.1, by omega, by omega, nd, qq, List.ne_nil_of_mem m2, by omega, rfl⟩) (a_cons (e_var rfl) a_nil))) (Nat.le_of_ble_eq_true rfl)) (e_var rfl) rfl g0 (by rw [kv_len]; omega) ?_)
            rw [kv_put hin]
            have k0 : 0 ≠ k := fun z => hk z.symm
            have sl : 0 < s1.length := (List.getElem?_eq_some_iff.mp g0).1
            have f0 : (s1.set 0 (oD (kv (ks ++ [y]))))[0]? = some (oD (kv (ks ++ [y]))) := by rw [List.getElem?_set_self sl]
            have f1 : (s1.set 0 (oD (kv (ks ++ [y]))))[k]? = some (.lst (init.map dN)) := by rw [List.getElem?_set_ne k0]; exact g1
            show RunS _ _ _ ⟨[.d (dN n), .own 0, .own k, .d (dN y), .d (.tup ((qs (y - 1)).map dN)), z5, z6], s1.set 0 (oD (kv (ks ++ [y])))⟩ _
            generalize s1.set 0 (oD (kv (ks ++ [y]))) = s2 at f0 f1
            refine r_asgN (n_catO rfl (e_listTN (a_cons (e_var rfl) a_nil)) f1 ?_) ?_
            · have : (init ++ [y]).length ≤ 40 := lens.1
              simp only [List.length_append, List.length_map, List.length_singleton] at *
              omega
            · refine ⟨_, D2, ks ++ [y], init ++ qs (y - 1), s2.length, s2 ++ [.lst (init.map dN ++ (qs (y - 1)).map dN)], _, _, _, _, D1, rfl, ?_, ?_, ?_, rfl⟩
              · have := (List.getElem?_eq_some_iff.mp f0).1; omega
              · rw [List.getElem?_append_left (List.getElem?_eq_some_iff.mp f0).1]; exact f0
              · rw [List.getElem?_append_right (Nat.le_refl _), List.map_append]; simp
      · have hle : ls = [] := by cases ls with
          | nil => rfl
          | cons => cases hb
        subst hle
        have pm := I.fin hp hn
        have kl := (I.lens hn).2
        have ki : (kv ks).map (·.1) = (ks.map fun (p : Nat) => (p : Int)).map Sum.inl := by unfold kv; rw [List.map_map, List.map_map]; rfl
        refine r_ret (d := .tup ((big n).map rowD)) (e_tupL (e_is (e_lcL (xs := ((big n).map fun (p : Nat) => (p : Int)).map di) (e_sortDRO (ks := ks.map fun (p : Nat) => (p : Int)) (zs := (big n).map fun (p : Nat) => (p : Int)) rfl h0 ki (by rw [List.length_map]; omega) (a_cons e_c a_nil) (pm.map _) (List.pairwise_map.mpr ((big_desc n).imp fun h => by omega))) (fun i => ⟨[.d (dN n), .own 0, .own k, s5 x3 i, x4, x5, x6], st⟩) (fun i => ((big n).take i).map rowD) rfl rfl (fun i x hx O' => ?_) (by rw [List.length_map, List.length_map, pm.length_eq]; omega)) (by rw [List.length_map, List.length_map, List.take_of_length_le (Nat.le_refl _)]))) rfl
        rw [List.map_map, List.getElem?_map] at hx
        obtain ⟨p, hq, rfl⟩ := Option.map_eq_some_iff.mp hx
        have hm : p ∈ ks := pm.mem_iff.mp (List.mem_of_getElem? hq)
        refine ⟨⟨[.d (dN n), .own 0, .own k, .d (dN p), x4, x5, x6], st⟩, true, _, tgS_name (by simp), t_yes, .inl ⟨rfl, rowD p, _, e_dgetO (k0 := Sum.inl (p : Int)) rfl (e_var rfl) rfl h0 (kv_get p ks hm), ?_, rfl⟩⟩
        rw [List.take_add_one, hq, List.map_append]; rfl
    · rw [proofR_f hp]
      refine r_seq (r_while (fun m A => A = ⟨[.d (dN n), .own 0, .own 1, .un, .un, .un, .un], [oD [], .lst [dN n]]⟩) 0 rfl ?_)
      rintro m A rfl
      refine ⟨true, _, t_is (t_test (e_neO (n := 1) (xs := [dN n]) rfl rfl (.lst (niceN [n])) (e_lst a_nil (by decide)) (.lst (n := 0) .nil))) (by rw [eqv_nil]; rfl), fun _ => ?_, fun hb => by cases hb⟩
      refine r_seq (r_asg (e_popO (d := dN n) (n := 1) (xs := [dN n]) rfl rfl rfl) ?_)
      show RunS _ _ _ ⟨[.d (dN n), .own 0, .own 1, .d (dN n), .un, .un, .un], [oD [], .lst []]⟩ _
      have lb : litB n = false := litB_f.mpr fun z => hp z.2
      have el : EvS ⟨K, T, H, O⟩ _ _ _ _ := e_call (C := ⟨K, T, H, O⟩) (A := ⟨[.d (dN n), .own 0, .own 1, .d (dN n), .un, .un, .un], [oD [], .lst []]⟩) (g := sp_little) (d := db (litB n)) (E' := E) (a_cons (e_var (i := 3) rfl) a_nil) ⟨n, rfl, by omega, rfl⟩
      rw [lb] at el
      refine r_ifTs (t_andT (t_is (t_not (t_B el)) rfl) (t_B (e_dnotinO (n := 0) (kvs := []) (k0 := Sum.inl (n : Int)) (e_var rfl) rfl rfl))) ?_
      refine r_seq (r_ifTs ?_ (r_raise rfl))
      by_cases h1 : n < 1000
      · exact t_orT (t_is (t_test (e_bin (e_var rfl) e_c o_I0)) (decide_eq_true (by omega)))
      · refine t_orF (t_is (t_test (e_bin (e_var rfl) e_c o_I0)) (decide_eq_false (by omega))) (t_is (t_test (e_bin (e_pf (a_cons (e_var rfl) a_nil) (by omega) hn) (e_tup (a_cons (e_tup (a_cons (e_var rfl) (a_cons e_c a_nil)) (Nat.le_of_ble_eq_true rfl)) a_nil) (Nat.le_of_ble_eq_true rfl)) (o_neN (n := 2) (m := 2) (.tup (niceA_map nice_row _)) (.tup (.cons (nice_row (n, 1)) .nil))))) (by
          rw [show ((n, 1) : Row).1 = n from rfl]
          exact congrArg (!·) (pf_ne (by omega) hn hp)))
end
end Law
end

section
set_option Elab.async false
set_option linter.all false
set_option maxRecDepth 100000
set_option maxHeartbeats 4000000
set_option autoImplicit false
namespace Py
open PySem PySem.Spec PyProof.Rows L2
/-! ### xs[::-1], xs a list -/
def rRevL (K : Frg) : V → Hp → VK → Prop := fun x H Q => ∃ a xs, x = .ref a ∧ SqL K H a xs ∧ ∀ p, H p = none → Q (.ref p) (upd H p (.lst xs.reverse))
theorem pe_rev {X : Cx} {e st : Expr} {te ts : TE} {pos p2 : Pos} (he : PE X e te) (hs : PE X st ts) : PE X (.Subscript e (.Slice none none (some st) p2) pos) (fun σ H Q => te σ H fun x H1 => ts σ H1 fun y H2 => y = .int (-1) ∧ rRevL X.K x H2 Q) := by
  refine ⟨fun pins s σ H Q I h => ?_⟩
  refine Subscript_ (thn (he.run pins s σ H _ I h) fun v s1 ⟨x, H1, I1, r1, q1⟩ => ?_)
  refine wpAny_Slice ?_
  rw [evalPart_none]
  refine wpAny_pure ?_
  refine wpAny_pure ?_
  rw [evalPart_some]
  refine thn (hs.run pins s1 σ H1 _ I1 q1) fun vk s3 ⟨y, H3, I3, r3, ey, q3⟩ => ?_
  subst ey
  obtain ⟨t, rfl⟩ := r3
  obtain ⟨a, xs, rfl, hx, q⟩ := q3
  cases r1
  have I4 : Inv X pins σ H3 { s3 with heap := s3.heap.push { cls := .type "slice", data := .fields #[.none, .none, .int (-1) t] } } := I3.kept (t' := s3.toks) fun b ob q => Heap.get?_push_of_some _ q
  obtain ⟨its, r, ht, hz⟩ := I4.list hx
  show wpAny (model X.prog X.w) X.A (subscriptTail e (.Slice none none (some st) p2) (.ref a) (.ref s3.heap.objs.size)) (EP X pins σ Q) X.xe { s3 with heap := s3.heap.push { cls := .type "slice", data := .fields #[.none, .none, .int (-1) t] } }
  refine tail_any (ops := [.ref a, .ref s3.heap.objs.size]) ht.isList.typeIs slot_list_getitem.lookup ?_ (by with_unfolding_all rfl)
  refine wpAny_getItem_list_slice ht.isList (Heap.IsSliceOf.new ..) .none .none (.int _ _) (by decide) ?_ (by rw [List.size_toArray, ← r.length]; exact hz)
  rw [PySem.W.krv_pick]
  refine ⟨.ref _, _, I4.laid (t' := s3.toks) (o := .lst xs.reverse) (fun b ob q => Heap.get?_push_of_some _ q) (Nat.le_refl _) ?_, rfl, q _ (I4.hok.fresh (Nat.le_refl _))⟩
  exact ⟨by rw [List.length_reverse]; exact hz, _, 0, r.reverse, Heap.get?_push_size _ rfl⟩
section
variable {C : Ct} {A A1 A2 : AS} {te ts : TE} {xs : List Dt}
theorem isA_rev {K : Frg} {R : Hp} : ∀ {xs : List Dt} {vs : List V}, IsA K R xs vs → IsA K R xs.reverse vs.reverse
  | [], vs, h => by rw [IsA] at h; subst h; exact isA_nil
  | x :: r, vs, h => by
    rw [IsA] at h
    obtain ⟨v, w, rfl, h1, h2⟩ := h
    rw [List.reverse_cons, List.reverse_cons]
    exact isA_app (isA_rev h2) (isA_cons h1 isA_nil)
theorem e_rev (h : EvS C te A (.lst xs) A1) (h2 : EvS C ts A1 (di (-1)) A2) : EvS C (fun σ H Q => te σ H fun x H1 => ts σ H1 fun y H2 => y = .int (-1) ∧ rRevL C.K x H2 Q) A (.lst xs.reverse) A2 := fun os σ H k Q q =>
  h os σ H k _ fun os1 v H1 k1 g1 i1 => h2 os1 σ H1 k1 _ fun os2 y H2 k2 g2 i2 => by
    have i1 := Is.mono g2.e _ _ i1
    rw [Is] at i1
    obtain ⟨a, vs, rfl, h3, h4⟩ := i1
    refine ⟨Is.v_iff.mp i2, a, vs, rfl, hd_ex.l h3, fun p hp => q os2 _ _ (k2.monoN hp) ((g1.trans g2).trans (k2.gr (Ex.new hp))) ?_⟩
    rw [Is]
    exact ⟨p, _, rfl, SqL.of (k2.fresh hp), IsA.mono (hd_mono (Ex.new hp)) _ _ (isA_rev h4)⟩
end
/-! ### sorted(rows) by the rows' first items, which are ints and all different -/
section
open SrtO
variable {prog : Program} {w : World} {A : Around} {E : Value → Shared → Prop} {s : Shared}
def IsF (h : Heap) (v : Value) (k : Int) : Prop := ∃ (a : Addr) (o : Obj) (t : Tok) (r : List Value) (n : Nat), v = .ref a ∧ h.get? a = some o ∧ o.cls = .type "tuple" ∧ o.data = .seq (Value.int k t :: r).toArray n
theorem IsF.keeps {h h' : Heap} {v : Value} {k : Int} (x : IsF h v k) (kp : ∀ b o, h.get? b = some o → o.cls = .type "tuple" → h'.get? b = some o) : IsF h' v k := by
  obtain ⟨a, o, t, r, n, e, ho, hc, hd⟩ := x
  exact ⟨a, o, t, r, n, e, kp _ _ ho hc, hc, hd⟩
theorem lex_same {b : Bool} {Q : Bool → Shared → Prop} : ∀ (l : List Value) (i : Nat), Q false s → PySem.W.KatLex prog w A b false Q (l.zip l) i s
  | [], i, h => PySem.W.kat_nil h
  | v :: r, i, h => PySem.W.kat_cons (SeqAt.EqAt.same v prog w _ _ (PySem.W.kat_yes (lex_same r (i + 1) h)))
theorem fst_cmp {vs : List Value} {k : Value → Int} (hp : ∀ v ∈ vs, IsF s.heap v (k v)) (nd : ∀ v ∈ vs, ∀ u ∈ vs, k v = k u → v = u) : Cmp prog w A s (tuples' true) (fun p => p.1 ∈ vs) (lt2 fun v u => decide (k v < k u)) := by
  intro p q hm hm'
  have h1 := hp _ hm
  have h2 := hp _ hm'
  show wpAny (model prog w) A (keyLt' (tuples' true) p.1 q.1) (fun r s' => s' = s ∧ r = decide (k p.1 < k q.1)) (fun _ _ => False) s
  by_cases e : k p.1 = k q.1
  · have e' := nd _ hm _ hm' e
    rw [← e']
    obtain ⟨a, o, t, r, n, e1, ho, hc, hd⟩ := h1
    rw [e1] at e' ⊢
    refine PySem.W.kat_lt ho hd ho hd ?_
    rw [show decide ((Value.int (k p.1) t :: r).toArray.size < (Value.int (k p.1) t :: r).toArray.size) = false from decide_eq_false (Nat.lt_irrefl _)]
    refine lex_same _ _ ⟨rfl, ?_⟩
    exact (decide_eq_false (Int.lt_irrefl _)).symm
  · obtain ⟨a, o, t, r, n, e1, ho, hc, hd⟩ := h1
    obtain ⟨a', o', t', r', n', e2, ho', hc', hd'⟩ := h2
    generalize k p.1 = x at *
    generalize k q.1 = y at *
    rw [e1, e2]
    apply PySem.W.kat_lt ho hd ho' hd'
    show PySem.W.KatLex prog w A true _ _ ((Value.int x t, Value.int y t') :: r.zip r') 0 s
    refine PySem.W.kat_cons (SeqAt.EqAt.int_int x t y t' prog w _ _ ?_)
    rw [show (x == y) = false from by simpa using e]
    exact PySem.W.kat_no (oneLt_int ⟨rfl, rfl⟩)
theorem firsts_F {h : Heap} {k : Value → Int} : ∀ {vs : List Value}, (∀ v ∈ vs, IsF h v (k v)) → ∃ fs : List Value, PySem.W.KatTups h vs fs ∧ fs.length = vs.length ∧ ∀ f ∈ fs, ∃ x t, f = Value.int x t
  | [], _ => ⟨[], .nil, rfl, fun _ z => nomatch z⟩
  | v :: vs, hp => by
    obtain ⟨fs, h1, h2, h3⟩ := firsts_F (vs := vs) fun v' hm => hp v' (List.mem_cons_of_mem _ hm)
    obtain ⟨a, o, t, r, n, e, ho, hc, hd⟩ := hp v (List.mem_cons_self ..)
    generalize k v = x at hd
    subst e
    refine ⟨Value.int x t :: fs, .cons ho hc hd rfl h1, congrArg (· + 1) h2, fun f m => ?_⟩
    cases m with
    | head => exact ⟨x, t, rfl⟩
    | tail _ m => exact h3 f m
theorem fst_sortable {a : Addr} {vs : List Value} {k : Value → Int} (h0 : 0 < vs.length) (hp : ∀ v ∈ vs, IsF s.heap v (k v)) (nd : ∀ v ∈ vs, ∀ u ∈ vs, k v = k u → v = u) (ha : ∀ o, s.heap.get? a = some o → o.cls ≠ .type "tuple") : SortableO prog w A s a vs fun v u => decide (k v < k u) := by
  intro h' keep
  have hp' : ∀ v ∈ vs, IsF h' v (k v) := fun v hm => (hp v hm).keeps fun b o e c => keep b o (fun z => by subst z; exact ha o e c) e
  obtain ⟨fs, h1, h2, h3⟩ := firsts_F hp'
  refine ⟨tuples' true, fun Q E hq => ?_, fst_cmp hp' nd⟩
  have other : (Value.type "int" != Value.type "tuple") = true := by decide +kernel
  exact PySem.W.kat_kind (T := Value.type "int") h1 (by omega) (fun f m => match h3 f m with | ⟨_, _, e⟩ => e ▸ PySem.W.Looks.now) rfl (other.symm ▸ hq)
theorem swo_fst (k : Value → Int) : Swo fun v u => decide (k v < k u) := by
  constructor
  · intro x y h
    rw [decide_eq_true_eq] at h
    rw [decide_eq_false_iff_not]; omega
  · intro x y z h1 h2
    rw [decide_eq_false_iff_not] at *; omega
theorem sorted_fst {t : Addr} {us : List Value} {k : Value → Int} {Q : Value → Shared → Prop} (ht : IsTup s.heap t us.toArray) (hz : us.length ≤ sizeLine) (hp : ∀ u ∈ us, IsF s.heap u (k u)) (nd : ∀ v ∈ us, ∀ u ∈ us, k v = k u → v = u)
    (q : ∀ (h' : Heap) (out : List Value), Srtd (fun a b => decide (k a < k b)) out → Stb (fun a b => decide (k a < k b)) out us → (∀ b ob, s.heap.get? b = some ob → h'.get? b = some ob) → (∃ n, h'.get? (s.heap.objs.size + 1) = some (seqObj "list" out.toArray n)) → Q (.ref (s.heap.objs.size + 1)) { s with heap := h' }) :
    wpAny (model prog w) A (call (.builtin "sorted") [.ref t]) Q E s := by
  apply Calls.call_function_entry kind_sorted plain_sorted entry_sorted (args_sorted1 _)
  unfold Builtin.«sorted»
  refine wpAny_bind (m := checkCount "sorted" 1 1 _) (wpAny_pure (wpAny_bind (gather_tuple ht hz (wpAny_bind (wpAny_newList ?_ hz)))))
  generalize hG : (gath s.heap us).push (seqObj "list" us.toArray 0) = G
  have gL : G.get? (s.heap.objs.size + 1) = some (seqObj "list" us.toArray 0) := by
    rw [← hG, ← gath_size s.heap us]; exact Heap.get?_push_size _ rfl
  have gO : ∀ b ob, s.heap.get? b = some ob → b ≠ s.heap.objs.size + 1 ∧ G.get? b = some ob := fun b ob g => by
    refine ⟨Nat.ne_of_lt (Nat.lt_succ_of_lt (Heap.lt_size g)), ?_⟩
    rw [← hG]; exact Heap.get?_push_of_some _ (gath_old g)
  show wpAny _ _ (holding [Value.ref (gath s.heap us).objs.size] (call (Value.builtin "list.sort") [Value.ref (gath s.heap us).objs.size] []) >>= fun _ => _) _ _ { s with heap := G }
  rw [gath_size]
  refine wpAny_bind (wpAny_holding (wpAny_call_entry slot_list_sort ⟨_, gL, rfl⟩ entry_list_sort (list_sort_ord (swo_fst k) gL hz (fun h2 => ?_) fun out h3 h4 => ⟨_, rfl, wpAny_pure ⟨_, rfl, ?_⟩⟩) (args_list_sort _)))
  · refine fst_sortable (by omega) (fun u hu => (hp u hu).keeps fun b ob g _ => (gO b ob g).2) nd fun ob g c => ?_
    have g' := g.symm.trans gL
    cases g'
    have c := Value.type.inj c
    revert c; decide
  · obtain ⟨n, e⟩ := PyProof.Rows.sortedHeap_at (vs := us) (out := out.toArray) gL
    exact q _ out h3 h4 (fun b ob g => (PyProof.Rows.sortedHeap_old (gO b ob g).1 (Heap.lt_size (gO b ob g).2)).trans (gO b ob g).2) ⟨n, e⟩
end
def FstV (K : Frg) (H : Hp) (x : V) (k : Int) : Prop := ∃ t ys, x = V.ref t ∧ SqT K H t (.int k :: ys)
def rSortF (K : Frg) : List V → Hp → VK → Prop := fun vs H Q => ∃ (a : Addr) (xs : List V) (ks : List Int), vs = [.ref a] ∧ SqT K H a xs ∧ Paired (FstV K H) xs ks ∧ ks.Nodup ∧
  ∀ (zs : List (V × Int)) (d : Addr), zs.Perm (xs.zip ks) → zs.Pairwise (fun x y => x.2 ≤ y.2) → H d = none → Q (.ref d) (upd H d (.lst (zs.map (·.1))))
open Classical in
noncomputable def keyF (K : Frg) (H : Hp) (x : V) : Int := if h : ∃ p, FstV K H x p then h.choose else 0
section
variable {X : Cx}
theorem keyF_eq {pins : List (Addr × Obj)} {s : Shared} {σ : L2.St} {H : Hp} (I : Inv X pins σ H s) {x : V} {p : Int} (h : FstV X.K H x p) : keyF X.K H x = p := by
  have e : ∃ p, FstV X.K H x p := ⟨p, h⟩
  unfold keyF
  rw [dif_pos e]
  obtain ⟨t, ys, h1, h2⟩ := e.choose_spec
  obtain ⟨t', ys', h3, h4⟩ := h
  rw [h1] at h3
  cases h3
  have q := I.tuple_inj h2 h4
  have := (List.cons.inj q).1
  exact V.int.inj this
theorem pairedF_zip {K : Frg} {H : Hp} {k : V → Int} : ∀ {xs : List V} {ps : List Int}, Paired (FstV K H) xs ps → (∀ x p, FstV K H x p → k x = p) → xs.zip ps = xs.map (fun x => (x, k x)) ∧ ps = xs.map k
  | _, _, .nil, _ => ⟨rfl, rfl⟩
  | _, _, .cons h t, e => by
    obtain ⟨a, b⟩ := pairedF_zip t e
    exact ⟨by rw [List.zip_cons_cons, List.map_cons, a, e _ _ h], by rw [List.map_cons, ← b, e _ _ h]⟩
theorem pairedF_mem {K : Frg} {H : Hp} : ∀ {xs : List V} {ps : List Int}, Paired (FstV K H) xs ps → ∀ x ∈ xs, ∃ p, FstV K H x p
  | _, _, .nil, x, h => by cases h
  | _, _, .cons h t, x, m => by
    cases m with
    | head => exact ⟨_, h⟩
    | tail _ m => exact pairedF_mem t x m
theorem nd_inj {α β : Type} {f : α → β} : ∀ {l : List α}, (l.map f).Nodup → ∀ x ∈ l, ∀ y ∈ l, f x = f y → x = y
  | [], _, x, h, _, _, _ => by cases h
  | a :: r, nd, x, hx, y, hy, e => by
    have nd := List.nodup_cons.mp (show (f a :: r.map f).Nodup from nd)
    rcases List.mem_cons.mp hx with z | z <;> rcases List.mem_cons.mp hy with u | u
    · rw [z, u]
    · exact absurd (List.mem_map.mpr ⟨y, u, by rw [← e, z]⟩) nd.1
    · exact absurd (List.mem_map.mpr ⟨x, z, by rw [e, u]⟩) nd.1
    · exact nd_inj nd.2 x z y u e
theorem cr_sortF : CallR X (.builtin "sorted") (rSortF X.K) := by
  rintro pins s σ H _ us Q I r ⟨a, xs, ks, rfl, hs, hp, hnd, q⟩
  cases Vals.ref1 r
  obtain ⟨its, rv, hl, hz⟩ := I.tuple hs
  have back := refs_back rv fun x m => match pairedF_mem hp x m with | ⟨_, t, _, e, _⟩ => ⟨t, e⟩
  have e1 := back.1
  have e2 := back.2
  obtain ⟨ez, ek⟩ := pairedF_zip (k := keyF X.K H) hp fun x p h => keyF_eq I h
  have pr : ∀ v ∈ its, IsF s.heap v (keyF X.K H (backV v)) := fun v hv => by
    obtain ⟨t, rfl⟩ := e2 v hv
    obtain ⟨p, hp'⟩ := pairedF_mem hp (V.ref t) (by rw [e1]; exact List.mem_map.mpr ⟨_, hv, rfl⟩)
    show IsF s.heap _ (keyF X.K H (V.ref t))
    rw [keyF_eq I hp']
    obtain ⟨t', ys, h1, h2⟩ := hp'
    cases h1
    obtain ⟨its2, r2, ⟨o, ho, hc, n, hd⟩, _⟩ := I.tuple h2
    cases r2 with
    | cons ri rr =>
      obtain ⟨t1, rfl⟩ := ri
      exact ⟨t, o, t1, _, n, rfl, ho, hc, hd⟩
  have nd : ∀ v ∈ its, ∀ u ∈ its, keyF X.K H (backV v) = keyF X.K H (backV u) → v = u := fun v hv u hu e => by
    obtain ⟨t, rfl⟩ := e2 v hv
    obtain ⟨t', rfl⟩ := e2 u hu
    rw [ek] at hnd
    have := nd_inj hnd (V.ref t) (by rw [e1]; exact List.mem_map.mpr ⟨_, hv, rfl⟩) (V.ref t') (by rw [e1]; exact List.mem_map.mpr ⟨_, hu, rfl⟩) e
    cases this
    rfl
  refine sorted_fst (k := fun u => keyF X.K H (backV u)) hl (by rw [← rv.length]; exact hz) pr nd fun h' out h1 h2 kp hn => ?_
  have h3 : ∀ u ∈ out, ∃ a, u = Value.ref a := fun u hu => e2 u (h2.perm.mem_iff.mp hu)
  obtain ⟨n, hn⟩ := hn
  have eo : (out.map fun u => (backV u, keyF X.K H (backV u))).map (·.1) = out.map backV := by rw [List.map_map]; rfl
  have pm : (out.map fun u => (backV u, keyF X.K H (backV u))).Perm (xs.zip ks) := by
    rw [ez, e1, List.map_map]
    exact h2.perm.map _
  have g := q (out.map fun u => (backV u, keyF X.K H (backV u))) (s.heap.objs.size + 1) pm (List.pairwise_map.mpr (h1.imp fun {x y} h => by
    have := of_decide_eq_false h
    show keyF X.K H (backV x) ≤ keyF X.K H (backV y)
    omega)) (I.hok.fresh (Nat.le_succ _))
  rw [eo] at g
  refine ⟨.ref _, upd H (s.heap.objs.size + 1) (.lst (out.map backV)), I.laid (t' := s.toks) kp (Nat.le_succ _) ⟨?_, out, n, vals_back h3, hn⟩, rfl, g⟩
  rw [List.length_map, h2.perm.length_eq, ← rv.length]
  exact hz
end
section
variable {C : Ct} {A A1 : AS} {te : TE}
/-- the rows and their first ints -/
def Rows : List Dt → List Int → Prop := Paired fun d k => ∃ r, d = .tup (di k :: r)
theorem rows_fst {K : Frg} {R H : Hp} (e : Ex R H) : ∀ {ds : List Dt} {ks : List Int} {vs : List V}, Rows ds ks → IsA K R ds vs → Paired (FstV K H) vs ks ∧ Paired (Is K R) ds vs
  | [], _, vs, .nil, h => by rw [IsA] at h; subst h; exact ⟨.nil, .nil⟩
  | d :: r, k :: _, vs, .cons hx t, h => by
    obtain ⟨x, rfl⟩ : ∃ r, d = .tup (di k :: r) := hx
    rw [IsA] at h
    obtain ⟨v, w, rfl, h1, h2⟩ := h
    obtain ⟨a, b⟩ := rows_fst e t h2
    refine ⟨.cons ?_ a, .cons h1 b⟩
    rw [Is] at h1
    obtain ⟨p, us, rfl, h3, h4⟩ := h1
    rw [IsA] at h4
    obtain ⟨u, us', rfl, h5, _⟩ := h4
    rw [Is.v_iff.mp h5] at h3
    exact ⟨p, us', rfl, e.t h3⟩
/-- sorted(rows): the same rows, by their first ints -/
theorem e_sortF {ds : List Dt} {ks : List Int} {ms : List (Dt × Int)} (h : EvS C te A (.tup ds) A1) (hr : Rows ds ks) (nd : ks.Nodup) (hm : ms.Perm (ds.zip ks)) (ho : ms.Pairwise fun x y => x.2 < y.2) : EvS C (tCB (rSortF C.K) (tCons te tNil)) A (.lst (ms.map (·.1))) A1 := fun os σ H k Q q =>
  h os σ H k _ fun os1 v H1 k1 e1 i1 => by
    rw [Is] at i1
    obtain ⟨a, vs, rfl, h2, h3⟩ := i1
    obtain ⟨p1, p2⟩ := rows_fst (H := H1) hd_ex hr h3
    refine ⟨a, vs, ks, rfl, hd_ex.t h2, p1, nd, fun zs d hp hw hn => q os1 _ _ (k1.monoN hn) (e1.trans (k1.gr (Ex.new hn))) ?_⟩
    have l1 : ds.length = ks.length := Paired.length hr
    have l2 : vs.length = ks.length := Paired.length p1
    -- zs is ms with values for data
    have key : ∀ (ds : List Dt) (vs : List V) (ks : List Int), Paired (Is C.K (Rh C.O os1 H1)) ds vs → ds.length = ks.length → ∀ z ∈ vs.zip ks, ∃ d, (d, z.2) ∈ ds.zip ks ∧ Is C.K (Rh C.O os1 H1) d z.1 := by
      intro ds vs ks pr
      induction pr generalizing ks with
      | nil => intro _ z hz; simp at hz
      | cons hh _ ih =>
        intro hl z hz
        cases ks with
        | nil => simp at hl
        | cons k0 kr =>
          rw [List.zip_cons_cons] at hz
          rcases List.mem_cons.mp hz with e | e
          · subst e
            exact ⟨_, List.mem_cons_self .., hh⟩
          · obtain ⟨d, z1, z2⟩ := ih kr (by simpa using hl) z e
            exact ⟨d, List.mem_cons_of_mem _ z1, z2⟩
    have sndz : (zs.map (·.2)).Perm ks := by
      have := hp.map (·.2)
      rw [List.map_snd_zip (by omega)] at this
      exact this
    have sndm : (ms.map (·.2)).Perm ks := by
      have := hm.map (·.2)
      rw [List.map_snd_zip (by omega)] at this
      exact this
    have es : zs.map (·.2) = ms.map (·.2) := List.Perm.eq_of_pairwise (le := fun x y : Int => x ≤ y) (fun a b _ _ h1 h2 => Int.le_antisymm h1 h2) (List.pairwise_map.mpr hw) (List.pairwise_map.mpr (ho.imp fun {x y} h => (by omega : x.2 ≤ y.2))) (sndz.trans sndm.symm)
    have ndz : (ds.zip ks |>.map (·.2)).Nodup := by rw [List.map_snd_zip (by omega)]; exact nd
    have fin : ∀ (zs : List (V × Int)) (ms : List (Dt × Int)), zs.map (·.2) = ms.map (·.2) → (∀ z ∈ zs, z ∈ vs.zip ks) → (∀ m ∈ ms, m ∈ ds.zip ks) → IsA C.K (Rh C.O os1 H1) (ms.map (·.1)) (zs.map (·.1)) := by
      intro zs
      induction zs with
      | nil =>
        intro ms e _ _
        cases ms with
        | nil => exact isA_nil
        | cons m r => simp at e
      | cons z r ih =>
        intro ms e h1 h2
        cases ms with
        | nil => simp at e
        | cons m t =>
          rw [List.map_cons, List.map_cons] at e
          have e := List.cons.inj e
          rw [List.map_cons, List.map_cons]
          refine isA_cons ?_ (ih t e.2 (fun x hx => h1 x (List.mem_cons_of_mem _ hx)) fun x hx => h2 x (List.mem_cons_of_mem _ hx))
          obtain ⟨d, z1, z2⟩ := key ds vs ks p2 l1 z (h1 z (List.mem_cons_self ..))
          have := nd_inj ndz _ z1 _ (h2 m (List.mem_cons_self ..)) e.1
          rw [← this]
          exact z2
    rw [Is]
    refine ⟨d, _, rfl, SqL.of (k1.fresh hn), IsA.mono (hd_mono (Ex.new hn)) _ _ (fin zs ms es (fun z hz => hp.mem_iff.mp hz) fun m h => hm.mem_iff.mp h)⟩
end
end Py
end

section
set_option Elab.async false
set_option linter.all false
set_option maxRecDepth 100000
set_option maxHeartbeats 4000000
set_option autoImplicit false
namespace Py
open PySem PySem.Spec PyProof.Rows L2
/-! ### dict(list of pairs) -/
def mergeD (kvs more : KD) : KD := more.foldl (fun acc kv => putD acc kv.1 kv.2) kvs
theorem KvA.merge {K : Frg} {R : Hp} : ∀ {more : KD} {am : List (Key × V)} {kvs : KD} {acc : List (Key × V)}, KvA K R more am → KvA K R kvs acc → KvA K R (mergeD kvs more) (mergeK acc am)
  | [], am, kvs, acc, h, g => by
    rcases h.inv with ⟨_, rfl⟩ | ⟨_, _, _, _, _, e, _⟩
    · exact g
    · cases e
  | (k, d) :: r, am, kvs, acc, h, g => by
    rcases h.inv with ⟨e, _⟩ | ⟨k', d', v, r', s, e, rfl, h1, h2⟩
    · cases e
    · cases e
      show KvA K R (mergeD (putD kvs k d) r) (mergeK (putK acc k v) s)
      exact KvA.merge h2 (g.put h1)
/-- rDictL: what dict does with a list of pairs -/
def rDictL (K : Frg) : List V → Hp → VK → Prop := fun xs H Q => ∃ (a : Addr) (ps : List Addr) (kvs : List (Key × V)), xs = [.ref a] ∧ SqL K H a (ps.map V.ref) ∧ Paired (fun p kv => SqT K H p [kV kv.1, kv.2]) ps kvs ∧
    ∀ p, H p = none → Q (.ref p) (upd H p (.dK (mergeK [] kvs)))
theorem cr_dictL {X : Cx} (hc : X.calm = true) : CallR X (.type "dict") (rDictL X.K) := call_dictP hc
theorem cr_dictLK {X : Cx} {K : Frg} (hK : X.K = K) (hc : X.calm = true) : CallR X (.type "dict") (rDictL K) := by subst hK; exact call_dictP hc
theorem pairs_kv {K : Frg} {R H : Hp} (e : Ex R H) : ∀ {kvs : KD} {vs : List V}, IsA K R (kvs.map fun kv => Dt.tup [.v (kV kv.1), kv.2]) vs → ∃ (ps : List Addr) (acc : List (Key × V)), vs = ps.map V.ref ∧ Paired (fun p (kv : Key × V) => SqT K H p [kV kv.1, kv.2]) ps acc ∧ KvA K R kvs acc
  | [], vs, h => by
    rw [List.map_nil, IsA] at h
    subst h
    exact ⟨[], [], rfl, .nil, .nil⟩
  | (k, d) :: r, vs, h => by
    rw [List.map_cons, IsA] at h
    obtain ⟨v, w, rfl, h1, h2⟩ := h
    obtain ⟨ps, acc, rfl, p1, p2⟩ := pairs_kv e h2
    rw [Is] at h1
    obtain ⟨a, us, rfl, h3, h4⟩ := h1
    rw [IsA] at h4
    obtain ⟨u1, w1, rfl, h5, h4⟩ := h4
    rw [IsA] at h4
    obtain ⟨u2, w2, rfl, h6, h4⟩ := h4
    rw [IsA] at h4
    subst h4
    rw [Is.v_iff.mp h5] at h3
    exact ⟨a :: ps, (k, u2) :: acc, rfl, .cons (e.t h3) p1, KvA.cons h6 p2⟩
section
variable {C : Ct} {A A1 : AS} {ta : TA}
theorem e_dictL {kvs : KD} (h : EvA C ta A [.lst (kvs.map fun kv => Dt.tup [.v (kV kv.1), kv.2])] A1) : EvS C (tCB (rDictL C.K) ta) A (dD (mergeD [] kvs)) A1 := fun os σ H k Q q =>
  h os σ H k _ fun os1 vs H1 k1 e1 i1 => by
    rw [IsA] at i1
    obtain ⟨v, w, rfl, i1, i2⟩ := i1
    rw [IsA] at i2
    subst i2
    rw [Is] at i1
    obtain ⟨a, us, rfl, g1, g2⟩ := i1
    obtain ⟨ps, acc, rfl, p1, p2⟩ := pairs_kv (H := H1) hd_ex g2
    refine ⟨a, ps, acc, rfl, hd_ex.l g1, p1, fun p hp => q os1 _ _ (k1.monoN hp) (e1.trans (k1.gr (Ex.new hp))) ?_⟩
    have kk := (p2.merge .nil).mono (hd_mono (O := hid C.O os1) (Ex.new (o := .dK (mergeK [] acc)) hp))
    rw [Is]
    refine ⟨p, (mergeK [] acc).map (·.2), rfl, ?_, kk.2⟩
    rw [← kk.1, zip_un]
    exact k1.fresh hp
end
theorem mergeD_len : ∀ (l acc : KD), (mergeD acc l).length ≤ acc.length + l.length
  | [], acc => Nat.le_refl _
  | (k, d) :: r, acc => by
    have h1 := mergeD_len r (putD acc k d)
    have h2 := putD_len acc k d
    show (mergeD (putD acc k d) r).length ≤ _
    rw [List.length_cons]
    omega
theorem putD_new {acc : KD} {k : Key} {d : Dt} (h : k ∉ acc.map (·.1)) : putD acc k d = acc ++ [(k, d)] := by
  unfold putD
  rw [if_neg]
  intro z
  obtain ⟨x, hx, e⟩ := List.any_eq_true.mp z
  exact h (List.mem_map.mpr ⟨x, hx, of_decide_eq_true e⟩)
theorem putD_old {acc : KD} {k : Key} {d : Dt} (h : k ∈ acc.map (·.1)) : (putD acc k d).length = acc.length := by
  unfold putD
  rw [if_pos, List.length_map]
  obtain ⟨x, hx, e⟩ := List.mem_map.mp h
  exact List.any_eq_true.mpr ⟨x, hx, decide_eq_true e⟩
theorem putD_keys (acc : KD) (k : Key) (d : Dt) : ∀ x, x ∈ (putD acc k d).map (·.1) ↔ x ∈ acc.map (·.1) ∨ x = k := fun x => by
  unfold putD
  split
  · rename_i h
    obtain ⟨y, hy, e⟩ := List.any_eq_true.mp h
    have e := of_decide_eq_true e
    have : (acc.map fun kv => if kv.1 = k then (kv.1, d) else kv).map (·.1) = acc.map (·.1) := by
      rw [List.map_map]
      apply List.map_congr_left
      intro z _
      show (if z.1 = k then (z.1, d) else z).1 = z.1
      split <;> rfl
    rw [this]
    constructor
    · exact .inl
    · rintro (z | z)
      · exact z
      · rw [z, ← e]; exact List.mem_map.mpr ⟨y, hy, rfl⟩
  · rw [List.map_append, List.mem_append]
    simp
/-- as many as there are, if no key stands twice; else fewer -/
theorem mergeD_iff : ∀ (l acc : KD), (mergeD acc l).length = acc.length + l.length ↔ (l.map (·.1)).Nodup ∧ ∀ k ∈ l.map (·.1), k ∉ acc.map (·.1)
  | [], acc => by simp [mergeD]
  | (k, d) :: r, acc => by
    show (mergeD (putD acc k d) r).length = _ ↔ _
    rw [List.length_cons, List.map_cons, List.nodup_cons]
    by_cases h : k ∈ acc.map (·.1)
    · have h1 := mergeD_len r (putD acc k d)
      rw [putD_old h] at h1
      constructor
      · intro z; omega
      · intro z; exact absurd h (z.2 k (List.mem_cons_self ..))
    · have ih := mergeD_iff r (putD acc k d)
      have e : (putD acc k d).length = acc.length + 1 := by rw [putD_new h]; simp
      rw [e] at ih
      rw [show acc.length + (r.length + 1) = acc.length + 1 + r.length by omega, ih]
      constructor
      · rintro ⟨z1, z2⟩
        have kr : k ∉ r.map (·.1) := fun q => z2 k q ((putD_keys acc k d k).mpr (.inr rfl))
        refine ⟨⟨kr, z1⟩, fun x hx => ?_⟩
        rcases List.mem_cons.mp hx with q | q
        · rw [q]; exact h
        · exact fun w => z2 x q ((putD_keys acc k d x).mpr (.inl w))
      · rintro ⟨⟨z1, z2⟩, z3⟩
        refine ⟨z2, fun x hx w => ?_⟩
        rcases (putD_keys acc k d x).mp w with q | q
        · exact z3 x (List.mem_cons_of_mem _ hx) q
        · exact z1 (by rw [← q]; exact hx)
theorem mergeD_nd {l : KD} (h : (l.map (·.1)).Nodup) : mergeD [] l = l := by
  have go : ∀ (l acc : KD), (l.map (·.1)).Nodup → (∀ k ∈ l.map (·.1), k ∉ acc.map (·.1)) → mergeD acc l = acc ++ l := by
    intro l
    induction l with
    | nil => intro acc _ _; rw [List.append_nil]; rfl
    | cons a r ih =>
      intro acc nd hk
      obtain ⟨k, d⟩ := a
      rw [List.map_cons, List.nodup_cons] at nd
      show mergeD (putD acc k d) r = _
      rw [putD_new (hk k (List.mem_cons_self ..)), ih _ nd.2 fun x hx w => ?_]
      · simp
      · rw [List.map_append, List.mem_append] at w
        rcases w with w | w
        · exact hk x (List.mem_cons_of_mem _ hx) w
        · simp at w
          exact nd.1 (by rw [← w]; exact hx)
  have := go l [] h (fun _ _ z => by cases z)
  rw [this, List.nil_append]
end Py
end

section
set_option Elab.async false
set_option linter.all false
set_option maxRecDepth 100000
set_option maxHeartbeats 4000000
set_option autoImplicit false
set_option exponentiation.threshold 300
namespace Law
open PySem PySem.Spec PyProof.Rows L2 Py Mt Pm

local macro_rules | `(tactic| wtm_at "op") => `(tactic| first
  | with_reducible exact o_I0 | with_reducible exact o_add | with_reducible exact o_eqI | with_reducible exact o_neI
  | ((with_reducible apply o_mul); first | assumption | wtm_at "si")
  | ((with_reducible apply o_I); first | assumption | wtm_at "si")
  | ((with_reducible apply o_ixT); rfl) | ((with_reducible apply o_ixL); rfl)
  | ((with_reducible apply o_eqD) <;> first | rfl | decide | assumption) | ((with_reducible apply o_neD) <;> first | rfl | decide | assumption)
  | with_reducible assumption)
local macro_rules | `(tactic| wtm_at "si") => `(tactic| first | decide | exact ⟨by decide, by decide +kernel⟩ | omega)
local macro_rules | `(tactic| wtm_at "ev") => `(tactic| first
  | ((with_reducible apply e_var); rfl) | with_reducible exact e_c | with_reducible exact a_nil
  | ((with_reducible apply a_cons) <;> wtm_at "ev")
  | ((with_reducible apply e_bin) <;> first | wtm_at "ev" | wtm_at "op")
  | ((with_reducible apply e_ixO) <;> first | rfl | wtm_at "ev")
  | ((with_reducible apply e_U) <;> wtm_at "ev")
  | ((with_reducible apply t_test) <;> wtm_at "ev")
  | ((with_reducible apply t_B) <;> wtm_at "ev")
  | ((with_reducible apply t_not) <;> wtm_at "ev")
  | ((with_reducible apply e_tup) <;> first | wtm_at "ev" | exact Nat.le_of_ble_eq_true rfl)
  | ((with_reducible apply e_lst) <;> first | wtm_at "ev" | exact Nat.le_of_ble_eq_true rfl)
  | ((with_reducible apply e_gcd) <;> wtm_at "ev")
  | ((with_reducible apply e_abs) <;> wtm_at "ev")
  | ((with_reducible apply e_max2) <;> wtm_at "ev")
  | ((with_reducible apply e_int) <;> wtm_at "ev")
  | ((with_reducible apply e_intB) <;> wtm_at "ev")
  | ((with_reducible apply e_bits) <;> wtm_at "ev")
  | ((with_reducible apply e_not) <;> wtm_at "ev")
  | with_reducible assumption)

section
variable {P : Program} {w : World} {K : Frg} {T : List (Addr × Str)} {mg : Str → Option Value} {base : Heap}

abbrev s__law_power : Stmt := top 25
theorem sc__law_power : FnScope ["number", "exponent", "base", "found"] ["number", "exponent", "base"] (defScope s__law_power) := ⟨rfl, rfl, rfl, by decide +kernel, rfl, by decide +kernel, by decide +kernel⟩
abbrev s__law_prime : Stmt := top 26
theorem sc__law_prime : FnScope ["number", "trial"] ["number"] (defScope s__law_prime) := ⟨rfl, rfl, rfl, by decide +kernel, rfl, by decide +kernel, by decide +kernel⟩
abbrev s__law_holds : Stmt := top 27
theorem sc__law_holds : FnScope ["number", "rows", "told", "row", "one", "prime", "factors", "left", "factor"] ["number", "rows"] (defScope s__law_holds) := ⟨rfl, rfl, rfl, by decide +kernel, rfl, by decide +kernel, by decide +kernel⟩
def sp_lpow : List Dt → Rs → Prop := fun ds r => ∃ b e p : Nat, ds = [dN b, dN e, dN p] ∧ 0 < p ∧ p ≤ 1000000000002 ∧ b ≤ 1000000000100 ∧ r = .ok (dN (b ^ e % p))
theorem fits_50 {n : Nat} (h : n < 2 ^ 50) : Fits n := fits_of 50 h (by decide)

theorem ok__law_power (X : Txt K mg) (F : ∃ fd, FunD K "_law_power" "_law_power" (defArgs s__law_power) (defBody s__law_power) (defScope s__law_power) [] [] (He.ga K "_law_power") fd) (hm : mg "_law_power" = some (.ref (He.ga K "_law_power"))) : Gd P w K mg base "_law_power" ["number", "exponent", "base"] 1 (spD K T sp_lpow) := by
  have Tx := X
  refine mkG F hm sc__law_power (fun _ _ _ _ _ _ us hl => match us, hl with | [_, _, _], _ => rfl) (fun ds r h => ?len) (fun cdv A outer s H E hr => ?body)
  case len => (obtain ⟨_, _, _, rfl, _⟩ := h; rfl)
  case body =>
    have sc := sc__law_power
    refine ⟨_, (pss_cons (ps_set (i := 3) sc.nd rfl (Or.inl rfl) (pe_op op_modN pe_int (pv 2)))
  (pss_cons (ps_while (passesE) (pt_cmpR op_gt (pv 1) pe_int (nomark _)) (pss_cons (ps_set (i := 3) sc.nd rfl (Or.inl rfl) (pe_ifExp (pt_cmpR (op_eqA hr.units) (pe_op op_modN (pv 1) pe_int) pe_int (nomark _)) (pe_op op_modN (pe_op op_mulA (pv 3) (pv 0)) (pv 2)) (pv 3)))
  (pss_one (ps_par (i := 0) (j := 1) rfl sc.nd rfl rfl (by decide) rfl rfl (pa_cons (pe_op op_modN (pe_op op_mulA (pv 0) (pv 0)) (pv 2)) (pa_cons (pe_op op_fdivX (pv 1) pe_int) pa_nil)) (by rfl)))))
  (pss_one (ps_ret (pv 3))))), fun O ds r hg => ?_⟩
    clear sc hr
    try dsimp only [cxOf]

    obtain ⟨b, e, p, rfl, hp, hz, hb, rfl⟩ := hg
    refine r_seq (r_asg (d := dN (1 % p)) (e_modN (e_cN 1) (e_var rfl) hp) ?_)
    refine r_seq (r_while (fun m A => ∃ f c : Nat, f < p ∧ c ≤ 1000000000100 ∧ f * c ^ m % p = b ^ e % p ∧ A = ⟨[.d (dN c), .d (dN m), .d (dN p), .d (dN f)], []⟩) e ⟨1 % p, b, Nat.mod_lt _ hp, hb, by rw [Nat.mod_mul_mod, Nat.one_mul], rfl⟩ ?_)
    rintro m A ⟨f, c, hf, hc, he, rfl⟩
    have fp : Fits p := fits_big hz
    have fc : Fits c := fits_50 (by omega)
    have ff : Fits f := fits_50 (by omega)
    refine ⟨decide (0 < m), _, t_is (t_test (e_bin (e_var rfl) e_c o_I0)) (by rw [decide_eq_decide]; omega), fun h => ?_, fun h => ?_⟩
    · have hm : 0 < m := of_decide_eq_true h
      refine r_cut (fun A' => ∃ f' : Nat, f' < p ∧ f' * (c * c % p) ^ (m / 2) % p = b ^ e % p ∧ A' = ⟨[.d (dN c), .d (dN m), .d (dN p), .d (dN f')], []⟩) ?_ ?_
      · by_cases od : m % 2 = 1
        · refine r_asg (e_ifT (t_is (t_eqN (e_modN (e_var rfl) (e_cN 2) (by decide)) (e_cN 1)) (decide_eq_true od)) (e_modN (e_mulN (e_var rfl) (e_var rfl) ff fc) (e_var rfl) hp)) ⟨_, Nat.mod_lt _ hp, ?_, rfl⟩
          rw [← he, Nat.mod_mul_mod, Nat.mul_mod, pow_m, ← Nat.mul_mod, ← Nat.pow_two, ← Nat.pow_mul, Nat.mul_assoc, Nat.mul_comm c, ← Nat.pow_succ]
          congr 3
          omega
        · refine r_asg (e_ifF (t_is (t_eqN (e_modN (e_var rfl) (e_cN 2) (by decide)) (e_cN 1)) (decide_eq_false od)) (e_var rfl)) ⟨f, hf, ?_, rfl⟩
          rw [← he, Nat.mul_mod, pow_m, ← Nat.mul_mod, ← Nat.pow_two, ← Nat.pow_mul]
          congr 3
          omega
      · rintro A' ⟨f', g1, g2, rfl⟩
        have := Nat.mod_lt (c * c) hp
        exact r_par (a_cons (e_modN (e_mulN (e_var rfl) (e_var rfl) fc fc) (e_var rfl) hp) (a_cons (e_divN (e_var rfl) (e_cN 2) (fits_of 2 (by decide) (by decide)) (by decide)) a_nil)) ⟨m / 2, by omega, f', _, g1, by omega, g2, rfl⟩
    · have hm : m = 0 := by have := of_decide_eq_false h; omega
      subst hm
      rw [Nat.pow_zero, Nat.mul_one, Nat.mod_eq_of_lt hf] at he
      exact r_ret (e_var rfl) (by rw [he]; rfl)

open Classical in
noncomputable def prmB (n : Nat) : Bool := decide (Prm n)
theorem prmB_t {n : Nat} : prmB n = true ↔ Prm n := by simp [prmB]
theorem prmB_f {n : Nat} : prmB n = false ↔ ¬ Prm n := by simp only [prmB, decide_eq_false_iff_not]
def sp_lprime : List Dt → Rs → Prop := fun ds r => ∃ n : Nat, ds = [dN n] ∧ n ≤ 1000000000002 ∧ r = .ok (db (prmB n))

theorem ok__law_prime (X : Txt K mg) (F : ∃ fd, FunD K "_law_prime" "_law_prime" (defArgs s__law_prime) (defBody s__law_prime) (defScope s__law_prime) [] [] (He.ga K "_law_prime") fd) (hm : mg "_law_prime" = some (.ref (He.ga K "_law_prime"))) : Gd P w K mg base "_law_prime" ["number"] 1 (spD K T sp_lprime) := by
  have Tx := X
  refine mkG F hm sc__law_prime (fun _ _ _ _ _ _ us hl => match us, hl with | [_], _ => rfl) (fun ds r h => ?len) (fun cdv A outer s H E hr => ?body)
  case len => (obtain ⟨_, rfl, _⟩ := h; rfl)
  case body =>
    have sc := sc__law_prime
    refine ⟨_, (pss_cons (ps_if (pt_cmpR op_lt (pv 0) pe_int (nomark _)) (pss_one (ps_ret pe_bl)) pss_nil)
  (pss_cons (ps_set (i := 1) sc.nd rfl (Or.inl rfl) pe_int)
  (pss_cons (ps_while (passesE) (pt_cmpR op_le (pe_op op_mulA (pv 1) (pv 1)) (pv 0) (nomark _)) (pss_cons (ps_if (pt_cmpR (op_eqA hr.units) (pe_op op_modN (pv 0) (pv 1)) pe_int (nomark _)) (pss_one (ps_ret pe_bl)) pss_nil)
  (pss_one (ps_set (i := 1) sc.nd rfl (Or.inl rfl) (pe_op op_addA (pv 1) pe_int)))))
  (pss_one (ps_ret pe_bl))))), fun O ds r hg => ?_⟩
    clear sc hr
    try dsimp only [cxOf]

    obtain ⟨n, rfl, hn, rfl⟩ := hg
    by_cases h2 : n < 2
    · refine r_seq (r_ifTs (t_is (t_ltN (e_var rfl) (e_cN 2)) (decide_eq_true h2)) (r_ret e_c ?_))
      rw [prmB_f.mpr fun z => by have := z.1; omega]; rfl
    refine r_seq (r_ifFs (t_is (t_ltN (e_var rfl) (e_cN 2)) (decide_eq_false h2)) (r_next ?_))
    refine r_seq (r_asg (d := dN 2) (e_cN 2) ?_)
    refine r_seq (r_while (fun m A => ∃ t : Nat, 2 ≤ t ∧ t ≤ n + 1 ∧ (∀ d, 2 ≤ d → d < t → n % d ≠ 0) ∧ m = n + 2 - t ∧ A = ⟨[.d (dN n), .d (dN t)], []⟩) n ⟨2, by decide, by omega, fun d a b => by omega, by omega, rfl⟩ ?_)
    rintro m A ⟨t, h3, h4, h5, rfl, rfl⟩
    have ft : Fits t := fits_50 (by omega)
    refine ⟨decide (t * t ≤ n), _, t_leN (e_mulN (e_var rfl) (e_var rfl) ft ft) (e_var rfl), fun h => ?_, fun h => ?_⟩
    · have ht : t * t ≤ n := of_decide_eq_true h
      have tn : t < n := by
        have := Nat.mul_le_mul_right t h3
        omega
      by_cases hd : n % t = 0
      · refine r_seq (r_ifTs (t_is (t_eqN (e_modN (e_var rfl) (e_var rfl) (by omega)) (e_cN 0)) (decide_eq_true hd)) (r_ret e_c ?_))
        rw [prmB_f.mpr fun z => prm_no z h3 tn hd]; rfl
      · refine r_seq (r_ifFs (t_is (t_eqN (e_modN (e_var rfl) (e_var rfl) (by omega)) (e_cN 0)) (decide_eq_false hd)) (r_next ?_))
        refine r_asg (e_addN (e_var rfl) (e_cN 1)) ⟨n + 2 - (t + 1), by omega, t + 1, by omega, by omega, fun d a b => ?_, rfl, rfl⟩
        by_cases e : d = t
        · rw [e]; exact hd
        · exact h5 d a (by omega)
    · have ht : ¬ t * t ≤ n := of_decide_eq_false h
      refine r_ret e_c ?_
      rw [prmB_t.mpr (prm_root (w := t - 1) (by omega) (by rw [show t - 1 + 1 = t by omega]; omega) fun d a b => h5 d a (by omega))]; rfl

/-! ### rows that prove a prime -/
structure RP where
  p : Nat
  w : Nat
  l : List Nat
def RP.d (r : RP) : Dt := .tup [dN r.p, dN r.w, .tup (r.l.map dN)]
noncomputable def fokB (told : List Nat) (f : Nat) : Bool := litB f || decide (f ∈ told)
noncomputable def partsF (told : List Nat) : List Nat → Nat → Option Nat
  | [], left => some left
  | f :: r, left => if left % f = 0 ∧ fokB told f = true then partsF told r (outN left f).1 else none
noncomputable def rowB (told : List Nat) (r : RP) : Bool := decide (1000 < r.p) && (partsF told r.l (r.p - 1) == some 1) && decide (1 < r.w ∧ r.w < r.p) && witB r.p r.w r.l
noncomputable def holdsB (n : Nat) (rows : List RP) : Bool := decide (rows.map (·.p)).Nodup && fokB (rows.map (·.p)) n && rows.all (rowB (rows.map (·.p)))
structure RP.Fine (r : RP) : Prop where
  p1 : 1 ≤ r.p
  p2 : r.p ≤ 1000000000002
  w : r.w ≤ 1000000000100
  l : ∀ f ∈ r.l, 2 ≤ f ∧ f ≤ 1000000000002
  n : r.l.length ≤ 1000
def sp_holds : List Dt → Rs → Prop := fun ds r => ∃ (n : Nat) (rows : List RP), ds = [dN n, .tup (rows.map RP.d)] ∧ n ≤ 1000000000002 ∧ rows.length ≤ 1000 ∧ (∀ r ∈ rows, r.Fine) ∧ r = .ok (db (holdsB n rows))
theorem mem_dN {n : Nat} {l : List Nat} : ((n : Int) ∈ l.map fun (x : Nat) => (x : Int)) ↔ n ∈ l := by
  rw [List.mem_map]
  constructor
  · rintro ⟨x, hx, e⟩
    have : x = n := by omega
    rw [← this]; exact hx
  · intro h; exact ⟨n, h, rfl⟩
theorem o_inN {C : Ct} {n : Nat} {l : List Nat} : OpS C (rIn C.K false) (dN n) (.lst (l.map dN)) (db (decide (n ∈ l))) := by
  have := o_inL (C := C) (n := (n : Int)) (ns := l.map fun (x : Nat) => (x : Int))
  rw [List.map_map] at this
  rw [show decide (n ∈ l) = decide ((n : Int) ∈ l.map fun (x : Nat) => (x : Int)) from decide_eq_decide.mpr mem_dN.symm]
  exact this
/-- number < 1000 and _law_prime(number) or number in told -/
theorem t_fok {C : Ct} {E' : XK} {A : AS} {ta tc td : TE} {tl : TA} {n : Nat} {told : List Nat} (h1 : EvS C ta A (dN n) A) (h2 : EvA C tl A [dN n] A) (h3 : EvS C tc A (dN n) A) (h4 : EvS C td A (.lst (told.map dN)) A) (hn : n ≤ 1000000000002) :
    EvT C (tOr (tAnd (tTest (tOp (rI0 fun i j => .bl (decide (i < j))) ta (tC (.int ((1000 : Nat) : Int))))) (tB (tCall (spD C.K C.T sp_lprime) [] E' tl))) (tTest (tOp (rIn C.K false) tc td))) A (fokB told n) A := by
  have e : fokB told n = (decide (n < 1000) && prmB n || decide (n ∈ told)) := by
    unfold fokB
    congr 1
    cases h : litB n with
    | true =>
      have := litB_t.mp h
      rw [decide_eq_true this.1, prmB_t.mpr this.2]; rfl
    | false =>
      have := litB_f.mp h
      by_cases c : n < 1000
      · rw [prmB_f.mpr fun z => this ⟨c, z⟩, Bool.and_false]
      · rw [decide_eq_false c]; rfl
  rw [e]
  exact t_or (t_and (t_ltN h1 (e_cN 1000)) fun _ => t_B (e_call h2 ⟨n, rfl, hn, rfl⟩)) fun _ => t_test (e_bin h3 h4 o_inN)
theorem nd_kv (l : List Nat) : (((l.map fun (x : Nat) => ((Sum.inl (x : Int) : Key), di 1)).map (·.1)).Nodup) ↔ l.Nodup := by
  rw [List.map_map]
  constructor
  · intro h
    induction l with
    | nil => exact List.nodup_nil
    | cons a r ih =>
      rw [List.map_cons, List.nodup_cons] at h
      refine List.nodup_cons.mpr ⟨fun z => h.1 (List.mem_map.mpr ⟨a, z, rfl⟩), ih h.2⟩
  · intro h
    induction l with
    | nil => exact List.nodup_nil
    | cons a r ih =>
      rw [List.nodup_cons] at h
      rw [List.map_cons]
      refine List.nodup_cons.mpr ⟨fun z => ?_, ih h.2⟩
      obtain ⟨x, hx, e⟩ := List.mem_map.mp z
      have : x = a := by have := Sum.inl.inj e; omega
      exact h.1 (by rw [← this]; exact hx)

theorem ok__law_holds (X : Txt K mg) (F : ∃ fd, FunD K "_law_holds" "_law_holds" (defArgs s__law_holds) (defBody s__law_holds) (defScope s__law_holds) [] [] (He.ga K "_law_holds") fd) (hm : mg "_law_holds" = some (.ref (He.ga K "_law_holds"))) (G__law_prime : Gd P w K mg base "_law_prime" ["number"] 1 (spD K T sp_lprime)) (G__law_power : Gd P w K mg base "_law_power" ["number", "exponent", "base"] 1 (spD K T sp_lpow)) : Gd P w K mg base "_law_holds" ["number", "rows"] 2 (spD K T sp_holds) := by
  have Tx := X
  refine mkG F hm sc__law_holds (fun _ _ _ _ _ _ us hl => match us, hl with | [_, _], _ => rfl) (fun ds r h => ?len) (fun cdv A outer s H E hr => ?body)
  case len => (obtain ⟨_, _, rfl, _⟩ := h; rfl)
  case body =>
    have sc := sc__law_holds
    refine ⟨_, (pss_cons (ps_setLc (i := 2) (own := [("row", 3)]) rfl sc.nd rfl rfl (sw_true rfl rfl rfl (by decide +kernel)) (pi_tup (pv 1)) (blkOk_by (own := [("row", 3)]) (N := ["number", "rows", "told", "row", "one", "prime", "factors", "left", "factor"]) (sc := defScope s__law_holds) (by decide +kernel)) (fun _ _ _ _ _ => (pg_name (i := 3) sc.nd rfl (Or.inl rfl))) (fun _ _ _ _ _ => pts_nil) (fun _ _ _ _ _ => (pe_ix (ix_seqK (K := K) rfl) (pv 3) pe_int (fun _ _ => rfl))))
  (pss_cons (ps_if (PW.pt (pw_or (pt_cmpR (op_neA hr.units) (pe_callB call_lenD (by rfl) Tx.n_len (by decide +kernel) (pa_cons (pe_callTy (cr_dictL rfl) (by rfl) Tx.n_dict (by decide +kernel) (pa_cons (pe_lc (own := [("one", 4)]) rfl sc.nd (pi_list (pv 2)) (blkOk_by (own := [("one", 4)]) (N := ["number", "rows", "told", "row", "one", "prime", "factors", "left", "factor"]) (sc := defScope s__law_holds) (by decide +kernel)) (fun _ _ _ _ _ => (pg_name (i := 4) sc.nd rfl (Or.inl rfl))) (fun _ _ _ _ _ => pts_nil) (fun _ _ _ _ _ => (pe_tup (pa_cons (pv 4) (pa_cons pe_int pa_nil))))) pa_nil)) pa_nil)) (pe_callB call_len (by rfl) Tx.n_len (by decide +kernel) (pa_cons (pv 2) pa_nil)) (nomark _)) (pw_or1 (pt_not (PW.pt (pw_or (PW.pt (pw_and (pt_cmpR op_lt (pv 0) pe_int (nomark _)) (pw_and1 (pt_val (pe_callG G__law_prime (hr.mono (by decide)) psE (pa_cons (pv 0) pa_nil)))))) (pw_or1 (pt_cmpR op_in_seq (pv 0) (pv 2) rfl)))))))) (pss_one (ps_ret pe_bl)) pss_nil)
  (pss_cons (ps_for (passesE) rfl (pi_tup (pv 1)) (pg_tup rfl (pgs_cons (pg_name (i := 5) sc.nd rfl (Or.inr rfl)) (pgs_cons (pg_name (i := 4) sc.nd rfl (Or.inr rfl)) (pgs_cons (pg_name (i := 6) sc.nd rfl (Or.inl rfl)) pgs_nil)))) (pss_cons (ps_set (i := 7) sc.nd rfl (Or.inl rfl) (pe_op op_sub (pv 5) pe_int))
  (pss_cons (ps_for (passesE) rfl (pi_tup (pv 6)) (pg_name (i := 8) sc.nd rfl (Or.inl rfl)) (pss_cons (ps_if (PW.pt (pw_or (pt_cmpR op_lt (pv 5) pe_int (nomark _)) (pw_or (pt_cmpR op_lt (pv 8) pe_int (nomark _)) (pw_or (pt_cmpR (op_neA hr.units) (pe_op op_modN (pv 7) (pv 8)) pe_int (nomark _)) (pw_or1 (pt_not (PW.pt (pw_or (PW.pt (pw_and (pt_cmpR op_lt (pv 8) pe_int (nomark _)) (pw_and1 (pt_val (pe_callG G__law_prime (hr.mono (by decide)) psE (pa_cons (pv 8) pa_nil)))))) (pw_or1 (pt_cmpR op_in_seq (pv 8) (pv 2) rfl)))))))))) (pss_one (ps_ret pe_bl)) pss_nil)
  (pss_one (ps_while (passesE) (pt_cmpR (op_eqA hr.units) (pe_op op_modN (pv 7) (pv 8)) pe_int (nomark _)) (pss_one (ps_set (i := 7) sc.nd rfl (Or.inl rfl) (pe_op op_fdivX (pv 7) (pv 8))))))))
  (pss_cons (ps_if (PW.pt (pw_or (pt_cmpR op_le (pv 5) pe_int (nomark _)) (pw_or (pt_cmpR (op_neA hr.units) (pv 7) pe_int (nomark _)) (pw_or (pt_not (pt_chain op_lt op_lt pe_int (pv 4) (pv 5))) (pw_or1 (pt_cmpR (op_neA hr.units) (pe_callG G__law_power (hr.mono (by decide)) psE (pa_cons (pv 4) (pa_cons (pe_op op_sub (pv 5) pe_int) (pa_cons (pv 5) pa_nil)))) pe_int (nomark _))))))) (pss_one (ps_ret pe_bl)) pss_nil)
  (pss_one (ps_if (pt_cmpR (op_neA hr.units) (pe_lc (own := [("factor", 8)]) rfl sc.nd (pi_tup (pv 6)) (blkOk_by (own := [("factor", 8)]) (N := ["number", "rows", "told", "row", "one", "prime", "factors", "left", "factor"]) (sc := defScope s__law_holds) (by decide +kernel)) (fun _ _ _ _ _ => (pg_name (i := 8) sc.nd rfl (Or.inl rfl))) (fun _ _ _ _ _ => (pts_one (pt_cmpR (op_eqAK (K := K) rfl hr.units) (pe_callG G__law_power (hr.mono (by decide)) passL (pa_cons (pv 4) (pa_cons (pe_op op_fdivX (pe_op op_sub (pv 5) pe_int) (pv 8)) (pa_cons (pv 5) pa_nil)))) pe_int (nomark _)))) (fun _ _ _ _ _ => (pv 8))) (pe_lst pa_nil) (nomark _)) (pss_one (ps_ret pe_bl)) pss_nil))))))
  (pss_one (ps_ret pe_bl))))), fun O ds r hg => ?_⟩
    clear sc hr
    try dsimp only [cxOf]

    obtain ⟨n, rows, rfl, hn, hlen, hf, rfl⟩ := hg
    have ⟨told, htold⟩ : ∃ told, told = rows.map (·.p) := ⟨_, rfl⟩
    have tl : told.length = rows.length := by rw [htold, List.length_map]
    refine r_seq (r_asg (d := .lst (told.map dN)) (e_is (e_lcT (xs := rows.map RP.d) (e_var rfl) (fun i => ⟨[.d (dN n), .d (.tup (rows.map RP.d)), .un, .un, .un, .un, .un, .un, .un], []⟩) (fun i => (rows.take i).map fun r => dN r.p) rfl rfl (fun i x hx O' => ?t1) (by rw [List.length_map]; omega)) (by rw [List.length_map, List.take_of_length_le (Nat.le_refl _), htold, List.map_map]; rfl)) ?_)
    case t1 =>
      rw [List.getElem?_map] at hx
      obtain ⟨r, hr, rfl⟩ := Option.map_eq_some_iff.mp hx
      refine ⟨⟨[.d (dN n), .d (.tup (rows.map RP.d)), .un, .d r.d, .un, .un, .un, .un, .un], []⟩, true, _, tgS_name (by simp), t_yes, .inl ⟨rfl, dN r.p, _, e_bin (e_var rfl) e_c (o_ixT rfl), ?_, rfl⟩⟩
      rw [List.take_add_one, hr, List.map_append]; rfl
    have ho : holdsB n rows = (decide told.Nodup && fokB told n && rows.all (rowB told)) := by rw [htold]; rfl
    have fk : EvT ⟨K, T, H, O⟩ _ _ (fokB told n) _ := t_fok (C := ⟨K, T, H, O⟩) (E' := E) (A := ⟨[.d (dN n), .d (.tup (rows.map RP.d)), .d (.lst (told.map dN)), .un, .un, .un, .un, .un, .un], []⟩) (e_var (i := 0) rfl) (a_cons (e_var (i := 0) rfl) a_nil) (e_var (i := 0) rfl) (e_var (i := 2) rfl) hn
    refine r_seq (r_ifs (b := !decide told.Nodup || !fokB told n) (t_or (t_is (t_test (e_bin (C := ⟨K, T, H, O⟩) (A := ⟨[.d (dN n), .d (.tup (rows.map RP.d)), .d (.lst (told.map dN)), .un, .un, .un, .un, .un, .un], []⟩) (e_lenD (a_cons (e_dictL (kvs := told.map fun (x : Nat) => ((Sum.inl (x : Int) : Key), di 1)) (a_cons (e_is (e_lcL (xs := told.map dN) (e_var (i := 2) rfl) (fun i => ⟨[.d (dN n), .d (.tup (rows.map RP.d)), .d (.lst (told.map dN)), .un, .un, .un, .un, .un, .un], []⟩) (fun i => (told.take i).map fun (x : Nat) => Dt.tup [dN x, di 1]) rfl rfl (fun i x hx O' => ?t2) (by rw [List.length_map]; omega)) (by rw [List.length_map, List.take_of_length_le (Nat.le_refl _), List.map_map]; rfl)) a_nil)) a_nil)) (e_lenL (e_var (i := 2) rfl)) o_neI)) (congrArg (!·) (by
      rw [List.length_map, decide_eq_decide]
      have := mergeD_iff (told.map fun (x : Nat) => ((Sum.inl (x : Int) : Key), di 1)) []
      rw [nd_kv, List.length_nil, Nat.zero_add, List.length_map] at this
      constructor
      · intro z; exact (this.mp (by omega)).1
      · intro z; have := this.mpr ⟨z, fun _ _ w => by cases w⟩; omega))) fun _ => t_not fk) (fun hb => r_ret e_c ?_) fun hb => r_next ?_)
    case t2 =>
      rw [List.getElem?_map] at hx
      obtain ⟨y, hy, rfl⟩ := Option.map_eq_some_iff.mp hx
      refine ⟨⟨[.d (dN n), .d (.tup (rows.map RP.d)), .d (.lst (told.map dN)), .un, .d (dN y), .un, .un, .un, .un], []⟩, true, _, tgS_name (by simp), t_yes, .inl ⟨rfl, _, _, e_tup (a_cons (e_var rfl) (a_cons e_c a_nil)) (Nat.le_of_ble_eq_true rfl), ?_, rfl⟩⟩
      rw [List.take_add_one, hy, List.map_append]; rfl
    · show Rs.ok _ = Rs.ok _
      rw [ho]
      cases h1 : decide told.Nodup <;> cases h2 : fokB told n <;> rw [h1, h2] at hb <;> first | rfl | cases hb
    · have c1 : decide told.Nodup = true := by cases h : decide told.Nodup with
        | true => rfl
        | false => rw [h] at hb; cases hb
      have c2 : fokB told n = true := by cases h : fokB told n with
        | true => rfl
        | false => rw [c1, h] at hb; cases hb
      rw [c1, c2, Bool.true_and, Bool.true_and] at ho
      clear fk
      refine r_seq (r_forT (xs := rows.map RP.d) (e_var rfl) (fun i A => (∀ r ∈ rows.take i, rowB told r = true) ∧ ∃ x3 x4 x5 x6 x7 x8, A = ⟨[.d (dN n), .d (.tup (rows.map RP.d)), .d (.lst (told.map dN)), x3, x4, x5, x6, x7, x8], []⟩) ⟨fun r hr => (by simp at hr), _, _, _, _, _, _, rfl⟩ ?_ ?_)
      · rintro i x A hx ⟨hall, x3, x4, x5, x6, x7, x8, rfl⟩
        rw [List.getElem?_map] at hx
        obtain ⟨r, hr, rfl⟩ := Option.map_eq_some_iff.mp hx
        have hm := List.mem_of_getElem? hr
        have F1 := hf r hm
        refine ⟨⟨[.d (dN n), .d (.tup (rows.map RP.d)), .d (.lst (told.map dN)), x3, .d (dN r.w), .d (dN r.p), .d (.tup (r.l.map dN)), x7, x8], []⟩, tg_tup rfl (tgA_cons tg_name (tgA_cons tg_name (tgA_cons tg_name tgA_nil))), ?_⟩
        have bad : rowB told r = false → Rs.ok (db (holdsB n rows)) = .ok (db false) := fun z => by
          rw [ho, List.all_eq_false.mpr ⟨r, hm, by rw [z]; decide⟩]
        refine r_seq (r_asg (d := dN (r.p - 1)) (e_subN (e_var rfl) (e_cN 1) F1.p1) ?_)
        refine r_seq (r_forT (xs := r.l.map dN) (e_var rfl) (fun j A => ∃ (left : Nat) (y8 : SD), (j = 0 ∨ 1000 ≤ r.p) ∧ (1000 ≤ r.p → 0 < left) ∧ left ≤ 1000000000002 ∧ partsF told (r.l.drop j) left = partsF told r.l (r.p - 1) ∧ A = ⟨[.d (dN n), .d (.tup (rows.map RP.d)), .d (.lst (told.map dN)), x3, .d (dN r.w), .d (dN r.p), .d (.tup (r.l.map dN)), .d (dN left), y8], []⟩) ⟨r.p - 1, _, .inl rfl, by omega, by have := F1.p2; omega, rfl, rfl⟩ ?_ ?_)
        · rintro j x A hx ⟨left, y8, hj, hl0, hl1, hpf, rfl⟩
          rw [List.getElem?_map] at hx
          obtain ⟨f, hfj, rfl⟩ := Option.map_eq_some_iff.mp hx
          have Ff := F1.l f (List.mem_of_getElem? hfj)
          have hjl := (List.getElem?_eq_some_iff.mp hfj).1
          refine ⟨⟨[.d (dN n), .d (.tup (rows.map RP.d)), .d (.lst (told.map dN)), x3, .d (dN r.w), .d (dN r.p), .d (.tup (r.l.map dN)), .d (dN left), .d (dN f)], []⟩, tg_name, ?_⟩
          have dr : r.l.drop j = f :: r.l.drop (j + 1) := by rw [List.drop_eq_getElem_cons hjl]; congr 1; exact (List.getElem?_eq_some_iff.mp hfj).2
          rw [dr, partsF] at hpf
          have fk : EvT ⟨K, T, H, O⟩ _ _ (fokB told f) _ := t_fok (C := ⟨K, T, H, O⟩) (E' := E) (A := ⟨[.d (dN n), .d (.tup (rows.map RP.d)), .d (.lst (told.map dN)), x3, .d (dN r.w), .d (dN r.p), .d (.tup (r.l.map dN)), .d (dN left), .d (dN f)], []⟩) (e_var (i := 8) rfl) (a_cons (e_var (i := 8) rfl) a_nil) (e_var (i := 8) rfl) (e_var (i := 2) rfl) Ff.2
          by_cases d1 : r.p < 1000
          · refine r_seq (r_ifTs (t_orT (t_is (t_ltN (e_var rfl) (e_cN 1000)) (decide_eq_true d1))) (r_ret e_c (bad ?_)))
            unfold rowB
            rw [decide_eq_false (by omega)]; rfl
          have l0 := hl0 (by omega)
          by_cases d2 : left % f = 0
          case neg =>
            refine r_seq (r_ifTs (t_orF (t_is (t_ltN (e_var rfl) (e_cN 1000)) (decide_eq_false d1)) (t_orF (t_is (t_ltN (e_var rfl) (e_cN 2)) (decide_eq_false (by omega))) (t_orT (t_is (t_neN (e_modN (e_var rfl) (e_var rfl) (by omega)) (e_cN 0)) (by rw [decide_eq_false d2]; rfl))))) (r_ret e_c (bad ?_)))
            unfold rowB
            rw [← hpf, if_neg fun z => d2 z.1]
            simp
          cases d3 : fokB told f with
          | false =>
            refine r_seq (r_ifTs (t_orF (t_is (t_ltN (e_var rfl) (e_cN 1000)) (decide_eq_false d1)) (t_orF (t_is (t_ltN (e_var rfl) (e_cN 2)) (decide_eq_false (by omega))) (t_orF (t_is (t_neN (e_modN (e_var rfl) (e_var rfl) (by omega)) (e_cN 0)) (by rw [decide_eq_true d2]; rfl)) (t_is (t_not fk) (by rw [d3]; rfl))))) (r_ret e_c (bad ?_)))
            unfold rowB
            rw [← hpf, if_neg fun z => by rw [d3] at z; cases z.2]
            simp
          | true =>
            rw [if_pos ⟨d2, d3⟩] at hpf
            refine r_seq (r_ifFs (t_orF (t_is (t_ltN (e_var rfl) (e_cN 1000)) (decide_eq_false d1)) (t_orF (t_is (t_ltN (e_var rfl) (e_cN 2)) (decide_eq_false (by omega))) (t_orF (t_is (t_neN (e_modN (e_var rfl) (e_var rfl) (by omega)) (e_cN 0)) (by rw [decide_eq_true d2]; rfl)) (t_is (t_not fk) (by rw [d3]; rfl))))) (r_next ?_))
            clear fk
            refine r_while (fun m A => ∃ k e : Nat, 0 < m ∧ m ≤ k ∧ m ≤ left ∧ (outF k m f e).1 = (outN left f).1 ∧ A = ⟨[.d (dN n), .d (.tup (rows.map RP.d)), .d (.lst (told.map dN)), x3, .d (dN r.w), .d (dN r.p), .d (.tup (r.l.map dN)), .d (dN m), .d (dN f)], []⟩) left ⟨left, 0, l0, Nat.le_refl _, Nat.le_refl _, rfl, rfl⟩ ?_
            rintro m A ⟨k, e, m0, mk, ml, he, rfl⟩
            refine ⟨decide (m % f = 0), _, t_eqN (e_modN (e_var rfl) (e_var rfl) (by omega)) (e_cN 0), fun hb => ?_, fun hb => ?_⟩
            · have hb := of_decide_eq_true hb
              have lt := div_lt m0 Ff.1 hb
              obtain ⟨k, rfl⟩ : ∃ j, k = j + 1 := ⟨k - 1, by omega⟩
              exact r_asg (e_divN (e_var rfl) (e_var rfl) (fits_big Ff.2) (by omega)) ⟨m / f, by omega, k, e + 1, lt.1, by omega, by omega, by rw [← he, outF_step hb], rfl⟩
            · have hb := of_decide_eq_false hb
              rw [outF_done hb] at he
              have he : m = (outN left f).1 := he
              exact ⟨m, _, .inr (by omega), fun _ => m0, by omega, by rw [he]; exact hpf, rfl⟩
        · rintro A ⟨left, y8, hj, hl0, hl1, hpf, rfl⟩
          rw [List.length_map, List.drop_length, partsF] at hpf
          have hw : r.w ≤ 1000000000100 := F1.w
          by_cases d1 : r.p ≤ 1000
          · refine r_seq (r_ifTs (t_orT (t_is (t_leN (e_var rfl) (e_cN 1000)) (decide_eq_true d1))) (r_ret e_c (bad ?_)))
            unfold rowB
            rw [decide_eq_false (by omega)]; rfl
          by_cases d2 : left = 1
          case neg =>
            refine r_seq (r_ifTs (t_orF (t_is (t_leN (e_var rfl) (e_cN 1000)) (decide_eq_false d1)) (t_orT (t_is (t_neN (e_var rfl) (e_cN 1)) (by rw [decide_eq_false d2]; rfl)))) (r_ret e_c (bad ?_)))
            unfold rowB
            rw [← hpf]
            simp [d2]
          subst d2
          have lt : ∀ {a b : Nat}, OpS ⟨K, T, H, O⟩ (rI0 fun i j => .bl (decide (i < j))) (dN a) (dN b) (db (decide (a < b))) := fun {a b} => by
            rw [show decide (a < b) = decide ((a : Int) < (b : Int)) from decide_eq_decide.mpr (by omega)]
            exact o_I0
          by_cases d3 : 1 < r.w
          case neg =>
            refine r_seq (r_ifTs (t_orF (t_is (t_leN (e_var rfl) (e_cN 1000)) (decide_eq_false d1)) (t_orF (t_is (t_neN (e_var rfl) (e_cN 1)) (by rfl)) (t_orT (t_is (t_not (t_test (e_chainF (e_cN 1) (e_var rfl) (o_is lt (by rw [decide_eq_false d3]))))) rfl)))) (r_ret e_c (bad ?_)))
            unfold rowB
            rw [decide_eq_false (p := 1 < r.w ∧ r.w < r.p) fun z => d3 z.1]
            simp
          by_cases d4 : r.w < r.p
          case neg =>
            refine r_seq (r_ifTs (t_orF (t_is (t_leN (e_var rfl) (e_cN 1000)) (decide_eq_false d1)) (t_orF (t_is (t_neN (e_var rfl) (e_cN 1)) (by rfl)) (t_orT (t_is (t_not (t_test (e_chainT (e_cN 1) (e_var rfl) (o_is lt (by rw [decide_eq_true d3])) (e_var rfl) (o_is lt (by rw [decide_eq_false d4]))))) rfl)))) (r_ret e_c (bad ?_)))
            unfold rowB
            rw [decide_eq_false (p := 1 < r.w ∧ r.w < r.p) fun z => d4 z.2]
            simp
          have pw : ∀ {C : Ct} {A A1 : AS} {E' : XK} {tl : TA} {e : Nat}, EvA C tl A [dN r.w, dN e, dN r.p] A1 → EvS C (tCall (spD C.K C.T sp_lpow) [] E' tl) A (dN (r.w ^ e % r.p)) A1 := fun h => e_call h ⟨_, _, _, rfl, by omega, F1.p2, hw, rfl⟩
          have start : rowB told r = witB r.p r.w r.l := by
            unfold rowB
            rw [← hpf, decide_eq_true (p := 1 < r.w ∧ r.w < r.p) ⟨d3, d4⟩, decide_eq_true (show 1000 < r.p by omega)]
            simp
          by_cases d5 : r.w ^ (r.p - 1) % r.p = 1
          case neg =>
            refine r_seq (r_ifTs (t_orF (t_is (t_leN (e_var rfl) (e_cN 1000)) (decide_eq_false d1)) (t_orF (t_is (t_neN (e_var rfl) (e_cN 1)) (by rfl)) (t_orF (t_is (t_not (t_test (e_chainT (e_cN 1) (e_var rfl) (o_is lt (by rw [decide_eq_true d3])) (e_var rfl) (o_is lt (by rw [decide_eq_true d4]))))) rfl) (t_is (t_neN (pw (a_cons (e_var rfl) (a_cons (e_subN (e_var rfl) (e_cN 1) F1.p1) (a_cons (e_var rfl) a_nil)))) (e_cN 1)) (by rw [decide_eq_false d5]; rfl))))) (r_ret e_c (bad ?_)))
            rw [start]
            unfold witB
            rw [decide_eq_false d5]; rfl
          refine r_seq (r_ifFs (t_orF (t_is (t_leN (e_var rfl) (e_cN 1000)) (decide_eq_false d1)) (t_orF (t_is (t_neN (e_var rfl) (e_cN 1)) (by rfl)) (t_orF (t_is (t_not (t_test (e_chainT (e_cN 1) (e_var rfl) (o_is lt (by rw [decide_eq_true d3])) (e_var rfl) (o_is lt (by rw [decide_eq_true d4]))))) rfl) (t_is (t_neN (pw (a_cons (e_var rfl) (a_cons (e_subN (e_var rfl) (e_cN 1) F1.p1) (a_cons (e_var rfl) a_nil)))) (e_cN 1)) (by rw [decide_eq_true d5]; rfl))))) (r_next ?_))
          have wb : witB r.p r.w r.l = ((r.l.filter fun q => decide (r.w ^ ((r.p - 1) / q) % r.p = 1)).map dN).isEmpty := by
            unfold witB
            rw [decide_eq_true d5, Bool.true_and]
            have : ∀ l : List Nat, (l.all fun q => !decide (r.w ^ ((r.p - 1) / q) % r.p = 1)) = ((l.filter fun q => decide (r.w ^ ((r.p - 1) / q) % r.p = 1)).map dN).isEmpty := by
              intro l
              induction l with
              | nil => rfl
              | cons a t ih =>
                rw [List.all_cons, List.filter_cons]
                by_cases z : r.w ^ ((r.p - 1) / a) % r.p = 1
                · rw [decide_eq_true z, if_pos rfl]; rfl
                · rw [decide_eq_false z, if_neg (by decide), ← ih]; rfl
            exact this r.l
          refine r_if (b := !rowB told r) (t_is (t_test (e_bin (C := ⟨K, T, H, O⟩) (e_lcT (C := ⟨K, T, H, O⟩) (A := ⟨[.d (dN n), .d (.tup (rows.map RP.d)), .d (.lst (told.map dN)), x3, .d (dN r.w), .d (dN r.p), .d (.tup (r.l.map dN)), .d (dN 1), y8], []⟩) (xs := r.l.map dN) (e_var (i := 6) rfl) (fun i => ⟨[.d (dN n), .d (.tup (rows.map RP.d)), .d (.lst (told.map dN)), x3, .d (dN r.w), .d (dN r.p), .d (.tup (r.l.map dN)), .d (dN 1), s5 y8 i], []⟩) (fun i => ((r.l.take i).filter fun q => decide (r.w ^ ((r.p - 1) / q) % r.p = 1)).map dN) rfl rfl (fun i x hx O' => ?t3) (by rw [List.length_map]; have := F1.n; omega)) (e_lst a_nil (by decide)) (o_neNil (n := 0) (niceN _)))) (by rw [List.length_map, List.take_of_length_le (Nat.le_refl _), ← wb, ← start])) (fun hb => r_ret e_c (bad (by simpa using hb))) fun hb => r_next ⟨fun x hx => ?_, _, _, _, _, _, _, rfl⟩
          case t3 =>
            rw [List.getElem?_map] at hx
            obtain ⟨q, hq, rfl⟩ := Option.map_eq_some_iff.mp hx
            have Fq := F1.l q (List.mem_of_getElem? hq)
            refine ⟨⟨[.d (dN n), .d (.tup (rows.map RP.d)), .d (.lst (told.map dN)), x3, .d (dN r.w), .d (dN r.p), .d (.tup (r.l.map dN)), .d (dN 1), .d (dN q)], []⟩, decide (r.w ^ ((r.p - 1) / q) % r.p = 1), _, tgS_name (by simp), t_eqN (pw (C := ⟨K, T, H, O'⟩) (a_cons (e_var rfl) (a_cons (e_divN (e_subN (e_var rfl) (e_cN 1) F1.p1) (e_var rfl) (fits_big Fq.2) (by omega)) (a_cons (e_var rfl) a_nil)))) (e_cN 1), ?_⟩
            rw [List.take_add_one, hq, List.filter_append, List.map_append]
            by_cases z : r.w ^ ((r.p - 1) / q) % r.p = 1
            · exact .inl ⟨decide_eq_true z, dN q, _, e_var rfl, by simp [z], rfl⟩
            · exact .inr ⟨decide_eq_false z, by simp [z], rfl⟩
          rw [List.take_add_one, hr] at hx
          rcases List.mem_append.mp hx with z | z
          · exact hall x z
          · simp at z
            rw [z]
            simpa using hb
      · rintro A ⟨hall, x3, x4, x5, x6, x7, x8, rfl⟩
        rw [List.length_map, List.take_of_length_le (Nat.le_refl _)] at hall
        refine r_ret e_c ?_
        rw [ho, List.all_eq_true.mpr hall]; rfl
end
end Law
end

section
set_option Elab.async false
set_option linter.all false
set_option autoImplicit false
set_option maxRecDepth 100000
set_option maxHeartbeats 1000000
set_option exponentiation.threshold 300
namespace Law
open PySem PySem.Spec PyProof.Rows L2 Py Mt Pm
/-! ### the rows of a prime prove it -/
noncomputable def rowP (p : Nat) : RP := ⟨p, wit p (qs (p - 1)), qs (p - 1)⟩
theorem rowP_d (p : Nat) : (rowP p).d = rowD p := rfl
noncomputable def bigR (n : Nat) : List RP := (big n).map rowP
theorem bigR_d (n : Nat) : (bigR n).map RP.d = (big n).map rowD := by unfold bigR; rw [List.map_map]; rfl
theorem bigR_p (n : Nat) : (bigR n).map (·.p) = big n := by unfold bigR; rw [List.map_map]; exact List.map_id' _
/-- parted in one way only -/
theorem part_uniq {d : Nat} (hd : Prm d) : ∀ (e e' m m' : Nat), m * d ^ e = m' * d ^ e' → ¬ d ∣ m → ¬ d ∣ m' → m = m'
  | 0, 0, m, m', h, _, _ => by simpa using h
  | 0, e' + 1, m, m', h, a, _ => by
    refine absurd ?_ a
    rw [Nat.pow_zero, Nat.mul_one] at h
    rw [h, Nat.pow_succ]
    exact ⟨m' * d ^ e', by grind⟩
  | e + 1, 0, m, m', h, _, b => by
    refine absurd ?_ b
    rw [Nat.pow_zero, Nat.mul_one] at h
    rw [← h, Nat.pow_succ]
    exact ⟨m * d ^ e, by grind⟩
  | e + 1, e' + 1, m, m', h, a, b => by
    refine part_uniq hd e e' m m' ?_ a b
    have d0 : 0 < d := by have := hd.1; omega
    refine Nat.eq_of_mul_eq_mul_left d0 ?_
    rw [Nat.pow_succ, Nat.pow_succ] at h
    grind
theorem out_rp {r : Row} {t : List Row} (h : ∀ x ∈ r :: t, Prm x.1 ∧ 1 ≤ x.2) (ha : (r :: t).Pairwise fun a b => a.1 < b.1) : (outN (rp (r :: t)) r.1).1 = rp t ∧ rp (r :: t) % r.1 = 0 := by
  have hr := h r (List.mem_cons_self ..)
  have pos : ∀ {l : List Row}, (∀ x ∈ l, Prm x.1 ∧ 1 ≤ x.2) → 0 < rp l := by
    intro l
    induction l with
    | nil => intro _; decide
    | cons a t ih =>
      intro h
      have h1 := (h a (List.mem_cons_self ..)).1.1
      exact Nat.mul_pos (Nat.pow_pos (by omega)) (ih fun x hx => h x (List.mem_cons_of_mem _ hx))
  obtain ⟨s1, s2, _⟩ := outN_spec hr.1.1 (pos h)
  have nt : ¬ r.1 ∣ rp t := fun z => by
    have := dvd_rp hr.1 (fun x hx => (h x (List.mem_cons_of_mem _ hx)).1) z
    obtain ⟨x, hx, e⟩ := List.mem_map.mp this
    have := (List.pairwise_cons.mp ha).1 x hx
    omega
  refine ⟨part_uniq hr.1 _ r.2 _ _ (by rw [← s1, rp, Nat.mul_comm]) s2 nt, ?_⟩
  exact Nat.mod_eq_zero_of_dvd (rp_dvd (List.mem_cons_self ..) hr.2)
theorem parts_rp {told : List Nat} : ∀ {rs : List Row}, (∀ x ∈ rs, Prm x.1 ∧ 1 ≤ x.2) → rs.Pairwise (fun a b => a.1 < b.1) → (∀ x ∈ rs, fokB told x.1 = true) → partsF told (rs.map (·.1)) (rp rs) = some 1
  | [], _, _, _ => rfl
  | r :: t, h, ha, hf => by
    obtain ⟨o1, o2⟩ := out_rp h ha
    rw [List.map_cons, partsF, if_pos ⟨o2, hf r (List.mem_cons_self ..)⟩, o1]
    exact parts_rp (fun x hx => h x (List.mem_cons_of_mem _ hx)) (List.pairwise_cons.mp ha).2 fun x hx => hf x (List.mem_cons_of_mem _ hx)
theorem parts_qs {told : List Nat} {n : Nat} (h0 : 0 < n) (hn : n ≤ 1000000000000) (hf : ∀ q ∈ qs n, fokB told q = true) : partsF told (qs n) n = some 1 := by
  obtain ⟨⟨f1, f2, f3⟩, _⟩ := pf_ok h0 hn
  have := parts_rp (told := told) f2 f3 fun x hx => hf x.1 (List.mem_map.mpr ⟨x, hx, rfl⟩)
  rw [← f1] at this
  exact this
theorem fok_of {told : List Nat} {q : Nat} (hp : Prm q) (h : 1000 ≤ q → q ∈ told) : fokB told q = true := by
  unfold fokB
  by_cases c : q < 1000
  · rw [litB_t.mpr ⟨c, hp⟩]; rfl
  · rw [decide_eq_true (h (by omega)), Bool.or_true]
theorem no1000 : ¬ Prm 1000 := fun h => by
  rcases h.2 2 (by decide) with e | e <;> omega
section
variable {n : Nat}
theorem big_ok (hp : Prm n) (hn : n ≤ 1000000000000) {p : Nat} (h : p ∈ big n) : Prm p ∧ 1000 < p ∧ p ≤ n := by
  obtain ⟨a, b, c⟩ := ((big_mem hp hn).mp h).ok hp hn
  have : p ≠ 1000 := fun z => no1000 (by rw [← z]; exact a)
  exact ⟨a, by omega, b⟩
theorem wit_big {p : Nat} (h : Prm p) (h1 : 1000 < p) (hn : p ≤ 1000000000000) : (2 ≤ wit p (qs (p - 1)) ∧ wit p (qs (p - 1)) < p ∧ Wit p (qs (p - 1)) (wit p (qs (p - 1))) ∧ ∀ j, 2 ≤ j → j < wit p (qs (p - 1)) → ¬ Wit p (qs (p - 1)) j) ∧ wit p (qs (p - 1)) + 10 ≤ p := by
  have y1 : 0 < p - 1 := by omega
  have yn : p - 1 ≤ 1000000000000 := by omega
  have nd := qs_nd y1 yn
  have qq : ∀ q ∈ qs (p - 1), Prm q ∧ q ∣ p - 1 := fun q hq => (qs_mem y1 yn).mp hq
  have m2 : 2 ∈ qs (p - 1) := (qs_mem y1 yn).mpr ⟨prm2, odd_prm h (by omega)⟩
  exact ⟨wit_ok h (by omega) nd qq (List.ne_nil_of_mem m2), wit_far h h1 nd qq m2 fun q a b => (qs_mem y1 yn).mpr ⟨a, b⟩⟩
theorem fine_row {p : Nat} (h : Prm p) (h1 : 1000 < p) (hn : p ≤ 1000000000000) : (rowP p).Fine := by
  have w := (wit_big h h1 hn).1
  refine ⟨by show 1 ≤ p; omega, by show p ≤ _; omega, by show wit p (qs (p - 1)) ≤ _; omega, fun f hf => ?_, by show (qs (p - 1)).length ≤ _; have := qs_len (n := p - 1) (by omega) (by omega); omega⟩
  have hf : f ∈ qs (p - 1) := hf
  have := (qs_mem (n := p - 1) (by omega) (by omega)).mp hf
  have := Nat.le_of_dvd (by omega) this.2
  exact ⟨((qs_mem (n := p - 1) (by omega) (by omega)).mp hf).1.1, by omega⟩
theorem row_good (hp : Prm n) (hn : n ≤ 1000000000000) {p : Nat} (h : p ∈ big n) : partsF (big n) (qs (p - 1)) (p - 1) = some 1 ∧ witB p (wit p (qs (p - 1))) (qs (p - 1)) = true := by
  obtain ⟨a, b, c⟩ := big_ok hp hn h
  obtain ⟨w, _⟩ := wit_big a b (by omega)
  refine ⟨parts_qs (by omega) (by omega) fun q hq => fok_of ((qs_mem (n := p - 1) (by omega) (by omega)).mp hq).1 fun h1 => ?_, (witB_iff (fermat a (no_dvd (by omega) w.2.1))).mpr w.2.2.1⟩
  exact (big_mem hp hn).mpr (.step ((big_mem hp hn).mp h) hq h1)
theorem big_nd : (big n).Nodup := (big_desc n).imp fun h e => by omega
theorem holds_big (hp : Prm n) (hn : n ≤ 1000000000000) : holdsB n (bigR n) = true := by
  unfold holdsB
  rw [bigR_p, decide_eq_true big_nd, fok_of hp fun h => (big_mem hp hn).mpr (.base h), Bool.true_and, Bool.true_and, List.all_eq_true]
  intro r hr
  obtain ⟨p, hm, rfl⟩ := List.mem_map.mp hr
  obtain ⟨a, b, c⟩ := big_ok hp hn hm
  obtain ⟨g1, g2⟩ := row_good hp hn hm
  obtain ⟨w, _⟩ := wit_big a b (by omega)
  unfold rowB
  show (decide (1000 < p) && (partsF (big n) (qs (p - 1)) (p - 1) == some 1) && decide (1 < wit p (qs (p - 1)) ∧ wit p (qs (p - 1)) < p) && witB p (wit p (qs (p - 1))) (qs (p - 1))) = true
  rw [g1, g2, decide_eq_true b, decide_eq_true (p := 1 < wit p (qs (p - 1)) ∧ wit p (qs (p - 1)) < p) ⟨by omega, w.2.1⟩]
  rfl
theorem fine_big (hp : Prm n) (hn : n ≤ 1000000000000) : ∀ r ∈ bigR n, r.Fine := fun r hr => by
  obtain ⟨p, hm, rfl⟩ := List.mem_map.mp hr
  obtain ⟨a, b, c⟩ := big_ok hp hn hm
  exact fine_row a b (by omega)
/-- how many there are -/
theorem big_len (hp : Prm n) (hn : n ≤ 1000000000000) : (big n).length ≤ 40 := by
  -- by halves: the product argument, told by a walk that reaches them all
  obtain ⟨ks, I⟩ : ∃ ks, PI n ks [] := by
    have go : ∀ (m : Nat) (ks ls : List Nat), prod ls ≤ m → PI n ks ls → ∃ ks, PI n ks [] := by
      intro m
      induction m with
      | zero =>
        intro ks ls hm I
        have := prod_pos (l := ls) fun x hx => by have := (I.pr x hx).1.1; omega
        omega
      | succ m ih =>
        intro ks ls hm I
        by_cases hne : ls = []
        · subst hne; exact ⟨ks, I⟩
        · obtain ⟨init, y, rfl⟩ : ∃ init y, ls = init ++ [y] := ⟨ls.dropLast, ls.getLast hne, (List.dropLast_concat_getLast hne).symm⟩
          by_cases c : y < 1000 ∨ y ∈ ks
          · obtain ⟨D1, D2⟩ := I.drop c
            exact ih _ _ (by omega) D1
          · obtain ⟨D1, D2⟩ := I.more hn (by omega) (fun z => c (.inr z))
            exact ih _ _ (by omega) D1
    exact go n [] [n] (by simp [prod]) (PI.start hp)
  rw [(I.fin hp hn).length_eq]
  exact (I.lens hn).2
/-- a row cut holds no more -/
theorem parts_even {told : List Nat} : ∀ {l : List Nat} {m k : Nat}, 0 < m → (∀ f ∈ l, Prm f ∧ f ≠ 2) → 2 ∣ m → partsF told l m = some k → 2 ∣ k
  | [], m, k, _, _, h, e => by
    have : m = k := Option.some.inj e
    rw [← this]; exact h
  | f :: r, m, k, m0, hf, h, e => by
    rw [partsF] at e
    split at e
    · rename_i c
      have F := hf f (List.mem_cons_self ..)
      obtain ⟨s1, s2, _⟩ := outN_spec F.1.1 m0
      have lo : 0 < (outN m f).1 := Nat.pos_of_ne_zero fun z => by rw [z, Nat.zero_mul] at s1; omega
      refine parts_even lo (fun x hx => hf x (List.mem_cons_of_mem _ hx)) ?_ e
      rw [s1] at h
      rcases prm2.mul h with z | z
      · exact z
      · have := prm2.pow z
        rcases F.1.2 2 this with w | w
        · omega
        · exact absurd w.symm F.2
    · cases e
theorem cut_row {told : List Nat} {p : Nat} (h : Prm p) (h1 : 1000 < p) (hn : p ≤ 1000000000000) : partsF told ((qs (p - 1)).tail) (p - 1) ≠ some 1 := fun e => by
  have y1 : 0 < p - 1 := by omega
  have yn : p - 1 ≤ 1000000000000 := by omega
  have m2 : 2 ∈ qs (p - 1) := (qs_mem y1 yn).mpr ⟨prm2, odd_prm h (by omega)⟩
  have asc := qs_asc y1 yn
  have qq : ∀ q ∈ qs (p - 1), Prm q := fun q hq => ((qs_mem y1 yn).mp hq).1
  have : 2 ∣ 1 := by
    refine parts_even y1 (fun f hf => ?_) (odd_prm h (by omega)) e
    generalize qs (p - 1) = l at *
    cases l with
    | nil => cases hf
    | cons a t =>
      have ha := List.pairwise_cons.mp asc
      have hf : f ∈ t := hf
      refine ⟨qq f (List.mem_cons_of_mem _ hf), ?_⟩
      have := ha.1 f hf
      have := (qq a (List.mem_cons_self ..)).1
      omega
  omega
end
/-! ### the next prime -/
theorem prm_m : Prm 1000003 := prm_root (w := 1000) (by decide) (by decide) (by
  have : (List.range 1001).all (fun d => decide (d < 2) || decide (1000003 % d ≠ 0)) = true := by decide +kernel
  intro d h1 h2 h3
  have := List.all_eq_true.mp this d (List.mem_range.mpr (by omega))
  simp at this
  omega)
theorem next_prime {n : Nat} (h : n ≤ 1000003) : ∃ q, Prm q ∧ n ≤ q ∧ q ≤ 1000003 ∧ ∀ j, n ≤ j → j < q → ¬ Prm j := by
  classical
  obtain ⟨k, h1, h2, h3, h4⟩ := least (W := Prm) h prm_m
  exact ⟨k, h3, h1, h2, h4⟩
end Law
end

section
set_option Elab.async false
set_option linter.all false
set_option maxRecDepth 100000
set_option maxHeartbeats 4000000
set_option autoImplicit false
namespace Law
open PySem PySem.Spec PyProof.Rows L2 Py Pm
/-! ### no odd divisor of a great number among 2^L ones from d on -/
noncomputable def rngR (n : Nat) (L : Nat) : Nat → Bool := Nat.rec (motive := fun _ => Nat → Bool) (fun d => Bool.rec true false (Nat.beq (Nat.mod n d) (nat_lit 0))) (fun L ih d => Bool.rec false (ih (Nat.add d (Nat.pow (nat_lit 2) (Nat.succ L)))) (ih d)) L
theorem brec {a b : Bool} (h : (Bool.rec false b a : Bool) = true) : a = true ∧ b = true := by
  cases a with
  | false => cases h
  | true => exact ⟨rfl, h⟩
theorem rngR_ok {n : Nat} : ∀ {L d : Nat}, rngR n L d = true → ∀ i, i < 2 ^ L → n % (d + 2 * i) ≠ 0
  | 0, d, h, i, hi => by
    have i0 : i = 0 := by simpa using hi
    subst i0
    intro z
    rw [Nat.mul_zero, Nat.add_zero] at z
    have h : (Bool.rec true false (Nat.beq (n % d) 0) : Bool) = true := h
    rw [z] at h
    cases h
  | L + 1, d, h, i, hi => by
    obtain ⟨a, b⟩ := brec (show (Bool.rec false (rngR n L (d + 2 ^ (L + 1))) (rngR n L d) : Bool) = true from h)
    by_cases q : i < 2 ^ L
    · exact rngR_ok a i q
    · have e := Nat.pow_succ 2 L
      have := rngR_ok b (i - 2 ^ L) (by omega)
      rw [show d + 2 ^ (L + 1) + 2 * (i - 2 ^ L) = d + 2 * i by omega] at this
      exact this
/-! ### two great primes -/
theorem prm_odd {n : Nat} (h2 : n % 2 = 1) (h3 : 2 ≤ n) (hn : n < 32771 * 32771) (h : rngR n 14 3 = true) : Prm n := by
  refine prm_root (w := 32770) h3 (by omega) fun d d1 d2 e => ?_
  by_cases ev : d % 2 = 0
  · have : 2 ∣ n := Nat.dvd_trans (Nat.dvd_of_mod_eq_zero ev) (Nat.dvd_of_mod_eq_zero e)
    omega
  · refine rngR_ok h ((d - 3) / 2) ?_ ?_
    · have : (2 : Nat) ^ 14 = 16384 := by decide
      omega
    · rw [show 3 + 2 * ((d - 3) / 2) = d by omega]
      exact e
theorem big_a : Prm 998244353 := prm_odd (by decide) (by decide) (by decide) (by decide +kernel)
theorem big_b : Prm 1000000007 := prm_odd (by decide) (by decide) (by decide) (by decide +kernel)
theorem not_c : ¬ Prm 1010009 := fun h => by
  rcases h.2 1001 ⟨1009, rfl⟩ with e | e <;> omega
theorem prm_997 : Prm 997 := prm_root (w := 31) (by decide) (by decide) (by
  have : (List.range 32).all (fun d => decide (d < 2) || decide (997 % d ≠ 0)) = true := by decide +kernel
  intro d h1 h2 h3
  have := List.all_eq_true.mp this d (List.mem_range.mpr (by omega))
  simp at this
  omega)
theorem big_997 : big 997 = [] := by
  cases h : big 997 with
  | nil => rfl
  | cons a t =>
    have := ((big_mem prm_997 (by decide)).mp (by rw [h]; exact List.mem_cons_self ..)).ok prm_997 (by decide) (p := a)
    omega
end Law
end

section
set_option Elab.async false
set_option linter.all false
set_option maxRecDepth 100000
set_option maxHeartbeats 4000000
set_option autoImplicit false
set_option exponentiation.threshold 100
namespace Py
open PySem PySem.Spec PyProof.Rows L2
/-! ### the end: a law's promise -/
def spLaw (K : Frg) (T : List (Addr × Str)) : Sp := fun vs H Q _ => ∃ (a : Addr) (ns : List Int), vs = [.ref a] ∧ SqL K H a (ns.map V.int) ∧ ns.length ≤ 63 ∧ (∀ z ∈ ns, Sz 1048576 z) ∧ LamX.Tabs T H ∧ ∀ H', Q (.bl true) H'
theorem sz_bits {z : Int} (h : Builtin.Int.intBits z ≤ 1048576) : Sz 1048576 z := by
  unfold Builtin.Int.intBits at h
  unfold Sz
  by_cases e : z = 0
  · subst e
    exact Nat.pow_pos (by decide)
  · have e' : (z == 0) = false := by simpa using e
    rw [e', if_neg (by decide)] at h
    have : z.natAbs < 2 ^ (z.natAbs.log2 + 1) := Nat.lt_log2_self
    exact Nat.lt_of_lt_of_le this (Nat.pow_le_pow_right (by decide) h)
def tfOf (fs : List Str) : List He.Defn := fs.map fun f => (f, none)
theorem walk_mine {l : PySem.W.OpenLaw} {k : Nat} {q : Program} {loose : List Str} {XP : (Str → Option Value) → Heap → Prop} {d : DefRec} {x nm : Str} {N : Nat} {fa : List He.Fa} {fn : List He.DefD} {fs : List Str} {ex : PySem.W.Frag → Bool} {st : Stmt}
    (hn : l.most = some 63) (hdf : d.params.defaults = []) (hr : Room k callerA) (hd : d.name = nm) (hl : He.Fa.glo nm ∈ fa) (hdef : (⟨(nm, none), nm, nm, defArgs st, defBody st, defScope st, [], []⟩ : He.DefD) ∈ fn)
    (hb : ∀ (kV doc pm : Value) (an : Option Addr) (cdv ct : Value) (us : List Value), us.length = 1 → bindArgs (PySem.W.fnOf nm nm (defArgs st) (defBody st) (defScope st) .none kV doc pm an cdv ct) ⟨us, []⟩ = pure ([x].zip us))
    (nd : ∀ K, ex K = true → (fs.map fun f => (He.cT K (f, none)).2).Nodup)
    (F : ∀ (w : World) (K : Frg) (mg : Str → Option Value) (base : Heap), K.In base → base.Ns mainGlobals mg → He.SaysD fa fn K → ex K = true → (∀ f ∈ fs, LamB K base mg (tabL K fs) f) →
      ∀ fd, FunD K nm nm (defArgs st) (defBody st) (defScope st) [] [] (He.ga K nm) fd → FnOk l.prog w K mg base (L2.CX l.prog w) k (He.ga K nm) fd [x] (spLaw K (tabL K fs))) :
    PySem.W.WalkO q loose XP (He.hookX N fa fn [] (tfOf fs) ex).says l.row.toRowW d [] (fun f vs => PySem.call f vs) := by
  refine LamX.walk_ofTsE (n := 63) (k := k) (CX := fun w => L2.CX l.prog w) (x := x) hn (by decide) hdf hr (fun w mg f h Y G hmg => ?_) ?_
  · obtain ⟨K, KX, c⟩ := Y
    have cd : He.SaysD fa fn K := congrArg (fun z : He.AlT => z.1) c.t
    obtain ⟨fd, FD⟩ := cd.defs hdef
    have e := hmg.symm.trans ((congrArg mg hd).trans (He.glo_ok KX G (cd.facts hl)))
    cases e
    refine ⟨K, KX, fd, (tfOf fs).map (He.cT K), spLaw K (tabL K fs), fun p hp => ?_, fun p hp => ?_, fun p hp => ?_, fun s u => ?_, fun H a ns h1 h2 h3 h4 => ?_, fun base hB nB hT => ?_⟩
    · obtain ⟨p2, hp2, rfl⟩ := List.mem_map.mp hp
      exact c.empty p2 hp2
    · obtain ⟨p2, hp2, rfl⟩ := List.mem_map.mp hp
      exact c.out p2 hp2
    · obtain ⟨p2, hp2, rfl⟩ := List.mem_map.mp hp
      exact PySem.W.codeHd_of_K KX (c.hd p2 hp2)
    · have b := FunD.bindsA (ps := [x]) FD hb
      exact b s [u] rfl
    · refine ⟨a, ns, rfl, h4, h1, fun z hz => sz_bits (h2 z hz), fun p hp => ?_, fun _ => rfl⟩
      obtain ⟨f, hf, rfl⟩ := List.mem_map.mp hp
      exact LamX.TabS.nil (h3 (He.cT K (f, none)) (List.mem_map.mpr ⟨(f, none), List.mem_map.mpr ⟨f, hf, rfl⟩, rfl⟩))
    · exact F w K mg base hB nB cd c.more (fun f hf => ⟨hT _ (List.mem_map.mpr ⟨(f, none), List.mem_map.mpr ⟨f, hf, rfl⟩, rfl⟩), tabL_mem hf, tabL_one (nd K c.more) hf⟩) fd FD
  · rintro w H s e s' ⟨a, B, H', cls, d', _, _, _, _, _, _, _, z⟩
    exact z
end Py
end

section
set_option Elab.async false
set_option linter.all false
set_option maxRecDepth 100000
set_option maxHeartbeats 4000000
set_option autoImplicit false
set_option exponentiation.threshold 300
namespace Law
open PySem PySem.Spec PyProof.Rows L2 Py Mt Pm

local macro_rules | `(tactic| wtm_at "op") => `(tactic| first
  | with_reducible exact o_I0 | with_reducible exact o_add | with_reducible exact o_eqI | with_reducible exact o_neI
  | ((with_reducible apply o_mul); first | assumption | wtm_at "si")
  | ((with_reducible apply o_I); first | assumption | wtm_at "si")
  | ((with_reducible apply o_ixT); rfl) | ((with_reducible apply o_ixL); rfl)
  | ((with_reducible apply o_eqD) <;> first | rfl | decide | assumption) | ((with_reducible apply o_neD) <;> first | rfl | decide | assumption)
  | with_reducible assumption)
local macro_rules | `(tactic| wtm_at "si") => `(tactic| first | decide | exact ⟨by decide, by decide +kernel⟩ | omega)
local macro_rules | `(tactic| wtm_at "ev") => `(tactic| first
  | ((with_reducible apply e_var); rfl) | with_reducible exact e_c | with_reducible exact a_nil
  | ((with_reducible apply a_cons) <;> wtm_at "ev")
  | ((with_reducible apply e_bin) <;> first | wtm_at "ev" | wtm_at "op")
  | ((with_reducible apply e_ixO) <;> first | rfl | wtm_at "ev")
  | ((with_reducible apply e_U) <;> wtm_at "ev")
  | ((with_reducible apply t_test) <;> wtm_at "ev")
  | ((with_reducible apply t_B) <;> wtm_at "ev")
  | ((with_reducible apply t_not) <;> wtm_at "ev")
  | ((with_reducible apply e_tup) <;> first | wtm_at "ev" | exact Nat.le_of_ble_eq_true rfl)
  | ((with_reducible apply e_lst) <;> first | wtm_at "ev" | exact Nat.le_of_ble_eq_true rfl)
  | ((with_reducible apply e_gcd) <;> wtm_at "ev")
  | ((with_reducible apply e_abs) <;> wtm_at "ev")
  | ((with_reducible apply e_max2) <;> wtm_at "ev")
  | ((with_reducible apply e_int) <;> wtm_at "ev")
  | ((with_reducible apply e_intB) <;> wtm_at "ev")
  | ((with_reducible apply e_bits) <;> wtm_at "ev")
  | ((with_reducible apply e_not) <;> wtm_at "ev")
  | with_reducible assumption)

/-- keys among the factors are primes -/
def PrK (ks l : List Nat) : Prop := ∀ f ∈ l, f ∈ ks → Prm f
/-- the looks at a proof -/
def sp_check (K : Frg) : List Dt → Rs → Prop := fun ds r => ∃ (n : Nat) (rows : List RP), ds = [dN n, .tup (rows.map RP.d)] ∧ n ≤ 1000000000002 ∧ rows.length ≤ 60 ∧ (∀ r ∈ rows, r.Fine ∧ 1 ≤ r.w ∧ r.w < r.p ∧ PrK (rows.map (·.p)) r.l) ∧ r = if holdsB n rows = true then .ok dn else .err (NE K)
/-- a dict with these keys -/
def KeysN (kvs : KD) (ks : List Nat) : Prop := kvs.map (·.1) = ks.map fun (x : Nat) => (Sum.inl (x : Int) : Key)
def sp_parts : List Dt → Rs → Prop := fun ds r => ∃ (n : Nat) (l : List Nat) (kvs : KD) (ks : List Nat), ds = [dN n, .tup (l.map dN), dD kvs] ∧ KeysN kvs ks ∧ 0 < n ∧ n ≤ 1000000000002 ∧ l.length ≤ 1000 ∧ (∀ f ∈ l, 2 ≤ f ∧ f ≤ 1000000000002) ∧ PrK ks l ∧ r = .ok (db (partsF ks l n == some 1))
def sp_rowh : List Dt → Rs → Prop := fun ds r => ∃ (p w : Nat) (l : List Nat) (kvs : KD) (ks : List Nat), ds = [dN p, dN w, .tup (l.map dN), dD kvs] ∧ KeysN kvs ks ∧ 1000 < p ∧ p ≤ 1000000000002 ∧ w ≤ 1000000000002 ∧ l.length ≤ 1000 ∧ (∀ f ∈ l, 2 ≤ f ∧ f ≤ 1000000000002) ∧ PrK ks l ∧ r = .ok (db ((partsF ks l (p - 1) == some 1) && witB p w l))
theorem kv_keys (ks : List Nat) : KeysN (kv ks) ks := by unfold KeysN kv; rw [List.map_map]; rfl
abbrev s__law_told : Stmt := top 24
theorem sc__law_told : FnScope ["what"] ["what"] (defScope s__law_told) := ⟨rfl, rfl, rfl, by decide +kernel, rfl, by decide +kernel, by decide +kernel⟩
abbrev s_law : Stmt := top 28
abbrev NL : List Str := ["script", "dice", "number", "prime", "found", "rows", "one", "told_now", "factors", "least", "k", "factor", "spot", "bent", "row", "whole", "less", "table", "big"]
theorem sc_law : FnScope NL ["script"] (defScope s_law) := ⟨rfl, rfl, rfl, by decide +kernel, rfl, by decide +kernel, by decide +kernel⟩
/-- the body of a def's first loop -/
def bodyF : Stmt → List Stmt
  | .For _ _ b _ _ => b
  | _ => []
structure GS (P : Program) (w : World) (K : Frg) (T : List (Addr × Str)) (mg : Str → Option Value) (base : Heap) : Prop where
  G_is_little_prime : Gd P w K mg base "is_little_prime" ["number"] 1 (spD K T sp_little)
  G_prime_proof : Gd P w K mg base "prime_proof" ["number"] 6 (spD K T (sp_proof K))
  G_witness : Gd P w K mg base "witness" ["prime", "factors"] 5 (spD K T sp_wit)
  G_check_proof : Gd P w K mg base "check_proof" ["number", "rows"] 8 (spD K T (sp_check K))
  G_row_holds : Gd P w K mg base "row_holds" ["prime", "one", "factors", "told"] 6 (spD K T sp_rowh)
  G__law_prime : Gd P w K mg base "_law_prime" ["number"] 1 (spD K T sp_lprime)
  G__law_power : Gd P w K mg base "_law_power" ["number", "exponent", "base"] 1 (spD K T sp_lpow)
  G__law_holds : Gd P w K mg base "_law_holds" ["number", "rows"] 2 (spD K T sp_holds)
  G__law_roll : Gd P w K mg base "_law_roll" ["dice", "many"] 1 (spRoll K T)
  G__law_rounds : Gd P w K mg base "_law_rounds" ["script", "most"] 2 (spRounds K T)
  F_told : ∃ fd, FunD K "_law_told" "_law_told" (defArgs s__law_told) (defBody s__law_told) (defScope s__law_told) [] [] (He.ga K "_law_told") fd
  hm_told : mg "_law_told" = some (.ref (He.ga K "_law_told"))
theorem told_body : ∃ p1 p2 p3 p4 p5 p6 p7 p8 j, defBody s__law_told = [.Try [.Return (some (.Call (.Name "what" p1) [] [] p2)) p3] [.ExceptHandler (some (.Name "NumberError" p4)) none [.Return (some (.Constant (.str "NumberError") j p5)) p6] p7] [] [] p8] := ⟨_, _, _, _, _, _, _, _, _, rfl⟩
theorem told_look : (defScope s__law_told).names.lookup ("NumberError" : Str) = some .globalImplicit := by decide +kernel
theorem told_bind : ∀ (kV doc pm : Value) (an : Option Addr) (cdv ct : Value) (us : List Value), us.length = 1 → bindArgs (PySem.W.fnOf "_law_told" "_law_told" (defArgs s__law_told) (defBody s__law_told) (defScope s__law_told) .none kV doc pm an cdv ct) ⟨us, []⟩ = pure ((["what"] : List Str).zip us) := fun _ _ _ _ _ _ us hl => match us, hl with | [_], _ => rfl
theorem told_vis : Vis (defScope s__law_told) "what" := Or.inl rfl
theorem pe_toldN {X : Cx} {T : List (Addr × Str)} {CS : Addr} {f : Str} {k : Nat} {params : Arguments} {body : Expr} {scope : Scope} {t : XK → TE} {p lpos pos : Pos}
    (F : ∃ fd, FunD X.K "_law_told" "_law_told" (defArgs s__law_told) (defBody s__law_told) (defScope s__law_told) [] [] (He.ga X.K "_law_told") fd) (hm : X.mg "_law_told" = some (.ref (He.ga X.K "_law_told"))) (hme : X.mg "NumberError" = some (.ref CS))
    (LB : LamB X.K X.base X.mg T f) (hq : X.env.qual ++ "<lambda>" = lamQ f) (hcode : X.env.code = .ref (He.cT X.K (f, none)).1) (hr : Room (k + 2) X.A) (L : LamX.LamS X.env.scope scope) (hdef : defaultsOf params X.env = ([], []))
    (hbind : ∀ (q : Str) (cl : List (Str × Addr)) (pm cv ctv : Value), bindArgs (PySem.W.kla_fn "<lambda>" q params body scope cl pm cv ctv) ⟨[], []⟩ = pure [])
    (hbody : ∀ (A : Around) (outer : List Env) (s : Shared) (H : Hp) (E : XK) (f c' : Addr), Room k (A.deeper (LamX.lamEnv X scope s.heap.objs.size f c')) → PE (LamX.lamCx X A outer s H E scope f c') body (t E)) (hg : Gl X "_law_told" := by rfl) :
    PE X (.Call (.Name "_law_told" p) [.Lambda params body scope lpos] [] pos) (LamX.tLam T (LamX.TTold X.K CS "NumberError") t) := by
  obtain ⟨p1, p2, p3, p4, p5, p6, p7, p8, j, e⟩ := told_body
  exact pe_told F hm e sc__law_told told_vis told_look (by decide) hme told_bind LB hq hcode hr L hdef hbind hbody hg
theorem pe_toldW {X : Cx} {CS : Addr} {k i : Nat} {y q : Str} {LT : List LamD} {p p9 pos : Pos}
    (F : ∃ fd, FunD X.K "_law_told" "_law_told" (defArgs s__law_told) (defBody s__law_told) (defScope s__law_told) [] [] (He.ga X.K "_law_told") fd) (hm : X.mg "_law_told" = some (.ref (He.ga X.K "_law_told"))) (hme : X.mg "NumberError" = some (.ref CS))
    (hq : X.env.qual ++ "<lambda>" = q) (hr : Room (k + 2) X.A) (ok : ∀ l ∈ LT, LamOk X k l) (hv : PE X (.Name y p9) (tVar i)) (hg : Gl X "_law_told" := by rfl) :
    PE X (.Call (.Name "_law_told" p) [.Name y p9] [] pos) (tToldV X.K q i CS "NumberError" LT) := by
  obtain ⟨p1, p2, p3, p4, p5, p6, p7, p8, j, e⟩ := told_body
  exact pe_toldV F hm e sc__law_told told_vis told_look (by decide) hme told_bind hq hr ok hv hg
/-- the loop's body -/
abbrev LBd : List Stmt := bodyF ((defBody s_law).getD 0 (.Pass ⟨0, 0, 0, 0⟩))
/-- where the law's body is read -/
abbrev XL (P : Program) (w : World) (K : Frg) (mg : Str → Option Value) (base : Heap) (A0 : Around) (outer : List Env) (s0 : Shared) (H0 : Hp) (E : XK) : Cx := cxOf (L2.CX P w) P w K mg base NL "law" (defScope s_law) (He.ga K "law") (.ref (He.cT K ("law", none)).1) A0 outer s0 H0 E
/-- a turn's end: the script is still there, and lists only -/
structure IL (S0 : SD) (A : AS) : Prop where
  ln : A.sl.length = 19
  h0 : A.sl[0]? = some S0
  st : ∀ s ∈ A.st, ∃ xs, s = .lst xs
def PF (S0 : SD) : Po := { nx := IL S0, ct := IL S0, bk := IL S0 }
/-- and the dice -/
structure IA (S0 : SD) (A : AS) (d : Dice) (c : Nat) : Prop where
  ln : A.sl.length = 19
  h0 : A.sl[0]? = some S0
  h1 : A.sl[1]? = some (.own 0)
  st : A.st = [.lst d.ds]
  dk : DOk c d
theorem exL : ∀ l : List SD, l.length = 19 → ∃ v0 v1 v2 v3 v4 v5 v6 v7 v8 v9 v10 v11 v12 v13 v14 v15 v16 v17 v18, l = [v0, v1, v2, v3, v4, v5, v6, v7, v8, v9, v10, v11, v12, v13, v14, v15, v16, v17, v18]
  | [v0, v1, v2, v3, v4, v5, v6, v7, v8, v9, v10, v11, v12, v13, v14, v15, v16, v17, v18], _ => ⟨v0, v1, v2, v3, v4, v5, v6, v7, v8, v9, v10, v11, v12, v13, v14, v15, v16, v17, v18, rfl⟩
theorem lst1 {xs : List Dt} : ∀ s ∈ [OD.lst xs], ∃ ys, s = .lst ys := fun s h => by
  obtain rfl := List.mem_singleton.mp h
  exact ⟨_, rfl⟩
def Inv0 (S0 : SD) (A : AS) : Prop := ∃ d, IA S0 A d 0
def InvR (S0 : SD) (A : AS) : Prop := ∃ (d : Dice) (m : Nat), IA S0 A d 4 ∧ A.sl[3]? = some (.d (dN m)) ∧ A.sl[5]? = some (.d (.tup ((big m).map rowD))) ∧ Prm m ∧ m ≤ 1000003
theorem sz20 {m : Int} (h : m.natAbs < 2 ^ 20) : Sz 8000 m := Nat.lt_of_lt_of_le h (Nat.pow_le_pow_right (by decide) (by decide))
theorem t_orS {C : Ct} {t u : TT} {A : AS} {b : Bool} (h1 : EvT C t A false A) (h2 : EvT C u A b A) : EvT C (tOr t u) A b A := t_orF h1 h2
theorem o_isNone {C : Ct} {x : Dt} {b : Bool} (h : (x = dn ∧ b = true) ∨ (∃ ys, x = .tup ys) ∧ b = false) : OpS C (fun x y H Q => y = .non ∧ Q (.bl (decide (x = .non))) H) x dn (db b) := fun os A σ H vx vy k i1 i2 Q q => by
  refine ⟨Is.v_iff.mp i2, ?_⟩
  rcases h with ⟨rfl, rfl⟩ | ⟨⟨ys, rfl⟩, rfl⟩
  · rw [Is.v_iff.mp i1, decide_eq_true rfl]
    exact q _ H (Ex.refl _) k.tb is_v
  · rw [Is] at i1
    obtain ⟨a, vs, rfl, _⟩ := i1
    rw [decide_eq_false (by simp)]
    exact q _ H (Ex.refl _) k.tb is_v
end Law
end

section
set_option Elab.async false
set_option linter.all false
set_option maxRecDepth 100000
set_option maxHeartbeats 4000000
set_option autoImplicit false
set_option exponentiation.threshold 300
namespace Law
open PySem PySem.Spec PyProof.Rows L2 Py Mt Pm

local macro_rules | `(tactic| wtm_at "op") => `(tactic| first
  | with_reducible exact o_I0 | with_reducible exact o_add | with_reducible exact o_eqI | with_reducible exact o_neI
  | ((with_reducible apply o_mul); first | assumption | wtm_at "si")
  | ((with_reducible apply o_I); first | assumption | wtm_at "si")
  | ((with_reducible apply o_ixT); rfl) | ((with_reducible apply o_ixL); rfl)
  | ((with_reducible apply o_eqD) <;> first | rfl | decide | assumption) | ((with_reducible apply o_neD) <;> first | rfl | decide | assumption)
  | with_reducible assumption)
local macro_rules | `(tactic| wtm_at "si") => `(tactic| first | decide | exact ⟨by decide, by decide +kernel⟩ | omega)
local macro_rules | `(tactic| wtm_at "ev") => `(tactic| first
  | ((with_reducible apply e_var); rfl) | with_reducible exact e_c | with_reducible exact a_nil
  | ((with_reducible apply a_cons) <;> wtm_at "ev")
  | ((with_reducible apply e_bin) <;> first | wtm_at "ev" | wtm_at "op")
  | ((with_reducible apply e_ixO) <;> first | rfl | wtm_at "ev")
  | ((with_reducible apply e_U) <;> wtm_at "ev")
  | ((with_reducible apply t_test) <;> wtm_at "ev")
  | ((with_reducible apply t_B) <;> wtm_at "ev")
  | ((with_reducible apply t_not) <;> wtm_at "ev")
  | ((with_reducible apply e_tup) <;> first | wtm_at "ev" | exact Nat.le_of_ble_eq_true rfl)
  | ((with_reducible apply e_lst) <;> first | wtm_at "ev" | exact Nat.le_of_ble_eq_true rfl)
  | ((with_reducible apply e_gcd) <;> wtm_at "ev")
  | ((with_reducible apply e_abs) <;> wtm_at "ev")
  | ((with_reducible apply e_max2) <;> wtm_at "ev")
  | ((with_reducible apply e_int) <;> wtm_at "ev")
  | ((with_reducible apply e_intB) <;> wtm_at "ev")
  | ((with_reducible apply e_bits) <;> wtm_at "ev")
  | ((with_reducible apply e_not) <;> wtm_at "ev")
  | with_reducible assumption)

variable {P : Program} {w : World} {K : Frg} {T : List (Addr × Str)} {mg : Str → Option Value} {base : Heap} {A0 : Around} {outer : List Env} {s0 : Shared} {H0 : Hp} {E : XK}

theorem nice_NE : PyData.strOk (Str.ofString "NumberError") = true := by decide +kernel
noncomputable def pyRow (p : Nat) : PyData := .tuple [.int (p : Int), .int (wit p (qs (p - 1)) : Nat), .tuple ((qs (p - 1)).map fun (q : Nat) => .int (q : Int))]
theorem nice_rowD (p : Nat) : Nice 2 (rowD p) (pyRow p) := .tup (.cons .int (.cons .int (.cons (.tup (niceA_map (fun _ => .int) _)) .nil)))
theorem nice_rows (l : List Nat) : NiceA 2 (l.map rowD) (l.map pyRow) := niceA_map nice_rowD l

theorem segA (Z : GS P w K T mg base) (Tx : Txt K mg) (LB : LamB K base mg T "law") (hr : Room 20 (XL P w K mg base A0 outer s0 H0 E).A)
    (next : ∃ t, PSs (XL P w K mg base A0 outer s0 H0 E) (LBd.drop 6) t ∧ ∀ S0 O A, InvR S0 A → RunS ⟨K, T, H0, O⟩ E t A (PF S0)) :
    ∃ t, PSs (XL P w K mg base A0 outer s0 H0 E) (LBd.drop 0) t ∧ ∀ S0 O A, Inv0 S0 A → RunS ⟨K, T, H0, O⟩ E t A (PF S0) := by
  obtain ⟨t', h', r0'⟩ := next
  have sc := sc_law
  refine ⟨_, (pss_cons (ps_set (i := 2) sc.nd rfl (Or.inr rfl) (pe_ix ix_seq (pe_lst (pa_cons (pe_callG Z.G__law_roll (hr.mono (by decide)) psE (pa_cons (pv 1) (pa_cons pe_int pa_nil))) (pa_cons (pe_op op_addA pe_int (pe_callG Z.G__law_roll (hr.mono (by decide)) psE (pa_cons (pv 1) (pa_cons (pe_op op_pow pe_int pe_int) pa_nil)))) (pa_cons (pe_callG Z.G__law_roll (hr.mono (by decide)) psE (pa_cons (pv 1) (pa_cons (pe_op op_pow pe_int pe_int) pa_nil))) pa_nil)))) (pe_callG Z.G__law_roll (hr.mono (by decide)) psE (pa_cons (pv 1) (pa_cons pe_int pa_nil))) (fun _ _ => rfl)))
  (pss_cons (ps_set (i := 3) sc.nd rfl (Or.inr rfl) (pv 2))
  (pss_cons (ps_while (passesE) (pt_not (pt_val (pe_callG Z.G__law_prime (hr.mono (by decide)) psE (pa_cons (pv 3) pa_nil)))) (pss_one (ps_set (i := 3) sc.nd rfl (Or.inr rfl) (pe_op op_addA (pv 3) pe_int))))
  (pss_cons (ps_set (i := 4) sc.nd rfl (Or.inl rfl) (pe_toldN (f := "law") (k := 10) Z.F_told Z.hm_told Tx.gNumberError LB rfl rfl (hr.mono (by decide)) (show LamX.LamS (defScope s_law) _ from LamX.lamS_by (by decide +kernel)) rfl (fun _ _ _ _ _ => rfl) (fun A outer s H E f c' hr => (pe_callG Z.G_prime_proof (hr.mono (by decide)) psF (pa_cons (pv 2) pa_nil)))))
  (pss_cons (ps_if (PW.pt (pw_or (pt_cmpR (op_neA hr.units) (pe_cmpR (op_eqA hr.units) (pv 4) pe_str (nomark _)) (pe_cmpR (op_neA hr.units) (pv 2) (pv 3) (nomark _)) (nomark _)) (pw_or1 (pt_cmpR (op_neA hr.units) (pe_callG Z.G_is_little_prime (hr.mono (by decide)) psE (pa_cons (pv 2) pa_nil)) (pe_and (pe_cmpR op_lt (pv 2) pe_int (nomark _)) (pe_one (pe_cmpR (op_eqA hr.units) (pv 2) (pv 3) (nomark _)))) (nomark _))))) (pss_one (ps_ret pe_bl)) pss_nil)
  (pss_cons (ps_set (i := 5) sc.nd rfl (Or.inr rfl) (pe_callG Z.G_prime_proof (hr.mono (by decide)) psE (pa_cons (pv 3) pa_nil)))
  h')))))), fun S0 O A hA => ?_⟩
  have r' := r0' S0
  clear r0'
  clear sc hr h'
  try dsimp only [XL, cxOf]
  obtain ⟨d, ln, h0, h1, st, dk⟩ := hA
  obtain ⟨sl, st'⟩ := A
  obtain rfl : st' = _ := st
  obtain ⟨v0, v1, v2, v3, v4, v5, v6, v7, v8, v9, v10, v11, v12, v13, v14, v15, v16, v17, v18, rfl⟩ := exL sl ln
  obtain rfl : _ = v0 := (Option.some.inj h0).symm
  obtain rfl : _ = v1 := (Option.some.inj h1).symm
  clear ln
  have go : ∀ {A : AS} {P : Po} {t u : TS} {tt : TT}, EvT ⟨K, T, H0, O⟩ tt A false A → RunS ⟨K, T, H0, O⟩ E u A P → RunS ⟨K, T, H0, O⟩ E (tIfS tt t u) A P := fun h h' => r_ifFs h h'

  have q0 := roll_lt (d := d) (m := 3000) (by decide)
  have d1 := roll_ok (m := 3000) dk (by decide)
  have q1 := roll_lt (d := rollD d 3000) (m := 100000) (by decide)
  have d2 := roll_ok (m := 100000) d1 (by decide)
  have q2 := roll_lt (d := rollD (rollD d 3000) 100000) (m := 1000000) (by decide)
  have d3 := roll_ok (m := 1000000) d2 (by decide)
  have q3 := roll_lt (d := rollD (rollD (rollD d 3000) 100000) 1000000) (m := 3) (by decide)
  have d4 := roll_ok (m := 3) d3 (by decide)
  obtain ⟨n, hn, nb⟩ : ∃ n : Nat, atI [di (rollV d 3000), di (1000 + rollV (rollD d 3000) 100000), di (rollV (rollD (rollD d 3000) 100000) 1000000)] (rollV (rollD (rollD (rollD d 3000) 100000) 1000000) 3) = some (dN n) ∧ n ≤ 1000003 := by
    generalize rollV (rollD (rollD (rollD d 3000) 100000) 1000000) 3 = i at q3
    generalize rollV d 3000 = x0 at q0 ⊢
    generalize rollV (rollD d 3000) 100000 = x1 at q1 ⊢
    generalize rollV (rollD (rollD d 3000) 100000) 1000000 = x2 at q2 ⊢
    have c : i = 0 ∨ i = 1 ∨ i = 2 := by omega
    rcases c with rfl | rfl | rfl
    · exact ⟨x0.toNat, by show some (di x0) = some (di _); rw [Int.toNat_of_nonneg q0.1], by omega⟩
    · exact ⟨(1000 + x1).toNat, by show some (di (1000 + x1)) = some (di _); rw [Int.toNat_of_nonneg (by omega)], by omega⟩
    · exact ⟨x2.toNat, by show some (di x2) = some (di _); rw [Int.toNat_of_nonneg q2.1], by omega⟩
  refine r_seq (r_asg (d := dN n) (e_bin (e_lst (a_cons (e_roll (n := 0) (c := 0) rfl rfl e_c dk (by decide) (by decide) (sz20 (by decide))) (a_cons (e_bin e_c (e_roll (n := 0) (c := 1) rfl rfl (e_is (e_bin e_c e_c (o_I ⟨by decide, by decide, by decide⟩)) rfl) d1 (by decide) (by decide) (sz20 (by decide))) o_add) (a_cons (e_roll (n := 0) (c := 2) rfl rfl (e_is (e_bin e_c e_c (o_I ⟨by decide, by decide, by decide⟩)) rfl) d2 (by decide) (by decide) (sz20 (by decide))) a_nil))) (Nat.le_of_ble_eq_true rfl)) (e_roll (n := 0) (c := 3) rfl rfl e_c d3 (by decide) (by decide) (sz20 (by decide))) (o_ixL hn)) ?_)
  generalize hd : rollD (rollD (rollD (rollD d 3000) 100000) 1000000) 3 = d' at d4
  obtain ⟨m, mp, m1, m2, m3⟩ := next_prime nb
  refine r_seq (r_asg (d := dN n) (e_var rfl) ?_)
  refine r_cut (fun A' => A' = ⟨[S0, .own 0, .d (dN n), .d (dN m), v4, v5, v6, v7, v8, v9, v10, v11, v12, v13, v14, v15, v16, v17, v18], [.lst d'.ds]⟩) (r_while (fun j A => ∃ t : Nat, n ≤ t ∧ t ≤ m ∧ j = m - t ∧ A = ⟨[S0, .own 0, .d (dN n), .d (dN t), v4, v5, v6, v7, v8, v9, v10, v11, v12, v13, v14, v15, v16, v17, v18], [.lst d'.ds]⟩) (m - n) ⟨n, Nat.le_refl _, m1, rfl, by rw [← hd]; rfl⟩ ?_) ?_
  · rintro j A ⟨t, t1, t2, rfl, rfl⟩
    refine ⟨!prmB t, _, t_not (t_B (e_call (a_cons (e_var rfl) a_nil) ⟨t, rfl, by omega, rfl⟩)), fun hb => ?_, fun hb => ?_⟩
    · have np : ¬ Prm t := prmB_f.mp (by simpa using hb)
      have ne : t ≠ m := fun z => np (by rw [z]; exact mp)
      exact r_asg (e_addN (e_var rfl) (e_cN 1)) ⟨m - (t + 1), by omega, t + 1, by omega, by omega, rfl, rfl⟩
    · have p : Prm t := prmB_t.mp (by simpa using hb)
      have e : t = m := by
        refine Classical.byContradiction fun z => m3 t t1 (by omega) p
      rw [e]
  · rintro A rfl
    have pm : Prm n ↔ n = m := ⟨fun p => Classical.byContradiction fun z => m3 n (Nat.le_refl _) (by omega) p, fun e => by rw [e]; exact mp⟩
    have lit : litB n = (decide (n < 1000) && decide ((n : Int) = (m : Int))) := by
      cases h : litB n with
      | true =>
        have := litB_t.mp h
        rw [decide_eq_true this.1, decide_eq_true (by have := pm.mp this.2; omega)]; rfl
      | false =>
        have := litB_f.mp h
        by_cases c : n < 1000
        · rw [decide_eq_false (p := (n : Int) = (m : Int)) fun z => this ⟨c, pm.mpr (by omega)⟩, Bool.and_false]
        · rw [decide_eq_false c]; rfl
    refine r_cut (fun A' => ∃ x, ((Prm n ∧ x = .tup ((big n).map rowD)) ∨ (¬ Prm n ∧ x = ds "NumberError")) ∧ A' = ⟨[S0, .own 0, .d (dN n), .d (dN m), .d x, v5, v6, v7, v8, v9, v10, v11, v12, v13, v14, v15, v16, v17, v18], [.lst d'.ds]⟩) ?_ ?_
    · by_cases hp : Prm n
      · exact r_asg (e_toldOk (C := ⟨K, T, H0, O⟩) fun E' => e_call (C := ⟨K, T, H0, O⟩) (a_cons (e_var rfl) a_nil) ⟨n, rfl, by omega, (proofR_t hp).symm⟩) ⟨_, .inl ⟨hp, rfl⟩, rfl⟩
      · exact r_asg (e_toldErr (C := ⟨K, T, H0, O⟩) Tx.m fun E' => x_call (C := ⟨K, T, H0, O⟩) (a_cons (e_var rfl) a_nil) ⟨n, rfl, by omega, (proofR_f hp).symm⟩) ⟨_, .inr ⟨hp, rfl⟩, rfl⟩
    · rintro A ⟨x, hx, rfl⟩
      have eq : OpS ⟨K, T, H0, O⟩ (rEqA K) x (ds "NumberError") (db (!decide ((n : Int) = (m : Int)))) := by
        rcases hx with ⟨hp, rfl⟩ | ⟨hp, rfl⟩
        · have := o_eqN (C := ⟨K, T, H0, O⟩) (n := 3) (m := 0) (.tup (nice_rows (big n))) (.str nice_NE)
          rw [decide_eq_true (by have := pm.mp hp; omega)]
          exact o_is this (by rw [PyData.eqv]; rfl)
        · rw [decide_eq_false fun z => hp (pm.mpr (by omega))]
          exact o_is (o_eq rfl) rfl
      refine r_seq (go (t_orF (t_is (t_test (e_bin (e_bin (e_var rfl) e_c eq) (e_bin (e_var rfl) (e_var rfl) o_neI) (o_ne rfl))) ?_) (t_is (t_test (e_bin (e_call (a_cons (e_var rfl) a_nil) ⟨n, rfl, by omega, rfl⟩) (e_and (e_is (e_bin (e_var rfl) e_c o_I0) (show _ = db (decide (n < 1000)) from congrArg db (decide_eq_decide.mpr (by omega)))) fun _ => e_bin (e_var rfl) (e_var rfl) o_eqI) (o_ne rfl))) ?_)) (r_next ?_))
      · simp
      · rw [lit]; simp
      · refine r_seq (r_asg (d := .tup ((big m).map rowD)) (e_call (a_cons (e_var rfl) a_nil) ⟨m, rfl, by omega, (proofR_t mp).symm⟩) ?_)
        exact r' O _ ⟨d', m, ⟨rfl, rfl, rfl, rfl, d4⟩, rfl, rfl, mp, m2⟩

end Law
end

section
set_option Elab.async false
set_option linter.all false
set_option maxRecDepth 100000
set_option maxHeartbeats 4000000
set_option autoImplicit false
set_option exponentiation.threshold 300
namespace Law
open PySem PySem.Spec PyProof.Rows L2 Py Mt Pm

local macro_rules | `(tactic| wtm_at "op") => `(tactic| first
  | with_reducible exact o_I0 | with_reducible exact o_add | with_reducible exact o_eqI | with_reducible exact o_neI
  | ((with_reducible apply o_mul); first | assumption | wtm_at "si")
  | ((with_reducible apply o_I); first | assumption | wtm_at "si")
  | ((with_reducible apply o_ixT); rfl) | ((with_reducible apply o_ixL); rfl)
  | ((with_reducible apply o_eqD) <;> first | rfl | decide | assumption) | ((with_reducible apply o_neD) <;> first | rfl | decide | assumption)
  | with_reducible assumption)
local macro_rules | `(tactic| wtm_at "si") => `(tactic| first | decide | exact ⟨by decide, by decide +kernel⟩ | omega)
local macro_rules | `(tactic| wtm_at "ev") => `(tactic| first
  | ((with_reducible apply e_var); rfl) | with_reducible exact e_c | with_reducible exact a_nil
  | ((with_reducible apply a_cons) <;> wtm_at "ev")
  | ((with_reducible apply e_bin) <;> first | wtm_at "ev" | wtm_at "op")
  | ((with_reducible apply e_ixO) <;> first | rfl | wtm_at "ev")
  | ((with_reducible apply e_U) <;> wtm_at "ev")
  | ((with_reducible apply t_test) <;> wtm_at "ev")
  | ((with_reducible apply t_B) <;> wtm_at "ev")
  | ((with_reducible apply t_not) <;> wtm_at "ev")
  | ((with_reducible apply e_tup) <;> first | wtm_at "ev" | exact Nat.le_of_ble_eq_true rfl)
  | ((with_reducible apply e_lst) <;> first | wtm_at "ev" | exact Nat.le_of_ble_eq_true rfl)
  | ((with_reducible apply e_gcd) <;> wtm_at "ev")
  | ((with_reducible apply e_abs) <;> wtm_at "ev")
  | ((with_reducible apply e_max2) <;> wtm_at "ev")
  | ((with_reducible apply e_int) <;> wtm_at "ev")
  | ((with_reducible apply e_intB) <;> wtm_at "ev")
  | ((with_reducible apply e_bits) <;> wtm_at "ev")
  | ((with_reducible apply e_not) <;> wtm_at "ev")
  | with_reducible assumption)

variable {P : Program} {w : World} {K : Frg} {T : List (Addr × Str)} {mg : Str → Option Value} {base : Heap} {A0 : Around} {outer : List Env} {s0 : Shared} {H0 : Hp} {E : XK}

theorem rows_big (l : List Nat) : Rows (l.map rowD) (l.map fun (p : Nat) => (p : Int)) := by
  induction l with
  | nil => exact .nil
  | cons a r ih => exact .cons ⟨_, rfl⟩ ih
theorem zip_big (l : List Nat) : (l.map rowD).zip (l.map fun (p : Nat) => (p : Int)) = l.map fun (p : Nat) => (rowD p, (p : Int)) := by
  induction l with
  | nil => rfl
  | cons a r ih => rw [List.map_cons, List.map_cons, List.zip_cons_cons, List.map_cons, ih]
theorem nd_cast {l : List Nat} (h : l.Nodup) : (l.map fun (p : Nat) => (p : Int)).Nodup := by
  induction l with
  | nil => exact List.nodup_nil
  | cons a r ih =>
    rw [List.nodup_cons] at h
    rw [List.map_cons, List.nodup_cons]
    exact ⟨fun z => h.1 (mem_dN.mp z), ih h.2⟩
theorem check_ok {m : Nat} (mp : Prm m) (m2 : m ≤ 1000000000000) {K : Frg} : sp_check K [dN m, .tup ((big m).map rowD)] (.ok dn) := by
  refine ⟨m, bigR m, by rw [bigR_d], by omega, by unfold bigR; rw [List.length_map]; have := big_len mp m2; omega, fun r hr => ⟨fine_big mp m2 r hr, ?_⟩, by rw [if_pos (holds_big mp m2)]⟩
  obtain ⟨p, hm, rfl⟩ := List.mem_map.mp hr
  obtain ⟨a, b, c⟩ := big_ok mp m2 hm
  have := (wit_big a b (by omega)).1
  exact ⟨by show 1 ≤ wit p _; omega, this.2.1, fun f hf _ => ((qs_mem (n := p - 1) (by omega) (by omega)).mp hf).1⟩

theorem segB (Z : GS P w K T mg base) (Tx : Txt K mg) (LB : LamB K base mg T "law") (hr : Room 20 (XL P w K mg base A0 outer s0 H0 E).A)
    (next : ∃ t, PSs (XL P w K mg base A0 outer s0 H0 E) (LBd.drop 7) t ∧ ∀ S0 O A, InvR S0 A → RunS ⟨K, T, H0, O⟩ E t A (PF S0)) :
    ∃ t, PSs (XL P w K mg base A0 outer s0 H0 E) (LBd.drop 6) t ∧ ∀ S0 O A, InvR S0 A → RunS ⟨K, T, H0, O⟩ E t A (PF S0) := by
  obtain ⟨t', h', r0'⟩ := next
  have sc := sc_law
  refine ⟨_, (pss_cons (ps_if (PW.pt (pw_or (pt_not (pt_val (pe_callG Z.G__law_holds (hr.mono (by decide)) psE (pa_cons (pv 3) (pa_cons (pv 5) pa_nil))))) (pw_or (pt_cmpR op_notN (pe_toldN (f := "law") (k := 10) Z.F_told Z.hm_told Tx.gNumberError LB rfl rfl (hr.mono (by decide)) (show LamX.LamS (defScope s_law) _ from LamX.lamS_by (by decide +kernel)) rfl (fun _ _ _ _ _ => rfl) (fun A outer s H E f c' hr => (pe_callG Z.G_check_proof (hr.mono (by decide)) psF (pa_cons (pv 3) (pa_cons (pv 5) pa_nil))))) pe_non (nomark _)) (pw_or1 (pt_cmpR (op_neA hr.units) (pe_callTy call_list_of (by rfl) Tx.n_list (by decide +kernel) (pa_cons (pv 5) pa_nil)) (pe_rev (pe_callB cr_sortF (by rfl) Tx.n_sorted (by decide +kernel) (pa_cons (pv 5) pa_nil)) (pe_un un_neg pe_int)) (nomark _)))))) (pss_one (ps_ret pe_bl)) pss_nil)
  h'), fun S0 O A hA => ?_⟩
  have r' := r0' S0
  clear r0'
  clear sc hr h'
  try dsimp only [XL, cxOf]
  obtain ⟨d, m, ⟨ln, h0, h1, st, dk⟩, h3, h5, mp, m2⟩ := hA
  obtain ⟨sl, st'⟩ := A
  obtain rfl : st' = _ := st
  obtain ⟨v0, v1, v2, v3, v4, v5, v6, v7, v8, v9, v10, v11, v12, v13, v14, v15, v16, v17, v18, rfl⟩ := exL sl ln
  obtain rfl : _ = v0 := (Option.some.inj h0).symm
  obtain rfl : _ = v1 := (Option.some.inj h1).symm
  obtain rfl : _ = v3 := (Option.some.inj h3).symm
  obtain rfl : _ = v5 := (Option.some.inj h5).symm
  clear ln
  have go : ∀ {A : AS} {P : Po} {t u : TS} {tt : TT}, EvT ⟨K, T, H0, O⟩ tt A false A → RunS ⟨K, T, H0, O⟩ E u A P → RunS ⟨K, T, H0, O⟩ E (tIfS tt t u) A P := fun h h' => r_ifFs h h'

  have m3 : m ≤ 1000000000000 := by omega
  have sd : ((big m).map fun (p : Nat) => (rowD p, (p : Int))).reverse.Pairwise fun x y => x.2 < y.2 := by
    rw [List.pairwise_reverse]
    exact List.pairwise_map.mpr ((big_desc m).imp fun h => by show (_ : Int) < _; omega)
  refine r_seq (go (t_orF (t_is (t_not (t_B (e_call (d := db (holdsB m (bigR m))) (a_cons (e_var rfl) (a_cons (e_var rfl) a_nil)) ⟨m, bigR m, by rw [bigR_d], by omega, by unfold bigR; rw [List.length_map]; have := big_len mp m3; omega, fine_big mp m3, rfl⟩))) (by rw [holds_big mp m3]; rfl)) (t_orF (t_test (e_bin (e_toldOk (C := ⟨K, T, H0, O⟩) fun E' => e_call (C := ⟨K, T, H0, O⟩) (a_cons (e_var rfl) (a_cons (e_var rfl) a_nil)) (check_ok mp m3)) e_c (o_notNone (.inl ⟨rfl, rfl⟩)))) (t_test (e_bin (e_listT (e_var rfl)) (e_is (e_rev (e_sortF (ms := ((big m).map fun (p : Nat) => (rowD p, (p : Int))).reverse) (e_var rfl) (rows_big _) (nd_cast big_nd) (by rw [zip_big]; exact List.reverse_perm _) sd) (e_U e_c)) (by rw [← List.map_reverse, List.reverse_reverse, List.map_map]; rfl)) (o_neSame (n := 3) (.lst (nice_rows (big m)))))))) (r_next ?_))
  exact r' O _ ⟨d, m, ⟨rfl, rfl, rfl, rfl, dk⟩, rfl, rfl, mp, m2⟩

end Law
end

section
set_option Elab.async false
set_option linter.all false
set_option maxRecDepth 100000
set_option maxHeartbeats 4000000
set_option autoImplicit false
set_option exponentiation.threshold 300
namespace Law
open PySem PySem.Spec PyProof.Rows L2 Py Mt Pm

local macro_rules | `(tactic| wtm_at "op") => `(tactic| first
  | with_reducible exact o_I0 | with_reducible exact o_add | with_reducible exact o_eqI | with_reducible exact o_neI
  | ((with_reducible apply o_mul); first | assumption | wtm_at "si")
  | ((with_reducible apply o_I); first | assumption | wtm_at "si")
  | ((with_reducible apply o_ixT); rfl) | ((with_reducible apply o_ixL); rfl)
  | ((with_reducible apply o_eqD) <;> first | rfl | decide | assumption) | ((with_reducible apply o_neD) <;> first | rfl | decide | assumption)
  | with_reducible assumption)
local macro_rules | `(tactic| wtm_at "si") => `(tactic| first | decide | exact ⟨by decide, by decide +kernel⟩ | omega)
local macro_rules | `(tactic| wtm_at "ev") => `(tactic| first
  | ((with_reducible apply e_var); rfl) | with_reducible exact e_c | with_reducible exact a_nil
  | ((with_reducible apply a_cons) <;> wtm_at "ev")
  | ((with_reducible apply e_bin) <;> first | wtm_at "ev" | wtm_at "op")
  | ((with_reducible apply e_ixO) <;> first | rfl | wtm_at "ev")
  | ((with_reducible apply e_U) <;> wtm_at "ev")
  | ((with_reducible apply t_test) <;> wtm_at "ev")
  | ((with_reducible apply t_B) <;> wtm_at "ev")
  | ((with_reducible apply t_not) <;> wtm_at "ev")
  | ((with_reducible apply e_tup) <;> first | wtm_at "ev" | exact Nat.le_of_ble_eq_true rfl)
  | ((with_reducible apply e_lst) <;> first | wtm_at "ev" | exact Nat.le_of_ble_eq_true rfl)
  | ((with_reducible apply e_gcd) <;> wtm_at "ev")
  | ((with_reducible apply e_abs) <;> wtm_at "ev")
  | ((with_reducible apply e_max2) <;> wtm_at "ev")
  | ((with_reducible apply e_int) <;> wtm_at "ev")
  | ((with_reducible apply e_intB) <;> wtm_at "ev")
  | ((with_reducible apply e_bits) <;> wtm_at "ev")
  | ((with_reducible apply e_not) <;> wtm_at "ev")
  | with_reducible assumption)

section
variable {C : Ct} {A A1 : AS} {te : TE} {tt : TT} {g : TG} {ws : List Nat}
/-- a comprehension over a range of any length that gives a short list -/
theorem e_lcRS {lo : Int} {n : Nat} {wi : TI} (hw : ∀ os σ H, Ok C os A σ H → ∀ R : It → Hp → Prop, (∀ os' H', Ok C os' A1 σ H' → Gr C.O os H os' H' → R (Itr lo n) H') → wi σ H R) (B : Nat → AS) (Y : Nat → List Dt) (h0 : A1 = B 0) (hY : Y 0 = [])
    (hs : ∀ i, i < n → ∀ O, LcT ⟨C.K, C.T, C.H0, O⟩ g tt te ws (di (lo + i)) (B i) (Y i) (B (i + 1)) (Y (i + 1))) (hl : ∀ i, (Y i).length < 100000) : EvS C (tLc wi g tt te ws) A (.lst (Y n)) (B n) := fun os σ H k Q q =>
  hw os σ H k _ fun os1 H1 k1 g1 p hp => by
    subst h0
    refine lc_range (lo := lo) (n := n) (fun i H' => ∃ os' acc, Ok (C.hide p) os' (B i) σ H' ∧ GrP p C.O os1 (upd H1 p (.lst [])) os' H' ∧ H' p = some (.lst acc) ∧ IsA C.K (Rh (p :: C.O) os' H') (Y i) acc) ⟨os1, [], k1.hide hp nt_l, ⟨Ex.refl _, fun _ _ => rfl, fun _ _ h => h⟩, upd_same, by rw [hY]; exact isA_nil⟩ ?_ ?_
    · rintro i H' hi ⟨os', acc, k', g', hp', ha⟩
      exact lc_turn (hs i hi _) k' hp' ha is_v (fresh_0 k1 hp) (fresh_O k1 hp) (hl i) _ fun os2 acc2 H2 k2 g2 hp2 ha2 => ⟨os2, acc2, k2, g'.trans g2, hp2, ha2⟩
    · rintro H' ⟨os', acc, k', g', hp', ha⟩
      exact lc_end k1 hp k' g' hp' ha fun os2 v H2 k2 g2 i2 => q os2 v H2 k2 (g1.trans g2) i2
end
def t5 (v : SD) (L : Nat) : Nat → SD
  | 0 => v
  | i + 1 => s5 (t5 v L i) L
theorem wit_empty (p k : Nat) (l : List Nat) : ((l.filter fun q => decide (k ^ ((p - 1) / q) % p = 1)).map dN).isEmpty = decide (Wit p l k) := by
  cases h : decide (Wit p l k) with
  | true =>
    have w := of_decide_eq_true h
    have : (l.filter fun q => decide (k ^ ((p - 1) / q) % p = 1)) = [] := List.filter_eq_nil_iff.mpr fun q hq z => w q hq (of_decide_eq_true z)
    rw [this]; rfl
  | false =>
    have w := of_decide_eq_false h
    cases e : ((l.filter fun q => decide (k ^ ((p - 1) / q) % p = 1)).map dN).isEmpty with
    | false => rfl
    | true =>
      exfalso
      refine w fun q hq z => ?_
      have e : (l.filter fun q => decide (k ^ ((p - 1) / q) % p = 1)) = [] := by simpa using e
      exact List.filter_eq_nil_iff.mp e q hq (decide_eq_true z)
/-- a turn of the loop over the rows -/
def InvQ (S0 : SD) (d : Dice) (m : Nat) (A : AS) : Prop := IA S0 A d 4 ∧ A.sl[3]? = some (.d (dN m)) ∧ A.sl[5]? = some (.d (.tup ((big m).map rowD)))

variable {P : Program} {w : World} {K : Frg} {T : List (Addr × Str)} {mg : Str → Option Value} {base : Heap} {A0 : Around} {outer : List Env} {s0 : Shared} {H0 : Hp} {E : XK}

theorem segC (Z : GS P w K T mg base) (Tx : Txt K mg) (LB : LamB K base mg T "law") (hr : Room 20 (XL P w K mg base A0 outer s0 H0 E).A)
    (next : ∃ t, PSs (XL P w K mg base A0 outer s0 H0 E) (LBd.drop 8) t ∧ ∀ S0 O A, InvR S0 A → RunS ⟨K, T, H0, O⟩ E t A (PF S0)) :
    ∃ t, PSs (XL P w K mg base A0 outer s0 H0 E) (LBd.drop 7) t ∧ ∀ S0 O A, InvR S0 A → RunS ⟨K, T, H0, O⟩ E t A (PF S0) := by
  obtain ⟨t', h', r0'⟩ := next
  have sc := sc_law
  refine ⟨_, (pss_cons (ps_for (passesE) rfl (pi_tup (pv 5)) (pg_tup rfl (pgs_cons (pg_name (i := 6) sc.nd rfl (Or.inr rfl)) (pgs_cons (pg_name (i := 7) sc.nd rfl (Or.inl rfl)) (pgs_cons (pg_name (i := 8) sc.nd rfl (Or.inr rfl)) pgs_nil)))) (pss_cons (ps_setLc (i := 9) (own := [("k", 10)]) rfl sc.nd rfl rfl (sw_true rfl rfl rfl (by decide +kernel)) (pi_range2 rfl Tx.n_range (pa_cons pe_int (pa_cons (pe_op op_addA (pv 7) pe_int) pa_nil))) (blkOk_by (own := [("k", 10)]) (N := ["script", "dice", "number", "prime", "found", "rows", "one", "told_now", "factors", "least", "k", "factor", "spot", "bent", "row", "whole", "less", "table", "big"]) (sc := defScope s_law) (by decide +kernel)) (fun _ _ _ _ _ => (pg_name (i := 10) sc.nd rfl (Or.inr rfl))) (fun _ _ _ _ _ => (pts_one (pt_cmpR (op_eqAK (K := K) rfl hr.units) (pe_lc (own := [("factor", 11)]) rfl sc.nd (pi_tupK (K := K) rfl (pv 8)) (blkOk_rel (blkOk_by (own := [("factor", 11)]) (N := ["script", "dice", "number", "prime", "found", "rows", "one", "told_now", "factors", "least", "k", "factor", "spot", "bent", "row", "whole", "less", "table", "big"]) (sc := (lcScope ((bodyF (LBd.getD 7 (.Pass ⟨0, 0, 0, 0⟩))).getD 0 (.Pass ⟨0, 0, 0, 0⟩)))) (by decide +kernel))) (fun _ _ _ _ _ => (pg_name (i := 11) sc.nd rfl (Or.inl rfl))) (fun _ _ _ _ _ => (pts_one (pt_cmpR (op_eqAK (K := K) rfl hr.units) (pe_callG Z.G__law_power (hr.mono (by decide)) passL (pa_cons (pv 10) (pa_cons (pe_op op_fdivX (pe_op op_sub (pv 6) pe_int) (pv 11)) (pa_cons (pv 6) pa_nil)))) pe_int (nomark _)))) (fun _ _ _ _ _ => (pv 11))) (pe_lst pa_nil) (nomark _)))) (fun _ _ _ _ _ => (pv 10)))
  (pss_one (ps_if (PW.pt (pw_or (pt_cmpR (op_neA hr.units) (pv 9) (pe_lst (pa_cons (pv 7) pa_nil)) (nomark _)) (pw_or (pt_cmpR (op_neA hr.units) (pe_callG Z.G_witness (hr.mono (by decide)) psE (pa_cons (pv 6) (pa_cons (pv 8) pa_nil))) (pv 7) (nomark _)) (pw_or1 (pt_cmpR (op_neA hr.units) (pe_lc (own := [("factor", 11)]) rfl sc.nd (pi_tup (pv 8)) (blkOk_by (own := [("factor", 11)]) (N := ["script", "dice", "number", "prime", "found", "rows", "one", "told_now", "factors", "least", "k", "factor", "spot", "bent", "row", "whole", "less", "table", "big"]) (sc := defScope s_law) (by decide +kernel)) (fun _ _ _ _ _ => (pg_name (i := 11) sc.nd rfl (Or.inl rfl))) (fun _ _ _ _ _ => (pts_one (pt_not (pt_val (pe_callG Z.G__law_prime (hr.mono (by decide)) passL (pa_cons (pv 11) pa_nil)))))) (fun _ _ _ _ _ => (pv 11))) (pe_lst pa_nil) (nomark _)))))) (pss_one (ps_ret pe_bl)) pss_nil))))
  h'), fun S0 O A hA => ?_⟩
  have r' := r0' S0
  clear r0'
  clear sc hr h'
  try dsimp only [XL, cxOf]
  obtain ⟨d, m, hI, h3, h5, mp, m2⟩ := hA
  have m3 : m ≤ 1000000000000 := by omega
  have go : ∀ {A : AS} {P : Po} {t u : TS} {tt : TT}, EvT ⟨K, T, H0, O⟩ tt A false A → RunS ⟨K, T, H0, O⟩ E u A P → RunS ⟨K, T, H0, O⟩ E (tIfS tt t u) A P := fun h h' => r_ifFs h h'

  refine r_seq (r_forT (xs := (big m).map rowD) (by
    obtain ⟨ln, h0, h1, st, dk⟩ := hI
    exact e_var h5) (fun i A => InvQ S0 d m A) ⟨hI, h3, h5⟩ ?_ ?_)
  case refine_2 => exact fun A h => r' O _ ⟨d, m, h.1, h.2.1, h.2.2, mp, m2⟩
  clear hI h3 h5 r'
  rintro i x A hx ⟨⟨ln, h0, h1, st, dk⟩, h3, h5⟩
  obtain ⟨sl, st'⟩ := A
  obtain rfl : st' = _ := st
  obtain ⟨v0, v1, v2, v3, v4, v5, v6, v7, v8, v9, v10, v11, v12, v13, v14, v15, v16, v17, v18, rfl⟩ := exL sl ln
  obtain rfl : _ = v0 := (Option.some.inj h0).symm
  obtain rfl : _ = v1 := (Option.some.inj h1).symm
  obtain rfl : _ = v3 := (Option.some.inj h3).symm
  obtain rfl : _ = v5 := (Option.some.inj h5).symm
  clear ln
  rw [List.getElem?_map] at hx
  obtain ⟨p, hp, rfl⟩ := Option.map_eq_some_iff.mp hx
  have hm := List.mem_of_getElem? hp
  obtain ⟨a, b, c⟩ := big_ok mp m3 hm
  obtain ⟨⟨w1, w2, w3, w4⟩, _⟩ := wit_big a b (by omega)
  have y1 : 0 < p - 1 := by omega
  have yn : p - 1 ≤ 1000000000000 := by omega
  have nd := qs_nd y1 yn
  have qq : ∀ q ∈ qs (p - 1), Prm q ∧ q ∣ p - 1 := fun q hq => (qs_mem y1 yn).mp hq
  have q2 : ∀ q ∈ qs (p - 1), 0 < q ∧ q ≤ 1000000000002 := fun q hq => by
    have := (qq q hq).1.1
    have := Nat.le_of_dvd y1 (qq q hq).2
    omega
  have m22 : 2 ∈ qs (p - 1) := (qs_mem y1 yn).mpr ⟨prm2, odd_prm a (by omega)⟩
  have ql := qs_len y1 yn
  refine ⟨⟨[S0, .own 0, v2, .d (dN m), v4, .d (.tup ((big m).map rowD)), .d (dN p), .d (dN (wit p (qs (p - 1)))), .d (.tup ((qs (p - 1)).map dN)), v9, v10, v11, v12, v13, v14, v15, v16, v17, v18], [.lst d.ds]⟩, tg_tup rfl (tgA_cons tg_name (tgA_cons tg_name (tgA_cons tg_name tgA_nil))), ?_⟩
  have pw : ∀ {C : Ct} {A A1 : AS} {E' : XK} {tl : TA} {k e : Nat}, k < p → EvA C tl A [dN k, dN e, dN p] A1 → EvS C (tCall (spD C.K C.T sp_lpow) [] E' tl) A (dN (k ^ e % p)) A1 := fun hk h => e_call h ⟨_, _, _, rfl, by omega, by omega, by omega, rfl⟩
  refine r_seq (r_asg (d := .lst [dN (wit p (qs (p - 1)))]) (e_is (e_lcRS (w_rng2n (c := wit p (qs (p - 1)) - 1) (m := 2) (n := ((wit p (qs (p - 1)) + 1 : Nat) : Int)) (a_cons e_c (a_cons (e_addN (e_var rfl) (e_cN 1)) a_nil)) (by omega) (by omega) (by omega)) (fun i => ⟨[S0, .own 0, v2, .d (dN m), v4, .d (.tup ((big m).map rowD)), .d (dN p), .d (dN (wit p (qs (p - 1)))), .d (.tup ((qs (p - 1)).map dN)), v9, s5 v10 i, t5 v11 ((qs (p - 1)).map dN).length i, v12, v13, v14, v15, v16, v17, v18], [.lst d.ds]⟩) (fun i => if wit p (qs (p - 1)) ≤ i + 1 then [dN (wit p (qs (p - 1)))] else []) rfl (by rw [if_neg (by omega)]) (fun i hi O' => ?t1) (fun i => by split <;> simp)) (by rw [if_pos (by omega)])) ?_)
  case t1 =>
    rw [show (2 : Int) + (i : Int) = ((2 + i : Nat) : Int) by omega]
    refine ⟨⟨[S0, .own 0, v2, .d (dN m), v4, .d (.tup ((big m).map rowD)), .d (dN p), .d (dN (wit p (qs (p - 1)))), .d (.tup ((qs (p - 1)).map dN)), v9, .d (dN (2 + i)), t5 v11 ((qs (p - 1)).map dN).length i, v12, v13, v14, v15, v16, v17, v18], [.lst d.ds]⟩, decide (Wit p (qs (p - 1)) (2 + i)), ⟨[S0, .own 0, v2, .d (dN m), v4, .d (.tup ((big m).map rowD)), .d (dN p), .d (dN (wit p (qs (p - 1)))), .d (.tup ((qs (p - 1)).map dN)), v9, .d (dN (2 + i)), s5 (t5 v11 ((qs (p - 1)).map dN).length i) ((qs (p - 1)).map dN).length, v12, v13, v14, v15, v16, v17, v18], [.lst d.ds]⟩, tgS_name (by simp), t_is (t_test (e_bin (e_lcT (xs := (qs (p - 1)).map dN) (e_var rfl) (fun j => ⟨[S0, .own 0, v2, .d (dN m), v4, .d (.tup ((big m).map rowD)), .d (dN p), .d (dN (wit p (qs (p - 1)))), .d (.tup ((qs (p - 1)).map dN)), v9, .d (dN (2 + i)), s5 (t5 v11 ((qs (p - 1)).map dN).length i) j, v12, v13, v14, v15, v16, v17, v18], [.lst d.ds]⟩) (fun j => (((qs (p - 1)).take j).filter fun q => decide ((2 + i) ^ ((p - 1) / q) % p = 1)).map dN) rfl rfl (fun j x hx O'' => ?t2) (by rw [List.length_map]; omega)) (e_lst a_nil (by decide)) (o_eqNil (n := 0) (niceN _)))) (by rw [List.length_map, List.take_of_length_le (Nat.le_refl _), wit_empty]), ?_⟩
    case t2 =>
      rw [List.getElem?_map] at hx
      obtain ⟨q, hq, rfl⟩ := Option.map_eq_some_iff.mp hx
      have Fq := q2 q (List.mem_of_getElem? hq)
      refine ⟨⟨[S0, .own 0, v2, .d (dN m), v4, .d (.tup ((big m).map rowD)), .d (dN p), .d (dN (wit p (qs (p - 1)))), .d (.tup ((qs (p - 1)).map dN)), v9, .d (dN (2 + i)), .d (dN q), v12, v13, v14, v15, v16, v17, v18], [.lst d.ds]⟩, decide ((2 + i) ^ ((p - 1) / q) % p = 1), _, tgS_name (by simp), t_eqN (pw (C := ⟨K, T, H0, O''⟩) (by omega) (a_cons (e_var rfl) (a_cons (e_divN (e_subN (e_var rfl) (e_cN 1) (by omega)) (e_var rfl) (fits_big Fq.2) Fq.1) (a_cons (e_var rfl) a_nil)))) (e_cN 1), ?_⟩
      rw [List.take_add_one, hq, List.filter_append, List.map_append]
      by_cases z : (2 + i) ^ ((p - 1) / q) % p = 1
      · exact .inl ⟨decide_eq_true z, dN q, _, e_var rfl, by simp [z], rfl⟩
      · exact .inr ⟨decide_eq_false z, by simp [z], rfl⟩
    by_cases e : 2 + i = wit p (qs (p - 1))
    · refine .inl ⟨decide_eq_true (by rw [e]; exact w3), dN (2 + i), _, e_var rfl, ?_, rfl⟩
      rw [if_pos (by omega), if_neg (by omega), e]; rfl
    · refine .inr ⟨decide_eq_false (w4 _ (by omega) (by omega)), ?_, rfl⟩
      by_cases z : wit p (qs (p - 1)) ≤ i + 1
      · rw [if_pos z, if_pos (by omega)]
      · rw [if_neg z, if_neg (by omega)]
  show RunS _ _ _ ⟨[S0, .own 0, v2, .d (dN m), v4, .d (.tup ((big m).map rowD)), .d (dN p), .d (dN (wit p (qs (p - 1)))), .d (.tup ((qs (p - 1)).map dN)), .d (.lst [dN (wit p (qs (p - 1)))]), _, _, v12, v13, v14, v15, v16, v17, v18], [.lst d.ds]⟩ _
  generalize s5 v10 _ = z10
  generalize t5 v11 _ _ = z11
  refine r_ifF (t_orF (t_test (e_bin (e_var rfl) (e_lst (a_cons (e_var rfl) a_nil) (Nat.le_of_ble_eq_true rfl)) (o_neSame (n := 1) (.lst (niceN [_]))))) (t_orF (t_is (t_neN (e_call (d := dN (wit p (qs (p - 1)))) (a_cons (e_var rfl) (a_cons (e_var rfl) a_nil)) ⟨p, qs (p - 1), rfl, a, by omega, by omega, nd, qq, List.ne_nil_of_mem m22, by omega, rfl⟩) (e_var rfl)) (by simp)) (t_is (t_test (e_bin (e_lcT (xs := (qs (p - 1)).map dN) (e_var rfl) (fun i => ⟨[S0, .own 0, v2, .d (dN m), v4, .d (.tup ((big m).map rowD)), .d (dN p), .d (dN (wit p (qs (p - 1)))), .d (.tup ((qs (p - 1)).map dN)), .d (.lst [dN (wit p (qs (p - 1)))]), z10, s5 z11 i, v12, v13, v14, v15, v16, v17, v18], [.lst d.ds]⟩) (fun _ => []) rfl rfl (fun i x hx O' => ?t3) (by rw [List.length_map]; omega)) (e_lst a_nil (by decide)) (o_neNil (n := 0) .nil))) rfl))) (r_next ⟨⟨rfl, rfl, rfl, rfl, dk⟩, rfl, rfl⟩)
  case t3 =>
    rw [List.getElem?_map] at hx
    obtain ⟨q, hq, rfl⟩ := Option.map_eq_some_iff.mp hx
    have hq := List.mem_of_getElem? hq
    exact ⟨⟨[S0, .own 0, v2, .d (dN m), v4, .d (.tup ((big m).map rowD)), .d (dN p), .d (dN (wit p (qs (p - 1)))), .d (.tup ((qs (p - 1)).map dN)), .d (.lst [dN (wit p (qs (p - 1)))]), z10, .d (dN q), v12, v13, v14, v15, v16, v17, v18], [.lst d.ds]⟩, false, _, tgS_name (by simp), t_is (t_not (t_B (e_call (C := ⟨K, T, H0, O'⟩) (a_cons (e_var rfl) a_nil) ⟨q, rfl, (q2 q hq).2, rfl⟩))) (by rw [prmB_t.mpr (qq q hq).1]; rfl), .inr ⟨rfl, rfl, rfl⟩⟩

end Law
end

section
set_option Elab.async false
set_option linter.all false
set_option maxRecDepth 100000
set_option maxHeartbeats 4000000
set_option autoImplicit false
set_option exponentiation.threshold 300
namespace Law
open PySem PySem.Spec PyProof.Rows L2 Py Mt Pm

local macro_rules | `(tactic| wtm_at "op") => `(tactic| first
  | with_reducible exact o_I0 | with_reducible exact o_add | with_reducible exact o_eqI | with_reducible exact o_neI
  | ((with_reducible apply o_mul); first | assumption | wtm_at "si")
  | ((with_reducible apply o_I); first | assumption | wtm_at "si")
  | ((with_reducible apply o_ixT); rfl) | ((with_reducible apply o_ixL); rfl)
  | ((with_reducible apply o_eqD) <;> first | rfl | decide | assumption) | ((with_reducible apply o_neD) <;> first | rfl | decide | assumption)
  | with_reducible assumption)
local macro_rules | `(tactic| wtm_at "si") => `(tactic| first | decide | exact ⟨by decide, by decide +kernel⟩ | omega)
local macro_rules | `(tactic| wtm_at "ev") => `(tactic| first
  | ((with_reducible apply e_var); rfl) | with_reducible exact e_c | with_reducible exact a_nil
  | ((with_reducible apply a_cons) <;> wtm_at "ev")
  | ((with_reducible apply e_bin) <;> first | wtm_at "ev" | wtm_at "op")
  | ((with_reducible apply e_ixO) <;> first | rfl | wtm_at "ev")
  | ((with_reducible apply e_U) <;> wtm_at "ev")
  | ((with_reducible apply t_test) <;> wtm_at "ev")
  | ((with_reducible apply t_B) <;> wtm_at "ev")
  | ((with_reducible apply t_not) <;> wtm_at "ev")
  | ((with_reducible apply e_tup) <;> first | wtm_at "ev" | exact Nat.le_of_ble_eq_true rfl)
  | ((with_reducible apply e_lst) <;> first | wtm_at "ev" | exact Nat.le_of_ble_eq_true rfl)
  | ((with_reducible apply e_gcd) <;> wtm_at "ev")
  | ((with_reducible apply e_abs) <;> wtm_at "ev")
  | ((with_reducible apply e_max2) <;> wtm_at "ev")
  | ((with_reducible apply e_int) <;> wtm_at "ev")
  | ((with_reducible apply e_intB) <;> wtm_at "ev")
  | ((with_reducible apply e_bits) <;> wtm_at "ev")
  | ((with_reducible apply e_not) <;> wtm_at "ev")
  | with_reducible assumption)

theorem cut_to {xs : List Dt} {s : Nat} (h : s ≤ xs.length) : cutL xs none (some (s : Int)) = xs.take s := by
  unfold cutL
  rw [HT.sIx_nat, HT.sIx_none, Nat.min_eq_left h, List.drop_zero, Nat.sub_zero]
theorem cut_from {xs : List Dt} {s : Nat} (h : s ≤ xs.length) : cutL xs (some (s : Int)) none = xs.drop s := by
  unfold cutL
  rw [HT.sIx_nat, HT.sIx_none, Nat.min_eq_left h, List.take_of_length_le (by rw [List.length_drop]; exact Nat.le_refl _)]
theorem sl_tupAK {X : Cx} {K : Frg} (hK : X.K = K) : SlR X (rSlA K) := by subst hK; exact sl_tupA
theorem op_catAK {X : Cx} {K : Frg} (hK : X.K = K) : OpR X (binaryOp .Add) (rCatA K) := by subst hK; exact op_catA
theorem eqv_nilT : ∀ ps : List PyData, PyData.eqv (.tuple ps) (.tuple []) = ps.isEmpty
  | [] => by rw [PyData.eqv, PyData.eqvAll]; rfl
  | p :: ps => by rw [PyData.eqv, PyData.eqvAll]; rfl
structure Fit (r : RP) : Prop where
  f : r.Fine
  a : 1 ≤ r.w
  b : r.w < r.p
theorem fit_big {m : Nat} (mp : Prm m) (m3 : m ≤ 1000000000000) : ∀ r ∈ bigR m, Fit r := fun r hr => by
  have f := fine_big mp m3 r hr
  obtain ⟨p, hm, rfl⟩ := List.mem_map.mp hr
  obtain ⟨a, b, c⟩ := big_ok mp m3 hm
  have := (wit_big a b (by omega)).1
  exact ⟨f, by show 1 ≤ wit p _; omega, this.2.1⟩
/-- what _law_told(lambda: check_proof(..)) gives -/
noncomputable def chk (n : Nat) (rows : List RP) : Dt := if holdsB n rows = true then dn else ds "NumberError"
theorem e_chk {C : Ct} {A : AS} {t : XK → TA} (hm : PySem.W.exmOne C.K (.ref (NE C.K)) (.ref (NE C.K)) = some true) {n : Nat} {rows : List RP} (hn : n ≤ 1000000000002) (hl : rows.length ≤ 60) (hf : ∀ r ∈ rows, Fit r) (hp : ∀ r ∈ rows, PrK (rows.map (·.p)) r.l) (h : ∀ E, EvA C (t E) A [dN n, .tup (rows.map RP.d)] A) :
    EvS C (LamX.tLam C.T (LamX.TTold C.K (NE C.K) "NumberError") fun E => tCall (spD C.K C.T (sp_check C.K)) [] E (t E)) A (chk n rows) A := by
  have g : ∀ r, r = (if holdsB n rows = true then Rs.ok dn else .err (NE C.K)) → sp_check C.K [dN n, .tup (rows.map RP.d)] r := fun r e => ⟨n, rows, rfl, hn, hl, fun x hx => ⟨(hf x hx).f, (hf x hx).a, (hf x hx).b, hp x hx⟩, e⟩
  unfold chk
  cases c : holdsB n rows with
  | true => exact e_toldOk fun E' => e_call (h E') (g _ (by rw [c]; rfl))
  | false => exact e_toldErr hm fun E' => x_call (h E') (g _ (by rw [c]; rfl))
theorem o_chkNe {C : Ct} {n : Nat} {rows : List RP} : OpS C (rNeA C.K) (chk n rows) (ds "NumberError") (db (holdsB n rows)) := by
  unfold chk
  cases holdsB n rows with
  | true => exact o_is (o_neN (n := 0) (m := 0) .non (.str nice_NE)) (by rw [PyData.eqv]; rfl)
  | false => exact o_is (o_ne rfl) rfl
theorem o_chkEq {C : Ct} {n : Nat} {rows : List RP} : OpS C (rEqA C.K) (chk n rows) (ds "NumberError") (db (!holdsB n rows)) := by
  unfold chk
  cases holdsB n rows with
  | true => exact o_is (o_eqN (n := 0) (m := 0) .non (.str nice_NE)) (by rw [PyData.eqv]; rfl)
  | false => exact o_is (o_eq rfl) rfl
theorem at_of {xs : List Dt} {i : Nat} {d : Dt} (h : xs[i]? = some d) : atI xs (i : Int) = some d := by
  have hi := (List.getElem?_eq_some_iff.mp h).1
  unfold atI ixN
  simp [hi]
  exact (List.getElem?_eq_some_iff.mp h).2
theorem kv_map (l : List Nat) : (kv l).map (fun kv => Dt.tup [.v (kV kv.1), kv.2]) = l.map fun p => Dt.tup [dN p, rowD p] := by
  unfold kv
  rw [List.map_map]
  rfl
theorem kv_nd {l : List Nat} (h : l.Nodup) : ((kv l).map (·.1)).Nodup := by
  unfold kv
  rw [List.map_map]
  induction l with
  | nil => exact List.nodup_nil
  | cons a r ih =>
    rw [List.nodup_cons] at h
    rw [List.map_cons]
    refine List.nodup_cons.mpr ⟨fun z => ?_, ih h.2⟩
    obtain ⟨x, hx, e⟩ := List.mem_map.mp z
    have : x = a := by have := Sum.inl.inj e; omega
    exact h.1 (by rw [← this]; exact hx)
theorem twice {n : Nat} {rows : List RP} (h : rows ≠ []) : holdsB n (rows ++ rows.take 1) = false := by
  unfold holdsB
  cases rows with
  | nil => exact absurd rfl h
  | cons a r =>
    rw [decide_eq_false]
    · rfl
    · intro z
      rw [List.map_append, List.nodup_append] at z
      exact z.2.2 a.p (by simp) a.p (by simp) rfl
/-- the six rows that are bent -/
noncomputable def bentL (p r9 : Nat) : List RP := [⟨p, wit p (qs (p - 1)) + 1 + r9, qs (p - 1)⟩, ⟨p, wit p (qs (p - 1)), (qs (p - 1)).tail⟩, ⟨p, wit p (qs (p - 1)), qs (p - 1) ++ [7]⟩, ⟨p, 1, qs (p - 1)⟩, ⟨p + 2, wit p (qs (p - 1)), qs (p - 1)⟩, ⟨p, wit p (qs (p - 1)), [(p - 1) / 2, 2]⟩]
theorem bent_fit {p r9 : Nat} (h : Prm p) (h1 : 1000 < p) (hn : p ≤ 1000000000000) (hr : r9 < 9) : ∀ r ∈ bentL p r9, Fit r := by
  obtain ⟨w, w2⟩ := wit_big h h1 hn
  obtain ⟨f1, f2, f3, f4, f5⟩ := fine_row h h1 hn
  have f4 : ∀ f ∈ qs (p - 1), 2 ≤ f ∧ f ≤ 1000000000002 := f4
  have f5 : (qs (p - 1)).length ≤ 1000 := f5
  have ql := qs_len (n := p - 1) (by omega) (by omega)
  intro r hr
  simp only [bentL, List.mem_cons, List.not_mem_nil, or_false] at hr
  rcases hr with rfl | rfl | rfl | rfl | rfl | rfl
  · exact ⟨⟨f1, f2, by show _ + 1 + _ ≤ _; omega, f4, f5⟩, by show 1 ≤ _ + 1 + _; omega, by show _ + 1 + _ < p; omega⟩
  · exact ⟨⟨f1, f2, by show wit p _ ≤ _; omega, fun f hf => f4 f (List.mem_of_mem_tail hf), by show (qs (p - 1)).tail.length ≤ _; rw [List.length_tail]; omega⟩, by show 1 ≤ wit p _; omega, w.2.1⟩
  · refine ⟨⟨f1, f2, by show wit p _ ≤ _; omega, fun f hf => ?_, by show (qs (p - 1) ++ [7]).length ≤ _; rw [List.length_append]; simp; omega⟩, by show 1 ≤ wit p _; omega, w.2.1⟩
    rcases List.mem_append.mp hf with z | z
    · exact f4 f z
    · rw [List.mem_singleton.mp z]; omega
  · exact ⟨⟨f1, f2, by show 1 ≤ _; omega, f4, f5⟩, Nat.le_refl _, by show 1 < p; omega⟩
  · exact ⟨⟨by show 1 ≤ p + 2; omega, by show p + 2 ≤ _; omega, by show wit p _ ≤ _; omega, f4, f5⟩, by show 1 ≤ wit p _; omega, by show wit p _ < p + 2; omega⟩
  · refine ⟨⟨f1, f2, by show wit p _ ≤ _; omega, fun f hf => ?_, by show [_, _].length ≤ _; simp⟩, by show 1 ≤ wit p _; omega, w.2.1⟩
    have hf : f ∈ [(p - 1) / 2, 2] := hf
    simp at hf
    rcases hf with rfl | rfl <;> omega
theorem big_prk {m : Nat} (mp : Prm m) (m3 : m ≤ 1000000000000) : ∀ r ∈ bigR m, Prm r.p ∧ ∀ f ∈ r.l, Prm f := fun r hr => by
  obtain ⟨p, hm, rfl⟩ := List.mem_map.mp hr
  obtain ⟨a, b, c⟩ := big_ok mp m3 hm
  exact ⟨a, fun f hf => ((qs_mem (n := p - 1) (by omega) (by omega)).mp hf).1⟩
theorem sub_prk {m : Nat} (mp : Prm m) (m3 : m ≤ 1000000000000) {wh : List RP} (h : ∀ r ∈ wh, r ∈ bigR m) : ∀ r ∈ wh, PrK (wh.map (·.p)) r.l := fun r hr f hf _ => (big_prk mp m3 r (h r hr)).2 f hf
theorem prm7 : Prm 7 := prm_root (w := 2) (by decide) (by decide) fun d a b => by
  have : d = 2 := by omega
  subst this; decide
theorem bent_prk {p r9 : Nat} (h : Prm p) (h1 : 1000 < p) (hn : p ≤ 1000000000000) : ∀ b ∈ bentL p r9, (∀ f ∈ b.l, Prm f) ∨ Prm b.p := fun b hb => by
  have qp : ∀ f ∈ qs (p - 1), Prm f := fun f hf => ((qs_mem (n := p - 1) (by omega) (by omega)).mp hf).1
  simp only [bentL, List.mem_cons, List.not_mem_nil, or_false] at hb
  rcases hb with rfl | rfl | rfl | rfl | rfl | rfl
  · exact .inr h
  · exact .inr h
  · exact .inr h
  · exact .inr h
  · exact .inl qp
  · exact .inr h
theorem whole_prk {m s : Nat} (mp : Prm m) (m3 : m ≤ 1000000000000) {b : RP} (hb : (∀ f ∈ b.l, Prm f) ∨ Prm b.p) : ∀ r ∈ (bigR m).take s ++ [b] ++ (bigR m).drop (s + 1), PrK (((bigR m).take s ++ [b] ++ (bigR m).drop (s + 1)).map (·.p)) r.l := by
  have of : ∀ r ∈ (bigR m).take s ++ [b] ++ (bigR m).drop (s + 1), r ∈ bigR m ∨ r = b := fun r hr => by
    rcases List.mem_append.mp hr with z | z
    · rcases List.mem_append.mp z with z | z
      · exact .inl (List.mem_of_mem_take z)
      · exact .inr (List.mem_singleton.mp z)
    · exact .inl (List.mem_of_mem_drop z)
  intro r hr f hf hk
  rcases of r hr with z | rfl
  · exact (big_prk mp m3 r z).2 f hf
  · rcases hb with q | q
    · exact q f hf
    · obtain ⟨x, hx, rfl⟩ := List.mem_map.mp hk
      rcases of x hx with z | rfl
      · exact (big_prk mp m3 x z).1
      · exact q

variable {P : Program} {w : World} {K : Frg} {T : List (Addr × Str)} {mg : Str → Option Value} {base : Heap} {A0 : Around} {outer : List Env} {s0 : Shared} {H0 : Hp} {E : XK}

theorem segD (Z : GS P w K T mg base) (Tx : Txt K mg) (LB : LamB K base mg T "law") (hr : Room 20 (XL P w K mg base A0 outer s0 H0 E).A)
    (next : ∃ t, PSs (XL P w K mg base A0 outer s0 H0 E) (LBd.drop 9) t ∧ ∀ S0 O A, IL S0 A → RunS ⟨K, T, H0, O⟩ E t A (PF S0)) :
    ∃ t, PSs (XL P w K mg base A0 outer s0 H0 E) (LBd.drop 8) t ∧ ∀ S0 O A, InvR S0 A → RunS ⟨K, T, H0, O⟩ E t A (PF S0) := by
  obtain ⟨t', h', r0'⟩ := next
  have sc := sc_law
  refine ⟨_, (pss_cons (ps_if (pt_cmpR (op_neA hr.units) (pv 5) (pe_tup pa_nil) (nomark _)) (pss_cons (ps_set (i := 12) sc.nd rfl (Or.inl rfl) (pe_callG Z.G__law_roll (hr.mono (by decide)) psE (pa_cons (pv 1) (pa_cons (pe_callB call_len (by rfl) Tx.n_len (by decide +kernel) (pa_cons (pv 5) pa_nil)) pa_nil))))
  (pss_cons (ps_asg (pe_ix ix_seq (pv 5) (pv 12) (fun _ _ => rfl)) (pg_tup rfl (pgs_cons (pg_name (i := 6) sc.nd rfl (Or.inr rfl)) (pgs_cons (pg_name (i := 7) sc.nd rfl (Or.inl rfl)) (pgs_cons (pg_name (i := 8) sc.nd rfl (Or.inr rfl)) pgs_nil)))))
  (pss_cons (ps_set (i := 13) sc.nd rfl (Or.inl rfl) (pe_lst (pa_cons (pe_tup (pa_cons (pv 6) (pa_cons (pe_op op_addA (pe_op op_addA (pv 7) pe_int) (pe_callG Z.G__law_roll (hr.mono (by decide)) psE (pa_cons (pv 1) (pa_cons pe_int pa_nil)))) (pa_cons (pv 8) pa_nil)))) (pa_cons (pe_tup (pa_cons (pv 6) (pa_cons (pv 7) (pa_cons (pe_slice sl_tupA (pv 8) (po_some pe_int) po_none) pa_nil)))) (pa_cons (pe_tup (pa_cons (pv 6) (pa_cons (pv 7) (pa_cons (pe_op op_catA (pv 8) (pe_tup (pa_cons pe_int pa_nil))) pa_nil)))) (pa_cons (pe_tup (pa_cons (pv 6) (pa_cons pe_int (pa_cons (pv 8) pa_nil)))) (pa_cons (pe_tup (pa_cons (pe_op op_addA (pv 6) pe_int) (pa_cons (pv 7) (pa_cons (pv 8) pa_nil)))) (pa_cons (pe_tup (pa_cons (pv 6) (pa_cons (pv 7) (pa_cons (pe_tup (pa_cons (pe_op op_fdivX (pe_op op_sub (pv 6) pe_int) pe_int) (pa_cons pe_int pa_nil))) pa_nil)))) pa_nil))))))))
  (pss_cons (ps_for (passesE) rfl (pi_list (pv 13)) (pg_name (i := 14) sc.nd rfl (Or.inl rfl)) (pss_cons (ps_set (i := 15) sc.nd rfl (Or.inr rfl) (pe_op op_catA (pe_op op_catA (pe_slice sl_tupA (pv 5) po_none (po_some (pv 12))) (pe_tup (pa_cons (pv 14) pa_nil))) (pe_slice sl_tupA (pv 5) (po_some (pe_op op_addA (pv 12) pe_int)) po_none)))
  (pss_one (ps_if (pt_cmpR (op_neA hr.units) (pe_cmpR (op_neA hr.units) (pe_toldN (f := "law") (k := 10) Z.F_told Z.hm_told Tx.gNumberError LB rfl rfl (hr.mono (by decide)) (show LamX.LamS (defScope s_law) _ from LamX.lamS_by (by decide +kernel)) rfl (fun _ _ _ _ _ => rfl) (fun A outer s H E f c' hr => (pe_callG Z.G_check_proof (hr.mono (by decide)) psF (pa_cons (pv 3) (pa_cons (pv 15) pa_nil))))) pe_str (nomark _)) (pe_callG Z.G__law_holds (hr.mono (by decide)) psE (pa_cons (pv 3) (pa_cons (pv 15) pa_nil))) (nomark _)) (pss_one (ps_ret pe_bl)) pss_nil))))
  (pss_cons (ps_set (i := 16) sc.nd rfl (Or.inr rfl) (pe_op op_catA (pe_slice sl_tupA (pv 5) po_none (po_some (pv 12))) (pe_slice sl_tupA (pv 5) (po_some (pe_op op_addA (pv 12) pe_int)) po_none)))
  (pss_cons (ps_if (PW.pt (pw_or (pt_cmpR (op_eqA hr.units) (pe_callG Z.G__law_holds (hr.mono (by decide)) psE (pa_cons (pv 3) (pa_cons (pv 16) pa_nil))) (pe_cmpR (op_eqA hr.units) (pe_toldN (f := "law") (k := 10) Z.F_told Z.hm_told Tx.gNumberError LB rfl rfl (hr.mono (by decide)) (show LamX.LamS (defScope s_law) _ from LamX.lamS_by (by decide +kernel)) rfl (fun _ _ _ _ _ => rfl) (fun A outer s H E f c' hr => (pe_callG Z.G_check_proof (hr.mono (by decide)) psF (pa_cons (pv 3) (pa_cons (pv 16) pa_nil))))) pe_str (nomark _)) (nomark _)) (pw_or1 (pt_cmpR (op_neA hr.units) (pe_toldN (f := "law") (k := 10) Z.F_told Z.hm_told Tx.gNumberError LB rfl rfl (hr.mono (by decide)) (show LamX.LamS (defScope s_law) _ from LamX.lamS_by (by decide +kernel)) rfl (fun _ _ _ _ _ => rfl) (fun A outer s H E f c' hr => (pe_callG Z.G_check_proof (hr.mono (by decide)) psF (pa_cons (pv 3) (pa_cons (pe_op (op_catAK (K := K) rfl) (pv 5) (pe_slice (sl_tupAK (K := K) rfl) (pv 5) po_none (po_some pe_int))) pa_nil))))) pe_str (nomark _))))) (pss_one (ps_ret pe_bl)) pss_nil)
  (pss_cons (ps_set (i := 17) sc.nd rfl (Or.inl rfl) (pe_callTy (cr_dictL rfl) (by rfl) Tx.n_dict (by decide +kernel) (pa_cons (pe_lc (own := [("row", 14)]) rfl sc.nd (pi_tup (pv 5)) (blkOk_by (own := [("row", 14)]) (N := ["script", "dice", "number", "prime", "found", "rows", "one", "told_now", "factors", "least", "k", "factor", "spot", "bent", "row", "whole", "less", "table", "big"]) (sc := defScope s_law) (by decide +kernel)) (fun _ _ _ _ _ => (pg_name (i := 14) sc.nd rfl (Or.inl rfl))) (fun _ _ _ _ _ => pts_nil) (fun _ _ _ _ _ => (pe_tup (pa_cons (pe_ix (ix_seqK (K := K) rfl) (pv 14) pe_int (fun _ _ => rfl)) (pa_cons (pv 14) pa_nil))))) pa_nil)))
  (pss_one (ps_if (PW.pt (pw_or (pt_not (pt_val (pe_callG Z.G_row_holds (hr.mono (by decide)) psE (pa_cons (pv 6) (pa_cons (pv 7) (pa_cons (pv 8) (pa_cons (pv 17) pa_nil))))))) (pw_or1 (pt_val (pe_callG Z.G_row_holds (hr.mono (by decide)) psE (pa_cons (pv 6) (pa_cons (pv 7) (pa_cons (pe_slice sl_tupA (pv 8) (po_some pe_int) po_none) (pa_cons (pv 17) pa_nil))))))))) (pss_one (ps_ret pe_bl)) pss_nil))))))))) pss_nil)
  h'), fun S0 O A hA => ?_⟩
  have r' := r0' S0
  clear r0'
  clear sc hr h'
  try dsimp only [XL, cxOf]
  obtain ⟨d, m, ⟨ln, h0, h1, st, dk⟩, h3, h5, mp, m2⟩ := hA
  obtain ⟨sl, st'⟩ := A
  obtain rfl : st' = _ := st
  obtain ⟨v0, v1, v2, v3, v4, v5, v6, v7, v8, v9, v10, v11, v12, v13, v14, v15, v16, v17, v18, rfl⟩ := exL sl ln
  obtain rfl : _ = v0 := (Option.some.inj h0).symm
  obtain rfl : _ = v1 := (Option.some.inj h1).symm
  obtain rfl : _ = v3 := (Option.some.inj h3).symm
  obtain rfl : _ = v5 := (Option.some.inj h5).symm
  clear ln
  have go : ∀ {A : AS} {P : Po} {t u : TS} {tt : TT}, EvT ⟨K, T, H0, O⟩ tt A false A → RunS ⟨K, T, H0, O⟩ E u A P → RunS ⟨K, T, H0, O⟩ E (tIfS tt t u) A P := fun h h' => r_ifFs h h'

  have m3 : m ≤ 1000000000000 := by omega
  by_cases hne : big m = []
  · refine r_seq (go (t_is (t_test (e_bin (e_var rfl) (e_tup a_nil (by decide)) (o_neN (n := 3) (m := 1) (.tup (nice_rows (big m))) (.tup .nil)))) (by rw [eqv_nilT, hne]; rfl)) (r_next (r' O _ ⟨rfl, rfl, lst1⟩)))
  have hlen := big_len mp m3
  have l0 : 0 < (big m).length := List.length_pos_iff.mpr hne
  have ll : ((big m).map rowD).length = (big m).length := List.length_map ..
  refine r_seq (r_ifT (t_is (t_test (e_bin (e_var rfl) (e_tup a_nil (by decide)) (o_neN (n := 3) (m := 1) (.tup (nice_rows (big m))) (.tup .nil)))) (by rw [eqv_nilT, List.isEmpty_map]; cases h : big m with
    | nil => exact absurd h hne
    | cons => rfl)) ?_)
  have q0 := roll_lt (d := d) (m := ((big m).length : Int)) (by omega)
  have d1 := roll_ok (m := ((big m).length : Int)) dk (by omega)
  obtain ⟨s, hs⟩ : ∃ s : Nat, rollV d ((big m).length : Int) = (s : Int) := ⟨(rollV d ((big m).length : Int)).toNat, by omega⟩
  have sl : s < (big m).length := by omega
  refine r_seq (r_asg (d := dN s) (e_is (e_roll (n := 0) (c := 4) rfl rfl (e_is (e_lenT (e_var rfl)) (by rw [ll])) dk (by decide) (by omega) (sz20 (by omega))) (by rw [hs])) ?_)
  generalize rollD d ((big m).length : Int) = d' at d1
  obtain ⟨p, hp⟩ : ∃ p, (big m)[s]? = some p := ⟨_, List.getElem?_eq_getElem sl⟩
  have hm := List.mem_of_getElem? hp
  obtain ⟨pa, pb, pc⟩ := big_ok mp m3 hm
  obtain ⟨⟨w1, w2, w3, w4⟩, w5⟩ := wit_big pa pb (by omega)
  have y1 : 0 < p - 1 := by omega
  have yn : p - 1 ≤ 1000000000000 := by omega
  have hf := (fine_row pa pb (by omega)).l
  have hf : ∀ f ∈ qs (p - 1), 2 ≤ f ∧ f ≤ 1000000000002 := hf
  have ql := qs_len y1 yn
  refine r_seq (r_tg (e_bin (e_var rfl) (e_var rfl) (o_ixT (d := rowD p) (at_of (by rw [List.getElem?_map, hp]; rfl)))) (tg_tup rfl (tgA_cons tg_name (tgA_cons tg_name (tgA_cons tg_name tgA_nil)))) ?_)
  have q9 := roll_lt (d := d') (m := 9) (by decide)
  have d2 := roll_ok (m := 9) d1 (by decide)
  obtain ⟨r9, hr9⟩ : ∃ r9 : Nat, rollV d' 9 = (r9 : Int) := ⟨(rollV d' 9).toNat, by omega⟩
  have hl1 : 1 ≤ ((qs (p - 1)).map dN).length := by
    rw [List.length_map]
    have : 2 ∈ qs (p - 1) := (qs_mem y1 yn).mpr ⟨prm2, odd_prm pa (by omega)⟩
    exact List.length_pos_of_mem this
  have tl : ((qs (p - 1)).map dN).drop 1 = (qs (p - 1)).tail.map dN := by rw [← List.map_drop, List.drop_one]
  refine r_seq (r_asg (d := .lst ((bentL p r9).map RP.d)) (e_lst (ds := (bentL p r9).map RP.d) (a_cons (e_tup (a_cons (e_var rfl) (a_cons (e_is (e_bin (e_addN (e_var rfl) (e_cN 1)) (e_roll (n := 0) (c := 5) rfl rfl e_c d1 (by decide) (by decide) (sz20 (by decide))) o_add) (show _ = dN (wit p (qs (p - 1)) + 1 + r9) from congrArg di (by rw [hr9]; omega))) (a_cons (e_var rfl) a_nil))) (Nat.le_of_ble_eq_true rfl)) (a_cons (e_tup (a_cons (e_var rfl) (a_cons (e_var rfl) (a_cons (e_is (e_slT (e_var rfl) (o_part (e_cN 1)) o_no) (congrArg Dt.tup ((cut_from hl1).trans tl))) a_nil))) (Nat.le_of_ble_eq_true rfl)) (a_cons (e_tup (a_cons (e_var rfl) (a_cons (e_var rfl) (a_cons (e_is (e_bin (e_var rfl) (e_tup (a_cons (e_cN 7) a_nil) (Nat.le_of_ble_eq_true rfl)) (o_catA (by rw [List.length_map]; simp; omega))) (by rw [List.map_append]; rfl)) a_nil))) (Nat.le_of_ble_eq_true rfl)) (a_cons (e_tup (a_cons (e_var rfl) (a_cons (e_cN 1) (a_cons (e_var rfl) a_nil))) (Nat.le_of_ble_eq_true rfl)) (a_cons (e_tup (a_cons (e_addN (e_var rfl) (e_cN 2)) (a_cons (e_var rfl) (a_cons (e_var rfl) a_nil))) (Nat.le_of_ble_eq_true rfl)) (a_cons (e_tup (a_cons (e_var rfl) (a_cons (e_var rfl) (a_cons (e_tup (a_cons (e_divN (e_subN (e_var rfl) (e_cN 1) (by omega)) (e_cN 2) (fits_of 2 (by decide) (by decide)) (by decide)) (a_cons (e_cN 2) a_nil)) (Nat.le_of_ble_eq_true rfl)) a_nil))) (Nat.le_of_ble_eq_true rfl)) a_nil)))))) (Nat.le_of_ble_eq_true rfl)) ?_)
  have bf := bent_fit pa pb (by omega) (show r9 < 9 by omega)
  have bk := bent_prk (r9 := r9) pa pb (by omega)
  have bl : (bentL p r9).length = 6 := rfl
  generalize bentL p r9 = bs at bf bk bl
  generalize rollD d' 9 = d3 at d2
  have hs1 : s ≤ ((big m).map rowD).length := by omega
  have hs2 : s + 1 ≤ ((big m).map rowD).length := by omega
  have fb := fit_big mp m3
  have rl : (bigR m).length = (big m).length := List.length_map ..
  have lT : ((bigR m).take s).map RP.d = ((big m).map rowD).take s := by rw [List.map_take, bigR_d]
  have lD : ((bigR m).drop (s + 1)).map RP.d = ((big m).map rowD).drop (s + 1) := by rw [List.map_drop, bigR_d]
  have c1 : (((big m).map rowD).take s).length ≤ 40 := by rw [List.length_take]; omega
  have c2 : (((big m).map rowD).drop (s + 1)).length ≤ 40 := by rw [List.length_drop]; omega
  refine r_seq (r_forL (xs := bs.map RP.d) (e_var rfl) (fun i A => ∃ x14 x15, A = ⟨[S0, .own 0, v2, .d (dN m), v4, .d (.tup ((big m).map rowD)), .d (dN p), .d (dN (wit p (qs (p - 1)))), .d (.tup ((qs (p - 1)).map dN)), v9, v10, v11, .d (dN s), .d (.lst (bs.map RP.d)), x14, x15, v16, v17, v18], [.lst d3.ds]⟩) ⟨_, _, rfl⟩ ?_ ?_)
  · rintro i x A hx ⟨x14, x15, rfl⟩
    rw [List.getElem?_map] at hx
    obtain ⟨b, hb, rfl⟩ := Option.map_eq_some_iff.mp hx
    have Fb := bf b (List.mem_of_getElem? hb)
    refine ⟨⟨[S0, .own 0, v2, .d (dN m), v4, .d (.tup ((big m).map rowD)), .d (dN p), .d (dN (wit p (qs (p - 1)))), .d (.tup ((qs (p - 1)).map dN)), v9, v10, v11, .d (dN s), .d (.lst (bs.map RP.d)), .d b.d, x15, v16, v17, v18], [.lst d3.ds]⟩, tg_name, ?_⟩
    have ew : ((big m).map rowD).take s ++ [b.d] ++ ((big m).map rowD).drop (s + 1) = ((bigR m).take s ++ [b] ++ (bigR m).drop (s + 1)).map RP.d := by
      rw [List.map_append, List.map_append, lT, lD]; rfl
    refine r_seq (r_asg (d := .tup (((bigR m).take s ++ [b] ++ (bigR m).drop (s + 1)).map RP.d)) (e_is (e_bin (e_bin (e_is (e_slT (e_var rfl) o_no (o_part (e_var rfl))) (congrArg Dt.tup (cut_to hs1))) (e_tup (a_cons (e_var rfl) a_nil) (Nat.le_of_ble_eq_true rfl)) (o_catA (by rw [List.length_singleton]; omega))) (e_is (e_slT (e_var rfl) (o_part (e_addN (e_var rfl) (e_cN 1))) o_no) (congrArg Dt.tup (cut_from hs2))) (o_catA (by rw [List.length_append, List.length_singleton]; omega))) (congrArg Dt.tup ew)) ?_)
    have ff : ∀ r ∈ (bigR m).take s ++ [b] ++ (bigR m).drop (s + 1), Fit r := fun r hr => by
      rcases List.mem_append.mp hr with z | z
      · rcases List.mem_append.mp z with z | z
        · exact fb r (List.mem_of_mem_take z)
        · rw [List.mem_singleton.mp z]; exact Fb
      · exact fb r (List.mem_of_mem_drop z)
    have fl : ((bigR m).take s ++ [b] ++ (bigR m).drop (s + 1)).length ≤ 60 := by
      rw [List.length_append, List.length_append, List.length_take, List.length_drop, List.length_singleton]; omega
    have fp := whole_prk (s := s) mp m3 (bk b (List.mem_of_getElem? hb))
    generalize (bigR m).take s ++ [b] ++ (bigR m).drop (s + 1) = wh at ff fl fp
    exact go (t_is (t_test (e_bin (e_bin (e_chk (C := ⟨K, T, H0, O⟩) Tx.m (n := m) (rows := wh) (by omega) fl ff fp fun E' => a_cons (e_var rfl) (a_cons (e_var rfl) a_nil)) e_c o_chkNe) (e_call (d := db (holdsB m wh)) (a_cons (e_var rfl) (a_cons (e_var rfl) a_nil)) ⟨m, wh, rfl, by omega, by omega, fun r hr => (ff r hr).f, rfl⟩) (o_ne rfl))) (by simp)) (r_next ⟨_, _, rfl⟩)
  · rintro A ⟨x14, x15, rfl⟩
    have ew : ((big m).map rowD).take s ++ ((big m).map rowD).drop (s + 1) = ((bigR m).take s ++ (bigR m).drop (s + 1)).map RP.d := by
      rw [List.map_append, lT, lD]
    refine r_seq (r_asg (d := .tup (((bigR m).take s ++ (bigR m).drop (s + 1)).map RP.d)) (e_is (e_bin (e_is (e_slT (e_var rfl) o_no (o_part (e_var rfl))) (congrArg Dt.tup (cut_to hs1))) (e_is (e_slT (e_var rfl) (o_part (e_addN (e_var rfl) (e_cN 1))) o_no) (congrArg Dt.tup (cut_from hs2))) (o_catA (by omega))) (congrArg Dt.tup ew)) ?_)
    have ff : ∀ r ∈ (bigR m).take s ++ (bigR m).drop (s + 1), Fit r := fun r hr => by
      rcases List.mem_append.mp hr with z | z
      · exact fb r (List.mem_of_mem_take z)
      · exact fb r (List.mem_of_mem_drop z)
    have fl : ((bigR m).take s ++ (bigR m).drop (s + 1)).length ≤ 60 := by
      rw [List.length_append, List.length_take, List.length_drop]; omega
    have fp := sub_prk (wh := (bigR m).take s ++ (bigR m).drop (s + 1)) mp m3 fun r hr => by
      rcases List.mem_append.mp hr with z | z
      · exact List.mem_of_mem_take z
      · exact List.mem_of_mem_drop z
    have fp2 := sub_prk (wh := bigR m ++ (bigR m).take 1) mp m3 fun r hr => by
      rcases List.mem_append.mp hr with z | z
      · exact z
      · exact List.mem_of_mem_take z
    generalize (bigR m).take s ++ (bigR m).drop (s + 1) = wh at ff fl fp
    have c3 : cutL ((big m).map rowD) none (some ((1 : Nat) : Int)) = ((big m).map rowD).take 1 := cut_to (by omega)
    have e3 : (big m).map rowD ++ ((big m).map rowD).take 1 = (bigR m ++ (bigR m).take 1).map RP.d := by rw [List.map_append, List.map_take, bigR_d]
    have ff2 : ∀ r ∈ bigR m ++ (bigR m).take 1, Fit r := fun r hr => by
      rcases List.mem_append.mp hr with z | z
      · exact fb r z
      · exact fb r (List.mem_of_mem_take z)
    have fl2 : (bigR m ++ (bigR m).take 1).length ≤ 60 := by rw [List.length_append, List.length_take]; omega
    have tw := twice (n := m) (rows := bigR m) (fun z => hne (by have := congrArg List.length z; rw [rl] at this; exact List.length_eq_zero_iff.mp this))
    refine r_seq (go (t_orF (t_is (t_test (e_bin (e_call (d := db (holdsB m wh)) (a_cons (e_var rfl) (a_cons (e_var rfl) a_nil)) ⟨m, wh, rfl, by omega, by omega, fun r hr => (ff r hr).f, rfl⟩) (e_bin (e_chk (C := ⟨K, T, H0, O⟩) Tx.m (n := m) (rows := wh) (by omega) fl ff fp fun E' => a_cons (e_var rfl) (a_cons (e_var rfl) a_nil)) e_c o_chkEq) (o_eq rfl))) (by cases holdsB m wh <;> rfl)) (t_is (t_test (e_bin (e_chk (C := ⟨K, T, H0, O⟩) Tx.m (n := m) (rows := bigR m ++ (bigR m).take 1) (by omega) fl2 ff2 fp2 fun E' => a_cons (e_var rfl) (a_cons (e_is (e_bin (e_var rfl) (e_is (e_slT (e_var rfl) o_no (o_part (e_cN 1))) (congrArg Dt.tup c3)) (o_catA (by rw [List.length_take]; omega))) (congrArg Dt.tup e3)) a_nil)) e_c o_chkNe)) tw)) (r_next ?_))
    refine r_seq (r_asg (d := dD (kv (big m))) (e_is (e_dictL (kvs := kv (big m)) (a_cons (e_is (e_lcT (xs := (big m).map rowD) (e_var rfl) (fun i => ⟨[S0, .own 0, v2, .d (dN m), v4, .d (.tup ((big m).map rowD)), .d (dN p), .d (dN (wit p (qs (p - 1)))), .d (.tup ((qs (p - 1)).map dN)), v9, v10, v11, .d (dN s), .d (.lst (bs.map RP.d)), s5 x14 i, x15, .d (.tup (wh.map RP.d)), v17, v18], [.lst d3.ds]⟩) (fun i => ((big m).take i).map fun p => Dt.tup [dN p, rowD p]) rfl rfl (fun i x hx O' => ?t1) (by omega)) (by rw [ll, List.take_of_length_le (Nat.le_refl _), kv_map])) a_nil)) (by rw [mergeD_nd (kv_nd big_nd)])) ?_)
    case t1 =>
      rw [List.getElem?_map] at hx
      obtain ⟨x, hq, rfl⟩ := Option.map_eq_some_iff.mp hx
      refine ⟨⟨[S0, .own 0, v2, .d (dN m), v4, .d (.tup ((big m).map rowD)), .d (dN p), .d (dN (wit p (qs (p - 1)))), .d (.tup ((qs (p - 1)).map dN)), v9, v10, v11, .d (dN s), .d (.lst (bs.map RP.d)), .d (rowD x), x15, .d (.tup (wh.map RP.d)), v17, v18], [.lst d3.ds]⟩, true, _, tgS_name (by simp), t_yes, .inl ⟨rfl, _, _, e_tup (a_cons (e_bin (e_var rfl) e_c (o_ixT (d := dN x) rfl)) (a_cons (e_var rfl) a_nil)) (Nat.le_of_ble_eq_true rfl), ?_, rfl⟩⟩
      rw [List.take_add_one, hq, List.map_append]; rfl
    show RunS _ _ _ ⟨[S0, .own 0, v2, .d (dN m), v4, .d (.tup ((big m).map rowD)), .d (dN p), .d (dN (wit p (qs (p - 1)))), .d (.tup ((qs (p - 1)).map dN)), v9, v10, v11, .d (dN s), .d (.lst (bs.map RP.d)), _, x15, .d (.tup (wh.map RP.d)), .d (dD (kv (big m))), v18], [.lst d3.ds]⟩ _
    generalize s5 x14 _ = z14
    obtain ⟨g1, g2⟩ := row_good mp m3 hm
    refine go (t_orF (t_is (t_not (t_B (e_call (a_cons (e_var rfl) (a_cons (e_var rfl) (a_cons (e_var rfl) (a_cons (e_var rfl) a_nil)))) ⟨p, wit p (qs (p - 1)), qs (p - 1), _, big m, rfl, kv_keys _, pb, by omega, by omega, by omega, hf, fun f h _ => ((qs_mem y1 yn).mp h).1, rfl⟩))) (by rw [g1, g2]; rfl)) (t_is (t_B (e_call (a_cons (e_var rfl) (a_cons (e_var rfl) (a_cons (e_is (e_slT (e_var rfl) (o_part (e_cN 1)) o_no) (congrArg Dt.tup ((cut_from hl1).trans tl))) (a_cons (e_var rfl) a_nil)))) ⟨p, wit p (qs (p - 1)), (qs (p - 1)).tail, _, big m, rfl, kv_keys _, pb, by omega, by omega, by rw [List.length_tail]; omega, fun f h => hf f (List.mem_of_mem_tail h), fun f h _ => ((qs_mem y1 yn).mp (List.mem_of_mem_tail h)).1, rfl⟩)) ?_)) (r_next (r' O _ ⟨rfl, rfl, lst1⟩))
    have := cut_row (told := big m) pa pb (by omega)
    simp [this]

end Law
end

section
set_option Elab.async false
set_option linter.all false
set_option maxRecDepth 100000
set_option maxHeartbeats 4000000
set_option autoImplicit false
set_option exponentiation.threshold 300
namespace Law
open PySem PySem.Spec PyProof.Rows L2 Py Mt Pm

local macro_rules | `(tactic| wtm_at "op") => `(tactic| first
  | with_reducible exact o_I0 | with_reducible exact o_add | with_reducible exact o_eqI | with_reducible exact o_neI
  | ((with_reducible apply o_mul); first | assumption | wtm_at "si")
  | ((with_reducible apply o_I); first | assumption | wtm_at "si")
  | ((with_reducible apply o_ixT); rfl) | ((with_reducible apply o_ixL); rfl)
  | ((with_reducible apply o_eqD) <;> first | rfl | decide | assumption) | ((with_reducible apply o_neD) <;> first | rfl | decide | assumption)
  | with_reducible assumption)
local macro_rules | `(tactic| wtm_at "si") => `(tactic| first | decide | exact ⟨by decide, by decide +kernel⟩ | omega)
local macro_rules | `(tactic| wtm_at "ev") => `(tactic| first
  | ((with_reducible apply e_var); rfl) | with_reducible exact e_c | with_reducible exact a_nil
  | ((with_reducible apply a_cons) <;> wtm_at "ev")
  | ((with_reducible apply e_bin) <;> first | wtm_at "ev" | wtm_at "op")
  | ((with_reducible apply e_ixO) <;> first | rfl | wtm_at "ev")
  | ((with_reducible apply e_U) <;> wtm_at "ev")
  | ((with_reducible apply t_test) <;> wtm_at "ev")
  | ((with_reducible apply t_B) <;> wtm_at "ev")
  | ((with_reducible apply t_not) <;> wtm_at "ev")
  | ((with_reducible apply e_tup) <;> first | wtm_at "ev" | exact Nat.le_of_ble_eq_true rfl)
  | ((with_reducible apply e_lst) <;> first | wtm_at "ev" | exact Nat.le_of_ble_eq_true rfl)
  | ((with_reducible apply e_gcd) <;> wtm_at "ev")
  | ((with_reducible apply e_abs) <;> wtm_at "ev")
  | ((with_reducible apply e_max2) <;> wtm_at "ev")
  | ((with_reducible apply e_int) <;> wtm_at "ev")
  | ((with_reducible apply e_intB) <;> wtm_at "ev")
  | ((with_reducible apply e_bits) <;> wtm_at "ev")
  | ((with_reducible apply e_not) <;> wtm_at "ev")
  | with_reducible assumption)

variable {P : Program} {w : World} {K : Frg} {T : List (Addr × Str)} {mg : Str → Option Value} {base : Heap}
def sp_law : List Dt → Rs → Prop := fun dl r => ∃ ns : List Int, dl = [.lst (ns.map di)] ∧ ns.length ≤ 63 ∧ (∀ z ∈ ns, Sz 1048576 z) ∧ r = .ok (db true)
theorem runS_pf {C : Ct} {E : XK} {t : TS} {A : AS} {S0 : SD} {M : AS → Prop} {P : Po} (h : RunS C E t A (PF S0)) (k : ∀ A', IL S0 A' → M A') : RunS C E t A { P with nx := M, ct := M, bk := M } := fun os σ H D o T =>
  h os σ H D o ⟨fun os1 A1 σ1 H1 m => T.nx os1 A1 σ1 H1 (k A1 m), fun _ _ _ _ _ _ z => z.elim, fun os1 A1 σ1 H1 m => T.bk os1 A1 σ1 H1 (k A1 m), fun os1 A1 σ1 H1 m => T.ct os1 A1 σ1 H1 (k A1 m), fun _ _ z => z.elim⟩
theorem seg_all (Z : GS P w K T mg base) (Tx : Txt K mg) (LB : LamB K base mg T "law") {A0 : Around} {outer : List Env} {s0 : Shared} {H0 : Hp} {E : XK} (hr : Room 20 (XL P w K mg base A0 outer s0 H0 E).A) :
    ∃ t, PSs (XL P w K mg base A0 outer s0 H0 E) (LBd.drop 0) t ∧ ∀ S0 O A, Inv0 S0 A → RunS ⟨K, T, H0, O⟩ E t A (PF S0) :=
  (segA Z Tx LB hr (segB Z Tx LB hr (segC Z Tx LB hr (segD Z Tx LB hr ⟨_, pss_nil, fun S0 O A h => r_next h⟩))))
theorem ok_law (Z : GS P w K T mg base) (Tx : Txt K mg) (LB : LamB K base mg T "law") {fd : FuncData} (F : FunD K "law" "law" (defArgs s_law) (defBody s_law) (defScope s_law) [] [] (He.ga K "law") fd) :
    FnOk P w K mg base (L2.CX P w) 21 (He.ga K "law") fd ["script"] (spD0 K T sp_law) := by
  refine mkFL0 F sc_law (fun dl r h => ?len) (fun A outer s H E hr => ?body)
  case len => (obtain ⟨_, rfl, _⟩ := h; rfl)
  case body =>
    obtain ⟨tb, hb, rb⟩ := seg_all Z Tx LB hr
    have sc := sc_law
    have hb' : PSs (cxOf (L2.CX P w) P w K mg base NL "law" (defScope s_law) (He.ga K "law") (.ref (He.cT K ("law", none)).1) A outer s H E) LBd tb := hb
    refine ⟨_, (pss_cons (ps_for (passesE) rfl (pi_list (pe_callG Z.G__law_rounds (hr.mono (by decide)) psE (pa_cons (pv 0) (pa_cons pe_int pa_nil)))) (pg_name (i := 1) sc.nd rfl (Or.inl rfl)) hb') (pss_cons (ps_for (passesE) rfl (pi_list (pe_lst (pa_cons pe_int (pa_cons pe_int (pa_cons pe_int pa_nil))))) (pg_name (i := 18) sc.nd rfl (Or.inr rfl)) (pss_one (ps_if (pt_cmpR op_notN (pe_toldN (f := "law") (k := 10) Z.F_told Z.hm_told Tx.gNumberError LB rfl rfl (hr.mono (by decide)) (show LamX.LamS (defScope s_law) _ from LamX.lamS_by (by decide +kernel)) rfl (fun _ _ _ _ _ => rfl) (fun A outer s H E f c' hr => (pe_callG Z.G_check_proof (hr.mono (by decide)) psF (pa_cons (pv 18) (pa_cons (pe_callG Z.G_prime_proof (hr.mono (by decide)) psF (pa_cons (pv 18) pa_nil)) pa_nil))))) pe_non (nomark _)) (pss_one (ps_ret pe_bl)) pss_nil))) (pss_one (ps_ret (pe_and (pe_cmpR (op_eqA hr.units) (pe_toldN (f := "law") (k := 10) Z.F_told Z.hm_told Tx.gNumberError LB rfl rfl (hr.mono (by decide)) (show LamX.LamS (defScope s_law) _ from LamX.lamS_by (by decide +kernel)) rfl (fun _ _ _ _ _ => rfl) (fun A outer s H E f c' hr => (pe_callG Z.G_prime_proof (hr.mono (by decide)) psF (pa_cons (pe_op op_mulA pe_int pe_int) pa_nil)))) pe_str (nomark _)) (pe_one (pe_cmpR (op_eqA hr.units) (pe_callG Z.G_prime_proof (hr.mono (by decide)) psE (pa_cons pe_int pa_nil)) (pe_tup pa_nil) (nomark _)))))))), fun dl r hg => ?_⟩
    clear sc hr hb hb'
    try dsimp only [cxOf]
    obtain ⟨ns, rfl, hl, hz, rfl⟩ := hg
    have dk : DOk 0 (mkDice (ns.headD 0)) := mkDice_ok (by
      cases ns with
      | nil => show (0 : Int).natAbs < _; exact Nat.pow_pos (by decide)
      | cons a r => exact hz a (List.mem_cons_self ..))
    refine r_seq (r_rounds (i := 0) (ns := ns) rfl hl hz ?_)
    have go := rb (.d (.lst (ns.map di))) [] ((start NL [.lst (ns.map di)]).newO 1 (mkDice (ns.headD 0)).ds) ⟨mkDice (ns.headD 0), rfl, rfl, rfl, rfl, dk⟩
    refine runS_pf go ?_
    rintro A' ⟨ln, h0, hst⟩
    obtain ⟨sl, st⟩ := A'
    obtain ⟨v0, v1, v2, v3, v4, v5, v6, v7, v8, v9, v10, v11, v12, v13, v14, v15, v16, v17, v18, rfl⟩ := exL sl ln
    obtain rfl : _ = v0 := (Option.some.inj h0).symm
    clear h0 ln go hst
    refine r_seq (r_forL (xs := [dN 1000003, dN 998244353, dN 1000000007]) (e_lst (a_cons e_c (a_cons e_c (a_cons e_c a_nil))) (Nat.le_of_ble_eq_true rfl)) (fun i A => ∃ x, A = ⟨[.d (.lst (ns.map di)), v1, v2, v3, v4, v5, v6, v7, v8, v9, v10, v11, v12, v13, v14, v15, v16, v17, x], st⟩) ⟨_, rfl⟩ ?_ ?_)
    · rintro i y A hx ⟨x, rfl⟩
      obtain ⟨b, rfl, pb, b2⟩ : ∃ b : Nat, y = dN b ∧ Prm b ∧ b ≤ 1000000000000 := by
        match i, hx with
        | 0, hx => cases hx; exact ⟨1000003, rfl, prm_m, by decide⟩
        | 1, hx => cases hx; exact ⟨998244353, rfl, big_a, by decide⟩
        | 2, hx => cases hx; exact ⟨1000000007, rfl, big_b, by decide⟩
        | i + 3, hx => simp at hx
      refine ⟨⟨[.d (.lst (ns.map di)), v1, v2, v3, v4, v5, v6, v7, v8, v9, v10, v11, v12, v13, v14, v15, v16, v17, .d (dN b)], st⟩, tg_name, ?_⟩
      exact r_ifFs (t_test (e_bin (e_toldOk (C := ⟨K, T, H, []⟩) fun E' => e_call (C := ⟨K, T, H, []⟩) (a_cons (e_var rfl) (a_cons (e_call (C := ⟨K, T, H, []⟩) (a_cons (e_var rfl) a_nil) ⟨b, rfl, b2, (proofR_t pb).symm⟩) a_nil)) (check_ok pb b2)) e_c (o_notNone (.inl ⟨rfl, rfl⟩)))) (r_next ⟨_, rfl⟩)
    · rintro A ⟨x, rfl⟩
      refine r_ret (d := db true) (e_andT (e_bin (e_toldErr (C := ⟨K, T, H, []⟩) Tx.m fun E' => x_call (C := ⟨K, T, H, []⟩) (a_cons (e_mulN (e_cN 1001) (e_cN 1009) (fits_of 10 (by decide) (by decide)) (fits_of 10 (by decide) (by decide))) a_nil) ⟨1001 * 1009, rfl, by decide, (proofR_f not_c).symm⟩) e_c (o_eq rfl)) (e_bin (e_is (e_call (d := .tup ((big 997).map rowD)) (a_cons (e_cN 997) a_nil) ⟨997, rfl, by decide, (proofR_t prm_997).symm⟩) (show _ = Dt.tup [] by rw [big_997]; rfl)) (e_tup a_nil (by decide)) (o_eqSame (n := 1) (.tup .nil)))) rfl
end Law
end

section
set_option Elab.async false
set_option linter.all false
set_option maxRecDepth 100000
set_option maxHeartbeats 4000000
set_option autoImplicit false
set_option exponentiation.threshold 300
namespace Law
open PySem PySem.Spec PyProof.Rows L2 Py Mt

section
variable {P : Program} {w : World} {K : Frg} {T : List (Addr × Str)} {mg : Str → Option Value} {base : Heap}

theorem ok_power_by2 (X : Txt K mg) (F : ∃ fd, FunD K "power_by" "power_by" (defArgs s_power_by) (defBody s_power_by) (defScope s_power_by) [] [] (He.ga K "power_by") fd) (hm : mg "power_by" = some (.ref (He.ga K "power_by"))) (B_power_by : LamB K base mg T "power_by") (F_repeated : ∃ fd, FunD K "repeated" "repeated" (defArgs s_repeated) (defBody s_repeated) (defScope s_repeated) [] [] (He.ga K "repeated") fd) (h_repeated : mg "repeated" = some (.ref (He.ga K "repeated"))) : Gd P w K mg base "power_by" ["number", "exponent", "base"] 3 (spD K T (sp_powBy K)) := by
  exact ok_power_by X F hm B_power_by F_repeated h_repeated
end
end Law
end

section
set_option Elab.async false
set_option linter.all false
set_option maxRecDepth 100000
set_option maxHeartbeats 4000000
set_option autoImplicit false
namespace Py
open PySem PySem.Spec PyProof.Rows L2
variable {X : Cx}
/-- a block's end: what it made goes to a local name -/
theorem named_end {pins : List (Addr × Obj)} {σ : L2.St} {H' : Hp} {s' : Shared} {D : Ends} {i : Nat} {y : Str} {py : Pos} {L B : Addr} {m : Str → Option Value} (hN : X.N.Nodup) (hy : X.N[i]? = some y) (hyl : X.env.scope.names.lookup y = some .local)
    (I : Inv X pins σ H' s') (q : gName i (.ref L) σ H' D.nx) (hn : s'.heap.Ns B m) (f : FpOk X pins H' B) : compPost (model X.prog X.w) X.A X.xe (some (assign (.Name y py) X.env)) (fun _ z => SP X pins D .next z) (.ref L) B (.ok .next) s' := by
  obtain ⟨b0, b1, _, b3, b4, b5⟩ := id f
  show wpAny _ _ (assign (Expr.Name y py) X.env (Value.ref L)) _ _ _
  apply wpAny_assign_Name
  refine store_ok2 (v := V.ref L) I hN hy (Or.inl hyl) rfl ?_ (Or.inr hyl)
  rintro z J ⟨c, same, whose⟩
  have apart : B ≠ c := fun e => by
    rcases whose with w | w
    · exact b1 (e.trans w)
    · exact b4 y c w e.symm
  refine ⟨m, hn.sameBut same apart, fun _ left => ⟨_, H', ?_, q⟩⟩
  exact J.turned (t' := z.toks) (fun d o hd e => (left.2 d hd).trans e) b0 b1 b3 b4 b5
/-- x = {k: v for ..}, x a local name -/
theorem ps_setDc {i : Nat} {y : Str} {py : Pos} {kx vx tg iter : Expr} {ifs : List Expr} {scope : Scope} {own : List (Str × Nat)} {pos spos : Pos} {wi : TI} {g : TG} {tt : TT} {tk tv : TE} (calm : X.calm = true) (hN : X.N.Nodup) (hy : X.N[i]? = some y) (hyl : X.env.scope.names.lookup y = some .local)
    (hsw : swapsWith (.DictComp kx vx [⟨tg, iter, ifs, 0⟩] scope pos) (some (.Name y py)) spos.line X.env = pure true) (over : PI X tg iter wi) (ok : BlkOk X.N X.env.scope scope own)
    (tgt : ∀ (s : Shared) (H : Hp) (B : Addr) (cells : List (Str × Addr)) (fp : List Addr), PG (X.blk s H scope (compEnvC scope cells B X.env) fp) tg g) (tests : ∀ (s : Shared) (H : Hp) (B : Addr) (cells : List (Str × Addr)) (fp : List Addr), PTs (X.blk s H scope (compEnvC scope cells B X.env) fp) ifs tt)
    (key : ∀ (s : Shared) (H : Hp) (B : Addr) (cells : List (Str × Addr)) (fp : List Addr), PE (X.blk s H scope (compEnvC scope cells B X.env) fp) kx tk)
    (val : ∀ (s : Shared) (H : Hp) (B : Addr) (cells : List (Str × Addr)) (fp : List Addr), PE (X.blk s H scope (compEnvC scope cells B X.env) fp) vx tv) (fold : ∀ x, foldedSetIterable iter X.env x = pure x := by intro _; rfl) :
    PS X (.Assign [.Name y py] (.DictComp kx vx [⟨tg, iter, ifs, 0⟩] scope pos) spos) (tAsg (tDc wi g tt tk tv (own.map (·.2))) (gName i)) where
  run pins s σ H D I h := by
    rw [exec_Assign_Name_used _ _ _ _ hsw]
    apply wpAny_bind
    apply wpAny_standAt
    apply wpAny_bind
    have gives : tDc wi g tt tk tv (own.map (·.2)) σ H fun x H1 => gName i x σ H1 D.nx := h
    have made := dc_core (pos := pos) (pos' := firstIterPos [⟨tg, iter, ifs, 0⟩] pos) (use := some (assign (.Name y py) X.env)) (Qf := fun _ z => SP X pins D .next z) calm hN I over ok tgt tests key val fold gives fun _ _ _ _ _ J q hn f => named_end hN hy hyl J q hn f
    show wpAny _ X.A (comprehension (.DictComp kx vx [⟨tg, iter, ifs, 0⟩] scope pos) scope X.env _ newDict false (eval iter X.env) (some (assign (.Name y py) X.env)) >>= fun _ => _) _ _ s
    exact wpAny_bind (thn made fun _ _ e => wpAny_pure (wpAny_pure e))
/-- such a dict is made before the name is given away -/
theorem sw_trueD {kx vx : Expr} {gs : List Comprehension} {scope : Scope} {pos py : Pos} {y : Str} {l : Nat} {env : Env} (isF : env.scope.kind = .function) (isL : env.scope.names.lookup y = some .local) (line : (py.line == pos.line) = true)
    (notIn : (scope.names.any fun (n, k) => n == y && (k == .local || k == .cell)) = false) : swapsWith (.DictComp kx vx gs scope pos) (some (.Name y py)) l env = pure true := by
  have here : env.blockKind = .function := by
    unfold Env.blockKind
    rw [isF]
    rfl
  have kind : env.kindOf y = some .local := isL
  unfold swapsWith
  simp only [here, kind, notIn, Expr.pos, line]
  rfl
end Py
end

section
set_option Elab.async false
set_option linter.all false
set_option maxRecDepth 100000
set_option maxHeartbeats 4000000
set_option autoImplicit false
set_option exponentiation.threshold 300
namespace Law
open PySem PySem.Spec PyProof.Rows L2 Py Mt Pm

local macro_rules | `(tactic| wtm_at "op") => `(tactic| first
  | with_reducible exact o_I0 | with_reducible exact o_add | with_reducible exact o_eqI | with_reducible exact o_neI
  | ((with_reducible apply o_mul); first | assumption | wtm_at "si")
  | ((with_reducible apply o_I); first | assumption | wtm_at "si")
  | ((with_reducible apply o_ixT); rfl) | ((with_reducible apply o_ixL); rfl)
  | ((with_reducible apply o_eqD) <;> first | rfl | decide | assumption) | ((with_reducible apply o_neD) <;> first | rfl | decide | assumption)
  | with_reducible assumption)
local macro_rules | `(tactic| wtm_at "si") => `(tactic| first | decide | exact ⟨by decide, by decide +kernel⟩ | omega)
local macro_rules | `(tactic| wtm_at "ev") => `(tactic| first
  | ((with_reducible apply e_var); rfl) | with_reducible exact e_c | with_reducible exact a_nil
  | ((with_reducible apply a_cons) <;> wtm_at "ev")
  | ((with_reducible apply e_bin) <;> first | wtm_at "ev" | wtm_at "op")
  | ((with_reducible apply e_ixO) <;> first | rfl | wtm_at "ev")
  | ((with_reducible apply e_U) <;> wtm_at "ev")
  | ((with_reducible apply t_test) <;> wtm_at "ev")
  | ((with_reducible apply t_B) <;> wtm_at "ev")
  | ((with_reducible apply t_not) <;> wtm_at "ev")
  | ((with_reducible apply e_tup) <;> first | wtm_at "ev" | exact Nat.le_of_ble_eq_true rfl)
  | ((with_reducible apply e_lst) <;> first | wtm_at "ev" | exact Nat.le_of_ble_eq_true rfl)
  | ((with_reducible apply e_gcd) <;> wtm_at "ev")
  | ((with_reducible apply e_abs) <;> wtm_at "ev")
  | ((with_reducible apply e_max2) <;> wtm_at "ev")
  | ((with_reducible apply e_int) <;> wtm_at "ev")
  | ((with_reducible apply e_intB) <;> wtm_at "ev")
  | ((with_reducible apply e_bits) <;> wtm_at "ev")
  | ((with_reducible apply e_not) <;> wtm_at "ev")
  | with_reducible assumption)

section
variable {P : Program} {w : World} {K : Frg} {T : List (Addr × Str)} {mg : Str → Option Value} {base : Heap}

abbrev s_check_proof : Stmt := top 17
theorem sc_check_proof : FnScope ["number", "rows", "told", "row", "prime", "one", "factors"] ["number", "rows"] (defScope s_check_proof) := ⟨rfl, rfl, rfl, by decide +kernel, rfl, by decide +kernel, by decide +kernel⟩
abbrev s_row_holds : Stmt := top 18
theorem sc_row_holds : FnScope ["prime", "one", "factors", "told"] ["prime", "one", "factors", "told"] (defScope s_row_holds) := ⟨rfl, rfl, rfl, by decide +kernel, rfl, by decide +kernel, by decide +kernel⟩
theorem keys_any {kvs : KD} {ks : List Nat} (h : KeysN kvs ks) (n : Nat) : (kvs.any fun kv => decide (kv.1 = Sum.inl (n : Int))) = decide (n ∈ ks) := by
  have e : (kvs.any fun kv => decide (kv.1 = Sum.inl (n : Int))) = (kvs.map (·.1)).any fun k => decide (k = Sum.inl (n : Int)) := by rw [List.any_map]; rfl
  rw [e, h, List.any_map]
  clear e h
  induction ks with
  | nil => rfl
  | cons a r ih =>
    rw [List.any_cons, ih]
    show (decide ((Sum.inl (a : Int) : Key) = Sum.inl (n : Int)) || decide (n ∈ r)) = decide (n ∈ a :: r)
    by_cases e : a = n
    · subst e; simp
    · have e1 : ¬ ((Sum.inl (a : Int) : Key) = Sum.inl (n : Int)) := fun z => e (by have := Sum.inl.inj z; omega)
      rw [decide_eq_false e1, Bool.false_or, decide_eq_decide, List.mem_cons]
      exact ⟨fun h => .inr h, fun h => h.resolve_left fun z => e z.symm⟩
def kvR (rows : List RP) : KD := rows.map fun r => (Sum.inl (r.p : Int), r.d)
theorem kvR_keys (rows : List RP) : KeysN (kvR rows) (rows.map (·.p)) := by unfold KeysN kvR; rw [List.map_map, List.map_map]; rfl
theorem merge_next (l : KD) (k : Key) (d : Dt) (acc : KD) : mergeD acc (l ++ [(k, d)]) = putD (mergeD acc l) k d := by
  unfold mergeD
  rw [List.foldl_append]; rfl
theorem nd_keys (l : List Nat) : (l.map fun (x : Nat) => (Sum.inl (x : Int) : Key)).Nodup ↔ l.Nodup := by
  induction l with
  | nil => simp
  | cons a r ih =>
    rw [List.map_cons, List.nodup_cons, List.nodup_cons, ih]
    have : (Sum.inl (a : Int) : Key) ∈ r.map (fun (x : Nat) => (Sum.inl (x : Int) : Key)) ↔ a ∈ r := by
      rw [List.mem_map]
      constructor
      · rintro ⟨x, hx, e⟩
        have : x = a := by have := Sum.inl.inj e; omega
        rw [← this]; exact hx
      · intro h; exact ⟨a, h, rfl⟩
    rw [this]
/-- what the looks of the program say of a row, and what the law's say -/
theorem row_eq {ks : List Nat} {r : RP} (h1 : 1 ≤ r.w) (h2 : r.w < r.p) : rowB ks r = (decide (1000 < r.p) && ((partsF ks r.l (r.p - 1) == some 1) && witB r.p r.w r.l)) := by
  unfold rowB
  by_cases h : 1000 < r.p
  case neg => rw [decide_eq_false h]; rfl
  rw [decide_eq_true h, Bool.true_and, Bool.true_and]
  by_cases c : 1 < r.w
  · rw [decide_eq_true (p := 1 < r.w ∧ r.w < r.p) ⟨c, h2⟩, Bool.and_true]
  · rw [decide_eq_false (p := 1 < r.w ∧ r.w < r.p) fun z => c z.1, Bool.and_false, Bool.false_and]
    have w1 : r.w = 1 := by omega
    cases hl : r.l with
    | nil =>
      rw [partsF]
      have : (some (r.p - 1) == some 1) = false := by simp; omega
      rw [this]; rfl
    | cons f t =>
      have : witB r.p r.w (f :: t) = false := by
        unfold witB
        rw [w1, Nat.one_pow, Nat.mod_eq_of_lt (by omega), List.all_cons, Nat.one_pow, Nat.mod_eq_of_lt (by omega)]; rfl
      rw [this, Bool.and_false]

theorem ok_row_holds (X : Txt K mg) (F : ∃ fd, FunD K "row_holds" "row_holds" (defArgs s_row_holds) (defBody s_row_holds) (defScope s_row_holds) [] [] (He.ga K "row_holds") fd) (hm : mg "row_holds" = some (.ref (He.ga K "row_holds"))) (G_parts_all : Gd P w K mg base "parts_all" ["number", "factors", "told"] 2 (spD K T sp_parts)) (G_is_witness : Gd P w K mg base "is_witness" ["prime", "one", "factors"] 4 (spD K T sp_isw)) : Gd P w K mg base "row_holds" ["prime", "one", "factors", "told"] 6 (spD K T sp_rowh) := by
  have Tx := X
  refine mkG F hm sc_row_holds (fun _ _ _ _ _ _ us hl => match us, hl with | [_, _, _, _], _ => rfl) (fun ds r h => ?len) (fun cdv A outer s H E hr => ?body)
  case len => (obtain ⟨_, _, _, _, _, rfl, _⟩ := h; rfl)
  case body =>
    have sc := sc_row_holds
    refine ⟨_, (pss_one (ps_ret (pe_and (pe_callG G_parts_all (hr.mono (by decide)) psE (pa_cons (pe_op op_sub (pv 0) pe_int) (pa_cons (pv 2) (pa_cons (pv 3) pa_nil)))) (pe_one (pe_callG G_is_witness (hr.mono (by decide)) psE (pa_cons (pv 0) (pa_cons (pv 1) (pa_cons (pv 2) pa_nil)))))))), fun O ds r hg => ?_⟩
    clear sc hr
    try dsimp only [cxOf]

    obtain ⟨p, b, l, kvs, ks, rfl, hk, h1, h2, h3, hl, hf, hp, rfl⟩ := hg
    refine r_ret (e_and (e_call (a_cons (e_subN (e_var rfl) (e_cN 1) (by omega)) (a_cons (e_var rfl) (a_cons (e_var rfl) a_nil))) ⟨p - 1, l, kvs, ks, rfl, hk, by omega, by omega, hl, hf, hp, rfl⟩) fun _ => e_call (a_cons (e_var rfl) (a_cons (e_var rfl) (a_cons (e_var rfl) a_nil))) ⟨p, b, l, rfl, by omega, h2, fun q hq => ⟨by have := (hf q hq).1; omega, (hf q hq).2⟩, hl, rfl⟩) rfl

theorem ok_check_proof (X : Txt K mg) (F : ∃ fd, FunD K "check_proof" "check_proof" (defArgs s_check_proof) (defBody s_check_proof) (defScope s_check_proof) [] [] (He.ga K "check_proof") fd) (hm : mg "check_proof" = some (.ref (He.ga K "check_proof"))) (G_is_little_prime : Gd P w K mg base "is_little_prime" ["number"] 1 (spD K T sp_little)) (G_row_holds : Gd P w K mg base "row_holds" ["prime", "one", "factors", "told"] 6 (spD K T sp_rowh)) : Gd P w K mg base "check_proof" ["number", "rows"] 8 (spD K T (sp_check K)) := by
  have Tx := X
  refine mkG F hm sc_check_proof (fun _ _ _ _ _ _ us hl => match us, hl with | [_, _], _ => rfl) (fun ds r h => ?len) (fun cdv A outer s H E hr => ?body)
  case len => (obtain ⟨_, _, rfl, _⟩ := h; rfl)
  case body =>
    have sc := sc_check_proof
    refine ⟨_, (pss_cons (ps_setDc (i := 2) (own := [("row", 3)]) rfl sc.nd rfl rfl (sw_trueD rfl rfl rfl (by decide +kernel)) (pi_tup (pv 1)) (blkOk_by (own := [("row", 3)]) (N := ["number", "rows", "told", "row", "prime", "one", "factors"]) (sc := defScope s_check_proof) (by decide +kernel)) (fun _ _ _ _ _ => (pg_name (i := 3) sc.nd rfl (Or.inl rfl))) (fun _ _ _ _ _ => pts_nil) (fun _ _ _ _ _ => (pe_ix (ix_seqK (K := K) rfl) (pv 3) pe_int (fun _ _ => rfl))) (fun _ _ _ _ _ => (pv 3)))
  (pss_cons (ps_if (PW.pt (pw_or (pt_cmpR op_gt (pe_callB call_len (by rfl) Tx.n_len (by decide +kernel) (pa_cons (pv 1) pa_nil)) (peC Tx.c_MOST_PROOF) (nomark _)) (pw_or1 (pt_cmpR (op_neA hr.units) (pe_callB call_lenD (by rfl) Tx.n_len (by decide +kernel) (pa_cons (pv 2) pa_nil)) (pe_callB call_len (by rfl) Tx.n_len (by decide +kernel) (pa_cons (pv 1) pa_nil)) (nomark _))))) (pss_one (ps_rz rfl takesE PySem.F.excBase_ValueError Tx.xNumberError.1 Tx.gNumberError Tx.xNumberError.2.1 (raises_own Tx.xNumberError.2.2.1 Tx.xNumberError.2.2.2) rfl)) pss_nil)
  (pss_cons (ps_if (PW.pt (pw_and (pt_not (pt_val (pe_callG G_is_little_prime (hr.mono (by decide)) psE (pa_cons (pv 0) pa_nil)))) (pw_and1 (pt_cmp (pc_dnotin (Nat.lt_of_le_of_lt (Nat.add_le_add_left (by decide : 1 ≤ 64) _) hr.units) (pv 0) (pv 2)))))) (pss_one (ps_rz rfl takesE PySem.F.excBase_ValueError Tx.xNumberError.1 Tx.gNumberError Tx.xNumberError.2.1 (raises_own Tx.xNumberError.2.2.1 Tx.xNumberError.2.2.2) rfl)) pss_nil)
  (pss_one (ps_for (passesE) rfl (pi_tup (pv 1)) (pg_tup rfl (pgs_cons (pg_name (i := 4) sc.nd rfl (Or.inl rfl)) (pgs_cons (pg_name (i := 5) sc.nd rfl (Or.inl rfl)) (pgs_cons (pg_name (i := 6) sc.nd rfl (Or.inl rfl)) pgs_nil)))) (pss_one (ps_if (PW.pt (pw_or (pt_cmpR op_le (pv 4) (peC Tx.c_LITTLE) (nomark _)) (pw_or1 (pt_not (pt_val (pe_callG G_row_holds (hr.mono (by decide)) psE (pa_cons (pv 4) (pa_cons (pv 5) (pa_cons (pv 6) (pa_cons (pv 2) pa_nil)))))))))) (pss_one (ps_rz rfl takesE PySem.F.excBase_ValueError Tx.xNumberError.1 Tx.gNumberError Tx.xNumberError.2.1 (raises_own Tx.xNumberError.2.2.1 Tx.xNumberError.2.2.2) rfl)) pss_nil))))))), fun O ds r hg => ?_⟩
    clear sc hr
    try dsimp only [cxOf]

    obtain ⟨n, rows, rfl, hn, hlen, hF, rfl⟩ := hg
    have rl : (rows.map RP.d).length = rows.length := List.length_map ..
    have mt : ∀ i, mergeD [] (kvR (rows.take i)) = mergeD [] ((kvR rows).take i) := fun i => by unfold kvR; rw [List.map_take]
    refine r_seq (r_asg (d := dD (mergeD [] (kvR rows))) (e_is (e_dcY (w_tup (e_var rfl) dn) (fun i => ⟨[.d (dN n), .d (.tup (rows.map RP.d)), .un, .un, .un, .un, .un], []⟩) (fun i => mergeD [] (kvR (rows.take i))) rfl rfl (fun i hi O' => ?t1) (by omega)) (by rw [rl, List.take_of_length_le (Nat.le_refl _)])) ?_)
    case t1 =>
      have hi : i < rows.length := by omega
      have hr : rows[i]? = some rows[i] := List.getElem?_eq_getElem hi
      rw [show (rows.map RP.d).getD i dn = rows[i].d from getD_of (by rw [List.getElem?_map, hr]; rfl)]
      refine ⟨⟨[.d (dN n), .d (.tup (rows.map RP.d)), .un, .d rows[i].d, .un, .un, .un], []⟩, true, _, tgS_name (by simp), t_yes, .inl ⟨rfl, Sum.inl (rows[i].p : Int), rows[i].d, _, _, e_bin (e_var rfl) e_c (o_ixT (d := dN rows[i].p) rfl), e_var rfl, ?_, rfl⟩⟩
      rw [List.take_add_one, hr]
      show mergeD [] (kvR (rows.take i ++ [rows[i]])) = _
      unfold kvR
      rw [List.map_append]
      exact merge_next _ _ _ _
    have ho : holdsB n rows = (decide (rows.map (·.p)).Nodup && fokB (rows.map (·.p)) n && rows.all (rowB (rows.map (·.p)))) := rfl
    have iff := mergeD_iff (kvR rows) []
    rw [kvR_keys, nd_keys, List.length_nil, Nat.zero_add, show (kvR rows).length = rows.length from List.length_map ..] at iff
    have md : (rows.map (·.p)).Nodup → mergeD [] (kvR rows) = kvR rows := fun z => mergeD_nd (by rw [kvR_keys, nd_keys]; exact z)
    have kk := kvR_keys rows
    generalize hkv : mergeD [] (kvR rows) = kvs at iff md
    generalize hks : rows.map (·.p) = ks at *
    by_cases c1 : ks.Nodup
    case neg =>
      refine r_seq (r_ifTs (t_orF (t_is (t_test (e_bin (e_lenT (e_var rfl)) e_c o_I0)) (decide_eq_false (by omega))) (t_is (t_test (e_bin (e_lenD (a_cons (e_var rfl) a_nil)) (e_lenT (e_var rfl)) o_neI)) (by rw [decide_eq_false fun z => c1 (iff.mp (by omega)).1]; rfl))) (r_raise ?_))
      show (if holdsB n rows = true then _ else _) = _
      rw [ho, decide_eq_false c1]; rfl
    have ml := iff.mpr ⟨c1, fun _ _ z => by cases z⟩
    have md := md c1
    subst md
    rw [decide_eq_true c1, Bool.true_and] at ho
    refine r_seq (r_ifFs (t_orF (t_is (t_test (e_bin (e_lenT (e_var rfl)) e_c o_I0)) (decide_eq_false (by omega))) (t_is (t_test (e_bin (e_lenD (a_cons (e_var rfl) a_nil)) (e_lenT (e_var rfl)) o_neI)) (by rw [decide_eq_true (by omega)]; rfl))) (r_next ?_))
    refine r_seq (r_ifs (b := !fokB ks n) (t_is (t_and (t_not (t_B (e_call (d := db (litB n)) (a_cons (e_var rfl) a_nil) ⟨n, rfl, by omega, rfl⟩))) fun _ => t_B (e_is (e_dnotin (k0 := Sum.inl (n : Int)) (e_var rfl) (e_var rfl)) (show _ = db (!decide (n ∈ ks)) by rw [keys_any kk]))) (by unfold fokB; cases litB n <;> cases decide (n ∈ ks) <;> rfl)) (fun hb => r_raise ?_) fun hb => r_next ?_)
    · show (if holdsB n rows = true then _ else _) = _
      rw [ho, show fokB ks n = false by simpa using hb]; rfl
    rw [show fokB ks n = true by simpa using hb, Bool.true_and] at ho
    refine r_forT (xs := rows.map RP.d) (e_var rfl) (fun i A => (∀ r ∈ rows.take i, rowB ks r = true) ∧ ∃ x3 x4 x5 x6, A = ⟨[.d (dN n), .d (.tup (rows.map RP.d)), .d (dD (kvR rows)), x3, x4, x5, x6], []⟩) ⟨fun r hr => (by simp at hr), _, _, _, _, rfl⟩ ?_ ?_
    · rintro i x A hx ⟨hall, x3, x4, x5, x6, rfl⟩
      rw [List.getElem?_map] at hx
      obtain ⟨r, hr, rfl⟩ := Option.map_eq_some_iff.mp hx
      have hm := List.mem_of_getElem? hr
      obtain ⟨F1, F2, F3, F4⟩ := hF r hm
      refine ⟨⟨[.d (dN n), .d (.tup (rows.map RP.d)), .d (dD (kvR rows)), x3, .d (dN r.p), .d (dN r.w), .d (.tup (r.l.map dN))], []⟩, tg_tup rfl (tgA_cons tg_name (tgA_cons tg_name (tgA_cons tg_name tgA_nil))), ?_⟩
      have re := row_eq (ks := ks) F2 F3
      have bad : rowB ks r = false → (if holdsB n rows = true then Rs.ok dn else .err (NE K)) = .err (NE K) := fun z => by
        rw [ho, List.all_eq_false.mpr ⟨r, hm, by rw [z]; decide⟩]; rfl
      by_cases d1 : r.p ≤ 1000
      · exact r_ifTs (t_orT (t_is (t_test (e_bin (e_var rfl) e_c o_I0)) (decide_eq_true (by omega)))) (r_raise (bad (by rw [re, decide_eq_false (by omega)]; rfl)))
      rw [decide_eq_true (show 1000 < r.p by omega), Bool.true_and] at re
      refine r_ifs (b := !rowB ks r) (t_orS (t_is (t_test (e_bin (e_var rfl) e_c o_I0)) (decide_eq_false (by omega))) (t_is (t_not (t_B (e_call (d := db ((partsF ks r.l (r.p - 1) == some 1) && witB r.p r.w r.l)) (a_cons (e_var rfl) (a_cons (e_var rfl) (a_cons (e_var rfl) (a_cons (e_var rfl) a_nil)))) ⟨r.p, r.w, r.l, kvR rows, ks, rfl, kk, by omega, F1.p2, by have := F1.p2; omega, F1.n, F1.l, F4, rfl⟩))) (by rw [re]))) (fun hb => r_raise (bad (by simpa using hb))) fun hb => r_next ⟨fun x hx => ?_, _, _, _, _, rfl⟩
      rw [List.take_add_one, hr] at hx
      rcases List.mem_append.mp hx with z | z
      · exact hall x z
      · simp at z
        rw [z]
        simpa using hb
    · rintro A ⟨hall, x3, x4, x5, x6, rfl⟩
      rw [rl, List.take_of_length_le (Nat.le_refl _)] at hall
      show (if holdsB n rows = true then _ else _) = _
      rw [ho, List.all_eq_true.mpr hall]; rfl
end
end Law
end

section
set_option Elab.async false
set_option linter.all false
set_option maxRecDepth 100000
set_option maxHeartbeats 4000000
set_option autoImplicit false
namespace Py
open PySem PySem.Spec PyProof.Rows L2
/-! ### sorted(x), x a list or a tuple of ints -/
section
open SrtO
variable {prog : Program} {w : World} {A : Around} {E : Value → Shared → Prop} {s : Shared}
theorem sorted_tupI {t : Addr} {us : List Value} {ns : List Int} {Q : Value → Shared → Prop} (ht : IsTup s.heap t us.toArray) (hz : us.length ≤ sizeLine) (hi : IntsAre us ns)
    (q : ∀ (h' : Heap) (out : List Value), Srtd ltIv out → Stb ltIv out us → (∀ b ob, s.heap.get? b = some ob → h'.get? b = some ob) → (∃ n, h'.get? (s.heap.objs.size + 1) = some (seqObj "list" out.toArray n)) → Q (.ref (s.heap.objs.size + 1)) { s with heap := h' }) :
    wpAny (model prog w) A (call (.builtin "sorted") [.ref t]) Q E s := by
  refine Calls.call_function_entry kind_sorted plain_sorted entry_sorted (args_sorted1 _) ?_
  unfold Builtin.«sorted»
  refine wpAny_bind (m := checkCount "sorted" 1 1 _) (wpAny_pure (wpAny_bind (gather_tuple ht hz (wpAny_bind (wpAny_newList ?_ hz)))))
  generalize hG : (gath s.heap us).push (seqObj "list" us.toArray 0) = G
  have gL : G.get? (s.heap.objs.size + 1) = some (seqObj "list" us.toArray 0) := by
    rw [← hG, ← gath_size s.heap us]; exact Heap.get?_push_size _ rfl
  have gO : ∀ b ob, s.heap.get? b = some ob → b ≠ s.heap.objs.size + 1 ∧ G.get? b = some ob := fun b ob g => by
    refine ⟨Nat.ne_of_lt (Nat.lt_succ_of_lt (Heap.lt_size g)), ?_⟩
    rw [← hG]; exact Heap.get?_push_of_some _ (gath_old g)
  show wpAny _ _ (holding [Value.ref (gath s.heap us).objs.size] (call (Value.builtin "list.sort") [Value.ref (gath s.heap us).objs.size] []) >>= fun _ => _) _ _ { s with heap := G }
  rw [gath_size]
  refine wpAny_bind (wpAny_holding (wpAny_call_entry slot_list_sort ⟨_, gL, rfl⟩ entry_list_sort (list_sort_ord swo_int gL hz (fun h2 => ints_sortable hi h2) fun out h3 h4 => ⟨_, rfl, wpAny_pure ⟨_, rfl, ?_⟩⟩) (args_list_sort _)))
  obtain ⟨n, e⟩ := PyProof.Rows.sortedHeap_at (vs := us) (out := out.toArray) gL
  exact q _ out h3 h4 (fun b ob g => (PyProof.Rows.sortedHeap_old (gO b ob g).1 (Heap.lt_size (gO b ob g).2)).trans (gO b ob g).2) ⟨n, e⟩
end
def rSortIA (K : Frg) : List V → Hp → VK → Prop := fun vs H Q => ∃ (a : Addr) (ns : List Int), vs = [.ref a] ∧ (SqL K H a (ns.map V.int) ∨ SqT K H a (ns.map V.int)) ∧
  ∀ (ms : List Int) (d : Addr), ms.Perm ns → ms.Pairwise (· ≤ ·) → H d = none → Q (.ref d) (upd H d (.lst (ms.map V.int)))
section
variable {X : Cx}
theorem cr_sortIA : CallR X (.builtin "sorted") (rSortIA X.K) := by
  intro pins s σ H vs us Q I r h
  obtain ⟨a, ns, rfl, hs | hs, q⟩ := h
  · exact cr_sortedI pins s σ H _ us Q I r ⟨a, ns, rfl, hs, q⟩
  obtain ⟨its, rv, hl, hz⟩ := I.tuple hs
  rw [Vals.ref1 r]
  have hi := rv.ints
  refine sorted_tupI hl (by rw [← rv.length]; exact hz) hi fun h' out h1 h2 kp hn => ?_
  obtain ⟨k1, k2, k3⟩ := SrtO.ints_out hi h1 h2
  obtain ⟨n, hn⟩ := hn
  have sz : ((out.map SrtO.iv).map V.int).length ≤ sizeLine := by
    rw [List.length_map] at hz ⊢
    rw [k2.length_eq]; exact hz
  exact ⟨.ref _, upd H (s.heap.objs.size + 1) (.lst ((out.map SrtO.iv).map V.int)), I.laid (t' := s.toks) kp (Nat.le_succ _) ⟨sz, out, n, vals_of_ints k1, hn⟩, rfl, q _ _ k2 k3 (I.hok.fresh (Nat.le_succ _))⟩
end
section
variable {C : Ct} {A A1 : AS} {te : TE}
theorem e_sortIT {ns ms : List Int} (h : EvS C te A (.tup (ns.map di)) A1) (hp : ms.Perm ns) (ho : ms.Pairwise (· ≤ ·)) : EvS C (tCB (rSortIA C.K) (tCons te tNil)) A (.lst (ms.map di)) A1 := fun os σ H k Q q =>
  h os σ H k _ fun os1 v H1 k1 e1 i1 => by
    rw [Is] at i1
    obtain ⟨a, vs, rfl, h2, h3⟩ := i1
    rw [show ns.map di = (ns.map V.int).map Dt.v by rw [List.map_map]; rfl] at h3
    rw [flat_eq h3] at h2
    refine ⟨a, ns, rfl, .inr (hd_ex.t h2), fun ns' p hp' hs hn => ?_⟩
    rw [sorted_one (hp'.trans hp.symm) hs ho]
    refine q os1 _ _ (k1.monoN hn) (e1.trans (k1.gr (Ex.new hn))) ?_
    rw [Is]
    exact ⟨p, _, rfl, SqL.of (k1.fresh hn), by rw [show ms.map di = (ms.map V.int).map Dt.v by rw [List.map_map]; rfl]; exact flat_isA⟩
end
end Py
end

section
set_option Elab.async false
set_option linter.all false
set_option maxRecDepth 100000
set_option maxHeartbeats 4000000
set_option autoImplicit false
set_option exponentiation.threshold 300
namespace Law
open PySem PySem.Spec PyProof.Rows L2 Py Mt Pm

local macro_rules | `(tactic| wtm_at "op") => `(tactic| first
  | with_reducible exact o_I0 | with_reducible exact o_add | with_reducible exact o_eqI | with_reducible exact o_neI
  | ((with_reducible apply o_mul); first | assumption | wtm_at "si")
  | ((with_reducible apply o_I); first | assumption | wtm_at "si")
  | ((with_reducible apply o_ixT); rfl) | ((with_reducible apply o_ixL); rfl)
  | ((with_reducible apply o_eqD) <;> first | rfl | decide | assumption) | ((with_reducible apply o_neD) <;> first | rfl | decide | assumption)
  | with_reducible assumption)
local macro_rules | `(tactic| wtm_at "si") => `(tactic| first | decide | exact ⟨by decide, by decide +kernel⟩ | omega)
local macro_rules | `(tactic| wtm_at "ev") => `(tactic| first
  | ((with_reducible apply e_var); rfl) | with_reducible exact e_c | with_reducible exact a_nil
  | ((with_reducible apply a_cons) <;> wtm_at "ev")
  | ((with_reducible apply e_bin) <;> first | wtm_at "ev" | wtm_at "op")
  | ((with_reducible apply e_ixO) <;> first | rfl | wtm_at "ev")
  | ((with_reducible apply e_U) <;> wtm_at "ev")
  | ((with_reducible apply t_test) <;> wtm_at "ev")
  | ((with_reducible apply t_B) <;> wtm_at "ev")
  | ((with_reducible apply t_not) <;> wtm_at "ev")
  | ((with_reducible apply e_tup) <;> first | wtm_at "ev" | exact Nat.le_of_ble_eq_true rfl)
  | ((with_reducible apply e_lst) <;> first | wtm_at "ev" | exact Nat.le_of_ble_eq_true rfl)
  | ((with_reducible apply e_gcd) <;> wtm_at "ev")
  | ((with_reducible apply e_abs) <;> wtm_at "ev")
  | ((with_reducible apply e_max2) <;> wtm_at "ev")
  | ((with_reducible apply e_int) <;> wtm_at "ev")
  | ((with_reducible apply e_intB) <;> wtm_at "ev")
  | ((with_reducible apply e_bits) <;> wtm_at "ev")
  | ((with_reducible apply e_not) <;> wtm_at "ev")
  | with_reducible assumption)

section
variable {P : Program} {w : World} {K : Frg} {T : List (Addr × Str)} {mg : Str → Option Value} {base : Heap}

abbrev s_parts_all : Stmt := top 19
theorem sc_parts_all : FnScope ["number", "factors", "told", "left", "last", "factor"] ["number", "factors", "told"] (defScope s_parts_all) := ⟨rfl, rfl, rfl, by decide +kernel, rfl, by decide +kernel, by decide +kernel⟩
theorem sort_ex (l : List Nat) : ∃ m : List Nat, m.Perm l ∧ m.Pairwise (· ≤ ·) := by
  refine ⟨l.mergeSort (fun a b => decide (a ≤ b)), List.mergeSort_perm .., ?_⟩
  have := List.pairwise_mergeSort (le := fun a b : Nat => decide (a ≤ b)) (fun a b c h1 h2 => decide_eq_true (Nat.le_trans (of_decide_eq_true h1) (of_decide_eq_true h2))) (fun a b => by simp only [Bool.or_eq_true, decide_eq_true_eq]; omega) l
  exact this.imp fun h => of_decide_eq_true h
/-- two primes are taken out in any order -/
theorem out_swap {a b n : Nat} (ha : Prm a) (hb : Prm b) (ne : a ≠ b) (h0 : 0 < n) : (b ∣ (outN n a).1 ↔ b ∣ n) ∧ (outN (outN n a).1 b).1 = (outN (outN n b).1 a).1 := by
  have pos : ∀ {c m : Nat}, Prm c → 0 < m → 0 < (outN m c).1 := fun {c m} hc hm => by
    obtain ⟨s1, _, _⟩ := outN_spec hc.1 hm
    exact Nat.pos_of_ne_zero fun z => by rw [z, Nat.zero_mul] at s1; omega
  have nd : ∀ {c d e : Nat}, Prm c → Prm d → c ≠ d → ¬ c ∣ d ^ e := fun {c d e} hc hd hne z => by
    have z := hc.pow z
    rcases hd.2 c z with w | w
    · have := hc.1; omega
    · exact hne w
  obtain ⟨a1, a2, _⟩ := outN_spec ha.1 h0
  obtain ⟨b1, b2, _⟩ := outN_spec hb.1 h0
  obtain ⟨ab1, ab2, _⟩ := outN_spec hb.1 (pos ha h0)
  obtain ⟨ba1, ba2, _⟩ := outN_spec ha.1 (pos hb h0)
  refine ⟨⟨fun z => ?_, fun z => ?_⟩, ?_⟩
  · rw [a1]; exact Nat.dvd_trans z ⟨_, rfl⟩
  · rw [a1] at z
    rcases hb.mul z with w | w
    · exact w
    · exact absurd w (nd hb ha fun e => ne e.symm)
  · generalize (outN (outN n a).1 b).1 = x at *
    generalize (outN (outN n b).1 a).1 = y at *
    generalize (outN (outN n a).1 b).2 = i at *
    generalize (outN (outN n b).1 a).2 = j at *
    generalize (outN n a).2 = k at *
    generalize (outN n b).2 = l at *
    generalize (outN n a).1 = u at *
    generalize (outN n b).1 = v at *
    have xa : ¬ a ∣ x := fun z => a2 (by rw [ab1]; exact Nat.dvd_trans z ⟨_, rfl⟩)
    have yb : ¬ b ∣ y := fun z => b2 (by rw [ba1]; exact Nat.dvd_trans z ⟨_, rfl⟩)
    have e : x * b ^ i * a ^ k = y * b ^ l * a ^ j := by
      rw [← ab1, ← a1, b1, ba1]
      grind
    have e2 := part_uniq ha k j _ _ e (fun z => (ha.mul z).elim xa (nd ha hb ne)) (fun z => (ha.mul z).elim ba2 (nd ha hb ne))
    exact part_uniq hb i l _ _ e2 ab2 yb
theorem parts_perm {ks l m : List Nat} (h : l.Perm m) : (∀ f ∈ l, Prm f) → ∀ n, 0 < n → partsF ks l n = partsF ks m n := by
  induction h with
  | nil => intro _ _ _; rfl
  | cons x h ih =>
    intro hp n h0
    have hx := hp x (List.mem_cons_self ..)
    obtain ⟨s1, _, _⟩ := outN_spec hx.1 h0
    have o0 : 0 < (outN n x).1 := Nat.pos_of_ne_zero fun z => by rw [z, Nat.zero_mul] at s1; omega
    rw [partsF, partsF, ih (fun f hf => hp f (List.mem_cons_of_mem _ hf)) _ o0]
  | trans h1 h2 i1 i2 => intro hp n h0; exact (i1 hp n h0).trans (i2 (fun f hf => hp f (h1.mem_iff.mpr hf)) n h0)
  | swap x y l =>
    intro hp n h0
    by_cases e : x = y
    · rw [e]
    have hx := hp x (List.mem_cons_of_mem _ (List.mem_cons_self ..))
    have hy := hp y (List.mem_cons_self ..)
    obtain ⟨a1, a2⟩ := out_swap hx hy e h0
    obtain ⟨b1, _⟩ := out_swap hy hx (fun z => e z.symm) h0
    have a1 : (outN n x).1 % y = 0 ↔ n % y = 0 := by rw [← Nat.dvd_iff_mod_eq_zero, ← Nat.dvd_iff_mod_eq_zero]; exact a1
    have b1 : (outN n y).1 % x = 0 ↔ n % x = 0 := by rw [← Nat.dvd_iff_mod_eq_zero, ← Nat.dvd_iff_mod_eq_zero]; exact b1
    rw [partsF, partsF, partsF, partsF, a2]
    have a3 : ((outN n x).1 % y = 0 ∧ fokB ks y = true) ↔ (n % y = 0 ∧ fokB ks y = true) := and_congr_left fun _ => a1
    have b3 : ((outN n y).1 % x = 0 ∧ fokB ks x = true) ↔ (n % x = 0 ∧ fokB ks x = true) := and_congr_left fun _ => b1
    by_cases c1 : n % x = 0 ∧ fokB ks x = true
    · by_cases c2 : n % y = 0 ∧ fokB ks y = true
      · rw [if_pos c1, if_pos c2, if_pos (b3.mpr c1), if_pos (a3.mpr c2)]
      · rw [if_pos c1, if_neg c2, if_neg fun z => c2 (a3.mp z)]
    · by_cases c2 : n % y = 0 ∧ fokB ks y = true
      · rw [if_neg c1, if_pos c2, if_neg fun z => c1 (b3.mp z)]
      · rw [if_neg c1, if_neg c2]
theorem parts_bad {ks : List Nat} : ∀ {l : List Nat} {f n : Nat}, f ∈ l → fokB ks f = false → partsF ks l n = none
  | a :: r, f, n, h, hf => by
    rw [partsF]
    split
    · rename_i c
      rcases List.mem_cons.mp h with rfl | h
      · rw [hf] at c; cases c.2
      · exact parts_bad h hf
    · rfl
/-- the order does not matter -/
theorem parts_any {ks l m : List Nat} (h : l.Perm m) (hk : PrK ks l) {n : Nat} (h0 : 0 < n) : partsF ks l n = partsF ks m n := by
  by_cases c : ∃ f ∈ l, fokB ks f = false
  · obtain ⟨f, hf, hb⟩ := c
    rw [parts_bad hf hb, parts_bad (h.mem_iff.mp hf) hb]
  · refine parts_perm h (fun f hf => ?_) n h0
    cases e : fokB ks f with
    | false => exact absurd ⟨f, hf, e⟩ c
    | true =>
      unfold fokB at e
      rcases Bool.or_eq_true_iff.mp e with z | z
      · exact (litB_t.mp z).2
      · exact hk f hf (of_decide_eq_true z)

theorem ok_parts_all (X : Txt K mg) (F : ∃ fd, FunD K "parts_all" "parts_all" (defArgs s_parts_all) (defBody s_parts_all) (defScope s_parts_all) [] [] (He.ga K "parts_all") fd) (hm : mg "parts_all" = some (.ref (He.ga K "parts_all"))) (G_is_little_prime : Gd P w K mg base "is_little_prime" ["number"] 1 (spD K T sp_little)) : Gd P w K mg base "parts_all" ["number", "factors", "told"] 2 (spD K T sp_parts) := by
  have Tx := X
  refine mkG F hm sc_parts_all (fun _ _ _ _ _ _ us hl => match us, hl with | [_, _, _], _ => rfl) (fun ds r h => ?len) (fun cdv A outer s H E hr => ?body)
  case len => (obtain ⟨_, _, _, _, rfl, _⟩ := h; rfl)
  case body =>
    have sc := sc_parts_all
    refine ⟨_, (pss_cons (ps_par (i := 3) (j := 4) rfl sc.nd rfl rfl (by decide) rfl rfl (pa_cons (pv 0) (pa_cons pe_int pa_nil)) (by rfl))
  (pss_cons (ps_for (passesE) rfl (pi_list (pe_callB cr_sortIA (by rfl) Tx.n_sorted (by decide +kernel) (pa_cons (pv 1) pa_nil))) (pg_name (i := 5) sc.nd rfl (Or.inl rfl)) (pss_cons (ps_if (PW.pt (pw_or (pt_cmpR op_le (pv 5) (pv 4) (nomark _)) (pw_or (pt_cmpR op_lt (pv 3) pe_int (nomark _)) (pw_or1 (pt_cmpR (op_neA hr.units) (pe_op op_modN (pv 3) (pv 5)) pe_int (nomark _)))))) (pss_one (ps_ret pe_bl)) pss_nil)
  (pss_cons (ps_if (PW.pt (pw_and (pt_not (pt_val (pe_callG G_is_little_prime (hr.mono (by decide)) psE (pa_cons (pv 5) pa_nil)))) (pw_and1 (pt_cmp (pc_dnotin (Nat.lt_of_le_of_lt (Nat.add_le_add_left (by decide : 1 ≤ 64) _) hr.units) (pv 5) (pv 2)))))) (pss_one (ps_ret pe_bl)) pss_nil)
  (pss_cons (ps_while (passesE) (pt_cmpR (op_eqA hr.units) (pe_op op_modN (pv 3) (pv 5)) pe_int (nomark _)) (pss_one (ps_set (i := 3) sc.nd rfl (Or.inl rfl) (pe_op op_fdivX (pv 3) (pv 5)))))
  (pss_one (ps_set (i := 4) sc.nd rfl (Or.inl rfl) (pv 5)))))))
  (pss_one (ps_ret (pe_cmpR (op_eqA hr.units) (pv 3) pe_int (nomark _)))))), fun O ds r hg => ?_⟩
    clear sc hr
    try dsimp only [cxOf]

    obtain ⟨n, l, kvs, ks, rfl, hk, h0, hn, hl, hf, hp, rfl⟩ := hg
    obtain ⟨m, hm, hs⟩ := sort_ex l
    rw [parts_any hm.symm hp h0]
    have hf := fun f h => hf f (hm.mem_iff.mp h)
    refine r_seq (r_par (a_cons (e_var rfl) (a_cons (e_cN 1) a_nil)) ?_)
    refine r_seq (r_forL (xs := m.map dN) (e_is (e_sortIT (ns := l.map fun (x : Nat) => (x : Int)) (ms := m.map fun (x : Nat) => (x : Int)) (e_is (e_var rfl) (by rw [List.map_map]; rfl)) (hm.map _) (List.pairwise_map.mpr (hs.imp fun h => by show (_ : Int) ≤ _; omega))) (by rw [List.map_map]; rfl)) (fun j A => ∃ (left last : Nat) (y : SD), 0 < left ∧ left ≤ n ∧ 1 ≤ last ∧ (last = 1 ∨ left % last ≠ 0) ∧ (∀ x ∈ m.drop j, last ≤ x) ∧ partsF ks (m.drop j) left = partsF ks m n ∧ A = ⟨[.d (dN n), .d (.tup (l.map dN)), .d (dD kvs), .d (dN left), .d (dN last), y], []⟩) ⟨n, 1, _, h0, Nat.le_refl _, Nat.le_refl _, .inl rfl, fun x hx => by have := (hf x (List.mem_of_mem_drop hx)).1; omega, rfl, rfl⟩ ?_ ?_)
    · rintro j x A hx ⟨left, last, y, l0, ln, a0, al, as, hpf, rfl⟩
      rw [List.getElem?_map] at hx
      obtain ⟨f, hfj, rfl⟩ := Option.map_eq_some_iff.mp hx
      obtain ⟨Ff, Ff2⟩ := hf f (List.mem_of_getElem? hfj)
      have hjl := (List.getElem?_eq_some_iff.mp hfj).1
      have dr : m.drop j = f :: m.drop (j + 1) := by rw [List.drop_eq_getElem_cons hjl]; congr 1; exact (List.getElem?_eq_some_iff.mp hfj).2
      have af : last ≤ f := as f (by rw [dr]; exact List.mem_cons_self ..)
      have hs' : (m.drop j).Pairwise (· ≤ ·) := hs.sublist (List.drop_sublist ..)
      rw [dr] at hs'
      have fs := (List.pairwise_cons.mp hs').1
      rw [dr, partsF] at hpf
      refine ⟨⟨[.d (dN n), .d (.tup (l.map dN)), .d (dD kvs), .d (dN left), .d (dN last), .d (dN f)], []⟩, tg_name, ?_⟩
      have bad : ¬ (left % f = 0 ∧ fokB ks f = true) → Rs.ok (db (partsF ks m n == some 1)) = .ok (db false) := fun z => by
        rw [if_neg z] at hpf
        rw [← hpf]; rfl
      have lfit : Fits last := fits_big (by omega)
      by_cases d0 : f ≤ last
      · have : last = f := by omega
        subst this
        exact r_seq (r_ifTs (t_orT (t_is (t_leN (e_var rfl) (e_var rfl)) (decide_eq_true d0))) (r_ret e_c (bad fun z => by rcases al with w | w <;> omega)))
      by_cases d2 : left % f = 0
      case neg => exact r_seq (r_ifTs (t_orF (t_is (t_leN (e_var rfl) (e_var rfl)) (decide_eq_false d0)) (t_orF (t_is (t_ltN (e_var rfl) (e_cN 1)) (decide_eq_false (by omega))) (t_is (t_neN (e_modN (e_var rfl) (e_var rfl) (by omega)) (e_cN 0)) (by rw [decide_eq_false d2]; rfl)))) (r_ret e_c (bad fun z => d2 z.1)))
      refine r_seq (r_ifFs (t_orF (t_is (t_leN (e_var rfl) (e_var rfl)) (decide_eq_false d0)) (t_orF (t_is (t_ltN (e_var rfl) (e_cN 1)) (decide_eq_false (by omega))) (t_is (t_neN (e_modN (e_var rfl) (e_var rfl) (by omega)) (e_cN 0)) (by rw [decide_eq_true d2]; rfl)))) (r_next ?_))
      refine r_seq (r_ifs (b := !fokB ks f) (t_is (t_and (t_not (t_B (e_call (d := db (litB f)) (a_cons (e_var rfl) a_nil) ⟨f, rfl, by omega, rfl⟩))) fun _ => t_B (e_is (e_dnotin (k0 := Sum.inl (f : Int)) (e_var rfl) (e_var rfl)) (show _ = db (!decide (f ∈ ks)) by rw [keys_any hk]))) (by unfold fokB; cases litB f <;> cases decide (f ∈ ks) <;> rfl)) (fun hb => r_ret e_c (bad fun z => by rw [z.2] at hb; cases hb)) fun hb => r_next ?_)
      have d3 : fokB ks f = true := by simpa using hb
      rw [if_pos ⟨d2, d3⟩] at hpf
      obtain ⟨s1, s2, _⟩ := outN_spec Ff l0
      refine r_seq (r_while (fun i A => ∃ k e : Nat, 0 < i ∧ i ≤ k ∧ i ≤ left ∧ (outF k i f e).1 = (outN left f).1 ∧ A = ⟨[.d (dN n), .d (.tup (l.map dN)), .d (dD kvs), .d (dN i), .d (dN last), .d (dN f)], []⟩) left ⟨left, 0, l0, Nat.le_refl _, Nat.le_refl _, rfl, rfl⟩ ?_)
      rintro i A ⟨k, e, i0, ik, il, he, rfl⟩
      refine ⟨decide (i % f = 0), _, t_eqN (e_modN (e_var rfl) (e_var rfl) (by omega)) (e_cN 0), fun hb => ?_, fun hb => ?_⟩
      · have hb := of_decide_eq_true hb
        have lt := div_lt i0 Ff hb
        obtain ⟨k, rfl⟩ : ∃ j, k = j + 1 := ⟨k - 1, by omega⟩
        exact r_asg (e_divN (e_var rfl) (e_var rfl) (fits_big Ff2) (by omega)) ⟨i / f, by omega, k, e + 1, lt.1, by omega, by omega, by rw [← he, outF_step hb], rfl⟩
      · have hb := of_decide_eq_false hb
        rw [outF_done hb] at he
        have he : i = (outN left f).1 := he
        exact r_asg (e_var rfl) ⟨i, f, _, i0, by omega, by omega, .inr hb, fun x hx => fs x hx, by rw [he]; exact hpf, rfl⟩
    · rintro A ⟨left, last, y, l0, ln, a0, al, as, hpf, rfl⟩
      rw [List.length_map, List.drop_length, partsF] at hpf
      rw [← hpf]
      refine r_ret (e_is (e_bin (e_var rfl) (e_cN 1) o_eqI) ?_) rfl
      show db (decide ((left : Int) = ((1 : Nat) : Int))) = db (decide _)
      exact congrArg db (decide_eq_decide.mpr (by simp; omega))
end
end Law
end

section
set_option Elab.async false
set_option linter.all false
set_option maxRecDepth 100000
set_option maxHeartbeats 0
namespace Law.UH
open PySem PySem.Spec PyProof.Rows L2 Py
def top (i : Nat) : Stmt := PySem.Challenge.pw_algebrastack_k17_primes_that_are_proved.main.body.getD i (.Pass ⟨0, 0, 0, 0⟩)
abbrev s_power_by : Stmt := top 6
abbrev s_repeated : Stmt := top 7
abbrev s_prime_factors : Stmt := top 8
abbrev s_divided_out : Stmt := top 9
abbrev s_is_little_prime : Stmt := top 13
abbrev s_prime_proof : Stmt := top 14
abbrev s_witness : Stmt := top 15
abbrev s_is_witness : Stmt := top 16
abbrev s_check_proof : Stmt := top 17
abbrev s_row_holds : Stmt := top 18
abbrev s_parts_all : Stmt := top 19
abbrev s__law_dice : Stmt := top 21
abbrev s__law_roll : Stmt := top 22
abbrev s__law_rounds : Stmt := top 23
abbrev s__law_told : Stmt := top 24
abbrev s__law_power : Stmt := top 25
abbrev s__law_prime : Stmt := top 26
abbrev s__law_holds : Stmt := top 27
abbrev s_law : Stmt := top 28
def dd (f : Str) (s : Stmt) : He.DefD := ⟨(f, none), f, f, defArgs s, defBody s, defScope s, [], []⟩
def dv (f : Str) (s : Stmt) (ds : List He.Dv) : He.DefD := ⟨(f, none), f, f, defArgs s, defBody s, defScope s, ds, []⟩
def fn0 : List He.DefD := [dd "power_by" s_power_by, dd "repeated" s_repeated, dd "prime_factors" s_prime_factors, dd "divided_out" s_divided_out, dd "is_little_prime" s_is_little_prime, dd "prime_proof" s_prime_proof, dd "witness" s_witness, dd "is_witness" s_is_witness, dd "check_proof" s_check_proof, dd "row_holds" s_row_holds, dd "parts_all" s_parts_all, dd "_law_dice" s__law_dice, dd "_law_roll" s__law_roll, dd "_law_rounds" s__law_rounds, dd "_law_told" s__law_told, dd "_law_power" s__law_power, dd "_law_prime" s__law_prime, dd "_law_holds" s__law_holds, dd "law" s_law]
def fn : List He.DefD := fn0
def fa0 : List He.Fa := [.glo "power_by", .glo "repeated", .glo "prime_factors", .glo "divided_out", .glo "is_little_prime", .glo "prime_proof", .glo "witness", .glo "is_witness", .glo "check_proof", .glo "row_holds", .glo "parts_all", .glo "_law_dice", .glo "_law_roll", .glo "_law_rounds", .glo "_law_told", .glo "_law_power", .glo "_law_prime", .glo "_law_holds", .glo "law", .free "abs", .free "all", .free "dict", .free "int", .free "len"]
def fa1 : List He.Fa := [.free "list", .free "range", .free "sorted", .free "tuple", .int "MOST_TRIAL" 1000000, .int "LITTLE" 1000, .int "MOST_PROOF" 200, .exc "NumberError", .glo "NumberError", .exm "NumberError" "NumberError" true]
def fa : List He.Fa := fa0 ++ fa1
def tf : List He.Defn := [("power_by", none), ("law", none)]
def lamF : List Str := ["power_by", "law"]
def ex (K : PySem.W.Frag) : Bool := bltB K "isqrt" "math.isqrt" && (decide (lamF.map fun f => (He.cT K (f, none)).2).Nodup)
abbrev R : PySem.W.OpenRow := PySem.W.OpenLaw.row PySem.Challenge.rw_algebrastack_k17_primes_that_are_proved
abbrev hk : PySem.W.Hook := He.hookX 4 fa fn [] tf ex
def ob (s : PySem.W.SharedT) : He.AlX := He.obsX 4 fa fn [] tf ex (HandSHeadRun.getT s)
theorem ob_eq (s : PySem.W.SharedT) : ob s = hk.obs s.abs := He.obsX_eq (HandSHeadRun.getT_eq s)
def lo0 : List Str := ["AlgebraError", "NumberError", "MOST_TRIAL", "power_by", "repeated", "prime_factors", "divided_out", "LITTLE", "MOST_PROOF", "is_little_prime", "prime_proof", "witness", "is_witness", "check_proof", "row_holds", "parts_all", "_law_dice", "_law_roll", "_law_rounds", "_law_told", "_law_power", "_law_prime", "_law_holds"]
def lo : List Str := lo0
theorem run (w : World) : HandSHeadRun.RunEqI R (PySem.W.view R.prog [0, 28]) hk ob 4000 lo w := by
  unfold HandSHeadRun.RunEqI
  kernel_rfl
end Law.UH
end

section
set_option Elab.async false
set_option linter.all false
set_option maxRecDepth 100000
set_option maxHeartbeats 4000000
set_option autoImplicit false
namespace Law.UH
open PySem PySem.Spec PyProof.Rows L2 Py Law
abbrev PR : Program := (PySem.Challenge.rw_algebrastack_k17_primes_that_are_proved).prog
theorem okLaw {w : World} {K : Frg} {mg : Str → Option Value} {base : Heap} (hK : K.In base) (G : base.Ns mainGlobals mg) (c : He.SaysD fa fn K) (e : ex K = true) (L : ∀ f ∈ lamF, LamB K base mg (tabL K lamF) f) (fd : FuncData) (F : FunD K "law" "law" (defArgs s_law) (defBody s_law) (defScope s_law) [] [] (He.ga K "law") fd) :
  FnOk PR w K mg base (L2.CX PR w) 21 (He.ga K "law") fd ["script"] (spLaw K (tabL K lamF)) := by
  obtain ⟨e1, _⟩ := Bool.and_eq_true_iff.mp e
  have h_power_by : mg "power_by" = some (.ref (He.ga K "power_by")) := He.glo_ok hK G (c.facts (List.mem_of_getElem? (i := 0) (by rfl)))
  have F_power_by : ∃ fd, FunD K "power_by" "power_by" (defArgs s_power_by) (defBody s_power_by) (defScope s_power_by) [] [] (He.ga K "power_by") fd := c.defs (d := dd "power_by" s_power_by) (List.mem_of_getElem? (i := 0) (by rfl))
  have h_repeated : mg "repeated" = some (.ref (He.ga K "repeated")) := He.glo_ok hK G (c.facts (List.mem_of_getElem? (i := 1) (by rfl)))
  have F_repeated : ∃ fd, FunD K "repeated" "repeated" (defArgs s_repeated) (defBody s_repeated) (defScope s_repeated) [] [] (He.ga K "repeated") fd := c.defs (d := dd "repeated" s_repeated) (List.mem_of_getElem? (i := 1) (by rfl))
  have h_prime_factors : mg "prime_factors" = some (.ref (He.ga K "prime_factors")) := He.glo_ok hK G (c.facts (List.mem_of_getElem? (i := 2) (by rfl)))
  have F_prime_factors : ∃ fd, FunD K "prime_factors" "prime_factors" (defArgs s_prime_factors) (defBody s_prime_factors) (defScope s_prime_factors) [] [] (He.ga K "prime_factors") fd := c.defs (d := dd "prime_factors" s_prime_factors) (List.mem_of_getElem? (i := 2) (by rfl))
  have h_divided_out : mg "divided_out" = some (.ref (He.ga K "divided_out")) := He.glo_ok hK G (c.facts (List.mem_of_getElem? (i := 3) (by rfl)))
  have F_divided_out : ∃ fd, FunD K "divided_out" "divided_out" (defArgs s_divided_out) (defBody s_divided_out) (defScope s_divided_out) [] [] (He.ga K "divided_out") fd := c.defs (d := dd "divided_out" s_divided_out) (List.mem_of_getElem? (i := 3) (by rfl))
  have h_is_little_prime : mg "is_little_prime" = some (.ref (He.ga K "is_little_prime")) := He.glo_ok hK G (c.facts (List.mem_of_getElem? (i := 4) (by rfl)))
  have F_is_little_prime : ∃ fd, FunD K "is_little_prime" "is_little_prime" (defArgs s_is_little_prime) (defBody s_is_little_prime) (defScope s_is_little_prime) [] [] (He.ga K "is_little_prime") fd := c.defs (d := dd "is_little_prime" s_is_little_prime) (List.mem_of_getElem? (i := 4) (by rfl))
  have h_prime_proof : mg "prime_proof" = some (.ref (He.ga K "prime_proof")) := He.glo_ok hK G (c.facts (List.mem_of_getElem? (i := 5) (by rfl)))
  have F_prime_proof : ∃ fd, FunD K "prime_proof" "prime_proof" (defArgs s_prime_proof) (defBody s_prime_proof) (defScope s_prime_proof) [] [] (He.ga K "prime_proof") fd := c.defs (d := dd "prime_proof" s_prime_proof) (List.mem_of_getElem? (i := 5) (by rfl))
  have h_witness : mg "witness" = some (.ref (He.ga K "witness")) := He.glo_ok hK G (c.facts (List.mem_of_getElem? (i := 6) (by rfl)))
  have F_witness : ∃ fd, FunD K "witness" "witness" (defArgs s_witness) (defBody s_witness) (defScope s_witness) [] [] (He.ga K "witness") fd := c.defs (d := dd "witness" s_witness) (List.mem_of_getElem? (i := 6) (by rfl))
  have h_is_witness : mg "is_witness" = some (.ref (He.ga K "is_witness")) := He.glo_ok hK G (c.facts (List.mem_of_getElem? (i := 7) (by rfl)))
  have F_is_witness : ∃ fd, FunD K "is_witness" "is_witness" (defArgs s_is_witness) (defBody s_is_witness) (defScope s_is_witness) [] [] (He.ga K "is_witness") fd := c.defs (d := dd "is_witness" s_is_witness) (List.mem_of_getElem? (i := 7) (by rfl))
  have h_check_proof : mg "check_proof" = some (.ref (He.ga K "check_proof")) := He.glo_ok hK G (c.facts (List.mem_of_getElem? (i := 8) (by rfl)))
  have F_check_proof : ∃ fd, FunD K "check_proof" "check_proof" (defArgs s_check_proof) (defBody s_check_proof) (defScope s_check_proof) [] [] (He.ga K "check_proof") fd := c.defs (d := dd "check_proof" s_check_proof) (List.mem_of_getElem? (i := 8) (by rfl))
  have h_row_holds : mg "row_holds" = some (.ref (He.ga K "row_holds")) := He.glo_ok hK G (c.facts (List.mem_of_getElem? (i := 9) (by rfl)))
  have F_row_holds : ∃ fd, FunD K "row_holds" "row_holds" (defArgs s_row_holds) (defBody s_row_holds) (defScope s_row_holds) [] [] (He.ga K "row_holds") fd := c.defs (d := dd "row_holds" s_row_holds) (List.mem_of_getElem? (i := 9) (by rfl))
  have h_parts_all : mg "parts_all" = some (.ref (He.ga K "parts_all")) := He.glo_ok hK G (c.facts (List.mem_of_getElem? (i := 10) (by rfl)))
  have F_parts_all : ∃ fd, FunD K "parts_all" "parts_all" (defArgs s_parts_all) (defBody s_parts_all) (defScope s_parts_all) [] [] (He.ga K "parts_all") fd := c.defs (d := dd "parts_all" s_parts_all) (List.mem_of_getElem? (i := 10) (by rfl))
  have h__law_dice : mg "_law_dice" = some (.ref (He.ga K "_law_dice")) := He.glo_ok hK G (c.facts (List.mem_of_getElem? (i := 11) (by rfl)))
  have F__law_dice : ∃ fd, FunD K "_law_dice" "_law_dice" (defArgs s__law_dice) (defBody s__law_dice) (defScope s__law_dice) [] [] (He.ga K "_law_dice") fd := c.defs (d := dd "_law_dice" s__law_dice) (List.mem_of_getElem? (i := 11) (by rfl))
  have h__law_roll : mg "_law_roll" = some (.ref (He.ga K "_law_roll")) := He.glo_ok hK G (c.facts (List.mem_of_getElem? (i := 12) (by rfl)))
  have F__law_roll : ∃ fd, FunD K "_law_roll" "_law_roll" (defArgs s__law_roll) (defBody s__law_roll) (defScope s__law_roll) [] [] (He.ga K "_law_roll") fd := c.defs (d := dd "_law_roll" s__law_roll) (List.mem_of_getElem? (i := 12) (by rfl))
  have h__law_rounds : mg "_law_rounds" = some (.ref (He.ga K "_law_rounds")) := He.glo_ok hK G (c.facts (List.mem_of_getElem? (i := 13) (by rfl)))
  have F__law_rounds : ∃ fd, FunD K "_law_rounds" "_law_rounds" (defArgs s__law_rounds) (defBody s__law_rounds) (defScope s__law_rounds) [] [] (He.ga K "_law_rounds") fd := c.defs (d := dd "_law_rounds" s__law_rounds) (List.mem_of_getElem? (i := 13) (by rfl))
  have h__law_told : mg "_law_told" = some (.ref (He.ga K "_law_told")) := He.glo_ok hK G (c.facts (List.mem_of_getElem? (i := 14) (by rfl)))
  have F__law_told : ∃ fd, FunD K "_law_told" "_law_told" (defArgs s__law_told) (defBody s__law_told) (defScope s__law_told) [] [] (He.ga K "_law_told") fd := c.defs (d := dd "_law_told" s__law_told) (List.mem_of_getElem? (i := 14) (by rfl))
  have h__law_power : mg "_law_power" = some (.ref (He.ga K "_law_power")) := He.glo_ok hK G (c.facts (List.mem_of_getElem? (i := 15) (by rfl)))
  have F__law_power : ∃ fd, FunD K "_law_power" "_law_power" (defArgs s__law_power) (defBody s__law_power) (defScope s__law_power) [] [] (He.ga K "_law_power") fd := c.defs (d := dd "_law_power" s__law_power) (List.mem_of_getElem? (i := 15) (by rfl))
  have h__law_prime : mg "_law_prime" = some (.ref (He.ga K "_law_prime")) := He.glo_ok hK G (c.facts (List.mem_of_getElem? (i := 16) (by rfl)))
  have F__law_prime : ∃ fd, FunD K "_law_prime" "_law_prime" (defArgs s__law_prime) (defBody s__law_prime) (defScope s__law_prime) [] [] (He.ga K "_law_prime") fd := c.defs (d := dd "_law_prime" s__law_prime) (List.mem_of_getElem? (i := 16) (by rfl))
  have h__law_holds : mg "_law_holds" = some (.ref (He.ga K "_law_holds")) := He.glo_ok hK G (c.facts (List.mem_of_getElem? (i := 17) (by rfl)))
  have F__law_holds : ∃ fd, FunD K "_law_holds" "_law_holds" (defArgs s__law_holds) (defBody s__law_holds) (defScope s__law_holds) [] [] (He.ga K "_law_holds") fd := c.defs (d := dd "_law_holds" s__law_holds) (List.mem_of_getElem? (i := 17) (by rfl))
  have h_law : mg "law" = some (.ref (He.ga K "law")) := He.glo_ok hK G (c.facts (List.mem_of_getElem? (i := 18) (by rfl)))
  have n_abs : mg "abs" = none := He.free_ok hK G (c.facts (List.mem_of_getElem? (i := 19) (by rfl)))
  have n_all : mg "all" = none := He.free_ok hK G (c.facts (List.mem_of_getElem? (i := 20) (by rfl)))
  have n_dict : mg "dict" = none := He.free_ok hK G (c.facts (List.mem_of_getElem? (i := 21) (by rfl)))
  have n_int : mg "int" = none := He.free_ok hK G (c.facts (List.mem_of_getElem? (i := 22) (by rfl)))
  have n_len : mg "len" = none := He.free_ok hK G (c.facts (List.mem_of_getElem? (i := 23) (by rfl)))
  have n_list : mg "list" = none := He.free_ok hK G (c.facts (List.mem_of_getElem? (i := 24) (by rfl)))
  have n_range : mg "range" = none := He.free_ok hK G (c.facts (List.mem_of_getElem? (i := 25) (by rfl)))
  have n_sorted : mg "sorted" = none := He.free_ok hK G (c.facts (List.mem_of_getElem? (i := 26) (by rfl)))
  have n_tuple : mg "tuple" = none := He.free_ok hK G (c.facts (List.mem_of_getElem? (i := 27) (by rfl)))
  have c_MOST_TRIAL : ∃ u, mg "MOST_TRIAL" = some u ∧ RelV (.int 1000000) u := by
    obtain ⟨t, ht⟩ := He.int_ok hK G (c.facts (f := .int "MOST_TRIAL" 1000000) (List.mem_of_getElem? (i := 28) (by rfl)))
    exact ⟨_, ht, t, rfl⟩
  have c_LITTLE : ∃ u, mg "LITTLE" = some u ∧ RelV (.int 1000) u := by
    obtain ⟨t, ht⟩ := He.int_ok hK G (c.facts (f := .int "LITTLE" 1000) (List.mem_of_getElem? (i := 29) (by rfl)))
    exact ⟨_, ht, t, rfl⟩
  have c_MOST_PROOF : ∃ u, mg "MOST_PROOF" = some u ∧ RelV (.int 200) u := by
    obtain ⟨t, ht⟩ := He.int_ok hK G (c.facts (f := .int "MOST_PROOF" 200) (List.mem_of_getElem? (i := 30) (by rfl)))
    exact ⟨_, ht, t, rfl⟩
  have gNumberError : mg "NumberError" = some (.ref (He.ga K "NumberError")) := He.glo_ok hK G (c.facts (List.mem_of_getElem? (i := 32) (by rfl)))
  have xNumberError := He.exc_ok (c.facts (f := .exc "NumberError") (List.mem_of_getElem? (i := 31) (by rfl)))
  have mNumberError := He.exm_ok (c.facts (f := .exm "NumberError" "NumberError" true) (List.mem_of_getElem? (i := 33) (by rfl)))
  have b1 := e1
  have X : Law.Txt K mg := ⟨gNumberError, xNumberError, mNumberError, bltB_ok hK G e1, n_abs, n_all, n_dict, n_int, n_len, n_list, n_range, n_sorted, n_tuple, c_MOST_TRIAL, c_LITTLE, c_MOST_PROOF⟩
  have B_power_by := L "power_by" (by decide)
  have B_law := L "law" (by decide)
  generalize tabL K lamF = T at *
  have G_divided_out := ok_divided_out (P := PR) (w := w) (T := T) (base := base) X F_divided_out h_divided_out
  have G_prime_factors := ok_prime_factors (P := PR) (w := w) (T := T) (base := base) X F_prime_factors h_prime_factors G_divided_out
  have G_power_by := ok_power_by2 (P := PR) (w := w) (T := T) (base := base) X F_power_by h_power_by B_power_by F_repeated h_repeated
  have G_is_little_prime := ok_is_little_prime (P := PR) (w := w) (T := T) (base := base) X F_is_little_prime h_is_little_prime
  have G_is_witness := ok_is_witness (P := PR) (w := w) (T := T) (base := base) X F_is_witness h_is_witness G_power_by
  have G_witness := ok_witness (P := PR) (w := w) (T := T) (base := base) X F_witness h_witness G_power_by G_is_witness
  have G_prime_proof := ok_prime_proof (P := PR) (w := w) (T := T) (base := base) X F_prime_proof h_prime_proof G_is_little_prime G_prime_factors G_witness
  have G__law_power := ok__law_power (P := PR) (w := w) (T := T) (base := base) X F__law_power h__law_power
  have G__law_prime := ok__law_prime (P := PR) (w := w) (T := T) (base := base) X F__law_prime h__law_prime
  have G__law_holds := ok__law_holds (P := PR) (w := w) (T := T) (base := base) X F__law_holds h__law_holds G__law_prime G__law_power
  have G__law_dice := ok_law_dice (P := PR) (w := w) (T := T) (base := base) X F__law_dice h__law_dice
  have G__law_roll := ok_law_roll (P := PR) (w := w) (T := T) (base := base) X F__law_roll h__law_roll
  have G__law_rounds := ok_law_rounds (P := PR) (w := w) (T := T) (base := base) X F__law_rounds h__law_rounds G__law_dice
  have G_parts_all := ok_parts_all (P := PR) (w := w) (T := T) (base := base) X F_parts_all h_parts_all G_is_little_prime
  have G_row_holds := ok_row_holds (P := PR) (w := w) (T := T) (base := base) X F_row_holds h_row_holds G_parts_all G_is_witness
  have G_check_proof := ok_check_proof (P := PR) (w := w) (T := T) (base := base) X F_check_proof h_check_proof G_is_little_prime G_row_holds

  have Z : GS PR w K T mg base := { G_is_little_prime := G_is_little_prime, G_prime_proof := G_prime_proof, G_witness := G_witness, G_check_proof := G_check_proof, G_row_holds := G_row_holds, G__law_prime := G__law_prime, G__law_power := G__law_power, G__law_holds := G__law_holds, G__law_roll := G__law_roll, G__law_rounds := G__law_rounds, F_told := F__law_told, hm_told := h__law_told }
  refine (ok_law (P := PR) (w := w) (T := T) (base := base) Z X B_law F).imp fun vs H Q E h => ?_
  obtain ⟨a, ns, rfl, h1, h2, h3, h4, h5⟩ := h
  have hL : IsA K (hd [] H) [.lst (ns.map di)] [.ref a] := isA_cons (by
    rw [hd_nil, Is]
    exact ⟨a, ns.map V.int, rfl, h1, by rw [show ns.map di = (ns.map V.int).map Dt.v by rw [List.map_map]; rfl]; exact flat_isA⟩) isA_nil
  exact ⟨[.lst (ns.map di)], .ok (db true), h4, (by rw [← hd_nil (H := H)]; exact hL), ⟨ns, rfl, h2, h3, rfl⟩, (fun v H' _ _ i => (by rw [Is.v_iff.mp i]; exact h5 H'))⟩
end Law.UH
open PySem PySem.W PySem.Calls PyProof.Rows
theorem PySem.Challenge.cw_algebrastack_k17_primes_that_are_proved_holds : PySem.Challenge.rw_algebrastack_k17_primes_that_are_proved.Holds := by
  w_on; o_law
  refine HandSHeadRun.head_imp (r := OpenLaw.row PySem.Challenge.rw_algebrastack_k17_primes_that_are_proved) (q := view (OpenLaw.row PySem.Challenge.rw_algebrastack_k17_primes_that_are_proved).prog [0, 28]) (H := Law.UH.hk) (ob := Law.UH.ob) (M := 4000) (loose := Law.UH.lo) (d := HandSHeadRun.topDef (OpenLaw.row PySem.Challenge.rw_algebrastack_k17_primes_that_are_proved).prog 28) (kwd := []) Law.UH.ob_eq
    Law.UH.run (by kernel_rfl) (by kernel_rfl) (by kernel_rfl) (by rfl) (by first | assumption | decide +kernel) (by decide +kernel) ⟨rfl, rfl, rfl, rfl, rfl, by decide +kernel⟩ ?hw ?hc
  case hw => w_witness2
  case hc => exact Py.walk_mine (l := PySem.Challenge.rw_algebrastack_k17_primes_that_are_proved) (k := 21) (x := "script") (nm := "law") (N := 4) (fs := Law.UH.lamF) (st := Law.UH.s_law) rfl (by kernel_rfl) ⟨rfl, by decide, by decide⟩ (by kernel_rfl) (List.mem_of_getElem? (i := 18) (by rfl)) (List.mem_of_getElem? (i := 18) (by rfl)) (fun _ _ _ _ _ _ us hl => match us, hl with | [_], _ => rfl) (fun K e => of_decide_eq_true (Bool.and_eq_true_iff.mp e).2) fun w K mg base a b c d e fd F => Law.UH.okLaw a b c d e fd F
end

