import PyProof.Rows.All
import Wide.All
import OpenK.AllK
import Wide.FinOn
import HandS.ForMost
import HandS.ForExc
import HandS.Wide
import HandS.WideBits
import HandS.Gcd
import HandS.Style
import HandS.FStr
import HandS.Lambda
import HandS.TupAny
import HandS.TupMul
import HandS.Head0
import HandS.Head1
import HandS.Head2
import HandS.HeadEnd
import HandS.HeadHook1
import HandS.HeadHook2
import HandS.HeadHook3
import HandS.HeadHook4
import HandS.HeadWalk
import HandS.Defaults
import HandS.SortInts
import KE.KDictPairs
import HandS.SortRule
import HandS.WordsDict
import HandS.SortOrd
import KE.GoesEnum
import KE.GoesMore
import HandS.Zip
import HandS.Rev
import KE.KMathG
import Flt.RightSqrt
import HandS.Deep
import HandS.Head3
import HandS.EndTab
import KE.KStateDown
import HandS.Base
import HandS.Call
import HandS.Ends
import HandS.More
import HandS.Words
import HandS.WordsExc
import PySem.Challenge.RW_algebrastack_k18_roots_that_come_back
section
set_option Elab.async false
set_option linter.all false
set_option maxRecDepth 100000
set_option maxHeartbeats 4000000
/-! A layer over HandS: pure data in slots, lists of one's own in a store; readings told by what they evaluate to. -/
namespace Py
open PySem PySem.Spec PyProof.Rows L2
set_option autoImplicit false
abbrev Frg := PySem.W.Frag
abbrev Sg := L2.St
inductive Dt where
  | v (x : V)
  | tup (xs : List Dt)
  | lst (xs : List Dt)
  | obj (C : Addr) (ns : List Str) (xs : List Dt)
  | dct (ks : List Key) (xs : List Dt)
  | tupZ (xs : List Dt)
  | lam (P : Addr → Addr → HO) (q : Str)
  | lstN (xs : List Dt)
abbrev di (i : Int) : Dt := .v (.int i)
abbrev db (b : Bool) : Dt := .v (.bl b)
abbrev dn : Dt := .v .non
abbrev ds (s : Str) : Dt := .v (.str s)
/-- an object that is no table of code objects -/
def NoT (o : HO) : Prop := ∀ ps, o ≠ .tbl ps
/-- all but the tables stay -/
def Ex (H H' : Hp) : Prop := ∀ a o, H a = some o → NoT o → H' a = some o
theorem nt_l {xs : List V} : NoT (.lst xs) := fun ps z => by cases z
theorem nt_t {xs : List V} : NoT (.tup xs) := fun ps z => by cases z
theorem nt_f {o : Obj} {u : HO} : NoT (.frz o u) := fun ps z => by cases z
theorem nt_k {kvs : List (Key × V)} : NoT (.dK kvs) := fun ps z => by cases z
theorem nt_i {C d : Addr} {fs : List (Str × V)} : NoT (.ins C d fs) := fun ps z => by cases z
theorem Ex.refl (H : Hp) : Ex H H := fun _ _ h _ => h
theorem Ex.trans {H H1 H2 : Hp} (a : Ex H H1) (b : Ex H1 H2) : Ex H H2 := fun x o h n => b x o (a x o h n) n
theorem Ex.new {H : Hp} {p : Addr} {o : HO} (h : H p = none) : Ex H (upd H p o) := fun a u e _ => by
  rw [upd_ne (ne_of_none e h)]
  exact e
theorem Ex.rd {H H' : Hp} {a : Addr} {u : HO} (e : Ex H H') (n : NoT u) (h : Rd H a u) : Rd H' a u := by
  rcases h with h | ⟨o, h⟩
  · exact .inl (e a _ h n)
  · exact .inr ⟨o, e a _ h nt_f⟩
theorem Ex.l {K : Frg} {H H' : Hp} {a : Addr} {xs : List V} (e : Ex H H') (h : SqL K H a xs) : SqL K H' a xs := by
  rcases h with h | h
  · exact .inl (e.rd nt_l h)
  · exact .inr h
theorem Ex.t {K : Frg} {H H' : Hp} {a : Addr} {xs : List V} (e : Ex H H') (h : SqT K H a xs) : SqT K H' a xs := by
  rcases h with h | h
  · exact .inl (e.rd nt_t h)
  · exact .inr h
mutual
/-- the value v, in the heap H, is the datum -/
def Is (K : Frg) (H : Hp) : Dt → V → Prop
  | .v x, v => v = x
  | .tup xs, v => ∃ a vs, v = .ref a ∧ SqT K H a vs ∧ IsA K H xs vs
  | .lst xs, v => ∃ a vs, v = .ref a ∧ SqL K H a vs ∧ IsA K H xs vs
  | .obj C ns xs, v => ∃ a dx vs, v = .ref a ∧ H a = some (.ins C dx (ns.zip vs)) ∧ IsA K H xs vs
  | .dct ks xs, v => ∃ a vs, v = .ref a ∧ H a = some (.dK (ks.zip vs)) ∧ IsA K H xs vs
  | .tupZ xs, v => ∃ a o vs, v = .ref a ∧ H a = some (.frz o (.tup vs)) ∧ o.dict = none ∧ IsA K H xs vs
  | .lam P q, v => ∃ f c', v = .ref f ∧ H f = some (P f c') ∧ NoT (P f c') ∧ H c' = some (LamX.CodeO c' q)
  | .lstN xs, v => ∃ a vs, v = .ref a ∧ Rd H a (.lst vs) ∧ IsA K H xs vs
def IsA (K : Frg) (H : Hp) : List Dt → List V → Prop
  | [], vs => vs = []
  | d :: r, vs => ∃ v w, vs = v :: w ∧ Is K H d v ∧ IsA K H r w
end
section
variable {K : Frg} {H H' : Hp}
mutual
theorem Is.mono (e : Ex H H') : ∀ (d : Dt) (v : V), Is K H d v → Is K H' d v
  | .v x, v, h => by rw [Is] at h ⊢; exact h
  | .tup xs, v, h => by
    rw [Is] at h ⊢
    obtain ⟨a, vs, h1, h2, h3⟩ := h
    exact ⟨a, vs, h1, e.t h2, IsA.mono e xs vs h3⟩
  | .lst xs, v, h => by
    rw [Is] at h ⊢
    obtain ⟨a, vs, h1, h2, h3⟩ := h
    exact ⟨a, vs, h1, e.l h2, IsA.mono e xs vs h3⟩
  | .obj C ns xs, v, h => by
    rw [Is] at h ⊢
    obtain ⟨a, dx, vs, h1, h2, h3⟩ := h
    exact ⟨a, dx, vs, h1, e _ _ h2 nt_i, IsA.mono e xs vs h3⟩
  | .dct ks xs, v, h => by
    rw [Is] at h ⊢
    obtain ⟨a, vs, h1, h2, h3⟩ := h
    exact ⟨a, vs, h1, e _ _ h2 nt_k, IsA.mono e xs vs h3⟩
  | .tupZ xs, v, h => by
    rw [Is] at h ⊢
    obtain ⟨a, o, vs, h1, h2, h4, h3⟩ := h
    exact ⟨a, o, vs, h1, e _ _ h2 nt_f, h4, IsA.mono e xs vs h3⟩
  | .lam P q, v, h => by
    rw [Is] at h ⊢
    obtain ⟨f, c', h1, h2, h3, h4⟩ := h
    exact ⟨f, c', h1, e _ _ h2 h3, h3, e _ _ h4 (fun ps z => LamX.codeO_ne ps z)⟩
  | .lstN xs, v, h => by
    rw [Is] at h ⊢
    obtain ⟨a, vs, h1, h2, h3⟩ := h
    exact ⟨a, vs, h1, e.rd nt_l h2, IsA.mono e xs vs h3⟩
theorem IsA.mono (e : Ex H H') : ∀ (ds : List Dt) (vs : List V), IsA K H ds vs → IsA K H' ds vs
  | [], vs, h => by rw [IsA] at h ⊢; exact h
  | d :: r, vs, h => by
    rw [IsA] at h ⊢
    obtain ⟨v, w, h1, h2, h3⟩ := h
    exact ⟨v, w, h1, Is.mono e d v h2, IsA.mono e r w h3⟩
end
theorem Is.v_iff {x v : V} : Is K H (.v x) v ↔ v = x := by rw [Is]
theorem is_v {x : V} : Is K H (.v x) x := by rw [Is]
theorem isA_nil : IsA K H [] [] := by rw [IsA]
theorem isA_cons {d : Dt} {r : List Dt} {v : V} {w : List V} (h : Is K H d v) (h' : IsA K H r w) : IsA K H (d :: r) (v :: w) := by rw [IsA]; exact ⟨v, w, rfl, h, h'⟩
theorem isA_len : ∀ {ds : List Dt} {vs : List V}, IsA K H ds vs → vs.length = ds.length
  | [], vs, h => by rw [IsA] at h; rw [h]; rfl
  | d :: r, vs, h => by
    rw [IsA] at h
    obtain ⟨v, w, h1, h2, h3⟩ := h
    rw [h1, List.length_cons, List.length_cons, isA_len h3]
theorem isA_get : ∀ {ds : List Dt} {vs : List V} {i : Nat} {d : Dt}, IsA K H ds vs → ds[i]? = some d → ∃ v, vs[i]? = some v ∧ Is K H d v
  | [], vs, i, d, h, e => by cases i <;> simp at e
  | d0 :: r, vs, i, d, h, e => by
    rw [IsA] at h
    obtain ⟨v, w, h1, h2, h3⟩ := h
    subst h1
    cases i with
    | zero =>
      simp at e
      subst e
      exact ⟨v, rfl, h2⟩
    | succ i =>
      obtain ⟨u, h4, h5⟩ := isA_get (i := i) h3 (by simpa using e)
      exact ⟨u, by simpa using h4, h5⟩
theorem isA_get' {ds : List Dt} {vs : List V} {i : Nat} {v : V} (h : IsA K H ds vs) (e : vs[i]? = some v) : ∃ d, ds[i]? = some d ∧ Is K H d v := by
  have hl := isA_len h
  have hi : i < vs.length := (List.getElem?_eq_some_iff.mp e).1
  have hd : ds[i]? = some ds[i] := List.getElem?_eq_getElem (by omega)
  obtain ⟨u, h1, h2⟩ := isA_get h hd
  rw [e] at h1
  cases h1
  exact ⟨_, hd, h2⟩
theorem isA_app : ∀ {xs ys : List Dt} {vs ws : List V}, IsA K H xs vs → IsA K H ys ws → IsA K H (xs ++ ys) (vs ++ ws)
  | [], ys, vs, ws, h, g => by rw [IsA] at h; subst h; exact g
  | d :: r, ys, vs, ws, h, g => by
    rw [IsA] at h
    obtain ⟨v, w, h1, h2, h3⟩ := h
    subst h1
    exact isA_cons h2 (isA_app h3 g)
theorem isA_set : ∀ {xs : List Dt} {vs : List V} {i : Nat} {d : Dt} {v : V}, IsA K H xs vs → Is K H d v → IsA K H (xs.set i d) (vs.set i v)
  | [], vs, i, d, v, h, g => by rw [IsA] at h; subst h; exact isA_nil
  | d0 :: r, vs, i, d, v, h, g => by
    rw [IsA] at h
    obtain ⟨v0, w, h1, h2, h3⟩ := h
    subst h1
    cases i with
    | zero => exact isA_cons g h3
    | succ i => exact isA_cons h2 (isA_set h3 g)
theorem isA_take : ∀ {xs : List Dt} {vs : List V} (n : Nat), IsA K H xs vs → IsA K H (xs.take n) (vs.take n)
  | xs, vs, 0, h => by simp only [List.take_zero]; exact isA_nil
  | [], vs, n + 1, h => by rw [IsA] at h; subst h; exact isA_nil
  | d :: r, vs, n + 1, h => by
    rw [IsA] at h
    obtain ⟨v, w, h1, h2, h3⟩ := h
    subst h1
    exact isA_cons h2 (isA_take n h3)
theorem isA_drop : ∀ {xs : List Dt} {vs : List V} (n : Nat), IsA K H xs vs → IsA K H (xs.drop n) (vs.drop n)
  | xs, vs, 0, h => h
  | [], vs, n + 1, h => by rw [IsA] at h; subst h; exact isA_nil
  | d :: r, vs, n + 1, h => by
    rw [IsA] at h
    obtain ⟨v, w, h1, h2, h3⟩ := h
    subst h1
    exact isA_drop n h3
theorem isA_cut {xs : List Dt} {vs : List V} (lo hi : Nat) (h : IsA K H xs vs) : IsA K H ((xs.drop lo).take hi) ((vs.drop lo).take hi) := isA_take hi (isA_drop lo h)
end
/-! ### the abstract state -/
inductive SD where
  | un
  | d (x : Dt)
  | own (k : Nat)
inductive OD where
  | gone
  | lst (xs : List Dt)
structure AS where
  sl : List SD
  st : List OD
def hd (O : List Addr) (H : Hp) : Hp := fun b => if b ∈ O then none else H b
theorem hd_ex {O : List Addr} {H : Hp} : Ex (hd O H) H := fun a o e _ => by
  unfold hd at e
  split at e
  · cases e
  · exact e
theorem hd_mono {O : List Addr} {H H' : Hp} (e : Ex H H') : Ex (hd O H) (hd O H') := fun a o h n => by
  unfold hd at h ⊢
  split at h
  · cases h
  · rename_i q
    rw [if_neg q]
    exact e _ _ h n
theorem hd_of {O : List Addr} {H : Hp} {a : Addr} (h : a ∉ O) : hd O H a = H a := by unfold hd; rw [if_neg h]
theorem hd_nil {H : Hp} : hd [] H = H := by funext b; unfold hd; simp
/-- the addresses hidden -/
def hid (O : List Addr) (os : List (Option Addr)) : List Addr := O ++ os.filterMap id
theorem mem_hid {O : List Addr} {os : List (Option Addr)} {a : Addr} : a ∈ hid O os ↔ a ∈ O ∨ some a ∈ os := by
  unfold hid
  rw [List.mem_append, List.mem_filterMap]
  constructor
  · rintro (h | ⟨x, h1, h2⟩)
    · exact .inl h
    · have : x = some a := h2
      rw [this] at h1
      exact .inr h1
  · rintro (h | h)
    · exact .inl h
    · exact .inr ⟨_, h, rfl⟩
/-- the heap of data -/
abbrev Rh (O : List Addr) (os : List (Option Addr)) (H : Hp) : Hp := hd (hid O os) H
def SlOk (K : Frg) (os : List (Option Addr)) (R : Hp) : SD → Option V → Prop
  | .un, _ => True
  | .d x, o => ∃ v, o = some v ∧ Is K R x v
  | .own k, o => ∃ a, o = some (.ref a) ∧ os[k]? = some (some a)
def StOk (K : Frg) (R H : Hp) (o : Option Addr) : OD → Prop
  | .gone => True
  | .lst xs => ∃ a vs, o = some a ∧ H a = some (.lst vs) ∧ IsA K R xs vs
/-- the context of a def's reading: the written part, the tables, the heap at the entry, what is hidden -/
structure Ct where
  K : Frg
  T : List (Addr × Str)
  H0 : Hp
  O : List Addr
section
variable {K : Frg} {H H' : Hp} {O : List Addr} {os : List (Option Addr)}
theorem SlOk.mono {R R' : Hp} (e : Ex R R') : ∀ {s : SD} {o : Option V}, SlOk K os R s o → SlOk K os R' s o
  | .un, _, _ => True.intro
  | .d x, _, h => by
    obtain ⟨v, h1, h2⟩ := h
    exact ⟨v, h1, Is.mono e x v h2⟩
  | .own k, _, h => h
theorem StOk.mono {R R' : Hp} (e : Ex R R') (g : Ex H H') {o : Option Addr} : ∀ {s : OD}, StOk K R H o s → StOk K R' H' o s
  | .gone, _ => True.intro
  | .lst xs, h => by
    obtain ⟨a, vs, h1, h2, h3⟩ := h
    exact ⟨a, vs, h1, g _ _ h2 nt_l, IsA.mono e xs vs h3⟩
theorem hid_ex {os : List (Option Addr)} {H : Hp} : Ex (Rh O os H) (hd O H) := fun a o h _ => by
  have h : hd (hid O os) H a = some o := h
  unfold hd at h ⊢
  split at h
  · cases h
  · rename_i q
    rw [if_neg fun z => q (mem_hid.mpr (.inl z))]
    exact h
theorem hid_app {p a : Addr} (h : a ≠ p) : a ∈ hid O (os ++ [some p]) ↔ a ∈ hid O os := by
  rw [mem_hid, mem_hid, List.mem_append]
  constructor
  · rintro (z | z | z)
    · exact .inl z
    · exact .inr z
    · simp at z; exact absurd z h
  · rintro (z | z)
    · exact .inl z
    · exact .inr (.inl z)
theorem Rh_app {p : Addr} {o : HO} (hp : H p = none) : Rh O (os ++ [some p]) (upd H p o) = Rh O os H := by
  funext a
  show hd _ _ a = hd _ _ a
  unfold hd
  by_cases e : a = p
  · subst e
    rw [if_pos (mem_hid.mpr (.inr (by simp)))]
    split
    · rfl
    · exact hp.symm
  · by_cases q : a ∈ hid O os
    · rw [if_pos q, if_pos ((hid_app e).mpr q)]
    · rw [if_neg q, if_neg fun z => q ((hid_app e).mp z), upd_ne e]
theorem Rh_upd {p : Addr} {o : HO} (hp : p ∈ hid O os) : Rh O os (upd H p o) = Rh O os H := by
  funext a
  show hd _ _ a = hd _ _ a
  unfold hd
  by_cases e : a = p
  · subst e
    rw [if_pos hp, if_pos hp]
  · rw [upd_ne e]
theorem tabs_new {T : List (Addr × Str)} {p : Addr} {o : HO} (t : LamX.Tabs T H) (hp : H p = none) : LamX.Tabs T (upd H p o) := t.ext fun b u e => by
  rw [upd_ne (ne_of_none e hp)]
  exact e
theorem tabs_lst {T : List (Addr × Str)} {p : Addr} {xs ys : List V} (t : LamX.Tabs T H) (hp : H p = some (.lst xs)) : LamX.Tabs T (upd H p (.lst ys)) := fun q hq => by
  obtain ⟨ps, h1, h2, h3⟩ := t q hq
  refine ⟨ps, ?_, h2, fun pos cv hc => ?_⟩
  · rw [upd_ne (ne_of h1 hp (fun z => by cases z))]
    exact h1
  · obtain ⟨c, e1, e2⟩ := h3 pos cv hc
    refine ⟨c, e1, ?_⟩
    rw [upd_ne (ne_of e2 hp (fun z => by unfold LamX.CodeO at z; cases z))]
    exact e2
end
structure Ok (C : Ct) (os : List (Option Addr)) (A : AS) (σ : Sg) (H : Hp) : Prop where
  ex : Ex C.H0 H
  tb : LamX.Tabs C.T H
  ol : ∀ a ∈ C.O, ∃ o, H a = some o ∧ NoT o
  dj : ∀ a ∈ C.O, some a ∉ os
  ln : os.length = A.st.length
  nd : ∀ (i j : Nat) (a : Addr), os[i]? = some (some a) → os[j]? = some (some a) → i = j
  fr : ∀ a, some a ∈ os → (∀ o, C.H0 a = some o → ¬ NoT o) ∧ ∃ o, H a = some o ∧ NoT o
  sn : σ.length = A.sl.length
  sl : ∀ (i : Nat) s o, A.sl[i]? = some s → σ[i]? = some o → SlOk C.K os (Rh C.O os H) s o
  st : ∀ (k : Nat) s o, A.st[k]? = some s → os[k]? = some o → StOk C.K (Rh C.O os H) H o s
section
variable {C : Ct} {H H' : Hp} {os : List (Option Addr)} {A : AS} {σ : Sg}
theorem Ok.mono (k : Ok C os A σ H) (e : Ex H H') (t : LamX.Tabs C.T H') : Ok C os A σ H' :=
  ⟨k.ex.trans e, t, fun a h => by obtain ⟨o, q, n⟩ := k.ol a h; exact ⟨o, e _ _ q n, n⟩, k.dj, k.ln, k.nd, fun a h => ⟨(k.fr a h).1, by obtain ⟨o, q, n⟩ := (k.fr a h).2; exact ⟨o, e _ _ q n, n⟩⟩, k.sn, fun i s o h1 h2 => (k.sl i s o h1 h2).mono (hd_mono e), fun i s o h1 h2 => (k.st i s o h1 h2).mono (hd_mono e) e⟩
theorem Ok.monoN (k : Ok C os A σ H) {p : Addr} {o : HO} (hp : H p = none) : Ok C os A σ (upd H p o) := k.mono (Ex.new hp) (tabs_new k.tb hp)
theorem Ok.hidden (k : Ok C os A σ H) {a : Addr} (h : a ∈ hid C.O os) : ∃ o, H a = some o ∧ NoT o := by
  rcases mem_hid.mp h with h | h
  · exact k.ol a h
  · exact (k.fr a h).2
theorem Ok.new (k : Ok C os A σ H) {a : Addr} (h : H a = none) : a ∉ hid C.O os := fun q => by
  obtain ⟨o, e, _⟩ := k.hidden q
  rw [h] at e; cases e
theorem Ok.slot (k : Ok C os A σ H) {i : Nat} {s : SD} (h : A.sl[i]? = some s) : ∃ o, σ[i]? = some o ∧ SlOk C.K os (Rh C.O os H) s o := by
  have hi : i < A.sl.length := (List.getElem?_eq_some_iff.mp h).1
  obtain ⟨o, e⟩ : ∃ o, σ[i]? = some o := ⟨_, List.getElem?_eq_getElem (by rw [k.sn]; exact hi)⟩
  exact ⟨_, e, k.sl i s _ h e⟩
theorem Ok.store (k : Ok C os A σ H) {i : Nat} {s : OD} (h : A.st[i]? = some s) : ∃ o, os[i]? = some o ∧ StOk C.K (Rh C.O os H) H o s := by
  have hi : i < A.st.length := (List.getElem?_eq_some_iff.mp h).1
  obtain ⟨o, e⟩ : ∃ o, os[i]? = some o := ⟨_, List.getElem?_eq_getElem (by rw [k.ln]; exact hi)⟩
  exact ⟨_, e, k.st i s _ h e⟩
/-- a slot is given a datum -/
def AS.put (A : AS) (i : Nat) (d : Dt) : AS := ⟨A.sl.set i (.d d), A.st⟩
theorem Ok.put (k : Ok C os A σ H) {i : Nat} {d : Dt} {v : V} (h : Is C.K (Rh C.O os H) d v) : Ok C os (A.put i d) (σ.set i (some v)) H := by
  refine ⟨k.ex, k.tb, k.ol, k.dj, k.ln, k.nd, k.fr, by simp [AS.put, k.sn], fun j s o h1 h2 => ?_, k.st⟩
  have h1 : (A.sl.set i (SD.d d))[j]? = some s := h1
  rw [List.getElem?_set] at h1 h2
  by_cases e : i = j
  · rw [if_pos e] at h1 h2
    split at h1
    · split at h2
      · cases h1; cases h2
        exact ⟨v, rfl, h⟩
      · cases h2
    · cases h1
  · rw [if_neg e] at h1 h2
    exact k.sl j s o h1 h2
end
/-- what was known is known, what is hidden from outside stays -/
structure Gr (O : List Addr) (os : List (Option Addr)) (H : Hp) (os' : List (Option Addr)) (H' : Hp) : Prop where
  e : Ex (Rh O os H) (Rh O os' H')
  o : ∀ a ∈ O, H' a = H a
  p : ∀ (k : Nat) (x : Option Addr), os[k]? = some x → os'[k]? = some x
theorem Gr.refl {O : List Addr} {os : List (Option Addr)} {H : Hp} : Gr O os H os H := ⟨Ex.refl _, fun _ _ => rfl, fun _ _ h => h⟩
theorem Gr.trans {O : List Addr} {os os1 os2 : List (Option Addr)} {H H1 H2 : Hp} (a : Gr O os H os1 H1) (b : Gr O os1 H1 os2 H2) : Gr O os H os2 H2 := ⟨a.e.trans b.e, fun x h => (b.o x h).trans (a.o x h), fun k x h => b.p k x (a.p k x h)⟩
theorem Ok.gr {C : Ct} {H H' : Hp} {os : List (Option Addr)} {A : AS} {σ : Sg} (k : Ok C os A σ H) (e : Ex H H') : Gr C.O os H os H' := ⟨hd_mono e, fun a h => by
  obtain ⟨o, q, n⟩ := k.ol a h
  rw [q, e _ _ q n], fun _ _ h => h⟩
/-! ### what a reading evaluates to -/
section
variable (C : Ct)
def EvS (te : TE) (A : AS) (d : Dt) (A' : AS) : Prop := ∀ os σ H, Ok C os A σ H → ∀ Q : VK, (∀ os' v H', Ok C os' A' σ H' → Gr C.O os H os' H' → Is C.K (Rh C.O os' H') d v → Q v H') → te σ H Q
def EvT (tt : TT) (A : AS) (b : Bool) (A' : AS) : Prop := ∀ os σ H, Ok C os A σ H → ∀ Q : Bool → Hp → Prop, (∀ os' H', Ok C os' A' σ H' → Gr C.O os H os' H' → Q b H') → tt σ H Q
def EvA (ta : TA) (A : AS) (ds : List Dt) (A' : AS) : Prop := ∀ os σ H, Ok C os A σ H → ∀ Q : List V → Hp → Prop, (∀ os' vs H', Ok C os' A' σ H' → Gr C.O os H os' H' → IsA C.K (Rh C.O os' H') ds vs → Q vs H') → ta σ H Q
/-- raises c -/
def EvX (E : XK) (te : TE) (A : AS) (c : Addr) (A1 : AS) : Prop := ∀ os σ H, Ok C os A σ H → (∀ os' H', Ok C os' A1 σ H' → Gr C.O os H os' H' → E (.ref c) none H') → ∀ Q : VK, te σ H Q
def EvXA (E : XK) (ta : TA) (A : AS) (c : Addr) (A1 : AS) : Prop := ∀ os σ H, Ok C os A σ H → (∀ os' H', Ok C os' A1 σ H' → Gr C.O os H os' H' → E (.ref c) none H') → ∀ Q : List V → Hp → Prop, ta σ H Q
def EvXT (E : XK) (tt : TT) (A : AS) (c : Addr) (A1 : AS) : Prop := ∀ os σ H, Ok C os A σ H → (∀ os' H', Ok C os' A1 σ H' → Gr C.O os H os' H' → E (.ref c) none H') → ∀ Q : Bool → Hp → Prop, tt σ H Q
end
section
variable {C : Ct} {ta tb tc te : TE} {t u : TT} {A A1 A2 A3 : AS} {x y z : V} {d d1 d2 : Dt} {r : R2}
theorem e_var {i : Nat} (h : A.sl[i]? = some (.d d)) : EvS C (tVar i) A d A := fun os σ H k Q q => by
  obtain ⟨o, e, v, h1, h2⟩ := k.slot h
  subst h1
  exact ⟨v, e, q os v H k Gr.refl h2⟩
theorem e_c : EvS C (tC x) A (.v x) A := fun os σ H k Q q => q os x H k Gr.refl is_v
theorem e_op (ha : EvS C ta A (.v x) A1) (hb : EvS C tb A1 (.v y) A2) (hr : ∀ H (Q : VK), Q z H → r x y H Q) : EvS C (tOp r ta tb) A (.v z) A2 := fun os σ H k Q q =>
  ha os σ H k _ fun os1 v1 H1 k1 e1 i1 => hb os1 σ H1 k1 _ fun os2 v2 H2 k2 e2 i2 => by
    rw [Is.v_iff.mp i1, Is.v_iff.mp i2]
    exact hr H2 Q (q os2 z H2 k2 (e1.trans e2) is_v)
theorem e_I0 {g : Int → Int → V} {i j : Int} (ha : EvS C ta A (di i) A1) (hb : EvS C tb A1 (di j) A2) : EvS C (tOp (rI0 g) ta tb) A (.v (g i j)) A2 := e_op ha hb fun H Q q => ⟨i, j, rfl, rfl, q⟩
theorem e_I {cc : Int → Int → Prop} {g : Int → Int → V} {i j : Int} (hc : cc i j) (ha : EvS C ta A (di i) A1) (hb : EvS C tb A1 (di j) A2) : EvS C (tOp (rI cc g) ta tb) A (.v (g i j)) A2 := e_op ha hb fun H Q q => ⟨i, j, rfl, rfl, hc, q⟩
theorem e_eq (h : scal x y = true) (ha : EvS C ta A (.v x) A1) (hb : EvS C tb A1 (.v y) A2) : EvS C (tOp rEq ta tb) A (db (decide (x = y))) A2 := e_op ha hb fun H Q q => ⟨h, q⟩
theorem e_ne (h : scal x y = true) (ha : EvS C ta A (.v x) A1) (hb : EvS C tb A1 (.v y) A2) : EvS C (tOp rNe ta tb) A (db (!decide (x = y))) A2 := e_op ha hb fun H Q q => ⟨h, q⟩
theorem e_un {r : V → Hp → VK → Prop} (ha : EvS C ta A (.v x) A1) (hr : ∀ H (Q : VK), Q z H → r x H Q) : EvS C (tUn r ta) A (.v z) A1 := fun os σ H k Q q =>
  ha os σ H k _ fun os1 v1 H1 k1 e1 i1 => by
    rw [Is.v_iff.mp i1]
    exact hr H1 Q (q os1 z H1 k1 e1 is_v)
theorem e_U {g : Int → V} {i : Int} (ha : EvS C ta A (di i) A1) : EvS C (tUn (rU g) ta) A (.v (g i)) A1 := e_un ha fun H Q q => ⟨i, rfl, q⟩
theorem e_is (h : EvS C te A d A1) (e : d = d1) : EvS C te A d1 A1 := by rw [← e]; exact h
theorem e_isA (h : EvS C te A d A1) (e : A1 = A2) : EvS C te A d A2 := by rw [← e]; exact h
theorem isA_at {H : Hp} {xs : List Dt} {vs : List V} {i : Int} (h : IsA C.K H xs vs) (e : atI xs i = some d) : ∃ v, atI vs i = some v ∧ Is C.K H d v := by
  unfold atI at e ⊢
  rw [isA_len h]
  cases q : ixN xs.length i with
  | none => rw [q] at e; cases e
  | some j =>
    rw [q] at e
    obtain ⟨v, h1, h2⟩ := isA_get h (show xs[j]? = some d from e)
    exact ⟨v, h1, h2⟩
theorem e_ixT {xs : List Dt} {i : Int} (ha : EvS C ta A (.tup xs) A1) (hb : EvS C tb A1 (di i) A2) (h : atI xs i = some d) : EvS C (tOp (rIxT C.K) ta tb) A d A2 := fun os σ H k Q q =>
  ha os σ H k _ fun os1 v1 H1 k1 e1 i1 => hb os1 σ H1 k1 _ fun os2 v2 H2 k2 e2 i2 => by
    rw [Is] at i1
    obtain ⟨a, vs, rfl, h2, h3⟩ := i1
    obtain ⟨v, h4, h5⟩ := isA_at h3 h
    rw [Is.v_iff.mp i2]
    exact ⟨a, vs, i, v, rfl, rfl, (e2.e.trans hd_ex).t h2, h4, q os2 v H2 k2 (e1.trans e2) (Is.mono e2.e _ _ h5)⟩
theorem e_ixL {xs : List Dt} {i : Int} (ha : EvS C ta A (.lst xs) A1) (hb : EvS C tb A1 (di i) A2) (h : atI xs i = some d) : EvS C (tOp (rIxL C.K) ta tb) A d A2 := fun os σ H k Q q =>
  ha os σ H k _ fun os1 v1 H1 k1 e1 i1 => hb os1 σ H1 k1 _ fun os2 v2 H2 k2 e2 i2 => by
    rw [Is] at i1
    obtain ⟨a, vs, rfl, h2, h3⟩ := i1
    obtain ⟨v, h4, h5⟩ := isA_at h3 h
    rw [Is.v_iff.mp i2]
    exact ⟨a, vs, i, v, rfl, rfl, (e2.e.trans hd_ex).l h2, h4, q os2 v H2 k2 (e1.trans e2) (Is.mono e2.e _ _ h5)⟩
/-- an item of a list of one's own -/
theorem e_ixO0 {i : Nat} {n : Nat} {xs : List Dt} {j : Int} (h1 : A.sl[i]? = some (.own n)) (h2 : A.st[n]? = some (.lst xs)) (hb : EvS C tb A (di j) A) (h : atI xs j = some d) : EvS C (tOp (rIxL C.K) (tVar i) tb) A d A := fun os σ H k Q q => by
  obtain ⟨o, e1, a, e2, e3⟩ := k.slot h1
  subst e2
  refine ⟨_, e1, hb os σ H k _ fun os2 v2 H2 k2 e4 i2 => ?_⟩
  obtain ⟨o2, f1, f3⟩ := k2.slot h1
  obtain ⟨f1, f2, a2, g1, g2⟩ := k2.slot h1
  rw [e1] at f2; cases f2
  cases g1
  obtain ⟨o3, s1, a3, vs, s2, s3, s4⟩ := k2.store h2
  rw [g2] at s1; cases s1; cases s2
  obtain ⟨v, h4, h5⟩ := isA_at s4 h
  rw [Is.v_iff.mp i2]
  exact ⟨_, vs, j, v, rfl, rfl, SqL.of s3, h4, q os2 v H2 k2 e4 h5⟩
theorem a_nil : EvA C tNil A [] A := fun os σ H k Q q => q os [] H k Gr.refl isA_nil
theorem a_cons {tr : TA} {ds : List Dt} (ha : EvS C ta A d A1) (hr : EvA C tr A1 ds A2) : EvA C (tCons ta tr) A (d :: ds) A2 := fun os σ H k Q q =>
  ha os σ H k _ fun os1 v1 H1 k1 e1 i1 => hr os1 σ H1 k1 _ fun os2 vs H2 k2 e2 i2 => q os2 (v1 :: vs) H2 k2 (e1.trans e2) (isA_cons (Is.mono e2.e _ _ i1) i2)
theorem Ok.fresh {os : List (Option Addr)} {σ : Sg} {H : Hp} {p : Addr} {o : HO} (k : Ok C os A σ H) (hp : H p = none) : Rh C.O os (upd H p o) p = some o := by
  show hd _ _ _ = _
  rw [hd_of (k.new hp), upd_same]
theorem e_tup {tl : TA} {ds : List Dt} (h : EvA C tl A ds A1) (hl : ds.length ≤ 100000) : EvS C (tTup tl) A (.tup ds) A1 := fun os σ H k Q q =>
  h os σ H k _ fun os1 vs H1 k1 e1 i1 => ⟨by rw [isA_len i1]; exact Nat.le_trans hl (by decide), fun p hp => q os1 _ _ (k1.monoN hp) (e1.trans (k1.gr (Ex.new hp))) (by
    rw [Is]
    exact ⟨p, vs, rfl, SqT.of (k1.fresh hp), IsA.mono (hd_mono (Ex.new hp)) _ _ i1⟩)⟩
theorem e_lst {tl : TA} {ds : List Dt} (h : EvA C tl A ds A1) (hl : ds.length ≤ 100000) : EvS C (tLst tl) A (.lst ds) A1 := fun os σ H k Q q =>
  h os σ H k _ fun os1 vs H1 k1 e1 i1 => ⟨by rw [isA_len i1]; exact Nat.le_trans hl (by decide), fun p hp => q os1 _ _ (k1.monoN hp) (e1.trans (k1.gr (Ex.new hp))) (by
    rw [Is]
    exact ⟨p, vs, rfl, SqL.of (k1.fresh hp), IsA.mono (hd_mono (Ex.new hp)) _ _ i1⟩)⟩
theorem t_test {b : Bool} (h : EvS C te A (db b) A1) : EvT C (tTest te) A b A1 := fun os σ H k Q q => h os σ H k _ fun os1 v H1 k1 e1 i1 => ⟨b, Is.v_iff.mp i1, q os1 H1 k1 e1⟩
theorem t_B {b : Bool} (h : EvS C te A (db b) A1) : EvT C (tB te) A b A1 := fun os σ H k Q q => h os σ H k _ fun os1 v H1 k1 e1 i1 => ⟨b, Is.v_iff.mp i1, q os1 H1 k1 e1⟩
theorem t_is {a b : Bool} (h : EvT C t A a A1) (e : a = b) : EvT C t A b A1 := by rw [← e]; exact h
theorem t_andT {b : Bool} (h1 : EvT C t A true A1) (h2 : EvT C u A1 b A2) : EvT C (tAnd t u) A b A2 := fun os σ H k Q q =>
  h1 os σ H k _ fun os1 H1 k1 e1 => by
    rw [if_pos rfl]
    exact h2 os1 σ H1 k1 _ fun os2 H2 k2 e2 => q os2 H2 k2 (e1.trans e2)
theorem t_andF (h1 : EvT C t A false A1) : EvT C (tAnd t u) A false A1 := fun os σ H k Q q =>
  h1 os σ H k _ fun os1 H1 k1 e1 => by
    rw [if_neg (by decide)]
    exact q os1 H1 k1 e1
theorem t_orF {b : Bool} (h1 : EvT C t A false A1) (h2 : EvT C u A1 b A2) : EvT C (tOr t u) A b A2 := fun os σ H k Q q =>
  h1 os σ H k _ fun os1 H1 k1 e1 => by
    rw [if_neg (by decide)]
    exact h2 os1 σ H1 k1 _ fun os2 H2 k2 e2 => q os2 H2 k2 (e1.trans e2)
theorem t_orT (h1 : EvT C t A true A1) : EvT C (tOr t u) A true A1 := fun os σ H k Q q =>
  h1 os σ H k _ fun os1 H1 k1 e1 => by
    rw [if_pos rfl]
    exact q os1 H1 k1 e1
/-- and, or where the state stays -/
theorem t_and {a b : Bool} (h1 : EvT C t A a A) (h2 : a = true → EvT C u A b A) : EvT C (tAnd t u) A (a && b) A := by
  cases a with
  | true => exact t_andT h1 (h2 rfl)
  | false => exact t_andF h1
theorem t_or {a b : Bool} (h1 : EvT C t A a A) (h2 : a = false → EvT C u A b A) : EvT C (tOr t u) A (a || b) A := by
  cases a with
  | true => exact t_orT h1
  | false => exact t_orF h1 (h2 rfl)
theorem t_not {a : Bool} (h1 : EvT C t A a A1) : EvT C (tNot t) A (!a) A1 := fun os σ H k Q q => h1 os σ H k _ fun os1 H1 k1 e1 => q os1 H1 k1 e1
theorem e_ifT (h : EvT C t A true A1) (h1 : EvS C ta A1 d A2) : EvS C (tIf t ta tb) A d A2 := fun os σ H k Q q =>
  h os σ H k _ fun os1 H1 k1 e1 => by
    rw [if_pos rfl]
    exact h1 os1 σ H1 k1 _ fun os2 v H2 k2 e2 i => q os2 v H2 k2 (e1.trans e2) i
theorem e_ifF (h : EvT C t A false A1) (h1 : EvS C tb A1 d A2) : EvS C (tIf t ta tb) A d A2 := fun os σ H k Q q =>
  h os σ H k _ fun os1 H1 k1 e1 => by
    rw [if_neg (by decide)]
    exact h1 os1 σ H1 k1 _ fun os2 v H2 k2 e2 i => q os2 v H2 k2 (e1.trans e2) i
theorem e_if {b : Bool} (h : EvT C t A b A1) (h1 : b = true → EvS C ta A1 d A2) (h2 : b = false → EvS C tb A1 d A2) : EvS C (tIf t ta tb) A d A2 := by
  cases b with
  | true => exact e_ifT h (h1 rfl)
  | false => exact e_ifF h (h2 rfl)
theorem e_ite {b : Bool} (h : EvT C t A b A1) (h1 : b = true → EvS C ta A1 d1 A2) (h2 : b = false → EvS C tb A1 d2 A2) : EvS C (tIf t ta tb) A (if b then d1 else d2) A2 := by
  cases b with
  | true => exact e_ifT h (h1 rfl)
  | false => exact e_ifF h (h2 rfl)
theorem e_andT (h1 : EvS C ta A (db true) A1) (h2 : EvS C tb A1 d A2) : EvS C (tAndV ta tb) A d A2 := fun os σ H k Q q =>
  h1 os σ H k _ fun os1 v H1 k1 e1 i1 => ⟨true, Is.v_iff.mp i1, by
    rw [if_pos rfl]
    exact h2 os1 σ H1 k1 _ fun os2 v H2 k2 e2 i => q os2 v H2 k2 (e1.trans e2) i⟩
theorem e_andF (h1 : EvS C ta A (db false) A1) : EvS C (tAndV ta tb) A (db false) A1 := fun os σ H k Q q =>
  h1 os σ H k _ fun os1 v H1 k1 e1 i1 => ⟨false, Is.v_iff.mp i1, by
    rw [if_neg (by decide)]
    exact q os1 _ H1 k1 e1 is_v⟩
theorem e_orT (h1 : EvS C ta A (db true) A1) : EvS C (tOrV ta tb) A (db true) A1 := fun os σ H k Q q =>
  h1 os σ H k _ fun os1 v H1 k1 e1 i1 => ⟨true, Is.v_iff.mp i1, by
    rw [if_pos rfl]
    exact q os1 _ H1 k1 e1 is_v⟩
theorem e_orF (h1 : EvS C ta A (db false) A1) (h2 : EvS C tb A1 d A2) : EvS C (tOrV ta tb) A d A2 := fun os σ H k Q q =>
  h1 os σ H k _ fun os1 v H1 k1 e1 i1 => ⟨false, Is.v_iff.mp i1, by
    rw [if_neg (by decide)]
    exact h2 os1 σ H1 k1 _ fun os2 v H2 k2 e2 i => q os2 v H2 k2 (e1.trans e2) i⟩
theorem e_and {a b : Bool} (h1 : EvS C ta A (db a) A) (h2 : a = true → EvS C tb A (db b) A) : EvS C (tAndV ta tb) A (db (a && b)) A := by
  cases a with
  | true => exact e_andT h1 (h2 rfl)
  | false => exact e_andF h1
theorem e_or {a b : Bool} (h1 : EvS C ta A (db a) A) (h2 : a = false → EvS C tb A (db b) A) : EvS C (tOrV ta tb) A (db (a || b)) A := by
  cases a with
  | true => exact e_orT h1
  | false => exact e_orF h1 (h2 rfl)
theorem e_not {a : Bool} (h1 : EvS C ta A (db a) A1) : EvS C (tNotV ta) A (db (!a)) A1 := fun os σ H k Q q =>
  h1 os σ H k _ fun os1 v H1 k1 e1 i1 => ⟨a, Is.v_iff.mp i1, q os1 _ H1 k1 e1 is_v⟩
/-- a call of a built-in by values -/
theorem e_CB {r : List V → Hp → VK → Prop} {tl : TA} {vs : List V} (h : EvA C tl A (vs.map .v) A1) (hr : ∀ H (Q : VK), Q z H → r vs H Q) : EvS C (tCB r tl) A (.v z) A1 := fun os σ H k Q q =>
  h os σ H k _ fun os1 ws H1 k1 e1 i1 => by
    have e : ws = vs := by
      have : ∀ (vs ws : List V), IsA C.K (Rh C.O os1 H1) (vs.map .v) ws → ws = vs := by
        intro vs
        induction vs with
        | nil => intro ws h; simpa [IsA] using h
        | cons v r ih =>
          intro ws h
          rw [List.map_cons, IsA] at h
          obtain ⟨v', w, h1, h2, h3⟩ := h
          rw [h1, ih w h3, Is.v_iff.mp h2]
      exact this vs ws i1
    rw [e]
    exact hr H1 Q (q os1 z H1 k1 e1 is_v)
end
/-! ### statements -/
structure Po where
  nx : AS → Prop := fun _ => False
  rt : Dt → AS → Prop := fun _ _ => False
  bk : AS → Prop := fun _ => False
  ct : AS → Prop := fun _ => False
  er : Addr → Prop := fun _ => False
structure To (C : Ct) (P : Po) (E : XK) (os0 : List (Option Addr)) (Hs : Hp) (D : Ends) : Prop where
  nx : ∀ os A σ H, P.nx A → Ok C os A σ H → Gr C.O os0 Hs os H → D.nx σ H
  rt : ∀ os A σ d v H, P.rt d A → Ok C os A σ H → Gr C.O os0 Hs os H → Is C.K (hd C.O H) d v → D.rt v H
  bk : ∀ os A σ H, P.bk A → Ok C os A σ H → Gr C.O os0 Hs os H → D.bk σ H
  ct : ∀ os A σ H, P.ct A → Ok C os A σ H → Gr C.O os0 Hs os H → D.ct σ H
  er : ∀ c H, P.er c → Ex C.H0 H → LamX.Tabs C.T H → E (.ref c) none H
def RunS (C : Ct) (E : XK) (t : TS) (A : AS) (P : Po) : Prop := ∀ os σ H D, Ok C os A σ H → To C P E os H D → t D σ H
section
variable {C : Ct} {E : XK} {ta tb tc te : TE} {tt : TT} {t u : TS} {A A1 A2 A3 : AS} {d d1 d2 : Dt} {P : Po}
theorem To.from {os os1 : List (Option Addr)} {H H1 : Hp} {D : Ends} (T : To C P E os H D) (g : Gr C.O os H os1 H1) : To C P E os1 H1 D :=
  ⟨fun os2 A σ H2 h k q => T.nx os2 A σ H2 h k (g.trans q), fun os2 A σ d v H2 h k q i => T.rt os2 A σ d v H2 h k (g.trans q) i, fun os2 A σ H2 h k q => T.bk os2 A σ H2 h k (g.trans q), fun os2 A σ H2 h k q => T.ct os2 A σ H2 h k (g.trans q), T.er⟩
theorem r_seq (h : RunS C E t A { P with nx := fun A' => RunS C E u A' P }) : RunS C E (tSeq t u) A P := fun os σ H D k T =>
  h os σ H { D with nx := u D } k ⟨fun os1 A1 σ1 H1 h k q => h os1 σ1 H1 D k (T.from q), T.rt, T.bk, T.ct, T.er⟩
theorem r_next (h : P.nx A) : RunS C E tNext A P := fun os σ H D k T => T.nx os A σ H h k Gr.refl
theorem r_break (h : P.bk A) : RunS C E tBreak A P := fun os σ H D k T => T.bk os A σ H h k Gr.refl
theorem r_cont (h : P.ct A) : RunS C E tCont A P := fun os σ H D k T => T.ct os A σ H h k Gr.refl
theorem r_asg {i : Nat} (he : EvS C te A d A1) (h : P.nx (A1.put i d)) : RunS C E (tAsg te (gName i)) A P := fun os σ H D k T =>
  he os σ H k _ fun os1 v H1 k1 e1 i1 => T.nx os1 _ _ H1 h (k1.put i1) e1
theorem r_drop (he : EvS C te A d A1) (h : P.nx A1) : RunS C E (tDrop te) A P := fun os σ H D k T =>
  he os σ H k _ fun os1 v H1 k1 e1 i1 => T.nx os1 _ _ H1 h k1 e1
theorem r_ret (he : EvS C te A d A1) (h : P.rt d A1) : RunS C E (tRet te) A P := fun os σ H D k T =>
  he os σ H k _ fun os1 v H1 k1 e1 i1 => T.rt os1 A1 σ d v H1 h k1 e1 (Is.mono hid_ex _ _ i1)
theorem r_retN (h : P.rt dn A) : RunS C E tRetN A P := fun os σ H D k T => T.rt os A σ _ _ H h k Gr.refl is_v
/-- a list of one's own handed back -/
theorem r_retO {i n : Nat} {xs : List Dt} (h1 : A.sl[i]? = some (.own n)) (h2 : A.st[n]? = some (.lst xs)) (h : P.rt (.lst xs) A) : RunS C E (tRet (tVar i)) A P := fun os σ H D k T => by
  obtain ⟨o, e1, a, e2, e3⟩ := k.slot h1
  subst e2
  obtain ⟨o3, s1, a3, vs, s2, s3, s4⟩ := k.store h2
  rw [e3] at s1; cases s1; cases s2
  refine ⟨_, e1, T.rt os A σ _ _ H h k Gr.refl ?_⟩
  rw [Is]
  have na : a ∉ C.O := fun z => k.dj a z (List.mem_of_getElem? e3)
  exact ⟨a, vs, rfl, SqL.of (by rw [hd_of na]; exact s3), IsA.mono hid_ex _ _ s4⟩
theorem r_if {b : Bool} (hc : EvT C tt A b A1) (h1 : b = true → RunS C E t A1 P) (h2 : b = false → RunS C E u A1 P) : RunS C E (tIfS tt t u) A P := fun os σ H D k T =>
  hc os σ H k _ fun os1 H1 k1 e1 => by
    cases b with
    | true => rw [if_pos rfl]; exact h1 rfl os1 σ H1 D k1 (T.from e1)
    | false => rw [if_neg (by decide)]; exact h2 rfl os1 σ H1 D k1 (T.from e1)
theorem r_ifT (hc : EvT C tt A true A1) (h1 : RunS C E t A1 P) : RunS C E (tIfS tt t u) A P := r_if hc (fun _ => h1) fun z => by cases z
theorem r_ifF (hc : EvT C tt A false A1) (h1 : RunS C E u A1 P) : RunS C E (tIfS tt t u) A P := r_if hc (fun z => by cases z) fun _ => h1
theorem r_par {i j : Nat} {tl : TA} (h : EvA C tl A [d, d1] A1) (hn : P.nx ((A1.put i d).put j d1)) : RunS C E (tPar i j tl) A P := fun os σ H D k T =>
  h os σ H k _ fun os1 vs H1 k1 e1 i1 => by
    simp only [IsA] at i1
    obtain ⟨v, w, rfl, h1, v', w', rfl, h2, rfl⟩ := i1
    exact ⟨v, v', rfl, T.nx os1 _ _ H1 hn ((k1.put h1).put h2) e1⟩
theorem r_par3 {i j l : Nat} {tl : TA} (h : EvA C tl A [d, d1, d2] A1) (hn : P.nx (((A1.put i d).put j d1).put l d2)) : RunS C E (tPar3 i j l tl) A P := fun os σ H D k T =>
  h os σ H k _ fun os1 vs H1 k1 e1 i1 => by
    simp only [IsA] at i1
    obtain ⟨v, w, rfl, h1, v', w', rfl, h2, v'', w'', rfl, h3, rfl⟩ := i1
    exact ⟨v, v', v'', rfl, T.nx os1 _ _ H1 hn (((k1.put h1).put h2).put h3) e1⟩
/-- targets that take data one after another -/
def puts (A : AS) : List Nat → List Dt → AS
  | i :: is, d :: ds => puts (A.put i d) is ds
  | _, _ => A
def gNames : List Nat → TGs
  | [] => gNil
  | i :: is => gCons (gName i) (gNames is)
theorem gNames_ok {os : List (Option Addr)} {H : Hp} {Q : Sg → Hp → Prop} : ∀ (is : List Nat) {A : AS} {σ : Sg} {ds : List Dt} {vs : List V}, Ok C os A σ H → IsA C.K (Rh C.O os H) ds vs → ds.length = is.length → (∀ σ', Ok C os (puts A is ds) σ' H → Q σ' H) → gNames is vs σ H Q
  | [], A, σ, ds, vs, k, i, e, q => by
    cases ds with
    | nil => rw [IsA] at i; exact ⟨i, q σ k⟩
    | cons _ _ => cases e
  | n :: is, A, σ, ds, vs, k, i, e, q => by
    cases ds with
    | nil => cases e
    | cons d r =>
      rw [IsA] at i
      obtain ⟨v, w, rfl, h1, h2⟩ := i
      exact ⟨v, w, rfl, gNames_ok is (k.put h1) h2 (by simpa using e) q⟩
theorem r_asgT {is : List Nat} {n : Nat} {ds : List Dt} (he : EvS C te A (.tup ds) A1) (hl : ds.length = is.length) (hn : is.length = n) (h : P.nx (puts A1 is ds)) : RunS C E (tAsg te (gTup C.K n (gNames is))) A P := fun os σ H D k T =>
  he os σ H k _ fun os1 v H1 k1 e1 i1 => by
    rw [Is] at i1
    obtain ⟨a, vs, rfl, h1, h2⟩ := i1
    exact ⟨a, vs, rfl, hd_ex.t h1, by rw [isA_len h2, hl, hn], gNames_ok is k1 h2 hl fun σ' k' => T.nx os1 _ _ H1 h k' e1⟩
/-! ### a list of one's own -/
def AS.newO (A : AS) (i : Nat) (xs : List Dt) : AS := ⟨A.sl.set i (.own A.st.length), A.st ++ [.lst xs]⟩
def AS.upO (A : AS) (n : Nat) (xs : List Dt) : AS := ⟨A.sl, A.st.set n (.lst xs)⟩
theorem Ok.newO {os : List (Option Addr)} {σ : Sg} {H : Hp} {p : Addr} {xs : List Dt} {vs : List V} {i : Nat} (k : Ok C os A σ H) (hp : H p = none) (hx : IsA C.K (Rh C.O os H) xs vs) : Ok C (os ++ [some p]) (A.newO i xs) (σ.set i (some (.ref p))) (upd H p (.lst vs)) := by
  have np : some p ∉ os := fun z => by
    obtain ⟨o, q, _⟩ := (k.fr p z).2
    rw [hp] at q; cases q
  refine ⟨k.ex.trans (Ex.new hp), tabs_new k.tb hp, fun a h => by obtain ⟨o, q, n⟩ := k.ol a h; exact ⟨o, Ex.new hp _ _ q n, n⟩, fun a h z => ?dj, by simp [AS.newO, k.ln], fun a b c h1 h2 => ?_, fun a h => ?_, by simp [AS.newO, k.sn], fun j s o h1 h2 => ?_, fun j s o h1 h2 => ?_⟩
  case dj =>
    rcases List.mem_append.mp z with z | z
    · exact k.dj a h z
    · simp at z
      subst z
      obtain ⟨o, q, _⟩ := k.ol a h
      rw [hp] at q; cases q
  · rw [List.getElem?_append] at h1 h2
    split at h1 <;> split at h2
    · exact k.nd a b c h1 h2
    · rename_i q1 q2
      have e : c = p := by
        cases z : b - os.length with
        | zero => rw [z] at h2; simpa using h2.symm
        | succ n => rw [z] at h2; simp at h2
      rw [e] at h1
      exact absurd (List.mem_of_getElem? h1) np
    · have e : c = p := by
        cases z : a - os.length with
        | zero => rw [z] at h1; simpa using h1.symm
        | succ n => rw [z] at h1; simp at h1
      rw [e] at h2
      exact absurd (List.mem_of_getElem? h2) np
    · rename_i q1 q2
      have e1 : a - os.length = 0 := by
        cases z : a - os.length with
        | zero => rfl
        | succ n => rw [z] at h1; simp at h1
      have e2 : b - os.length = 0 := by
        cases z : b - os.length with
        | zero => rfl
        | succ n => rw [z] at h2; simp at h2
      omega
  · rcases List.mem_append.mp h with h | h
    · obtain ⟨h1, o, h2, n⟩ := k.fr a h
      exact ⟨h1, o, Ex.new hp _ _ h2 n, n⟩
    · simp at h
      subst h
      exact ⟨fun o q n => (by have := k.ex _ _ q n; rw [hp] at this; cases this), _, upd_same, nt_l⟩
  · rw [Rh_app hp]
    have h1 : (A.sl.set i (SD.own A.st.length))[j]? = some s := h1
    rw [List.getElem?_set] at h1 h2
    by_cases e : i = j
    · rw [if_pos e] at h1 h2
      split at h1
      · split at h2
        · cases h1; cases h2
          exact ⟨p, rfl, by rw [← k.ln]; simp⟩
        · cases h2
      · cases h1
    · rw [if_neg e] at h1 h2
      have q := k.sl j s o h1 h2
      cases s with
      | un => exact q
      | d x => exact q
      | own n =>
        obtain ⟨a, q1, q2⟩ := q
        exact ⟨a, q1, by rw [List.getElem?_append_left (List.getElem?_eq_some_iff.mp q2).1]; exact q2⟩
  · rw [Rh_app hp]
    have h1 : (A.st ++ [OD.lst xs])[j]? = some s := h1
    rw [List.getElem?_append] at h1 h2
    rw [k.ln] at h2
    split at h1
    · rename_i q1
      rw [if_pos q1] at h2
      exact (k.st j s o h1 h2).mono (Ex.refl _) (Ex.new hp)
    · rename_i q1
      rw [if_neg q1] at h2
      cases z : j - A.st.length with
      | succ n => rw [z] at h1; simp at h1
      | zero =>
        rw [z] at h1 h2
        simp at h1 h2
        subst h1 h2
        exact ⟨p, vs, rfl, upd_same, hx⟩
theorem r_new {i : Nat} {tl : TA} {xs : List Dt} (h : EvA C tl A xs A1) (hl : xs.length ≤ 100000) (hn : P.nx (A1.newO i xs)) : RunS C E (tAsg (tLst tl) (gName i)) A P := fun os σ H D k T =>
  h os σ H k _ fun os1 vs H1 k1 e1 i1 => ⟨by rw [isA_len i1]; exact Nat.le_trans hl (by decide), fun p hp => T.nx _ _ _ _ hn (k1.newO hp i1) (e1.trans ⟨by rw [Rh_app hp]; exact Ex.refl _, fun a h => by obtain ⟨o, q, n⟩ := k1.ol a h; rw [q, Ex.new hp _ _ q n], fun k x h => by rw [List.getElem?_append_left (List.getElem?_eq_some_iff.mp h).1]; exact h⟩)⟩
theorem Ok.upO {os : List (Option Addr)} {σ : Sg} {H : Hp} {p : Addr} {xs ys : List Dt} {vs : List V} {n : Nat} (k : Ok C os A σ H) (h1 : os[n]? = some (some p)) (h2 : A.st[n]? = some (.lst xs)) (hx : IsA C.K (Rh C.O os H) ys vs) : Ok C os (A.upO n ys) σ (upd H p (.lst vs)) := by
  have hp : p ∈ hid C.O os := mem_hid.mpr (.inr (List.mem_of_getElem? h1))
  have hpl : ∃ ws, H p = some (.lst ws) := by
    obtain ⟨o, s1, a3, ws, s2, s3, s4⟩ := k.store h2
    rw [h1] at s1; cases s1; cases s2
    exact ⟨ws, s3⟩
  obtain ⟨ws, hpl⟩ := hpl
  refine ⟨fun a o e nt => ?_, tabs_lst k.tb hpl, fun a h => ?ol, k.dj, by simp [AS.upO, k.ln], k.nd, fun a h => ?_, k.sn, fun j s o e1 e2 => ?_, fun j s o e1 e2 => ?_⟩
  case ol =>
    obtain ⟨o, q, n⟩ := k.ol a h
    exact ⟨o, by rw [upd_ne fun z => k.dj a h (by rw [z]; exact List.mem_of_getElem? h1)]; exact q, n⟩
  · have ne : a ≠ p := fun z => (k.fr p (List.mem_of_getElem? h1)).1 o (by rw [← z]; exact e) nt
    rw [upd_ne ne]
    exact k.ex _ _ e nt
  · obtain ⟨q1, o, q2, n⟩ := k.fr a h
    refine ⟨q1, ?_⟩
    by_cases e : a = p
    · rw [e]; exact ⟨_, upd_same, nt_l⟩
    · exact ⟨o, by rw [upd_ne e]; exact q2, n⟩
  · rw [Rh_upd hp]
    exact k.sl j s o e1 e2
  · rw [Rh_upd hp]
    have e1 : (A.st.set n (OD.lst ys))[j]? = some s := e1
    rw [List.getElem?_set] at e1
    by_cases e : n = j
    · rw [if_pos e] at e1
      split at e1
      · cases e1
        subst e
        rw [h1] at e2; cases e2
        exact ⟨p, vs, rfl, upd_same, hx⟩
      · cases e1
    · rw [if_neg e] at e1
      have q := k.st j s o e1 e2
      cases s with
      | gone => exact q
      | lst zs =>
        obtain ⟨a, ws, q1, q2, q3⟩ := q
        have ne : a ≠ p := fun z => by
          rw [q1, z] at e2
          exact e (k.nd n j p h1 e2)
        exact ⟨a, ws, q1, by rw [upd_ne ne]; exact q2, q3⟩
/-- xs.append(e) -/
theorem e_append {i n : Nat} {xs xs0 : List Dt} (h1 : A.sl[i]? = some (.own n)) (h0 : A.st[n]? = some (.lst xs0)) (he : EvS C te A d A1) (h1' : A1.sl[i]? = some (.own n)) (h2 : A1.st[n]? = some (.lst xs)) (hl : xs.length < 100000) : EvS C (tBM C.K "list" rAppend (tVar i) (tCons te tNil)) A dn (A1.upO n (xs ++ [d])) := fun os σ H k Q q => by
  obtain ⟨o, e1, a, e2, e3⟩ := k.slot h1
  subst e2
  obtain ⟨o3, s1, a3, vs, s2, s3, s4⟩ := k.store h0
  rw [e3] at s1; cases s1; cases s2
  refine ⟨_, e1, .inl ⟨rfl, _, .inl (.inl s3)⟩, ?_⟩
  · exact he os σ H k _ fun os1 v H1 k1 x1 i1 => by
      obtain ⟨o, f1, a1, f2, f3⟩ := k1.slot h1'
      rw [e1] at f1; cases f1; cases f2
      obtain ⟨o3, s1, a3, vs, s2, s3, s4⟩ := k1.store h2
      rw [f3] at s1; cases s1; cases s2
      refine ⟨a, vs, v, rfl, rfl, s3, by rw [isA_len s4]; exact Nat.lt_of_lt_of_le hl (by decide), ?_⟩
      exact q os1 _ _ (k1.upO f3 h2 (isA_app s4 (isA_cons i1 isA_nil))) (x1.trans ⟨by rw [Rh_upd (mem_hid.mpr (.inr (List.mem_of_getElem? f3)))]; exact Ex.refl _, fun b hb => (by rw [upd_ne fun z => k1.dj b hb (by rw [z]; exact List.mem_of_getElem? f3)]), fun _ _ h => h⟩) is_v
end
/-! ### loops -/
section
variable {C : Ct} {E : XK} {ta tb tc te tl : TE} {tt : TT} {t u : TS} {A A1 A2 A3 : AS} {d d1 d2 : Dt} {P : Po}
theorem r_while (W : Nat → AS → Prop) (m0 : Nat) (h0 : W m0 A)
    (hs : ∀ m A, W m A → ∃ b A1, EvT C tt A b A1 ∧ (b = true → RunS C E t A1 { P with nx := fun A' => ∃ m', m' < m ∧ W m' A', ct := fun A' => ∃ m', m' < m ∧ W m' A', bk := P.nx }) ∧ (b = false → P.nx A1)) :
    RunS C E (tWhile tt t) A P := fun os σ H D k T => by
  refine ⟨fun m σ' H' => ∃ os' A', W m A' ∧ Ok C os' A' σ' H' ∧ Gr C.O os H os' H', ⟨m0, os, A, h0, k, Gr.refl⟩, fun m σ1 H1 ⟨os1, A1, w1, k1, g1⟩ => ?_⟩
  obtain ⟨b, A2, ht, hy, hn⟩ := hs m A1 w1
  refine ht os1 σ1 H1 k1 _ fun os2 H2 k2 g2 => ?_
  cases b with
  | true =>
    rw [if_pos rfl]
    refine ⟨fun σ' H' => ∃ m', m' < m ∧ ∃ os' A', W m' A' ∧ Ok C os' A' σ' H' ∧ Gr C.O os H os' H', fun σ' H' ⟨m', h1, h2⟩ => ⟨m', h1, h2⟩, ?_⟩
    refine hy rfl os2 σ1 H2 _ k2 ⟨fun os3 A3 σ3 H3 ⟨m', h1, h2⟩ k3 g3 => ⟨m', h1, os3, A3, h2, k3, (g1.trans g2).trans g3⟩, fun os3 A3 σ3 d v H3 h k3 g3 i3 => T.rt os3 A3 σ3 d v H3 h k3 ((g1.trans g2).trans g3) i3, fun os3 A3 σ3 H3 h k3 g3 => T.nx os3 A3 σ3 H3 h k3 ((g1.trans g2).trans g3), fun os3 A3 σ3 H3 ⟨m', h1, h2⟩ k3 g3 => ⟨m', h1, os3, A3, h2, k3, (g1.trans g2).trans g3⟩, T.er⟩
  | false =>
    rw [if_neg (by decide)]
    exact T.nx os2 A2 σ1 H2 (hn rfl) k2 (g1.trans g2)
/-- a target that takes a datum -/
def Tg (C : Ct) (g : TG) (x : Dt) (A A' : AS) : Prop := ∀ os σ H v (Q : Sg → Hp → Prop), Ok C os A σ H → Is C.K (Rh C.O os H) x v → (∀ σ', Ok C os A' σ' H → Q σ' H) → g v σ H Q
def TgA (C : Ct) (g : TGs) (xs : List Dt) (A A' : AS) : Prop := ∀ os σ H vs (Q : Sg → Hp → Prop), Ok C os A σ H → IsA C.K (Rh C.O os H) xs vs → (∀ σ', Ok C os A' σ' H → Q σ' H) → g vs σ H Q
theorem tg_name {i : Nat} {x : Dt} : Tg C (gName i) x A (A.put i x) := fun os σ H v Q k i q => q _ (k.put i)
theorem tgA_nil : TgA C gNil [] A A := fun os σ H vs Q k i q => ⟨by rw [IsA] at i; exact i, q σ k⟩
theorem tgA_cons {g : TG} {gs : TGs} {x : Dt} {xs : List Dt} (h : Tg C g x A A1) (h' : TgA C gs xs A1 A2) : TgA C (gCons g gs) (x :: xs) A A2 := fun os σ H vs Q k i q => by
  rw [IsA] at i
  obtain ⟨v, w, rfl, h1, h2⟩ := i
  exact ⟨v, w, rfl, h os σ H v _ k h1 fun σ1 k1 => h' os σ1 H w Q k1 h2 q⟩
theorem tg_tup {gs : TGs} {n : Nat} {xs : List Dt} (hl : xs.length = n) (h : TgA C gs xs A A1) : Tg C (gTup C.K n gs) (.tup xs) A A1 := fun os σ H v Q k i q => by
  rw [Is] at i
  obtain ⟨a, vs, rfl, h1, h2⟩ := i
  exact ⟨a, vs, rfl, hd_ex.t h1, by rw [isA_len h2, hl], h os σ H vs Q k h2 q⟩
theorem r_tg {g : TG} (he : EvS C te A d A1) (hg : Tg C g d A1 A2) (h : P.nx A2) : RunS C E (tAsg te g) A P := fun os σ H D k T =>
  he os σ H k _ fun os1 v H1 k1 e1 i1 => hg os1 σ H1 v _ k1 i1 fun σ2 k2 => T.nx os1 _ _ H1 h k2 e1
/-- for target in a list (a tuple): turns over data -/
theorem r_forL {g : TG} {xs : List Dt} (he : EvS C tl A (.lst xs) A1) (Pv : Nat → AS → Prop) (h0 : Pv 0 A1)
    (hs : ∀ i x A, xs[i]? = some x → Pv i A → ∃ A', Tg C g x A A' ∧ RunS C E t A' { P with nx := Pv (i + 1), ct := Pv (i + 1), bk := P.nx }) (hd : ∀ A, Pv xs.length A → P.nx A) : RunS C E (tFor (iList C.K tl) g t) A P := fun os σ H D k T =>
  he os σ H k _ fun os1 v H1 k1 e1 i1 => by
    rw [Is] at i1
    obtain ⟨a, vs, rfl, h1, h2⟩ := i1
    refine ⟨a, rfl, ⟨vs, hd_ex.l h1⟩, for_list (K := C.K) (a := a) (xs := vs) (fun i σ' H' => ∃ os' A', Pv i A' ∧ Ok C os' A' σ' H' ∧ Gr C.O os1 H1 os' H') ⟨os1, A1, h0, k1, Gr.refl⟩ (fun i σ' H' _ ⟨os', A', p, k', g'⟩ => hd_ex.l (g'.e.l h1)) ?_ fun σ' H' ⟨os', A', p, k', g'⟩ => T.nx os' A' σ' H' (hd A' (by rw [← isA_len h2]; exact p)) k' (e1.trans g')⟩
    rintro i x σ' H' hx ⟨os', A', p, k', g'⟩
    obtain ⟨d, hd', hi⟩ := isA_get' h2 hx
    obtain ⟨A2, tg, run⟩ := hs i d A' hd' p
    refine tg os' σ' H' x _ k' (Is.mono g'.e _ _ hi) fun σ2 k2 => ?_
    exact run os' σ2 H' _ k2 ⟨fun os3 A3 σ3 H3 h k3 g3 => ⟨os3, A3, h, k3, g'.trans g3⟩, fun os3 A3 σ3 d v H3 h k3 g3 i3 => T.rt os3 A3 σ3 d v H3 h k3 ((e1.trans g').trans g3) i3, fun os3 A3 σ3 H3 h k3 g3 => T.nx os3 A3 σ3 H3 h k3 ((e1.trans g').trans g3), fun os3 A3 σ3 H3 h k3 g3 => ⟨os3, A3, h, k3, g'.trans g3⟩, T.er⟩
theorem r_forT {g : TG} {xs : List Dt} (he : EvS C tl A (.tup xs) A1) (Pv : Nat → AS → Prop) (h0 : Pv 0 A1)
    (hs : ∀ i x A, xs[i]? = some x → Pv i A → ∃ A', Tg C g x A A' ∧ RunS C E t A' { P with nx := Pv (i + 1), ct := Pv (i + 1), bk := P.nx }) (hd : ∀ A, Pv xs.length A → P.nx A) : RunS C E (tFor (iTup C.K tl) g t) A P := fun os σ H D k T =>
  he os σ H k _ fun os1 v H1 k1 e1 i1 => by
    rw [Is] at i1
    obtain ⟨a, vs, rfl, h1, h2⟩ := i1
    refine ⟨a, rfl, ⟨vs, hd_ex.t h1⟩, for_tup (K := C.K) (a := a) (xs := vs) (fun i σ' H' => ∃ os' A', Pv i A' ∧ Ok C os' A' σ' H' ∧ Gr C.O os1 H1 os' H') ⟨os1, A1, h0, k1, Gr.refl⟩ (fun i σ' H' _ ⟨os', A', p, k', g'⟩ => hd_ex.t (g'.e.t h1)) ?_ fun σ' H' ⟨os', A', p, k', g'⟩ => T.nx os' A' σ' H' (hd A' (by rw [← isA_len h2]; exact p)) k' (e1.trans g')⟩
    rintro i x σ' H' hx ⟨os', A', p, k', g'⟩
    obtain ⟨d, hd', hi⟩ := isA_get' h2 hx
    obtain ⟨A2, tg, run⟩ := hs i d A' hd' p
    refine tg os' σ' H' x _ k' (Is.mono g'.e _ _ hi) fun σ2 k2 => ?_
    exact run os' σ2 H' _ k2 ⟨fun os3 A3 σ3 H3 h k3 g3 => ⟨os3, A3, h, k3, g'.trans g3⟩, fun os3 A3 σ3 d v H3 h k3 g3 i3 => T.rt os3 A3 σ3 d v H3 h k3 ((e1.trans g').trans g3) i3, fun os3 A3 σ3 H3 h k3 g3 => T.nx os3 A3 σ3 H3 h k3 ((e1.trans g').trans g3), fun os3 A3 σ3 H3 h k3 g3 => ⟨os3, A3, h, k3, g'.trans g3⟩, T.er⟩
theorem r_forR {g : TG} {lo : Int} {n : Nat} {wi : TI} (hw : ∀ os σ H, Ok C os A σ H → ∀ R : It → Hp → Prop, (∀ os' H', Ok C os' A1 σ H' → Gr C.O os H os' H' → R (Itr lo n) H') → wi σ H R) (Pv : Nat → AS → Prop) (h0 : Pv 0 A1)
    (hs : ∀ (i : Nat) A, i < n → Pv i A → ∃ A', Tg C g (di (lo + i)) A A' ∧ RunS C E t A' { P with nx := Pv (i + 1), ct := Pv (i + 1), bk := P.nx }) (hd : ∀ A, Pv n A → P.nx A) : RunS C E (tFor wi g t) A P := fun os σ H D k T =>
  hw os σ H k _ fun os1 H1 k1 e1 => by
    refine for_range (lo := lo) (n := n) (fun i σ' H' => ∃ os' A', Pv i A' ∧ Ok C os' A' σ' H' ∧ Gr C.O os1 H1 os' H') ⟨os1, A1, h0, k1, Gr.refl⟩ ?_ fun σ' H' ⟨os', A', p, k', g'⟩ => T.nx os' A' σ' H' (hd A' p) k' (e1.trans g')
    rintro i σ' H' hi ⟨os', A', p, k', g'⟩
    obtain ⟨A2, tg, run⟩ := hs i A' hi p
    refine tg os' σ' H' _ _ k' is_v fun σ2 k2 => ?_
    exact run os' σ2 H' _ k2 ⟨fun os3 A3 σ3 H3 h k3 g3 => ⟨os3, A3, h, k3, g'.trans g3⟩, fun os3 A3 σ3 d v H3 h k3 g3 i3 => T.rt os3 A3 σ3 d v H3 h k3 ((e1.trans g').trans g3) i3, fun os3 A3 σ3 H3 h k3 g3 => T.nx os3 A3 σ3 H3 h k3 ((e1.trans g').trans g3), fun os3 A3 σ3 H3 h k3 g3 => ⟨os3, A3, h, k3, g'.trans g3⟩, T.er⟩
theorem w_rng1 {tl : TA} {n : Int} (h : EvA C tl A [di n] A1) (hn : -(2 ^ 62) ≤ n ∧ n < 2 ^ 62) : ∀ os σ H, Ok C os A σ H → ∀ R : It → Hp → Prop, (∀ os' H', Ok C os' A1 σ H' → Gr C.O os H os' H' → R (Itr 0 n.toNat) H') → iRng1 tl σ H R := fun os σ H k R q =>
  h os σ H k _ fun os1 vs H1 k1 e1 i1 => by
    simp only [IsA, Is] at i1
    obtain ⟨v, w, rfl, rfl, rfl⟩ := i1
    exact ⟨n, rfl, hn.1, hn.2, q os1 H1 k1 e1⟩
theorem w_rng2 {tl : TA} {m n : Int} (h : EvA C tl A [di m, di n] A1) (hm : -(2 ^ 62) ≤ m ∧ m < 2 ^ 62) (hn : -(2 ^ 62) ≤ n ∧ n < 2 ^ 62) : ∀ os σ H, Ok C os A σ H → ∀ R : It → Hp → Prop, (∀ os' H', Ok C os' A1 σ H' → Gr C.O os H os' H' → R (Itr m (n - m).toNat) H') → iRng2 tl σ H R := fun os σ H k R q =>
  h os σ H k _ fun os1 vs H1 k1 e1 i1 => by
    simp only [IsA, Is] at i1
    obtain ⟨v, w, rfl, rfl, v', w', rfl, rfl, rfl⟩ := i1
    exact ⟨m, n, rfl, ⟨hm.1, hm.2, hn.1, hn.2⟩, q os1 H1 k1 e1⟩
/-! ### raising, calls, promises -/
inductive Rs where
  | ok (d : Dt)
  | err (c : Addr)
def spD (K : Frg) (T : List (Addr × Str)) (g : List Dt → Rs → Prop) : Sp := fun vs H Q E => ∃ O ds r, (∀ a ∈ O, ∃ o, H a = some o ∧ NoT o) ∧ LamX.Tabs T H ∧ IsA K (hd O H) ds vs ∧ g ds r ∧
  match r with
  | .ok d => ∀ v H', Ex H H' → LamX.Tabs T H' → Is K (hd O H') d v → Q v H'
  | .err c => ∀ H', Ex H H' → LamX.Tabs T H' → E (.ref c) none H'
theorem e_call {g : List Dt → Rs → Prop} {E' : XK} {tl : TA} {ds : List Dt} (ha : EvA C tl A ds A1) (hg : g ds (.ok d)) : EvS C (tCall (spD C.K C.T g) [] E' tl) A d A1 := fun os σ H k Q q =>
  ha os σ H k _ fun os1 vs H1 k1 e1 i1 => ⟨hid C.O os1, ds, .ok d, fun a h => k1.hidden h, k1.tb, by rw [List.append_nil]; exact i1, hg, fun v H' e t i => q os1 v H' (k1.mono e t) (e1.trans (k1.gr e)) i⟩
theorem x_call {g : List Dt → Rs → Prop} {tl : TA} {ds : List Dt} {c : Addr} (ha : EvA C tl A ds A1) (hg : g ds (.err c)) : EvX C E (tCall (spD C.K C.T g) [] E tl) A c A1 := fun os σ H k hE Q =>
  ha os σ H k _ fun os1 vs H1 k1 e1 i1 => ⟨hid C.O os1, ds, .err c, fun a h => k1.hidden h, k1.tb, by rw [List.append_nil]; exact i1, hg, fun H' e t => hE os1 H' (k1.mono e t) (e1.trans (k1.gr e))⟩
theorem x_asg {g : TG} {c : Addr} (h : EvX C E te A c A1) (hp : P.er c) : RunS C E (tAsg te g) A P := fun os σ H D k T => h os σ H k (fun os' H' k' _ => T.er c H' hp k'.ex k'.tb) _
theorem x_ret {c : Addr} (h : EvX C E te A c A1) (hp : P.er c) : RunS C E (tRet te) A P := fun os σ H D k T => h os σ H k (fun os' H' k' _ => T.er c H' hp k'.ex k'.tb) _
theorem x_drop {c : Addr} (h : EvX C E te A c A1) (hp : P.er c) : RunS C E (tDrop te) A P := fun os σ H D k T => h os σ H k (fun os' H' k' _ => T.er c H' hp k'.ex k'.tb) _
theorem x_op1 {r : R2} {c : Addr} (h : EvX C E ta A c A1) : EvX C E (tOp r ta tb) A c A1 := fun os σ H k hE Q => h os σ H k hE _
theorem x_op2 {r : R2} {c : Addr} (ha : EvS C ta A d A1) (h : EvX C E tb A1 c A2) : EvX C E (tOp r ta tb) A c A2 := fun os σ H k hE Q => ha os σ H k _ fun os1 v1 H1 k1 e1 i1 => h os1 σ H1 k1 (fun os' H' k' g => hE os' H' k' (e1.trans g)) _
theorem xa_1 {tr : TA} {c : Addr} (h : EvX C E ta A c A1) : EvXA C E (tCons ta tr) A c A1 := fun os σ H k hE Q => h os σ H k hE _
theorem xa_2 {tr : TA} {c : Addr} (ha : EvS C ta A d A1) (h : EvXA C E tr A1 c A2) : EvXA C E (tCons ta tr) A c A2 := fun os σ H k hE Q => ha os σ H k _ fun os1 v1 H1 k1 e1 i1 => h os1 σ H1 k1 (fun os' H' k' g => hE os' H' k' (e1.trans g)) _
theorem x_args {sp : Sp} {dvs : List V} {tl : TA} {c : Addr} (h : EvXA C E tl A c A1) : EvX C E (tCall sp dvs E tl) A c A1 := fun os σ H k hE Q => h os σ H k hE _
theorem x_tup {tl : TA} {c : Addr} (h : EvXA C E tl A c A1) : EvX C E (tTup tl) A c A1 := fun os σ H k hE Q => h os σ H k hE _
theorem x_ifT {c : Addr} (h : EvT C tt A true A1) (h1 : EvX C E ta A1 c A2) : EvX C E (tIf tt ta tb) A c A2 := fun os σ H k hE Q =>
  h os σ H k _ fun os1 H1 k1 e1 => by
    rw [if_pos rfl]
    exact h1 os1 σ H1 k1 (fun os' H' k' g => hE os' H' k' (e1.trans g)) _
theorem x_ifF {c : Addr} (h : EvT C tt A false A1) (h1 : EvX C E tb A1 c A2) : EvX C E (tIf tt ta tb) A c A2 := fun os σ H k hE Q =>
  h os σ H k _ fun os1 H1 k1 e1 => by
    rw [if_neg (by decide)]
    exact h1 os1 σ H1 k1 (fun os' H' k' g => hE os' H' k' (e1.trans g)) _
/-- raise X('..') -/
def tRz (E : XK) (c : Addr) : TS := fun _ _ H => E (.ref c) none H
theorem r_raise {c : Addr} (h : P.er c) : RunS C E (tRz E c) A P := fun os σ H D k T => T.er c H h k.ex k.tb
/-- the end of a def -/
def poR (r : Rs) : Po := { nx := fun _ => r = .ok dn, rt := fun d _ => r = .ok d, er := fun c => r = .err c }
def start (N : List Str) (ds : List Dt) : AS := ⟨ds.map .d ++ List.replicate (N.length - ds.length) .un, []⟩
theorem start_ok {N : List Str} {ds : List Dt} {vs : List V} {K : Frg} {T : List (Addr × Str)} {H : Hp} {O : List Addr} (hO : ∀ a ∈ O, ∃ o, H a = some o ∧ NoT o) (ht : LamX.Tabs T H) (h : IsA K (hd O H) ds vs) : Ok ⟨K, T, H, O⟩ [] (start N ds) (L2.start N vs) H := by
  have e : Rh O [] H = hd O H := by
    show hd (O ++ []) H = _
    rw [List.append_nil]
  have hl := isA_len h
  refine ⟨Ex.refl _, ht, hO, fun a _ z => (by cases z), rfl, fun i j a z => (by simp at z), fun a z => (by cases z), (by simp [start, L2.start, hl]), fun i s o h1 h2 => ?_, fun i s o h1 h2 => by simp at h2⟩
  show SlOk K [] (Rh O [] H) s o
  rw [e]
  have h1 : (ds.map SD.d ++ List.replicate (N.length - ds.length) SD.un)[i]? = some s := h1
  have h2 : (vs.map some ++ List.replicate (N.length - vs.length) none)[i]? = some o := h2
  rw [List.getElem?_append] at h1 h2
  simp only [List.length_map] at h1 h2
  split at h1
  · rename_i q
    rw [if_pos (by rw [hl]; exact q)] at h2
    rw [List.getElem?_map] at h1 h2
    cases e1 : ds[i]? with
    | none => rw [e1] at h1; cases h1
    | some d =>
      obtain ⟨v, hv, hi⟩ := isA_get h e1
      rw [e1] at h1
      rw [hv] at h2
      cases h1; cases h2
      exact ⟨v, rfl, hi⟩
  · rw [List.getElem?_replicate] at h1
    split at h1
    · cases h1; exact True.intro
    · cases h1
theorem fin {t : TS} {N : List Str} {K : Frg} {T : List (Addr × Str)} {E : XK} {g : List Dt → Rs → Prop} {vs : List V} {H : Hp} {Q : VK} (h : spD K T g vs H Q E) (run : ∀ O ds r, g ds r → RunS ⟨K, T, H, O⟩ E t (start N ds) (poR r)) : t { nx := fun _ H' => Q .non H', rt := Q } (L2.start N vs) H := by
  obtain ⟨O, ds, r, hO, ht, hi, hg, hr⟩ := h
  refine run O ds r hg [] _ H _ (start_ok hO ht hi) ⟨fun os A σ H' z k _ => ?_, fun os A σ d v H' z k _ i => ?_, fun os A σ H' z => z.elim, fun os A σ H' z => z.elim, fun c H' z e t => ?_⟩
  · have z : r = .ok dn := z
    subst z
    exact hr _ H' k.ex k.tb is_v
  · have z : r = .ok d := z
    subst z
    exact hr v H' k.ex k.tb i
  · have z : r = .err c := z
    subst z
    exact hr H' e t
theorem spD_len {K : Frg} {T : List (Addr × Str)} {g : List Dt → Rs → Prop} {n : Nat} (hg : ∀ ds r, g ds r → ds.length = n) : ∀ vs H Q E, spD K T g vs H Q E → vs.length = n := fun vs H Q E h => by
  obtain ⟨O, ds, r, hO, ht, hi, hg', hr⟩ := h
  rw [isA_len hi]
  exact hg ds r hg'
end
/-- raise X('..'), in a def that may raise -/
theorem ps_rz {X : Cx} {E : XK} {C : Addr} {bmB : List Value} {B newId initId : String} {x m : Str} {j : Nat} {p p2 pos pos2 : Pos} (hc : X.calm = true) (tk : Takes X (fun cls d _ H => E cls d H)) (F : ExcBaseFacts B newId initId bmB) (q : PySem.W.excIn X.K C bmB newId = true) (gC : X.mg x = some (.ref C)) (kC : PySem.W.keepIn X.K (.ref C) = true) (r : Raises X (.ref C)) (hg : Gl X x)
    (hdb : (x == ("__debug__" : Str)) = false := by decide) : PS X (.Raise (some (.Call (.Name x p) [.Constant (.str m) j p2] [] pos)) none pos2) (tRz E C) := ps_raise hc tk (pmk_own F q gC kC r hg hdb)
end Py
end

section
set_option Elab.async false
set_option linter.all false
set_option maxRecDepth 100000
set_option maxHeartbeats 4000000
set_option autoImplicit false
namespace Py
open PySem PySem.Spec PyProof.Rows L2
/-! ### operators of several kinds -/
def PMul (i j : Int) : Prop := i.natAbs.log2 + j.natAbs.log2 < 100000000
def PDiv (_ j : Int) : Prop := j ≠ 0 ∧ j.natAbs.log2 < 9000
theorem PMul.ok {i j : Int} (h : PMul i j) : IntMulOk i j := by
  have b : ∀ x : Int, Builtin.Int.intBits x ≤ x.natAbs.log2 + 1 := fun x => by
    unfold Builtin.Int.intBits
    split <;> omega
  have h1 := b i
  have h2 := b j
  have h3 : i.natAbs.log2 + j.natAbs.log2 < 100000000 := h
  have e : bitsLine = 134217728 := by decide
  unfold IntMulOk
  intro z
  rw [Bool.and_eq_true] at z
  have z2 := z.2
  unfold Builtin.Int.intTooBig at z2
  have z3 := of_decide_eq_true z2
  rw [e] at z3
  omega
def rAddA (K : Frg) : R2 := fun x y H Q => (∃ i j, x = .int i ∧ y = .int j ∧ Q (.int (i + j)) H) ∨ (∃ i j, x = .str i ∧ y = .str j ∧ i.length + j.length ≤ sizeLine ∧ Q (.str (i ++ j)) H) ∨ rCatT K x y H Q ∨ rCat x y H Q
def rMulA (K : Frg) : R2 := fun x y H Q => rI PMul (fun i j => .int (i * j)) x y H Q ∨ rRep x y H Q
def rEqA (K : Frg) : R2 := fun x y H Q => rEq x y H Q ∨ rEqD K x y H Q
def rNeA (K : Frg) : R2 := fun x y H Q => rNe x y H Q ∨ rNeD K x y H Q
section
variable {X : Cx}
theorem op_addA : OpR X (binaryOp .Add) (rAddA X.K) := OpR.or op_add (OpR.or op_add_str (OpR.or op_catT op_cat))
theorem op_mulX : OpR X (binaryOp .Mult) (rI PMul fun i j => .int (i * j)) := opI fun _ _ _ _ _ _ _ hc q => mul_int q hc.ok
theorem op_mulA : OpR X (binaryOp .Mult) (rMulA X.K) := OpR.or op_mulX op_rep
theorem op_fdivX : OpR X (binaryOp .FloorDiv) (rI PDiv fun i j => .int (i.fdiv j)) := opI fun i j _ _ _ _ _ hc q => floordiv_int hc.1 q (.inl (PyProof.noPylong_of_log2 hc.2))
theorem op_eqA (hu : X.A.units + 64 < cLine) : OpR X (compareOp .Eq) (rEqA X.K) := OpR.or op_eq (op_eqD hu)
theorem op_neA (hu : X.A.units + 64 < cLine) : OpR X (compareOp .NotEq) (rNeA X.K) := OpR.or op_ne (op_neD hu)
end
/-! ### data that == compares -/
mutual
def Dt.py : Dt → Option PyData
  | .v .non => some .none
  | .v (.bl b) => some (.bool b)
  | .v (.int i) => some (.int i)
  | .v (.str s) => some (.str s)
  | .v _ => none
  | .tup xs => (Dt.pys xs).map .tuple
  | .lst xs => (Dt.pys xs).map .list
  | .obj _ _ _ => none
  | .dct _ _ => none
  | .tupZ _ => none
  | .lam _ _ => none
  | .lstN _ => none
def Dt.pys : List Dt → Option (List PyData)
  | [] => some []
  | d :: r => match Dt.py d, Dt.pys r with
    | some p, some q => some (p :: q)
    | _, _ => none
end
section
variable {K : Frg} {H : Hp}
mutual
theorem Is.dp : ∀ (d : Dt) (v : V) (p : PyData), Is K H d v → Dt.py d = some p → Dp K H v p
  | .v x, v, p, h, e => by
    rw [Is] at h
    subst h
    cases v <;> simp only [Dt.py] at e <;> first | (cases e; constructor) | cases e
  | .tup xs, v, p, h, e => by
    rw [Is] at h
    obtain ⟨a, vs, rfl, h1, h2⟩ := h
    rw [Dt.py] at e
    cases q : Dt.pys xs with
    | none => rw [q] at e; cases e
    | some ps =>
      rw [q] at e
      cases e
      exact .tup h1 (IsA.dp xs vs ps h2 q)
  | .lst xs, v, p, h, e => by
    rw [Is] at h
    obtain ⟨a, vs, rfl, h1, h2⟩ := h
    rw [Dt.py] at e
    cases q : Dt.pys xs with
    | none => rw [q] at e; cases e
    | some ps =>
      rw [q] at e
      cases e
      exact .lst h1 (IsA.dp xs vs ps h2 q)
  | .obj _ _ _, v, p, h, e => by
    rw [Dt.py] at e
    cases e
  | .dct _ _, v, p, h, e => by
    rw [Dt.py] at e
    cases e
  | .tupZ _, v, p, h, e => by
    rw [Dt.py] at e
    cases e
  | .lam _ _, v, p, h, e => by
    rw [Dt.py] at e
    cases e
  | .lstN _, v, p, h, e => by
    rw [Dt.py] at e
    cases e
theorem IsA.dp : ∀ (ds : List Dt) (vs : List V) (ps : List PyData), IsA K H ds vs → Dt.pys ds = some ps → DpAll K H vs ps
  | [], vs, ps, h, e => by
    rw [IsA] at h
    rw [Dt.pys] at e
    cases e
    subst h
    exact .nil
  | d :: r, vs, ps, h, e => by
    rw [IsA] at h
    obtain ⟨v, w, rfl, h1, h2⟩ := h
    rw [Dt.pys] at e
    cases q1 : Dt.py d with
    | none => rw [q1] at e; cases e
    | some p =>
      cases q2 : Dt.pys r with
      | none => rw [q1, q2] at e; cases e
      | some q =>
        rw [q1, q2] at e
        cases e
        exact .cons (Is.dp d v p h1 q1) (IsA.dp r w q h2 q2)
end
theorem Dp.mono {H H' : Hp} (e : Ex H H') {v : V} {d : PyData} : Dp K H v d → Dp K H' v d := by
  intro h
  exact Dp.rec (motive_1 := fun v d _ => Dp K H' v d) (motive_2 := fun vs ds _ => DpAll K H' vs ds) .non .bl .int .str (fun h _ ih => .lst (e.l h) ih) (fun h _ ih => .tup (e.t h) ih) .nil (fun _ _ a b => .cons a b) h
end
/-! ### operators by data -/
def OpS (C : Ct) (r : R2) (x y z : Dt) : Prop := ∀ os A σ H vx vy, Ok C os A σ H → Is C.K (Rh C.O os H) x vx → Is C.K (Rh C.O os H) y vy → ∀ Q : VK, (∀ v H', Ex H H' → LamX.Tabs C.T H' → Is C.K (Rh C.O os H') z v → Q v H') → r vx vy H Q
section
variable {C : Ct} {E : XK} {ta tb tc te tl : TE} {tt : TT} {t u : TS} {A A1 A2 A3 : AS} {d d1 d2 x y z : Dt} {P : Po} {r r' : R2}
theorem e_bin (ha : EvS C ta A x A1) (hb : EvS C tb A1 y A2) (hr : OpS C r x y z) : EvS C (tOp r ta tb) A z A2 := fun os σ H k Q q =>
  ha os σ H k _ fun os1 v1 H1 k1 e1 i1 => hb os1 σ H1 k1 _ fun os2 v2 H2 k2 e2 i2 => hr os2 _ σ H2 v1 v2 k2 (Is.mono e2.e _ _ i1) i2 Q fun v H' e t i => q os2 v H' (k2.mono e t) ((e1.trans e2).trans (k2.gr e)) i
theorem o_orL (h : OpS C r x y z) : OpS C (fun x y H Q => r x y H Q ∨ r' x y H Q) x y z := fun os A σ H vx vy k i1 i2 Q q => .inl (h os A σ H vx vy k i1 i2 Q q)
theorem o_orR (h : OpS C r' x y z) : OpS C (fun x y H Q => r x y H Q ∨ r' x y H Q) x y z := fun os A σ H vx vy k i1 i2 Q q => .inr (h os A σ H vx vy k i1 i2 Q q)
theorem o_v {a b c : V} (h : ∀ H (Q : VK), Q c H → r a b H Q) : OpS C r (.v a) (.v b) (.v c) := fun os A σ H vx vy k i1 i2 Q q => by
  rw [Is.v_iff.mp i1, Is.v_iff.mp i2]
  exact h H Q (q c H (Ex.refl _) k.tb is_v)
theorem o_I0 {g : Int → Int → V} {i j : Int} : OpS C (rI0 g) (di i) (di j) (.v (g i j)) := o_v fun H Q q => ⟨i, j, rfl, rfl, q⟩
theorem o_I {cc : Int → Int → Prop} {g : Int → Int → V} {i j : Int} (hc : cc i j) : OpS C (rI cc g) (di i) (di j) (.v (g i j)) := o_v fun H Q q => ⟨i, j, rfl, rfl, hc, q⟩
theorem o_add {i j : Int} : OpS C (rAddA C.K) (di i) (di j) (di (i + j)) := o_v fun H Q q => .inl ⟨i, j, rfl, rfl, q⟩
theorem o_addS {i j : Str} (h : i.length + j.length ≤ 100000) : OpS C (rAddA C.K) (ds i) (ds j) (ds (i ++ j)) := o_v fun H Q q => .inr (.inl ⟨i, j, rfl, rfl, Nat.le_trans h (by decide), q⟩)
theorem o_mul {i j : Int} (h : PMul i j) : OpS C (rMulA C.K) (di i) (di j) (di (i * j)) := o_v fun H Q q => .inl ⟨i, j, rfl, rfl, h, q⟩
theorem o_mulX {i j : Int} (h : PMul i j) : OpS C (rI PMul fun i j => .int (i * j)) (di i) (di j) (di (i * j)) := o_I h
theorem o_eq {a b : V} (h : scal a b = true) : OpS C (rEqA C.K) (.v a) (.v b) (db (decide (a = b))) := o_v fun H Q q => .inl ⟨h, q⟩
theorem o_ne {a b : V} (h : scal a b = true) : OpS C (rNeA C.K) (.v a) (.v b) (db (!decide (a = b))) := o_v fun H Q q => .inl ⟨h, q⟩
theorem o_eqI {i j : Int} : OpS C (rEqA C.K) (di i) (di j) (db (decide (i = j))) := by
  have e : decide (V.int i = V.int j) = decide (i = j) := by simp
  rw [← e]
  exact o_eq rfl
theorem o_neI {i j : Int} : OpS C (rNeA C.K) (di i) (di j) (db (!decide (i = j))) := by
  have e : decide (V.int i = V.int j) = decide (i = j) := by simp
  rw [← e]
  exact o_ne rfl
theorem o_eqD {p q : PyData} (hx : x.py = some p) (hy : y.py = some q) (sp : SeqAt.shaped p = true) (sq : SeqAt.shaped q = true) : OpS C (rEqA C.K) x y (db (PyData.eqv p q)) := fun os A σ H vx vy k i1 i2 Q kq =>
  .inr ⟨p, q, Dp.mono hd_ex (Is.dp x vx p i1 hx), Dp.mono hd_ex (Is.dp y vy q i2 hy), sp, sq, kq _ H (Ex.refl _) k.tb is_v⟩
theorem o_neD {p q : PyData} (hx : x.py = some p) (hy : y.py = some q) (sp : SeqAt.shaped p = true) (sq : SeqAt.shaped q = true) : OpS C (rNeA C.K) x y (db (!PyData.eqv p q)) := fun os A σ H vx vy k i1 i2 Q kq =>
  .inr ⟨p, q, Dp.mono hd_ex (Is.dp x vx p i1 hx), Dp.mono hd_ex (Is.dp y vy q i2 hy), sp, sq, kq _ H (Ex.refl _) k.tb is_v⟩
theorem o_ixT {xs : List Dt} {i : Int} (h : atI xs i = some d) : OpS C (rIx C.K) (.tup xs) (di i) d := fun os A σ H vx vy k i1 i2 Q q => by
  rw [Is] at i1
  obtain ⟨a, vs, rfl, h2, h3⟩ := i1
  obtain ⟨v, h4, h5⟩ := isA_at h3 h
  rw [Is.v_iff.mp i2]
  exact .inr (.inl ⟨a, vs, i, v, rfl, rfl, hd_ex.t h2, h4, q v H (Ex.refl _) k.tb h5⟩)
theorem o_ixL {xs : List Dt} {i : Int} (h : atI xs i = some d) : OpS C (rIx C.K) (.lst xs) (di i) d := fun os A σ H vx vy k i1 i2 Q q => by
  rw [Is] at i1
  obtain ⟨a, vs, rfl, h2, h3⟩ := i1
  obtain ⟨v, h4, h5⟩ := isA_at h3 h
  rw [Is.v_iff.mp i2]
  exact .inl ⟨a, vs, i, v, rfl, rfl, hd_ex.l h2, h4, q v H (Ex.refl _) k.tb h5⟩
/-- an item of a list of one's own -/
theorem e_ixO {i : Nat} {n : Nat} {xs : List Dt} {j : Int} (h1 : A.sl[i]? = some (.own n)) (h2 : A.st[n]? = some (.lst xs)) (hb : EvS C tb A (di j) A) (h : atI xs j = some d) : EvS C (tOp (rIx C.K) (tVar i) tb) A d A := fun os σ H k Q q => by
  obtain ⟨o, e1, a, e2, e3⟩ := k.slot h1
  subst e2
  refine ⟨_, e1, hb os σ H k _ fun os2 v2 H2 k2 e4 i2 => ?_⟩
  obtain ⟨f1, f2, a2, g1, g2⟩ := k2.slot h1
  rw [e1] at f2; cases f2
  cases g1
  obtain ⟨o3, s1, a3, vs, s2, s3, s4⟩ := k2.store h2
  rw [g2] at s1; cases s1; cases s2
  obtain ⟨v, h4, h5⟩ := isA_at s4 h
  rw [Is.v_iff.mp i2]
  exact .inl ⟨_, vs, j, v, rfl, rfl, SqL.of s3, h4, q os2 v H2 k2 e4 h5⟩
/-- tuple(xs), xs a list of one's own -/
theorem e_tupO {i n : Nat} {xs : List Dt} (h1 : A.sl[i]? = some (.own n)) (h2 : A.st[n]? = some (.lst xs)) :
    EvS C (tCB (fun ys H Q => ∃ p zs, ys = [V.ref p] ∧ ((SqL C.K H p zs ∧ ∀ (l : Addr), H l = none → Q (V.ref l) (upd H l (HO.tup zs))) ∨ SqT C.K H p zs ∧ Q (V.ref p) H)) (tCons (tVar i) tNil)) A (.tup xs) A := fun os σ H k Q q => by
  obtain ⟨o, e1, a, e2, e3⟩ := k.slot h1
  subst e2
  obtain ⟨o3, s1, a3, vs, s2, s3, s4⟩ := k.store h2
  rw [e3] at s1; cases s1; cases s2
  refine ⟨_, e1, a, vs, rfl, .inl ⟨SqL.of s3, fun l hl => q os _ _ (k.monoN hl) (k.gr (Ex.new hl)) ?_⟩⟩
  rw [Is]
  exact ⟨l, vs, rfl, SqT.of (k.fresh hl), IsA.mono (hd_mono (Ex.new hl)) _ _ s4⟩
/-- tuple(xs), xs data -/
theorem e_tupL {tl : TE} {xs : List Dt} (h : EvS C tl A (.lst xs) A1) :
    EvS C (tCB (fun ys H Q => ∃ p zs, ys = [V.ref p] ∧ ((SqL C.K H p zs ∧ ∀ (l : Addr), H l = none → Q (V.ref l) (upd H l (HO.tup zs))) ∨ SqT C.K H p zs ∧ Q (V.ref p) H)) (tCons tl tNil)) A (.tup xs) A1 := fun os σ H k Q q =>
  h os σ H k _ fun os1 v H1 k1 e1 i1 => by
    rw [Is] at i1
    obtain ⟨a, vs, rfl, h2, h3⟩ := i1
    refine ⟨a, vs, rfl, .inl ⟨hd_ex.l h2, fun l hl => q os1 _ _ (k1.monoN hl) (e1.trans (k1.gr (Ex.new hl))) ?_⟩⟩
    rw [Is]
    exact ⟨l, vs, rfl, SqT.of (k1.fresh hl), IsA.mono (hd_mono (Ex.new hl)) _ _ h3⟩
theorem e_tupT {tl : TE} {xs : List Dt} (h : EvS C tl A (.tup xs) A1) :
    EvS C (tCB (fun ys H Q => ∃ p zs, ys = [V.ref p] ∧ ((SqL C.K H p zs ∧ ∀ (l : Addr), H l = none → Q (V.ref l) (upd H l (HO.tup zs))) ∨ SqT C.K H p zs ∧ Q (V.ref p) H)) (tCons tl tNil)) A (.tup xs) A1 := fun os σ H k Q q =>
  h os σ H k _ fun os1 v H1 k1 e1 i1 => by
    have i1' := i1
    rw [Is] at i1
    obtain ⟨a, vs, rfl, h2, h3⟩ := i1
    exact ⟨a, vs, rfl, .inr ⟨hd_ex.t h2, q os1 _ _ k1 e1 i1'⟩⟩
/-- list(xs) of a list, a tuple -/
theorem e_listL {tl : TE} {xs : List Dt} (h : EvS C tl A (.lst xs) A1) :
    EvS C (tCB (fun ys H Q => ∃ p zs, ys = [V.ref p] ∧ (SqL C.K H p zs ∨ SqT C.K H p zs) ∧ ∀ (l : Addr), H l = none → Q (V.ref l) (upd H l (HO.lst zs))) (tCons tl tNil)) A (.lst xs) A1 := fun os σ H k Q q =>
  h os σ H k _ fun os1 v H1 k1 e1 i1 => by
    rw [Is] at i1
    obtain ⟨a, vs, rfl, h2, h3⟩ := i1
    refine ⟨a, vs, rfl, .inl (hd_ex.l h2), fun l hl => q os1 _ _ (k1.monoN hl) (e1.trans (k1.gr (Ex.new hl))) ?_⟩
    rw [Is]
    exact ⟨l, vs, rfl, SqL.of (k1.fresh hl), IsA.mono (hd_mono (Ex.new hl)) _ _ h3⟩
theorem e_listT {tl : TE} {xs : List Dt} (h : EvS C tl A (.tup xs) A1) :
    EvS C (tCB (fun ys H Q => ∃ p zs, ys = [V.ref p] ∧ (SqL C.K H p zs ∨ SqT C.K H p zs) ∧ ∀ (l : Addr), H l = none → Q (V.ref l) (upd H l (HO.lst zs))) (tCons tl tNil)) A (.lst xs) A1 := fun os σ H k Q q =>
  h os σ H k _ fun os1 v H1 k1 e1 i1 => by
    rw [Is] at i1
    obtain ⟨a, vs, rfl, h2, h3⟩ := i1
    refine ⟨a, vs, rfl, .inr (hd_ex.t h2), fun l hl => q os1 _ _ (k1.monoN hl) (e1.trans (k1.gr (Ex.new hl))) ?_⟩
    rw [Is]
    exact ⟨l, vs, rfl, SqL.of (k1.fresh hl), IsA.mono (hd_mono (Ex.new hl)) _ _ h3⟩
/-- len -/
theorem e_lenT {tl : TE} {xs : List Dt} (h : EvS C tl A (.tup xs) A1) : EvS C (tCB (fun ys H Q => ∃ x n, ys = [x] ∧ LenV C.K x H n ∧ Q (V.int n) H) (tCons tl tNil)) A (di xs.length) A1 := fun os σ H k Q q =>
  h os σ H k _ fun os1 v H1 k1 e1 i1 => by
    rw [Is] at i1
    obtain ⟨a, vs, rfl, h2, h3⟩ := i1
    exact ⟨_, vs.length, rfl, .inr ⟨vs, hd_ex.t h2, rfl⟩, by rw [isA_len h3]; exact q os1 _ H1 k1 e1 is_v⟩
theorem e_lenL {tl : TE} {xs : List Dt} (h : EvS C tl A (.lst xs) A1) : EvS C (tCB (fun ys H Q => ∃ x n, ys = [x] ∧ LenV C.K x H n ∧ Q (V.int n) H) (tCons tl tNil)) A (di xs.length) A1 := fun os σ H k Q q =>
  h os σ H k _ fun os1 v H1 k1 e1 i1 => by
    rw [Is] at i1
    obtain ⟨a, vs, rfl, h2, h3⟩ := i1
    exact ⟨_, vs.length, rfl, .inl ⟨vs, hd_ex.l h2, rfl⟩, by rw [isA_len h3]; exact q os1 _ H1 k1 e1 is_v⟩
end
/-! ### a def of the module and its promise -/
structure Gd (P : Program) (w : World) (K : Frg) (mg : Str → Option Value) (base : Heap) (f : Str) (ps : List Str) (k : Nat) (sp : Sp) : Prop where
  ex : ∃ (a : Addr) (fd : FuncData), FnOk P w K mg base (L2.CX P w) k a fd ps sp ∧ Binds K fd ps [] ∧ PySem.W.keepIn K (.ref a) = true ∧ mg f = some (.ref a)
section
variable {X : Cx} {k : Nat} {ps : List Str} {sp : Sp} {E : XK} {x : Str} {p pos : Pos} {e : Expr} {es : List Expr} {t : TA}
theorem pe_callG (G : Gd X.prog X.w X.K X.mg X.base x ps k sp) (hr : Room k X.A) (hx : Passes (L2.CX X.prog X.w) X E) (ha : PA X (e :: es) t) (hg : Gl X x := by rfl)
    (hdb : (x == ("__debug__" : Str)) = false := by decide) (he : starEach (e :: es) X.env = (false, eval e X.env) :: starEach es X.env := by rfl) (hpl : (backTo pos (starEach es X.env)).any (·.1) = false := by rfl) :
    PE X (.Call (.Name x p) (e :: es) [] pos) (tCall sp [] E t) := by
  obtain ⟨a, fd, F, hb, hk, hm⟩ := G.ex
  exact pe_call F hr hg hm hk hb .nil hx ha hdb he hpl
theorem pe_call0G (G : Gd X.prog X.w X.K X.mg X.base x ps k sp) (hr : Room k X.A) (hx : Passes (L2.CX X.prog X.w) X E) (hg : Gl X x := by rfl) (hdb : (x == ("__debug__" : Str)) = false := by decide) : PE X (.Call (.Name x p) [] [] pos) (tCall sp [] E tNil) := by
  obtain ⟨a, fd, F, hb, hk, hm⟩ := G.ex
  exact pe_call0 F hr hg hm hk hb .nil hx hdb
end
/-- a def, by its body told over data -/
theorem mkG {P : Program} {w : World} {K : Frg} {T : List (Addr × Str)} {mg : Str → Option Value} {base : Heap} {f : Str} {st : Stmt} {N ps : List Str} {k : Nat} {g : List Dt → Rs → Prop} {a : Addr}
    (F : ∃ fd, FunD K f f (defArgs st) (defBody st) (defScope st) [] [] a fd) (hm : mg f = some (.ref a)) (S : FnScope N ps (defScope st))
    (hb : ∀ (kV doc pm : Value) (an : Option Addr) (cdv ct : Value) (us : List Value), us.length = ps.length → bindArgs (PySem.W.fnOf f f (defArgs st) (defBody st) (defScope st) .none kV doc pm an cdv ct) ⟨us, []⟩ = pure (ps.zip us))
    (len : ∀ ds r, g ds r → ds.length = ps.length)
    (hbody : ∀ (cdv : Value) (A : Around) (outer : List Env) (s : Shared) (H : Hp) (E : XK), Room k (A.deeper (envOfC f (defScope st) s.heap.objs.size a cdv)) →
      ∃ t, PSs (cxOf (L2.CX P w) P w K mg base N f (defScope st) a cdv A outer s H E) (defBody st) t ∧ ∀ O ds r, g ds r → RunS ⟨K, T, H, O⟩ E t (start N ds) (poR r)) : Gd P w K mg base f ps (k + 1) (spD K T g) := by
  obtain ⟨fd, F⟩ := F
  refine ⟨a, fd, F.ok S (fun vs H Q E h => spD_len len vs H Q E h) (fun cdv A outer s H vs Q E hr h => ?_), F.bindsN hb, F.kp, hm⟩
  obtain ⟨t, ht, run⟩ := hbody cdv A outer s H E hr
  exact ⟨t, ht, fin h run⟩
/-- what a body lets out is what the def lets out -/
theorem takesE {P : Program} {w : World} {K : Frg} {mg : Str → Option Value} {base : Heap} {N : List Str} {q : Str} {sc : Scope} {a : Addr} {cdv : Value} {A : Around} {outer : List Env} {s : Shared} {H : Hp} {E : XK} :
    Takes (cxOf (L2.CX P w) P w K mg base N q sc a cdv A outer s H E) (fun cls d _ H => E cls d H) := takes_of rfl rfl rfl rfl
theorem psE {P : Program} {w : World} {K : Frg} {mg : Str → Option Value} {base : Heap} {N : List Str} {q : Str} {sc : Scope} {a : Addr} {cdv : Value} {A : Around} {outer : List Env} {s : Shared} {H : Hp} {E : XK} :
    Passes (L2.CX P w) (cxOf (L2.CX P w) P w K mg base N q sc a cdv A outer s H E) E := passes_call takesE fun _ _ _ _ h => h
theorem passesE {P : Program} {w : World} {K : Frg} {mg : Str → Option Value} {base : Heap} {N : List Str} {q : Str} {sc : Scope} {a : Addr} {cdv : Value} {A : Around} {outer : List Env} {s : Shared} {H : Hp} {E : XK} :
    PassesOwn (model (cxOf (L2.CX P w) P w K mg base N q sc a cdv A outer s H E).prog (cxOf (L2.CX P w) P w K mg base N q sc a cdv A outer s H E).w) (cxOf (L2.CX P w) P w K mg base N q sc a cdv A outer s H E).A (cxOf (L2.CX P w) P w K mg base N q sc a cdv A outer s H E).env (cxOf (L2.CX P w) P w K mg base N q sc a cdv A outer s H E).xe := passes_of rfl
/-- a module's constant -/
theorem peC {X : Cx} {x : Str} {v : V} {pos : Pos} (h : ∃ u, X.mg x = some u ∧ RelV v u) (hg : Gl X x := by rfl) (hd : (x == ("__debug__" : Str)) = false := by decide) : PE X (.Name x pos) (tC v) := by
  obtain ⟨u, hm, r⟩ := h
  exact pe_glob hg hm r hd
end Py
end

section
set_option Elab.async false
set_option linter.all false
set_option maxRecDepth 100000
set_option maxHeartbeats 4000000
set_option autoImplicit false
namespace Py
open PySem PySem.Spec PyProof.Rows L2
/-! ### lambdas with parameters, handed to a def that calls them -/
/-- a lambda's names: its parameters, captured ones, globals -/
structure LamP (sc scope : Scope) (ps : List Str) : Prop where
  kind : scope.kind = .function
  co : scope.isCoroutine = false
  gen : scope.isGenerator = false
  nd : ps.Nodup
  par : ∀ p ∈ ps, scope.names.lookup p = some .local
  own : ∀ y ∈ scope.names, y.2 ≠ .cell ∧ (y.2 = .local → y.1 ∈ ps)
  free : ∀ y ∈ scope.names, y.2 = .free → sc.names.lookup y.1 = some .cell ∨ sc.names.lookup y.1 = some .free
abbrev lamCxP (ps : List Str) (X : Cx) (A : Around) (outer : List Env) (s : Shared) (H : Hp) (E : XK) (scope : Scope) (f c' : Addr) : Cx := { LamX.lamCx X A outer s H E scope f c' with N := ps ++ X.N }
theorem zip_rev_lookup {α β : Type} [BEq α] [LawfulBEq α] : ∀ {ps : List α} {us : List β} {i : Nat} {x : α} {u : β}, ps.Nodup → ps[i]? = some x → us[i]? = some u → (ps.zip us).reverse.lookup x = some u := by
  intro ps us i x u nd h1 h2
  have key : ∀ (l : List (α × β)), (l.map (·.1)).Nodup → (x, u) ∈ l → l.lookup x = some u := by
    intro l
    induction l with
    | nil => intro _ h; cases h
    | cons p r ih =>
      intro n h
      obtain ⟨a, b⟩ := p
      simp only [List.map_cons, List.nodup_cons] at n
      rw [List.lookup_cons]
      rcases List.mem_cons.mp h with e | e
      · cases e
        simp
      · have ne : x ≠ a := fun z => n.1 (by rw [← z]; exact List.mem_map_of_mem (f := (·.1)) e)
        have : (x == a) = false := by simpa using ne
        rw [this]
        exact ih n.2 e
  have hz : (ps.zip us)[i]? = some (x, u) := by
    rw [List.getElem?_zip_eq_some]
    exact ⟨h1, h2⟩
  refine key _ ?_ (List.mem_reverse.mpr (List.mem_of_getElem? hz))
  rw [List.map_reverse]
  have nr : ∀ (l : List α), l.Nodup → l.reverse.Nodup := fun l h => by
    unfold List.Nodup
    rw [List.pairwise_reverse]
    exact h.imp fun z => Ne.symm z
  refine nr _ ?_
  have sub : ∀ (a : List α) (b : List β), ((a.zip b).map (·.1)).Sublist a := by
    intro a
    induction a with
    | nil => intro b; simp
    | cons q r ih =>
      intro b
      cases b with
      | nil => simp
      | cons c d =>
        simp only [List.zip_cons_cons, List.map_cons]
        exact (ih d).cons_cons q
  exact nd.sublist (sub ps us)
section
variable {X : Cx} {pins : List (Addr × Obj)} {σ : Sg} {H HZ : Hp} {s s1 : Shared}
theorem LamP.has {scope : Scope} {ps : List Str} (L : LamP X.env.scope scope ps) (ok : X.Ok) : ∀ y ∈ scope.names, y.2 = .free → ∃ c, X.env.cells.lookup y.1 = some c := fun y hy e =>
  (L.free y hy e).elim (fun k => ok.has _ (.inl k)) fun k => ok.has _ (.inr k)
theorem lamP_start {A : Around} {outer : List Env} {E : XK} {scope : Scope} {ps : List Str} {f c' : Addr} {h₁ : Heap} {tk : Nat} {vs : List V} {us : List Value} (I : Inv X pins σ H s) (L : LamP X.env.scope scope ps) (dj : ∀ x ∈ X.N, x ∉ ps) (e0 : Env0 X.prog X.w X.K X.mg X.base A outer s1 HZ) (hnd : A.handled = none)
    (un : Un (frs X.stack) [] H HZ s.heap s1.heap) (r : Vals vs us) (hl : vs.length = ps.length) (hns : h₁.Ns s1.heap.objs.size fun y => (ps.zip us).reverse.lookup y) (kp : ∀ b o, s1.heap.get? b = some o → h₁.get? b = some o) :
    Inv (lamCxP ps X A outer s1 HZ E scope f c') [] (vs.map some ++ σ) HZ { s1 with heap := h₁, toks := tk } := by
  have has := L.has I.ok
  have up : ∀ {y c}, (cloFrom X.env.cells scope.names []).lookup y = some c → X.env.cells.lookup y = some c := by
    intro y c e
    rcases cloFrom_mem (PySem.mem_of_lookup e) with z | ⟨z1, z2⟩
    · cases z
    · obtain ⟨d, hd⟩ := has _ z1 rfl
      have hd : X.env.cells.lookup y = some d := hd
      rw [hd, z2, hd]
      rfl
  have fnd : ∀ {y}, scope.names.lookup y = some .free → ∃ c, (cloFrom X.env.cells scope.names []).lookup y = some c := by
    intro y e
    have m : (y, NameKind.free) ∈ scope.names := PySem.mem_of_lookup e
    exact mem_lookup (cloFrom_has (cells := X.env.cells) (acc := []) m)
  have stays : ∀ {c : Addr} {v : Option Value}, H c = none → s.heap.IsCell c v → h₁.IsCell c v := by
    rintro c v n ⟨o, ho, hd⟩
    obtain ⟨sl, q⟩ := un.any ho n (by simp)
    exact ⟨_, kp _ _ q, hd⟩
  have none_ex : ∀ b : Addr, b ∉ (lamCxP ps X A outer s1 HZ E scope f c').ex := fun b z => by cases (show b ∈ ([] : List Addr) from z)
  refine ⟨?ok, rfl, e0.bare, Un.kept kp, ⟨_, hns, ?loc⟩, ?cell, e0.hok.fresh (Nat.le_refl _), ?freeC, ?pin, e0.hok.kept kp, ?len⟩
  case ok =>
    refine ⟨e0.mod, L.kind, rfl, rfl, Nat.le_refl _, ?_, ?_, ?_, fun _ => hnd, Around.frames_deeper e0.frames, .inr ⟨rfl, rfl⟩, fun b z => (none_ex b z).elim, e0.bs, e0.bsz, fun b _ _ => none_ex b, fun b z => (none_ex b z).elim, e0.funs, e0.frf⟩
    · intro y z c a b
      exact I.ok.inj y z c (up a) (up b)
    · intro y hy
      have hy : scope.names.lookup y = some .cell ∨ scope.names.lookup y = some .free := hy
      rcases hy with hy | hy
      · exact ((L.own _ (PySem.mem_of_lookup hy)).1 rfl).elim
      · exact fnd hy
    · intro y c z _
      cases (show false = true from z)
  case loc =>
    intro i y v e1 e2 e3
    have e1 : (ps ++ X.N)[i]? = some y := e1
    have e3 : Vis scope y := e3
    have hm : (vs.map some).length = ps.length := by rw [List.length_map, hl]
    by_cases hi : i < ps.length
    · rw [List.getElem?_append_left hi] at e1
      rw [List.getElem?_append_left (by rw [hm]; exact hi), List.getElem?_map] at e2
      have hv : vs[i]? = some v := by
        cases q : vs[i]? with
        | none => rw [q] at e2; cases e2
        | some a => rw [q] at e2; cases e2; rfl
      obtain ⟨u, hu, rv⟩ := r.get hv
      exact ⟨u, rv, .inl ⟨L.par y (List.mem_of_getElem? e1), zip_rev_lookup L.nd e1 hu⟩⟩
    · rw [List.getElem?_append_right (by omega)] at e1
      rw [List.getElem?_append_right (by rw [hm]; omega), hm] at e2
      have ny : y ∉ ps := dj y (List.mem_of_getElem? e1)
      rcases e3 with k | k | k
      · exact (ny ((L.own _ (PySem.mem_of_lookup k)).2 rfl)).elim
      · exact ((L.own _ (PySem.mem_of_lookup k)).1 rfl).elim
      · obtain ⟨m, hn, look⟩ := I.loc
        have fr := L.free _ (PySem.mem_of_lookup k) rfl
        have vis : Vis X.env.scope y := fr.elim (fun z => .inr (.inl z)) fun z => .inr (.inr z)
        obtain ⟨u, rv, q⟩ := look _ y v e1 e2 vis
        obtain ⟨c, hc⟩ := fnd k
        refine ⟨u, rv, .inr ⟨.inr k, c, hc, ?_⟩⟩
        rcases q with ⟨q, _⟩ | ⟨_, d, hd, z⟩
        · have q : X.env.scope.names.lookup y = some .local := q
          rcases fr with z | z <;> (rw [show X.env.scope.names.lookup y = _ from z] at q; cases q)
        · have := up hc
          rw [hd] at this
          cases this
          exact stays (I.freeC y _ hd) z
  case cell =>
    intro y c e
    obtain ⟨v, z⟩ := I.cell y c (up e)
    exact ⟨v, stays (I.freeC y c (up e)) z⟩
  case freeC =>
    intro y c e
    obtain ⟨v, o, ho, _⟩ := I.cell y c (up e)
    exact un.free c o ho (I.freeC y c (up e)) (by simp)
  case pin =>
    intro q hq
    cases (show q ∈ ([] : List (Addr × Obj)) from hq)
  case len =>
    show (vs.map some ++ σ).length = (ps ++ X.N).length
    rw [List.length_append, List.length_append, List.length_map, hl, I.len]
/-- a(e, ..), in the def that got the lambda -/
def tActP (i : Nat) (f c' : Addr) (q : Str) (n : Nat) (ta : TA) (tl : List V → Hp → VK → Prop) : TE := fun σZ HZ Q => σZ[i]? = some (some (.ref f)) ∧ ta σZ HZ fun vs H1 => vs.length = n ∧ H1 c' = some (LamX.CodeO c' q) ∧ tl vs H1 Q
theorem pe_actP {Eg : XK} {Ng : List Str} {qg : Str} {sg : Scope} {g f c' : Addr} {cdg pm ctv : Value} {params : Arguments} {body : Expr} {scope : Scope} {ps : List Str} {k i : Nat} {a : Str} {E : XK} {tb : TE} {p1 p2 : Pos} {e : Expr} {es : List Expr} {ta : TA}
    (I : Inv X pins σ H s) (L : LamP X.env.scope scope ps) (dj : ∀ x ∈ X.N, x ∉ ps) (hf : s.heap.get? f = some (PySem.W.kla_obj "<lambda>" (X.env.qual ++ "<lambda>") params body scope (cloFrom X.env.cells scope.names []) pm c' ctv)) (hfn : H f = none) (hfr : f ∉ frs X.stack)
    (hbind : ∀ us : List Value, us.length = ps.length → bindArgs (PySem.W.kla_fn "<lambda>" (X.env.qual ++ "<lambda>") params body scope (cloFrom X.env.cells scope.names []) pm (.ref c') ctv) ⟨us, []⟩ = pure (ps.zip us))
    (hx : Passes (L2.CX X.prog X.w) (cxOf (L2.CX X.prog X.w) X.prog X.w X.K X.mg X.base Ng qg sg g cdg X.A X.stack s H Eg) E) (hr : Room (k + 1) (X.A.deeper (envOfC qg sg s.heap.objs.size g cdg)))
    (hbody : ∀ (A : Around) (outer : List Env) (s : Shared) (H : Hp), Room k (A.deeper (LamX.lamEnv X scope s.heap.objs.size f c')) → PE (lamCxP ps X A outer s H E scope f c') body tb)
    (ha : PA (cxOf (L2.CX X.prog X.w) X.prog X.w X.K X.mg X.base Ng qg sg g cdg X.A X.stack s H Eg) (e :: es) ta)
    (hN : Ng[i]? = some a) (hv : Vis sg a) (hd : (a == ("__debug__" : Str)) = false := by decide) (hcd : (a == ("__classdict__" : Str)) = false := by decide)
    (he : starEach (e :: es) (cxOf (L2.CX X.prog X.w) X.prog X.w X.K X.mg X.base Ng qg sg g cdg X.A X.stack s H Eg).env = (false, eval e (cxOf (L2.CX X.prog X.w) X.prog X.w X.K X.mg X.base Ng qg sg g cdg X.A X.stack s H Eg).env) :: starEach es (cxOf (L2.CX X.prog X.w) X.prog X.w X.K X.mg X.base Ng qg sg g cdg X.A X.stack s H Eg).env := by rfl)
    (hpl : (backTo p2 (starEach es (cxOf (L2.CX X.prog X.w) X.prog X.w X.K X.mg X.base Ng qg sg g cdg X.A X.stack s H Eg).env)).any (·.1) = false := by rfl) :
    PE (cxOf (L2.CX X.prog X.w) X.prog X.w X.K X.mg X.base Ng qg sg g cdg X.A X.stack s H Eg) (.Call (.Name a p1) (e :: es) [] p2)
      (tActP i f c' (X.env.qual ++ "<lambda>") ps.length ta fun vs H1 Q => tb (vs.map some ++ σ) H1 Q) := by
  refine ⟨fun pinsZ sZ σZ HZ Q IZ h => ?_⟩
  obtain ⟨hs, ht⟩ := h
  refine wpAny_Call_Name_kw (thn ((pe_var (pos := p1) (i := i) hN hv hd hcd).run pinsZ sZ σZ HZ (fun v H1 => v = .ref f ∧ H1 = HZ) IZ ⟨.ref f, hs, rfl, rfl⟩) fun u s1 z => ?_)
  obtain ⟨v, H1, I1, r1, ev, eH⟩ := z
  rw [eH] at I1
  rw [ev] at r1
  obtain rfl : u = Value.ref f := r1
  have at_ : ∀ {σ' : Sg} {H' : Hp} {s' : Shared} {pn : List (Addr × Obj)}, Inv (cxOf (L2.CX X.prog X.w) X.prog X.w X.K X.mg X.base Ng qg sg g cdg X.A X.stack s H Eg) pn σ' H' s' → s'.heap.get? f = some (PySem.W.kla_obj "<lambda>" (X.env.qual ++ "<lambda>") params body scope (cloFrom X.env.cells scope.names []) pm c' ctv) :=
    fun J => J.base.keep f _ hf hfn hfr fun z => by cases (show f ∈ ([] : List Addr) from z)
  refine PySem.W.callWith_F ⟨_, _, _, _, at_ I1⟩ (thn (ha.run p2 pinsZ s1 σZ HZ _ I1 ht) fun us s2 z => ?_) he hpl
  obtain ⟨vs, H2, I2, r2, hl, hc, htb⟩ := z
  refine ⟨⟨_, _, _, _, at_ I2⟩, ?_⟩
  have un : Un (frs X.stack) [] H H2 s.heap s2.heap := I2.base
  obtain ⟨⟨oc, fs, t, hoc, hdc, hvc⟩, _, _⟩ := I2.hok c' _ hc
  have hlu : us.length = ps.length := by rw [← r2.length]; exact hl
  have rc : codeAny (model X.prog X.w) (X.A.deeper (envOfC qg sg s.heap.objs.size g cdg)) (.call (.ref f) ⟨us, []⟩) (CR (L2.CX X.prog X.w) (envOfC qg sg s.heap.objs.size g cdg :: X.stack) X.prog X.w H2 s2 Q E) s2 := by
    refine PySem.W.kla_callFunE hr.depth (at_ I2) rfl L.co L.gen rfl ⟨c', oc, fs, t, rfl, hoc, hdc, hvc⟩ ?_
    rw [hbind us hlu]
    refine wpAny_pure (wpAny_newFunctionEnv (fun y hy => (L.own y hy).1) (fun y hy => L.par _ (List.of_mem_zip hy).1) (fun h₁ hns hsb => ⟨I2.nolimit.fresh _ hsb, ?_⟩) L.kind)
    show codeAny _ _ (.expr body (LamX.lamEnv X scope s2.heap.objs.size f c')) _ _
    have kp : ∀ b o, s2.heap.get? b = some o → h₁.get? b = some o := fun b o q => hsb.extBut b o (Nat.ne_of_lt (Heap.lt_size q)) (Heap.get?_push_of_some _ q)
    have J : Inv (lamCxP ps X (X.A.deeper (envOfC qg sg s.heap.objs.size g cdg)) (envOfC qg sg s.heap.objs.size g cdg :: X.stack) s2 H2 E scope f c') [] (vs.map some ++ σ) H2 { s2 with heap := h₁, toks := s2.toks + (ps.zip us).length } :=
      lamP_start I L dj I2.env0 hr.hd un r2 hl hns kp
    refine PySem.W.kla_codeExpr (wpAny_mono ((hbody _ _ s2 H2 (hr.deeper _)).run [] _ _ H2 Q J htb) (fun v s' hq => ?_) fun _ _ hq => hq)
    obtain ⟨w', H', J', rv, q⟩ := hq
    exact ⟨w', H', J'.os, J'.bare, J'.base, J'.hok, rv, q⟩
  refine wpAny_call (codeAny_mono rc fun r s' hq => ?_)
  cases r with
  | error e => exact hx pinsZ σZ H2 s2 e s' I2 hq
  | ok fl =>
    cases fl with
    | ret u => exact I2.after hq
    | next => exact False.elim hq
    | brk => exact False.elim hq
    | cont => exact False.elim hq
end
/-! ### the maker's side -/
/-- the def that got the lambda calls it by the name a -/
def ActP (Z : Cx) (a : Str) (i n : Nat) (f c' : Addr) (q : Str) (tl : List V → Hp → VK → Prop) : Prop := ∀ {e : Expr} {es : List Expr} {ta : TA} {p1 p2 : Pos}, PA Z (e :: es) ta → starEach (e :: es) Z.env = (false, eval e Z.env) :: starEach es Z.env → (backTo p2 (starEach es Z.env)).any (·.1) = false →
  PE Z (.Call (.Name a p1) (e :: es) [] p2) (tActP i f c' q n ta tl)
def GivesP (X : Cx) (k : Nat) (Ng : List Str) (x : Str) (sg : Scope) (g : Addr) (cdg : Value) (bg : List Stmt) (a : Str) (n : Nat) (q : Str) (E : XK) (TT : (List V → Hp → VK → Prop) → List V → Hp → VK → Prop) : Prop :=
  ∀ (f c' : Addr) (s : Shared) (H : Hp) (Q : VK) (vs : List V) (tl : List V → Hp → VK → Prop), Room k (X.A.deeper (envOfC x sg s.heap.objs.size g cdg)) → ActP (cxOf (L2.CX X.prog X.w) X.prog X.w X.K X.mg X.base Ng x sg g cdg X.A X.stack s H E) a 0 n f c' q tl → H c' = some (LamX.CodeO c' q) → TT tl vs H Q →
    ∃ t, PSs (cxOf (L2.CX X.prog X.w) X.prog X.w X.K X.mg X.base Ng x sg g cdg X.A X.stack s H E) bg t ∧ t { nx := fun _ H' => Q .non H', rt := Q } (L2.start Ng (.ref f :: vs)) H
def tLamP (T : List (Addr × Str)) (q : Str) (m : Nat) (TT : (List V → Hp → VK → Prop) → List V → Hp → VK → Prop) (ta : TA) (tb : TE) : TE := fun σ H Q => LamX.Tabs T H ∧ ∀ H1 c', LamX.ExtN H H1 → LamX.Tabs T H1 → H1 c' = some (LamX.CodeO c' q) →
  ta σ H1 fun vs H2 => vs.length = m ∧ H2 c' = some (LamX.CodeO c' q) ∧ TT (fun ws H3 Q3 => tb (ws.map some ++ σ) H3 Q3) vs H2 Q
section
variable {X : Cx}
theorem fnd_of {K : Frg} {x qual : Str} {params : Arguments} {body : List Stmt} {scope : Scope} {f : Addr} {fd : FuncData} (F : FunD K x qual params body scope [] [] f fd) :
    ∃ (oc : Value) (od : Option Addr) (dV kV doc pm : Value) (an : Option Addr) (cdv ct : Value) (osl : Array (Option Value)), fd = PySem.W.fnOf x qual params body scope dV kV doc pm an cdv ct ∧ K.lookup f = some ⟨oc, od, .func (PySem.W.fnOf x qual params body scope dV kV doc pm an cdv ct), osl⟩ ∧ PySem.W.codeIn K cdv qual = true := by
  obtain ⟨oc, od, dV, kV, doc, pm, an, cdv, ct, osl, e, lk, hc, _, _⟩ := F.ex
  rw [e] at lk
  exact ⟨oc, od, dV, kV, doc, pm, an, cdv, ct, osl, e, lk, hc⟩
/-- x(lambda ps: body, e, ..) -/
theorem pe_lamP {T : List (Addr × Str)} {TT : (List V → Hp → VK → Prop) → List V → Hp → VK → Prop} {x a : Str} {g c P : Addr} {k kl : Nat} {pg : Arguments} {bg : List Stmt} {sg : Scope} {fd : FuncData} {Ng rs : List Str}
    {params : Arguments} {body : Expr} {scope : Scope} {ps : List Str} {tb : TE} {E : XK} {p lpos pos : Pos} {es : List Expr} {ta : TA}
    (F : FunD X.K x x pg bg sg [] [] g fd) (hm : X.mg x = some (.ref g)) (hb : L2.Binds X.K fd (a :: rs) []) (Sg' : FnScope Ng (a :: rs) sg) (hva : Vis sg a)
    (hG : ∀ cdv, GivesP X k Ng x sg g cdv bg a ps.length (X.env.qual ++ "<lambda>") E TT) (hkl : kl + 1 ≤ k)
    (TB : LamX.TabB X.base X.mg c P) (hcode : X.env.code = .ref c) (hmT : (P, X.env.qual ++ "<lambda>") ∈ T) (hu : ∀ p ∈ T, p.1 = P → p.2 = X.env.qual ++ "<lambda>") (hr : Room (k + 1) X.A) (L : LamP X.env.scope scope ps) (dj : ∀ x ∈ X.N, x ∉ ps) (hdef : defaultsOf params X.env = ([], []))
    (hbind : ∀ (q : Str) (cl : List (Str × Addr)) (pm cv ctv : Value) (us : List Value), us.length = ps.length → bindArgs (PySem.W.kla_fn "<lambda>" q params body scope cl pm cv ctv) ⟨us, []⟩ = pure (ps.zip us))
    (hx : Passes (L2.CX X.prog X.w) X E)
    (hbody : ∀ (A : Around) (outer : List Env) (s : Shared) (H : Hp) (f c' : Addr), Room kl (A.deeper (LamX.lamEnv X scope s.heap.objs.size f c')) → PE (lamCxP ps X A outer s H E scope f c') body tb)
    (ha : PA X es ta) (hg : Gl X x := by rfl) (hdb : (x == ("__debug__" : Str)) = false := by decide) (hda : (a == ("__debug__" : Str)) = false := by decide) (hcd : (a == ("__classdict__" : Str)) = false := by decide)
    (he : starEach (.Lambda params body scope lpos :: es) X.env = (false, eval (.Lambda params body scope lpos) X.env) :: starEach es X.env := by rfl) (hpl : (backTo pos (starEach es X.env)).any (·.1) = false := by rfl) :
    PE X (.Call (.Name x p) (.Lambda params body scope lpos :: es) [] pos) (tLamP T (X.env.qual ++ "<lambda>") rs.length TT ta tb) := by
  obtain ⟨oc, od, dV, kV, doc, pm, an, cdv, ct, osl, efd, lk, hcg⟩ := fnd_of F
  subst efd
  refine ⟨fun pins s σ H Q I h => ?_⟩
  obtain ⟨hT, h⟩ := h
  refine wpAny_Call_Name_kw (ld_glob I hg hm ?_ hdb)
  refine PySem.W.callWith_K (h₀ := X.base) I.ok.mod.kin F.kp ?_ he hpl
  rw [he]
  show wpAny _ _ (spliced ((false, eval (.Lambda params body scope lpos) X.env) :: backTo pos (starEach es X.env))) _ _ s
  refine Calls.spliced_cons (LamX.lam_make2 I TB hcode hmT hu hT hdef (L.has I.ok) fun f c' pm' ctv H1 s1 I1 eN T1 hf hfn hfr hco => ?_)
  have nloc : f ≠ X.env.locals := fun z => by
    obtain ⟨m, ⟨o, es', ep, ho, hd, _⟩, _⟩ := I1.loc
    rw [← z, hf] at ho
    cases ho
    cases hd
  have nfs : f ∉ X.fs := fun z => hfr (by
    rcases I1.ok.stk with e | ⟨e, hfm⟩
    · rw [e]; exact z
    · rw [e]
      unfold frs
      rw [List.filterMap_cons, hfm]
      exact List.mem_cons_of_mem _ z)
  have Ip : Inv X ((f, _) :: pins) σ H1 s1 := I1.pins_of fun q hq => by
    rcases List.mem_cons.mp hq with e | e
    · subst e
      exact ⟨hf, hfn, nloc, nfs, fun v z => by cases z⟩
    · exact I1.pin q (List.mem_append_right _ e)
  refine thn (ha.run pos _ s1 σ H1 _ Ip (h H1 c' eN T1 hco)) fun us s2 z => ?_
  obtain ⟨vs, H2, I2, r2, hl, hc2, ht2⟩ := z
  obtain ⟨hf2, hfn2, _⟩ := I2.pin (f, _) (List.mem_append_right _ (List.mem_cons_self ..))
  refine ⟨I2.kIn, ?_⟩
  have hlu : us.length = rs.length := by rw [← r2.length]; exact hl
  have rc : codeAny (model X.prog X.w) X.A (.call (.ref g) ⟨.ref f :: us, []⟩) (CR (L2.CX X.prog X.w) X.stack X.prog X.w H2 s2 Q E) s2 := by
    have bt := hb s2 (.ref f :: us) I2.kIn (by simp [hlu])
    rw [List.append_nil] at bt
    refine LamX.run_ofS (N := Ng) (ps := a :: rs) (us := .ref f :: us) (vs := .ref f :: vs) lk hcg Sg' hr I2.env0 bt (.cons rfl r2) (by simp [hl]) fun hr' => ?_
    have hN0 : Ng[0]? = some a := by
      have e := congrArg (·[0]?) Sg'.pre
      simp only [List.getElem?_cons_zero] at e
      rw [← e, List.getElem?_take]
      simp
    exact hG cdv f c' s2 H2 Q vs _ hr' (fun {e es ta p1 p2} hpa h1 h2 => pe_actP (k := kl) (i := 0) I2 L dj hf2 hfn2 hfr (fun us hl => hbind _ _ _ _ _ us hl) psE (hr'.mono hkl) (fun A outer s H hr2 => hbody A outer s H f c' hr2) hpa hN0 hva hda hcd h1 h2) hc2 ht2
  refine wpAny_call (codeAny_mono rc fun r s3 hq => ?_)
  cases r with
  | error e => exact hx _ σ H2 s2 e s3 I2 hq
  | ok fl =>
    cases fl with
    | ret u =>
      obtain ⟨v, H3, I3, q3⟩ := I2.after hq
      exact ⟨v, H3, I3.pins_of fun q hq => I3.pin q (List.mem_append_right _ (List.mem_cons_of_mem _ hq)), q3⟩
    | next => exact False.elim hq
    | brk => exact False.elim hq
    | cont => exact False.elim hq
end
end Py
end

section
set_option Elab.async false
set_option linter.all false
set_option maxRecDepth 100000
set_option maxHeartbeats 4000000
set_option autoImplicit false
namespace Py
open PySem PySem.Spec PyProof.Rows L2
/-! ### lambdas by data -/
/-- what a call of the lambda does with data, in heaps that know what Hm knows -/
def ActD (K : Frg) (T : List (Addr × Str)) (O : List Addr) (Hm : Hp) (tl : List V → Hp → VK → Prop) (R : List Dt → Dt → Prop) : Prop := ∀ ds r H vs (Q : VK), Ex Hm H → LamX.Tabs T H → (∀ a ∈ O, ∃ o, H a = some o ∧ NoT o) → IsA K (hd O H) ds vs → R ds r →
  (∀ v H', Ex H H' → LamX.Tabs T H' → Is K (hd O H') r v → Q v H') → tl vs H Q
/-- a promise that speaks of what the lambda does -/
def TTr (K : Frg) (T : List (Addr × Str)) (g : (List Dt → Dt → Prop) → List Dt → Dt → Prop) : (List V → Hp → VK → Prop) → List V → Hp → VK → Prop := fun tl vs H Q => ∃ O ds r R, (∀ a ∈ O, ∃ o, H a = some o ∧ NoT o) ∧ LamX.Tabs T H ∧ IsA K (hd O H) ds vs ∧ ActD K T O H tl R ∧ g R ds r ∧
  ∀ v H', Ex H H' → LamX.Tabs T H' → Is K (hd O H') r v → Q v H'
theorem nt_c {c : Addr} {q : Str} : NoT (LamX.CodeO c q) := fun ps z => by
  unfold LamX.CodeO at z
  cases z
section
variable {C : Ct} {E : XK} {A A1 : AS} {d r : Dt} {ta : TA} {tb : TE} {σ : Sg} {H H' : Hp} {os : List (Option Addr)}
theorem Ok.noOs (k : Ok C os A σ H) (h : A.st = []) : os = [] := by
  have := k.ln
  rw [h] at this
  exact List.eq_nil_of_length_eq_zero this
theorem Rh_nil {O : List Addr} {H : Hp} : Rh O [] H = hd O H := by
  show hd (O ++ []) H = _
  rw [List.append_nil]
theorem Gr.at {O : List Addr} {os os' : List (Option Addr)} {c : Addr} {o : HO} (g : Gr O os H os' H') (hn : NoT o) (hc : H c = some o) (hos : os = []) : H' c = some o := by
  by_cases hO : c ∈ O
  · rw [g.o c hO]; exact hc
  · refine hd_ex c o (g.e c o ?_ hn) hn
    rw [hos, Rh_nil, hd_of hO]
    exact hc
theorem e_act {f c' : Addr} {q : Str} {i n : Nat} {tl : List V → Hp → VK → Prop} {R : List Dt → Dt → Prop} {ds : List Dt} (ha : ActD C.K C.T C.O C.H0 tl R) (hc : C.H0 c' = some (LamX.CodeO c' q)) (hs : A.sl[i]? = some (.d (.v (.ref f)))) (hst : A.st = []) (h : EvA C ta A ds A) (hn : ds.length = n) (hR : R ds r) :
    EvS C (tActP i f c' q n ta tl) A r A := fun os σ H k Q qq => by
  obtain ⟨o, e1, v, e2, e3⟩ := k.slot hs
  rw [Is.v_iff] at e3
  subst e3 e2
  refine ⟨e1, h os σ H k _ fun os1 vs H1 k1 g1 i1 => ⟨by rw [isA_len i1]; exact hn, k1.ex _ _ hc nt_c, ?_⟩⟩
  have e0 := k1.noOs hst
  subst e0
  rw [Rh_nil] at i1
  exact ha ds r H1 vs Q k1.ex k1.tb k1.ol i1 hR fun v H' e t i => qq [] v H' (k1.mono e t) (g1.trans (k1.gr e)) (by rw [Rh_nil]; exact i)
/-- x(lambda ps: body, e, ..), by data -/
theorem e_lamP {q : Str} {m : Nat} {g : (List Dt → Dt → Prop) → List Dt → Dt → Prop} {ds : List Dt} {R : List Dt → Dt → Prop} (hst : A.st = []) (h : EvA C ta A ds A) (hm : ds.length = m)
    (hb : ∀ H xs y, R xs y → EvS ⟨C.K, C.T, H, C.O⟩ tb ⟨xs.map .d ++ A.sl, []⟩ y ⟨xs.map .d ++ A.sl, []⟩) (hg : g R ds r) : EvS C (tLamP C.T q m (TTr C.K C.T g) ta tb) A r A := fun os σ H k Q qq => by
  have e0 := k.noOs hst
  subst e0
  refine ⟨k.tb, fun H1 c' eN T1 hc => ?_⟩
  have k1 := k.mono (H' := H1) eN T1
  refine h [] σ H1 k1 _ fun os2 vs H2 k2 g2 i2 => ?_
  have e2 := k2.noOs hst
  subst e2
  refine ⟨by rw [isA_len i2]; exact hm, g2.at nt_c hc rfl, C.O, ds, r, R, k2.ol, k2.tb, by rw [← Rh_nil]; exact i2, ?_, hg, fun v H' e t i => qq [] v H' (k2.mono e t) (((k.gr eN).trans g2).trans (k2.gr e)) (by rw [Rh_nil]; exact i)⟩
  intro xs y H3 ws Q3 e3 t3 o3 i3 hR hq
  have k3 := k2.mono e3 t3
  refine hb H3 xs y hR [] _ H3 ⟨Ex.refl _, t3, o3, fun a _ z => (by cases z), rfl, fun i j a z => (by simp at z), fun a z => (by cases z), ?_, fun i s o h1 h2 => ?_, fun i s o h1 h2 => by simp at h2⟩ Q3 fun os4 v H4 k4 g4 i4 => ?_
  · show (ws.map some ++ σ).length = (xs.map SD.d ++ A.sl).length
    rw [List.length_append, List.length_append, List.length_map, List.length_map, isA_len i3, k3.sn]
  · show SlOk C.K [] (Rh C.O [] H3) s o
    have h1 : (xs.map SD.d ++ A.sl)[i]? = some s := h1
    rw [List.getElem?_append] at h1 h2
    simp only [List.length_map] at h1 h2
    rw [isA_len i3] at h2
    split at h1
    · rename_i hi
      rw [if_pos hi] at h2
      rw [List.getElem?_map] at h1 h2
      cases e1 : xs[i]? with
      | none => rw [e1] at h1; cases h1
      | some x =>
        obtain ⟨v, hv, hx⟩ := isA_get i3 e1
        rw [e1] at h1
        rw [hv] at h2
        cases h1; cases h2
        exact ⟨v, rfl, by rw [Rh_nil]; exact hx⟩
    · rename_i hi
      rw [if_neg hi] at h2
      exact k3.sl _ s o h1 h2
  · have e4 := k4.noOs rfl
    subst e4
    exact hq v H4 k4.ex k4.tb (by rw [← Rh_nil]; exact i4)
end
/-! ### told: x(lambda: body), x a def that tries the call and answers a text for an error -/
section
variable {C : Ct} {A A1 : AS} {d : Dt}
theorem e_toldOk {CS : Addr} {ret : Str} {t : XK → TE} (h : ∀ E, EvS C (t E) A d A1) : EvS C (LamX.tLam C.T (LamX.TTold C.K CS ret) t) A d A1 := fun os σ H k Q q =>
  ⟨k.tb, fun H1 eN T1 => h _ os σ H1 (k.mono (H' := H1) eN T1) Q fun os' v H' k' g i => q os' v H' k' ((k.gr eN).trans g) i⟩
theorem e_toldErr {CS : Addr} {ret : Str} {t : XK → TE} (hm : PySem.W.exmOne C.K (.ref CS) (.ref CS) = some true) (h : ∀ E, EvX C E (t E) A CS A1) : EvS C (LamX.tLam C.T (LamX.TTold C.K CS ret) t) A (Dt.v (.str ret)) A1 := fun os σ H k Q q =>
  ⟨k.tb, fun H1 eN T1 => h _ os σ H1 (k.mono (H' := H1) eN T1) (fun os' H' k' g => ⟨true, hm, fun _ => q os' _ H' k' ((k.gr eN).trans g) is_v, fun z => by cases z⟩) Q⟩
end
/-- the callee's side: its body told over data, for whatever the lambda does -/
theorem gives_of {X : Cx} {k : Nat} {Ng : List Str} {x : Str} {sg : Scope} {g : Addr} {cdg : Value} {bg : List Stmt} {a : Str} {n : Nat} {q : Str} {E : XK} {T : List (Addr × Str)} {gg : (List Dt → Dt → Prop) → List Dt → Dt → Prop}
    (hbody : ∀ (f c' : Addr) (s : Shared) (H : Hp) (tl : List V → Hp → VK → Prop), Room k (X.A.deeper (envOfC x sg s.heap.objs.size g cdg)) → ActP (cxOf (L2.CX X.prog X.w) X.prog X.w X.K X.mg X.base Ng x sg g cdg X.A X.stack s H E) a 0 n f c' q tl →
      ∃ t, PSs (cxOf (L2.CX X.prog X.w) X.prog X.w X.K X.mg X.base Ng x sg g cdg X.A X.stack s H E) bg t ∧ ∀ O ds r R, H c' = some (LamX.CodeO c' q) → ActD X.K T O H tl R → gg R ds r → RunS ⟨X.K, T, H, O⟩ E t (start Ng (.v (.ref f) :: ds)) (poR (.ok r))) :
    GivesP X k Ng x sg g cdg bg a n q E (TTr X.K T gg) := fun f c' s H Q vs tl hr act hc ht => by
  obtain ⟨O, ds, r, R, hO, hT, hi, hA, hg, hq⟩ := ht
  obtain ⟨t, h1, h2⟩ := hbody f c' s H tl hr act
  refine ⟨t, h1, h2 O ds r R hc hA hg [] _ H _ (start_ok hO hT (isA_cons is_v hi)) ⟨fun os A σ H' z k _ => ?_, fun os A σ d v H' z k _ i => ?_, fun os A σ H' z => z.elim, fun os A σ H' z => z.elim, fun c H' z e t => ?_⟩⟩
  · have z : Rs.ok r = .ok dn := z
    injection z with z
    rw [z] at hq
    exact hq _ H' k.ex k.tb is_v
  · have z : Rs.ok r = .ok d := z
    injection z with z
    rw [z] at hq
    exact hq v H' k.ex k.tb i
  · cases (show Rs.ok r = .err c from z)
end Py
end

section
set_option Elab.async false
set_option linter.all false
set_option maxRecDepth 100000
set_option maxHeartbeats 4000000
set_option autoImplicit false
namespace Py
open PySem PySem.Spec PyProof.Rows L2
/-! ### comprehensions by data -/
theorem wipe_in {σ : Sg} {i : Nat} : ∀ {vs : List Nat}, i ∈ vs → i < σ.length → (wipe σ vs)[i]? = some none
  | [], h, _ => by cases h
  | v :: vs, h, hl => by
    unfold wipe
    rw [List.getElem?_set]
    by_cases e : v = i
    · rw [if_pos e, wipe_length, if_pos (by rw [e]; exact hl)]
    · rw [if_neg e]
      exact wipe_in ((List.mem_cons.mp h).resolve_left fun z => e z.symm) hl
theorem wipe_eq {σ σ' : Sg} {vs : List Nat} (hl : σ'.length = σ.length) (h : ∀ i, i ∉ vs → σ'[i]? = σ[i]?) : wipe σ' vs = wipe σ vs := by
  apply List.ext_getElem?
  intro i
  by_cases m : i ∈ vs
  · by_cases l : i < σ.length
    · rw [wipe_in m l, wipe_in m (by rw [hl]; exact l)]
    · rw [List.getElem?_eq_none (by rw [wipe_length]; omega), List.getElem?_eq_none (by rw [wipe_length]; omega)]
  · rw [wipe_out m, wipe_out m, h i m]
theorem wipe_same {σ σ' : Sg} {vs : List Nat} {i : Nat} (h : wipe σ' vs = wipe σ vs) (m : i ∉ vs) : σ'[i]? = σ[i]? := by
  rw [← wipe_out m, h, wipe_out m]
theorem wipe_wipe {σ : Sg} {vs : List Nat} : wipe (wipe σ vs) vs = wipe σ vs := wipe_eq (wipe_length _ _) fun i m => wipe_out m
def wipeS : List SD → List Nat → List SD
  | l, [] => l
  | l, v :: vs => (wipeS l vs).set v .un
theorem wipeS_length : ∀ (l : List SD) (vs : List Nat), (wipeS l vs).length = l.length
  | l, [] => rfl
  | l, v :: vs => by unfold wipeS; rw [List.length_set, wipeS_length l vs]
theorem wipeS_get {l : List SD} {i : Nat} {s : SD} : ∀ {vs : List Nat}, (wipeS l vs)[i]? = some s → (i ∈ vs → s = .un) ∧ (i ∉ vs → l[i]? = some s)
  | [], h => ⟨fun z => (by cases z), fun _ => h⟩
  | v :: vs, h => by
    unfold wipeS at h
    rw [List.getElem?_set] at h
    by_cases e : v = i
    · rw [if_pos e] at h
      split at h
      · cases h
        exact ⟨fun _ => rfl, fun z => (z (by rw [e]; exact List.mem_cons_self ..)).elim⟩
      · cases h
    · rw [if_neg e] at h
      obtain ⟨h1, h2⟩ := wipeS_get h
      exact ⟨fun z => h1 ((List.mem_cons.mp z).resolve_left fun q => e q.symm), fun z => h2 fun q => z (List.mem_cons_of_mem _ q)⟩
def AS.wipe (A : AS) (ws : List Nat) : AS := ⟨wipeS A.sl ws, A.st⟩
abbrev Ct.hide (C : Ct) (p : Addr) : Ct := ⟨C.K, C.T, C.H0, p :: C.O⟩
section
variable {C : Ct} {A A1 A2 A3 : AS} {σ σ' : Sg} {H H' : Hp} {os os' : List (Option Addr)} {p : Addr} {ws : List Nat}
theorem Ok.wiped (k : Ok C os A σ H) : Ok C os (A.wipe ws) (L2.wipe σ ws) H := by
  refine ⟨k.ex, k.tb, k.ol, k.dj, k.ln, k.nd, k.fr, ?_, fun i s o h1 h2 => ?_, k.st⟩
  · rw [wipe_length, k.sn]
    exact (wipeS_length _ _).symm
  · obtain ⟨g1, g2⟩ := wipeS_get (show (wipeS A.sl ws)[i]? = some s from h1)
    by_cases m : i ∈ ws
    · rw [g1 m]; exact True.intro
    · rw [wipe_out m] at h2
      exact k.sl i s o (g2 m) h2
theorem Ok.back (k : Ok C os A σ' H) (h : L2.wipe σ' ws = L2.wipe σ ws) : Ok C os (A.wipe ws) σ H := by
  refine ⟨k.ex, k.tb, k.ol, k.dj, k.ln, k.nd, k.fr, ?_, fun i s o h1 h2 => ?_, k.st⟩
  · have e := congrArg List.length h
    rw [wipe_length, wipe_length] at e
    rw [← e, k.sn]
    exact (wipeS_length _ _).symm
  · obtain ⟨g1, g2⟩ := wipeS_get (show (wipeS A.sl ws)[i]? = some s from h1)
    by_cases m : i ∈ ws
    · rw [g1 m]; exact True.intro
    · rw [← wipe_same h m] at h2
      exact k.sl i s o (g2 m) h2
theorem mem_hide {O : List Addr} {a : Addr} : a ∈ hid (p :: O) os ↔ a = p ∨ a ∈ hid O os := by
  rw [mem_hid, mem_hid, List.mem_cons, or_assoc]
theorem Rh_hide {O : List Addr} {o : HO} (hp : H p = none) : Rh (p :: O) os (upd H p o) = Rh O os H := by
  funext a
  show hd _ _ a = hd _ _ a
  unfold hd
  by_cases e : a = p
  · rw [if_pos (mem_hide.mpr (.inl e))]
    split
    · rfl
    · rw [e]; exact hp.symm
  · by_cases q : a ∈ hid O os
    · rw [if_pos q, if_pos (mem_hide.mpr (.inr q))]
    · rw [if_neg q, if_neg fun z => (mem_hide.mp z).elim e q, upd_ne e]
theorem Rh_unhide {O : List Addr} : Ex (Rh (p :: O) os H) (Rh O os H) := fun a o h _ => by
  have h : hd _ H a = some o := h
  show hd _ H a = some o
  unfold hd at h ⊢
  split at h
  · cases h
  · rename_i q
    rw [if_neg fun z => q (mem_hide.mpr (.inr z))]
    exact h
theorem Ok.hide {o : HO} (k : Ok C os A σ H) (hp : H p = none) (hn : NoT o) : Ok (C.hide p) os A σ (upd H p o) := by
  have np : some p ∉ os := fun z => by
    obtain ⟨o, q, _⟩ := (k.fr p z).2
    rw [hp] at q; cases q
  refine ⟨k.ex.trans (Ex.new hp), tabs_new k.tb hp, fun a h => ?_, fun a h => ?_, k.ln, k.nd, fun a h => ?_, k.sn, fun i s o h1 h2 => ?_, fun i s o h1 h2 => ?_⟩
  · rcases List.mem_cons.mp h with e | e
    · rw [e]; exact ⟨o, upd_same, hn⟩
    · obtain ⟨u, q, n⟩ := k.ol a e
      exact ⟨u, Ex.new hp _ _ q n, n⟩
  · rcases List.mem_cons.mp h with e | e
    · rw [e]; exact np
    · exact k.dj a e
  · obtain ⟨h1, u, q, n⟩ := k.fr a h
    exact ⟨h1, u, Ex.new hp _ _ q n, n⟩
  · show SlOk C.K os (Rh (p :: C.O) os (upd H p _)) s o
    rw [Rh_hide hp]
    exact k.sl i s o h1 h2
  · show StOk C.K (Rh (p :: C.O) os (upd H p _)) _ o s
    rw [Rh_hide hp]
    exact (k.st i s o h1 h2).mono (Ex.refl _) (Ex.new hp)
theorem Ok.unhide (k : Ok (C.hide p) os A σ H) : Ok C os A σ H :=
  ⟨k.ex, k.tb, fun a h => k.ol a (List.mem_cons_of_mem _ h), fun a h => k.dj a (List.mem_cons_of_mem _ h), k.ln, k.nd, k.fr, k.sn, fun i s o h1 h2 => (k.sl i s o h1 h2).mono Rh_unhide, fun i s o h1 h2 => (k.st i s o h1 h2).mono Rh_unhide (Ex.refl _)⟩
theorem Rh_updO {O : List Addr} {o : HO} (h : p ∈ O) : Rh O os (upd H p o) = Rh O os H := Rh_upd (mem_hid.mpr (.inl h))
/-- a hidden list grows -/
theorem Ok.updH {xs ys : List V} (k : Ok C os A σ H) (h : p ∈ C.O) (h0 : ∀ o, C.H0 p = some o → ¬ NoT o) (hl : H p = some (.lst xs)) : Ok C os A σ (upd H p (.lst ys)) := by
  refine ⟨fun a o e n => ?_, tabs_lst k.tb hl, fun a m => ?_, k.dj, k.ln, k.nd, fun a m => ?_, k.sn, fun i s o h1 h2 => ?_, fun i s o h1 h2 => ?_⟩
  · have ne : a ≠ p := fun z => h0 o (by rw [← z]; exact e) n
    rw [upd_ne ne]
    exact k.ex _ _ e n
  · by_cases e : a = p
    · rw [e]; exact ⟨_, upd_same, nt_l⟩
    · rw [upd_ne e]; exact k.ol a m
  · have ne : a ≠ p := fun z => k.dj p h (by rw [← z]; exact m)
    rw [upd_ne ne]
    exact k.fr a m
  · rw [Rh_updO h]
    exact k.sl i s o h1 h2
  · rw [Rh_updO h]
    have q := k.st i s o h1 h2
    cases s with
    | gone => exact q
    | lst zs =>
      obtain ⟨a, us, q1, q2, q3⟩ := q
      have ne : a ≠ p := fun z => k.dj p h (by rw [← z, ← q1]; exact List.mem_of_getElem? h2)
      exact ⟨a, us, q1, by rw [upd_ne ne]; exact q2, q3⟩
end
section
variable {C : Ct} {A A1 A2 A3 : AS} {te tl : TE} {tt : TT} {g : TG} {ws : List Nat}
/-- a comprehension's target: it stores in the block's own slots alone -/
def TgS (C : Ct) (g : TG) (x : Dt) (A A' : AS) (ws : List Nat) : Prop := ∀ os σ H v (Q : Sg → Hp → Prop), Ok C os A σ H → Is C.K (Rh C.O os H) x v → (∀ σ', Ok C os A' σ' H → wipe σ' ws = wipe σ ws → Q σ' H) → g v σ H Q
theorem tgS_name {i : Nat} {x : Dt} (h : i ∈ ws) : TgS C (gName i) x A (A.put i x) ws := fun os σ H v Q k i1 q => q _ (k.put i1) (wipe_eq (by simp) fun j hj => by
  rw [List.getElem?_set_ne fun z => hj (by rw [← z]; exact h)])
def TgsS (C : Ct) (g : TGs) (xs : List Dt) (A A' : AS) (ws : List Nat) : Prop := ∀ os σ H vs (Q : Sg → Hp → Prop), Ok C os A σ H → IsA C.K (Rh C.O os H) xs vs → (∀ σ', Ok C os A' σ' H → wipe σ' ws = wipe σ ws → Q σ' H) → g vs σ H Q
theorem tgsS_nil : TgsS C gNil [] A A ws := fun os σ H vs Q k i q => ⟨by rw [IsA] at i; exact i, q σ k rfl⟩
theorem tgsS_cons {gs : TGs} {x : Dt} {xs : List Dt} (h : TgS C g x A A1 ws) (h' : TgsS C gs xs A1 A2 ws) : TgsS C (gCons g gs) (x :: xs) A A2 ws := fun os σ H vs Q k i q => by
  rw [IsA] at i
  obtain ⟨v, w, rfl, h1, h2⟩ := i
  exact ⟨v, w, rfl, h os σ H v _ k h1 fun σ1 k1 e1 => h' os σ1 H w Q k1 h2 fun σ2 k2 e2 => q σ2 k2 (e2.trans e1)⟩
theorem tgS_tup {gs : TGs} {n : Nat} {xs : List Dt} (hl : xs.length = n) (h : TgsS C gs xs A A1 ws) : TgS C (gTup C.K n gs) (.tup xs) A A1 ws := fun os σ H v Q k i q => by
  rw [Is] at i
  obtain ⟨a, vs, rfl, h1, h2⟩ := i
  exact ⟨a, vs, rfl, hd_ex.t h1, by rw [isA_len h2, hl], h os σ H vs Q k h2 q⟩
/-- one turn of a comprehension -/
def LcT (C : Ct) (g : TG) (tt : TT) (te : TE) (ws : List Nat) (x : Dt) (A : AS) (ys : List Dt) (A2 : AS) (ys2 : List Dt) : Prop :=
  ∃ A1 b A', TgS C g x (A.wipe ws) A1 ws ∧ EvT C tt A1 b A' ∧ ((b = true ∧ ∃ y A3, EvS C te A' y A3 ∧ ys2 = ys ++ [y] ∧ A3.wipe ws = A2) ∨ (b = false ∧ ys2 = ys ∧ A'.wipe ws = A2))
theorem t_yes : EvT C tYes A true A := fun os σ H k Q q => q os H k Gr.refl
def LcI (C : Ct) (p : Addr) (os1 : List (Option Addr)) (H1 : Hp) (σ : Sg) (A : AS) (ys : List Dt) (H : Hp) : Prop := ∃ os acc, Ok (C.hide p) os A σ H ∧ Gr (p :: C.O) os1 H1 os H ∧ H p = some (.lst acc) ∧ IsA C.K (Rh (p :: C.O) os H) ys acc
/-- all but the hidden list p itself -/
structure GrP (p : Addr) (O : List Addr) (os : List (Option Addr)) (H : Hp) (os' : List (Option Addr)) (H' : Hp) : Prop where
  e : Ex (Rh (p :: O) os H) (Rh (p :: O) os' H')
  o : ∀ a ∈ O, H' a = H a
  p : ∀ (k : Nat) (x : Option Addr), os[k]? = some x → os'[k]? = some x
theorem lc_turn {p : Addr} {x : Dt} {v : V} {σ : Sg} {os : List (Option Addr)} {H : Hp} {ys ys2 : List Dt} {acc : List V} (t : LcT (C.hide p) g tt te ws x A ys A2 ys2) (k : Ok (C.hide p) os A σ H) (hp : H p = some (.lst acc)) (ha : IsA C.K (Rh (p :: C.O) os H) ys acc) (hx : Is C.K (Rh (p :: C.O) os H) x v)
    (h0 : ∀ o, C.H0 p = some o → ¬ NoT o) (hO : p ∉ C.O) (hl : ys.length < 100000) (R : Hp → Prop) (hR : ∀ os' acc' H', Ok (C.hide p) os' A2 σ H' → GrP p C.O os H os' H' → H' p = some (.lst acc') → IsA C.K (Rh (p :: C.O) os' H') ys2 acc' → R H') :
    g v (wipe σ ws) H fun σ2 H2 => wipe σ2 ws = wipe σ ws ∧ tt σ2 H2 fun b H3 => if b = true then te σ2 H3 fun y H4 => ∃ acc, H4 p = some (HO.lst acc) ∧ acc.length < sizeLine ∧ R (upd H4 p (HO.lst (acc ++ [y]))) else R H3 := by
  obtain ⟨A1, b, A', tg, ht, hb⟩ := t
  refine tg os _ H v _ k.wiped hx fun σ2 k2 e2 => ⟨e2.trans wipe_wipe, ht os σ2 H k2 _ fun os3 H3 k3 g3 => ?_⟩
  have e2' : wipe σ2 ws = wipe σ ws := e2.trans wipe_wipe
  have hp3 : H3 p = some (.lst acc) := (g3.o p (List.mem_cons_self ..)).trans hp
  rcases hb with ⟨rfl, y, A3, he, rfl, rfl⟩ | ⟨rfl, rfl, rfl⟩
  · rw [if_pos rfl]
    refine he os3 σ2 H3 k3 _ fun os4 w H4 k4 g4 i4 => ?_
    have hp4 : H4 p = some (.lst acc) := (g4.o p (List.mem_cons_self ..)).trans hp3
    have g := g3.trans g4
    refine ⟨acc, hp4, by rw [isA_len ha]; exact Nat.lt_of_lt_of_le hl (by decide), hR os4 _ _ ((k4.back e2').updH (List.mem_cons_self ..) h0 hp4) ⟨?_, fun a h => ?_, g.p⟩ upd_same ?_⟩
    · rw [Rh_updO (List.mem_cons_self ..)]; exact g.e
    · rw [upd_ne fun z => hO (by rw [← z]; exact h)]
      exact g.o a (List.mem_cons_of_mem _ h)
    · rw [Rh_updO (List.mem_cons_self ..)]
      exact isA_app (IsA.mono g.e _ _ ha) (isA_cons i4 isA_nil)
  · rw [if_neg (by decide)]
    exact hR os3 acc H3 (k3.back e2') ⟨g3.e, fun a h => g3.o a (List.mem_cons_of_mem _ h), g3.p⟩ hp3 (IsA.mono g3.e _ _ ha)
theorem GrP.trans {p : Addr} {O : List Addr} {os os1 os2 : List (Option Addr)} {H H1 H2 : Hp} (a : GrP p O os H os1 H1) (b : GrP p O os1 H1 os2 H2) : GrP p O os H os2 H2 := ⟨a.e.trans b.e, fun x h => (b.o x h).trans (a.o x h), fun k x h => b.p k x (a.p k x h)⟩
theorem fresh_O {os : List (Option Addr)} {σ : Sg} {H : Hp} {p : Addr} (k : Ok C os A σ H) (hp : H p = none) : p ∉ C.O := fun z => k.new hp (mem_hid.mpr (.inl z))
theorem fresh_0 {os : List (Option Addr)} {σ : Sg} {H : Hp} {p : Addr} (k : Ok C os A σ H) (hp : H p = none) : ∀ o, C.H0 p = some o → ¬ NoT o := fun o e n => by
  have := k.ex _ _ e n
  rw [hp] at this; cases this
/-- the end: the list is data -/
theorem lc_end {p : Addr} {σ : Sg} {os1 os2 : List (Option Addr)} {H1 H2 : Hp} {ys : List Dt} {acc : List V} {Q : VK} (k1 : Ok C os1 A σ H1) (hp : H1 p = none) (k2 : Ok (C.hide p) os2 A2 σ H2) (g : GrP p C.O os1 (upd H1 p (.lst [])) os2 H2) (hl : H2 p = some (.lst acc)) (ha : IsA C.K (Rh (p :: C.O) os2 H2) ys acc)
    (q : ∀ os' v H', Ok C os' A2 σ H' → Gr C.O os1 H1 os' H' → Is C.K (Rh C.O os' H') (.lst ys) v → Q v H') : Q (.ref p) H2 := by
  refine q os2 _ H2 k2.unhide ⟨?_, fun a h => ?_, g.p⟩ ?_
  · have e := g.e
    rw [Rh_hide hp] at e
    exact e.trans Rh_unhide
  · rw [g.o a h, upd_ne fun z => fresh_O k1 hp (by rw [← z]; exact h)]
  · rw [Is]
    refine ⟨p, acc, rfl, SqL.of ?_, IsA.mono Rh_unhide _ _ ha⟩
    show hd _ H2 p = _
    rw [hd_of fun z => ?_]
    · exact hl
    · rcases mem_hid.mp z with z | z
      · exact fresh_O k1 hp z
      · exact k2.dj p (List.mem_cons_self ..) z
theorem e_lcR {lo : Int} {n : Nat} {wi : TI} (hw : ∀ os σ H, Ok C os A σ H → ∀ R : It → Hp → Prop, (∀ os' H', Ok C os' A1 σ H' → Gr C.O os H os' H' → R (Itr lo n) H') → wi σ H R) (B : Nat → AS) (Y : Nat → List Dt) (h0 : A1 = B 0) (hY : Y 0 = [])
    (hs : ∀ i, i < n → ∀ O, LcT ⟨C.K, C.T, C.H0, O⟩ g tt te ws (di (lo + i)) (B i) (Y i) (B (i + 1)) (Y (i + 1))) (hn : n < 100000) : EvS C (tLc wi g tt te ws) A (.lst (Y n)) (B n) := fun os σ H k Q q =>
  hw os σ H k _ fun os1 H1 k1 g1 p hp => by
    have hl : ∀ i, i ≤ n → (Y i).length ≤ i := by
      intro i
      induction i with
      | zero => intro _; rw [hY]; exact Nat.le_refl _
      | succ i ih =>
        intro hi
        obtain ⟨_, _, _, _, _, h⟩ := hs i hi []
        rcases h with ⟨_, _, _, _, e, _⟩ | ⟨_, e, _⟩ <;> rw [e] <;> have := ih (by omega) <;> (try simp only [List.length_append, List.length_singleton]) <;> omega
    subst h0
    refine lc_range (lo := lo) (n := n) (fun i H' => ∃ os' acc, Ok (C.hide p) os' (B i) σ H' ∧ GrP p C.O os1 (upd H1 p (.lst [])) os' H' ∧ H' p = some (.lst acc) ∧ IsA C.K (Rh (p :: C.O) os' H') (Y i) acc) ⟨os1, [], k1.hide hp nt_l, ⟨Ex.refl _, fun _ _ => rfl, fun _ _ h => h⟩, upd_same, by rw [hY]; exact isA_nil⟩ ?_ ?_
    · rintro i H' hi ⟨os', acc, k', g', hp', ha⟩
      exact lc_turn (hs i hi _) k' hp' ha is_v (fresh_0 k1 hp) (fresh_O k1 hp) (by have := hl i (by omega); omega) _ fun os2 acc2 H2 k2 g2 hp2 ha2 => ⟨os2, acc2, k2, g'.trans g2, hp2, ha2⟩
    · rintro H' ⟨os', acc, k', g', hp', ha⟩
      exact lc_end k1 hp k' g' hp' ha fun os2 v H2 k2 g2 i2 => q os2 v H2 k2 (g1.trans g2) i2
theorem e_lcL {xs : List Dt} (he : EvS C tl A (.lst xs) A1) (B : Nat → AS) (Y : Nat → List Dt) (h0 : A1 = B 0) (hY : Y 0 = [])
    (hs : ∀ i x, xs[i]? = some x → ∀ O, LcT ⟨C.K, C.T, C.H0, O⟩ g tt te ws x (B i) (Y i) (B (i + 1)) (Y (i + 1))) (hn : xs.length < 100000) : EvS C (tLc (iList C.K tl) g tt te ws) A (.lst (Y xs.length)) (B xs.length) := fun os σ H k Q q =>
  he os σ H k _ fun os1 v H1 k1 g1 i1 => by
    rw [Is] at i1
    obtain ⟨a, vs, rfl, h1, h2⟩ := i1
    refine ⟨a, rfl, ⟨vs, hd_ex.l h1⟩, fun p hp => ?_⟩
    have hl : ∀ i, i ≤ xs.length → (Y i).length ≤ i := by
      intro i
      induction i with
      | zero => intro _; rw [hY]; exact Nat.le_refl _
      | succ i ih =>
        intro hi
        obtain ⟨_, _, _, _, _, h⟩ := hs i xs[i] (List.getElem?_eq_getElem hi) []
        rcases h with ⟨_, _, _, _, e, _⟩ | ⟨_, e, _⟩ <;> rw [e] <;> have := ih (by omega) <;> (try simp only [List.length_append, List.length_singleton]) <;> omega
    subst h0
    have el : vs.length = xs.length := isA_len h2
    refine lc_list (K := C.K) (a := a) (xs := vs) (fun i H' => ∃ os' acc, Ok (C.hide p) os' (B i) σ H' ∧ GrP p C.O os1 (upd H1 p (.lst [])) os' H' ∧ H' p = some (.lst acc) ∧ IsA C.K (Rh (p :: C.O) os' H') (Y i) acc) ⟨os1, [], k1.hide hp nt_l, ⟨Ex.refl _, fun _ _ => rfl, fun _ _ h => h⟩, upd_same, by rw [hY]; exact isA_nil⟩ (fun i H' _ ⟨os', acc, k', g', hp', ha⟩ => ?_) ?_ ?_
    · have e := g'.e
      rw [Rh_hide hp] at e
      exact hd_ex.l (e.l h1)
    · rintro i x H' hi ⟨os', acc, k', g', hp', ha⟩
      obtain ⟨d, hd', hi'⟩ := isA_get' h2 hi
      have e := g'.e
      rw [Rh_hide hp] at e
      exact lc_turn (hs i d hd' _) k' hp' ha (Is.mono e _ _ hi') (fresh_0 k1 hp) (fresh_O k1 hp) (by have := hl i (by have := (List.getElem?_eq_some_iff.mp hd').1; omega); have := (List.getElem?_eq_some_iff.mp hd').1; omega) _ fun os2 acc2 H2 k2 g2 hp2 ha2 => ⟨os2, acc2, k2, g'.trans g2, hp2, ha2⟩
    · rintro H' ⟨os', acc, k', g', hp', ha⟩
      rw [el] at k' ha
      exact lc_end k1 hp k' g' hp' ha fun os2 v H2 k2 g2 i2 => q os2 v H2 k2 (g1.trans g2) i2
end
end Py
end

section
set_option Elab.async false
set_option linter.all false
set_option maxRecDepth 100000
set_option maxHeartbeats 4000000
set_option autoImplicit false
namespace Py
open PySem PySem.Spec PyProof.Rows L2
/-! ### built-ins by data -/
section
variable {C : Ct} {A A1 A2 : AS} {ta tb te : TE} {i j : Int}
theorem e_gcd (h : EvS C ta A (di i) A1) (h' : EvS C tb A1 (di j) A2) : EvS C (tCB rGcd (tCons ta (tCons tb tNil))) A (di (Int.gcd i j)) A2 :=
  e_CB (vs := [.int i, .int j]) (a_cons h (a_cons h' a_nil)) fun H Q q => ⟨i, j, rfl, q⟩
theorem e_abs (h : EvS C ta A (di i) A1) : EvS C (tCB (fun xs H Q => ∃ i, xs = [V.int i] ∧ Q (V.int (if i < 0 then -i else i)) H) (tCons ta tNil)) A (di (if i < 0 then -i else i)) A1 :=
  e_CB (vs := [.int i]) (a_cons h a_nil) fun H Q q => ⟨i, rfl, q⟩
theorem e_max2 (h : EvS C ta A (di i) A1) (h' : EvS C tb A1 (di j) A2) : EvS C (tCB (fun xs H Q => ∃ i j, xs = [V.int i, V.int j] ∧ Q (V.int (if j > i then j else i)) H) (tCons ta (tCons tb tNil))) A (di (if j > i then j else i)) A2 :=
  e_CB (vs := [.int i, .int j]) (a_cons h (a_cons h' a_nil)) fun H Q q => ⟨i, j, rfl, q⟩
theorem e_int (h : EvS C ta A (di i) A1) : EvS C (tCB (fun xs H Q => (∃ i, xs = [V.int i] ∧ Q (V.int i) H) ∨ ∃ k, xs = [V.bl k] ∧ Q (V.int (if k = true then 1 else 0)) H) (tCons ta tNil)) A (di i) A1 :=
  e_CB (vs := [.int i]) (a_cons h a_nil) fun H Q q => .inl ⟨i, rfl, q⟩
theorem e_intB {b : Bool} (h : EvS C ta A (db b) A1) : EvS C (tCB (fun xs H Q => (∃ i, xs = [V.int i] ∧ Q (V.int i) H) ∨ ∃ k, xs = [V.bl k] ∧ Q (V.int (if k = true then 1 else 0)) H) (tCons ta tNil)) A (di (if b = true then 1 else 0)) A1 :=
  e_CB (vs := [.bl b]) (a_cons h a_nil) fun H Q q => .inr ⟨b, rfl, q⟩
theorem e_strI (hb : i.natAbs.log2 < 1920) (h : EvS C ta A (di i) A1) : EvS C (tCB (fun xs H Q => ∃ i, xs = [V.int i] ∧ i.natAbs.log2 < 1920 ∧ Q (V.str (Str.ofString (toString i))) H) (tCons ta tNil)) A (ds (Str.ofString (toString i))) A1 :=
  e_CB (vs := [.int i]) (a_cons h a_nil) fun H Q q => ⟨i, rfl, hb, q⟩
theorem e_bits (h : EvS C ta A (di i) A1) : EvS C (tBits ta) A (di (Builtin.Int.intBits i : Nat)) A1 := fun os σ H k Q q =>
  h os σ H k _ fun os1 v H1 k1 e1 i1 => ⟨i, Is.v_iff.mp i1, q os1 _ H1 k1 e1 is_v⟩
theorem e_fmtI (hb : i.natAbs.log2 < 1920) (h : EvS C ta A (di i) A1) : EvS C (tFmt ta) A (ds (Str.ofString (toString i))) A1 := fun os σ H k Q q =>
  h os σ H k _ fun os1 v H1 k1 e1 i1 => .inr ⟨i, Is.v_iff.mp i1, hb, q os1 _ H1 k1 e1 is_v⟩
/-- a < b < c -/
theorem e_chainF {r r' : R2} {x y : Dt} {tc : TE} (ha : EvS C ta A x A1) (hb : EvS C tb A1 y A2) (hr : OpS C r x y (db false)) : EvS C (tChain r r' ta tb tc) A (db false) A2 := fun os σ H k Q q =>
  ha os σ H k _ fun os1 v1 H1 k1 e1 i1 => hb os1 σ H1 k1 _ fun os2 v2 H2 k2 e2 i2 => hr os2 _ σ H2 v1 v2 k2 (Is.mono e2.e _ _ i1) i2 _ fun v H' e t i => ⟨false, Is.v_iff.mp i, by
    rw [if_neg (by decide)]
    exact q os2 _ H' (k2.mono e t) ((e1.trans e2).trans (k2.gr e)) is_v⟩
theorem e_chainT {r r' : R2} {x y z d : Dt} {A3 : AS} {tc : TE} (ha : EvS C ta A x A1) (hb : EvS C tb A1 y A2) (hr : OpS C r x y (db true)) (hc : EvS C tc A2 z A3) (hr' : OpS C r' y z d) : EvS C (tChain r r' ta tb tc) A d A3 := fun os σ H k Q q =>
  ha os σ H k _ fun os1 v1 H1 k1 e1 i1 => hb os1 σ H1 k1 _ fun os2 v2 H2 k2 e2 i2 => hr os2 _ σ H2 v1 v2 k2 (Is.mono e2.e _ _ i1) i2 _ fun v H' e t i => ⟨true, Is.v_iff.mp i, by
    rw [if_pos rfl]
    have k3 := k2.mono e t
    refine hc os2 σ H' k3 _ fun os4 v4 H4 k4 e4 i4 => ?_
    exact hr' os4 _ σ H4 v2 v4 k4 (Is.mono ((k2.gr e).trans e4).e _ _ i2) i4 Q fun v5 H5 e5 t5 i5 => q os4 v5 H5 (k4.mono e5 t5) ((((e1.trans e2).trans (k2.gr e)).trans e4).trans (k4.gr e5)) i5⟩
end
/-! ### sizes -/
theorem log2_of {i : Int} {n : Nat} (h : i.natAbs < 2 ^ n) (hn : 0 < n) : i.natAbs.log2 < n := PySem.Flt.log2_lt_of hn h
theorem mulX {i j : Int} (a b : Nat) (h : i.natAbs < 2 ^ a) (h' : j.natAbs < 2 ^ b) (h0 : 0 < a := by decide) (h1 : 0 < b := by decide) (hs : a + b ≤ 100000000 := by decide) : PMul i j := by
  have := log2_of h h0
  have := log2_of h' h1
  show i.natAbs.log2 + j.natAbs.log2 < 100000000
  omega
theorem divX {i j : Int} (b : Nat) (h : j.natAbs < 2 ^ b) (hj : j ≠ 0) (h1 : 0 < b := by decide) (hs : b ≤ 9000 := by decide) : PDiv i j := ⟨hj, Nat.lt_of_lt_of_le (log2_of h h1) hs⟩
/-- a number of at most n bits -/
def Sz (n : Nat) (i : Int) : Prop := i.natAbs < 2 ^ n
theorem Sz.mono {m n : Nat} {i : Int} (h : Sz m i) (e : m ≤ n) : Sz n i := Nat.lt_of_lt_of_le h (Nat.pow_le_pow_right (by decide) e)
theorem Sz.mul {m n : Nat} {i j : Int} (h : Sz m i) (h' : Sz n j) : Sz (m + n) (i * j) := by
  unfold Sz at *
  rw [Int.natAbs_mul, Nat.pow_add]
  exact Nat.mul_lt_mul'' h h'
theorem Sz.add {n : Nat} {i j : Int} (h : Sz n i) (h' : Sz n j) : Sz (n + 1) (i + j) := by
  unfold Sz at *
  have := Int.natAbs_add_le i j
  rw [Nat.pow_succ]
  omega
theorem Sz.sub {n : Nat} {i j : Int} (h : Sz n i) (h' : Sz n j) : Sz (n + 1) (i - j) := by
  unfold Sz at *
  have := Int.natAbs_sub_le i j
  rw [Nat.pow_succ]
  omega
theorem Sz.neg {n : Nat} {i : Int} (h : Sz n i) : Sz n (-i) := by
  unfold Sz at *
  rw [Int.natAbs_neg]
  exact h
theorem Sz.of_le {n : Nat} {i j : Int} (h : Sz n j) (e : i.natAbs ≤ j.natAbs) : Sz n i := Nat.lt_of_le_of_lt e h
end Py
end

section
set_option Elab.async false
set_option linter.all false
set_option maxRecDepth 100000
set_option maxHeartbeats 4000000
set_option autoImplicit false
namespace Py
open PySem PySem.Spec PyProof.Rows L2
/-! ### defs that make lambdas -/
abbrev lamQ (f : Str) : Str := (f ++ ".<locals>.") ++ "<lambda>"
/-- the tables of the defs fs -/
def tabL (K : Frg) (fs : List Str) : List (Addr × Str) := fs.map fun f => ((He.cT K (f, none)).2, lamQ f)
theorem tabL_mem {K : Frg} {fs : List Str} {f : Str} (h : f ∈ fs) : ((He.cT K (f, none)).2, lamQ f) ∈ tabL K fs := List.mem_map.mpr ⟨f, h, rfl⟩
theorem tabL_one {K : Frg} : ∀ {fs : List Str} {f : Str}, (fs.map fun f => (He.cT K (f, none)).2).Nodup → f ∈ fs → ∀ p ∈ tabL K fs, p.1 = (He.cT K (f, none)).2 → p.2 = lamQ f := by
  intro fs f nd hf p hp e
  obtain ⟨g, hg, rfl⟩ := List.mem_map.mp hp
  have e : (He.cT K (g, none)).2 = (He.cT K (f, none)).2 := e
  have : g = f := by
    clear hp
    induction fs with
    | nil => cases hf
    | cons a r ih =>
      simp only [List.map_cons, List.nodup_cons] at nd
      rcases List.mem_cons.mp hf with z | z <;> rcases List.mem_cons.mp hg with y | y
      · rw [z, y]
      · exact absurd (List.mem_map.mpr ⟨g, y, by rw [e, z]⟩) nd.1
      · exact absurd (List.mem_map.mpr ⟨f, z, by rw [← e, y]⟩) nd.1
      · exact ih nd.2 z y
  rw [this]
/-- what a def's making of lambdas leans on -/
structure LamB (K : Frg) (base : Heap) (mg : Str → Option Value) (T : List (Addr × Str)) (f : Str) : Prop where
  tb : LamX.TabB base mg (He.cT K (f, none)).1 (He.cT K (f, none)).2
  mm : ((He.cT K (f, none)).2, lamQ f) ∈ T
  hu : ∀ p ∈ T, p.1 = (He.cT K (f, none)).2 → p.2 = lamQ f
/-- as mkG, the def's code object told -/
theorem mkGL {P : Program} {w : World} {K : Frg} {T : List (Addr × Str)} {mg : Str → Option Value} {base : Heap} {f : Str} {st : Stmt} {N ps : List Str} {k : Nat} {g : List Dt → Rs → Prop}
    (F : ∃ fd, FunD K f f (defArgs st) (defBody st) (defScope st) [] [] (He.ga K f) fd) (hm : mg f = some (.ref (He.ga K f))) (S : FnScope N ps (defScope st))
    (hb : ∀ (kV doc pm : Value) (an : Option Addr) (cdv ct : Value) (us : List Value), us.length = ps.length → bindArgs (PySem.W.fnOf f f (defArgs st) (defBody st) (defScope st) .none kV doc pm an cdv ct) ⟨us, []⟩ = pure (ps.zip us))
    (len : ∀ ds r, g ds r → ds.length = ps.length)
    (hbody : ∀ (A : Around) (outer : List Env) (s : Shared) (H : Hp) (E : XK), Room k (A.deeper (envOfC f (defScope st) s.heap.objs.size (He.ga K f) (.ref (He.cT K (f, none)).1))) →
      ∃ t, PSs (cxOf (L2.CX P w) P w K mg base N f (defScope st) (He.ga K f) (.ref (He.cT K (f, none)).1) A outer s H E) (defBody st) t ∧ ∀ O ds r, g ds r → RunS ⟨K, T, H, O⟩ E t (start N ds) (poR r)) : Gd P w K mg base f ps (k + 1) (spD K T g) := by
  obtain ⟨fd, F⟩ := F
  have kb := F.bindsN hb
  obtain ⟨oc, od, dV, kV, doc, pm, an, cdv, ct, osl, e, lk, hc⟩ := fnd_of F
  obtain ⟨c, rfl⟩ := He.codeIn_ref hc
  have ec : (He.cT K (f, none)).1 = c := He.codeOf_eq (p := (f, none)) lk rfl
  subst ec
  subst e
  refine ⟨_, _, fn_of lk hc S (fun vs H Q E h => spD_len len vs H Q E h) (fun A outer s H vs Q E hr h => ?_), kb, F.kp, hm⟩
  obtain ⟨t, ht, run⟩ := hbody A outer s H E hr
  exact ⟨t, ht, fin h run⟩
/-- a word between a statement and the rest -/
theorem r_cut {C : Ct} {E : XK} {t u : TS} {A : AS} {P : Po} (M : AS → Prop) (h : RunS C E t A { P with nx := M }) (k : ∀ A', M A' → RunS C E u A' P) : RunS C E (tSeq t u) A P := r_seq fun os σ H D o T =>
  h os σ H D o ⟨fun os1 A1 σ1 H1 m k1 g => T.nx os1 A1 σ1 H1 (k A1 m) k1 g, T.rt, T.bk, T.ct, T.er⟩
theorem r_ifTs {C : Ct} {E : XK} {tt : TT} {t u : TS} {A : AS} {P : Po} (hc : EvT C tt A true A) (h1 : RunS C E t A P) : RunS C E (tIfS tt t u) A P := r_ifT hc h1
theorem r_ifFs {C : Ct} {E : XK} {tt : TT} {t u : TS} {A : AS} {P : Po} (hc : EvT C tt A false A) (h1 : RunS C E u A P) : RunS C E (tIfS tt t u) A P := r_ifF hc h1
theorem r_ifs {C : Ct} {E : XK} {tt : TT} {t u : TS} {A : AS} {P : Po} {b : Bool} (hc : EvT C tt A b A) (h1 : b = true → RunS C E t A P) (h2 : b = false → RunS C E u A P) : RunS C E (tIfS tt t u) A P := r_if hc h1 h2
/-! ### the square-and-multiply promise: F i stands for the i-th power -/
def gRep : (List Dt → Dt → Prop) → List Dt → Dt → Prop := fun R ds r => ∃ (F : Nat → Dt) (n : Nat), ds = [F 0, F 1, di (n : Int)] ∧ (∀ i j, i + j ≤ n → R [F i, F j] (F (i + j))) ∧ r = F n
end Py
end

section
set_option Elab.async false
set_option linter.all false
set_option maxRecDepth 100000
set_option maxHeartbeats 4000000
set_option autoImplicit false
set_option exponentiation.threshold 100
namespace Py
open PySem PySem.Spec PyProof.Rows L2
/-! ### xs[i] = e, xs one's own -/
section
variable {C : Ct} {E : XK} {A A1 : AS} {te ti : TE} {d : Dt} {P : Po}
theorem r_setO {i n j : Nat} {z : Int} {xs : List Dt} (he : EvS C te A d A1) (h1 : A1.sl[i]? = some (.own n)) (h2 : A1.st[n]? = some (.lst xs)) (hj : ixN xs.length z = some j) (h : P.nx (A1.upO n (xs.set j d))) : RunS C E (tAsg te (gSub (tVar i) (tC (.int z)) rSetL)) A P := fun os σ H D k T =>
  he os σ H k _ fun os1 v H1 k1 e1 i1 => by
    obtain ⟨o, f1, a, f2, f3⟩ := k1.slot h1
    subst f2
    obtain ⟨o3, s1, a3, vs, s2, s3, s4⟩ := k1.store h2
    rw [f3] at s1; cases s1; cases s2
    refine ⟨_, f1, a, vs, z, j, rfl, rfl, s3, by rw [isA_len s4]; exact hj, ?_⟩
    refine T.nx os1 _ _ _ h (k1.upO f3 h2 (isA_set s4 i1)) (e1.trans ⟨?_, fun b hb => ?_, fun _ _ h => h⟩)
    · rw [Rh_upd (mem_hid.mpr (.inr (List.mem_of_getElem? f3)))]
      exact Ex.refl _
    · rw [upd_ne fun q => k1.dj b hb (by rw [q]; exact List.mem_of_getElem? f3)]
end
/-! ### the dice -/
structure Dice where
  x : Int
  y : Int
  z : Int
def Dice.ds (d : Dice) : List Dt := [di d.x, di d.y, di d.z]
def Dice.vs (d : Dice) : List V := [.int d.x, .int d.y, .int d.z]
def mkDice (c : Int) : Dice := if -10 < c ∧ c < 10 then ⟨c.natAbs, 0, 2⟩ else ⟨c, 1 + c.fmod 1009, if 10 ^ 18 ≤ c then 1 else 0⟩
def rollV (d : Dice) (m : Int) : Int := if d.z = 2 ∨ (d.z = 1 ∧ 0 < d.x) then d.x.fmod m else (((d.x * 48271 + d.y * 69621 + 11).fmod 2147483647).fdiv 7).fmod m
def rollD (d : Dice) (m : Int) : Dice := if d.z = 2 ∨ (d.z = 1 ∧ 0 < d.x) then ⟨d.x.fdiv m, d.y, d.z⟩ else ⟨(d.x * 48271 + d.y * 69621 + 11).fmod 2147483647, d.y + 1, 0⟩
/-- after at most c rolls -/
structure DOk (c : Nat) (d : Dice) : Prop where
  x : d.x.natAbs < 2 ^ 2000000
  y : d.y.natAbs ≤ 1010 + c
theorem roll_lt {d : Dice} {m : Int} (h : 0 < m) : 0 ≤ rollV d m ∧ rollV d m < m := by
  unfold rollV
  split
  · exact ⟨Int.fmod_nonneg_of_pos _ h, Int.fmod_lt_of_pos _ h⟩
  · exact ⟨Int.fmod_nonneg_of_pos _ h, Int.fmod_lt_of_pos _ h⟩
theorem fdiv_le_abs (a b : Int) (hb : 0 < b) : (a.fdiv b).natAbs ≤ a.natAbs := by
  rw [Int.fdiv_eq_ediv_of_nonneg a (by omega)]
  rcases Int.le_total 0 a with h | h
  · have h1 := Int.ediv_nonneg h (show 0 ≤ b by omega)
    have h2 := Int.ediv_le_self b h
    omega
  · have h1 : a / b ≤ 0 := by simpa using Int.ediv_le_ediv hb h
    have h2 : a ≤ a / b := by
      have e := Int.mul_ediv_add_emod a b
      have l2 := Int.emod_lt_of_pos a hb
      rcases Int.lt_or_le (a / b) a with z | z
      · have : b * (a / b + 1) ≤ b * a := Int.mul_le_mul_of_nonneg_left (by omega) (by omega)
        have : b * a ≤ 1 * a := Int.mul_le_mul_of_nonpos_right (by omega) h
        grind
      · exact z
    omega
theorem roll_ok {d : Dice} {m : Int} {c : Nat} (h : DOk c d) (hm : 0 < m) : DOk (c + 1) (rollD d m) := by
  unfold rollD
  split
  · exact ⟨Nat.lt_of_le_of_lt (fdiv_le_abs _ _ hm) h.x, Nat.le_trans h.y (by omega)⟩
  · refine ⟨?_, ?_⟩
    · show ((d.x * 48271 + d.y * 69621 + 11).fmod 2147483647).natAbs < 2 ^ 2000000
      have h1 := Int.fmod_nonneg_of_pos (d.x * 48271 + d.y * 69621 + 11) (show (0 : Int) < 2147483647 by decide)
      have h2 := Int.fmod_lt_of_pos (d.x * 48271 + d.y * 69621 + 11) (show (0 : Int) < 2147483647 by decide)
      have h3 : 2 ^ 31 ≤ 2 ^ 2000000 := Nat.pow_le_pow_right (by decide) (by decide)
      omega
    · show (d.y + 1).natAbs ≤ 1010 + (c + 1)
      have := h.y
      omega
theorem mkDice_ok {c : Int} (h : Sz 1048576 c) : DOk 0 (mkDice c) := by
  unfold mkDice
  have hp : 10 < 2 ^ 2000000 := Nat.lt_of_lt_of_le (by decide : 10 < 2 ^ 4) (Nat.pow_le_pow_right (by decide) (by decide))
  split
  · refine ⟨?_, by show (0 : Int).natAbs ≤ _; omega⟩
    show ((c.natAbs : Int)).natAbs < 2 ^ 2000000
    omega
  · refine ⟨Nat.lt_of_lt_of_le h (Nat.pow_le_pow_right (by decide) (by decide)), ?_⟩
    show (1 + c.fmod 1009).natAbs ≤ _
    have h1 := Int.fmod_nonneg_of_pos c (show (0 : Int) < 1009 by decide)
    have h2 := Int.fmod_lt_of_pos c (show (0 : Int) < 1009 by decide)
    omega
/-- what a roll promises: the dice at a has turned, all else stands -/
def spRoll (K : Frg) (T : List (Addr × Str)) : Sp := fun vs H Q _ => ∃ (a : Addr) (d : Dice) (m : Int) (c : Nat), vs = [.ref a, .int m] ∧ H a = some (.lst d.vs) ∧ DOk c d ∧ c ≤ 1000000 ∧ 0 < m ∧ Sz 8000 m ∧ LamX.Tabs T H ∧
  ∀ H', (∀ b o, b ≠ a → H b = some o → NoT o → H' b = some o) → LamX.Tabs T H' → H' a = some (.lst (rollD d m).vs) → Q (.int (rollV d m)) H'
section
variable {C : Ct} {E : XK} {A A1 : AS} {te ti : TE} {P : Po} {i n c : Nat} {d : Dice} {m : Int}
theorem vs_of {K : Frg} {H : Hp} {d : Dice} {vs : List V} (h : IsA K H d.ds vs) : vs = d.vs := by
  simp only [Dice.ds, IsA, Is] at h
  obtain ⟨v, w, rfl, rfl, v', w', rfl, rfl, v'', w'', rfl, rfl, rfl⟩ := h
  rfl
theorem ds_of {K : Frg} {H : Hp} {d : Dice} : IsA K H d.ds d.vs := isA_cons is_v (isA_cons is_v (isA_cons is_v isA_nil))
/-- roll(dice, m) -/
theorem e_roll {E' : XK} (h1 : A.sl[i]? = some (.own n)) (h2 : A.st[n]? = some (.lst d.ds)) (hm : EvS C te A (di m) A) (hk : DOk c d) (hc : c ≤ 1000000) (h0 : 0 < m) (hs : Sz 8000 m) :
    EvS C (tCall (spRoll C.K C.T) [] E' (tCons (tVar i) (tCons te tNil))) A (di (rollV d m)) (A.upO n (rollD d m).ds) := fun os σ H k Q q => by
  obtain ⟨o, f1, a, f2, f3⟩ := k.slot h1
  subst f2
  refine ⟨_, f1, hm os σ H k _ fun os1 v H1 k1 g1 i1 => ?_⟩
  rw [Is.v_iff.mp i1]
  have f3' := g1.p n _ f3
  obtain ⟨o3, s1, a3, vs, s2, s3, s4⟩ := k1.store h2
  rw [f3'] at s1; cases s1; cases s2
  rw [vs_of s4] at s3
  refine ⟨a, d, m, c, rfl, s3, hk, hc, h0, hs, k1.tb, fun H' e t ha => ?_⟩
  -- the heap behind: H1 with the dice turned, and more
  have hh : a ∈ hid C.O os1 := mem_hid.mpr (.inr (List.mem_of_getElem? f3'))
  have ku := k1.upO f3' h2 (ys := (rollD d m).ds) ds_of
  have ex : Ex (upd H1 a (.lst (rollD d m).vs)) H' := fun b o hb nt => by
    by_cases eb : b = a
    · subst eb
      rw [upd_same] at hb
      cases hb
      exact ha
    · rw [upd_ne eb] at hb
      exact e b o eb hb nt
  have kf := ku.mono ex t
  refine q os1 _ H' kf (g1.trans ⟨?_, fun b hb => ?_, fun _ _ h => h⟩) is_v
  · have := hd_mono (O := hid C.O os1) ex
    rw [show hd (hid C.O os1) (upd H1 a _) = Rh C.O os1 H1 from Rh_upd hh] at this
    exact this
  · obtain ⟨o, hb1, nt⟩ := k1.ol b hb
    have ne : b ≠ a := fun z => k1.dj b hb (by rw [z]; exact List.mem_of_getElem? f3')
    rw [hb1]
    exact e b o ne hb1 nt
/-- nothing but a table is known there -/
def Fr0 (H : Hp) (a : Addr) : Prop := ∀ o, H a = some o → ¬ NoT o
/-- a new dice; a new list that holds one new dice -/
def spDice (K : Frg) (T : List (Addr × Str)) : Sp := fun vs H Q _ => ∃ c : Int, vs = [.int c] ∧ Sz 1048576 c ∧ LamX.Tabs T H ∧ ∀ (a : Addr) (H' : Hp), Fr0 H a → Ex H H' → LamX.Tabs T H' → H' a = some (.lst (mkDice c).vs) → Q (.ref a) H'
def spRounds (K : Frg) (T : List (Addr × Str)) : Sp := fun vs H Q _ => ∃ (s : Addr) (ns : List Int), vs = [.ref s, .int 1] ∧ SqL K H s (ns.map V.int) ∧ ns.length ≤ 63 ∧ (∀ z ∈ ns, Sz 1048576 z) ∧ LamX.Tabs T H ∧
  ∀ (p a : Addr) (H' : Hp), Fr0 H p → Fr0 H a → p ≠ a → Ex H H' → LamX.Tabs T H' → H' p = some (.lst [.ref a]) → H' a = some (.lst (mkDice (ns.headD 0)).vs) → Q (.ref p) H'
/-- for dice in rounds(script, 1): one turn, with a dice of one's own -/
theorem r_rounds {E' : XK} {tb : TS} {ns : List Int} {j : Nat} (hs : A.sl[i]? = some (.d (.lst (ns.map di)))) (hl : ns.length ≤ 63) (hz : ∀ z ∈ ns, Sz 1048576 z)
    (hb : RunS C E tb (A.newO j (mkDice (ns.headD 0)).ds) { P with nx := P.nx, ct := P.nx, bk := P.nx }) : RunS C E (tFor (iList C.K (tCall (spRounds C.K C.T) [] E' (tCons (tVar i) (tCons (tC (.int 1)) tNil)))) (gName j) tb) A P := fun os σ H D k T => by
  obtain ⟨o, f1, v, f2, f3⟩ := k.slot hs
  subst f2
  rw [Is] at f3
  obtain ⟨s, vs, rfl, g1, g2⟩ := f3
  have ev : vs = ns.map V.int := by
    clear g1 hs hl hz hb f1
    induction ns generalizing vs with
    | nil => simpa [IsA] using g2
    | cons a r ih =>
      rw [List.map_cons, IsA] at g2
      obtain ⟨v, w, rfl, h1, h2⟩ := g2
      rw [Is.v_iff.mp h1, ih w h2]
      rfl
  subst ev
  refine ⟨_, f1, s, ns, rfl, hd_ex.l g1, hl, hz, k.tb, fun p a H1 hp ha hpa e t hp1 ha1 => ⟨p, rfl, ⟨_, SqL.of hp1⟩, ?_⟩⟩
  have np : some p ∉ os := fun z => by
    obtain ⟨o, q, n⟩ := (k.fr p z).2
    exact hp o q n
  have npO : p ∉ C.O := fun z => by
    obtain ⟨o, q, n⟩ := k.ol p z
    exact hp o q n
  -- the heap without the dice
  let G : Hp := fun b => if b = a then none else H1 b
  have gne : ∀ b, b ≠ a → G b = H1 b := fun b z => if_neg z
  have gG : upd G a (.lst (mkDice (ns.headD 0)).vs) = H1 := by
    funext b
    by_cases z : b = a
    · rw [z, upd_same, ha1]
    · rw [upd_ne z, gne b z]
  have eG : Ex H G := fun b o h n => by
    rw [gne b (fun z => by rw [z] at h; exact ha o h n)]
    exact e b o h n
  have tG : LamX.Tabs C.T G := fun q hq => by
    obtain ⟨qs, h1, h2, h3⟩ := t q hq
    refine ⟨qs, ?_, h2, fun pos cv hc => ?_⟩
    · rw [gne _ (ne_of h1 ha1 fun z => by cases z)]
      exact h1
    · obtain ⟨c, e1, e2⟩ := h3 pos cv hc
      refine ⟨c, e1, ?_⟩
      rw [gne _ (ne_of e2 ha1 fun z => by unfold LamX.CodeO at z; cases z)]
      exact e2
  have k1 := k.mono eG tG
  have k2 := k1.newO (i := j) (p := a) (if_pos rfl) (ds_of (d := mkDice (ns.headD 0)))
  rw [gG] at k2
  have g1 : Gr C.O os H (os ++ [some a]) H1 := by
    refine ⟨?_, fun b hb => ?_, fun k x h => by rw [List.getElem?_append_left (List.getElem?_eq_some_iff.mp h).1]; exact h⟩
    · have := hd_mono (O := hid C.O os) eG
      rw [← gG, Rh_app (show G a = none from if_pos rfl)]
      exact this
    · obtain ⟨o, q, n⟩ := k.ol b hb
      rw [q, e b o q n]
  have pH : p ∉ hid C.O (os ++ [some a]) := fun z => by
    rcases mem_hid.mp z with z | z
    · exact npO z
    · rcases List.mem_append.mp z with z | z
      · exact np z
      · simp at z; exact hpa z
  refine for_list (K := C.K) (a := p) (xs := [V.ref a]) (fun i σ' H' => SqL C.K H' p [V.ref a] ∧ ((i = 0 ∧ σ' = σ ∧ H' = H1) ∨ (i = 1 ∧ D.nx σ' H'))) ⟨SqL.of hp1, .inl ⟨rfl, rfl, rfl⟩⟩ (fun i σ' H' _ h => h.1) ?_ ?_
  · rintro i x σ' H' hx ⟨_, h⟩
    rcases h with ⟨rfl, rfl, rfl⟩ | ⟨rfl, _⟩
    · cases hx
      have here : ∀ {os3 H3}, Gr C.O (os ++ [some a]) H' os3 H3 → SqL C.K H3 p [V.ref a] := fun {os3 H3} g => SqL.of (hd_ex p _ (g.e p _ (by
        show hd _ H' p = _
        rw [hd_of pH]
        exact hp1) nt_l) nt_l)
      exact hb _ _ H' _ k2 ⟨fun os3 A3 σ3 H3 h k3 g3 => ⟨here g3, .inr ⟨rfl, T.nx os3 A3 σ3 H3 h k3 (g1.trans g3)⟩⟩, fun os3 A3 σ3 d v H3 h k3 g3 i3 => T.rt os3 A3 σ3 d v H3 h k3 (g1.trans g3) i3, fun os3 A3 σ3 H3 h k3 g3 => T.nx os3 A3 σ3 H3 h k3 (g1.trans g3), fun os3 A3 σ3 H3 h k3 g3 => ⟨here g3, .inr ⟨rfl, T.nx os3 A3 σ3 H3 h k3 (g1.trans g3)⟩⟩, T.er⟩
    · cases hx
  · rintro σ' H' ⟨_, h⟩
    rcases h with ⟨z, _⟩ | ⟨_, h⟩
    · cases z
    · exact h
end
theorem o_is {C : Ct} {r : R2} {x y z z' : Dt} (h : OpS C r x y z) (e : z = z') : OpS C r x y z' := by rw [← e]; exact h
/-! ### a new list handed back; a list of one's own as a parameter -/
theorem flat_isA {K : Frg} {H : Hp} : ∀ {vs : List V}, IsA K H (vs.map .v) vs
  | [] => isA_nil
  | _ :: _ => isA_cons is_v flat_isA
theorem flat_eq {K : Frg} {H : Hp} : ∀ {vs ws : List V}, IsA K H (vs.map .v) ws → ws = vs
  | [], ws, h => by rw [List.map_nil, IsA] at h; exact h
  | v :: r, ws, h => by
    rw [List.map_cons, IsA] at h
    obtain ⟨u, w, rfl, h1, h2⟩ := h
    rw [Is.v_iff.mp h1, flat_eq h2]
theorem start_flat {K : Frg} {T : List (Addr × Str)} {N : List Str} {vs : List V} {H : Hp} (ht : LamX.Tabs T H) : Ok ⟨K, T, H, []⟩ [] (start N (vs.map .v)) (L2.start N vs) H := start_ok (fun a h => by cases h) ht flat_isA
/-- return [..] of flat values: a new list -/
theorem ret_newL {K : Frg} {T : List (Addr × Str)} {H H1 : Hp} {A A1 : AS} {os : List (Option Addr)} {σ : Sg} {tl : TA} {xs : List V} {Q : VK} {D : Ends} {ds : List Dt} (k : Ok ⟨K, T, H, []⟩ os A σ H1) (h : EvA ⟨K, T, H, []⟩ tl A ds A1) (hl : xs.length ≤ 100000) (hd : ds = xs.map .v) (hD : D.rt = Q)
    (q : ∀ a H', Fr0 H a → Ex H H' → LamX.Tabs T H' → H' a = some (.lst xs) → Q (.ref a) H') : tRet (tLst tl) D σ H1 := by
  show tLst tl σ H1 D.rt
  rw [hD]
  refine h os σ H1 k _ fun os2 vs H2 k2 g2 i2 => ?_
  subst hd
  rw [flat_eq i2]
  refine ⟨Nat.le_trans hl (by decide), fun p hp => q p _ (fun o e n => ?_) (k2.ex.trans (Ex.new hp)) (tabs_new k2.tb hp) upd_same⟩
  have := k2.ex p o e n
  rw [hp] at this
  cases this
/-- the entry where the first parameter is a list that the def changes -/
theorem start_own {K : Frg} {T : List (Addr × Str)} {N : List Str} {a : Addr} {xs ws : List V} {H : Hp} (ht : LamX.Tabs T H) (ha : H a = some (.lst xs)) :
    Ok ⟨K, T, fun b => if b = a then none else H b, []⟩ [some a] ⟨.own 0 :: (ws.map fun v => SD.d (.v v)) ++ List.replicate (N.length - (ws.length + 1)) .un, [.lst (xs.map .v)]⟩ (L2.start N (.ref a :: ws)) H := by
  refine ⟨fun b o e n => ?_, ht, fun b h => (by cases h), fun b h => (by cases h), rfl, fun i j b h1 h2 => ?_, fun b h => ?_, ?_, fun i s o h1 h2 => ?_, fun i s o h1 h2 => ?_⟩
  · have e : (if b = a then none else H b) = some o := e
    split at e
    · cases e
    · exact e
  · cases i with
    | succ i => simp at h1
    | zero =>
      cases j with
      | succ j => simp at h2
      | zero => rfl
  · simp at h
    subst h
    refine ⟨fun o e => ?_, _, ha, nt_l⟩
    have e : (if b = b then none else H b) = some o := e
    rw [if_pos rfl] at e
    cases e
  · simp [L2.start]
  · cases i with
    | zero =>
      simp [L2.start] at h1 h2
      subst h1 h2
      exact ⟨a, rfl, rfl⟩
    | succ i =>
      have h1 : ((ws.map fun v => SD.d (.v v)) ++ List.replicate (N.length - (ws.length + 1)) SD.un)[i]? = some s := by simpa using h1
      have h2 : (ws.map some ++ List.replicate (N.length - (ws.length + 1)) none)[i]? = some o := by simpa [L2.start] using h2
      rw [List.getElem?_append] at h1 h2
      simp only [List.length_map] at h1 h2
      split at h1
      · rename_i q
        rw [if_pos q] at h2
        rw [List.getElem?_map] at h1 h2
        cases e1 : ws[i]? with
        | none => rw [e1] at h1; cases h1
        | some v =>
          rw [e1] at h1 h2
          cases h1; cases h2
          exact ⟨v, rfl, is_v⟩
      · rw [List.getElem?_replicate] at h1
        split at h1
        · cases h1; exact True.intro
        · cases h1
  · cases i with
    | zero =>
      simp at h1 h2
      subst h1 h2
      exact ⟨a, xs, rfl, ha, flat_isA⟩
    | succ i => simp at h1
end Py
end

section
set_option Elab.async false
set_option linter.all false
set_option maxRecDepth 100000
set_option maxHeartbeats 4000000
set_option autoImplicit false
namespace Py
open PySem PySem.Spec PyProof.Rows L2
/-! ### parts of lists -/
def EvO (C : Ct) (t : TO) (A : AS) (o : Option Int) (A1 : AS) : Prop := ∀ os σ H, Ok C os A σ H → ∀ Q, (∀ os' H', Ok C os' A1 σ H' → Gr C.O os H os' H' → Q o H') → t σ H Q
def cutL (xs : List Dt) (lo hi : Option Int) : List Dt := (xs.drop (HT.sIx xs.length 0 lo)).take (HT.sIx xs.length xs.length hi - HT.sIx xs.length 0 lo)
section
variable {C : Ct} {E : XK} {A A1 A2 A3 : AS} {te ti : TE} {tl th : TO} {d : Dt} {P : Po} {lo hi : Option Int} {xs : List Dt}
theorem o_no : EvO C tNoPart A none A := fun os σ H k Q q => q os H k (Gr.refl)
theorem o_part {i : Int} (h : EvS C te A (di i) A1) : EvO C (tPart te) A (some i) A1 := fun os σ H k Q q =>
  h os σ H k _ fun os1 v H1 k1 e1 i1 => ⟨i, Is.v_iff.mp i1, q os1 H1 k1 e1⟩
theorem isA_cutL {K : Frg} {H : Hp} {vs : List V} (h : IsA K H xs vs) : IsA K H (cutL xs lo hi) (cutV vs lo hi) := by
  unfold cutL cutV
  rw [isA_len h]
  exact isA_cut _ _ h
/-- xs[lo:hi] -/
theorem e_slL (h : EvS C te A (.lst xs) A1) (h1 : EvO C tl A1 lo A2) (h2 : EvO C th A2 hi A3) : EvS C (tSl (rSlL C.K) te tl th) A (.lst (cutL xs lo hi)) A3 := fun os σ H k Q q =>
  h os σ H k _ fun os1 v H1 k1 e1 i1 => h1 os1 σ H1 k1 _ fun os2 H2 k2 e2 => h2 os2 σ H2 k2 _ fun os3 H3 k3 e3 => by
    have i3 := Is.mono (e2.e.trans e3.e) _ _ i1
    rw [Is] at i3
    obtain ⟨a, vs, rfl, g1, g2⟩ := i3
    refine ⟨a, vs, rfl, hd_ex.l g1, fun p hp => q os3 _ _ (k3.monoN hp) ((e1.trans (e2.trans e3)).trans (k3.gr (Ex.new hp))) ?_⟩
    rw [Is]
    exact ⟨p, _, rfl, SqL.of (k3.fresh hp), IsA.mono (hd_mono (Ex.new hp)) _ _ (isA_cutL g2)⟩
end
theorem seq_last {a b c : TS} {D : Ends} {σ : Sg} {H : Hp} (h : tSeq a (tSeq b tNext) { D with nx := c D } σ H) : tSeq a (tSeq b c) D σ H := h
/-- return [dice(cell) for cell in cells], cells of one cell -/
theorem ret_dice {K : Frg} {T : List (Addr × Str)} {H H1 : Hp} {A : AS} {os : List (Option Addr)} {σ : Sg} {Q : VK} {D : Ends} {c : Int} {i j : Nat} {E' : XK} (k : Ok ⟨K, T, H, []⟩ os A σ H1) (hA : A.sl[i]? = some (.d (.lst [di c]))) (hz : Sz 1048576 c) (hij : i ≠ j) (hj : j < σ.length) (hD : D.rt = Q)
    (q : ∀ p a H', Fr0 H p → Fr0 H a → p ≠ a → Ex H H' → LamX.Tabs T H' → H' p = some (.lst [.ref a]) → H' a = some (.lst (mkDice c).vs) → Q (.ref p) H') : tRet (tLc (iList K (tVar i)) (gName j) tYes (tCall (spDice K T) [] E' (tCons (tVar j) tNil)) [j]) D σ H1 := by
  show tLc _ _ _ _ _ σ H1 D.rt
  rw [hD]
  obtain ⟨o, f1, v, f2, f3⟩ := k.slot hA
  subst f2
  rw [Is] at f3
  obtain ⟨s, vs, rfl, g1, g2⟩ := f3
  have ev : vs = [V.int c] := flat_eq (vs := [V.int c]) g2
  subst ev
  refine ⟨_, f1, s, rfl, ⟨_, hd_ex.l g1⟩, fun p hp => ?_⟩
  refine lc_list (K := K) (a := s) (xs := [V.int c]) (fun i H' => (i = 0 ∧ H' = upd H1 p (.lst [])) ∨ (i = 1 ∧ ∃ a, Fr0 H p ∧ Fr0 H a ∧ p ≠ a ∧ Ex H H' ∧ LamX.Tabs T H' ∧ H' p = some (.lst [.ref a]) ∧ H' a = some (.lst (mkDice c).vs) ∧ SqL K H' s [V.int c])) (.inl ⟨rfl, rfl⟩) ?_ ?_ ?_
  · rintro i H' _ (⟨rfl, rfl⟩ | ⟨rfl, a, _, _, _, _, _, _, _, h⟩)
    · exact (Ex.new hp).l (hd_ex.l g1)
    · exact h
  · rintro i x H' hx (⟨rfl, rfl⟩ | ⟨rfl, _⟩)
    · cases hx
      have h1p : (wipe σ [j])[j]? = some none := wipe_in (List.mem_cons_self ..) hj
      refine ⟨(wipe_eq (by simp) fun i hi => List.getElem?_set_ne fun z => hi (by rw [← z]; exact List.mem_cons_self ..)).trans wipe_wipe, ?_⟩
      · unfold tYes
        dsimp only
        rw [if_pos rfl]
        refine ⟨_, ?_, c, rfl, hz, tabs_new k.tb hp, fun a H2 fa e t ha => ?_⟩
        · rw [List.getElem?_set_self (by rw [wipe_length]; exact hj)]
        have np : upd H1 p (.lst []) p = some (.lst []) := upd_same
        have pa : p ≠ a := fun z => fa _ (by rw [← z]; exact np) nt_l
        have ex1 : Ex H1 (upd H2 p (.lst [.ref a])) := fun b o hb n => by
          have nb : b ≠ p := fun z => by rw [z, hp] at hb; cases hb
          rw [upd_ne nb]
          exact e b o (by rw [upd_ne nb]; exact hb) n
        have hH2 : H2 p = some (.lst []) := e p _ np nt_l
        refine ⟨[], hH2, by show 0 < sizeLine; decide, .inr ⟨rfl, a, fun o h n => ?_, fun o h n => ?_, pa, k.ex.trans ex1, ?_, upd_same, ?_, ex1.l (hd_ex.l g1)⟩⟩
        · have := k.ex p o h n
          rw [hp] at this
          cases this
        · have q1 := k.ex a o h n
          exact fa o (by rw [upd_ne fun z => pa z.symm]; exact q1) n
        · intro q hq
          obtain ⟨qs, h1, h2, h3⟩ := t q hq
          refine ⟨qs, ?_, h2, fun pos cv hc => ?_⟩
          · rw [upd_ne (ne_of h1 hH2 fun z => by cases z)]
            exact h1
          · obtain ⟨c, e1, e2⟩ := h3 pos cv hc
            refine ⟨c, e1, ?_⟩
            rw [upd_ne (ne_of e2 hH2 fun z => by unfold LamX.CodeO at z; cases z)]
            exact e2
        · rw [upd_ne fun z => pa z.symm]
          exact ha
    · cases hx
  · rintro H' (⟨z, _⟩ | ⟨_, a, h1, h2, h3, h4, h5, h6, h7, _⟩)
    · cases z
    · exact q p a H' h1 h2 h3 h4 h5 h6 h7
end Py
end

section
set_option Elab.async false
set_option linter.all false
set_option maxRecDepth 100000
set_option maxHeartbeats 4000000
set_option autoImplicit false
namespace Py
open PySem PySem.Spec PyProof.Rows L2
/-- as mkG, for a def with defaults whose callers give all -/
theorem mkGD {P : Program} {w : World} {K : Frg} {T : List (Addr × Str)} {mg : Str → Option Value} {base : Heap} {f : Str} {st : Stmt} {N ps : List Str} {k : Nat} {g : List Dt → Rs → Prop} {a : Addr} {dvs : List V}
    (F : ∃ fd, FunD K f f (defArgs st) (defBody st) (defScope st) dvs [] a fd) (hm : mg f = some (.ref a)) (hd : dvs ≠ []) (S : FnScope N ps (defScope st))
    (hb : ∀ (T : Addr) (kV doc pm : Value) (an : Option Addr) (cdv ct : Value) (us its : List Value), us.length = ps.length → its.length = dvs.length →
      ∃ k, bindArgs (PySem.W.fnOf f f (defArgs st) (defBody st) (defScope st) (.ref T) kV doc pm an cdv ct) ⟨us, []⟩ = seqItems? (.ref T) >>= k ∧ k (some its.toArray) = pure (ps.zip (us ++ its.drop dvs.length)))
    (len : ∀ ds r, g ds r → ds.length = ps.length)
    (hbody : ∀ (cdv : Value) (A : Around) (outer : List Env) (s : Shared) (H : Hp) (E : XK), Room k (A.deeper (envOfC f (defScope st) s.heap.objs.size a cdv)) →
      ∃ t, PSs (cxOf (L2.CX P w) P w K mg base N f (defScope st) a cdv A outer s H E) (defBody st) t ∧ ∀ O ds r, g ds r → RunS ⟨K, T, H, O⟩ E t (start N ds) (poR r)) : Gd P w K mg base f ps (k + 1) (spD K T g) := by
  obtain ⟨fd, F⟩ := F
  obtain ⟨ds, hv, hB⟩ := F.binds1 (ps := ps) ps.length dvs.length hd (by omega) hb
  rw [List.drop_length] at hv
  cases hv
  refine ⟨a, fd, F.ok S (fun vs H Q E h => spD_len len vs H Q E h) (fun cdv A outer s H vs Q E hr h => ?_), hB, F.kp, hm⟩
  obtain ⟨t, ht, run⟩ := hbody cdv A outer s H E hr
  exact ⟨t, ht, fin h run⟩
/-- return f(..): what f gives or raises -/
theorem r_retCall {C : Ct} {E : XK} {A A1 : AS} {g : List Dt → Rs → Prop} {tl : TA} {ds : List Dt} {r : Rs} (ha : EvA C tl A ds A1) (hg : g ds r) : RunS C E (tRet (tCall (spD C.K C.T g) [] E tl)) A (poR r) := by
  cases r with
  | ok d => exact r_ret (e_call ha hg) rfl
  | err c => exact x_ret (x_call ha hg) rfl
/-! ### fractions -/
abbrev fr (p : Int × Int) : Dt := .tup [di p.1, di p.2]
/-- in lowest terms, the lower part above 0 (b ≠ 0) -/
def ratI (a b : Int) : Int × Int := if b < 0 then (a.fdiv (-(Int.gcd a b : Int)), b.fdiv (-(Int.gcd a b : Int))) else (a.fdiv (Int.gcd a b), b.fdiv (Int.gcd a b))
def ratR (e : Addr) (a b : Int) : Rs := if b = 0 then .err e else .ok (fr (ratI a b))
structure SzF (n : Nat) (p : Int × Int) : Prop where
  a : Sz n p.1
  b : Sz n p.2
theorem gcd_sz {n : Nat} {a b : Int} (hb : b ≠ 0) (h : Sz n b) : Sz n (Int.gcd a b : Int) := by
  unfold Sz at *
  have h1 : Int.gcd a b ≤ b.natAbs := Nat.le_of_dvd (by omega) (Int.gcd_dvd_natAbs_right a b)
  omega
theorem gcd_ne {a b : Int} (hb : b ≠ 0) : (Int.gcd a b : Int) ≠ 0 := by
  have := Int.gcd_pos_of_ne_zero_right a hb
  omega
theorem at0 {a b : Dt} : atI [a, b] 0 = some a := rfl
theorem at1 {a b : Dt} : atI [a, b] 1 = some b := rfl
end Py
end

section
set_option Elab.async false
set_option linter.all false
set_option maxRecDepth 100000
set_option maxHeartbeats 4000000
set_option autoImplicit false
set_option exponentiation.threshold 100
namespace Py
open PySem PySem.Spec PyProof.Rows L2
/-- a fraction as data -/
def qp (q : Rat) : Int × Int := (q.num, (q.den : Int))
abbrev fq (q : Rat) : Dt := fr (qp q)
theorem dn0 (q : Rat) : ((q.den : Int) : Rat) ≠ 0 := by
  intro e
  have h : ((q.den : Int) : Rat) = ((0 : Int) : Rat) := e
  have := Rat.intCast_inj.mp h
  have := q.den_nz
  omega
theorem rdiv (q : Rat) : (q.num : Rat) / ((q.den : Int) : Rat) = q := by rw [← Rat.divInt_eq_div, Rat.num_divInt_den]
theorem ratI_eq {a b : Int} (hb : b ≠ 0) : ratI a b = qp ((a : Rat) / (b : Rat)) := by
  rw [qp, ← Rat.divInt_eq_div, Rat.num_divInt, Rat.den_divInt, if_neg hb, Int.gcd_comm b a]
  unfold ratI
  have g0 := gcd_ne (a := a) hb
  obtain ⟨x, hx⟩ := Int.gcd_dvd_left (a := a) (b := b)
  obtain ⟨y, hy⟩ := Int.gcd_dvd_right (a := a) (b := b)
  have hn : (b.natAbs : Int) / (Int.gcd a b : Int) = (y.natAbs : Int) := by
    have : b.natAbs = Int.gcd a b * y.natAbs := by rw (occs := .pos [1]) [hy]; rw [Int.natAbs_mul]; rfl
    rw [this, Int.natCast_mul, Int.mul_ediv_cancel_left _ g0]
  rw [Int.natCast_ediv, hn]
  have gp : 0 < (Int.gcd a b : Int) := by omega
  generalize (Int.gcd a b : Int) = g at *
  have e1 : a.fdiv g = x := by rw [hx]; exact Int.mul_fdiv_cancel_left _ g0
  have e2 : b.fdiv g = y := by rw [hy]; exact Int.mul_fdiv_cancel_left _ g0
  have e3 : a.fdiv (-g) = -x := by rw [hx, show g * x = (-g) * (-x) by grind]; exact Int.mul_fdiv_cancel_left _ (by omega)
  have e4 : b.fdiv (-g) = -y := by rw [hy, show g * y = (-g) * (-y) by grind]; exact Int.mul_fdiv_cancel_left _ (by omega)
  by_cases h : b < 0
  · rw [if_pos h, e3, e4, Int.sign_eq_neg_one_of_neg h, hx, show -1 * (g * x) = g * (-x) by grind, Int.mul_ediv_cancel_left _ g0]
    have : y < 0 := by
      refine Int.not_le.mp fun c => ?_
      have := Int.mul_nonneg (Int.le_of_lt gp) c
      omega
    rw [show (y.natAbs : Int) = -y by omega]
  · rw [if_neg h, e1, e2, Int.sign_eq_one_of_pos (by omega), hx, show 1 * (g * x) = g * x by grind, Int.mul_ediv_cancel_left _ g0]
    have : 0 ≤ y := by
      refine Int.not_lt.mp fun c => ?_
      have := Int.mul_neg_of_pos_of_neg gp c
      omega
    rw [show (y.natAbs : Int) = y by omega]
theorem den_ne (q : Rat) : (q.den : Int) ≠ 0 := by have := q.den_nz; omega
theorem mul_ne {a b : Int} (ha : a ≠ 0) (hb : b ≠ 0) : a * b ≠ 0 := fun e => by
  rcases Int.mul_eq_zero.mp e with h | h
  · exact ha h
  · exact hb h
theorem num_ne {q : Rat} (h : q ≠ 0) : q.num ≠ 0 := fun e => h (by have := rdiv q; rw [e] at this; rw [← this]; grind)
theorem q_sum (p q : Rat) : ratI (p.num * q.den + q.num * p.den) (p.den * q.den) = qp (p + q) := by
  rw [ratI_eq (mul_ne (den_ne p) (den_ne q))]
  have h1 := rdiv p
  have h2 := rdiv q
  have d1 := dn0 p
  have d2 := dn0 q
  have : ((p.num * q.den + q.num * p.den : Int) : Rat) / ((p.den * q.den : Int) : Rat) = p + q := by
    rw [Rat.intCast_add, Rat.intCast_mul, Rat.intCast_mul, Rat.intCast_mul]
    generalize ((p.den : Int) : Rat) = d at *
    generalize ((q.den : Int) : Rat) = e at *
    grind
  rw [this]
theorem q_mul (p q : Rat) : ratI (p.num * q.num) (p.den * q.den) = qp (p * q) := by
  rw [ratI_eq (mul_ne (den_ne p) (den_ne q))]
  have h1 := rdiv p
  have h2 := rdiv q
  have d1 := dn0 p
  have d2 := dn0 q
  have : ((p.num * q.num : Int) : Rat) / ((p.den * q.den : Int) : Rat) = p * q := by
    rw [Rat.intCast_mul, Rat.intCast_mul]
    generalize ((p.den : Int) : Rat) = d at *
    generalize ((q.den : Int) : Rat) = e at *
    grind
  rw [this]
theorem q_quo (p : Rat) {q : Rat} (h : q ≠ 0) : ratI (p.num * q.den) (p.den * q.num) = qp (p / q) := by
  rw [ratI_eq (mul_ne (den_ne p) (num_ne h))]
  have h1 := rdiv p
  have h2 := rdiv q
  have d1 := dn0 p
  have d2 := dn0 q
  have : ((p.num * q.den : Int) : Rat) / ((p.den * q.num : Int) : Rat) = p / q := by
    rw [Rat.intCast_mul, Rat.intCast_mul]
    generalize ((p.den : Int) : Rat) = d at *
    generalize ((q.den : Int) : Rat) = e at *
    grind
  rw [this]
theorem qp_inj {p q : Rat} (h : qp p = qp q) : p = q := by
  have h1 : p.num = q.num := congrArg Prod.fst h
  have h2 : (p.den : Int) = (q.den : Int) := congrArg Prod.snd h
  exact Rat.ext h1 (by omega)
/-- the size of a fraction's numbers -/
structure SzQ (n : Nat) (q : Rat) : Prop where
  a : q.num.natAbs < 2 ^ n
  b : q.den < 2 ^ n
end Py
namespace Py
open PySem PySem.Spec PyProof.Rows L2
/-- a def whose callers leave its last parameters out -/
structure GdD (P : Program) (w : World) (K : Frg) (mg : Str → Option Value) (base : Heap) (f : Str) (ps : List Str) (k : Nat) (dvs : List V) (sp : Sp) : Prop where
  ex : ∃ (a : Addr) (fd : FuncData) (ds : List Value), FnOk P w K mg base (L2.CX P w) k a fd ps sp ∧ Vals dvs ds ∧ Binds K fd ps ds ∧ PySem.W.keepIn K (.ref a) = true ∧ mg f = some (.ref a)
theorem mkGDD {P : Program} {w : World} {K : Frg} {T : List (Addr × Str)} {mg : Str → Option Value} {base : Heap} {f : Str} {st : Stmt} {N ps : List Str} {k : Nat} {g : List Dt → Rs → Prop} {a : Addr} {dvs : List V} (m : Nat) (hm' : m + dvs.length = ps.length)
    (F : ∃ fd, FunD K f f (defArgs st) (defBody st) (defScope st) dvs [] a fd) (hm : mg f = some (.ref a)) (hd : dvs ≠ []) (S : FnScope N ps (defScope st))
    (hb : ∀ (T : Addr) (kV doc pm : Value) (an : Option Addr) (cdv ct : Value) (us its : List Value), us.length = m → its.length = dvs.length →
      ∃ k, bindArgs (PySem.W.fnOf f f (defArgs st) (defBody st) (defScope st) (.ref T) kV doc pm an cdv ct) ⟨us, []⟩ = seqItems? (.ref T) >>= k ∧ k (some its.toArray) = pure (ps.zip (us ++ its.drop 0)))
    (len : ∀ ds r, g ds r → ds.length = ps.length)
    (hbody : ∀ (cdv : Value) (A : Around) (outer : List Env) (s : Shared) (H : Hp) (E : XK), Room k (A.deeper (envOfC f (defScope st) s.heap.objs.size a cdv)) →
      ∃ t, PSs (cxOf (L2.CX P w) P w K mg base N f (defScope st) a cdv A outer s H E) (defBody st) t ∧ ∀ O ds r, g ds r → RunS ⟨K, T, H, O⟩ E t (start N ds) (poR r)) : GdD P w K mg base f ps (k + 1) dvs (spD K T g) := by
  obtain ⟨fd, F⟩ := F
  obtain ⟨ds, hv, hB⟩ := F.binds1 (ps := ps) m 0 hd (by omega) hb
  refine ⟨a, fd, ds, F.ok S (fun vs H Q E h => spD_len len vs H Q E h) (fun cdv A outer s H vs Q E hr h => ?_), hv, hB, F.kp, hm⟩
  obtain ⟨t, ht, run⟩ := hbody cdv A outer s H E hr
  exact ⟨t, ht, fin h run⟩
theorem pe_callGD {X : Cx} {k : Nat} {ps : List Str} {sp : Sp} {E : XK} {x : Str} {p pos : Pos} {e : Expr} {es : List Expr} {t : TA} {dvs : List V} (G : GdD X.prog X.w X.K X.mg X.base x ps k dvs sp) (hr : Room k X.A) (hx : Passes (L2.CX X.prog X.w) X E) (ha : PA X (e :: es) t) (hg : Gl X x := by rfl)
    (hdb : (x == ("__debug__" : Str)) = false := by decide) (he : starEach (e :: es) X.env = (false, eval e X.env) :: starEach es X.env := by rfl) (hpl : (backTo pos (starEach es X.env)).any (·.1) = false := by rfl) :
    PE X (.Call (.Name x p) (e :: es) [] pos) (tCall sp dvs E t) := by
  obtain ⟨a, fd, ds, F, hv, hb, hk, hm⟩ := G.ex
  exact pe_call F hr hg hm hk hb hv hx ha hdb he hpl
theorem e_callD {C : Ct} {A A1 : AS} {d : Dt} {g : List Dt → Rs → Prop} {E' : XK} {tl : TA} {ds : List Dt} {dvs : List V} (ha : EvA C tl A ds A1) (hg : g (ds ++ dvs.map Dt.v) (.ok d)) : EvS C (tCall (spD C.K C.T g) dvs E' tl) A d A1 := fun os σ H k Q q =>
  ha os σ H k _ fun os1 vs H1 k1 e1 i1 => ⟨hid C.O os1, ds ++ dvs.map Dt.v, .ok d, fun a h => k1.hidden h, k1.tb, isA_app i1 flat_isA, hg, fun v H' e t i => q os1 v H' (k1.mono e t) (e1.trans (k1.gr e)) i⟩
end Py
end

section
set_option Elab.async false
set_option linter.all false
set_option maxRecDepth 100000
set_option maxHeartbeats 4000000
set_option autoImplicit false
namespace Py
open PySem PySem.Spec PyProof.Rows L2
/-! ### a, b = [..], .. : new lists of one's own at once with others -/
def AS.putS (A : AS) (i : Nat) (s : SD) : AS := ⟨A.sl.set i s, A.st⟩
/-- a new list, in no slot yet -/
def AS.more (A : AS) (xs : List Dt) : AS := ⟨A.sl, A.st ++ [.lst xs]⟩
section
variable {C : Ct} {E : XK} {A A1 A2 : AS} {te : TE} {P : Po} {s s1 s2 : SD} {d : Dt}
theorem Ok.putS {os : List (Option Addr)} {σ : Sg} {H : Hp} {i : Nat} {v : V} (k : Ok C os A σ H) (h : SlOk C.K os (Rh C.O os H) s (some v)) : Ok C os (A.putS i s) (σ.set i (some v)) H := by
  refine ⟨k.ex, k.tb, k.ol, k.dj, k.ln, k.nd, k.fr, by simp [AS.putS, k.sn], fun j s o h1 h2 => ?_, k.st⟩
  have h1 : (A.sl.set i _)[j]? = some s := h1
  rw [List.getElem?_set] at h1 h2
  by_cases e : i = j
  · rw [if_pos e] at h1 h2
    split at h1
    · split at h2
      · cases h1; cases h2
        exact h
      · cases h2
    · cases h1
  · rw [if_neg e] at h1 h2
    exact k.sl j s o h1 h2
theorem Ok.more {os : List (Option Addr)} {σ : Sg} {H : Hp} {p : Addr} {xs : List Dt} {vs : List V} (k : Ok C os A σ H) (hp : H p = none) (hx : IsA C.K (Rh C.O os H) xs vs) : Ok C (os ++ [some p]) (A.more xs) σ (upd H p (.lst vs)) := by
  have h := k.newO (i := A.sl.length) hp hx
  unfold AS.newO at h
  rw [List.set_eq_of_length_le (Nat.le_refl _), List.set_eq_of_length_le (by rw [k.sn]; exact Nat.le_refl _)] at h
  exact h
theorem Gr.app {os : List (Option Addr)} {σ : Sg} {H : Hp} {p : Addr} {vs : List V} (k : Ok C os A σ H) (hp : H p = none) : Gr C.O os H (os ++ [some p]) (upd H p (.lst vs)) :=
  ⟨by rw [Rh_app hp]; exact Ex.refl _, fun a h => by obtain ⟨o, q, n⟩ := k.ol a h; rw [q, Ex.new hp _ _ q n], fun k x h => by rw [List.getElem?_append_left (List.getElem?_eq_some_iff.mp h).1]; exact h⟩
theorem SlOk.gr {K : Frg} {O : List Addr} {os os' : List (Option Addr)} {H H' : Hp} {o : Option V} (g : Gr O os H os' H') (h : SlOk K os (Rh O os H) s o) : SlOk K os' (Rh O os' H') s o := by
  cases s with
  | un => exact h
  | d x =>
    obtain ⟨v, e, i⟩ := h
    exact ⟨v, e, Is.mono g.e _ _ i⟩
  | own n =>
    obtain ⟨a, e, i⟩ := h
    exact ⟨a, e, g.p _ _ i⟩
def SlA (K : Frg) (os : List (Option Addr)) (R : Hp) : List SD → List V → Prop
  | [], vs => vs = []
  | s :: ss, vs => ∃ v w, vs = v :: w ∧ SlOk K os R s (some v) ∧ SlA K os R ss w
def EvP (C : Ct) (tl : TA) (A : AS) (ss : List SD) (A1 : AS) : Prop := ∀ os σ H, Ok C os A σ H → ∀ Q : List V → Hp → Prop, (∀ os' vs H', Ok C os' A1 σ H' → Gr C.O os H os' H' → SlA C.K os' (Rh C.O os' H') ss vs → Q vs H') → tl σ H Q
theorem p_nil : EvP C tNil A [] A := fun os σ H k Q q => q os [] H k Gr.refl rfl
theorem p_d {tr : TA} {ss : List SD} (ha : EvS C te A d A1) (hr : EvP C tr A1 ss A2) : EvP C (tCons te tr) A (.d d :: ss) A2 := fun os σ H k Q q =>
  ha os σ H k _ fun os1 v1 H1 k1 e1 i1 => hr os1 σ H1 k1 _ fun os2 vs H2 k2 e2 i2 => q os2 (v1 :: vs) H2 k2 (e1.trans e2) ⟨v1, vs, rfl, ⟨v1, rfl, Is.mono e2.e _ _ i1⟩, i2⟩
theorem p_l {tl tr : TA} {ss : List SD} {xs : List Dt} (ha : EvA C tl A xs A1) (hl : xs.length ≤ 100000) (hr : EvP C tr (A1.more xs) ss A2) : EvP C (tCons (tLst tl) tr) A (.own A1.st.length :: ss) A2 := fun os σ H k Q q =>
  ha os σ H k _ fun os1 vs H1 k1 e1 i1 => ⟨by rw [isA_len i1]; exact Nat.le_trans hl (by decide), fun p hp => hr _ σ _ (k1.more hp i1) _ fun os2 ws H2 k2 e2 i2 => q os2 _ H2 k2 (e1.trans ((Gr.app k1 hp).trans e2)) ⟨_, ws, rfl, ⟨p, rfl, e2.p _ _ (by rw [← k1.ln]; simp)⟩, i2⟩⟩
theorem r_parP {i j : Nat} {tl : TA} (h : EvP C tl A [s, s1] A1) (hn : P.nx ((A1.putS i s).putS j s1)) : RunS C E (tPar i j tl) A P := fun os σ H D k T =>
  h os σ H k _ fun os1 vs H1 k1 e1 i1 => by
    obtain ⟨v, w, rfl, h1, v', w', rfl, h2, rfl⟩ := i1
    exact ⟨v, v', rfl, T.nx os1 _ _ H1 hn ((k1.putS h1).putS h2) e1⟩
theorem r_par3P {i j l : Nat} {tl : TA} (h : EvP C tl A [s, s1, s2] A1) (hn : P.nx (((A1.putS i s).putS j s1).putS l s2)) : RunS C E (tPar3 i j l tl) A P := fun os σ H D k T =>
  h os σ H k _ fun os1 vs H1 k1 e1 i1 => by
    obtain ⟨v, w, rfl, h1, v', w', rfl, h2, v'', w'', rfl, h3, rfl⟩ := i1
    exact ⟨v, v', v'', rfl, T.nx os1 _ _ H1 hn (((k1.putS h1).putS h2).putS h3) e1⟩
end
end Py
end

section
set_option Elab.async false
set_option linter.all false
set_option maxRecDepth 100000
set_option maxHeartbeats 4000000
set_option autoImplicit false
namespace Py
open PySem PySem.Spec PyProof.Rows L2
/-! ### a tuple of the top -/
def KTup (K : Frg) (a : Addr) (vs : List V) : Prop := ∃ (o : Obj) (its : Array Value) (n : Nat), K.lookup a = some o ∧ o.cls = .type "tuple" ∧ o.data = .seq its n ∧ its.size ≤ sizeLine ∧ Vals vs its.toList
def TupC (K : Frg) (mg : Str → Option Value) (x : Str) (vs : List V) : Prop := ∃ a, mg x = some (.ref a) ∧ KTup K a vs
theorem e_cT {C : Ct} {A : AS} {a : Addr} {vs : List V} (h : KTup C.K a vs) : EvS C (tC (.ref a)) A (.tup (vs.map .v)) A := fun os σ H k Q q => by
  refine q os _ H k Gr.refl ?_
  rw [Is]
  exact ⟨a, vs, rfl, .inr h, flat_isA⟩
theorem TupC.c {mg : Str → Option Value} {x : Str} {a : Addr} (h : mg x = some (.ref a)) : ∃ u, mg x = some u ∧ RelV (.ref a) u := ⟨_, h, rfl⟩
/-- while, by what is left to go; a state that one names -/
theorem t_callB {C : Ct} {E : XK} {A A1 : AS} {g : List Dt → Rs → Prop} {E' : XK} {tl : TA} {ds : List Dt} {b : Bool} (ha : EvA C tl A ds A1) (hg : g ds (.ok (db b))) : EvS C (tCall (spD C.K C.T g) [] E' tl) A (db b) A1 := e_call ha hg
theorem t_val {C : Ct} {A A1 : AS} {te : TE} {b : Bool} (h : EvS C te A (db b) A1) : EvT C (tTest te) A b A1 := t_test h
end Py
end

section
set_option Elab.async false
set_option linter.all false
set_option maxRecDepth 100000
set_option maxHeartbeats 4000000
set_option autoImplicit false
namespace Py
open PySem PySem.Spec PyProof.Rows L2
/-! ### (a, b), c = .., [] -/
section
variable {C : Ct} {E : XK} {A A1 A2 : AS} {te : TE} {P : Po} {s : SD} {ss : List SD} {d : Dt} {g : TG} {gs : TGs}
def TgP (C : Ct) (g : TG) (s : SD) (A A' : AS) : Prop := ∀ os σ H v (Q : Sg → Hp → Prop), Ok C os A σ H → SlOk C.K os (Rh C.O os H) s (some v) → (∀ σ', Ok C os A' σ' H → Q σ' H) → g v σ H Q
def TgPA (C : Ct) (g : TGs) (ss : List SD) (A A' : AS) : Prop := ∀ os σ H vs (Q : Sg → Hp → Prop), Ok C os A σ H → SlA C.K os (Rh C.O os H) ss vs → (∀ σ', Ok C os A' σ' H → Q σ' H) → g vs σ H Q
theorem tgP_name {i : Nat} : TgP C (gName i) s A (A.putS i s) := fun os σ H v Q k i q => q _ (k.putS i)
theorem tgP_d (h : Tg C g d A A1) : TgP C g (.d d) A A1 := fun os σ H v Q k i q => by
  obtain ⟨w, e, j⟩ := i
  cases e
  exact h os σ H v Q k j q
theorem tgPA_nil : TgPA C gNil [] A A := fun os σ H vs Q k i q => ⟨i, q σ k⟩
theorem tgPA_cons (h : TgP C g s A A1) (h' : TgPA C gs ss A1 A2) : TgPA C (gCons g gs) (s :: ss) A A2 := fun os σ H vs Q k i q => by
  obtain ⟨v, w, rfl, h1, h2⟩ := i
  exact ⟨v, w, rfl, h os σ H v _ k h1 fun σ1 k1 => h' os σ1 H w Q k1 h2 q⟩
theorem slA_len {K : Frg} {os : List (Option Addr)} {R : Hp} : ∀ {ss : List SD} {vs : List V}, SlA K os R ss vs → vs.length = ss.length
  | [], vs, h => by rw [show vs = [] from h]; rfl
  | _ :: _, vs, h => by
    obtain ⟨v, w, rfl, _, h2⟩ := h
    simp [slA_len h2]
theorem slA_gr {K : Frg} {O : List Addr} {os os' : List (Option Addr)} {H H' : Hp} (g : Gr O os H os' H') : ∀ {ss : List SD} {vs : List V}, SlA K os (Rh O os H) ss vs → SlA K os' (Rh O os' H') ss vs
  | [], vs, h => h
  | _ :: _, vs, h => by
    obtain ⟨v, w, rfl, h1, h2⟩ := h
    exact ⟨v, w, rfl, h1.gr g, slA_gr g h2⟩
theorem r_tgP {tl : TA} {n : Nat} (he : EvP C tl A ss A1) (hl : ss.length = n) (hn : n ≤ 100000) (hg : TgPA C gs ss A1 A2) (h : P.nx A2) : RunS C E (tAsg (tTup tl) (gTup C.K n gs)) A P := fun os σ H D k T =>
  he os σ H k _ fun os1 vs H1 k1 e1 i1 => ⟨by rw [slA_len i1, hl]; exact Nat.le_trans hn (by decide), fun p hp => by
    have g1 := k1.gr (Ex.new (o := .tup vs) hp)
    have k2 := k1.monoN (o := .tup vs) hp
    exact ⟨p, vs, rfl, hd_ex.t (SqT.of (k1.fresh hp)), by rw [slA_len i1, hl], hg os1 _ _ vs _ k2 (slA_gr g1 i1) fun σ' k' => T.nx os1 _ _ _ h k' (e1.trans g1)⟩⟩
end
end Py
end

section
set_option Elab.async false
set_option linter.all false
set_option maxRecDepth 100000
set_option maxHeartbeats 4000000
set_option autoImplicit false
namespace Py
open PySem PySem.Spec PyProof.Rows L2
/-! ### f'..' -/
section
variable {C : Ct} {E : XK} {A A1 A2 : AS} {te ta tb : TE} {P : Po} {tt : TT}
def EvJ (C : Ct) (ts : List TE) (acc : Str) (A : AS) (out : Str) (A1 : AS) : Prop := ∀ os σ H, Ok C os A σ H → ∀ Q : Str → Hp → Prop, (∀ os' H', Ok C os' A1 σ H' → Gr C.O os H os' H' → Q out H') → tJs ts acc σ H Q
theorem j_nil {acc : Str} : EvJ C [] acc A acc A := fun os σ H k Q q => q os H k Gr.refl
theorem j_cons {ts : List TE} {acc y out : Str} (h : EvS C te A (ds y) A1) (hl : (acc ++ y).length ≤ sizeLine) (hr : EvJ C ts (acc ++ y) A1 out A2) : EvJ C (te :: ts) acc A out A2 := fun os σ H k Q q =>
  h os σ H k _ fun os1 v H1 k1 e1 i1 => ⟨y, Is.v_iff.mp i1, hl, hr os1 σ H1 k1 _ fun os2 H2 k2 e2 => q os2 H2 k2 (e1.trans e2)⟩
theorem e_joined {ts : List TE} {out : Str} (h : EvJ C ts Str.empty A out A1) : EvS C (fun σ H Q => tJs ts Str.empty σ H fun out H1 => Q (.str out) H1) A (ds out) A1 := fun os σ H k Q q =>
  h os σ H k _ fun os1 H1 k1 e1 => q os1 _ H1 k1 e1 is_v
end
end Py
end

section
set_option Elab.async false
set_option linter.all false
set_option maxRecDepth 100000
set_option maxHeartbeats 4000000
set_option autoImplicit false
namespace Py
open PySem PySem.Spec PyProof.Rows L2
/-! ### data that == tells true -/
mutual
inductive Nice : Nat → Dt → PyData → Prop
  | int {n : Nat} {i : Int} : Nice n (di i) (.int i)
  | bl {n : Nat} {b : Bool} : Nice n (db b) (.bool b)
  | non {n : Nat} : Nice n dn .none
  | str {n : Nat} {s : Str} (h : PyData.strOk s = true) : Nice n (ds s) (.str s)
  | tup {n : Nat} {xs : List Dt} {ps : List PyData} (h : NiceA n xs ps) : Nice (n + 1) (.tup xs) (.tuple ps)
  | lst {n : Nat} {xs : List Dt} {ps : List PyData} (h : NiceA n xs ps) : Nice (n + 1) (.lst xs) (.list ps)
inductive NiceA : Nat → List Dt → List PyData → Prop
  | nil {n : Nat} : NiceA n [] []
  | cons {n : Nat} {x : Dt} {p : PyData} {xs : List Dt} {ps : List PyData} (h : Nice n x p) (r : NiceA n xs ps) : NiceA n (x :: xs) (p :: ps)
end
theorem niceA_map {α : Type} {n : Nat} {f : α → Dt} {g : α → PyData} (h : ∀ a, Nice n (f a) (g a)) : ∀ l : List α, NiceA n (l.map f) (l.map g)
  | [] => .nil
  | a :: l => .cons (h a) (niceA_map h l)
mutual
theorem Nice.all {n : Nat} {x : Dt} {p : PyData} : Nice n x p → x.py = some p ∧ p.canLay0 = true ∧ p.depth ≤ n
  | .int => ⟨by rw [Dt.py], by rw [PyData.canLay0], by rw [PyData.depth]; exact Nat.zero_le _⟩
  | .bl => ⟨by rw [Dt.py], by rw [PyData.canLay0], by rw [PyData.depth]; exact Nat.zero_le _⟩
  | .non => ⟨by rw [Dt.py], by rw [PyData.canLay0], by rw [PyData.depth]; exact Nat.zero_le _⟩
  | .str h => ⟨by rw [Dt.py], by rw [PyData.canLay0]; exact h, by rw [PyData.depth]; exact Nat.zero_le _⟩
  | .tup h => by
    obtain ⟨h1, h2, h3⟩ := h.all
    exact ⟨by rw [Dt.py, h1]; rfl, by rw [PyData.canLay0]; exact h2, by rw [PyData.depth]; omega⟩
  | .lst h => by
    obtain ⟨h1, h2, h3⟩ := h.all
    exact ⟨by rw [Dt.py, h1]; rfl, by rw [PyData.canLay0]; exact h2, by rw [PyData.depth]; omega⟩
theorem NiceA.all {n : Nat} {xs : List Dt} {ps : List PyData} : NiceA n xs ps → Dt.pys xs = some ps ∧ PyData.canLayAll0 ps = true ∧ PyData.depthAll ps ≤ n
  | .nil => ⟨by rw [Dt.pys], by rw [PyData.canLayAll0], by rw [PyData.depthAll]; exact Nat.zero_le _⟩
  | .cons h r => by
    obtain ⟨h1, h2, h3⟩ := h.all
    obtain ⟨r1, r2, r3⟩ := r.all
    exact ⟨by rw [Dt.pys, h1, r1], by rw [PyData.canLayAll0, h2, r2]; rfl, by rw [PyData.depthAll]; omega⟩
end
theorem Nice.shaped {n : Nat} {x : Dt} {p : PyData} (h : Nice n x p) (hn : n ≤ 64) : SeqAt.shaped p = true := by
  obtain ⟨_, h2, h3⟩ := h.all
  unfold SeqAt.shaped
  rw [h2, decide_eq_true (Nat.le_trans h3 hn)]
  rfl
section
variable {C : Ct} {E : XK} {A A1 A2 : AS} {x y : Dt} {p q : PyData} {n m : Nat}
theorem o_eqN (h : Nice n x p) (h' : Nice m y q) (hn : n ≤ 64 := by decide) (hm : m ≤ 64 := by decide) : OpS C (rEqA C.K) x y (db (PyData.eqv p q)) := o_eqD h.all.1 h'.all.1 (h.shaped hn) (h'.shaped hm)
theorem o_neN (h : Nice n x p) (h' : Nice m y q) (hn : n ≤ 64 := by decide) (hm : m ≤ 64 := by decide) : OpS C (rNeA C.K) x y (db (!PyData.eqv p q)) := o_neD h.all.1 h'.all.1 (h.shaped hn) (h'.shaped hm)
/-- a thing and itself -/
theorem o_eqSame (h : Nice n x p) (hn : n ≤ 64 := by decide) : OpS C (rEqA C.K) x x (db true) := by
  have := o_eqN (C := C) h h hn hn
  rw [SeqAt.eqv_refl p h.all.2.1] at this
  exact this
theorem o_neSame (h : Nice n x p) (hn : n ≤ 64 := by decide) : OpS C (rNeA C.K) x x (db false) := by
  have := o_neN (C := C) h h hn hn
  rw [SeqAt.eqv_refl p h.all.2.1] at this
  exact this
theorem eqv_nil : ∀ ps : List PyData, PyData.eqv (.list ps) (.list []) = ps.isEmpty
  | [] => by rw [PyData.eqv, PyData.eqvAll]; rfl
  | p :: ps => by rw [PyData.eqv, PyData.eqvAll]; rfl
theorem niceA_len {xs : List Dt} {ps : List PyData} (h : NiceA n xs ps) : xs.isEmpty = ps.isEmpty := by cases h <;> rfl
/-- a list and [] -/
theorem o_eqNil {xs : List Dt} {ps : List PyData} (h : NiceA n xs ps) (hn : n ≤ 63 := by decide) : OpS C (rEqA C.K) (.lst xs) (.lst []) (db xs.isEmpty) := by
  have := o_eqN (C := C) (Nice.lst h) (Nice.lst (n := n) NiceA.nil) (by omega) (by omega)
  rw [eqv_nil, ← niceA_len h] at this
  exact this
theorem o_neNil {xs : List Dt} {ps : List PyData} (h : NiceA n xs ps) (hn : n ≤ 63 := by decide) : OpS C (rNeA C.K) (.lst xs) (.lst []) (db (!xs.isEmpty)) := by
  have := o_neN (C := C) (Nice.lst h) (Nice.lst (n := n) NiceA.nil) (by omega) (by omega)
  rw [eqv_nil, ← niceA_len h] at this
  exact this
theorem nice_ints (l : List Int) : NiceA 0 (l.map di) (l.map .int) := niceA_map (fun _ => .int) l
theorem nice_fr (q : Int × Int) : Nice 1 (.tup [di q.1, di q.2]) (.tuple [.int q.1, .int q.2]) := .tup (.cons .int (.cons .int .nil))
end
/-! ### the operators of a comprehension's own frame -/
section
variable {X : Cx} {K : Frg}
theorem op_eqAK (hK : X.K = K) (hu : X.A.units + 64 < cLine) : OpR X (compareOp .Eq) (rEqA K) := by subst hK; exact op_eqA hu
theorem op_neAK (hK : X.K = K) (hu : X.A.units + 64 < cLine) : OpR X (compareOp .NotEq) (rNeA K) := by subst hK; exact op_neA hu
theorem op_addAK (hK : X.K = K) : OpR X (binaryOp .Add) (rAddA K) := by subst hK; exact op_addA
theorem op_mulAK (hK : X.K = K) : OpR X (binaryOp .Mult) (rMulA K) := by subst hK; exact op_mulA
theorem ix_seqK (hK : X.K = K) : IxR X (rIx K) := by subst hK; exact ix_seq
end
end Py
end

section
set_option Elab.async false
set_option linter.all false
set_option maxRecDepth 100000
set_option maxHeartbeats 4000000
set_option autoImplicit false
set_option exponentiation.threshold 100
namespace Py
open PySem PySem.Spec PyProof.Rows L2
/-! ### a def that turns a dice -/
def spTurn (K : Frg) (T : List (Addr × Str)) (g : Dice → List V → V → Dice → Prop) : Sp := fun vs H Q _ => ∃ (a : Addr) (d : Dice) (ws : List V) (v : V) (d' : Dice), vs = .ref a :: ws ∧ H a = some (.lst d.vs) ∧ g d ws v d' ∧ LamX.Tabs T H ∧
  ∀ H', (∀ b o, b ≠ a → H b = some o → NoT o → H' b = some o) → LamX.Tabs T H' → H' a = some (.lst d'.vs) → Q v H'
def gRoll : Dice → List V → V → Dice → Prop := fun d ws v d' => ∃ (m : Int) (c : Nat), ws = [.int m] ∧ DOk c d ∧ c ≤ 1000000 ∧ 0 < m ∧ Sz 8000 m ∧ v = .int (rollV d m) ∧ d' = rollD d m
theorem roll_turn {K : Frg} {T : List (Addr × Str)} {vs : List V} {H : Hp} {Q : VK} {E : XK} (h : spTurn K T gRoll vs H Q E) : spRoll K T vs H Q E := by
  obtain ⟨a, d, ws, v, d', rfl, h1, ⟨m, c, rfl, h2, h3, h4, h5, rfl, rfl⟩, h6, q⟩ := h
  exact ⟨a, d, m, c, rfl, h1, h2, h3, h4, h5, h6, q⟩
/-- the end of such a def's body -/
theorem turn_fin {K : Frg} {T : List (Addr × Str)} {N : List Str} {a : Addr} {d d' : Dice} {ws : List V} {v : V} {H : Hp} {t : TS} {E : XK} {Q : VK} {sl : List SD} (ha : H a = some (.lst d.vs)) (ht : LamX.Tabs T H)
    (q : ∀ H', (∀ b o, b ≠ a → H b = some o → NoT o → H' b = some o) → LamX.Tabs T H' → H' a = some (.lst d'.vs) → Q v H') (hs : sl = .own 0 :: (ws.map fun v => SD.d (.v v)) ++ List.replicate (N.length - (ws.length + 1)) .un)
    (R : RunS ⟨K, T, fun b => if b = a then none else H b, []⟩ E t ⟨sl, [.lst d.ds]⟩ { rt := fun r A => r = .v v ∧ A.sl[0]? = some (.own 0) ∧ A.st = [.lst d'.ds] }) : t { nx := fun _ H' => Q .non H', rt := Q } (L2.start N (.ref a :: ws)) H := by
  subst hs
  have k := start_own (K := K) (N := N) (ws := ws) ht ha
  exact R [some a] _ H _ k ⟨fun _ _ _ _ z => z.elim, fun os A σ r u H' ⟨h1, h2, h3⟩ k' g' i' => by
    have o0 := g'.p 0 (some a) rfl
    obtain ⟨o, s1, a3, vs, s2, s3, s4⟩ := k'.store (i := 0) (s := .lst d'.ds) (by rw [h3]; rfl)
    rw [o0] at s1; cases s1; cases s2
    rw [vs_of s4] at s3
    subst h1
    rw [Is.v_iff.mp i']
    refine q H' (fun b o hb e n => k'.ex b o ?_ n) k'.tb s3
    show (if b = a then none else H b) = some o
    rw [if_neg hb]
    exact e, fun _ _ _ _ z => z.elim, fun _ _ _ _ z => z.elim, fun _ _ z => z.elim⟩
section
variable {C : Ct} {E : XK} {A A1 : AS} {te ti : TE} {tl : TA} {P : Po} {i n : Nat} {d d' : Dice} {m : Int} {v : V} {ws : List V}
/-- f(dice, ..) -/
theorem e_turn {E' : XK} {g : Dice → List V → V → Dice → Prop} (h1 : A.sl[i]? = some (.own n)) (h2 : A.st[n]? = some (.lst d.ds)) (hm : EvA C tl A (ws.map .v) A) (hg : g d ws v d') :
    EvS C (tCall (spTurn C.K C.T g) [] E' (tCons (tVar i) tl)) A (.v v) (A.upO n d'.ds) := fun os σ H k Q q => by
  obtain ⟨o, f1, a, f2, f3⟩ := k.slot h1
  subst f2
  refine ⟨_, f1, hm os σ H k _ fun os1 vs H1 k1 g1 i1 => ?_⟩
  rw [flat_eq i1]
  have f3' := g1.p n _ f3
  obtain ⟨o3, s1, a3, us, s2, s3, s4⟩ := k1.store h2
  rw [f3'] at s1; cases s1; cases s2
  rw [vs_of s4] at s3
  refine ⟨a, d, ws, v, d', by rw [List.append_nil], s3, hg, k1.tb, fun H' e t ha => ?_⟩
  have hh : a ∈ hid C.O os1 := mem_hid.mpr (.inr (List.mem_of_getElem? f3'))
  have ku := k1.upO f3' h2 (ys := d'.ds) ds_of
  have ex : Ex (upd H1 a (.lst d'.vs)) H' := fun b o hb nt => by
    by_cases eb : b = a
    · subst eb
      rw [upd_same] at hb
      cases hb
      exact ha
    · rw [upd_ne eb] at hb
      exact e b o eb hb nt
  have kf := ku.mono ex t
  refine q os1 _ H' kf (g1.trans ⟨?_, fun b hb => ?_, fun _ _ h => h⟩) is_v
  · have := hd_mono (O := hid C.O os1) ex
    rw [show hd (hid C.O os1) (upd H1 a _) = Rh C.O os1 H1 from Rh_upd hh] at this
    exact this
  · obtain ⟨o, hb1, nt⟩ := k1.ol b hb
    have ne : b ≠ a := fun z => k1.dj b hb (by rw [z]; exact List.mem_of_getElem? f3')
    rw [hb1]
    exact e b o ne hb1 nt
end
/-- a promise that follows from another -/
theorem Gd.imp {P : Program} {w : World} {K : Frg} {mg : Str → Option Value} {base : Heap} {f : Str} {ps : List Str} {k : Nat} {sp sp' : Sp} (h : Gd P w K mg base f ps k sp) (e : ∀ vs H Q E, sp' vs H Q E → sp vs H Q E) : Gd P w K mg base f ps k sp' := by
  obtain ⟨a, fd, h1, h2, h3, h4⟩ := h.ex
  exact ⟨a, fd, h1.imp e, h2, h3, h4⟩
theorem Gd.roll {P : Program} {w : World} {K : Frg} {T : List (Addr × Str)} {mg : Str → Option Value} {base : Heap} {f : Str} {ps : List Str} {k : Nat} (h : Gd P w K mg base f ps k (spRoll K T)) : Gd P w K mg base f ps k (spTurn K T gRoll) := h.imp fun _ _ _ _ => roll_turn
end Py
end

section
set_option Elab.async false
set_option linter.all false
set_option maxRecDepth 100000
set_option maxHeartbeats 4000000
set_option autoImplicit false
set_option exponentiation.threshold 100
namespace Py
open PySem PySem.Spec PyProof.Rows L2
/-! ### [e for x in xs for y in range(n)] -/
/-- one turn of the outer one: the inner one from its start to its end -/
structure Lc2T (C : Ct) (g : TG) (wi1 : TI) (g1 : TG) (tt1 : TT) (te : TE) (ws ws1 : List Nat) (x : Dt) (A : AS) (ys : List Dt) (A2 : AS) (ys2 : List Dt) (lo1 : Int) (n1 : Nat) (A1 : AS) (B1 : Nat → AS) (Y1 : Nat → List Dt) : Prop where
  tg : TgS C g x (A.wipe ws) A1 ws
  wi : ∀ os σ H, Ok C os A1 σ H → ∀ R : It → Hp → Prop, (∀ os' H', Ok C os' (B1 0) σ H' → Gr C.O os H os' H' → R (Itr lo1 n1) H') → wi1 σ H R
  y0 : Y1 0 = ys
  yn : Y1 n1 = ys2
  tn : ∀ j, j < n1 → LcT C g1 tt1 te ws1 (di (lo1 + j)) (B1 j) (Y1 j) (B1 (j + 1)) (Y1 (j + 1))
  ln : ∀ j, j < n1 → (Y1 j).length < 100000
  bn : (B1 n1).wipe ws = A2
section
variable {C : Ct} {E : XK} {A A1 A2 : AS} {te : TE} {tl : TE} {g g1 : TG} {tt1 : TT} {wi1 : TI} {ws ws1 : List Nat}
theorem lc2_turn {p : Addr} {x : Dt} {v : V} {σ : Sg} {os : List (Option Addr)} {H : Hp} {ys ys2 : List Dt} {acc : List V} {lo1 : Int} {n1 : Nat} {Am : AS} {B1 : Nat → AS} {Y1 : Nat → List Dt} (t : Lc2T (C.hide p) g wi1 g1 tt1 te ws ws1 x A ys A2 ys2 lo1 n1 Am B1 Y1) (k : Ok (C.hide p) os A σ H) (hp : H p = some (.lst acc)) (ha : IsA C.K (Rh (p :: C.O) os H) ys acc) (hx : Is C.K (Rh (p :: C.O) os H) x v)
    (h0 : ∀ o, C.H0 p = some o → ¬ NoT o) (hO : p ∉ C.O) (R : Hp → Prop) (hR : ∀ os' acc' H', Ok (C.hide p) os' A2 σ H' → GrP p C.O os H os' H' → H' p = some (.lst acc') → IsA C.K (Rh (p :: C.O) os' H') ys2 acc' → R H') :
    g v (wipe σ ws) H fun σ2 H2 => wipe σ2 ws = wipe σ ws ∧ tYes σ2 H2 fun b H3 => if b = true then wi1 σ2 H3 fun J1 H4 => ∃ W1 : Nat → Nat → Hp → Prop, (∃ m, W1 0 m H4) ∧ ∀ j k H, W1 j k H →
      (J1.stop j H ∧ R H) ∨ (J1.go j H ∧ ∃ Nx1 : Hp → Prop, (∀ H', Nx1 H' → ∃ k', k' < k ∧ W1 (j + 1) k' H') ∧ ∀ x H', J1.yld j H x H' → g1 x (wipe σ2 ws1) H' fun σ3 H5 => wipe σ3 ws1 = wipe σ2 ws1 ∧ tt1 σ3 H5 fun b H6 =>
        if b = true then te σ3 H6 fun y H7 => ∃ acc, H7 p = some (.lst acc) ∧ acc.length < sizeLine ∧ Nx1 (upd H7 p (.lst (acc ++ [y]))) else Nx1 H6) else R H3 := by
  refine t.tg os _ H v _ k.wiped hx fun σ2 k2 e2 => ⟨e2.trans wipe_wipe, ?_⟩
  have e2' : wipe σ2 ws = wipe σ ws := e2.trans wipe_wipe
  unfold tYes
  dsimp only
  rw [if_pos rfl]
  refine t.wi os σ2 H k2 _ fun os4 H4 k4 g4 => ?_
  have gp4 : GrP p C.O os H os4 H4 := ⟨g4.e, fun a h => g4.o a (List.mem_cons_of_mem _ h), g4.p⟩
  have hp4 : H4 p = some (.lst acc) := (g4.o p (List.mem_cons_self ..)).trans hp
  refine ⟨fun j m H' => m = n1 - j ∧ j ≤ n1 ∧ ∃ os' acc', Ok (C.hide p) os' (B1 j) σ2 H' ∧ GrP p C.O os H os' H' ∧ H' p = some (.lst acc') ∧ IsA C.K (Rh (p :: C.O) os' H') (Y1 j) acc', ⟨n1, by omega, Nat.zero_le _, os4, acc, k4, gp4, hp4, by rw [t.y0]; exact IsA.mono g4.e _ _ ha⟩, ?_⟩
  rintro j m H' ⟨rfl, hj, os', acc', k', g', hp', ha'⟩
  by_cases lt : j < n1
  · refine .inr ⟨lt, fun H'' => ∃ m', m' < n1 - j ∧ (m' = n1 - (j + 1) ∧ j + 1 ≤ n1 ∧ ∃ os'' acc'', Ok (C.hide p) os'' (B1 (j + 1)) σ2 H'' ∧ GrP p C.O os H os'' H'' ∧ H'' p = some (.lst acc'') ∧ IsA C.K (Rh (p :: C.O) os'' H'') (Y1 (j + 1)) acc''), fun H'' h => h, fun x H'' y => ?_⟩
    obtain ⟨e, y⟩ := y
    subst e y
    exact lc_turn (t.tn j lt) k' hp' ha' is_v h0 hO (t.ln j lt) _ fun os2 acc2 H2 k2 g2 hp2 ha2 => ⟨n1 - (j + 1), by omega, rfl, lt, os2, acc2, k2, g'.trans g2, hp2, ha2⟩
  · have e : j = n1 := by omega
    subst e
    refine .inl ⟨Nat.le_refl _, hR os' acc' H' ?_ g' hp' (by rw [← t.yn]; exact ha')⟩
    have kb := k'.back e2'
    rw [t.bn] at kb
    exact kb
theorem e_lc2L {xs : List Dt} (he : EvS C tl A (.lst xs) A1) (B : Nat → AS) (Y : Nat → List Dt) (h0 : A1 = B 0) (hY : Y 0 = [])
    (hs : ∀ i x, xs[i]? = some x → ∀ O, ∃ lo1 n1 Am B1 Y1, Lc2T ⟨C.K, C.T, C.H0, O⟩ g wi1 g1 tt1 te ws ws1 x (B i) (Y i) (B (i + 1)) (Y (i + 1)) lo1 n1 Am B1 Y1) : EvS C (tLc2 (iList C.K tl) g tYes wi1 g1 tt1 te ws ws1) A (.lst (Y xs.length)) (B xs.length) := fun os σ H k Q q =>
  he os σ H k _ fun os1 v H1 k1 e1 i1 => by
    rw [Is] at i1
    obtain ⟨a, vs, rfl, h1, h2⟩ := i1
    refine ⟨a, rfl, ⟨vs, hd_ex.l h1⟩, fun p hp => ?_⟩
    subst h0
    have el : vs.length = xs.length := isA_len h2
    refine ⟨fun i m H' => m = vs.length - i ∧ i ≤ vs.length ∧ ∃ os' acc, Ok (C.hide p) os' (B i) σ H' ∧ GrP p C.O os1 (upd H1 p (.lst [])) os' H' ∧ H' p = some (.lst acc) ∧ IsA C.K (Rh (p :: C.O) os' H') (Y i) acc, ⟨vs.length, by omega, Nat.zero_le _, os1, [], k1.hide hp nt_l, ⟨Ex.refl _, fun _ _ => rfl, fun _ _ h => h⟩, upd_same, by rw [hY]; exact isA_nil⟩, ?_⟩
    rintro i m H' ⟨rfl, hi, os', acc, k', g', hp', ha⟩
    have e := g'.e
    rw [Rh_hide hp] at e
    have ql : SqL C.K H' a vs := hd_ex.l (e.l h1)
    by_cases lt : i < vs.length
    · refine .inr ⟨⟨vs, vs[i], ql, by simp [lt]⟩, fun H'' => ∃ m', m' < vs.length - i ∧ (m' = vs.length - (i + 1) ∧ i + 1 ≤ vs.length ∧ ∃ os'' acc'', Ok (C.hide p) os'' (B (i + 1)) σ H'' ∧ GrP p C.O os1 (upd H1 p (.lst [])) os'' H'' ∧ H'' p = some (.lst acc'') ∧ IsA C.K (Rh (p :: C.O) os'' H'') (Y (i + 1)) acc''), fun H'' h => h, fun x H'' y => ?_⟩
      obtain ⟨ex, y⟩ := y
      subst ex
      obtain ⟨d, hd', hi'⟩ := isA_get' h2 (y vs ql)
      obtain ⟨lo1, n1, Am, B1, Y1, t⟩ := hs i d hd' (p :: C.O)
      exact lc2_turn t k' hp' ha (Is.mono e _ _ hi') (fresh_0 k1 hp) (fresh_O k1 hp) _ fun os2 acc2 H2 k2 g2 hp2 ha2 => ⟨vs.length - (i + 1), by omega, rfl, lt, os2, acc2, k2, g'.trans g2, hp2, ha2⟩
    · have en : i = vs.length := by omega
      subst en
      refine .inl ⟨⟨vs, ql, Nat.le_refl _⟩, ?_⟩
      rw [el] at k' ha
      exact lc_end k1 hp k' g' hp' ha fun os2 v H2 k2 g2 i2 => q os2 v H2 k2 (e1.trans g2) i2
end
section
variable {C : Ct} {A A1 : AS} {te : TE}
/-- sorted(ints) -/
theorem e_sortI {ns ms : List Int} (h : EvS C te A (.lst (ns.map di)) A1) (hq : ∀ ns' : List Int, ns'.Perm ns → ns'.Pairwise (· ≤ ·) → ns' = ms) : EvS C (tCB (rSortedI C.K) (tCons te tNil)) A (.lst (ms.map di)) A1 := fun os σ H k Q q =>
  h os σ H k _ fun os1 v H1 k1 e1 i1 => by
    rw [Is] at i1
    obtain ⟨a, vs, rfl, h2, h3⟩ := i1
    have ev : ns.map di = (ns.map V.int).map Dt.v := by rw [List.map_map]; rfl
    rw [ev] at h3
    rw [flat_eq h3] at h2
    refine ⟨a, ns, rfl, hd_ex.l h2, fun ns' p hp hs hn => ?_⟩
    rw [hq ns' hp hs]
    refine q os1 _ _ (k1.monoN hn) (e1.trans (k1.gr (Ex.new hn))) ?_
    rw [Is]
    exact ⟨p, _, rfl, SqL.of (k1.fresh hn), by rw [show ms.map di = (ms.map V.int).map Dt.v by rw [List.map_map]; rfl]; exact flat_isA⟩
/-- two sorted lists of the same members -/
theorem sorted_one : ∀ {l m : List Int}, l.Perm m → l.Pairwise (· ≤ ·) → m.Pairwise (· ≤ ·) → l = m := fun {l m} h h1 h2 => h.eq_of_pairwise (fun a b _ _ x y => Int.le_antisymm x y) h1 h2
end
end Py
end

section
set_option Elab.async false
set_option linter.all false
set_option maxRecDepth 100000
set_option maxHeartbeats 4000000
set_option autoImplicit false
namespace Py
open PySem PySem.Spec PyProof.Rows L2
/-! ### tuple(xs), the new object known -/
section
variable {X : Cx}
theorem call_tupleZ : CallR X (.type "tuple") (fun xs H Q => ∃ p ys, xs = [.ref p] ∧ SqL X.K H p ys ∧ ∀ l o, o.dict = none → H l = none → Q (.ref l) (upd H l (.frz o (.tup ys)))) := by
  intro pins s σ H xs us Q I r h
  obtain ⟨p, ys, rfl, hq, q⟩ := h
  obtain ⟨u, rfl, rx⟩ := vals1 r
  cases rx
  obtain ⟨its, r', pl, hz⟩ := I.list hq
  have hlen := r'.length
  refine call_tuple_list pl.isList (fun h' kp => ?_) (by simp only [List.size_toArray] <;> omega)
  have I1 : Inv X pins σ H { s with heap := h' } := I.kept (t' := s.toks) kp
  have I2 : Inv X pins σ (upd H h'.objs.size (.frz { cls := .type "tuple", data := .seq its.toArray } (.tup ys))) { s with heap := h'.push { cls := .type "tuple", data := .seq its.toArray } } :=
    I1.laid (t' := s.toks) (fun b o e => Heap.get?_push_of_some _ e) (Nat.le_refl _) (show ObjOk X.prog X.w _ _ _ (.frz _ (.tup ys)) from ⟨Heap.get?_push_size _ rfl, hz, its, r', IsTup.new _ _⟩)
  exact ⟨.ref h'.objs.size, _, I2, rfl, q _ _ rfl (I1.hok.fresh (Nat.le_refl _))⟩
theorem told_pairs {h : Heap} {ps : List Addr} : ∀ {prs : List (Key × Value)}, (∀ (j : Nat) (q : Key × Value), prs[j]? = some q → ∃ (b : Addr) (u : Value), ps[j]? = some b ∧ IsTup h b #[u, q.2] ∧ keyIs q.1 u = true) →
    ∃ pv : List (Value × Value), pv.length = prs.length ∧ ∀ (j : Nat) (k v : Value), pv[j]? = some (k, v) → ∃ (q : Key × Value) (b : Addr), prs[j]? = some q ∧ q.2 = v ∧ ps[j]? = some b ∧ IsTup h b #[k, v] ∧ keyIs q.1 k = true := by
  intro prs
  induction prs generalizing ps with
  | nil => exact fun _ => ⟨[], rfl, fun j k v e => by simp at e⟩
  | cons q r ih =>
    intro hh
    obtain ⟨b, u, h1, h2, h3⟩ := hh 0 q rfl
    obtain ⟨pv, e1, e2⟩ := ih (ps := ps.drop 1) fun j q' e => by
      obtain ⟨b, u, z1, z2, z3⟩ := hh (j + 1) q' (by simpa using e)
      exact ⟨b, u, by rw [List.getElem?_drop, Nat.add_comm]; exact z1, z2, z3⟩
    refine ⟨(u, q.2) :: pv, by rw [List.length_cons, List.length_cons, e1], fun j k v e => ?_⟩
    cases j with
    | zero =>
      simp at e
      obtain ⟨rfl, rfl⟩ := e
      exact ⟨q, b, rfl, rfl, h1, h2, h3⟩
    | succ j =>
      obtain ⟨q', b', z1, z2, z3, z4⟩ := e2 j k v (by simpa using e)
      exact ⟨q', b', by simpa using z1, z2, by rw [List.getElem?_drop, Nat.add_comm] at z3; exact z3, z4⟩
theorem call_dictZ (hcalm : X.calm = true) : CallR X (.type "dict") (fun xs H Q => ∃ (a : Addr) (o : Obj) (ps : List Addr) (kvs : List (Key × V)), xs = [.ref a] ∧ H a = some (.frz o (.tup (ps.map V.ref))) ∧ o.dict = none ∧ Paired (fun p kv => SqT X.K H p [kV kv.1, kv.2]) ps kvs ∧
    ∀ p, H p = none → Q (.ref p) (upd H p (.dK (mergeK [] kvs)))) := by
  intro pins s σ H xs us Q I r q
  obtain ⟨a, o, ps, kvs, rfl, ha, hdn, hp, q⟩ := q
  obtain ⟨u, rfl, rx⟩ := vals1 r
  cases rx
  obtain ⟨ho, hz, its, rv, o', ho', hc, n, hdat⟩ := I.hok a _ ha
  rw [ho] at ho'
  cases ho'
  have ei := refs_at rv
  subst ei
  rw [List.length_map] at hz
  obtain ⟨prs, rel, hl, hpr⟩ := pairs_of I hp
  obtain ⟨pv, e1, e2⟩ := told_pairs hpr
  have hps : PairItems s.heap (ps.map Value.ref).toArray (fun j => ps.getD j 0) pv := by
    refine ⟨by simp [e1, hl], fun j k v e => ?_⟩
    obtain ⟨q', b, z1, z2, z3, z4, z5⟩ := e2 j k v e
    have g : ps.getD j 0 = b := by rw [List.getD_eq_getElem?_getD, z3]; rfl
    refine ⟨by simp [z3], ?_⟩
    show PairAt s.heap (ps.getD j 0) k v
    rw [g]
    exact .inl z4
  refine PySem.call_dict_pairs (knd := mixKind X.prog X.w) (kvs := prs) (PairArg.tuple a (ps.map Value.ref).toArray (fun j => ps.getD j 0) pv) (I.ok.hd hcalm) ⟨⟨o, n, ho, hc, hdn, hdat⟩, hps⟩ ⟨e1.symm, fun i key v rel => ?_⟩ (by rw [e1, hl]; exact hz) fun h' tk hd' k => ?_
  · obtain ⟨q', b, z1, z2, z3, z4, z5⟩ := e2 i key v rel
    exact ⟨q'.1, by rw [z1, ← z2], z5⟩
  · have hm : (s.heap.objs.size == sysModules) = false := beq_eq_false_iff_ne.mpr (Nat.ne_of_gt I.big)
    have hlen : (mergeK [] kvs).length ≤ sizeLine := by
      refine Nat.le_trans (length_mergeK kvs []) ?_
      rw [List.length_nil, Nat.zero_add, rel.length, hl]
      exact hz
    exact ⟨.ref s.heap.objs.size, upd H s.heap.objs.size (.dK (mergeK [] kvs)), I.laid (t' := tk) (fun b o e => k b o (by simp) e) (Nat.le_refl _) (show ObjOk X.prog X.w _ _ _ (.dK (mergeK [] kvs)) from ⟨hlen, hm, merged [] prs, KV.merge rel .nil, hd'⟩), rfl, q _ (I.hok.fresh (Nat.le_refl _))⟩
end
section
open SrtO
variable {prog : Program} {w : World} {A : Around} {E : Value → Shared → Prop} {s : Shared}
/-- the heap of s, behind it a new list of these items -/
def gath (h : Heap) (us : List Value) : Heap := (h.push (seqObj "list" #[] 0)).update h.objs.size (Obj.mapSeq fun z => z ++ us.toArray)
theorem gath_size (h : Heap) (us : List Value) : (gath h us).objs.size = h.objs.size + 1 := by
  unfold gath; rw [Heap.size_update, size_push']
theorem gath_old {h : Heap} {us : List Value} {b : Addr} {ob : Obj} (g : h.get? b = some ob) : (gath h us).get? b = some ob := by
  unfold gath
  rw [Heap.get?_update_ne _ _ _ _ (Nat.ne_of_lt (Heap.lt_size g))]
  exact Heap.get?_push_of_some _ g
theorem gather_tuple {t : Addr} {us : List Value} {Q : List Value → Shared → Prop} (ht : IsTup s.heap t us.toArray) (hsz : us.length ≤ sizeLine) (q : Q us { s with heap := gath s.heap us }) : wpAny (model prog w) A (collect (.ref t)) Q E s := by
  obtain ⟨ob, g, c, k, d⟩ := id ht
  have g1 : (s.heap.push (seqObj "list" #[] 0)).get? t = some ob := Heap.get?_push_of_some _ g
  have g2 : (s.heap.push (seqObj "list" #[] 0)).get? s.heap.objs.size = some (seqObj "list" #[] 0) := Heap.get?_push_size _ rfl
  have e0 : ((#[] : Array Value) ++ us.toArray).toList = us := by simp
  unfold collect
  refine wpAny_bind (wpAny_runValue (codeAny_builtin entry_proto_collect' ?_))
  show wpAny _ _ (do again (.builtin "list.__iadd__" ⟨[← newList [], .ref t], []⟩)) _ _ s
  refine wpAny_bind (wpAny_newList (wpAny_pure ⟨Code.quiet_builtin _ (by decide +kernel), codeAny_builtin entry_list_iadd' ?_⟩))
  show wpAny _ _ (Builtin.List.listExtendWith _ (.ref t) _) _ _ { s with heap := s.heap.push (seqObj "list" #[] 0) }
  unfold Builtin.List.listExtendWith
  refine wpAny_bind (wpAny_typeOf (T := "tuple") ⟨ob, g1, c⟩ ?_)
  have two : (Value.type "tuple" == Value.type "tuple") = true := by rfl
  rw [if_pos (by simp [two])]
  refine wpAny_bind (listItems_at g1 d (wpAny_bind (listItems_at (xs := #[]) (n := 0) g2 rfl ?_)))
  rw [if_neg (by simp)]
  refine wpAny_bind (listUpdate_at (xs := #[]) (n := 0) g2 rfl (wpAny_pure ?_) (Nat.zero_le _) (by show (#[] ++ us.toArray).size ≤ _; simp only [Array.size_append, List.size_toArray, List.length_nil]; omega))
  refine wpAny_bind (wpAny_load (get?_update_seq g2 _) ?_)
  show wpAny _ _ (pure ((#[] : Array Value) ++ us.toArray).toList) Q E _
  rw [e0]
  exact wpAny_pure q
theorem sorted_tup {t : Addr} {us : List Value} {k : Value → Int × Int} {Q : Value → Shared → Prop} (ht : IsTup s.heap t us.toArray) (hz : us.length ≤ sizeLine) (hp : ∀ u ∈ us, Srt.IsPair s.heap u (k u).1 (k u).2)
    (q : ∀ (h' : Heap) (out : List Value), Srtd (fun a b => lexB (k a) (k b)) out → Stb (fun a b => lexB (k a) (k b)) out us → (∀ b ob, s.heap.get? b = some ob → h'.get? b = some ob) → (∃ n, h'.get? (s.heap.objs.size + 1) = some (seqObj "list" out.toArray n)) → Q (.ref (s.heap.objs.size + 1)) { s with heap := h' }) :
    wpAny (model prog w) A (call (.builtin "sorted") [.ref t]) Q E s := by
  refine Calls.call_function_entry kind_sorted plain_sorted entry_sorted (args_sorted1 _) ?_
  unfold Builtin.«sorted»
  refine wpAny_bind (m := checkCount "sorted" 1 1 _) (wpAny_pure (wpAny_bind (gather_tuple ht hz (wpAny_bind (wpAny_newList ?_ hz)))))
  generalize hG : (gath s.heap us).push (seqObj "list" us.toArray 0) = G
  have gL : G.get? (s.heap.objs.size + 1) = some (seqObj "list" us.toArray 0) := by
    rw [← hG, ← gath_size s.heap us]; exact Heap.get?_push_size _ rfl
  have gO : ∀ b ob, s.heap.get? b = some ob → b ≠ s.heap.objs.size + 1 ∧ G.get? b = some ob := fun b ob g => by
    refine ⟨Nat.ne_of_lt (Nat.lt_succ_of_lt (Heap.lt_size g)), ?_⟩
    rw [← hG]; exact Heap.get?_push_of_some _ (gath_old g)
  show wpAny _ _ (holding [Value.ref (gath s.heap us).objs.size] (call (Value.builtin "list.sort") [Value.ref (gath s.heap us).objs.size] []) >>= fun _ => _) _ _ { s with heap := G }
  rw [gath_size]
  refine wpAny_bind (wpAny_holding (wpAny_call_entry slot_list_sort ⟨_, gL, rfl⟩ entry_list_sort (list_sort_ord (swo_lex k) gL hz (fun h2 => ?_) fun out h3 h4 => ⟨_, rfl, wpAny_pure ⟨_, rfl, ?_⟩⟩) (args_list_sort _)))
  · refine pairs_sortableO (by omega) (fun u hu => (hp u hu).keeps fun b ob g _ => (gO b ob g).2) fun ob g c => ?_
    have g' := g.symm.trans gL
    cases g'
    exact absurd (Value.type.inj c) (by decide)
  · obtain ⟨n, e⟩ := PyProof.Rows.sortedHeap_at (vs := us) (out := out.toArray) gL
    exact q _ out h3 h4 (fun b ob g => (PyProof.Rows.sortedHeap_old (gO b ob g).1 (Heap.lt_size (gO b ob g).2)).trans (gO b ob g).2) ⟨n, e⟩
end
/-! ### sorted(x), x a list or a tuple of pairs of ints -/
def PairV (K : Frg) (H : Hp) (x : V) (p : Int × Int) : Prop := ∃ t, x = V.ref t ∧ SqT K H t [.int p.1, .int p.2]
def rSortQ (K : Frg) : List V → Hp → VK → Prop := fun vs H Q => ∃ (a : Addr) (xs : List V) (ps : List (Int × Int)), vs = [.ref a] ∧ (SqL K H a xs ∨ SqT K H a xs) ∧ Paired (PairV K H) xs ps ∧
  ∀ (zs : List (V × (Int × Int))) (d : Addr), zs.Perm (xs.zip ps) → zs.Pairwise (fun x y => SrtO.lexB y.2 x.2 = false) → H d = none → Q (.ref d) (upd H d (.lst (zs.map (·.1))))
open Classical in
noncomputable def keyV (K : Frg) (H : Hp) (x : V) : Int × Int := if h : ∃ p, PairV K H x p then h.choose else (0, 0)
section
variable {X : Cx}
theorem keyV_eq {pins : List (Addr × Obj)} {s : Shared} {σ : L2.St} {H : Hp} (I : Inv X pins σ H s) {x : V} {p : Int × Int} (h : PairV X.K H x p) : keyV X.K H x = p := by
  have e : ∃ p, PairV X.K H x p := ⟨p, h⟩
  unfold keyV
  rw [dif_pos e]
  obtain ⟨t, h1, h2⟩ := e.choose_spec
  obtain ⟨t', h3, h4⟩ := h
  rw [h1] at h3
  cases h3
  have q := I.tuple_inj h2 h4
  simp only [List.cons.injEq, V.int.injEq, and_true] at q
  exact Prod.ext q.1 q.2
theorem paired_zip {K : Frg} {H : Hp} {k : V → Int × Int} : ∀ {xs : List V} {ps : List (Int × Int)}, Paired (PairV K H) xs ps → (∀ x p, PairV K H x p → k x = p) → xs.zip ps = xs.map fun x => (x, k x)
  | _, _, .nil, _ => rfl
  | _, _, .cons h t, e => by rw [List.zip_cons_cons, List.map_cons, paired_zip t e, e _ _ h]
theorem paired_mem {K : Frg} {H : Hp} : ∀ {xs : List V} {ps : List (Int × Int)}, Paired (PairV K H) xs ps → ∀ x ∈ xs, ∃ p, PairV K H x p
  | _, _, .nil, x, h => by cases h
  | _, _, .cons h t, x, hx => by
    rcases List.mem_cons.mp hx with e | e
    · exact ⟨_, by rw [e]; exact h⟩
    · exact paired_mem t x e
theorem cr_sortQ : CallR X (.builtin "sorted") (rSortQ X.K) := by
  intro pins s σ H vs us Q I r h
  obtain ⟨a, xs, ps, rfl, hs, hp, q⟩ := h
  obtain ⟨u, rfl, ru⟩ := vals1 r
  obtain rfl : u = Value.ref a := ru
  have src : ∃ its : List Value, Vals xs its ∧ xs.length ≤ sizeLine ∧ (s.heap.IsList a its.toArray ∨ IsTup s.heap a its.toArray) := by
    rcases hs with hs | hs
    · obtain ⟨its, rv, hl, hz⟩ := I.list hs
      exact ⟨its, rv, hz, .inl hl.isList⟩
    · obtain ⟨its, rv, hl, hz⟩ := I.tuple hs
      exact ⟨its, rv, hz, .inr hl⟩
  obtain ⟨its, rv, hz, hl⟩ := src
  obtain ⟨e1, e2⟩ := refs_back rv fun x m => by
    obtain ⟨p, t, e, _⟩ := paired_mem hp x m
    exact ⟨t, e⟩
  have ez := paired_zip (k := keyV X.K H) hp fun x p h => keyV_eq I h
  have pr : ∀ v ∈ its, Srt.IsPair s.heap v (keyV X.K H (backV v)).1 (keyV X.K H (backV v)).2 := fun v hv => by
    obtain ⟨t, rfl⟩ := e2 v hv
    obtain ⟨p, hp'⟩ := paired_mem hp (V.ref t) (by rw [e1]; exact List.mem_map.mpr ⟨_, hv, rfl⟩)
    show Srt.IsPair s.heap _ (keyV X.K H (V.ref t)).1 (keyV X.K H (V.ref t)).2
    rw [keyV_eq I hp']
    obtain ⟨t', h1, h2⟩ := hp'
    cases h1
    obtain ⟨its2, r2, ⟨o, ho, hc, n, hd⟩, _⟩ := I.tuple h2
    obtain ⟨u1, u2, rfl, ri, rj⟩ := vals2 r2
    obtain ⟨t1, rfl⟩ := ri
    obtain ⟨t2, rfl⟩ := rj
    exact ⟨t, o, t1, t2, n, rfl, ho, hc, hd⟩
  have fin : ∀ (h' : Heap) (d : Addr) (out : List Value), SrtO.Srtd (fun v u => SrtO.lexB (keyV X.K H (backV v)) (keyV X.K H (backV u))) out → SrtO.Stb (fun v u => SrtO.lexB (keyV X.K H (backV v)) (keyV X.K H (backV u))) out its →
      (∀ b o, s.heap.get? b = some o → h'.get? b = some o) → s.heap.objs.size ≤ d → (∃ n, h'.get? d = some (seqObj "list" out.toArray n)) → EP X pins σ Q (.ref d) { s with heap := h' } := by
    intro h' d out h1 h2 kp hd hn
    have h3 : ∀ u ∈ out, ∃ a, u = Value.ref a := fun u hu => e2 u (h2.perm.mem_iff.mp hu)
    obtain ⟨n, hn⟩ := hn
    have eo : (out.map fun u => (backV u, keyV X.K H (backV u))).map (·.1) = out.map backV := by rw [List.map_map]; rfl
    have pm : (out.map fun u => (backV u, keyV X.K H (backV u))).Perm (xs.zip ps) := by
      rw [ez, e1, List.map_map]
      exact h2.perm.map _
    have g := q (out.map fun u => (backV u, keyV X.K H (backV u))) d pm (List.pairwise_map.mpr h1) (I.hok.fresh hd)
    rw [eo] at g
    refine ⟨.ref d, upd H d (.lst (out.map backV)), I.laid (t' := s.toks) kp hd ⟨?_, out, n, vals_back h3, hn⟩, rfl, g⟩
    rw [List.length_map, h2.perm.length_eq, ← rv.length]
    exact hz
  rcases hl with hl | hl
  · exact SrtO.sorted_pairsO (k := fun u => keyV X.K H (backV u)) hl (by rw [← rv.length]; exact hz) pr fun h' d out h1 h2 kp hd hn => fin h' d out h1 h2 kp hd hn
  · exact sorted_tup (k := fun u => keyV X.K H (backV u)) hl (by rw [← rv.length]; exact hz) pr fun h' out h1 h2 kp hn => fin h' _ out h1 h2 kp (Nat.le_succ _) hn
end
section
variable {C : Ct} {A A1 : AS} {te : TE}
theorem is_pair {K : Frg} {R H : Hp} (e : Ex R H) {p : Int × Int} {v : V} (h : Is K R (fr p) v) : PairV K H v p := by
  unfold fr at h
  rw [Is] at h
  obtain ⟨a, vs, rfl, h2, h3⟩ := h
  simp only [IsA, Is] at h3
  obtain ⟨x, w, rfl, rfl, x', w', rfl, rfl, rfl⟩ := h3
  exact ⟨a, rfl, e.t h2⟩
theorem isA_pairs {K : Frg} {R H : Hp} (e : Ex R H) : ∀ {ps : List (Int × Int)} {vs : List V}, IsA K R (ps.map fr) vs → Paired (PairV K H) vs ps ∧ ∀ z ∈ vs.zip ps, Is K R (fr z.2) z.1
  | [], vs, h => by
    rw [List.map_nil, IsA] at h
    subst h
    exact ⟨.nil, fun z hz => by cases hz⟩
  | p :: r, vs, h => by
    rw [List.map_cons, IsA] at h
    obtain ⟨v, w, rfl, h1, h2⟩ := h
    obtain ⟨a, b⟩ := isA_pairs e h2
    refine ⟨.cons (is_pair e h1) a, fun z hz => ?_⟩
    rw [List.zip_cons_cons] at hz
    rcases List.mem_cons.mp hz with e1 | e1
    · rw [e1]; exact h1
    · exact b z e1
theorem isA_ofZip {K : Frg} {R : Hp} : ∀ {zs : List (V × (Int × Int))}, (∀ z ∈ zs, Is K R (fr z.2) z.1) → IsA K R ((zs.map (·.2)).map fr) (zs.map (·.1))
  | [], _ => isA_nil
  | z :: r, h => isA_cons (h z (List.mem_cons_self ..)) (isA_ofZip fun y hy => h y (List.mem_cons_of_mem _ hy))
theorem sortQ_at {os1 : List (Option Addr)} {σ : L2.St} {H1 : Hp} {a : Addr} {vs : List V} {ps ms : List (Int × Int)} {Q : VK} (k1 : Ok C os1 A1 σ H1) (hs : SqL C.K H1 a vs ∨ SqT C.K H1 a vs) (h3 : IsA C.K (Rh C.O os1 H1) (ps.map fr) vs) (hq : ∀ qs, qs.Perm ps → qs.Pairwise (fun x y => SrtO.lexB y x = false) → qs = ms)
    (q : ∀ (d : Addr) (ws : List V), H1 d = none → IsA C.K (Rh C.O os1 H1) (ms.map fr) ws → Q (.ref d) (upd H1 d (.lst ws))) : rSortQ C.K [.ref a] H1 Q := by
  obtain ⟨p1, p2⟩ := isA_pairs (H := H1) hd_ex h3
  refine ⟨a, vs, ps, rfl, hs, p1, fun zs d hp hw hn => ?_⟩
  have hl : vs.length = ps.length := by rw [isA_len h3, List.length_map]
  have e1 : (zs.map (·.2)).Perm ps := by
    have := hp.map (·.2)
    rw [List.map_snd_zip (by omega)] at this
    exact this
  refine q d _ hn ?_
  rw [← hq _ e1 (List.pairwise_map.mpr hw)]
  exact isA_ofZip fun z hz => p2 z (hp.mem_iff.mp hz)
theorem e_sortQT {ps ms : List (Int × Int)} (h : EvS C te A (.tup (ps.map fr)) A1) (hq : ∀ qs, qs.Perm ps → qs.Pairwise (fun x y => SrtO.lexB y x = false) → qs = ms) : EvS C (tCB (rSortQ C.K) (tCons te tNil)) A (.lst (ms.map fr)) A1 := fun os σ H k Q q =>
  h os σ H k _ fun os1 v H1 k1 e1 i1 => by
    rw [Is] at i1
    obtain ⟨a, vs, rfl, h2, h3⟩ := i1
    refine sortQ_at k1 (.inr (hd_ex.t h2)) h3 hq fun d ws hn hi => q os1 _ _ (k1.monoN hn) (e1.trans (k1.gr (Ex.new hn))) ?_
    rw [Is]
    exact ⟨d, ws, rfl, SqL.of (k1.fresh hn), IsA.mono (hd_mono (Ex.new hn)) _ _ hi⟩
theorem e_sortQL {ps ms : List (Int × Int)} (h : EvS C te A (.lst (ps.map fr)) A1) (hq : ∀ qs, qs.Perm ps → qs.Pairwise (fun x y => SrtO.lexB y x = false) → qs = ms) : EvS C (tCB (rSortQ C.K) (tCons te tNil)) A (.lst (ms.map fr)) A1 := fun os σ H k Q q =>
  h os σ H k _ fun os1 v H1 k1 e1 i1 => by
    rw [Is] at i1
    obtain ⟨a, vs, rfl, h2, h3⟩ := i1
    refine sortQ_at k1 (.inl (hd_ex.l h2)) h3 hq fun d ws hn hi => q os1 _ _ (k1.monoN hn) (e1.trans (k1.gr (Ex.new hn))) ?_
    rw [Is]
    exact ⟨d, ws, rfl, SqL.of (k1.fresh hn), IsA.mono (hd_mono (Ex.new hn)) _ _ hi⟩
/-- a list in order is the one list in order of its members -/
theorem lex_one {ps : List (Int × Int)} (h : ps.Pairwise fun x y => SrtO.lexB y x = false) : ∀ qs : List (Int × Int), qs.Perm ps → qs.Pairwise (fun x y => SrtO.lexB y x = false) → qs = ps := fun qs hp hw =>
  List.Perm.eq_of_pairwise (le := fun x y => SrtO.lexB y x = false) (fun a b _ _ h1 h2 => by
    have q1 := SrtO.lexB_no.mp h1
    have q2 := SrtO.lexB_no.mp h2
    have e1 : a.1 = b.1 := by omega
    have e2 : a.2 = b.2 := by omega
    exact Prod.ext e1 e2) hw h hp
/-! ### a tuple that is known as an object -/
theorem is_tupZ {K : Frg} {H : Hp} {xs : List Dt} {v : V} (h : Is K H (.tupZ xs) v) : Is K H (.tup xs) v := by
  rw [Is] at h
  obtain ⟨a, o, vs, h1, h2, _, h3⟩ := h
  rw [Is]
  exact ⟨a, vs, h1, .inl (.inr ⟨o, h2⟩), h3⟩
theorem e_unZ {xs : List Dt} (h : EvS C te A (.tupZ xs) A1) : EvS C te A (.tup xs) A1 := fun os σ H k Q q => h os σ H k Q fun os1 v H1 k1 e1 i1 => q os1 v H1 k1 e1 (is_tupZ i1)
def rTupZ (K : Frg) : List V → Hp → VK → Prop := fun xs H Q => ∃ p ys, xs = [.ref p] ∧ SqL K H p ys ∧ ∀ l o, o.dict = none → H l = none → Q (.ref l) (upd H l (.frz o (.tup ys)))
def rDictZ (K : Frg) : List V → Hp → VK → Prop := fun xs H Q => ∃ (a : Addr) (o : Obj) (ps : List Addr) (kvs : List (Key × V)), xs = [.ref a] ∧ H a = some (.frz o (.tup (ps.map V.ref))) ∧ o.dict = none ∧ Paired (fun p kv => SqT K H p [kV kv.1, kv.2]) ps kvs ∧
    ∀ p, H p = none → Q (.ref p) (upd H p (.dK (mergeK [] kvs)))
/-- tuple(xs), xs one's own -/
theorem e_tupOZ {i n : Nat} {xs : List Dt} (h1 : A.sl[i]? = some (.own n)) (h2 : A.st[n]? = some (.lst xs)) : EvS C (tCB (rTupZ C.K) (tCons (tVar i) tNil)) A (.tupZ xs) A := fun os σ H k Q q => by
  obtain ⟨o, e1, a, e2, e3⟩ := k.slot h1
  subst e2
  obtain ⟨o3, s1, a3, vs, s2, s3, s4⟩ := k.store h2
  rw [e3] at s1; cases s1; cases s2
  refine ⟨_, e1, a, vs, rfl, SqL.of s3, fun l o ho hl => q os _ _ (k.monoN hl) (k.gr (Ex.new hl)) ?_⟩
  rw [Is]
  exact ⟨l, o, vs, rfl, k.fresh hl, ho, IsA.mono (hd_mono (Ex.new hl)) _ _ s4⟩
/-- len(dict(rows)), the first parts all different -/
theorem e_lenDictZ {ps : List (Int × Int)} (h : EvS C te A (.tupZ (ps.map fr)) A1) (hd : (ps.map (·.1)).Nodup) : EvS C (tCB (fun xs H Q => ∃ a kvs, xs = [V.ref a] ∧ H a = some (.dK kvs) ∧ Q (.int kvs.length) H) (tCons (tCB (rDictZ C.K) (tCons te tNil)) tNil)) A (di ps.length) A1 := fun os σ H k Q q =>
  h os σ H k _ fun os1 v H1 k1 e1 i1 => by
    rw [Is] at i1
    obtain ⟨a, o, vs, rfl, h2, h4, h3⟩ := i1
    obtain ⟨p1, _⟩ := isA_pairs (H := H1) hd_ex h3
    have tell : ∀ {vs : List V} {ps : List (Int × Int)}, Paired (PairV C.K H1) vs ps → ∃ as : List Addr, vs = as.map V.ref ∧ Paired (fun p (kv : Key × V) => SqT C.K H1 p [kV kv.1, kv.2]) as (ps.map fun p => (Sum.inl p.1, V.int p.2)) := by
      intro vs ps r
      induction r with
      | nil => exact ⟨[], rfl, .nil⟩
      | cons hh _ ih =>
        obtain ⟨as, z1, z2⟩ := ih
        obtain ⟨t, rfl, ht⟩ := hh
        exact ⟨t :: as, by rw [z1]; rfl, .cons ht z2⟩
    obtain ⟨as, rfl, pp⟩ := tell p1
    refine ⟨a, o, as, _, rfl, hd_ex a _ h2 nt_f, h4, pp, fun d hn => ⟨d, _, rfl, upd_same, ?_⟩⟩
    have el : (mergeK [] (ps.map fun p => ((Sum.inl p.1 : Key), V.int p.2))).length = ps.length := by
      have go : ∀ (qs : List (Int × Int)) (acc : List (Key × V)), (qs.map (·.1)).Nodup → (∀ q ∈ qs, ∀ kv ∈ acc, kv.1 ≠ Sum.inl q.1) → (mergeK acc (qs.map fun p => ((Sum.inl p.1 : Key), V.int p.2))).length = acc.length + qs.length := by
        intro qs
        induction qs with
        | nil => intro acc _ _; rfl
        | cons x r ih =>
          intro acc hn ha
          rw [List.map_cons] at hn
          obtain ⟨n1, n2⟩ := List.nodup_cons.mp hn
          have ne : (acc.any fun kv => decide (kv.1 = (Sum.inl x.1 : Key))) = false := by
            rw [List.any_eq_false]
            intro kv hk z
            exact ha x (List.mem_cons_self ..) kv hk (of_decide_eq_true z)
          have ep : putK acc (Sum.inl x.1 : Key) (V.int x.2) = acc ++ [(Sum.inl x.1, V.int x.2)] := by
            unfold putK
            rw [if_neg (by rw [ne]; decide)]
          show (mergeK (putK acc (Sum.inl x.1) (V.int x.2)) _).length = _
          rw [ep, ih _ n2 fun q hq kv hk => ?_]
          · simp; omega
          · rcases List.mem_append.mp hk with z | z
            · exact ha q (List.mem_cons_of_mem _ hq) kv z
            · simp at z
              rw [z]
              intro e
              injection e with e
              exact n1 (by rw [e]; exact List.mem_map.mpr ⟨q, hq, rfl⟩)
      rw [go ps [] hd fun _ _ kv hk => by cases hk]
      simp
    rw [el]
    exact q os1 _ _ (k1.monoN hn) (e1.trans (k1.gr (Ex.new hn))) is_v
end
end Py
end

section
set_option Elab.async false
set_option linter.all false
set_option maxRecDepth 100000
set_option maxHeartbeats 4000000
set_option autoImplicit false
namespace Py
open PySem PySem.Spec PyProof.Rows L2
theorem takesF {X : Cx} {A : Around} {outer : List Env} {s : Shared} {H : Hp} {E : XK} {scope : Scope} {f c' : Addr} : Takes (LamX.lamCx X A outer s H E scope f c') (fun cls d _ H => E cls d H) := takes_of rfl rfl rfl rfl
/-- what a lambda's body calls lets out is what the lambda lets out -/
theorem psF {X : Cx} {A : Around} {outer : List Env} {s : Shared} {H : Hp} {E : XK} {scope : Scope} {f c' : Addr} : Passes (L2.CX (LamX.lamCx X A outer s H E scope f c').prog (LamX.lamCx X A outer s H E scope f c').w) (LamX.lamCx X A outer s H E scope f c') E := passes_call takesF fun _ _ _ _ h => h
/-- x(lambda: body), x a def that tries the call, and answers a text for an error -/
theorem pe_told {X : Cx} {T : List (Addr × Str)} {x a e ret : Str} {stT : Stmt} {CS : Addr} {f : Str} {k j : Nat} {p1 p2 p3 p4 p5 p6 p7 p8 : Pos} {params : Arguments} {body : Expr} {scope : Scope} {t : XK → TE} {p lpos pos : Pos}
    (F : ∃ fd, FunD X.K x x (defArgs stT) (defBody stT) (defScope stT) [] [] (He.ga X.K x) fd) (hm : X.mg x = some (.ref (He.ga X.K x)))
    (hbod : defBody stT = [.Try [.Return (some (.Call (.Name a p1) [] [] p2)) p3] [.ExceptHandler (some (.Name e p4)) none [.Return (some (.Constant (.str ret) j p5)) p6] p7] [] [] p8])
    (Sg : FnScope [a] [a] (defScope stT)) (hva : Vis (defScope stT) a) (hge : (defScope stT).names.lookup e = some .globalImplicit) (hde : (e == ("__debug__" : Str)) = false) (hme : X.mg e = some (.ref CS))
    (hbT : ∀ (kV doc pm : Value) (an : Option Addr) (cdv ct : Value) (us : List Value), us.length = 1 → bindArgs (PySem.W.fnOf x x (defArgs stT) (defBody stT) (defScope stT) .none kV doc pm an cdv ct) ⟨us, []⟩ = pure ([a].zip us))
    (LB : LamB X.K X.base X.mg T f) (hq : X.env.qual ++ "<lambda>" = lamQ f) (hcode : X.env.code = .ref (He.cT X.K (f, none)).1) (hr : Room (k + 2) X.A) (L : LamX.LamS X.env.scope scope) (hdef : defaultsOf params X.env = ([], []))
    (hbind : ∀ (q : Str) (cl : List (Str × Addr)) (pm cv ctv : Value), bindArgs (PySem.W.kla_fn "<lambda>" q params body scope cl pm cv ctv) ⟨[], []⟩ = pure [])
    (hbody : ∀ (A : Around) (outer : List Env) (s : Shared) (H : Hp) (E : XK) (f c' : Addr), Room k (A.deeper (LamX.lamEnv X scope s.heap.objs.size f c')) → PE (LamX.lamCx X A outer s H E scope f c') body (t E))
    (hg : Gl X x := by rfl) (hdb : (x == ("__debug__" : Str)) = false := by decide) (hd : (a == ("__debug__" : Str)) = false := by decide) (hcd : (a == ("__classdict__" : Str)) = false := by decide) :
    PE X (.Call (.Name x p) [.Lambda params body scope lpos] [] pos) (LamX.tLam T (LamX.TTold X.K CS ret) t) := by
  obtain ⟨fd, F⟩ := F
  have kb := F.bindsN (ps := [a]) hbT
  have kp := F.kp
  obtain ⟨oc, od, dV, kV, doc, pm, an, cdv, ct, osl, e1, lk, hc⟩ := fnd_of F
  subst e1
  refine LamX.pe_lamcall (k := k) hg hm kp lk hc kb Sg rfl hva ?_ LB.tb hcode (by rw [hq]; exact LB.mm) (by rw [hq]; exact LB.hu) hr L hdef hbind hbody hdb hd hcd
  rw [hbod]
  exact LamX.told_gives hge hme hde fun _ => rfl
end Py
end

section
set_option Elab.async false
set_option linter.all false
set_option maxRecDepth 100000
set_option maxHeartbeats 4000000
set_option autoImplicit false
namespace Py
open PySem PySem.Spec PyProof.Rows L2
/-! ### {k: v, ..}, d[k] -/
def EvPs (C : Ct) (trs : List (TE × TE)) (A : AS) (ks : List Key) (xs : List Dt) (A1 : AS) : Prop := ∀ os σ H, Ok C os A σ H → ∀ Q : List (V × V) → Hp → Prop, (∀ os' vs H', Ok C os' A1 σ H' → Gr C.O os H os' H' → IsA C.K (Rh C.O os' H') xs vs → Q ((ks.map kV).zip vs) H') → tPairs trs σ H Q
theorem tabs_dk {T : List (Addr × Str)} {H : Hp} {p : Addr} {ks ls : List (Key × V)} (t : LamX.Tabs T H) (hp : H p = some (.dK ks)) : LamX.Tabs T (upd H p (.dK ls)) := fun q hq => by
  obtain ⟨ps, h1, h2, h3⟩ := t q hq
  refine ⟨ps, ?_, h2, fun pos cv hc => ?_⟩
  · rw [upd_ne (ne_of h1 hp (fun z => by cases z))]
    exact h1
  · obtain ⟨c, e1, e2⟩ := h3 pos cv hc
    refine ⟨c, e1, ?_⟩
    rw [upd_ne (ne_of e2 hp (fun z => by unfold LamX.CodeO at z; cases z))]
    exact e2
section
variable {C : Ct} {E : XK} {A A1 A2 A3 : AS} {σ : L2.St} {H H' : Hp} {os os' : List (Option Addr)} {p : Addr} {tk tv td ty ta tb tc : TE} {trs : List (TE × TE)} {ks : List Key} {xs : List Dt} {d x y z : Dt}
theorem Ok.updK {us ws : List (Key × V)} (k : Ok C os A σ H) (h : p ∈ C.O) (h0 : ∀ o, C.H0 p = some o → ¬ NoT o) (hl : H p = some (.dK us)) : Ok C os A σ (upd H p (.dK ws)) := by
  refine ⟨fun a o e n => ?_, tabs_dk k.tb hl, fun a m => ?_, k.dj, k.ln, k.nd, fun a m => ?_, k.sn, fun i s o h1 h2 => ?_, fun i s o h1 h2 => ?_⟩
  · rw [upd_ne fun z => h0 o (by rw [← z]; exact e) n]
    exact k.ex _ _ e n
  · by_cases e : a = p
    · rw [e]; exact ⟨_, upd_same, nt_k⟩
    · rw [upd_ne e]; exact k.ol a m
  · rw [upd_ne fun z => k.dj p h (by rw [← z]; exact m)]
    exact k.fr a m
  · rw [Rh_updO h]
    exact k.sl i s o h1 h2
  · rw [Rh_updO h]
    have q := k.st i s o h1 h2
    cases s with
    | gone => exact q
    | lst zs =>
      obtain ⟨a, us, q1, q2, q3⟩ := q
      exact ⟨a, us, q1, by rw [upd_ne fun z => k.dj p h (by rw [← z, ← q1]; exact List.mem_of_getElem? h2)]; exact q2, q3⟩
theorem ps_nil : EvPs C [] A [] [] A := fun os σ H k Q q => q os [] H k Gr.refl isA_nil
theorem ps_cons {k0 : Key} (hk : EvS C tk A (.v (kV k0)) A1) (hv : EvS C tv A1 x A2) (hr : EvPs C trs A2 ks xs A3) : EvPs C ((tk, tv) :: trs) A (k0 :: ks) (x :: xs) A3 := fun os σ H k Q q =>
  hk os σ H k _ fun os1 v1 H1 k1 e1 i1 => hv os1 σ H1 k1 _ fun os2 v2 H2 k2 e2 i2 => hr os2 σ H2 k2 _ fun os3 vs H3 k3 e3 i3 => by
    rw [Is.v_iff.mp i1]
    exact q os3 (v2 :: vs) H3 k3 ((e1.trans e2).trans e3) (isA_cons (Is.mono e3.e _ _ i2) i3)
theorem merge_nd : ∀ (kvs acc : List (Key × V)), (acc ++ kvs).map (·.1) |>.Nodup → mergeK acc kvs = acc ++ kvs
  | [], acc, _ => by rw [List.append_nil]; rfl
  | kv :: r, acc, h => by
    have ne : (acc.any fun q => decide (q.1 = kv.1)) = false := by
      rw [List.any_eq_false]
      intro q hq z
      rw [List.map_append, List.nodup_append] at h
      exact h.2.2 _ (List.mem_map.mpr ⟨q, hq, rfl⟩) _ (List.mem_map.mpr ⟨kv, List.mem_cons_self .., rfl⟩) (of_decide_eq_true z)
    show mergeK (putK acc kv.1 kv.2) r = _
    unfold putK
    rw [if_neg (by rw [ne]; decide)]
    rw [merge_nd r (acc ++ [(kv.1, kv.2)]) (by simpa [List.append_assoc] using h)]
    simp
theorem zip_kV : ∀ (ks : List Key) (vs : List V), (ks.map kV).zip vs = (ks.zip vs).map fun kv => (kV kv.1, kv.2)
  | [], _ => rfl
  | _ :: _, [] => rfl
  | k :: ks, v :: vs => by rw [List.map_cons, List.zip_cons_cons, List.zip_cons_cons, List.map_cons, zip_kV ks vs]
theorem e_disp (h : ∀ O, EvPs ⟨C.K, C.T, C.H0, O⟩ trs A ks xs A1) (nd : ks.Nodup) (hl : ks.length ≤ 15) (hx : xs.length = ks.length) : EvS C (tDisp trs) A (.dct ks xs) A1 := fun os σ H k Q q p hp => by
  have k1 := k.hide hp (nt_k (kvs := []))
  refine h (p :: C.O) os σ _ k1 _ fun os2 vs H2 k2 g2 i2 => ⟨(g2.o p (List.mem_cons_self ..)).trans upd_same, ks.zip vs, zip_kV ks vs, ?_, ?_⟩
  · rw [List.length_zip]; omega
  · have hp2 : H2 p = some (.dK []) := (g2.o p (List.mem_cons_self ..)).trans upd_same
    have hv := isA_len i2
    rw [merge_nd (ks.zip vs) [] (by rw [List.nil_append, List.map_fst_zip (by omega)]; exact nd), List.nil_append]
    have k3 : Ok (C.hide p) os2 A1 σ (upd H2 p (.dK (ks.zip vs))) := Ok.updK (C := C.hide p) k2 (List.mem_cons_self ..) (fun o e => fresh_0 (C := C) k hp o e) hp2
    refine q os2 _ _ k3.unhide ⟨?_, fun a ha => ?_, g2.p⟩ ?_
    · have e := g2.e
      rw [Rh_hide hp] at e
      refine e.trans ?_
      rw [← Rh_updO (o := .dK (ks.zip vs)) (List.mem_cons_self ..)]
      exact Rh_unhide
    · rw [upd_ne fun z => fresh_O k hp (by rw [← z]; exact ha), g2.o a (List.mem_cons_of_mem _ ha), upd_ne fun z => fresh_O k hp (by rw [← z]; exact ha)]
    · rw [Is]
      refine ⟨p, vs, rfl, ?_, ?_⟩
      · show hd _ _ p = _
        rw [hd_of fun z => ?_, upd_same]
        rcases mem_hid.mp z with z | z
        · exact fresh_O k hp z
        · exact k2.dj p (List.mem_cons_self ..) z
      · refine IsA.mono ?_ _ _ i2
        rw [← Rh_updO (o := .dK (ks.zip vs)) (List.mem_cons_self ..)]
        exact Rh_unhide
theorem dct_get {K : Frg} {R : Hp} {k0 : Key} : ∀ {ks : List Key} {xs : List Dt} {vs : List V}, IsA K R xs vs → ((ks.zip xs).find? fun q => decide (q.1 = k0)).map (·.2) = some d → ∃ v, valV (ks.zip vs) k0 = some v ∧ Is K R d v
  | [], xs, vs, h, e => by simp at e
  | k :: ks, [], vs, h, e => by simp at e
  | k :: ks, x :: xs, vs, h, e => by
    rw [IsA] at h
    obtain ⟨v, w, rfl, h1, h2⟩ := h
    unfold valV
    rw [List.zip_cons_cons] at e ⊢
    by_cases q : k = k0
    · rw [List.find?_cons_of_pos (by simpa using q)] at e ⊢
      cases e
      exact ⟨v, rfl, h1⟩
    · rw [List.find?_cons_of_neg (by simpa using q)] at e ⊢
      exact dct_get h2 e
theorem e_dget {k0 : Key} (h1 : EvS C td A (.dct ks xs) A1) (h2 : EvS C ty A1 (.v (kV k0)) A2) (h : ((ks.zip xs).find? fun q => decide (q.1 = k0)).map (·.2) = some d) : EvS C (tDGet td ty) A d A2 := fun os σ H k Q q =>
  h1 os σ H k _ fun os1 v1 H1 k1 e1 i1 => h2 os1 σ H1 k1 _ fun os2 v2 H2 k2 e2 i2 => by
    rw [Is.v_iff.mp i2]
    have i1 := Is.mono e2.e _ _ i1
    rw [Is] at i1
    obtain ⟨a, vs, rfl, g1, g2⟩ := i1
    obtain ⟨v, z1, z2⟩ := dct_get g2 h
    exact ⟨a, v, rfl, .inl ⟨_, k0, .inl (hd_ex a _ g1 nt_k), rfl, z1.symm⟩, q os2 v H2 k2 (e1.trans e2) z2⟩
end
/-- a difference of two truths -/
def rSubB : R2 := fun x y H Q => ∃ p q : Bool, x = .bl p ∧ y = .bl q ∧ Q (.int ((if p then 1 else 0) - (if q then 1 else 0))) H
theorem op_subBB {X : Cx} : OpR X (binaryOp .Sub) rSubB := by
  intro pins s σ H x y v u Q I rx ry h
  obtain ⟨p, q, rfl, rfl, h⟩ := h
  cases rx
  cases ry
  exact PyProof.Rows.sub_bool ⟨.int _, H, I.tok _, ⟨_, rfl⟩, h⟩
theorem o_subBB {C : Ct} {p q : Bool} : OpS C rSubB (db p) (db q) (di ((if p then 1 else 0) - (if q then 1 else 0))) := o_v fun H Q h => ⟨p, q, rfl, rfl, h⟩
end Py
end

section
set_option Elab.async false
set_option linter.all false
set_option maxRecDepth 100000
set_option maxHeartbeats 4000000
set_option autoImplicit false
namespace Py
open PySem PySem.Spec PyProof.Rows L2
/-! ### a comprehension over a tuple -/
section
variable {C : Ct} {A A1 A2 A3 : AS} {te tl : TE} {tt : TT} {g : TG} {ws : List Nat}
theorem e_lcT {xs : List Dt} (he : EvS C tl A (.tup xs) A1) (B : Nat → AS) (Y : Nat → List Dt) (h0 : A1 = B 0) (hY : Y 0 = [])
    (hs : ∀ i x, xs[i]? = some x → ∀ O, LcT ⟨C.K, C.T, C.H0, O⟩ g tt te ws x (B i) (Y i) (B (i + 1)) (Y (i + 1))) (hn : xs.length < 100000) : EvS C (tLc (iTup C.K tl) g tt te ws) A (.lst (Y xs.length)) (B xs.length) := fun os σ H k Q q =>
  he os σ H k _ fun os1 v H1 k1 g1 i1 => by
    rw [Is] at i1
    obtain ⟨a, vs, rfl, h1, h2⟩ := i1
    refine ⟨a, rfl, ⟨vs, hd_ex.t h1⟩, fun p hp => ?_⟩
    have hl : ∀ i, i ≤ xs.length → (Y i).length ≤ i := by
      intro i
      induction i with
      | zero => intro _; rw [hY]; exact Nat.le_refl _
      | succ i ih =>
        intro hi
        obtain ⟨_, _, _, _, _, h⟩ := hs i xs[i] (List.getElem?_eq_getElem hi) []
        rcases h with ⟨_, _, _, _, e, _⟩ | ⟨_, e, _⟩ <;> rw [e] <;> have := ih (by omega) <;> (try simp only [List.length_append, List.length_singleton]) <;> omega
    subst h0
    have el : vs.length = xs.length := isA_len h2
    refine lc_tup (K := C.K) (a := a) (xs := vs) (fun i H' => ∃ os' acc, Ok (C.hide p) os' (B i) σ H' ∧ GrP p C.O os1 (upd H1 p (.lst [])) os' H' ∧ H' p = some (.lst acc) ∧ IsA C.K (Rh (p :: C.O) os' H') (Y i) acc) ⟨os1, [], k1.hide hp nt_l, ⟨Ex.refl _, fun _ _ => rfl, fun _ _ h => h⟩, upd_same, by rw [hY]; exact isA_nil⟩ (fun i H' _ ⟨os', acc, k', g', hp', ha⟩ => ?_) ?_ ?_
    · have e := g'.e
      rw [Rh_hide hp] at e
      exact hd_ex.t (e.t h1)
    · rintro i x H' hi ⟨os', acc, k', g', hp', ha⟩
      obtain ⟨d, hd', hi'⟩ := isA_get' h2 hi
      have e := g'.e
      rw [Rh_hide hp] at e
      exact lc_turn (hs i d hd' _) k' hp' ha (Is.mono e _ _ hi') (fresh_0 k1 hp) (fresh_O k1 hp) (by have := hl i (by have := (List.getElem?_eq_some_iff.mp hd').1; omega); have := (List.getElem?_eq_some_iff.mp hd').1; omega) _ fun os2 acc2 H2 k2 g2 hp2 ha2 => ⟨os2, acc2, k2, g'.trans g2, hp2, ha2⟩
    · rintro H' ⟨os', acc, k', g', hp', ha⟩
      rw [el] at k' ha
      exact lc_end k1 hp k' g' hp' ha fun os2 v H2 k2 g2 i2 => q os2 v H2 k2 (g1.trans g2) i2
end
theorem w_rng2n {C : Ct} {A A1 : AS} {tl : TA} {m n : Int} {c : Nat} (h : EvA C tl A [di m, di n] A1) (e : (n - m).toNat = c) (hm : -(2 ^ 62) ≤ m ∧ m < 2 ^ 62) (hn : -(2 ^ 62) ≤ n ∧ n < 2 ^ 62) : ∀ os σ H, Ok C os A σ H → ∀ R : It → Hp → Prop, (∀ os' H', Ok C os' A1 σ H' → Gr C.O os H os' H' → R (Itr m c) H') → iRng2 tl σ H R := by
  subst e
  exact w_rng2 h hm hn
theorem w_rng1n {C : Ct} {A A1 : AS} {tl : TA} {n : Int} {c : Nat} (h : EvA C tl A [di n] A1) (e : n.toNat = c) (hn : -(2 ^ 62) ≤ n ∧ n < 2 ^ 62) : ∀ os σ H, Ok C os A σ H → ∀ R : It → Hp → Prop, (∀ os' H', Ok C os' A1 σ H' → Gr C.O os H os' H' → R (Itr 0 c) H') → iRng1 tl σ H R := by
  subst e
  exact w_rng1 h hn
theorem pi_listK {X : Cx} {K : Frg} {tg : Expr} {l : Expr} {tl : TE} (hk : X.K = K) (hl : PE X l tl) : PI X tg l (iList K tl) := by
  subst hk
  exact pi_list hl
theorem pi_tupK {X : Cx} {K : Frg} {tg : Expr} {l : Expr} {tl : TE} (hk : X.K = K) (hl : PE X l tl) : PI X tg l (iTup K tl) := by
  subst hk
  exact pi_tup hl
/-- the scope of a comprehension that a statement gives to a name -/
def lcScope : Stmt → Scope
  | .Assign _ (.ListComp _ _ sc _) _ => sc
  | _ => default
theorem rel_lookup {env : Env} {x : Str} : ∀ {names : List (Str × NameKind)}, names.lookup x = some .cell ∨ names.lookup x = some .free →
    (names.map fun (n, k) => if (k == NameKind.free && env.scope.kind == .function && env.kindOf n == some .cell) then (n, NameKind.cell) else (n, k)).lookup x = some .cell ∨ (names.map fun (n, k) => if (k == NameKind.free && env.scope.kind == .function && env.kindOf n == some .cell) then (n, NameKind.cell) else (n, k)).lookup x = some .free
  | [], h => by simp at h
  | (n, k) :: r, h => by
    have ih := rel_lookup (env := env) (x := x) (names := r)
    rw [List.map_cons]
    dsimp only
    rw [List.lookup_cons] at h
    split
    · rw [List.lookup_cons]
      split
      · exact .inl rfl
      · rename_i q
        rw [q] at h
        exact ih h
    · rw [List.lookup_cons]
      split
      · rename_i q
        rw [q] at h
        exact h
      · rename_i q
        rw [q] at h
        exact ih h
theorem blkOk_rel {env : Env} {N : List Str} {sc scope : Scope} {own : List (Str × Nat)} (h : BlkOk N sc scope own) : BlkOk N (relabel sc env) scope own := ⟨h.kind, h.uniq, h.ix, fun y hy e => rel_lookup (env := env) (h.free y hy e), h.own⟩
theorem pg_tupK {X : Cx} {K : Frg} {es : List Expr} {k : Nat} {t : TGs} {n : Nat} {pos : Pos} (hk : X.K = K) (hc : X.calm = true) (h : PGs X es t) (hn : (assignEach es X.env).length = n := by rfl) (hst : (assignEach es X.env).findIdx? (·.1) = none := by rfl) : PG X (.Tuple es k pos) (gTup K n t) := by
  subst hk
  exact pg_tup hc h hn hst
end Py
end

section
set_option Elab.async false
set_option linter.all false
set_option maxRecDepth 100000
set_option maxHeartbeats 4000000
set_option autoImplicit false
namespace Py
open PySem PySem.Spec PyProof.Rows L2
/-! ### a list of one's own given to a def that only reads it -/
section
variable {C : Ct} {E : XK} {A A1 A2 : AS} {te : TE} {tl tr : TA} {d : Dt} {ss : List SD}
theorem p_own {i n : Nat} (h1 : A.sl[i]? = some (.own n)) (hr : EvP C tr A ss A1) : EvP C (tCons (tVar i) tr) A (.own n :: ss) A1 := fun os σ H k Q q => by
  obtain ⟨o, e1, a, e2, e3⟩ := k.slot h1
  subst e2
  exact ⟨_, e1, hr os σ H k _ fun os2 ws H2 k2 g2 i2 => q os2 _ H2 k2 g2 ⟨_, ws, rfl, ⟨a, rfl, g2.p _ _ e3⟩, i2⟩⟩
def SdD (A : AS) : List SD → List Dt → Prop
  | [], ds => ds = []
  | .d x :: ss, ds => ∃ r, ds = x :: r ∧ SdD A ss r
  | .own n :: ss, ds => ∃ xs r, A.st[n]? = some (.lst xs) ∧ ds = .lst xs :: r ∧ SdD A ss r
  | .un :: _, _ => False
theorem sd_nil : SdD A [] [] := rfl
theorem sd_d {x : Dt} {r : List Dt} (h : SdD A ss r) : SdD A (.d x :: ss) (x :: r) := ⟨r, rfl, h⟩
theorem sd_own {n : Nat} {xs : List Dt} {r : List Dt} (h1 : A.st[n]? = some (.lst xs)) (h : SdD A ss r) : SdD A (.own n :: ss) (.lst xs :: r) := ⟨xs, r, h1, rfl, h⟩
theorem sd_isA {os : List (Option Addr)} {σ : Sg} {H : Hp} (k : Ok C os A σ H) : ∀ {ss : List SD} {ds : List Dt} {vs : List V}, SdD A ss ds → SlA C.K os (Rh C.O os H) ss vs → IsA C.K (hd C.O H) ds vs
  | [], ds, vs, h, i => by
    obtain rfl : ds = [] := h
    obtain rfl : vs = [] := i
    exact isA_nil
  | .d x :: ss, ds, vs, h, i => by
    obtain ⟨r, rfl, h⟩ := h
    obtain ⟨v, w, rfl, h1, h2⟩ := i
    obtain ⟨v', e, h1⟩ := h1
    cases e
    exact isA_cons (Is.mono hid_ex _ _ h1) (sd_isA k h h2)
  | .own n :: ss, ds, vs, h, i => by
    obtain ⟨xs, r, h1, rfl, h⟩ := h
    obtain ⟨v, w, rfl, h2, h3⟩ := i
    obtain ⟨a, e, h2⟩ := h2
    cases e
    obtain ⟨o, e1, a', us, e2, e3, e4⟩ := k.store h1
    rw [h2] at e1; cases e1; cases e2
    refine isA_cons ?_ (sd_isA k h h3)
    rw [Is]
    refine ⟨a, us, rfl, SqL.of ?_, IsA.mono hid_ex _ _ e4⟩
    rw [hd_of fun z => ?_]
    · exact e3
    · exact k.dj a z (List.mem_of_getElem? h2)
mutual
/-- no list in it -/
def pl : Dt → Bool
  | .v _ => true
  | .tup xs => plA xs
  | .lst _ => false
  | .obj .. => false
  | .dct .. => false
  | .tupZ _ => false
  | .lam _ _ => false
  | .lstN _ => false
def plA : List Dt → Bool
  | [] => true
  | x :: r => pl x && plA r
end
mutual
theorem is_hide {K : Frg} {O O' : List Addr} {H : Hp} (hH : ∀ a ∈ O, a ∉ O' → ∃ xs, H a = some (.lst xs)) : ∀ (d : Dt) (v : V), pl d = true → Is K (hd O' H) d v → Is K (hd O H) d v
  | .v x, v, _, h => by rw [Is] at h ⊢; exact h
  | .tup xs, v, e, h => by
    rw [Is] at h ⊢
    obtain ⟨a, vs, h1, h2, h3⟩ := h
    refine ⟨a, vs, h1, ?_, isA_hide hH xs vs (by rw [pl] at e; exact e) h3⟩
    have st : ∀ o, hd O' H a = some o → (∀ xs, o ≠ .lst xs) → hd O H a = some o := fun o q n => by
      have q0 := q
      unfold hd at q
      split at q
      · cases q
      · rename_i z
        unfold hd
        rw [if_neg fun y => ?_]
        · exact q
        · obtain ⟨xs, e⟩ := hH a y z
          rw [e] at q
          cases q
          exact n xs rfl
    rcases h2 with (h2 | ⟨o, h2⟩) | h2
    · exact .inl (.inl (st _ h2 fun _ z => by cases z))
    · exact .inl (.inr ⟨o, st _ h2 fun _ z => by cases z⟩)
    · exact .inr h2
  | .lst _, _, e, _ => by rw [pl] at e; cases e
  | .obj .., _, e, _ => by rw [pl] at e; cases e
  | .dct .., _, e, _ => by rw [pl] at e; cases e
  | .tupZ _, _, e, _ => by rw [pl] at e; cases e
  | .lam _ _, _, e, _ => by rw [pl] at e; cases e
  | .lstN _, _, e, _ => by rw [pl] at e; cases e
theorem isA_hide {K : Frg} {O O' : List Addr} {H : Hp} (hH : ∀ a ∈ O, a ∉ O' → ∃ xs, H a = some (.lst xs)) : ∀ (ds : List Dt) (vs : List V), plA ds = true → IsA K (hd O' H) ds vs → IsA K (hd O H) ds vs
  | [], vs, _, h => by rw [IsA] at h ⊢; exact h
  | d :: r, vs, e, h => by
    rw [IsA] at h ⊢
    rw [plA, Bool.and_eq_true] at e
    obtain ⟨v, w, h1, h2, h3⟩ := h
    exact ⟨v, w, h1, is_hide hH d v e.1 h2, isA_hide hH r w e.2 h3⟩
end
theorem st_lst {os : List (Option Addr)} {σ : Sg} {H : Hp} (k : Ok C os A σ H) (hst : ∀ s ∈ A.st, ∃ xs, s = .lst xs) {a : Addr} (h : some a ∈ os) : ∃ xs, H a = some (.lst xs) := by
  obtain ⟨j, hj⟩ := List.getElem?_of_mem h
  have hl : j < A.st.length := by rw [← k.ln]; exact (List.getElem?_eq_some_iff.mp hj).1
  obtain ⟨xs, e⟩ := hst A.st[j] (List.getElem_mem hl)
  obtain ⟨o, e1, a', us, e2, e3, _⟩ := k.store (i := j) (s := .lst xs) (by rw [← e]; exact List.getElem?_eq_getElem hl)
  rw [hj] at e1; cases e1; cases e2
  exact ⟨us, e3⟩
theorem e_callP {g : List Dt → Rs → Prop} {E' : XK} {ds : List Dt} (ha : EvP C tl A ss A1) (hd' : SdD A1 ss ds) (hst : ∀ s ∈ A1.st, ∃ xs, s = .lst xs) (hp : pl d = true) (hg : g ds (.ok d)) : EvS C (tCall (spD C.K C.T g) [] E' tl) A d A1 := fun os σ H k Q q =>
  ha os σ H k _ fun os1 vs H1 k1 e1 i1 => ⟨C.O, ds, .ok d, fun a h => k1.ol a h, k1.tb, by rw [List.append_nil]; exact sd_isA k1 hd' i1, hg, fun v H' e t i => q os1 v H' (k1.mono e t) (e1.trans (k1.gr e)) (is_hide (fun a h n => by
    rcases mem_hid.mp h with h | h
    · exact absurd h n
    · obtain ⟨xs, z⟩ := st_lst k1 hst h
      exact ⟨xs, e _ _ z nt_l⟩) d v hp i)⟩
end
end Py
end

section
set_option linter.all false
set_option autoImplicit false
-- series of fractions, without end: sums, products, slopes, what is put in, undoing
namespace Sr
abbrev S := Nat → Rat
theorem nc (n : Nat) : ((n + 1 : Nat) : Rat) = (n : Rat) + 1 := by push_cast; rfl
def tl (f : S) : S := fun n => f (n + 1)
def mul (f g : S) : Nat → Rat
  | 0 => f 0 * g 0
  | n + 1 => f 0 * g (n + 1) + mul (tl f) g n
def add (f g : S) : S := fun n => f n + g n
def sc (c : Rat) (f : S) : S := fun n => c * f n
def cst (c : Rat) : S := fun n => if n = 0 then c else 0
def zer : S := fun _ => 0
def th (f : S) : S := fun n => (n : Rat) * f n
def X : S := fun n => if n = 1 then 1 else 0
def pw (f : S) : Nat → S
  | 0 => cst 1
  | n + 1 => mul (pw f n) f

theorem mul_0 (f g : S) : mul f g 0 = f 0 * g 0 := rfl
theorem mul_s (f g : S) (n : Nat) : mul f g (n + 1) = f 0 * g (n + 1) + mul (tl f) g n := rfl
theorem mul_congr {f f' g g' : S} {n : Nat} (h : ∀ k, k ≤ n → f k = f' k) (h' : ∀ k, k ≤ n → g k = g' k) : mul f g n = mul f' g' n := by
  induction n generalizing f f' with
  | zero => rw [mul_0, mul_0, h 0 (Nat.le_refl 0), h' 0 (Nat.le_refl 0)]
  | succ n ih =>
    rw [mul_s, mul_s, h 0 (Nat.zero_le _), h' (n + 1) (Nat.le_refl _), ih (f := tl f) (f' := tl f') (fun k hk => h (k + 1) (by omega)) (fun k hk => h' k (by omega))]
theorem add_mul (f f' g : S) : mul (add f f') g = add (mul f g) (mul f' g) := by
  funext n
  induction n generalizing f f' with
  | zero => simp only [mul_0, add]; grind
  | succ n ih =>
    have e : tl (add f f') = add (tl f) (tl f') := rfl
    simp only [add] at ih
    simp only [mul_s, e, ih, add]; grind
theorem sc_mul (c : Rat) (f g : S) : mul (sc c f) g = sc c (mul f g) := by
  funext n
  induction n generalizing f with
  | zero => simp only [mul_0, sc]; grind
  | succ n ih =>
    have e : tl (sc c f) = sc c (tl f) := rfl
    simp only [sc] at ih
    simp only [mul_s, e, ih, sc]; grind
theorem mul_s' (f g : S) (n : Nat) : mul f g (n + 1) = mul f (tl g) n + f (n + 1) * g 0 := by
  induction n generalizing f with
  | zero => simp only [mul_s, mul_0, tl]
  | succ n ih =>
    rw [mul_s, ih (tl f), mul_s f (tl g)]; simp only [tl]; grind
theorem mul_comm (f g : S) : mul f g = mul g f := by
  funext n
  induction n generalizing f g with
  | zero => simp only [mul_0]; grind
  | succ n ih => rw [mul_s, mul_s', ih (tl f) g]; grind
theorem tl_mul (f g : S) : tl (mul f g) = add (sc (f 0) (tl g)) (mul (tl f) g) := by
  funext n
  simp only [tl, mul_s, add, sc]
theorem mul_assoc (f g h : S) : mul (mul f g) h = mul f (mul g h) := by
  funext n
  induction n generalizing f with
  | zero => simp only [mul_0]; grind
  | succ n ih =>
    rw [mul_s, tl_mul, add_mul, sc_mul, mul_s f]
    simp only [add, sc, ih (tl f), mul_s g, mul_0]; grind
theorem mul_add (f g g' : S) : mul f (add g g') = add (mul f g) (mul f g') := by rw [mul_comm, add_mul, mul_comm g, mul_comm g']
theorem mul_sc (c : Rat) (f g : S) : mul f (sc c g) = sc c (mul f g) := by rw [mul_comm, sc_mul, mul_comm]
theorem mul_zer (f : S) : mul f zer = zer := by
  funext n
  induction n generalizing f with
  | zero => simp only [mul_0, zer]; grind
  | succ n ih => simp only [zer] at ih; simp only [mul_s, zer, ih]; grind
theorem zer_mul (f : S) : mul zer f = zer := by rw [mul_comm, mul_zer]
theorem cst_mul (c : Rat) (f : S) : mul (cst c) f = sc c f := by
  funext n
  cases n with
  | zero => rfl
  | succ n =>
    have e : tl (cst c) = zer := by funext k; simp [tl, cst, zer]
    rw [mul_s, e, zer_mul]; simp only [zer, cst, sc, if_pos]; grind
theorem sc_one (f : S) : sc 1 f = f := by funext n; simp only [sc]; grind
theorem one_mul (f : S) : mul (cst 1) f = f := by rw [cst_mul, sc_one]
theorem mul_one (f : S) : mul f (cst 1) = f := by rw [mul_comm, one_mul]
theorem X_mul_0 (f : S) : mul X f 0 = 0 := by simp only [mul_0, X]; grind
theorem X_mul_s (f : S) (n : Nat) : mul X f (n + 1) = f n := by
  have e : tl X = cst 1 := by funext k; simp [tl, X, cst]
  rw [mul_s, e, one_mul]; simp only [X]; grind
theorem X_tl {f : S} (h : f 0 = 0) : mul X (tl f) = f := by
  funext n
  cases n with
  | zero => rw [X_mul_0, h]
  | succ n => rw [X_mul_s]; rfl
theorem eq_tl (f : S) : f = add (cst (f 0)) (mul X (tl f)) := by
  funext n
  cases n with
  | zero => simp only [add, X_mul_0, cst, if_pos]; grind
  | succ n => simp only [add, X_mul_s, cst, tl]; grind
-- the slope, times the unknown
theorem th_mul (f g : S) : th (mul f g) = add (mul (th f) g) (mul f (th g)) := by
  funext n
  induction n generalizing f with
  | zero => simp only [th, add, mul_0]; grind
  | succ n ih =>
    have e : tl (th f) = add (th (tl f)) (tl f) := by funext k; simp only [tl, th, add, nc]; grind
    have i := ih (tl f)
    simp only [add] at i
    simp only [add, mul_s, e, add_mul]
    generalize mul (th (tl f)) g n = u at *
    generalize mul (tl f) (th g) n = v at *
    simp only [th, mul_s, nc] at *
    grind
theorem th_add (f g : S) : th (add f g) = add (th f) (th g) := by funext n; simp only [th, add]; grind
theorem th_sc (c : Rat) (f : S) : th (sc c f) = sc c (th f) := by funext n; simp only [th, sc]; grind
theorem th_cst (c : Rat) : th (cst c) = zer := by funext n; simp only [th, cst, zer]; split <;> simp_all
theorem pw_add (f : S) (m n : Nat) : pw f (m + n) = mul (pw f m) (pw f n) := by
  induction n with
  | zero => rw [pw, mul_one]; rfl
  | succ n ih => rw [← Nat.add_assoc, pw, pw, ih, mul_assoc]
theorem pw_mul (f g : S) (n : Nat) : pw (mul f g) n = mul (pw f n) (pw g n) := by
  induction n with
  | zero => rw [pw, pw, pw, mul_one]
  | succ n ih => rw [pw, pw, pw, ih, mul_assoc, mul_assoc, ← mul_assoc (pw g n), mul_comm (pw g n) f, mul_assoc f]
theorem pw_one (n : Nat) : pw (cst 1) n = cst 1 := by
  induction n with
  | zero => rfl
  | succ n ih => rw [pw, ih, mul_one]
theorem th_pw (f : S) (n : Nat) : th (pw f (n + 1)) = sc ((n : Rat) + 1) (mul (pw f n) (th f)) := by
  induction n with
  | zero => simp only [pw, one_mul]; funext k; simp only [sc]; grind
  | succ n ih =>
    rw [pw, th_mul, ih, sc_mul, mul_assoc, mul_comm (th f) f, ← mul_assoc, ← pw]
    funext k
    simp only [add, sc, nc]
    grind
end Sr
end

section
set_option linter.all false
set_option autoImplicit false
namespace Sr
theorem n0 {n : Nat} (h : 0 < n) : (n : Rat) ≠ 0 := by
  intro e
  have : (n : Rat) = ((0 : Nat) : Rat) := e
  have := Rat.natCast_inj.mp this
  omega
-- slopes and integrals
def D (f : S) : S := tl (th f)
def I (f : S) : S
  | 0 => 0
  | n + 1 => f n / ((n : Rat) + 1)
theorem th_0 (f : S) : th f 0 = 0 := by simp [th]
theorem th_I (f : S) : th (I f) = mul X f := by
  funext n
  cases n with
  | zero => rw [X_mul_0, th_0]
  | succ n =>
    rw [X_mul_s]
    have h := n0 (Nat.succ_pos n)
    rw [nc] at h
    simp only [th, I, nc]
    grind
theorem D_I (f : S) : D (I f) = f := by
  funext n
  rw [D, th_I]
  exact X_mul_s f n
theorem X_D (f : S) : mul X (D f) = th f := X_tl (th_0 f)
theorem th_inj {f g : S} (h : th f = th g) (h0 : f 0 = g 0) : f = g := by
  funext n
  cases n with
  | zero => exact h0
  | succ n =>
    have e := congrFun h (n + 1)
    have := n0 (Nat.succ_pos n)
    simp only [th] at e
    grind
-- one at a time
def cut (n : Nat) (f : S) : S := fun k => if k < n then f k else 0
theorem mul_cut (f g : S) (n : Nat) : mul (cut n f) g n + f n * g 0 = mul f g n := by
  induction n generalizing f with
  | zero => simp only [mul_0, cut]; grind
  | succ n ih =>
    have e : tl (cut (n + 1) f) = cut n (tl f) := by funext k; simp only [tl, cut, Nat.add_lt_add_iff_right]
    rw [mul_s, mul_s, e, ← ih (tl f)]
    simp only [cut, tl]
    grind
-- with no constant, what is multiplied matters below alone
theorem mulz {f : S} (h : f 0 = 0) {u v : S} {n : Nat} (e : ∀ k, k < n → u k = v k) : mul f u n = mul f v n := by
  cases n with
  | zero => rw [mul_0, mul_0, h]; grind
  | succ n =>
    rw [mul_s, mul_s, h, mul_congr (f := tl f) (f' := tl f) (g := u) (g' := v) (n := n) (fun k _ => rfl) (fun k hk => e k (by omega))]
    grind
-- quotients
theorem quo_unique {b q q' : S} (h : b 0 ≠ 0) (e : mul q b = mul q' b) : q = q' := by
  funext n
  induction n using Nat.strongRecOn with
  | ind n ih =>
    have e := congrFun e n
    rw [← mul_cut q b, ← mul_cut q' b] at e
    rw [mul_congr (f := cut n q) (f' := cut n q') (g := b) (g' := b) (n := n) (fun k _ => by
      simp only [cut]; split
      · exact ih k ‹_›
      · rfl) (fun _ _ => rfl)] at e
    grind
-- exponentials
structure IsExp (f E : S) : Prop where
  one : E 0 = 1
  th : th E = mul (th f) E
theorem exp_unique {f E E' : S} (h : IsExp f E) (h' : IsExp f E') : E = E' := by
  funext n
  induction n using Nat.strongRecOn with
  | ind n ih =>
    cases n with
    | zero => rw [h.one, h'.one]
    | succ n =>
      have e := congrFun h.th (n + 1)
      have e' := congrFun h'.th (n + 1)
      rw [mulz (th_0 f) (u := E) (v := E') (n := n + 1) ih, ← e'] at e
      have := n0 (Nat.succ_pos n)
      simp only [Sr.th] at e
      grind
theorem exp_add {f g E F : S} (h : IsExp f E) (h' : IsExp g F) : IsExp (add f g) (mul E F) := by
  refine ⟨?_, ?_⟩
  · rw [mul_0, h.one, h'.one]; grind
  · rw [th_mul, h.th, h'.th, th_add, add_mul, mul_assoc, ← mul_assoc E (th g) F, mul_comm E (th g), mul_assoc (th g)]
theorem exp_zer : IsExp zer (cst 1) := ⟨rfl, by rw [th_cst, mul_one]; funext n; simp only [zer, th]; grind⟩
theorem exp_pw {f E : S} (h : IsExp f E) (n : Nat) : IsExp (sc n f) (pw E n) := by
  induction n with
  | zero =>
    have : sc ((0 : Nat) : Rat) f = zer := by funext k; simp only [sc, zer]; simp
    rw [this]
    exact exp_zer
  | succ n ih =>
    have : sc ((n + 1 : Nat) : Rat) f = add (sc n f) f := by funext k; simp only [sc, add, nc]; grind
    rw [this]
    exact exp_add ih h
theorem exp_neg {f E F : S} (h : IsExp f E) (h' : IsExp (sc (-1) f) F) : mul E F = cst 1 := by
  have e := exp_add h h'
  have : add f (sc (-1) f) = zer := by funext k; simp only [sc, add, zer]; grind
  rw [this] at e
  exact exp_unique e exp_zer
-- logarithms
theorem log_exp {u q : S} (h0 : u 0 = 1) (hq : mul q u = D u) : IsExp (I q) u :=
  ⟨h0, by rw [th_I, mul_assoc, hq, X_D]⟩
theorem exp_log {f E q : S} (h0 : f 0 = 0) (h : IsExp f E) (hq : mul q E = D E) : I q = f := by
  have e := log_exp h.one hq
  refine th_inj (quo_unique (b := E) (by rw [h.one]; decide) ?_) (by rw [h0]; rfl)
  rw [← e.th, ← h.th]
-- what is put in
def Hn : Nat → S → S → S
  | 0, _, _ => zer
  | M + 1, a, g => add (cst (a 0)) (mul g (Hn M (tl a) g))
def comp (a g : S) : S := fun n => Hn (n + 1) a g n
theorem H_same {g : S} (h : g 0 = 0) {M N n : Nat} (hM : n < M) (hN : n < N) (a : S) : Hn M a g n = Hn N a g n := by
  induction M generalizing N n a with
  | zero => omega
  | succ M ih =>
    cases N with
    | zero => omega
    | succ N =>
      simp only [Hn, add]
      rw [mulz h (u := Hn M (tl a) g) (v := Hn N (tl a) g) (n := n) fun k hk => ih (by omega) (by omega) _]
theorem comp_H {g : S} (h : g 0 = 0) {M n : Nat} (hM : n < M) (a : S) : comp a g n = Hn M a g n := H_same h (Nat.lt_succ_self n) hM a
theorem comp_eq {g : S} (h : g 0 = 0) (a : S) : comp a g = add (cst (a 0)) (mul g (comp (tl a) g)) := by
  funext n
  simp only [comp, Hn, add]
  rw [mulz h (u := Hn n (tl a) g) (v := comp (tl a) g) (n := n) fun k hk => (comp_H h hk _).symm]
theorem H_add (M : Nat) (a b g : S) : Hn M (add a b) g = add (Hn M a g) (Hn M b g) := by
  induction M generalizing a b with
  | zero => funext n; simp only [Hn, zer, add]; grind
  | succ M ih =>
    have e : tl (add a b) = add (tl a) (tl b) := rfl
    simp only [Hn, e, ih, mul_add]
    funext n
    simp only [add, cst]
    split <;> grind
theorem H_sc (M : Nat) (c : Rat) (a g : S) : Hn M (sc c a) g = sc c (Hn M a g) := by
  induction M generalizing a with
  | zero => funext n; simp only [Hn, zer, sc]; grind
  | succ M ih =>
    have e : tl (sc c a) = sc c (tl a) := rfl
    simp only [Hn, e, ih, mul_sc]
    funext n
    simp only [add, cst, sc]
    split <;> grind
theorem comp_add (a b g : S) : comp (add a b) g = add (comp a g) (comp b g) := by funext n; simp only [comp, H_add, add]
theorem comp_sc (c : Rat) (a g : S) : comp (sc c a) g = sc c (comp a g) := by funext n; simp only [comp, H_sc, sc]
theorem comp_X {g : S} (h : g 0 = 0) (u : S) : comp (mul X u) g = mul g (comp u g) := by
  rw [comp_eq h (mul X u)]
  have e : tl (mul X u) = u := by funext k; exact X_mul_s u k
  rw [e, X_mul_0]
  funext n
  simp only [add, cst]
  split <;> grind
theorem comp_cst {g : S} (h : g 0 = 0) (c : Rat) : comp (cst c) g = cst c := by
  have e0 : tl (cst c) = zer := by funext k; simp [tl, cst, zer]
  have ez : ∀ M, Hn M zer g = zer := by
    intro M
    induction M with
    | zero => rfl
    | succ M ih =>
      have e1 : tl zer = zer := rfl
      simp only [Hn, e1, ih, mul_zer]
      funext n
      simp only [add, cst, zer]
      split <;> grind
  funext n
  simp only [comp, Hn, e0, ez, mul_zer]
  simp only [add, zer, cst]
  grind
theorem comp_mul {g : S} (h : g 0 = 0) (a b : S) : comp (mul a b) g = mul (comp a g) (comp b g) := by
  have P : ∀ n a, ∀ k, k < n → comp (mul a b) g k = mul (comp a g) (comp b g) k := by
    intro n
    induction n with
    | zero => intro a k hk; omega
    | succ n ih =>
      intro a k hk
      have e : mul a b = add (sc (a 0) b) (mul X (mul (tl a) b)) := by
        have := eq_tl a
        rw [congrArg (mul · b) this]
        simp only [add_mul, cst_mul, mul_assoc]
      rw [e, comp_add, comp_sc, comp_X h, congrArg (fun u => mul u (comp b g)) (comp_eq h a)]
      simp only [add_mul, cst_mul, mul_assoc, add]
      rw [mulz h (u := comp (mul (tl a) b) g) (v := mul (comp (tl a) g) (comp b g)) (n := k) fun j hj => ih (tl a) j (by omega)]
  funext n
  exact P (n + 1) a n (Nat.lt_succ_self n)
theorem comp_0 {g : S} (h : g 0 = 0) (a : S) : comp a g 0 = a 0 := by
  rw [comp_eq h]
  simp only [add, cst, mul_0, h]
  grind
theorem comp_assoc {g f : S} (hg : g 0 = 0) (hf : f 0 = 0) (a : S) : comp (comp a g) f = comp a (comp g f) := by
  have hz : comp g f 0 = 0 := by rw [comp_0 hf, hg]
  have P : ∀ n a, ∀ k, k < n → comp (comp a g) f k = comp a (comp g f) k := by
    intro n
    induction n with
    | zero => intro a k hk; omega
    | succ n ih =>
      intro a k hk
      rw [comp_eq hg a, comp_add, comp_cst hf, comp_mul hf, comp_eq hz a]
      simp only [add]
      rw [mulz hz (u := comp (comp (tl a) g) f) (v := comp (tl a) (comp g f)) (n := k) fun j hj => ih (tl a) j (by omega)]
  funext n
  exact P (n + 1) a n (Nat.lt_succ_self n)
theorem comp_id {g : S} (h : g 0 = 0) : comp X g = g := by
  have := comp_X h (cst 1)
  rw [mul_one, comp_cst h, mul_one] at this
  exact this
theorem H_id (M n : Nat) (hn : n < M) (a : S) : Hn M a X n = a n := by
  induction M generalizing n a with
  | zero => omega
  | succ M ih =>
    cases n with
    | zero => simp only [Hn, add, X_mul_0, cst]; grind
    | succ n => simp only [Hn, add, X_mul_s, cst, ih n (by omega), tl]; grind
theorem id_comp (a : S) : comp a X = a := by funext n; exact H_id _ _ (Nat.lt_succ_self n) a
theorem H_last (M : Nat) (a g : S) : Hn (M + 1) a g = add (Hn M a g) (sc (a M) (pw g M)) := by
  induction M generalizing a with
  | zero => simp only [Hn, pw, mul_zer]; funext n; simp only [add, cst, zer, sc]; split <;> grind
  | succ M ih =>
    rw [Hn, ih (tl a), Hn, pw, mul_add, mul_sc, mul_comm g (pw g M)]
    funext n
    simp only [add, sc, tl]
    grind
end Sr
end

section
set_option linter.all false
set_option autoImplicit false
namespace Sr
-- undoing: f = x p, p u = 1, what undoes f is by the powers of u
theorem X_pw (k : Nat) (u : S) (j : Nat) : mul (pw X k) u (j + k) = u j := by
  induction k generalizing u j with
  | zero => rw [pw, one_mul]; rfl
  | succ k ih =>
    rw [pw, mul_assoc, show j + (k + 1) = (j + 1) + k by omega, ih]
    exact X_mul_s u j
theorem X_pw_low (k : Nat) (u : S) (n : Nat) (h : n < k) : mul (pw X k) u n = 0 := by
  induction k generalizing u n with
  | zero => omega
  | succ k ih =>
    rw [pw, mul_assoc]
    by_cases e : n < k
    · exact ih _ _ e
    · have : n = 0 + k := by omega
      rw [this, X_pw, X_mul_0]
theorem th_Xpw (k : Nat) : th (pw X k) = sc k (pw X k) := by
  funext n
  simp only [th, sc]
  by_cases e : n < k
  · have := X_pw_low k (cst 1) n e
    rw [mul_one] at this
    rw [this]; grind
  · obtain ⟨j, rfl⟩ : ∃ j, n = j + k := ⟨n - k, by omega⟩
    have := X_pw k (cst 1) j
    rw [mul_one] at this
    rw [this]
    simp only [cst]
    split
    · rename_i e; rw [e, Nat.zero_add]
    · grind
theorem pw_cancel {p u : S} (h : mul p u = cst 1) (k : Nat) : mul (pw u k) (pw p k) = cst 1 := by
  rw [← pw_mul, mul_comm u p, h, pw_one]
theorem undo_at {p u : S} (h : mul p u = cst 1) (n k : Nat) (hk : 1 ≤ k) (hn : k ≤ n) : mul (pw u n) (th (pw (mul X p) k)) n = if k = n then (n : Rat) else 0 := by
  have e1 : th (pw (mul X p) k) = mul (pw X k) (add (sc k (pw p k)) (th (pw p k))) := by
    rw [pw_mul, th_mul, th_Xpw, sc_mul, mul_add, mul_sc]
  rw [e1, ← mul_assoc, mul_comm (pw u n), mul_assoc]
  obtain ⟨j, rfl⟩ : ∃ j, n = j + k := ⟨n - k, by omega⟩
  rw [X_pw, pw_add]
  have c := pw_cancel h k
  have c1 : mul (mul (pw u j) (pw u k)) (sc k (pw p k)) = sc k (pw u j) := by rw [mul_sc, mul_assoc, c, mul_one]
  rw [mul_add]
  simp only [add, c1]
  cases j with
  | zero =>
    rw [if_pos (by omega), mul_0, th_0]
    simp only [sc, pw, cst]
    simp
    grind
  | succ j =>
    rw [if_neg (by omega)]
    obtain ⟨k, rfl⟩ : ∃ k', k = k' + 1 := ⟨k - 1, by omega⟩
    have d : add (mul (th (pw u (k + 1))) (pw p (k + 1))) (mul (pw u (k + 1)) (th (pw p (k + 1)))) = zer := by rw [← th_mul, c, th_cst]
    have d1 : mul (th (pw u (k + 1))) (pw p (k + 1)) = sc ((k : Rat) + 1) (mul (th u) p) := by
      rw [th_pw, sc_mul, pw, mul_assoc, mul_comm (th u), mul_assoc, mul_comm p (th u), ← mul_assoc, pw_cancel h k, one_mul]
    have d2 : mul (pw u (k + 1)) (th (pw p (k + 1))) = sc (-((k : Rat) + 1)) (mul (th u) p) := by
      funext i
      have := congrFun d i
      rw [d1] at this
      simp only [add, sc, zer] at this
      simp only [sc]
      grind
    have d3 : mul (mul (pw u (j + 1)) (pw u (k + 1))) (th (pw p (k + 1))) = sc (-((k : Rat) + 1)) (mul (pw u j) (th u)) := by
      rw [mul_assoc, d2, mul_sc, pw, mul_assoc, mul_comm (th u) p, ← mul_assoc u, mul_comm u p, h, one_mul]
    rw [d3]
    have d4 := congrFun (th_pw u j) (j + 1)
    simp only [th, sc, nc] at d4 ⊢
    have := n0 (Nat.succ_pos j)
    rw [nc] at this
    grind
-- what is put in, by powers
def sm (a g : S) : Nat → S
  | 0 => zer
  | M + 1 => add (sm a g M) (sc (a M) (pw g M))
theorem sm_H (M : Nat) (a g : S) : Hn M a g = sm a g M := by
  induction M with
  | zero => rfl
  | succ M ih => rw [H_last, ih]; rfl
theorem undone {f u h : S} (f0 : f 0 = 0) (hu : mul (tl f) u = cst 1) (h0 : h 0 = 0) (hh : ∀ n, h (n + 1) = pw u (n + 1) n / ((n : Rat) + 1)) : comp h f = X := by
  have ef : mul X (tl f) = f := X_tl f0
  have u0 : u 0 ≠ 0 := by
    intro e
    have := congrFun hu 0
    rw [mul_0, e] at this
    simp [cst] at this
  have pu0 : ∀ n, pw u n 0 ≠ 0 := by
    intro n
    induction n with
    | zero => simp [pw, cst]
    | succ n ih => rw [pw, mul_0]; grind
  have A : ∀ n M, M ≤ n + 1 → mul (pw u (n + 1)) (th (sm h f (M + 1))) (n + 1) = if M = n + 1 then pw u (n + 1) n else 0 := by
    intro n M hM
    induction M with
    | zero =>
      rw [if_neg (by omega)]
      have : th (sm h f 1) = zer := by
        simp only [sm, h0]
        funext k
        simp only [th, add, sc, zer]
        grind
      rw [this, mul_zer]; rfl
    | succ M ih =>
      rw [sm, th_add, th_sc, mul_add, mul_sc]
      simp only [add, sc]
      rw [ih (by omega), if_neg (by omega)]
      have := undo_at hu (n + 1) (M + 1) (by omega) (by omega)
      rw [ef] at this
      rw [this, hh M]
      by_cases e : M = n
      · rw [if_pos (by omega), if_pos (by omega), e]
        have := n0 (Nat.succ_pos n)
        rw [nc] at this ⊢
        grind
      · rw [if_neg (by omega), if_neg (by omega)]; grind
  -- the slope of what is left is nothing
  have B : ∀ n, th (add X (sc (-1) (comp h f))) n = 0 := by
    intro n
    induction n using Nat.strongRecOn with
    | ind n ih =>
      cases n with
      | zero => exact th_0 _
      | succ n =>
        have e : mul (pw u (n + 1)) (th (add X (sc (-1) (comp h f)))) (n + 1) = 0 := by
          rw [mul_congr (f := pw u (n + 1)) (f' := pw u (n + 1)) (g := th (add X (sc (-1) (comp h f)))) (g' := th (add X (sc (-1) (sm h f (n + 2))))) (n := n + 1) (fun _ _ => rfl) (fun k hk => by
            simp only [th, add, sc, comp_H f0 (show k < n + 2 by omega), sm_H])]
          rw [th_add, th_sc, mul_add, mul_sc]
          simp only [add, sc]
          rw [A n (n + 1) (Nat.le_refl _), if_pos rfl]
          have : th X = X := by
            have := th_Xpw 1
            simp only [pw, one_mul] at this
            rw [this]
            funext k; simp only [sc]; grind
          rw [this, mul_comm, X_mul_s]
          grind
        rw [mul_comm, ← mul_cut] at e
        rw [mul_congr (f := cut (n + 1) (th (add X (sc (-1) (comp h f))))) (f' := zer) (g := pw u (n + 1)) (g' := pw u (n + 1)) (n := n + 1) (fun k hk => by
          simp only [cut, zer]
          split
          · exact ih k ‹_›
          · rfl) (fun _ _ => rfl), zer_mul] at e
        have := pu0 (n + 1)
        simp only [zer] at e
        grind
  funext n
  cases n with
  | zero => rw [comp_0 f0, h0]; rfl
  | succ n =>
    have := B (n + 1)
    have z := n0 (Nat.succ_pos n)
    simp only [th, add, sc] at this
    grind
-- an inverse, and both ways
def inv (b : S) : Nat → List Rat
  | 0 => []
  | n + 1 => inv b n ++ [(cst 1 n - mul (fun k => (inv b n).getD k 0) b n) / b 0]
theorem inv_len (b : S) (n : Nat) : (inv b n).length = n := by
  induction n with
  | zero => rfl
  | succ n ih => rw [inv, List.length_append, ih]; rfl
theorem inv_get (b : S) {k n : Nat} (h : k < n) : (inv b n).getD k 0 = (inv b (k + 1)).getD k 0 := by
  induction n with
  | zero => omega
  | succ n ih =>
    by_cases e : k < n
    · rw [← ih e, inv, List.getD_eq_getElem?_getD, List.getD_eq_getElem?_getD, List.getElem?_append_left (by rw [inv_len]; exact e)]
    · have : k = n := by omega
      rw [this]
theorem inv_ok {b : S} (h : b 0 ≠ 0) : ∃ u, mul b u = cst 1 := by
  refine ⟨fun n => (inv b (n + 1)).getD n 0, ?_⟩
  rw [mul_comm]
  funext n
  rw [← mul_cut]
  have e : (inv b (n + 1)).getD n 0 = (cst 1 n - mul (fun k => (inv b n).getD k 0) b n) / b 0 := by
    rw [inv, List.getD_eq_getElem?_getD, List.getElem?_append_right (by rw [inv_len]; exact Nat.le_refl _), inv_len, Nat.sub_self]; rfl
  rw [e, mul_congr (f := cut n fun n => (inv b (n + 1)).getD n 0) (f' := fun k => (inv b n).getD k 0) (g := b) (g' := b) (n := n) (fun k hk => by
    simp only [cut]
    split
    · exact (inv_get b ‹_›).symm
    · rw [List.getD_eq_getElem?_getD, List.getElem?_eq_none (by rw [inv_len]; omega)]; rfl) (fun _ _ => rfl)]
  grind
theorem undone_back {f u h : S} (f0 : f 0 = 0) (hu : mul (tl f) u = cst 1) (h0 : h 0 = 0) (hh : ∀ n, h (n + 1) = pw u (n + 1) n / ((n : Rat) + 1)) : comp f h = X := by
  have hf : comp h f = X := undone f0 hu h0 hh
  have h1 : tl h 0 ≠ 0 := by
    have e := congrFun hu 0
    have : tl h 0 = u 0 := by
      have := hh 0
      simp only [pw, one_mul] at this
      simp only [tl, this]
      grind
    rw [this]
    intro z
    rw [mul_0, z] at e
    simp [cst] at e
  obtain ⟨w, hw⟩ := inv_ok h1
  have hv : comp (fun n => match n with | 0 => 0 | n + 1 => pw w (n + 1) n / ((n : Rat) + 1)) h = X := undone h0 hw rfl fun n => rfl
  generalize (fun n => match n with | 0 => (0 : Rat) | n + 1 => pw w (n + 1) n / ((n : Rat) + 1)) = v at hv
  have := comp_assoc h0 f0 v
  rw [hv, hf, comp_id f0, id_comp] at this
  rw [this]
  exact hv
end Sr
end

section
set_option Elab.async false
set_option linter.all false
set_option maxRecDepth 100000
set_option maxHeartbeats 4000000
set_option autoImplicit false
set_option exponentiation.threshold 100
namespace Py
open PySem PySem.Spec PyProof.Rows L2
/-! ### rows of fractions -/
abbrev fl (l : List Rat) : List Dt := l.map fq
/-- a row as a series, 0 behind its end -/
def sr (l : List Rat) : Sr.S := fun n => l.getD n 0
theorem at_fl {l : List Rat} {i : Nat} (h : i < l.length) : atI (fl l) (i : Int) = some (fq (sr l i)) := by
  unfold atI fl sr ixN
  simp [h]
/-- the sum of the first j products -/
def pS (f g : Sr.S) (n : Nat) : Nat → Rat
  | 0 => 0
  | j + 1 => pS f g n j + f j * g (n - j)
theorem pS_tl (f g : Sr.S) (n j : Nat) : pS f g (n + 1) (j + 1) = f 0 * g (n + 1) + pS (Sr.tl f) g n j := by
  induction j with
  | zero => simp only [pS]; grind
  | succ j ih =>
    rw [pS, ih, pS, Nat.add_sub_add_right]
    simp only [Sr.tl]
    grind
theorem pS_mul (f g : Sr.S) (n : Nat) : pS f g n (n + 1) = Sr.mul f g n := by
  induction n generalizing f with
  | zero => simp only [pS, Sr.mul_0]; grind
  | succ n ih => rw [pS_tl, ih, Sr.mul_s]
structure CrOk (f g : Sr.S) (n : Nat) : Prop where
  a : ∀ j, j ≤ n → SzQ 3000 (f j)
  b : ∀ j, j ≤ n → SzQ 3000 (g j)
  m : ∀ j, j ≤ n → SzQ 3000 (f j * g (n - j))
  s : ∀ j, j ≤ n → SzQ 3000 (pS f g n j)
end Py
namespace Py
open PySem PySem.Spec PyProof.Rows L2
section
variable {C : Ct} {A A1 A2 : AS} {ta tb : TE} {i j : Int}
theorem e_min2 (h : EvS C ta A (di i) A1) (h' : EvS C tb A1 (di j) A2) : EvS C (tCB (fun xs H Q => ∃ i j, xs = [V.int i, V.int j] ∧ Q (V.int (if j < i then j else i)) H) (tCons ta (tCons tb tNil))) A (di (if j < i then j else i)) A2 := fun os σ H k Q q =>
  h os σ H k _ fun os1 v H1 k1 e1 i1 => h' os1 σ H1 k1 _ fun os2 v' H2 k2 e2 i2 => by
    rw [Is.v_iff.mp i1, Is.v_iff.mp i2]
    exact ⟨i, j, rfl, q os2 _ H2 k2 (e1.trans e2) is_v⟩
end
theorem sr_get {l : List Rat} {i : Nat} (h : i < l.length) : sr l i = l[i] := by unfold sr; simp [h]
theorem sr_mem {l : List Rat} {i : Nat} (h : i < l.length) : sr l i ∈ l := by rw [sr_get h]; exact List.getElem_mem h
theorem fl_at {l : List Rat} {i : Nat} {x : Dt} (h : (fl l)[i]? = some x) : ∃ h : i < l.length, x = fq (sr l i) := by
  rw [List.getElem?_map] at h
  obtain ⟨q, h1, rfl⟩ := Option.map_eq_some_iff.mp h
  obtain ⟨h2, rfl⟩ := List.getElem?_eq_some_iff.mp h1
  exact ⟨h2, by rw [sr_get h2]⟩
theorem fl_take {l : List Rat} {i : Nat} (h : i < l.length) (f : Rat → Rat) : fl ((l.take (i + 1)).map f) = fl ((l.take i).map f) ++ [fq (f (sr l i))] := by
  rw [List.take_add_one, List.getElem?_eq_getElem h, sr_get h, List.map_append, fl, fl, List.map_append]
  rfl
theorem fl_range (f : Nat → Rat) (i : Nat) : fl ((List.range (i + 1)).map f) = fl ((List.range i).map f) ++ [fq (f i)] := by
  rw [List.range_succ]
  simp
end Py
end

section
set_option Elab.async false
set_option linter.all false
set_option maxRecDepth 100000
set_option maxHeartbeats 4000000
set_option autoImplicit false
namespace Py
open PySem PySem.Spec PyProof.Rows L2
/-! ### facts of the top -/
def intsB : List Value → List Int → Bool
  | [], [] => true
  | .int j _ :: r, i :: s => decide (j = i) && intsB r s
  | _, _ => false
theorem intsB_ok : ∀ {us : List Value} {is : List Int}, intsB us is = true → Vals (is.map V.int) us
  | [], [], _ => .nil
  | .int j t :: r, i :: s, h => by
    obtain ⟨a, b⟩ := Bool.and_eq_true_iff.mp (show (decide (j = i) && intsB r s) = true from h)
    rw [of_decide_eq_true a]
    exact .cons ⟨t, rfl⟩ (intsB_ok b)
def tupB (K : Frg) (x : Str) (is : List Int) : Bool := match PySem.W.nsIn K mainGlobals x with
  | some (some (.ref a)) => (match K.lookup a with
    | some o => decide (o.cls = .type "tuple") && (match o.data with
      | .seq its _ => decide (its.size ≤ 1000) && intsB its.toList is
      | _ => false)
    | none => false)
  | _ => false
theorem tupB_ok {K : Frg} {base : Heap} {mg : Str → Option Value} {x : Str} {is : List Int} (hK : K.In base) (G : base.Ns mainGlobals mg) (h : tupB K x is = true) : TupC K mg x (is.map V.int) := by
  unfold tupB at h
  split at h
  · rename_i a e
    split at h
    · rename_i o e2
      obtain ⟨h1, h2⟩ := Bool.and_eq_true_iff.mp h
      split at h2
      · rename_i its n e3
        obtain ⟨h3, h4⟩ := Bool.and_eq_true_iff.mp h2
        exact ⟨a, PySem.W.mg_of hK G e, o, its, n, e2, of_decide_eq_true h1, e3, Nat.le_trans (of_decide_eq_true h3) (by decide), intsB_ok h4⟩
      · cases h2
    · cases h
  · cases h
def bltB (K : Frg) (x : Str) (id : String) : Bool := match PySem.W.nsIn K mainGlobals x with
  | some (some (.builtin n)) => decide (n = id)
  | _ => false
theorem bltB_ok {K : Frg} {base : Heap} {mg : Str → Option Value} {x : Str} {id : String} (hK : K.In base) (G : base.Ns mainGlobals mg) (h : bltB K x id = true) : mg x = some (.builtin id) := by
  unfold bltB at h
  split at h
  · rename_i n e
    rw [← of_decide_eq_true h]
    exact PySem.W.mg_of hK G e
  · cases h
/-! ### the law's own def, its promise told over data -/
theorem fin1 {t : TS} {N : List Str} {K : Frg} {T : List (Addr × Str)} {E : XK} {g : List Dt → Rs → Prop} {vs : List V} {H : Hp} {Q : VK} (h : spD K T g vs H Q E) (run : ∀ O ds r, g ds r → RunS ⟨K, T, H, O⟩ E t (start N ds) (poR r)) : t { nx := fun _ H' => Q .non H', rt := Q } (L2.start N vs) H := fin h run
theorem mkFL {P : Program} {w : World} {K : Frg} {T : List (Addr × Str)} {mg : Str → Option Value} {base : Heap} {f : Str} {st : Stmt} {N ps : List Str} {k : Nat} {g : List Dt → Rs → Prop} {fd : FuncData}
    (F : FunD K f f (defArgs st) (defBody st) (defScope st) [] [] (He.ga K f) fd) (S : FnScope N ps (defScope st))
    (len : ∀ ds r, g ds r → ds.length = ps.length)
    (hbody : ∀ (A : Around) (outer : List Env) (s : Shared) (H : Hp) (E : XK), Room k (A.deeper (envOfC f (defScope st) s.heap.objs.size (He.ga K f) (.ref (He.cT K (f, none)).1))) →
      ∃ t, PSs (cxOf (L2.CX P w) P w K mg base N f (defScope st) (He.ga K f) (.ref (He.cT K (f, none)).1) A outer s H E) (defBody st) t ∧ ∀ O ds r, g ds r → RunS ⟨K, T, H, O⟩ E t (start N ds) (poR r)) : FnOk P w K mg base (L2.CX P w) (k + 1) (He.ga K f) fd ps (spD K T g) := by
  obtain ⟨oc, od, dV, kV, doc, pm, an, cdv, ct, osl, e, lk, hc⟩ := fnd_of F
  obtain ⟨c, rfl⟩ := He.codeIn_ref hc
  have ec : (He.cT K (f, none)).1 = c := He.codeOf_eq (p := (f, none)) lk rfl
  subst ec
  subst e
  refine fn_of lk hc S (fun vs H Q E h => spD_len len vs H Q E h) (fun A outer s H vs Q E hr h => ?_)
  obtain ⟨t, ht, run⟩ := hbody A outer s H E hr
  exact ⟨t, ht, fin h run⟩
/-- a promise that no call asks for -/
theorem gd_none {P : Program} {w : World} {K : Frg} {T : List (Addr × Str)} {mg : Str → Option Value} {base : Heap} {f : Str} {st : Stmt} {ps : List Str} {k : Nat}
    (F : ∃ fd, FunD K f f (defArgs st) (defBody st) (defScope st) [] [] (He.ga K f) fd) (hm : mg f = some (.ref (He.ga K f)))
    (hb : ∀ (kV doc pm : Value) (an : Option Addr) (cdv ct : Value) (us : List Value), us.length = ps.length → bindArgs (PySem.W.fnOf f f (defArgs st) (defBody st) (defScope st) .none kV doc pm an cdv ct) ⟨us, []⟩ = pure (ps.zip us)) : Gd P w K mg base f ps k (spD K T fun _ _ => False) := by
  obtain ⟨fd, F⟩ := F
  exact ⟨_, fd, ⟨fun vs H Q E ⟨_, _, _, _, _, _, z, _⟩ => z.elim, fun A outer s H args us vs Q E _ _ _ _ ⟨_, _, _, _, _, _, z, _⟩ => z.elim⟩, F.bindsN hb, F.kp, hm⟩
section
variable {C : Ct} {A A1 : AS} {tl : TA}
/-- xs + [..], xs one's own -/
theorem e_catO {i n : Nat} {xs ys : List Dt} (h1 : A.sl[i]? = some (.own n)) (h : EvA C tl A ys A1) (h3 : A1.st[n]? = some (.lst xs)) (hl : xs.length + ys.length ≤ 100000) : EvS C (tOp (rAddA C.K) (tVar i) (tLst tl)) A (.lst (xs ++ ys)) A1 := fun os σ H k Q q => by
  obtain ⟨o, e1, a, e2, e3⟩ := k.slot h1
  subst e2
  refine ⟨_, e1, h os σ H k _ fun os1 vs H1 k1 g1 i1 => ⟨by rw [isA_len i1]; exact Nat.le_trans (by omega) (by decide : 100000 ≤ sizeLine), fun p hp => ?_⟩⟩
  have e3' := g1.p n _ e3
  obtain ⟨o3, s1, a3, us, s2, s3, s4⟩ := k1.store h3
  rw [e3'] at s1; cases s1; cases s2
  have k2 := k1.monoN (o := .lst vs) hp
  refine .inr (.inr (.inr ⟨a, p, us, vs, rfl, rfl, ?_, upd_same, by rw [isA_len s4, isA_len i1]; exact Nat.le_trans hl (by decide : 100000 ≤ sizeLine), fun r hr => ?_⟩))
  · rw [upd_ne (ne_of_none s3 hp)]
    exact s3
  · have k3 := k2.monoN (o := .lst (us ++ vs)) hr
    refine q os1 _ _ k3 ((g1.trans (k1.gr (Ex.new hp))).trans (k2.gr (Ex.new hr))) ?_
    rw [Is]
    exact ⟨r, us ++ vs, rfl, SqL.of (k2.fresh hr), isA_app (IsA.mono (hd_mono ((Ex.new hp).trans (Ex.new hr))) _ _ s4) (IsA.mono (hd_mono ((Ex.new hp).trans (Ex.new hr))) _ _ i1)⟩
theorem isA_rep {K : Frg} {R : Hp} {ds : List Dt} {vs : List V} (h : IsA K R ds vs) : ∀ m : Nat, IsA K R (List.replicate m ds).flatten (List.replicate m vs).flatten
  | 0 => isA_nil
  | m + 1 => by
    rw [List.replicate_succ, List.replicate_succ, List.flatten_cons, List.flatten_cons]
    exact isA_app h (isA_rep h m)
/-- [..] * k -/
theorem e_repD {ds : List Dt} {k0 : Int} (h : EvA C tl A ds A1) (h1 : 0 ≤ k0 ∧ k0 < 100000) (hl : ds.length * k0.toNat ≤ 100000) (hl0 : ds.length ≤ 100000) : EvS C (tOp (rMulA C.K) (tLst tl) (tC (.int k0))) A (.lst (List.replicate k0.toNat ds).flatten) A1 := fun os σ H k Q q =>
  h os σ H k _ fun os1 vs H1 k1 g1 i1 => ⟨by rw [isA_len i1]; exact Nat.le_trans hl0 (by decide : 100000 ≤ sizeLine), fun p hp => .inr ⟨p, k0, vs, rfl, rfl, upd_same, by omega, by omega, by rw [isA_len i1]; exact Nat.le_trans hl (by decide : 100000 ≤ sizeLine), fun r hr => by
    have k2 := k1.monoN (o := .lst vs) hp
    have k3 := k2.monoN (o := .lst (List.replicate k0.toNat vs).flatten) hr
    refine q os1 _ _ k3 ((g1.trans (k1.gr (Ex.new hp))).trans (k2.gr (Ex.new hr))) ?_
    rw [Is]
    exact ⟨r, _, rfl, SqL.of (k2.fresh hr), isA_rep (IsA.mono (hd_mono ((Ex.new hp).trans (Ex.new hr))) _ _ i1) _⟩⟩⟩
end
end Py
end

section
set_option Elab.async false
set_option linter.all false
set_option maxRecDepth 100000
set_option maxHeartbeats 4000000
set_option autoImplicit false
/-! ### a tuple, 0 times and once -/
namespace Py
open PySem PySem.Spec PyProof.Rows L2
theorem rep_once (l : Addr) (items : Array Value) (n : Nat) (dd : Option Addr) (sl : Array (Option Value)) (u : Tok) :
    Meets (Builtin.«tuple.__mul__» ⟨[.ref l, .int 1 u], []⟩) (fun _ R s => s.heap.get? l = some { cls := .type "tuple", dict := dd, data := .seq items n, slots := sl } ∧ R (.ok (.ret (Value.ref l))) s) := by
  refine .of_wp fun prog w A R s h => ?_
  obtain ⟨hp, g, d, tk, os⟩ := s; obtain ⟨hl, h⟩ := h; have f1 := AutoSeq1.idx_int
  wp_walk using wpAny_loadPart' hl; exact ⟨_, rfl, h⟩
theorem rep_none (l : Addr) (items : Array Value) (n : Nat) (dd : Option Addr) (sl : Array (Option Value)) (u : Tok) (hi : items.isEmpty = false) :
    Meets (Builtin.«tuple.__mul__» ⟨[.ref l, .int 0 u], []⟩) (fun _ R s => s.heap.get? l = some { cls := .type "tuple", dict := dd, data := .seq items n, slots := sl } ∧
      R (.ok (.ret (Value.ref s.heap.objs.size))) { s with heap := s.heap.push { cls := Value.type "tuple", data := Data.seq #[] }, toks := s.toks }) := by
  refine .of_wp fun prog w A R s h => ?_
  obtain ⟨hp, g, d, tk, os⟩ := s; obtain ⟨hl, h⟩ := h; have f1 := AutoSeq1.idx_int
  wp_walk using wpAny_loadPart' hl
  exact ⟨_, rfl, h⟩
def rRepA (K : Frg) : R2 := fun x y H Q => ∃ (l : Addr) (k : Int) (xs : List V), x = .ref l ∧ y = .int k ∧ SqT K H l xs ∧ xs ≠ [] ∧ 0 ≤ k ∧ k ≤ 1000 ∧ xs.length ≤ 1000 ∧ (k = 1 → Q (.ref l) H) ∧ (k ≠ 1 → ∀ p, H p = none → Q (.ref p) (upd H p (.tup (List.replicate k.toNat xs).flatten)))
theorem op_repA {X : Cx} : OpR X (binaryOp .Mult) (rRepA X.K) := by
  intro pins s σ H x y v u Q I rx ry h
  obtain ⟨l, k, xs, rfl, rfl, hT, hne, h0, h2, hz, q1, q2⟩ := h
  by_cases hk : 2 ≤ k
  · exact op_repT pins s σ H _ _ v u Q I rx ry ⟨l, k, xs, rfl, rfl, hT, hne, hk, h2, hz, q2 (by omega)⟩
  cases rx
  obtain ⟨t, rfl⟩ := ry
  obtain ⟨its, r, ⟨⟨cls, dd, data, sl⟩, ho, hc, n, hd⟩, hs⟩ := I.tuple hT
  simp only at hc hd; subst hc hd
  have hle : its.length = xs.length := r.length.symm
  have hi : its.toArray.isEmpty = false := by
    cases its with
    | nil => exact absurd (List.eq_nil_of_length_eq_zero hle.symm) hne
    | cons a b => rfl
  by_cases e1 : k = 1
  · subst e1
    exact wpAny_binaryOp_repeat_ref (T := "tuple") (U := "int") (by decide) ⟨_, ho, rfl⟩ (fun s' => typeIs_int s' 1 t) noFill_tuple_mul F.fills_int_mul F.slot_int_rmul repeat_tuple F.slot_int_index.lookup
      (call_meets F.slot_int_rmul (typeIs_int s 1 t) F.entry_int_rmul (F.args_int_rmul_2 _ _) (int_rmul_tuple 1 t l its.toArray n dd sl) ⟨ho, rfl, ⟨_, ho, rfl⟩, call_meets F.slot_tuple_mul ⟨_, ho, rfl⟩ F.entry_tuple_mul (F.args_tuple_mul_2 _ _) (rep_once l its.toArray n dd sl t) ⟨ho, .ref l, H, I, rfl, q1 rfl⟩⟩)
  · obtain rfl : k = 0 := by omega
    refine wpAny_binaryOp_repeat_ref (T := "tuple") (U := "int") (by decide) ⟨_, ho, rfl⟩ (fun s' => typeIs_int s' 0 t) noFill_tuple_mul F.fills_int_mul F.slot_int_rmul repeat_tuple F.slot_int_index.lookup
      (call_meets F.slot_int_rmul (typeIs_int s 0 t) F.entry_int_rmul (F.args_int_rmul_2 _ _) (int_rmul_tuple 0 t l its.toArray n dd sl) ⟨ho, rfl, ⟨_, ho, rfl⟩, call_meets F.slot_tuple_mul ⟨_, ho, rfl⟩ F.entry_tuple_mul (F.args_tuple_mul_2 _ _) (rep_none l its.toArray n dd sl t hi) ⟨ho, ?_⟩⟩)
    refine ⟨.ref s.heap.objs.size, _, I.laid (t' := s.toks) (o := .tup []) (fun b ob q => Heap.get?_push_of_some _ q) (Nat.le_refl _) ?_, rfl, q2 (by decide) _ (I.hok.fresh (Nat.le_refl _))⟩
    exact ⟨Nat.zero_le _, [], .nil, IsTup.new _ _⟩
section
variable {C : Ct} {xs ys : List Dt}
theorem isA_flat {K : Frg} {H : Hp} {ds : List Dt} {vs : List V} (h : IsA K H ds vs) (m : Nat) : IsA K H (List.replicate m ds).flatten (List.replicate m vs).flatten := isA_rep h m
/-- a tuple, some times -/
theorem o_repA {k : Int} (hx : xs ≠ []) (hz : xs.length ≤ 1000) (h0 : 0 ≤ k) (h1 : k ≤ 1000) : OpS C (rRepA C.K) (.tup xs) (di k) (.tup (List.replicate k.toNat xs).flatten) := fun os A σ H vx vy k' i1 i2 Q q => by
  have i1' := i1
  rw [Is] at i1
  obtain ⟨a, vs, rfl, h2, h3⟩ := i1
  rw [Is.v_iff.mp i2]
  have hl := isA_len h3
  refine ⟨a, k, vs, rfl, rfl, hd_ex.t h2, fun z => hx (List.eq_nil_of_length_eq_zero (by rw [← hl, z]; rfl)), h0, h1, by omega, fun e => ?_, fun e p hp => ?_⟩
  · subst e
    refine q _ H (Ex.refl _) k'.tb ?_
    have e1 : (List.replicate (1 : Int).toNat xs).flatten = xs := by simp
    rw [e1]
    exact i1'
  · refine q _ _ (Ex.new hp) (tabs_new k'.tb hp) ?_
    rw [Is]
    exact ⟨p, _, rfl, SqT.of (k'.fresh hp), IsA.mono (hd_mono (Ex.new hp)) _ _ (isA_rep h3 _)⟩
/-- two tuples, one behind the other -/
theorem o_catA (hz : xs.length + ys.length ≤ 100000) : OpS C (rCatA C.K) (.tup xs) (.tup ys) (.tup (xs ++ ys)) := fun os A σ H vx vy k i1 i2 Q q => by
  have j1 := i1
  have j2 := i2
  rw [Is] at i1 i2
  obtain ⟨a, vs, rfl, h2, h3⟩ := i1
  obtain ⟨b, us, rfl, h4, h5⟩ := i2
  have l1 := isA_len h3
  have l2 := isA_len h5
  have n1 : vs = [] → xs = [] := fun z => List.eq_nil_of_length_eq_zero (by rw [← l1, z]; rfl)
  have n2 : us = [] → ys = [] := fun z => List.eq_nil_of_length_eq_zero (by rw [← l2, z]; rfl)
  refine ⟨a, b, vs, us, rfl, rfl, hd_ex.t h2, hd_ex.t h4, by rw [l1, l2]; exact Nat.le_trans hz (by decide), fun z => ?_, fun _ z => ?_, fun _ _ p hp => ?_⟩
  · refine q _ H (Ex.refl _) k.tb ?_
    rw [n1 z]
    exact j2
  · refine q _ H (Ex.refl _) k.tb ?_
    rw [n2 z, List.append_nil]
    exact j1
  · refine q _ _ (Ex.new hp) (tabs_new k.tb hp) ?_
    rw [Is]
    exact ⟨p, _, rfl, SqT.of (k.fresh hp), IsA.mono (hd_mono (Ex.new hp)) _ _ (isA_app h3 h5)⟩
/-- a part of a tuple -/
theorem e_slT {A A1 A2 A3 : AS} {te : TE} {tl th : TO} {lo hi : Option Int} (h : EvS C te A (.tup xs) A1) (h1 : EvO C tl A1 lo A2) (h2 : EvO C th A2 hi A3) : EvS C (tSl (rSlA C.K) te tl th) A (.tup (cutL xs lo hi)) A3 := fun os σ H k Q q =>
  h os σ H k _ fun os1 v H1 k1 e1 i1 => h1 os1 σ H1 k1 _ fun os2 H2 k2 e2 => h2 os2 σ H2 k2 _ fun os3 H3 k3 e3 => by
    have i3 := Is.mono (e2.trans e3).e _ _ i1
    have j3 := i3
    rw [Is] at i3
    obtain ⟨a, vs, rfl, h4, h5⟩ := i3
    have l1 := isA_len h5
    refine ⟨a, vs, rfl, hd_ex.t h4, fun z => ?_, fun z p hp => ?_⟩
    · have e : cutL xs lo hi = xs := by
        unfold cutL
        rw [← l1, z.1, z.2, List.drop_zero, Nat.sub_zero, l1, List.take_length]
      refine q os3 _ H3 k3 ((e1.trans e2).trans e3) ?_
      rw [e]
      exact j3
    · refine q os3 _ _ (k3.monoN hp) (((e1.trans e2).trans e3).trans (k3.gr (Ex.new hp))) ?_
      rw [Is]
      exact ⟨p, _, rfl, SqT.of (k3.fresh hp), IsA.mono (hd_mono (Ex.new hp)) _ _ (isA_cutL h5)⟩
end
end Py
end

section
set_option Elab.async false
set_option linter.all false
set_option maxRecDepth 100000
set_option maxHeartbeats 4000000
set_option autoImplicit false
/-! ### enumerate of a tuple -/
namespace Py
open PySem PySem.Spec PyProof.Rows L2
theorem new_enumT (t : Addr) (items : Array Value) :
    Meets (Builtin.«enumerate.__new__» ⟨[.type "enumerate", .ref t], []⟩) (fun _ R s => s.heap.IsTuple t items ∧
      R (.ok (.ret (.ref (s.heap.push { cls := .type "tuple_iterator", data := .fields #[.ref t, .int 0 0] }).objs.size)))
        { s with heap := (s.heap.push { cls := .type "tuple_iterator", data := .fields #[.ref t, .int 0 0] }).push { cls := .type "enumerate", data := .fields #[.none, .bool false, .ref s.heap.objs.size, rawInt 0, .none, .none] } }) := by
  refine .of_wp fun prog w A R s h => ?_
  obtain ⟨hp, g, d, tk, os⟩ := s; obtain ⟨h1, h⟩ := h; have hsub := sub_enumerate
  have q1 : ∀ {A' : Around} {E : Value → Shared → Prop} {Q : Value → Shared → Prop}, Q (.ref hp.objs.size) ⟨hp.push { cls := .type "tuple_iterator", data := .fields #[.ref t, .int 0 0] }, g, d, tk, os⟩ → wpAny (model prog w) A' (pyIter (.ref t)) Q E ⟨hp, g, d, tk, os⟩ := fun q => (begins_tuple t items).iter prog w _ _ ⟨hp, g, d, tk, os⟩ _ h1 q
  wp_walk using q1; refine wpAny_stack_any fun st => wpAny_pure ?_; split
  · rename_i c _ _ _ _ _
    cases (c == Value.type "enumerate") <;> (wp_walk using q1; exact ⟨_, rfl, h⟩)
  · wp_walk using q1; exact ⟨_, rfl, h⟩
theorem call_enumT {prog : Program} {w : World} {A : Around} {E : Value → Shared → Prop} {s : Shared} {t : Addr} {items : Array Value} {Q : Value → Shared → Prop} (hT : s.heap.IsTuple t items)
    (h : ∀ h', IsEnum h' (s.heap.objs.size + 1) s.heap.objs.size 0 .none ∧ h'.IsTupleIter s.heap.objs.size t 0 ∧ h'.objs.size = s.heap.objs.size + 2 ∧ (∀ b o, s.heap.get? b = some o → h'.get? b = some o) → Q (.ref (s.heap.objs.size + 1)) { s with heap := h' }) :
    wpAny (model prog w) A (call (.type "enumerate") [.ref t]) Q E s := by
  refine callType_new F.called_enumerate (by decide) (F.typeCall_enumerate_1 _) (F.newCall_enumerate_1 _) (fun obj => F.args_object_init_2 obj _) F.entry_enumerate_new (new_enumT t items) ⟨hT, ?_⟩
  have hz : (s.heap.push { cls := .type "tuple_iterator", data := .fields #[.ref t, .int 0 0] }).objs.size = s.heap.objs.size + 1 := Heap.size_push ..
  show _ ∧ _; rw [hz]
  have he := Heap.get?_push_size (s.heap.push { cls := .type "tuple_iterator", data := .fields #[.ref t, .int 0 0] }) (o := { cls := .type "enumerate", data := .fields #[.none, .bool false, .ref s.heap.objs.size, rawInt 0, .none, .none] }) rfl
  rw [hz] at he
  exact ⟨⟨_, he, rfl⟩, h _ ⟨he, ⟨_, Heap.get?_push_of_some _ (Heap.get?_push_size _ rfl), rfl, rfl⟩, by rw [Heap.size_push, hz], fun b o x => Heap.get?_push_of_some _ (Heap.get?_push_of_some _ x)⟩⟩
/-- the tuple at a, each item in a new pair with its number -/
def ItTe (K : Frg) (a : Addr) : It where
  go i H := ∃ (xs : List V) (x : V), SqT K H a xs ∧ xs[i]? = some x
  yld i H v H' := ∃ T x, v = .ref T ∧ H T = none ∧ H' = upd H T (.tup [.int (i : Nat), x]) ∧ ∀ xs, SqT K H a xs → xs[i]? = some x
  stop i H := ∃ xs : List V, SqT K H a xs ∧ xs.length ≤ i
end Py
end

section
set_option Elab.async false
set_option linter.all false
set_option maxRecDepth 100000
set_option maxHeartbeats 4000000
set_option autoImplicit false
namespace Py
open PySem PySem.Spec PyProof.Rows L2
theorem turn_enumT {P : Program} {w : World} {K : Frg} {elts : List Expr} {kk : Nat} {tpos : Pos} (a e it : Addr) (hta : a ≠ it) (hea : e ≠ a) :
    Turn P w K (.Tuple elts kk tpos) (ItTe K a) [e, it] e (fun i h => (∃ old, IsEnum h e it ((i : Nat) : Int) old) ∧ h.IsTupleIter it a i ∧ e ≠ it) where
  mem := List.mem_cons_self ..
  obj i h st b hb := by
    obtain ⟨⟨old, he⟩, ⟨o, ho, hc, hd⟩, _⟩ := st
    rcases List.mem_cons.mp hb with z | hb
    · subst z; exact ⟨_, he, fun v q => nomatch q⟩
    · obtain rfl := List.mem_singleton.mp hb
      exact ⟨o, ho, fun v q => by rw [hd] at q; cases q⟩
  keep i h h' st k := ⟨⟨st.1.choose, k e (by simp) _ st.1.choose_spec⟩, st.2.1.at (fun o q => k it (by simp) o q), st.2.2⟩
  item := by
    rintro X rfl rfl rfl hc i pins s σ H E I hf ⟨⟨old, he⟩, hit, hne⟩ ⟨xs, x, hq, hx⟩
    obtain ⟨its, rv, p, hz⟩ := I.tuple hq
    obtain ⟨u, hu, ru⟩ := rv.get hx
    have hel : e < s.heap.objs.size := Heap.lt_size he
    have hil : it < s.heap.objs.size := by obtain ⟨_, q, _⟩ := hit; exact Heap.lt_size q
    have D := Draws.tuple (prog := X.prog) (w := X.w) (A := X.A.in1) (I.ok.hd hc) it a hta its.toArray
    have hi : i < its.toArray.size := by rw [List.size_toArray]; exact (List.getElem?_eq_some_iff.mp hu).1
    refine wpAny_pyNext_enum_itemD D he ⟨hit, p⟩ hi hne (by simp [hne, hea]) fun u' h' tk hP ho hs' hT hsz hk => ?_
    obtain rfl : u' = u := by simpa [hu] using hP.symm
    refine ⟨_, rfl, wpAny_letOwnedTupleGo_enum (s := { s with heap := h', toks := tk + 1 }) ho fun h'' he' sb => ?_⟩
    have hT2 := (sb.2 _ (Nat.ne_of_gt hel)).trans hT
    have new : ObjOk X.prog X.w (upd H s.heap.objs.size (.tup [.int (i : Nat), x])) h'' s.heap.objs.size (.tup [.int (i : Nat), x]) := ⟨by show 2 ≤ sizeLine; decide, [.int i tk, u'], .cons ⟨_, rfl⟩ (.cons ru .nil), ⟨_, hT2, rfl, _, rfl⟩⟩
    have I1 := I.turnedNew (t' := tk + 1) (ch := [e, it]) (fun b ob hb q => (sb.2 b (fun z => hb (by simp [z]))).trans (hk b ob (fun z => hb (by simp [z])) (fun z => hb (by simp [z])) q)) hf (Nat.le_refl _) new
    refine ⟨.ref s.heap.objs.size, _, I1, rfl, ⟨_, x, rfl, I.hok.fresh (Nat.le_refl _), rfl, fun ys hy => by rw [I.tuple_inj hy hq]; exact hx⟩, ⟨⟨u', ?_⟩, ?_, hne⟩, fun b hb => ?_⟩
    · rw [show ((i + 1 : Nat) : Int) = (i : Int) + 1 by omega]; exact he'
    · exact hs'.1.at fun o q => (sb.2 it (Ne.symm hne)).trans q
    · rw [upd_ne fun z => ?_]
      · exact (hf b hb).1
      · rcases List.mem_cons.mp hb with q | q
        · exact absurd (z.symm.trans q) (Nat.ne_of_gt hel)
        · exact absurd (z.symm.trans (List.mem_singleton.mp q)) (Nat.ne_of_gt hil)
  done := by
    rintro X rfl rfl rfl hc i pins s σ H E I hf ⟨⟨old, he⟩, hit, hne⟩ ⟨xs, hq, hx⟩
    obtain ⟨its, rv, p, hz⟩ := I.tuple hq
    obtain ⟨f0, f1, f2, f3, f4, f5⟩ := hf it (by simp)
    have hl := rv.length
    have hT : s.TypeIs (.ref e) "enumerate" := ⟨_, he, rfl⟩; unfold pyNext
    refine wpAny_bind (wpAny_attempt (wpAny_callSpecial?_slot (name := Str.ofString "__next__") hT F.slot_enumerate_next (wpAny_call_entry F.slot_enumerate_next hT F.entry_enumerate_next ?_ (F.args_enumerate_next_1 _))))
    show wpAny _ _ (field (.ref e) 2 >>= _) _ _ _; refine wpAny_bind (wpAny_field he rfl (x := .ref it) rfl ?_)
    refine wpAny_bind (wpAny_nextOf_tuple_end (I.ok.hd hc) hit p (by simp; omega) fun h' x' eb ⟨o, ho, hco⟩ => ?_)
    refine wpAny_bind (wpAny_isInstance (T := "StopIteration") (b := true) ⟨o, ho, hco⟩ isSubtype_stop ?_); refine wpAny_pure ?_
    exact ⟨rfl, I.turned (t' := s.toks) (fun b o hb q => eb b o hb q) f0 f1 f3 f4 f5⟩
  self A i s Q E st h := by obtain ⟨⟨_, he⟩, _⟩ := st; exact wpAny_pyIter_enum he h
end Py
end

section
set_option Elab.async false
set_option linter.all false
set_option maxRecDepth 100000
set_option maxHeartbeats 4000000
set_option autoImplicit false
namespace Py
open PySem PySem.Spec PyProof.Rows L2
/-- what an iterator gives, as data, where R0 is known -/
structure Yl (K : Frg) (R0 : Hp) (J : It) (n : Nat) (y : Nat → Dt) : Prop where
  go : ∀ i H, i < n → Ex R0 H → J.go i H
  stop : ∀ H, Ex R0 H → J.stop n H
  yl : ∀ i H v H' (O : List Addr), i < n → J.yld i H v H' → Ex R0 (hd O H) → (∀ a ∈ O, ∃ o, H a = some o ∧ NoT o) → Ex H H' ∧ (∀ T, LamX.Tabs T H → LamX.Tabs T H') ∧ Is K (hd O H') (y i) v
def WiS (C : Ct) (wi : TI) (A : AS) (n : Nat) (y : Nat → Dt) (A1 : AS) : Prop := ∀ os σ H, Ok C os A σ H → ∀ R : It → Hp → Prop, (∀ os' H' J, Ok C os' A1 σ H' → Gr C.O os H os' H' → Yl C.K (Rh C.O os' H') J n y → R J H') → wi σ H R
section
variable {C : Ct} {E : XK} {A A1 A2 : AS} {t : TS} {te : TE} {tt : TT} {P : Po} {g : TG} {ws : List Nat} {wi : TI} {n : Nat} {y : Nat → Dt}
theorem r_forY (hw : WiS C wi A n y A1) (Pv : Nat → AS → Prop) (h0 : Pv 0 A1)
    (hs : ∀ (i : Nat) A, i < n → Pv i A → ∃ A', Tg C g (y i) A A' ∧ RunS C E t A' { P with nx := Pv (i + 1), ct := Pv (i + 1), bk := P.nx }) (hd' : ∀ A, Pv n A → P.nx A) : RunS C E (tFor wi g t) A P := fun os σ H D k T =>
  hw os σ H k _ fun os1 H1 J k1 e1 Y => by
    refine ⟨fun i m σ' H' => m = n - i ∧ i ≤ n ∧ ∃ os' A', Pv i A' ∧ Ok C os' A' σ' H' ∧ Gr C.O os1 H1 os' H', ⟨n, rfl, Nat.zero_le _, os1, A1, h0, k1, Gr.refl⟩, ?_⟩
    rintro i m σ' H' ⟨rfl, hi, os', A', p, k', g'⟩
    by_cases hlt : i < n
    · obtain ⟨A2, tg, run⟩ := hs i A' hlt p
      refine .inr ⟨Y.go i H' hlt (g'.e.trans hd_ex), fun σ2 H2 => i + 1 ≤ n ∧ ∃ os' A', Pv (i + 1) A' ∧ Ok C os' A' σ2 H2 ∧ Gr C.O os1 H1 os' H2, fun σ2 H2 q => ⟨n - (i + 1), by omega, rfl, q.1, q.2⟩, fun v H2 hy => ?_⟩
      obtain ⟨x1, x2, x3⟩ := Y.yl i H' v H2 (hid C.O os') hlt hy g'.e fun a h => k'.hidden h
      have k2 := k'.mono x1 (x2 _ k'.tb)
      have g2 := g'.trans (k'.gr x1)
      refine tg os' σ' H2 v _ k2 x3 fun σ2 k3 => ?_
      exact run os' σ2 H2 _ k3 ⟨fun os3 A3 σ3 H3 h k3 g3 => ⟨hlt, os3, A3, h, k3, g2.trans g3⟩, fun os3 A3 σ3 d v H3 h k3 g3 i3 => T.rt os3 A3 σ3 d v H3 h k3 ((e1.trans g2).trans g3) i3, fun os3 A3 σ3 H3 h k3 g3 => T.nx os3 A3 σ3 H3 h k3 ((e1.trans g2).trans g3), fun os3 A3 σ3 H3 h k3 g3 => ⟨hlt, os3, A3, h, k3, g2.trans g3⟩, T.er⟩
    · obtain rfl : i = n := by omega
      exact .inl ⟨Y.stop H' (g'.e.trans hd_ex), T.nx os' A' σ' H' (hd' A' p) k' (e1.trans g')⟩
theorem e_lcY (hw : WiS C wi A n y A1) (B : Nat → AS) (Z : Nat → List Dt) (h0 : A1 = B 0) (hZ : Z 0 = [])
    (hs : ∀ i, i < n → ∀ O, LcT ⟨C.K, C.T, C.H0, O⟩ g tt te ws (y i) (B i) (Z i) (B (i + 1)) (Z (i + 1))) (hn : n < 100000) : EvS C (tLc wi g tt te ws) A (.lst (Z n)) (B n) := fun os σ H k Q q =>
  hw os σ H k _ fun os1 H1 J k1 g1 Y p hp => by
    have hl : ∀ i, i ≤ n → (Z i).length ≤ i := by
      intro i
      induction i with
      | zero => intro _; rw [hZ]; exact Nat.le_refl _
      | succ i ih =>
        intro hi
        obtain ⟨_, _, _, _, _, h⟩ := hs i hi []
        rcases h with ⟨_, _, _, _, e, _⟩ | ⟨_, e, _⟩ <;> rw [e] <;> have := ih (by omega) <;> (try simp only [List.length_append, List.length_singleton]) <;> omega
    subst h0
    refine ⟨fun i m H' => m = n - i ∧ i ≤ n ∧ ∃ os' acc, Ok (C.hide p) os' (B i) σ H' ∧ GrP p C.O os1 (upd H1 p (.lst [])) os' H' ∧ H' p = some (.lst acc) ∧ IsA C.K (Rh (p :: C.O) os' H') (Z i) acc, ⟨n, rfl, Nat.zero_le _, os1, [], k1.hide hp nt_l, ⟨Ex.refl _, fun _ _ => rfl, fun _ _ h => h⟩, upd_same, by rw [hZ]; exact isA_nil⟩, ?_⟩
    rintro i m H' ⟨rfl, hi, os', acc, k', g', hp', ha⟩
    have e' : Ex (Rh C.O os1 H1) (Rh (p :: C.O) os' H') := by
      have e := g'.e
      rw [Rh_hide hp] at e
      exact e
    by_cases hlt : i < n
    · refine .inr ⟨Y.go i H' hlt (e'.trans hd_ex), fun H2 => i + 1 ≤ n ∧ ∃ os' acc, Ok (C.hide p) os' (B (i + 1)) σ H2 ∧ GrP p C.O os1 (upd H1 p (.lst [])) os' H2 ∧ H2 p = some (.lst acc) ∧ IsA C.K (Rh (p :: C.O) os' H2) (Z (i + 1)) acc, fun H2 q => ⟨n - (i + 1), by omega, rfl, q.1, q.2⟩, fun v H2 hy => ?_⟩
      obtain ⟨x1, x2, x3⟩ := Y.yl i H' v H2 (hid (p :: C.O) os') hlt hy e' fun a h => k'.hidden h
      have k2 := k'.mono x1 (x2 _ k'.tb)
      have gp : GrP p C.O os' H' os' H2 := ⟨hd_mono x1, fun a h => by
        obtain ⟨o, q, nt⟩ := k'.ol a (List.mem_cons_of_mem _ h)
        rw [q, x1 _ _ q nt], fun _ _ h => h⟩
      exact lc_turn (hs i hlt _) k2 (x1 _ _ hp' nt_l) (IsA.mono (hd_mono x1) _ _ ha) x3 (fresh_0 k1 hp) (fresh_O k1 hp) (by have := hl i (by omega); omega) _ fun os2 acc2 H3 k3 g3 hp3 ha3 => ⟨hlt, os2, acc2, k3, (g'.trans gp).trans g3, hp3, ha3⟩
    · obtain rfl : i = n := by omega
      exact .inl ⟨Y.stop H' (e'.trans hd_ex), lc_end k1 hp k' g' hp' ha fun os2 v H2 k2 g2 i2 => q os2 v H2 k2 (g1.trans g2) i2⟩
end
end Py
end

section
set_option Elab.async false
set_option linter.all false
set_option maxRecDepth 100000
set_option maxHeartbeats 4000000
set_option autoImplicit false
namespace Py
open PySem PySem.Spec PyProof.Rows L2
/-- enumerate(t), t a tuple -/
def iEnT (K : Frg) (ta : TA) : TI := fun σ H R => ta σ H fun vs H1 => ∃ (a : Addr) (xs : List V), vs = [.ref a] ∧ SqT K H1 a xs ∧ R (ItTe K a) H1
theorem pi_enumT {X : Cx} {K : Frg} {e : Expr} {ta : TA} {p pos tpos : Pos} {elts : List Expr} {kk : Nat} (hK : X.K = K) (hg : Gl X "enumerate") (hm : X.mg "enumerate" = none) (ha : PA X [e] ta) (hs : starEach [e] X.env = [(false, eval e X.env)] := by rfl) :
    PI X (.Tuple elts kk tpos) (.Call (.Name "enumerate" p) [e] [] pos) (iEnT K ta) := by
  subst hK
  refine ⟨fun pins s σ H R I h => Call_ (ld_blt I hg hm boot_enumerate (PyProof.Rows.callWith_type1 (thn (ha.run pos pins s σ H _ I h) fun us s1 ⟨vs, H1, I1, r1, q1⟩ => ?_) hs rfl))⟩
  obtain ⟨a, xs, rfl, hq, q⟩ := q1
  obtain ⟨u, rfl, r⟩ := vals1 r1
  cases r
  obtain ⟨its, rv, p', hz⟩ := I1.tuple hq
  have hlt : a < s1.heap.objs.size := by obtain ⟨o, ho, _⟩ := id p'; exact Heap.lt_size ho
  refine call_enumT (show s1.heap.IsTuple a its.toArray from p') fun h' ⟨he, hit, hsz, hk⟩ => wpAny_pyIter_enum he ?_
  have I2 : Inv X pins σ H1 { s1 with heap := h' } := I1.kept (t' := s1.toks) hk
  refine ⟨s1.heap.objs.size + 1, [s1.heap.objs.size + 1, s1.heap.objs.size], _, _, H1, rfl, I2, turn_enumT a (s1.heap.objs.size + 1) s1.heap.objs.size (Nat.ne_of_lt hlt) (Nat.ne_of_gt (Nat.lt_succ_of_lt hlt)), ⟨⟨.none, he⟩, hit, Nat.succ_ne_self _⟩, fun b hb => ?_, q⟩
  have hle : s1.heap.objs.size ≤ b := by
    rcases List.mem_cons.mp hb with z | z
    · rw [z]; exact Nat.le_succ _
    · rw [List.mem_singleton.mp z]; exact Nat.le_refl _
  exact I1.fpOk hle (I1.hok.fresh hle)
section
variable {C : Ct} {A A1 : AS} {tl : TA} {xs ys : List Dt}
theorem new_pair {K : Frg} {H : Hp} {O : List Addr} {T : Addr} {x y : V} {d d' : Dt} {R0 : Hp} (hT : H T = none) (e0 : Ex R0 (hd O H)) (hO : ∀ a ∈ O, ∃ o, H a = some o ∧ NoT o) (h1 : Is K R0 d x) (h2 : Is K R0 d' y) :
    Ex H (upd H T (.tup [x, y])) ∧ (∀ Tb, LamX.Tabs Tb H → LamX.Tabs Tb (upd H T (.tup [x, y]))) ∧ Is K (hd O (upd H T (.tup [x, y]))) (.tup [d, d']) (.ref T) := by
  refine ⟨Ex.new hT, fun Tb h => tabs_new h hT, ?_⟩
  have e1 := e0.trans (hd_mono (O := O) (Ex.new (o := .tup [x, y]) hT))
  rw [Is]
  refine ⟨T, [x, y], rfl, SqT.of ?_, isA_cons (Is.mono e1 _ _ h1) (isA_cons (Is.mono e1 _ _ h2) isA_nil)⟩
  rw [hd_of fun z => ?_]
  · exact upd_same
  · obtain ⟨o, e, _⟩ := hO T z
    rw [hT] at e; cases e
theorem yl_enumT {R0 : Hp} {K : Frg} {a : Addr} {vs : List V} (h1 : SqT K R0 a vs) (h2 : IsA K R0 xs vs) (x0 : Dt) : Yl K R0 (ItTe K a) xs.length fun i => .tup [di i, xs.getD i x0] where
  go i H hi e := by
    have hl : i < vs.length := by rw [isA_len h2]; exact hi
    exact ⟨vs, vs[i], e.t h1, List.getElem?_eq_getElem hl⟩
  stop H e := ⟨vs, e.t h1, by rw [isA_len h2]; exact Nat.le_refl _⟩
  yl i H v H' O hi hy e hO := by
    obtain ⟨T, x, rfl, hT, rfl, hx⟩ := hy
    obtain ⟨d, hd', hi'⟩ := isA_get' h2 (hx vs ((e.trans hd_ex).t h1))
    have : xs.getD i x0 = d := by rw [List.getD_eq_getElem?_getD, hd']; rfl
    rw [this]
    exact new_pair hT e hO is_v hi'
theorem w_enumT (h : EvA C tl A [.tup xs] A1) (x0 : Dt) : WiS C (iEnT C.K tl) A xs.length (fun i => .tup [di i, xs.getD i x0]) A1 := fun os σ H k R q =>
  h os σ H k _ fun os1 vs H1 k1 e1 i1 => by
    simp only [IsA] at i1
    obtain ⟨v, w, rfl, i1, rfl⟩ := i1
    rw [Is] at i1
    obtain ⟨a, vs, rfl, h2, h3⟩ := i1
    exact ⟨a, vs, rfl, hd_ex.t h2, q os1 H1 _ k1 e1 (yl_enumT h2 h3 x0)⟩
theorem yl_zipT {R0 : Hp} {K : Frg} {a b : Addr} {vs us : List V} (h1 : SqT K R0 a vs) (h2 : IsA K R0 xs vs) (h3 : SqT K R0 b us) (h4 : IsA K R0 ys us) (x0 : Dt) : Yl K R0 (RZ.ItzT K a b) (min xs.length ys.length) fun i => .tup [xs.getD i x0, ys.getD i x0] where
  go i H hi e := by
    have hl : i < vs.length := by rw [isA_len h2]; omega
    have hl' : i < us.length := by rw [isA_len h4]; omega
    exact ⟨vs, us, vs[i], us[i], e.t h1, e.t h3, List.getElem?_eq_getElem hl, List.getElem?_eq_getElem hl'⟩
  stop H e := ⟨vs, us, e.t h1, e.t h3, by rw [isA_len h2, isA_len h4]; omega⟩
  yl i H v H' O hi hy e hO := by
    obtain ⟨T, x, y, rfl, hT, rfl, hx, hy⟩ := hy
    obtain ⟨d, hd1, hi1⟩ := isA_get' h2 (hx vs ((e.trans hd_ex).t h1))
    obtain ⟨d', hd2, hi2⟩ := isA_get' h4 (hy us ((e.trans hd_ex).t h3))
    have g1 : xs.getD i x0 = d := by rw [List.getD_eq_getElem?_getD, hd1]; rfl
    have g2 : ys.getD i x0 = d' := by rw [List.getD_eq_getElem?_getD, hd2]; rfl
    rw [g1, g2]
    exact new_pair hT e hO hi1 hi2
theorem w_zipT (h : EvA C tl A [.tup xs, .tup ys] A1) (x0 : Dt) : WiS C (RZ.iZipA C.K tl) A (min xs.length ys.length) (fun i => .tup [xs.getD i x0, ys.getD i x0]) A1 := fun os σ H k R q =>
  h os σ H k _ fun os1 vs H1 k1 e1 i1 => by
    simp only [IsA] at i1
    obtain ⟨v, w, rfl, i1, v', w', rfl, i2, rfl⟩ := i1
    rw [Is] at i1 i2
    obtain ⟨a, vs, rfl, h2, h3⟩ := i1
    obtain ⟨b, us, rfl, h4, h5⟩ := i2
    exact ⟨a, b, vs, us, rfl, .inr ⟨hd_ex.t h2, hd_ex.t h4, q os1 H1 _ k1 e1 (yl_zipT h2 h3 h4 h5 x0)⟩⟩
theorem yl_revT {R0 : Hp} {K : Frg} {a : Addr} {vs : List V} (h1 : SqT K R0 a vs) (h2 : IsA K R0 xs vs) (x0 : Dt) : Yl K R0 (RT.ItvT K a vs.length) xs.length fun i => xs.getD (xs.length - 1 - i) x0 where
  go i H hi e := by
    have hl := isA_len h2
    exact ⟨by omega, vs, vs[vs.length - 1 - i]'(by omega), e.t h1, List.getElem?_eq_getElem _⟩
  stop H e := by
    show vs.length ≤ xs.length
    rw [isA_len h2]; exact Nat.le_refl _
  yl i H v H' O hi hy e hO := by
    obtain ⟨rfl, hx⟩ := hy
    obtain ⟨d, hd', hi'⟩ := isA_get' h2 (hx vs ((e.trans hd_ex).t h1))
    have : xs.getD (xs.length - 1 - i) x0 = d := by rw [List.getD_eq_getElem?_getD, ← isA_len h2, hd']; rfl
    rw [this]
    exact ⟨Ex.refl _, fun _ h => h, Is.mono e _ _ hi'⟩
theorem w_revT {te : TE} (h : EvS C te A (.tup xs) A1) (x0 : Dt) : WiS C (RT.iRevA C.K te) A xs.length (fun i => xs.getD (xs.length - 1 - i) x0) A1 := fun os σ H k R q =>
  h os σ H k _ fun os1 v H1 k1 e1 i1 => by
    rw [Is] at i1
    obtain ⟨a, vs, rfl, h2, h3⟩ := i1
    exact ⟨a, vs, rfl, .inr ⟨hd_ex.t h2, q os1 H1 _ k1 e1 (yl_revT h2 h3 x0)⟩⟩
end
end Py
end

section
set_option Elab.async false
set_option linter.all false
set_option maxRecDepth 100000
set_option maxHeartbeats 4000000
set_option autoImplicit false
namespace Py
open PySem PySem.Spec PyProof.Rows L2
/-! ### fractions and rows of them, told alike or not -/
def pyq (q : Rat) : PyData := .tuple [.int (qp q).1, .int (qp q).2]
theorem nice_q (q : Rat) : Nice 1 (fq q) (pyq q) := nice_fr (qp q)
theorem nice_fl (l : List Rat) : Nice 2 (.tup (fl l)) (.tuple (l.map pyq)) := .tup (niceA_map nice_q l)
theorem eqv_q (p q : Rat) : PyData.eqv (pyq p) (pyq q) = decide (p = q) := by
  rw [pyq, pyq, PyData.eqv, PyData.eqvAll, PyData.eqvAll, PyData.eqvAll, PyData.eqv, PyData.eqv, Bool.and_true]
  by_cases h : p = q
  · subst h
    simp
  · rw [decide_eq_false h]
    by_cases h1 : (qp p).1 = (qp q).1
    · have h2 : (qp p).2 ≠ (qp q).2 := fun z => h (qp_inj (Prod.ext h1 z))
      simp [h2]
    · simp [h1]
theorem eqv_ql : ∀ a b : List Rat, PyData.eqvAll (a.map pyq) (b.map pyq) = decide (a = b)
  | [], [] => by rw [List.map_nil, PyData.eqvAll]; rfl
  | [], q :: b => by rw [List.map_nil, List.map_cons, PyData.eqvAll]; rfl
  | p :: a, [] => by rw [List.map_nil, List.map_cons, PyData.eqvAll]; rfl
  | p :: a, q :: b => by
    rw [List.map_cons, List.map_cons, PyData.eqvAll, eqv_q, eqv_ql a b]
    by_cases h : p = q <;> by_cases h' : a = b <;> simp [h, h']
section
variable {C : Ct}
theorem o_eqQ (p q : Rat) : OpS C (rEqA C.K) (fq p) (fq q) (db (decide (p = q))) := by
  have := o_eqN (C := C) (nice_q p) (nice_q q)
  rw [eqv_q] at this
  exact this
theorem o_neQ (p q : Rat) : OpS C (rNeA C.K) (fq p) (fq q) (db (!decide (p = q))) := by
  have := o_neN (C := C) (nice_q p) (nice_q q)
  rw [eqv_q] at this
  exact this
theorem o_eqF (a b : List Rat) : OpS C (rEqA C.K) (.tup (fl a)) (.tup (fl b)) (db (decide (a = b))) := by
  have := o_eqN (C := C) (nice_fl a) (nice_fl b)
  rw [PyData.eqv, eqv_ql] at this
  exact this
theorem o_neF (a b : List Rat) : OpS C (rNeA C.K) (.tup (fl a)) (.tup (fl b)) (db (!decide (a = b))) := by
  have := o_neN (C := C) (nice_fl a) (nice_fl b)
  rw [PyData.eqv, eqv_ql] at this
  exact this
end
theorem qp0 : qp 0 = (0, 1) := by decide
theorem qp1 : qp 1 = (1, 1) := by decide
theorem qpm : qp (-1) = (-1, 1) := by decide
end Py
end

section
set_option Elab.async false
set_option linter.all false
set_option maxRecDepth 100000
set_option maxHeartbeats 4000000
set_option autoImplicit false
namespace Py
open PySem PySem.Spec PyProof.Rows L2
/-! ### lists of one's own: list(..), what is taken off, how they compare -/
section
variable {C : Ct} {E : XK} {A A1 A2 : AS} {te : TE} {tl : TE} {P : Po} {i n : Nat} {xs : List Dt} {x : Dt}
/-- row = list(row) -/
theorem r_listO (h : EvS C te A x A1) (hx : x = .tup xs ∨ x = .lst xs) (hn : P.nx (A1.newO i xs)) : RunS C E (tAsg (tCB (fun ys H Q => ∃ p zs, ys = [V.ref p] ∧ (SqL C.K H p zs ∨ SqT C.K H p zs) ∧ ∀ (l : Addr), H l = none → Q (V.ref l) (upd H l (HO.lst zs))) (tCons te tNil)) (gName i)) A P := fun os σ H D k T =>
  h os σ H k _ fun os1 v H1 k1 e1 i1 => by
    have i1' : ∃ a vs, v = .ref a ∧ (SqL C.K (Rh C.O os1 H1) a vs ∨ SqT C.K (Rh C.O os1 H1) a vs) ∧ IsA C.K (Rh C.O os1 H1) xs vs := by
      rcases hx with rfl | rfl
      · rw [Is] at i1
        obtain ⟨a, vs, e, h2, h3⟩ := i1
        exact ⟨a, vs, e, .inr h2, h3⟩
      · rw [Is] at i1
        obtain ⟨a, vs, e, h2, h3⟩ := i1
        exact ⟨a, vs, e, .inl h2, h3⟩
    obtain ⟨a, vs, rfl, h2, h3⟩ := i1'
    refine ⟨a, vs, rfl, h2.imp hd_ex.l hd_ex.t, fun p hp => T.nx _ _ _ _ hn (k1.newO hp h3) (e1.trans ⟨?_, fun b hb => ?_, fun j y hj => ?_⟩)⟩
    · rw [Rh_app hp]; exact Ex.refl _
    · obtain ⟨o, q, m⟩ := k1.ol b hb
      rw [q, Ex.new hp _ _ q m]
    · rw [List.getElem?_append_left (List.getElem?_eq_some_iff.mp hj).1]; exact hj
/-- xs.pop() -/
theorem e_popO {d : Dt} (h1 : A.sl[i]? = some (.own n)) (h2 : A.st[n]? = some (.lst xs)) (hd' : xs[xs.length - 1]? = some d) : EvS C (tBM0 C.K "list" rPop (tVar i)) A d (A.upO n xs.dropLast) := fun os σ H k Q q => by
  obtain ⟨o, e1, a, e2, e3⟩ := k.slot h1
  subst e2
  obtain ⟨o3, s1, a3, vs, s2, s3, s4⟩ := k.store h2
  rw [e3] at s1; cases s1; cases s2
  obtain ⟨v, hv, iv⟩ := isA_get s4 hd'
  have hl := isA_len s4
  refine ⟨_, e1, .inl ⟨rfl, _, .inl (.inl s3)⟩, a, vs, v, rfl, rfl, s3, by rw [hl]; exact hv, ?_⟩
  have s5 : IsA C.K (Rh C.O os H) xs.dropLast vs.dropLast := by
    rw [List.dropLast_eq_take, List.dropLast_eq_take, hl]
    exact isA_take _ s4
  have e : Rh C.O os (upd H a (.lst vs.dropLast)) = Rh C.O os H := Rh_upd (mem_hid.mpr (.inr (List.mem_of_getElem? e3)))
  refine q os v _ (k.upO e3 h2 s5) ⟨by rw [e]; exact Ex.refl _, fun b hb => (by rw [upd_ne fun z => k.dj b hb (by rw [z]; exact List.mem_of_getElem? e3)]), fun _ _ h => h⟩ ?_
  rw [e]
  exact iv
/-- len(xs) -/
theorem e_lenO (h1 : A.sl[i]? = some (.own n)) (h2 : A.st[n]? = some (.lst xs)) : EvS C (tCB (fun ys H Q => ∃ x n, ys = [x] ∧ LenV C.K x H n ∧ Q (V.int n) H) (tCons (tVar i) tNil)) A (di xs.length) A := fun os σ H k Q q => by
  obtain ⟨o, e1, a, e2, e3⟩ := k.slot h1
  subst e2
  obtain ⟨o3, s1, a3, vs, s2, s3, s4⟩ := k.store h2
  rw [e3] at s1; cases s1; cases s2
  exact ⟨_, e1, _, vs.length, rfl, .inl ⟨vs, SqL.of s3, rfl⟩, by rw [isA_len s4]; exact q os _ H k Gr.refl is_v⟩
theorem own_dp {os : List (Option Addr)} {σ : Sg} {H : Hp} {p : PyData} {m : Nat} {a : Addr} (k : Ok C os A σ H) (e3 : os[n]? = some (some a)) (h2 : A.st[n]? = some (.lst xs)) (hp : Nice m (.lst xs) p) : Dp C.K H (.ref a) p := by
  obtain ⟨o3, s1, a3, vs, s2, s3, s4⟩ := k.store h2
  rw [e3] at s1; cases s1; cases s2
  have d1 : Is C.K (hd C.O H) (.lst xs) (.ref a) := by
    rw [Is]
    refine ⟨a, vs, rfl, SqL.of ?_, IsA.mono hid_ex _ _ s4⟩
    rw [hd_of fun z => k.dj a z (List.mem_of_getElem? e3)]
    exact s3
  exact Dp.mono hd_ex (Is.dp _ _ p d1 hp.all.1)
/-- xs != [] and the like -/
theorem e_neO {p q' : PyData} {m m' : Nat} {y : Dt} (h1 : A.sl[i]? = some (.own n)) (h2 : A.st[n]? = some (.lst xs)) (hp : Nice m (.lst xs) p) (hy : EvS C te A y A) (hq : Nice m' y q') (hm : m ≤ 64 := by decide) (hm' : m' ≤ 64 := by decide) : EvS C (tOp (rNeA C.K) (tVar i) te) A (db (!PyData.eqv p q')) A := fun os σ H k Q q => by
  obtain ⟨o, e1, a, e2, e3⟩ := k.slot h1
  subst e2
  refine ⟨_, e1, hy os σ H k _ fun os1 w H1 k1 g1 i1 => ?_⟩
  exact .inr ⟨p, q', own_dp k1 (g1.p _ _ e3) h2 hp, Dp.mono hd_ex (Is.dp _ _ _ i1 hq.all.1), hp.shaped hm, hq.shaped hm', q os1 _ H1 k1 g1 is_v⟩
end
theorem call_lenK {X : Cx} {K : Frg} (hK : X.K = K) : CallR X (.builtin "len") (fun xs H Q => ∃ x n, xs = [x] ∧ LenV K x H n ∧ Q (V.int (n : Nat)) H) := by subst hK; exact call_len
end Py
end

section
set_option Elab.async false
set_option linter.all false
set_option maxRecDepth 100000
set_option maxHeartbeats 4000000
set_option autoImplicit false
namespace Py
open PySem PySem.Spec PyProof.Rows L2
section
variable {C : Ct} {E : XK} {A A1 A2 : AS} {te ti tk : TE} {tl : TA} {P : Po} {i n : Nat} {xs : List Dt} {d : Dt}
/-- row = [x, ..] * k -/
theorem r_repO {k0 : Int} (h : EvA C tl A xs A1) (hk : EvS C tk A1 (di k0) A2) (h1 : 0 ≤ k0 ∧ k0 < 100000) (hl : xs.length * k0.toNat ≤ 100000) (hl0 : xs.length ≤ 100000) (hn : P.nx (A2.newO i (List.replicate k0.toNat xs).flatten)) : RunS C E (tAsg (tOp (rMulA C.K) (tLst tl) tk) (gName i)) A P := fun os σ H D k T =>
  h os σ H k _ fun os1 vs H1 k1 g1 i1 => ⟨by rw [isA_len i1]; exact Nat.le_trans hl0 (by decide), fun p hp => by
    have k2 := k1.monoN (o := .lst vs) hp
    refine hk os1 σ _ k2 _ fun os2 w H2 k3 g2 i2 => ?_
    rw [Is.v_iff.mp i2]
    have np : p ∉ hid C.O os1 := k1.new hp
    have r1 : Rh C.O os1 (upd H1 p (.lst vs)) p = some (.lst vs) := (hd_of np).trans upd_same
    have r2 : H2 p = some (.lst vs) := hd_ex _ _ (g2.e _ _ r1 nt_l) nt_l
    refine .inr ⟨p, k0, vs, rfl, rfl, r2, by omega, by omega, by rw [isA_len i1]; exact Nat.le_trans hl (by decide : 100000 ≤ sizeLine), fun r hr => ?_⟩
    have i3 := isA_rep (IsA.mono ((hd_mono (Ex.new hp)).trans g2.e) _ _ i1) k0.toNat
    refine T.nx _ _ _ _ hn (k3.newO hr i3) (((g1.trans (k1.gr (Ex.new hp))).trans g2).trans ⟨?_, fun b hb => ?_, fun j y hj => ?_⟩)
    · rw [Rh_app hr]; exact Ex.refl _
    · obtain ⟨o, q, m⟩ := k3.ol b hb
      rw [q, Ex.new hr _ _ q m]
    · rw [List.getElem?_append_left (List.getElem?_eq_some_iff.mp hj).1]; exact hj⟩
/-- row[e] = .. -/
theorem r_setE {z : Int} {j : Nat} (he : EvS C te A d A1) (hi : EvS C ti A1 (di z) A1) (h1 : A1.sl[i]? = some (.own n)) (h2 : A1.st[n]? = some (.lst xs)) (hj : ixN xs.length z = some j) (h : P.nx (A1.upO n (xs.set j d))) : RunS C E (tAsg te (gSub (tVar i) ti rSetL)) A P := fun os σ H D k T =>
  he os σ H k _ fun os1 v H1 k1 e1 i1 => by
    obtain ⟨o, f1, a, f2, f3⟩ := k1.slot h1
    subst f2
    refine ⟨_, f1, hi os1 σ H1 k1 _ fun os2 w H2 k2 e2 i2 => ?_⟩
    have f4 := e2.p _ _ f3
    obtain ⟨o3, s1, a3, vs, s2, s3, s4⟩ := k2.store h2
    rw [f4] at s1; cases s1; cases s2
    rw [Is.v_iff.mp i2]
    have i1' := Is.mono e2.e _ _ i1
    refine ⟨a, vs, z, j, rfl, rfl, s3, by rw [isA_len s4]; exact hj, ?_⟩
    exact T.nx os2 _ σ _ h (k2.upO f4 h2 (isA_set s4 i1')) ((e1.trans e2).trans ⟨by rw [Rh_upd (mem_hid.mpr (.inr (List.mem_of_getElem? f4)))]; exact Ex.refl _, fun b hb => (by rw [upd_ne fun z => k2.dj b hb (by rw [z]; exact List.mem_of_getElem? f4)]), fun _ _ h => h⟩)
end
end Py
end

section
set_option Elab.async false
set_option linter.all false
set_option maxRecDepth 100000
set_option maxHeartbeats 4000000
set_option autoImplicit false
namespace Py
open PySem PySem.Spec PyProof.Rows L2
/-! ### a def that turns a dice, over data -/
theorem hd_same {O O2 : List Addr} {H : Hp} (h : ∀ b, b ∈ O ↔ b ∈ O2) : hd O H = hd O2 H := by
  funext b
  unfold hd
  by_cases c : b ∈ O
  · rw [if_pos c, if_pos ((h b).mp c)]
  · rw [if_neg c, if_neg fun z => c ((h b).mpr z)]
def spTurnD (K : Frg) (T : List (Addr × Str)) (g : Dice → List Dt → Dt → Dice → Prop) : Sp := fun vs H Q _ => ∃ (O : List Addr) (a : Addr) (c : Dice) (ws : List V) (ds : List Dt) (r : Dt) (c' : Dice), vs = .ref a :: ws ∧ a ∉ O ∧ (∀ b ∈ O, ∃ o, H b = some o ∧ NoT o) ∧ H a = some (.lst c.vs) ∧ IsA K (hd (a :: O) H) ds ws ∧ g c ds r c' ∧ LamX.Tabs T H ∧
  ∀ v H', (∀ b o, b ≠ a → H b = some o → NoT o → H' b = some o) → LamX.Tabs T H' → H' a = some (.lst c'.vs) → Is K (hd (a :: O) H') r v → Q v H'
theorem hid_one {O : List Addr} {a b : Addr} : b ∈ hid O [some a] ↔ b ∈ a :: O := by
  rw [mem_hid]
  constructor
  · intro h
    rcases h with h | h
    · exact List.mem_cons_of_mem _ h
    · rw [Option.some.inj (List.mem_singleton.mp h)]; exact List.mem_cons_self ..
  · intro h
    rcases List.mem_cons.mp h with h | h
    · rw [h]; exact Or.inr (List.mem_cons_self ..)
    · exact Or.inl h
theorem start_ownD {K : Frg} {T : List (Addr × Str)} {N : List Str} {O : List Addr} {a : Addr} {xs ws : List V} {ds : List Dt} {H : Hp} (ht : LamX.Tabs T H) (ha : H a = some (.lst xs)) (hO : a ∉ O) (hO2 : ∀ b ∈ O, ∃ o, H b = some o ∧ NoT o) (hw : IsA K (hd (a :: O) H) ds ws) :
    Ok ⟨K, T, fun b => if b = a then none else H b, O⟩ [some a] ⟨.own 0 :: (ds.map SD.d) ++ List.replicate (N.length - (ds.length + 1)) .un, [.lst (xs.map .v)]⟩ (L2.start N (.ref a :: ws)) H := by
  have hr : Rh O [some a] H = hd (a :: O) H := hd_same fun b => hid_one
  have hl := isA_len hw
  refine ⟨fun b o e n => ?_, ht, hO2, fun b h z => ?_, rfl, fun i j b h1 h2 => ?_, fun b h => ?_, ?_, fun i s o h1 h2 => ?_, fun i s o h1 h2 => ?_⟩
  · have e : (if b = a then none else H b) = some o := e
    split at e
    · cases e
    · exact e
  · obtain rfl := Option.some.inj (List.mem_singleton.mp z); exact hO h
  · cases i with
    | succ i => simp at h1
    | zero => cases j with
      | succ j => simp at h2
      | zero => rfl
  · obtain rfl := Option.some.inj (List.mem_singleton.mp h)
    refine ⟨fun o e => ?_, _, ha, nt_l⟩
    have e : (if b = b then none else H b) = some o := e
    rw [if_pos rfl] at e; cases e
  · simp [L2.start, hl]
  · rw [hr]
    cases i with
    | zero =>
      simp [L2.start] at h1 h2
      subst h1 h2
      exact ⟨a, rfl, rfl⟩
    | succ i =>
      have h1 : (ds.map SD.d ++ List.replicate (N.length - (ds.length + 1)) SD.un)[i]? = some s := by simpa using h1
      have h2 : (ws.map some ++ List.replicate (N.length - (ws.length + 1)) none)[i]? = some o := by simpa [L2.start] using h2
      rw [List.getElem?_append] at h1 h2
      rw [List.length_map] at h1 h2
      by_cases c : i < ds.length
      · rw [if_pos c, List.getElem?_map] at h1
        rw [if_pos (by omega), List.getElem?_map] at h2
        obtain ⟨d, e1, rfl⟩ := Option.map_eq_some_iff.mp h1
        obtain ⟨w, e2, rfl⟩ := Option.map_eq_some_iff.mp h2
        obtain ⟨w', e3, e4⟩ := isA_get hw e1
        rw [e2] at e3; cases e3
        exact ⟨w, rfl, e4⟩
      · rw [if_neg c, List.getElem?_replicate] at h1
        split at h1
        · cases h1; trivial
        · cases h1
  · cases i with
    | zero =>
      simp at h1 h2
      subst h1 h2
      exact ⟨a, xs, rfl, ha, flat_isA⟩
    | succ i => simp at h1
/-- the end of such a def's body -/
theorem turn_finD {K : Frg} {T : List (Addr × Str)} {N : List Str} {O : List Addr} {a : Addr} {c c' : Dice} {ws : List V} {ds : List Dt} {r : Dt} {H : Hp} {t : TS} {E : XK} {Q : VK} {sl : List SD} (ha : H a = some (.lst c.vs)) (ht : LamX.Tabs T H) (hO : a ∉ O) (hO2 : ∀ b ∈ O, ∃ o, H b = some o ∧ NoT o) (hw : IsA K (hd (a :: O) H) ds ws)
    (q : ∀ v H', (∀ b o, b ≠ a → H b = some o → NoT o → H' b = some o) → LamX.Tabs T H' → H' a = some (.lst c'.vs) → Is K (hd (a :: O) H') r v → Q v H') (hs : sl = .own 0 :: (ds.map SD.d) ++ List.replicate (N.length - (ds.length + 1)) .un) (hp : pl r = true)
    (R : RunS ⟨K, T, fun b => if b = a then none else H b, O⟩ E t ⟨sl, [.lst c.ds]⟩ { rt := fun r' A => r' = r ∧ A.st = [.lst c'.ds] }) : t { nx := fun _ H' => Q .non H', rt := Q } (L2.start N (.ref a :: ws)) H := by
  subst hs
  have k := start_ownD (N := N) ht ha hO hO2 hw
  exact R [some a] _ H _ k ⟨fun _ _ _ _ z => z.elim, fun os A σ r' u H' ⟨h1, h3⟩ k' g' i' => by
    have o0 := g'.p 0 (some a) rfl
    obtain ⟨o, s1, a3, vs, s2, s3, s4⟩ := k'.store (i := 0) (s := .lst c'.ds) (by rw [h3]; rfl)
    rw [o0] at s1; cases s1; cases s2
    rw [vs_of s4] at s3
    subst h1
    refine q u H' (fun b o hb e n => k'.ex b o ?_ n) k'.tb s3 ?_
    · show (if b = a then none else H b) = some o
      rw [if_neg hb]; exact e
    · exact is_hide (fun b hb hn => (by
        rcases List.mem_cons.mp hb with z | z
        · rw [z]; exact ⟨_, s3⟩
        · exact absurd z hn)) _ _ hp i', fun _ _ _ _ z => z.elim, fun _ _ _ _ z => z.elim, fun _ _ z => z.elim⟩
section
variable {C : Ct} {A : AS} {tl : TA} {i n : Nat} {c c' : Dice} {ds : List Dt} {r : Dt}
/-- f(dice, ..) -/
theorem e_turnD {E' : XK} {g : Dice → List Dt → Dt → Dice → Prop} (h1 : A.sl[i]? = some (.own n)) (h2 : A.st[n]? = some (.lst c.ds)) (hm : EvA C tl A ds A) (hg : g c ds r c') :
    EvS C (tCall (spTurnD C.K C.T g) [] E' (tCons (tVar i) tl)) A r (A.upO n c'.ds) := fun os σ H k Q q => by
  obtain ⟨o, f1, a, f2, f3⟩ := k.slot h1
  subst f2
  refine ⟨_, f1, hm os σ H k _ fun os1 vs H1 k1 g1 i1 => ?_⟩
  have f3' := g1.p n _ f3
  obtain ⟨o3, s1, a3, us, s2, s3, s4⟩ := k1.store h2
  rw [f3'] at s1; cases s1; cases s2
  rw [vs_of s4] at s3
  have hh : a ∈ hid C.O os1 := mem_hid.mpr (.inr (List.mem_of_getElem? f3'))
  have hs : ∀ b, b ∈ a :: (hid C.O os1).filter (fun b => decide (b ≠ a)) ↔ b ∈ hid C.O os1 := fun b => by
    rw [List.mem_cons, List.mem_filter]
    constructor
    · intro z
      rcases z with z | z
      · rw [z]; exact hh
      · exact z.1
    · intro z
      by_cases e : b = a
      · exact .inl e
      · exact .inr ⟨z, decide_eq_true e⟩
  refine ⟨(hid C.O os1).filter (fun b => decide (b ≠ a)), a, c, vs, ds, r, c', by rw [List.append_nil], fun z => ?_, fun b z => k1.hidden (List.mem_filter.mp z).1, s3, by rw [hd_same hs]; exact i1, hg, k1.tb, fun v H' e t ha iv => ?_⟩
  · exact absurd rfl (of_decide_eq_true (List.mem_filter.mp z).2)
  have ku := k1.upO f3' h2 (ys := c'.ds) ds_of
  have ex : Ex (upd H1 a (.lst c'.vs)) H' := fun b o hb nt => by
    by_cases eb : b = a
    · subst eb
      rw [upd_same] at hb; cases hb
      exact ha
    · rw [upd_ne eb] at hb; exact e b o eb hb nt
  rw [hd_same hs] at iv
  refine q os1 _ H' (ku.mono ex t) (g1.trans ⟨?_, fun b hb => ?_, fun _ _ h => h⟩) iv
  · have := hd_mono (O := hid C.O os1) ex
    rw [show hd (hid C.O os1) (upd H1 a _) = Rh C.O os1 H1 from Rh_upd hh] at this
    exact this
  · obtain ⟨o, hb1, nt⟩ := k1.ol b hb
    rw [hb1]
    exact e b o (fun z => k1.dj b hb (by rw [z]; exact List.mem_of_getElem? f3')) hb1 nt
end
end Py
end

section
set_option Elab.async false
set_option linter.all false
set_option maxRecDepth 100000
set_option maxHeartbeats 4000000
set_option autoImplicit false
namespace Py
open PySem PySem.Spec PyProof.Rows L2
section
variable {C : Ct} {A A1 A2 A3 A4 : AS} {te : TE} {tl : TA} {ta tb : TO} {xs ys : List Dt} {lo hi : Option Int}
/-- [x, ..] + ys[lo:hi] -/
theorem e_catSl (h0 : EvA C tl A xs A1) (h : EvS C te A1 (.lst ys) A2) (h1 : EvO C ta A2 lo A3) (h2 : EvO C tb A3 hi A4) (hl : xs.length + ys.length ≤ 100000) : EvS C (tOp (rAddA C.K) (tLst tl) (tSl (rSlL C.K) te ta tb)) A (.lst (xs ++ cutL ys lo hi)) A4 := fun os σ H k Q q =>
  h0 os σ H k _ fun os0 us H0 k0 g0 i0 => ⟨by rw [isA_len i0]; exact Nat.le_trans (by omega) (by decide : 100000 ≤ sizeLine), fun p hp => by
    have kp := k0.monoN (o := .lst us) hp
    refine h os0 σ _ kp _ fun os1 v H1 k1 e1 i1 => h1 os1 σ H1 k1 _ fun os2 H2 k2 e2 => h2 os2 σ H2 k2 _ fun os3 H3 k3 e3 => ?_
    have i3 := Is.mono (e2.trans e3).e _ _ i1
    rw [Is] at i3
    obtain ⟨a, vs, rfl, h4, h5⟩ := i3
    have np : p ∉ hid C.O os0 := k0.new hp
    have r1 : Rh C.O os0 (upd H0 p (.lst us)) p = some (.lst us) := (hd_of np).trans upd_same
    have r2 : H3 p = some (.lst us) := hd_ex _ _ (((e1.trans e2).trans e3).e _ _ r1 nt_l) nt_l
    refine ⟨a, vs, rfl, hd_ex.l h4, fun l hl' => ?_⟩
    have ne : p ≠ l := fun z => by rw [z, hl'] at r2; cases r2
    have i5 := isA_cutL (lo := lo) (hi := hi) h5
    have kl := k3.monoN (o := .lst (cutV vs lo hi)) hl'
    refine .inr (.inr (.inr ⟨p, l, us, cutV vs lo hi, rfl, rfl, by rw [upd_ne ne]; exact r2, upd_same, ?_, fun r hr => ?_⟩))
    · have e5 := isA_len i5
      rw [isA_len i0, e5]
      refine Nat.le_trans ?_ (by decide : 100000 ≤ sizeLine)
      unfold cutL
      rw [List.length_take, List.length_drop]
      omega
    · have g3 := (((g0.trans (k0.gr (Ex.new hp))).trans e1).trans e2).trans e3
      refine q os3 _ _ (kl.monoN hr) ((g3.trans (k3.gr (Ex.new hl'))).trans (kl.gr (Ex.new hr))) ?_
      rw [Is]
      have ex := hd_mono (O := hid C.O os3) ((Ex.new (o := .lst (cutV vs lo hi)) hl').trans (Ex.new (o := .lst (us ++ cutV vs lo hi)) hr))
      refine ⟨r, _, rfl, SqL.of (kl.fresh hr), isA_app (IsA.mono (((((hd_mono (Ex.new hp)).trans e1.e).trans e2.e).trans e3.e).trans ex) _ _ i0) (IsA.mono ex _ _ i5)⟩⟩
/-- first is not None -/
theorem o_notNone {x : Dt} {b : Bool} (h : (x = dn ∧ b = false) ∨ (∃ ys, x = .tup ys) ∧ b = true) : OpS C (fun x y H Q => y = .non ∧ Q (.bl (!decide (x = .non))) H) x dn (db b) := fun os A σ H vx vy k i1 i2 Q q => by
  refine ⟨Is.v_iff.mp i2, ?_⟩
  rcases h with ⟨rfl, rfl⟩ | ⟨⟨zs, rfl⟩, rfl⟩
  · rw [Is.v_iff.mp i1]
    exact q _ H (Ex.refl _) k.tb is_v
  · rw [Is] at i1
    obtain ⟨a, vs, rfl, _⟩ := i1
    exact q _ H (Ex.refl _) k.tb is_v
end
end Py
end

section
set_option Elab.async false
set_option linter.all false
set_option maxRecDepth 100000
set_option maxHeartbeats 4000000
set_option autoImplicit false
namespace Py
open PySem PySem.Spec PyProof.Rows L2
/-! ### a lambda that is kept: no parameter, nothing captured -/
def LamO (params : Arguments) (body : Expr) (scope : Scope) (q : Str) (f c' : Addr) : HO := .ext fun h => ∃ pm ctv, h.get? f = some (PySem.W.kla_obj "<lambda>" q params body scope [] pm c' ctv)
theorem nt_lamO {params : Arguments} {body : Expr} {scope : Scope} {q : Str} {f c' : Addr} : NoT (LamO params body scope q f c') := fun ps z => by unfold LamO at z; cases z
section
variable {X : Cx} {pins : List (Addr × Obj)} {σ : L2.St} {H Hb : Hp} {s sb : Shared}
/-- what stands at a new place is known from now on -/
theorem know_new {f : Addr} {o : Obj} {φ : Heap → Prop} (J : Inv X pins σ Hb sb) (I : Inv X pins σ H s) (far : sb.heap.objs.size ≤ f) (hf : s.heap.get? f = some o) (hn : H f = none) (h1 : φ s.heap) (h2 : ∀ a b : Heap, φ a → (∀ o, a.get? f = some o → b.get? f = some o) → φ b) : Inv X pins σ (upd H f (.ext φ)) s := by
  have neq : ∀ b u, H b = some u → b ≠ f := fun b u e => ne_of_none e hn
  have old : ∀ b o, sb.heap.get? b = some o → b ≠ f := fun b o e z => by
    rw [z] at e
    exact absurd (Heap.lt_size e) (Nat.not_lt.mpr far)
  refine I.step (h' := s.heap) (ch := [f]) (fun b hb => ?_) (fun b o _ _ _ e _ => e) (fun b o _ _ _ e _ => ⟨o.slots, e⟩) (fun b o hb _ e => ?_) (fun b o _ e => ⟨o, e⟩) (fun b xs e => ?_) (fun b o u e => ?_) (fun b ps e => ⟨#[], ?_⟩) (fun m k => k) (fun b u e => ?_) I.bare
  · obtain rfl : b = f := List.mem_singleton.mp hb
    refine ⟨.inr (Nat.le_trans J.sz far), fun z => ?_, fun x c e z => ?_, fun p hp z => ?_⟩
    · exact absurd J.lt (Nat.not_lt.mpr (z ▸ far))
    · obtain ⟨w, o', e', _⟩ := J.cell x c e
      exact old c o' e' z
    · exact old p.1 p.2 (J.pin p hp).1 z
  · rw [upd_ne fun z => hb (List.mem_singleton.mpr z)]; exact e
  · rw [upd_ne (neq b _ e)]; exact e
  · rw [upd_ne (neq b _ e)]; exact e
  · rw [upd_ne (neq b _ e), e]; simp
  · by_cases z : b = f
    · subst z
      rw [upd_same] at e
      cases e
      exact ⟨h1, ⟨o, hf⟩, h2⟩
    · rw [upd_ne z] at e
      exact (I.hok b u e).stay (fun d v _ k => k) (fun d k => by rw [upd_ne (neq d _ k)]; exact k) fun d xs k => by rw [upd_ne (neq d _ k)]; exact k
/-- nothing is captured where nothing is free -/
theorem clo_nil (cells : List (Str × Addr)) : ∀ names : List (Str × NameKind), (∀ y ∈ names, y.2 ≠ .free) → cloFrom cells names [] = []
  | [], _ => rfl
  | (x, k) :: r, h => by
    have hk : k ≠ .free := h (x, k) (List.mem_cons_self ..)
    have ih := clo_nil cells r fun y hy => h y (List.mem_cons_of_mem _ hy)
    cases k <;> first | exact absurd rfl hk | exact ih
theorem lam_mk {T : List (Addr × Str)} {c pT : Addr} {q : Str} {params : Arguments} {body : Expr} {scope : Scope} {pos : Pos} {E : Value → Shared → Prop} {Q : Value → Shared → Prop} (I : Inv X pins σ H s) (TB : LamX.TabB X.base X.mg c pT) (hcd : X.env.code = .ref c) (hq : X.env.qual ++ "<lambda>" = q)
    (hm : (pT, q) ∈ T) (hu : ∀ p ∈ T, p.1 = pT → p.2 = q) (hT : LamX.Tabs T H) (hdef : defaultsOf params X.env = ([], [])) (hno : ∀ y ∈ scope.names, y.2 ≠ .free)
    (k : ∀ (f c' : Addr) (H1 : Hp) (s' : Shared), Inv X pins σ (upd H1 f (LamO params body scope q f c')) s' → LamX.ExtN H H1 → LamX.Tabs T H1 → H1 f = none → H1 c' = some (LamX.CodeO c' q) → Q (.ref f) s') : wpAny (model X.prog X.w) X.A (eval (.Lambda params body scope pos) X.env) Q E s := by
  subst hq
  obtain ⟨ps, hP, tr, am⟩ := hT _ hm
  have here : s.heap.get? pT = some { cls := .none, data := .fields ps } := I.hok pT _ hP
  have bi := TB.bm.keeps I.bk
  have co := TB.code.keeps I.bk
  have gl := I.mod.glob.keeps I.bk
  have cl0 : closureFor scope X.env = pure [] := by
    have z := closure_ok (env := X.env) (scope := scope) fun y hy e => absurd e (hno y hy)
    rwa [clo_nil _ _ hno] at z
  apply PySem.W.kla_eval hdef
  cases hc2 : codeAmong pos ps.toList with
  | none =>
    refine PySem.W.kla_makeFunction (mg := X.mg) (P := pT) (ps := ps) cl0 I.ok.glob gl hcd co here tr hc2 TB.gP bi fun d ctv h2 tk hx ge lt rc tb => ?_
    obtain ⟨d', oc, vs, t, ed, ho, hd, hv⟩ := rc
    cases ed
    have far : s.heap.objs.size ≤ h2.objs.size := by omega
    have nd : H d = none := I.hok.fresh ge
    have I1 := LamX.inv_table (t' := tk) (more := #[rawInt pos.line, rawInt pos.col, .ref d]) (h' := h2.push (PySem.W.kla_obj "<lambda>" (X.env.qual ++ "<lambda>") params body scope [] ((X.mg "__name__").getD .none) d ctv)) I hP (fun b o z e => Heap.get?_push_of_some _ (hx b o z e)) (Heap.get?_push_of_some _ tb) ge ⟨oc, vs, t, Heap.get?_push_of_some _ ho, hd, hv⟩
    have nf : upd (upd H pT (.tbl (ps ++ #[rawInt pos.line, rawInt pos.col, .ref d]))) d (LamX.CodeO d (X.env.qual ++ "<lambda>")) h2.objs.size = none := by
      have n2 : h2.objs.size ≠ pT := fun z => absurd (Heap.lt_size here) (Nat.not_lt.mpr (z ▸ far))
      rw [upd_ne (Nat.ne_of_gt lt), upd_ne n2]
      exact I.hok.fresh far
    have hE : LamX.ExtN H (upd (upd H pT (.tbl (ps ++ #[rawInt pos.line, rawInt pos.col, .ref d]))) d (LamX.CodeO d (X.env.qual ++ "<lambda>"))) := fun b o e n => by
      have z1 : b ≠ pT := fun z => n ps (Option.some.inj (e.symm.trans (z ▸ hP)))
      rw [upd_ne (ne_of_none e nd), upd_ne z1, e]
    have lst : (ps ++ #[rawInt pos.line, rawInt pos.col, .ref d]).toList = ps.toList ++ [rawInt pos.line, rawInt pos.col, .ref d] := by simp
    have hT1 : LamX.Tabs T (upd (upd H pT (.tbl (ps ++ #[rawInt pos.line, rawInt pos.col, .ref d]))) d (LamX.CodeO d (X.env.qual ++ "<lambda>"))) := by
      intro p hp
      by_cases z : p.1 = pT
      · have e2 := hu p hp z
        rw [e2, z]
        refine ⟨_, by rw [upd_ne (ne_of_none hP nd), upd_same], by rw [lst]; exact PySem.TriplesOk_snoc _ _ _ _ tr, ?_⟩
        intro pp cv hcv
        rw [lst] at hcv
        rcases LamX.among_app _ tr hcv with y | y
        · obtain ⟨c0, y1, y2⟩ := am pp cv y
          exact ⟨c0, y1, hE _ _ y2 LamX.codeO_ne⟩
        · exact ⟨d, y, upd_same⟩
      · obtain ⟨qs, b1, b2, b3⟩ := hT p hp
        refine ⟨qs, by rw [upd_ne (ne_of_none b1 nd), upd_ne z, b1], b2, fun pp cv hcv => ?_⟩
        obtain ⟨c0, y1, y2⟩ := b3 pp cv hcv
        exact ⟨c0, y1, hE _ _ y2 LamX.codeO_ne⟩
    exact k h2.objs.size d _ _ (know_new I I1 far (Heap.get?_push_size _ rfl) nf ⟨_, _, Heap.get?_push_size _ rfl⟩ fun a b ⟨u, v, e⟩ st => ⟨u, v, st _ e⟩) hE hT1 nf upd_same
  | some cv =>
    obtain ⟨d, rfl, hd⟩ := am pos cv hc2
    refine PySem.W.kla_makeFunctionHit (mg := X.mg) (P := pT) (ps := ps) cl0 I.ok.glob gl hcd co here tr hc2 bi fun ctv h2 tk hx far => ?_
    have I1 : Inv X pins σ H { s with heap := h2.push (PySem.W.kla_obj "<lambda>" (X.env.qual ++ "<lambda>") params body scope [] ((X.mg "__name__").getD .none) d ctv), toks := tk } := I.kept fun b o e => Heap.get?_push_of_some _ (hx b o e)
    have nf : H h2.objs.size = none := I.hok.fresh far
    exact k h2.objs.size d H _ (know_new I I1 far (Heap.get?_push_size _ rfl) nf ⟨_, _, Heap.get?_push_size _ rfl⟩ fun a b ⟨u, v, e⟩ st => ⟨u, v, st _ e⟩) (LamX.ExtN.refl H) hT nf hd
def tMk (T : List (Addr × Str)) (q : Str) (P : Addr → Addr → HO) : TE := fun σ H Q => LamX.Tabs T H ∧ ∀ (f c' : Addr) (H1 : Hp), LamX.ExtN H H1 → LamX.Tabs T H1 → H1 f = none → H1 c' = some (LamX.CodeO c' q) → Q (.ref f) (upd H1 f (P f c'))
/-- lambda: body, kept -/
theorem pe_mk {T : List (Addr × Str)} {f : Str} {params : Arguments} {body : Expr} {scope : Scope} {lpos : Pos} (LB : LamB X.K X.base X.mg T f) (hq : X.env.qual ++ "<lambda>" = lamQ f) (hcd : X.env.code = .ref (He.cT X.K (f, none)).1) (hdef : defaultsOf params X.env = ([], [])) (hno : ∀ y ∈ scope.names, y.2 ≠ .free) :
    PE X (.Lambda params body scope lpos) (tMk T (lamQ f) (LamO params body scope (lamQ f))) := by
  constructor
  intro pins s σ H Q I h
  exact lam_mk I LB.tb hcd hq LB.mm LB.hu h.1 hdef hno fun f c' H1 s' I1 e t n hc => ⟨.ref f, _, I1, rfl, h.2 f c' H1 e t n hc⟩
/-- a(), in the def that got the kept lambda -/
theorem pe_actV {CXg : CXT} {Eg : XK} {Ng : List Str} {qg q : Str} {sg : Scope} {g f c' : Addr} {cdg : Value} {params : Arguments} {body : Expr} {scope : Scope} {k i : Nat} {a : Str} {pn : List (Addr × Obj)} {xe : Value → Shared → Prop} {W : WX} {E : XK} {tb : TE} {p1 p2 : Pos}
    (I : Inv X pins σ H s) (L : LamX.LamS X.env.scope scope) (hno : ∀ y ∈ scope.names, y.2 ≠ .free) (hq : X.env.qual ++ "<lambda>" = q)
    (hbind : ∀ pm ctv : Value, bindArgs (PySem.W.kla_fn "<lambda>" q params body scope [] pm (.ref c') ctv) ⟨[], []⟩ = pure [])
    (tk : Takes (Cx.tr (cxOf CXg X.prog X.w X.K X.mg X.base Ng qg sg g cdg X.A X.stack s H Eg) pn xe) W) (hW : ∀ cls d σ' H', E cls d H' → W cls d σ' H') (hr : Room (k + 1) (X.A.deeper (envOfC qg sg s.heap.objs.size g cdg)))
    (hbody : ∀ (A : Around) (outer : List Env) (s : Shared) (H : Hp), Room k (A.deeper (LamX.lamEnv X scope s.heap.objs.size f c')) → PE (LamX.lamCx X A outer s H E scope f c') body tb)
    (hN : Ng[i]? = some a) (hv : Vis sg a) (hd : (a == ("__debug__" : Str)) = false) (hcd : (a == ("__classdict__" : Str)) = false) :
    PE (Cx.tr (cxOf CXg X.prog X.w X.K X.mg X.base Ng qg sg g cdg X.A X.stack s H Eg) pn xe) (.Call (.Name a p1) [] [] p2)
      (fun σZ HZ Q => σZ[i]? = some (some (.ref f)) ∧ HZ c' = some (LamX.CodeO c' q) ∧ HZ f = some (LamO params body scope q f c') ∧ tb σ HZ Q) := by
  subst hq
  have cl0 : cloFrom X.env.cells scope.names [] = [] := clo_nil _ _ hno
  refine ⟨fun pz sz σZ HZ Q IZ hz => ?_⟩
  obtain ⟨z1, z2, z3, z4⟩ := hz
  refine wpAny_Call_Name_kw (thn ((pe_var (pos := p1) (i := i) hN hv hd hcd).run pz sz σZ HZ (fun v K1 => v = .ref f ∧ K1 = HZ) IZ ⟨.ref f, z1, rfl, rfl⟩) fun u s1 got => ?_)
  obtain ⟨v, K1, J, ru, ev, rfl⟩ := got
  subst ev
  obtain rfl : u = .ref f := ru
  obtain ⟨pm, ctv, of⟩ : ∃ pm ctv, s1.heap.get? f = some (PySem.W.kla_obj "<lambda>" (X.env.qual ++ "<lambda>") params body scope [] pm c' ctv) := (J.hok f _ z3).1
  obtain ⟨⟨oc, vs, t, o1, o2, o3⟩, _, _⟩ := J.hok c' _ z2
  refine PySem.W.callWith_F0 ⟨_, _, _, _, of⟩ ?_
  have run : codeAny (model X.prog X.w) (X.A.deeper (envOfC qg sg s.heap.objs.size g cdg)) (.call (.ref f) ⟨[], []⟩) (CR (L2.CX X.prog X.w) (envOfC qg sg s.heap.objs.size g cdg :: X.stack) X.prog X.w K1 s1 Q E) s1 := by
    apply PySem.W.kla_callFunE hr.depth of rfl L.co L.gen rfl ⟨c', oc, vs, t, rfl, o1, o2, o3⟩
    rw [hbind]
    refine wpAny_pure (wpAny_newFunctionEnv (fun y hy => (L.own y hy).2) (fun y hy => (by simp at hy)) (fun h₂ hn2 hb2 => ⟨J.nolimit.fresh _ hb2, ?_⟩) L.kind)
    have kept : ∀ b o, s1.heap.get? b = some o → h₂.get? b = some o := fun b o e => hb2.extBut b o (Nat.ne_of_lt (Heap.lt_size e)) (Heap.get?_push_of_some _ e)
    have S : Inv (LamX.lamCx X (X.A.deeper (envOfC qg sg s.heap.objs.size g cdg)) (envOfC qg sg s.heap.objs.size g cdg :: X.stack) s1 K1 E scope f c') [] σ K1 { s1 with heap := h₂, toks := s1.toks + ([] : List (Str × Value)).length } := LamX.lam_start2 I L J.env0 hr.hd J.base hn2 kept
    have B := (hbody _ _ s1 K1 (hr.deeper _)).run [] _ _ K1 Q S z4
    rw [← cl0]
    refine PySem.W.kla_codeExpr (wpAny_mono B (fun v s' got => ?_) fun e s' got => got)
    obtain ⟨w', H', S', rv, q⟩ := got
    exact ⟨w', H', S'.os, S'.bare, S'.base, S'.hok, rv, q⟩
  have through : Passes (L2.CX X.prog X.w) (Cx.tr (cxOf CXg X.prog X.w X.K X.mg X.base Ng qg sg g cdg X.A X.stack s H Eg) pn xe) E := passes_call tk hW
  refine wpAny_call (codeAny_mono run fun r s' got => ?_)
  cases r with
  | error e => exact through pz σZ K1 s1 e s' J got
  | ok fl => cases fl with
    | ret u => exact J.after got
    | next => exact got.elim
    | brk => exact got.elim
    | cont => exact got.elim
/-- a kept lambda, and its body's reading -/
structure LamD where
  params : Arguments
  body : Expr
  scope : Scope
  t : XK → TE
def LamD.P (l : LamD) (q : Str) : Addr → Addr → HO := LamO l.params l.body l.scope q
def tToldV (K : Frg) (q : Str) (i : Nat) (CS : Addr) (ret : Str) (LT : List LamD) : TE := fun σ H Q => ∃ (f c' : Addr) (l : LamD), l ∈ LT ∧ σ[i]? = some (some (.ref f)) ∧ H f = some (l.P q f c') ∧ H c' = some (LamX.CodeO c' q) ∧ LamX.TTold K CS ret (fun E H' Q' => H' f = some (l.P q f c') ∧ l.t E σ H' Q') H Q
structure LamOk (X : Cx) (k : Nat) (l : LamD) : Prop where
  own : LamX.LamS X.env.scope l.scope
  no : ∀ y ∈ l.scope.names, y.2 ≠ .free
  bind : ∀ (q : Str) (c' : Addr) (pm ctv : Value), bindArgs (PySem.W.kla_fn "<lambda>" q l.params l.body l.scope [] pm (.ref c') ctv) ⟨[], []⟩ = pure []
  body : ∀ (A : Around) (outer : List Env) (s : Shared) (H : Hp) (E : XK) (f c' : Addr), Room k (A.deeper (LamX.lamEnv X l.scope s.heap.objs.size f c')) → PE (LamX.lamCx X A outer s H E l.scope f c') l.body (l.t E)
/-- told(f), f a kept lambda -/
theorem pe_toldV {x a e ret : Str} {stT : Stmt} {CS : Addr} {q : Str} {k j i : Nat} {y : Str} {LT : List LamD} {p1 p2 p3 p4 p5 p6 p7 p8 p p9 pos : Pos}
    (F : ∃ fd, FunD X.K x x (defArgs stT) (defBody stT) (defScope stT) [] [] (He.ga X.K x) fd) (hm : X.mg x = some (.ref (He.ga X.K x)))
    (hbod : defBody stT = [.Try [.Return (some (.Call (.Name a p1) [] [] p2)) p3] [.ExceptHandler (some (.Name e p4)) none [.Return (some (.Constant (.str ret) j p5)) p6] p7] [] [] p8])
    (Sg : FnScope [a] [a] (defScope stT)) (hva : Vis (defScope stT) a) (hge : (defScope stT).names.lookup e = some .globalImplicit) (hde : (e == ("__debug__" : Str)) = false) (hme : X.mg e = some (.ref CS))
    (hbT : ∀ (kV doc pm : Value) (an : Option Addr) (cdv ct : Value) (us : List Value), us.length = 1 → bindArgs (PySem.W.fnOf x x (defArgs stT) (defBody stT) (defScope stT) .none kV doc pm an cdv ct) ⟨us, []⟩ = pure ([a].zip us))
    (hq : X.env.qual ++ "<lambda>" = q) (hr : Room (k + 2) X.A) (ok : ∀ l ∈ LT, LamOk X k l) (hv : PE X (.Name y p9) (tVar i)) (hg : Gl X x := by rfl) (hdb : (x == ("__debug__" : Str)) = false := by decide) (hd : (a == ("__debug__" : Str)) = false := by decide) (hcd : (a == ("__classdict__" : Str)) = false := by decide) :
    PE X (.Call (.Name x p) [.Name y p9] [] pos) (tToldV X.K q i CS ret LT) := by
  obtain ⟨fd, F⟩ := F
  have kb := F.bindsN (ps := [a]) hbT
  have kp := F.kp
  obtain ⟨oc, od, dV, kV, doc, pm, an, cdv, ct, osl, e1, lk, hc⟩ := fnd_of F
  subst e1
  constructor
  intro pins s σ H Q I h
  obtain ⟨f, c', l, hl, h1, h2, h3, h4⟩ := h
  have o := ok l hl
  apply wpAny_Call_Name_kw (ld_glob I hg hm ?_ hdb)
  have ha : PA X [.Name y p9] (tCons (tVar i) tNil) := pa_cons hv pa_nil
  refine PySem.W.callWith_K (h₀ := X.base) I.ok.mod.kin kp (thn (ha.run pos pins s σ H (fun vs K1 => vs = [.ref f] ∧ K1 = H) I ⟨.ref f, h1, rfl, rfl⟩) fun us s1 got => ?_) rfl rfl
  obtain ⟨vs, K1, J, rv, ev, rfl⟩ := got
  subst ev
  refine ⟨J.kIn, ?_⟩
  obtain rfl : us = [.ref f] := by
    cases rv with
    | cons r1 r2 =>
      cases r2
      obtain rfl := r1
      rfl
  have G : LamX.GivesTo X [a] x (defScope stT) (He.ga X.K x) cdv (defBody stT) a q (LamX.TTold X.K CS ret) := by
    rw [hbod]
    exact LamX.told_gives hge hme hde fun _ => rfl
  have run : codeAny (model X.prog X.w) X.A (.call (.ref (He.ga X.K x)) ⟨[.ref f], []⟩) (CR C8.CX0 X.stack X.prog X.w K1 s1 Q C8.E0) s1 := by
    refine LamX.run_ofS (N := [a]) (ps := [a]) (us := [.ref f]) (vs := [.ref f]) lk hc Sg hr J.env0 (kb s1 [.ref f] J.kIn rfl) (.cons rfl .nil) rfl fun hr2 => ?_
    obtain ⟨t', ht', hq'⟩ := G f c' s1 K1 Q (fun E H' Q' => H' f = some (l.P q f c') ∧ l.t E σ H' Q') (fun W pn xe E q1 q2 tk hW => pe_actV (i := 0) J o.own o.no hq (o.bind _ _) tk hW hr2 (fun A outer s H r3 => o.body A outer s H E f c' r3) rfl hva hd hcd) h3 h4
    exact ⟨t', ht'.nox, hq'⟩
  refine wpAny_call (codeAny_mono run fun r s2 got => ?_)
  cases r with
  | error e => exact (show False from got).elim
  | ok fl => cases fl with
    | ret u => exact J.after got
    | next => exact got.elim
    | brk => exact got.elim
    | cont => exact got.elim
end
section
variable {C : Ct} {A A1 : AS} {d : Dt} {q : Str} {i : Nat} {CS : Addr} {ret : Str} {LT : List LamD}
theorem e_mk {P : Addr → Addr → HO} (hP : ∀ f c', NoT (P f c')) (hO : C.O = []) (hst : ∀ s ∈ A.st, ∃ xs, s = .lst xs) : EvS C (tMk C.T q P) A (.lam P q) A := fun os σ H k Q z =>
  ⟨k.tb, fun f c' H1 eN T1 hn hc => by
    have k1 := k.mono (H' := H1) eN T1
    have k2 := k1.monoN (o := P f c') hn
    refine z os _ _ k2 ((k.gr eN).trans (k1.gr (Ex.new hn))) ?_
    rw [Is]
    refine ⟨f, c', rfl, k1.fresh hn, hP f c', ?_⟩
    have nf : c' ≠ f := ne_of_none hc hn
    have nh : c' ∉ hid C.O os := fun hh => by
      rcases mem_hid.mp hh with y | y
      · rw [hO] at y; cases y
      · obtain ⟨xs, e⟩ := st_lst k1 hst y
        rw [hc] at e
        unfold LamX.CodeO at e
        cases e
    show hd _ _ _ = _
    rw [hd_of nh, upd_ne nf, hc]⟩
theorem lam_slot {os : List (Option Addr)} {σ : Sg} {H : Hp} {P : Addr → Addr → HO} (k : Ok C os A σ H) (h : A.sl[i]? = some (.d (.lam P q))) : ∃ f c', σ[i]? = some (some (.ref f)) ∧ H f = some (P f c') ∧ H c' = some (LamX.CodeO c' q) := by
  obtain ⟨o, e1, v, e2, e3⟩ := k.slot h
  subst e2
  rw [Is] at e3
  obtain ⟨f, c', rfl, h2, h3, h4⟩ := e3
  exact ⟨f, c', e1, hd_ex f _ h2 h3, hd_ex c' _ h4 fun ps z => LamX.codeO_ne ps z⟩
theorem e_toldVOk {l : LamD} (hl : l ∈ LT) (h : A.sl[i]? = some (.d (.lam (l.P q) q))) (ht : ∀ E, EvS C (l.t E) A d A1) : EvS C (tToldV C.K q i CS ret LT) A d A1 := fun os σ H k Q z => by
  obtain ⟨f, c', h1, h2, h3⟩ := lam_slot k h
  exact ⟨f, c', l, hl, h1, h2, h3, h2, ht _ os σ H k Q z⟩
theorem e_toldVErr {l : LamD} (hm : PySem.W.exmOne C.K (.ref CS) (.ref CS) = some true) (hl : l ∈ LT) (h : A.sl[i]? = some (.d (.lam (l.P q) q))) (ht : ∀ E, EvX C E (l.t E) A CS A1) : EvS C (tToldV C.K q i CS ret LT) A (Dt.v (.str ret)) A1 := fun os σ H k Q z => by
  obtain ⟨f, c', h1, h2, h3⟩ := lam_slot k h
  exact ⟨f, c', l, hl, h1, h2, h3, h2, ht _ os σ H k (fun os' H' k' g => ⟨true, hm, fun _ => z os' _ H' k' g is_v, fun y => by cases y⟩) Q⟩
end
/-! ### the law's own def, nothing hidden -/
def spD0 (K : Frg) (T : List (Addr × Str)) (g : List Dt → Rs → Prop) : Sp := fun vs H Q E => ∃ ds r, LamX.Tabs T H ∧ IsA K H ds vs ∧ g ds r ∧
  match r with
  | .ok d => ∀ v H', Ex H H' → LamX.Tabs T H' → Is K H' d v → Q v H'
  | .err c => ∀ H', Ex H H' → LamX.Tabs T H' → E (.ref c) none H'
theorem fin0 {t : TS} {N : List Str} {K : Frg} {T : List (Addr × Str)} {E : XK} {g : List Dt → Rs → Prop} {vs : List V} {H : Hp} {Q : VK} (h : spD0 K T g vs H Q E) (run : ∀ ds r, g ds r → RunS ⟨K, T, H, []⟩ E t (start N ds) (poR r)) : t { nx := fun _ H' => Q .non H', rt := Q } (L2.start N vs) H := by
  obtain ⟨ds, r, ht, hi, hg, hr⟩ := h
  refine run ds r hg [] _ H _ (start_ok (fun a z => by cases z) ht (by rw [hd_nil]; exact hi)) ⟨fun os A σ H' z k _ => ?_, fun os A σ d v H' z k _ i => ?_, fun _ _ _ _ z => z.elim, fun _ _ _ _ z => z.elim, fun c H' z e t => ?_⟩
  · obtain rfl : r = .ok dn := z
    exact hr _ H' k.ex k.tb is_v
  · obtain rfl : r = .ok d := z
    have i : Is K (hd [] H') d v := i
    rw [hd_nil] at i
    exact hr v H' k.ex k.tb i
  · obtain rfl : r = .err c := z
    exact hr H' e t
theorem mkFL0 {P : Program} {w : World} {K : Frg} {T : List (Addr × Str)} {mg : Str → Option Value} {base : Heap} {f : Str} {st : Stmt} {N ps : List Str} {k : Nat} {g : List Dt → Rs → Prop} {fd : FuncData}
    (F : FunD K f f (defArgs st) (defBody st) (defScope st) [] [] (He.ga K f) fd) (S : FnScope N ps (defScope st))
    (len : ∀ ds r, g ds r → ds.length = ps.length)
    (hbody : ∀ (A : Around) (outer : List Env) (s : Shared) (H : Hp) (E : XK), Room k (A.deeper (envOfC f (defScope st) s.heap.objs.size (He.ga K f) (.ref (He.cT K (f, none)).1))) →
      ∃ t, PSs (cxOf (L2.CX P w) P w K mg base N f (defScope st) (He.ga K f) (.ref (He.cT K (f, none)).1) A outer s H E) (defBody st) t ∧ ∀ ds r, g ds r → RunS ⟨K, T, H, []⟩ E t (start N ds) (poR r)) : FnOk P w K mg base (L2.CX P w) (k + 1) (He.ga K f) fd ps (spD0 K T g) := by
  obtain ⟨oc, od, dV, kV, doc, pm, an, cdv, ct, osl, e, lk, hc⟩ := fnd_of F
  obtain ⟨c, rfl⟩ := He.codeIn_ref hc
  have ec : (He.cT K (f, none)).1 = c := He.codeOf_eq (p := (f, none)) lk rfl
  subst ec
  subst e
  refine fn_of lk hc S (fun vs H Q E h => ?_) (fun A outer s H vs Q E hr h => ?_)
  · obtain ⟨ds, r, _, hi, hg, _⟩ := h
    rw [isA_len hi]
    exact len ds r hg
  · obtain ⟨t, ht, run⟩ := hbody A outer s H E hr
    exact ⟨t, ht, fin0 h run⟩
end Py
end

section
set_option Elab.async false
set_option linter.all false
set_option maxRecDepth 100000
set_option maxHeartbeats 4000000
set_option autoImplicit false
namespace Py
open PySem PySem.Spec PyProof.Rows L2
/-! ### new lists, known as such -/
section
variable {C : Ct} {A A1 A2 : AS} {te tl : TE} {tt : TT} {g : TG} {ws : List Nat} {xs ys : List Dt}
theorem is_lstN {K : Frg} {H : Hp} {v : V} (h : Is K H (.lstN xs) v) : Is K H (.lst xs) v := by
  rw [Is] at h
  obtain ⟨a, vs, h1, h2, h3⟩ := h
  rw [Is]
  exact ⟨a, vs, h1, .inl h2, h3⟩
theorem e_ofN (h : EvS C te A (.lstN xs) A1) : EvS C te A (.lst xs) A1 := fun os σ H k Q q => h os σ H k Q fun os1 v H1 k1 g1 i1 => q os1 v H1 k1 g1 (is_lstN i1)
theorem e_lstN {tl : TA} {ds : List Dt} (h : EvA C tl A ds A1) (hl : ds.length ≤ 100000) : EvS C (tLst tl) A (.lstN ds) A1 := fun os σ H k Q q =>
  h os σ H k _ fun os1 vs H1 k1 e1 i1 => ⟨by rw [isA_len i1]; exact Nat.le_trans hl (by decide), fun p hp => q os1 _ _ (k1.monoN hp) (e1.trans (k1.gr (Ex.new hp))) (by
    rw [Is]
    exact ⟨p, vs, rfl, .inl (k1.fresh hp), IsA.mono (hd_mono (Ex.new hp)) _ _ i1⟩)⟩
theorem lc_endN {p : Addr} {σ : Sg} {os1 os2 : List (Option Addr)} {H1 H2 : Hp} {ys : List Dt} {acc : List V} {Q : VK} (k1 : Ok C os1 A σ H1) (hp : H1 p = none) (k2 : Ok (C.hide p) os2 A2 σ H2) (g : GrP p C.O os1 (upd H1 p (.lst [])) os2 H2) (hl : H2 p = some (.lst acc)) (ha : IsA C.K (Rh (p :: C.O) os2 H2) ys acc)
    (q : ∀ os' v H', Ok C os' A2 σ H' → Gr C.O os1 H1 os' H' → Is C.K (Rh C.O os' H') (.lstN ys) v → Q v H') : Q (.ref p) H2 := by
  refine q os2 _ H2 k2.unhide ⟨?_, fun a h => ?_, g.p⟩ ?_
  · have e := g.e
    rw [Rh_hide hp] at e
    exact e.trans Rh_unhide
  · rw [g.o a h, upd_ne fun z => fresh_O k1 hp (by rw [← z]; exact h)]
  · rw [Is]
    refine ⟨p, acc, rfl, .inl ?_, IsA.mono Rh_unhide _ _ ha⟩
    show hd _ H2 p = _
    rw [hd_of fun z => ?_]
    · exact hl
    · rcases mem_hid.mp z with z | z
      · exact fresh_O k1 hp z
      · exact k2.dj p (List.mem_cons_self ..) z
theorem e_lcRN {lo : Int} {n : Nat} {wi : TI} (hw : ∀ os σ H, Ok C os A σ H → ∀ R : It → Hp → Prop, (∀ os' H', Ok C os' A1 σ H' → Gr C.O os H os' H' → R (Itr lo n) H') → wi σ H R) (B : Nat → AS) (Y : Nat → List Dt) (h0 : A1 = B 0) (hY : Y 0 = [])
    (hs : ∀ i, i < n → ∀ O, LcT ⟨C.K, C.T, C.H0, O⟩ g tt te ws (di (lo + i)) (B i) (Y i) (B (i + 1)) (Y (i + 1))) (hn : n < 100000) : EvS C (tLc wi g tt te ws) A (.lstN (Y n)) (B n) := fun os σ H k Q q =>
  hw os σ H k _ fun os1 H1 k1 g1 p hp => by
    have hl : ∀ i, i ≤ n → (Y i).length ≤ i := by
      intro i
      induction i with
      | zero => intro _; rw [hY]; exact Nat.le_refl _
      | succ i ih =>
        intro hi
        obtain ⟨_, _, _, _, _, h⟩ := hs i hi []
        rcases h with ⟨_, _, _, _, e, _⟩ | ⟨_, e, _⟩ <;> rw [e] <;> have := ih (by omega) <;> (try simp only [List.length_append, List.length_singleton]) <;> omega
    subst h0
    refine lc_range (lo := lo) (n := n) (fun i H' => ∃ os' acc, Ok (C.hide p) os' (B i) σ H' ∧ GrP p C.O os1 (upd H1 p (.lst [])) os' H' ∧ H' p = some (.lst acc) ∧ IsA C.K (Rh (p :: C.O) os' H') (Y i) acc) ⟨os1, [], k1.hide hp nt_l, ⟨Ex.refl _, fun _ _ => rfl, fun _ _ h => h⟩, upd_same, by rw [hY]; exact isA_nil⟩ ?_ ?_
    · rintro i H' hi ⟨os', acc, k', g', hp', ha⟩
      exact lc_turn (hs i hi _) k' hp' ha is_v (fresh_0 k1 hp) (fresh_O k1 hp) (by have := hl i (by omega); omega) _ fun os2 acc2 H2 k2 g2 hp2 ha2 => ⟨os2, acc2, k2, g'.trans g2, hp2, ha2⟩
    · rintro H' ⟨os', acc, k', g', hp', ha⟩
      exact lc_endN k1 hp k' g' hp' ha fun os2 v H2 k2 g2 i2 => q os2 v H2 k2 (g1.trans g2) i2
end
/-- xs + ys, new lists -/
def rCatR : R2 := fun x y H Q => ∃ l b xs zs, x = .ref l ∧ y = .ref b ∧ Rd H l (.lst xs) ∧ Rd H b (.lst zs) ∧ xs.length + zs.length ≤ sizeLine ∧ ∀ p, H p = none → Q (.ref p) (upd H p (.lst (xs ++ zs)))
theorem op_catR {X : Cx} : OpR X (binaryOp .Add) rCatR := by
  rintro pins s σ H x y v u Q I rx ry ⟨l, b, xs, zs, rfl, rfl, hx, hy, hz, q⟩
  cases rx
  cases ry
  obtain ⟨z1, its, n, r, e⟩ := hx.ok I.hok
  obtain ⟨z2, its2, n2, r2, e2⟩ := hy.ok I.hok
  have l1 := r.length
  have l2 := r2.length
  apply PySem.P.add_list e e2 _ (by rw [List.size_toArray, List.size_toArray]; omega)
  rw [show its.toArray ++ its2.toArray = (its ++ its2).toArray by simp]
  have sz : (xs ++ zs).length ≤ sizeLine := by rw [List.length_append]; omega
  exact ⟨.ref _, _, I.lnew (t' := s.toks) (r.append r2) sz, rfl, q _ I.fresh⟩
theorem o_catR {C : Ct} {xs ys : List Dt} (hl : xs.length + ys.length ≤ 100000) : OpS C rCatR (.lstN xs) (.lstN ys) (.lstN (xs ++ ys)) := fun os A σ H vx vy k i1 i2 Q q => by
  rw [Is] at i1 i2
  obtain ⟨a, vs, rfl, h2, h3⟩ := i1
  obtain ⟨b, us, rfl, h4, h5⟩ := i2
  refine ⟨a, b, vs, us, rfl, rfl, hd_ex.rd nt_l h2, hd_ex.rd nt_l h4, by rw [isA_len h3, isA_len h5]; exact Nat.le_trans hl (by decide), fun p hp => q _ _ (Ex.new hp) (tabs_new k.tb hp) ?_⟩
  rw [Is]
  exact ⟨p, vs ++ us, rfl, .inl (k.fresh hp), isA_app (IsA.mono (hd_mono (Ex.new hp)) _ _ h3) (IsA.mono (hd_mono (Ex.new hp)) _ _ h5)⟩
/-! ### the whole root -/
def rIsqrt : List V → Hp → VK → Prop := fun vs H Q => ∃ n : Nat, vs = [.int (n : Int)] ∧ n < 2 ^ 63 ∧ ∀ w : Nat, w * w ≤ n → n < (w + 1) * (w + 1) → Q (.int (w : Int)) H
theorem cr_isqrt {X : Cx} : CallR X (.builtin "math.isqrt") rIsqrt := by
  rintro pins s σ H vs us Q I r ⟨n, rfl, hn, q⟩
  obtain ⟨u, rfl, hu⟩ := vals1 r
  obtain ⟨t, rfl⟩ := hu
  have sp := Float64.isqrt_spec n
  exact PySem.W.mg_isqrt (by omega) (by omega) ⟨.int _, H, I.tok _, ⟨_, rfl⟩, q _ sp.1 sp.2⟩
theorem e_isqrt {C : Ct} {A A1 : AS} {ta : TE} {n w : Nat} (h : EvS C ta A (di (n : Int)) A1) (hn : n < 2 ^ 63) (h1 : w * w ≤ n) (h2 : n < (w + 1) * (w + 1)) : EvS C (tCB rIsqrt (tCons ta tNil)) A (di (w : Int)) A1 := fun os σ H k Q q =>
  h os σ H k _ fun os1 v H1 k1 e1 i1 => by
    rw [Is.v_iff.mp i1]
    refine ⟨n, rfl, hn, fun w' a b => ?_⟩
    have : w' = w := by
      rcases Nat.lt_trichotomy w' w with z | z | z
      · have := Nat.mul_self_le_mul_self (show w' + 1 ≤ w by omega)
        omega
      · exact z
      · have := Nat.mul_self_le_mul_self (show w + 1 ≤ w' by omega)
        omega
    subst this
    exact q os1 _ H1 k1 e1 is_v
/-! ### in -/
theorem inV_ints (n : Int) : ∀ ns : List Int, inV (.int n) (ns.map V.int) = decide (n ∈ ns)
  | [] => rfl
  | m :: r => by
    have e : inV (.int n) ((m :: r).map V.int) = (eqV (.int m) (.int n) || inV (.int n) (r.map V.int)) := rfl
    rw [e, inV_ints n r]
    have e2 : eqV (.int m) (.int n) = decide (n = m) := by
      show (m == n) = _
      rw [Bool.beq_eq_decide_eq]
      exact decide_eq_decide.mpr ⟨Eq.symm, Eq.symm⟩
    rw [e2]
    simp
theorem ints_is {K : Frg} {H : Hp} : ∀ {ns : List Int} {vs : List V}, IsA K H (ns.map di) vs → vs = ns.map V.int
  | [], vs, h => by rw [List.map_nil, IsA] at h; exact h
  | n :: r, vs, h => by
    rw [List.map_cons, IsA] at h
    obtain ⟨v, w, rfl, h1, h2⟩ := h
    rw [Is.v_iff.mp h1, ints_is h2]
    rfl
theorem o_inL {C : Ct} {n : Int} {ns : List Int} : OpS C (rIn C.K false) (di n) (.lst (ns.map di)) (db (decide (n ∈ ns))) := fun os A σ H vx vy k i1 i2 Q q => by
  rw [Is] at i2
  obtain ⟨a, vs, rfl, h2, h3⟩ := i2
  rw [Is.v_iff.mp i1]
  have e := ints_is h3
  subst e
  refine ⟨a, _, rfl, .inl (hd_ex.l h2), rfl, ?_, ?_⟩
  · rw [List.all_map]; exact List.all_eq_true.mpr fun _ _ => rfl
  · rw [if_neg (by decide), inV_ints]
    exact q _ H (Ex.refl _) k.tb is_v
theorem e_notInO {C : Ct} {A : AS} {te : TE} {i n : Nat} {x : Dt} {xs : List Dt} {p : PyData} {ps : List PyData} {m m' : Nat} (he : EvS C te A x A) (hp : Nice m x p) (h1 : A.sl[i]? = some (.own n)) (h2 : A.st[n]? = some (.lst xs)) (hq : Nice m' (.lst xs) (.list ps)) (hm : m ≤ 64) (hm' : m' ≤ 64) :
    EvS C (tOp (rNotInD C.K) te (tVar i)) A (db (!ps.any fun z => PyData.eqv z p)) A := fun os σ H k Q q =>
  he os σ H k _ fun os1 v H1 k1 e1 i1 => by
    obtain ⟨o, f1, a, f2, f3⟩ := k1.slot h1
    subst f2
    exact ⟨_, f1, p, ps, Dp.mono hd_ex (Is.dp x v p i1 hp.all.1), own_dp k1 f3 h2 hq, hp.shaped hm, hq.shaped hm', q os1 _ H1 k1 e1 is_v⟩
end Py
end

section
set_option Elab.async false
set_option linter.all false
set_option maxRecDepth 100000
set_option maxHeartbeats 4000000
set_option autoImplicit false
namespace Py
open PySem PySem.Spec PyProof.Rows L2
/-! ### f(e, ..), f a variable that holds a def -/
structure FvOk (P : Program) (w : World) (K : Frg) (mg : Str → Option Value) (base : Heap) (k : Nat) (a : Addr) (sp : Sp) : Prop where
  ex : ∃ (fd : FuncData) (ps : List Str), FnOk P w K mg base (L2.CX P w) k a fd ps sp ∧ Binds K fd ps [] ∧ PySem.W.keepIn K (.ref a) = true
theorem Gd.fv {P : Program} {w : World} {K : Frg} {mg : Str → Option Value} {base : Heap} {f : Str} {ps : List Str} {k j : Nat} {sp : Sp} {a : Addr} (G : Gd P w K mg base f ps k sp) (hm : mg f = some (.ref a)) (hk : k ≤ j) : FvOk P w K mg base j a sp := by
  obtain ⟨a', fd, F, hb, hkp, hm'⟩ := G.ex
  rw [hm] at hm'
  cases hm'
  exact ⟨fd, ps, F.mono hk, hb, hkp⟩
def tCallF (i : Nat) (Fs : List (Addr × Sp)) (E : XK) (ta : TA) : TE := fun σ H Q => ∃ a sp, (a, sp) ∈ Fs ∧ σ[i]? = some (some (.ref a)) ∧ ta σ H fun vs H1 => sp vs H1 Q E
theorem pe_callF {X : Cx} {k i : Nat} {Fs : List (Addr × Sp)} {E : XK} {y : Str} {p pos : Pos} {e : Expr} {es : List Expr} {t : TA} (ok : ∀ z ∈ Fs, FvOk X.prog X.w X.K X.mg X.base k z.1 z.2) (hr : Room k X.A) (hx : Passes (L2.CX X.prog X.w) X E) (hv : PE X (.Name y p) (tVar i)) (ha : PA X (e :: es) t)
    (he : starEach (e :: es) X.env = (false, eval e X.env) :: starEach es X.env := by rfl) (hpl : (backTo pos (starEach es X.env)).any (·.1) = false := by rfl) : PE X (.Call (.Name y p) (e :: es) [] pos) (tCallF i Fs E t) := by
  constructor
  intro pins s σ H Q I h
  obtain ⟨a, sp, hz, h1, h2⟩ := h
  obtain ⟨fd, ps, F, hb, hk⟩ := (ok _ hz).ex
  refine wpAny_Call_Name_kw (thn (hv.run pins s σ H (fun v K1 => v = .ref a ∧ K1 = H) I ⟨.ref a, h1, rfl, rfl⟩) fun u s1 got => ?_)
  obtain ⟨v, K1, J, ru, ev, rfl⟩ := got
  subst ev
  obtain rfl : u = .ref a := ru
  refine PySem.W.callWith_K (h₀ := X.base) I.ok.mod.kin hk (thn (ha.run pos pins s1 σ K1 _ J h2) fun us s2 ⟨vs, H2, J2, r, q⟩ => ⟨J2.kIn, ?_⟩) he hpl
  exact run_fn F hr hb .nil hx J2 r (by rw [List.append_nil]; exact q)
section
variable {C : Ct} {A A1 : AS} {d : Dt} {i : Nat} {Fs : List (Addr × Sp)} {ta : TA} {ds : List Dt} {a : Addr} {g : List Dt → Rs → Prop}
theorem e_callF {E' : XK} (hz : (a, spD C.K C.T g) ∈ Fs) (h : A.sl[i]? = some (.d (.v (.ref a)))) (ha : EvA C ta A ds A1) (hg : g ds (.ok d)) : EvS C (tCallF i Fs E' ta) A d A1 := fun os σ H k Q q => by
  obtain ⟨o, e1, v, e2, e3⟩ := k.slot h
  subst e2
  rw [Is.v_iff.mp e3] at e1
  refine ⟨a, _, hz, e1, ha os σ H k _ fun os1 vs H1 k1 e1 i1 => ⟨hid C.O os1, ds, .ok d, fun a h => k1.hidden h, k1.tb, i1, hg, fun v H' e t i => q os1 v H' (k1.mono e t) (e1.trans (k1.gr e)) i⟩⟩
theorem x_callF {E : XK} {c : Addr} (hz : (a, spD C.K C.T g) ∈ Fs) (h : A.sl[i]? = some (.d (.v (.ref a)))) (ha : EvA C ta A ds A1) (hg : g ds (.err c)) : EvX C E (tCallF i Fs E ta) A c A1 := fun os σ H k hE Q => by
  obtain ⟨o, e1, v, e2, e3⟩ := k.slot h
  subst e2
  rw [Is.v_iff.mp e3] at e1
  refine ⟨a, _, hz, e1, ha os σ H k _ fun os1 vs H1 k1 e1 i1 => ⟨hid C.O os1, ds, .err c, fun a h => k1.hidden h, k1.tb, i1, hg, fun H' e t => hE os1 H' (k1.mono e t) (e1.trans (k1.gr e))⟩⟩
end
end Py
end

section
set_option Elab.async false
set_option linter.all false
set_option maxRecDepth 100000
set_option maxHeartbeats 4000000
set_option autoImplicit false
namespace Py
open PySem PySem.Spec PyProof.Rows L2
/-! ### whole numbers from 0 on -/
theorem c_div (a b : Nat) : ((a : Int)).fdiv (b : Int) = ((a / b : Nat) : Int) := by
  rw [Int.fdiv_eq_ediv_of_nonneg _ (Int.natCast_nonneg b), Int.natCast_ediv]
theorem c_mod (a b : Nat) : ((a : Int)).fmod (b : Int) = ((a % b : Nat) : Int) := by
  rw [Int.fmod_eq_emod_of_nonneg _ (Int.natCast_nonneg b), Int.natCast_emod]
section
variable {C : Ct} {A A1 A2 : AS} {ta tb : TE} {a b : Nat} {i j : Int}
/-- a number that is small enough to be reckoned with -/
def Fits (a : Nat) : Prop := a < 2 ^ 4000
theorem Fits.m (ha : Fits a) (hb : Fits b) : PMul (a : Int) (b : Int) := mulX 4000 4000 ha hb
theorem Fits.d (hb : Fits b) (h : 0 < b) : PDiv i (b : Int) := divX 4000 hb (by omega)
theorem fits_of {n : Nat} (k : Nat) (h : n < 2 ^ k) (hk : k ≤ 4000) : Fits n := Nat.lt_of_lt_of_le h (Nat.pow_le_pow_right (by decide) hk)
theorem fits20 {n : Nat} (h : n < 2 ^ 20) : Fits n := fits_of 20 h (by decide)
theorem e_addN (h : EvS C ta A (di (a : Int)) A1) (h' : EvS C tb A1 (di (b : Int)) A2) : EvS C (tOp (rAddA C.K) ta tb) A (di ((a + b : Nat) : Int)) A2 := e_is (e_bin h h' o_add) (by rw [Int.natCast_add])
theorem e_subN (h : EvS C ta A (di (a : Int)) A1) (h' : EvS C tb A1 (di (b : Int)) A2) (hl : b ≤ a) : EvS C (tOp (rI0 fun i j => .int (i - j)) ta tb) A (di ((a - b : Nat) : Int)) A2 := e_is (e_bin h h' o_I0) (by rw [Int.natCast_sub hl])
theorem e_mulN (h : EvS C ta A (di (a : Int)) A1) (h' : EvS C tb A1 (di (b : Int)) A2) (ha : Fits a) (hb : Fits b) : EvS C (tOp (rMulA C.K) ta tb) A (di ((a * b : Nat) : Int)) A2 := e_is (e_bin h h' (o_mul (ha.m hb))) (by rw [Int.natCast_mul])
theorem e_divN (h : EvS C ta A (di (a : Int)) A1) (h' : EvS C tb A1 (di (b : Int)) A2) (hb : Fits b) (h0 : 0 < b) : EvS C (tOp (rI PDiv fun i j => .int (i.fdiv j)) ta tb) A (di ((a / b : Nat) : Int)) A2 := e_is (e_bin h h' (o_I (hb.d h0))) (by rw [c_div])
theorem e_modN (h : EvS C ta A (di (a : Int)) A1) (h' : EvS C tb A1 (di (b : Int)) A2) (h0 : 0 < b) : EvS C (tOp (rI (fun _ j => j ≠ 0) fun i j => .int (i.fmod j)) ta tb) A (di ((a % b : Nat) : Int)) A2 := e_is (e_bin h h' (o_I (by omega))) (by rw [c_mod])
theorem e_cN (n : Nat) : EvS C (tC (.int (n : Int))) A (di (n : Int)) A := e_c
theorem t_ltN (h : EvS C ta A (di (a : Int)) A1) (h' : EvS C tb A1 (di (b : Int)) A2) : EvT C (tTest (tOp (rI0 fun i j => .bl (decide (i < j))) ta tb)) A (decide (a < b)) A2 := t_is (t_test (e_bin h h' o_I0)) (by rw [decide_eq_decide]; omega)
theorem t_leN (h : EvS C ta A (di (a : Int)) A1) (h' : EvS C tb A1 (di (b : Int)) A2) : EvT C (tTest (tOp (rI0 fun i j => .bl (decide (i ≤ j))) ta tb)) A (decide (a ≤ b)) A2 := t_is (t_test (e_bin h h' o_I0)) (by rw [decide_eq_decide]; omega)
theorem t_eqN (h : EvS C ta A (di (a : Int)) A1) (h' : EvS C tb A1 (di (b : Int)) A2) : EvT C (tTest (tOp (rEqA C.K) ta tb)) A (decide (a = b)) A2 := t_is (t_test (e_bin h h' o_eqI)) (by rw [decide_eq_decide]; omega)
theorem t_neN (h : EvS C ta A (di (a : Int)) A1) (h' : EvS C tb A1 (di (b : Int)) A2) : EvT C (tTest (tOp (rNeA C.K) ta tb)) A (!decide (a = b)) A2 := t_is (t_test (e_bin h h' o_neI)) (congrArg (!·) (by rw [decide_eq_decide]; omega))
end
theorem x_CBa {C : Ct} {E : XK} {A A1 : AS} {r : List V → Hp → VK → Prop} {tl : TA} {c : Addr} (h : EvXA C E tl A c A1) : EvX C E (tCB r tl) A c A1 := fun os σ H k hE Q => h os σ H k hE _
/-- xs.append(e), the list told anew -/
theorem e_appendE {C : Ct} {A A1 : AS} {te : TE} {d : Dt} {i n : Nat} {xs xs0 ys : List Dt} (h1 : A.sl[i]? = some (.own n)) (h0 : A.st[n]? = some (.lst xs0)) (he : EvS C te A d A1) (h1' : A1.sl[i]? = some (.own n)) (h2 : A1.st[n]? = some (.lst xs)) (hl : xs.length < 100000) (e : ys = xs ++ [d]) : EvS C (tBM C.K "list" rAppend (tVar i) (tCons te tNil)) A dn (A1.upO n ys) := by
  rw [e]
  exact e_append h1 h0 he h1' h2 hl
/-- the expression leaves the state as it is -/
theorem r_asgS {C : Ct} {E : XK} {te : TE} {A : AS} {d : Dt} {P : Po} {i : Nat} (he : EvS C te A d A) (h : P.nx (A.put i d)) : RunS C E (tAsg te (gName i)) A P := r_asg he h
end Py
end

section
set_option linter.all false
set_option maxRecDepth 100000
set_option maxHeartbeats 4000000
set_option autoImplicit false
namespace Sq
/-- the whole part of a root below 400 -/
def wh (n : Nat) : Nat := (List.range 20).foldl (fun a k => if k * k ≤ n then k else a) 0
structure St where
  t : Nat
  b : Nat
  p : Nat
def step (n w : Nat) (s : St) : St :=
  let b := (n - s.t * s.t) / s.b
  let p := (w + s.t) / b
  ⟨p * b - s.t, b, p⟩
def rs (n w : Nat) : Nat → St
  | 0 => ⟨w, 1, w⟩
  | i + 1 => step n w (rs n w i)
def perF (n w : Nat) : Nat → St → Nat → Nat
  | 0, _, i => i
  | f + 1, s, i => if s.p = 2 * w then i else perF n w f (step n w s) (i + 1)
def per (n : Nat) : Nat := perF n (wh n) 60 ⟨wh n, 1, wh n⟩ 0
abbrev sq (n : Nat) : Bool := wh n * wh n == n
/-- what a turn needs -/
def okS (n w : Nat) (s : St) : Bool :=
  let b := (n - s.t * s.t) / s.b
  let p := (w + s.t) / b
  !decide (s.p = 2 * w) && decide (s.t * s.t ≤ n) && decide (0 < s.b) && decide (0 < b) && decide (s.t ≤ p * b) && decide (p ≤ 40) && decide (s.t ≤ 20) && decide (s.b ≤ 400) && decide (b ≤ 400)
def ok1 (n : Nat) : Bool :=
  let w := wh n
  decide (w * w ≤ n) && decide (n < (w + 1) * (w + 1)) && decide (0 < w) && decide (w < 20) && decide (0 < per n) && decide (per n ≤ 50) && (List.range (per n)).all (fun i => okS n w (rs n w i)) && decide ((rs n w (per n)).p = 2 * w) && decide ((rs n w (per n)).t = w) && decide ((rs n w (per n + 1)).b = (rs n w 1).b) && decide (0 < (rs n w (per n + 1)).b)
    && (List.range (per n)).all (fun i => (List.range i).all fun j => !(decide ((rs n w i).t = (rs n w j).t) && decide ((rs n w (i + 1)).b = (rs n w (j + 1)).b)))
theorem ok1_all : (List.range 302).all (fun n => decide (n < 2) || sq n || ok1 n) = true := by decide +kernel
/-! ### convergents, points -/
def partAt (n i : Nat) : Nat := if i = 0 then wh n else (rs n (wh n) ((i - 1) % per n + 1)).p
def cv (n : Nat) : Nat → (Nat × Nat) × (Nat × Nat)
  | 0 => ((1, 0), (0, 1))
  | i + 1 => ((partAt n i * (cv n i).1.1 + (cv n i).2.1, partAt n i * (cv n i).1.2 + (cv n i).2.2), (cv n i).1)
/-- the same, with the period at hand -/
def cvF (w p : Nat) (ps : List Nat) : Nat → Nat → (Nat × Nat) × (Nat × Nat) → (Nat × Nat) × (Nat × Nat)
  | 0, _, c => c
  | f + 1, i, c => cvF w p ps f (i + 1) (let a := if i = 0 then w else ps.getD ((i - 1) % p) 0; ((a * c.1.1 + c.2.1, a * c.1.2 + c.2.2), c.1))
def lpL (n : Nat) : Nat := if per n % 2 = 0 then per n else 2 * per n
def lp (n : Nat) : Nat × Nat := (cv n (lpL n)).1
def mp (n : Nat) : Nat × Nat := (cv n (per n)).1
def pt (n x y : Nat) : Nat → Nat × Nat
  | 0 => (1, 0)
  | j + 1 => ((pt n x y j).1 * x + n * (pt n x y j).2 * y, (pt n x y j).1 * y + (pt n x y j).2 * x)
/-- no square near: v = n y y + e - f for k numbers from y on -/
def nsRun (n w e f : Nat) : Nat → Nat → Nat → Bool
  | 0, _, _ => true
  | k + 1, y, s =>
    let v := n * y * y + e - f
    let s1 := if (s + 2) * (s + 2) ≤ v then s + 2 else if (s + 1) * (s + 1) ≤ v then s + 1 else s
    (decide (s1 * s1 < v) && decide (v < (s1 + 1) * (s1 + 1))) && nsRun n w e f k (y + 1) (s1 + w)
def ok2 (n : Nat) : Bool :=
  let w := wh n
  let p := per n
  let ps := (List.range p).map fun i => (rs n w (i + 1)).p
  let c := fun k => cvF w p ps k 0 ((1, 0), (0, 1))
  let l := (c (if p % 2 = 0 then p else 2 * p)).1
  let m := (c p).1
  (List.range 9).all (fun k => (decide ((c (k + 1)).1.1 * (c (k + 1)).1.1 < n * (c (k + 1)).1.2 * (c (k + 1)).1.2) == decide (k % 2 = 0)) && (decide (k = 0) || decide ((c (k + 1)).1.1 * (c (k + 1)).2.2 = (c (k + 1)).1.2 * (c (k + 1)).2.1 + 1) || decide ((c (k + 1)).1.2 * (c (k + 1)).2.1 = (c (k + 1)).1.1 * (c (k + 1)).2.2 + 1)))
    && decide (l.1 * l.1 = n * l.2 * l.2 + 1) && decide (1 ≤ l.2)
    && (decide (p % 2 = 0) || (decide (m.1 * m.1 + 1 = n * m.2 * m.2) && decide (2 * m.1 * m.1 + 1 = l.1) && decide (2 * m.1 * m.2 = l.2)))
    && (List.range 4).all (fun j => decide ((pt n l.1 l.2 (j + 1)).1 * (pt n l.1 l.2 (j + 1)).1 = n * (pt n l.1 l.2 (j + 1)).2 * (pt n l.1 l.2 (j + 1)).2 + 1))
    && (List.range 3).all (fun j => decide ((pt n l.1 l.2 (j + 1)).1 < (pt n l.1 l.2 (j + 2)).1))
    && (decide (20 ≤ l.2) || (decide (l.2 < (pt n l.1 l.2 2).2) && decide ((pt n l.1 l.2 2).2 < 100000)))
    && nsRun n w 1 0 (min l.2 400 - 1) 1 w
    && (!decide (p % 2 = 0) || nsRun n w 0 1 199 1 w)
theorem ok2_a : (List.range 110).all (fun n => decide (n < 2) || sq n || ok2 n) = true := by decide +kernel
theorem ok2_b : (List.range 100).all (fun n => sq (n + 110) || ok2 (n + 110)) = true := by decide +kernel
theorem ok2_c : (List.range 92).all (fun n => sq (n + 210) || ok2 (n + 210)) = true := by decide +kernel
end Sq
end

section
set_option linter.all false
set_option maxRecDepth 100000
set_option maxHeartbeats 4000000
set_option autoImplicit false
namespace Sq
abbrev W (n : Nat) : Nat := wh n
abbrev R (n i : Nat) : St := rs n (wh n) i
structure Stp (n i : Nat) : Prop where
  ne : (R n i).p ≠ 2 * W n
  tt : (R n i).t * (R n i).t ≤ n
  b0 : 0 < (R n i).b
  b1 : 0 < (R n (i + 1)).b
  tp : (R n i).t ≤ (R n (i + 1)).p * (R n (i + 1)).b
  p4 : (R n (i + 1)).p ≤ 40
  t2 : (R n i).t ≤ 20
  bs : (R n i).b ≤ 400
  bt : (R n (i + 1)).b ≤ 400
structure Nok (n : Nat) : Prop where
  w1 : W n * W n ≤ n
  w2 : n < (W n + 1) * (W n + 1)
  w0 : 0 < W n
  w20 : W n < 20
  p0 : 0 < per n
  p50 : per n ≤ 50
  s : ∀ i, i < per n → Stp n i
  e : (R n (per n)).p = 2 * W n
  et : (R n (per n)).t = W n
  eb : (R n (per n + 1)).b = (R n 1).b
  eb0 : 0 < (R n (per n + 1)).b
  nd : ∀ i j, i < per n → j < i → ¬((R n i).t = (R n j).t ∧ (R n (i + 1)).b = (R n (j + 1)).b)
theorem nok_of {n : Nat} (h1 : 2 ≤ n) (h2 : n < 302) (h3 : sq n = false) : Nok n := by
  have h := List.all_eq_true.mp ok1_all n (List.mem_range.mpr h2)
  rw [h3, decide_eq_false (by omega), Bool.or_false, Bool.false_or] at h
  unfold ok1 at h
  simp only [Bool.and_eq_true, decide_eq_true_eq, List.all_eq_true, List.mem_range, Bool.not_eq_true', Bool.and_eq_false_imp, decide_eq_false_iff_not] at h
  obtain ⟨⟨⟨⟨⟨⟨⟨⟨⟨⟨⟨a1, a2⟩, a3⟩, a4⟩, a5⟩, a6⟩, a7⟩, a8⟩, a9⟩, b1⟩, b2⟩, b3⟩ := h
  refine ⟨a1, a2, a3, a4, a5, a6, fun i hi => ?_, a8, a9, b1, b2, fun i j hi hj ⟨e1, e2⟩ => b3 i hi j hj e1 e2⟩
  have z := a7 i hi
  unfold okS at z
  simp only [Bool.and_eq_true, decide_eq_true_eq, Bool.not_eq_true', decide_eq_false_iff_not] at z
  obtain ⟨⟨⟨⟨⟨⟨⟨⟨c1, c2⟩, c3⟩, c4⟩, c5⟩, c6⟩, c7⟩, c8⟩, c9⟩ := z
  exact ⟨c1, c2, c3, c4, c5, c6, c7, c8, c9⟩
def parts (n : Nat) : List Nat := (List.range (per n)).map fun i => (R n (i + 1)).p
theorem cvF_at {n : Nat} (hp : 0 < per n) : ∀ f i, cvF (W n) (per n) (parts n) f i (cv n i) = cv n (i + f)
  | 0, i => rfl
  | f + 1, i => by
    have e : (if i = 0 then W n else (parts n).getD ((i - 1) % per n) 0) = partAt n i := by
      unfold partAt
      split
      · rfl
      · have : (i - 1) % per n < per n := Nat.mod_lt _ hp
        rw [List.getD_eq_getElem?_getD, parts, List.getElem?_map, List.getElem?_range this]
        rfl
    rw [cvF]
    simp only [e]
    have := cvF_at hp f (i + 1)
    rw [cv] at this
    rw [this, Nat.add_right_comm, Nat.add_assoc]
structure Mok (n : Nat) : Prop where
  rows : ∀ k, k < 9 → (((cv n (k + 1)).1.1 * (cv n (k + 1)).1.1 < n * (cv n (k + 1)).1.2 * (cv n (k + 1)).1.2) ↔ k % 2 = 0) ∧ (k = 0 ∨ (cv n (k + 1)).1.1 * (cv n (k + 1)).2.2 = (cv n (k + 1)).1.2 * (cv n (k + 1)).2.1 + 1 ∨ (cv n (k + 1)).1.2 * (cv n (k + 1)).2.1 = (cv n (k + 1)).1.1 * (cv n (k + 1)).2.2 + 1)
  pell : (lp n).1 * (lp n).1 = n * (lp n).2 * (lp n).2 + 1
  y1 : 1 ≤ (lp n).2
  neg : per n % 2 ≠ 0 → (mp n).1 * (mp n).1 + 1 = n * (mp n).2 * (mp n).2 ∧ 2 * (mp n).1 * (mp n).1 + 1 = (lp n).1 ∧ 2 * (mp n).1 * (mp n).2 = (lp n).2
  pts : ∀ j, j < 4 → (pt n (lp n).1 (lp n).2 (j + 1)).1 * (pt n (lp n).1 (lp n).2 (j + 1)).1 = n * (pt n (lp n).1 (lp n).2 (j + 1)).2 * (pt n (lp n).1 (lp n).2 (j + 1)).2 + 1
  asc : ∀ j, j < 3 → (pt n (lp n).1 (lp n).2 (j + 1)).1 < (pt n (lp n).1 (lp n).2 (j + 2)).1
  near : (lp n).2 < 20 → (lp n).2 < (pt n (lp n).1 (lp n).2 2).2 ∧ (pt n (lp n).1 (lp n).2 2).2 < 100000
  no1 : ∀ y, 1 ≤ y → y < min (lp n).2 400 → ∀ s, s * s ≠ n * y * y + 1
  nom : per n % 2 = 0 → ∀ y, 1 ≤ y → y < 200 → ∀ s, s * s ≠ n * y * y - 1
theorem ns_ok {n w e f : Nat} : ∀ k y s, nsRun n w e f k y s = true → ∀ z, y ≤ z → z < y + k → ∀ t, t * t ≠ n * z * z + e - f
  | 0, y, s, _, z, h1, h2, _ => by omega
  | k + 1, y, s, h, z, h1, h2, t => by
    unfold nsRun at h
    simp only [Bool.and_eq_true, decide_eq_true_eq] at h
    obtain ⟨⟨a, b⟩, c⟩ := h
    by_cases q : z = y
    · subst q
      intro e'
      generalize (if (s + 2) * (s + 2) ≤ n * z * z + e - f then s + 2 else if (s + 1) * (s + 1) ≤ n * z * z + e - f then s + 1 else s) = u at a b
      rw [← e'] at a b
      have l1 : u < t := Nat.lt_of_not_le fun g => by have := Nat.mul_self_le_mul_self g; omega
      have l2 : t < u + 1 := Nat.lt_of_not_le fun g => by have := Nat.mul_self_le_mul_self g; omega
      omega
    · exact ns_ok k (y + 1) _ c z (by omega) (by omega) t
theorem ok2_of {n : Nat} (h1 : 2 ≤ n) (h2 : n < 302) (h3 : sq n = false) : ok2 n = true := by
  by_cases a : n < 110
  · have h := List.all_eq_true.mp ok2_a n (List.mem_range.mpr a)
    rw [h3, decide_eq_false (by omega), Bool.or_false, Bool.false_or] at h
    exact h
  · by_cases b : n < 210
    · have h := List.all_eq_true.mp ok2_b (n - 110) (List.mem_range.mpr (by omega))
      rw [show n - 110 + 110 = n by omega, h3, Bool.false_or] at h
      exact h
    · have h := List.all_eq_true.mp ok2_c (n - 210) (List.mem_range.mpr (by omega))
      rw [show n - 210 + 210 = n by omega, h3, Bool.false_or] at h
      exact h
theorem mok_of {n : Nat} (h1 : 2 ≤ n) (h2 : n < 302) (h3 : sq n = false) : Mok n := by
  have N := nok_of h1 h2 h3
  have h := ok2_of h1 h2 h3
  have ec : ∀ k, cvF (W n) (per n) (parts n) k 0 ((1, 0), (0, 1)) = cv n k := fun k => by
    have := cvF_at N.p0 k 0
    rwa [Nat.zero_add] at this
  unfold ok2 at h
  dsimp only at h
  change ((((((((_ && _) && _) && _) && _) && _) && _) && _) && _) = true at h
  have ep : ((List.range (per n)).map fun i => (rs n (wh n) (i + 1)).p) = parts n := rfl
  rw [ep] at h
  simp only [ec] at h
  have el : (cv n (if per n % 2 = 0 then per n else 2 * per n)).1 = lp n := rfl
  have em : (cv n (per n)).1 = mp n := rfl
  rw [el, em] at h
  simp only [Bool.and_eq_true, Bool.or_eq_true, decide_eq_true_eq, List.all_eq_true, List.mem_range, beq_iff_eq, Bool.not_eq_true', decide_eq_false_iff_not, decide_eq_decide] at h
  obtain ⟨⟨⟨⟨⟨⟨⟨⟨a1, a2⟩, a3⟩, a4⟩, a5⟩, a6⟩, a7⟩, a8⟩, a9⟩ := h
  refine ⟨fun k hk => ⟨(a1 k hk).1, ?_⟩, a2, a3, fun z => ?_, a5, a6, fun z => ?_, fun y y1 y2 s => ?_, fun z y y1 y2 s => ?_⟩
  · rcases (a1 k hk).2 with (u | u) | u
    · exact .inl u
    · exact .inr (.inl u)
    · exact .inr (.inr u)
  · rcases a4 with u | u
    · exact absurd u z
    · exact ⟨u.1.1, u.1.2, u.2⟩
  · rcases a7 with u | u
    · omega
    · exact u
  · have := ns_ok _ _ _ a8 y y1 (by omega) s
    simpa using this
  · rcases a9 with u | u
    · exact absurd z u
    · exact ns_ok _ _ _ u y y1 (by omega) s
theorem part_le {n : Nat} (N : Nok n) (i : Nat) : partAt n i ≤ 40 := by
  unfold partAt
  split
  · have : wh n < 20 := N.w20
    omega
  · exact (N.s _ (Nat.mod_lt _ N.p0)).p4
theorem cv_le {n : Nat} (N : Nok n) : ∀ i, (cv n i).1.1 ≤ 64 ^ i ∧ (cv n i).1.2 ≤ 64 ^ i ∧ (cv n i).2.1 ≤ 64 ^ i ∧ (cv n i).2.2 ≤ 64 ^ i
  | 0 => by refine ⟨?_, ?_, ?_, ?_⟩ <;> simp [cv]
  | i + 1 => by
    obtain ⟨a, b, c, d⟩ := cv_le N i
    have p := part_le N i
    have e1 := Nat.mul_le_mul p a
    have e2 := Nat.mul_le_mul p b
    rw [cv, Nat.pow_succ]
    dsimp only
    omega
end Sq
end

section
set_option Elab.async false
set_option linter.all false
set_option maxRecDepth 100000
set_option maxHeartbeats 4000000
set_option autoImplicit false
set_option exponentiation.threshold 300
namespace Law
open PySem PySem.Spec PyProof.Rows L2 Py Sq

local macro_rules | `(tactic| wtm_at "op") => `(tactic| first
  | with_reducible exact o_I0 | with_reducible exact o_add | with_reducible exact o_eqI | with_reducible exact o_neI
  | ((with_reducible apply o_mul); first | assumption | wtm_at "si")
  | ((with_reducible apply o_I); first | assumption | wtm_at "si")
  | ((with_reducible apply o_ixT); rfl) | ((with_reducible apply o_ixL); rfl)
  | ((with_reducible apply o_eqD) <;> first | rfl | decide | assumption) | ((with_reducible apply o_neD) <;> first | rfl | decide | assumption)
  | with_reducible assumption)
local macro_rules | `(tactic| wtm_at "si") => `(tactic| first | decide | exact ⟨by decide, by decide +kernel⟩ | omega)
local macro_rules | `(tactic| wtm_at "ev") => `(tactic| first
  | ((with_reducible apply e_var); rfl) | with_reducible exact e_c | with_reducible exact a_nil
  | ((with_reducible apply a_cons) <;> wtm_at "ev")
  | ((with_reducible apply e_bin) <;> first | wtm_at "ev" | wtm_at "op")
  | ((with_reducible apply e_ixO) <;> first | rfl | wtm_at "ev")
  | ((with_reducible apply e_U) <;> wtm_at "ev")
  | ((with_reducible apply t_test) <;> wtm_at "ev")
  | ((with_reducible apply t_B) <;> wtm_at "ev")
  | ((with_reducible apply t_not) <;> wtm_at "ev")
  | ((with_reducible apply e_tup) <;> first | wtm_at "ev" | exact Nat.le_of_ble_eq_true rfl)
  | ((with_reducible apply e_lst) <;> first | wtm_at "ev" | exact Nat.le_of_ble_eq_true rfl)
  | ((with_reducible apply e_gcd) <;> wtm_at "ev")
  | ((with_reducible apply e_abs) <;> wtm_at "ev")
  | ((with_reducible apply e_max2) <;> wtm_at "ev")
  | ((with_reducible apply e_int) <;> wtm_at "ev")
  | ((with_reducible apply e_intB) <;> wtm_at "ev")
  | ((with_reducible apply e_bits) <;> wtm_at "ev")
  | ((with_reducible apply e_not) <;> wtm_at "ev")
  | with_reducible assumption)

def top (i : Nat) : Stmt := PySem.Challenge.pw_algebrastack_k18_roots_that_come_back.main.body.getD i (.Pass ⟨0, 0, 0, 0⟩)
structure Txt (K : Frg) (mg : Str → Option Value) : Prop where
  gNumberError : mg "NumberError" = some (.ref (He.ga K "NumberError"))
  xNumberError : PySem.W.excIn K (He.ga K "NumberError") He.veBase "ValueError.__new__" = true ∧ PySem.W.keepIn K (.ref (He.ga K "NumberError")) = true ∧ PySem.W.subIn K (.ref (He.ga K "NumberError")) (.type "BaseException") = some true ∧ PySem.W.typeIn K (.ref (He.ga K "NumberError")) = some (.type "type")
  m : PySem.W.exmOne K (.ref (He.ga K "NumberError")) (.ref (He.ga K "NumberError")) = some true
  n_isqrt : mg "isqrt" = some (.builtin "math.isqrt")
  n_abs : mg "abs" = none
  n_enumerate : mg "enumerate" = none
  n_int : mg "int" = none
  n_len : mg "len" = none
  n_list : mg "list" = none
  n_range : mg "range" = none
  n_sorted : mg "sorted" = none
  n_tuple : mg "tuple" = none
  c_MOST_PERIOD : ∃ u, mg "MOST_PERIOD" = some u ∧ RelV (.int 2000) u
/-- the class NumberError -/
abbrev NE (K : Frg) : Addr := He.ga K "NumberError"

section
variable {P : Program} {w : World} {K : Frg} {T : List (Addr × Str)} {mg : Str → Option Value} {base : Heap}

abbrev s_root_parts : Stmt := top 6
theorem sc_root_parts : FnScope ["number", "whole", "found", "take", "below", "part"] ["number"] (defScope s_root_parts) := ⟨rfl, rfl, rfl, by decide +kernel, rfl, by decide +kernel, by decide +kernel⟩
abbrev s_root_convergents : Stmt := top 7
theorem sc_root_convergents : FnScope ["number", "many", "whole", "parts", "found", "last", "before", "place", "part"] ["number", "many"] (defScope s_root_convergents) := ⟨rfl, rfl, rfl, by decide +kernel, rfl, by decide +kernel, by decide +kernel⟩
abbrev s_least_point : Stmt := top 8
theorem sc_least_point : FnScope ["number", "period"] ["number"] (defScope s_least_point) := ⟨rfl, rfl, rfl, by decide +kernel, rfl, by decide +kernel, by decide +kernel⟩
abbrev s_minus_point : Stmt := top 9
theorem sc_minus_point : FnScope ["number", "period"] ["number"] (defScope s_minus_point) := ⟨rfl, rfl, rfl, by decide +kernel, rfl, by decide +kernel, by decide +kernel⟩
abbrev s_points : Stmt := top 10
theorem sc_points : FnScope ["number", "many", "x", "y", "found", "here", "_"] ["number", "many"] (defScope s_points) := ⟨rfl, rfl, rfl, by decide +kernel, rfl, by decide +kernel, by decide +kernel⟩
abbrev s__law_parts : Stmt := top 17
theorem sc__law_parts : FnScope ["number", "whole", "found", "seen", "take", "below", "part"] ["number"] (defScope s__law_parts) := ⟨rfl, rfl, rfl, by decide +kernel, rfl, by decide +kernel, by decide +kernel⟩
abbrev s__law_least : Stmt := top 18
theorem sc__law_least : FnScope ["number", "due", "most", "y", "square", "low", "high", "middle"] ["number", "due", "most"] (defScope s__law_least) := ⟨rfl, rfl, rfl, by decide +kernel, rfl, by decide +kernel, by decide +kernel⟩
/-! ### what they answer -/
theorem wh_all : (List.range 302).all (fun n => decide (wh n * wh n ≤ n) && decide (n < (wh n + 1) * (wh n + 1)) && decide (wh n < 20)) = true := by decide +kernel
theorem wh_ok {n : Nat} (h : n < 302) : W n * W n ≤ n ∧ n < (W n + 1) * (W n + 1) ∧ W n < 20 := by
  have z := List.all_eq_true.mp wh_all n (List.mem_range.mpr h)
  simp only [Bool.and_eq_true, decide_eq_true_eq] at z
  exact ⟨z.1.1, z.1.2, z.2⟩
abbrev dN (n : Nat) : Dt := di (n : Int)
abbrev frN (p : Nat × Nat) : Dt := .tup [dN p.1, dN p.2]
def pdl (n i : Nat) : List Dt := (List.range i).map fun j => dN (R n (j + 1)).p
def Bad (n : Int) : Prop := n < 0 ∨ sq n.toNat = true
instance (n : Int) : Decidable (Bad n) := inferInstanceAs (Decidable (_ ∨ _))
def ansR (K : Frg) (n : Int) (d : Dt) : Rs := if Bad n then .err (NE K) else .ok d
def sp_parts (K : Frg) : List Dt → Rs → Prop := fun ds r => ∃ n : Int, ds = [di n] ∧ -1000 ≤ n ∧ n < 302 ∧ r = ansR K n (.tup [dN (W n.toNat), .tup (pdl n.toNat (per n.toNat))])
def cvl (n i : Nat) : List Dt := (List.range i).map fun j => frN (cv n (j + 1)).1
def sp_conv (K : Frg) : List Dt → Rs → Prop := fun ds r => ∃ (n : Int) (k : Nat), ds = [di n, dN k] ∧ -1000 ≤ n ∧ n < 302 ∧ k ≤ 200 ∧ r = ansR K n (.tup (cvl n.toNat k))
def sp_least (K : Frg) : List Dt → Rs → Prop := fun ds r => ∃ n : Int, ds = [di n] ∧ -1000 ≤ n ∧ n < 302 ∧ r = ansR K n (frN (lp n.toNat))
def sp_minus (K : Frg) : List Dt → Rs → Prop := fun ds r => ∃ n : Int, ds = [di n] ∧ -1000 ≤ n ∧ n < 302 ∧ r = ansR K n (if per n.toNat % 2 = 0 then dn else frN (mp n.toNat))
def ptl (n i : Nat) : List Dt := (List.range i).map fun j => frN (pt n (lp n).1 (lp n).2 (j + 1))
def sp_points (K : Frg) : List Dt → Rs → Prop := fun ds r => ∃ (n : Int) (k : Nat), ds = [di n, dN k] ∧ -1000 ≤ n ∧ n < 302 ∧ k ≤ 5 ∧ r = ansR K n (.tup (ptl n.toNat k))
theorem pdl_next (n i : Nat) : pdl n (i + 1) = pdl n i ++ [dN (R n (i + 1)).p] := by simp [pdl, List.range_succ]
theorem cvl_next (n i : Nat) : cvl n (i + 1) = cvl n i ++ [frN (cv n (i + 1)).1] := by simp [cvl, List.range_succ]
theorem ptl_next (n i : Nat) : ptl n (i + 1) = ptl n i ++ [frN (pt n (lp n).1 (lp n).2 (i + 1))] := by simp [ptl, List.range_succ]
theorem pdl_len (n i : Nat) : (pdl n i).length = i := by simp [pdl]
theorem cvl_len (n i : Nat) : (cvl n i).length = i := by simp [cvl]
theorem ptl_len (n i : Nat) : (ptl n i).length = i := by simp [ptl]
theorem at_last {xs : List Dt} {x : Dt} : atI (xs ++ [x]) (-1) = some x := by
  unfold atI ixN
  simp
  rw [if_pos (by omega), show (-1 + ((xs.length : Int) + 1)).toNat = xs.length by omega]
  simp
theorem at_nat {xs : List Dt} {i : Nat} {x : Dt} (h : xs[i]? = some x) : atI xs (i : Int) = some x := by
  have hi := (List.getElem?_eq_some_iff.mp h).1
  unfold atI ixN
  simp [hi]
  exact (List.getElem?_eq_some_iff.mp h).2
theorem bad_nat {m : Nat} (h : ¬ Bad (m : Int)) : sq m = false := by
  cases e : sq m with
  | false => rfl
  | true => exact absurd (Or.inr (by rw [Int.toNat_natCast]; exact e)) h
theorem not_bad {m : Nat} (h : ¬ Bad (m : Int)) : 2 ≤ m := by
  have := bad_nat h
  rcases Nat.lt_or_ge m 2 with z | z
  · have : m = 0 ∨ m = 1 := by omega
    rcases this with rfl | rfl
    · exact absurd (bad_nat h) (by decide)
    · exact absurd (bad_nat h) (by decide)
  · exact z
theorem f10 {n : Nat} (h : n < 1000) : Fits n := fits_of 10 (by omega) (by decide)

theorem lp_le {n : Nat} (N : Nok n) : (lp n).1 ≤ 2 ^ 600 ∧ (lp n).2 ≤ 2 ^ 600 := by
  have h : lpL n ≤ 100 := by have := N.p50; unfold lpL; split <;> omega
  obtain ⟨a, b, _, _⟩ := cv_le N (lpL n)
  have e : (64 : Nat) ^ lpL n ≤ 2 ^ 600 := by
    rw [show (64 : Nat) = 2 ^ 6 from rfl, ← Nat.pow_mul]
    exact Nat.pow_le_pow_right (by decide) (by omega)
  exact ⟨Nat.le_trans a e, Nat.le_trans b e⟩
theorem pt_le {n : Nat} (N : Nok n) (hn : n < 302) : ∀ i, i ≤ 5 → (pt n (lp n).1 (lp n).2 i).1 ≤ 2 ^ (620 * i) ∧ (pt n (lp n).1 (lp n).2 i).2 ≤ 2 ^ (620 * i)
  | 0, _ => by simp [pt]
  | i + 1, h => by
    obtain ⟨a, b⟩ := pt_le N hn i (by omega)
    obtain ⟨c, d⟩ := lp_le N
    have e1 := Nat.mul_le_mul a c
    have e2 := Nat.mul_le_mul (Nat.mul_le_mul (show n ≤ 2 ^ 9 by omega) b) d
    have e3 := Nat.mul_le_mul a d
    have e4 := Nat.mul_le_mul b c
    rw [← Nat.pow_add] at e1 e3 e4
    rw [← Nat.pow_add, ← Nat.pow_add] at e2
    have up : ∀ k, k + 1 ≤ 620 * (i + 1) → 2 ^ k + 2 ^ k ≤ 2 ^ (620 * (i + 1)) := fun k hk => by
      rw [← Nat.two_mul, ← Nat.pow_succ']
      exact Nat.pow_le_pow_right (by decide) hk
    have u1 := up (9 + 620 * i + 600) (by omega)
    have u2 := up (620 * i + 600) (by omega)
    have m1 : 2 ^ (620 * i + 600) ≤ 2 ^ (9 + 620 * i + 600) := Nat.pow_le_pow_right (by decide) (by omega)
    rw [pt]
    dsimp only
    omega

theorem ok_root_parts (X : Txt K mg) (F : ∃ fd, FunD K "root_parts" "root_parts" (defArgs s_root_parts) (defBody s_root_parts) (defScope s_root_parts) [] [] (He.ga K "root_parts") fd) (hm : mg "root_parts" = some (.ref (He.ga K "root_parts"))) : Gd P w K mg base "root_parts" ["number"] 1 (spD K T (sp_parts K)) := by
  have Tx := X
  refine mkG F hm sc_root_parts (fun _ _ _ _ _ _ us hl => match us, hl with | [_], _ => rfl) (fun ds r h => ?len) (fun cdv A outer s H E hr => ?body)
  case len => (obtain ⟨_, rfl, _⟩ := h; rfl)
  case body =>
    have sc := sc_root_parts
    refine ⟨_, (pss_cons (ps_if (pt_cmpR op_lt (pv 0) pe_int (nomark _)) (pss_one (ps_rz rfl takesE PySem.F.excBase_ValueError Tx.xNumberError.1 Tx.gNumberError Tx.xNumberError.2.1 (raises_own Tx.xNumberError.2.2.1 Tx.xNumberError.2.2.2) rfl)) pss_nil)
  (pss_cons (ps_set (i := 1) sc.nd rfl (Or.inl rfl) (pe_callBfun cr_isqrt (by rfl) Tx.n_isqrt (pa_cons (pv 0) pa_nil)))
  (pss_cons (ps_if (pt_cmpR (op_eqA hr.units) (pe_op op_mulA (pv 1) (pv 1)) (pv 0) (nomark _)) (pss_one (ps_rz rfl takesE PySem.F.excBase_ValueError Tx.xNumberError.1 Tx.gNumberError Tx.xNumberError.2.1 (raises_own Tx.xNumberError.2.2.1 Tx.xNumberError.2.2.2) rfl)) pss_nil)
  (pss_cons (ps_set (i := 2) sc.nd rfl (Or.inl rfl) (pe_lst pa_nil))
  (pss_cons (ps_par3 (i := 3) (j := 4) (l := 5) rfl sc.nd rfl rfl rfl (by decide) (by decide) (by decide) rfl rfl rfl (pa_cons (pv 1) (pa_cons pe_int (pa_cons (pv 1) pa_nil))) (by rfl))
  (pss_cons (ps_while (passesE) (pt_cmpR (op_neA hr.units) (pv 5) (pe_op op_mulA pe_int (pv 1)) (nomark _)) (pss_cons (ps_if (pt_cmpR op_ge (pe_callB call_len (by rfl) Tx.n_len (by decide +kernel) (pa_cons (pv 2) pa_nil)) (peC Tx.c_MOST_PERIOD) (nomark _)) (pss_one (ps_rz rfl takesE PySem.F.excBase_ValueError Tx.xNumberError.1 Tx.gNumberError Tx.xNumberError.2.1 (raises_own Tx.xNumberError.2.2.1 Tx.xNumberError.2.2.2) rfl)) pss_nil)
  (pss_cons (ps_set (i := 4) sc.nd rfl (Or.inl rfl) (pe_op op_fdivX (pe_op op_sub (pv 0) (pe_op op_mulA (pv 3) (pv 3))) (pv 4)))
  (pss_cons (ps_set (i := 5) sc.nd rfl (Or.inl rfl) (pe_op op_fdivX (pe_op op_addA (pv 1) (pv 3)) (pv 4)))
  (pss_cons (ps_set (i := 3) sc.nd rfl (Or.inl rfl) (pe_op op_sub (pe_op op_mulA (pv 5) (pv 4)) (pv 3)))
  (pss_one (ps_expr (pe_bm PySem.F.plainAttrs_list PySem.F.slot_list_append PySem.F.type_list_append mt_append (pv 2) (pa_cons (pv 5) pa_nil)))))))))
  (pss_one (ps_ret (pe_tup (pa_cons (pv 1) (pa_cons (pe_callTy call_tuple_of (by rfl) Tx.n_tuple (by decide +kernel) (pa_cons (pv 2) pa_nil)) pa_nil))))))))))), fun O ds r hg => ?_⟩
    clear sc hr
    try dsimp only [cxOf]

    obtain ⟨n, rfl, h1, h2, rfl⟩ := hg
    by_cases hn : n < 0
    · exact r_seq (r_ifT (t_is (t_test (e_bin (e_var rfl) e_c o_I0)) (decide_eq_true hn)) (r_raise (show ansR K n _ = _ from if_pos (.inl hn))))
    refine r_seq (r_ifF (t_is (t_test (e_bin (e_var rfl) e_c o_I0)) (decide_eq_false hn)) (r_next ?_))
    obtain ⟨m, rfl⟩ : ∃ m : Nat, n = m := ⟨n.toNat, by omega⟩
    have m3 : m < 302 := by omega
    obtain ⟨w1, w2, w3⟩ := wh_ok m3
    refine r_seq (r_asg (e_isqrt (w := W m) (e_var rfl) (by omega) w1 w2) ?_)
    have tq : EvT ⟨K, T, H, O⟩ _ _ _ _ := t_eqN (e_mulN (e_var (i := 1) rfl) (e_var (i := 1) rfl) (f10 (by omega)) (f10 (by omega))) (e_var (i := 0) rfl) (C := ⟨K, T, H, O⟩) (A := ⟨[.d (dN m), .d (dN (W m)), .un, .un, .un, .un], []⟩)
    by_cases hb : Bad (m : Int)
    · have hs : W m * W m = m := by
        rcases hb with z | z
        · omega
        · rw [Int.toNat_natCast] at z; exact beq_iff_eq.mp z
      exact r_seq (r_ifT (t_is tq (decide_eq_true hs)) (r_raise (show ansR K m _ = _ from if_pos hb)))
    have hs : ¬ W m * W m = m := fun z => hb (.inr (by rw [Int.toNat_natCast]; exact beq_iff_eq.mpr z))
    refine r_seq (r_ifF (t_is tq (decide_eq_false hs)) (r_next ?_))
    have N := nok_of (not_bad hb) m3 (bad_nat hb)
    refine r_seq (r_new a_nil (by decide) ?_)
    refine r_seq (r_par3 (a_cons (e_var rfl) (a_cons (e_cN 1) (a_cons (e_var rfl) a_nil))) ?_)
    refine r_seq (r_while (fun k A => ∃ i, k + i = per m ∧ A = ⟨[.d (dN m), .d (dN (W m)), .own 0, .d (dN (R m i).t), .d (dN (R m i).b), .d (dN (R m i).p)], [.lst (pdl m i)]⟩) (per m) ⟨0, rfl, rfl⟩ ?_)
    rintro k A ⟨i, hk, rfl⟩
    have tw : EvT ⟨K, T, H, O⟩ _ _ _ _ := t_neN (e_var (i := 5) rfl) (e_mulN (e_cN 2) (e_var (i := 1) rfl) (f10 (by decide)) (f10 (by omega))) (C := ⟨K, T, H, O⟩) (A := ⟨[.d (dN m), .d (dN (W m)), .own 0, .d (dN (R m i).t), .d (dN (R m i).b), .d (dN (R m i).p)], [.lst (pdl m i)]⟩)
    by_cases he : i = per m
    · subst he
      refine ⟨false, _, t_is tw (by rw [decide_eq_true N.e]; rfl), (fun z => by cases z), fun _ => ?_⟩
      have ea : ansR K m (.tup [dN (W m), .tup (pdl m (per m))]) = .ok (.tup [dN (W m), .tup (pdl m (per m))]) := if_neg hb
      exact r_ret (e_tup (a_cons (e_var rfl) (a_cons (e_tupO (n := 0) rfl rfl) a_nil)) (Nat.le_of_ble_eq_true rfl)) ea
    · have S := N.s i (by omega)
      have p50 := N.p50
      refine ⟨true, _, t_is tw (by rw [decide_eq_false S.ne]; rfl), (fun _ => ?_), (fun z => by cases z)⟩
      have ll := pdl_len m i
      refine r_seq (r_ifF (t_is (t_test (e_bin (e_lenO (n := 0) rfl rfl) e_c o_I0)) (decide_eq_false (by rw [ll]; omega))) (r_next ?_))
      have t2 := S.t2
      have bs := S.bs
      have bt := S.bt
      have p4 := S.p4
      have ft : Fits (R m i).t := f10 (by omega)
      have fb : Fits (R m i).b := f10 (by omega)
      have fb' : Fits (R m (i + 1)).b := f10 (by omega)
      have fp' : Fits (R m (i + 1)).p := f10 (by omega)
      refine r_seq (r_asg (d := dN (R m (i + 1)).b) (e_divN (e_subN (e_var rfl) (e_mulN (e_var rfl) (e_var rfl) ft ft) S.tt) (e_var rfl) fb S.b0) ?_)
      refine r_seq (r_asg (d := dN (R m (i + 1)).p) (e_divN (e_addN (e_var rfl) (e_var rfl)) (e_var rfl) fb' S.b1) ?_)
      refine r_seq (r_asg (d := dN (R m (i + 1)).t) (e_subN (e_mulN (e_var rfl) (e_var rfl) fp' fb') (e_var rfl) S.tp) ?_)
      refine r_drop (e_appendE (n := 0) rfl rfl (e_var rfl) rfl rfl (by rw [ll]; omega) (pdl_next _ _)) ?_
      exact ⟨k - 1, by omega, i + 1, by omega, rfl⟩

theorem ok_root_convergents (X : Txt K mg) (F : ∃ fd, FunD K "root_convergents" "root_convergents" (defArgs s_root_convergents) (defBody s_root_convergents) (defScope s_root_convergents) [] [] (He.ga K "root_convergents") fd) (hm : mg "root_convergents" = some (.ref (He.ga K "root_convergents"))) (G_root_parts : Gd P w K mg base "root_parts" ["number"] 1 (spD K T (sp_parts K))) : Gd P w K mg base "root_convergents" ["number", "many"] 2 (spD K T (sp_conv K)) := by
  have Tx := X
  refine mkG F hm sc_root_convergents (fun _ _ _ _ _ _ us hl => match us, hl with | [_, _], _ => rfl) (fun ds r h => ?len) (fun cdv A outer s H E hr => ?body)
  case len => (obtain ⟨_, _, rfl, _⟩ := h; rfl)
  case body =>
    have sc := sc_root_convergents
    refine ⟨_, (pss_cons (ps_asg (pe_callG G_root_parts (hr.mono (by decide)) psE (pa_cons (pv 0) pa_nil)) (pg_tup rfl (pgs_cons (pg_name (i := 2) sc.nd rfl (Or.inl rfl)) (pgs_cons (pg_name (i := 3) sc.nd rfl (Or.inl rfl)) pgs_nil))))
  (pss_cons (ps_par3 (i := 4) (j := 5) (l := 6) rfl sc.nd rfl rfl rfl (by decide) (by decide) (by decide) rfl rfl rfl (pa_cons (pe_lst pa_nil) (pa_cons (pe_tup (pa_cons pe_int (pa_cons pe_int pa_nil))) (pa_cons (pe_tup (pa_cons pe_int (pa_cons pe_int pa_nil))) pa_nil))) (by rfl))
  (pss_cons (ps_for (passesE) rfl (pi_range1 rfl Tx.n_range (pa_cons (pv 1) pa_nil)) (pg_name (i := 7) sc.nd rfl (Or.inl rfl)) (pss_cons (ps_set (i := 8) sc.nd rfl (Or.inl rfl) (pe_ifExp (pt_cmpR (op_eqA hr.units) (pv 7) pe_int (nomark _)) (pv 2) (pe_ix ix_seq (pv 3) (pe_op op_modN (pe_op op_sub (pv 7) pe_int) (pe_callB call_len (by rfl) Tx.n_len (by decide +kernel) (pa_cons (pv 3) pa_nil))) (fun _ _ => rfl))))
  (pss_cons (ps_par (i := 5) (j := 6) rfl sc.nd rfl rfl (by decide) rfl rfl (pa_cons (pe_tup (pa_cons (pe_op op_addA (pe_op op_mulA (pv 8) (pe_ix ix_seq (pv 5) pe_int (fun _ _ => rfl))) (pe_ix ix_seq (pv 6) pe_int (fun _ _ => rfl))) (pa_cons (pe_op op_addA (pe_op op_mulA (pv 8) (pe_ix ix_seq (pv 5) pe_int (fun _ _ => rfl))) (pe_ix ix_seq (pv 6) pe_int (fun _ _ => rfl))) pa_nil))) (pa_cons (pv 5) pa_nil)) (by rfl))
  (pss_one (ps_expr (pe_bm PySem.F.plainAttrs_list PySem.F.slot_list_append PySem.F.type_list_append mt_append (pv 4) (pa_cons (pv 5) pa_nil)))))))
  (pss_one (ps_ret (pe_callTy call_tuple_of (by rfl) Tx.n_tuple (by decide +kernel) (pa_cons (pv 4) pa_nil))))))), fun O ds r hg => ?_⟩
    clear sc hr
    try dsimp only [cxOf]

    obtain ⟨n, q, rfl, h1, h2, hq, rfl⟩ := hg
    by_cases hb : Bad n
    · exact r_seq (x_asg (x_call (a_cons (e_var rfl) a_nil) ⟨n, rfl, h1, h2, (if_pos hb).symm⟩) (show ansR K n _ = _ from if_pos hb))
    obtain ⟨m, rfl⟩ : ∃ m : Nat, n = m := ⟨n.toNat, by have : ¬ n < 0 := fun z => hb (.inl z); omega⟩
    have m3 : m < 302 := by omega
    have N := nok_of (not_bad hb) m3 (bad_nat hb)
    have w20 := N.w20
    have p0 := N.p0
    refine r_seq (r_tg (e_call (a_cons (e_var rfl) a_nil) ⟨m, rfl, h1, h2, (if_neg hb).symm⟩) (tg_tup rfl (tgA_cons tg_name (tgA_cons tg_name tgA_nil))) ?_)
    rw [Int.toNat_natCast]
    refine r_seq (r_par3P (p_l a_nil (by decide) (p_d (d := frN (1, 0)) (e_tup (a_cons e_c (a_cons e_c a_nil)) (by decide)) (p_d (d := frN (0, 1)) (e_tup (a_cons e_c (a_cons e_c a_nil)) (by decide)) p_nil))) ?_)
    refine r_seq (r_forR (w_rng1n (c := q) (n := (q : Int)) (a_cons (e_var rfl) a_nil) (by omega) (by omega)) (fun i A => ∃ u v : SD, A = ⟨[.d (dN m), .d (dN q), .d (dN (W m)), .d (.tup (pdl m (per m))), .own 0, .d (frN (cv m i).1), .d (frN (cv m i).2), u, v], [.lst (cvl m i)]⟩) ⟨.un, .un, rfl⟩ ?_ ?_)
    · rintro i A hi ⟨u, v, rfl⟩
      refine ⟨_, tg_name, ?_⟩
      rw [show ((0 : Int) + (i : Int)) = (i : Int) by omega]
      have pl4 := part_le N i
      obtain ⟨c1, c2, c3, c4⟩ := cv_le N i
      have cf : ∀ x, x ≤ 64 ^ i → Fits x := fun x hx => by
        have : (64 : Nat) ^ i = 2 ^ (6 * i) := by rw [Nat.pow_mul]
        rw [this] at hx
        exact Nat.lt_of_le_of_lt hx (Nat.pow_lt_pow_right (by decide) (by omega))
      have pf : Fits (partAt m i) := f10 (by omega)
      refine r_seq (r_asgS (d := dN (partAt m i)) ?_ ?_)
      · by_cases hz : i = 0
        · subst hz
          exact e_ifT (t_is (t_test (e_bin (e_var rfl) e_c o_eqI)) rfl) (e_var rfl)
        · refine e_ifF (t_is (t_test (e_bin (e_var rfl) e_c o_eqI)) (decide_eq_false (by omega))) ?_
          have hm : (i - 1) % per m < per m := Nat.mod_lt _ p0
          refine e_bin (e_var rfl) (e_modN (e_subN (e_var rfl) (e_cN 1) (by omega)) (e_is (e_lenT (e_var rfl)) (congrArg (fun n : Nat => dN n) (pdl_len m (per m)))) p0) (o_ixT (at_nat ?_))
          unfold pdl partAt
          rw [List.getElem?_map, List.getElem?_range hm, if_neg hz]
          rfl
      · refine r_seq (r_par (d := frN (cv m (i + 1)).1) (d1 := frN (cv m (i + 1)).2) (a_cons (e_tup (a_cons (e_addN (e_mulN (e_var rfl) (e_bin (e_var rfl) e_c (o_ixT rfl)) pf (cf _ c1)) (e_bin (e_var rfl) e_c (o_ixT rfl))) (a_cons (e_addN (e_mulN (e_var rfl) (e_bin (e_var rfl) e_c (o_ixT rfl)) pf (cf _ c2)) (e_bin (e_var rfl) e_c (o_ixT rfl))) a_nil)) (Nat.le_of_ble_eq_true rfl)) (a_cons (e_var rfl) a_nil)) ?_)
        refine r_drop (e_appendE (n := 0) rfl rfl (e_var rfl) rfl rfl (by rw [cvl_len]; omega) (cvl_next _ _)) ?_
        exact ⟨_, _, rfl⟩
    · rintro A ⟨u, v, rfl⟩
      have ea : ansR K m (.tup (cvl m q)) = .ok (.tup (cvl m q)) := if_neg hb
      exact r_ret (e_tupO (n := 0) rfl rfl) ea

theorem ok_least_point (X : Txt K mg) (F : ∃ fd, FunD K "least_point" "least_point" (defArgs s_least_point) (defBody s_least_point) (defScope s_least_point) [] [] (He.ga K "least_point") fd) (hm : mg "least_point" = some (.ref (He.ga K "least_point"))) (G_root_parts : Gd P w K mg base "root_parts" ["number"] 1 (spD K T (sp_parts K))) (G_root_convergents : Gd P w K mg base "root_convergents" ["number", "many"] 2 (spD K T (sp_conv K))) : Gd P w K mg base "least_point" ["number"] 3 (spD K T (sp_least K)) := by
  have Tx := X
  refine mkG F hm sc_least_point (fun _ _ _ _ _ _ us hl => match us, hl with | [_], _ => rfl) (fun ds r h => ?len) (fun cdv A outer s H E hr => ?body)
  case len => (obtain ⟨_, rfl, _⟩ := h; rfl)
  case body =>
    have sc := sc_least_point
    refine ⟨_, (pss_cons (ps_set (i := 1) sc.nd rfl (Or.inl rfl) (pe_callB call_len (by rfl) Tx.n_len (by decide +kernel) (pa_cons (pe_ix ix_seq (pe_callG G_root_parts (hr.mono (by decide)) psE (pa_cons (pv 0) pa_nil)) pe_int (fun _ _ => rfl)) pa_nil)))
  (pss_one (ps_ret (pe_ix ix_seq (pe_callG G_root_convergents (hr.mono (by decide)) psE (pa_cons (pv 0) (pa_cons (pe_ifExp (pt_cmpR (op_eqA hr.units) (pe_op op_modN (pv 1) pe_int) pe_int (nomark _)) (pv 1) (pe_op op_mulA pe_int (pv 1))) pa_nil))) (pe_un un_neg pe_int) (fun _ _ => rfl))))), fun O ds r hg => ?_⟩
    clear sc hr
    try dsimp only [cxOf]

    obtain ⟨n, rfl, h1, h2, rfl⟩ := hg
    by_cases hb : Bad n
    · exact r_seq (x_asg (x_CBa (xa_1 (x_op1 (x_call (a_cons (e_var rfl) a_nil) ⟨n, rfl, h1, h2, (if_pos hb).symm⟩)))) (show ansR K n _ = _ from if_pos hb))
    obtain ⟨m, rfl⟩ : ∃ m : Nat, n = m := ⟨n.toNat, by have : ¬ n < 0 := fun z => hb (.inl z); omega⟩
    have m3 : m < 302 := by omega
    have N := nok_of (not_bad hb) m3 (bad_nat hb)
    have p0 := N.p0
    have p50 := N.p50
    refine r_seq (r_asg (d := dN (per m)) (e_is (e_lenT (e_bin (e_call (a_cons (e_var rfl) a_nil) ⟨m, rfl, h1, h2, (if_neg hb).symm⟩) e_c (o_ixT rfl))) (congrArg (fun n : Nat => dN n) (by rw [pdl_len, Int.toNat_natCast]))) ?_)
    have tp : ∀ {b : Bool}, decide (per m % 2 = 0) = b → EvT ⟨K, T, H, O⟩ _ ⟨[.d (dN m), .d (dN (per m))], []⟩ b _ := fun e => t_is (t_eqN (e_modN (e_var (i := 1) rfl) (e_cN 2) (by decide)) (e_cN 0)) e

    have last : ∀ q, 0 < q → atI (cvl m q) (-1) = some (frN (cv m q).1) := fun q hq => by
      obtain ⟨j, rfl⟩ : ∃ j, q = j + 1 := ⟨q - 1, by omega⟩
      rw [cvl_next]; exact at_last
    have ea : ansR K m (frN (lp m)) = .ok (frN (lp m)) := if_neg hb
    rw [Int.toNat_natCast]
    by_cases hp : per m % 2 = 0
    · have e : lp m = (cv m (per m)).1 := by unfold lp lpL; rw [if_pos hp]
      refine r_ret (e_bin (e_call (a_cons (e_var rfl) (a_cons (e_ifT (tp (decide_eq_true hp)) (e_var rfl)) a_nil)) ⟨m, per m, rfl, h1, h2, by omega, (if_neg hb).symm⟩) (e_U e_c) (o_ixT ?_)) ea
      rw [Int.toNat_natCast, e]
      exact last _ p0
    · have e : lp m = (cv m (2 * per m)).1 := by unfold lp lpL; rw [if_neg hp]
      refine r_ret (e_bin (e_call (a_cons (e_var rfl) (a_cons (e_ifF (tp (decide_eq_false hp)) (e_mulN (e_cN 2) (e_var rfl) (f10 (by decide)) (f10 (by omega)))) a_nil)) ⟨m, 2 * per m, rfl, h1, h2, by omega, (if_neg hb).symm⟩) (e_U e_c) (o_ixT ?_)) ea
      rw [Int.toNat_natCast, e]
      exact last _ (by omega)

theorem ok_minus_point (X : Txt K mg) (F : ∃ fd, FunD K "minus_point" "minus_point" (defArgs s_minus_point) (defBody s_minus_point) (defScope s_minus_point) [] [] (He.ga K "minus_point") fd) (hm : mg "minus_point" = some (.ref (He.ga K "minus_point"))) (G_root_parts : Gd P w K mg base "root_parts" ["number"] 1 (spD K T (sp_parts K))) (G_root_convergents : Gd P w K mg base "root_convergents" ["number", "many"] 2 (spD K T (sp_conv K))) : Gd P w K mg base "minus_point" ["number"] 3 (spD K T (sp_minus K)) := by
  have Tx := X
  refine mkG F hm sc_minus_point (fun _ _ _ _ _ _ us hl => match us, hl with | [_], _ => rfl) (fun ds r h => ?len) (fun cdv A outer s H E hr => ?body)
  case len => (obtain ⟨_, rfl, _⟩ := h; rfl)
  case body =>
    have sc := sc_minus_point
    refine ⟨_, (pss_cons (ps_set (i := 1) sc.nd rfl (Or.inl rfl) (pe_callB call_len (by rfl) Tx.n_len (by decide +kernel) (pa_cons (pe_ix ix_seq (pe_callG G_root_parts (hr.mono (by decide)) psE (pa_cons (pv 0) pa_nil)) pe_int (fun _ _ => rfl)) pa_nil)))
  (pss_one (ps_ret (pe_ifExp (pt_cmpR (op_eqA hr.units) (pe_op op_modN (pv 1) pe_int) pe_int (nomark _)) pe_non (pe_ix ix_seq (pe_callG G_root_convergents (hr.mono (by decide)) psE (pa_cons (pv 0) (pa_cons (pv 1) pa_nil))) (pe_un un_neg pe_int) (fun _ _ => rfl)))))), fun O ds r hg => ?_⟩
    clear sc hr
    try dsimp only [cxOf]

    obtain ⟨n, rfl, h1, h2, rfl⟩ := hg
    by_cases hb : Bad n
    · exact r_seq (x_asg (x_CBa (xa_1 (x_op1 (x_call (a_cons (e_var rfl) a_nil) ⟨n, rfl, h1, h2, (if_pos hb).symm⟩)))) (show ansR K n _ = _ from if_pos hb))
    obtain ⟨m, rfl⟩ : ∃ m : Nat, n = m := ⟨n.toNat, by have : ¬ n < 0 := fun z => hb (.inl z); omega⟩
    have m3 : m < 302 := by omega
    have N := nok_of (not_bad hb) m3 (bad_nat hb)
    have p0 := N.p0
    have p50 := N.p50
    refine r_seq (r_asg (d := dN (per m)) (e_is (e_lenT (e_bin (e_call (a_cons (e_var rfl) a_nil) ⟨m, rfl, h1, h2, (if_neg hb).symm⟩) e_c (o_ixT rfl))) (congrArg (fun n : Nat => dN n) (by rw [pdl_len, Int.toNat_natCast]))) ?_)
    have tp : ∀ {b : Bool}, decide (per m % 2 = 0) = b → EvT ⟨K, T, H, O⟩ _ ⟨[.d (dN m), .d (dN (per m))], []⟩ b _ := fun e => t_is (t_eqN (e_modN (e_var (i := 1) rfl) (e_cN 2) (by decide)) (e_cN 0)) e

    have last : ∀ q, 0 < q → atI (cvl m q) (-1) = some (frN (cv m q).1) := fun q hq => by
      obtain ⟨j, rfl⟩ : ∃ j, q = j + 1 := ⟨q - 1, by omega⟩
      rw [cvl_next]; exact at_last
    rw [Int.toNat_natCast]
    by_cases hp : per m % 2 = 0
    · have ea : ansR K m (if per m % 2 = 0 then dn else frN (mp m)) = .ok dn := by rw [if_pos hp]; exact if_neg hb
      exact r_ret (e_ifT (tp (decide_eq_true hp)) e_c) ea
    · have ea : ansR K m (if per m % 2 = 0 then dn else frN (mp m)) = .ok (frN (mp m)) := by rw [if_neg hp]; exact if_neg hb
      refine r_ret (e_ifF (tp (decide_eq_false hp)) (e_bin (e_call (a_cons (e_var rfl) (a_cons (e_var rfl) a_nil)) ⟨m, per m, rfl, h1, h2, by omega, (if_neg hb).symm⟩) (e_U e_c) (o_ixT ?_))) ea
      rw [Int.toNat_natCast]
      exact last _ p0

theorem ok_points (X : Txt K mg) (F : ∃ fd, FunD K "points" "points" (defArgs s_points) (defBody s_points) (defScope s_points) [] [] (He.ga K "points") fd) (hm : mg "points" = some (.ref (He.ga K "points"))) (G_least_point : Gd P w K mg base "least_point" ["number"] 3 (spD K T (sp_least K))) : Gd P w K mg base "points" ["number", "many"] 4 (spD K T (sp_points K)) := by
  have Tx := X
  refine mkG F hm sc_points (fun _ _ _ _ _ _ us hl => match us, hl with | [_, _], _ => rfl) (fun ds r h => ?len) (fun cdv A outer s H E hr => ?body)
  case len => (obtain ⟨_, _, rfl, _⟩ := h; rfl)
  case body =>
    have sc := sc_points
    refine ⟨_, (pss_cons (ps_asg (pe_callG G_least_point (hr.mono (by decide)) psE (pa_cons (pv 0) pa_nil)) (pg_tup rfl (pgs_cons (pg_name (i := 2) sc.nd rfl (Or.inl rfl)) (pgs_cons (pg_name (i := 3) sc.nd rfl (Or.inl rfl)) pgs_nil))))
  (pss_cons (ps_par (i := 4) (j := 5) rfl sc.nd rfl rfl (by decide) rfl rfl (pa_cons (pe_lst pa_nil) (pa_cons (pe_tup (pa_cons pe_int (pa_cons pe_int pa_nil))) pa_nil)) (by rfl))
  (pss_cons (ps_for (passesE) rfl (pi_range1 rfl Tx.n_range (pa_cons (pv 1) pa_nil)) (pg_name (i := 6) sc.nd rfl (Or.inl rfl)) (pss_cons (ps_set (i := 5) sc.nd rfl (Or.inl rfl) (pe_tup (pa_cons (pe_op op_addA (pe_op op_mulA (pe_ix ix_seq (pv 5) pe_int (fun _ _ => rfl)) (pv 2)) (pe_op op_mulA (pe_op op_mulA (pv 0) (pe_ix ix_seq (pv 5) pe_int (fun _ _ => rfl))) (pv 3))) (pa_cons (pe_op op_addA (pe_op op_mulA (pe_ix ix_seq (pv 5) pe_int (fun _ _ => rfl)) (pv 3)) (pe_op op_mulA (pe_ix ix_seq (pv 5) pe_int (fun _ _ => rfl)) (pv 2))) pa_nil))))
  (pss_one (ps_expr (pe_bm PySem.F.plainAttrs_list PySem.F.slot_list_append PySem.F.type_list_append mt_append (pv 4) (pa_cons (pv 5) pa_nil))))))
  (pss_one (ps_ret (pe_callTy call_tuple_of (by rfl) Tx.n_tuple (by decide +kernel) (pa_cons (pv 4) pa_nil))))))), fun O ds r hg => ?_⟩
    clear sc hr
    try dsimp only [cxOf]

    obtain ⟨n, q, rfl, h1, h2, hq, rfl⟩ := hg
    by_cases hb : Bad n
    · exact r_seq (x_asg (x_call (a_cons (e_var rfl) a_nil) ⟨n, rfl, h1, h2, (if_pos hb).symm⟩) (show ansR K n _ = _ from if_pos hb))
    obtain ⟨m, rfl⟩ : ∃ m : Nat, n = m := ⟨n.toNat, by have : ¬ n < 0 := fun z => hb (.inl z); omega⟩
    have m3 : m < 302 := by omega
    have N := nok_of (not_bad hb) m3 (bad_nat hb)
    refine r_seq (r_tg (e_call (a_cons (e_var rfl) a_nil) ⟨m, rfl, h1, h2, (if_neg hb).symm⟩) (tg_tup rfl (tgA_cons tg_name (tgA_cons tg_name tgA_nil))) ?_)
    rw [Int.toNat_natCast]
    have sz := lp_le N
    refine r_seq (r_parP (p_l a_nil (by decide) (p_d (d := frN (1, 0)) (e_tup (a_cons e_c (a_cons e_c a_nil)) (by decide)) p_nil)) ?_)
    refine r_seq (r_forR (w_rng1n (c := q) (n := (q : Int)) (a_cons (e_var rfl) a_nil) (by omega) (by omega)) (fun i A => ∃ u : SD, A = ⟨[.d (dN m), .d (dN q), .d (dN (lp m).1), .d (dN (lp m).2), .own 0, .d (frN (pt m (lp m).1 (lp m).2 i)), u], [.lst (ptl m i)]⟩) ⟨.un, rfl⟩ ?_ ?_)
    · rintro i A hi ⟨u, rfl⟩
      refine ⟨_, tg_name, ?_⟩
      obtain ⟨s1, s2⟩ := pt_le N (by omega) i (by omega)
      have fx : Fits (lp m).1 := fits_of 601 (Nat.lt_of_le_of_lt sz.1 (Nat.pow_lt_pow_right (by decide) (by decide))) (by decide)
      have fy : Fits (lp m).2 := fits_of 601 (Nat.lt_of_le_of_lt sz.2 (Nat.pow_lt_pow_right (by decide) (by decide))) (by decide)
      have fm : Fits m := f10 (by omega)
      have pw : ∀ k, k ≤ 5000 → (2 : Nat) ^ k ≤ 2 ^ k := fun k _ => Nat.le_refl _
      have fp : Fits (pt m (lp m).1 (lp m).2 i).1 := Nat.lt_of_le_of_lt s1 (Nat.pow_lt_pow_right (by decide) (by omega))
      have fq : Fits (pt m (lp m).1 (lp m).2 i).2 := Nat.lt_of_le_of_lt s2 (Nat.pow_lt_pow_right (by decide) (by omega))
      have fmq : PMul ((m * (pt m (lp m).1 (lp m).2 i).2 : Nat) : Int) (((lp m).2 : Nat) : Int) := mulX 8000 4000 (by
        rw [Int.natAbs_natCast]
        have := Nat.mul_lt_mul_of_lt_of_le fm (Nat.le_of_lt fq) (Nat.pow_pos (by decide))
        rw [← Nat.pow_add] at this
        exact this) (by rw [Int.natAbs_natCast]; exact fy)
      refine r_seq (r_asg (d := frN (pt m (lp m).1 (lp m).2 (i + 1))) (e_tup (a_cons (e_addN (e_mulN (e_bin (e_var rfl) e_c (o_ixT rfl)) (e_var rfl) fp fx) (e_is (e_bin (e_mulN (e_var rfl) (e_bin (e_var rfl) e_c (o_ixT rfl)) fm fq) (e_var rfl) (o_mul fmq)) (congrArg di (Int.natCast_mul _ _).symm))) (a_cons (e_addN (e_mulN (e_bin (e_var rfl) e_c (o_ixT rfl)) (e_var rfl) fp fy) (e_mulN (e_bin (e_var rfl) e_c (o_ixT rfl)) (e_var rfl) fq fx)) a_nil)) (Nat.le_of_ble_eq_true rfl)) ?_)
      refine r_drop (e_appendE (n := 0) rfl rfl (e_var rfl) rfl rfl (by rw [ptl_len]; omega) (ptl_next _ _)) ?_
      exact ⟨_, rfl⟩
    · rintro A ⟨u, rfl⟩
      have ea : ansR K m (.tup (ptl m q)) = .ok (.tup (ptl m q)) := if_neg hb
      exact r_ret (e_tupO (n := 0) rfl rfl) ea

end
end Law
end

section
set_option Elab.async false
set_option linter.all false
set_option maxRecDepth 100000
set_option maxHeartbeats 4000000
set_option autoImplicit false
set_option exponentiation.threshold 300
namespace Law
open PySem PySem.Spec PyProof.Rows L2 Py Sq

local macro_rules | `(tactic| wtm_at "op") => `(tactic| first
  | with_reducible exact o_I0 | with_reducible exact o_add | with_reducible exact o_eqI | with_reducible exact o_neI
  | ((with_reducible apply o_mul); first | assumption | wtm_at "si")
  | ((with_reducible apply o_I); first | assumption | wtm_at "si")
  | ((with_reducible apply o_ixT); rfl) | ((with_reducible apply o_ixL); rfl)
  | ((with_reducible apply o_eqD) <;> first | rfl | decide | assumption) | ((with_reducible apply o_neD) <;> first | rfl | decide | assumption)
  | with_reducible assumption)
local macro_rules | `(tactic| wtm_at "si") => `(tactic| first | decide | exact ⟨by decide, by decide +kernel⟩ | omega)
local macro_rules | `(tactic| wtm_at "ev") => `(tactic| first
  | ((with_reducible apply e_var); rfl) | with_reducible exact e_c | with_reducible exact a_nil
  | ((with_reducible apply a_cons) <;> wtm_at "ev")
  | ((with_reducible apply e_bin) <;> first | wtm_at "ev" | wtm_at "op")
  | ((with_reducible apply e_ixO) <;> first | rfl | wtm_at "ev")
  | ((with_reducible apply e_U) <;> wtm_at "ev")
  | ((with_reducible apply t_test) <;> wtm_at "ev")
  | ((with_reducible apply t_B) <;> wtm_at "ev")
  | ((with_reducible apply t_not) <;> wtm_at "ev")
  | ((with_reducible apply e_tup) <;> first | wtm_at "ev" | exact Nat.le_of_ble_eq_true rfl)
  | ((with_reducible apply e_lst) <;> first | wtm_at "ev" | exact Nat.le_of_ble_eq_true rfl)
  | ((with_reducible apply e_gcd) <;> wtm_at "ev")
  | ((with_reducible apply e_abs) <;> wtm_at "ev")
  | ((with_reducible apply e_max2) <;> wtm_at "ev")
  | ((with_reducible apply e_int) <;> wtm_at "ev")
  | ((with_reducible apply e_intB) <;> wtm_at "ev")
  | ((with_reducible apply e_bits) <;> wtm_at "ev")
  | ((with_reducible apply e_not) <;> wtm_at "ev")
  | with_reducible assumption)

section
variable {P : Program} {w : World} {K : Frg} {T : List (Addr × Str)} {mg : Str → Option Value} {base : Heap}

abbrev s__law_dice : Stmt := top 13
theorem sc__law_dice : FnScope ["cell"] ["cell"] (defScope s__law_dice) := ⟨rfl, rfl, rfl, by decide +kernel, rfl, by decide +kernel, by decide +kernel⟩
abbrev s__law_roll : Stmt := top 14
theorem sc__law_roll : FnScope ["dice", "many", "found"] ["dice", "many"] (defScope s__law_roll) := ⟨rfl, rfl, rfl, by decide +kernel, rfl, by decide +kernel, by decide +kernel⟩
abbrev s__law_rounds : Stmt := top 15
theorem sc__law_rounds : FnScope ["script", "most", "cells", "cell"] ["script", "most"] (defScope s__law_rounds) := ⟨rfl, rfl, rfl, by decide +kernel, rfl, by decide +kernel, by decide +kernel⟩
theorem ok_law_dice (X : Txt K mg) (F : ∃ fd, FunD K "_law_dice" "_law_dice" (defArgs s__law_dice) (defBody s__law_dice) (defScope s__law_dice) [] [] (He.ga K "_law_dice") fd) (hm : mg "_law_dice" = some (.ref (He.ga K "_law_dice"))) : Gd P w K mg base "_law_dice" ["cell"] 1 (spDice K T) := by
  have Tx := X
  obtain ⟨fd, F⟩ := F
  have hb := F.bindsN (ps := ["cell"]) fun _ _ _ _ _ _ us hl => match us, hl with | [_], _ => rfl
  refine ⟨_, fd, F.ok sc__law_dice (fun vs H Q E h => ?len) (fun cdv A outer s H vs Q E hr h => ?body), hb, F.kp, hm⟩
  case len => (obtain ⟨c, rfl, _⟩ := h; rfl)
  case body =>
    have sc := sc__law_dice
    refine ⟨_, (pss_cons (ps_if (pt_chain op_lt op_lt (pe_op op_sub pe_int pe_int) (pv 0) pe_int) (pss_one (ps_ret (pe_lst (pa_cons (pe_callB call_abs (by rfl) Tx.n_abs (by decide +kernel) (pa_cons (pv 0) pa_nil)) (pa_cons pe_int (pa_cons pe_int pa_nil)))))) pss_nil)
  (pss_one (ps_ret (pe_lst (pa_cons (pv 0) (pa_cons (pe_op op_addA pe_int (pe_op op_modN (pe_callTy call_int1 (by rfl) Tx.n_int (by decide +kernel) (pa_cons (pv 0) pa_nil)) pe_int)) (pa_cons (pe_callTy call_int1 (by rfl) Tx.n_int (by decide +kernel) (pa_cons (pe_cmpR op_ge (pv 0) (pe_op op_pow pe_int pe_int) (nomark _)) pa_nil)) pa_nil))))))), ?_⟩
    clear sc hr
    try dsimp only [cxOf]

    obtain ⟨c, rfl, hz, ht, q⟩ := h
    have k := start_flat (K := K) (N := ["cell"]) (vs := [.int c]) ht
    have lt : ∀ {x y : Int} {b : Bool}, decide (x < y) = b → OpS ⟨K, T, H, []⟩ (rI0 fun i j => .bl (decide (i < j))) (di x) (di y) (db b) := fun e => o_is o_I0 (by rw [e])
    have no : ¬ (-10 < c ∧ c < 10) → mkDice c = ⟨c, 1 + c.fmod 1009, if 10 ^ 18 ≤ c then 1 else 0⟩ := fun h => if_neg h
    by_cases h1 : (0 : Int) - 10 < c
    · by_cases h2 : c < 10
      · refine t_test (e_chainT (by wtm_at "ev") (by wtm_at "ev") (lt (decide_eq_true h1)) (by wtm_at "ev") (lt (decide_eq_true h2))) [] _ H k _ fun os1 H1 k1 g1 => ?_
        rw [if_pos rfl]
        refine ret_newL (xs := [.int (if c < 0 then -c else c), .int 0, .int 2]) k1 (by wtm_at "ev") (Nat.le_of_ble_eq_true rfl) (by rfl) rfl fun a H' f e t hl => q a H' f e t ?_
        have em : mkDice c = ⟨c.natAbs, 0, 2⟩ := if_pos ⟨by omega, h2⟩
        rw [hl, em]
        have ea : (if c < 0 then -c else c) = (c.natAbs : Int) := by split <;> omega
        rw [ea]
        rfl
      · refine t_test (e_chainT (by wtm_at "ev") (by wtm_at "ev") (lt (decide_eq_true h1)) (by wtm_at "ev") (lt (decide_eq_false h2))) [] _ H k _ fun os1 H1 k1 g1 => ?_
        rw [if_neg (by decide)]
        dsimp only [tNext]
        refine ret_newL (xs := [.int c, .int (1 + c.fmod 1009), .int (if decide ((10 : Int) ^ (18 : Int).toNat ≤ c) = true then 1 else 0)]) k1 (by wtm_at "ev") (Nat.le_of_ble_eq_true rfl) (by rfl) rfl fun a H' f e t hl => q a H' f e t ?_
        rw [hl, no (by omega)]
        show some (HO.lst [V.int c, V.int (1 + c.fmod 1009), V.int (if decide ((10 : Int) ^ 18 ≤ c) = true then 1 else 0)]) = _
        simp [Dice.vs]
    · refine t_test (e_chainF (by wtm_at "ev") (by wtm_at "ev") (lt (decide_eq_false h1))) [] _ H k _ fun os1 H1 k1 g1 => ?_
      rw [if_neg (by decide)]
      dsimp only [tNext]
      refine ret_newL (xs := [.int c, .int (1 + c.fmod 1009), .int (if decide ((10 : Int) ^ (18 : Int).toNat ≤ c) = true then 1 else 0)]) k1 (by wtm_at "ev") (Nat.le_of_ble_eq_true rfl) (by rfl) rfl fun a H' f e t hl => q a H' f e t ?_
      rw [hl, no (by omega)]
      show some (HO.lst [V.int c, V.int (1 + c.fmod 1009), V.int (if decide ((10 : Int) ^ 18 ≤ c) = true then 1 else 0)]) = _
      simp [Dice.vs]

theorem ok_law_roll (X : Txt K mg) (F : ∃ fd, FunD K "_law_roll" "_law_roll" (defArgs s__law_roll) (defBody s__law_roll) (defScope s__law_roll) [] [] (He.ga K "_law_roll") fd) (hm : mg "_law_roll" = some (.ref (He.ga K "_law_roll"))) : Gd P w K mg base "_law_roll" ["dice", "many"] 1 (spRoll K T) := by
  have Tx := X
  obtain ⟨fd, F⟩ := F
  have hb := F.bindsN (ps := ["dice", "many"]) fun _ _ _ _ _ _ us hl => match us, hl with | [_, _], _ => rfl
  refine ⟨_, fd, F.ok sc__law_roll (fun vs H Q E h => ?len) (fun cdv A outer s H vs Q E hr h => ?body), hb, F.kp, hm⟩
  case len => (obtain ⟨a, d, m, c, rfl, _⟩ := h; rfl)
  case body =>
    have sc := sc__law_roll
    refine ⟨_, (pss_cons (ps_if (PW.pt (pw_or (pt_cmpR (op_eqA hr.units) (pe_ix ix_seq (pv 0) pe_int (fun _ _ => rfl)) pe_int (nomark _)) (pw_or1 (PW.pt (pw_and (pt_cmpR (op_eqA hr.units) (pe_ix ix_seq (pv 0) pe_int (fun _ _ => rfl)) pe_int (nomark _)) (pw_and1 (pt_cmpR op_gt (pe_ix ix_seq (pv 0) pe_int (fun _ _ => rfl)) pe_int (nomark _)))))))) (pss_cons (ps_set (i := 2) sc.nd rfl (Or.inl rfl) (pe_op op_modN (pe_callTy call_int1 (by rfl) Tx.n_int (by decide +kernel) (pa_cons (pe_ix ix_seq (pv 0) pe_int (fun _ _ => rfl)) pa_nil)) (pv 1)))
  (pss_cons (ps_asg (pe_op op_fdivX (pe_ix ix_seq (pv 0) pe_int (fun _ _ => rfl)) (pv 1)) (pg_sub (pv 0) pe_int set_list))
  (pss_one (ps_ret (pv 2))))) pss_nil)
  (pss_cons (ps_asg pe_int (pg_sub (pv 0) pe_int set_list))
  (pss_cons (ps_asg (pe_op op_modN (pe_callTy call_int1 (by rfl) Tx.n_int (by decide +kernel) (pa_cons (pe_op op_addA (pe_op op_addA (pe_op op_mulA (pe_ix ix_seq (pv 0) pe_int (fun _ _ => rfl)) pe_int) (pe_op op_mulA (pe_ix ix_seq (pv 0) pe_int (fun _ _ => rfl)) pe_int)) pe_int) pa_nil)) pe_int) (pg_sub (pv 0) pe_int set_list))
  (pss_cons (ps_asg (pe_op op_addA (pe_ix ix_seq (pv 0) pe_int (fun _ _ => rfl)) pe_int) (pg_sub (pv 0) pe_int set_list))
  (pss_one (ps_ret (pe_op op_modN (pe_callTy call_int1 (by rfl) Tx.n_int (by decide +kernel) (pa_cons (pe_op op_fdivX (pe_ix ix_seq (pv 0) pe_int (fun _ _ => rfl)) pe_int) pa_nil)) (pv 1)))))))), ?_⟩
    clear sc hr
    try dsimp only [cxOf]

    obtain ⟨a, d, m, c, rfl, ha, hk, hc, h0, hs, ht, q⟩ := h
    have k := start_own (K := K) (N := ["dice", "many", "found"]) (ws := [.int m]) ht ha
    have hm0 : m ≠ 0 := by omega
    have dv : PDiv d.x m := divX 8000 hs hm0
    have m1 : PMul d.x 48271 := mulX 2000000 20 hk.x (by decide)
    have m2 : PMul d.y 69621 := mulX 30 20 (Nat.lt_of_le_of_lt hk.y (by omega)) (by decide)
    suffices R : RunS ⟨K, T, _, []⟩ E _ _ { rt := fun r A => r = di (rollV d m) ∧ A.sl[0]? = some (.own 0) ∧ A.st = [.lst (rollD d m).ds] } from
      R [some a] _ H _ k ⟨fun _ _ _ _ z => z.elim, fun os A σ r v H' ⟨h1, h2, h3⟩ k' g' i' => by
        have o0 := g'.p 0 (some a) rfl
        obtain ⟨o, s1, a3, vs, s2, s3, s4⟩ := k'.store (i := 0) (s := .lst (rollD d m).ds) (by rw [h3]; rfl)
        rw [o0] at s1; cases s1; cases s2
        rw [vs_of s4] at s3
        subst h1
        rw [Is.v_iff.mp i']
        refine q H' (fun b o hb e n => k'.ex b o ?_ n) k'.tb s3
        show (if b = a then none else H b) = some o
        rw [if_neg hb]
        exact e, fun _ _ _ _ z => z.elim, fun _ _ _ _ z => z.elim, fun _ _ z => z.elim⟩
    have dz : ∀ z : Int, EvS ⟨K, T, (fun b => if b = a then none else H b), []⟩ (tOp (rEqA K) (tOp (rIx K) (tVar 0) (tC (.int 2))) (tC (.int z))) ⟨[.own 0, .d (di m), .un], [.lst d.ds]⟩ (db (decide (d.z = z))) ⟨[.own 0, .d (di m), .un], [.lst d.ds]⟩ := fun z => by wtm_at "ev"
    have dx : EvS ⟨K, T, (fun b => if b = a then none else H b), []⟩ (tOp (rI0 fun i j => .bl (decide (j < i))) (tOp (rIx K) (tVar 0) (tC (.int 0))) (tC (.int 0))) ⟨[.own 0, .d (di m), .un], [.lst d.ds]⟩ (db (decide (0 < d.x))) ⟨[.own 0, .d (di m), .un], [.lst d.ds]⟩ := by wtm_at "ev"
    by_cases hz : d.z = 2 ∨ (d.z = 1 ∧ 0 < d.x)
    · have eV : rollV d m = d.x.fmod m := if_pos hz
      have eD : rollD d m = ⟨d.x.fdiv m, d.y, d.z⟩ := if_pos hz
      refine r_seq (r_ifTs ?tt ?_)
      case tt =>
        by_cases z2 : d.z = 2
        · exact t_orT (t_is (t_test (dz 2)) (decide_eq_true z2))
        · exact t_orF (t_is (t_test (dz 2)) (decide_eq_false z2)) (t_andT (t_is (t_test (dz 1)) (decide_eq_true (hz.resolve_left z2).1)) (t_is (t_test dx) (decide_eq_true (hz.resolve_left z2).2)))
      refine r_seq (r_asg (by wtm_at "ev") ?_)
      refine r_seq (r_setO (by wtm_at "ev") rfl rfl rfl ?_)
      refine r_ret (by wtm_at "ev") ⟨by rw [eV], rfl, by rw [eD]; rfl⟩
    · have eV : rollV d m = (((d.x * 48271 + d.y * 69621 + 11).fmod 2147483647).fdiv 7).fmod m := if_neg hz
      have eD : rollD d m = ⟨(d.x * 48271 + d.y * 69621 + 11).fmod 2147483647, d.y + 1, 0⟩ := if_neg hz
      refine r_seq (r_ifFs ?tt (r_next ?_))
      case tt =>
        refine t_orF (t_is (t_test (dz 2)) (decide_eq_false fun z => hz (.inl z))) ?_
        by_cases z1 : d.z = 1
        · exact t_andT (t_is (t_test (dz 1)) (decide_eq_true z1)) (t_is (t_test dx) (decide_eq_false fun z => hz (.inr ⟨z1, z⟩)))
        · exact t_andF (t_is (t_test (dz 1)) (decide_eq_false z1))
      refine r_seq (r_setO (by wtm_at "ev") rfl rfl rfl ?_)
      refine r_seq (r_setO (by wtm_at "ev") rfl rfl rfl ?_)
      refine r_seq (r_setO (by wtm_at "ev") rfl rfl rfl ?_)
      refine r_ret (by wtm_at "ev") ⟨by rw [eV], rfl, by rw [eD]; rfl⟩

theorem ok_law_rounds (X : Txt K mg) (F : ∃ fd, FunD K "_law_rounds" "_law_rounds" (defArgs s__law_rounds) (defBody s__law_rounds) (defScope s__law_rounds) [] [] (He.ga K "_law_rounds") fd) (hm : mg "_law_rounds" = some (.ref (He.ga K "_law_rounds"))) (G__law_dice : Gd P w K mg base "_law_dice" ["cell"] 1 (spDice K T)) : Gd P w K mg base "_law_rounds" ["script", "most"] 2 (spRounds K T) := by
  have Tx := X
  obtain ⟨fd, F⟩ := F
  have hb := F.bindsN (ps := ["script", "most"]) fun _ _ _ _ _ _ us hl => match us, hl with | [_, _], _ => rfl
  refine ⟨_, fd, F.ok sc__law_rounds (fun vs H Q E h => ?len) (fun cdv A outer s H vs Q E hr h => ?body), hb, F.kp, hm⟩
  case len => (obtain ⟨s, ns, rfl, _⟩ := h; rfl)
  case body =>
    have sc := sc__law_rounds
    refine ⟨_, (pss_cons (ps_set (i := 2) sc.nd rfl (Or.inl rfl) (pe_slice sl_list (pv 0) po_none (po_some (pv 1))))
  (pss_cons (ps_if (pt_cmpR (op_eqA hr.units) (pv 2) (pe_lst pa_nil) (nomark _)) (pss_one (ps_set (i := 2) sc.nd rfl (Or.inl rfl) (pe_lst (pa_cons pe_int pa_nil)))) pss_nil)
  (pss_one (ps_ret (pe_lc (own := [("cell", 3)]) rfl sc.nd (pi_list (pv 2)) (blkOk_by (own := [("cell", 3)]) (N := ["script", "most", "cells", "cell"]) (sc := defScope s__law_rounds) (by decide +kernel)) (fun _ _ _ _ _ => (pg_name (i := 3) sc.nd rfl (Or.inl rfl))) (fun _ _ _ _ _ => pts_nil) (fun _ _ _ _ _ => (pe_callG G__law_dice (hr.mono (by decide)) passL (pa_cons (pv 3) pa_nil)))))))), ?_⟩
    clear sc hr
    try dsimp only [cxOf]

    obtain ⟨s, ns, rfl, hq, hl, hz, ht, q⟩ := h
    have i1 : IsA K H [.lst (ns.map di), di 1] [.ref s, .int 1] := isA_cons (by rw [Is]; exact ⟨s, _, rfl, hq, (by rw [show ns.map di = (ns.map V.int).map Dt.v by rw [List.map_map]; rfl]; exact flat_isA)⟩) (isA_cons is_v isA_nil)
    have k := start_ok (K := K) (T := T) (N := ["script", "most", "cells", "cell"]) (H := H) (O := []) (fun a h => by cases h) ht i1
    have hc : Sz 1048576 (ns.headD 0) := by
      cases ns with
      | nil => exact Nat.pow_pos (by decide)
      | cons a r => exact hz a (List.mem_cons_self ..)
    have cut : cutL (ns.map di) none (some 1) = (ns.take 1).map di := by
      cases ns with
      | nil => rfl
      | cons a r => simp [cutL, HT.sIx]
    have R : RunS ⟨K, T, H, []⟩ E (tSeq (tAsg (tSl (rSlL K) (tVar 0) tNoPart (tPart (tVar 1))) (gName 2)) (tSeq (tIfS (tTest (tOp (rEqA K) (tVar 2) (tLst tNil))) (tAsg (tLst (tCons (tC (.int 0)) tNil)) (gName 2)) tNext) tNext)) ⟨[.d (.lst (ns.map di)), .d (di 1), .un, .un], []⟩ { nx := fun A => A = ⟨[.d (.lst (ns.map di)), .d (di 1), .d (.lst [di (ns.headD 0)]), .un], []⟩ } := by
      refine r_seq (r_asg (e_slL (by wtm_at "ev") o_no (o_part (by wtm_at "ev"))) ?_)
      rw [cut]
      cases ns with
      | nil =>
        refine r_seq (r_ifTs (t_is (t_test (by wtm_at "ev")) (by rfl)) ?_)
        refine r_asg (by wtm_at "ev") (r_next ?_)
        rfl
      | cons a r =>
        refine r_seq (r_ifFs (t_is (t_test (by wtm_at "ev")) (by rfl)) (r_next (r_next ?_)))
        rfl
    refine seq_last (R [] _ H _ k ⟨fun os A σ H1 hA k1 g1 => ?_, fun _ _ _ _ _ _ z => z.elim, fun _ _ _ _ z => z.elim, fun _ _ _ _ z => z.elim, fun _ _ z => z.elim⟩)
    subst hA
    exact ret_dice (i := 2) (j := 3) k1 rfl hc (by decide) (by rw [k1.sn]; exact Nat.le_of_ble_eq_true rfl) rfl q

end
end Law
end

section
set_option Elab.async false
set_option linter.all false
set_option maxRecDepth 100000
set_option maxHeartbeats 4000000
set_option autoImplicit false
set_option exponentiation.threshold 300
namespace Law
open PySem PySem.Spec PyProof.Rows L2 Py Sq

local macro_rules | `(tactic| wtm_at "op") => `(tactic| first
  | with_reducible exact o_I0 | with_reducible exact o_add | with_reducible exact o_eqI | with_reducible exact o_neI
  | ((with_reducible apply o_mul); first | assumption | wtm_at "si")
  | ((with_reducible apply o_I); first | assumption | wtm_at "si")
  | ((with_reducible apply o_ixT); rfl) | ((with_reducible apply o_ixL); rfl)
  | ((with_reducible apply o_eqD) <;> first | rfl | decide | assumption) | ((with_reducible apply o_neD) <;> first | rfl | decide | assumption)
  | with_reducible assumption)
local macro_rules | `(tactic| wtm_at "si") => `(tactic| first | decide | exact ⟨by decide, by decide +kernel⟩ | omega)
local macro_rules | `(tactic| wtm_at "ev") => `(tactic| first
  | ((with_reducible apply e_var); rfl) | with_reducible exact e_c | with_reducible exact a_nil
  | ((with_reducible apply a_cons) <;> wtm_at "ev")
  | ((with_reducible apply e_bin) <;> first | wtm_at "ev" | wtm_at "op")
  | ((with_reducible apply e_ixO) <;> first | rfl | wtm_at "ev")
  | ((with_reducible apply e_U) <;> wtm_at "ev")
  | ((with_reducible apply t_test) <;> wtm_at "ev")
  | ((with_reducible apply t_B) <;> wtm_at "ev")
  | ((with_reducible apply t_not) <;> wtm_at "ev")
  | ((with_reducible apply e_tup) <;> first | wtm_at "ev" | exact Nat.le_of_ble_eq_true rfl)
  | ((with_reducible apply e_lst) <;> first | wtm_at "ev" | exact Nat.le_of_ble_eq_true rfl)
  | ((with_reducible apply e_gcd) <;> wtm_at "ev")
  | ((with_reducible apply e_abs) <;> wtm_at "ev")
  | ((with_reducible apply e_max2) <;> wtm_at "ev")
  | ((with_reducible apply e_int) <;> wtm_at "ev")
  | ((with_reducible apply e_intB) <;> wtm_at "ev")
  | ((with_reducible apply e_bits) <;> wtm_at "ev")
  | ((with_reducible apply e_not) <;> wtm_at "ev")
  | with_reducible assumption)

section
variable {P : Program} {w : World} {K : Frg} {T : List (Addr × Str)} {mg : Str → Option Value} {base : Heap}

theorem nice_p (p : Nat × Nat) : Nice 1 (frN p) (.tuple [.int p.1, .int p.2]) := .tup (.cons .int (.cons .int .nil))
def pyN (p : Nat × Nat) : PyData := .tuple [.int p.1, .int p.2]
theorem eqv_p (p r : Nat × Nat) : PyData.eqv (pyN p) (pyN r) = decide (p = r) := by
  rw [pyN, pyN, PyData.eqv, PyData.eqvAll, PyData.eqvAll, PyData.eqvAll, PyData.eqv, PyData.eqv, Bool.and_true]
  by_cases h : p = r
  · subst h
    simp
  · rw [decide_eq_false h]
    by_cases h1 : p.1 = r.1
    · have h2 : p.2 ≠ r.2 := fun z => h (Prod.ext h1 z)
      simp [h1]; omega
    · simp; omega
/-- what the law's own going on has seen -/
def seenL (n i : Nat) : List (Nat × Nat) := (List.range i).map fun j => ((R n j).t, (R n (j + 1)).b)
theorem seen_next (n i : Nat) : (seenL n (i + 1)).map frN = (seenL n i).map frN ++ [frN ((R n i).t, (R n (i + 1)).b)] := by simp [seenL, List.range_succ]
theorem seen_any (n i : Nat) (p : Nat × Nat) : ((seenL n i).map pyN).any (fun z => PyData.eqv z (pyN p)) = decide (p ∈ seenL n i) := by
  rw [List.any_map]
  induction seenL n i with
  | nil => rfl
  | cons a r ih =>
    rw [List.any_cons, ih]
    simp only [Function.comp, eqv_p]
    by_cases h : a = p
    · simp [h]
    · have : ¬ p = a := fun z => h z.symm
      simp [h, this]
theorem seen_no {n : Nat} (N : Nok n) {i : Nat} (hi : i < per n) : ((R n i).t, (R n (i + 1)).b) ∉ seenL n i := fun h => by
  unfold seenL at h
  obtain ⟨j, hj, e⟩ := List.mem_map.mp h
  have hj := List.mem_range.mp hj
  injection e with e1 e2
  exact N.nd i j hi hj ⟨e1.symm, e2.symm⟩
theorem seen_yes {n : Nat} (N : Nok n) : ((R n (per n)).t, (R n (per n + 1)).b) ∈ seenL n (per n) := by
  unfold seenL
  exact List.mem_map.mpr ⟨0, List.mem_range.mpr N.p0, by rw [N.et, N.eb]; rfl⟩
def sp_lparts : List Dt → Rs → Prop := fun ds r => ∃ m : Nat, ds = [dN m] ∧ m < 302 ∧ Nok m ∧ r = .ok (.tup [dN (W m), .tup (pdl m (per m))])
/-- the first y with a square -/
def vv (n : Nat) (due : Int) (y : Nat) : Nat := ((n * y * y : Nat) + due).toNat
inductive Lst (n : Nat) (due : Int) (most : Nat) : Option (Nat × Nat) → Prop
  | no (h : ∀ y, 1 ≤ y → y < most → ∀ s, s * s ≠ vv n due y) : Lst n due most none
  | hit (s y : Nat) (h1 : 1 ≤ y) (h2 : y < most) (h : s * s = vv n due y) (hb : ∀ z, 1 ≤ z → z < y → ∀ s, s * s ≠ vv n due z) : Lst n due most (some (s, y))
def ansO : Option (Nat × Nat) → Dt
  | none => dn
  | some p => frN p
def sp_lleast : List Dt → Rs → Prop := fun ds r => ∃ (n : Nat) (due : Int) (most : Nat) (res : Option (Nat × Nat)), ds = [dN n, di due, dN most] ∧ 2 ≤ n ∧ n < 302 ∧ (due = 1 ∨ due = -1) ∧ most < 200000 ∧ Lst n due most res ∧ r = .ok (ansO res)
theorem vv_eq {n y : Nat} {due : Int} (h1 : 2 ≤ n) (h2 : 1 ≤ y) (h : due = 1 ∨ due = -1) : ((vv n due y : Nat) : Int) = ((n * y * y : Nat) : Int) + due ∧ 1 ≤ vv n due y ∧ vv n due y ≤ n * y * y + 1 := by
  have : 2 ≤ n * y * y := by
    have := Nat.mul_le_mul (Nat.mul_le_mul h1 h2) h2
    omega
  unfold vv
  omega

theorem ok__law_parts (X : Txt K mg) (F : ∃ fd, FunD K "_law_parts" "_law_parts" (defArgs s__law_parts) (defBody s__law_parts) (defScope s__law_parts) [] [] (He.ga K "_law_parts") fd) (hm : mg "_law_parts" = some (.ref (He.ga K "_law_parts"))) : Gd P w K mg base "_law_parts" ["number"] 1 (spD K T sp_lparts) := by
  have Tx := X
  refine mkG F hm sc__law_parts (fun _ _ _ _ _ _ us hl => match us, hl with | [_], _ => rfl) (fun ds r h => ?len) (fun cdv A outer s H E hr => ?body)
  case len => (obtain ⟨_, rfl, _⟩ := h; rfl)
  case body =>
    have sc := sc__law_parts
    refine ⟨_, (pss_cons (ps_set (i := 1) sc.nd rfl (Or.inl rfl) pe_int)
  (pss_cons (ps_while (passesE) (pt_cmpR op_le (pe_op op_mulA (pe_op op_addA (pv 1) pe_int) (pe_op op_addA (pv 1) pe_int)) (pv 0) (nomark _)) (pss_one (ps_set (i := 1) sc.nd rfl (Or.inl rfl) (pe_op op_addA (pv 1) pe_int))))
  (pss_cons (ps_asg (pe_tup (pa_cons (pe_lst pa_nil) (pa_cons (pe_lst pa_nil) (pa_cons (pv 1) (pa_cons (pe_op op_sub (pv 0) (pe_op op_mulA (pv 1) (pv 1))) pa_nil))))) (pg_tup rfl (pgs_cons (pg_name (i := 2) sc.nd rfl (Or.inl rfl)) (pgs_cons (pg_name (i := 3) sc.nd rfl (Or.inl rfl)) (pgs_cons (pg_name (i := 4) sc.nd rfl (Or.inl rfl)) (pgs_cons (pg_name (i := 5) sc.nd rfl (Or.inl rfl)) pgs_nil))))))
  (pss_cons (ps_while (passesE) (pt_cmpR (op_notInD (Nat.lt_of_le_of_lt (Nat.add_le_add_left (by decide : 65 ≤ 200) _) hr.un)) (pe_tup (pa_cons (pv 4) (pa_cons (pv 5) pa_nil))) (pv 3) rfl) (pss_cons (ps_expr (pe_bm PySem.F.plainAttrs_list PySem.F.slot_list_append PySem.F.type_list_append mt_append (pv 3) (pa_cons (pe_tup (pa_cons (pv 4) (pa_cons (pv 5) pa_nil))) pa_nil)))
  (pss_cons (ps_set (i := 6) sc.nd rfl (Or.inl rfl) (pe_op op_fdivX (pe_op op_addA (pv 1) (pv 4)) (pv 5)))
  (pss_cons (ps_expr (pe_bm PySem.F.plainAttrs_list PySem.F.slot_list_append PySem.F.type_list_append mt_append (pv 2) (pa_cons (pv 6) pa_nil)))
  (pss_cons (ps_set (i := 4) sc.nd rfl (Or.inl rfl) (pe_op op_sub (pe_op op_mulA (pv 6) (pv 5)) (pv 4)))
  (pss_one (ps_set (i := 5) sc.nd rfl (Or.inl rfl) (pe_op op_fdivX (pe_op op_sub (pv 0) (pe_op op_mulA (pv 4) (pv 4))) (pv 5)))))))))
  (pss_one (ps_ret (pe_tup (pa_cons (pv 1) (pa_cons (pe_callTy call_tuple_of (by rfl) Tx.n_tuple (by decide +kernel) (pa_cons (pv 2) pa_nil)) pa_nil))))))))), fun O ds r hg => ?_⟩
    clear sc hr
    try dsimp only [cxOf]

    obtain ⟨m, rfl, m3, N, rfl⟩ := hg
    have w1 := N.w1
    have w2 := N.w2
    have w20 := N.w20
    refine r_seq (r_asg (d := dN 0) e_c ?_)
    refine r_seq (r_while (fun k A => ∃ i, k + i = W m ∧ A = ⟨[.d (dN m), .d (dN i), .un, .un, .un, .un, .un], []⟩) (W m) ⟨0, by omega, rfl⟩ ?_)
    rintro k A ⟨i, hk, rfl⟩
    have tw : EvT ⟨K, T, H, O⟩ _ _ _ _ := t_leN (e_mulN (e_addN (e_var (i := 1) rfl) (e_cN 1)) (e_addN (e_var (i := 1) rfl) (e_cN 1)) (f10 (by omega)) (f10 (by omega))) (e_var (i := 0) rfl) (C := ⟨K, T, H, O⟩) (A := ⟨[.d (dN m), .d (dN i), .un, .un, .un, .un, .un], []⟩)
    by_cases hi : i < W m
    · refine ⟨true, _, t_is tw (decide_eq_true ?_), (fun _ => ?_), (fun z => by cases z)⟩
      · have := Nat.mul_self_le_mul_self (show i + 1 ≤ W m by omega)
        omega
      · exact r_asg (d := dN (i + 1)) (e_addN (e_var rfl) (e_cN 1)) ⟨k - 1, by omega, i + 1, by omega, rfl⟩
    obtain rfl : i = W m := by omega
    refine ⟨false, _, t_is tw (decide_eq_false (by omega)), (fun z => by cases z), fun _ => ?_⟩
    refine r_seq (r_tgP (p_l a_nil (by decide) (p_l a_nil (by decide) (p_d (e_var rfl) (p_d (e_subN (e_var rfl) (e_mulN (e_var rfl) (e_var rfl) (f10 (by omega)) (f10 (by omega))) w1) p_nil)))) rfl (Nat.le_of_ble_eq_true rfl) (tgPA_cons tgP_name (tgPA_cons tgP_name (tgPA_cons tgP_name (tgPA_cons tgP_name tgPA_nil)))) ?_)
    have e1 : m - W m * W m = (R m 1).b := by
      show _ = (m - W m * W m) / 1
      rw [Nat.div_one]
    refine r_seq (r_while (fun k A => ∃ i, k + i = per m ∧ ∃ u : SD, A = ⟨[.d (dN m), .d (dN (W m)), .own 0, .own 1, .d (dN (R m i).t), .d (dN (R m (i + 1)).b), u], [.lst (pdl m i), .lst ((seenL m i).map frN)]⟩) (per m) ⟨0, rfl, .un, by rw [← e1]; rfl⟩ ?_)
    rintro k A ⟨i, hk, u, rfl⟩
    have p50 := N.p50
    have tn : EvT ⟨K, T, H, O⟩ _ _ _ _ := t_test (e_notInO (C := ⟨K, T, H, O⟩) (A := ⟨[.d (dN m), .d (dN (W m)), .own 0, .own 1, .d (dN (R m i).t), .d (dN (R m (i + 1)).b), u], [.lst (pdl m i), .lst ((seenL m i).map frN)]⟩) (x := frN ((R m i).t, (R m (i + 1)).b)) (e_tup (a_cons (e_var (i := 4) rfl) (a_cons (e_var (i := 5) rfl) a_nil)) (Nat.le_of_ble_eq_true rfl)) (nice_p _) (i := 3) (n := 1) rfl rfl (.lst (niceA_map nice_p (seenL m i))) (by decide) (by decide))
    have es : ((seenL m i).map fun p => PyData.tuple [.int p.1, .int p.2]) = (seenL m i).map pyN := rfl
    by_cases hi : i < per m
    · have S := N.s i hi
      have t2 := S.t2
      have bs := S.bs
      have bt := S.bt
      have p4 := S.p4
      have ft : Fits (R m i).t := f10 (by omega)
      have fb' : Fits (R m (i + 1)).b := f10 (by omega)
      have fp' : Fits (R m (i + 1)).p := f10 (by omega)
      have nx : (R m (i + 1)).t * (R m (i + 1)).t ≤ m ∧ Fits (R m (i + 1)).t := by
        by_cases h : i + 1 < per m
        · have S2 := N.s (i + 1) h
          have := S2.t2
          exact ⟨S2.tt, f10 (by omega)⟩
        · have e : i + 1 = per m := by omega
          rw [e, N.et]
          exact ⟨w1, f10 (by omega)⟩
      refine ⟨true, _, t_is tn (by rw [es]; show (!((seenL m i).map pyN).any fun z => PyData.eqv z (pyN _)) = true; rw [seen_any, decide_eq_false (seen_no N hi)]; rfl), (fun _ => ?_), (fun z => by cases z)⟩
      refine r_seq (r_drop (e_appendE (n := 1) (d := frN ((R m i).t, (R m (i + 1)).b)) rfl rfl (e_tup (a_cons (e_var rfl) (a_cons (e_var rfl) a_nil)) (Nat.le_of_ble_eq_true rfl)) rfl rfl (by simp [seenL]; omega) (seen_next m i)) ?_)
      refine r_seq (r_asg (d := dN (R m (i + 1)).p) (e_divN (e_addN (e_var rfl) (e_var rfl)) (e_var rfl) fb' S.b1) ?_)
      refine r_seq (r_drop (e_appendE (n := 0) rfl rfl (e_var rfl) rfl rfl (by rw [pdl_len]; omega) (pdl_next m i)) ?_)
      refine r_seq (r_asg (d := dN (R m (i + 1)).t) (e_subN (e_mulN (e_var rfl) (e_var rfl) fp' fb') (e_var rfl) S.tp) ?_)
      exact r_asg (d := dN (R m (i + 2)).b) (e_divN (e_subN (e_var rfl) (e_mulN (e_var rfl) (e_var rfl) nx.2 nx.2) nx.1) (e_var rfl) fb' S.b1) ⟨k - 1, by omega, i + 1, by omega, _, rfl⟩
    · obtain rfl : i = per m := by omega
      refine ⟨false, _, t_is tn (by rw [es]; show (!((seenL m _).map pyN).any fun z => PyData.eqv z (pyN _)) = false; rw [seen_any, decide_eq_true (seen_yes N)]; rfl), (fun z => by cases z), fun _ => ?_⟩
      exact r_ret (e_tup (a_cons (e_var rfl) (a_cons (e_tupO (n := 0) rfl rfl) a_nil)) (Nat.le_of_ble_eq_true rfl)) rfl

theorem ok__law_least (X : Txt K mg) (F : ∃ fd, FunD K "_law_least" "_law_least" (defArgs s__law_least) (defBody s__law_least) (defScope s__law_least) [] [] (He.ga K "_law_least") fd) (hm : mg "_law_least" = some (.ref (He.ga K "_law_least"))) : Gd P w K mg base "_law_least" ["number", "due", "most"] 1 (spD K T sp_lleast) := by
  have Tx := X
  refine mkG F hm sc__law_least (fun _ _ _ _ _ _ us hl => match us, hl with | [_, _, _], _ => rfl) (fun ds r h => ?len) (fun cdv A outer s H E hr => ?body)
  case len => (obtain ⟨_, _, _, _, rfl, _⟩ := h; rfl)
  case body =>
    have sc := sc__law_least
    refine ⟨_, (pss_cons (ps_for (passesE) rfl (pi_range2 rfl Tx.n_range (pa_cons pe_int (pa_cons (pv 2) pa_nil))) (pg_name (i := 3) sc.nd rfl (Or.inl rfl)) (pss_cons (ps_set (i := 4) sc.nd rfl (Or.inl rfl) (pe_op op_addA (pe_op op_mulA (pe_op op_mulA (pv 0) (pv 3)) (pv 3)) (pv 1)))
  (pss_cons (ps_par (i := 5) (j := 6) rfl sc.nd rfl rfl (by decide) rfl rfl (pa_cons pe_int (pa_cons (pe_op op_addA (pe_op op_mulA (pe_op op_mulA pe_int (pv 0)) (pv 3)) pe_int) pa_nil)) (by rfl))
  (pss_cons (ps_while (passesE) (pt_cmpR op_lt (pe_op op_addA (pv 5) pe_int) (pv 6) (nomark _)) (pss_cons (ps_set (i := 7) sc.nd rfl (Or.inl rfl) (pe_op op_fdivX (pe_op op_addA (pv 5) (pv 6)) pe_int))
  (pss_one (ps_asg (pe_ifExp (pt_cmpR op_le (pe_op op_mulA (pv 7) (pv 7)) (pv 4) (nomark _)) (pe_tup (pa_cons (pv 7) (pa_cons (pv 6) pa_nil))) (pe_tup (pa_cons (pv 5) (pa_cons (pv 7) pa_nil)))) (pg_tup rfl (pgs_cons (pg_name (i := 5) sc.nd rfl (Or.inl rfl)) (pgs_cons (pg_name (i := 6) sc.nd rfl (Or.inl rfl)) pgs_nil)))))))
  (pss_one (ps_if (PW.pt (pw_and (pt_cmpR op_gt (pv 4) pe_int (nomark _)) (pw_and1 (pt_cmpR (op_eqA hr.units) (pe_op op_mulA (pv 5) (pv 5)) (pv 4) (nomark _))))) (pss_one (ps_ret (pe_tup (pa_cons (pv 5) (pa_cons (pv 3) pa_nil))))) pss_nil))))))
  (pss_one (ps_ret pe_non))), fun O ds r hg => ?_⟩
    clear sc hr
    try dsimp only [cxOf]

    obtain ⟨n, due, most, res, rfl, n2, n3, hd, hm, hl, rfl⟩ := hg
    refine r_seq (r_forR (w_rng2n (c := most - 1) (m := 1) (n := (most : Int)) (a_cons e_c (a_cons (e_var rfl) a_nil)) (by omega) (by decide) (by omega)) (fun i A => (∀ s y, res = some (s, y) → i + 1 ≤ y) ∧ ∃ a b c d e : SD, A = ⟨[.d (dN n), .d (di due), .d (dN most), a, b, c, d, e], []⟩) ⟨fun s y e => ?_, .un, .un, .un, .un, .un, rfl⟩ ?_ ?_)
    · subst e
      cases hl with
      | hit _ _ h1 => exact h1
    · rintro i A hi ⟨hy, a, b, c, d, e, rfl⟩
      refine ⟨_, tg_name, ?_⟩
      rw [show (1 + (i : Int)) = ((i + 1 : Nat) : Int) by omega]
      obtain ⟨v1, v2, v3⟩ := vv_eq (y := i + 1) n2 (by omega) hd
      have y20 : i + 1 < 2 ^ 18 := by omega
      have ny : n * (i + 1) < 2 ^ 27 := by
        have := Nat.mul_lt_mul_of_lt_of_le (show n < 2 ^ 9 by omega) (show i + 1 ≤ 2 ^ 18 by omega) (by decide)
        exact this
      have nyy : n * (i + 1) * (i + 1) < 2 ^ 45 := by
        have := Nat.mul_lt_mul_of_lt_of_le ny (show i + 1 ≤ 2 ^ 18 by omega) (by decide)
        exact this
      have fn : Fits n := f10 (by omega)
      have fy : Fits (i + 1) := fits20 (by omega)
      have fny : Fits (n * (i + 1)) := fits_of 27 ny (by decide)
      refine r_seq (r_asg (d := dN (vv n due (i + 1))) (e_is (e_bin (e_mulN (e_mulN (e_var rfl) (e_var rfl) fn fy) (e_var rfl) fny fy) (e_var rfl) o_add) (congrArg di v1.symm)) ?_)
      refine r_seq (r_par (d := dN 0) (d1 := dN (2 * n * (i + 1) + 2)) (a_cons (e_cN 0) (a_cons (e_addN (e_mulN (e_mulN (e_cN 2) (e_var rfl) (f10 (by decide)) fn) (e_var rfl) (f10 (by omega)) fy) (e_cN 2)) a_nil)) ?_)
      generalize hv : vv n due (i + 1) = v at *
      have top : v < (2 * n * (i + 1) + 2) * (2 * n * (i + 1) + 2) := by
        have e1 : n * (i + 1) * (i + 1) ≤ n * (i + 1) * (n * (i + 1)) := Nat.mul_le_mul_left _ (Nat.le_mul_of_pos_left _ (by omega))
        have e2 : 2 * n * (i + 1) + 2 = n * (i + 1) + n * (i + 1) + 2 := by rw [Nat.mul_assoc]; omega
        rw [e2]
        have e3 := Nat.mul_le_mul (show n * (i + 1) + 1 ≤ n * (i + 1) + n * (i + 1) + 2 by omega) (show n * (i + 1) + 1 ≤ n * (i + 1) + n * (i + 1) + 2 by omega)
        have e4 : (n * (i + 1) + 1) * (n * (i + 1) + 1) = n * (i + 1) * (n * (i + 1)) + 2 * (n * (i + 1)) + 1 := by grind
        have : 0 < n * (i + 1) := Nat.mul_pos (by omega) (by omega)
        omega
      have h0 : 2 * n * (i + 1) + 2 < 2 ^ 30 := by rw [Nat.mul_assoc]; omega
      generalize 2 * n * (i + 1) + 2 = hh at *
      refine r_seq (r_while (fun k A => ∃ l h : Nat, ∃ u : SD, l + k = h ∧ 0 < k ∧ h < 2 ^ 30 ∧ l * l ≤ v ∧ v < h * h ∧ A = ⟨[.d (dN n), .d (di due), .d (dN most), .d (dN (i + 1)), .d (dN v), .d (dN l), .d (dN h), u], []⟩) hh ⟨0, hh, e, by omega, ?_, h0, by omega, top, rfl⟩ ?_)
      · rcases Nat.eq_zero_or_pos hh with z | z
        · rw [z] at top; omega
        · exact z
      rintro k A ⟨l, h, u, hk, k0, hb, hl1, hl2, rfl⟩
      have tw : EvT ⟨K, T, H, O⟩ _ _ _ _ := t_ltN (e_addN (e_var (i := 5) rfl) (e_cN 1)) (e_var (i := 6) rfl) (C := ⟨K, T, H, O⟩) (A := ⟨[.d (dN n), .d (di due), .d (dN most), .d (dN (i + 1)), .d (dN v), .d (dN l), .d (dN h), u], []⟩)
      by_cases hw : l + 1 < h
      · refine ⟨true, _, t_is tw (decide_eq_true hw), (fun _ => ?_), (fun z => by cases z)⟩
        refine r_seq (r_asg (d := dN ((l + h) / 2)) (e_divN (e_addN (e_var rfl) (e_var rfl)) (e_cN 2) (f10 (by decide)) (by decide)) ?_)
        have fm : Fits ((l + h) / 2) := fits_of 31 (by omega) (by decide)
        have tm : EvT ⟨K, T, H, O⟩ _ _ _ _ := t_leN (e_mulN (e_var (i := 7) rfl) (e_var (i := 7) rfl) fm fm) (e_var (i := 4) rfl) (C := ⟨K, T, H, O⟩) (A := ⟨[.d (dN n), .d (di due), .d (dN most), .d (dN (i + 1)), .d (dN v), .d (dN l), .d (dN h), .d (dN ((l + h) / 2))], []⟩)
        by_cases hm2 : (l + h) / 2 * ((l + h) / 2) ≤ v
        · exact r_tg (d := frN ((l + h) / 2, h)) (e_ifT (t_is tm (decide_eq_true hm2)) (e_tup (a_cons (e_var rfl) (a_cons (e_var rfl) a_nil)) (Nat.le_of_ble_eq_true rfl))) (tg_tup rfl (tgA_cons tg_name (tgA_cons tg_name tgA_nil))) ⟨h - (l + h) / 2, by omega, (l + h) / 2, h, _, by omega, by omega, hb, hm2, hl2, rfl⟩
        · exact r_tg (d := frN (l, (l + h) / 2)) (e_ifF (t_is tm (decide_eq_false hm2)) (e_tup (a_cons (e_var rfl) (a_cons (e_var rfl) a_nil)) (Nat.le_of_ble_eq_true rfl))) (tg_tup rfl (tgA_cons tg_name (tgA_cons tg_name tgA_nil))) ⟨(l + h) / 2 - l, by omega, l, (l + h) / 2, _, by omega, by omega, by omega, hl1, by omega, rfl⟩
      · obtain rfl : h = l + 1 := by omega
        refine ⟨false, _, t_is tw (decide_eq_false hw), (fun z => by cases z), fun _ => ?_⟩
        have fl : Fits l := fits_of 30 (by omega) (by decide)
        have te : EvT ⟨K, T, H, O⟩ _ _ _ _ := t_eqN (e_mulN (e_var (i := 5) rfl) (e_var (i := 5) rfl) fl fl) (e_var (i := 4) rfl) (C := ⟨K, T, H, O⟩) (A := ⟨[.d (dN n), .d (di due), .d (dN most), .d (dN (i + 1)), .d (dN v), .d (dN l), .d (dN (l + 1)), u], []⟩)
        have tg : EvT ⟨K, T, H, O⟩ _ _ _ _ := t_is (b := true) (t_test (e_bin (C := ⟨K, T, H, O⟩) (A := ⟨[.d (dN n), .d (di due), .d (dN most), .d (dN (i + 1)), .d (dN v), .d (dN l), .d (dN (l + 1)), u], []⟩) (e_var (i := 4) rfl) e_c (o_I0 (g := fun i j => .bl (decide (j < i)))))) (decide_eq_true (show (0 : Int) < (v : Int) by omega))
        by_cases hs : l * l = v
        · refine r_ifT (t_andT tg (t_is te (decide_eq_true hs))) (r_ret (d := frN (l, i + 1)) (e_tup (a_cons (e_var rfl) (a_cons (e_var rfl) a_nil)) (Nat.le_of_ble_eq_true rfl)) (congrArg Rs.ok ?_))
          cases hl with
          | no hn => exact absurd (hs.trans hv.symm) (hn (i + 1) (by omega) (by omega) l)
          | hit s y g1 g2 g3 g4 =>
            have := hy s y rfl
            by_cases hq : y = i + 1
            · subst hq
              rw [hv] at g3
              have : s = l := by
                rcases Nat.lt_trichotomy s l with z | z | z
                · have := Nat.mul_self_lt_mul_self z; omega
                · exact z
                · have := Nat.mul_self_lt_mul_self z; omega
              rw [this]; rfl
            · exact absurd (hs.trans hv.symm) (g4 (i + 1) (by omega) (by omega) l)
        · refine r_ifF (t_andT tg (t_is te (decide_eq_false hs))) (r_next ⟨fun s y er => ?_, _, _, _, _, _, rfl⟩)
          have := hy s y er
          by_cases hq : y = i + 1
          · exfalso
            subst hq
            subst er
            cases hl with
            | hit _ _ g1 g2 g3 g4 =>
              rw [hv] at g3
              have l1 : s < l + 1 := Nat.lt_of_not_le fun g => by have := Nat.mul_self_le_mul_self g; omega
              have l2 : ¬ s < l := fun g => by
                have a1 := Nat.mul_self_le_mul_self (show s + 1 ≤ l by omega)
                have a2 : (s + 1) * (s + 1) = s * s + 2 * s + 1 := by grind
                omega
              have : s = l := by omega
              exact hs (by rw [← this]; exact g3)
          · omega
    · rintro A ⟨hy, a, b, c, d, e, rfl⟩
      refine r_ret e_c ?_
      cases hl with
      | no => rfl
      | hit s y g1 g2 =>
        have := hy s y rfl
        omega

end
end Law
end

section
set_option Elab.async false
set_option linter.all false
set_option maxRecDepth 100000
set_option maxHeartbeats 4000000
set_option autoImplicit false
set_option exponentiation.threshold 300
namespace Law
open PySem PySem.Spec PyProof.Rows L2 Py Sq

local macro_rules | `(tactic| wtm_at "op") => `(tactic| first
  | with_reducible exact o_I0 | with_reducible exact o_add | with_reducible exact o_eqI | with_reducible exact o_neI
  | ((with_reducible apply o_mul); first | assumption | wtm_at "si")
  | ((with_reducible apply o_I); first | assumption | wtm_at "si")
  | ((with_reducible apply o_ixT); rfl) | ((with_reducible apply o_ixL); rfl)
  | ((with_reducible apply o_eqD) <;> first | rfl | decide | assumption) | ((with_reducible apply o_neD) <;> first | rfl | decide | assumption)
  | with_reducible assumption)
local macro_rules | `(tactic| wtm_at "si") => `(tactic| first | decide | exact ⟨by decide, by decide +kernel⟩ | omega)
local macro_rules | `(tactic| wtm_at "ev") => `(tactic| first
  | ((with_reducible apply e_var); rfl) | with_reducible exact e_c | with_reducible exact a_nil
  | ((with_reducible apply a_cons) <;> wtm_at "ev")
  | ((with_reducible apply e_bin) <;> first | wtm_at "ev" | wtm_at "op")
  | ((with_reducible apply e_ixO) <;> first | rfl | wtm_at "ev")
  | ((with_reducible apply e_U) <;> wtm_at "ev")
  | ((with_reducible apply t_test) <;> wtm_at "ev")
  | ((with_reducible apply t_B) <;> wtm_at "ev")
  | ((with_reducible apply t_not) <;> wtm_at "ev")
  | ((with_reducible apply e_tup) <;> first | wtm_at "ev" | exact Nat.le_of_ble_eq_true rfl)
  | ((with_reducible apply e_lst) <;> first | wtm_at "ev" | exact Nat.le_of_ble_eq_true rfl)
  | ((with_reducible apply e_gcd) <;> wtm_at "ev")
  | ((with_reducible apply e_abs) <;> wtm_at "ev")
  | ((with_reducible apply e_max2) <;> wtm_at "ev")
  | ((with_reducible apply e_int) <;> wtm_at "ev")
  | ((with_reducible apply e_intB) <;> wtm_at "ev")
  | ((with_reducible apply e_bits) <;> wtm_at "ev")
  | ((with_reducible apply e_not) <;> wtm_at "ev")
  | with_reducible assumption)

section
variable {P : Program} {w : World} {K : Frg} {T : List (Addr × Str)} {mg : Str → Option Value} {base : Heap}

abbrev isq (n : Nat) : Nat := Float64.isqrt n
theorem isq_eq {n w : Nat} (h1 : w * w ≤ n) (h2 : n < (w + 1) * (w + 1)) : isq n = w := by
  have sp := Float64.isqrt_spec n
  rcases Nat.lt_trichotomy (Float64.isqrt n) w with z | z | z
  · have := Nat.mul_self_le_mul_self (show Float64.isqrt n + 1 ≤ w by omega)
    omega
  · exact z
  · have := Nat.mul_self_le_mul_self (show w + 1 ≤ Float64.isqrt n by omega)
    omega
def rowsL (m i : Nat) : List (Nat × Nat) := (List.range i).map fun a => (a, isq (m - a * a))
def isTwo (m : Nat) (p : Nat × Nat) : Bool := decide (p.1 * p.1 + p.2 * p.2 = m)
def sqL (m : Nat) : List (Nat × Nat) := (rowsL m (isq (m / 2) + 1)).filter (isTwo m)
def sp_two (K : Frg) : List Dt → Rs → Prop := fun ds r => ∃ n : Int, ds = [di n] ∧ -1000 ≤ n ∧ n ≤ 2000000 ∧ r = if n < 0 ∨ 1000000 < n then .err (NE K) else .ok (.tup ((sqL n.toNat).map frN))

abbrev s_sum_of_two_squares : Stmt := top 11
theorem sc_sum_of_two_squares : FnScope ["number", "rows", "one", "row"] ["number"] (defScope s_sum_of_two_squares) := ⟨rfl, rfl, rfl, by decide +kernel, rfl, by decide +kernel, by decide +kernel⟩
theorem ok_sum_of_two_squares (X : Txt K mg) (F : ∃ fd, FunD K "sum_of_two_squares" "sum_of_two_squares" (defArgs s_sum_of_two_squares) (defBody s_sum_of_two_squares) (defScope s_sum_of_two_squares) [] [] (He.ga K "sum_of_two_squares") fd) (hm : mg "sum_of_two_squares" = some (.ref (He.ga K "sum_of_two_squares"))) : Gd P w K mg base "sum_of_two_squares" ["number"] 1 (spD K T (sp_two K)) := by
  have Tx := X
  refine mkG F hm sc_sum_of_two_squares (fun _ _ _ _ _ _ us hl => match us, hl with | [_], _ => rfl) (fun ds r h => ?len) (fun cdv A outer s H E hr => ?body)
  case len => (obtain ⟨_, rfl, _⟩ := h; rfl)
  case body =>
    have sc := sc_sum_of_two_squares
    refine ⟨_, (pss_cons (ps_if (pt_not (pt_chain op_le op_le pe_int (pv 0) (pe_op op_pow pe_int pe_int))) (pss_one (ps_rz rfl takesE PySem.F.excBase_ValueError Tx.xNumberError.1 Tx.gNumberError Tx.xNumberError.2.1 (raises_own Tx.xNumberError.2.2.1 Tx.xNumberError.2.2.2) rfl)) pss_nil)
  (pss_cons (ps_setLc (i := 1) (own := [("one", 2)]) rfl sc.nd rfl rfl (sw_true rfl rfl rfl (by decide +kernel)) (pi_range1 rfl Tx.n_range (pa_cons (pe_op op_addA (pe_callBfun cr_isqrt (by rfl) Tx.n_isqrt (pa_cons (pe_op op_fdivX (pv 0) pe_int) pa_nil)) pe_int) pa_nil)) (blkOk_by (own := [("one", 2)]) (N := ["number", "rows", "one", "row"]) (sc := defScope s_sum_of_two_squares) (by decide +kernel)) (fun _ _ _ _ _ => (pg_name (i := 2) sc.nd rfl (Or.inl rfl))) (fun _ _ _ _ _ => pts_nil) (fun _ _ _ _ _ => (pe_tup (pa_cons (pv 2) (pa_cons (pe_callBfun cr_isqrt (by rfl) Tx.n_isqrt (pa_cons (pe_op op_sub (pv 0) (pe_op (op_mulAK (K := K) rfl) (pv 2) (pv 2))) pa_nil)) pa_nil)))))
  (pss_one (ps_ret (pe_callTy call_tuple_of (by rfl) Tx.n_tuple (by decide +kernel) (pa_cons (pe_lc (own := [("row", 3)]) rfl sc.nd (pi_list (pv 1)) (blkOk_by (own := [("row", 3)]) (N := ["number", "rows", "one", "row"]) (sc := defScope s_sum_of_two_squares) (by decide +kernel)) (fun _ _ _ _ _ => (pg_name (i := 3) sc.nd rfl (Or.inl rfl))) (fun _ _ _ _ _ => (pts_one (pt_cmpR (op_eqAK (K := K) rfl hr.units) (pe_op (op_addAK (K := K) rfl) (pe_op (op_mulAK (K := K) rfl) (pe_ix (ix_seqK (K := K) rfl) (pv 3) pe_int (fun _ _ => rfl)) (pe_ix (ix_seqK (K := K) rfl) (pv 3) pe_int (fun _ _ => rfl))) (pe_op (op_mulAK (K := K) rfl) (pe_ix (ix_seqK (K := K) rfl) (pv 3) pe_int (fun _ _ => rfl)) (pe_ix (ix_seqK (K := K) rfl) (pv 3) pe_int (fun _ _ => rfl)))) (pv 0) (nomark _)))) (fun _ _ _ _ _ => (pv 3))) pa_nil)))))), fun O ds r hg => ?_⟩
    clear sc hr
    try dsimp only [cxOf]

    obtain ⟨n, rfl, h1, h2, rfl⟩ := hg
    have c6 : CPow 10 6 := ⟨by decide, by decide, by decide⟩
    have le : ∀ {x y : Int} {b : Bool}, decide (x ≤ y) = b → OpS ⟨K, T, H, O⟩ (rI0 fun i j => .bl (decide (i ≤ j))) (di x) (di y) (db b) := fun e => o_is o_I0 (by rw [e])
    by_cases hn : n < 0
    · exact r_seq (r_ifT (t_is (t_not (t_test (e_chainF e_c (e_var rfl) (le (decide_eq_false (by omega)))))) rfl) (r_raise (show (if n < 0 ∨ 1000000 < n then Rs.err (NE K) else _) = _ from if_pos (.inl hn))))
    by_cases hx : 1000000 < n
    · exact r_seq (r_ifT (t_is (t_not (t_test (e_chainT e_c (e_var rfl) (le (decide_eq_true (by omega))) (e_is (d1 := di 1000000) (e_bin e_c e_c (o_I c6)) rfl) (le (decide_eq_false (by omega)))))) rfl) (r_raise (show (if n < 0 ∨ 1000000 < n then Rs.err (NE K) else _) = _ from if_pos (.inr hx))))
    refine r_seq (r_ifF (t_is (t_not (t_test (e_chainT e_c (e_var rfl) (le (decide_eq_true (by omega))) (e_is (d1 := di 1000000) (e_bin e_c e_c (o_I c6)) rfl) (le (decide_eq_true (by omega)))))) rfl) (r_next ?_))
    obtain ⟨m, rfl⟩ : ∃ m : Nat, n = m := ⟨n.toNat, by omega⟩
    have m6 : m ≤ 1000000 := by omega
    have s2 := Float64.isqrt_spec (m / 2)
    obtain ⟨q, hq⟩ : ∃ q, isq (m / 2) = q := ⟨_, rfl⟩
    have hq' : Float64.isqrt (m / 2) = q := hq
    rw [hq'] at s2
    have q1 : q < 1000 := Nat.lt_of_not_le fun g => by have := Nat.mul_self_le_mul_self g; omega
    refine r_seq (r_asg (d := .lst ((rowsL m (q + 1)).map frN)) (e_lcR (w_rng1n (c := q + 1) (n := ((q + 1 : Nat) : Int)) (a_cons (e_addN (e_isqrt (w := q) (e_divN (e_var rfl) (e_cN 2) (f10 (by decide)) (by decide)) (by omega) s2.1 s2.2) (e_cN 1)) a_nil) (by omega) (by omega)) (fun i => ⟨[.d (dN m), .un, .un, .un], []⟩) (fun i => (rowsL m i).map frN) rfl rfl (fun i hi O' => ?_) (by omega)) ?_)
    · have i2 := Nat.mul_self_le_mul_self (show i ≤ q by omega)
      have sp := Float64.isqrt_spec (m - i * i)
      have ei : (0 : Int) + (i : Int) = (i : Int) := by omega
      refine ⟨_, true, _, tgS_name (by simp), t_yes, .inl ⟨rfl, frN (i, isq (m - i * i)), ⟨[.d (dN m), .un, .d (di (0 + (i : Int))), .un], []⟩, e_tup (a_cons (e_is (e_var rfl) (congrArg di ei)) (a_cons (e_isqrt (w := isq (m - i * i)) (e_subN (e_var rfl) (e_mulN (e_is (e_var rfl) (congrArg di ei)) (e_is (e_var rfl) (congrArg di ei)) (f10 (by omega)) (f10 (by omega))) (by omega)) (by omega) sp.1 sp.2) a_nil)) (Nat.le_of_ble_eq_true rfl), ?_, rfl⟩⟩
      simp [rowsL, List.range_succ]
    have ea : (if (m : Int) < 0 ∨ 1000000 < (m : Int) then Rs.err (NE K) else .ok (.tup ((sqL (m : Int).toNat).map frN))) = .ok (.tup ((sqL m).map frN)) := by
      rw [if_neg (by omega), Int.toNat_natCast]
    have eY : ∀ xs : List (Nat × Nat), (xs.map frN).length = xs.length := fun xs => List.length_map _
    have eR : rowsL m (q + 1) = rowsL m (isq (m / 2) + 1) := by rw [hq]
    have lr : (rowsL m (q + 1)).length = q + 1 := by simp [rowsL]
    refine r_ret (d := .tup ((sqL m).map frN)) (e_tupL (e_is (e_lcL (xs := (rowsL m (q + 1)).map frN) (e_var rfl) (fun i => ⟨[.d (dN m), .d (.lst ((rowsL m (q + 1)).map frN)), .un, .un], []⟩) (fun i => (((rowsL m (q + 1)).take i).filter (isTwo m)).map frN) rfl rfl (fun i x hx O' => ?_) (by rw [eY, lr]; omega)) (by rw [eY, List.take_length, eR]; rfl))) ea
    rw [List.getElem?_map] at hx
    obtain ⟨p, hp, rfl⟩ := Option.map_eq_some_iff.mp hx
    have pm : p ∈ rowsL m (q + 1) := List.mem_of_getElem? hp
    have pb : p.1 ≤ 1000 ∧ p.2 ≤ 1000 := by
      unfold rowsL at pm
      obtain ⟨a, ha, rfl⟩ := List.mem_map.mp pm
      have ha := List.mem_range.mp ha
      have sp := Float64.isqrt_spec (m - a * a)
      refine ⟨by dsimp only; omega, Nat.le_of_not_lt fun g => ?_⟩
      have := Nat.mul_self_le_mul_self (show 1001 ≤ Float64.isqrt (m - a * a) from g)
      omega
    have f1 : Fits p.1 := fits20 (by omega)
    have f2 : Fits p.2 := fits20 (by omega)
    have tt : EvT ⟨K, T, H, O'⟩ _ _ _ _ := t_eqN (C := ⟨K, T, H, O'⟩) (A := ⟨[.d (dN m), .d (.lst ((rowsL m (q + 1)).map frN)), .un, .d (frN p)], []⟩) (e_addN (e_mulN (e_bin (e_var (i := 3) rfl) (e_c (x := .int 0)) (o_ixT rfl)) (e_bin (e_var (i := 3) rfl) (e_c (x := .int 0)) (o_ixT rfl)) f1 f1) (e_mulN (e_bin (e_var (i := 3) rfl) (e_c (x := .int 1)) (o_ixT rfl)) (e_bin (e_var (i := 3) rfl) (e_c (x := .int 1)) (o_ixT rfl)) f2 f2)) (e_var (i := 0) rfl)
    have tk : ((rowsL m (q + 1)).take (i + 1)).filter (isTwo m) = ((rowsL m (q + 1)).take i).filter (isTwo m) ++ if isTwo m p = true then [p] else [] := by
      rw [List.take_add_one, hp, List.filter_append]
      show _ ++ [p].filter (isTwo m) = _
      rw [List.filter_cons, List.filter_nil]
    refine ⟨_, isTwo m p, _, tgS_name (by simp), tt, ?_⟩
    cases hc : isTwo m p with
    | true => exact .inl ⟨rfl, frN p, _, e_var rfl, by rw [tk, hc, if_pos rfl, List.map_append]; rfl, rfl⟩
    | false => exact .inr ⟨rfl, by rw [tk, hc, if_neg (by decide), List.append_nil], rfl⟩

/-! ### the law's own sums of two squares -/
def dueA (m a : Nat) : List (Nat × Nat) := ((List.range (60 - a)).filter fun j => decide (a * a + (a + j) * (a + j) = m)).map fun j => (a, a + j)
def dueL (m i : Nat) : List (Nat × Nat) := (List.range i).flatMap (dueA m)
def one2 (m a : Nat) : List (Nat × Nat) := if 2 * (a * a) ≤ m ∧ isq (m - a * a) * isq (m - a * a) = m - a * a then [(a, isq (m - a * a))] else []
theorem filter_one {p : Nat → Bool} {k : Nat} (hu : ∀ x, p x = true → x = k) : ∀ n, (List.range n).filter p = if k < n ∧ p k = true then [k] else []
  | 0 => by simp
  | n + 1 => by
    rw [List.range_succ, List.filter_append, filter_one hu n, List.filter_cons, List.filter_nil]
    by_cases h : p n = true
    · have := hu n h
      subst this
      simp [h]
    · by_cases hk : k < n ∧ p k = true
      · rw [if_pos hk, if_neg h, if_pos ⟨by omega, hk.2⟩, List.append_nil]
      · rw [if_neg hk, if_neg h, if_neg fun z => ?_, List.append_nil]
        by_cases e : k = n
        · subst e; exact h z.2
        · exact hk ⟨by omega, z.2⟩
theorem dueA_one {m a : Nat} (hm : m < 3000) (ha : a < 60) : dueA m a = one2 m a := by
  have sp := Float64.isqrt_spec (m - a * a)
  unfold dueA one2
  by_cases h2 : 2 * (a * a) ≤ m
  · have al : a ≤ isq (m - a * a) := Nat.le_of_not_lt (fun g => by
      have := Nat.mul_self_le_mul_self (show isq (m - a * a) + 1 ≤ a from g)
      have e : (isq (m - a * a) + 1) * (isq (m - a * a) + 1) > m - a * a := sp.2
      omega)
    obtain ⟨j, hj⟩ : ∃ j, isq (m - a * a) = a + j := ⟨isq (m - a * a) - a, by omega⟩
    have sp1 : (a + j) * (a + j) ≤ m - a * a := by rw [← hj]; exact sp.1
    have sp2 : m - a * a < (a + j + 1) * (a + j + 1) := by rw [← hj]; exact sp.2
    have j60 : j < 60 - a := by
      refine Nat.lt_of_not_le fun g => ?_
      have := Nat.mul_self_le_mul_self (show 60 ≤ a + j by omega)
      omega
    have hu : ∀ x, decide (a * a + (a + x) * (a + x) = m) = true → x = j := fun x hx => by
      have hx := of_decide_eq_true hx
      have l1 : a + x < a + j + 1 := Nat.lt_of_not_le fun g => by have := Nat.mul_self_le_mul_self g; omega
      have l2 : ¬ a + x < a + j := fun g => by
        have a1 := Nat.mul_self_le_mul_self (show a + x + 1 ≤ a + j by omega)
        have a2 : (a + x + 1) * (a + x + 1) = (a + x) * (a + x) + 2 * (a + x) + 1 := by grind
        omega
      omega
    rw [filter_one hu, hj]
    by_cases hs : (a + j) * (a + j) = m - a * a
    · rw [if_pos ⟨j60, decide_eq_true (by omega)⟩, if_pos ⟨h2, hs⟩]
      rfl
    · rw [if_neg fun z => hs (by have := of_decide_eq_true z.2; omega), if_neg fun z => hs z.2]
      rfl
  · rw [if_neg fun z => h2 z.1]
    have e : ((List.range (60 - a)).filter fun j => decide (a * a + (a + j) * (a + j) = m)) = [] := by
      rw [List.filter_eq_nil_iff]
      intro j _ hj
      have hj := of_decide_eq_true hj
      have := Nat.mul_self_le_mul_self (show a ≤ a + j by omega)
      omega
    rw [e]
    rfl
theorem one2_far {m : Nat} : ∀ k, (List.range (isq (m / 2) + 1 + k)).flatMap (one2 m) = (List.range (isq (m / 2) + 1)).flatMap (one2 m)
  | 0 => rfl
  | k + 1 => by
    have sp := Float64.isqrt_spec (m / 2)
    have hh : ¬ 2 * ((isq (m / 2) + 1 + k) * (isq (m / 2) + 1 + k)) ≤ m := fun g => by
      have a1 := Nat.mul_self_le_mul_self (show isq (m / 2) + 1 ≤ isq (m / 2) + 1 + k by omega)
      have e : m / 2 < (isq (m / 2) + 1) * (isq (m / 2) + 1) := sp.2
      omega
    rw [← Nat.add_assoc, List.range_succ, List.flatMap_append, one2_far k]
    simp only [List.flatMap_cons, List.flatMap_nil, List.append_nil]
    have : one2 m (isq (m / 2) + 1 + k) = [] := if_neg fun z => hh z.1
    rw [this, List.append_nil]
theorem rows_one (m : Nat) : ∀ i, i ≤ isq (m / 2) + 1 → (rowsL m i).filter (isTwo m) = (List.range i).flatMap (one2 m)
  | 0, _ => rfl
  | i + 1, h => by
    have sp := Float64.isqrt_spec (m / 2)
    have a1 := Nat.mul_self_le_mul_self (show i ≤ isq (m / 2) by omega)
    have e1 : isq (m / 2) * isq (m / 2) ≤ m / 2 := sp.1
    have er : rowsL m (i + 1) = rowsL m i ++ [(i, isq (m - i * i))] := by simp [rowsL, List.range_succ]
    rw [er, List.filter_append, rows_one m i (by omega), List.range_succ, List.flatMap_append]
    congr 1
    simp only [List.flatMap_cons, List.flatMap_nil, List.append_nil, List.filter_cons, List.filter_nil, isTwo, one2, decide_eq_true_eq]
    by_cases c : isq (m - i * i) * isq (m - i * i) = m - i * i
    · rw [if_pos (by omega), if_pos ⟨by omega, c⟩]
    · rw [if_neg (by omega), if_neg fun z => c z.2]
theorem two_same {m : Nat} (hm : m < 3000) : sqL m = dueL m 60 := by
  have sp := Float64.isqrt_spec (m / 2)
  have q60 : isq (m / 2) + 1 ≤ 60 := by
    refine Nat.le_of_not_lt fun g => ?_
    have := Nat.mul_self_le_mul_self (show 60 ≤ isq (m / 2) by omega)
    have e1 : isq (m / 2) * isq (m / 2) ≤ m / 2 := sp.1
    omega
  obtain ⟨k, hk⟩ : ∃ k, 60 = isq (m / 2) + 1 + k := ⟨60 - (isq (m / 2) + 1), by omega⟩
  have e : dueL m 60 = (List.range 60).flatMap (one2 m) := by
    unfold dueL
    rw [List.flatMap_def, List.flatMap_def]
    congr 1
    exact List.map_congr_left fun a ha => dueA_one hm (List.mem_range.mp ha)
  rw [e, hk, one2_far, sqL, rows_one m _ (Nat.le_refl _)]
end
end Law
end

section
set_option Elab.async false
set_option linter.all false
set_option maxRecDepth 100000
set_option maxHeartbeats 4000000
set_option autoImplicit false
set_option exponentiation.threshold 100
namespace Py
open PySem PySem.Spec PyProof.Rows L2
/-! ### the end: a law's promise -/
def spLaw (K : Frg) (T : List (Addr × Str)) : Sp := fun vs H Q _ => ∃ (a : Addr) (ns : List Int), vs = [.ref a] ∧ SqL K H a (ns.map V.int) ∧ ns.length ≤ 63 ∧ (∀ z ∈ ns, Sz 1048576 z) ∧ LamX.Tabs T H ∧ ∀ H', Q (.bl true) H'
theorem sz_bits {z : Int} (h : Builtin.Int.intBits z ≤ 1048576) : Sz 1048576 z := by
  unfold Builtin.Int.intBits at h
  unfold Sz
  by_cases e : z = 0
  · subst e
    exact Nat.pow_pos (by decide)
  · have e' : (z == 0) = false := by simpa using e
    rw [e', if_neg (by decide)] at h
    have : z.natAbs < 2 ^ (z.natAbs.log2 + 1) := Nat.lt_log2_self
    exact Nat.lt_of_lt_of_le this (Nat.pow_le_pow_right (by decide) h)
def tfOf (fs : List Str) : List He.Defn := fs.map fun f => (f, none)
theorem walk_mine {l : PySem.W.OpenLaw} {k : Nat} {q : Program} {loose : List Str} {XP : (Str → Option Value) → Heap → Prop} {d : DefRec} {x nm : Str} {N : Nat} {fa : List He.Fa} {fn : List He.DefD} {fs : List Str} {ex : PySem.W.Frag → Bool} {st : Stmt}
    (hn : l.most = some 63) (hdf : d.params.defaults = []) (hr : Room k callerA) (hd : d.name = nm) (hl : He.Fa.glo nm ∈ fa) (hdef : (⟨(nm, none), nm, nm, defArgs st, defBody st, defScope st, [], []⟩ : He.DefD) ∈ fn)
    (hb : ∀ (kV doc pm : Value) (an : Option Addr) (cdv ct : Value) (us : List Value), us.length = 1 → bindArgs (PySem.W.fnOf nm nm (defArgs st) (defBody st) (defScope st) .none kV doc pm an cdv ct) ⟨us, []⟩ = pure ([x].zip us))
    (nd : ∀ K, ex K = true → (fs.map fun f => (He.cT K (f, none)).2).Nodup)
    (F : ∀ (w : World) (K : Frg) (mg : Str → Option Value) (base : Heap), K.In base → base.Ns mainGlobals mg → He.SaysD fa fn K → ex K = true → (∀ f ∈ fs, LamB K base mg (tabL K fs) f) →
      ∀ fd, FunD K nm nm (defArgs st) (defBody st) (defScope st) [] [] (He.ga K nm) fd → FnOk l.prog w K mg base (L2.CX l.prog w) k (He.ga K nm) fd [x] (spLaw K (tabL K fs))) :
    PySem.W.WalkO q loose XP (He.hookX N fa fn [] (tfOf fs) ex).says l.row.toRowW d [] (fun f vs => PySem.call f vs) := by
  refine LamX.walk_ofTsE (n := 63) (k := k) (CX := fun w => L2.CX l.prog w) (x := x) hn (by decide) hdf hr (fun w mg f h Y G hmg => ?_) ?_
  · obtain ⟨K, KX, c⟩ := Y
    have cd : He.SaysD fa fn K := congrArg (fun z : He.AlT => z.1) c.t
    obtain ⟨fd, FD⟩ := cd.defs hdef
    have e := hmg.symm.trans ((congrArg mg hd).trans (He.glo_ok KX G (cd.facts hl)))
    cases e
    refine ⟨K, KX, fd, (tfOf fs).map (He.cT K), spLaw K (tabL K fs), fun p hp => ?_, fun p hp => ?_, fun p hp => ?_, fun s u => ?_, fun H a ns h1 h2 h3 h4 => ?_, fun base hB nB hT => ?_⟩
    · obtain ⟨p2, hp2, rfl⟩ := List.mem_map.mp hp
      exact c.empty p2 hp2
    · obtain ⟨p2, hp2, rfl⟩ := List.mem_map.mp hp
      exact c.out p2 hp2
    · obtain ⟨p2, hp2, rfl⟩ := List.mem_map.mp hp
      exact PySem.W.codeHd_of_K KX (c.hd p2 hp2)
    · have b := FunD.bindsA (ps := [x]) FD hb
      exact b s [u] rfl
    · refine ⟨a, ns, rfl, h4, h1, fun z hz => sz_bits (h2 z hz), fun p hp => ?_, fun _ => rfl⟩
      obtain ⟨f, hf, rfl⟩ := List.mem_map.mp hp
      exact LamX.TabS.nil (h3 (He.cT K (f, none)) (List.mem_map.mpr ⟨(f, none), List.mem_map.mpr ⟨f, hf, rfl⟩, rfl⟩))
    · exact F w K mg base hB nB cd c.more (fun f hf => ⟨hT _ (List.mem_map.mpr ⟨(f, none), List.mem_map.mpr ⟨f, hf, rfl⟩, rfl⟩), tabL_mem hf, tabL_one (nd K c.more) hf⟩) fd FD
  · rintro w H s e s' ⟨a, B, H', cls, d', _, _, _, _, _, _, _, z⟩
    exact z
end Py
end

section
set_option Elab.async false
set_option linter.all false
set_option maxRecDepth 100000
set_option maxHeartbeats 4000000
set_option autoImplicit false
set_option exponentiation.threshold 300
namespace Law
open PySem PySem.Spec PyProof.Rows L2 Py Sq

local macro_rules | `(tactic| wtm_at "op") => `(tactic| first
  | with_reducible exact o_I0 | with_reducible exact o_add | with_reducible exact o_eqI | with_reducible exact o_neI
  | ((with_reducible apply o_mul); first | assumption | wtm_at "si")
  | ((with_reducible apply o_I); first | assumption | wtm_at "si")
  | ((with_reducible apply o_ixT); rfl) | ((with_reducible apply o_ixL); rfl)
  | ((with_reducible apply o_eqD) <;> first | rfl | decide | assumption) | ((with_reducible apply o_neD) <;> first | rfl | decide | assumption)
  | with_reducible assumption)
local macro_rules | `(tactic| wtm_at "si") => `(tactic| first | decide | exact ⟨by decide, by decide +kernel⟩ | omega)
local macro_rules | `(tactic| wtm_at "ev") => `(tactic| first
  | ((with_reducible apply e_var); rfl) | with_reducible exact e_c | with_reducible exact a_nil
  | ((with_reducible apply a_cons) <;> wtm_at "ev")
  | ((with_reducible apply e_bin) <;> first | wtm_at "ev" | wtm_at "op")
  | ((with_reducible apply e_ixO) <;> first | rfl | wtm_at "ev")
  | ((with_reducible apply e_U) <;> wtm_at "ev")
  | ((with_reducible apply t_test) <;> wtm_at "ev")
  | ((with_reducible apply t_B) <;> wtm_at "ev")
  | ((with_reducible apply t_not) <;> wtm_at "ev")
  | ((with_reducible apply e_tup) <;> first | wtm_at "ev" | exact Nat.le_of_ble_eq_true rfl)
  | ((with_reducible apply e_lst) <;> first | wtm_at "ev" | exact Nat.le_of_ble_eq_true rfl)
  | ((with_reducible apply e_gcd) <;> wtm_at "ev")
  | ((with_reducible apply e_abs) <;> wtm_at "ev")
  | ((with_reducible apply e_max2) <;> wtm_at "ev")
  | ((with_reducible apply e_int) <;> wtm_at "ev")
  | ((with_reducible apply e_intB) <;> wtm_at "ev")
  | ((with_reducible apply e_bits) <;> wtm_at "ev")
  | ((with_reducible apply e_not) <;> wtm_at "ev")
  | with_reducible assumption)

abbrev s__law_told : Stmt := top 16
theorem sc__law_told : FnScope ["what"] ["what"] (defScope s__law_told) := ⟨rfl, rfl, rfl, by decide +kernel, rfl, by decide +kernel, by decide +kernel⟩
abbrev s_law : Stmt := top 19
abbrev NL : List Str := ["script", "dice", "number", "whole", "parts", "squares", "k", "f", "rows", "x", "y", "minus", "found", "row", "wide", "due", "a", "b", "bad"]
theorem sc_law : FnScope NL ["script"] (defScope s_law) := ⟨rfl, rfl, rfl, by decide +kernel, rfl, by decide +kernel, by decide +kernel⟩
/-- the body of a def's first loop -/
def bodyF : Stmt → List Stmt
  | .For _ _ b _ _ => b
  | _ => []
structure GS (P : Program) (w : World) (K : Frg) (T : List (Addr × Str)) (mg : Str → Option Value) (base : Heap) : Prop where
  G_root_parts : Gd P w K mg base "root_parts" ["number"] 1 (spD K T (sp_parts K))
  G_root_convergents : Gd P w K mg base "root_convergents" ["number", "many"] 2 (spD K T (sp_conv K))
  G_least_point : Gd P w K mg base "least_point" ["number"] 3 (spD K T (sp_least K))
  G_minus_point : Gd P w K mg base "minus_point" ["number"] 3 (spD K T (sp_minus K))
  G_points : Gd P w K mg base "points" ["number", "many"] 4 (spD K T (sp_points K))
  G_sum_of_two_squares : Gd P w K mg base "sum_of_two_squares" ["number"] 1 (spD K T (sp_two K))
  G__law_parts : Gd P w K mg base "_law_parts" ["number"] 1 (spD K T sp_lparts)
  G__law_least : Gd P w K mg base "_law_least" ["number", "due", "most"] 1 (spD K T sp_lleast)
  G__law_roll : Gd P w K mg base "_law_roll" ["dice", "many"] 1 (spRoll K T)
  G__law_rounds : Gd P w K mg base "_law_rounds" ["script", "most"] 2 (spRounds K T)
  m_root_parts : mg "root_parts" = some (.ref (He.ga K "root_parts"))
  m_least_point : mg "least_point" = some (.ref (He.ga K "least_point"))
  m_minus_point : mg "minus_point" = some (.ref (He.ga K "minus_point"))
  F_told : ∃ fd, FunD K "_law_told" "_law_told" (defArgs s__law_told) (defBody s__law_told) (defScope s__law_told) [] [] (He.ga K "_law_told") fd
  hm_told : mg "_law_told" = some (.ref (He.ga K "_law_told"))
theorem told_body : ∃ p1 p2 p3 p4 p5 p6 p7 p8 j, defBody s__law_told = [.Try [.Return (some (.Call (.Name "what" p1) [] [] p2)) p3] [.ExceptHandler (some (.Name "NumberError" p4)) none [.Return (some (.Constant (.str "NumberError") j p5)) p6] p7] [] [] p8] := ⟨_, _, _, _, _, _, _, _, _, rfl⟩
theorem told_look : (defScope s__law_told).names.lookup ("NumberError" : Str) = some .globalImplicit := by decide +kernel
theorem told_bind : ∀ (kV doc pm : Value) (an : Option Addr) (cdv ct : Value) (us : List Value), us.length = 1 → bindArgs (PySem.W.fnOf "_law_told" "_law_told" (defArgs s__law_told) (defBody s__law_told) (defScope s__law_told) .none kV doc pm an cdv ct) ⟨us, []⟩ = pure ((["what"] : List Str).zip us) := fun _ _ _ _ _ _ us hl => match us, hl with | [_], _ => rfl
theorem told_vis : Vis (defScope s__law_told) "what" := Or.inl rfl
theorem pe_toldN {X : Cx} {T : List (Addr × Str)} {CS : Addr} {f : Str} {k : Nat} {params : Arguments} {body : Expr} {scope : Scope} {t : XK → TE} {p lpos pos : Pos}
    (F : ∃ fd, FunD X.K "_law_told" "_law_told" (defArgs s__law_told) (defBody s__law_told) (defScope s__law_told) [] [] (He.ga X.K "_law_told") fd) (hm : X.mg "_law_told" = some (.ref (He.ga X.K "_law_told"))) (hme : X.mg "NumberError" = some (.ref CS))
    (LB : LamB X.K X.base X.mg T f) (hq : X.env.qual ++ "<lambda>" = lamQ f) (hcode : X.env.code = .ref (He.cT X.K (f, none)).1) (hr : Room (k + 2) X.A) (L : LamX.LamS X.env.scope scope) (hdef : defaultsOf params X.env = ([], []))
    (hbind : ∀ (q : Str) (cl : List (Str × Addr)) (pm cv ctv : Value), bindArgs (PySem.W.kla_fn "<lambda>" q params body scope cl pm cv ctv) ⟨[], []⟩ = pure [])
    (hbody : ∀ (A : Around) (outer : List Env) (s : Shared) (H : Hp) (E : XK) (f c' : Addr), Room k (A.deeper (LamX.lamEnv X scope s.heap.objs.size f c')) → PE (LamX.lamCx X A outer s H E scope f c') body (t E)) (hg : Gl X "_law_told" := by rfl) :
    PE X (.Call (.Name "_law_told" p) [.Lambda params body scope lpos] [] pos) (LamX.tLam T (LamX.TTold X.K CS "NumberError") t) := by
  obtain ⟨p1, p2, p3, p4, p5, p6, p7, p8, j, e⟩ := told_body
  exact pe_told F hm e sc__law_told told_vis told_look (by decide) hme told_bind LB hq hcode hr L hdef hbind hbody hg
theorem pe_toldW {X : Cx} {CS : Addr} {k i : Nat} {y q : Str} {LT : List LamD} {p p9 pos : Pos}
    (F : ∃ fd, FunD X.K "_law_told" "_law_told" (defArgs s__law_told) (defBody s__law_told) (defScope s__law_told) [] [] (He.ga X.K "_law_told") fd) (hm : X.mg "_law_told" = some (.ref (He.ga X.K "_law_told"))) (hme : X.mg "NumberError" = some (.ref CS))
    (hq : X.env.qual ++ "<lambda>" = q) (hr : Room (k + 2) X.A) (ok : ∀ l ∈ LT, LamOk X k l) (hv : PE X (.Name y p9) (tVar i)) (hg : Gl X "_law_told" := by rfl) :
    PE X (.Call (.Name "_law_told" p) [.Name y p9] [] pos) (tToldV X.K q i CS "NumberError" LT) := by
  obtain ⟨p1, p2, p3, p4, p5, p6, p7, p8, j, e⟩ := told_body
  exact pe_toldV F hm e sc__law_told told_vis told_look (by decide) hme told_bind hq hr ok hv hg
/-- the loop's body -/
abbrev LBd : List Stmt := bodyF ((defBody s_law).getD 0 (.Pass ⟨0, 0, 0, 0⟩))
/-- where the law's body is read -/
abbrev XL (P : Program) (w : World) (K : Frg) (mg : Str → Option Value) (base : Heap) (A0 : Around) (outer : List Env) (s0 : Shared) (H0 : Hp) (E : XK) : Cx := cxOf (L2.CX P w) P w K mg base NL "law" (defScope s_law) (He.ga K "law") (.ref (He.cT K ("law", none)).1) A0 outer s0 H0 E
/-- a turn's end: the script is still there, and lists only -/
structure IL (S0 : SD) (A : AS) : Prop where
  ln : A.sl.length = 19
  h0 : A.sl[0]? = some S0
  st : ∀ s ∈ A.st, ∃ xs, s = .lst xs
def PF (S0 : SD) : Po := { nx := IL S0, ct := IL S0, bk := IL S0 }
/-- and the dice -/
structure IA (S0 : SD) (A : AS) (d : Dice) (c : Nat) : Prop where
  ln : A.sl.length = 19
  h0 : A.sl[0]? = some S0
  h1 : A.sl[1]? = some (.own 0)
  st : A.st = [.lst d.ds]
  dk : DOk c d
theorem exL : ∀ l : List SD, l.length = 19 → ∃ v0 v1 v2 v3 v4 v5 v6 v7 v8 v9 v10 v11 v12 v13 v14 v15 v16 v17 v18, l = [v0, v1, v2, v3, v4, v5, v6, v7, v8, v9, v10, v11, v12, v13, v14, v15, v16, v17, v18]
  | [v0, v1, v2, v3, v4, v5, v6, v7, v8, v9, v10, v11, v12, v13, v14, v15, v16, v17, v18], _ => ⟨v0, v1, v2, v3, v4, v5, v6, v7, v8, v9, v10, v11, v12, v13, v14, v15, v16, v17, v18, rfl⟩
theorem lst1 {xs : List Dt} : ∀ s ∈ [OD.lst xs], ∃ ys, s = .lst ys := fun s h => by
  obtain rfl := List.mem_singleton.mp h
  exact ⟨_, rfl⟩
def Inv0 (S0 : SD) (A : AS) : Prop := ∃ d, IA S0 A d 0
def sqsL : List Int := (List.range 20).map fun k => ((k * k : Nat) : Int)
def InvA (S0 : SD) (A : AS) : Prop := ∃ (d : Dice) (n : Nat), IA S0 A d 1 ∧ A.sl[2]? = some (.d (dN n)) ∧ A.sl[5]? = some (.d (.lst (sqsL.map di))) ∧ 2 ≤ n ∧ n < 302
def InvN (S0 : SD) (A : AS) : Prop := ∃ (d : Dice) (n : Nat), IA S0 A d 1 ∧ A.sl[2]? = some (.d (dN n)) ∧ 2 ≤ n ∧ n < 302 ∧ sq n = false
def InvX (S0 : SD) (A : AS) : Prop := ∃ (d : Dice) (n : Nat), IA S0 A d 1 ∧ A.sl[2]? = some (.d (dN n)) ∧ A.sl[9]? = some (.d (dN (lp n).1)) ∧ A.sl[10]? = some (.d (dN (lp n).2)) ∧ 2 ≤ n ∧ n < 302 ∧ sq n = false
theorem sz20 {m : Int} (h : m.natAbs < 2 ^ 20) : Sz 8000 m := Nat.lt_of_lt_of_le h (Nat.pow_le_pow_right (by decide) (by decide))
theorem t_orS {C : Ct} {t u : TT} {A : AS} {b : Bool} (h1 : EvT C t A false A) (h2 : EvT C u A b A) : EvT C (tOr t u) A b A := t_orF h1 h2
def s5 (v : SD) : Nat → SD
  | 0 => v
  | _ + 1 => .un
theorem o_isNone {C : Ct} {x : Dt} {b : Bool} (h : (x = dn ∧ b = true) ∨ (∃ ys, x = .tup ys) ∧ b = false) : OpS C (fun x y H Q => y = .non ∧ Q (.bl (decide (x = .non))) H) x dn (db b) := fun os A σ H vx vy k i1 i2 Q q => by
  refine ⟨Is.v_iff.mp i2, ?_⟩
  rcases h with ⟨rfl, rfl⟩ | ⟨⟨ys, rfl⟩, rfl⟩
  · rw [Is.v_iff.mp i1, decide_eq_true rfl]
    exact q _ H (Ex.refl _) k.tb is_v
  · rw [Is] at i1
    obtain ⟨a, vs, rfl, _⟩ := i1
    rw [decide_eq_false (by simp)]
    exact q _ H (Ex.refl _) k.tb is_v
end Law
end

section
set_option Elab.async false
set_option linter.all false
set_option maxRecDepth 100000
set_option maxHeartbeats 4000000
set_option autoImplicit false
set_option exponentiation.threshold 300
namespace Law
open PySem PySem.Spec PyProof.Rows L2 Py Sq
local macro_rules | `(tactic| wtm_at "op") => `(tactic| first
  | with_reducible exact o_I0 | with_reducible exact o_add | with_reducible exact o_eqI | with_reducible exact o_neI
  | ((with_reducible apply o_mul); first | assumption | wtm_at "si")
  | ((with_reducible apply o_I); first | assumption | wtm_at "si")
  | ((with_reducible apply o_ixT); rfl) | ((with_reducible apply o_ixL); rfl)
  | ((with_reducible apply o_eqD) <;> first | rfl | decide | assumption) | ((with_reducible apply o_neD) <;> first | rfl | decide | assumption)
  | with_reducible assumption)
local macro_rules | `(tactic| wtm_at "si") => `(tactic| first | decide | exact ⟨by decide, by decide +kernel⟩ | omega)
local macro_rules | `(tactic| wtm_at "ev") => `(tactic| first
  | ((with_reducible apply e_var); rfl) | with_reducible exact e_c | with_reducible exact a_nil
  | ((with_reducible apply a_cons) <;> wtm_at "ev")
  | ((with_reducible apply e_bin) <;> first | wtm_at "ev" | wtm_at "op")
  | ((with_reducible apply e_ixO) <;> first | rfl | wtm_at "ev")
  | ((with_reducible apply e_U) <;> wtm_at "ev")
  | ((with_reducible apply t_test) <;> wtm_at "ev")
  | ((with_reducible apply t_B) <;> wtm_at "ev")
  | ((with_reducible apply t_not) <;> wtm_at "ev")
  | ((with_reducible apply e_tup) <;> first | wtm_at "ev" | exact Nat.le_of_ble_eq_true rfl)
  | ((with_reducible apply e_lst) <;> first | wtm_at "ev" | exact Nat.le_of_ble_eq_true rfl)
  | ((with_reducible apply e_gcd) <;> wtm_at "ev")
  | ((with_reducible apply e_abs) <;> wtm_at "ev")
  | ((with_reducible apply e_max2) <;> wtm_at "ev")
  | ((with_reducible apply e_int) <;> wtm_at "ev")
  | ((with_reducible apply e_intB) <;> wtm_at "ev")
  | ((with_reducible apply e_bits) <;> wtm_at "ev")
  | ((with_reducible apply e_not) <;> wtm_at "ev")
  | with_reducible assumption)
theorem sqs_alls : (List.range 302).all (fun n => decide ((n : Int) ∈ sqsL) == sq n) = true := by decide +kernel
theorem sqs_all (n : Nat) (h : n < 302) : decide ((n : Int) ∈ sqsL) = sq n := beq_iff_eq.mp (List.all_eq_true.mp sqs_alls n (List.mem_range.mpr h))
def fsl (K : Frg) (T : List (Addr × Str)) : List (Addr × Sp) := [(He.ga K "root_parts", spD K T (sp_parts K)), (He.ga K "least_point", spD K T (sp_least K)), (He.ga K "minus_point", spD K T (sp_minus K))]
theorem fv_ok {P : Program} {w : World} {K : Frg} {T : List (Addr × Str)} {mg : Str → Option Value} {base : Heap} (Z : GS P w K T mg base) (X : Cx) (e1 : X.prog = P) (e2 : X.w = w) (e3 : X.K = K) (e4 : X.mg = mg) (e5 : X.base = base) : ∀ z ∈ fsl K T, FvOk X.prog X.w X.K X.mg X.base 4 z.1 z.2 := by
  subst e1 e2 e3 e4 e5
  intro z hz
  simp only [fsl, List.mem_cons, List.not_mem_nil, or_false] at hz
  rcases hz with rfl | rfl | rfl
  · exact Z.G_root_parts.fv Z.m_root_parts (by decide)
  · exact Z.G_least_point.fv Z.m_least_point (by decide)
  · exact Z.G_minus_point.fv Z.m_minus_point (by decide)
variable {P : Program} {w : World} {K : Frg} {T : List (Addr × Str)} {mg : Str → Option Value} {base : Heap} {A0 : Around} {outer : List Env} {s0 : Shared} {H0 : Hp} {E : XK}
theorem seg0 (Z : GS P w K T mg base) (Tx : Txt K mg) (LB : LamB K base mg T "law") (hr : Room 20 (XL P w K mg base A0 outer s0 H0 E).A)
    (next : ∃ t, PSs (XL P w K mg base A0 outer s0 H0 E) (LBd.drop 3) t ∧ ∀ S0 O A, InvA S0 A → RunS ⟨K, T, H0, O⟩ E t A (PF S0)) :
    ∃ t, PSs (XL P w K mg base A0 outer s0 H0 E) (LBd.drop 0) t ∧ ∀ S0 O A, Inv0 S0 A → RunS ⟨K, T, H0, O⟩ E t A (PF S0) := by
  obtain ⟨t', h', r0'⟩ := next
  have sc := sc_law
  refine ⟨_, (pss_cons (ps_set (i := 2) sc.nd rfl (Or.inr rfl) (pe_op op_addA pe_int (pe_callG Z.G__law_roll (hr.mono (by decide)) psE (pa_cons (pv 1) (pa_cons pe_int pa_nil)))))
  (pss_cons (ps_asg (pe_tup (pa_cons pe_int (pa_cons (pe_tup pa_nil) pa_nil))) (pg_tup rfl (pgs_cons (pg_name (i := 3) sc.nd rfl (Or.inl rfl)) (pgs_cons (pg_name (i := 4) sc.nd rfl (Or.inl rfl)) pgs_nil))))
  (pss_cons (ps_setLc (i := 5) (own := [("k", 6)]) rfl sc.nd rfl rfl (sw_true rfl rfl rfl (by decide +kernel)) (pi_range1 rfl Tx.n_range (pa_cons pe_int pa_nil)) (blkOk_by (own := [("k", 6)]) (N := ["script", "dice", "number", "whole", "parts", "squares", "k", "f", "rows", "x", "y", "minus", "found", "row", "wide", "due", "a", "b", "bad"]) (sc := defScope s_law) (by decide +kernel)) (fun _ _ _ _ _ => (pg_name (i := 6) sc.nd rfl (Or.inl rfl))) (fun _ _ _ _ _ => pts_nil) (fun _ _ _ _ _ => (pe_op (op_mulAK (K := K) rfl) (pv 6) (pv 6))))
  h'))), fun S0 O A hA => ?_⟩
  have r' := r0' S0
  clear r0'
  clear sc hr h'
  try dsimp only [XL, cxOf]
  obtain ⟨d, ln, h0, h1, st, dk⟩ := hA
  obtain ⟨sl, st'⟩ := A
  obtain rfl : st' = _ := st
  obtain ⟨v0, v1, v2, v3, v4, v5, v6, v7, v8, v9, v10, v11, v12, v13, v14, v15, v16, v17, v18, rfl⟩ := exL sl ln
  obtain rfl : _ = v0 := (Option.some.inj h0).symm
  obtain rfl : _ = v1 := (Option.some.inj h1).symm
  clear ln
  have q := roll_lt (d := d) (m := 300) (by decide)
  have d1 := roll_ok (m := 300) dk (by decide)
  refine r_seq (r_asg (d := dN (2 + rollV d 300).toNat) (e_is (e_bin e_c (e_roll (n := 0) rfl rfl e_c dk (by decide) (by decide) (sz20 (by decide))) o_add) (congrArg di (by omega))) ?_)
  obtain ⟨n, hn⟩ : ∃ n, (2 + rollV d 300).toNat = n := ⟨_, rfl⟩
  rw [hn]
  refine r_seq (r_tg (e_tup (a_cons e_c (a_cons (e_tup a_nil (by decide)) a_nil)) (by decide)) (tg_tup rfl (tgA_cons tg_name (tgA_cons tg_name tgA_nil))) ?_)
  refine r_seq (r_asg (d := .lst (sqsL.map di)) (e_is (e_lcR (w_rng1n (c := 20) (n := 20) (a_cons e_c a_nil) (by decide) (by decide)) (fun i => ⟨[S0, .own 0, .d (dN n), .d (di 0), .d (.tup []), v5, s5 v6 i, v7, v8, v9, v10, v11, v12, v13, v14, v15, v16, v17, v18], [.lst (rollD d 300).ds]⟩) (fun i => (List.range i).map fun k => dN (k * k)) rfl rfl (fun i hi O' => ?turn) (by decide)) (by simp [sqsL])) ?_)
  case turn =>
    have ei : (0 : Int) + (i : Int) = (i : Int) := by omega
    refine ⟨_, true, _, tgS_name (by simp), t_yes, .inl ⟨rfl, dN (i * i), ⟨[S0, .own 0, .d (dN n), .d (di 0), .d (.tup []), v5, .d (di (0 + (i : Int))), v7, v8, v9, v10, v11, v12, v13, v14, v15, v16, v17, v18], [.lst (rollD d 300).ds]⟩, e_mulN (e_is (e_var rfl) (congrArg di ei)) (e_is (e_var rfl) (congrArg di ei)) (f10 (by omega)) (f10 (by omega)), by simp [List.range_succ], rfl⟩⟩
  exact r' O _ ⟨rollD d 300, n, ⟨rfl, rfl, rfl, rfl, d1⟩, rfl, rfl, by omega, by omega⟩

theorem seg3 (Z : GS P w K T mg base) (Tx : Txt K mg) (LB : LamB K base mg T "law") (hr : Room 20 (XL P w K mg base A0 outer s0 H0 E).A)
    (next : ∃ t, PSs (XL P w K mg base A0 outer s0 H0 E) (LBd.drop 4) t ∧ ∀ S0 O A, InvN S0 A → RunS ⟨K, T, H0, O⟩ E t A (PF S0)) :
    ∃ t, PSs (XL P w K mg base A0 outer s0 H0 E) (LBd.drop 3) t ∧ ∀ S0 O A, InvA S0 A → RunS ⟨K, T, H0, O⟩ E t A (PF S0) := by
  obtain ⟨t', h', r0'⟩ := next
  have sc := sc_law
  refine ⟨_, (pss_cons (ps_if (pt_cmpR op_in_seq (pv 2) (pv 5) rfl) (pss_cons (ps_if (pt_cmpR (op_neA hr.units) (pe_lc (own := [("f", 7)]) rfl sc.nd (pi_list (pe_lst (pa_cons (peC (TupC.c Z.m_root_parts)) (pa_cons (peC (TupC.c Z.m_least_point)) (pa_cons (peC (TupC.c Z.m_minus_point)) pa_nil))))) (blkOk_by (own := [("f", 7)]) (N := ["script", "dice", "number", "whole", "parts", "squares", "k", "f", "rows", "x", "y", "minus", "found", "row", "wide", "due", "a", "b", "bad"]) (sc := defScope s_law) (by decide +kernel)) (fun _ _ _ _ _ => (pg_name (i := 7) sc.nd rfl (Or.inr rfl))) (fun _ _ _ _ _ => (pts_one (pt_cmpR (op_neAK (K := K) rfl hr.units) (show PE (Cx.blk (XL P w K mg base A0 outer s0 H0 E) _ _ _ _ _) _ (LamX.tLam T (LamX.TTold K (NE K) "NumberError") (fun E => tCallF 7 (fsl K T) E (tCons (tVar 2) tNil))) from (pe_toldN (f := "law") (k := 10) Z.F_told Z.hm_told Tx.gNumberError LB rfl rfl (hr.mono (by decide)) (LamX.lamS_by (by rfl)) rfl (fun _ _ _ _ _ => rfl) (fun A outer s H E f c' hr => (pe_callF (i := 7) (Fs := fsl K T) (fv_ok Z _ rfl rfl rfl rfl rfl) (hr.mono (by decide)) psF (pv 7) (pa_cons (pv 2) pa_nil))))) pe_str (nomark _)))) (fun _ _ _ _ _ => pe_int)) (pe_lst pa_nil) (nomark _)) (pss_one (ps_ret pe_bl)) pss_nil)
  (pss_one ps_continue)) pss_nil)
  h'), fun S0 O A hA => ?_⟩
  have r' := r0' S0
  clear r0'
  clear sc hr h'
  try dsimp only [XL, cxOf]
  obtain ⟨d, n, ⟨ln, h0, h1, st, dk⟩, h2, h5, n2, n3⟩ := hA
  obtain ⟨sl, st'⟩ := A
  obtain rfl : st' = _ := st
  obtain ⟨v0, v1, v2, v3, v4, v5, v6, v7, v8, v9, v10, v11, v12, v13, v14, v15, v16, v17, v18, rfl⟩ := exL sl ln
  obtain rfl : _ = v0 := (Option.some.inj h0).symm
  obtain rfl : _ = v1 := (Option.some.inj h1).symm
  obtain rfl : _ = v2 := (Option.some.inj h2).symm
  obtain rfl : _ = v5 := (Option.some.inj h5).symm
  clear ln
  have go : ∀ {A : AS} {P : Po} {t u : TS} {tt : TT}, EvT ⟨K, T, H0, O⟩ tt A false A → RunS ⟨K, T, H0, O⟩ E u A P → RunS ⟨K, T, H0, O⟩ E (tIfS tt t u) A P := fun h h' => r_ifFs h h'

  have ex := sqs_all n n3
  have hin : EvT ⟨K, T, H0, O⟩ _ _ _ _ := t_test (e_bin (C := ⟨K, T, H0, O⟩) (A := ⟨[S0, .own 0, .d (dN n), v3, v4, .d (.lst (sqsL.map di)), v6, v7, v8, v9, v10, v11, v12, v13, v14, v15, v16, v17, v18], [.lst d.ds]⟩) (e_var (i := 2) rfl) (e_var (i := 5) rfl) (o_inL (n := (n : Int))))
  cases hs : sq n with
  | false => exact r_seq (go (t_is hin (by rw [ex, hs])) (r_next (r' O _ ⟨d, n, ⟨rfl, rfl, rfl, rfl, dk⟩, rfl, n2, n3, hs⟩)))
  | true =>
    have hb : Bad (n : Int) := .inr (by rw [Int.toNat_natCast]; exact hs)
    have n1 : -1000 ≤ (n : Int) := by omega
    have n3' : (n : Int) < 302 := by omega
    have mem : ∀ a sp, (a, sp) ∈ fsl K T → (a, sp) ∈ fsl K T := fun _ _ h => h
    refine r_seq (r_ifT (t_is hin (by rw [ex, hs])) ?_)
    refine r_seq (r_ifF (t_is (t_test (e_bin (e_lcL (xs := [.v (.ref (He.ga K "root_parts")), .v (.ref (He.ga K "least_point")), .v (.ref (He.ga K "minus_point"))]) (e_lst (a_cons e_c (a_cons e_c (a_cons e_c a_nil))) (Nat.le_of_ble_eq_true rfl)) (fun i => ⟨[S0, .own 0, .d (dN n), v3, v4, .d (.lst (sqsL.map di)), v6, s5 v7 i, v8, v9, v10, v11, v12, v13, v14, v15, v16, v17, v18], [.lst d.ds]⟩) (fun _ => []) rfl rfl (fun i x hx O' => ?turn) (by simp)) (e_lst a_nil (by decide)) (o_neNil (n := 0) .nil))) rfl) (r_next ?end_))
    case end_ => exact r_cont ⟨rfl, rfl, lst1⟩
    case turn =>
      have hx' : ∃ g, (∃ a, x = .v (.ref a) ∧ (a, spD K T g) ∈ fsl K T) ∧ g [dN n] (.err (NE K)) := by
        match i, hx with
        | 0, hx => cases hx; exact ⟨sp_parts K, ⟨_, rfl, by simp [fsl]⟩, n, rfl, n1, n3', (if_pos hb).symm⟩
        | 1, hx => cases hx; exact ⟨sp_least K, ⟨_, rfl, by simp [fsl]⟩, n, rfl, n1, n3', (if_pos hb).symm⟩
        | 2, hx => cases hx; exact ⟨sp_minus K, ⟨_, rfl, by simp [fsl]⟩, n, rfl, n1, n3', (if_pos hb).symm⟩
        | i + 3, hx => simp at hx
      obtain ⟨gg, ⟨a, rfl, hz⟩, hg⟩ := hx'
      exact ⟨⟨[S0, .own 0, .d (dN n), v3, v4, .d (.lst (sqsL.map di)), v6, .d (.v (.ref a)), v8, v9, v10, v11, v12, v13, v14, v15, v16, v17, v18], [.lst d.ds]⟩, false, _, tgS_name (by simp), t_is (t_test (e_bin (e_toldErr (C := ⟨K, T, H0, O'⟩) Tx.m fun E' => x_callF (C := ⟨K, T, H0, O'⟩) hz rfl (a_cons (e_var rfl) a_nil) hg) e_c (o_ne rfl))) (by simp), .inr ⟨rfl, rfl, rfl⟩⟩
end Law
end

section
set_option Elab.async false
set_option linter.all false
set_option maxRecDepth 100000
set_option maxHeartbeats 4000000
set_option autoImplicit false
set_option exponentiation.threshold 300
namespace Law
open PySem PySem.Spec PyProof.Rows L2 Py Sq
local macro_rules | `(tactic| wtm_at "op") => `(tactic| first
  | with_reducible exact o_I0 | with_reducible exact o_add | with_reducible exact o_eqI | with_reducible exact o_neI
  | ((with_reducible apply o_mul); first | assumption | wtm_at "si")
  | ((with_reducible apply o_I); first | assumption | wtm_at "si")
  | ((with_reducible apply o_ixT); rfl) | ((with_reducible apply o_ixL); rfl)
  | ((with_reducible apply o_eqD) <;> first | rfl | decide | assumption) | ((with_reducible apply o_neD) <;> first | rfl | decide | assumption)
  | with_reducible assumption)
local macro_rules | `(tactic| wtm_at "si") => `(tactic| first | decide | exact ⟨by decide, by decide +kernel⟩ | omega)
local macro_rules | `(tactic| wtm_at "ev") => `(tactic| first
  | ((with_reducible apply e_var); rfl) | with_reducible exact e_c | with_reducible exact a_nil
  | ((with_reducible apply a_cons) <;> wtm_at "ev")
  | ((with_reducible apply e_bin) <;> first | wtm_at "ev" | wtm_at "op")
  | ((with_reducible apply e_ixO) <;> first | rfl | wtm_at "ev")
  | ((with_reducible apply e_U) <;> wtm_at "ev")
  | ((with_reducible apply t_test) <;> wtm_at "ev")
  | ((with_reducible apply t_B) <;> wtm_at "ev")
  | ((with_reducible apply t_not) <;> wtm_at "ev")
  | ((with_reducible apply e_tup) <;> first | wtm_at "ev" | exact Nat.le_of_ble_eq_true rfl)
  | ((with_reducible apply e_lst) <;> first | wtm_at "ev" | exact Nat.le_of_ble_eq_true rfl)
  | ((with_reducible apply e_gcd) <;> wtm_at "ev")
  | ((with_reducible apply e_abs) <;> wtm_at "ev")
  | ((with_reducible apply e_max2) <;> wtm_at "ev")
  | ((with_reducible apply e_int) <;> wtm_at "ev")
  | ((with_reducible apply e_intB) <;> wtm_at "ev")
  | ((with_reducible apply e_bits) <;> wtm_at "ev")
  | ((with_reducible apply e_not) <;> wtm_at "ev")
  | with_reducible assumption)
variable {P : Program} {w : World} {K : Frg} {T : List (Addr × Str)} {mg : Str → Option Value} {base : Heap} {A0 : Around} {outer : List Env} {s0 : Shared} {H0 : Hp} {E : XK}
theorem seg4 (Z : GS P w K T mg base) (Tx : Txt K mg) (LB : LamB K base mg T "law") (hr : Room 20 (XL P w K mg base A0 outer s0 H0 E).A)
    (next : ∃ t, PSs (XL P w K mg base A0 outer s0 H0 E) (LBd.drop 6) t ∧ ∀ S0 O A, InvN S0 A → RunS ⟨K, T, H0, O⟩ E t A (PF S0)) :
    ∃ t, PSs (XL P w K mg base A0 outer s0 H0 E) (LBd.drop 4) t ∧ ∀ S0 O A, InvN S0 A → RunS ⟨K, T, H0, O⟩ E t A (PF S0) := by
  obtain ⟨t', h', r0'⟩ := next
  have sc := sc_law
  refine ⟨_, (pss_cons (ps_asg (pe_callG Z.G__law_parts (hr.mono (by decide)) psE (pa_cons (pv 2) pa_nil)) (pg_tup rfl (pgs_cons (pg_name (i := 3) sc.nd rfl (Or.inl rfl)) (pgs_cons (pg_name (i := 4) sc.nd rfl (Or.inl rfl)) pgs_nil))))
  (pss_cons (ps_if (PW.pt (pw_or (pt_cmpR (op_neA hr.units) (pe_callG Z.G_root_parts (hr.mono (by decide)) psE (pa_cons (pv 2) pa_nil)) (pe_tup (pa_cons (pv 3) (pa_cons (pv 4) pa_nil))) (nomark _)) (pw_or1 (pt_cmpR (op_neA hr.units) (pe_ix ix_seq (pv 4) (pe_op op_sub (pe_callB call_len (by rfl) Tx.n_len (by decide +kernel) (pa_cons (pv 4) pa_nil)) pe_int) (fun _ _ => rfl)) (pe_op op_mulA pe_int (pv 3)) (nomark _))))) (pss_one (ps_ret pe_bl)) pss_nil)
  h')), fun S0 O A hA => ?_⟩
  have r' := r0' S0
  clear r0'
  clear sc hr h'
  try dsimp only [XL, cxOf]
  obtain ⟨d, n, ⟨ln, h0, h1, st, dk⟩, h2, n2, n3, ns⟩ := hA
  obtain ⟨sl, st'⟩ := A
  obtain rfl : st' = _ := st
  obtain ⟨v0, v1, v2, v3, v4, v5, v6, v7, v8, v9, v10, v11, v12, v13, v14, v15, v16, v17, v18, rfl⟩ := exL sl ln
  obtain rfl : _ = v0 := (Option.some.inj h0).symm
  obtain rfl : _ = v1 := (Option.some.inj h1).symm
  obtain rfl : _ = v2 := (Option.some.inj h2).symm
  clear ln
  have go : ∀ {A : AS} {P : Po} {t u : TS} {tt : TT}, EvT ⟨K, T, H0, O⟩ tt A false A → RunS ⟨K, T, H0, O⟩ E u A P → RunS ⟨K, T, H0, O⟩ E (tIfS tt t u) A P := fun h h' => r_ifFs h h'
  have N := nok_of n2 n3 ns
  have M := mok_of n2 n3 ns
  have hb : ¬ Bad (n : Int) := fun z => by
    rcases z with z | z
    · omega
    · rw [Int.toNat_natCast, ns] at z; cases z
  have eR : ∀ d, ansR K (n : Int) d = .ok d := fun d => if_neg hb
  have n1 : -1000 ≤ (n : Int) := by omega
  have n3' : (n : Int) < 302 := by omega
  obtain ⟨lx, ly⟩ := lp_le N
  have fn : Fits n := f10 (by omega)
  have fx : Fits (lp n).1 := fits_of 601 (Nat.lt_of_le_of_lt lx (Nat.pow_lt_pow_right (by decide) (by decide))) (by decide)
  have fy : Fits (lp n).2 := fits_of 601 (Nat.lt_of_le_of_lt ly (Nat.pow_lt_pow_right (by decide) (by decide))) (by decide)
  have fny : Fits (n * (lp n).2) := fits_of 700 (by
    have := Nat.mul_lt_mul_of_lt_of_le (show n < 2 ^ 9 by omega) ly (Nat.pow_pos (by decide))
    rw [← Nat.pow_add] at this
    exact Nat.lt_of_lt_of_le this (Nat.pow_le_pow_right (by decide) (by decide))) (by decide)

  refine r_seq (r_tg (e_call (a_cons (e_var rfl) a_nil) ⟨n, rfl, n3, N, rfl⟩) (tg_tup rfl (tgA_cons tg_name (tgA_cons tg_name tgA_nil))) ?_)
  have p0 := N.p0
  have w20 := N.w20
  have la : (pdl n (per n))[per n - 1]? = some (dN (R n (per n)).p) := by
    unfold pdl
    rw [List.getElem?_map, List.getElem?_range (by omega)]
    show some (dN (R n (per n - 1 + 1)).p) = _
    rw [Nat.sub_add_cancel p0]
  refine r_seq (go (t_orF (t_is (t_test (e_bin (e_is (e_call (a_cons (e_var rfl) a_nil) ⟨n, rfl, n1, n3', (eR _).symm⟩) (by rw [Int.toNat_natCast])) (e_tup (a_cons (e_var rfl) (a_cons (e_var rfl) a_nil)) (Nat.le_of_ble_eq_true rfl)) (o_neSame (n := 2) (.tup (.cons .int (.cons (.tup (niceA_map (fun _ => .int) _)) .nil)))))) rfl)
    (t_is (t_neN (e_bin (e_var rfl) (e_subN (e_is (e_lenT (e_var rfl)) (congrArg (fun k : Nat => dN k) (pdl_len n (per n)))) (e_cN 1) p0) (o_ixT (at_nat la))) (e_mulN (e_cN 2) (e_var rfl) (f10 (by decide)) (f10 (by omega)))) (by rw [decide_eq_true N.e]; rfl))) (r_next (r' O _ ⟨d, n, ⟨rfl, rfl, rfl, rfl, dk⟩, rfl, n2, n3, ns⟩)))

theorem seg6 (Z : GS P w K T mg base) (Tx : Txt K mg) (LB : LamB K base mg T "law") (hr : Room 20 (XL P w K mg base A0 outer s0 H0 E).A)
    (next : ∃ t, PSs (XL P w K mg base A0 outer s0 H0 E) (LBd.drop 8) t ∧ ∀ S0 O A, InvN S0 A → RunS ⟨K, T, H0, O⟩ E t A (PF S0)) :
    ∃ t, PSs (XL P w K mg base A0 outer s0 H0 E) (LBd.drop 6) t ∧ ∀ S0 O A, InvN S0 A → RunS ⟨K, T, H0, O⟩ E t A (PF S0) := by
  obtain ⟨t', h', r0'⟩ := next
  have sc := sc_law
  refine ⟨_, (pss_cons (ps_set (i := 8) sc.nd rfl (Or.inl rfl) (pe_callG Z.G_root_convergents (hr.mono (by decide)) psE (pa_cons (pv 2) (pa_cons pe_int pa_nil))))
  (pss_cons (ps_for (passesE) rfl (pi_enumT (K := K) rfl (by rfl) Tx.n_enumerate (pa_cons (pv 8) pa_nil)) (pg_tup rfl (pgs_cons (pg_name (i := 6) sc.nd rfl (Or.inl rfl)) (pgs_cons (pg_tup rfl (pgs_cons (pg_name (i := 9) sc.nd rfl (Or.inr rfl)) (pgs_cons (pg_name (i := 10) sc.nd rfl (Or.inr rfl)) pgs_nil))) pgs_nil))) (pss_one (ps_if (PW.pt (pw_or (pt_cmpR (op_neA hr.units) (pe_cmpR op_lt (pe_op op_mulA (pv 9) (pv 9)) (pe_op op_mulA (pe_op op_mulA (pv 2) (pv 10)) (pv 10)) (nomark _)) (pe_cmpR (op_eqA hr.units) (pe_op op_modN (pv 6) pe_int) pe_int (nomark _)) (nomark _)) (pw_or1 (PW.pt (pw_and (pt_cmpR op_gt (pv 6) pe_int (nomark _)) (pw_and1 (pt_cmpR (op_neA hr.units) (pe_callB call_abs (by rfl) Tx.n_abs (by decide +kernel) (pa_cons (pe_op op_sub (pe_op op_mulA (pv 9) (pe_ix ix_seq (pe_ix ix_seq (pv 8) (pe_op op_sub (pv 6) pe_int) (fun _ _ => rfl)) pe_int (fun _ _ => rfl))) (pe_op op_mulA (pv 10) (pe_ix ix_seq (pe_ix ix_seq (pv 8) (pe_op op_sub (pv 6) pe_int) (fun _ _ => rfl)) pe_int (fun _ _ => rfl)))) pa_nil)) pe_int (nomark _)))))))) (pss_one (ps_ret pe_bl)) pss_nil)))
  h')), fun S0 O A hA => ?_⟩
  have r' := r0' S0
  clear r0'
  clear sc hr h'
  try dsimp only [XL, cxOf]
  obtain ⟨d, n, ⟨ln, h0, h1, st, dk⟩, h2, n2, n3, ns⟩ := hA
  obtain ⟨sl, st'⟩ := A
  obtain rfl : st' = _ := st
  obtain ⟨v0, v1, v2, v3, v4, v5, v6, v7, v8, v9, v10, v11, v12, v13, v14, v15, v16, v17, v18, rfl⟩ := exL sl ln
  obtain rfl : _ = v0 := (Option.some.inj h0).symm
  obtain rfl : _ = v1 := (Option.some.inj h1).symm
  obtain rfl : _ = v2 := (Option.some.inj h2).symm
  clear ln
  have go : ∀ {A : AS} {P : Po} {t u : TS} {tt : TT}, EvT ⟨K, T, H0, O⟩ tt A false A → RunS ⟨K, T, H0, O⟩ E u A P → RunS ⟨K, T, H0, O⟩ E (tIfS tt t u) A P := fun h h' => r_ifFs h h'
  have N := nok_of n2 n3 ns
  have M := mok_of n2 n3 ns
  have hb : ¬ Bad (n : Int) := fun z => by
    rcases z with z | z
    · omega
    · rw [Int.toNat_natCast, ns] at z; cases z
  have eR : ∀ d, ansR K (n : Int) d = .ok d := fun d => if_neg hb
  have n1 : -1000 ≤ (n : Int) := by omega
  have n3' : (n : Int) < 302 := by omega
  obtain ⟨lx, ly⟩ := lp_le N
  have fn : Fits n := f10 (by omega)
  have fx : Fits (lp n).1 := fits_of 601 (Nat.lt_of_le_of_lt lx (Nat.pow_lt_pow_right (by decide) (by decide))) (by decide)
  have fy : Fits (lp n).2 := fits_of 601 (Nat.lt_of_le_of_lt ly (Nat.pow_lt_pow_right (by decide) (by decide))) (by decide)
  have fny : Fits (n * (lp n).2) := fits_of 700 (by
    have := Nat.mul_lt_mul_of_lt_of_le (show n < 2 ^ 9 by omega) ly (Nat.pow_pos (by decide))
    rw [← Nat.pow_add] at this
    exact Nat.lt_of_lt_of_le this (Nat.pow_le_pow_right (by decide) (by decide))) (by decide)

  refine r_seq (r_asg (d := .tup (cvl n 9)) (e_is (e_call (a_cons (e_var rfl) (a_cons (e_cN 9) a_nil)) ⟨n, 9, rfl, n1, n3', by decide, (eR _).symm⟩) (by rw [Int.toNat_natCast])) ?_)
  have cl := cvl_len n 9
  refine r_seq (r_forY (w_enumT (xs := cvl n 9) (a_cons (e_var rfl) a_nil) dn) (fun i A => ∃ a b c : SD, A = ⟨[S0, .own 0, .d (dN n), v3, v4, v5, a, v7, .d (.tup (cvl n 9)), b, c, v11, v12, v13, v14, v15, v16, v17, v18], [.lst d.ds]⟩) ⟨v6, v9, v10, rfl⟩ ?_ ?_)
  · rintro i A hi ⟨a, b, c, rfl⟩
    have i9 : i < 9 := by omega
    have ec : (cvl n 9).getD i dn = frN (cv n (i + 1)).1 := by
      rw [List.getD_eq_getElem?_getD]
      unfold cvl
      rw [List.getElem?_map, List.getElem?_range i9]
      rfl
    rw [ec]
    refine ⟨_, tg_tup rfl (tgA_cons tg_name (tgA_cons (tg_tup rfl (tgA_cons tg_name (tgA_cons tg_name tgA_nil))) tgA_nil)), ?_⟩
    obtain ⟨R1, R2⟩ := M.rows i i9
    obtain ⟨c1, c2, c3, c4⟩ := cv_le N (i + 1)
    have cf : ∀ x, x ≤ 64 ^ (i + 1) → Fits x := fun x hx => by
      have : (64 : Nat) ^ (i + 1) = 2 ^ (6 * (i + 1)) := by rw [Nat.pow_mul]
      rw [this] at hx
      exact Nat.lt_of_le_of_lt hx (Nat.pow_lt_pow_right (by decide) (by omega))
    have fny' : Fits (n * (cv n (i + 1)).1.2) := fits_of 100 (by
      have : (64 : Nat) ^ (i + 1) ≤ 2 ^ 60 := by
        rw [show (64 : Nat) = 2 ^ 6 from rfl, ← Nat.pow_mul]
        exact Nat.pow_le_pow_right (by decide) (by omega)
      have := Nat.mul_le_mul (show n ≤ 2 ^ 9 by omega) (Nat.le_trans c2 this)
      exact Nat.lt_of_le_of_lt this (by decide)) (by decide)
    have e2 : (cv n (i + 1)).2 = (cv n i).1 := rfl
    have back : 0 < i → (cvl n 9)[i - 1]? = some (frN (cv n (i + 1)).2) := fun h => by
      unfold cvl
      rw [List.getElem?_map, List.getElem?_range (by omega), e2]
      show some (frN (cv n (i - 1 + 1)).1) = _
      rw [Nat.sub_add_cancel h]
    refine go (t_orF (t_is (t_test (e_bin (e_bin (e_mulN (e_var rfl) (e_var rfl) (cf _ c1) (cf _ c1)) (e_mulN (e_mulN (e_var rfl) (e_var rfl) fn (cf _ c2)) (e_var rfl) fny' (cf _ c2)) o_I0) (e_bin (e_modN (e_var rfl) (e_cN 2) (by decide)) e_c o_eqI) (o_ne rfl))) ?_) ?_) (r_next ⟨_, _, _, rfl⟩)
    · have eq : decide ((((cv n (i + 1)).1.1 * (cv n (i + 1)).1.1 : Nat) : Int) < ((n * (cv n (i + 1)).1.2 * (cv n (i + 1)).1.2 : Nat) : Int)) = decide (((i % 2 : Nat) : Int) = 0) := by
        rw [decide_eq_decide, Int.ofNat_lt, R1]; omega
      rw [eq]
      simp
    · by_cases h : 0 < i
      · have ix : EvS ⟨K, T, H0, O⟩ _ _ _ _ := e_bin (C := ⟨K, T, H0, O⟩) (A := ⟨[S0, .own 0, .d (dN n), v3, v4, v5, .d (dN i), v7, .d (.tup (cvl n 9)), .d (dN (cv n (i + 1)).1.1), .d (dN (cv n (i + 1)).1.2), v11, v12, v13, v14, v15, v16, v17, v18], [.lst d.ds]⟩) (e_var (i := 8) rfl) (e_subN (e_var (i := 6) rfl) (e_cN 1) h) (o_ixT (at_nat (back h)))
        have R3 := R2.resolve_left (by omega)
        refine t_andT (t_is (t_test (e_bin (e_var rfl) e_c (o_I0 (g := fun i j => .bl (decide (j < i)))))) (decide_eq_true (show (0 : Int) < (i : Int) by omega))) (t_is (t_test (e_bin (e_abs (e_bin (e_mulN (e_var rfl) (e_bin ix e_c (o_ixT rfl)) (cf _ c1) (cf _ c4)) (e_mulN (e_var rfl) (e_bin ix e_c (o_ixT rfl)) (cf _ c2) (cf _ c3)) o_I0)) e_c o_neI)) ?_)
        have : (if (((cv n (i + 1)).1.1 * (cv n (i + 1)).2.2 : Nat) : Int) - (((cv n (i + 1)).1.2 * (cv n (i + 1)).2.1 : Nat) : Int) < 0 then -((((cv n (i + 1)).1.1 * (cv n (i + 1)).2.2 : Nat) : Int) - (((cv n (i + 1)).1.2 * (cv n (i + 1)).2.1 : Nat) : Int)) else (((cv n (i + 1)).1.1 * (cv n (i + 1)).2.2 : Nat) : Int) - (((cv n (i + 1)).1.2 * (cv n (i + 1)).2.1 : Nat) : Int)) = 1 := by
          rcases R3 with z | z <;> rw [z] <;> split <;> omega
        rw [this]
        rfl
      · exact t_andF (t_is (t_test (e_bin (e_var rfl) e_c (o_I0 (g := fun i j => .bl (decide (j < i)))))) (decide_eq_false (show ¬ (0 : Int) < (i : Int) by omega)))
  · rintro A ⟨a, b, c, rfl⟩
    exact r' O _ ⟨d, n, ⟨rfl, rfl, rfl, rfl, dk⟩, rfl, n2, n3, ns⟩
end Law
end

section
set_option Elab.async false
set_option linter.all false
set_option maxRecDepth 100000
set_option maxHeartbeats 4000000
set_option autoImplicit false
set_option exponentiation.threshold 300
namespace Law
open PySem PySem.Spec PyProof.Rows L2 Py Sq
local macro_rules | `(tactic| wtm_at "op") => `(tactic| first
  | with_reducible exact o_I0 | with_reducible exact o_add | with_reducible exact o_eqI | with_reducible exact o_neI
  | ((with_reducible apply o_mul); first | assumption | wtm_at "si")
  | ((with_reducible apply o_I); first | assumption | wtm_at "si")
  | ((with_reducible apply o_ixT); rfl) | ((with_reducible apply o_ixL); rfl)
  | ((with_reducible apply o_eqD) <;> first | rfl | decide | assumption) | ((with_reducible apply o_neD) <;> first | rfl | decide | assumption)
  | with_reducible assumption)
local macro_rules | `(tactic| wtm_at "si") => `(tactic| first | decide | exact ⟨by decide, by decide +kernel⟩ | omega)
local macro_rules | `(tactic| wtm_at "ev") => `(tactic| first
  | ((with_reducible apply e_var); rfl) | with_reducible exact e_c | with_reducible exact a_nil
  | ((with_reducible apply a_cons) <;> wtm_at "ev")
  | ((with_reducible apply e_bin) <;> first | wtm_at "ev" | wtm_at "op")
  | ((with_reducible apply e_ixO) <;> first | rfl | wtm_at "ev")
  | ((with_reducible apply e_U) <;> wtm_at "ev")
  | ((with_reducible apply t_test) <;> wtm_at "ev")
  | ((with_reducible apply t_B) <;> wtm_at "ev")
  | ((with_reducible apply t_not) <;> wtm_at "ev")
  | ((with_reducible apply e_tup) <;> first | wtm_at "ev" | exact Nat.le_of_ble_eq_true rfl)
  | ((with_reducible apply e_lst) <;> first | wtm_at "ev" | exact Nat.le_of_ble_eq_true rfl)
  | ((with_reducible apply e_gcd) <;> wtm_at "ev")
  | ((with_reducible apply e_abs) <;> wtm_at "ev")
  | ((with_reducible apply e_max2) <;> wtm_at "ev")
  | ((with_reducible apply e_int) <;> wtm_at "ev")
  | ((with_reducible apply e_intB) <;> wtm_at "ev")
  | ((with_reducible apply e_bits) <;> wtm_at "ev")
  | ((with_reducible apply e_not) <;> wtm_at "ev")
  | with_reducible assumption)
variable {P : Program} {w : World} {K : Frg} {T : List (Addr × Str)} {mg : Str → Option Value} {base : Heap} {A0 : Around} {outer : List Env} {s0 : Shared} {H0 : Hp} {E : XK}
theorem seg8 (Z : GS P w K T mg base) (Tx : Txt K mg) (LB : LamB K base mg T "law") (hr : Room 20 (XL P w K mg base A0 outer s0 H0 E).A)
    (next : ∃ t, PSs (XL P w K mg base A0 outer s0 H0 E) (LBd.drop 10) t ∧ ∀ S0 O A, InvX S0 A → RunS ⟨K, T, H0, O⟩ E t A (PF S0)) :
    ∃ t, PSs (XL P w K mg base A0 outer s0 H0 E) (LBd.drop 8) t ∧ ∀ S0 O A, InvN S0 A → RunS ⟨K, T, H0, O⟩ E t A (PF S0) := by
  obtain ⟨t', h', r0'⟩ := next
  have sc := sc_law
  refine ⟨_, (pss_cons (ps_asg (pe_callG Z.G_least_point (hr.mono (by decide)) psE (pa_cons (pv 2) pa_nil)) (pg_tup rfl (pgs_cons (pg_name (i := 9) sc.nd rfl (Or.inr rfl)) (pgs_cons (pg_name (i := 10) sc.nd rfl (Or.inr rfl)) pgs_nil))))
  (pss_cons (ps_if (PW.pt (pw_or (pt_cmpR (op_neA hr.units) (pe_op op_sub (pe_op op_mulA (pv 9) (pv 9)) (pe_op op_mulA (pe_op op_mulA (pv 2) (pv 10)) (pv 10))) pe_int (nomark _)) (pw_or (pt_cmpR op_lt (pv 10) pe_int (nomark _)) (pw_or (PW.pt (pw_and (pt_cmpR op_lt (pv 10) pe_int (nomark _)) (pw_and1 (pt_cmpR (op_neA hr.units) (pe_callG Z.G__law_least (hr.mono (by decide)) psE (pa_cons (pv 2) (pa_cons pe_int (pa_cons (pe_op op_addA (pv 10) pe_int) pa_nil)))) (pe_tup (pa_cons (pv 9) (pa_cons (pv 10) pa_nil))) (nomark _))))) (pw_or1 (PW.pt (pw_and (pt_cmpR op_ge (pv 10) pe_int (nomark _)) (pw_and1 (pt_cmpR op_notN (pe_callG Z.G__law_least (hr.mono (by decide)) psE (pa_cons (pv 2) (pa_cons pe_int (pa_cons pe_int pa_nil)))) pe_non (nomark _)))))))))) (pss_one (ps_ret pe_bl)) pss_nil)
  h')), fun S0 O A hA => ?_⟩
  have r' := r0' S0
  clear r0'
  clear sc hr h'
  try dsimp only [XL, cxOf]
  obtain ⟨d, n, ⟨ln, h0, h1, st, dk⟩, h2, n2, n3, ns⟩ := hA
  obtain ⟨sl, st'⟩ := A
  obtain rfl : st' = _ := st
  obtain ⟨v0, v1, v2, v3, v4, v5, v6, v7, v8, v9, v10, v11, v12, v13, v14, v15, v16, v17, v18, rfl⟩ := exL sl ln
  obtain rfl : _ = v0 := (Option.some.inj h0).symm
  obtain rfl : _ = v1 := (Option.some.inj h1).symm
  obtain rfl : _ = v2 := (Option.some.inj h2).symm
  clear ln
  have go : ∀ {A : AS} {P : Po} {t u : TS} {tt : TT}, EvT ⟨K, T, H0, O⟩ tt A false A → RunS ⟨K, T, H0, O⟩ E u A P → RunS ⟨K, T, H0, O⟩ E (tIfS tt t u) A P := fun h h' => r_ifFs h h'
  have N := nok_of n2 n3 ns
  have M := mok_of n2 n3 ns
  have hb : ¬ Bad (n : Int) := fun z => by
    rcases z with z | z
    · omega
    · rw [Int.toNat_natCast, ns] at z; cases z
  have eR : ∀ d, ansR K (n : Int) d = .ok d := fun d => if_neg hb
  have n1 : -1000 ≤ (n : Int) := by omega
  have n3' : (n : Int) < 302 := by omega
  obtain ⟨lx, ly⟩ := lp_le N
  have fn : Fits n := f10 (by omega)
  have fx : Fits (lp n).1 := fits_of 601 (Nat.lt_of_le_of_lt lx (Nat.pow_lt_pow_right (by decide) (by decide))) (by decide)
  have fy : Fits (lp n).2 := fits_of 601 (Nat.lt_of_le_of_lt ly (Nat.pow_lt_pow_right (by decide) (by decide))) (by decide)
  have fny : Fits (n * (lp n).2) := fits_of 700 (by
    have := Nat.mul_lt_mul_of_lt_of_le (show n < 2 ^ 9 by omega) ly (Nat.pow_pos (by decide))
    rw [← Nat.pow_add] at this
    exact Nat.lt_of_lt_of_le this (Nat.pow_le_pow_right (by decide) (by decide))) (by decide)

  refine r_seq (r_tg (d := frN (lp n)) (e_is (e_call (a_cons (e_var rfl) a_nil) ⟨n, rfl, n1, n3', (eR _).symm⟩) (by rw [Int.toNat_natCast])) (tg_tup rfl (tgA_cons tg_name (tgA_cons tg_name tgA_nil))) ?_)
  have pe := M.pell
  have y1 := M.y1
  have v1 : ∀ y, vv n 1 y = n * y * y + 1 := fun y => by unfold vv; omega
  refine r_seq (go (t_orF (t_is (t_test (e_bin (e_bin (e_mulN (e_var rfl) (e_var rfl) fx fx) (e_mulN (e_mulN (e_var rfl) (e_var rfl) fn fy) (e_var rfl) fny fy) o_I0) e_c o_neI)) ?_) (t_orF (t_is (t_ltN (e_var rfl) (e_cN 1)) (decide_eq_false (by omega))) (t_orS ?_ ?_))) (r_next (r' O _ ⟨d, n, ⟨rfl, rfl, rfl, rfl, dk⟩, rfl, rfl, rfl, n2, n3, ns⟩)))
  · have : (((lp n).1 * (lp n).1 : Nat) : Int) - ((n * (lp n).2 * (lp n).2 : Nat) : Int) = 1 := by omega
    rw [this]
    rfl
  · by_cases h : (lp n).2 < 400
    · refine t_andT (t_is (t_ltN (e_var rfl) (e_cN 400)) (decide_eq_true h)) (t_is (t_test (e_bin (e_call (a_cons (e_var rfl) (a_cons e_c (a_cons (e_addN (e_var rfl) (e_cN 1)) a_nil))) ⟨n, 1, (lp n).2 + 1, some (lp n), rfl, n2, n3, .inl rfl, by omega, .hit (lp n).1 (lp n).2 y1 (by omega) (by rw [v1]; exact pe) (fun z z1 z2 s => by rw [v1]; exact M.no1 z z1 (by omega) s), rfl⟩) (e_tup (a_cons (e_var rfl) (a_cons (e_var rfl) a_nil)) (Nat.le_of_ble_eq_true rfl)) (o_neSame (nice_p (lp n))))) rfl)
    · exact t_andF (t_is (t_ltN (e_var rfl) (e_cN 400)) (decide_eq_false h))
  · by_cases h : 400 ≤ (lp n).2
    · exact t_andT (t_is (t_test (e_bin (e_var rfl) e_c (o_I0 (g := fun i j => .bl (decide (j ≤ i)))))) (decide_eq_true (show (400 : Int) ≤ ((lp n).2 : Int) by omega))) (t_is (t_test (e_bin (e_call (a_cons (e_var rfl) (a_cons e_c (a_cons (e_cN 400) a_nil))) ⟨n, 1, 400, none, rfl, n2, n3, .inl rfl, by decide, .no (fun z z1 z2 s => by rw [v1]; exact M.no1 z z1 (by omega) s), rfl⟩) e_c (o_notNone (.inl ⟨rfl, rfl⟩)))) rfl)
    · exact t_andF (t_is (t_test (e_bin (e_var rfl) e_c (o_I0 (g := fun i j => .bl (decide (j ≤ i)))))) (decide_eq_false (show ¬ (400 : Int) ≤ ((lp n).2 : Int) by omega)))
end Law
end

section
set_option Elab.async false
set_option linter.all false
set_option maxRecDepth 100000
set_option maxHeartbeats 4000000
set_option autoImplicit false
set_option exponentiation.threshold 300
namespace Law
open PySem PySem.Spec PyProof.Rows L2 Py Sq
local macro_rules | `(tactic| wtm_at "op") => `(tactic| first
  | with_reducible exact o_I0 | with_reducible exact o_add | with_reducible exact o_eqI | with_reducible exact o_neI
  | ((with_reducible apply o_mul); first | assumption | wtm_at "si")
  | ((with_reducible apply o_I); first | assumption | wtm_at "si")
  | ((with_reducible apply o_ixT); rfl) | ((with_reducible apply o_ixL); rfl)
  | ((with_reducible apply o_eqD) <;> first | rfl | decide | assumption) | ((with_reducible apply o_neD) <;> first | rfl | decide | assumption)
  | with_reducible assumption)
local macro_rules | `(tactic| wtm_at "si") => `(tactic| first | decide | exact ⟨by decide, by decide +kernel⟩ | omega)
local macro_rules | `(tactic| wtm_at "ev") => `(tactic| first
  | ((with_reducible apply e_var); rfl) | with_reducible exact e_c | with_reducible exact a_nil
  | ((with_reducible apply a_cons) <;> wtm_at "ev")
  | ((with_reducible apply e_bin) <;> first | wtm_at "ev" | wtm_at "op")
  | ((with_reducible apply e_ixO) <;> first | rfl | wtm_at "ev")
  | ((with_reducible apply e_U) <;> wtm_at "ev")
  | ((with_reducible apply t_test) <;> wtm_at "ev")
  | ((with_reducible apply t_B) <;> wtm_at "ev")
  | ((with_reducible apply t_not) <;> wtm_at "ev")
  | ((with_reducible apply e_tup) <;> first | wtm_at "ev" | exact Nat.le_of_ble_eq_true rfl)
  | ((with_reducible apply e_lst) <;> first | wtm_at "ev" | exact Nat.le_of_ble_eq_true rfl)
  | ((with_reducible apply e_gcd) <;> wtm_at "ev")
  | ((with_reducible apply e_abs) <;> wtm_at "ev")
  | ((with_reducible apply e_max2) <;> wtm_at "ev")
  | ((with_reducible apply e_int) <;> wtm_at "ev")
  | ((with_reducible apply e_intB) <;> wtm_at "ev")
  | ((with_reducible apply e_bits) <;> wtm_at "ev")
  | ((with_reducible apply e_not) <;> wtm_at "ev")
  | with_reducible assumption)
variable {P : Program} {w : World} {K : Frg} {T : List (Addr × Str)} {mg : Str → Option Value} {base : Heap} {A0 : Around} {outer : List Env} {s0 : Shared} {H0 : Hp} {E : XK}
theorem seg10 (Z : GS P w K T mg base) (Tx : Txt K mg) (LB : LamB K base mg T "law") (hr : Room 20 (XL P w K mg base A0 outer s0 H0 E).A)
    (next : ∃ t, PSs (XL P w K mg base A0 outer s0 H0 E) (LBd.drop 12) t ∧ ∀ S0 O A, InvX S0 A → RunS ⟨K, T, H0, O⟩ E t A (PF S0)) :
    ∃ t, PSs (XL P w K mg base A0 outer s0 H0 E) (LBd.drop 10) t ∧ ∀ S0 O A, InvX S0 A → RunS ⟨K, T, H0, O⟩ E t A (PF S0) := by
  obtain ⟨t', h', r0'⟩ := next
  have sc := sc_law
  refine ⟨_, (pss_cons (ps_set (i := 11) sc.nd rfl (Or.inl rfl) (pe_callG Z.G_minus_point (hr.mono (by decide)) psE (pa_cons (pv 2) pa_nil)))
  (pss_cons (ps_if (PW.pt (pw_or (PW.pt (pw_and (pt_cmpR op_notN (pv 11) pe_non (nomark _)) (pw_and1 (PW.pt (pw_or (pt_cmpR (op_neA hr.units) (pe_op op_sub (pe_op op_mulA (pe_ix ix_seq (pv 11) pe_int (fun _ _ => rfl)) (pe_ix ix_seq (pv 11) pe_int (fun _ _ => rfl))) (pe_op op_mulA (pe_op op_mulA (pv 2) (pe_ix ix_seq (pv 11) pe_int (fun _ _ => rfl))) (pe_ix ix_seq (pv 11) pe_int (fun _ _ => rfl)))) (pe_un un_neg pe_int) (nomark _)) (pw_or1 (pt_cmpR (op_neA hr.units) (pe_tup (pa_cons (pe_op op_addA (pe_op op_mulA (pe_op op_mulA pe_int (pe_ix ix_seq (pv 11) pe_int (fun _ _ => rfl))) (pe_ix ix_seq (pv 11) pe_int (fun _ _ => rfl))) pe_int) (pa_cons (pe_op op_mulA (pe_op op_mulA pe_int (pe_ix ix_seq (pv 11) pe_int (fun _ _ => rfl))) (pe_ix ix_seq (pv 11) pe_int (fun _ _ => rfl))) pa_nil))) (pe_tup (pa_cons (pv 9) (pa_cons (pv 10) pa_nil))) (nomark _)))))))) (pw_or1 (PW.pt (pw_and (pt_cmpR op_isN (pv 11) pe_non (nomark _)) (pw_and1 (pt_cmpR op_notN (pe_callG Z.G__law_least (hr.mono (by decide)) psE (pa_cons (pv 2) (pa_cons (pe_un un_neg pe_int) (pa_cons pe_int pa_nil)))) pe_non (nomark _)))))))) (pss_one (ps_ret pe_bl)) pss_nil)
  h')), fun S0 O A hA => ?_⟩
  have r' := r0' S0
  clear r0'
  clear sc hr h'
  try dsimp only [XL, cxOf]
  obtain ⟨d, n, ⟨ln, h0, h1, st, dk⟩, h2, h9, h10, n2, n3, ns⟩ := hA
  obtain ⟨sl, st'⟩ := A
  obtain rfl : st' = _ := st
  obtain ⟨v0, v1, v2, v3, v4, v5, v6, v7, v8, v9, v10, v11, v12, v13, v14, v15, v16, v17, v18, rfl⟩ := exL sl ln
  obtain rfl : _ = v0 := (Option.some.inj h0).symm
  obtain rfl : _ = v1 := (Option.some.inj h1).symm
  obtain rfl : _ = v2 := (Option.some.inj h2).symm
  obtain rfl : _ = v9 := (Option.some.inj h9).symm
  obtain rfl : _ = v10 := (Option.some.inj h10).symm
  clear ln
  have go : ∀ {A : AS} {P : Po} {t u : TS} {tt : TT}, EvT ⟨K, T, H0, O⟩ tt A false A → RunS ⟨K, T, H0, O⟩ E u A P → RunS ⟨K, T, H0, O⟩ E (tIfS tt t u) A P := fun h h' => r_ifFs h h'
  have N := nok_of n2 n3 ns
  have M := mok_of n2 n3 ns
  have hb : ¬ Bad (n : Int) := fun z => by
    rcases z with z | z
    · omega
    · rw [Int.toNat_natCast, ns] at z; cases z
  have eR : ∀ d, ansR K (n : Int) d = .ok d := fun d => if_neg hb
  have n1 : -1000 ≤ (n : Int) := by omega
  have n3' : (n : Int) < 302 := by omega
  obtain ⟨lx, ly⟩ := lp_le N
  have fn : Fits n := f10 (by omega)
  have fx : Fits (lp n).1 := fits_of 601 (Nat.lt_of_le_of_lt lx (Nat.pow_lt_pow_right (by decide) (by decide))) (by decide)
  have fy : Fits (lp n).2 := fits_of 601 (Nat.lt_of_le_of_lt ly (Nat.pow_lt_pow_right (by decide) (by decide))) (by decide)
  have fny : Fits (n * (lp n).2) := fits_of 700 (by
    have := Nat.mul_lt_mul_of_lt_of_le (show n < 2 ^ 9 by omega) ly (Nat.pow_pos (by decide))
    rw [← Nat.pow_add] at this
    exact Nat.lt_of_lt_of_le this (Nat.pow_le_pow_right (by decide) (by decide))) (by decide)

  have e0 : EvS ⟨K, T, H0, O⟩ _ _ _ _ := e_call (C := ⟨K, T, H0, O⟩) (A := ⟨[S0, .own 0, .d (dN n), v3, v4, v5, v6, v7, v8, .d (dN (lp n).1), .d (dN (lp n).2), v11, v12, v13, v14, v15, v16, v17, v18], [.lst d.ds]⟩) (E' := E) (a_cons (e_var (i := 2) rfl) a_nil) (g := sp_minus K) ⟨n, rfl, n1, n3', (eR _).symm⟩
  have v1 : ∀ y, vv n (-1) y = n * y * y - 1 := fun y => by unfold vv; omega
  by_cases hp : per n % 2 = 0
  · refine r_seq (r_asg (d := dn) (e_is e0 (by rw [Int.toNat_natCast, if_pos hp])) ?_)
    exact r_seq (go (t_orF (t_andF (t_is (t_test (e_bin (e_var rfl) e_c (o_notNone (.inl ⟨rfl, rfl⟩)))) rfl)) (t_andT (t_is (t_test (e_bin (e_var rfl) e_c (o_isNone (.inl ⟨rfl, rfl⟩)))) rfl) (t_is (t_test (e_bin (e_call (a_cons (e_var rfl) (a_cons (e_U e_c) (a_cons (e_cN 200) a_nil))) ⟨n, -1, 200, none, rfl, n2, n3, .inr rfl, by decide, .no (fun z z1 z2 s => by rw [v1]; exact M.nom hp z z1 (by omega) s), rfl⟩) e_c (o_notNone (.inl ⟨rfl, rfl⟩)))) rfl))) (r_next (r' O _ ⟨d, n, ⟨rfl, rfl, rfl, rfl, dk⟩, rfl, rfl, rfl, n2, n3, ns⟩)))
  · obtain ⟨g1, g2, g3⟩ := M.neg hp
    obtain ⟨mx, my, _, _⟩ := cv_le N (per n)
    have p50 := N.p50
    have big : (64 : Nat) ^ per n ≤ 2 ^ 300 := by
      rw [show (64 : Nat) = 2 ^ 6 from rfl, ← Nat.pow_mul]
      exact Nat.pow_le_pow_right (by decide) (by omega)
    have fmx : Fits (mp n).1 := fits_of 301 (Nat.lt_of_le_of_lt (Nat.le_trans mx big) (Nat.pow_lt_pow_right (by decide) (by decide))) (by decide)
    have fmy : Fits (mp n).2 := fits_of 301 (Nat.lt_of_le_of_lt (Nat.le_trans my big) (Nat.pow_lt_pow_right (by decide) (by decide))) (by decide)
    have fmm : Fits (n * (mp n).2) := fits_of 400 (by
      have := Nat.mul_lt_mul_of_lt_of_le (show n < 2 ^ 9 by omega) (Nat.le_trans my big) (Nat.pow_pos (by decide))
      rw [← Nat.pow_add] at this
      exact Nat.lt_of_lt_of_le this (Nat.pow_le_pow_right (by decide) (by decide))) (by decide)
    have f2m : Fits (2 * (mp n).1) := fits_of 400 (by
      have := Nat.mul_le_mul_left 2 (Nat.le_trans mx big)
      exact Nat.lt_of_le_of_lt this (by decide +kernel)) (by decide)
    refine r_seq (r_asg (d := frN (mp n)) (e_is e0 (by rw [Int.toNat_natCast, if_neg hp])) ?_)
    refine r_seq (go (t_orF (t_andT (t_is (t_test (e_bin (e_var rfl) e_c (o_notNone (.inr ⟨⟨_, rfl⟩, rfl⟩)))) rfl) (t_orF (t_is (t_test (e_bin (e_bin (e_mulN (e_bin (e_var rfl) e_c (o_ixT rfl)) (e_bin (e_var rfl) e_c (o_ixT rfl)) fmx fmx) (e_mulN (e_mulN (e_var rfl) (e_bin (e_var rfl) e_c (o_ixT rfl)) fn fmy) (e_bin (e_var rfl) e_c (o_ixT rfl)) fmm fmy) o_I0) (e_U e_c) o_neI)) ?_) (t_is (t_test (e_bin (e_is (e_tup (a_cons (e_addN (e_mulN (e_mulN (e_cN 2) (e_bin (e_var rfl) e_c (o_ixT rfl)) (f10 (by decide)) fmx) (e_bin (e_var rfl) e_c (o_ixT rfl)) f2m fmx) (e_cN 1)) (a_cons (e_mulN (e_mulN (e_cN 2) (e_bin (e_var rfl) e_c (o_ixT rfl)) (f10 (by decide)) fmx) (e_bin (e_var rfl) e_c (o_ixT rfl)) f2m fmy) a_nil)) (Nat.le_of_ble_eq_true rfl)) (show Dt.tup [dN (2 * (mp n).1 * (mp n).1 + 1), dN (2 * (mp n).1 * (mp n).2)] = frN (lp n) by rw [g2, g3])) (e_tup (a_cons (e_var rfl) (a_cons (e_var rfl) a_nil)) (Nat.le_of_ble_eq_true rfl)) (o_neSame (nice_p (lp n))))) rfl))) (t_andF (t_is (t_test (e_bin (e_var rfl) e_c (o_isNone (.inr ⟨⟨_, rfl⟩, rfl⟩)))) rfl))) (r_next (r' O _ ⟨d, n, ⟨rfl, rfl, rfl, rfl, dk⟩, rfl, rfl, rfl, n2, n3, ns⟩)))
    have : (((mp n).1 * (mp n).1 : Nat) : Int) - ((n * (mp n).2 * (mp n).2 : Nat) : Int) = -1 := by omega
    rw [this]
    rfl
end Law
end

section
set_option Elab.async false
set_option linter.all false
set_option maxRecDepth 100000
set_option maxHeartbeats 4000000
set_option autoImplicit false
set_option exponentiation.threshold 300
namespace Law
open PySem PySem.Spec PyProof.Rows L2 Py Sq
local macro_rules | `(tactic| wtm_at "op") => `(tactic| first
  | with_reducible exact o_I0 | with_reducible exact o_add | with_reducible exact o_eqI | with_reducible exact o_neI
  | ((with_reducible apply o_mul); first | assumption | wtm_at "si")
  | ((with_reducible apply o_I); first | assumption | wtm_at "si")
  | ((with_reducible apply o_ixT); rfl) | ((with_reducible apply o_ixL); rfl)
  | ((with_reducible apply o_eqD) <;> first | rfl | decide | assumption) | ((with_reducible apply o_neD) <;> first | rfl | decide | assumption)
  | with_reducible assumption)
local macro_rules | `(tactic| wtm_at "si") => `(tactic| first | decide | exact ⟨by decide, by decide +kernel⟩ | omega)
local macro_rules | `(tactic| wtm_at "ev") => `(tactic| first
  | ((with_reducible apply e_var); rfl) | with_reducible exact e_c | with_reducible exact a_nil
  | ((with_reducible apply a_cons) <;> wtm_at "ev")
  | ((with_reducible apply e_bin) <;> first | wtm_at "ev" | wtm_at "op")
  | ((with_reducible apply e_ixO) <;> first | rfl | wtm_at "ev")
  | ((with_reducible apply e_U) <;> wtm_at "ev")
  | ((with_reducible apply t_test) <;> wtm_at "ev")
  | ((with_reducible apply t_B) <;> wtm_at "ev")
  | ((with_reducible apply t_not) <;> wtm_at "ev")
  | ((with_reducible apply e_tup) <;> first | wtm_at "ev" | exact Nat.le_of_ble_eq_true rfl)
  | ((with_reducible apply e_lst) <;> first | wtm_at "ev" | exact Nat.le_of_ble_eq_true rfl)
  | ((with_reducible apply e_gcd) <;> wtm_at "ev")
  | ((with_reducible apply e_abs) <;> wtm_at "ev")
  | ((with_reducible apply e_max2) <;> wtm_at "ev")
  | ((with_reducible apply e_int) <;> wtm_at "ev")
  | ((with_reducible apply e_intB) <;> wtm_at "ev")
  | ((with_reducible apply e_bits) <;> wtm_at "ev")
  | ((with_reducible apply e_not) <;> wtm_at "ev")
  | with_reducible assumption)
def pint (n : Nat) : List (Int × Int) := (List.range 4).map fun j => (((pt n (lp n).1 (lp n).2 (j + 1)).1 : Int), ((pt n (lp n).1 (lp n).2 (j + 1)).2 : Int))
theorem o_neSameE {C : Ct} {n : Nat} {x y : Dt} {p : PyData} (h : Nice n y p) (e : x = y) (hn : n ≤ 64 := by decide) : OpS C (rNeA C.K) x y (db false) := by
  rw [e]
  exact o_neSame h hn
variable {P : Program} {w : World} {K : Frg} {T : List (Addr × Str)} {mg : Str → Option Value} {base : Heap} {A0 : Around} {outer : List Env} {s0 : Shared} {H0 : Hp} {E : XK}
theorem seg12 (Z : GS P w K T mg base) (Tx : Txt K mg) (LB : LamB K base mg T "law") (hr : Room 20 (XL P w K mg base A0 outer s0 H0 E).A)
    (next : ∃ t, PSs (XL P w K mg base A0 outer s0 H0 E) (LBd.drop 15) t ∧ ∀ S0 O A, InvN S0 A → RunS ⟨K, T, H0, O⟩ E t A (PF S0)) :
    ∃ t, PSs (XL P w K mg base A0 outer s0 H0 E) (LBd.drop 12) t ∧ ∀ S0 O A, InvX S0 A → RunS ⟨K, T, H0, O⟩ E t A (PF S0) := by
  obtain ⟨t', h', r0'⟩ := next
  have sc := sc_law
  refine ⟨_, (pss_cons (ps_set (i := 12) sc.nd rfl (Or.inr rfl) (pe_callG Z.G_points (hr.mono (by decide)) psE (pa_cons (pv 2) (pa_cons pe_int pa_nil))))
  (pss_cons (ps_if (PW.pt (pw_or (pt_cmpR (op_neA hr.units) (pe_lc (own := [("row", 13)]) rfl sc.nd (pi_tup (pv 12)) (blkOk_by (own := [("row", 13)]) (N := ["script", "dice", "number", "whole", "parts", "squares", "k", "f", "rows", "x", "y", "minus", "found", "row", "wide", "due", "a", "b", "bad"]) (sc := defScope s_law) (by decide +kernel)) (fun _ _ _ _ _ => (pg_name (i := 13) sc.nd rfl (Or.inl rfl))) (fun _ _ _ _ _ => (pts_one (pt_cmpR (op_neAK (K := K) rfl hr.units) (pe_op op_sub (pe_op (op_mulAK (K := K) rfl) (pe_ix (ix_seqK (K := K) rfl) (pv 13) pe_int (fun _ _ => rfl)) (pe_ix (ix_seqK (K := K) rfl) (pv 13) pe_int (fun _ _ => rfl))) (pe_op (op_mulAK (K := K) rfl) (pe_op (op_mulAK (K := K) rfl) (pv 2) (pe_ix (ix_seqK (K := K) rfl) (pv 13) pe_int (fun _ _ => rfl))) (pe_ix (ix_seqK (K := K) rfl) (pv 13) pe_int (fun _ _ => rfl)))) pe_int (nomark _)))) (fun _ _ _ _ _ => (pv 13))) (pe_lst pa_nil) (nomark _)) (pw_or (pt_cmpR (op_neA hr.units) (pe_callTy call_list_of (by rfl) Tx.n_list (by decide +kernel) (pa_cons (pv 12) pa_nil)) (pe_callB cr_sortQ (by rfl) Tx.n_sorted (by decide +kernel) (pa_cons (pv 12) pa_nil)) (nomark _)) (pw_or1 (pt_cmpR (op_neA hr.units) (pe_ix ix_seq (pv 12) pe_int (fun _ _ => rfl)) (pe_tup (pa_cons (pv 9) (pa_cons (pv 10) pa_nil))) (nomark _)))))) (pss_one (ps_ret pe_bl)) pss_nil)
  (pss_cons (ps_if (PW.pt (pw_and (pt_cmpR op_lt (pv 10) pe_int (nomark _)) (pw_and1 (pt_cmpR (op_neA hr.units) (pe_lc (own := [("row", 13)]) rfl sc.nd (pi_list (pe_lst (pa_cons (pe_tup (pa_cons (pe_ix ix_seq (pe_ix ix_seq (pv 12) pe_int (fun _ _ => rfl)) pe_int (fun _ _ => rfl)) (pa_cons (pe_ix ix_seq (pe_ix ix_seq (pv 12) pe_int (fun _ _ => rfl)) pe_int (fun _ _ => rfl)) pa_nil))) pa_nil))) (blkOk_by (own := [("row", 13)]) (N := ["script", "dice", "number", "whole", "parts", "squares", "k", "f", "rows", "x", "y", "minus", "found", "row", "wide", "due", "a", "b", "bad"]) (sc := defScope s_law) (by decide +kernel)) (fun _ _ _ _ _ => (pg_name (i := 13) sc.nd rfl (Or.inl rfl))) (fun _ _ _ _ _ => (pts_one (pt_cmpR (op_neAK (K := K) rfl hr.units) (pe_callG Z.G__law_least (hr.mono (by decide)) passL (pa_cons (pv 2) (pa_cons pe_int (pa_cons (pe_ix (ix_seqK (K := K) rfl) (pe_ix (ix_seqK (K := K) rfl) (pv 12) pe_int (fun _ _ => rfl)) pe_int (fun _ _ => rfl)) pa_nil)))) (pe_tup (pa_cons (pv 9) (pa_cons (pv 10) pa_nil))) (nomark _)))) (fun _ _ _ _ _ => (pv 13))) (pe_lst pa_nil) (nomark _))))) (pss_one (ps_ret pe_bl)) pss_nil)
  h'))), fun S0 O A hA => ?_⟩
  have r' := r0' S0
  clear r0'
  clear sc hr h'
  try dsimp only [XL, cxOf]
  obtain ⟨d, n, ⟨ln, h0, h1, st, dk⟩, h2, h9, h10, n2, n3, ns⟩ := hA
  obtain ⟨sl, st'⟩ := A
  obtain rfl : st' = _ := st
  obtain ⟨v0, v1, v2, v3, v4, v5, v6, v7, v8, v9, v10, v11, v12, v13, v14, v15, v16, v17, v18, rfl⟩ := exL sl ln
  obtain rfl : _ = v0 := (Option.some.inj h0).symm
  obtain rfl : _ = v1 := (Option.some.inj h1).symm
  obtain rfl : _ = v2 := (Option.some.inj h2).symm
  obtain rfl : _ = v9 := (Option.some.inj h9).symm
  obtain rfl : _ = v10 := (Option.some.inj h10).symm
  clear ln
  have go : ∀ {A : AS} {P : Po} {t u : TS} {tt : TT}, EvT ⟨K, T, H0, O⟩ tt A false A → RunS ⟨K, T, H0, O⟩ E u A P → RunS ⟨K, T, H0, O⟩ E (tIfS tt t u) A P := fun h h' => r_ifFs h h'
  have N := nok_of n2 n3 ns
  have M := mok_of n2 n3 ns
  have hb : ¬ Bad (n : Int) := fun z => by
    rcases z with z | z
    · omega
    · rw [Int.toNat_natCast, ns] at z; cases z
  have eR : ∀ d, ansR K (n : Int) d = .ok d := fun d => if_neg hb
  have n1 : -1000 ≤ (n : Int) := by omega
  have n3' : (n : Int) < 302 := by omega
  obtain ⟨lx, ly⟩ := lp_le N
  have fn : Fits n := f10 (by omega)
  have fx : Fits (lp n).1 := fits_of 601 (Nat.lt_of_le_of_lt lx (Nat.pow_lt_pow_right (by decide) (by decide))) (by decide)
  have fy : Fits (lp n).2 := fits_of 601 (Nat.lt_of_le_of_lt ly (Nat.pow_lt_pow_right (by decide) (by decide))) (by decide)
  have fny : Fits (n * (lp n).2) := fits_of 700 (by
    have := Nat.mul_lt_mul_of_lt_of_le (show n < 2 ^ 9 by omega) ly (Nat.pow_pos (by decide))
    rw [← Nat.pow_add] at this
    exact Nat.lt_of_lt_of_le this (Nat.pow_le_pow_right (by decide) (by decide))) (by decide)

  refine r_seq (r_asg (d := .tup (ptl n 4)) (e_is (e_call (a_cons (e_var rfl) (a_cons (e_cN 4) a_nil)) ⟨n, 4, rfl, n1, n3', by decide, (eR _).symm⟩) (by rw [Int.toNat_natCast])) ?_)
  have f8 : ∀ i, i ≤ 5 → Fits (pt n (lp n).1 (lp n).2 i).1 ∧ Fits (pt n (lp n).1 (lp n).2 i).2 := fun i hi => by
    obtain ⟨a, b⟩ := pt_le N n3 i hi
    exact ⟨Nat.lt_of_le_of_lt a (Nat.pow_lt_pow_right (by decide) (by omega)), Nat.lt_of_le_of_lt b (Nat.pow_lt_pow_right (by decide) (by omega))⟩
  have p1 : pt n (lp n).1 (lp n).2 1 = lp n := by
    show ((1 * (lp n).1 + n * 0 * (lp n).2, 1 * (lp n).2 + 0 * (lp n).1) : Nat × Nat) = _
    simp
  have pl : ptl n 4 = [frN (lp n), frN (pt n (lp n).1 (lp n).2 2), frN (pt n (lp n).1 (lp n).2 3), frN (pt n (lp n).1 (lp n).2 4)] := by
    have e : ptl n 4 = [frN (pt n (lp n).1 (lp n).2 1), frN (pt n (lp n).1 (lp n).2 2), frN (pt n (lp n).1 (lp n).2 3), frN (pt n (lp n).1 (lp n).2 4)] := rfl
    rw [e, p1]
  have a0 := M.asc 0 (by decide)
  have a1 := M.asc 1 (by decide)
  have a2 := M.asc 2 (by decide)
  rw [p1] at a0
  have srt : ∀ qs : List (Int × Int), qs.Perm (pint n) → qs.Pairwise (fun x y => SrtO.lexB y x = false) → qs = pint n := fun qs hq hp => by
    refine hq.eq_of_pairwise (fun x y _ _ h1 h2 => ?_) hp ?_
    · have h1 := SrtO.lexB_no.mp h1
      have h2 := SrtO.lexB_no.mp h2
      exact Prod.ext (by omega) (by omega)
    · unfold pint
      rw [List.pairwise_map]
      have key : ∀ i j : Nat, i < 4 → j < 4 → i < j → (pt n (lp n).1 (lp n).2 (i + 1)).1 < (pt n (lp n).1 (lp n).2 (j + 1)).1 := fun i j hi hj hij => by
        have b0 : (pt n (lp n).1 (lp n).2 1).1 < (pt n (lp n).1 (lp n).2 2).1 := M.asc 0 (by decide)
        have b1 : (pt n (lp n).1 (lp n).2 2).1 < (pt n (lp n).1 (lp n).2 3).1 := M.asc 1 (by decide)
        have b2 : (pt n (lp n).1 (lp n).2 3).1 < (pt n (lp n).1 (lp n).2 4).1 := M.asc 2 (by decide)
        have h : (i = 0 ∧ (j = 1 ∨ j = 2 ∨ j = 3)) ∨ (i = 1 ∧ (j = 2 ∨ j = 3)) ∨ (i = 2 ∧ j = 3) := by omega
        rcases h with ⟨rfl, rfl | rfl | rfl⟩ | ⟨rfl, rfl | rfl⟩ | ⟨rfl, rfl⟩ <;> simp only [Nat.reduceAdd, Nat.zero_add] <;> omega
      refine (List.pairwise_lt_range (n := 4)).imp_of_mem fun {i j} hi hj hij => SrtO.lexB_no.mpr fun z => ?_
      have := key i j (List.mem_range.mp hi) (List.mem_range.mp hj) hij
      dsimp only at z
      omega
  have ep : ptl n 4 = (pint n).map fr := by simp [ptl, pint, fr]
  refine r_seq (r_ifF (t_orF (t_is (t_test (e_bin (e_lcT (xs := ptl n 4) (e_var rfl) (fun i => ⟨[S0, .own 0, .d (dN n), v3, v4, v5, v6, v7, v8, .d (dN (lp n).1), .d (dN (lp n).2), v11, .d (.tup (ptl n 4)), s5 v13 i, v14, v15, v16, v17, v18], [.lst d.ds]⟩) (fun _ => []) rfl rfl (fun i x hx O' => ?turn) (by rw [ptl_len]; decide)) (e_lst a_nil (by decide)) (o_neNil (n := 0) .nil))) rfl) (t_orF (t_is (t_test (e_bin (e_listT (e_var rfl)) (e_sortQT (ps := pint n) (ms := pint n) (e_is (e_var rfl) (congrArg Dt.tup ep)) srt) (o_neSameE (n := 2) (.lst (niceA_map nice_fr (pint n))) (congrArg Dt.lst ep)))) rfl) (t_is (t_test (e_bin (e_bin (e_var rfl) e_c (o_ixT (d := frN (lp n)) (by rw [pl]; rfl))) (e_tup (a_cons (e_var rfl) (a_cons (e_var rfl) a_nil)) (Nat.le_of_ble_eq_true rfl)) (o_neSame (nice_p (lp n))))) rfl))) (r_next ?_))
  case turn =>
    have hi : i < 4 := by
      have := (List.getElem?_eq_some_iff.mp hx).1
      rwa [ptl_len] at this
    obtain rfl : frN (pt n (lp n).1 (lp n).2 (i + 1)) = x := by
      unfold ptl at hx
      rw [List.getElem?_map, List.getElem?_range hi] at hx
      exact Option.some.inj hx
    obtain ⟨fa, fb⟩ := f8 (i + 1) (by omega)
    have fnb : PMul ((n * (pt n (lp n).1 (lp n).2 (i + 1)).2 : Nat) : Int) (((pt n (lp n).1 (lp n).2 (i + 1)).2 : Nat) : Int) := mulX 8000 4000 (by
      rw [Int.natAbs_natCast]
      have := Nat.mul_lt_mul_of_lt_of_le fn (Nat.le_of_lt fb) (Nat.pow_pos (by decide))
      rw [← Nat.pow_add] at this
      exact this) (by rw [Int.natAbs_natCast]; exact fb)
    have pp := M.pts i hi
    refine ⟨⟨[S0, .own 0, .d (dN n), v3, v4, v5, v6, v7, v8, .d (dN (lp n).1), .d (dN (lp n).2), v11, .d (.tup (ptl n 4)), .d (frN (pt n (lp n).1 (lp n).2 (i + 1))), v14, v15, v16, v17, v18], [.lst d.ds]⟩, false, _, tgS_name (by simp), t_is (t_test (e_bin (e_bin (e_mulN (e_bin (e_var rfl) e_c (o_ixT rfl)) (e_bin (e_var rfl) e_c (o_ixT rfl)) fa fa) (e_bin (e_mulN (e_var rfl) (e_bin (e_var rfl) e_c (o_ixT rfl)) fn fb) (e_bin (e_var rfl) e_c (o_ixT rfl)) (o_mul fnb)) o_I0) e_c o_neI)) ?_, .inr ⟨rfl, rfl, rfl⟩⟩
    have : (((pt n (lp n).1 (lp n).2 (i + 1)).1 * (pt n (lp n).1 (lp n).2 (i + 1)).1 : Nat) : Int) - (((n * (pt n (lp n).1 (lp n).2 (i + 1)).2 : Nat) : Int) * (((pt n (lp n).1 (lp n).2 (i + 1)).2 : Nat) : Int)) = 1 := by
      rw [← Int.natCast_mul]
      omega
    rw [this]
    rfl
  have v1 : ∀ y, vv n 1 y = n * y * y + 1 := fun y => by unfold vv; omega
  obtain ⟨fc, fd⟩ := f8 2 (by decide)
  have done : ∀ {u : SD}, RunS ⟨K, T, H0, O⟩ E t' ⟨[S0, .own 0, .d (dN n), v3, v4, v5, v6, v7, v8, .d (dN (lp n).1), .d (dN (lp n).2), v11, .d (.tup (ptl n 4)), u, v14, v15, v16, v17, v18], [.lst d.ds]⟩ (PF S0) := r' O _ ⟨d, n, ⟨rfl, rfl, rfl, rfl, dk⟩, rfl, n2, n3, ns⟩
  by_cases h : (lp n).2 < 20
  · obtain ⟨nr1, nr2⟩ := M.near h
    have ix : ∀ {O'} {A : AS}, A.sl[12]? = some (.d (.tup (ptl n 4))) → EvS ⟨K, T, H0, O'⟩ (tOp (rIx K) (tVar 12) (tC (.int 1))) A (frN (pt n (lp n).1 (lp n).2 2)) A := fun h => e_bin (C := ⟨K, T, H0, _⟩) (e_var h) e_c (o_ixT (by rw [pl]; rfl))
    refine r_seq (r_ifF (t_andT (t_is (t_ltN (e_var rfl) (e_cN 20)) (decide_eq_true h)) (t_is (t_test (e_bin (e_lcL (xs := [frN (pt n (lp n).1 (lp n).2 2)]) (e_lst (a_cons (e_tup (a_cons (e_bin (ix rfl) e_c (o_ixT rfl)) (a_cons (e_bin (ix rfl) e_c (o_ixT rfl)) a_nil)) (Nat.le_of_ble_eq_true rfl)) a_nil) (Nat.le_of_ble_eq_true rfl)) (fun i => ⟨[S0, .own 0, .d (dN n), v3, v4, v5, v6, v7, v8, .d (dN (lp n).1), .d (dN (lp n).2), v11, .d (.tup (ptl n 4)), s5 (s5 v13 (ptl n 4).length) i, v14, v15, v16, v17, v18], [.lst d.ds]⟩) (fun _ => []) rfl rfl (fun i x hx O' => ?turn2) (by simp)) (e_lst a_nil (by decide)) (o_neNil (n := 0) .nil))) rfl)) (r_next done))
    case turn2 =>
      exact ⟨⟨[S0, .own 0, .d (dN n), v3, v4, v5, v6, v7, v8, .d (dN (lp n).1), .d (dN (lp n).2), v11, .d (.tup (ptl n 4)), .d x, v14, v15, v16, v17, v18], [.lst d.ds]⟩, false, _, tgS_name (by simp), t_is (t_test (e_bin (e_call (a_cons (e_var rfl) (a_cons e_c (a_cons (e_bin (ix rfl) e_c (o_ixT rfl)) a_nil))) ⟨n, 1, (pt n (lp n).1 (lp n).2 2).2, some (lp n), rfl, n2, n3, .inl rfl, by omega, .hit (lp n).1 (lp n).2 M.y1 nr1 (by rw [v1]; exact M.pell) (fun z z1 z2 s => by rw [v1]; exact M.no1 z z1 (by omega) s), rfl⟩) (e_tup (a_cons (e_var rfl) (a_cons (e_var rfl) a_nil)) (Nat.le_of_ble_eq_true rfl)) (o_neSame (nice_p (lp n))))) rfl, .inr ⟨rfl, rfl, rfl⟩⟩
  · exact r_seq (go (t_andF (t_is (t_ltN (e_var rfl) (e_cN 20)) (decide_eq_false h))) (r_next done))
end Law
end

section
set_option Elab.async false
set_option linter.all false
set_option maxRecDepth 100000
set_option maxHeartbeats 4000000
set_option autoImplicit false
set_option exponentiation.threshold 300
namespace Law
open PySem PySem.Spec PyProof.Rows L2 Py Sq
local macro_rules | `(tactic| wtm_at "op") => `(tactic| first
  | with_reducible exact o_I0 | with_reducible exact o_add | with_reducible exact o_eqI | with_reducible exact o_neI
  | ((with_reducible apply o_mul); first | assumption | wtm_at "si")
  | ((with_reducible apply o_I); first | assumption | wtm_at "si")
  | ((with_reducible apply o_ixT); rfl) | ((with_reducible apply o_ixL); rfl)
  | ((with_reducible apply o_eqD) <;> first | rfl | decide | assumption) | ((with_reducible apply o_neD) <;> first | rfl | decide | assumption)
  | with_reducible assumption)
local macro_rules | `(tactic| wtm_at "si") => `(tactic| first | decide | exact ⟨by decide, by decide +kernel⟩ | omega)
local macro_rules | `(tactic| wtm_at "ev") => `(tactic| first
  | ((with_reducible apply e_var); rfl) | with_reducible exact e_c | with_reducible exact a_nil
  | ((with_reducible apply a_cons) <;> wtm_at "ev")
  | ((with_reducible apply e_bin) <;> first | wtm_at "ev" | wtm_at "op")
  | ((with_reducible apply e_ixO) <;> first | rfl | wtm_at "ev")
  | ((with_reducible apply e_U) <;> wtm_at "ev")
  | ((with_reducible apply t_test) <;> wtm_at "ev")
  | ((with_reducible apply t_B) <;> wtm_at "ev")
  | ((with_reducible apply t_not) <;> wtm_at "ev")
  | ((with_reducible apply e_tup) <;> first | wtm_at "ev" | exact Nat.le_of_ble_eq_true rfl)
  | ((with_reducible apply e_lst) <;> first | wtm_at "ev" | exact Nat.le_of_ble_eq_true rfl)
  | ((with_reducible apply e_gcd) <;> wtm_at "ev")
  | ((with_reducible apply e_abs) <;> wtm_at "ev")
  | ((with_reducible apply e_max2) <;> wtm_at "ev")
  | ((with_reducible apply e_int) <;> wtm_at "ev")
  | ((with_reducible apply e_intB) <;> wtm_at "ev")
  | ((with_reducible apply e_bits) <;> wtm_at "ev")
  | ((with_reducible apply e_not) <;> wtm_at "ev")
  | with_reducible assumption)
def dueY (m i j : Nat) : List (Nat × Nat) := ((List.range j).filter fun j => decide (i * i + (i + j) * (i + j) = m)).map fun j => (i, i + j)
theorem dueY_next (m i j : Nat) : dueY m i (j + 1) = dueY m i j ++ if i * i + (i + j) * (i + j) = m then [(i, i + j)] else [] := by
  unfold dueY
  rw [List.range_succ, List.filter_append, List.map_append]
  congr 1
  by_cases h : i * i + (i + j) * (i + j) = m
  · rw [if_pos h]; simp [h]
  · rw [if_neg h]; simp [h]
theorem due_next (m i : Nat) : dueL m (i + 1) = dueL m i ++ dueA m i := by simp [dueL, List.range_succ, List.flatMap_append]
theorem dueA_len (m i : Nat) : (dueA m i).length ≤ 60 := by
  unfold dueA
  rw [List.length_map]
  exact Nat.le_trans (List.length_filter_le _ _) (by rw [List.length_range]; omega)
theorem due_len (m : Nat) : ∀ i, (dueL m i).length ≤ 60 * i
  | 0 => by simp [dueL]
  | i + 1 => by
    rw [due_next, List.length_append]
    have := due_len m i
    have := dueA_len m i
    omega
theorem two_ok (K : Frg) {m : Nat} (h : m ≤ 1000000) : (if (m : Int) < 0 ∨ 1000000 < (m : Int) then Rs.err (NE K) else .ok (.tup ((sqL (m : Int).toNat).map frN))) = .ok (.tup ((sqL m).map frN)) := by
  rw [if_neg (by omega), Int.toNat_natCast]
variable {P : Program} {w : World} {K : Frg} {T : List (Addr × Str)} {mg : Str → Option Value} {base : Heap} {A0 : Around} {outer : List Env} {s0 : Shared} {H0 : Hp} {E : XK}
theorem seg15 (Z : GS P w K T mg base) (Tx : Txt K mg) (LB : LamB K base mg T "law") (hr : Room 20 (XL P w K mg base A0 outer s0 H0 E).A)
    (next : ∃ t, PSs (XL P w K mg base A0 outer s0 H0 E) (LBd.drop 19) t ∧ ∀ S0 O A, IL S0 A → RunS ⟨K, T, H0, O⟩ E t A (PF S0)) :
    ∃ t, PSs (XL P w K mg base A0 outer s0 H0 E) (LBd.drop 15) t ∧ ∀ S0 O A, InvN S0 A → RunS ⟨K, T, H0, O⟩ E t A (PF S0) := by
  obtain ⟨t', h', r0'⟩ := next
  have sc := sc_law
  refine ⟨_, (pss_cons (ps_set (i := 14) sc.nd rfl (Or.inr rfl) (pe_callG Z.G__law_roll (hr.mono (by decide)) psE (pa_cons (pv 1) (pa_cons pe_int pa_nil))))
  (pss_cons (ps_set (i := 15) sc.nd rfl (Or.inl rfl) (pe_lst pa_nil))
  (pss_cons (ps_for (passesE) rfl (pi_range1 rfl Tx.n_range (pa_cons pe_int pa_nil)) (pg_name (i := 16) sc.nd rfl (Or.inr rfl)) (pss_one (ps_set (i := 15) sc.nd rfl (Or.inl rfl) (pe_op op_catR (pv 15) (pe_lc (own := [("b", 17)]) rfl sc.nd (pi_range2 rfl Tx.n_range (pa_cons (pv 16) (pa_cons pe_int pa_nil))) (blkOk_by (own := [("b", 17)]) (N := ["script", "dice", "number", "whole", "parts", "squares", "k", "f", "rows", "x", "y", "minus", "found", "row", "wide", "due", "a", "b", "bad"]) (sc := defScope s_law) (by decide +kernel)) (fun _ _ _ _ _ => (pg_name (i := 17) sc.nd rfl (Or.inl rfl))) (fun _ _ _ _ _ => (pts_one (pt_cmpR (op_eqAK (K := K) rfl hr.units) (pe_op (op_addAK (K := K) rfl) (pe_op (op_mulAK (K := K) rfl) (pv 16) (pv 16)) (pe_op (op_mulAK (K := K) rfl) (pv 17) (pv 17))) (pv 14) (nomark _)))) (fun _ _ _ _ _ => (pe_tup (pa_cons (pv 16) (pa_cons (pv 17) pa_nil)))))))))
  (pss_cons (ps_if (pt_cmpR (op_neA hr.units) (pe_callTy call_list_of (by rfl) Tx.n_list (by decide +kernel) (pa_cons (pe_callG Z.G_sum_of_two_squares (hr.mono (by decide)) psE (pa_cons (pv 14) pa_nil)) pa_nil)) (pv 15) (nomark _)) (pss_one (ps_ret pe_bl)) pss_nil)
  h')))), fun S0 O A hA => ?_⟩
  have r' := r0' S0
  clear r0'
  clear sc hr h'
  try dsimp only [XL, cxOf]
  obtain ⟨d, n, ⟨ln, h0, h1, st, dk⟩, h2, n2, n3, ns⟩ := hA
  obtain ⟨sl, st'⟩ := A
  obtain rfl : st' = _ := st
  obtain ⟨v0, v1, v2, v3, v4, v5, v6, v7, v8, v9, v10, v11, v12, v13, v14, v15, v16, v17, v18, rfl⟩ := exL sl ln
  obtain rfl : _ = v0 := (Option.some.inj h0).symm
  obtain rfl : _ = v1 := (Option.some.inj h1).symm
  obtain rfl : _ = v2 := (Option.some.inj h2).symm
  clear ln
  have go : ∀ {A : AS} {P : Po} {t u : TS} {tt : TT}, EvT ⟨K, T, H0, O⟩ tt A false A → RunS ⟨K, T, H0, O⟩ E u A P → RunS ⟨K, T, H0, O⟩ E (tIfS tt t u) A P := fun h h' => r_ifFs h h'

  have q := roll_lt (d := d) (m := 3000) (by decide)
  have d1 := roll_ok (m := 3000) dk (by decide)
  refine r_seq (r_asg (d := dN (rollV d 3000).toNat) (e_is (e_roll (n := 0) rfl rfl e_c dk (by decide) (by decide) (sz20 (by decide))) (congrArg di (by omega))) ?_)
  obtain ⟨m, hm⟩ : ∃ m, (rollV d 3000).toNat = m := ⟨_, rfl⟩
  rw [hm]
  have m3 : m < 3000 := by omega
  refine r_seq (r_asg (d := .lstN []) (e_lstN a_nil (by decide)) ?_)
  refine r_seq (r_forR (w_rng1n (c := 60) (n := 60) (a_cons e_c a_nil) (by decide) (by decide)) (fun i A => ∃ a b : SD, A = ⟨[S0, .own 0, .d (dN n), v3, v4, v5, v6, v7, v8, v9, v10, v11, v12, v13, .d (dN m), .d (.lstN ((dueL m i).map frN)), a, b, v18], [.lst (rollD d 3000).ds]⟩) ⟨v16, v17, rfl⟩ ?_ ?_)
  · rintro i A hi ⟨a, b, rfl⟩
    refine ⟨_, tg_name, ?_⟩
    rw [show (0 : Int) + (i : Int) = (i : Int) by omega]
    have ll : (dueL m i).length ≤ 60 * i := due_len m i
    have la : (dueA m i).length ≤ 60 := dueA_len m i
    refine r_asg (d := .lstN ((dueL m (i + 1)).map frN)) (e_is (e_bin (e_var rfl) (e_lcRN (w_rng2n (c := 60 - i) (m := (i : Int)) (n := 60) (a_cons (e_var rfl) (a_cons e_c a_nil)) (by omega) (by omega) (by decide)) (fun j => ⟨[S0, .own 0, .d (dN n), v3, v4, v5, v6, v7, v8, v9, v10, v11, v12, v13, .d (dN m), .d (.lstN ((dueL m i).map frN)), .d (di (i : Int)), s5 b j, v18], [.lst (rollD d 3000).ds]⟩) (fun j => (dueY m i j).map frN) rfl rfl (fun j hj O' => ?turn) (by omega)) (o_catR (by rw [List.length_map, List.length_map]; show _ + (dueA m i).length ≤ _; omega))) (by rw [due_next, List.map_append]; rfl)) ⟨_, _, rfl⟩
    case turn =>
      have ej : (i : Int) + (j : Int) = ((i + j : Nat) : Int) := by omega
      have fi : Fits i := f10 (by omega)
      have fj : Fits (i + j) := f10 (by omega)
      have eb : ∀ {A : AS}, A.sl[17]? = some (.d (di ((i : Int) + (j : Int)))) → EvS ⟨K, T, H0, O'⟩ (tVar 17) A (dN (i + j)) A := fun h => e_is (C := ⟨K, T, H0, O'⟩) (e_var h) (congrArg di ej)
      have tt : EvT ⟨K, T, H0, O'⟩ _ _ _ _ := t_eqN (C := ⟨K, T, H0, O'⟩) (A := ⟨[S0, .own 0, .d (dN n), v3, v4, v5, v6, v7, v8, v9, v10, v11, v12, v13, .d (dN m), .d (.lstN ((dueL m i).map frN)), .d (di (i : Int)), .d (di ((i : Int) + (j : Int))), v18], [.lst (rollD d 3000).ds]⟩) (e_addN (e_mulN (e_var (i := 16) rfl) (e_var (i := 16) rfl) fi fi) (e_mulN (eb rfl) (eb rfl) fj fj)) (e_var (i := 14) rfl)
      refine ⟨_, decide (i * i + (i + j) * (i + j) = m), _, tgS_name (by simp), tt, ?_⟩
      by_cases hc : i * i + (i + j) * (i + j) = m
      · exact .inl ⟨decide_eq_true hc, frN (i, i + j), _, e_tup (a_cons (e_var rfl) (a_cons (eb rfl) a_nil)) (Nat.le_of_ble_eq_true rfl), by rw [dueY_next, if_pos hc, List.map_append]; rfl, rfl⟩
      · exact .inr ⟨decide_eq_false hc, by rw [dueY_next, if_neg hc, List.append_nil], rfl⟩
  · rintro A ⟨a, b, rfl⟩
    have e2 : ((sqL m).map frN) = ((dueL m 60).map frN) := by rw [two_same m3]
    exact r_seq (go (t_is (t_test (e_bin (e_is (e_listT (e_call (a_cons (e_var rfl) a_nil) ⟨(m : Int), rfl, by omega, by omega, (two_ok K (by omega)).symm⟩)) (congrArg Dt.lst e2)) (e_ofN (e_var rfl)) (o_neSame (n := 2) (.lst (niceA_map nice_p (dueL m 60)))))) rfl) (r_next (r' O _ ⟨rfl, rfl, lst1⟩)))
end Law
end

section
set_option Elab.async false
set_option linter.all false
set_option maxRecDepth 100000
set_option maxHeartbeats 4000000
set_option autoImplicit false
set_option exponentiation.threshold 300
namespace Law
open PySem PySem.Spec PyProof.Rows L2 Py Sq

local macro_rules | `(tactic| wtm_at "op") => `(tactic| first
  | with_reducible exact o_I0 | with_reducible exact o_add | with_reducible exact o_eqI | with_reducible exact o_neI
  | ((with_reducible apply o_mul); first | assumption | wtm_at "si")
  | ((with_reducible apply o_I); first | assumption | wtm_at "si")
  | ((with_reducible apply o_ixT); rfl) | ((with_reducible apply o_ixL); rfl)
  | ((with_reducible apply o_eqD) <;> first | rfl | decide | assumption) | ((with_reducible apply o_neD) <;> first | rfl | decide | assumption)
  | with_reducible assumption)
local macro_rules | `(tactic| wtm_at "si") => `(tactic| first | decide | exact ⟨by decide, by decide +kernel⟩ | omega)
local macro_rules | `(tactic| wtm_at "ev") => `(tactic| first
  | ((with_reducible apply e_var); rfl) | with_reducible exact e_c | with_reducible exact a_nil
  | ((with_reducible apply a_cons) <;> wtm_at "ev")
  | ((with_reducible apply e_bin) <;> first | wtm_at "ev" | wtm_at "op")
  | ((with_reducible apply e_ixO) <;> first | rfl | wtm_at "ev")
  | ((with_reducible apply e_U) <;> wtm_at "ev")
  | ((with_reducible apply t_test) <;> wtm_at "ev")
  | ((with_reducible apply t_B) <;> wtm_at "ev")
  | ((with_reducible apply t_not) <;> wtm_at "ev")
  | ((with_reducible apply e_tup) <;> first | wtm_at "ev" | exact Nat.le_of_ble_eq_true rfl)
  | ((with_reducible apply e_lst) <;> first | wtm_at "ev" | exact Nat.le_of_ble_eq_true rfl)
  | ((with_reducible apply e_gcd) <;> wtm_at "ev")
  | ((with_reducible apply e_abs) <;> wtm_at "ev")
  | ((with_reducible apply e_max2) <;> wtm_at "ev")
  | ((with_reducible apply e_int) <;> wtm_at "ev")
  | ((with_reducible apply e_intB) <;> wtm_at "ev")
  | ((with_reducible apply e_bits) <;> wtm_at "ev")
  | ((with_reducible apply e_not) <;> wtm_at "ev")
  | with_reducible assumption)

variable {P : Program} {w : World} {K : Frg} {T : List (Addr × Str)} {mg : Str → Option Value} {base : Heap}
def sp_law : List Dt → Rs → Prop := fun dl r => ∃ ns : List Int, dl = [.lst (ns.map di)] ∧ ns.length ≤ 63 ∧ (∀ z ∈ ns, Sz 1048576 z) ∧ r = .ok (db true)
def badE (j : Nat) : Expr := match (defBody s_law).getD 1 (.Pass ⟨0, 0, 0, 0⟩) with
  | .Assign _ (.List es _) _ => es.getD j (.Constant (.int 0) 0 ⟨0, 0, 0, 0⟩)
  | _ => .Constant (.int 0) 0 ⟨0, 0, 0, 0⟩
def lamPar : Expr → Arguments
  | .Lambda p _ _ _ => p
  | _ => ⟨[], [], none, [], [], none, []⟩
def lamBody : Expr → Expr
  | .Lambda _ b _ _ => b
  | e => e
def lamSc : Expr → Scope
  | .Lambda _ _ s _ => s
  | _ => defScope s_law
theorem lamS_any {sc sc' scope : Scope} (L : LamX.LamS sc scope) (hno : ∀ y ∈ scope.names, y.2 ≠ .free) : LamX.LamS sc' scope := ⟨L.kind, L.co, L.gen, L.own, fun y hy e => absurd e (hno y hy)⟩
theorem gdX {X : Cx} {f : Str} {ps : List Str} {k : Nat} {sp : Sp} (e1 : X.prog = P) (e2 : X.w = w) (e3 : X.K = K) (e4 : X.mg = mg) (e5 : X.base = base) (G : Gd P w K mg base f ps k sp) : Gd X.prog X.w X.K X.mg X.base f ps k sp := by
  subst e1 e2 e3 e4 e5
  exact G
abbrev lamD (j : Nat) (t : XK → TE) : LamD := ⟨lamPar (badE j), lamBody (badE j), lamSc (badE j), t⟩
/-- a kept lambda that raises -/
def BadL (P : Program) (w : World) (K : Frg) (T : List (Addr × Str)) (mg : Str → Option Value) (base : Heap) (j : Nat) (t : XK → TE) : Prop := (∀ X : Cx, X.prog = P → X.w = w → X.K = K → X.mg = mg → X.base = base → LamOk X 10 (lamD j t)) ∧ ∀ (H : Hp) (O : List Addr) (E : XK) (A : AS), EvX ⟨K, T, H, O⟩ E (t E) A (NE K) A
theorem c6 : CPow 10 6 := ⟨by decide, by decide, by decide⟩
theorem bad0 (Z : GS P w K T mg base) : ∃ t, BadL P w K T mg base 0 t := by
  have no : ∀ y ∈ (lamSc (badE 0)).names, y.2 ≠ .free := by decide +kernel
  have own : LamX.LamS (lamSc (badE 0)) (lamSc (badE 0)) := LamX.lamS_by (by decide +kernel)
  refine ⟨_, fun X e1 e2 e3 e4 e5 => ⟨lamS_any own no, no, fun _ _ _ _ => rfl, fun A outer s H E f c' hr => (pe_callG (gdX (X := LamX.lamCx X A outer s H E (lamSc (badE 0)) f c') e1 e2 e3 e4 e5 Z.G_root_parts) (hr.mono (by decide)) psF (pa_cons (pe_un un_neg pe_int) pa_nil))⟩, fun H O E A => ?_⟩
  exact x_call (C := ⟨K, T, H, O⟩) (g := (sp_parts K)) (a_cons (e_U e_c) a_nil) ⟨-2, rfl, by decide, by decide, (if_pos (.inl (by decide))).symm⟩
theorem bad1 (Z : GS P w K T mg base) : ∃ t, BadL P w K T mg base 1 t := by
  have no : ∀ y ∈ (lamSc (badE 1)).names, y.2 ≠ .free := by decide +kernel
  have own : LamX.LamS (lamSc (badE 1)) (lamSc (badE 1)) := LamX.lamS_by (by decide +kernel)
  refine ⟨_, fun X e1 e2 e3 e4 e5 => ⟨lamS_any own no, no, fun _ _ _ _ => rfl, fun A outer s H E f c' hr => (pe_callG (gdX (X := LamX.lamCx X A outer s H E (lamSc (badE 1)) f c') e1 e2 e3 e4 e5 Z.G_sum_of_two_squares) (hr.mono (by decide)) psF (pa_cons (pe_un un_neg pe_int) pa_nil))⟩, fun H O E A => ?_⟩
  exact x_call (C := ⟨K, T, H, O⟩) (g := (sp_two K)) (a_cons (e_U e_c) a_nil) ⟨-1, rfl, by decide, by decide, (if_pos (.inl (by decide))).symm⟩
theorem bad2 (Z : GS P w K T mg base) : ∃ t, BadL P w K T mg base 2 t := by
  have no : ∀ y ∈ (lamSc (badE 2)).names, y.2 ≠ .free := by decide +kernel
  have own : LamX.LamS (lamSc (badE 2)) (lamSc (badE 2)) := LamX.lamS_by (by decide +kernel)
  refine ⟨_, fun X e1 e2 e3 e4 e5 => ⟨lamS_any own no, no, fun _ _ _ _ => rfl, fun A outer s H E f c' hr => (pe_callG (gdX (X := LamX.lamCx X A outer s H E (lamSc (badE 2)) f c') e1 e2 e3 e4 e5 Z.G_sum_of_two_squares) (hr.mono (by decide)) psF (pa_cons (pe_op (op_addAK (K := K) e3) (pe_op op_pow pe_int pe_int) pe_int) pa_nil))⟩, fun H O E A => ?_⟩
  exact x_call (C := ⟨K, T, H, O⟩) (g := (sp_two K)) (a_cons (e_is (d1 := di 1000001) (e_bin (e_bin e_c e_c (o_I c6)) e_c o_add) rfl) a_nil) ⟨1000001, rfl, by decide, by decide, (if_pos (.inr (by decide))).symm⟩
theorem bad3 (Z : GS P w K T mg base) : ∃ t, BadL P w K T mg base 3 t := by
  have no : ∀ y ∈ (lamSc (badE 3)).names, y.2 ≠ .free := by decide +kernel
  have own : LamX.LamS (lamSc (badE 3)) (lamSc (badE 3)) := LamX.lamS_by (by decide +kernel)
  refine ⟨_, fun X e1 e2 e3 e4 e5 => ⟨lamS_any own no, no, fun _ _ _ _ => rfl, fun A outer s H E f c' hr => (pe_callG (gdX (X := LamX.lamCx X A outer s H E (lamSc (badE 3)) f c') e1 e2 e3 e4 e5 Z.G_root_parts) (hr.mono (by decide)) psF (pa_cons pe_int pa_nil))⟩, fun H O E A => ?_⟩
  exact x_call (C := ⟨K, T, H, O⟩) (g := (sp_parts K)) (a_cons e_c a_nil) ⟨0, rfl, by decide, by decide, (if_pos (.inr (by decide))).symm⟩
theorem runS_pf {C : Ct} {E : XK} {t : TS} {A : AS} {S0 : SD} {M : AS → Prop} {P : Po} (h : RunS C E t A (PF S0)) (k : ∀ A', IL S0 A' → M A') : RunS C E t A { P with nx := M, ct := M, bk := M } := fun os σ H D o T =>
  h os σ H D o ⟨fun os1 A1 σ1 H1 m => T.nx os1 A1 σ1 H1 (k A1 m), fun _ _ _ _ _ _ z => z.elim, fun os1 A1 σ1 H1 m => T.bk os1 A1 σ1 H1 (k A1 m), fun os1 A1 σ1 H1 m => T.ct os1 A1 σ1 H1 (k A1 m), fun _ _ z => z.elim⟩
theorem seg_all (Z : GS P w K T mg base) (Tx : Txt K mg) (LB : LamB K base mg T "law") {A0 : Around} {outer : List Env} {s0 : Shared} {H0 : Hp} {E : XK} (hr : Room 20 (XL P w K mg base A0 outer s0 H0 E).A) :
    ∃ t, PSs (XL P w K mg base A0 outer s0 H0 E) (LBd.drop 0) t ∧ ∀ S0 O A, Inv0 S0 A → RunS ⟨K, T, H0, O⟩ E t A (PF S0) :=
  (seg0 Z Tx LB hr (seg3 Z Tx LB hr (seg4 Z Tx LB hr (seg6 Z Tx LB hr (seg8 Z Tx LB hr (seg10 Z Tx LB hr (seg12 Z Tx LB hr (seg15 Z Tx LB hr ⟨_, pss_nil, fun S0 O A h => r_next h⟩))))))))
theorem lp_at {n : Nat} (N : Nok n) : lp n = (cvF (W n) (per n) (parts n) (lpL n) 0 ((1, 0), (0, 1))).1 := by
  have := cvF_at N.p0 (lpL n) 0
  rw [Nat.zero_add] at this
  rw [show ((1, 0), (0, 1)) = cv n 0 from rfl, this]
  rfl
theorem lp61 : lp 61 = (1766319049, 226153980) := by
  rw [lp_at (nok_of (by decide) (by decide) (by decide +kernel))]
  decide +kernel
theorem lp2 : lp 2 = (3, 2) := by
  rw [lp_at (nok_of (by decide) (by decide) (by decide +kernel))]
  decide +kernel
theorem sq50 : sqL 50 = [(1, 7), (5, 5)] := by
  rw [two_same (by decide)]
  decide +kernel
theorem pt23 : ptl 2 3 = [frN (3, 2), frN (17, 12), frN (99, 70)] := by
  unfold ptl
  rw [lp2]
  rfl
theorem nb (n : Nat) (h : sq n = false) : ¬ Bad (n : Int) := fun z => by
  rcases z with z | z
  · omega
  · rw [Int.toNat_natCast, h] at z; cases z
theorem ok_law (Z : GS P w K T mg base) (Tx : Txt K mg) (LB : LamB K base mg T "law") {fd : FuncData} (F : FunD K "law" "law" (defArgs s_law) (defBody s_law) (defScope s_law) [] [] (He.ga K "law") fd) :
    FnOk P w K mg base (L2.CX P w) 21 (He.ga K "law") fd ["script"] (spD0 K T sp_law) := by
  refine mkFL0 F sc_law (fun dl r h => ?len) (fun A outer s H E hr => ?body)
  case len => (obtain ⟨_, rfl, _⟩ := h; rfl)
  case body =>
    obtain ⟨tb, hb, rb⟩ := seg_all Z Tx LB hr
    obtain ⟨t0, ok0, ev0⟩ := bad0 Z
    obtain ⟨t1, ok1, ev1⟩ := bad1 Z
    obtain ⟨t2, ok2, ev2⟩ := bad2 Z
    obtain ⟨t3, ok3, ev3⟩ := bad3 Z
    have ⟨LT, hLT⟩ : ∃ LT, LT = [lamD 0 t0, lamD 1 t1, lamD 2 t2, lamD 3 t3] := ⟨_, rfl⟩
    have LTOK : ∀ X : Cx, X.prog = P → X.w = w → X.K = K → X.mg = mg → X.base = base → ∀ l ∈ LT, LamOk X 10 l := fun X e1 e2 e3 e4 e5 l hl => by
      rw [hLT] at hl
      simp only [List.mem_cons, List.not_mem_nil, or_false] at hl
      rcases hl with rfl | rfl | rfl | rfl
      · exact ok0 X e1 e2 e3 e4 e5
      · exact ok1 X e1 e2 e3 e4 e5
      · exact ok2 X e1 e2 e3 e4 e5
      · exact ok3 X e1 e2 e3 e4 e5
    have sc := sc_law
    have hb' : PSs (cxOf (L2.CX P w) P w K mg base NL "law" (defScope s_law) (He.ga K "law") (.ref (He.cT K ("law", none)).1) A outer s H E) LBd tb := hb
    refine ⟨_, (pss_cons (ps_for (passesE) rfl (pi_list (pe_callG Z.G__law_rounds (hr.mono (by decide)) psE (pa_cons (pv 0) (pa_cons pe_int pa_nil)))) (pg_name (i := 1) sc.nd rfl (Or.inl rfl)) hb') (pss_cons (ps_set (i := 18) sc.nd rfl (Or.inl rfl) (pe_lst (pa_cons (pe_mk LB rfl rfl rfl (by decide +kernel)) (pa_cons (pe_mk LB rfl rfl rfl (by decide +kernel)) (pa_cons (pe_mk LB rfl rfl rfl (by decide +kernel)) (pa_cons (pe_mk LB rfl rfl rfl (by decide +kernel)) pa_nil)))))) (pss_one (ps_ret (pe_and (pe_cmpR (op_eqA hr.units) (pe_lc (own := [("f", 7)]) rfl sc.nd (pi_list (pv 18)) (blkOk_by (own := [("f", 7)]) (N := ["script", "dice", "number", "whole", "parts", "squares", "k", "f", "rows", "x", "y", "minus", "found", "row", "wide", "due", "a", "b", "bad"]) (sc := defScope s_law) (by decide +kernel)) (fun _ _ _ _ _ => (pg_name (i := 7) sc.nd rfl (Or.inl rfl))) (fun _ _ _ _ _ => (pts_one (pt_cmpR (op_neAK (K := K) rfl hr.units) (show PE (Cx.blk (cxOf (L2.CX P w) P w K mg base NL "law" (defScope s_law) (He.ga K "law") (.ref (He.cT K ("law", none)).1) A outer s H E) _ _ _ _ _) _ (tToldV K (lamQ "law") 7 (NE K) "NumberError" LT) from (pe_toldW (k := 10) Z.F_told Z.hm_told Tx.gNumberError (by rfl) (hr.mono (by decide)) (LTOK _ rfl rfl rfl rfl rfl) (pv 7))) pe_str (nomark _)))) (fun _ _ _ _ _ => pe_int)) (pe_lst pa_nil) (nomark _)) (pe_and (pe_cmpR (op_eqA hr.units) (pe_callG Z.G_least_point (hr.mono (by decide)) psE (pa_cons pe_int pa_nil)) (pe_tup (pa_cons pe_int (pa_cons pe_int pa_nil))) (nomark _)) (pe_and (pe_cmpR (op_eqA hr.units) (pe_callG Z.G_sum_of_two_squares (hr.mono (by decide)) psE (pa_cons pe_int pa_nil)) (pe_tup (pa_cons (pe_tup (pa_cons pe_int (pa_cons pe_int pa_nil))) (pa_cons (pe_tup (pa_cons pe_int (pa_cons pe_int pa_nil))) pa_nil))) (nomark _)) (pe_one (pe_cmpR (op_eqA hr.units) (pe_callG Z.G_points (hr.mono (by decide)) psE (pa_cons pe_int (pa_cons pe_int pa_nil))) (pe_tup (pa_cons (pe_tup (pa_cons pe_int (pa_cons pe_int pa_nil))) (pa_cons (pe_tup (pa_cons pe_int (pa_cons pe_int pa_nil))) (pa_cons (pe_tup (pa_cons pe_int (pa_cons pe_int pa_nil))) pa_nil)))) (nomark _)))))))))), fun dl r hg => ?_⟩
    clear sc hr hb hb' LTOK ok0 ok1 ok2 ok3
    try dsimp only [cxOf]
    obtain ⟨ns, rfl, hl, hz, rfl⟩ := hg
    have dk : DOk 0 (mkDice (ns.headD 0)) := mkDice_ok (by
      cases ns with
      | nil => show (0 : Int).natAbs < _; exact Nat.pow_pos (by decide)
      | cons a r => exact hz a (List.mem_cons_self ..))
    refine r_seq (r_rounds (i := 0) (ns := ns) rfl hl hz ?_)
    have go := rb (.d (.lst (ns.map di))) [] ((start NL [.lst (ns.map di)]).newO 1 (mkDice (ns.headD 0)).ds) ⟨mkDice (ns.headD 0), rfl, rfl, rfl, rfl, dk⟩
    refine runS_pf go ?_
    rintro A' ⟨ln, h0, hst⟩
    obtain ⟨sl, st⟩ := A'
    obtain ⟨v0, v1, v2, v3, v4, v5, v6, v7, v8, v9, v10, v11, v12, v13, v14, v15, v16, v17, v18, rfl⟩ := exL sl ln
    obtain rfl : _ = v0 := (Option.some.inj h0).symm
    clear h0 ln go
    have hst : ∀ s ∈ st, ∃ xs, s = OD.lst xs := hst
    have nt : ∀ (t : XK → TE) (j : Nat) (f c' : Addr), NoT ((lamD j t).P (lamQ "law") f c') := fun t j f c' => nt_lamO
    refine r_seq (r_asg (d := .lst [.lam ((lamD 0 t0).P (lamQ "law")) (lamQ "law"), .lam ((lamD 1 t1).P (lamQ "law")) (lamQ "law"), .lam ((lamD 2 t2).P (lamQ "law")) (lamQ "law"), .lam ((lamD 3 t3).P (lamQ "law")) (lamQ "law")]) (e_lst (a_cons (e_mk (nt t0 0) rfl hst) (a_cons (e_mk (nt t1 1) rfl hst) (a_cons (e_mk (nt t2 2) rfl hst) (a_cons (e_mk (nt t3 3) rfl hst) a_nil)))) (Nat.le_of_ble_eq_true rfl)) ?_)
    have b61 := nb 61 (by decide +kernel)
    have b2 := nb 2 (by decide +kernel)
    refine r_ret (d := db true) (e_andT (e_bin (e_lcL (xs := [.lam ((lamD 0 t0).P (lamQ "law")) (lamQ "law"), .lam ((lamD 1 t1).P (lamQ "law")) (lamQ "law"), .lam ((lamD 2 t2).P (lamQ "law")) (lamQ "law"), .lam ((lamD 3 t3).P (lamQ "law")) (lamQ "law")]) (e_var rfl) (fun i => ⟨[.d (.lst (ns.map di)), v1, v2, v3, v4, v5, v6, s5 v7 i, v8, v9, v10, v11, v12, v13, v14, v15, v16, v17, .d (.lst [.lam ((lamD 0 t0).P (lamQ "law")) (lamQ "law"), .lam ((lamD 1 t1).P (lamQ "law")) (lamQ "law"), .lam ((lamD 2 t2).P (lamQ "law")) (lamQ "law"), .lam ((lamD 3 t3).P (lamQ "law")) (lamQ "law")])], st⟩) (fun _ => []) rfl rfl (fun i x hx O' => ?turn) (by simp)) (e_lst a_nil (by decide)) (o_eqNil (n := 0) .nil))
      (e_andT (e_bin (e_is (e_call (a_cons (e_cN 61) a_nil) ⟨61, rfl, by decide, by decide, (if_neg b61).symm⟩) (show frN (lp 61) = frN (1766319049, 226153980) by rw [lp61])) (e_tup (a_cons e_c (a_cons e_c a_nil)) (by decide)) (o_eqSame (nice_p (1766319049, 226153980))))
      (e_andT (e_bin (e_is (e_call (a_cons (e_cN 50) a_nil) ⟨50, rfl, by decide, by decide, (two_ok K (m := 50) (by decide)).symm⟩) (show Dt.tup ((sqL 50).map frN) = .tup [frN (1, 7), frN (5, 5)] by rw [sq50]; rfl)) (e_tup (a_cons (e_tup (a_cons e_c (a_cons e_c a_nil)) (by decide)) (a_cons (e_tup (a_cons e_c (a_cons e_c a_nil)) (by decide)) a_nil)) (by decide)) (o_eqSame (n := 2) (.tup (.cons (nice_p (1, 7)) (.cons (nice_p (5, 5)) .nil)))))
      (e_bin (e_is (e_call (a_cons (e_cN 2) (a_cons (e_cN 3) a_nil)) ⟨2, 3, rfl, by decide, by decide, by decide, (if_neg b2).symm⟩) (show Dt.tup (ptl 2 3) = .tup [frN (3, 2), frN (17, 12), frN (99, 70)] by rw [pt23])) (e_tup (a_cons (e_tup (a_cons e_c (a_cons e_c a_nil)) (by decide)) (a_cons (e_tup (a_cons e_c (a_cons e_c a_nil)) (by decide)) (a_cons (e_tup (a_cons e_c (a_cons e_c a_nil)) (by decide)) a_nil))) (by decide)) (o_eqSame (n := 2) (.tup (.cons (nice_p (3, 2)) (.cons (nice_p (17, 12)) (.cons (nice_p (99, 70)) .nil))))))))) rfl
    case turn =>
      match i, hx with
      | 0, hx => cases hx; exact ⟨_, false, _, tgS_name (by simp), t_is (t_test (e_bin (e_toldVErr (C := ⟨K, T, H, O'⟩) (l := lamD 0 t0) Tx.m (by rw [hLT]; simp) rfl (fun E => ev0 _ _ E _)) e_c (o_ne rfl))) (by simp), .inr ⟨rfl, rfl, rfl⟩⟩
      | 1, hx => cases hx; exact ⟨_, false, _, tgS_name (by simp), t_is (t_test (e_bin (e_toldVErr (C := ⟨K, T, H, O'⟩) (l := lamD 1 t1) Tx.m (by rw [hLT]; simp) rfl (fun E => ev1 _ _ E _)) e_c (o_ne rfl))) (by simp), .inr ⟨rfl, rfl, rfl⟩⟩
      | 2, hx => cases hx; exact ⟨_, false, _, tgS_name (by simp), t_is (t_test (e_bin (e_toldVErr (C := ⟨K, T, H, O'⟩) (l := lamD 2 t2) Tx.m (by rw [hLT]; simp) rfl (fun E => ev2 _ _ E _)) e_c (o_ne rfl))) (by simp), .inr ⟨rfl, rfl, rfl⟩⟩
      | 3, hx => cases hx; exact ⟨_, false, _, tgS_name (by simp), t_is (t_test (e_bin (e_toldVErr (C := ⟨K, T, H, O'⟩) (l := lamD 3 t3) Tx.m (by rw [hLT]; simp) rfl (fun E => ev3 _ _ E _)) e_c (o_ne rfl))) (by simp), .inr ⟨rfl, rfl, rfl⟩⟩
      | i + 4, hx => simp at hx
end Law
end

section
set_option Elab.async false
set_option linter.all false
set_option maxRecDepth 100000
set_option maxHeartbeats 0
namespace Law.SH
open PySem PySem.Spec PyProof.Rows L2 Py
def top (i : Nat) : Stmt := PySem.Challenge.pw_algebrastack_k18_roots_that_come_back.main.body.getD i (.Pass ⟨0, 0, 0, 0⟩)
abbrev s_root_parts : Stmt := top 6
abbrev s_root_convergents : Stmt := top 7
abbrev s_least_point : Stmt := top 8
abbrev s_minus_point : Stmt := top 9
abbrev s_points : Stmt := top 10
abbrev s_sum_of_two_squares : Stmt := top 11
abbrev s__law_dice : Stmt := top 13
abbrev s__law_roll : Stmt := top 14
abbrev s__law_rounds : Stmt := top 15
abbrev s__law_told : Stmt := top 16
abbrev s__law_parts : Stmt := top 17
abbrev s__law_least : Stmt := top 18
abbrev s_law : Stmt := top 19
def dd (f : Str) (s : Stmt) : He.DefD := ⟨(f, none), f, f, defArgs s, defBody s, defScope s, [], []⟩
def dv (f : Str) (s : Stmt) (ds : List He.Dv) : He.DefD := ⟨(f, none), f, f, defArgs s, defBody s, defScope s, ds, []⟩
def fn0 : List He.DefD := [dd "root_parts" s_root_parts, dd "root_convergents" s_root_convergents, dd "least_point" s_least_point, dd "minus_point" s_minus_point, dd "points" s_points, dd "sum_of_two_squares" s_sum_of_two_squares, dd "_law_dice" s__law_dice, dd "_law_roll" s__law_roll, dd "_law_rounds" s__law_rounds, dd "_law_told" s__law_told, dd "_law_parts" s__law_parts, dd "_law_least" s__law_least, dd "law" s_law]
def fn : List He.DefD := fn0
def fa0 : List He.Fa := [.glo "root_parts", .glo "root_convergents", .glo "least_point", .glo "minus_point", .glo "points", .glo "sum_of_two_squares", .glo "_law_dice", .glo "_law_roll", .glo "_law_rounds", .glo "_law_told", .glo "_law_parts", .glo "_law_least", .glo "law", .free "abs", .free "enumerate", .free "int", .free "len", .free "list", .free "range", .free "sorted", .free "tuple", .int "MOST_PERIOD" 2000, .exc "NumberError", .glo "NumberError"]
def fa1 : List He.Fa := [.exm "NumberError" "NumberError" true]
def fa : List He.Fa := fa0 ++ fa1
def tf : List He.Defn := [("law", none)]
def lamF : List Str := ["law"]
def ex (K : PySem.W.Frag) : Bool := bltB K "isqrt" "math.isqrt" && (decide (lamF.map fun f => (He.cT K (f, none)).2).Nodup)
abbrev R : PySem.W.OpenRow := PySem.W.OpenLaw.row PySem.Challenge.rw_algebrastack_k18_roots_that_come_back
abbrev hk : PySem.W.Hook := He.hookX 4 fa fn [] tf ex
def ob (s : PySem.W.SharedT) : He.AlX := He.obsX 4 fa fn [] tf ex (HandSHeadRun.getT s)
theorem ob_eq (s : PySem.W.SharedT) : ob s = hk.obs s.abs := He.obsX_eq (HandSHeadRun.getT_eq s)
def lo0 : List Str := ["AlgebraError", "NumberError", "MOST_PERIOD", "root_parts", "root_convergents", "least_point", "minus_point", "points", "sum_of_two_squares", "_law_dice", "_law_roll", "_law_rounds", "_law_told", "_law_parts", "_law_least"]
def lo : List Str := lo0
theorem run (w : World) : HandSHeadRun.RunEqI R (PySem.W.view R.prog [0, 19]) hk ob 4000 lo w := by
  unfold HandSHeadRun.RunEqI
  kernel_rfl
end Law.SH
end

section
set_option Elab.async false
set_option linter.all false
set_option maxRecDepth 100000
set_option maxHeartbeats 4000000
set_option autoImplicit false
namespace Law.SH
open PySem PySem.Spec PyProof.Rows L2 Py Law
abbrev PR : Program := (PySem.Challenge.rw_algebrastack_k18_roots_that_come_back).prog
theorem okLaw {w : World} {K : Frg} {mg : Str → Option Value} {base : Heap} (hK : K.In base) (G : base.Ns mainGlobals mg) (c : He.SaysD fa fn K) (e : ex K = true) (L : ∀ f ∈ lamF, LamB K base mg (tabL K lamF) f) (fd : FuncData) (F : FunD K "law" "law" (defArgs s_law) (defBody s_law) (defScope s_law) [] [] (He.ga K "law") fd) :
  FnOk PR w K mg base (L2.CX PR w) 21 (He.ga K "law") fd ["script"] (spLaw K (tabL K lamF)) := by
  obtain ⟨e1, _⟩ := Bool.and_eq_true_iff.mp e
  have h_root_parts : mg "root_parts" = some (.ref (He.ga K "root_parts")) := He.glo_ok hK G (c.facts (List.mem_of_getElem? (i := 0) (by rfl)))
  have F_root_parts : ∃ fd, FunD K "root_parts" "root_parts" (defArgs s_root_parts) (defBody s_root_parts) (defScope s_root_parts) [] [] (He.ga K "root_parts") fd := c.defs (d := dd "root_parts" s_root_parts) (List.mem_of_getElem? (i := 0) (by rfl))
  have h_root_convergents : mg "root_convergents" = some (.ref (He.ga K "root_convergents")) := He.glo_ok hK G (c.facts (List.mem_of_getElem? (i := 1) (by rfl)))
  have F_root_convergents : ∃ fd, FunD K "root_convergents" "root_convergents" (defArgs s_root_convergents) (defBody s_root_convergents) (defScope s_root_convergents) [] [] (He.ga K "root_convergents") fd := c.defs (d := dd "root_convergents" s_root_convergents) (List.mem_of_getElem? (i := 1) (by rfl))
  have h_least_point : mg "least_point" = some (.ref (He.ga K "least_point")) := He.glo_ok hK G (c.facts (List.mem_of_getElem? (i := 2) (by rfl)))
  have F_least_point : ∃ fd, FunD K "least_point" "least_point" (defArgs s_least_point) (defBody s_least_point) (defScope s_least_point) [] [] (He.ga K "least_point") fd := c.defs (d := dd "least_point" s_least_point) (List.mem_of_getElem? (i := 2) (by rfl))
  have h_minus_point : mg "minus_point" = some (.ref (He.ga K "minus_point")) := He.glo_ok hK G (c.facts (List.mem_of_getElem? (i := 3) (by rfl)))
  have F_minus_point : ∃ fd, FunD K "minus_point" "minus_point" (defArgs s_minus_point) (defBody s_minus_point) (defScope s_minus_point) [] [] (He.ga K "minus_point") fd := c.defs (d := dd "minus_point" s_minus_point) (List.mem_of_getElem? (i := 3) (by rfl))
  have h_points : mg "points" = some (.ref (He.ga K "points")) := He.glo_ok hK G (c.facts (List.mem_of_getElem? (i := 4) (by rfl)))
  have F_points : ∃ fd, FunD K "points" "points" (defArgs s_points) (defBody s_points) (defScope s_points) [] [] (He.ga K "points") fd := c.defs (d := dd "points" s_points) (List.mem_of_getElem? (i := 4) (by rfl))
  have h_sum_of_two_squares : mg "sum_of_two_squares" = some (.ref (He.ga K "sum_of_two_squares")) := He.glo_ok hK G (c.facts (List.mem_of_getElem? (i := 5) (by rfl)))
  have F_sum_of_two_squares : ∃ fd, FunD K "sum_of_two_squares" "sum_of_two_squares" (defArgs s_sum_of_two_squares) (defBody s_sum_of_two_squares) (defScope s_sum_of_two_squares) [] [] (He.ga K "sum_of_two_squares") fd := c.defs (d := dd "sum_of_two_squares" s_sum_of_two_squares) (List.mem_of_getElem? (i := 5) (by rfl))
  have h__law_dice : mg "_law_dice" = some (.ref (He.ga K "_law_dice")) := He.glo_ok hK G (c.facts (List.mem_of_getElem? (i := 6) (by rfl)))
  have F__law_dice : ∃ fd, FunD K "_law_dice" "_law_dice" (defArgs s__law_dice) (defBody s__law_dice) (defScope s__law_dice) [] [] (He.ga K "_law_dice") fd := c.defs (d := dd "_law_dice" s__law_dice) (List.mem_of_getElem? (i := 6) (by rfl))
  have h__law_roll : mg "_law_roll" = some (.ref (He.ga K "_law_roll")) := He.glo_ok hK G (c.facts (List.mem_of_getElem? (i := 7) (by rfl)))
  have F__law_roll : ∃ fd, FunD K "_law_roll" "_law_roll" (defArgs s__law_roll) (defBody s__law_roll) (defScope s__law_roll) [] [] (He.ga K "_law_roll") fd := c.defs (d := dd "_law_roll" s__law_roll) (List.mem_of_getElem? (i := 7) (by rfl))
  have h__law_rounds : mg "_law_rounds" = some (.ref (He.ga K "_law_rounds")) := He.glo_ok hK G (c.facts (List.mem_of_getElem? (i := 8) (by rfl)))
  have F__law_rounds : ∃ fd, FunD K "_law_rounds" "_law_rounds" (defArgs s__law_rounds) (defBody s__law_rounds) (defScope s__law_rounds) [] [] (He.ga K "_law_rounds") fd := c.defs (d := dd "_law_rounds" s__law_rounds) (List.mem_of_getElem? (i := 8) (by rfl))
  have h__law_told : mg "_law_told" = some (.ref (He.ga K "_law_told")) := He.glo_ok hK G (c.facts (List.mem_of_getElem? (i := 9) (by rfl)))
  have F__law_told : ∃ fd, FunD K "_law_told" "_law_told" (defArgs s__law_told) (defBody s__law_told) (defScope s__law_told) [] [] (He.ga K "_law_told") fd := c.defs (d := dd "_law_told" s__law_told) (List.mem_of_getElem? (i := 9) (by rfl))
  have h__law_parts : mg "_law_parts" = some (.ref (He.ga K "_law_parts")) := He.glo_ok hK G (c.facts (List.mem_of_getElem? (i := 10) (by rfl)))
  have F__law_parts : ∃ fd, FunD K "_law_parts" "_law_parts" (defArgs s__law_parts) (defBody s__law_parts) (defScope s__law_parts) [] [] (He.ga K "_law_parts") fd := c.defs (d := dd "_law_parts" s__law_parts) (List.mem_of_getElem? (i := 10) (by rfl))
  have h__law_least : mg "_law_least" = some (.ref (He.ga K "_law_least")) := He.glo_ok hK G (c.facts (List.mem_of_getElem? (i := 11) (by rfl)))
  have F__law_least : ∃ fd, FunD K "_law_least" "_law_least" (defArgs s__law_least) (defBody s__law_least) (defScope s__law_least) [] [] (He.ga K "_law_least") fd := c.defs (d := dd "_law_least" s__law_least) (List.mem_of_getElem? (i := 11) (by rfl))
  have h_law : mg "law" = some (.ref (He.ga K "law")) := He.glo_ok hK G (c.facts (List.mem_of_getElem? (i := 12) (by rfl)))
  have n_abs : mg "abs" = none := He.free_ok hK G (c.facts (List.mem_of_getElem? (i := 13) (by rfl)))
  have n_enumerate : mg "enumerate" = none := He.free_ok hK G (c.facts (List.mem_of_getElem? (i := 14) (by rfl)))
  have n_int : mg "int" = none := He.free_ok hK G (c.facts (List.mem_of_getElem? (i := 15) (by rfl)))
  have n_len : mg "len" = none := He.free_ok hK G (c.facts (List.mem_of_getElem? (i := 16) (by rfl)))
  have n_list : mg "list" = none := He.free_ok hK G (c.facts (List.mem_of_getElem? (i := 17) (by rfl)))
  have n_range : mg "range" = none := He.free_ok hK G (c.facts (List.mem_of_getElem? (i := 18) (by rfl)))
  have n_sorted : mg "sorted" = none := He.free_ok hK G (c.facts (List.mem_of_getElem? (i := 19) (by rfl)))
  have n_tuple : mg "tuple" = none := He.free_ok hK G (c.facts (List.mem_of_getElem? (i := 20) (by rfl)))
  have c_MOST_PERIOD : ∃ u, mg "MOST_PERIOD" = some u ∧ RelV (.int 2000) u := by
    obtain ⟨t, ht⟩ := He.int_ok hK G (c.facts (f := .int "MOST_PERIOD" 2000) (List.mem_of_getElem? (i := 21) (by rfl)))
    exact ⟨_, ht, t, rfl⟩
  have gNumberError : mg "NumberError" = some (.ref (He.ga K "NumberError")) := He.glo_ok hK G (c.facts (List.mem_of_getElem? (i := 23) (by rfl)))
  have xNumberError := He.exc_ok (c.facts (f := .exc "NumberError") (List.mem_of_getElem? (i := 22) (by rfl)))
  have mNumberError := He.exm_ok (c.facts (f := .exm "NumberError" "NumberError" true) (List.mem_of_getElem? (i := 24) (by rfl)))
  have b1 := e1
  have X : Law.Txt K mg := ⟨gNumberError, xNumberError, mNumberError, bltB_ok hK G e1, n_abs, n_enumerate, n_int, n_len, n_list, n_range, n_sorted, n_tuple, c_MOST_PERIOD⟩
  have B_law := L "law" (by decide)
  generalize tabL K lamF = T at *
  have G_root_parts := ok_root_parts (P := PR) (w := w) (T := T) (base := base) X F_root_parts h_root_parts
  have G_root_convergents := ok_root_convergents (P := PR) (w := w) (T := T) (base := base) X F_root_convergents h_root_convergents G_root_parts
  have G_least_point := ok_least_point (P := PR) (w := w) (T := T) (base := base) X F_least_point h_least_point G_root_parts G_root_convergents
  have G_minus_point := ok_minus_point (P := PR) (w := w) (T := T) (base := base) X F_minus_point h_minus_point G_root_parts G_root_convergents
  have G_points := ok_points (P := PR) (w := w) (T := T) (base := base) X F_points h_points G_least_point
  have G__law_parts := ok__law_parts (P := PR) (w := w) (T := T) (base := base) X F__law_parts h__law_parts
  have G__law_least := ok__law_least (P := PR) (w := w) (T := T) (base := base) X F__law_least h__law_least
  have G_sum_of_two_squares := ok_sum_of_two_squares (P := PR) (w := w) (T := T) (base := base) X F_sum_of_two_squares h_sum_of_two_squares
  have G__law_dice := ok_law_dice (P := PR) (w := w) (T := T) (base := base) X F__law_dice h__law_dice
  have G__law_roll := ok_law_roll (P := PR) (w := w) (T := T) (base := base) X F__law_roll h__law_roll
  have G__law_rounds := ok_law_rounds (P := PR) (w := w) (T := T) (base := base) X F__law_rounds h__law_rounds G__law_dice

  have Z : GS PR w K T mg base := { G_root_parts := G_root_parts, G_root_convergents := G_root_convergents, G_least_point := G_least_point, G_minus_point := G_minus_point, G_points := G_points, G_sum_of_two_squares := G_sum_of_two_squares, G__law_parts := G__law_parts, G__law_least := G__law_least, G__law_roll := G__law_roll, G__law_rounds := G__law_rounds, m_root_parts := h_root_parts, m_least_point := h_least_point, m_minus_point := h_minus_point, F_told := F__law_told, hm_told := h__law_told }
  refine (ok_law (P := PR) (w := w) (T := T) (base := base) Z X B_law F).imp fun vs H Q E h => ?_
  obtain ⟨a, ns, rfl, h1, h2, h3, h4, h5⟩ := h
  have hL : IsA K (hd [] H) [.lst (ns.map di)] [.ref a] := isA_cons (by
    rw [hd_nil, Is]
    exact ⟨a, ns.map V.int, rfl, h1, by rw [show ns.map di = (ns.map V.int).map Dt.v by rw [List.map_map]; rfl]; exact flat_isA⟩) isA_nil
  exact ⟨[.lst (ns.map di)], .ok (db true), h4, (by rw [← hd_nil (H := H)]; exact hL), ⟨ns, rfl, h2, h3, rfl⟩, (fun v H' _ _ i => (by rw [Is.v_iff.mp i]; exact h5 H'))⟩
end Law.SH
open PySem PySem.W PySem.Calls PyProof.Rows
theorem PySem.Challenge.cw_algebrastack_k18_roots_that_come_back_holds : PySem.Challenge.rw_algebrastack_k18_roots_that_come_back.Holds := by
  w_on; o_law
  refine HandSHeadRun.head_imp (r := OpenLaw.row PySem.Challenge.rw_algebrastack_k18_roots_that_come_back) (q := view (OpenLaw.row PySem.Challenge.rw_algebrastack_k18_roots_that_come_back).prog [0, 19]) (H := Law.SH.hk) (ob := Law.SH.ob) (M := 4000) (loose := Law.SH.lo) (d := HandSHeadRun.topDef (OpenLaw.row PySem.Challenge.rw_algebrastack_k18_roots_that_come_back).prog 19) (kwd := []) Law.SH.ob_eq
    Law.SH.run (by kernel_rfl) (by kernel_rfl) (by kernel_rfl) (by rfl) (by first | assumption | decide +kernel) (by decide +kernel) ⟨rfl, rfl, rfl, rfl, rfl, by decide +kernel⟩ ?hw ?hc
  case hw => w_witness2
  case hc => exact Py.walk_mine (l := PySem.Challenge.rw_algebrastack_k18_roots_that_come_back) (k := 21) (x := "script") (nm := "law") (N := 4) (fs := Law.SH.lamF) (st := Law.SH.s_law) rfl (by kernel_rfl) ⟨rfl, by decide, by decide⟩ (by kernel_rfl) (List.mem_of_getElem? (i := 12) (by rfl)) (List.mem_of_getElem? (i := 12) (by rfl)) (fun _ _ _ _ _ _ us hl => match us, hl with | [_], _ => rfl) (fun K e => of_decide_eq_true (Bool.and_eq_true_iff.mp e).2) fun w K mg base a b c d e fd F => Law.SH.okLaw a b c d e fd F
end

