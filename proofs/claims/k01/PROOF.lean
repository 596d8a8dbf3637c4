import PyProof.Rows.All
import Wide.All
import OpenK.AllK
import Wide.FinOn
import HandS.ForMost
import HandS.ForExc
import HandS.Wide
import HandS.WideBits
import HandS.Gcd
import HandS.Style
import HandS.FStr
import HandS.Lambda
import HandS.TupAny
import HandS.TupMul
import HandS.Head0
import HandS.Head1
import HandS.Head2
import HandS.HeadEnd
import HandS.HeadHook1
import HandS.HeadHook2
import HandS.HeadHook3
import HandS.HeadHook4
import HandS.HeadWalk
import HandS.Defaults
import HandS.Head3
import HandS.EndTab
import HandS.SortInts
import KE.KDictPairs
import HandS.SortRule
import HandS.WordsDict
import HandS.SortOrd
import KE.KStateDown
import HandS.Base
import HandS.Call
import HandS.Ends
import HandS.More
import HandS.Words
import HandS.WordsExc
import PySem.Challenge.RW_algebrastack_k01_whole_numbers_and_fract
section
set_option Elab.async false
set_option linter.all false
set_option maxRecDepth 100000
set_option maxHeartbeats 4000000
/-! A layer over HandS: pure data in slots, lists of one's own in a store; readings told by what they evaluate to. -/
namespace Py
open PySem PySem.Spec PyProof.Rows L2
set_option autoImplicit false
abbrev Frg := PySem.W.Frag
abbrev Sg := L2.St
inductive Dt where
  | v (x : V)
  | tup (xs : List Dt)
  | lst (xs : List Dt)
  | obj (C : Addr) (ns : List Str) (xs : List Dt)
  | dct (ks : List Key) (xs : List Dt)
  | tupZ (xs : List Dt)
abbrev di (i : Int) : Dt := .v (.int i)
abbrev db (b : Bool) : Dt := .v (.bl b)
abbrev dn : Dt := .v .non
abbrev ds (s : Str) : Dt := .v (.str s)
/-- an object that is no table of code objects -/
def NoT (o : HO) : Prop := ∀ ps, o ≠ .tbl ps
/-- all but the tables stay -/
def Ex (H H' : Hp) : Prop := ∀ a o, H a = some o → NoT o → H' a = some o
theorem nt_l {xs : List V} : NoT (.lst xs) := fun ps z => by cases z
theorem nt_t {xs : List V} : NoT (.tup xs) := fun ps z => by cases z
theorem nt_f {o : Obj} {u : HO} : NoT (.frz o u) := fun ps z => by cases z
theorem nt_k {kvs : List (Key × V)} : NoT (.dK kvs) := fun ps z => by cases z
theorem nt_i {C d : Addr} {fs : List (Str × V)} : NoT (.ins C d fs) := fun ps z => by cases z
theorem Ex.refl (H : Hp) : Ex H H := fun _ _ h _ => h
theorem Ex.trans {H H1 H2 : Hp} (a : Ex H H1) (b : Ex H1 H2) : Ex H H2 := fun x o h n => b x o (a x o h n) n
theorem Ex.new {H : Hp} {p : Addr} {o : HO} (h : H p = none) : Ex H (upd H p o) := fun a u e _ => by
  rw [upd_ne (ne_of_none e h)]
  exact e
theorem Ex.rd {H H' : Hp} {a : Addr} {u : HO} (e : Ex H H') (n : NoT u) (h : Rd H a u) : Rd H' a u := by
  rcases h with h | ⟨o, h⟩
  · exact .inl (e a _ h n)
  · exact .inr ⟨o, e a _ h nt_f⟩
theorem Ex.l {K : Frg} {H H' : Hp} {a : Addr} {xs : List V} (e : Ex H H') (h : SqL K H a xs) : SqL K H' a xs := by
  rcases h with h | h
  · exact .inl (e.rd nt_l h)
  · exact .inr h
theorem Ex.t {K : Frg} {H H' : Hp} {a : Addr} {xs : List V} (e : Ex H H') (h : SqT K H a xs) : SqT K H' a xs := by
  rcases h with h | h
  · exact .inl (e.rd nt_t h)
  · exact .inr h
mutual
/-- the value v, in the heap H, is the datum -/
def Is (K : Frg) (H : Hp) : Dt → V → Prop
  | .v x, v => v = x
  | .tup xs, v => ∃ a vs, v = .ref a ∧ SqT K H a vs ∧ IsA K H xs vs
  | .lst xs, v => ∃ a vs, v = .ref a ∧ SqL K H a vs ∧ IsA K H xs vs
  | .obj C ns xs, v => ∃ a dx vs, v = .ref a ∧ H a = some (.ins C dx (ns.zip vs)) ∧ IsA K H xs vs
  | .dct ks xs, v => ∃ a vs, v = .ref a ∧ H a = some (.dK (ks.zip vs)) ∧ IsA K H xs vs
  | .tupZ xs, v => ∃ a o vs, v = .ref a ∧ H a = some (.frz o (.tup vs)) ∧ o.dict = none ∧ IsA K H xs vs
def IsA (K : Frg) (H : Hp) : List Dt → List V → Prop
  | [], vs => vs = []
  | d :: r, vs => ∃ v w, vs = v :: w ∧ Is K H d v ∧ IsA K H r w
end
section
variable {K : Frg} {H H' : Hp}
mutual
theorem Is.mono (e : Ex H H') : ∀ (d : Dt) (v : V), Is K H d v → Is K H' d v
  | .v x, v, h => by rw [Is] at h ⊢; exact h
  | .tup xs, v, h => by
    rw [Is] at h ⊢
    obtain ⟨a, vs, h1, h2, h3⟩ := h
    exact ⟨a, vs, h1, e.t h2, IsA.mono e xs vs h3⟩
  | .lst xs, v, h => by
    rw [Is] at h ⊢
    obtain ⟨a, vs, h1, h2, h3⟩ := h
    exact ⟨a, vs, h1, e.l h2, IsA.mono e xs vs h3⟩
  | .obj C ns xs, v, h => by
    rw [Is] at h ⊢
    obtain ⟨a, dx, vs, h1, h2, h3⟩ := h
    exact ⟨a, dx, vs, h1, e _ _ h2 nt_i, IsA.mono e xs vs h3⟩
  | .dct ks xs, v, h => by
    rw [Is] at h ⊢
    obtain ⟨a, vs, h1, h2, h3⟩ := h
    exact ⟨a, vs, h1, e _ _ h2 nt_k, IsA.mono e xs vs h3⟩
  | .tupZ xs, v, h => by
    rw [Is] at h ⊢
    obtain ⟨a, o, vs, h1, h2, h4, h3⟩ := h
    exact ⟨a, o, vs, h1, e _ _ h2 nt_f, h4, IsA.mono e xs vs h3⟩
theorem IsA.mono (e : Ex H H') : ∀ (ds : List Dt) (vs : List V), IsA K H ds vs → IsA K H' ds vs
  | [], vs, h => by rw [IsA] at h ⊢; exact h
  | d :: r, vs, h => by
    rw [IsA] at h ⊢
    obtain ⟨v, w, h1, h2, h3⟩ := h
    exact ⟨v, w, h1, Is.mono e d v h2, IsA.mono e r w h3⟩
end
theorem Is.v_iff {x v : V} : Is K H (.v x) v ↔ v = x := by rw [Is]
theorem is_v {x : V} : Is K H (.v x) x := by rw [Is]
theorem isA_nil : IsA K H [] [] := by rw [IsA]
theorem isA_cons {d : Dt} {r : List Dt} {v : V} {w : List V} (h : Is K H d v) (h' : IsA K H r w) : IsA K H (d :: r) (v :: w) := by rw [IsA]; exact ⟨v, w, rfl, h, h'⟩
theorem isA_len : ∀ {ds : List Dt} {vs : List V}, IsA K H ds vs → vs.length = ds.length
  | [], vs, h => by rw [IsA] at h; rw [h]; rfl
  | d :: r, vs, h => by
    rw [IsA] at h
    obtain ⟨v, w, h1, h2, h3⟩ := h
    rw [h1, List.length_cons, List.length_cons, isA_len h3]
theorem isA_get : ∀ {ds : List Dt} {vs : List V} {i : Nat} {d : Dt}, IsA K H ds vs → ds[i]? = some d → ∃ v, vs[i]? = some v ∧ Is K H d v
  | [], vs, i, d, h, e => by cases i <;> simp at e
  | d0 :: r, vs, i, d, h, e => by
    rw [IsA] at h
    obtain ⟨v, w, h1, h2, h3⟩ := h
    subst h1
    cases i with
    | zero =>
      simp at e
      subst e
      exact ⟨v, rfl, h2⟩
    | succ i =>
      obtain ⟨u, h4, h5⟩ := isA_get (i := i) h3 (by simpa using e)
      exact ⟨u, by simpa using h4, h5⟩
theorem isA_get' {ds : List Dt} {vs : List V} {i : Nat} {v : V} (h : IsA K H ds vs) (e : vs[i]? = some v) : ∃ d, ds[i]? = some d ∧ Is K H d v := by
  have hl := isA_len h
  have hi : i < vs.length := (List.getElem?_eq_some_iff.mp e).1
  have hd : ds[i]? = some ds[i] := List.getElem?_eq_getElem (by omega)
  obtain ⟨u, h1, h2⟩ := isA_get h hd
  rw [e] at h1
  cases h1
  exact ⟨_, hd, h2⟩
theorem isA_app : ∀ {xs ys : List Dt} {vs ws : List V}, IsA K H xs vs → IsA K H ys ws → IsA K H (xs ++ ys) (vs ++ ws)
  | [], ys, vs, ws, h, g => by rw [IsA] at h; subst h; exact g
  | d :: r, ys, vs, ws, h, g => by
    rw [IsA] at h
    obtain ⟨v, w, h1, h2, h3⟩ := h
    subst h1
    exact isA_cons h2 (isA_app h3 g)
theorem isA_set : ∀ {xs : List Dt} {vs : List V} {i : Nat} {d : Dt} {v : V}, IsA K H xs vs → Is K H d v → IsA K H (xs.set i d) (vs.set i v)
  | [], vs, i, d, v, h, g => by rw [IsA] at h; subst h; exact isA_nil
  | d0 :: r, vs, i, d, v, h, g => by
    rw [IsA] at h
    obtain ⟨v0, w, h1, h2, h3⟩ := h
    subst h1
    cases i with
    | zero => exact isA_cons g h3
    | succ i => exact isA_cons h2 (isA_set h3 g)
theorem isA_take : ∀ {xs : List Dt} {vs : List V} (n : Nat), IsA K H xs vs → IsA K H (xs.take n) (vs.take n)
  | xs, vs, 0, h => by simp only [List.take_zero]; exact isA_nil
  | [], vs, n + 1, h => by rw [IsA] at h; subst h; exact isA_nil
  | d :: r, vs, n + 1, h => by
    rw [IsA] at h
    obtain ⟨v, w, h1, h2, h3⟩ := h
    subst h1
    exact isA_cons h2 (isA_take n h3)
theorem isA_drop : ∀ {xs : List Dt} {vs : List V} (n : Nat), IsA K H xs vs → IsA K H (xs.drop n) (vs.drop n)
  | xs, vs, 0, h => h
  | [], vs, n + 1, h => by rw [IsA] at h; subst h; exact isA_nil
  | d :: r, vs, n + 1, h => by
    rw [IsA] at h
    obtain ⟨v, w, h1, h2, h3⟩ := h
    subst h1
    exact isA_drop n h3
theorem isA_cut {xs : List Dt} {vs : List V} (lo hi : Nat) (h : IsA K H xs vs) : IsA K H ((xs.drop lo).take hi) ((vs.drop lo).take hi) := isA_take hi (isA_drop lo h)
end
/-! ### the abstract state -/
inductive SD where
  | un
  | d (x : Dt)
  | own (k : Nat)
inductive OD where
  | gone
  | lst (xs : List Dt)
structure AS where
  sl : List SD
  st : List OD
def hd (O : List Addr) (H : Hp) : Hp := fun b => if b ∈ O then none else H b
theorem hd_ex {O : List Addr} {H : Hp} : Ex (hd O H) H := fun a o e _ => by
  unfold hd at e
  split at e
  · cases e
  · exact e
theorem hd_mono {O : List Addr} {H H' : Hp} (e : Ex H H') : Ex (hd O H) (hd O H') := fun a o h n => by
  unfold hd at h ⊢
  split at h
  · cases h
  · rename_i q
    rw [if_neg q]
    exact e _ _ h n
theorem hd_of {O : List Addr} {H : Hp} {a : Addr} (h : a ∉ O) : hd O H a = H a := by unfold hd; rw [if_neg h]
theorem hd_nil {H : Hp} : hd [] H = H := by funext b; unfold hd; simp
/-- the addresses hidden -/
def hid (O : List Addr) (os : List (Option Addr)) : List Addr := O ++ os.filterMap id
theorem mem_hid {O : List Addr} {os : List (Option Addr)} {a : Addr} : a ∈ hid O os ↔ a ∈ O ∨ some a ∈ os := by
  unfold hid
  rw [List.mem_append, List.mem_filterMap]
  constructor
  · rintro (h | ⟨x, h1, h2⟩)
    · exact .inl h
    · have : x = some a := h2
      rw [this] at h1
      exact .inr h1
  · rintro (h | h)
    · exact .inl h
    · exact .inr ⟨_, h, rfl⟩
/-- the heap of data -/
abbrev Rh (O : List Addr) (os : List (Option Addr)) (H : Hp) : Hp := hd (hid O os) H
def SlOk (K : Frg) (os : List (Option Addr)) (R : Hp) : SD → Option V → Prop
  | .un, _ => True
  | .d x, o => ∃ v, o = some v ∧ Is K R x v
  | .own k, o => ∃ a, o = some (.ref a) ∧ os[k]? = some (some a)
def StOk (K : Frg) (R H : Hp) (o : Option Addr) : OD → Prop
  | .gone => True
  | .lst xs => ∃ a vs, o = some a ∧ H a = some (.lst vs) ∧ IsA K R xs vs
/-- the context of a def's reading: the written part, the tables, the heap at the entry, what is hidden -/
structure Ct where
  K : Frg
  T : List (Addr × Str)
  H0 : Hp
  O : List Addr
section
variable {K : Frg} {H H' : Hp} {O : List Addr} {os : List (Option Addr)}
theorem SlOk.mono {R R' : Hp} (e : Ex R R') : ∀ {s : SD} {o : Option V}, SlOk K os R s o → SlOk K os R' s o
  | .un, _, _ => True.intro
  | .d x, _, h => by
    obtain ⟨v, h1, h2⟩ := h
    exact ⟨v, h1, Is.mono e x v h2⟩
  | .own k, _, h => h
theorem StOk.mono {R R' : Hp} (e : Ex R R') (g : Ex H H') {o : Option Addr} : ∀ {s : OD}, StOk K R H o s → StOk K R' H' o s
  | .gone, _ => True.intro
  | .lst xs, h => by
    obtain ⟨a, vs, h1, h2, h3⟩ := h
    exact ⟨a, vs, h1, g _ _ h2 nt_l, IsA.mono e xs vs h3⟩
theorem hid_ex {os : List (Option Addr)} {H : Hp} : Ex (Rh O os H) (hd O H) := fun a o h _ => by
  have h : hd (hid O os) H a = some o := h
  unfold hd at h ⊢
  split at h
  · cases h
  · rename_i q
    rw [if_neg fun z => q (mem_hid.mpr (.inl z))]
    exact h
theorem hid_app {p a : Addr} (h : a ≠ p) : a ∈ hid O (os ++ [some p]) ↔ a ∈ hid O os := by
  rw [mem_hid, mem_hid, List.mem_append]
  constructor
  · rintro (z | z | z)
    · exact .inl z
    · exact .inr z
    · simp at z; exact absurd z h
  · rintro (z | z)
    · exact .inl z
    · exact .inr (.inl z)
theorem Rh_app {p : Addr} {o : HO} (hp : H p = none) : Rh O (os ++ [some p]) (upd H p o) = Rh O os H := by
  funext a
  show hd _ _ a = hd _ _ a
  unfold hd
  by_cases e : a = p
  · subst e
    rw [if_pos (mem_hid.mpr (.inr (by simp)))]
    split
    · rfl
    · exact hp.symm
  · by_cases q : a ∈ hid O os
    · rw [if_pos q, if_pos ((hid_app e).mpr q)]
    · rw [if_neg q, if_neg fun z => q ((hid_app e).mp z), upd_ne e]
theorem Rh_upd {p : Addr} {o : HO} (hp : p ∈ hid O os) : Rh O os (upd H p o) = Rh O os H := by
  funext a
  show hd _ _ a = hd _ _ a
  unfold hd
  by_cases e : a = p
  · subst e
    rw [if_pos hp, if_pos hp]
  · rw [upd_ne e]
theorem tabs_new {T : List (Addr × Str)} {p : Addr} {o : HO} (t : LamX.Tabs T H) (hp : H p = none) : LamX.Tabs T (upd H p o) := t.ext fun b u e => by
  rw [upd_ne (ne_of_none e hp)]
  exact e
theorem tabs_lst {T : List (Addr × Str)} {p : Addr} {xs ys : List V} (t : LamX.Tabs T H) (hp : H p = some (.lst xs)) : LamX.Tabs T (upd H p (.lst ys)) := fun q hq => by
  obtain ⟨ps, h1, h2, h3⟩ := t q hq
  refine ⟨ps, ?_, h2, fun pos cv hc => ?_⟩
  · rw [upd_ne (ne_of h1 hp (fun z => by cases z))]
    exact h1
  · obtain ⟨c, e1, e2⟩ := h3 pos cv hc
    refine ⟨c, e1, ?_⟩
    rw [upd_ne (ne_of e2 hp (fun z => by unfold LamX.CodeO at z; cases z))]
    exact e2
end
structure Ok (C : Ct) (os : List (Option Addr)) (A : AS) (σ : Sg) (H : Hp) : Prop where
  ex : Ex C.H0 H
  tb : LamX.Tabs C.T H
  ol : ∀ a ∈ C.O, ∃ o, H a = some o ∧ NoT o
  dj : ∀ a ∈ C.O, some a ∉ os
  ln : os.length = A.st.length
  nd : ∀ (i j : Nat) (a : Addr), os[i]? = some (some a) → os[j]? = some (some a) → i = j
  fr : ∀ a, some a ∈ os → (∀ o, C.H0 a = some o → ¬ NoT o) ∧ ∃ o, H a = some o ∧ NoT o
  sn : σ.length = A.sl.length
  sl : ∀ (i : Nat) s o, A.sl[i]? = some s → σ[i]? = some o → SlOk C.K os (Rh C.O os H) s o
  st : ∀ (k : Nat) s o, A.st[k]? = some s → os[k]? = some o → StOk C.K (Rh C.O os H) H o s
section
variable {C : Ct} {H H' : Hp} {os : List (Option Addr)} {A : AS} {σ : Sg}
theorem Ok.mono (k : Ok C os A σ H) (e : Ex H H') (t : LamX.Tabs C.T H') : Ok C os A σ H' :=
  ⟨k.ex.trans e, t, fun a h => by obtain ⟨o, q, n⟩ := k.ol a h; exact ⟨o, e _ _ q n, n⟩, k.dj, k.ln, k.nd, fun a h => ⟨(k.fr a h).1, by obtain ⟨o, q, n⟩ := (k.fr a h).2; exact ⟨o, e _ _ q n, n⟩⟩, k.sn, fun i s o h1 h2 => (k.sl i s o h1 h2).mono (hd_mono e), fun i s o h1 h2 => (k.st i s o h1 h2).mono (hd_mono e) e⟩
theorem Ok.monoN (k : Ok C os A σ H) {p : Addr} {o : HO} (hp : H p = none) : Ok C os A σ (upd H p o) := k.mono (Ex.new hp) (tabs_new k.tb hp)
theorem Ok.hidden (k : Ok C os A σ H) {a : Addr} (h : a ∈ hid C.O os) : ∃ o, H a = some o ∧ NoT o := by
  rcases mem_hid.mp h with h | h
  · exact k.ol a h
  · exact (k.fr a h).2
theorem Ok.new (k : Ok C os A σ H) {a : Addr} (h : H a = none) : a ∉ hid C.O os := fun q => by
  obtain ⟨o, e, _⟩ := k.hidden q
  rw [h] at e; cases e
theorem Ok.slot (k : Ok C os A σ H) {i : Nat} {s : SD} (h : A.sl[i]? = some s) : ∃ o, σ[i]? = some o ∧ SlOk C.K os (Rh C.O os H) s o := by
  have hi : i < A.sl.length := (List.getElem?_eq_some_iff.mp h).1
  obtain ⟨o, e⟩ : ∃ o, σ[i]? = some o := ⟨_, List.getElem?_eq_getElem (by rw [k.sn]; exact hi)⟩
  exact ⟨_, e, k.sl i s _ h e⟩
theorem Ok.store (k : Ok C os A σ H) {i : Nat} {s : OD} (h : A.st[i]? = some s) : ∃ o, os[i]? = some o ∧ StOk C.K (Rh C.O os H) H o s := by
  have hi : i < A.st.length := (List.getElem?_eq_some_iff.mp h).1
  obtain ⟨o, e⟩ : ∃ o, os[i]? = some o := ⟨_, List.getElem?_eq_getElem (by rw [k.ln]; exact hi)⟩
  exact ⟨_, e, k.st i s _ h e⟩
/-- a slot is given a datum -/
def AS.put (A : AS) (i : Nat) (d : Dt) : AS := ⟨A.sl.set i (.d d), A.st⟩
theorem Ok.put (k : Ok C os A σ H) {i : Nat} {d : Dt} {v : V} (h : Is C.K (Rh C.O os H) d v) : Ok C os (A.put i d) (σ.set i (some v)) H := by
  refine ⟨k.ex, k.tb, k.ol, k.dj, k.ln, k.nd, k.fr, by simp [AS.put, k.sn], fun j s o h1 h2 => ?_, k.st⟩
  have h1 : (A.sl.set i (SD.d d))[j]? = some s := h1
  rw [List.getElem?_set] at h1 h2
  by_cases e : i = j
  · rw [if_pos e] at h1 h2
    split at h1
    · split at h2
      · cases h1; cases h2
        exact ⟨v, rfl, h⟩
      · cases h2
    · cases h1
  · rw [if_neg e] at h1 h2
    exact k.sl j s o h1 h2
end
/-- what was known is known, what is hidden from outside stays -/
structure Gr (O : List Addr) (os : List (Option Addr)) (H : Hp) (os' : List (Option Addr)) (H' : Hp) : Prop where
  e : Ex (Rh O os H) (Rh O os' H')
  o : ∀ a ∈ O, H' a = H a
  p : ∀ (k : Nat) (x : Option Addr), os[k]? = some x → os'[k]? = some x
theorem Gr.refl {O : List Addr} {os : List (Option Addr)} {H : Hp} : Gr O os H os H := ⟨Ex.refl _, fun _ _ => rfl, fun _ _ h => h⟩
theorem Gr.trans {O : List Addr} {os os1 os2 : List (Option Addr)} {H H1 H2 : Hp} (a : Gr O os H os1 H1) (b : Gr O os1 H1 os2 H2) : Gr O os H os2 H2 := ⟨a.e.trans b.e, fun x h => (b.o x h).trans (a.o x h), fun k x h => b.p k x (a.p k x h)⟩
theorem Ok.gr {C : Ct} {H H' : Hp} {os : List (Option Addr)} {A : AS} {σ : Sg} (k : Ok C os A σ H) (e : Ex H H') : Gr C.O os H os H' := ⟨hd_mono e, fun a h => by
  obtain ⟨o, q, n⟩ := k.ol a h
  rw [q, e _ _ q n], fun _ _ h => h⟩
/-! ### what a reading evaluates to -/
section
variable (C : Ct)
def EvS (te : TE) (A : AS) (d : Dt) (A' : AS) : Prop := ∀ os σ H, Ok C os A σ H → ∀ Q : VK, (∀ os' v H', Ok C os' A' σ H' → Gr C.O os H os' H' → Is C.K (Rh C.O os' H') d v → Q v H') → te σ H Q
def EvT (tt : TT) (A : AS) (b : Bool) (A' : AS) : Prop := ∀ os σ H, Ok C os A σ H → ∀ Q : Bool → Hp → Prop, (∀ os' H', Ok C os' A' σ H' → Gr C.O os H os' H' → Q b H') → tt σ H Q
def EvA (ta : TA) (A : AS) (ds : List Dt) (A' : AS) : Prop := ∀ os σ H, Ok C os A σ H → ∀ Q : List V → Hp → Prop, (∀ os' vs H', Ok C os' A' σ H' → Gr C.O os H os' H' → IsA C.K (Rh C.O os' H') ds vs → Q vs H') → ta σ H Q
/-- raises c -/
def EvX (E : XK) (te : TE) (A : AS) (c : Addr) (A1 : AS) : Prop := ∀ os σ H, Ok C os A σ H → (∀ os' H', Ok C os' A1 σ H' → Gr C.O os H os' H' → E (.ref c) none H') → ∀ Q : VK, te σ H Q
def EvXA (E : XK) (ta : TA) (A : AS) (c : Addr) (A1 : AS) : Prop := ∀ os σ H, Ok C os A σ H → (∀ os' H', Ok C os' A1 σ H' → Gr C.O os H os' H' → E (.ref c) none H') → ∀ Q : List V → Hp → Prop, ta σ H Q
def EvXT (E : XK) (tt : TT) (A : AS) (c : Addr) (A1 : AS) : Prop := ∀ os σ H, Ok C os A σ H → (∀ os' H', Ok C os' A1 σ H' → Gr C.O os H os' H' → E (.ref c) none H') → ∀ Q : Bool → Hp → Prop, tt σ H Q
end
section
variable {C : Ct} {ta tb tc te : TE} {t u : TT} {A A1 A2 A3 : AS} {x y z : V} {d d1 d2 : Dt} {r : R2}
theorem e_var {i : Nat} (h : A.sl[i]? = some (.d d)) : EvS C (tVar i) A d A := fun os σ H k Q q => by
  obtain ⟨o, e, v, h1, h2⟩ := k.slot h
  subst h1
  exact ⟨v, e, q os v H k Gr.refl h2⟩
theorem e_c : EvS C (tC x) A (.v x) A := fun os σ H k Q q => q os x H k Gr.refl is_v
theorem e_op (ha : EvS C ta A (.v x) A1) (hb : EvS C tb A1 (.v y) A2) (hr : ∀ H (Q : VK), Q z H → r x y H Q) : EvS C (tOp r ta tb) A (.v z) A2 := fun os σ H k Q q =>
  ha os σ H k _ fun os1 v1 H1 k1 e1 i1 => hb os1 σ H1 k1 _ fun os2 v2 H2 k2 e2 i2 => by
    rw [Is.v_iff.mp i1, Is.v_iff.mp i2]
    exact hr H2 Q (q os2 z H2 k2 (e1.trans e2) is_v)
theorem e_I0 {g : Int → Int → V} {i j : Int} (ha : EvS C ta A (di i) A1) (hb : EvS C tb A1 (di j) A2) : EvS C (tOp (rI0 g) ta tb) A (.v (g i j)) A2 := e_op ha hb fun H Q q => ⟨i, j, rfl, rfl, q⟩
theorem e_I {cc : Int → Int → Prop} {g : Int → Int → V} {i j : Int} (hc : cc i j) (ha : EvS C ta A (di i) A1) (hb : EvS C tb A1 (di j) A2) : EvS C (tOp (rI cc g) ta tb) A (.v (g i j)) A2 := e_op ha hb fun H Q q => ⟨i, j, rfl, rfl, hc, q⟩
theorem e_eq (h : scal x y = true) (ha : EvS C ta A (.v x) A1) (hb : EvS C tb A1 (.v y) A2) : EvS C (tOp rEq ta tb) A (db (decide (x = y))) A2 := e_op ha hb fun H Q q => ⟨h, q⟩
theorem e_ne (h : scal x y = true) (ha : EvS C ta A (.v x) A1) (hb : EvS C tb A1 (.v y) A2) : EvS C (tOp rNe ta tb) A (db (!decide (x = y))) A2 := e_op ha hb fun H Q q => ⟨h, q⟩
theorem e_un {r : V → Hp → VK → Prop} (ha : EvS C ta A (.v x) A1) (hr : ∀ H (Q : VK), Q z H → r x H Q) : EvS C (tUn r ta) A (.v z) A1 := fun os σ H k Q q =>
  ha os σ H k _ fun os1 v1 H1 k1 e1 i1 => by
    rw [Is.v_iff.mp i1]
    exact hr H1 Q (q os1 z H1 k1 e1 is_v)
theorem e_U {g : Int → V} {i : Int} (ha : EvS C ta A (di i) A1) : EvS C (tUn (rU g) ta) A (.v (g i)) A1 := e_un ha fun H Q q => ⟨i, rfl, q⟩
theorem e_is (h : EvS C te A d A1) (e : d = d1) : EvS C te A d1 A1 := by rw [← e]; exact h
theorem e_isA (h : EvS C te A d A1) (e : A1 = A2) : EvS C te A d A2 := by rw [← e]; exact h
theorem isA_at {H : Hp} {xs : List Dt} {vs : List V} {i : Int} (h : IsA C.K H xs vs) (e : atI xs i = some d) : ∃ v, atI vs i = some v ∧ Is C.K H d v := by
  unfold atI at e ⊢
  rw [isA_len h]
  cases q : ixN xs.length i with
  | none => rw [q] at e; cases e
  | some j =>
    rw [q] at e
    obtain ⟨v, h1, h2⟩ := isA_get h (show xs[j]? = some d from e)
    exact ⟨v, h1, h2⟩
theorem e_ixT {xs : List Dt} {i : Int} (ha : EvS C ta A (.tup xs) A1) (hb : EvS C tb A1 (di i) A2) (h : atI xs i = some d) : EvS C (tOp (rIxT C.K) ta tb) A d A2 := fun os σ H k Q q =>
  ha os σ H k _ fun os1 v1 H1 k1 e1 i1 => hb os1 σ H1 k1 _ fun os2 v2 H2 k2 e2 i2 => by
    rw [Is] at i1
    obtain ⟨a, vs, rfl, h2, h3⟩ := i1
    obtain ⟨v, h4, h5⟩ := isA_at h3 h
    rw [Is.v_iff.mp i2]
    exact ⟨a, vs, i, v, rfl, rfl, (e2.e.trans hd_ex).t h2, h4, q os2 v H2 k2 (e1.trans e2) (Is.mono e2.e _ _ h5)⟩
theorem e_ixL {xs : List Dt} {i : Int} (ha : EvS C ta A (.lst xs) A1) (hb : EvS C tb A1 (di i) A2) (h : atI xs i = some d) : EvS C (tOp (rIxL C.K) ta tb) A d A2 := fun os σ H k Q q =>
  ha os σ H k _ fun os1 v1 H1 k1 e1 i1 => hb os1 σ H1 k1 _ fun os2 v2 H2 k2 e2 i2 => by
    rw [Is] at i1
    obtain ⟨a, vs, rfl, h2, h3⟩ := i1
    obtain ⟨v, h4, h5⟩ := isA_at h3 h
    rw [Is.v_iff.mp i2]
    exact ⟨a, vs, i, v, rfl, rfl, (e2.e.trans hd_ex).l h2, h4, q os2 v H2 k2 (e1.trans e2) (Is.mono e2.e _ _ h5)⟩
/-- an item of a list of one's own -/
theorem e_ixO0 {i : Nat} {n : Nat} {xs : List Dt} {j : Int} (h1 : A.sl[i]? = some (.own n)) (h2 : A.st[n]? = some (.lst xs)) (hb : EvS C tb A (di j) A) (h : atI xs j = some d) : EvS C (tOp (rIxL C.K) (tVar i) tb) A d A := fun os σ H k Q q => by
  obtain ⟨o, e1, a, e2, e3⟩ := k.slot h1
  subst e2
  refine ⟨_, e1, hb os σ H k _ fun os2 v2 H2 k2 e4 i2 => ?_⟩
  obtain ⟨o2, f1, f3⟩ := k2.slot h1
  obtain ⟨f1, f2, a2, g1, g2⟩ := k2.slot h1
  rw [e1] at f2; cases f2
  cases g1
  obtain ⟨o3, s1, a3, vs, s2, s3, s4⟩ := k2.store h2
  rw [g2] at s1; cases s1; cases s2
  obtain ⟨v, h4, h5⟩ := isA_at s4 h
  rw [Is.v_iff.mp i2]
  exact ⟨_, vs, j, v, rfl, rfl, SqL.of s3, h4, q os2 v H2 k2 e4 h5⟩
theorem a_nil : EvA C tNil A [] A := fun os σ H k Q q => q os [] H k Gr.refl isA_nil
theorem a_cons {tr : TA} {ds : List Dt} (ha : EvS C ta A d A1) (hr : EvA C tr A1 ds A2) : EvA C (tCons ta tr) A (d :: ds) A2 := fun os σ H k Q q =>
  ha os σ H k _ fun os1 v1 H1 k1 e1 i1 => hr os1 σ H1 k1 _ fun os2 vs H2 k2 e2 i2 => q os2 (v1 :: vs) H2 k2 (e1.trans e2) (isA_cons (Is.mono e2.e _ _ i1) i2)
theorem Ok.fresh {os : List (Option Addr)} {σ : Sg} {H : Hp} {p : Addr} {o : HO} (k : Ok C os A σ H) (hp : H p = none) : Rh C.O os (upd H p o) p = some o := by
  show hd _ _ _ = _
  rw [hd_of (k.new hp), upd_same]
theorem e_tup {tl : TA} {ds : List Dt} (h : EvA C tl A ds A1) (hl : ds.length ≤ 100000) : EvS C (tTup tl) A (.tup ds) A1 := fun os σ H k Q q =>
  h os σ H k _ fun os1 vs H1 k1 e1 i1 => ⟨by rw [isA_len i1]; exact Nat.le_trans hl (by decide), fun p hp => q os1 _ _ (k1.monoN hp) (e1.trans (k1.gr (Ex.new hp))) (by
    rw [Is]
    exact ⟨p, vs, rfl, SqT.of (k1.fresh hp), IsA.mono (hd_mono (Ex.new hp)) _ _ i1⟩)⟩
theorem e_lst {tl : TA} {ds : List Dt} (h : EvA C tl A ds A1) (hl : ds.length ≤ 100000) : EvS C (tLst tl) A (.lst ds) A1 := fun os σ H k Q q =>
  h os σ H k _ fun os1 vs H1 k1 e1 i1 => ⟨by rw [isA_len i1]; exact Nat.le_trans hl (by decide), fun p hp => q os1 _ _ (k1.monoN hp) (e1.trans (k1.gr (Ex.new hp))) (by
    rw [Is]
    exact ⟨p, vs, rfl, SqL.of (k1.fresh hp), IsA.mono (hd_mono (Ex.new hp)) _ _ i1⟩)⟩
theorem t_test {b : Bool} (h : EvS C te A (db b) A1) : EvT C (tTest te) A b A1 := fun os σ H k Q q => h os σ H k _ fun os1 v H1 k1 e1 i1 => ⟨b, Is.v_iff.mp i1, q os1 H1 k1 e1⟩
theorem t_B {b : Bool} (h : EvS C te A (db b) A1) : EvT C (tB te) A b A1 := fun os σ H k Q q => h os σ H k _ fun os1 v H1 k1 e1 i1 => ⟨b, Is.v_iff.mp i1, q os1 H1 k1 e1⟩
theorem t_is {a b : Bool} (h : EvT C t A a A1) (e : a = b) : EvT C t A b A1 := by rw [← e]; exact h
theorem t_andT {b : Bool} (h1 : EvT C t A true A1) (h2 : EvT C u A1 b A2) : EvT C (tAnd t u) A b A2 := fun os σ H k Q q =>
  h1 os σ H k _ fun os1 H1 k1 e1 => by
    rw [if_pos rfl]
    exact h2 os1 σ H1 k1 _ fun os2 H2 k2 e2 => q os2 H2 k2 (e1.trans e2)
theorem t_andF (h1 : EvT C t A false A1) : EvT C (tAnd t u) A false A1 := fun os σ H k Q q =>
  h1 os σ H k _ fun os1 H1 k1 e1 => by
    rw [if_neg (by decide)]
    exact q os1 H1 k1 e1
theorem t_orF {b : Bool} (h1 : EvT C t A false A1) (h2 : EvT C u A1 b A2) : EvT C (tOr t u) A b A2 := fun os σ H k Q q =>
  h1 os σ H k _ fun os1 H1 k1 e1 => by
    rw [if_neg (by decide)]
    exact h2 os1 σ H1 k1 _ fun os2 H2 k2 e2 => q os2 H2 k2 (e1.trans e2)
theorem t_orT (h1 : EvT C t A true A1) : EvT C (tOr t u) A true A1 := fun os σ H k Q q =>
  h1 os σ H k _ fun os1 H1 k1 e1 => by
    rw [if_pos rfl]
    exact q os1 H1 k1 e1
/-- and, or where the state stays -/
theorem t_and {a b : Bool} (h1 : EvT C t A a A) (h2 : a = true → EvT C u A b A) : EvT C (tAnd t u) A (a && b) A := by
  cases a with
  | true => exact t_andT h1 (h2 rfl)
  | false => exact t_andF h1
theorem t_or {a b : Bool} (h1 : EvT C t A a A) (h2 : a = false → EvT C u A b A) : EvT C (tOr t u) A (a || b) A := by
  cases a with
  | true => exact t_orT h1
  | false => exact t_orF h1 (h2 rfl)
theorem t_not {a : Bool} (h1 : EvT C t A a A1) : EvT C (tNot t) A (!a) A1 := fun os σ H k Q q => h1 os σ H k _ fun os1 H1 k1 e1 => q os1 H1 k1 e1
theorem e_ifT (h : EvT C t A true A1) (h1 : EvS C ta A1 d A2) : EvS C (tIf t ta tb) A d A2 := fun os σ H k Q q =>
  h os σ H k _ fun os1 H1 k1 e1 => by
    rw [if_pos rfl]
    exact h1 os1 σ H1 k1 _ fun os2 v H2 k2 e2 i => q os2 v H2 k2 (e1.trans e2) i
theorem e_ifF (h : EvT C t A false A1) (h1 : EvS C tb A1 d A2) : EvS C (tIf t ta tb) A d A2 := fun os σ H k Q q =>
  h os σ H k _ fun os1 H1 k1 e1 => by
    rw [if_neg (by decide)]
    exact h1 os1 σ H1 k1 _ fun os2 v H2 k2 e2 i => q os2 v H2 k2 (e1.trans e2) i
theorem e_if {b : Bool} (h : EvT C t A b A1) (h1 : b = true → EvS C ta A1 d A2) (h2 : b = false → EvS C tb A1 d A2) : EvS C (tIf t ta tb) A d A2 := by
  cases b with
  | true => exact e_ifT h (h1 rfl)
  | false => exact e_ifF h (h2 rfl)
theorem e_ite {b : Bool} (h : EvT C t A b A1) (h1 : b = true → EvS C ta A1 d1 A2) (h2 : b = false → EvS C tb A1 d2 A2) : EvS C (tIf t ta tb) A (if b then d1 else d2) A2 := by
  cases b with
  | true => exact e_ifT h (h1 rfl)
  | false => exact e_ifF h (h2 rfl)
theorem e_andT (h1 : EvS C ta A (db true) A1) (h2 : EvS C tb A1 d A2) : EvS C (tAndV ta tb) A d A2 := fun os σ H k Q q =>
  h1 os σ H k _ fun os1 v H1 k1 e1 i1 => ⟨true, Is.v_iff.mp i1, by
    rw [if_pos rfl]
    exact h2 os1 σ H1 k1 _ fun os2 v H2 k2 e2 i => q os2 v H2 k2 (e1.trans e2) i⟩
theorem e_andF (h1 : EvS C ta A (db false) A1) : EvS C (tAndV ta tb) A (db false) A1 := fun os σ H k Q q =>
  h1 os σ H k _ fun os1 v H1 k1 e1 i1 => ⟨false, Is.v_iff.mp i1, by
    rw [if_neg (by decide)]
    exact q os1 _ H1 k1 e1 is_v⟩
theorem e_orT (h1 : EvS C ta A (db true) A1) : EvS C (tOrV ta tb) A (db true) A1 := fun os σ H k Q q =>
  h1 os σ H k _ fun os1 v H1 k1 e1 i1 => ⟨true, Is.v_iff.mp i1, by
    rw [if_pos rfl]
    exact q os1 _ H1 k1 e1 is_v⟩
theorem e_orF (h1 : EvS C ta A (db false) A1) (h2 : EvS C tb A1 d A2) : EvS C (tOrV ta tb) A d A2 := fun os σ H k Q q =>
  h1 os σ H k _ fun os1 v H1 k1 e1 i1 => ⟨false, Is.v_iff.mp i1, by
    rw [if_neg (by decide)]
    exact h2 os1 σ H1 k1 _ fun os2 v H2 k2 e2 i => q os2 v H2 k2 (e1.trans e2) i⟩
theorem e_and {a b : Bool} (h1 : EvS C ta A (db a) A) (h2 : a = true → EvS C tb A (db b) A) : EvS C (tAndV ta tb) A (db (a && b)) A := by
  cases a with
  | true => exact e_andT h1 (h2 rfl)
  | false => exact e_andF h1
theorem e_or {a b : Bool} (h1 : EvS C ta A (db a) A) (h2 : a = false → EvS C tb A (db b) A) : EvS C (tOrV ta tb) A (db (a || b)) A := by
  cases a with
  | true => exact e_orT h1
  | false => exact e_orF h1 (h2 rfl)
theorem e_not {a : Bool} (h1 : EvS C ta A (db a) A1) : EvS C (tNotV ta) A (db (!a)) A1 := fun os σ H k Q q =>
  h1 os σ H k _ fun os1 v H1 k1 e1 i1 => ⟨a, Is.v_iff.mp i1, q os1 _ H1 k1 e1 is_v⟩
/-- a call of a built-in by values -/
theorem e_CB {r : List V → Hp → VK → Prop} {tl : TA} {vs : List V} (h : EvA C tl A (vs.map .v) A1) (hr : ∀ H (Q : VK), Q z H → r vs H Q) : EvS C (tCB r tl) A (.v z) A1 := fun os σ H k Q q =>
  h os σ H k _ fun os1 ws H1 k1 e1 i1 => by
    have e : ws = vs := by
      have : ∀ (vs ws : List V), IsA C.K (Rh C.O os1 H1) (vs.map .v) ws → ws = vs := by
        intro vs
        induction vs with
        | nil => intro ws h; simpa [IsA] using h
        | cons v r ih =>
          intro ws h
          rw [List.map_cons, IsA] at h
          obtain ⟨v', w, h1, h2, h3⟩ := h
          rw [h1, ih w h3, Is.v_iff.mp h2]
      exact this vs ws i1
    rw [e]
    exact hr H1 Q (q os1 z H1 k1 e1 is_v)
end
/-! ### statements -/
structure Po where
  nx : AS → Prop := fun _ => False
  rt : Dt → AS → Prop := fun _ _ => False
  bk : AS → Prop := fun _ => False
  ct : AS → Prop := fun _ => False
  er : Addr → Prop := fun _ => False
structure To (C : Ct) (P : Po) (E : XK) (os0 : List (Option Addr)) (Hs : Hp) (D : Ends) : Prop where
  nx : ∀ os A σ H, P.nx A → Ok C os A σ H → Gr C.O os0 Hs os H → D.nx σ H
  rt : ∀ os A σ d v H, P.rt d A → Ok C os A σ H → Gr C.O os0 Hs os H → Is C.K (hd C.O H) d v → D.rt v H
  bk : ∀ os A σ H, P.bk A → Ok C os A σ H → Gr C.O os0 Hs os H → D.bk σ H
  ct : ∀ os A σ H, P.ct A → Ok C os A σ H → Gr C.O os0 Hs os H → D.ct σ H
  er : ∀ c H, P.er c → Ex C.H0 H → LamX.Tabs C.T H → E (.ref c) none H
def RunS (C : Ct) (E : XK) (t : TS) (A : AS) (P : Po) : Prop := ∀ os σ H D, Ok C os A σ H → To C P E os H D → t D σ H
section
variable {C : Ct} {E : XK} {ta tb tc te : TE} {tt : TT} {t u : TS} {A A1 A2 A3 : AS} {d d1 d2 : Dt} {P : Po}
theorem To.from {os os1 : List (Option Addr)} {H H1 : Hp} {D : Ends} (T : To C P E os H D) (g : Gr C.O os H os1 H1) : To C P E os1 H1 D :=
  ⟨fun os2 A σ H2 h k q => T.nx os2 A σ H2 h k (g.trans q), fun os2 A σ d v H2 h k q i => T.rt os2 A σ d v H2 h k (g.trans q) i, fun os2 A σ H2 h k q => T.bk os2 A σ H2 h k (g.trans q), fun os2 A σ H2 h k q => T.ct os2 A σ H2 h k (g.trans q), T.er⟩
theorem r_seq (h : RunS C E t A { P with nx := fun A' => RunS C E u A' P }) : RunS C E (tSeq t u) A P := fun os σ H D k T =>
  h os σ H { D with nx := u D } k ⟨fun os1 A1 σ1 H1 h k q => h os1 σ1 H1 D k (T.from q), T.rt, T.bk, T.ct, T.er⟩
theorem r_next (h : P.nx A) : RunS C E tNext A P := fun os σ H D k T => T.nx os A σ H h k Gr.refl
theorem r_break (h : P.bk A) : RunS C E tBreak A P := fun os σ H D k T => T.bk os A σ H h k Gr.refl
theorem r_cont (h : P.ct A) : RunS C E tCont A P := fun os σ H D k T => T.ct os A σ H h k Gr.refl
theorem r_asg {i : Nat} (he : EvS C te A d A1) (h : P.nx (A1.put i d)) : RunS C E (tAsg te (gName i)) A P := fun os σ H D k T =>
  he os σ H k _ fun os1 v H1 k1 e1 i1 => T.nx os1 _ _ H1 h (k1.put i1) e1
theorem r_drop (he : EvS C te A d A1) (h : P.nx A1) : RunS C E (tDrop te) A P := fun os σ H D k T =>
  he os σ H k _ fun os1 v H1 k1 e1 i1 => T.nx os1 _ _ H1 h k1 e1
theorem r_ret (he : EvS C te A d A1) (h : P.rt d A1) : RunS C E (tRet te) A P := fun os σ H D k T =>
  he os σ H k _ fun os1 v H1 k1 e1 i1 => T.rt os1 A1 σ d v H1 h k1 e1 (Is.mono hid_ex _ _ i1)
theorem r_retN (h : P.rt dn A) : RunS C E tRetN A P := fun os σ H D k T => T.rt os A σ _ _ H h k Gr.refl is_v
/-- a list of one's own handed back -/
theorem r_retO {i n : Nat} {xs : List Dt} (h1 : A.sl[i]? = some (.own n)) (h2 : A.st[n]? = some (.lst xs)) (h : P.rt (.lst xs) A) : RunS C E (tRet (tVar i)) A P := fun os σ H D k T => by
  obtain ⟨o, e1, a, e2, e3⟩ := k.slot h1
  subst e2
  obtain ⟨o3, s1, a3, vs, s2, s3, s4⟩ := k.store h2
  rw [e3] at s1; cases s1; cases s2
  refine ⟨_, e1, T.rt os A σ _ _ H h k Gr.refl ?_⟩
  rw [Is]
  have na : a ∉ C.O := fun z => k.dj a z (List.mem_of_getElem? e3)
  exact ⟨a, vs, rfl, SqL.of (by rw [hd_of na]; exact s3), IsA.mono hid_ex _ _ s4⟩
theorem r_if {b : Bool} (hc : EvT C tt A b A1) (h1 : b = true → RunS C E t A1 P) (h2 : b = false → RunS C E u A1 P) : RunS C E (tIfS tt t u) A P := fun os σ H D k T =>
  hc os σ H k _ fun os1 H1 k1 e1 => by
    cases b with
    | true => rw [if_pos rfl]; exact h1 rfl os1 σ H1 D k1 (T.from e1)
    | false => rw [if_neg (by decide)]; exact h2 rfl os1 σ H1 D k1 (T.from e1)
theorem r_ifT (hc : EvT C tt A true A1) (h1 : RunS C E t A1 P) : RunS C E (tIfS tt t u) A P := r_if hc (fun _ => h1) fun z => by cases z
theorem r_ifF (hc : EvT C tt A false A1) (h1 : RunS C E u A1 P) : RunS C E (tIfS tt t u) A P := r_if hc (fun z => by cases z) fun _ => h1
theorem r_par {i j : Nat} {tl : TA} (h : EvA C tl A [d, d1] A1) (hn : P.nx ((A1.put i d).put j d1)) : RunS C E (tPar i j tl) A P := fun os σ H D k T =>
  h os σ H k _ fun os1 vs H1 k1 e1 i1 => by
    simp only [IsA] at i1
    obtain ⟨v, w, rfl, h1, v', w', rfl, h2, rfl⟩ := i1
    exact ⟨v, v', rfl, T.nx os1 _ _ H1 hn ((k1.put h1).put h2) e1⟩
theorem r_par3 {i j l : Nat} {tl : TA} (h : EvA C tl A [d, d1, d2] A1) (hn : P.nx (((A1.put i d).put j d1).put l d2)) : RunS C E (tPar3 i j l tl) A P := fun os σ H D k T =>
  h os σ H k _ fun os1 vs H1 k1 e1 i1 => by
    simp only [IsA] at i1
    obtain ⟨v, w, rfl, h1, v', w', rfl, h2, v'', w'', rfl, h3, rfl⟩ := i1
    exact ⟨v, v', v'', rfl, T.nx os1 _ _ H1 hn (((k1.put h1).put h2).put h3) e1⟩
/-- targets that take data one after another -/
def puts (A : AS) : List Nat → List Dt → AS
  | i :: is, d :: ds => puts (A.put i d) is ds
  | _, _ => A
def gNames : List Nat → TGs
  | [] => gNil
  | i :: is => gCons (gName i) (gNames is)
theorem gNames_ok {os : List (Option Addr)} {H : Hp} {Q : Sg → Hp → Prop} : ∀ (is : List Nat) {A : AS} {σ : Sg} {ds : List Dt} {vs : List V}, Ok C os A σ H → IsA C.K (Rh C.O os H) ds vs → ds.length = is.length → (∀ σ', Ok C os (puts A is ds) σ' H → Q σ' H) → gNames is vs σ H Q
  | [], A, σ, ds, vs, k, i, e, q => by
    cases ds with
    | nil => rw [IsA] at i; exact ⟨i, q σ k⟩
    | cons _ _ => cases e
  | n :: is, A, σ, ds, vs, k, i, e, q => by
    cases ds with
    | nil => cases e
    | cons d r =>
      rw [IsA] at i
      obtain ⟨v, w, rfl, h1, h2⟩ := i
      exact ⟨v, w, rfl, gNames_ok is (k.put h1) h2 (by simpa using e) q⟩
theorem r_asgT {is : List Nat} {n : Nat} {ds : List Dt} (he : EvS C te A (.tup ds) A1) (hl : ds.length = is.length) (hn : is.length = n) (h : P.nx (puts A1 is ds)) : RunS C E (tAsg te (gTup C.K n (gNames is))) A P := fun os σ H D k T =>
  he os σ H k _ fun os1 v H1 k1 e1 i1 => by
    rw [Is] at i1
    obtain ⟨a, vs, rfl, h1, h2⟩ := i1
    exact ⟨a, vs, rfl, hd_ex.t h1, by rw [isA_len h2, hl, hn], gNames_ok is k1 h2 hl fun σ' k' => T.nx os1 _ _ H1 h k' e1⟩
/-! ### a list of one's own -/
def AS.newO (A : AS) (i : Nat) (xs : List Dt) : AS := ⟨A.sl.set i (.own A.st.length), A.st ++ [.lst xs]⟩
def AS.upO (A : AS) (n : Nat) (xs : List Dt) : AS := ⟨A.sl, A.st.set n (.lst xs)⟩
theorem Ok.newO {os : List (Option Addr)} {σ : Sg} {H : Hp} {p : Addr} {xs : List Dt} {vs : List V} {i : Nat} (k : Ok C os A σ H) (hp : H p = none) (hx : IsA C.K (Rh C.O os H) xs vs) : Ok C (os ++ [some p]) (A.newO i xs) (σ.set i (some (.ref p))) (upd H p (.lst vs)) := by
  have np : some p ∉ os := fun z => by
    obtain ⟨o, q, _⟩ := (k.fr p z).2
    rw [hp] at q; cases q
  refine ⟨k.ex.trans (Ex.new hp), tabs_new k.tb hp, fun a h => by obtain ⟨o, q, n⟩ := k.ol a h; exact ⟨o, Ex.new hp _ _ q n, n⟩, fun a h z => ?dj, by simp [AS.newO, k.ln], fun a b c h1 h2 => ?_, fun a h => ?_, by simp [AS.newO, k.sn], fun j s o h1 h2 => ?_, fun j s o h1 h2 => ?_⟩
  case dj =>
    rcases List.mem_append.mp z with z | z
    · exact k.dj a h z
    · simp at z
      subst z
      obtain ⟨o, q, _⟩ := k.ol a h
      rw [hp] at q; cases q
  · rw [List.getElem?_append] at h1 h2
    split at h1 <;> split at h2
    · exact k.nd a b c h1 h2
    · rename_i q1 q2
      have e : c = p := by
        cases z : b - os.length with
        | zero => rw [z] at h2; simpa using h2.symm
        | succ n => rw [z] at h2; simp at h2
      rw [e] at h1
      exact absurd (List.mem_of_getElem? h1) np
    · have e : c = p := by
        cases z : a - os.length with
        | zero => rw [z] at h1; simpa using h1.symm
        | succ n => rw [z] at h1; simp at h1
      rw [e] at h2
      exact absurd (List.mem_of_getElem? h2) np
    · rename_i q1 q2
      have e1 : a - os.length = 0 := by
        cases z : a - os.length with
        | zero => rfl
        | succ n => rw [z] at h1; simp at h1
      have e2 : b - os.length = 0 := by
        cases z : b - os.length with
        | zero => rfl
        | succ n => rw [z] at h2; simp at h2
      omega
  · rcases List.mem_append.mp h with h | h
    · obtain ⟨h1, o, h2, n⟩ := k.fr a h
      exact ⟨h1, o, Ex.new hp _ _ h2 n, n⟩
    · simp at h
      subst h
      exact ⟨fun o q n => (by have := k.ex _ _ q n; rw [hp] at this; cases this), _, upd_same, nt_l⟩
  · rw [Rh_app hp]
    have h1 : (A.sl.set i (SD.own A.st.length))[j]? = some s := h1
    rw [List.getElem?_set] at h1 h2
    by_cases e : i = j
    · rw [if_pos e] at h1 h2
      split at h1
      · split at h2
        · cases h1; cases h2
          exact ⟨p, rfl, by rw [← k.ln]; simp⟩
        · cases h2
      · cases h1
    · rw [if_neg e] at h1 h2
      have q := k.sl j s o h1 h2
      cases s with
      | un => exact q
      | d x => exact q
      | own n =>
        obtain ⟨a, q1, q2⟩ := q
        exact ⟨a, q1, by rw [List.getElem?_append_left (List.getElem?_eq_some_iff.mp q2).1]; exact q2⟩
  · rw [Rh_app hp]
    have h1 : (A.st ++ [OD.lst xs])[j]? = some s := h1
    rw [List.getElem?_append] at h1 h2
    rw [k.ln] at h2
    split at h1
    · rename_i q1
      rw [if_pos q1] at h2
      exact (k.st j s o h1 h2).mono (Ex.refl _) (Ex.new hp)
    · rename_i q1
      rw [if_neg q1] at h2
      cases z : j - A.st.length with
      | succ n => rw [z] at h1; simp at h1
      | zero =>
        rw [z] at h1 h2
        simp at h1 h2
        subst h1 h2
        exact ⟨p, vs, rfl, upd_same, hx⟩
theorem r_new {i : Nat} {tl : TA} {xs : List Dt} (h : EvA C tl A xs A1) (hl : xs.length ≤ 100000) (hn : P.nx (A1.newO i xs)) : RunS C E (tAsg (tLst tl) (gName i)) A P := fun os σ H D k T =>
  h os σ H k _ fun os1 vs H1 k1 e1 i1 => ⟨by rw [isA_len i1]; exact Nat.le_trans hl (by decide), fun p hp => T.nx _ _ _ _ hn (k1.newO hp i1) (e1.trans ⟨by rw [Rh_app hp]; exact Ex.refl _, fun a h => by obtain ⟨o, q, n⟩ := k1.ol a h; rw [q, Ex.new hp _ _ q n], fun k x h => by rw [List.getElem?_append_left (List.getElem?_eq_some_iff.mp h).1]; exact h⟩)⟩
theorem Ok.upO {os : List (Option Addr)} {σ : Sg} {H : Hp} {p : Addr} {xs ys : List Dt} {vs : List V} {n : Nat} (k : Ok C os A σ H) (h1 : os[n]? = some (some p)) (h2 : A.st[n]? = some (.lst xs)) (hx : IsA C.K (Rh C.O os H) ys vs) : Ok C os (A.upO n ys) σ (upd H p (.lst vs)) := by
  have hp : p ∈ hid C.O os := mem_hid.mpr (.inr (List.mem_of_getElem? h1))
  have hpl : ∃ ws, H p = some (.lst ws) := by
    obtain ⟨o, s1, a3, ws, s2, s3, s4⟩ := k.store h2
    rw [h1] at s1; cases s1; cases s2
    exact ⟨ws, s3⟩
  obtain ⟨ws, hpl⟩ := hpl
  refine ⟨fun a o e nt => ?_, tabs_lst k.tb hpl, fun a h => ?ol, k.dj, by simp [AS.upO, k.ln], k.nd, fun a h => ?_, k.sn, fun j s o e1 e2 => ?_, fun j s o e1 e2 => ?_⟩
  case ol =>
    obtain ⟨o, q, n⟩ := k.ol a h
    exact ⟨o, by rw [upd_ne fun z => k.dj a h (by rw [z]; exact List.mem_of_getElem? h1)]; exact q, n⟩
  · have ne : a ≠ p := fun z => (k.fr p (List.mem_of_getElem? h1)).1 o (by rw [← z]; exact e) nt
    rw [upd_ne ne]
    exact k.ex _ _ e nt
  · obtain ⟨q1, o, q2, n⟩ := k.fr a h
    refine ⟨q1, ?_⟩
    by_cases e : a = p
    · rw [e]; exact ⟨_, upd_same, nt_l⟩
    · exact ⟨o, by rw [upd_ne e]; exact q2, n⟩
  · rw [Rh_upd hp]
    exact k.sl j s o e1 e2
  · rw [Rh_upd hp]
    have e1 : (A.st.set n (OD.lst ys))[j]? = some s := e1
    rw [List.getElem?_set] at e1
    by_cases e : n = j
    · rw [if_pos e] at e1
      split at e1
      · cases e1
        subst e
        rw [h1] at e2; cases e2
        exact ⟨p, vs, rfl, upd_same, hx⟩
      · cases e1
    · rw [if_neg e] at e1
      have q := k.st j s o e1 e2
      cases s with
      | gone => exact q
      | lst zs =>
        obtain ⟨a, ws, q1, q2, q3⟩ := q
        have ne : a ≠ p := fun z => by
          rw [q1, z] at e2
          exact e (k.nd n j p h1 e2)
        exact ⟨a, ws, q1, by rw [upd_ne ne]; exact q2, q3⟩
/-- xs.append(e) -/
theorem e_append {i n : Nat} {xs xs0 : List Dt} (h1 : A.sl[i]? = some (.own n)) (h0 : A.st[n]? = some (.lst xs0)) (he : EvS C te A d A1) (h1' : A1.sl[i]? = some (.own n)) (h2 : A1.st[n]? = some (.lst xs)) (hl : xs.length < 100000) : EvS C (tBM C.K "list" rAppend (tVar i) (tCons te tNil)) A dn (A1.upO n (xs ++ [d])) := fun os σ H k Q q => by
  obtain ⟨o, e1, a, e2, e3⟩ := k.slot h1
  subst e2
  obtain ⟨o3, s1, a3, vs, s2, s3, s4⟩ := k.store h0
  rw [e3] at s1; cases s1; cases s2
  refine ⟨_, e1, .inl ⟨rfl, _, .inl (.inl s3)⟩, ?_⟩
  · exact he os σ H k _ fun os1 v H1 k1 x1 i1 => by
      obtain ⟨o, f1, a1, f2, f3⟩ := k1.slot h1'
      rw [e1] at f1; cases f1; cases f2
      obtain ⟨o3, s1, a3, vs, s2, s3, s4⟩ := k1.store h2
      rw [f3] at s1; cases s1; cases s2
      refine ⟨a, vs, v, rfl, rfl, s3, by rw [isA_len s4]; exact Nat.lt_of_lt_of_le hl (by decide), ?_⟩
      exact q os1 _ _ (k1.upO f3 h2 (isA_app s4 (isA_cons i1 isA_nil))) (x1.trans ⟨by rw [Rh_upd (mem_hid.mpr (.inr (List.mem_of_getElem? f3)))]; exact Ex.refl _, fun b hb => (by rw [upd_ne fun z => k1.dj b hb (by rw [z]; exact List.mem_of_getElem? f3)]), fun _ _ h => h⟩) is_v
end
/-! ### loops -/
section
variable {C : Ct} {E : XK} {ta tb tc te tl : TE} {tt : TT} {t u : TS} {A A1 A2 A3 : AS} {d d1 d2 : Dt} {P : Po}
theorem r_while (W : Nat → AS → Prop) (m0 : Nat) (h0 : W m0 A)
    (hs : ∀ m A, W m A → ∃ b A1, EvT C tt A b A1 ∧ (b = true → RunS C E t A1 { P with nx := fun A' => ∃ m', m' < m ∧ W m' A', ct := fun A' => ∃ m', m' < m ∧ W m' A', bk := P.nx }) ∧ (b = false → P.nx A1)) :
    RunS C E (tWhile tt t) A P := fun os σ H D k T => by
  refine ⟨fun m σ' H' => ∃ os' A', W m A' ∧ Ok C os' A' σ' H' ∧ Gr C.O os H os' H', ⟨m0, os, A, h0, k, Gr.refl⟩, fun m σ1 H1 ⟨os1, A1, w1, k1, g1⟩ => ?_⟩
  obtain ⟨b, A2, ht, hy, hn⟩ := hs m A1 w1
  refine ht os1 σ1 H1 k1 _ fun os2 H2 k2 g2 => ?_
  cases b with
  | true =>
    rw [if_pos rfl]
    refine ⟨fun σ' H' => ∃ m', m' < m ∧ ∃ os' A', W m' A' ∧ Ok C os' A' σ' H' ∧ Gr C.O os H os' H', fun σ' H' ⟨m', h1, h2⟩ => ⟨m', h1, h2⟩, ?_⟩
    refine hy rfl os2 σ1 H2 _ k2 ⟨fun os3 A3 σ3 H3 ⟨m', h1, h2⟩ k3 g3 => ⟨m', h1, os3, A3, h2, k3, (g1.trans g2).trans g3⟩, fun os3 A3 σ3 d v H3 h k3 g3 i3 => T.rt os3 A3 σ3 d v H3 h k3 ((g1.trans g2).trans g3) i3, fun os3 A3 σ3 H3 h k3 g3 => T.nx os3 A3 σ3 H3 h k3 ((g1.trans g2).trans g3), fun os3 A3 σ3 H3 ⟨m', h1, h2⟩ k3 g3 => ⟨m', h1, os3, A3, h2, k3, (g1.trans g2).trans g3⟩, T.er⟩
  | false =>
    rw [if_neg (by decide)]
    exact T.nx os2 A2 σ1 H2 (hn rfl) k2 (g1.trans g2)
/-- a target that takes a datum -/
def Tg (C : Ct) (g : TG) (x : Dt) (A A' : AS) : Prop := ∀ os σ H v (Q : Sg → Hp → Prop), Ok C os A σ H → Is C.K (Rh C.O os H) x v → (∀ σ', Ok C os A' σ' H → Q σ' H) → g v σ H Q
def TgA (C : Ct) (g : TGs) (xs : List Dt) (A A' : AS) : Prop := ∀ os σ H vs (Q : Sg → Hp → Prop), Ok C os A σ H → IsA C.K (Rh C.O os H) xs vs → (∀ σ', Ok C os A' σ' H → Q σ' H) → g vs σ H Q
theorem tg_name {i : Nat} {x : Dt} : Tg C (gName i) x A (A.put i x) := fun os σ H v Q k i q => q _ (k.put i)
theorem tgA_nil : TgA C gNil [] A A := fun os σ H vs Q k i q => ⟨by rw [IsA] at i; exact i, q σ k⟩
theorem tgA_cons {g : TG} {gs : TGs} {x : Dt} {xs : List Dt} (h : Tg C g x A A1) (h' : TgA C gs xs A1 A2) : TgA C (gCons g gs) (x :: xs) A A2 := fun os σ H vs Q k i q => by
  rw [IsA] at i
  obtain ⟨v, w, rfl, h1, h2⟩ := i
  exact ⟨v, w, rfl, h os σ H v _ k h1 fun σ1 k1 => h' os σ1 H w Q k1 h2 q⟩
theorem tg_tup {gs : TGs} {n : Nat} {xs : List Dt} (hl : xs.length = n) (h : TgA C gs xs A A1) : Tg C (gTup C.K n gs) (.tup xs) A A1 := fun os σ H v Q k i q => by
  rw [Is] at i
  obtain ⟨a, vs, rfl, h1, h2⟩ := i
  exact ⟨a, vs, rfl, hd_ex.t h1, by rw [isA_len h2, hl], h os σ H vs Q k h2 q⟩
theorem r_tg {g : TG} (he : EvS C te A d A1) (hg : Tg C g d A1 A2) (h : P.nx A2) : RunS C E (tAsg te g) A P := fun os σ H D k T =>
  he os σ H k _ fun os1 v H1 k1 e1 i1 => hg os1 σ H1 v _ k1 i1 fun σ2 k2 => T.nx os1 _ _ H1 h k2 e1
/-- for target in a list (a tuple): turns over data -/
theorem r_forL {g : TG} {xs : List Dt} (he : EvS C tl A (.lst xs) A1) (Pv : Nat → AS → Prop) (h0 : Pv 0 A1)
    (hs : ∀ i x A, xs[i]? = some x → Pv i A → ∃ A', Tg C g x A A' ∧ RunS C E t A' { P with nx := Pv (i + 1), ct := Pv (i + 1), bk := P.nx }) (hd : ∀ A, Pv xs.length A → P.nx A) : RunS C E (tFor (iList C.K tl) g t) A P := fun os σ H D k T =>
  he os σ H k _ fun os1 v H1 k1 e1 i1 => by
    rw [Is] at i1
    obtain ⟨a, vs, rfl, h1, h2⟩ := i1
    refine ⟨a, rfl, ⟨vs, hd_ex.l h1⟩, for_list (K := C.K) (a := a) (xs := vs) (fun i σ' H' => ∃ os' A', Pv i A' ∧ Ok C os' A' σ' H' ∧ Gr C.O os1 H1 os' H') ⟨os1, A1, h0, k1, Gr.refl⟩ (fun i σ' H' _ ⟨os', A', p, k', g'⟩ => hd_ex.l (g'.e.l h1)) ?_ fun σ' H' ⟨os', A', p, k', g'⟩ => T.nx os' A' σ' H' (hd A' (by rw [← isA_len h2]; exact p)) k' (e1.trans g')⟩
    rintro i x σ' H' hx ⟨os', A', p, k', g'⟩
    obtain ⟨d, hd', hi⟩ := isA_get' h2 hx
    obtain ⟨A2, tg, run⟩ := hs i d A' hd' p
    refine tg os' σ' H' x _ k' (Is.mono g'.e _ _ hi) fun σ2 k2 => ?_
    exact run os' σ2 H' _ k2 ⟨fun os3 A3 σ3 H3 h k3 g3 => ⟨os3, A3, h, k3, g'.trans g3⟩, fun os3 A3 σ3 d v H3 h k3 g3 i3 => T.rt os3 A3 σ3 d v H3 h k3 ((e1.trans g').trans g3) i3, fun os3 A3 σ3 H3 h k3 g3 => T.nx os3 A3 σ3 H3 h k3 ((e1.trans g').trans g3), fun os3 A3 σ3 H3 h k3 g3 => ⟨os3, A3, h, k3, g'.trans g3⟩, T.er⟩
theorem r_forT {g : TG} {xs : List Dt} (he : EvS C tl A (.tup xs) A1) (Pv : Nat → AS → Prop) (h0 : Pv 0 A1)
    (hs : ∀ i x A, xs[i]? = some x → Pv i A → ∃ A', Tg C g x A A' ∧ RunS C E t A' { P with nx := Pv (i + 1), ct := Pv (i + 1), bk := P.nx }) (hd : ∀ A, Pv xs.length A → P.nx A) : RunS C E (tFor (iTup C.K tl) g t) A P := fun os σ H D k T =>
  he os σ H k _ fun os1 v H1 k1 e1 i1 => by
    rw [Is] at i1
    obtain ⟨a, vs, rfl, h1, h2⟩ := i1
    refine ⟨a, rfl, ⟨vs, hd_ex.t h1⟩, for_tup (K := C.K) (a := a) (xs := vs) (fun i σ' H' => ∃ os' A', Pv i A' ∧ Ok C os' A' σ' H' ∧ Gr C.O os1 H1 os' H') ⟨os1, A1, h0, k1, Gr.refl⟩ (fun i σ' H' _ ⟨os', A', p, k', g'⟩ => hd_ex.t (g'.e.t h1)) ?_ fun σ' H' ⟨os', A', p, k', g'⟩ => T.nx os' A' σ' H' (hd A' (by rw [← isA_len h2]; exact p)) k' (e1.trans g')⟩
    rintro i x σ' H' hx ⟨os', A', p, k', g'⟩
    obtain ⟨d, hd', hi⟩ := isA_get' h2 hx
    obtain ⟨A2, tg, run⟩ := hs i d A' hd' p
    refine tg os' σ' H' x _ k' (Is.mono g'.e _ _ hi) fun σ2 k2 => ?_
    exact run os' σ2 H' _ k2 ⟨fun os3 A3 σ3 H3 h k3 g3 => ⟨os3, A3, h, k3, g'.trans g3⟩, fun os3 A3 σ3 d v H3 h k3 g3 i3 => T.rt os3 A3 σ3 d v H3 h k3 ((e1.trans g').trans g3) i3, fun os3 A3 σ3 H3 h k3 g3 => T.nx os3 A3 σ3 H3 h k3 ((e1.trans g').trans g3), fun os3 A3 σ3 H3 h k3 g3 => ⟨os3, A3, h, k3, g'.trans g3⟩, T.er⟩
theorem r_forR {g : TG} {lo : Int} {n : Nat} {wi : TI} (hw : ∀ os σ H, Ok C os A σ H → ∀ R : It → Hp → Prop, (∀ os' H', Ok C os' A1 σ H' → Gr C.O os H os' H' → R (Itr lo n) H') → wi σ H R) (Pv : Nat → AS → Prop) (h0 : Pv 0 A1)
    (hs : ∀ (i : Nat) A, i < n → Pv i A → ∃ A', Tg C g (di (lo + i)) A A' ∧ RunS C E t A' { P with nx := Pv (i + 1), ct := Pv (i + 1), bk := P.nx }) (hd : ∀ A, Pv n A → P.nx A) : RunS C E (tFor wi g t) A P := fun os σ H D k T =>
  hw os σ H k _ fun os1 H1 k1 e1 => by
    refine for_range (lo := lo) (n := n) (fun i σ' H' => ∃ os' A', Pv i A' ∧ Ok C os' A' σ' H' ∧ Gr C.O os1 H1 os' H') ⟨os1, A1, h0, k1, Gr.refl⟩ ?_ fun σ' H' ⟨os', A', p, k', g'⟩ => T.nx os' A' σ' H' (hd A' p) k' (e1.trans g')
    rintro i σ' H' hi ⟨os', A', p, k', g'⟩
    obtain ⟨A2, tg, run⟩ := hs i A' hi p
    refine tg os' σ' H' _ _ k' is_v fun σ2 k2 => ?_
    exact run os' σ2 H' _ k2 ⟨fun os3 A3 σ3 H3 h k3 g3 => ⟨os3, A3, h, k3, g'.trans g3⟩, fun os3 A3 σ3 d v H3 h k3 g3 i3 => T.rt os3 A3 σ3 d v H3 h k3 ((e1.trans g').trans g3) i3, fun os3 A3 σ3 H3 h k3 g3 => T.nx os3 A3 σ3 H3 h k3 ((e1.trans g').trans g3), fun os3 A3 σ3 H3 h k3 g3 => ⟨os3, A3, h, k3, g'.trans g3⟩, T.er⟩
theorem w_rng1 {tl : TA} {n : Int} (h : EvA C tl A [di n] A1) (hn : -(2 ^ 62) ≤ n ∧ n < 2 ^ 62) : ∀ os σ H, Ok C os A σ H → ∀ R : It → Hp → Prop, (∀ os' H', Ok C os' A1 σ H' → Gr C.O os H os' H' → R (Itr 0 n.toNat) H') → iRng1 tl σ H R := fun os σ H k R q =>
  h os σ H k _ fun os1 vs H1 k1 e1 i1 => by
    simp only [IsA, Is] at i1
    obtain ⟨v, w, rfl, rfl, rfl⟩ := i1
    exact ⟨n, rfl, hn.1, hn.2, q os1 H1 k1 e1⟩
theorem w_rng2 {tl : TA} {m n : Int} (h : EvA C tl A [di m, di n] A1) (hm : -(2 ^ 62) ≤ m ∧ m < 2 ^ 62) (hn : -(2 ^ 62) ≤ n ∧ n < 2 ^ 62) : ∀ os σ H, Ok C os A σ H → ∀ R : It → Hp → Prop, (∀ os' H', Ok C os' A1 σ H' → Gr C.O os H os' H' → R (Itr m (n - m).toNat) H') → iRng2 tl σ H R := fun os σ H k R q =>
  h os σ H k _ fun os1 vs H1 k1 e1 i1 => by
    simp only [IsA, Is] at i1
    obtain ⟨v, w, rfl, rfl, v', w', rfl, rfl, rfl⟩ := i1
    exact ⟨m, n, rfl, ⟨hm.1, hm.2, hn.1, hn.2⟩, q os1 H1 k1 e1⟩
/-! ### raising, calls, promises -/
inductive Rs where
  | ok (d : Dt)
  | err (c : Addr)
def spD (K : Frg) (T : List (Addr × Str)) (g : List Dt → Rs → Prop) : Sp := fun vs H Q E => ∃ O ds r, (∀ a ∈ O, ∃ o, H a = some o ∧ NoT o) ∧ LamX.Tabs T H ∧ IsA K (hd O H) ds vs ∧ g ds r ∧
  match r with
  | .ok d => ∀ v H', Ex H H' → LamX.Tabs T H' → Is K (hd O H') d v → Q v H'
  | .err c => ∀ H', Ex H H' → LamX.Tabs T H' → E (.ref c) none H'
theorem e_call {g : List Dt → Rs → Prop} {E' : XK} {tl : TA} {ds : List Dt} (ha : EvA C tl A ds A1) (hg : g ds (.ok d)) : EvS C (tCall (spD C.K C.T g) [] E' tl) A d A1 := fun os σ H k Q q =>
  ha os σ H k _ fun os1 vs H1 k1 e1 i1 => ⟨hid C.O os1, ds, .ok d, fun a h => k1.hidden h, k1.tb, by rw [List.append_nil]; exact i1, hg, fun v H' e t i => q os1 v H' (k1.mono e t) (e1.trans (k1.gr e)) i⟩
theorem x_call {g : List Dt → Rs → Prop} {tl : TA} {ds : List Dt} {c : Addr} (ha : EvA C tl A ds A1) (hg : g ds (.err c)) : EvX C E (tCall (spD C.K C.T g) [] E tl) A c A1 := fun os σ H k hE Q =>
  ha os σ H k _ fun os1 vs H1 k1 e1 i1 => ⟨hid C.O os1, ds, .err c, fun a h => k1.hidden h, k1.tb, by rw [List.append_nil]; exact i1, hg, fun H' e t => hE os1 H' (k1.mono e t) (e1.trans (k1.gr e))⟩
theorem x_asg {g : TG} {c : Addr} (h : EvX C E te A c A1) (hp : P.er c) : RunS C E (tAsg te g) A P := fun os σ H D k T => h os σ H k (fun os' H' k' _ => T.er c H' hp k'.ex k'.tb) _
theorem x_ret {c : Addr} (h : EvX C E te A c A1) (hp : P.er c) : RunS C E (tRet te) A P := fun os σ H D k T => h os σ H k (fun os' H' k' _ => T.er c H' hp k'.ex k'.tb) _
theorem x_drop {c : Addr} (h : EvX C E te A c A1) (hp : P.er c) : RunS C E (tDrop te) A P := fun os σ H D k T => h os σ H k (fun os' H' k' _ => T.er c H' hp k'.ex k'.tb) _
theorem x_op1 {r : R2} {c : Addr} (h : EvX C E ta A c A1) : EvX C E (tOp r ta tb) A c A1 := fun os σ H k hE Q => h os σ H k hE _
theorem x_op2 {r : R2} {c : Addr} (ha : EvS C ta A d A1) (h : EvX C E tb A1 c A2) : EvX C E (tOp r ta tb) A c A2 := fun os σ H k hE Q => ha os σ H k _ fun os1 v1 H1 k1 e1 i1 => h os1 σ H1 k1 (fun os' H' k' g => hE os' H' k' (e1.trans g)) _
theorem xa_1 {tr : TA} {c : Addr} (h : EvX C E ta A c A1) : EvXA C E (tCons ta tr) A c A1 := fun os σ H k hE Q => h os σ H k hE _
theorem xa_2 {tr : TA} {c : Addr} (ha : EvS C ta A d A1) (h : EvXA C E tr A1 c A2) : EvXA C E (tCons ta tr) A c A2 := fun os σ H k hE Q => ha os σ H k _ fun os1 v1 H1 k1 e1 i1 => h os1 σ H1 k1 (fun os' H' k' g => hE os' H' k' (e1.trans g)) _
theorem x_args {sp : Sp} {dvs : List V} {tl : TA} {c : Addr} (h : EvXA C E tl A c A1) : EvX C E (tCall sp dvs E tl) A c A1 := fun os σ H k hE Q => h os σ H k hE _
theorem x_tup {tl : TA} {c : Addr} (h : EvXA C E tl A c A1) : EvX C E (tTup tl) A c A1 := fun os σ H k hE Q => h os σ H k hE _
theorem x_ifT {c : Addr} (h : EvT C tt A true A1) (h1 : EvX C E ta A1 c A2) : EvX C E (tIf tt ta tb) A c A2 := fun os σ H k hE Q =>
  h os σ H k _ fun os1 H1 k1 e1 => by
    rw [if_pos rfl]
    exact h1 os1 σ H1 k1 (fun os' H' k' g => hE os' H' k' (e1.trans g)) _
theorem x_ifF {c : Addr} (h : EvT C tt A false A1) (h1 : EvX C E tb A1 c A2) : EvX C E (tIf tt ta tb) A c A2 := fun os σ H k hE Q =>
  h os σ H k _ fun os1 H1 k1 e1 => by
    rw [if_neg (by decide)]
    exact h1 os1 σ H1 k1 (fun os' H' k' g => hE os' H' k' (e1.trans g)) _
/-- raise X('..') -/
def tRz (E : XK) (c : Addr) : TS := fun _ _ H => E (.ref c) none H
theorem r_raise {c : Addr} (h : P.er c) : RunS C E (tRz E c) A P := fun os σ H D k T => T.er c H h k.ex k.tb
/-- the end of a def -/
def poR (r : Rs) : Po := { nx := fun _ => r = .ok dn, rt := fun d _ => r = .ok d, er := fun c => r = .err c }
def start (N : List Str) (ds : List Dt) : AS := ⟨ds.map .d ++ List.replicate (N.length - ds.length) .un, []⟩
theorem start_ok {N : List Str} {ds : List Dt} {vs : List V} {K : Frg} {T : List (Addr × Str)} {H : Hp} {O : List Addr} (hO : ∀ a ∈ O, ∃ o, H a = some o ∧ NoT o) (ht : LamX.Tabs T H) (h : IsA K (hd O H) ds vs) : Ok ⟨K, T, H, O⟩ [] (start N ds) (L2.start N vs) H := by
  have e : Rh O [] H = hd O H := by
    show hd (O ++ []) H = _
    rw [List.append_nil]
  have hl := isA_len h
  refine ⟨Ex.refl _, ht, hO, fun a _ z => (by cases z), rfl, fun i j a z => (by simp at z), fun a z => (by cases z), (by simp [start, L2.start, hl]), fun i s o h1 h2 => ?_, fun i s o h1 h2 => by simp at h2⟩
  show SlOk K [] (Rh O [] H) s o
  rw [e]
  have h1 : (ds.map SD.d ++ List.replicate (N.length - ds.length) SD.un)[i]? = some s := h1
  have h2 : (vs.map some ++ List.replicate (N.length - vs.length) none)[i]? = some o := h2
  rw [List.getElem?_append] at h1 h2
  simp only [List.length_map] at h1 h2
  split at h1
  · rename_i q
    rw [if_pos (by rw [hl]; exact q)] at h2
    rw [List.getElem?_map] at h1 h2
    cases e1 : ds[i]? with
    | none => rw [e1] at h1; cases h1
    | some d =>
      obtain ⟨v, hv, hi⟩ := isA_get h e1
      rw [e1] at h1
      rw [hv] at h2
      cases h1; cases h2
      exact ⟨v, rfl, hi⟩
  · rw [List.getElem?_replicate] at h1
    split at h1
    · cases h1; exact True.intro
    · cases h1
theorem fin {t : TS} {N : List Str} {K : Frg} {T : List (Addr × Str)} {E : XK} {g : List Dt → Rs → Prop} {vs : List V} {H : Hp} {Q : VK} (h : spD K T g vs H Q E) (run : ∀ O ds r, g ds r → RunS ⟨K, T, H, O⟩ E t (start N ds) (poR r)) : t { nx := fun _ H' => Q .non H', rt := Q } (L2.start N vs) H := by
  obtain ⟨O, ds, r, hO, ht, hi, hg, hr⟩ := h
  refine run O ds r hg [] _ H _ (start_ok hO ht hi) ⟨fun os A σ H' z k _ => ?_, fun os A σ d v H' z k _ i => ?_, fun os A σ H' z => z.elim, fun os A σ H' z => z.elim, fun c H' z e t => ?_⟩
  · have z : r = .ok dn := z
    subst z
    exact hr _ H' k.ex k.tb is_v
  · have z : r = .ok d := z
    subst z
    exact hr v H' k.ex k.tb i
  · have z : r = .err c := z
    subst z
    exact hr H' e t
theorem spD_len {K : Frg} {T : List (Addr × Str)} {g : List Dt → Rs → Prop} {n : Nat} (hg : ∀ ds r, g ds r → ds.length = n) : ∀ vs H Q E, spD K T g vs H Q E → vs.length = n := fun vs H Q E h => by
  obtain ⟨O, ds, r, hO, ht, hi, hg', hr⟩ := h
  rw [isA_len hi]
  exact hg ds r hg'
end
/-- raise X('..'), in a def that may raise -/
theorem ps_rz {X : Cx} {E : XK} {C : Addr} {bmB : List Value} {B newId initId : String} {x m : Str} {j : Nat} {p p2 pos pos2 : Pos} (hc : X.calm = true) (tk : Takes X (fun cls d _ H => E cls d H)) (F : ExcBaseFacts B newId initId bmB) (q : PySem.W.excIn X.K C bmB newId = true) (gC : X.mg x = some (.ref C)) (kC : PySem.W.keepIn X.K (.ref C) = true) (r : Raises X (.ref C)) (hg : Gl X x)
    (hdb : (x == ("__debug__" : Str)) = false := by decide) : PS X (.Raise (some (.Call (.Name x p) [.Constant (.str m) j p2] [] pos)) none pos2) (tRz E C) := ps_raise hc tk (pmk_own F q gC kC r hg hdb)
end Py
end

section
set_option Elab.async false
set_option linter.all false
set_option maxRecDepth 100000
set_option maxHeartbeats 4000000
set_option autoImplicit false
namespace Py
open PySem PySem.Spec PyProof.Rows L2
/-! ### operators of several kinds -/
def PMul (i j : Int) : Prop := i.natAbs.log2 + j.natAbs.log2 < 100000000
def PDiv (_ j : Int) : Prop := j ≠ 0 ∧ j.natAbs.log2 < 9000
theorem PMul.ok {i j : Int} (h : PMul i j) : IntMulOk i j := by
  have b : ∀ x : Int, Builtin.Int.intBits x ≤ x.natAbs.log2 + 1 := fun x => by
    unfold Builtin.Int.intBits
    split <;> omega
  have h1 := b i
  have h2 := b j
  have h3 : i.natAbs.log2 + j.natAbs.log2 < 100000000 := h
  have e : bitsLine = 134217728 := by decide
  unfold IntMulOk
  intro z
  rw [Bool.and_eq_true] at z
  have z2 := z.2
  unfold Builtin.Int.intTooBig at z2
  have z3 := of_decide_eq_true z2
  rw [e] at z3
  omega
def rAddA (K : Frg) : R2 := fun x y H Q => (∃ i j, x = .int i ∧ y = .int j ∧ Q (.int (i + j)) H) ∨ (∃ i j, x = .str i ∧ y = .str j ∧ i.length + j.length ≤ sizeLine ∧ Q (.str (i ++ j)) H) ∨ rCatT K x y H Q ∨ rCat x y H Q
def rMulA (K : Frg) : R2 := fun x y H Q => rI PMul (fun i j => .int (i * j)) x y H Q ∨ rRep x y H Q
def rEqA (K : Frg) : R2 := fun x y H Q => rEq x y H Q ∨ rEqD K x y H Q
def rNeA (K : Frg) : R2 := fun x y H Q => rNe x y H Q ∨ rNeD K x y H Q
section
variable {X : Cx}
theorem op_addA : OpR X (binaryOp .Add) (rAddA X.K) := OpR.or op_add (OpR.or op_add_str (OpR.or op_catT op_cat))
theorem op_mulX : OpR X (binaryOp .Mult) (rI PMul fun i j => .int (i * j)) := opI fun _ _ _ _ _ _ _ hc q => mul_int q hc.ok
theorem op_mulA : OpR X (binaryOp .Mult) (rMulA X.K) := OpR.or op_mulX op_rep
theorem op_fdivX : OpR X (binaryOp .FloorDiv) (rI PDiv fun i j => .int (i.fdiv j)) := opI fun i j _ _ _ _ _ hc q => floordiv_int hc.1 q (.inl (PyProof.noPylong_of_log2 hc.2))
theorem op_eqA (hu : X.A.units + 64 < cLine) : OpR X (compareOp .Eq) (rEqA X.K) := OpR.or op_eq (op_eqD hu)
theorem op_neA (hu : X.A.units + 64 < cLine) : OpR X (compareOp .NotEq) (rNeA X.K) := OpR.or op_ne (op_neD hu)
end
/-! ### data that == compares -/
mutual
def Dt.py : Dt → Option PyData
  | .v .non => some .none
  | .v (.bl b) => some (.bool b)
  | .v (.int i) => some (.int i)
  | .v (.str s) => some (.str s)
  | .v _ => none
  | .tup xs => (Dt.pys xs).map .tuple
  | .lst xs => (Dt.pys xs).map .list
  | .obj _ _ _ => none
  | .dct _ _ => none
  | .tupZ _ => none
def Dt.pys : List Dt → Option (List PyData)
  | [] => some []
  | d :: r => match Dt.py d, Dt.pys r with
    | some p, some q => some (p :: q)
    | _, _ => none
end
section
variable {K : Frg} {H : Hp}
mutual
theorem Is.dp : ∀ (d : Dt) (v : V) (p : PyData), Is K H d v → Dt.py d = some p → Dp K H v p
  | .v x, v, p, h, e => by
    rw [Is] at h
    subst h
    cases v <;> simp only [Dt.py] at e <;> first | (cases e; constructor) | cases e
  | .tup xs, v, p, h, e => by
    rw [Is] at h
    obtain ⟨a, vs, rfl, h1, h2⟩ := h
    rw [Dt.py] at e
    cases q : Dt.pys xs with
    | none => rw [q] at e; cases e
    | some ps =>
      rw [q] at e
      cases e
      exact .tup h1 (IsA.dp xs vs ps h2 q)
  | .lst xs, v, p, h, e => by
    rw [Is] at h
    obtain ⟨a, vs, rfl, h1, h2⟩ := h
    rw [Dt.py] at e
    cases q : Dt.pys xs with
    | none => rw [q] at e; cases e
    | some ps =>
      rw [q] at e
      cases e
      exact .lst h1 (IsA.dp xs vs ps h2 q)
  | .obj _ _ _, v, p, h, e => by
    rw [Dt.py] at e
    cases e
  | .dct _ _, v, p, h, e => by
    rw [Dt.py] at e
    cases e
  | .tupZ _, v, p, h, e => by
    rw [Dt.py] at e
    cases e
theorem IsA.dp : ∀ (ds : List Dt) (vs : List V) (ps : List PyData), IsA K H ds vs → Dt.pys ds = some ps → DpAll K H vs ps
  | [], vs, ps, h, e => by
    rw [IsA] at h
    rw [Dt.pys] at e
    cases e
    subst h
    exact .nil
  | d :: r, vs, ps, h, e => by
    rw [IsA] at h
    obtain ⟨v, w, rfl, h1, h2⟩ := h
    rw [Dt.pys] at e
    cases q1 : Dt.py d with
    | none => rw [q1] at e; cases e
    | some p =>
      cases q2 : Dt.pys r with
      | none => rw [q1, q2] at e; cases e
      | some q =>
        rw [q1, q2] at e
        cases e
        exact .cons (Is.dp d v p h1 q1) (IsA.dp r w q h2 q2)
end
theorem Dp.mono {H H' : Hp} (e : Ex H H') {v : V} {d : PyData} : Dp K H v d → Dp K H' v d := by
  intro h
  exact Dp.rec (motive_1 := fun v d _ => Dp K H' v d) (motive_2 := fun vs ds _ => DpAll K H' vs ds) .non .bl .int .str (fun h _ ih => .lst (e.l h) ih) (fun h _ ih => .tup (e.t h) ih) .nil (fun _ _ a b => .cons a b) h
end
/-! ### operators by data -/
def OpS (C : Ct) (r : R2) (x y z : Dt) : Prop := ∀ os A σ H vx vy, Ok C os A σ H → Is C.K (Rh C.O os H) x vx → Is C.K (Rh C.O os H) y vy → ∀ Q : VK, (∀ v H', Ex H H' → LamX.Tabs C.T H' → Is C.K (Rh C.O os H') z v → Q v H') → r vx vy H Q
section
variable {C : Ct} {E : XK} {ta tb tc te tl : TE} {tt : TT} {t u : TS} {A A1 A2 A3 : AS} {d d1 d2 x y z : Dt} {P : Po} {r r' : R2}
theorem e_bin (ha : EvS C ta A x A1) (hb : EvS C tb A1 y A2) (hr : OpS C r x y z) : EvS C (tOp r ta tb) A z A2 := fun os σ H k Q q =>
  ha os σ H k _ fun os1 v1 H1 k1 e1 i1 => hb os1 σ H1 k1 _ fun os2 v2 H2 k2 e2 i2 => hr os2 _ σ H2 v1 v2 k2 (Is.mono e2.e _ _ i1) i2 Q fun v H' e t i => q os2 v H' (k2.mono e t) ((e1.trans e2).trans (k2.gr e)) i
theorem o_orL (h : OpS C r x y z) : OpS C (fun x y H Q => r x y H Q ∨ r' x y H Q) x y z := fun os A σ H vx vy k i1 i2 Q q => .inl (h os A σ H vx vy k i1 i2 Q q)
theorem o_orR (h : OpS C r' x y z) : OpS C (fun x y H Q => r x y H Q ∨ r' x y H Q) x y z := fun os A σ H vx vy k i1 i2 Q q => .inr (h os A σ H vx vy k i1 i2 Q q)
theorem o_v {a b c : V} (h : ∀ H (Q : VK), Q c H → r a b H Q) : OpS C r (.v a) (.v b) (.v c) := fun os A σ H vx vy k i1 i2 Q q => by
  rw [Is.v_iff.mp i1, Is.v_iff.mp i2]
  exact h H Q (q c H (Ex.refl _) k.tb is_v)
theorem o_I0 {g : Int → Int → V} {i j : Int} : OpS C (rI0 g) (di i) (di j) (.v (g i j)) := o_v fun H Q q => ⟨i, j, rfl, rfl, q⟩
theorem o_I {cc : Int → Int → Prop} {g : Int → Int → V} {i j : Int} (hc : cc i j) : OpS C (rI cc g) (di i) (di j) (.v (g i j)) := o_v fun H Q q => ⟨i, j, rfl, rfl, hc, q⟩
theorem o_add {i j : Int} : OpS C (rAddA C.K) (di i) (di j) (di (i + j)) := o_v fun H Q q => .inl ⟨i, j, rfl, rfl, q⟩
theorem o_addS {i j : Str} (h : i.length + j.length ≤ 100000) : OpS C (rAddA C.K) (ds i) (ds j) (ds (i ++ j)) := o_v fun H Q q => .inr (.inl ⟨i, j, rfl, rfl, Nat.le_trans h (by decide), q⟩)
theorem o_mul {i j : Int} (h : PMul i j) : OpS C (rMulA C.K) (di i) (di j) (di (i * j)) := o_v fun H Q q => .inl ⟨i, j, rfl, rfl, h, q⟩
theorem o_mulX {i j : Int} (h : PMul i j) : OpS C (rI PMul fun i j => .int (i * j)) (di i) (di j) (di (i * j)) := o_I h
theorem o_eq {a b : V} (h : scal a b = true) : OpS C (rEqA C.K) (.v a) (.v b) (db (decide (a = b))) := o_v fun H Q q => .inl ⟨h, q⟩
theorem o_ne {a b : V} (h : scal a b = true) : OpS C (rNeA C.K) (.v a) (.v b) (db (!decide (a = b))) := o_v fun H Q q => .inl ⟨h, q⟩
theorem o_eqI {i j : Int} : OpS C (rEqA C.K) (di i) (di j) (db (decide (i = j))) := by
  have e : decide (V.int i = V.int j) = decide (i = j) := by simp
  rw [← e]
  exact o_eq rfl
theorem o_neI {i j : Int} : OpS C (rNeA C.K) (di i) (di j) (db (!decide (i = j))) := by
  have e : decide (V.int i = V.int j) = decide (i = j) := by simp
  rw [← e]
  exact o_ne rfl
theorem o_eqD {p q : PyData} (hx : x.py = some p) (hy : y.py = some q) (sp : SeqAt.shaped p = true) (sq : SeqAt.shaped q = true) : OpS C (rEqA C.K) x y (db (PyData.eqv p q)) := fun os A σ H vx vy k i1 i2 Q kq =>
  .inr ⟨p, q, Dp.mono hd_ex (Is.dp x vx p i1 hx), Dp.mono hd_ex (Is.dp y vy q i2 hy), sp, sq, kq _ H (Ex.refl _) k.tb is_v⟩
theorem o_neD {p q : PyData} (hx : x.py = some p) (hy : y.py = some q) (sp : SeqAt.shaped p = true) (sq : SeqAt.shaped q = true) : OpS C (rNeA C.K) x y (db (!PyData.eqv p q)) := fun os A σ H vx vy k i1 i2 Q kq =>
  .inr ⟨p, q, Dp.mono hd_ex (Is.dp x vx p i1 hx), Dp.mono hd_ex (Is.dp y vy q i2 hy), sp, sq, kq _ H (Ex.refl _) k.tb is_v⟩
theorem o_ixT {xs : List Dt} {i : Int} (h : atI xs i = some d) : OpS C (rIx C.K) (.tup xs) (di i) d := fun os A σ H vx vy k i1 i2 Q q => by
  rw [Is] at i1
  obtain ⟨a, vs, rfl, h2, h3⟩ := i1
  obtain ⟨v, h4, h5⟩ := isA_at h3 h
  rw [Is.v_iff.mp i2]
  exact .inr (.inl ⟨a, vs, i, v, rfl, rfl, hd_ex.t h2, h4, q v H (Ex.refl _) k.tb h5⟩)
theorem o_ixL {xs : List Dt} {i : Int} (h : atI xs i = some d) : OpS C (rIx C.K) (.lst xs) (di i) d := fun os A σ H vx vy k i1 i2 Q q => by
  rw [Is] at i1
  obtain ⟨a, vs, rfl, h2, h3⟩ := i1
  obtain ⟨v, h4, h5⟩ := isA_at h3 h
  rw [Is.v_iff.mp i2]
  exact .inl ⟨a, vs, i, v, rfl, rfl, hd_ex.l h2, h4, q v H (Ex.refl _) k.tb h5⟩
/-- an item of a list of one's own -/
theorem e_ixO {i : Nat} {n : Nat} {xs : List Dt} {j : Int} (h1 : A.sl[i]? = some (.own n)) (h2 : A.st[n]? = some (.lst xs)) (hb : EvS C tb A (di j) A) (h : atI xs j = some d) : EvS C (tOp (rIx C.K) (tVar i) tb) A d A := fun os σ H k Q q => by
  obtain ⟨o, e1, a, e2, e3⟩ := k.slot h1
  subst e2
  refine ⟨_, e1, hb os σ H k _ fun os2 v2 H2 k2 e4 i2 => ?_⟩
  obtain ⟨f1, f2, a2, g1, g2⟩ := k2.slot h1
  rw [e1] at f2; cases f2
  cases g1
  obtain ⟨o3, s1, a3, vs, s2, s3, s4⟩ := k2.store h2
  rw [g2] at s1; cases s1; cases s2
  obtain ⟨v, h4, h5⟩ := isA_at s4 h
  rw [Is.v_iff.mp i2]
  exact .inl ⟨_, vs, j, v, rfl, rfl, SqL.of s3, h4, q os2 v H2 k2 e4 h5⟩
/-- tuple(xs), xs a list of one's own -/
theorem e_tupO {i n : Nat} {xs : List Dt} (h1 : A.sl[i]? = some (.own n)) (h2 : A.st[n]? = some (.lst xs)) :
    EvS C (tCB (fun ys H Q => ∃ p zs, ys = [V.ref p] ∧ ((SqL C.K H p zs ∧ ∀ (l : Addr), H l = none → Q (V.ref l) (upd H l (HO.tup zs))) ∨ SqT C.K H p zs ∧ Q (V.ref p) H)) (tCons (tVar i) tNil)) A (.tup xs) A := fun os σ H k Q q => by
  obtain ⟨o, e1, a, e2, e3⟩ := k.slot h1
  subst e2
  obtain ⟨o3, s1, a3, vs, s2, s3, s4⟩ := k.store h2
  rw [e3] at s1; cases s1; cases s2
  refine ⟨_, e1, a, vs, rfl, .inl ⟨SqL.of s3, fun l hl => q os _ _ (k.monoN hl) (k.gr (Ex.new hl)) ?_⟩⟩
  rw [Is]
  exact ⟨l, vs, rfl, SqT.of (k.fresh hl), IsA.mono (hd_mono (Ex.new hl)) _ _ s4⟩
/-- tuple(xs), xs data -/
theorem e_tupL {tl : TE} {xs : List Dt} (h : EvS C tl A (.lst xs) A1) :
    EvS C (tCB (fun ys H Q => ∃ p zs, ys = [V.ref p] ∧ ((SqL C.K H p zs ∧ ∀ (l : Addr), H l = none → Q (V.ref l) (upd H l (HO.tup zs))) ∨ SqT C.K H p zs ∧ Q (V.ref p) H)) (tCons tl tNil)) A (.tup xs) A1 := fun os σ H k Q q =>
  h os σ H k _ fun os1 v H1 k1 e1 i1 => by
    rw [Is] at i1
    obtain ⟨a, vs, rfl, h2, h3⟩ := i1
    refine ⟨a, vs, rfl, .inl ⟨hd_ex.l h2, fun l hl => q os1 _ _ (k1.monoN hl) (e1.trans (k1.gr (Ex.new hl))) ?_⟩⟩
    rw [Is]
    exact ⟨l, vs, rfl, SqT.of (k1.fresh hl), IsA.mono (hd_mono (Ex.new hl)) _ _ h3⟩
theorem e_tupT {tl : TE} {xs : List Dt} (h : EvS C tl A (.tup xs) A1) :
    EvS C (tCB (fun ys H Q => ∃ p zs, ys = [V.ref p] ∧ ((SqL C.K H p zs ∧ ∀ (l : Addr), H l = none → Q (V.ref l) (upd H l (HO.tup zs))) ∨ SqT C.K H p zs ∧ Q (V.ref p) H)) (tCons tl tNil)) A (.tup xs) A1 := fun os σ H k Q q =>
  h os σ H k _ fun os1 v H1 k1 e1 i1 => by
    have i1' := i1
    rw [Is] at i1
    obtain ⟨a, vs, rfl, h2, h3⟩ := i1
    exact ⟨a, vs, rfl, .inr ⟨hd_ex.t h2, q os1 _ _ k1 e1 i1'⟩⟩
/-- list(xs) of a list, a tuple -/
theorem e_listL {tl : TE} {xs : List Dt} (h : EvS C tl A (.lst xs) A1) :
    EvS C (tCB (fun ys H Q => ∃ p zs, ys = [V.ref p] ∧ (SqL C.K H p zs ∨ SqT C.K H p zs) ∧ ∀ (l : Addr), H l = none → Q (V.ref l) (upd H l (HO.lst zs))) (tCons tl tNil)) A (.lst xs) A1 := fun os σ H k Q q =>
  h os σ H k _ fun os1 v H1 k1 e1 i1 => by
    rw [Is] at i1
    obtain ⟨a, vs, rfl, h2, h3⟩ := i1
    refine ⟨a, vs, rfl, .inl (hd_ex.l h2), fun l hl => q os1 _ _ (k1.monoN hl) (e1.trans (k1.gr (Ex.new hl))) ?_⟩
    rw [Is]
    exact ⟨l, vs, rfl, SqL.of (k1.fresh hl), IsA.mono (hd_mono (Ex.new hl)) _ _ h3⟩
theorem e_listT {tl : TE} {xs : List Dt} (h : EvS C tl A (.tup xs) A1) :
    EvS C (tCB (fun ys H Q => ∃ p zs, ys = [V.ref p] ∧ (SqL C.K H p zs ∨ SqT C.K H p zs) ∧ ∀ (l : Addr), H l = none → Q (V.ref l) (upd H l (HO.lst zs))) (tCons tl tNil)) A (.lst xs) A1 := fun os σ H k Q q =>
  h os σ H k _ fun os1 v H1 k1 e1 i1 => by
    rw [Is] at i1
    obtain ⟨a, vs, rfl, h2, h3⟩ := i1
    refine ⟨a, vs, rfl, .inr (hd_ex.t h2), fun l hl => q os1 _ _ (k1.monoN hl) (e1.trans (k1.gr (Ex.new hl))) ?_⟩
    rw [Is]
    exact ⟨l, vs, rfl, SqL.of (k1.fresh hl), IsA.mono (hd_mono (Ex.new hl)) _ _ h3⟩
/-- len -/
theorem e_lenT {tl : TE} {xs : List Dt} (h : EvS C tl A (.tup xs) A1) : EvS C (tCB (fun ys H Q => ∃ x n, ys = [x] ∧ LenV C.K x H n ∧ Q (V.int n) H) (tCons tl tNil)) A (di xs.length) A1 := fun os σ H k Q q =>
  h os σ H k _ fun os1 v H1 k1 e1 i1 => by
    rw [Is] at i1
    obtain ⟨a, vs, rfl, h2, h3⟩ := i1
    exact ⟨_, vs.length, rfl, .inr ⟨vs, hd_ex.t h2, rfl⟩, by rw [isA_len h3]; exact q os1 _ H1 k1 e1 is_v⟩
theorem e_lenL {tl : TE} {xs : List Dt} (h : EvS C tl A (.lst xs) A1) : EvS C (tCB (fun ys H Q => ∃ x n, ys = [x] ∧ LenV C.K x H n ∧ Q (V.int n) H) (tCons tl tNil)) A (di xs.length) A1 := fun os σ H k Q q =>
  h os σ H k _ fun os1 v H1 k1 e1 i1 => by
    rw [Is] at i1
    obtain ⟨a, vs, rfl, h2, h3⟩ := i1
    exact ⟨_, vs.length, rfl, .inl ⟨vs, hd_ex.l h2, rfl⟩, by rw [isA_len h3]; exact q os1 _ H1 k1 e1 is_v⟩
end
/-! ### a def of the module and its promise -/
structure Gd (P : Program) (w : World) (K : Frg) (mg : Str → Option Value) (base : Heap) (f : Str) (ps : List Str) (k : Nat) (sp : Sp) : Prop where
  ex : ∃ (a : Addr) (fd : FuncData), FnOk P w K mg base (L2.CX P w) k a fd ps sp ∧ Binds K fd ps [] ∧ PySem.W.keepIn K (.ref a) = true ∧ mg f = some (.ref a)
section
variable {X : Cx} {k : Nat} {ps : List Str} {sp : Sp} {E : XK} {x : Str} {p pos : Pos} {e : Expr} {es : List Expr} {t : TA}
theorem pe_callG (G : Gd X.prog X.w X.K X.mg X.base x ps k sp) (hr : Room k X.A) (hx : Passes (L2.CX X.prog X.w) X E) (ha : PA X (e :: es) t) (hg : Gl X x := by rfl)
    (hdb : (x == ("__debug__" : Str)) = false := by decide) (he : starEach (e :: es) X.env = (false, eval e X.env) :: starEach es X.env := by rfl) (hpl : (backTo pos (starEach es X.env)).any (·.1) = false := by rfl) :
    PE X (.Call (.Name x p) (e :: es) [] pos) (tCall sp [] E t) := by
  obtain ⟨a, fd, F, hb, hk, hm⟩ := G.ex
  exact pe_call F hr hg hm hk hb .nil hx ha hdb he hpl
theorem pe_call0G (G : Gd X.prog X.w X.K X.mg X.base x ps k sp) (hr : Room k X.A) (hx : Passes (L2.CX X.prog X.w) X E) (hg : Gl X x := by rfl) (hdb : (x == ("__debug__" : Str)) = false := by decide) : PE X (.Call (.Name x p) [] [] pos) (tCall sp [] E tNil) := by
  obtain ⟨a, fd, F, hb, hk, hm⟩ := G.ex
  exact pe_call0 F hr hg hm hk hb .nil hx hdb
end
/-- a def, by its body told over data -/
theorem mkG {P : Program} {w : World} {K : Frg} {T : List (Addr × Str)} {mg : Str → Option Value} {base : Heap} {f : Str} {st : Stmt} {N ps : List Str} {k : Nat} {g : List Dt → Rs → Prop} {a : Addr}
    (F : ∃ fd, FunD K f f (defArgs st) (defBody st) (defScope st) [] [] a fd) (hm : mg f = some (.ref a)) (S : FnScope N ps (defScope st))
    (hb : ∀ (kV doc pm : Value) (an : Option Addr) (cdv ct : Value) (us : List Value), us.length = ps.length → bindArgs (PySem.W.fnOf f f (defArgs st) (defBody st) (defScope st) .none kV doc pm an cdv ct) ⟨us, []⟩ = pure (ps.zip us))
    (len : ∀ ds r, g ds r → ds.length = ps.length)
    (hbody : ∀ (cdv : Value) (A : Around) (outer : List Env) (s : Shared) (H : Hp) (E : XK), Room k (A.deeper (envOfC f (defScope st) s.heap.objs.size a cdv)) →
      ∃ t, PSs (cxOf (L2.CX P w) P w K mg base N f (defScope st) a cdv A outer s H E) (defBody st) t ∧ ∀ O ds r, g ds r → RunS ⟨K, T, H, O⟩ E t (start N ds) (poR r)) : Gd P w K mg base f ps (k + 1) (spD K T g) := by
  obtain ⟨fd, F⟩ := F
  refine ⟨a, fd, F.ok S (fun vs H Q E h => spD_len len vs H Q E h) (fun cdv A outer s H vs Q E hr h => ?_), F.bindsN hb, F.kp, hm⟩
  obtain ⟨t, ht, run⟩ := hbody cdv A outer s H E hr
  exact ⟨t, ht, fin h run⟩
/-- what a body lets out is what the def lets out -/
theorem takesE {P : Program} {w : World} {K : Frg} {mg : Str → Option Value} {base : Heap} {N : List Str} {q : Str} {sc : Scope} {a : Addr} {cdv : Value} {A : Around} {outer : List Env} {s : Shared} {H : Hp} {E : XK} :
    Takes (cxOf (L2.CX P w) P w K mg base N q sc a cdv A outer s H E) (fun cls d _ H => E cls d H) := takes_of rfl rfl rfl rfl
theorem psE {P : Program} {w : World} {K : Frg} {mg : Str → Option Value} {base : Heap} {N : List Str} {q : Str} {sc : Scope} {a : Addr} {cdv : Value} {A : Around} {outer : List Env} {s : Shared} {H : Hp} {E : XK} :
    Passes (L2.CX P w) (cxOf (L2.CX P w) P w K mg base N q sc a cdv A outer s H E) E := passes_call takesE fun _ _ _ _ h => h
theorem passesE {P : Program} {w : World} {K : Frg} {mg : Str → Option Value} {base : Heap} {N : List Str} {q : Str} {sc : Scope} {a : Addr} {cdv : Value} {A : Around} {outer : List Env} {s : Shared} {H : Hp} {E : XK} :
    PassesOwn (model (cxOf (L2.CX P w) P w K mg base N q sc a cdv A outer s H E).prog (cxOf (L2.CX P w) P w K mg base N q sc a cdv A outer s H E).w) (cxOf (L2.CX P w) P w K mg base N q sc a cdv A outer s H E).A (cxOf (L2.CX P w) P w K mg base N q sc a cdv A outer s H E).env (cxOf (L2.CX P w) P w K mg base N q sc a cdv A outer s H E).xe := passes_of rfl
/-- a module's constant -/
theorem peC {X : Cx} {x : Str} {v : V} {pos : Pos} (h : ∃ u, X.mg x = some u ∧ RelV v u) (hg : Gl X x := by rfl) (hd : (x == ("__debug__" : Str)) = false := by decide) : PE X (.Name x pos) (tC v) := by
  obtain ⟨u, hm, r⟩ := h
  exact pe_glob hg hm r hd
end Py
end

section
set_option Elab.async false
set_option linter.all false
set_option maxRecDepth 100000
set_option maxHeartbeats 4000000
set_option autoImplicit false
namespace Py
open PySem PySem.Spec PyProof.Rows L2
/-! ### lambdas with parameters, handed to a def that calls them -/
/-- a lambda's names: its parameters, captured ones, globals -/
structure LamP (sc scope : Scope) (ps : List Str) : Prop where
  kind : scope.kind = .function
  co : scope.isCoroutine = false
  gen : scope.isGenerator = false
  nd : ps.Nodup
  par : ∀ p ∈ ps, scope.names.lookup p = some .local
  own : ∀ y ∈ scope.names, y.2 ≠ .cell ∧ (y.2 = .local → y.1 ∈ ps)
  free : ∀ y ∈ scope.names, y.2 = .free → sc.names.lookup y.1 = some .cell ∨ sc.names.lookup y.1 = some .free
abbrev lamCxP (ps : List Str) (X : Cx) (A : Around) (outer : List Env) (s : Shared) (H : Hp) (E : XK) (scope : Scope) (f c' : Addr) : Cx := { LamX.lamCx X A outer s H E scope f c' with N := ps ++ X.N }
theorem zip_rev_lookup {α β : Type} [BEq α] [LawfulBEq α] : ∀ {ps : List α} {us : List β} {i : Nat} {x : α} {u : β}, ps.Nodup → ps[i]? = some x → us[i]? = some u → (ps.zip us).reverse.lookup x = some u := by
  intro ps us i x u nd h1 h2
  have key : ∀ (l : List (α × β)), (l.map (·.1)).Nodup → (x, u) ∈ l → l.lookup x = some u := by
    intro l
    induction l with
    | nil => intro _ h; cases h
    | cons p r ih =>
      intro n h
      obtain ⟨a, b⟩ := p
      simp only [List.map_cons, List.nodup_cons] at n
      rw [List.lookup_cons]
      rcases List.mem_cons.mp h with e | e
      · cases e
        simp
      · have ne : x ≠ a := fun z => n.1 (by rw [← z]; exact List.mem_map_of_mem (f := (·.1)) e)
        have : (x == a) = false := by simpa using ne
        rw [this]
        exact ih n.2 e
  have hz : (ps.zip us)[i]? = some (x, u) := by
    rw [List.getElem?_zip_eq_some]
    exact ⟨h1, h2⟩
  refine key _ ?_ (List.mem_reverse.mpr (List.mem_of_getElem? hz))
  rw [List.map_reverse]
  have nr : ∀ (l : List α), l.Nodup → l.reverse.Nodup := fun l h => by
    unfold List.Nodup
    rw [List.pairwise_reverse]
    exact h.imp fun z => Ne.symm z
  refine nr _ ?_
  have sub : ∀ (a : List α) (b : List β), ((a.zip b).map (·.1)).Sublist a := by
    intro a
    induction a with
    | nil => intro b; simp
    | cons q r ih =>
      intro b
      cases b with
      | nil => simp
      | cons c d =>
        simp only [List.zip_cons_cons, List.map_cons]
        exact (ih d).cons_cons q
  exact nd.sublist (sub ps us)
section
variable {X : Cx} {pins : List (Addr × Obj)} {σ : Sg} {H HZ : Hp} {s s1 : Shared}
theorem LamP.has {scope : Scope} {ps : List Str} (L : LamP X.env.scope scope ps) (ok : X.Ok) : ∀ y ∈ scope.names, y.2 = .free → ∃ c, X.env.cells.lookup y.1 = some c := fun y hy e =>
  (L.free y hy e).elim (fun k => ok.has _ (.inl k)) fun k => ok.has _ (.inr k)
theorem lamP_start {A : Around} {outer : List Env} {E : XK} {scope : Scope} {ps : List Str} {f c' : Addr} {h₁ : Heap} {tk : Nat} {vs : List V} {us : List Value} (I : Inv X pins σ H s) (L : LamP X.env.scope scope ps) (dj : ∀ x ∈ X.N, x ∉ ps) (e0 : Env0 X.prog X.w X.K X.mg X.base A outer s1 HZ) (hnd : A.handled = none)
    (un : Un (frs X.stack) [] H HZ s.heap s1.heap) (r : Vals vs us) (hl : vs.length = ps.length) (hns : h₁.Ns s1.heap.objs.size fun y => (ps.zip us).reverse.lookup y) (kp : ∀ b o, s1.heap.get? b = some o → h₁.get? b = some o) :
    Inv (lamCxP ps X A outer s1 HZ E scope f c') [] (vs.map some ++ σ) HZ { s1 with heap := h₁, toks := tk } := by
  have has := L.has I.ok
  have up : ∀ {y c}, (cloFrom X.env.cells scope.names []).lookup y = some c → X.env.cells.lookup y = some c := by
    intro y c e
    rcases cloFrom_mem (PySem.mem_of_lookup e) with z | ⟨z1, z2⟩
    · cases z
    · obtain ⟨d, hd⟩ := has _ z1 rfl
      have hd : X.env.cells.lookup y = some d := hd
      rw [hd, z2, hd]
      rfl
  have fnd : ∀ {y}, scope.names.lookup y = some .free → ∃ c, (cloFrom X.env.cells scope.names []).lookup y = some c := by
    intro y e
    have m : (y, NameKind.free) ∈ scope.names := PySem.mem_of_lookup e
    exact mem_lookup (cloFrom_has (cells := X.env.cells) (acc := []) m)
  have stays : ∀ {c : Addr} {v : Option Value}, H c = none → s.heap.IsCell c v → h₁.IsCell c v := by
    rintro c v n ⟨o, ho, hd⟩
    obtain ⟨sl, q⟩ := un.any ho n (by simp)
    exact ⟨_, kp _ _ q, hd⟩
  have none_ex : ∀ b : Addr, b ∉ (lamCxP ps X A outer s1 HZ E scope f c').ex := fun b z => by cases (show b ∈ ([] : List Addr) from z)
  refine ⟨?ok, rfl, e0.bare, Un.kept kp, ⟨_, hns, ?loc⟩, ?cell, e0.hok.fresh (Nat.le_refl _), ?freeC, ?pin, e0.hok.kept kp, ?len⟩
  case ok =>
    refine ⟨e0.mod, L.kind, rfl, rfl, Nat.le_refl _, ?_, ?_, ?_, fun _ => hnd, Around.frames_deeper e0.frames, .inr ⟨rfl, rfl⟩, fun b z => (none_ex b z).elim, e0.bs, e0.bsz, fun b _ _ => none_ex b, fun b z => (none_ex b z).elim, e0.funs, e0.frf⟩
    · intro y z c a b
      exact I.ok.inj y z c (up a) (up b)
    · intro y hy
      have hy : scope.names.lookup y = some .cell ∨ scope.names.lookup y = some .free := hy
      rcases hy with hy | hy
      · exact ((L.own _ (PySem.mem_of_lookup hy)).1 rfl).elim
      · exact fnd hy
    · intro y c z _
      cases (show false = true from z)
  case loc =>
    intro i y v e1 e2 e3
    have e1 : (ps ++ X.N)[i]? = some y := e1
    have e3 : Vis scope y := e3
    have hm : (vs.map some).length = ps.length := by rw [List.length_map, hl]
    by_cases hi : i < ps.length
    · rw [List.getElem?_append_left hi] at e1
      rw [List.getElem?_append_left (by rw [hm]; exact hi), List.getElem?_map] at e2
      have hv : vs[i]? = some v := by
        cases q : vs[i]? with
        | none => rw [q] at e2; cases e2
        | some a => rw [q] at e2; cases e2; rfl
      obtain ⟨u, hu, rv⟩ := r.get hv
      exact ⟨u, rv, .inl ⟨L.par y (List.mem_of_getElem? e1), zip_rev_lookup L.nd e1 hu⟩⟩
    · rw [List.getElem?_append_right (by omega)] at e1
      rw [List.getElem?_append_right (by rw [hm]; omega), hm] at e2
      have ny : y ∉ ps := dj y (List.mem_of_getElem? e1)
      rcases e3 with k | k | k
      · exact (ny ((L.own _ (PySem.mem_of_lookup k)).2 rfl)).elim
      · exact ((L.own _ (PySem.mem_of_lookup k)).1 rfl).elim
      · obtain ⟨m, hn, look⟩ := I.loc
        have fr := L.free _ (PySem.mem_of_lookup k) rfl
        have vis : Vis X.env.scope y := fr.elim (fun z => .inr (.inl z)) fun z => .inr (.inr z)
        obtain ⟨u, rv, q⟩ := look _ y v e1 e2 vis
        obtain ⟨c, hc⟩ := fnd k
        refine ⟨u, rv, .inr ⟨.inr k, c, hc, ?_⟩⟩
        rcases q with ⟨q, _⟩ | ⟨_, d, hd, z⟩
        · have q : X.env.scope.names.lookup y = some .local := q
          rcases fr with z | z <;> (rw [show X.env.scope.names.lookup y = _ from z] at q; cases q)
        · have := up hc
          rw [hd] at this
          cases this
          exact stays (I.freeC y _ hd) z
  case cell =>
    intro y c e
    obtain ⟨v, z⟩ := I.cell y c (up e)
    exact ⟨v, stays (I.freeC y c (up e)) z⟩
  case freeC =>
    intro y c e
    obtain ⟨v, o, ho, _⟩ := I.cell y c (up e)
    exact un.free c o ho (I.freeC y c (up e)) (by simp)
  case pin =>
    intro q hq
    cases (show q ∈ ([] : List (Addr × Obj)) from hq)
  case len =>
    show (vs.map some ++ σ).length = (ps ++ X.N).length
    rw [List.length_append, List.length_append, List.length_map, hl, I.len]
/-- a(e, ..), in the def that got the lambda -/
def tActP (i : Nat) (f c' : Addr) (q : Str) (n : Nat) (ta : TA) (tl : List V → Hp → VK → Prop) : TE := fun σZ HZ Q => σZ[i]? = some (some (.ref f)) ∧ ta σZ HZ fun vs H1 => vs.length = n ∧ H1 c' = some (LamX.CodeO c' q) ∧ tl vs H1 Q
theorem pe_actP {Eg : XK} {Ng : List Str} {qg : Str} {sg : Scope} {g f c' : Addr} {cdg pm ctv : Value} {params : Arguments} {body : Expr} {scope : Scope} {ps : List Str} {k i : Nat} {a : Str} {E : XK} {tb : TE} {p1 p2 : Pos} {e : Expr} {es : List Expr} {ta : TA}
    (I : Inv X pins σ H s) (L : LamP X.env.scope scope ps) (dj : ∀ x ∈ X.N, x ∉ ps) (hf : s.heap.get? f = some (PySem.W.kla_obj "<lambda>" (X.env.qual ++ "<lambda>") params body scope (cloFrom X.env.cells scope.names []) pm c' ctv)) (hfn : H f = none) (hfr : f ∉ frs X.stack)
    (hbind : ∀ us : List Value, us.length = ps.length → bindArgs (PySem.W.kla_fn "<lambda>" (X.env.qual ++ "<lambda>") params body scope (cloFrom X.env.cells scope.names []) pm (.ref c') ctv) ⟨us, []⟩ = pure (ps.zip us))
    (hx : Passes (L2.CX X.prog X.w) (cxOf (L2.CX X.prog X.w) X.prog X.w X.K X.mg X.base Ng qg sg g cdg X.A X.stack s H Eg) E) (hr : Room (k + 1) (X.A.deeper (envOfC qg sg s.heap.objs.size g cdg)))
    (hbody : ∀ (A : Around) (outer : List Env) (s : Shared) (H : Hp), Room k (A.deeper (LamX.lamEnv X scope s.heap.objs.size f c')) → PE (lamCxP ps X A outer s H E scope f c') body tb)
    (ha : PA (cxOf (L2.CX X.prog X.w) X.prog X.w X.K X.mg X.base Ng qg sg g cdg X.A X.stack s H Eg) (e :: es) ta)
    (hN : Ng[i]? = some a) (hv : Vis sg a) (hd : (a == ("__debug__" : Str)) = false := by decide) (hcd : (a == ("__classdict__" : Str)) = false := by decide)
    (he : starEach (e :: es) (cxOf (L2.CX X.prog X.w) X.prog X.w X.K X.mg X.base Ng qg sg g cdg X.A X.stack s H Eg).env = (false, eval e (cxOf (L2.CX X.prog X.w) X.prog X.w X.K X.mg X.base Ng qg sg g cdg X.A X.stack s H Eg).env) :: starEach es (cxOf (L2.CX X.prog X.w) X.prog X.w X.K X.mg X.base Ng qg sg g cdg X.A X.stack s H Eg).env := by rfl)
    (hpl : (backTo p2 (starEach es (cxOf (L2.CX X.prog X.w) X.prog X.w X.K X.mg X.base Ng qg sg g cdg X.A X.stack s H Eg).env)).any (·.1) = false := by rfl) :
    PE (cxOf (L2.CX X.prog X.w) X.prog X.w X.K X.mg X.base Ng qg sg g cdg X.A X.stack s H Eg) (.Call (.Name a p1) (e :: es) [] p2)
      (tActP i f c' (X.env.qual ++ "<lambda>") ps.length ta fun vs H1 Q => tb (vs.map some ++ σ) H1 Q) := by
  refine ⟨fun pinsZ sZ σZ HZ Q IZ h => ?_⟩
  obtain ⟨hs, ht⟩ := h
  refine wpAny_Call_Name_kw (thn ((pe_var (pos := p1) (i := i) hN hv hd hcd).run pinsZ sZ σZ HZ (fun v H1 => v = .ref f ∧ H1 = HZ) IZ ⟨.ref f, hs, rfl, rfl⟩) fun u s1 z => ?_)
  obtain ⟨v, H1, I1, r1, ev, eH⟩ := z
  rw [eH] at I1
  rw [ev] at r1
  obtain rfl : u = Value.ref f := r1
  have at_ : ∀ {σ' : Sg} {H' : Hp} {s' : Shared} {pn : List (Addr × Obj)}, Inv (cxOf (L2.CX X.prog X.w) X.prog X.w X.K X.mg X.base Ng qg sg g cdg X.A X.stack s H Eg) pn σ' H' s' → s'.heap.get? f = some (PySem.W.kla_obj "<lambda>" (X.env.qual ++ "<lambda>") params body scope (cloFrom X.env.cells scope.names []) pm c' ctv) :=
    fun J => J.base.keep f _ hf hfn hfr fun z => by cases (show f ∈ ([] : List Addr) from z)
  refine PySem.W.callWith_F ⟨_, _, _, _, at_ I1⟩ (thn (ha.run p2 pinsZ s1 σZ HZ _ I1 ht) fun us s2 z => ?_) he hpl
  obtain ⟨vs, H2, I2, r2, hl, hc, htb⟩ := z
  refine ⟨⟨_, _, _, _, at_ I2⟩, ?_⟩
  have un : Un (frs X.stack) [] H H2 s.heap s2.heap := I2.base
  obtain ⟨⟨oc, fs, t, hoc, hdc, hvc⟩, _, _⟩ := I2.hok c' _ hc
  have hlu : us.length = ps.length := by rw [← r2.length]; exact hl
  have rc : codeAny (model X.prog X.w) (X.A.deeper (envOfC qg sg s.heap.objs.size g cdg)) (.call (.ref f) ⟨us, []⟩) (CR (L2.CX X.prog X.w) (envOfC qg sg s.heap.objs.size g cdg :: X.stack) X.prog X.w H2 s2 Q E) s2 := by
    refine PySem.W.kla_callFunE hr.depth (at_ I2) rfl L.co L.gen rfl ⟨c', oc, fs, t, rfl, hoc, hdc, hvc⟩ ?_
    rw [hbind us hlu]
    refine wpAny_pure (wpAny_newFunctionEnv (fun y hy => (L.own y hy).1) (fun y hy => L.par _ (List.of_mem_zip hy).1) (fun h₁ hns hsb => ⟨I2.nolimit.fresh _ hsb, ?_⟩) L.kind)
    show codeAny _ _ (.expr body (LamX.lamEnv X scope s2.heap.objs.size f c')) _ _
    have kp : ∀ b o, s2.heap.get? b = some o → h₁.get? b = some o := fun b o q => hsb.extBut b o (Nat.ne_of_lt (Heap.lt_size q)) (Heap.get?_push_of_some _ q)
    have J : Inv (lamCxP ps X (X.A.deeper (envOfC qg sg s.heap.objs.size g cdg)) (envOfC qg sg s.heap.objs.size g cdg :: X.stack) s2 H2 E scope f c') [] (vs.map some ++ σ) H2 { s2 with heap := h₁, toks := s2.toks + (ps.zip us).length } :=
      lamP_start I L dj I2.env0 hr.hd un r2 hl hns kp
    refine PySem.W.kla_codeExpr (wpAny_mono ((hbody _ _ s2 H2 (hr.deeper _)).run [] _ _ H2 Q J htb) (fun v s' hq => ?_) fun _ _ hq => hq)
    obtain ⟨w', H', J', rv, q⟩ := hq
    exact ⟨w', H', J'.os, J'.bare, J'.base, J'.hok, rv, q⟩
  refine wpAny_call (codeAny_mono rc fun r s' hq => ?_)
  cases r with
  | error e => exact hx pinsZ σZ H2 s2 e s' I2 hq
  | ok fl =>
    cases fl with
    | ret u => exact I2.after hq
    | next => exact False.elim hq
    | brk => exact False.elim hq
    | cont => exact False.elim hq
end
/-! ### the maker's side -/
/-- the def that got the lambda calls it by the name a -/
def ActP (Z : Cx) (a : Str) (i n : Nat) (f c' : Addr) (q : Str) (tl : List V → Hp → VK → Prop) : Prop := ∀ {e : Expr} {es : List Expr} {ta : TA} {p1 p2 : Pos}, PA Z (e :: es) ta → starEach (e :: es) Z.env = (false, eval e Z.env) :: starEach es Z.env → (backTo p2 (starEach es Z.env)).any (·.1) = false →
  PE Z (.Call (.Name a p1) (e :: es) [] p2) (tActP i f c' q n ta tl)
def GivesP (X : Cx) (k : Nat) (Ng : List Str) (x : Str) (sg : Scope) (g : Addr) (cdg : Value) (bg : List Stmt) (a : Str) (n : Nat) (q : Str) (E : XK) (TT : (List V → Hp → VK → Prop) → List V → Hp → VK → Prop) : Prop :=
  ∀ (f c' : Addr) (s : Shared) (H : Hp) (Q : VK) (vs : List V) (tl : List V → Hp → VK → Prop), Room k (X.A.deeper (envOfC x sg s.heap.objs.size g cdg)) → ActP (cxOf (L2.CX X.prog X.w) X.prog X.w X.K X.mg X.base Ng x sg g cdg X.A X.stack s H E) a 0 n f c' q tl → H c' = some (LamX.CodeO c' q) → TT tl vs H Q →
    ∃ t, PSs (cxOf (L2.CX X.prog X.w) X.prog X.w X.K X.mg X.base Ng x sg g cdg X.A X.stack s H E) bg t ∧ t { nx := fun _ H' => Q .non H', rt := Q } (L2.start Ng (.ref f :: vs)) H
def tLamP (T : List (Addr × Str)) (q : Str) (m : Nat) (TT : (List V → Hp → VK → Prop) → List V → Hp → VK → Prop) (ta : TA) (tb : TE) : TE := fun σ H Q => LamX.Tabs T H ∧ ∀ H1 c', LamX.ExtN H H1 → LamX.Tabs T H1 → H1 c' = some (LamX.CodeO c' q) →
  ta σ H1 fun vs H2 => vs.length = m ∧ H2 c' = some (LamX.CodeO c' q) ∧ TT (fun ws H3 Q3 => tb (ws.map some ++ σ) H3 Q3) vs H2 Q
section
variable {X : Cx}
theorem fnd_of {K : Frg} {x qual : Str} {params : Arguments} {body : List Stmt} {scope : Scope} {f : Addr} {fd : FuncData} (F : FunD K x qual params body scope [] [] f fd) :
    ∃ (oc : Value) (od : Option Addr) (dV kV doc pm : Value) (an : Option Addr) (cdv ct : Value) (osl : Array (Option Value)), fd = PySem.W.fnOf x qual params body scope dV kV doc pm an cdv ct ∧ K.lookup f = some ⟨oc, od, .func (PySem.W.fnOf x qual params body scope dV kV doc pm an cdv ct), osl⟩ ∧ PySem.W.codeIn K cdv qual = true := by
  obtain ⟨oc, od, dV, kV, doc, pm, an, cdv, ct, osl, e, lk, hc, _, _⟩ := F.ex
  rw [e] at lk
  exact ⟨oc, od, dV, kV, doc, pm, an, cdv, ct, osl, e, lk, hc⟩
/-- x(lambda ps: body, e, ..) -/
theorem pe_lamP {T : List (Addr × Str)} {TT : (List V → Hp → VK → Prop) → List V → Hp → VK → Prop} {x a : Str} {g c P : Addr} {k kl : Nat} {pg : Arguments} {bg : List Stmt} {sg : Scope} {fd : FuncData} {Ng rs : List Str}
    {params : Arguments} {body : Expr} {scope : Scope} {ps : List Str} {tb : TE} {E : XK} {p lpos pos : Pos} {es : List Expr} {ta : TA}
    (F : FunD X.K x x pg bg sg [] [] g fd) (hm : X.mg x = some (.ref g)) (hb : L2.Binds X.K fd (a :: rs) []) (Sg' : FnScope Ng (a :: rs) sg) (hva : Vis sg a)
    (hG : ∀ cdv, GivesP X k Ng x sg g cdv bg a ps.length (X.env.qual ++ "<lambda>") E TT) (hkl : kl + 1 ≤ k)
    (TB : LamX.TabB X.base X.mg c P) (hcode : X.env.code = .ref c) (hmT : (P, X.env.qual ++ "<lambda>") ∈ T) (hu : ∀ p ∈ T, p.1 = P → p.2 = X.env.qual ++ "<lambda>") (hr : Room (k + 1) X.A) (L : LamP X.env.scope scope ps) (dj : ∀ x ∈ X.N, x ∉ ps) (hdef : defaultsOf params X.env = ([], []))
    (hbind : ∀ (q : Str) (cl : List (Str × Addr)) (pm cv ctv : Value) (us : List Value), us.length = ps.length → bindArgs (PySem.W.kla_fn "<lambda>" q params body scope cl pm cv ctv) ⟨us, []⟩ = pure (ps.zip us))
    (hx : Passes (L2.CX X.prog X.w) X E)
    (hbody : ∀ (A : Around) (outer : List Env) (s : Shared) (H : Hp) (f c' : Addr), Room kl (A.deeper (LamX.lamEnv X scope s.heap.objs.size f c')) → PE (lamCxP ps X A outer s H E scope f c') body tb)
    (ha : PA X es ta) (hg : Gl X x := by rfl) (hdb : (x == ("__debug__" : Str)) = false := by decide) (hda : (a == ("__debug__" : Str)) = false := by decide) (hcd : (a == ("__classdict__" : Str)) = false := by decide)
    (he : starEach (.Lambda params body scope lpos :: es) X.env = (false, eval (.Lambda params body scope lpos) X.env) :: starEach es X.env := by rfl) (hpl : (backTo pos (starEach es X.env)).any (·.1) = false := by rfl) :
    PE X (.Call (.Name x p) (.Lambda params body scope lpos :: es) [] pos) (tLamP T (X.env.qual ++ "<lambda>") rs.length TT ta tb) := by
  obtain ⟨oc, od, dV, kV, doc, pm, an, cdv, ct, osl, efd, lk, hcg⟩ := fnd_of F
  subst efd
  refine ⟨fun pins s σ H Q I h => ?_⟩
  obtain ⟨hT, h⟩ := h
  refine wpAny_Call_Name_kw (ld_glob I hg hm ?_ hdb)
  refine PySem.W.callWith_K (h₀ := X.base) I.ok.mod.kin F.kp ?_ he hpl
  rw [he]
  show wpAny _ _ (spliced ((false, eval (.Lambda params body scope lpos) X.env) :: backTo pos (starEach es X.env))) _ _ s
  refine Calls.spliced_cons (LamX.lam_make2 I TB hcode hmT hu hT hdef (L.has I.ok) fun f c' pm' ctv H1 s1 I1 eN T1 hf hfn hfr hco => ?_)
  have nloc : f ≠ X.env.locals := fun z => by
    obtain ⟨m, ⟨o, es', ep, ho, hd, _⟩, _⟩ := I1.loc
    rw [← z, hf] at ho
    cases ho
    cases hd
  have nfs : f ∉ X.fs := fun z => hfr (by
    rcases I1.ok.stk with e | ⟨e, hfm⟩
    · rw [e]; exact z
    · rw [e]
      unfold frs
      rw [List.filterMap_cons, hfm]
      exact List.mem_cons_of_mem _ z)
  have Ip : Inv X ((f, _) :: pins) σ H1 s1 := I1.pins_of fun q hq => by
    rcases List.mem_cons.mp hq with e | e
    · subst e
      exact ⟨hf, hfn, nloc, nfs, fun v z => by cases z⟩
    · exact I1.pin q (List.mem_append_right _ e)
  refine thn (ha.run pos _ s1 σ H1 _ Ip (h H1 c' eN T1 hco)) fun us s2 z => ?_
  obtain ⟨vs, H2, I2, r2, hl, hc2, ht2⟩ := z
  obtain ⟨hf2, hfn2, _⟩ := I2.pin (f, _) (List.mem_append_right _ (List.mem_cons_self ..))
  refine ⟨I2.kIn, ?_⟩
  have hlu : us.length = rs.length := by rw [← r2.length]; exact hl
  have rc : codeAny (model X.prog X.w) X.A (.call (.ref g) ⟨.ref f :: us, []⟩) (CR (L2.CX X.prog X.w) X.stack X.prog X.w H2 s2 Q E) s2 := by
    have bt := hb s2 (.ref f :: us) I2.kIn (by simp [hlu])
    rw [List.append_nil] at bt
    refine LamX.run_ofS (N := Ng) (ps := a :: rs) (us := .ref f :: us) (vs := .ref f :: vs) lk hcg Sg' hr I2.env0 bt (.cons rfl r2) (by simp [hl]) fun hr' => ?_
    have hN0 : Ng[0]? = some a := by
      have e := congrArg (·[0]?) Sg'.pre
      simp only [List.getElem?_cons_zero] at e
      rw [← e, List.getElem?_take]
      simp
    exact hG cdv f c' s2 H2 Q vs _ hr' (fun {e es ta p1 p2} hpa h1 h2 => pe_actP (k := kl) (i := 0) I2 L dj hf2 hfn2 hfr (fun us hl => hbind _ _ _ _ _ us hl) psE (hr'.mono hkl) (fun A outer s H hr2 => hbody A outer s H f c' hr2) hpa hN0 hva hda hcd h1 h2) hc2 ht2
  refine wpAny_call (codeAny_mono rc fun r s3 hq => ?_)
  cases r with
  | error e => exact hx _ σ H2 s2 e s3 I2 hq
  | ok fl =>
    cases fl with
    | ret u =>
      obtain ⟨v, H3, I3, q3⟩ := I2.after hq
      exact ⟨v, H3, I3.pins_of fun q hq => I3.pin q (List.mem_append_right _ (List.mem_cons_of_mem _ hq)), q3⟩
    | next => exact False.elim hq
    | brk => exact False.elim hq
    | cont => exact False.elim hq
end
end Py
end

section
set_option Elab.async false
set_option linter.all false
set_option maxRecDepth 100000
set_option maxHeartbeats 4000000
set_option autoImplicit false
namespace Py
open PySem PySem.Spec PyProof.Rows L2
/-! ### lambdas by data -/
/-- what a call of the lambda does with data, in heaps that know what Hm knows -/
def ActD (K : Frg) (T : List (Addr × Str)) (O : List Addr) (Hm : Hp) (tl : List V → Hp → VK → Prop) (R : List Dt → Dt → Prop) : Prop := ∀ ds r H vs (Q : VK), Ex Hm H → LamX.Tabs T H → (∀ a ∈ O, ∃ o, H a = some o ∧ NoT o) → IsA K (hd O H) ds vs → R ds r →
  (∀ v H', Ex H H' → LamX.Tabs T H' → Is K (hd O H') r v → Q v H') → tl vs H Q
/-- a promise that speaks of what the lambda does -/
def TTr (K : Frg) (T : List (Addr × Str)) (g : (List Dt → Dt → Prop) → List Dt → Dt → Prop) : (List V → Hp → VK → Prop) → List V → Hp → VK → Prop := fun tl vs H Q => ∃ O ds r R, (∀ a ∈ O, ∃ o, H a = some o ∧ NoT o) ∧ LamX.Tabs T H ∧ IsA K (hd O H) ds vs ∧ ActD K T O H tl R ∧ g R ds r ∧
  ∀ v H', Ex H H' → LamX.Tabs T H' → Is K (hd O H') r v → Q v H'
theorem nt_c {c : Addr} {q : Str} : NoT (LamX.CodeO c q) := fun ps z => by
  unfold LamX.CodeO at z
  cases z
section
variable {C : Ct} {E : XK} {A A1 : AS} {d r : Dt} {ta : TA} {tb : TE} {σ : Sg} {H H' : Hp} {os : List (Option Addr)}
theorem Ok.noOs (k : Ok C os A σ H) (h : A.st = []) : os = [] := by
  have := k.ln
  rw [h] at this
  exact List.eq_nil_of_length_eq_zero this
theorem Rh_nil {O : List Addr} {H : Hp} : Rh O [] H = hd O H := by
  show hd (O ++ []) H = _
  rw [List.append_nil]
theorem Gr.at {O : List Addr} {os os' : List (Option Addr)} {c : Addr} {o : HO} (g : Gr O os H os' H') (hn : NoT o) (hc : H c = some o) (hos : os = []) : H' c = some o := by
  by_cases hO : c ∈ O
  · rw [g.o c hO]; exact hc
  · refine hd_ex c o (g.e c o ?_ hn) hn
    rw [hos, Rh_nil, hd_of hO]
    exact hc
theorem e_act {f c' : Addr} {q : Str} {i n : Nat} {tl : List V → Hp → VK → Prop} {R : List Dt → Dt → Prop} {ds : List Dt} (ha : ActD C.K C.T C.O C.H0 tl R) (hc : C.H0 c' = some (LamX.CodeO c' q)) (hs : A.sl[i]? = some (.d (.v (.ref f)))) (hst : A.st = []) (h : EvA C ta A ds A) (hn : ds.length = n) (hR : R ds r) :
    EvS C (tActP i f c' q n ta tl) A r A := fun os σ H k Q qq => by
  obtain ⟨o, e1, v, e2, e3⟩ := k.slot hs
  rw [Is.v_iff] at e3
  subst e3 e2
  refine ⟨e1, h os σ H k _ fun os1 vs H1 k1 g1 i1 => ⟨by rw [isA_len i1]; exact hn, k1.ex _ _ hc nt_c, ?_⟩⟩
  have e0 := k1.noOs hst
  subst e0
  rw [Rh_nil] at i1
  exact ha ds r H1 vs Q k1.ex k1.tb k1.ol i1 hR fun v H' e t i => qq [] v H' (k1.mono e t) (g1.trans (k1.gr e)) (by rw [Rh_nil]; exact i)
/-- x(lambda ps: body, e, ..), by data -/
theorem e_lamP {q : Str} {m : Nat} {g : (List Dt → Dt → Prop) → List Dt → Dt → Prop} {ds : List Dt} {R : List Dt → Dt → Prop} (hst : A.st = []) (h : EvA C ta A ds A) (hm : ds.length = m)
    (hb : ∀ H xs y, R xs y → EvS ⟨C.K, C.T, H, C.O⟩ tb ⟨xs.map .d ++ A.sl, []⟩ y ⟨xs.map .d ++ A.sl, []⟩) (hg : g R ds r) : EvS C (tLamP C.T q m (TTr C.K C.T g) ta tb) A r A := fun os σ H k Q qq => by
  have e0 := k.noOs hst
  subst e0
  refine ⟨k.tb, fun H1 c' eN T1 hc => ?_⟩
  have k1 := k.mono (H' := H1) eN T1
  refine h [] σ H1 k1 _ fun os2 vs H2 k2 g2 i2 => ?_
  have e2 := k2.noOs hst
  subst e2
  refine ⟨by rw [isA_len i2]; exact hm, g2.at nt_c hc rfl, C.O, ds, r, R, k2.ol, k2.tb, by rw [← Rh_nil]; exact i2, ?_, hg, fun v H' e t i => qq [] v H' (k2.mono e t) (((k.gr eN).trans g2).trans (k2.gr e)) (by rw [Rh_nil]; exact i)⟩
  intro xs y H3 ws Q3 e3 t3 o3 i3 hR hq
  have k3 := k2.mono e3 t3
  refine hb H3 xs y hR [] _ H3 ⟨Ex.refl _, t3, o3, fun a _ z => (by cases z), rfl, fun i j a z => (by simp at z), fun a z => (by cases z), ?_, fun i s o h1 h2 => ?_, fun i s o h1 h2 => by simp at h2⟩ Q3 fun os4 v H4 k4 g4 i4 => ?_
  · show (ws.map some ++ σ).length = (xs.map SD.d ++ A.sl).length
    rw [List.length_append, List.length_append, List.length_map, List.length_map, isA_len i3, k3.sn]
  · show SlOk C.K [] (Rh C.O [] H3) s o
    have h1 : (xs.map SD.d ++ A.sl)[i]? = some s := h1
    rw [List.getElem?_append] at h1 h2
    simp only [List.length_map] at h1 h2
    rw [isA_len i3] at h2
    split at h1
    · rename_i hi
      rw [if_pos hi] at h2
      rw [List.getElem?_map] at h1 h2
      cases e1 : xs[i]? with
      | none => rw [e1] at h1; cases h1
      | some x =>
        obtain ⟨v, hv, hx⟩ := isA_get i3 e1
        rw [e1] at h1
        rw [hv] at h2
        cases h1; cases h2
        exact ⟨v, rfl, by rw [Rh_nil]; exact hx⟩
    · rename_i hi
      rw [if_neg hi] at h2
      exact k3.sl _ s o h1 h2
  · have e4 := k4.noOs rfl
    subst e4
    exact hq v H4 k4.ex k4.tb (by rw [← Rh_nil]; exact i4)
end
/-! ### told: x(lambda: body), x a def that tries the call and answers a text for an error -/
section
variable {C : Ct} {A A1 : AS} {d : Dt}
theorem e_toldOk {CS : Addr} {ret : Str} {t : XK → TE} (h : ∀ E, EvS C (t E) A d A1) : EvS C (LamX.tLam C.T (LamX.TTold C.K CS ret) t) A d A1 := fun os σ H k Q q =>
  ⟨k.tb, fun H1 eN T1 => h _ os σ H1 (k.mono (H' := H1) eN T1) Q fun os' v H' k' g i => q os' v H' k' ((k.gr eN).trans g) i⟩
theorem e_toldErr {CS : Addr} {ret : Str} {t : XK → TE} (hm : PySem.W.exmOne C.K (.ref CS) (.ref CS) = some true) (h : ∀ E, EvX C E (t E) A CS A1) : EvS C (LamX.tLam C.T (LamX.TTold C.K CS ret) t) A (Dt.v (.str ret)) A1 := fun os σ H k Q q =>
  ⟨k.tb, fun H1 eN T1 => h _ os σ H1 (k.mono (H' := H1) eN T1) (fun os' H' k' g => ⟨true, hm, fun _ => q os' _ H' k' ((k.gr eN).trans g) is_v, fun z => by cases z⟩) Q⟩
end
/-- the callee's side: its body told over data, for whatever the lambda does -/
theorem gives_of {X : Cx} {k : Nat} {Ng : List Str} {x : Str} {sg : Scope} {g : Addr} {cdg : Value} {bg : List Stmt} {a : Str} {n : Nat} {q : Str} {E : XK} {T : List (Addr × Str)} {gg : (List Dt → Dt → Prop) → List Dt → Dt → Prop}
    (hbody : ∀ (f c' : Addr) (s : Shared) (H : Hp) (tl : List V → Hp → VK → Prop), Room k (X.A.deeper (envOfC x sg s.heap.objs.size g cdg)) → ActP (cxOf (L2.CX X.prog X.w) X.prog X.w X.K X.mg X.base Ng x sg g cdg X.A X.stack s H E) a 0 n f c' q tl →
      ∃ t, PSs (cxOf (L2.CX X.prog X.w) X.prog X.w X.K X.mg X.base Ng x sg g cdg X.A X.stack s H E) bg t ∧ ∀ O ds r R, H c' = some (LamX.CodeO c' q) → ActD X.K T O H tl R → gg R ds r → RunS ⟨X.K, T, H, O⟩ E t (start Ng (.v (.ref f) :: ds)) (poR (.ok r))) :
    GivesP X k Ng x sg g cdg bg a n q E (TTr X.K T gg) := fun f c' s H Q vs tl hr act hc ht => by
  obtain ⟨O, ds, r, R, hO, hT, hi, hA, hg, hq⟩ := ht
  obtain ⟨t, h1, h2⟩ := hbody f c' s H tl hr act
  refine ⟨t, h1, h2 O ds r R hc hA hg [] _ H _ (start_ok hO hT (isA_cons is_v hi)) ⟨fun os A σ H' z k _ => ?_, fun os A σ d v H' z k _ i => ?_, fun os A σ H' z => z.elim, fun os A σ H' z => z.elim, fun c H' z e t => ?_⟩⟩
  · have z : Rs.ok r = .ok dn := z
    injection z with z
    rw [z] at hq
    exact hq _ H' k.ex k.tb is_v
  · have z : Rs.ok r = .ok d := z
    injection z with z
    rw [z] at hq
    exact hq v H' k.ex k.tb i
  · cases (show Rs.ok r = .err c from z)
end Py
end

section
set_option Elab.async false
set_option linter.all false
set_option maxRecDepth 100000
set_option maxHeartbeats 4000000
set_option autoImplicit false
namespace Py
open PySem PySem.Spec PyProof.Rows L2
/-! ### comprehensions by data -/
theorem wipe_in {σ : Sg} {i : Nat} : ∀ {vs : List Nat}, i ∈ vs → i < σ.length → (wipe σ vs)[i]? = some none
  | [], h, _ => by cases h
  | v :: vs, h, hl => by
    unfold wipe
    rw [List.getElem?_set]
    by_cases e : v = i
    · rw [if_pos e, wipe_length, if_pos (by rw [e]; exact hl)]
    · rw [if_neg e]
      exact wipe_in ((List.mem_cons.mp h).resolve_left fun z => e z.symm) hl
theorem wipe_eq {σ σ' : Sg} {vs : List Nat} (hl : σ'.length = σ.length) (h : ∀ i, i ∉ vs → σ'[i]? = σ[i]?) : wipe σ' vs = wipe σ vs := by
  apply List.ext_getElem?
  intro i
  by_cases m : i ∈ vs
  · by_cases l : i < σ.length
    · rw [wipe_in m l, wipe_in m (by rw [hl]; exact l)]
    · rw [List.getElem?_eq_none (by rw [wipe_length]; omega), List.getElem?_eq_none (by rw [wipe_length]; omega)]
  · rw [wipe_out m, wipe_out m, h i m]
theorem wipe_same {σ σ' : Sg} {vs : List Nat} {i : Nat} (h : wipe σ' vs = wipe σ vs) (m : i ∉ vs) : σ'[i]? = σ[i]? := by
  rw [← wipe_out m, h, wipe_out m]
theorem wipe_wipe {σ : Sg} {vs : List Nat} : wipe (wipe σ vs) vs = wipe σ vs := wipe_eq (wipe_length _ _) fun i m => wipe_out m
def wipeS : List SD → List Nat → List SD
  | l, [] => l
  | l, v :: vs => (wipeS l vs).set v .un
theorem wipeS_length : ∀ (l : List SD) (vs : List Nat), (wipeS l vs).length = l.length
  | l, [] => rfl
  | l, v :: vs => by unfold wipeS; rw [List.length_set, wipeS_length l vs]
theorem wipeS_get {l : List SD} {i : Nat} {s : SD} : ∀ {vs : List Nat}, (wipeS l vs)[i]? = some s → (i ∈ vs → s = .un) ∧ (i ∉ vs → l[i]? = some s)
  | [], h => ⟨fun z => (by cases z), fun _ => h⟩
  | v :: vs, h => by
    unfold wipeS at h
    rw [List.getElem?_set] at h
    by_cases e : v = i
    · rw [if_pos e] at h
      split at h
      · cases h
        exact ⟨fun _ => rfl, fun z => (z (by rw [e]; exact List.mem_cons_self ..)).elim⟩
      · cases h
    · rw [if_neg e] at h
      obtain ⟨h1, h2⟩ := wipeS_get h
      exact ⟨fun z => h1 ((List.mem_cons.mp z).resolve_left fun q => e q.symm), fun z => h2 fun q => z (List.mem_cons_of_mem _ q)⟩
def AS.wipe (A : AS) (ws : List Nat) : AS := ⟨wipeS A.sl ws, A.st⟩
abbrev Ct.hide (C : Ct) (p : Addr) : Ct := ⟨C.K, C.T, C.H0, p :: C.O⟩
section
variable {C : Ct} {A A1 A2 A3 : AS} {σ σ' : Sg} {H H' : Hp} {os os' : List (Option Addr)} {p : Addr} {ws : List Nat}
theorem Ok.wiped (k : Ok C os A σ H) : Ok C os (A.wipe ws) (L2.wipe σ ws) H := by
  refine ⟨k.ex, k.tb, k.ol, k.dj, k.ln, k.nd, k.fr, ?_, fun i s o h1 h2 => ?_, k.st⟩
  · rw [wipe_length, k.sn]
    exact (wipeS_length _ _).symm
  · obtain ⟨g1, g2⟩ := wipeS_get (show (wipeS A.sl ws)[i]? = some s from h1)
    by_cases m : i ∈ ws
    · rw [g1 m]; exact True.intro
    · rw [wipe_out m] at h2
      exact k.sl i s o (g2 m) h2
theorem Ok.back (k : Ok C os A σ' H) (h : L2.wipe σ' ws = L2.wipe σ ws) : Ok C os (A.wipe ws) σ H := by
  refine ⟨k.ex, k.tb, k.ol, k.dj, k.ln, k.nd, k.fr, ?_, fun i s o h1 h2 => ?_, k.st⟩
  · have e := congrArg List.length h
    rw [wipe_length, wipe_length] at e
    rw [← e, k.sn]
    exact (wipeS_length _ _).symm
  · obtain ⟨g1, g2⟩ := wipeS_get (show (wipeS A.sl ws)[i]? = some s from h1)
    by_cases m : i ∈ ws
    · rw [g1 m]; exact True.intro
    · rw [← wipe_same h m] at h2
      exact k.sl i s o (g2 m) h2
theorem mem_hide {O : List Addr} {a : Addr} : a ∈ hid (p :: O) os ↔ a = p ∨ a ∈ hid O os := by
  rw [mem_hid, mem_hid, List.mem_cons, or_assoc]
theorem Rh_hide {O : List Addr} {o : HO} (hp : H p = none) : Rh (p :: O) os (upd H p o) = Rh O os H := by
  funext a
  show hd _ _ a = hd _ _ a
  unfold hd
  by_cases e : a = p
  · rw [if_pos (mem_hide.mpr (.inl e))]
    split
    · rfl
    · rw [e]; exact hp.symm
  · by_cases q : a ∈ hid O os
    · rw [if_pos q, if_pos (mem_hide.mpr (.inr q))]
    · rw [if_neg q, if_neg fun z => (mem_hide.mp z).elim e q, upd_ne e]
theorem Rh_unhide {O : List Addr} : Ex (Rh (p :: O) os H) (Rh O os H) := fun a o h _ => by
  have h : hd _ H a = some o := h
  show hd _ H a = some o
  unfold hd at h ⊢
  split at h
  · cases h
  · rename_i q
    rw [if_neg fun z => q (mem_hide.mpr (.inr z))]
    exact h
theorem Ok.hide {o : HO} (k : Ok C os A σ H) (hp : H p = none) (hn : NoT o) : Ok (C.hide p) os A σ (upd H p o) := by
  have np : some p ∉ os := fun z => by
    obtain ⟨o, q, _⟩ := (k.fr p z).2
    rw [hp] at q; cases q
  refine ⟨k.ex.trans (Ex.new hp), tabs_new k.tb hp, fun a h => ?_, fun a h => ?_, k.ln, k.nd, fun a h => ?_, k.sn, fun i s o h1 h2 => ?_, fun i s o h1 h2 => ?_⟩
  · rcases List.mem_cons.mp h with e | e
    · rw [e]; exact ⟨o, upd_same, hn⟩
    · obtain ⟨u, q, n⟩ := k.ol a e
      exact ⟨u, Ex.new hp _ _ q n, n⟩
  · rcases List.mem_cons.mp h with e | e
    · rw [e]; exact np
    · exact k.dj a e
  · obtain ⟨h1, u, q, n⟩ := k.fr a h
    exact ⟨h1, u, Ex.new hp _ _ q n, n⟩
  · show SlOk C.K os (Rh (p :: C.O) os (upd H p _)) s o
    rw [Rh_hide hp]
    exact k.sl i s o h1 h2
  · show StOk C.K (Rh (p :: C.O) os (upd H p _)) _ o s
    rw [Rh_hide hp]
    exact (k.st i s o h1 h2).mono (Ex.refl _) (Ex.new hp)
theorem Ok.unhide (k : Ok (C.hide p) os A σ H) : Ok C os A σ H :=
  ⟨k.ex, k.tb, fun a h => k.ol a (List.mem_cons_of_mem _ h), fun a h => k.dj a (List.mem_cons_of_mem _ h), k.ln, k.nd, k.fr, k.sn, fun i s o h1 h2 => (k.sl i s o h1 h2).mono Rh_unhide, fun i s o h1 h2 => (k.st i s o h1 h2).mono Rh_unhide (Ex.refl _)⟩
theorem Rh_updO {O : List Addr} {o : HO} (h : p ∈ O) : Rh O os (upd H p o) = Rh O os H := Rh_upd (mem_hid.mpr (.inl h))
/-- a hidden list grows -/
theorem Ok.updH {xs ys : List V} (k : Ok C os A σ H) (h : p ∈ C.O) (h0 : ∀ o, C.H0 p = some o → ¬ NoT o) (hl : H p = some (.lst xs)) : Ok C os A σ (upd H p (.lst ys)) := by
  refine ⟨fun a o e n => ?_, tabs_lst k.tb hl, fun a m => ?_, k.dj, k.ln, k.nd, fun a m => ?_, k.sn, fun i s o h1 h2 => ?_, fun i s o h1 h2 => ?_⟩
  · have ne : a ≠ p := fun z => h0 o (by rw [← z]; exact e) n
    rw [upd_ne ne]
    exact k.ex _ _ e n
  · by_cases e : a = p
    · rw [e]; exact ⟨_, upd_same, nt_l⟩
    · rw [upd_ne e]; exact k.ol a m
  · have ne : a ≠ p := fun z => k.dj p h (by rw [← z]; exact m)
    rw [upd_ne ne]
    exact k.fr a m
  · rw [Rh_updO h]
    exact k.sl i s o h1 h2
  · rw [Rh_updO h]
    have q := k.st i s o h1 h2
    cases s with
    | gone => exact q
    | lst zs =>
      obtain ⟨a, us, q1, q2, q3⟩ := q
      have ne : a ≠ p := fun z => k.dj p h (by rw [← z, ← q1]; exact List.mem_of_getElem? h2)
      exact ⟨a, us, q1, by rw [upd_ne ne]; exact q2, q3⟩
end
section
variable {C : Ct} {A A1 A2 A3 : AS} {te tl : TE} {tt : TT} {g : TG} {ws : List Nat}
/-- a comprehension's target: it stores in the block's own slots alone -/
def TgS (C : Ct) (g : TG) (x : Dt) (A A' : AS) (ws : List Nat) : Prop := ∀ os σ H v (Q : Sg → Hp → Prop), Ok C os A σ H → Is C.K (Rh C.O os H) x v → (∀ σ', Ok C os A' σ' H → wipe σ' ws = wipe σ ws → Q σ' H) → g v σ H Q
theorem tgS_name {i : Nat} {x : Dt} (h : i ∈ ws) : TgS C (gName i) x A (A.put i x) ws := fun os σ H v Q k i1 q => q _ (k.put i1) (wipe_eq (by simp) fun j hj => by
  rw [List.getElem?_set_ne fun z => hj (by rw [← z]; exact h)])
def TgsS (C : Ct) (g : TGs) (xs : List Dt) (A A' : AS) (ws : List Nat) : Prop := ∀ os σ H vs (Q : Sg → Hp → Prop), Ok C os A σ H → IsA C.K (Rh C.O os H) xs vs → (∀ σ', Ok C os A' σ' H → wipe σ' ws = wipe σ ws → Q σ' H) → g vs σ H Q
theorem tgsS_nil : TgsS C gNil [] A A ws := fun os σ H vs Q k i q => ⟨by rw [IsA] at i; exact i, q σ k rfl⟩
theorem tgsS_cons {gs : TGs} {x : Dt} {xs : List Dt} (h : TgS C g x A A1 ws) (h' : TgsS C gs xs A1 A2 ws) : TgsS C (gCons g gs) (x :: xs) A A2 ws := fun os σ H vs Q k i q => by
  rw [IsA] at i
  obtain ⟨v, w, rfl, h1, h2⟩ := i
  exact ⟨v, w, rfl, h os σ H v _ k h1 fun σ1 k1 e1 => h' os σ1 H w Q k1 h2 fun σ2 k2 e2 => q σ2 k2 (e2.trans e1)⟩
theorem tgS_tup {gs : TGs} {n : Nat} {xs : List Dt} (hl : xs.length = n) (h : TgsS C gs xs A A1 ws) : TgS C (gTup C.K n gs) (.tup xs) A A1 ws := fun os σ H v Q k i q => by
  rw [Is] at i
  obtain ⟨a, vs, rfl, h1, h2⟩ := i
  exact ⟨a, vs, rfl, hd_ex.t h1, by rw [isA_len h2, hl], h os σ H vs Q k h2 q⟩
/-- one turn of a comprehension -/
def LcT (C : Ct) (g : TG) (tt : TT) (te : TE) (ws : List Nat) (x : Dt) (A : AS) (ys : List Dt) (A2 : AS) (ys2 : List Dt) : Prop :=
  ∃ A1 b A', TgS C g x (A.wipe ws) A1 ws ∧ EvT C tt A1 b A' ∧ ((b = true ∧ ∃ y A3, EvS C te A' y A3 ∧ ys2 = ys ++ [y] ∧ A3.wipe ws = A2) ∨ (b = false ∧ ys2 = ys ∧ A'.wipe ws = A2))
theorem t_yes : EvT C tYes A true A := fun os σ H k Q q => q os H k Gr.refl
def LcI (C : Ct) (p : Addr) (os1 : List (Option Addr)) (H1 : Hp) (σ : Sg) (A : AS) (ys : List Dt) (H : Hp) : Prop := ∃ os acc, Ok (C.hide p) os A σ H ∧ Gr (p :: C.O) os1 H1 os H ∧ H p = some (.lst acc) ∧ IsA C.K (Rh (p :: C.O) os H) ys acc
/-- all but the hidden list p itself -/
structure GrP (p : Addr) (O : List Addr) (os : List (Option Addr)) (H : Hp) (os' : List (Option Addr)) (H' : Hp) : Prop where
  e : Ex (Rh (p :: O) os H) (Rh (p :: O) os' H')
  o : ∀ a ∈ O, H' a = H a
  p : ∀ (k : Nat) (x : Option Addr), os[k]? = some x → os'[k]? = some x
theorem lc_turn {p : Addr} {x : Dt} {v : V} {σ : Sg} {os : List (Option Addr)} {H : Hp} {ys ys2 : List Dt} {acc : List V} (t : LcT (C.hide p) g tt te ws x A ys A2 ys2) (k : Ok (C.hide p) os A σ H) (hp : H p = some (.lst acc)) (ha : IsA C.K (Rh (p :: C.O) os H) ys acc) (hx : Is C.K (Rh (p :: C.O) os H) x v)
    (h0 : ∀ o, C.H0 p = some o → ¬ NoT o) (hO : p ∉ C.O) (hl : ys.length < 100000) (R : Hp → Prop) (hR : ∀ os' acc' H', Ok (C.hide p) os' A2 σ H' → GrP p C.O os H os' H' → H' p = some (.lst acc') → IsA C.K (Rh (p :: C.O) os' H') ys2 acc' → R H') :
    g v (wipe σ ws) H fun σ2 H2 => wipe σ2 ws = wipe σ ws ∧ tt σ2 H2 fun b H3 => if b = true then te σ2 H3 fun y H4 => ∃ acc, H4 p = some (HO.lst acc) ∧ acc.length < sizeLine ∧ R (upd H4 p (HO.lst (acc ++ [y]))) else R H3 := by
  obtain ⟨A1, b, A', tg, ht, hb⟩ := t
  refine tg os _ H v _ k.wiped hx fun σ2 k2 e2 => ⟨e2.trans wipe_wipe, ht os σ2 H k2 _ fun os3 H3 k3 g3 => ?_⟩
  have e2' : wipe σ2 ws = wipe σ ws := e2.trans wipe_wipe
  have hp3 : H3 p = some (.lst acc) := (g3.o p (List.mem_cons_self ..)).trans hp
  rcases hb with ⟨rfl, y, A3, he, rfl, rfl⟩ | ⟨rfl, rfl, rfl⟩
  · rw [if_pos rfl]
    refine he os3 σ2 H3 k3 _ fun os4 w H4 k4 g4 i4 => ?_
    have hp4 : H4 p = some (.lst acc) := (g4.o p (List.mem_cons_self ..)).trans hp3
    have g := g3.trans g4
    refine ⟨acc, hp4, by rw [isA_len ha]; exact Nat.lt_of_lt_of_le hl (by decide), hR os4 _ _ ((k4.back e2').updH (List.mem_cons_self ..) h0 hp4) ⟨?_, fun a h => ?_, g.p⟩ upd_same ?_⟩
    · rw [Rh_updO (List.mem_cons_self ..)]; exact g.e
    · rw [upd_ne fun z => hO (by rw [← z]; exact h)]
      exact g.o a (List.mem_cons_of_mem _ h)
    · rw [Rh_updO (List.mem_cons_self ..)]
      exact isA_app (IsA.mono g.e _ _ ha) (isA_cons i4 isA_nil)
  · rw [if_neg (by decide)]
    exact hR os3 acc H3 (k3.back e2') ⟨g3.e, fun a h => g3.o a (List.mem_cons_of_mem _ h), g3.p⟩ hp3 (IsA.mono g3.e _ _ ha)
theorem GrP.trans {p : Addr} {O : List Addr} {os os1 os2 : List (Option Addr)} {H H1 H2 : Hp} (a : GrP p O os H os1 H1) (b : GrP p O os1 H1 os2 H2) : GrP p O os H os2 H2 := ⟨a.e.trans b.e, fun x h => (b.o x h).trans (a.o x h), fun k x h => b.p k x (a.p k x h)⟩
theorem fresh_O {os : List (Option Addr)} {σ : Sg} {H : Hp} {p : Addr} (k : Ok C os A σ H) (hp : H p = none) : p ∉ C.O := fun z => k.new hp (mem_hid.mpr (.inl z))
theorem fresh_0 {os : List (Option Addr)} {σ : Sg} {H : Hp} {p : Addr} (k : Ok C os A σ H) (hp : H p = none) : ∀ o, C.H0 p = some o → ¬ NoT o := fun o e n => by
  have := k.ex _ _ e n
  rw [hp] at this; cases this
/-- the end: the list is data -/
theorem lc_end {p : Addr} {σ : Sg} {os1 os2 : List (Option Addr)} {H1 H2 : Hp} {ys : List Dt} {acc : List V} {Q : VK} (k1 : Ok C os1 A σ H1) (hp : H1 p = none) (k2 : Ok (C.hide p) os2 A2 σ H2) (g : GrP p C.O os1 (upd H1 p (.lst [])) os2 H2) (hl : H2 p = some (.lst acc)) (ha : IsA C.K (Rh (p :: C.O) os2 H2) ys acc)
    (q : ∀ os' v H', Ok C os' A2 σ H' → Gr C.O os1 H1 os' H' → Is C.K (Rh C.O os' H') (.lst ys) v → Q v H') : Q (.ref p) H2 := by
  refine q os2 _ H2 k2.unhide ⟨?_, fun a h => ?_, g.p⟩ ?_
  · have e := g.e
    rw [Rh_hide hp] at e
    exact e.trans Rh_unhide
  · rw [g.o a h, upd_ne fun z => fresh_O k1 hp (by rw [← z]; exact h)]
  · rw [Is]
    refine ⟨p, acc, rfl, SqL.of ?_, IsA.mono Rh_unhide _ _ ha⟩
    show hd _ H2 p = _
    rw [hd_of fun z => ?_]
    · exact hl
    · rcases mem_hid.mp z with z | z
      · exact fresh_O k1 hp z
      · exact k2.dj p (List.mem_cons_self ..) z
theorem e_lcR {lo : Int} {n : Nat} {wi : TI} (hw : ∀ os σ H, Ok C os A σ H → ∀ R : It → Hp → Prop, (∀ os' H', Ok C os' A1 σ H' → Gr C.O os H os' H' → R (Itr lo n) H') → wi σ H R) (B : Nat → AS) (Y : Nat → List Dt) (h0 : A1 = B 0) (hY : Y 0 = [])
    (hs : ∀ i, i < n → ∀ O, LcT ⟨C.K, C.T, C.H0, O⟩ g tt te ws (di (lo + i)) (B i) (Y i) (B (i + 1)) (Y (i + 1))) (hn : n < 100000) : EvS C (tLc wi g tt te ws) A (.lst (Y n)) (B n) := fun os σ H k Q q =>
  hw os σ H k _ fun os1 H1 k1 g1 p hp => by
    have hl : ∀ i, i ≤ n → (Y i).length ≤ i := by
      intro i
      induction i with
      | zero => intro _; rw [hY]; exact Nat.le_refl _
      | succ i ih =>
        intro hi
        obtain ⟨_, _, _, _, _, h⟩ := hs i hi []
        rcases h with ⟨_, _, _, _, e, _⟩ | ⟨_, e, _⟩ <;> rw [e] <;> have := ih (by omega) <;> (try simp only [List.length_append, List.length_singleton]) <;> omega
    subst h0
    refine lc_range (lo := lo) (n := n) (fun i H' => ∃ os' acc, Ok (C.hide p) os' (B i) σ H' ∧ GrP p C.O os1 (upd H1 p (.lst [])) os' H' ∧ H' p = some (.lst acc) ∧ IsA C.K (Rh (p :: C.O) os' H') (Y i) acc) ⟨os1, [], k1.hide hp nt_l, ⟨Ex.refl _, fun _ _ => rfl, fun _ _ h => h⟩, upd_same, by rw [hY]; exact isA_nil⟩ ?_ ?_
    · rintro i H' hi ⟨os', acc, k', g', hp', ha⟩
      exact lc_turn (hs i hi _) k' hp' ha is_v (fresh_0 k1 hp) (fresh_O k1 hp) (by have := hl i (by omega); omega) _ fun os2 acc2 H2 k2 g2 hp2 ha2 => ⟨os2, acc2, k2, g'.trans g2, hp2, ha2⟩
    · rintro H' ⟨os', acc, k', g', hp', ha⟩
      exact lc_end k1 hp k' g' hp' ha fun os2 v H2 k2 g2 i2 => q os2 v H2 k2 (g1.trans g2) i2
theorem e_lcL {xs : List Dt} (he : EvS C tl A (.lst xs) A1) (B : Nat → AS) (Y : Nat → List Dt) (h0 : A1 = B 0) (hY : Y 0 = [])
    (hs : ∀ i x, xs[i]? = some x → ∀ O, LcT ⟨C.K, C.T, C.H0, O⟩ g tt te ws x (B i) (Y i) (B (i + 1)) (Y (i + 1))) (hn : xs.length < 100000) : EvS C (tLc (iList C.K tl) g tt te ws) A (.lst (Y xs.length)) (B xs.length) := fun os σ H k Q q =>
  he os σ H k _ fun os1 v H1 k1 g1 i1 => by
    rw [Is] at i1
    obtain ⟨a, vs, rfl, h1, h2⟩ := i1
    refine ⟨a, rfl, ⟨vs, hd_ex.l h1⟩, fun p hp => ?_⟩
    have hl : ∀ i, i ≤ xs.length → (Y i).length ≤ i := by
      intro i
      induction i with
      | zero => intro _; rw [hY]; exact Nat.le_refl _
      | succ i ih =>
        intro hi
        obtain ⟨_, _, _, _, _, h⟩ := hs i xs[i] (List.getElem?_eq_getElem hi) []
        rcases h with ⟨_, _, _, _, e, _⟩ | ⟨_, e, _⟩ <;> rw [e] <;> have := ih (by omega) <;> (try simp only [List.length_append, List.length_singleton]) <;> omega
    subst h0
    have el : vs.length = xs.length := isA_len h2
    refine lc_list (K := C.K) (a := a) (xs := vs) (fun i H' => ∃ os' acc, Ok (C.hide p) os' (B i) σ H' ∧ GrP p C.O os1 (upd H1 p (.lst [])) os' H' ∧ H' p = some (.lst acc) ∧ IsA C.K (Rh (p :: C.O) os' H') (Y i) acc) ⟨os1, [], k1.hide hp nt_l, ⟨Ex.refl _, fun _ _ => rfl, fun _ _ h => h⟩, upd_same, by rw [hY]; exact isA_nil⟩ (fun i H' _ ⟨os', acc, k', g', hp', ha⟩ => ?_) ?_ ?_
    · have e := g'.e
      rw [Rh_hide hp] at e
      exact hd_ex.l (e.l h1)
    · rintro i x H' hi ⟨os', acc, k', g', hp', ha⟩
      obtain ⟨d, hd', hi'⟩ := isA_get' h2 hi
      have e := g'.e
      rw [Rh_hide hp] at e
      exact lc_turn (hs i d hd' _) k' hp' ha (Is.mono e _ _ hi') (fresh_0 k1 hp) (fresh_O k1 hp) (by have := hl i (by have := (List.getElem?_eq_some_iff.mp hd').1; omega); have := (List.getElem?_eq_some_iff.mp hd').1; omega) _ fun os2 acc2 H2 k2 g2 hp2 ha2 => ⟨os2, acc2, k2, g'.trans g2, hp2, ha2⟩
    · rintro H' ⟨os', acc, k', g', hp', ha⟩
      rw [el] at k' ha
      exact lc_end k1 hp k' g' hp' ha fun os2 v H2 k2 g2 i2 => q os2 v H2 k2 (g1.trans g2) i2
end
end Py
end

section
set_option Elab.async false
set_option linter.all false
set_option maxRecDepth 100000
set_option maxHeartbeats 4000000
set_option autoImplicit false
namespace Py
open PySem PySem.Spec PyProof.Rows L2
/-! ### built-ins by data -/
section
variable {C : Ct} {A A1 A2 : AS} {ta tb te : TE} {i j : Int}
theorem e_gcd (h : EvS C ta A (di i) A1) (h' : EvS C tb A1 (di j) A2) : EvS C (tCB rGcd (tCons ta (tCons tb tNil))) A (di (Int.gcd i j)) A2 :=
  e_CB (vs := [.int i, .int j]) (a_cons h (a_cons h' a_nil)) fun H Q q => ⟨i, j, rfl, q⟩
theorem e_abs (h : EvS C ta A (di i) A1) : EvS C (tCB (fun xs H Q => ∃ i, xs = [V.int i] ∧ Q (V.int (if i < 0 then -i else i)) H) (tCons ta tNil)) A (di (if i < 0 then -i else i)) A1 :=
  e_CB (vs := [.int i]) (a_cons h a_nil) fun H Q q => ⟨i, rfl, q⟩
theorem e_max2 (h : EvS C ta A (di i) A1) (h' : EvS C tb A1 (di j) A2) : EvS C (tCB (fun xs H Q => ∃ i j, xs = [V.int i, V.int j] ∧ Q (V.int (if j > i then j else i)) H) (tCons ta (tCons tb tNil))) A (di (if j > i then j else i)) A2 :=
  e_CB (vs := [.int i, .int j]) (a_cons h (a_cons h' a_nil)) fun H Q q => ⟨i, j, rfl, q⟩
theorem e_int (h : EvS C ta A (di i) A1) : EvS C (tCB (fun xs H Q => (∃ i, xs = [V.int i] ∧ Q (V.int i) H) ∨ ∃ k, xs = [V.bl k] ∧ Q (V.int (if k = true then 1 else 0)) H) (tCons ta tNil)) A (di i) A1 :=
  e_CB (vs := [.int i]) (a_cons h a_nil) fun H Q q => .inl ⟨i, rfl, q⟩
theorem e_intB {b : Bool} (h : EvS C ta A (db b) A1) : EvS C (tCB (fun xs H Q => (∃ i, xs = [V.int i] ∧ Q (V.int i) H) ∨ ∃ k, xs = [V.bl k] ∧ Q (V.int (if k = true then 1 else 0)) H) (tCons ta tNil)) A (di (if b = true then 1 else 0)) A1 :=
  e_CB (vs := [.bl b]) (a_cons h a_nil) fun H Q q => .inr ⟨b, rfl, q⟩
theorem e_strI (hb : i.natAbs.log2 < 1920) (h : EvS C ta A (di i) A1) : EvS C (tCB (fun xs H Q => ∃ i, xs = [V.int i] ∧ i.natAbs.log2 < 1920 ∧ Q (V.str (Str.ofString (toString i))) H) (tCons ta tNil)) A (ds (Str.ofString (toString i))) A1 :=
  e_CB (vs := [.int i]) (a_cons h a_nil) fun H Q q => ⟨i, rfl, hb, q⟩
theorem e_bits (h : EvS C ta A (di i) A1) : EvS C (tBits ta) A (di (Builtin.Int.intBits i : Nat)) A1 := fun os σ H k Q q =>
  h os σ H k _ fun os1 v H1 k1 e1 i1 => ⟨i, Is.v_iff.mp i1, q os1 _ H1 k1 e1 is_v⟩
theorem e_fmtI (hb : i.natAbs.log2 < 1920) (h : EvS C ta A (di i) A1) : EvS C (tFmt ta) A (ds (Str.ofString (toString i))) A1 := fun os σ H k Q q =>
  h os σ H k _ fun os1 v H1 k1 e1 i1 => .inr ⟨i, Is.v_iff.mp i1, hb, q os1 _ H1 k1 e1 is_v⟩
/-- a < b < c -/
theorem e_chainF {r r' : R2} {x y : Dt} {tc : TE} (ha : EvS C ta A x A1) (hb : EvS C tb A1 y A2) (hr : OpS C r x y (db false)) : EvS C (tChain r r' ta tb tc) A (db false) A2 := fun os σ H k Q q =>
  ha os σ H k _ fun os1 v1 H1 k1 e1 i1 => hb os1 σ H1 k1 _ fun os2 v2 H2 k2 e2 i2 => hr os2 _ σ H2 v1 v2 k2 (Is.mono e2.e _ _ i1) i2 _ fun v H' e t i => ⟨false, Is.v_iff.mp i, by
    rw [if_neg (by decide)]
    exact q os2 _ H' (k2.mono e t) ((e1.trans e2).trans (k2.gr e)) is_v⟩
theorem e_chainT {r r' : R2} {x y z d : Dt} {A3 : AS} {tc : TE} (ha : EvS C ta A x A1) (hb : EvS C tb A1 y A2) (hr : OpS C r x y (db true)) (hc : EvS C tc A2 z A3) (hr' : OpS C r' y z d) : EvS C (tChain r r' ta tb tc) A d A3 := fun os σ H k Q q =>
  ha os σ H k _ fun os1 v1 H1 k1 e1 i1 => hb os1 σ H1 k1 _ fun os2 v2 H2 k2 e2 i2 => hr os2 _ σ H2 v1 v2 k2 (Is.mono e2.e _ _ i1) i2 _ fun v H' e t i => ⟨true, Is.v_iff.mp i, by
    rw [if_pos rfl]
    have k3 := k2.mono e t
    refine hc os2 σ H' k3 _ fun os4 v4 H4 k4 e4 i4 => ?_
    exact hr' os4 _ σ H4 v2 v4 k4 (Is.mono ((k2.gr e).trans e4).e _ _ i2) i4 Q fun v5 H5 e5 t5 i5 => q os4 v5 H5 (k4.mono e5 t5) ((((e1.trans e2).trans (k2.gr e)).trans e4).trans (k4.gr e5)) i5⟩
end
/-! ### sizes -/
theorem log2_of {i : Int} {n : Nat} (h : i.natAbs < 2 ^ n) (hn : 0 < n) : i.natAbs.log2 < n := PySem.Flt.log2_lt_of hn h
theorem mulX {i j : Int} (a b : Nat) (h : i.natAbs < 2 ^ a) (h' : j.natAbs < 2 ^ b) (h0 : 0 < a := by decide) (h1 : 0 < b := by decide) (hs : a + b ≤ 100000000 := by decide) : PMul i j := by
  have := log2_of h h0
  have := log2_of h' h1
  show i.natAbs.log2 + j.natAbs.log2 < 100000000
  omega
theorem divX {i j : Int} (b : Nat) (h : j.natAbs < 2 ^ b) (hj : j ≠ 0) (h1 : 0 < b := by decide) (hs : b ≤ 9000 := by decide) : PDiv i j := ⟨hj, Nat.lt_of_lt_of_le (log2_of h h1) hs⟩
/-- a number of at most n bits -/
def Sz (n : Nat) (i : Int) : Prop := i.natAbs < 2 ^ n
theorem Sz.mono {m n : Nat} {i : Int} (h : Sz m i) (e : m ≤ n) : Sz n i := Nat.lt_of_lt_of_le h (Nat.pow_le_pow_right (by decide) e)
theorem Sz.mul {m n : Nat} {i j : Int} (h : Sz m i) (h' : Sz n j) : Sz (m + n) (i * j) := by
  unfold Sz at *
  rw [Int.natAbs_mul, Nat.pow_add]
  exact Nat.mul_lt_mul'' h h'
theorem Sz.add {n : Nat} {i j : Int} (h : Sz n i) (h' : Sz n j) : Sz (n + 1) (i + j) := by
  unfold Sz at *
  have := Int.natAbs_add_le i j
  rw [Nat.pow_succ]
  omega
theorem Sz.sub {n : Nat} {i j : Int} (h : Sz n i) (h' : Sz n j) : Sz (n + 1) (i - j) := by
  unfold Sz at *
  have := Int.natAbs_sub_le i j
  rw [Nat.pow_succ]
  omega
theorem Sz.neg {n : Nat} {i : Int} (h : Sz n i) : Sz n (-i) := by
  unfold Sz at *
  rw [Int.natAbs_neg]
  exact h
theorem Sz.of_le {n : Nat} {i j : Int} (h : Sz n j) (e : i.natAbs ≤ j.natAbs) : Sz n i := Nat.lt_of_le_of_lt e h
end Py
end

section
set_option Elab.async false
set_option linter.all false
set_option maxRecDepth 100000
set_option maxHeartbeats 4000000
set_option autoImplicit false
namespace Py
open PySem PySem.Spec PyProof.Rows L2
/-! ### defs that make lambdas -/
abbrev lamQ (f : Str) : Str := (f ++ ".<locals>.") ++ "<lambda>"
/-- the tables of the defs fs -/
def tabL (K : Frg) (fs : List Str) : List (Addr × Str) := fs.map fun f => ((He.cT K (f, none)).2, lamQ f)
theorem tabL_mem {K : Frg} {fs : List Str} {f : Str} (h : f ∈ fs) : ((He.cT K (f, none)).2, lamQ f) ∈ tabL K fs := List.mem_map.mpr ⟨f, h, rfl⟩
theorem tabL_one {K : Frg} : ∀ {fs : List Str} {f : Str}, (fs.map fun f => (He.cT K (f, none)).2).Nodup → f ∈ fs → ∀ p ∈ tabL K fs, p.1 = (He.cT K (f, none)).2 → p.2 = lamQ f := by
  intro fs f nd hf p hp e
  obtain ⟨g, hg, rfl⟩ := List.mem_map.mp hp
  have e : (He.cT K (g, none)).2 = (He.cT K (f, none)).2 := e
  have : g = f := by
    clear hp
    induction fs with
    | nil => cases hf
    | cons a r ih =>
      simp only [List.map_cons, List.nodup_cons] at nd
      rcases List.mem_cons.mp hf with z | z <;> rcases List.mem_cons.mp hg with y | y
      · rw [z, y]
      · exact absurd (List.mem_map.mpr ⟨g, y, by rw [e, z]⟩) nd.1
      · exact absurd (List.mem_map.mpr ⟨f, z, by rw [← e, y]⟩) nd.1
      · exact ih nd.2 z y
  rw [this]
/-- what a def's making of lambdas leans on -/
structure LamB (K : Frg) (base : Heap) (mg : Str → Option Value) (T : List (Addr × Str)) (f : Str) : Prop where
  tb : LamX.TabB base mg (He.cT K (f, none)).1 (He.cT K (f, none)).2
  mm : ((He.cT K (f, none)).2, lamQ f) ∈ T
  hu : ∀ p ∈ T, p.1 = (He.cT K (f, none)).2 → p.2 = lamQ f
/-- as mkG, the def's code object told -/
theorem mkGL {P : Program} {w : World} {K : Frg} {T : List (Addr × Str)} {mg : Str → Option Value} {base : Heap} {f : Str} {st : Stmt} {N ps : List Str} {k : Nat} {g : List Dt → Rs → Prop}
    (F : ∃ fd, FunD K f f (defArgs st) (defBody st) (defScope st) [] [] (He.ga K f) fd) (hm : mg f = some (.ref (He.ga K f))) (S : FnScope N ps (defScope st))
    (hb : ∀ (kV doc pm : Value) (an : Option Addr) (cdv ct : Value) (us : List Value), us.length = ps.length → bindArgs (PySem.W.fnOf f f (defArgs st) (defBody st) (defScope st) .none kV doc pm an cdv ct) ⟨us, []⟩ = pure (ps.zip us))
    (len : ∀ ds r, g ds r → ds.length = ps.length)
    (hbody : ∀ (A : Around) (outer : List Env) (s : Shared) (H : Hp) (E : XK), Room k (A.deeper (envOfC f (defScope st) s.heap.objs.size (He.ga K f) (.ref (He.cT K (f, none)).1))) →
      ∃ t, PSs (cxOf (L2.CX P w) P w K mg base N f (defScope st) (He.ga K f) (.ref (He.cT K (f, none)).1) A outer s H E) (defBody st) t ∧ ∀ O ds r, g ds r → RunS ⟨K, T, H, O⟩ E t (start N ds) (poR r)) : Gd P w K mg base f ps (k + 1) (spD K T g) := by
  obtain ⟨fd, F⟩ := F
  have kb := F.bindsN hb
  obtain ⟨oc, od, dV, kV, doc, pm, an, cdv, ct, osl, e, lk, hc⟩ := fnd_of F
  obtain ⟨c, rfl⟩ := He.codeIn_ref hc
  have ec : (He.cT K (f, none)).1 = c := He.codeOf_eq (p := (f, none)) lk rfl
  subst ec
  subst e
  refine ⟨_, _, fn_of lk hc S (fun vs H Q E h => spD_len len vs H Q E h) (fun A outer s H vs Q E hr h => ?_), kb, F.kp, hm⟩
  obtain ⟨t, ht, run⟩ := hbody A outer s H E hr
  exact ⟨t, ht, fin h run⟩
/-- a word between a statement and the rest -/
theorem r_cut {C : Ct} {E : XK} {t u : TS} {A : AS} {P : Po} (M : AS → Prop) (h : RunS C E t A { P with nx := M }) (k : ∀ A', M A' → RunS C E u A' P) : RunS C E (tSeq t u) A P := r_seq fun os σ H D o T =>
  h os σ H D o ⟨fun os1 A1 σ1 H1 m k1 g => T.nx os1 A1 σ1 H1 (k A1 m) k1 g, T.rt, T.bk, T.ct, T.er⟩
theorem r_ifTs {C : Ct} {E : XK} {tt : TT} {t u : TS} {A : AS} {P : Po} (hc : EvT C tt A true A) (h1 : RunS C E t A P) : RunS C E (tIfS tt t u) A P := r_ifT hc h1
theorem r_ifFs {C : Ct} {E : XK} {tt : TT} {t u : TS} {A : AS} {P : Po} (hc : EvT C tt A false A) (h1 : RunS C E u A P) : RunS C E (tIfS tt t u) A P := r_ifF hc h1
theorem r_ifs {C : Ct} {E : XK} {tt : TT} {t u : TS} {A : AS} {P : Po} {b : Bool} (hc : EvT C tt A b A) (h1 : b = true → RunS C E t A P) (h2 : b = false → RunS C E u A P) : RunS C E (tIfS tt t u) A P := r_if hc h1 h2
/-! ### the square-and-multiply promise: F i stands for the i-th power -/
def gRep : (List Dt → Dt → Prop) → List Dt → Dt → Prop := fun R ds r => ∃ (F : Nat → Dt) (n : Nat), ds = [F 0, F 1, di (n : Int)] ∧ (∀ i j, i + j ≤ n → R [F i, F j] (F (i + j))) ∧ r = F n
end Py
end

section
set_option Elab.async false
set_option linter.all false
set_option maxRecDepth 100000
set_option maxHeartbeats 4000000
set_option autoImplicit false
set_option exponentiation.threshold 100
namespace Py
open PySem PySem.Spec PyProof.Rows L2
/-! ### xs[i] = e, xs one's own -/
section
variable {C : Ct} {E : XK} {A A1 : AS} {te ti : TE} {d : Dt} {P : Po}
theorem r_setO {i n j : Nat} {z : Int} {xs : List Dt} (he : EvS C te A d A1) (h1 : A1.sl[i]? = some (.own n)) (h2 : A1.st[n]? = some (.lst xs)) (hj : ixN xs.length z = some j) (h : P.nx (A1.upO n (xs.set j d))) : RunS C E (tAsg te (gSub (tVar i) (tC (.int z)) rSetL)) A P := fun os σ H D k T =>
  he os σ H k _ fun os1 v H1 k1 e1 i1 => by
    obtain ⟨o, f1, a, f2, f3⟩ := k1.slot h1
    subst f2
    obtain ⟨o3, s1, a3, vs, s2, s3, s4⟩ := k1.store h2
    rw [f3] at s1; cases s1; cases s2
    refine ⟨_, f1, a, vs, z, j, rfl, rfl, s3, by rw [isA_len s4]; exact hj, ?_⟩
    refine T.nx os1 _ _ _ h (k1.upO f3 h2 (isA_set s4 i1)) (e1.trans ⟨?_, fun b hb => ?_, fun _ _ h => h⟩)
    · rw [Rh_upd (mem_hid.mpr (.inr (List.mem_of_getElem? f3)))]
      exact Ex.refl _
    · rw [upd_ne fun q => k1.dj b hb (by rw [q]; exact List.mem_of_getElem? f3)]
end
/-! ### the dice -/
structure Dice where
  x : Int
  y : Int
  z : Int
def Dice.ds (d : Dice) : List Dt := [di d.x, di d.y, di d.z]
def Dice.vs (d : Dice) : List V := [.int d.x, .int d.y, .int d.z]
def mkDice (c : Int) : Dice := if -10 < c ∧ c < 10 then ⟨c.natAbs, 0, 2⟩ else ⟨c, 1 + c.fmod 1009, if 10 ^ 18 ≤ c then 1 else 0⟩
def rollV (d : Dice) (m : Int) : Int := if d.z = 2 ∨ (d.z = 1 ∧ 0 < d.x) then d.x.fmod m else (((d.x * 48271 + d.y * 69621 + 11).fmod 2147483647).fdiv 7).fmod m
def rollD (d : Dice) (m : Int) : Dice := if d.z = 2 ∨ (d.z = 1 ∧ 0 < d.x) then ⟨d.x.fdiv m, d.y, d.z⟩ else ⟨(d.x * 48271 + d.y * 69621 + 11).fmod 2147483647, d.y + 1, 0⟩
/-- after at most c rolls -/
structure DOk (c : Nat) (d : Dice) : Prop where
  x : d.x.natAbs < 2 ^ 2000000
  y : d.y.natAbs ≤ 1010 + c
theorem roll_lt {d : Dice} {m : Int} (h : 0 < m) : 0 ≤ rollV d m ∧ rollV d m < m := by
  unfold rollV
  split
  · exact ⟨Int.fmod_nonneg_of_pos _ h, Int.fmod_lt_of_pos _ h⟩
  · exact ⟨Int.fmod_nonneg_of_pos _ h, Int.fmod_lt_of_pos _ h⟩
theorem fdiv_le_abs (a b : Int) (hb : 0 < b) : (a.fdiv b).natAbs ≤ a.natAbs := by
  rw [Int.fdiv_eq_ediv_of_nonneg a (by omega)]
  rcases Int.le_total 0 a with h | h
  · have h1 := Int.ediv_nonneg h (show 0 ≤ b by omega)
    have h2 := Int.ediv_le_self b h
    omega
  · have h1 : a / b ≤ 0 := by simpa using Int.ediv_le_ediv hb h
    have h2 : a ≤ a / b := by
      have e := Int.mul_ediv_add_emod a b
      have l2 := Int.emod_lt_of_pos a hb
      rcases Int.lt_or_le (a / b) a with z | z
      · have : b * (a / b + 1) ≤ b * a := Int.mul_le_mul_of_nonneg_left (by omega) (by omega)
        have : b * a ≤ 1 * a := Int.mul_le_mul_of_nonpos_right (by omega) h
        grind
      · exact z
    omega
theorem roll_ok {d : Dice} {m : Int} {c : Nat} (h : DOk c d) (hm : 0 < m) : DOk (c + 1) (rollD d m) := by
  unfold rollD
  split
  · exact ⟨Nat.lt_of_le_of_lt (fdiv_le_abs _ _ hm) h.x, Nat.le_trans h.y (by omega)⟩
  · refine ⟨?_, ?_⟩
    · show ((d.x * 48271 + d.y * 69621 + 11).fmod 2147483647).natAbs < 2 ^ 2000000
      have h1 := Int.fmod_nonneg_of_pos (d.x * 48271 + d.y * 69621 + 11) (show (0 : Int) < 2147483647 by decide)
      have h2 := Int.fmod_lt_of_pos (d.x * 48271 + d.y * 69621 + 11) (show (0 : Int) < 2147483647 by decide)
      have h3 : 2 ^ 31 ≤ 2 ^ 2000000 := Nat.pow_le_pow_right (by decide) (by decide)
      omega
    · show (d.y + 1).natAbs ≤ 1010 + (c + 1)
      have := h.y
      omega
theorem mkDice_ok {c : Int} (h : Sz 1048576 c) : DOk 0 (mkDice c) := by
  unfold mkDice
  have hp : 10 < 2 ^ 2000000 := Nat.lt_of_lt_of_le (by decide : 10 < 2 ^ 4) (Nat.pow_le_pow_right (by decide) (by decide))
  split
  · refine ⟨?_, by show (0 : Int).natAbs ≤ _; omega⟩
    show ((c.natAbs : Int)).natAbs < 2 ^ 2000000
    omega
  · refine ⟨Nat.lt_of_lt_of_le h (Nat.pow_le_pow_right (by decide) (by decide)), ?_⟩
    show (1 + c.fmod 1009).natAbs ≤ _
    have h1 := Int.fmod_nonneg_of_pos c (show (0 : Int) < 1009 by decide)
    have h2 := Int.fmod_lt_of_pos c (show (0 : Int) < 1009 by decide)
    omega
/-- what a roll promises: the dice at a has turned, all else stands -/
def spRoll (K : Frg) (T : List (Addr × Str)) : Sp := fun vs H Q _ => ∃ (a : Addr) (d : Dice) (m : Int) (c : Nat), vs = [.ref a, .int m] ∧ H a = some (.lst d.vs) ∧ DOk c d ∧ c ≤ 1000000 ∧ 0 < m ∧ Sz 8000 m ∧ LamX.Tabs T H ∧
  ∀ H', (∀ b o, b ≠ a → H b = some o → NoT o → H' b = some o) → LamX.Tabs T H' → H' a = some (.lst (rollD d m).vs) → Q (.int (rollV d m)) H'
section
variable {C : Ct} {E : XK} {A A1 : AS} {te ti : TE} {P : Po} {i n c : Nat} {d : Dice} {m : Int}
theorem vs_of {K : Frg} {H : Hp} {d : Dice} {vs : List V} (h : IsA K H d.ds vs) : vs = d.vs := by
  simp only [Dice.ds, IsA, Is] at h
  obtain ⟨v, w, rfl, rfl, v', w', rfl, rfl, v'', w'', rfl, rfl, rfl⟩ := h
  rfl
theorem ds_of {K : Frg} {H : Hp} {d : Dice} : IsA K H d.ds d.vs := isA_cons is_v (isA_cons is_v (isA_cons is_v isA_nil))
/-- roll(dice, m) -/
theorem e_roll {E' : XK} (h1 : A.sl[i]? = some (.own n)) (h2 : A.st[n]? = some (.lst d.ds)) (hm : EvS C te A (di m) A) (hk : DOk c d) (hc : c ≤ 1000000) (h0 : 0 < m) (hs : Sz 8000 m) :
    EvS C (tCall (spRoll C.K C.T) [] E' (tCons (tVar i) (tCons te tNil))) A (di (rollV d m)) (A.upO n (rollD d m).ds) := fun os σ H k Q q => by
  obtain ⟨o, f1, a, f2, f3⟩ := k.slot h1
  subst f2
  refine ⟨_, f1, hm os σ H k _ fun os1 v H1 k1 g1 i1 => ?_⟩
  rw [Is.v_iff.mp i1]
  have f3' := g1.p n _ f3
  obtain ⟨o3, s1, a3, vs, s2, s3, s4⟩ := k1.store h2
  rw [f3'] at s1; cases s1; cases s2
  rw [vs_of s4] at s3
  refine ⟨a, d, m, c, rfl, s3, hk, hc, h0, hs, k1.tb, fun H' e t ha => ?_⟩
  -- the heap behind: H1 with the dice turned, and more
  have hh : a ∈ hid C.O os1 := mem_hid.mpr (.inr (List.mem_of_getElem? f3'))
  have ku := k1.upO f3' h2 (ys := (rollD d m).ds) ds_of
  have ex : Ex (upd H1 a (.lst (rollD d m).vs)) H' := fun b o hb nt => by
    by_cases eb : b = a
    · subst eb
      rw [upd_same] at hb
      cases hb
      exact ha
    · rw [upd_ne eb] at hb
      exact e b o eb hb nt
  have kf := ku.mono ex t
  refine q os1 _ H' kf (g1.trans ⟨?_, fun b hb => ?_, fun _ _ h => h⟩) is_v
  · have := hd_mono (O := hid C.O os1) ex
    rw [show hd (hid C.O os1) (upd H1 a _) = Rh C.O os1 H1 from Rh_upd hh] at this
    exact this
  · obtain ⟨o, hb1, nt⟩ := k1.ol b hb
    have ne : b ≠ a := fun z => k1.dj b hb (by rw [z]; exact List.mem_of_getElem? f3')
    rw [hb1]
    exact e b o ne hb1 nt
/-- nothing but a table is known there -/
def Fr0 (H : Hp) (a : Addr) : Prop := ∀ o, H a = some o → ¬ NoT o
/-- a new dice; a new list that holds one new dice -/
def spDice (K : Frg) (T : List (Addr × Str)) : Sp := fun vs H Q _ => ∃ c : Int, vs = [.int c] ∧ Sz 1048576 c ∧ LamX.Tabs T H ∧ ∀ (a : Addr) (H' : Hp), Fr0 H a → Ex H H' → LamX.Tabs T H' → H' a = some (.lst (mkDice c).vs) → Q (.ref a) H'
def spRounds (K : Frg) (T : List (Addr × Str)) : Sp := fun vs H Q _ => ∃ (s : Addr) (ns : List Int), vs = [.ref s, .int 1] ∧ SqL K H s (ns.map V.int) ∧ ns.length ≤ 63 ∧ (∀ z ∈ ns, Sz 1048576 z) ∧ LamX.Tabs T H ∧
  ∀ (p a : Addr) (H' : Hp), Fr0 H p → Fr0 H a → p ≠ a → Ex H H' → LamX.Tabs T H' → H' p = some (.lst [.ref a]) → H' a = some (.lst (mkDice (ns.headD 0)).vs) → Q (.ref p) H'
/-- for dice in rounds(script, 1): one turn, with a dice of one's own -/
theorem r_rounds {E' : XK} {tb : TS} {ns : List Int} {j : Nat} (hs : A.sl[i]? = some (.d (.lst (ns.map di)))) (hl : ns.length ≤ 63) (hz : ∀ z ∈ ns, Sz 1048576 z)
    (hb : RunS C E tb (A.newO j (mkDice (ns.headD 0)).ds) { P with nx := P.nx, ct := P.nx, bk := P.nx }) : RunS C E (tFor (iList C.K (tCall (spRounds C.K C.T) [] E' (tCons (tVar i) (tCons (tC (.int 1)) tNil)))) (gName j) tb) A P := fun os σ H D k T => by
  obtain ⟨o, f1, v, f2, f3⟩ := k.slot hs
  subst f2
  rw [Is] at f3
  obtain ⟨s, vs, rfl, g1, g2⟩ := f3
  have ev : vs = ns.map V.int := by
    clear g1 hs hl hz hb f1
    induction ns generalizing vs with
    | nil => simpa [IsA] using g2
    | cons a r ih =>
      rw [List.map_cons, IsA] at g2
      obtain ⟨v, w, rfl, h1, h2⟩ := g2
      rw [Is.v_iff.mp h1, ih w h2]
      rfl
  subst ev
  refine ⟨_, f1, s, ns, rfl, hd_ex.l g1, hl, hz, k.tb, fun p a H1 hp ha hpa e t hp1 ha1 => ⟨p, rfl, ⟨_, SqL.of hp1⟩, ?_⟩⟩
  have np : some p ∉ os := fun z => by
    obtain ⟨o, q, n⟩ := (k.fr p z).2
    exact hp o q n
  have npO : p ∉ C.O := fun z => by
    obtain ⟨o, q, n⟩ := k.ol p z
    exact hp o q n
  -- the heap without the dice
  let G : Hp := fun b => if b = a then none else H1 b
  have gne : ∀ b, b ≠ a → G b = H1 b := fun b z => if_neg z
  have gG : upd G a (.lst (mkDice (ns.headD 0)).vs) = H1 := by
    funext b
    by_cases z : b = a
    · rw [z, upd_same, ha1]
    · rw [upd_ne z, gne b z]
  have eG : Ex H G := fun b o h n => by
    rw [gne b (fun z => by rw [z] at h; exact ha o h n)]
    exact e b o h n
  have tG : LamX.Tabs C.T G := fun q hq => by
    obtain ⟨qs, h1, h2, h3⟩ := t q hq
    refine ⟨qs, ?_, h2, fun pos cv hc => ?_⟩
    · rw [gne _ (ne_of h1 ha1 fun z => by cases z)]
      exact h1
    · obtain ⟨c, e1, e2⟩ := h3 pos cv hc
      refine ⟨c, e1, ?_⟩
      rw [gne _ (ne_of e2 ha1 fun z => by unfold LamX.CodeO at z; cases z)]
      exact e2
  have k1 := k.mono eG tG
  have k2 := k1.newO (i := j) (p := a) (if_pos rfl) (ds_of (d := mkDice (ns.headD 0)))
  rw [gG] at k2
  have g1 : Gr C.O os H (os ++ [some a]) H1 := by
    refine ⟨?_, fun b hb => ?_, fun k x h => by rw [List.getElem?_append_left (List.getElem?_eq_some_iff.mp h).1]; exact h⟩
    · have := hd_mono (O := hid C.O os) eG
      rw [← gG, Rh_app (show G a = none from if_pos rfl)]
      exact this
    · obtain ⟨o, q, n⟩ := k.ol b hb
      rw [q, e b o q n]
  have pH : p ∉ hid C.O (os ++ [some a]) := fun z => by
    rcases mem_hid.mp z with z | z
    · exact npO z
    · rcases List.mem_append.mp z with z | z
      · exact np z
      · simp at z; exact hpa z
  refine for_list (K := C.K) (a := p) (xs := [V.ref a]) (fun i σ' H' => SqL C.K H' p [V.ref a] ∧ ((i = 0 ∧ σ' = σ ∧ H' = H1) ∨ (i = 1 ∧ D.nx σ' H'))) ⟨SqL.of hp1, .inl ⟨rfl, rfl, rfl⟩⟩ (fun i σ' H' _ h => h.1) ?_ ?_
  · rintro i x σ' H' hx ⟨_, h⟩
    rcases h with ⟨rfl, rfl, rfl⟩ | ⟨rfl, _⟩
    · cases hx
      have here : ∀ {os3 H3}, Gr C.O (os ++ [some a]) H' os3 H3 → SqL C.K H3 p [V.ref a] := fun {os3 H3} g => SqL.of (hd_ex p _ (g.e p _ (by
        show hd _ H' p = _
        rw [hd_of pH]
        exact hp1) nt_l) nt_l)
      exact hb _ _ H' _ k2 ⟨fun os3 A3 σ3 H3 h k3 g3 => ⟨here g3, .inr ⟨rfl, T.nx os3 A3 σ3 H3 h k3 (g1.trans g3)⟩⟩, fun os3 A3 σ3 d v H3 h k3 g3 i3 => T.rt os3 A3 σ3 d v H3 h k3 (g1.trans g3) i3, fun os3 A3 σ3 H3 h k3 g3 => T.nx os3 A3 σ3 H3 h k3 (g1.trans g3), fun os3 A3 σ3 H3 h k3 g3 => ⟨here g3, .inr ⟨rfl, T.nx os3 A3 σ3 H3 h k3 (g1.trans g3)⟩⟩, T.er⟩
    · cases hx
  · rintro σ' H' ⟨_, h⟩
    rcases h with ⟨z, _⟩ | ⟨_, h⟩
    · cases z
    · exact h
end
theorem o_is {C : Ct} {r : R2} {x y z z' : Dt} (h : OpS C r x y z) (e : z = z') : OpS C r x y z' := by rw [← e]; exact h
/-! ### a new list handed back; a list of one's own as a parameter -/
theorem flat_isA {K : Frg} {H : Hp} : ∀ {vs : List V}, IsA K H (vs.map .v) vs
  | [] => isA_nil
  | _ :: _ => isA_cons is_v flat_isA
theorem flat_eq {K : Frg} {H : Hp} : ∀ {vs ws : List V}, IsA K H (vs.map .v) ws → ws = vs
  | [], ws, h => by rw [List.map_nil, IsA] at h; exact h
  | v :: r, ws, h => by
    rw [List.map_cons, IsA] at h
    obtain ⟨u, w, rfl, h1, h2⟩ := h
    rw [Is.v_iff.mp h1, flat_eq h2]
theorem start_flat {K : Frg} {T : List (Addr × Str)} {N : List Str} {vs : List V} {H : Hp} (ht : LamX.Tabs T H) : Ok ⟨K, T, H, []⟩ [] (start N (vs.map .v)) (L2.start N vs) H := start_ok (fun a h => by cases h) ht flat_isA
/-- return [..] of flat values: a new list -/
theorem ret_newL {K : Frg} {T : List (Addr × Str)} {H H1 : Hp} {A A1 : AS} {os : List (Option Addr)} {σ : Sg} {tl : TA} {xs : List V} {Q : VK} {D : Ends} {ds : List Dt} (k : Ok ⟨K, T, H, []⟩ os A σ H1) (h : EvA ⟨K, T, H, []⟩ tl A ds A1) (hl : xs.length ≤ 100000) (hd : ds = xs.map .v) (hD : D.rt = Q)
    (q : ∀ a H', Fr0 H a → Ex H H' → LamX.Tabs T H' → H' a = some (.lst xs) → Q (.ref a) H') : tRet (tLst tl) D σ H1 := by
  show tLst tl σ H1 D.rt
  rw [hD]
  refine h os σ H1 k _ fun os2 vs H2 k2 g2 i2 => ?_
  subst hd
  rw [flat_eq i2]
  refine ⟨Nat.le_trans hl (by decide), fun p hp => q p _ (fun o e n => ?_) (k2.ex.trans (Ex.new hp)) (tabs_new k2.tb hp) upd_same⟩
  have := k2.ex p o e n
  rw [hp] at this
  cases this
/-- the entry where the first parameter is a list that the def changes -/
theorem start_own {K : Frg} {T : List (Addr × Str)} {N : List Str} {a : Addr} {xs ws : List V} {H : Hp} (ht : LamX.Tabs T H) (ha : H a = some (.lst xs)) :
    Ok ⟨K, T, fun b => if b = a then none else H b, []⟩ [some a] ⟨.own 0 :: (ws.map fun v => SD.d (.v v)) ++ List.replicate (N.length - (ws.length + 1)) .un, [.lst (xs.map .v)]⟩ (L2.start N (.ref a :: ws)) H := by
  refine ⟨fun b o e n => ?_, ht, fun b h => (by cases h), fun b h => (by cases h), rfl, fun i j b h1 h2 => ?_, fun b h => ?_, ?_, fun i s o h1 h2 => ?_, fun i s o h1 h2 => ?_⟩
  · have e : (if b = a then none else H b) = some o := e
    split at e
    · cases e
    · exact e
  · cases i with
    | succ i => simp at h1
    | zero =>
      cases j with
      | succ j => simp at h2
      | zero => rfl
  · simp at h
    subst h
    refine ⟨fun o e => ?_, _, ha, nt_l⟩
    have e : (if b = b then none else H b) = some o := e
    rw [if_pos rfl] at e
    cases e
  · simp [L2.start]
  · cases i with
    | zero =>
      simp [L2.start] at h1 h2
      subst h1 h2
      exact ⟨a, rfl, rfl⟩
    | succ i =>
      have h1 : ((ws.map fun v => SD.d (.v v)) ++ List.replicate (N.length - (ws.length + 1)) SD.un)[i]? = some s := by simpa using h1
      have h2 : (ws.map some ++ List.replicate (N.length - (ws.length + 1)) none)[i]? = some o := by simpa [L2.start] using h2
      rw [List.getElem?_append] at h1 h2
      simp only [List.length_map] at h1 h2
      split at h1
      · rename_i q
        rw [if_pos q] at h2
        rw [List.getElem?_map] at h1 h2
        cases e1 : ws[i]? with
        | none => rw [e1] at h1; cases h1
        | some v =>
          rw [e1] at h1 h2
          cases h1; cases h2
          exact ⟨v, rfl, is_v⟩
      · rw [List.getElem?_replicate] at h1
        split at h1
        · cases h1; exact True.intro
        · cases h1
  · cases i with
    | zero =>
      simp at h1 h2
      subst h1 h2
      exact ⟨a, xs, rfl, ha, flat_isA⟩
    | succ i => simp at h1
end Py
end

section
set_option Elab.async false
set_option linter.all false
set_option maxRecDepth 100000
set_option maxHeartbeats 4000000
set_option autoImplicit false
namespace Py
open PySem PySem.Spec PyProof.Rows L2
/-! ### parts of lists -/
def EvO (C : Ct) (t : TO) (A : AS) (o : Option Int) (A1 : AS) : Prop := ∀ os σ H, Ok C os A σ H → ∀ Q, (∀ os' H', Ok C os' A1 σ H' → Gr C.O os H os' H' → Q o H') → t σ H Q
def cutL (xs : List Dt) (lo hi : Option Int) : List Dt := (xs.drop (HT.sIx xs.length 0 lo)).take (HT.sIx xs.length xs.length hi - HT.sIx xs.length 0 lo)
section
variable {C : Ct} {E : XK} {A A1 A2 A3 : AS} {te ti : TE} {tl th : TO} {d : Dt} {P : Po} {lo hi : Option Int} {xs : List Dt}
theorem o_no : EvO C tNoPart A none A := fun os σ H k Q q => q os H k (Gr.refl)
theorem o_part {i : Int} (h : EvS C te A (di i) A1) : EvO C (tPart te) A (some i) A1 := fun os σ H k Q q =>
  h os σ H k _ fun os1 v H1 k1 e1 i1 => ⟨i, Is.v_iff.mp i1, q os1 H1 k1 e1⟩
theorem isA_cutL {K : Frg} {H : Hp} {vs : List V} (h : IsA K H xs vs) : IsA K H (cutL xs lo hi) (cutV vs lo hi) := by
  unfold cutL cutV
  rw [isA_len h]
  exact isA_cut _ _ h
/-- xs[lo:hi] -/
theorem e_slL (h : EvS C te A (.lst xs) A1) (h1 : EvO C tl A1 lo A2) (h2 : EvO C th A2 hi A3) : EvS C (tSl (rSlL C.K) te tl th) A (.lst (cutL xs lo hi)) A3 := fun os σ H k Q q =>
  h os σ H k _ fun os1 v H1 k1 e1 i1 => h1 os1 σ H1 k1 _ fun os2 H2 k2 e2 => h2 os2 σ H2 k2 _ fun os3 H3 k3 e3 => by
    have i3 := Is.mono (e2.e.trans e3.e) _ _ i1
    rw [Is] at i3
    obtain ⟨a, vs, rfl, g1, g2⟩ := i3
    refine ⟨a, vs, rfl, hd_ex.l g1, fun p hp => q os3 _ _ (k3.monoN hp) ((e1.trans (e2.trans e3)).trans (k3.gr (Ex.new hp))) ?_⟩
    rw [Is]
    exact ⟨p, _, rfl, SqL.of (k3.fresh hp), IsA.mono (hd_mono (Ex.new hp)) _ _ (isA_cutL g2)⟩
end
theorem seq_last {a b c : TS} {D : Ends} {σ : Sg} {H : Hp} (h : tSeq a (tSeq b tNext) { D with nx := c D } σ H) : tSeq a (tSeq b c) D σ H := h
/-- return [dice(cell) for cell in cells], cells of one cell -/
theorem ret_dice {K : Frg} {T : List (Addr × Str)} {H H1 : Hp} {A : AS} {os : List (Option Addr)} {σ : Sg} {Q : VK} {D : Ends} {c : Int} {i j : Nat} {E' : XK} (k : Ok ⟨K, T, H, []⟩ os A σ H1) (hA : A.sl[i]? = some (.d (.lst [di c]))) (hz : Sz 1048576 c) (hij : i ≠ j) (hj : j < σ.length) (hD : D.rt = Q)
    (q : ∀ p a H', Fr0 H p → Fr0 H a → p ≠ a → Ex H H' → LamX.Tabs T H' → H' p = some (.lst [.ref a]) → H' a = some (.lst (mkDice c).vs) → Q (.ref p) H') : tRet (tLc (iList K (tVar i)) (gName j) tYes (tCall (spDice K T) [] E' (tCons (tVar j) tNil)) [j]) D σ H1 := by
  show tLc _ _ _ _ _ σ H1 D.rt
  rw [hD]
  obtain ⟨o, f1, v, f2, f3⟩ := k.slot hA
  subst f2
  rw [Is] at f3
  obtain ⟨s, vs, rfl, g1, g2⟩ := f3
  have ev : vs = [V.int c] := flat_eq (vs := [V.int c]) g2
  subst ev
  refine ⟨_, f1, s, rfl, ⟨_, hd_ex.l g1⟩, fun p hp => ?_⟩
  refine lc_list (K := K) (a := s) (xs := [V.int c]) (fun i H' => (i = 0 ∧ H' = upd H1 p (.lst [])) ∨ (i = 1 ∧ ∃ a, Fr0 H p ∧ Fr0 H a ∧ p ≠ a ∧ Ex H H' ∧ LamX.Tabs T H' ∧ H' p = some (.lst [.ref a]) ∧ H' a = some (.lst (mkDice c).vs) ∧ SqL K H' s [V.int c])) (.inl ⟨rfl, rfl⟩) ?_ ?_ ?_
  · rintro i H' _ (⟨rfl, rfl⟩ | ⟨rfl, a, _, _, _, _, _, _, _, h⟩)
    · exact (Ex.new hp).l (hd_ex.l g1)
    · exact h
  · rintro i x H' hx (⟨rfl, rfl⟩ | ⟨rfl, _⟩)
    · cases hx
      have h1p : (wipe σ [j])[j]? = some none := wipe_in (List.mem_cons_self ..) hj
      refine ⟨(wipe_eq (by simp) fun i hi => List.getElem?_set_ne fun z => hi (by rw [← z]; exact List.mem_cons_self ..)).trans wipe_wipe, ?_⟩
      · unfold tYes
        dsimp only
        rw [if_pos rfl]
        refine ⟨_, ?_, c, rfl, hz, tabs_new k.tb hp, fun a H2 fa e t ha => ?_⟩
        · rw [List.getElem?_set_self (by rw [wipe_length]; exact hj)]
        have np : upd H1 p (.lst []) p = some (.lst []) := upd_same
        have pa : p ≠ a := fun z => fa _ (by rw [← z]; exact np) nt_l
        have ex1 : Ex H1 (upd H2 p (.lst [.ref a])) := fun b o hb n => by
          have nb : b ≠ p := fun z => by rw [z, hp] at hb; cases hb
          rw [upd_ne nb]
          exact e b o (by rw [upd_ne nb]; exact hb) n
        have hH2 : H2 p = some (.lst []) := e p _ np nt_l
        refine ⟨[], hH2, by show 0 < sizeLine; decide, .inr ⟨rfl, a, fun o h n => ?_, fun o h n => ?_, pa, k.ex.trans ex1, ?_, upd_same, ?_, ex1.l (hd_ex.l g1)⟩⟩
        · have := k.ex p o h n
          rw [hp] at this
          cases this
        · have q1 := k.ex a o h n
          exact fa o (by rw [upd_ne fun z => pa z.symm]; exact q1) n
        · intro q hq
          obtain ⟨qs, h1, h2, h3⟩ := t q hq
          refine ⟨qs, ?_, h2, fun pos cv hc => ?_⟩
          · rw [upd_ne (ne_of h1 hH2 fun z => by cases z)]
            exact h1
          · obtain ⟨c, e1, e2⟩ := h3 pos cv hc
            refine ⟨c, e1, ?_⟩
            rw [upd_ne (ne_of e2 hH2 fun z => by unfold LamX.CodeO at z; cases z)]
            exact e2
        · rw [upd_ne fun z => pa z.symm]
          exact ha
    · cases hx
  · rintro H' (⟨z, _⟩ | ⟨_, a, h1, h2, h3, h4, h5, h6, h7, _⟩)
    · cases z
    · exact q p a H' h1 h2 h3 h4 h5 h6 h7
end Py
end

section
set_option linter.all false
set_option autoImplicit false
/-! Mathematics of whole numbers. -/
namespace Mt
/-- Euclid's steps with factors -/
theorem fmod_lt {a b : Int} (h : b ≠ 0) : (a - a.fdiv b * b).natAbs < b.natAbs := by
  have e : a - a.fdiv b * b = a.fmod b := by rw [Int.fmod_def, Int.mul_comm]
  rw [e]
  rcases Int.lt_or_gt_of_ne h with h | h
  · have e2 : a.fmod b = -((-a).fmod (-b)) := by rw [Int.neg_fmod_neg]; omega
    have h1 := Int.fmod_nonneg_of_pos (-a) (show 0 < -b by omega)
    have h2 := Int.fmod_lt_of_pos (-a) (show 0 < -b by omega)
    omega
  · have h1 := Int.fmod_nonneg_of_pos a h
    have h2 := Int.fmod_lt_of_pos a h
    omega
theorem fdiv_abs_le (a b : Int) : (a.fdiv b).natAbs ≤ a.natAbs := by
  by_cases hb : b = 0
  · subst hb
    simp
  · have h1 := fmod_lt (a := a) hb
    have key : ∀ a b : Int, 0 < b → (a.fdiv b).natAbs ≤ a.natAbs := by
      intro a b hb
      rw [Int.fdiv_eq_ediv_of_nonneg a (by omega)]
      rcases Int.le_total 0 a with h | h
      · have h1 := Int.ediv_nonneg h (show 0 ≤ b by omega)
        have h2 := Int.ediv_le_self b h
        omega
      · have h1 : a / b ≤ 0 := by
          have := Int.ediv_le_ediv hb h
          simpa using this
        have h2 : a ≤ a / b := by
          have e := Int.mul_ediv_add_emod a b
          have l := Int.emod_nonneg a (show b ≠ 0 by omega)
          have q : b * (a / b) ≤ 1 * (a / b) := Int.mul_le_mul_of_nonpos_right (by omega) h1
          have l2 := Int.emod_lt_of_pos a hb
          rcases Int.lt_or_le (a / b) a with z | z
          · have : b * (a / b + 1) ≤ b * a := Int.mul_le_mul_of_nonneg_left (by omega) (by omega)
            have : b * a ≤ 1 * a := Int.mul_le_mul_of_nonpos_right (by omega) h
            grind
          · exact z
        omega
    rcases Int.lt_or_gt_of_ne hb with h | h
    · have := key (-a) (-b) (by omega)
      rw [Int.neg_fdiv_neg, Int.natAbs_neg] at this
      exact this
    · exact key a b h
structure B6 where
  f : Int
  a : Int
  b : Int
  r : Int
  c : Int
  d : Int
def B6.step (s : B6) : B6 := ⟨s.r, s.c, s.d, s.f - s.f.fdiv s.r * s.r, s.a - s.f.fdiv s.r * s.c, s.b - s.f.fdiv s.r * s.d⟩
def bezGo (s : B6) : B6 := if h : s.r = 0 then s else bezGo s.step
termination_by s.r.natAbs
decreasing_by exact fmod_lt h
def bez (x y : Int) : Int × Int × Int :=
  let s := bezGo ⟨x, 1, 0, y, 0, 1⟩
  if s.f < 0 then (-s.f, -s.a, -s.b) else (s.f, s.a, s.b)
theorem bezGo_done {s : B6} (h : s.r = 0) : bezGo s = s := by rw [bezGo, dif_pos h]
theorem bezGo_step {s : B6} (h : s.r ≠ 0) : bezGo s = bezGo s.step := by rw [bezGo, dif_neg h]
/-- what holds between the steps -/
structure BI (x y : Int) (s : B6) : Prop where
  e1 : x * s.a + y * s.b = s.f
  e2 : x * s.c + y * s.d = s.r
  g : Int.gcd s.f s.r = Int.gcd x y
theorem BI.start (x y : Int) : BI x y ⟨x, 1, 0, y, 0, 1⟩ := ⟨by simp, by simp, rfl⟩
theorem BI.step {x y : Int} {s : B6} (h : BI x y s) : BI x y s.step := by
  refine ⟨h.e2, ?_, ?_⟩
  · show x * (s.a - s.f.fdiv s.r * s.c) + y * (s.b - s.f.fdiv s.r * s.d) = s.f - s.f.fdiv s.r * s.r
    have h1 := h.e1
    have h2 := h.e2
    generalize s.f.fdiv s.r = t at *
    grind
  · show Int.gcd s.r (s.f - s.f.fdiv s.r * s.r) = Int.gcd x y
    rw [← h.g, Int.gcd_comm s.r, Int.gcd_sub_mul_right_left]
theorem abs_sub_mul {a c t : Int} (h : a * c ≤ 0) (ht : 0 ≤ t) : (a - t * c).natAbs = a.natAbs + t.natAbs * c.natAbs := by
  rw [← Int.natAbs_mul]
  rcases Int.lt_trichotomy a 0 with ha | ha | ha
  · have hc : 0 ≤ c := by
      rcases Int.lt_or_le c 0 with z | z
      · have := Int.mul_pos_of_neg_of_neg ha z
        omega
      · exact z
    have := Int.mul_nonneg ht hc
    omega
  · subst ha
    omega
  · have hc : c ≤ 0 := by
      rcases Int.lt_or_le 0 c with z | z
      · have := Int.mul_pos ha z
        omega
      · exact z
    have := Int.mul_nonpos_of_nonneg_of_nonpos ht hc
    omega
theorem fdiv_same {f r : Int} (h : 0 ≤ f * r) (hr : r ≠ 0) : 0 ≤ f.fdiv r ∧ (f - f.fdiv r * r).natAbs + (f.fdiv r).natAbs * r.natAbs = f.natAbs ∧ 0 ≤ r * (f - f.fdiv r * r) := by
  have key : ∀ f r : Int, 0 ≤ f → 0 < r → 0 ≤ f.fdiv r ∧ (f - f.fdiv r * r).natAbs + (f.fdiv r).natAbs * r.natAbs = f.natAbs ∧ 0 ≤ r * (f - f.fdiv r * r) := by
    intro f r hf hr
    have h1 : 0 ≤ f.fdiv r := Int.fdiv_nonneg hf (by omega)
    have h2 : f - f.fdiv r * r = f.fmod r := by rw [Int.fmod_def, Int.mul_comm]
    have h3 := Int.fmod_nonneg_of_pos f hr
    have h4 : 0 ≤ f.fdiv r * r := Int.mul_nonneg h1 (by omega)
    refine ⟨h1, ?_, ?_⟩
    · rw [← Int.natAbs_mul]
      omega
    · rw [h2]
      exact Int.mul_nonneg (by omega) h3
  rcases Int.lt_or_gt_of_ne hr with z | z
  · have hf : f ≤ 0 := by
      rcases Int.lt_or_le 0 f with q | q
      · have := Int.mul_neg_of_pos_of_neg q z
        omega
      · exact q
    obtain ⟨h1, h2, h3⟩ := key (-f) (-r) (by omega) (by omega)
    rw [Int.neg_fdiv_neg] at h1 h2 h3
    refine ⟨h1, ?_, ?_⟩
    · have e : -f - f.fdiv r * -r = -(f - f.fdiv r * r) := by grind
      rw [e, Int.natAbs_neg, Int.natAbs_neg, Int.natAbs_neg] at h2
      exact h2
    · have e : -r * (-f - f.fdiv r * -r) = r * (f - f.fdiv r * r) := by grind
      rw [e] at h3
      exact h3
  · have hf : 0 ≤ f := by
      rcases Int.lt_or_le f 0 with q | q
      · have := Int.mul_neg_of_neg_of_pos q z
        omega
      · exact q
    exact key f r hf z
/-- sizes behind the first step -/
structure BS (y : Int) (s : B6) : Prop where
  f0 : s.f ≠ 0
  sg : 0 ≤ s.f * s.r
  ac : s.a * s.c ≤ 0
  n : s.f.natAbs * s.c.natAbs + s.r.natAbs * s.a.natAbs = y.natAbs
  fy : s.f.natAbs ≤ y.natAbs
  rf : s.r.natAbs < s.f.natAbs
  aa : s.a.natAbs ≤ y.natAbs
theorem BS.cc {y : Int} {s : B6} (h : BS y s) : s.c.natAbs ≤ y.natAbs := by
  have h1 : 1 * s.c.natAbs ≤ s.f.natAbs * s.c.natAbs := Nat.mul_le_mul_right _ (by have := h.f0; omega)
  have := h.n
  omega
theorem BS.step {y : Int} {s : B6} (h : BS y s) (hr : s.r ≠ 0) : BS y s.step := by
  obtain ⟨h1, h2, h3⟩ := fdiv_same h.sg hr
  have h4 := abs_sub_mul h.ac h1
  refine ⟨hr, h3, ?_, ?_, Nat.le_trans (Nat.le_of_lt h.rf) h.fy, fmod_lt hr, h.cc⟩
  · show s.c * (s.a - s.f.fdiv s.r * s.c) ≤ 0
    have e : s.c * (s.a - s.f.fdiv s.r * s.c) = s.a * s.c - s.f.fdiv s.r * (s.c * s.c) := by grind
    have q : 0 ≤ s.c * s.c := by
      rcases Int.le_total 0 s.c with z | z
      · exact Int.mul_nonneg z z
      · exact Int.mul_nonneg_of_nonpos_of_nonpos z z
    have := Int.mul_nonneg h1 q
    have := h.ac
    omega
  · show s.r.natAbs * (s.a - s.f.fdiv s.r * s.c).natAbs + (s.f - s.f.fdiv s.r * s.r).natAbs * s.c.natAbs = y.natAbs
    have := h.n
    rw [h4]
    generalize (s.f - s.f.fdiv s.r * s.r).natAbs = m at *
    generalize (s.f.fdiv s.r).natAbs = t at *
    rw [← this, ← h2]
    grind
theorem BS.first {x y : Int} (hy : y ≠ 0) : BS y (B6.step ⟨x, 1, 0, y, 0, 1⟩) := by
  refine ⟨hy, ?_, ?_, ?_, Nat.le_refl _, fmod_lt hy, Nat.zero_le _⟩
  · show 0 ≤ y * (x - x.fdiv y * y)
    have e : x - x.fdiv y * y = x.fmod y := by rw [Int.fmod_def, Int.mul_comm]
    rw [e]
    rcases Int.lt_or_gt_of_ne hy with h | h
    · have e2 : x.fmod y = -((-x).fmod (-y)) := by rw [Int.neg_fmod_neg]; omega
      have h1 := Int.fmod_nonneg_of_pos (-x) (show 0 < -y by omega)
      exact Int.mul_nonneg_of_nonpos_of_nonpos (by omega) (by omega)
    · exact Int.mul_nonneg (by omega) (Int.fmod_nonneg_of_pos x h)
  · show (0 : Int) * (1 - x.fdiv y * 0) ≤ 0
    omega
  · show y.natAbs * (1 - x.fdiv y * 0).natAbs + (x - x.fdiv y * y).natAbs * (0 : Int).natAbs = y.natAbs
    simp
/-- all sizes, at every state -/
structure BZ (n : Nat) (s : B6) : Prop where
  f : s.f.natAbs < 2 ^ n
  r : s.r.natAbs < 2 ^ n
  a : s.a.natAbs < 2 ^ n
  c : s.c.natAbs < 2 ^ n
  b : s.b.natAbs < 2 ^ (2 * n + 1)
  d : s.d.natAbs < 2 ^ (2 * n + 1)
theorem co_bound {x y a b f : Int} {n : Nat} (hy : y ≠ 0) (e : x * a + y * b = f) (hx : x.natAbs < 2 ^ n) (ha : a.natAbs < 2 ^ n) (hf : f.natAbs < 2 ^ n) : b.natAbs < 2 ^ (2 * n + 1) := by
  have e1 : y * b = f - x * a := by omega
  have e2 : y.natAbs * b.natAbs = (f - x * a).natAbs := by rw [← e1, Int.natAbs_mul]
  have h1 : (f - x * a).natAbs ≤ f.natAbs + x.natAbs * a.natAbs := by
    rw [← Int.natAbs_mul]; omega
  have h2 : 1 * b.natAbs ≤ y.natAbs * b.natAbs := Nat.mul_le_mul_right _ (by omega)
  have h3 : x.natAbs * a.natAbs < 2 ^ n * 2 ^ n := Nat.mul_lt_mul'' hx ha
  have h4 : 2 ^ (2 * n + 1) = 2 ^ n * 2 ^ n + 2 ^ n * 2 ^ n := by
    rw [show 2 * n + 1 = n + n + 1 by omega, Nat.pow_succ, Nat.pow_add]; omega
  have h5 : 2 ^ n * 1 ≤ 2 ^ n * 2 ^ n := Nat.mul_le_mul_left _ (Nat.one_le_two_pow)
  omega
theorem BS.sizes {x y : Int} {s : B6} {n : Nat} (h : BS y s) (i : BI x y s) (hy : y ≠ 0) (hx : x.natAbs < 2 ^ n) (hn : y.natAbs < 2 ^ n) : BZ n s := by
  have hc := h.cc
  have hf := h.fy
  have hr := h.rf
  have ha := h.aa
  exact ⟨by omega, by omega, by omega, by omega, co_bound hy i.e1 hx (by omega) (by omega), co_bound hy i.e2 hx (by omega) (by omega)⟩
/-- every state that the loop meets -/
inductive BR (x y : Int) : B6 → Prop
  | start : BR x y ⟨x, 1, 0, y, 0, 1⟩
  | step {s : B6} : BR x y s → s.r ≠ 0 → BR x y s.step
theorem BR.bi {x y : Int} {s : B6} (h : BR x y s) : BI x y s := by
  induction h with
  | start => exact BI.start x y
  | step _ _ ih => exact ih.step
theorem BR.bs {x y : Int} {s : B6} (h : BR x y s) : s = ⟨x, 1, 0, y, 0, 1⟩ ∨ (y ≠ 0 ∧ BS y s) := by
  induction h with
  | start => exact .inl rfl
  | step h0 hr ih =>
    rcases ih with e | ⟨hy, b⟩
    · subst e
      exact .inr ⟨hr, BS.first hr⟩
    · exact .inr ⟨hy, b.step hr⟩
theorem BR.sizes {x y : Int} {s : B6} {n : Nat} (h : BR x y s) (h0 : 0 < n) (hx : x.natAbs < 2 ^ n) (hy : y.natAbs < 2 ^ n) : BZ n s := by
  have p : 1 < 2 ^ n := Nat.one_lt_two_pow (by omega)
  have p2 : 1 < 2 ^ (2 * n + 1) := Nat.one_lt_two_pow (by omega)
  rcases h.bs with e | ⟨hn, b⟩
  · subst e
    exact ⟨hx, hy, p, by show 0 < 2 ^ n; omega, by show 0 < 2 ^ (2 * n + 1); omega, p2⟩
  · exact b.sizes h.bi hn hx hy
theorem bezGo_end : ∀ (s : B6), (bezGo s).r = 0
  | s => by
    rw [bezGo]
    split
    · assumption
    · exact bezGo_end s.step
termination_by s => s.r.natAbs
decreasing_by exact fmod_lt (by assumption)
theorem BR.go {x y : Int} : ∀ {s : B6}, BR x y s → BR x y (bezGo s)
  | s, h => by
    rw [bezGo]
    split
    · exact h
    · rename_i hr
      exact BR.go (h.step hr)
termination_by s => s.r.natAbs
decreasing_by exact fmod_lt (by assumption)
theorem bez_eq (x y : Int) : x * (bez x y).2.1 + y * (bez x y).2.2 = (bez x y).1 ∧ (bez x y).1 = Int.gcd x y := by
  have h := (BR.start (x := x) (y := y)).go.bi
  have h0 := bezGo_end ⟨x, 1, 0, y, 0, 1⟩
  have g := h.g
  rw [h0, Int.gcd_zero_right] at g
  have e := h.e1
  unfold bez
  dsimp only
  split
  · constructor
    · dsimp only
      grind
    · dsimp only
      omega
  · exact ⟨e, by dsimp only; omega⟩
end Mt
end

section
set_option Elab.async false
set_option linter.all false
set_option maxRecDepth 100000
set_option maxHeartbeats 4000000
set_option autoImplicit false
set_option exponentiation.threshold 100
namespace Py
open PySem PySem.Spec PyProof.Rows L2
/-! ### the end: a law's promise -/
def spLaw (K : Frg) (T : List (Addr × Str)) : Sp := fun vs H Q _ => ∃ (a : Addr) (ns : List Int), vs = [.ref a] ∧ SqL K H a (ns.map V.int) ∧ ns.length ≤ 63 ∧ (∀ z ∈ ns, Sz 1048576 z) ∧ LamX.Tabs T H ∧ ∀ H', Q (.bl true) H'
theorem sz_bits {z : Int} (h : Builtin.Int.intBits z ≤ 1048576) : Sz 1048576 z := by
  unfold Builtin.Int.intBits at h
  unfold Sz
  by_cases e : z = 0
  · subst e
    exact Nat.pow_pos (by decide)
  · have e' : (z == 0) = false := by simpa using e
    rw [e', if_neg (by decide)] at h
    have : z.natAbs < 2 ^ (z.natAbs.log2 + 1) := Nat.lt_log2_self
    exact Nat.lt_of_lt_of_le this (Nat.pow_le_pow_right (by decide) h)
def tfOf (fs : List Str) : List He.Defn := fs.map fun f => (f, none)
theorem walk_mine {l : PySem.W.OpenLaw} {k : Nat} {q : Program} {loose : List Str} {XP : (Str → Option Value) → Heap → Prop} {d : DefRec} {x nm : Str} {N : Nat} {fa : List He.Fa} {fn : List He.DefD} {fs : List Str} {ex : PySem.W.Frag → Bool} {st : Stmt}
    (hn : l.most = some 63) (hdf : d.params.defaults = []) (hr : Room k callerA) (hd : d.name = nm) (hl : He.Fa.glo nm ∈ fa) (hdef : (⟨(nm, none), nm, nm, defArgs st, defBody st, defScope st, [], []⟩ : He.DefD) ∈ fn)
    (hb : ∀ (kV doc pm : Value) (an : Option Addr) (cdv ct : Value) (us : List Value), us.length = 1 → bindArgs (PySem.W.fnOf nm nm (defArgs st) (defBody st) (defScope st) .none kV doc pm an cdv ct) ⟨us, []⟩ = pure ([x].zip us))
    (nd : ∀ K, ex K = true → (fs.map fun f => (He.cT K (f, none)).2).Nodup)
    (F : ∀ (w : World) (K : Frg) (mg : Str → Option Value) (base : Heap), K.In base → base.Ns mainGlobals mg → He.SaysD fa fn K → ex K = true → (∀ f ∈ fs, LamB K base mg (tabL K fs) f) →
      ∀ fd, FunD K nm nm (defArgs st) (defBody st) (defScope st) [] [] (He.ga K nm) fd → FnOk l.prog w K mg base (L2.CX l.prog w) k (He.ga K nm) fd [x] (spLaw K (tabL K fs))) :
    PySem.W.WalkO q loose XP (He.hookX N fa fn [] (tfOf fs) ex).says l.row.toRowW d [] (fun f vs => PySem.call f vs) := by
  refine LamX.walk_ofTsE (n := 63) (k := k) (CX := fun w => L2.CX l.prog w) (x := x) hn (by decide) hdf hr (fun w mg f h Y G hmg => ?_) ?_
  · obtain ⟨K, KX, c⟩ := Y
    have cd : He.SaysD fa fn K := congrArg (fun z : He.AlT => z.1) c.t
    obtain ⟨fd, FD⟩ := cd.defs hdef
    have e := hmg.symm.trans ((congrArg mg hd).trans (He.glo_ok KX G (cd.facts hl)))
    cases e
    refine ⟨K, KX, fd, (tfOf fs).map (He.cT K), spLaw K (tabL K fs), fun p hp => ?_, fun p hp => ?_, fun p hp => ?_, fun s u => ?_, fun H a ns h1 h2 h3 h4 => ?_, fun base hB nB hT => ?_⟩
    · obtain ⟨p2, hp2, rfl⟩ := List.mem_map.mp hp
      exact c.empty p2 hp2
    · obtain ⟨p2, hp2, rfl⟩ := List.mem_map.mp hp
      exact c.out p2 hp2
    · obtain ⟨p2, hp2, rfl⟩ := List.mem_map.mp hp
      exact PySem.W.codeHd_of_K KX (c.hd p2 hp2)
    · have b := FunD.bindsA (ps := [x]) FD hb
      exact b s [u] rfl
    · refine ⟨a, ns, rfl, h4, h1, fun z hz => sz_bits (h2 z hz), fun p hp => ?_, fun _ => rfl⟩
      obtain ⟨f, hf, rfl⟩ := List.mem_map.mp hp
      exact LamX.TabS.nil (h3 (He.cT K (f, none)) (List.mem_map.mpr ⟨(f, none), List.mem_map.mpr ⟨f, hf, rfl⟩, rfl⟩))
    · exact F w K mg base hB nB cd c.more (fun f hf => ⟨hT _ (List.mem_map.mpr ⟨(f, none), List.mem_map.mpr ⟨f, hf, rfl⟩, rfl⟩), tabL_mem hf, tabL_one (nd K c.more) hf⟩) fd FD
  · rintro w H s e s' ⟨a, B, H', cls, d', _, _, _, _, _, _, _, z⟩
    exact z
end Py
end

section
set_option Elab.async false
set_option linter.all false
set_option maxRecDepth 100000
set_option maxHeartbeats 4000000
set_option autoImplicit false
namespace Py
open PySem PySem.Spec PyProof.Rows L2
/-- as mkG, for a def with defaults whose callers give all -/
theorem mkGD {P : Program} {w : World} {K : Frg} {T : List (Addr × Str)} {mg : Str → Option Value} {base : Heap} {f : Str} {st : Stmt} {N ps : List Str} {k : Nat} {g : List Dt → Rs → Prop} {a : Addr} {dvs : List V}
    (F : ∃ fd, FunD K f f (defArgs st) (defBody st) (defScope st) dvs [] a fd) (hm : mg f = some (.ref a)) (hd : dvs ≠ []) (S : FnScope N ps (defScope st))
    (hb : ∀ (T : Addr) (kV doc pm : Value) (an : Option Addr) (cdv ct : Value) (us its : List Value), us.length = ps.length → its.length = dvs.length →
      ∃ k, bindArgs (PySem.W.fnOf f f (defArgs st) (defBody st) (defScope st) (.ref T) kV doc pm an cdv ct) ⟨us, []⟩ = seqItems? (.ref T) >>= k ∧ k (some its.toArray) = pure (ps.zip (us ++ its.drop dvs.length)))
    (len : ∀ ds r, g ds r → ds.length = ps.length)
    (hbody : ∀ (cdv : Value) (A : Around) (outer : List Env) (s : Shared) (H : Hp) (E : XK), Room k (A.deeper (envOfC f (defScope st) s.heap.objs.size a cdv)) →
      ∃ t, PSs (cxOf (L2.CX P w) P w K mg base N f (defScope st) a cdv A outer s H E) (defBody st) t ∧ ∀ O ds r, g ds r → RunS ⟨K, T, H, O⟩ E t (start N ds) (poR r)) : Gd P w K mg base f ps (k + 1) (spD K T g) := by
  obtain ⟨fd, F⟩ := F
  obtain ⟨ds, hv, hB⟩ := F.binds1 (ps := ps) ps.length dvs.length hd (by omega) hb
  rw [List.drop_length] at hv
  cases hv
  refine ⟨a, fd, F.ok S (fun vs H Q E h => spD_len len vs H Q E h) (fun cdv A outer s H vs Q E hr h => ?_), hB, F.kp, hm⟩
  obtain ⟨t, ht, run⟩ := hbody cdv A outer s H E hr
  exact ⟨t, ht, fin h run⟩
/-- return f(..): what f gives or raises -/
theorem r_retCall {C : Ct} {E : XK} {A A1 : AS} {g : List Dt → Rs → Prop} {tl : TA} {ds : List Dt} {r : Rs} (ha : EvA C tl A ds A1) (hg : g ds r) : RunS C E (tRet (tCall (spD C.K C.T g) [] E tl)) A (poR r) := by
  cases r with
  | ok d => exact r_ret (e_call ha hg) rfl
  | err c => exact x_ret (x_call ha hg) rfl
/-! ### fractions -/
abbrev fr (p : Int × Int) : Dt := .tup [di p.1, di p.2]
/-- in lowest terms, the lower part above 0 (b ≠ 0) -/
def ratI (a b : Int) : Int × Int := if b < 0 then (a.fdiv (-(Int.gcd a b : Int)), b.fdiv (-(Int.gcd a b : Int))) else (a.fdiv (Int.gcd a b), b.fdiv (Int.gcd a b))
def ratR (e : Addr) (a b : Int) : Rs := if b = 0 then .err e else .ok (fr (ratI a b))
structure SzF (n : Nat) (p : Int × Int) : Prop where
  a : Sz n p.1
  b : Sz n p.2
theorem gcd_sz {n : Nat} {a b : Int} (hb : b ≠ 0) (h : Sz n b) : Sz n (Int.gcd a b : Int) := by
  unfold Sz at *
  have h1 : Int.gcd a b ≤ b.natAbs := Nat.le_of_dvd (by omega) (Int.gcd_dvd_natAbs_right a b)
  omega
theorem gcd_ne {a b : Int} (hb : b ≠ 0) : (Int.gcd a b : Int) ≠ 0 := by
  have := Int.gcd_pos_of_ne_zero_right a hb
  omega
theorem at0 {a b : Dt} : atI [a, b] 0 = some a := rfl
theorem at1 {a b : Dt} : atI [a, b] 1 = some b := rfl
end Py
end

section
set_option Elab.async false
set_option linter.all false
set_option maxRecDepth 100000
set_option maxHeartbeats 4000000
set_option autoImplicit false
namespace Py
open PySem PySem.Spec PyProof.Rows L2
/-! ### a, b = [..], .. : new lists of one's own at once with others -/
def AS.putS (A : AS) (i : Nat) (s : SD) : AS := ⟨A.sl.set i s, A.st⟩
/-- a new list, in no slot yet -/
def AS.more (A : AS) (xs : List Dt) : AS := ⟨A.sl, A.st ++ [.lst xs]⟩
section
variable {C : Ct} {E : XK} {A A1 A2 : AS} {te : TE} {P : Po} {s s1 s2 : SD} {d : Dt}
theorem Ok.putS {os : List (Option Addr)} {σ : Sg} {H : Hp} {i : Nat} {v : V} (k : Ok C os A σ H) (h : SlOk C.K os (Rh C.O os H) s (some v)) : Ok C os (A.putS i s) (σ.set i (some v)) H := by
  refine ⟨k.ex, k.tb, k.ol, k.dj, k.ln, k.nd, k.fr, by simp [AS.putS, k.sn], fun j s o h1 h2 => ?_, k.st⟩
  have h1 : (A.sl.set i _)[j]? = some s := h1
  rw [List.getElem?_set] at h1 h2
  by_cases e : i = j
  · rw [if_pos e] at h1 h2
    split at h1
    · split at h2
      · cases h1; cases h2
        exact h
      · cases h2
    · cases h1
  · rw [if_neg e] at h1 h2
    exact k.sl j s o h1 h2
theorem Ok.more {os : List (Option Addr)} {σ : Sg} {H : Hp} {p : Addr} {xs : List Dt} {vs : List V} (k : Ok C os A σ H) (hp : H p = none) (hx : IsA C.K (Rh C.O os H) xs vs) : Ok C (os ++ [some p]) (A.more xs) σ (upd H p (.lst vs)) := by
  have h := k.newO (i := A.sl.length) hp hx
  unfold AS.newO at h
  rw [List.set_eq_of_length_le (Nat.le_refl _), List.set_eq_of_length_le (by rw [k.sn]; exact Nat.le_refl _)] at h
  exact h
theorem Gr.app {os : List (Option Addr)} {σ : Sg} {H : Hp} {p : Addr} {vs : List V} (k : Ok C os A σ H) (hp : H p = none) : Gr C.O os H (os ++ [some p]) (upd H p (.lst vs)) :=
  ⟨by rw [Rh_app hp]; exact Ex.refl _, fun a h => by obtain ⟨o, q, n⟩ := k.ol a h; rw [q, Ex.new hp _ _ q n], fun k x h => by rw [List.getElem?_append_left (List.getElem?_eq_some_iff.mp h).1]; exact h⟩
theorem SlOk.gr {K : Frg} {O : List Addr} {os os' : List (Option Addr)} {H H' : Hp} {o : Option V} (g : Gr O os H os' H') (h : SlOk K os (Rh O os H) s o) : SlOk K os' (Rh O os' H') s o := by
  cases s with
  | un => exact h
  | d x =>
    obtain ⟨v, e, i⟩ := h
    exact ⟨v, e, Is.mono g.e _ _ i⟩
  | own n =>
    obtain ⟨a, e, i⟩ := h
    exact ⟨a, e, g.p _ _ i⟩
def SlA (K : Frg) (os : List (Option Addr)) (R : Hp) : List SD → List V → Prop
  | [], vs => vs = []
  | s :: ss, vs => ∃ v w, vs = v :: w ∧ SlOk K os R s (some v) ∧ SlA K os R ss w
def EvP (C : Ct) (tl : TA) (A : AS) (ss : List SD) (A1 : AS) : Prop := ∀ os σ H, Ok C os A σ H → ∀ Q : List V → Hp → Prop, (∀ os' vs H', Ok C os' A1 σ H' → Gr C.O os H os' H' → SlA C.K os' (Rh C.O os' H') ss vs → Q vs H') → tl σ H Q
theorem p_nil : EvP C tNil A [] A := fun os σ H k Q q => q os [] H k Gr.refl rfl
theorem p_d {tr : TA} {ss : List SD} (ha : EvS C te A d A1) (hr : EvP C tr A1 ss A2) : EvP C (tCons te tr) A (.d d :: ss) A2 := fun os σ H k Q q =>
  ha os σ H k _ fun os1 v1 H1 k1 e1 i1 => hr os1 σ H1 k1 _ fun os2 vs H2 k2 e2 i2 => q os2 (v1 :: vs) H2 k2 (e1.trans e2) ⟨v1, vs, rfl, ⟨v1, rfl, Is.mono e2.e _ _ i1⟩, i2⟩
theorem p_l {tl tr : TA} {ss : List SD} {xs : List Dt} (ha : EvA C tl A xs A1) (hl : xs.length ≤ 100000) (hr : EvP C tr (A1.more xs) ss A2) : EvP C (tCons (tLst tl) tr) A (.own A1.st.length :: ss) A2 := fun os σ H k Q q =>
  ha os σ H k _ fun os1 vs H1 k1 e1 i1 => ⟨by rw [isA_len i1]; exact Nat.le_trans hl (by decide), fun p hp => hr _ σ _ (k1.more hp i1) _ fun os2 ws H2 k2 e2 i2 => q os2 _ H2 k2 (e1.trans ((Gr.app k1 hp).trans e2)) ⟨_, ws, rfl, ⟨p, rfl, e2.p _ _ (by rw [← k1.ln]; simp)⟩, i2⟩⟩
theorem r_parP {i j : Nat} {tl : TA} (h : EvP C tl A [s, s1] A1) (hn : P.nx ((A1.putS i s).putS j s1)) : RunS C E (tPar i j tl) A P := fun os σ H D k T =>
  h os σ H k _ fun os1 vs H1 k1 e1 i1 => by
    obtain ⟨v, w, rfl, h1, v', w', rfl, h2, rfl⟩ := i1
    exact ⟨v, v', rfl, T.nx os1 _ _ H1 hn ((k1.putS h1).putS h2) e1⟩
theorem r_par3P {i j l : Nat} {tl : TA} (h : EvP C tl A [s, s1, s2] A1) (hn : P.nx (((A1.putS i s).putS j s1).putS l s2)) : RunS C E (tPar3 i j l tl) A P := fun os σ H D k T =>
  h os σ H k _ fun os1 vs H1 k1 e1 i1 => by
    obtain ⟨v, w, rfl, h1, v', w', rfl, h2, v'', w'', rfl, h3, rfl⟩ := i1
    exact ⟨v, v', v'', rfl, T.nx os1 _ _ H1 hn (((k1.putS h1).putS h2).putS h3) e1⟩
end
end Py
end

section
set_option Elab.async false
set_option linter.all false
set_option maxRecDepth 100000
set_option maxHeartbeats 4000000
set_option autoImplicit false
namespace Py
open PySem PySem.Spec PyProof.Rows L2
/-! ### a tuple of the top -/
def KTup (K : Frg) (a : Addr) (vs : List V) : Prop := ∃ (o : Obj) (its : Array Value) (n : Nat), K.lookup a = some o ∧ o.cls = .type "tuple" ∧ o.data = .seq its n ∧ its.size ≤ sizeLine ∧ Vals vs its.toList
def TupC (K : Frg) (mg : Str → Option Value) (x : Str) (vs : List V) : Prop := ∃ a, mg x = some (.ref a) ∧ KTup K a vs
theorem e_cT {C : Ct} {A : AS} {a : Addr} {vs : List V} (h : KTup C.K a vs) : EvS C (tC (.ref a)) A (.tup (vs.map .v)) A := fun os σ H k Q q => by
  refine q os _ H k Gr.refl ?_
  rw [Is]
  exact ⟨a, vs, rfl, .inr h, flat_isA⟩
theorem TupC.c {mg : Str → Option Value} {x : Str} {a : Addr} (h : mg x = some (.ref a)) : ∃ u, mg x = some u ∧ RelV (.ref a) u := ⟨_, h, rfl⟩
/-- while, by what is left to go; a state that one names -/
theorem t_callB {C : Ct} {E : XK} {A A1 : AS} {g : List Dt → Rs → Prop} {E' : XK} {tl : TA} {ds : List Dt} {b : Bool} (ha : EvA C tl A ds A1) (hg : g ds (.ok (db b))) : EvS C (tCall (spD C.K C.T g) [] E' tl) A (db b) A1 := e_call ha hg
theorem t_val {C : Ct} {A A1 : AS} {te : TE} {b : Bool} (h : EvS C te A (db b) A1) : EvT C (tTest te) A b A1 := t_test h
end Py
end

section
set_option Elab.async false
set_option linter.all false
set_option maxRecDepth 100000
set_option maxHeartbeats 4000000
set_option autoImplicit false
namespace Py
open PySem PySem.Spec PyProof.Rows L2
/-! ### (a, b), c = .., [] -/
section
variable {C : Ct} {E : XK} {A A1 A2 : AS} {te : TE} {P : Po} {s : SD} {ss : List SD} {d : Dt} {g : TG} {gs : TGs}
def TgP (C : Ct) (g : TG) (s : SD) (A A' : AS) : Prop := ∀ os σ H v (Q : Sg → Hp → Prop), Ok C os A σ H → SlOk C.K os (Rh C.O os H) s (some v) → (∀ σ', Ok C os A' σ' H → Q σ' H) → g v σ H Q
def TgPA (C : Ct) (g : TGs) (ss : List SD) (A A' : AS) : Prop := ∀ os σ H vs (Q : Sg → Hp → Prop), Ok C os A σ H → SlA C.K os (Rh C.O os H) ss vs → (∀ σ', Ok C os A' σ' H → Q σ' H) → g vs σ H Q
theorem tgP_name {i : Nat} : TgP C (gName i) s A (A.putS i s) := fun os σ H v Q k i q => q _ (k.putS i)
theorem tgP_d (h : Tg C g d A A1) : TgP C g (.d d) A A1 := fun os σ H v Q k i q => by
  obtain ⟨w, e, j⟩ := i
  cases e
  exact h os σ H v Q k j q
theorem tgPA_nil : TgPA C gNil [] A A := fun os σ H vs Q k i q => ⟨i, q σ k⟩
theorem tgPA_cons (h : TgP C g s A A1) (h' : TgPA C gs ss A1 A2) : TgPA C (gCons g gs) (s :: ss) A A2 := fun os σ H vs Q k i q => by
  obtain ⟨v, w, rfl, h1, h2⟩ := i
  exact ⟨v, w, rfl, h os σ H v _ k h1 fun σ1 k1 => h' os σ1 H w Q k1 h2 q⟩
theorem slA_len {K : Frg} {os : List (Option Addr)} {R : Hp} : ∀ {ss : List SD} {vs : List V}, SlA K os R ss vs → vs.length = ss.length
  | [], vs, h => by rw [show vs = [] from h]; rfl
  | _ :: _, vs, h => by
    obtain ⟨v, w, rfl, _, h2⟩ := h
    simp [slA_len h2]
theorem slA_gr {K : Frg} {O : List Addr} {os os' : List (Option Addr)} {H H' : Hp} (g : Gr O os H os' H') : ∀ {ss : List SD} {vs : List V}, SlA K os (Rh O os H) ss vs → SlA K os' (Rh O os' H') ss vs
  | [], vs, h => h
  | _ :: _, vs, h => by
    obtain ⟨v, w, rfl, h1, h2⟩ := h
    exact ⟨v, w, rfl, h1.gr g, slA_gr g h2⟩
theorem r_tgP {tl : TA} {n : Nat} (he : EvP C tl A ss A1) (hl : ss.length = n) (hn : n ≤ 100000) (hg : TgPA C gs ss A1 A2) (h : P.nx A2) : RunS C E (tAsg (tTup tl) (gTup C.K n gs)) A P := fun os σ H D k T =>
  he os σ H k _ fun os1 vs H1 k1 e1 i1 => ⟨by rw [slA_len i1, hl]; exact Nat.le_trans hn (by decide), fun p hp => by
    have g1 := k1.gr (Ex.new (o := .tup vs) hp)
    have k2 := k1.monoN (o := .tup vs) hp
    exact ⟨p, vs, rfl, hd_ex.t (SqT.of (k1.fresh hp)), by rw [slA_len i1, hl], hg os1 _ _ vs _ k2 (slA_gr g1 i1) fun σ' k' => T.nx os1 _ _ _ h k' (e1.trans g1)⟩⟩
end
end Py
end

section
set_option Elab.async false
set_option linter.all false
set_option maxRecDepth 100000
set_option maxHeartbeats 4000000
set_option autoImplicit false
namespace Py
open PySem PySem.Spec PyProof.Rows L2
/-! ### f'..' -/
section
variable {C : Ct} {E : XK} {A A1 A2 : AS} {te ta tb : TE} {P : Po} {tt : TT}
def EvJ (C : Ct) (ts : List TE) (acc : Str) (A : AS) (out : Str) (A1 : AS) : Prop := ∀ os σ H, Ok C os A σ H → ∀ Q : Str → Hp → Prop, (∀ os' H', Ok C os' A1 σ H' → Gr C.O os H os' H' → Q out H') → tJs ts acc σ H Q
theorem j_nil {acc : Str} : EvJ C [] acc A acc A := fun os σ H k Q q => q os H k Gr.refl
theorem j_cons {ts : List TE} {acc y out : Str} (h : EvS C te A (ds y) A1) (hl : (acc ++ y).length ≤ sizeLine) (hr : EvJ C ts (acc ++ y) A1 out A2) : EvJ C (te :: ts) acc A out A2 := fun os σ H k Q q =>
  h os σ H k _ fun os1 v H1 k1 e1 i1 => ⟨y, Is.v_iff.mp i1, hl, hr os1 σ H1 k1 _ fun os2 H2 k2 e2 => q os2 H2 k2 (e1.trans e2)⟩
theorem e_joined {ts : List TE} {out : Str} (h : EvJ C ts Str.empty A out A1) : EvS C (fun σ H Q => tJs ts Str.empty σ H fun out H1 => Q (.str out) H1) A (ds out) A1 := fun os σ H k Q q =>
  h os σ H k _ fun os1 H1 k1 e1 => q os1 _ H1 k1 e1 is_v
end
end Py
end

section
set_option Elab.async false
set_option linter.all false
set_option maxRecDepth 100000
set_option maxHeartbeats 4000000
set_option autoImplicit false
namespace Py
open PySem PySem.Spec PyProof.Rows L2
/-! ### data that == tells true -/
mutual
inductive Nice : Nat → Dt → PyData → Prop
  | int {n : Nat} {i : Int} : Nice n (di i) (.int i)
  | bl {n : Nat} {b : Bool} : Nice n (db b) (.bool b)
  | non {n : Nat} : Nice n dn .none
  | str {n : Nat} {s : Str} (h : PyData.strOk s = true) : Nice n (ds s) (.str s)
  | tup {n : Nat} {xs : List Dt} {ps : List PyData} (h : NiceA n xs ps) : Nice (n + 1) (.tup xs) (.tuple ps)
  | lst {n : Nat} {xs : List Dt} {ps : List PyData} (h : NiceA n xs ps) : Nice (n + 1) (.lst xs) (.list ps)
inductive NiceA : Nat → List Dt → List PyData → Prop
  | nil {n : Nat} : NiceA n [] []
  | cons {n : Nat} {x : Dt} {p : PyData} {xs : List Dt} {ps : List PyData} (h : Nice n x p) (r : NiceA n xs ps) : NiceA n (x :: xs) (p :: ps)
end
theorem niceA_map {α : Type} {n : Nat} {f : α → Dt} {g : α → PyData} (h : ∀ a, Nice n (f a) (g a)) : ∀ l : List α, NiceA n (l.map f) (l.map g)
  | [] => .nil
  | a :: l => .cons (h a) (niceA_map h l)
mutual
theorem Nice.all {n : Nat} {x : Dt} {p : PyData} : Nice n x p → x.py = some p ∧ p.canLay0 = true ∧ p.depth ≤ n
  | .int => ⟨by rw [Dt.py], by rw [PyData.canLay0], by rw [PyData.depth]; exact Nat.zero_le _⟩
  | .bl => ⟨by rw [Dt.py], by rw [PyData.canLay0], by rw [PyData.depth]; exact Nat.zero_le _⟩
  | .non => ⟨by rw [Dt.py], by rw [PyData.canLay0], by rw [PyData.depth]; exact Nat.zero_le _⟩
  | .str h => ⟨by rw [Dt.py], by rw [PyData.canLay0]; exact h, by rw [PyData.depth]; exact Nat.zero_le _⟩
  | .tup h => by
    obtain ⟨h1, h2, h3⟩ := h.all
    exact ⟨by rw [Dt.py, h1]; rfl, by rw [PyData.canLay0]; exact h2, by rw [PyData.depth]; omega⟩
  | .lst h => by
    obtain ⟨h1, h2, h3⟩ := h.all
    exact ⟨by rw [Dt.py, h1]; rfl, by rw [PyData.canLay0]; exact h2, by rw [PyData.depth]; omega⟩
theorem NiceA.all {n : Nat} {xs : List Dt} {ps : List PyData} : NiceA n xs ps → Dt.pys xs = some ps ∧ PyData.canLayAll0 ps = true ∧ PyData.depthAll ps ≤ n
  | .nil => ⟨by rw [Dt.pys], by rw [PyData.canLayAll0], by rw [PyData.depthAll]; exact Nat.zero_le _⟩
  | .cons h r => by
    obtain ⟨h1, h2, h3⟩ := h.all
    obtain ⟨r1, r2, r3⟩ := r.all
    exact ⟨by rw [Dt.pys, h1, r1], by rw [PyData.canLayAll0, h2, r2]; rfl, by rw [PyData.depthAll]; omega⟩
end
theorem Nice.shaped {n : Nat} {x : Dt} {p : PyData} (h : Nice n x p) (hn : n ≤ 64) : SeqAt.shaped p = true := by
  obtain ⟨_, h2, h3⟩ := h.all
  unfold SeqAt.shaped
  rw [h2, decide_eq_true (Nat.le_trans h3 hn)]
  rfl
section
variable {C : Ct} {E : XK} {A A1 A2 : AS} {x y : Dt} {p q : PyData} {n m : Nat}
theorem o_eqN (h : Nice n x p) (h' : Nice m y q) (hn : n ≤ 64 := by decide) (hm : m ≤ 64 := by decide) : OpS C (rEqA C.K) x y (db (PyData.eqv p q)) := o_eqD h.all.1 h'.all.1 (h.shaped hn) (h'.shaped hm)
theorem o_neN (h : Nice n x p) (h' : Nice m y q) (hn : n ≤ 64 := by decide) (hm : m ≤ 64 := by decide) : OpS C (rNeA C.K) x y (db (!PyData.eqv p q)) := o_neD h.all.1 h'.all.1 (h.shaped hn) (h'.shaped hm)
/-- a thing and itself -/
theorem o_eqSame (h : Nice n x p) (hn : n ≤ 64 := by decide) : OpS C (rEqA C.K) x x (db true) := by
  have := o_eqN (C := C) h h hn hn
  rw [SeqAt.eqv_refl p h.all.2.1] at this
  exact this
theorem o_neSame (h : Nice n x p) (hn : n ≤ 64 := by decide) : OpS C (rNeA C.K) x x (db false) := by
  have := o_neN (C := C) h h hn hn
  rw [SeqAt.eqv_refl p h.all.2.1] at this
  exact this
theorem eqv_nil : ∀ ps : List PyData, PyData.eqv (.list ps) (.list []) = ps.isEmpty
  | [] => by rw [PyData.eqv, PyData.eqvAll]; rfl
  | p :: ps => by rw [PyData.eqv, PyData.eqvAll]; rfl
theorem niceA_len {xs : List Dt} {ps : List PyData} (h : NiceA n xs ps) : xs.isEmpty = ps.isEmpty := by cases h <;> rfl
/-- a list and [] -/
theorem o_eqNil {xs : List Dt} {ps : List PyData} (h : NiceA n xs ps) (hn : n ≤ 63 := by decide) : OpS C (rEqA C.K) (.lst xs) (.lst []) (db xs.isEmpty) := by
  have := o_eqN (C := C) (Nice.lst h) (Nice.lst (n := n) NiceA.nil) (by omega) (by omega)
  rw [eqv_nil, ← niceA_len h] at this
  exact this
theorem o_neNil {xs : List Dt} {ps : List PyData} (h : NiceA n xs ps) (hn : n ≤ 63 := by decide) : OpS C (rNeA C.K) (.lst xs) (.lst []) (db (!xs.isEmpty)) := by
  have := o_neN (C := C) (Nice.lst h) (Nice.lst (n := n) NiceA.nil) (by omega) (by omega)
  rw [eqv_nil, ← niceA_len h] at this
  exact this
theorem nice_ints (l : List Int) : NiceA 0 (l.map di) (l.map .int) := niceA_map (fun _ => .int) l
theorem nice_fr (q : Int × Int) : Nice 1 (.tup [di q.1, di q.2]) (.tuple [.int q.1, .int q.2]) := .tup (.cons .int (.cons .int .nil))
end
/-! ### the operators of a comprehension's own frame -/
section
variable {X : Cx} {K : Frg}
theorem op_eqAK (hK : X.K = K) (hu : X.A.units + 64 < cLine) : OpR X (compareOp .Eq) (rEqA K) := by subst hK; exact op_eqA hu
theorem op_neAK (hK : X.K = K) (hu : X.A.units + 64 < cLine) : OpR X (compareOp .NotEq) (rNeA K) := by subst hK; exact op_neA hu
theorem op_addAK (hK : X.K = K) : OpR X (binaryOp .Add) (rAddA K) := by subst hK; exact op_addA
theorem op_mulAK (hK : X.K = K) : OpR X (binaryOp .Mult) (rMulA K) := by subst hK; exact op_mulA
theorem ix_seqK (hK : X.K = K) : IxR X (rIx K) := by subst hK; exact ix_seq
end
end Py
end

section
set_option Elab.async false
set_option linter.all false
set_option maxRecDepth 100000
set_option maxHeartbeats 4000000
set_option autoImplicit false
set_option exponentiation.threshold 100
namespace Py
open PySem PySem.Spec PyProof.Rows L2
/-! ### a def that turns a dice -/
def spTurn (K : Frg) (T : List (Addr × Str)) (g : Dice → List V → V → Dice → Prop) : Sp := fun vs H Q _ => ∃ (a : Addr) (d : Dice) (ws : List V) (v : V) (d' : Dice), vs = .ref a :: ws ∧ H a = some (.lst d.vs) ∧ g d ws v d' ∧ LamX.Tabs T H ∧
  ∀ H', (∀ b o, b ≠ a → H b = some o → NoT o → H' b = some o) → LamX.Tabs T H' → H' a = some (.lst d'.vs) → Q v H'
def gRoll : Dice → List V → V → Dice → Prop := fun d ws v d' => ∃ (m : Int) (c : Nat), ws = [.int m] ∧ DOk c d ∧ c ≤ 1000000 ∧ 0 < m ∧ Sz 8000 m ∧ v = .int (rollV d m) ∧ d' = rollD d m
theorem roll_turn {K : Frg} {T : List (Addr × Str)} {vs : List V} {H : Hp} {Q : VK} {E : XK} (h : spTurn K T gRoll vs H Q E) : spRoll K T vs H Q E := by
  obtain ⟨a, d, ws, v, d', rfl, h1, ⟨m, c, rfl, h2, h3, h4, h5, rfl, rfl⟩, h6, q⟩ := h
  exact ⟨a, d, m, c, rfl, h1, h2, h3, h4, h5, h6, q⟩
/-- the end of such a def's body -/
theorem turn_fin {K : Frg} {T : List (Addr × Str)} {N : List Str} {a : Addr} {d d' : Dice} {ws : List V} {v : V} {H : Hp} {t : TS} {E : XK} {Q : VK} {sl : List SD} (ha : H a = some (.lst d.vs)) (ht : LamX.Tabs T H)
    (q : ∀ H', (∀ b o, b ≠ a → H b = some o → NoT o → H' b = some o) → LamX.Tabs T H' → H' a = some (.lst d'.vs) → Q v H') (hs : sl = .own 0 :: (ws.map fun v => SD.d (.v v)) ++ List.replicate (N.length - (ws.length + 1)) .un)
    (R : RunS ⟨K, T, fun b => if b = a then none else H b, []⟩ E t ⟨sl, [.lst d.ds]⟩ { rt := fun r A => r = .v v ∧ A.sl[0]? = some (.own 0) ∧ A.st = [.lst d'.ds] }) : t { nx := fun _ H' => Q .non H', rt := Q } (L2.start N (.ref a :: ws)) H := by
  subst hs
  have k := start_own (K := K) (N := N) (ws := ws) ht ha
  exact R [some a] _ H _ k ⟨fun _ _ _ _ z => z.elim, fun os A σ r u H' ⟨h1, h2, h3⟩ k' g' i' => by
    have o0 := g'.p 0 (some a) rfl
    obtain ⟨o, s1, a3, vs, s2, s3, s4⟩ := k'.store (i := 0) (s := .lst d'.ds) (by rw [h3]; rfl)
    rw [o0] at s1; cases s1; cases s2
    rw [vs_of s4] at s3
    subst h1
    rw [Is.v_iff.mp i']
    refine q H' (fun b o hb e n => k'.ex b o ?_ n) k'.tb s3
    show (if b = a then none else H b) = some o
    rw [if_neg hb]
    exact e, fun _ _ _ _ z => z.elim, fun _ _ _ _ z => z.elim, fun _ _ z => z.elim⟩
section
variable {C : Ct} {E : XK} {A A1 : AS} {te ti : TE} {tl : TA} {P : Po} {i n : Nat} {d d' : Dice} {m : Int} {v : V} {ws : List V}
/-- f(dice, ..) -/
theorem e_turn {E' : XK} {g : Dice → List V → V → Dice → Prop} (h1 : A.sl[i]? = some (.own n)) (h2 : A.st[n]? = some (.lst d.ds)) (hm : EvA C tl A (ws.map .v) A) (hg : g d ws v d') :
    EvS C (tCall (spTurn C.K C.T g) [] E' (tCons (tVar i) tl)) A (.v v) (A.upO n d'.ds) := fun os σ H k Q q => by
  obtain ⟨o, f1, a, f2, f3⟩ := k.slot h1
  subst f2
  refine ⟨_, f1, hm os σ H k _ fun os1 vs H1 k1 g1 i1 => ?_⟩
  rw [flat_eq i1]
  have f3' := g1.p n _ f3
  obtain ⟨o3, s1, a3, us, s2, s3, s4⟩ := k1.store h2
  rw [f3'] at s1; cases s1; cases s2
  rw [vs_of s4] at s3
  refine ⟨a, d, ws, v, d', by rw [List.append_nil], s3, hg, k1.tb, fun H' e t ha => ?_⟩
  have hh : a ∈ hid C.O os1 := mem_hid.mpr (.inr (List.mem_of_getElem? f3'))
  have ku := k1.upO f3' h2 (ys := d'.ds) ds_of
  have ex : Ex (upd H1 a (.lst d'.vs)) H' := fun b o hb nt => by
    by_cases eb : b = a
    · subst eb
      rw [upd_same] at hb
      cases hb
      exact ha
    · rw [upd_ne eb] at hb
      exact e b o eb hb nt
  have kf := ku.mono ex t
  refine q os1 _ H' kf (g1.trans ⟨?_, fun b hb => ?_, fun _ _ h => h⟩) is_v
  · have := hd_mono (O := hid C.O os1) ex
    rw [show hd (hid C.O os1) (upd H1 a _) = Rh C.O os1 H1 from Rh_upd hh] at this
    exact this
  · obtain ⟨o, hb1, nt⟩ := k1.ol b hb
    have ne : b ≠ a := fun z => k1.dj b hb (by rw [z]; exact List.mem_of_getElem? f3')
    rw [hb1]
    exact e b o ne hb1 nt
end
/-- a promise that follows from another -/
theorem Gd.imp {P : Program} {w : World} {K : Frg} {mg : Str → Option Value} {base : Heap} {f : Str} {ps : List Str} {k : Nat} {sp sp' : Sp} (h : Gd P w K mg base f ps k sp) (e : ∀ vs H Q E, sp' vs H Q E → sp vs H Q E) : Gd P w K mg base f ps k sp' := by
  obtain ⟨a, fd, h1, h2, h3, h4⟩ := h.ex
  exact ⟨a, fd, h1.imp e, h2, h3, h4⟩
theorem Gd.roll {P : Program} {w : World} {K : Frg} {T : List (Addr × Str)} {mg : Str → Option Value} {base : Heap} {f : Str} {ps : List Str} {k : Nat} (h : Gd P w K mg base f ps k (spRoll K T)) : Gd P w K mg base f ps k (spTurn K T gRoll) := h.imp fun _ _ _ _ => roll_turn
end Py
end

section
set_option Elab.async false
set_option linter.all false
set_option maxRecDepth 100000
set_option maxHeartbeats 4000000
set_option autoImplicit false
set_option exponentiation.threshold 100
namespace Py
open PySem PySem.Spec PyProof.Rows L2
/-! ### [e for x in xs for y in range(n)] -/
/-- one turn of the outer one: the inner one from its start to its end -/
structure Lc2T (C : Ct) (g : TG) (wi1 : TI) (g1 : TG) (tt1 : TT) (te : TE) (ws ws1 : List Nat) (x : Dt) (A : AS) (ys : List Dt) (A2 : AS) (ys2 : List Dt) (lo1 : Int) (n1 : Nat) (A1 : AS) (B1 : Nat → AS) (Y1 : Nat → List Dt) : Prop where
  tg : TgS C g x (A.wipe ws) A1 ws
  wi : ∀ os σ H, Ok C os A1 σ H → ∀ R : It → Hp → Prop, (∀ os' H', Ok C os' (B1 0) σ H' → Gr C.O os H os' H' → R (Itr lo1 n1) H') → wi1 σ H R
  y0 : Y1 0 = ys
  yn : Y1 n1 = ys2
  tn : ∀ j, j < n1 → LcT C g1 tt1 te ws1 (di (lo1 + j)) (B1 j) (Y1 j) (B1 (j + 1)) (Y1 (j + 1))
  ln : ∀ j, j < n1 → (Y1 j).length < 100000
  bn : (B1 n1).wipe ws = A2
section
variable {C : Ct} {E : XK} {A A1 A2 : AS} {te : TE} {tl : TE} {g g1 : TG} {tt1 : TT} {wi1 : TI} {ws ws1 : List Nat}
theorem lc2_turn {p : Addr} {x : Dt} {v : V} {σ : Sg} {os : List (Option Addr)} {H : Hp} {ys ys2 : List Dt} {acc : List V} {lo1 : Int} {n1 : Nat} {Am : AS} {B1 : Nat → AS} {Y1 : Nat → List Dt} (t : Lc2T (C.hide p) g wi1 g1 tt1 te ws ws1 x A ys A2 ys2 lo1 n1 Am B1 Y1) (k : Ok (C.hide p) os A σ H) (hp : H p = some (.lst acc)) (ha : IsA C.K (Rh (p :: C.O) os H) ys acc) (hx : Is C.K (Rh (p :: C.O) os H) x v)
    (h0 : ∀ o, C.H0 p = some o → ¬ NoT o) (hO : p ∉ C.O) (R : Hp → Prop) (hR : ∀ os' acc' H', Ok (C.hide p) os' A2 σ H' → GrP p C.O os H os' H' → H' p = some (.lst acc') → IsA C.K (Rh (p :: C.O) os' H') ys2 acc' → R H') :
    g v (wipe σ ws) H fun σ2 H2 => wipe σ2 ws = wipe σ ws ∧ tYes σ2 H2 fun b H3 => if b = true then wi1 σ2 H3 fun J1 H4 => ∃ W1 : Nat → Nat → Hp → Prop, (∃ m, W1 0 m H4) ∧ ∀ j k H, W1 j k H →
      (J1.stop j H ∧ R H) ∨ (J1.go j H ∧ ∃ Nx1 : Hp → Prop, (∀ H', Nx1 H' → ∃ k', k' < k ∧ W1 (j + 1) k' H') ∧ ∀ x H', J1.yld j H x H' → g1 x (wipe σ2 ws1) H' fun σ3 H5 => wipe σ3 ws1 = wipe σ2 ws1 ∧ tt1 σ3 H5 fun b H6 =>
        if b = true then te σ3 H6 fun y H7 => ∃ acc, H7 p = some (.lst acc) ∧ acc.length < sizeLine ∧ Nx1 (upd H7 p (.lst (acc ++ [y]))) else Nx1 H6) else R H3 := by
  refine t.tg os _ H v _ k.wiped hx fun σ2 k2 e2 => ⟨e2.trans wipe_wipe, ?_⟩
  have e2' : wipe σ2 ws = wipe σ ws := e2.trans wipe_wipe
  unfold tYes
  dsimp only
  rw [if_pos rfl]
  refine t.wi os σ2 H k2 _ fun os4 H4 k4 g4 => ?_
  have gp4 : GrP p C.O os H os4 H4 := ⟨g4.e, fun a h => g4.o a (List.mem_cons_of_mem _ h), g4.p⟩
  have hp4 : H4 p = some (.lst acc) := (g4.o p (List.mem_cons_self ..)).trans hp
  refine ⟨fun j m H' => m = n1 - j ∧ j ≤ n1 ∧ ∃ os' acc', Ok (C.hide p) os' (B1 j) σ2 H' ∧ GrP p C.O os H os' H' ∧ H' p = some (.lst acc') ∧ IsA C.K (Rh (p :: C.O) os' H') (Y1 j) acc', ⟨n1, by omega, Nat.zero_le _, os4, acc, k4, gp4, hp4, by rw [t.y0]; exact IsA.mono g4.e _ _ ha⟩, ?_⟩
  rintro j m H' ⟨rfl, hj, os', acc', k', g', hp', ha'⟩
  by_cases lt : j < n1
  · refine .inr ⟨lt, fun H'' => ∃ m', m' < n1 - j ∧ (m' = n1 - (j + 1) ∧ j + 1 ≤ n1 ∧ ∃ os'' acc'', Ok (C.hide p) os'' (B1 (j + 1)) σ2 H'' ∧ GrP p C.O os H os'' H'' ∧ H'' p = some (.lst acc'') ∧ IsA C.K (Rh (p :: C.O) os'' H'') (Y1 (j + 1)) acc''), fun H'' h => h, fun x H'' y => ?_⟩
    obtain ⟨e, y⟩ := y
    subst e y
    exact lc_turn (t.tn j lt) k' hp' ha' is_v h0 hO (t.ln j lt) _ fun os2 acc2 H2 k2 g2 hp2 ha2 => ⟨n1 - (j + 1), by omega, rfl, lt, os2, acc2, k2, g'.trans g2, hp2, ha2⟩
  · have e : j = n1 := by omega
    subst e
    refine .inl ⟨Nat.le_refl _, hR os' acc' H' ?_ g' hp' (by rw [← t.yn]; exact ha')⟩
    have kb := k'.back e2'
    rw [t.bn] at kb
    exact kb
theorem e_lc2L {xs : List Dt} (he : EvS C tl A (.lst xs) A1) (B : Nat → AS) (Y : Nat → List Dt) (h0 : A1 = B 0) (hY : Y 0 = [])
    (hs : ∀ i x, xs[i]? = some x → ∀ O, ∃ lo1 n1 Am B1 Y1, Lc2T ⟨C.K, C.T, C.H0, O⟩ g wi1 g1 tt1 te ws ws1 x (B i) (Y i) (B (i + 1)) (Y (i + 1)) lo1 n1 Am B1 Y1) : EvS C (tLc2 (iList C.K tl) g tYes wi1 g1 tt1 te ws ws1) A (.lst (Y xs.length)) (B xs.length) := fun os σ H k Q q =>
  he os σ H k _ fun os1 v H1 k1 e1 i1 => by
    rw [Is] at i1
    obtain ⟨a, vs, rfl, h1, h2⟩ := i1
    refine ⟨a, rfl, ⟨vs, hd_ex.l h1⟩, fun p hp => ?_⟩
    subst h0
    have el : vs.length = xs.length := isA_len h2
    refine ⟨fun i m H' => m = vs.length - i ∧ i ≤ vs.length ∧ ∃ os' acc, Ok (C.hide p) os' (B i) σ H' ∧ GrP p C.O os1 (upd H1 p (.lst [])) os' H' ∧ H' p = some (.lst acc) ∧ IsA C.K (Rh (p :: C.O) os' H') (Y i) acc, ⟨vs.length, by omega, Nat.zero_le _, os1, [], k1.hide hp nt_l, ⟨Ex.refl _, fun _ _ => rfl, fun _ _ h => h⟩, upd_same, by rw [hY]; exact isA_nil⟩, ?_⟩
    rintro i m H' ⟨rfl, hi, os', acc, k', g', hp', ha⟩
    have e := g'.e
    rw [Rh_hide hp] at e
    have ql : SqL C.K H' a vs := hd_ex.l (e.l h1)
    by_cases lt : i < vs.length
    · refine .inr ⟨⟨vs, vs[i], ql, by simp [lt]⟩, fun H'' => ∃ m', m' < vs.length - i ∧ (m' = vs.length - (i + 1) ∧ i + 1 ≤ vs.length ∧ ∃ os'' acc'', Ok (C.hide p) os'' (B (i + 1)) σ H'' ∧ GrP p C.O os1 (upd H1 p (.lst [])) os'' H'' ∧ H'' p = some (.lst acc'') ∧ IsA C.K (Rh (p :: C.O) os'' H'') (Y (i + 1)) acc''), fun H'' h => h, fun x H'' y => ?_⟩
      obtain ⟨ex, y⟩ := y
      subst ex
      obtain ⟨d, hd', hi'⟩ := isA_get' h2 (y vs ql)
      obtain ⟨lo1, n1, Am, B1, Y1, t⟩ := hs i d hd' (p :: C.O)
      exact lc2_turn t k' hp' ha (Is.mono e _ _ hi') (fresh_0 k1 hp) (fresh_O k1 hp) _ fun os2 acc2 H2 k2 g2 hp2 ha2 => ⟨vs.length - (i + 1), by omega, rfl, lt, os2, acc2, k2, g'.trans g2, hp2, ha2⟩
    · have en : i = vs.length := by omega
      subst en
      refine .inl ⟨⟨vs, ql, Nat.le_refl _⟩, ?_⟩
      rw [el] at k' ha
      exact lc_end k1 hp k' g' hp' ha fun os2 v H2 k2 g2 i2 => q os2 v H2 k2 (e1.trans g2) i2
end
section
variable {C : Ct} {A A1 : AS} {te : TE}
/-- sorted(ints) -/
theorem e_sortI {ns ms : List Int} (h : EvS C te A (.lst (ns.map di)) A1) (hq : ∀ ns' : List Int, ns'.Perm ns → ns'.Pairwise (· ≤ ·) → ns' = ms) : EvS C (tCB (rSortedI C.K) (tCons te tNil)) A (.lst (ms.map di)) A1 := fun os σ H k Q q =>
  h os σ H k _ fun os1 v H1 k1 e1 i1 => by
    rw [Is] at i1
    obtain ⟨a, vs, rfl, h2, h3⟩ := i1
    have ev : ns.map di = (ns.map V.int).map Dt.v := by rw [List.map_map]; rfl
    rw [ev] at h3
    rw [flat_eq h3] at h2
    refine ⟨a, ns, rfl, hd_ex.l h2, fun ns' p hp hs hn => ?_⟩
    rw [hq ns' hp hs]
    refine q os1 _ _ (k1.monoN hn) (e1.trans (k1.gr (Ex.new hn))) ?_
    rw [Is]
    exact ⟨p, _, rfl, SqL.of (k1.fresh hn), by rw [show ms.map di = (ms.map V.int).map Dt.v by rw [List.map_map]; rfl]; exact flat_isA⟩
/-- two sorted lists of the same members -/
theorem sorted_one : ∀ {l m : List Int}, l.Perm m → l.Pairwise (· ≤ ·) → m.Pairwise (· ≤ ·) → l = m := fun {l m} h h1 h2 => h.eq_of_pairwise (fun a b _ _ x y => Int.le_antisymm x y) h1 h2
end
end Py
end

section
set_option Elab.async false
set_option linter.all false
set_option maxRecDepth 100000
set_option maxHeartbeats 4000000
set_option autoImplicit false
namespace Py
open PySem PySem.Spec PyProof.Rows L2
/-! ### tuple(xs), the new object known -/
section
variable {X : Cx}
theorem call_tupleZ : CallR X (.type "tuple") (fun xs H Q => ∃ p ys, xs = [.ref p] ∧ SqL X.K H p ys ∧ ∀ l o, o.dict = none → H l = none → Q (.ref l) (upd H l (.frz o (.tup ys)))) := by
  intro pins s σ H xs us Q I r h
  obtain ⟨p, ys, rfl, hq, q⟩ := h
  obtain ⟨u, rfl, rx⟩ := vals1 r
  cases rx
  obtain ⟨its, r', pl, hz⟩ := I.list hq
  have hlen := r'.length
  refine call_tuple_list pl.isList (fun h' kp => ?_) (by simp only [List.size_toArray] <;> omega)
  have I1 : Inv X pins σ H { s with heap := h' } := I.kept (t' := s.toks) kp
  have I2 : Inv X pins σ (upd H h'.objs.size (.frz { cls := .type "tuple", data := .seq its.toArray } (.tup ys))) { s with heap := h'.push { cls := .type "tuple", data := .seq its.toArray } } :=
    I1.laid (t' := s.toks) (fun b o e => Heap.get?_push_of_some _ e) (Nat.le_refl _) (show ObjOk X.prog X.w _ _ _ (.frz _ (.tup ys)) from ⟨Heap.get?_push_size _ rfl, hz, its, r', IsTup.new _ _⟩)
  exact ⟨.ref h'.objs.size, _, I2, rfl, q _ _ rfl (I1.hok.fresh (Nat.le_refl _))⟩
theorem told_pairs {h : Heap} {ps : List Addr} : ∀ {prs : List (Key × Value)}, (∀ (j : Nat) (q : Key × Value), prs[j]? = some q → ∃ (b : Addr) (u : Value), ps[j]? = some b ∧ IsTup h b #[u, q.2] ∧ keyIs q.1 u = true) →
    ∃ pv : List (Value × Value), pv.length = prs.length ∧ ∀ (j : Nat) (k v : Value), pv[j]? = some (k, v) → ∃ (q : Key × Value) (b : Addr), prs[j]? = some q ∧ q.2 = v ∧ ps[j]? = some b ∧ IsTup h b #[k, v] ∧ keyIs q.1 k = true := by
  intro prs
  induction prs generalizing ps with
  | nil => exact fun _ => ⟨[], rfl, fun j k v e => by simp at e⟩
  | cons q r ih =>
    intro hh
    obtain ⟨b, u, h1, h2, h3⟩ := hh 0 q rfl
    obtain ⟨pv, e1, e2⟩ := ih (ps := ps.drop 1) fun j q' e => by
      obtain ⟨b, u, z1, z2, z3⟩ := hh (j + 1) q' (by simpa using e)
      exact ⟨b, u, by rw [List.getElem?_drop, Nat.add_comm]; exact z1, z2, z3⟩
    refine ⟨(u, q.2) :: pv, by rw [List.length_cons, List.length_cons, e1], fun j k v e => ?_⟩
    cases j with
    | zero =>
      simp at e
      obtain ⟨rfl, rfl⟩ := e
      exact ⟨q, b, rfl, rfl, h1, h2, h3⟩
    | succ j =>
      obtain ⟨q', b', z1, z2, z3, z4⟩ := e2 j k v (by simpa using e)
      exact ⟨q', b', by simpa using z1, z2, by rw [List.getElem?_drop, Nat.add_comm] at z3; exact z3, z4⟩
theorem call_dictZ (hcalm : X.calm = true) : CallR X (.type "dict") (fun xs H Q => ∃ (a : Addr) (o : Obj) (ps : List Addr) (kvs : List (Key × V)), xs = [.ref a] ∧ H a = some (.frz o (.tup (ps.map V.ref))) ∧ o.dict = none ∧ Paired (fun p kv => SqT X.K H p [kV kv.1, kv.2]) ps kvs ∧
    ∀ p, H p = none → Q (.ref p) (upd H p (.dK (mergeK [] kvs)))) := by
  intro pins s σ H xs us Q I r q
  obtain ⟨a, o, ps, kvs, rfl, ha, hdn, hp, q⟩ := q
  obtain ⟨u, rfl, rx⟩ := vals1 r
  cases rx
  obtain ⟨ho, hz, its, rv, o', ho', hc, n, hdat⟩ := I.hok a _ ha
  rw [ho] at ho'
  cases ho'
  have ei := refs_at rv
  subst ei
  rw [List.length_map] at hz
  obtain ⟨prs, rel, hl, hpr⟩ := pairs_of I hp
  obtain ⟨pv, e1, e2⟩ := told_pairs hpr
  have hps : PairItems s.heap (ps.map Value.ref).toArray (fun j => ps.getD j 0) pv := by
    refine ⟨by simp [e1, hl], fun j k v e => ?_⟩
    obtain ⟨q', b, z1, z2, z3, z4, z5⟩ := e2 j k v e
    have g : ps.getD j 0 = b := by rw [List.getD_eq_getElem?_getD, z3]; rfl
    refine ⟨by simp [z3], ?_⟩
    show PairAt s.heap (ps.getD j 0) k v
    rw [g]
    exact .inl z4
  refine PySem.call_dict_pairs (knd := mixKind X.prog X.w) (kvs := prs) (PairArg.tuple a (ps.map Value.ref).toArray (fun j => ps.getD j 0) pv) (I.ok.hd hcalm) ⟨⟨o, n, ho, hc, hdn, hdat⟩, hps⟩ ⟨e1.symm, fun i key v rel => ?_⟩ (by rw [e1, hl]; exact hz) fun h' tk hd' k => ?_
  · obtain ⟨q', b, z1, z2, z3, z4, z5⟩ := e2 i key v rel
    exact ⟨q'.1, by rw [z1, ← z2], z5⟩
  · have hm : (s.heap.objs.size == sysModules) = false := beq_eq_false_iff_ne.mpr (Nat.ne_of_gt I.big)
    have hlen : (mergeK [] kvs).length ≤ sizeLine := by
      refine Nat.le_trans (length_mergeK kvs []) ?_
      rw [List.length_nil, Nat.zero_add, rel.length, hl]
      exact hz
    exact ⟨.ref s.heap.objs.size, upd H s.heap.objs.size (.dK (mergeK [] kvs)), I.laid (t' := tk) (fun b o e => k b o (by simp) e) (Nat.le_refl _) (show ObjOk X.prog X.w _ _ _ (.dK (mergeK [] kvs)) from ⟨hlen, hm, merged [] prs, KV.merge rel .nil, hd'⟩), rfl, q _ (I.hok.fresh (Nat.le_refl _))⟩
end
section
open SrtO
variable {prog : Program} {w : World} {A : Around} {E : Value → Shared → Prop} {s : Shared}
/-- the heap of s, behind it a new list of these items -/
def gath (h : Heap) (us : List Value) : Heap := (h.push (seqObj "list" #[] 0)).update h.objs.size (Obj.mapSeq fun z => z ++ us.toArray)
theorem gath_size (h : Heap) (us : List Value) : (gath h us).objs.size = h.objs.size + 1 := by
  unfold gath; rw [Heap.size_update, size_push']
theorem gath_old {h : Heap} {us : List Value} {b : Addr} {ob : Obj} (g : h.get? b = some ob) : (gath h us).get? b = some ob := by
  unfold gath
  rw [Heap.get?_update_ne _ _ _ _ (Nat.ne_of_lt (Heap.lt_size g))]
  exact Heap.get?_push_of_some _ g
theorem gather_tuple {t : Addr} {us : List Value} {Q : List Value → Shared → Prop} (ht : IsTup s.heap t us.toArray) (hsz : us.length ≤ sizeLine) (q : Q us { s with heap := gath s.heap us }) : wpAny (model prog w) A (collect (.ref t)) Q E s := by
  obtain ⟨ob, g, c, k, d⟩ := id ht
  have g1 : (s.heap.push (seqObj "list" #[] 0)).get? t = some ob := Heap.get?_push_of_some _ g
  have g2 : (s.heap.push (seqObj "list" #[] 0)).get? s.heap.objs.size = some (seqObj "list" #[] 0) := Heap.get?_push_size _ rfl
  have e0 : ((#[] : Array Value) ++ us.toArray).toList = us := by simp
  unfold collect
  refine wpAny_bind (wpAny_runValue (codeAny_builtin entry_proto_collect' ?_))
  show wpAny _ _ (do again (.builtin "list.__iadd__" ⟨[← newList [], .ref t], []⟩)) _ _ s
  refine wpAny_bind (wpAny_newList (wpAny_pure ⟨Code.quiet_builtin _ (by decide +kernel), codeAny_builtin entry_list_iadd' ?_⟩))
  show wpAny _ _ (Builtin.List.listExtendWith _ (.ref t) _) _ _ { s with heap := s.heap.push (seqObj "list" #[] 0) }
  unfold Builtin.List.listExtendWith
  refine wpAny_bind (wpAny_typeOf (T := "tuple") ⟨ob, g1, c⟩ ?_)
  have two : (Value.type "tuple" == Value.type "tuple") = true := by rfl
  rw [if_pos (by simp [two])]
  refine wpAny_bind (listItems_at g1 d (wpAny_bind (listItems_at (xs := #[]) (n := 0) g2 rfl ?_)))
  rw [if_neg (by simp)]
  refine wpAny_bind (listUpdate_at (xs := #[]) (n := 0) g2 rfl (wpAny_pure ?_) (Nat.zero_le _) (by show (#[] ++ us.toArray).size ≤ _; simp only [Array.size_append, List.size_toArray, List.length_nil]; omega))
  refine wpAny_bind (wpAny_load (get?_update_seq g2 _) ?_)
  show wpAny _ _ (pure ((#[] : Array Value) ++ us.toArray).toList) Q E _
  rw [e0]
  exact wpAny_pure q
theorem sorted_tup {t : Addr} {us : List Value} {k : Value → Int × Int} {Q : Value → Shared → Prop} (ht : IsTup s.heap t us.toArray) (hz : us.length ≤ sizeLine) (hp : ∀ u ∈ us, Srt.IsPair s.heap u (k u).1 (k u).2)
    (q : ∀ (h' : Heap) (out : List Value), Srtd (fun a b => lexB (k a) (k b)) out → Stb (fun a b => lexB (k a) (k b)) out us → (∀ b ob, s.heap.get? b = some ob → h'.get? b = some ob) → (∃ n, h'.get? (s.heap.objs.size + 1) = some (seqObj "list" out.toArray n)) → Q (.ref (s.heap.objs.size + 1)) { s with heap := h' }) :
    wpAny (model prog w) A (call (.builtin "sorted") [.ref t]) Q E s := by
  refine Calls.call_function_entry kind_sorted plain_sorted entry_sorted (args_sorted1 _) ?_
  unfold Builtin.«sorted»
  refine wpAny_bind (m := checkCount "sorted" 1 1 _) (wpAny_pure (wpAny_bind (gather_tuple ht hz (wpAny_bind (wpAny_newList ?_ hz)))))
  generalize hG : (gath s.heap us).push (seqObj "list" us.toArray 0) = G
  have gL : G.get? (s.heap.objs.size + 1) = some (seqObj "list" us.toArray 0) := by
    rw [← hG, ← gath_size s.heap us]; exact Heap.get?_push_size _ rfl
  have gO : ∀ b ob, s.heap.get? b = some ob → b ≠ s.heap.objs.size + 1 ∧ G.get? b = some ob := fun b ob g => by
    refine ⟨Nat.ne_of_lt (Nat.lt_succ_of_lt (Heap.lt_size g)), ?_⟩
    rw [← hG]; exact Heap.get?_push_of_some _ (gath_old g)
  show wpAny _ _ (holding [Value.ref (gath s.heap us).objs.size] (call (Value.builtin "list.sort") [Value.ref (gath s.heap us).objs.size] []) >>= fun _ => _) _ _ { s with heap := G }
  rw [gath_size]
  refine wpAny_bind (wpAny_holding (wpAny_call_entry slot_list_sort ⟨_, gL, rfl⟩ entry_list_sort (list_sort_ord (swo_lex k) gL hz (fun h2 => ?_) fun out h3 h4 => ⟨_, rfl, wpAny_pure ⟨_, rfl, ?_⟩⟩) (args_list_sort _)))
  · refine pairs_sortableO (by omega) (fun u hu => (hp u hu).keeps fun b ob g _ => (gO b ob g).2) fun ob g c => ?_
    have g' := g.symm.trans gL
    cases g'
    exact absurd (Value.type.inj c) (by decide)
  · obtain ⟨n, e⟩ := PyProof.Rows.sortedHeap_at (vs := us) (out := out.toArray) gL
    exact q _ out h3 h4 (fun b ob g => (PyProof.Rows.sortedHeap_old (gO b ob g).1 (Heap.lt_size (gO b ob g).2)).trans (gO b ob g).2) ⟨n, e⟩
end
/-! ### sorted(x), x a list or a tuple of pairs of ints -/
def PairV (K : Frg) (H : Hp) (x : V) (p : Int × Int) : Prop := ∃ t, x = V.ref t ∧ SqT K H t [.int p.1, .int p.2]
def rSortQ (K : Frg) : List V → Hp → VK → Prop := fun vs H Q => ∃ (a : Addr) (xs : List V) (ps : List (Int × Int)), vs = [.ref a] ∧ (SqL K H a xs ∨ SqT K H a xs) ∧ Paired (PairV K H) xs ps ∧
  ∀ (zs : List (V × (Int × Int))) (d : Addr), zs.Perm (xs.zip ps) → zs.Pairwise (fun x y => SrtO.lexB y.2 x.2 = false) → H d = none → Q (.ref d) (upd H d (.lst (zs.map (·.1))))
open Classical in
noncomputable def keyV (K : Frg) (H : Hp) (x : V) : Int × Int := if h : ∃ p, PairV K H x p then h.choose else (0, 0)
section
variable {X : Cx}
theorem keyV_eq {pins : List (Addr × Obj)} {s : Shared} {σ : L2.St} {H : Hp} (I : Inv X pins σ H s) {x : V} {p : Int × Int} (h : PairV X.K H x p) : keyV X.K H x = p := by
  have e : ∃ p, PairV X.K H x p := ⟨p, h⟩
  unfold keyV
  rw [dif_pos e]
  obtain ⟨t, h1, h2⟩ := e.choose_spec
  obtain ⟨t', h3, h4⟩ := h
  rw [h1] at h3
  cases h3
  have q := I.tuple_inj h2 h4
  simp only [List.cons.injEq, V.int.injEq, and_true] at q
  exact Prod.ext q.1 q.2
theorem paired_zip {K : Frg} {H : Hp} {k : V → Int × Int} : ∀ {xs : List V} {ps : List (Int × Int)}, Paired (PairV K H) xs ps → (∀ x p, PairV K H x p → k x = p) → xs.zip ps = xs.map fun x => (x, k x)
  | _, _, .nil, _ => rfl
  | _, _, .cons h t, e => by rw [List.zip_cons_cons, List.map_cons, paired_zip t e, e _ _ h]
theorem paired_mem {K : Frg} {H : Hp} : ∀ {xs : List V} {ps : List (Int × Int)}, Paired (PairV K H) xs ps → ∀ x ∈ xs, ∃ p, PairV K H x p
  | _, _, .nil, x, h => by cases h
  | _, _, .cons h t, x, hx => by
    rcases List.mem_cons.mp hx with e | e
    · exact ⟨_, by rw [e]; exact h⟩
    · exact paired_mem t x e
theorem cr_sortQ : CallR X (.builtin "sorted") (rSortQ X.K) := by
  intro pins s σ H vs us Q I r h
  obtain ⟨a, xs, ps, rfl, hs, hp, q⟩ := h
  obtain ⟨u, rfl, ru⟩ := vals1 r
  obtain rfl : u = Value.ref a := ru
  have src : ∃ its : List Value, Vals xs its ∧ xs.length ≤ sizeLine ∧ (s.heap.IsList a its.toArray ∨ IsTup s.heap a its.toArray) := by
    rcases hs with hs | hs
    · obtain ⟨its, rv, hl, hz⟩ := I.list hs
      exact ⟨its, rv, hz, .inl hl.isList⟩
    · obtain ⟨its, rv, hl, hz⟩ := I.tuple hs
      exact ⟨its, rv, hz, .inr hl⟩
  obtain ⟨its, rv, hz, hl⟩ := src
  obtain ⟨e1, e2⟩ := refs_back rv fun x m => by
    obtain ⟨p, t, e, _⟩ := paired_mem hp x m
    exact ⟨t, e⟩
  have ez := paired_zip (k := keyV X.K H) hp fun x p h => keyV_eq I h
  have pr : ∀ v ∈ its, Srt.IsPair s.heap v (keyV X.K H (backV v)).1 (keyV X.K H (backV v)).2 := fun v hv => by
    obtain ⟨t, rfl⟩ := e2 v hv
    obtain ⟨p, hp'⟩ := paired_mem hp (V.ref t) (by rw [e1]; exact List.mem_map.mpr ⟨_, hv, rfl⟩)
    show Srt.IsPair s.heap _ (keyV X.K H (V.ref t)).1 (keyV X.K H (V.ref t)).2
    rw [keyV_eq I hp']
    obtain ⟨t', h1, h2⟩ := hp'
    cases h1
    obtain ⟨its2, r2, ⟨o, ho, hc, n, hd⟩, _⟩ := I.tuple h2
    obtain ⟨u1, u2, rfl, ri, rj⟩ := vals2 r2
    obtain ⟨t1, rfl⟩ := ri
    obtain ⟨t2, rfl⟩ := rj
    exact ⟨t, o, t1, t2, n, rfl, ho, hc, hd⟩
  have fin : ∀ (h' : Heap) (d : Addr) (out : List Value), SrtO.Srtd (fun v u => SrtO.lexB (keyV X.K H (backV v)) (keyV X.K H (backV u))) out → SrtO.Stb (fun v u => SrtO.lexB (keyV X.K H (backV v)) (keyV X.K H (backV u))) out its →
      (∀ b o, s.heap.get? b = some o → h'.get? b = some o) → s.heap.objs.size ≤ d → (∃ n, h'.get? d = some (seqObj "list" out.toArray n)) → EP X pins σ Q (.ref d) { s with heap := h' } := by
    intro h' d out h1 h2 kp hd hn
    have h3 : ∀ u ∈ out, ∃ a, u = Value.ref a := fun u hu => e2 u (h2.perm.mem_iff.mp hu)
    obtain ⟨n, hn⟩ := hn
    have eo : (out.map fun u => (backV u, keyV X.K H (backV u))).map (·.1) = out.map backV := by rw [List.map_map]; rfl
    have pm : (out.map fun u => (backV u, keyV X.K H (backV u))).Perm (xs.zip ps) := by
      rw [ez, e1, List.map_map]
      exact h2.perm.map _
    have g := q (out.map fun u => (backV u, keyV X.K H (backV u))) d pm (List.pairwise_map.mpr h1) (I.hok.fresh hd)
    rw [eo] at g
    refine ⟨.ref d, upd H d (.lst (out.map backV)), I.laid (t' := s.toks) kp hd ⟨?_, out, n, vals_back h3, hn⟩, rfl, g⟩
    rw [List.length_map, h2.perm.length_eq, ← rv.length]
    exact hz
  rcases hl with hl | hl
  · exact SrtO.sorted_pairsO (k := fun u => keyV X.K H (backV u)) hl (by rw [← rv.length]; exact hz) pr fun h' d out h1 h2 kp hd hn => fin h' d out h1 h2 kp hd hn
  · exact sorted_tup (k := fun u => keyV X.K H (backV u)) hl (by rw [← rv.length]; exact hz) pr fun h' out h1 h2 kp hn => fin h' _ out h1 h2 kp (Nat.le_succ _) hn
end
section
variable {C : Ct} {A A1 : AS} {te : TE}
theorem is_pair {K : Frg} {R H : Hp} (e : Ex R H) {p : Int × Int} {v : V} (h : Is K R (fr p) v) : PairV K H v p := by
  unfold fr at h
  rw [Is] at h
  obtain ⟨a, vs, rfl, h2, h3⟩ := h
  simp only [IsA, Is] at h3
  obtain ⟨x, w, rfl, rfl, x', w', rfl, rfl, rfl⟩ := h3
  exact ⟨a, rfl, e.t h2⟩
theorem isA_pairs {K : Frg} {R H : Hp} (e : Ex R H) : ∀ {ps : List (Int × Int)} {vs : List V}, IsA K R (ps.map fr) vs → Paired (PairV K H) vs ps ∧ ∀ z ∈ vs.zip ps, Is K R (fr z.2) z.1
  | [], vs, h => by
    rw [List.map_nil, IsA] at h
    subst h
    exact ⟨.nil, fun z hz => by cases hz⟩
  | p :: r, vs, h => by
    rw [List.map_cons, IsA] at h
    obtain ⟨v, w, rfl, h1, h2⟩ := h
    obtain ⟨a, b⟩ := isA_pairs e h2
    refine ⟨.cons (is_pair e h1) a, fun z hz => ?_⟩
    rw [List.zip_cons_cons] at hz
    rcases List.mem_cons.mp hz with e1 | e1
    · rw [e1]; exact h1
    · exact b z e1
theorem isA_ofZip {K : Frg} {R : Hp} : ∀ {zs : List (V × (Int × Int))}, (∀ z ∈ zs, Is K R (fr z.2) z.1) → IsA K R ((zs.map (·.2)).map fr) (zs.map (·.1))
  | [], _ => isA_nil
  | z :: r, h => isA_cons (h z (List.mem_cons_self ..)) (isA_ofZip fun y hy => h y (List.mem_cons_of_mem _ hy))
theorem sortQ_at {os1 : List (Option Addr)} {σ : L2.St} {H1 : Hp} {a : Addr} {vs : List V} {ps ms : List (Int × Int)} {Q : VK} (k1 : Ok C os1 A1 σ H1) (hs : SqL C.K H1 a vs ∨ SqT C.K H1 a vs) (h3 : IsA C.K (Rh C.O os1 H1) (ps.map fr) vs) (hq : ∀ qs, qs.Perm ps → qs.Pairwise (fun x y => SrtO.lexB y x = false) → qs = ms)
    (q : ∀ (d : Addr) (ws : List V), H1 d = none → IsA C.K (Rh C.O os1 H1) (ms.map fr) ws → Q (.ref d) (upd H1 d (.lst ws))) : rSortQ C.K [.ref a] H1 Q := by
  obtain ⟨p1, p2⟩ := isA_pairs (H := H1) hd_ex h3
  refine ⟨a, vs, ps, rfl, hs, p1, fun zs d hp hw hn => ?_⟩
  have hl : vs.length = ps.length := by rw [isA_len h3, List.length_map]
  have e1 : (zs.map (·.2)).Perm ps := by
    have := hp.map (·.2)
    rw [List.map_snd_zip (by omega)] at this
    exact this
  refine q d _ hn ?_
  rw [← hq _ e1 (List.pairwise_map.mpr hw)]
  exact isA_ofZip fun z hz => p2 z (hp.mem_iff.mp hz)
theorem e_sortQT {ps ms : List (Int × Int)} (h : EvS C te A (.tup (ps.map fr)) A1) (hq : ∀ qs, qs.Perm ps → qs.Pairwise (fun x y => SrtO.lexB y x = false) → qs = ms) : EvS C (tCB (rSortQ C.K) (tCons te tNil)) A (.lst (ms.map fr)) A1 := fun os σ H k Q q =>
  h os σ H k _ fun os1 v H1 k1 e1 i1 => by
    rw [Is] at i1
    obtain ⟨a, vs, rfl, h2, h3⟩ := i1
    refine sortQ_at k1 (.inr (hd_ex.t h2)) h3 hq fun d ws hn hi => q os1 _ _ (k1.monoN hn) (e1.trans (k1.gr (Ex.new hn))) ?_
    rw [Is]
    exact ⟨d, ws, rfl, SqL.of (k1.fresh hn), IsA.mono (hd_mono (Ex.new hn)) _ _ hi⟩
theorem e_sortQL {ps ms : List (Int × Int)} (h : EvS C te A (.lst (ps.map fr)) A1) (hq : ∀ qs, qs.Perm ps → qs.Pairwise (fun x y => SrtO.lexB y x = false) → qs = ms) : EvS C (tCB (rSortQ C.K) (tCons te tNil)) A (.lst (ms.map fr)) A1 := fun os σ H k Q q =>
  h os σ H k _ fun os1 v H1 k1 e1 i1 => by
    rw [Is] at i1
    obtain ⟨a, vs, rfl, h2, h3⟩ := i1
    refine sortQ_at k1 (.inl (hd_ex.l h2)) h3 hq fun d ws hn hi => q os1 _ _ (k1.monoN hn) (e1.trans (k1.gr (Ex.new hn))) ?_
    rw [Is]
    exact ⟨d, ws, rfl, SqL.of (k1.fresh hn), IsA.mono (hd_mono (Ex.new hn)) _ _ hi⟩
/-- a list in order is the one list in order of its members -/
theorem lex_one {ps : List (Int × Int)} (h : ps.Pairwise fun x y => SrtO.lexB y x = false) : ∀ qs : List (Int × Int), qs.Perm ps → qs.Pairwise (fun x y => SrtO.lexB y x = false) → qs = ps := fun qs hp hw =>
  List.Perm.eq_of_pairwise (le := fun x y => SrtO.lexB y x = false) (fun a b _ _ h1 h2 => by
    have q1 := SrtO.lexB_no.mp h1
    have q2 := SrtO.lexB_no.mp h2
    have e1 : a.1 = b.1 := by omega
    have e2 : a.2 = b.2 := by omega
    exact Prod.ext e1 e2) hw h hp
/-! ### a tuple that is known as an object -/
theorem is_tupZ {K : Frg} {H : Hp} {xs : List Dt} {v : V} (h : Is K H (.tupZ xs) v) : Is K H (.tup xs) v := by
  rw [Is] at h
  obtain ⟨a, o, vs, h1, h2, _, h3⟩ := h
  rw [Is]
  exact ⟨a, vs, h1, .inl (.inr ⟨o, h2⟩), h3⟩
theorem e_unZ {xs : List Dt} (h : EvS C te A (.tupZ xs) A1) : EvS C te A (.tup xs) A1 := fun os σ H k Q q => h os σ H k Q fun os1 v H1 k1 e1 i1 => q os1 v H1 k1 e1 (is_tupZ i1)
def rTupZ (K : Frg) : List V → Hp → VK → Prop := fun xs H Q => ∃ p ys, xs = [.ref p] ∧ SqL K H p ys ∧ ∀ l o, o.dict = none → H l = none → Q (.ref l) (upd H l (.frz o (.tup ys)))
def rDictZ (K : Frg) : List V → Hp → VK → Prop := fun xs H Q => ∃ (a : Addr) (o : Obj) (ps : List Addr) (kvs : List (Key × V)), xs = [.ref a] ∧ H a = some (.frz o (.tup (ps.map V.ref))) ∧ o.dict = none ∧ Paired (fun p kv => SqT K H p [kV kv.1, kv.2]) ps kvs ∧
    ∀ p, H p = none → Q (.ref p) (upd H p (.dK (mergeK [] kvs)))
/-- tuple(xs), xs one's own -/
theorem e_tupOZ {i n : Nat} {xs : List Dt} (h1 : A.sl[i]? = some (.own n)) (h2 : A.st[n]? = some (.lst xs)) : EvS C (tCB (rTupZ C.K) (tCons (tVar i) tNil)) A (.tupZ xs) A := fun os σ H k Q q => by
  obtain ⟨o, e1, a, e2, e3⟩ := k.slot h1
  subst e2
  obtain ⟨o3, s1, a3, vs, s2, s3, s4⟩ := k.store h2
  rw [e3] at s1; cases s1; cases s2
  refine ⟨_, e1, a, vs, rfl, SqL.of s3, fun l o ho hl => q os _ _ (k.monoN hl) (k.gr (Ex.new hl)) ?_⟩
  rw [Is]
  exact ⟨l, o, vs, rfl, k.fresh hl, ho, IsA.mono (hd_mono (Ex.new hl)) _ _ s4⟩
/-- len(dict(rows)), the first parts all different -/
theorem e_lenDictZ {ps : List (Int × Int)} (h : EvS C te A (.tupZ (ps.map fr)) A1) (hd : (ps.map (·.1)).Nodup) : EvS C (tCB (fun xs H Q => ∃ a kvs, xs = [V.ref a] ∧ H a = some (.dK kvs) ∧ Q (.int kvs.length) H) (tCons (tCB (rDictZ C.K) (tCons te tNil)) tNil)) A (di ps.length) A1 := fun os σ H k Q q =>
  h os σ H k _ fun os1 v H1 k1 e1 i1 => by
    rw [Is] at i1
    obtain ⟨a, o, vs, rfl, h2, h4, h3⟩ := i1
    obtain ⟨p1, _⟩ := isA_pairs (H := H1) hd_ex h3
    have tell : ∀ {vs : List V} {ps : List (Int × Int)}, Paired (PairV C.K H1) vs ps → ∃ as : List Addr, vs = as.map V.ref ∧ Paired (fun p (kv : Key × V) => SqT C.K H1 p [kV kv.1, kv.2]) as (ps.map fun p => (Sum.inl p.1, V.int p.2)) := by
      intro vs ps r
      induction r with
      | nil => exact ⟨[], rfl, .nil⟩
      | cons hh _ ih =>
        obtain ⟨as, z1, z2⟩ := ih
        obtain ⟨t, rfl, ht⟩ := hh
        exact ⟨t :: as, by rw [z1]; rfl, .cons ht z2⟩
    obtain ⟨as, rfl, pp⟩ := tell p1
    refine ⟨a, o, as, _, rfl, hd_ex a _ h2 nt_f, h4, pp, fun d hn => ⟨d, _, rfl, upd_same, ?_⟩⟩
    have el : (mergeK [] (ps.map fun p => ((Sum.inl p.1 : Key), V.int p.2))).length = ps.length := by
      have go : ∀ (qs : List (Int × Int)) (acc : List (Key × V)), (qs.map (·.1)).Nodup → (∀ q ∈ qs, ∀ kv ∈ acc, kv.1 ≠ Sum.inl q.1) → (mergeK acc (qs.map fun p => ((Sum.inl p.1 : Key), V.int p.2))).length = acc.length + qs.length := by
        intro qs
        induction qs with
        | nil => intro acc _ _; rfl
        | cons x r ih =>
          intro acc hn ha
          rw [List.map_cons] at hn
          obtain ⟨n1, n2⟩ := List.nodup_cons.mp hn
          have ne : (acc.any fun kv => decide (kv.1 = (Sum.inl x.1 : Key))) = false := by
            rw [List.any_eq_false]
            intro kv hk z
            exact ha x (List.mem_cons_self ..) kv hk (of_decide_eq_true z)
          have ep : putK acc (Sum.inl x.1 : Key) (V.int x.2) = acc ++ [(Sum.inl x.1, V.int x.2)] := by
            unfold putK
            rw [if_neg (by rw [ne]; decide)]
          show (mergeK (putK acc (Sum.inl x.1) (V.int x.2)) _).length = _
          rw [ep, ih _ n2 fun q hq kv hk => ?_]
          · simp; omega
          · rcases List.mem_append.mp hk with z | z
            · exact ha q (List.mem_cons_of_mem _ hq) kv z
            · simp at z
              rw [z]
              intro e
              injection e with e
              exact n1 (by rw [e]; exact List.mem_map.mpr ⟨q, hq, rfl⟩)
      rw [go ps [] hd fun _ _ kv hk => by cases hk]
      simp
    rw [el]
    exact q os1 _ _ (k1.monoN hn) (e1.trans (k1.gr (Ex.new hn))) is_v
end
end Py
end

section
set_option Elab.async false
set_option linter.all false
set_option maxRecDepth 100000
set_option maxHeartbeats 4000000
set_option autoImplicit false
namespace Py
open PySem PySem.Spec PyProof.Rows L2
theorem takesF {X : Cx} {A : Around} {outer : List Env} {s : Shared} {H : Hp} {E : XK} {scope : Scope} {f c' : Addr} : Takes (LamX.lamCx X A outer s H E scope f c') (fun cls d _ H => E cls d H) := takes_of rfl rfl rfl rfl
/-- what a lambda's body calls lets out is what the lambda lets out -/
theorem psF {X : Cx} {A : Around} {outer : List Env} {s : Shared} {H : Hp} {E : XK} {scope : Scope} {f c' : Addr} : Passes (L2.CX (LamX.lamCx X A outer s H E scope f c').prog (LamX.lamCx X A outer s H E scope f c').w) (LamX.lamCx X A outer s H E scope f c') E := passes_call takesF fun _ _ _ _ h => h
/-- x(lambda: body), x a def that tries the call, and answers a text for an error -/
theorem pe_told {X : Cx} {T : List (Addr × Str)} {x a e ret : Str} {stT : Stmt} {CS : Addr} {f : Str} {k j : Nat} {p1 p2 p3 p4 p5 p6 p7 p8 : Pos} {params : Arguments} {body : Expr} {scope : Scope} {t : XK → TE} {p lpos pos : Pos}
    (F : ∃ fd, FunD X.K x x (defArgs stT) (defBody stT) (defScope stT) [] [] (He.ga X.K x) fd) (hm : X.mg x = some (.ref (He.ga X.K x)))
    (hbod : defBody stT = [.Try [.Return (some (.Call (.Name a p1) [] [] p2)) p3] [.ExceptHandler (some (.Name e p4)) none [.Return (some (.Constant (.str ret) j p5)) p6] p7] [] [] p8])
    (Sg : FnScope [a] [a] (defScope stT)) (hva : Vis (defScope stT) a) (hge : (defScope stT).names.lookup e = some .globalImplicit) (hde : (e == ("__debug__" : Str)) = false) (hme : X.mg e = some (.ref CS))
    (hbT : ∀ (kV doc pm : Value) (an : Option Addr) (cdv ct : Value) (us : List Value), us.length = 1 → bindArgs (PySem.W.fnOf x x (defArgs stT) (defBody stT) (defScope stT) .none kV doc pm an cdv ct) ⟨us, []⟩ = pure ([a].zip us))
    (LB : LamB X.K X.base X.mg T f) (hq : X.env.qual ++ "<lambda>" = lamQ f) (hcode : X.env.code = .ref (He.cT X.K (f, none)).1) (hr : Room (k + 2) X.A) (L : LamX.LamS X.env.scope scope) (hdef : defaultsOf params X.env = ([], []))
    (hbind : ∀ (q : Str) (cl : List (Str × Addr)) (pm cv ctv : Value), bindArgs (PySem.W.kla_fn "<lambda>" q params body scope cl pm cv ctv) ⟨[], []⟩ = pure [])
    (hbody : ∀ (A : Around) (outer : List Env) (s : Shared) (H : Hp) (E : XK) (f c' : Addr), Room k (A.deeper (LamX.lamEnv X scope s.heap.objs.size f c')) → PE (LamX.lamCx X A outer s H E scope f c') body (t E))
    (hg : Gl X x := by rfl) (hdb : (x == ("__debug__" : Str)) = false := by decide) (hd : (a == ("__debug__" : Str)) = false := by decide) (hcd : (a == ("__classdict__" : Str)) = false := by decide) :
    PE X (.Call (.Name x p) [.Lambda params body scope lpos] [] pos) (LamX.tLam T (LamX.TTold X.K CS ret) t) := by
  obtain ⟨fd, F⟩ := F
  have kb := F.bindsN (ps := [a]) hbT
  have kp := F.kp
  obtain ⟨oc, od, dV, kV, doc, pm, an, cdv, ct, osl, e1, lk, hc⟩ := fnd_of F
  subst e1
  refine LamX.pe_lamcall (k := k) hg hm kp lk hc kb Sg rfl hva ?_ LB.tb hcode (by rw [hq]; exact LB.mm) (by rw [hq]; exact LB.hu) hr L hdef hbind hbody hdb hd hcd
  rw [hbod]
  exact LamX.told_gives hge hme hde fun _ => rfl
end Py
end

section
set_option Elab.async false
set_option linter.all false
set_option maxRecDepth 100000
set_option maxHeartbeats 4000000
set_option autoImplicit false
namespace Py
open PySem PySem.Spec PyProof.Rows L2
/-! ### {k: v, ..}, d[k] -/
def EvPs (C : Ct) (trs : List (TE × TE)) (A : AS) (ks : List Key) (xs : List Dt) (A1 : AS) : Prop := ∀ os σ H, Ok C os A σ H → ∀ Q : List (V × V) → Hp → Prop, (∀ os' vs H', Ok C os' A1 σ H' → Gr C.O os H os' H' → IsA C.K (Rh C.O os' H') xs vs → Q ((ks.map kV).zip vs) H') → tPairs trs σ H Q
theorem tabs_dk {T : List (Addr × Str)} {H : Hp} {p : Addr} {ks ls : List (Key × V)} (t : LamX.Tabs T H) (hp : H p = some (.dK ks)) : LamX.Tabs T (upd H p (.dK ls)) := fun q hq => by
  obtain ⟨ps, h1, h2, h3⟩ := t q hq
  refine ⟨ps, ?_, h2, fun pos cv hc => ?_⟩
  · rw [upd_ne (ne_of h1 hp (fun z => by cases z))]
    exact h1
  · obtain ⟨c, e1, e2⟩ := h3 pos cv hc
    refine ⟨c, e1, ?_⟩
    rw [upd_ne (ne_of e2 hp (fun z => by unfold LamX.CodeO at z; cases z))]
    exact e2
section
variable {C : Ct} {E : XK} {A A1 A2 A3 : AS} {σ : L2.St} {H H' : Hp} {os os' : List (Option Addr)} {p : Addr} {tk tv td ty ta tb tc : TE} {trs : List (TE × TE)} {ks : List Key} {xs : List Dt} {d x y z : Dt}
theorem Ok.updK {us ws : List (Key × V)} (k : Ok C os A σ H) (h : p ∈ C.O) (h0 : ∀ o, C.H0 p = some o → ¬ NoT o) (hl : H p = some (.dK us)) : Ok C os A σ (upd H p (.dK ws)) := by
  refine ⟨fun a o e n => ?_, tabs_dk k.tb hl, fun a m => ?_, k.dj, k.ln, k.nd, fun a m => ?_, k.sn, fun i s o h1 h2 => ?_, fun i s o h1 h2 => ?_⟩
  · rw [upd_ne fun z => h0 o (by rw [← z]; exact e) n]
    exact k.ex _ _ e n
  · by_cases e : a = p
    · rw [e]; exact ⟨_, upd_same, nt_k⟩
    · rw [upd_ne e]; exact k.ol a m
  · rw [upd_ne fun z => k.dj p h (by rw [← z]; exact m)]
    exact k.fr a m
  · rw [Rh_updO h]
    exact k.sl i s o h1 h2
  · rw [Rh_updO h]
    have q := k.st i s o h1 h2
    cases s with
    | gone => exact q
    | lst zs =>
      obtain ⟨a, us, q1, q2, q3⟩ := q
      exact ⟨a, us, q1, by rw [upd_ne fun z => k.dj p h (by rw [← z, ← q1]; exact List.mem_of_getElem? h2)]; exact q2, q3⟩
theorem ps_nil : EvPs C [] A [] [] A := fun os σ H k Q q => q os [] H k Gr.refl isA_nil
theorem ps_cons {k0 : Key} (hk : EvS C tk A (.v (kV k0)) A1) (hv : EvS C tv A1 x A2) (hr : EvPs C trs A2 ks xs A3) : EvPs C ((tk, tv) :: trs) A (k0 :: ks) (x :: xs) A3 := fun os σ H k Q q =>
  hk os σ H k _ fun os1 v1 H1 k1 e1 i1 => hv os1 σ H1 k1 _ fun os2 v2 H2 k2 e2 i2 => hr os2 σ H2 k2 _ fun os3 vs H3 k3 e3 i3 => by
    rw [Is.v_iff.mp i1]
    exact q os3 (v2 :: vs) H3 k3 ((e1.trans e2).trans e3) (isA_cons (Is.mono e3.e _ _ i2) i3)
theorem merge_nd : ∀ (kvs acc : List (Key × V)), (acc ++ kvs).map (·.1) |>.Nodup → mergeK acc kvs = acc ++ kvs
  | [], acc, _ => by rw [List.append_nil]; rfl
  | kv :: r, acc, h => by
    have ne : (acc.any fun q => decide (q.1 = kv.1)) = false := by
      rw [List.any_eq_false]
      intro q hq z
      rw [List.map_append, List.nodup_append] at h
      exact h.2.2 _ (List.mem_map.mpr ⟨q, hq, rfl⟩) _ (List.mem_map.mpr ⟨kv, List.mem_cons_self .., rfl⟩) (of_decide_eq_true z)
    show mergeK (putK acc kv.1 kv.2) r = _
    unfold putK
    rw [if_neg (by rw [ne]; decide)]
    rw [merge_nd r (acc ++ [(kv.1, kv.2)]) (by simpa [List.append_assoc] using h)]
    simp
theorem zip_kV : ∀ (ks : List Key) (vs : List V), (ks.map kV).zip vs = (ks.zip vs).map fun kv => (kV kv.1, kv.2)
  | [], _ => rfl
  | _ :: _, [] => rfl
  | k :: ks, v :: vs => by rw [List.map_cons, List.zip_cons_cons, List.zip_cons_cons, List.map_cons, zip_kV ks vs]
theorem e_disp (h : ∀ O, EvPs ⟨C.K, C.T, C.H0, O⟩ trs A ks xs A1) (nd : ks.Nodup) (hl : ks.length ≤ 15) (hx : xs.length = ks.length) : EvS C (tDisp trs) A (.dct ks xs) A1 := fun os σ H k Q q p hp => by
  have k1 := k.hide hp (nt_k (kvs := []))
  refine h (p :: C.O) os σ _ k1 _ fun os2 vs H2 k2 g2 i2 => ⟨(g2.o p (List.mem_cons_self ..)).trans upd_same, ks.zip vs, zip_kV ks vs, ?_, ?_⟩
  · rw [List.length_zip]; omega
  · have hp2 : H2 p = some (.dK []) := (g2.o p (List.mem_cons_self ..)).trans upd_same
    have hv := isA_len i2
    rw [merge_nd (ks.zip vs) [] (by rw [List.nil_append, List.map_fst_zip (by omega)]; exact nd), List.nil_append]
    have k3 : Ok (C.hide p) os2 A1 σ (upd H2 p (.dK (ks.zip vs))) := Ok.updK (C := C.hide p) k2 (List.mem_cons_self ..) (fun o e => fresh_0 (C := C) k hp o e) hp2
    refine q os2 _ _ k3.unhide ⟨?_, fun a ha => ?_, g2.p⟩ ?_
    · have e := g2.e
      rw [Rh_hide hp] at e
      refine e.trans ?_
      rw [← Rh_updO (o := .dK (ks.zip vs)) (List.mem_cons_self ..)]
      exact Rh_unhide
    · rw [upd_ne fun z => fresh_O k hp (by rw [← z]; exact ha), g2.o a (List.mem_cons_of_mem _ ha), upd_ne fun z => fresh_O k hp (by rw [← z]; exact ha)]
    · rw [Is]
      refine ⟨p, vs, rfl, ?_, ?_⟩
      · show hd _ _ p = _
        rw [hd_of fun z => ?_, upd_same]
        rcases mem_hid.mp z with z | z
        · exact fresh_O k hp z
        · exact k2.dj p (List.mem_cons_self ..) z
      · refine IsA.mono ?_ _ _ i2
        rw [← Rh_updO (o := .dK (ks.zip vs)) (List.mem_cons_self ..)]
        exact Rh_unhide
theorem dct_get {K : Frg} {R : Hp} {k0 : Key} : ∀ {ks : List Key} {xs : List Dt} {vs : List V}, IsA K R xs vs → ((ks.zip xs).find? fun q => decide (q.1 = k0)).map (·.2) = some d → ∃ v, valV (ks.zip vs) k0 = some v ∧ Is K R d v
  | [], xs, vs, h, e => by simp at e
  | k :: ks, [], vs, h, e => by simp at e
  | k :: ks, x :: xs, vs, h, e => by
    rw [IsA] at h
    obtain ⟨v, w, rfl, h1, h2⟩ := h
    unfold valV
    rw [List.zip_cons_cons] at e ⊢
    by_cases q : k = k0
    · rw [List.find?_cons_of_pos (by simpa using q)] at e ⊢
      cases e
      exact ⟨v, rfl, h1⟩
    · rw [List.find?_cons_of_neg (by simpa using q)] at e ⊢
      exact dct_get h2 e
theorem e_dget {k0 : Key} (h1 : EvS C td A (.dct ks xs) A1) (h2 : EvS C ty A1 (.v (kV k0)) A2) (h : ((ks.zip xs).find? fun q => decide (q.1 = k0)).map (·.2) = some d) : EvS C (tDGet td ty) A d A2 := fun os σ H k Q q =>
  h1 os σ H k _ fun os1 v1 H1 k1 e1 i1 => h2 os1 σ H1 k1 _ fun os2 v2 H2 k2 e2 i2 => by
    rw [Is.v_iff.mp i2]
    have i1 := Is.mono e2.e _ _ i1
    rw [Is] at i1
    obtain ⟨a, vs, rfl, g1, g2⟩ := i1
    obtain ⟨v, z1, z2⟩ := dct_get g2 h
    exact ⟨a, v, rfl, .inl ⟨_, k0, .inl (hd_ex a _ g1 nt_k), rfl, z1.symm⟩, q os2 v H2 k2 (e1.trans e2) z2⟩
end
/-- a difference of two truths -/
def rSubB : R2 := fun x y H Q => ∃ p q : Bool, x = .bl p ∧ y = .bl q ∧ Q (.int ((if p then 1 else 0) - (if q then 1 else 0))) H
theorem op_subBB {X : Cx} : OpR X (binaryOp .Sub) rSubB := by
  intro pins s σ H x y v u Q I rx ry h
  obtain ⟨p, q, rfl, rfl, h⟩ := h
  cases rx
  cases ry
  exact PyProof.Rows.sub_bool ⟨.int _, H, I.tok _, ⟨_, rfl⟩, h⟩
theorem o_subBB {C : Ct} {p q : Bool} : OpS C rSubB (db p) (db q) (di ((if p then 1 else 0) - (if q then 1 else 0))) := o_v fun H Q h => ⟨p, q, rfl, rfl, h⟩
end Py
end

section
set_option Elab.async false
set_option linter.all false
set_option maxRecDepth 100000
set_option maxHeartbeats 4000000
set_option autoImplicit false
namespace Py
open PySem PySem.Spec PyProof.Rows L2
/-! ### a comprehension over a tuple -/
section
variable {C : Ct} {A A1 A2 A3 : AS} {te tl : TE} {tt : TT} {g : TG} {ws : List Nat}
theorem e_lcT {xs : List Dt} (he : EvS C tl A (.tup xs) A1) (B : Nat → AS) (Y : Nat → List Dt) (h0 : A1 = B 0) (hY : Y 0 = [])
    (hs : ∀ i x, xs[i]? = some x → ∀ O, LcT ⟨C.K, C.T, C.H0, O⟩ g tt te ws x (B i) (Y i) (B (i + 1)) (Y (i + 1))) (hn : xs.length < 100000) : EvS C (tLc (iTup C.K tl) g tt te ws) A (.lst (Y xs.length)) (B xs.length) := fun os σ H k Q q =>
  he os σ H k _ fun os1 v H1 k1 g1 i1 => by
    rw [Is] at i1
    obtain ⟨a, vs, rfl, h1, h2⟩ := i1
    refine ⟨a, rfl, ⟨vs, hd_ex.t h1⟩, fun p hp => ?_⟩
    have hl : ∀ i, i ≤ xs.length → (Y i).length ≤ i := by
      intro i
      induction i with
      | zero => intro _; rw [hY]; exact Nat.le_refl _
      | succ i ih =>
        intro hi
        obtain ⟨_, _, _, _, _, h⟩ := hs i xs[i] (List.getElem?_eq_getElem hi) []
        rcases h with ⟨_, _, _, _, e, _⟩ | ⟨_, e, _⟩ <;> rw [e] <;> have := ih (by omega) <;> (try simp only [List.length_append, List.length_singleton]) <;> omega
    subst h0
    have el : vs.length = xs.length := isA_len h2
    refine lc_tup (K := C.K) (a := a) (xs := vs) (fun i H' => ∃ os' acc, Ok (C.hide p) os' (B i) σ H' ∧ GrP p C.O os1 (upd H1 p (.lst [])) os' H' ∧ H' p = some (.lst acc) ∧ IsA C.K (Rh (p :: C.O) os' H') (Y i) acc) ⟨os1, [], k1.hide hp nt_l, ⟨Ex.refl _, fun _ _ => rfl, fun _ _ h => h⟩, upd_same, by rw [hY]; exact isA_nil⟩ (fun i H' _ ⟨os', acc, k', g', hp', ha⟩ => ?_) ?_ ?_
    · have e := g'.e
      rw [Rh_hide hp] at e
      exact hd_ex.t (e.t h1)
    · rintro i x H' hi ⟨os', acc, k', g', hp', ha⟩
      obtain ⟨d, hd', hi'⟩ := isA_get' h2 hi
      have e := g'.e
      rw [Rh_hide hp] at e
      exact lc_turn (hs i d hd' _) k' hp' ha (Is.mono e _ _ hi') (fresh_0 k1 hp) (fresh_O k1 hp) (by have := hl i (by have := (List.getElem?_eq_some_iff.mp hd').1; omega); have := (List.getElem?_eq_some_iff.mp hd').1; omega) _ fun os2 acc2 H2 k2 g2 hp2 ha2 => ⟨os2, acc2, k2, g'.trans g2, hp2, ha2⟩
    · rintro H' ⟨os', acc, k', g', hp', ha⟩
      rw [el] at k' ha
      exact lc_end k1 hp k' g' hp' ha fun os2 v H2 k2 g2 i2 => q os2 v H2 k2 (g1.trans g2) i2
end
theorem w_rng2n {C : Ct} {A A1 : AS} {tl : TA} {m n : Int} {c : Nat} (h : EvA C tl A [di m, di n] A1) (e : (n - m).toNat = c) (hm : -(2 ^ 62) ≤ m ∧ m < 2 ^ 62) (hn : -(2 ^ 62) ≤ n ∧ n < 2 ^ 62) : ∀ os σ H, Ok C os A σ H → ∀ R : It → Hp → Prop, (∀ os' H', Ok C os' A1 σ H' → Gr C.O os H os' H' → R (Itr m c) H') → iRng2 tl σ H R := by
  subst e
  exact w_rng2 h hm hn
theorem w_rng1n {C : Ct} {A A1 : AS} {tl : TA} {n : Int} {c : Nat} (h : EvA C tl A [di n] A1) (e : n.toNat = c) (hn : -(2 ^ 62) ≤ n ∧ n < 2 ^ 62) : ∀ os σ H, Ok C os A σ H → ∀ R : It → Hp → Prop, (∀ os' H', Ok C os' A1 σ H' → Gr C.O os H os' H' → R (Itr 0 c) H') → iRng1 tl σ H R := by
  subst e
  exact w_rng1 h hn
theorem pi_listK {X : Cx} {K : Frg} {tg : Expr} {l : Expr} {tl : TE} (hk : X.K = K) (hl : PE X l tl) : PI X tg l (iList K tl) := by
  subst hk
  exact pi_list hl
theorem pi_tupK {X : Cx} {K : Frg} {tg : Expr} {l : Expr} {tl : TE} (hk : X.K = K) (hl : PE X l tl) : PI X tg l (iTup K tl) := by
  subst hk
  exact pi_tup hl
/-- the scope of a comprehension that a statement gives to a name -/
def lcScope : Stmt → Scope
  | .Assign _ (.ListComp _ _ sc _) _ => sc
  | _ => default
theorem rel_lookup {env : Env} {x : Str} : ∀ {names : List (Str × NameKind)}, names.lookup x = some .cell ∨ names.lookup x = some .free →
    (names.map fun (n, k) => if (k == NameKind.free && env.scope.kind == .function && env.kindOf n == some .cell) then (n, NameKind.cell) else (n, k)).lookup x = some .cell ∨ (names.map fun (n, k) => if (k == NameKind.free && env.scope.kind == .function && env.kindOf n == some .cell) then (n, NameKind.cell) else (n, k)).lookup x = some .free
  | [], h => by simp at h
  | (n, k) :: r, h => by
    have ih := rel_lookup (env := env) (x := x) (names := r)
    rw [List.map_cons]
    dsimp only
    rw [List.lookup_cons] at h
    split
    · rw [List.lookup_cons]
      split
      · exact .inl rfl
      · rename_i q
        rw [q] at h
        exact ih h
    · rw [List.lookup_cons]
      split
      · rename_i q
        rw [q] at h
        exact h
      · rename_i q
        rw [q] at h
        exact ih h
theorem blkOk_rel {env : Env} {N : List Str} {sc scope : Scope} {own : List (Str × Nat)} (h : BlkOk N sc scope own) : BlkOk N (relabel sc env) scope own := ⟨h.kind, h.uniq, h.ix, fun y hy e => rel_lookup (env := env) (h.free y hy e), h.own⟩
theorem pg_tupK {X : Cx} {K : Frg} {es : List Expr} {k : Nat} {t : TGs} {n : Nat} {pos : Pos} (hk : X.K = K) (hc : X.calm = true) (h : PGs X es t) (hn : (assignEach es X.env).length = n := by rfl) (hst : (assignEach es X.env).findIdx? (·.1) = none := by rfl) : PG X (.Tuple es k pos) (gTup K n t) := by
  subst hk
  exact pg_tup hc h hn hst
end Py
end

section
set_option Elab.async false
set_option linter.all false
set_option maxRecDepth 100000
set_option maxHeartbeats 4000000
set_option autoImplicit false
namespace Py
open PySem PySem.Spec PyProof.Rows L2
/-! ### facts of the top -/
def intsB : List Value → List Int → Bool
  | [], [] => true
  | .int j _ :: r, i :: s => decide (j = i) && intsB r s
  | _, _ => false
theorem intsB_ok : ∀ {us : List Value} {is : List Int}, intsB us is = true → Vals (is.map V.int) us
  | [], [], _ => .nil
  | .int j t :: r, i :: s, h => by
    obtain ⟨a, b⟩ := Bool.and_eq_true_iff.mp (show (decide (j = i) && intsB r s) = true from h)
    rw [of_decide_eq_true a]
    exact .cons ⟨t, rfl⟩ (intsB_ok b)
def tupB (K : Frg) (x : Str) (is : List Int) : Bool := match PySem.W.nsIn K mainGlobals x with
  | some (some (.ref a)) => (match K.lookup a with
    | some o => decide (o.cls = .type "tuple") && (match o.data with
      | .seq its _ => decide (its.size ≤ 1000) && intsB its.toList is
      | _ => false)
    | none => false)
  | _ => false
theorem tupB_ok {K : Frg} {base : Heap} {mg : Str → Option Value} {x : Str} {is : List Int} (hK : K.In base) (G : base.Ns mainGlobals mg) (h : tupB K x is = true) : TupC K mg x (is.map V.int) := by
  unfold tupB at h
  split at h
  · rename_i a e
    split at h
    · rename_i o e2
      obtain ⟨h1, h2⟩ := Bool.and_eq_true_iff.mp h
      split at h2
      · rename_i its n e3
        obtain ⟨h3, h4⟩ := Bool.and_eq_true_iff.mp h2
        exact ⟨a, PySem.W.mg_of hK G e, o, its, n, e2, of_decide_eq_true h1, e3, Nat.le_trans (of_decide_eq_true h3) (by decide), intsB_ok h4⟩
      · cases h2
    · cases h
  · cases h
def bltB (K : Frg) (x : Str) (id : String) : Bool := match PySem.W.nsIn K mainGlobals x with
  | some (some (.builtin n)) => decide (n = id)
  | _ => false
theorem bltB_ok {K : Frg} {base : Heap} {mg : Str → Option Value} {x : Str} {id : String} (hK : K.In base) (G : base.Ns mainGlobals mg) (h : bltB K x id = true) : mg x = some (.builtin id) := by
  unfold bltB at h
  split at h
  · rename_i n e
    rw [← of_decide_eq_true h]
    exact PySem.W.mg_of hK G e
  · cases h
/-! ### the law's own def, its promise told over data -/
theorem fin1 {t : TS} {N : List Str} {K : Frg} {T : List (Addr × Str)} {E : XK} {g : List Dt → Rs → Prop} {vs : List V} {H : Hp} {Q : VK} (h : spD K T g vs H Q E) (run : ∀ O ds r, g ds r → RunS ⟨K, T, H, O⟩ E t (start N ds) (poR r)) : t { nx := fun _ H' => Q .non H', rt := Q } (L2.start N vs) H := fin h run
theorem mkFL {P : Program} {w : World} {K : Frg} {T : List (Addr × Str)} {mg : Str → Option Value} {base : Heap} {f : Str} {st : Stmt} {N ps : List Str} {k : Nat} {g : List Dt → Rs → Prop} {fd : FuncData}
    (F : FunD K f f (defArgs st) (defBody st) (defScope st) [] [] (He.ga K f) fd) (S : FnScope N ps (defScope st))
    (len : ∀ ds r, g ds r → ds.length = ps.length)
    (hbody : ∀ (A : Around) (outer : List Env) (s : Shared) (H : Hp) (E : XK), Room k (A.deeper (envOfC f (defScope st) s.heap.objs.size (He.ga K f) (.ref (He.cT K (f, none)).1))) →
      ∃ t, PSs (cxOf (L2.CX P w) P w K mg base N f (defScope st) (He.ga K f) (.ref (He.cT K (f, none)).1) A outer s H E) (defBody st) t ∧ ∀ O ds r, g ds r → RunS ⟨K, T, H, O⟩ E t (start N ds) (poR r)) : FnOk P w K mg base (L2.CX P w) (k + 1) (He.ga K f) fd ps (spD K T g) := by
  obtain ⟨oc, od, dV, kV, doc, pm, an, cdv, ct, osl, e, lk, hc⟩ := fnd_of F
  obtain ⟨c, rfl⟩ := He.codeIn_ref hc
  have ec : (He.cT K (f, none)).1 = c := He.codeOf_eq (p := (f, none)) lk rfl
  subst ec
  subst e
  refine fn_of lk hc S (fun vs H Q E h => spD_len len vs H Q E h) (fun A outer s H vs Q E hr h => ?_)
  obtain ⟨t, ht, run⟩ := hbody A outer s H E hr
  exact ⟨t, ht, fin h run⟩
/-- a promise that no call asks for -/
theorem gd_none {P : Program} {w : World} {K : Frg} {T : List (Addr × Str)} {mg : Str → Option Value} {base : Heap} {f : Str} {st : Stmt} {ps : List Str} {k : Nat}
    (F : ∃ fd, FunD K f f (defArgs st) (defBody st) (defScope st) [] [] (He.ga K f) fd) (hm : mg f = some (.ref (He.ga K f)))
    (hb : ∀ (kV doc pm : Value) (an : Option Addr) (cdv ct : Value) (us : List Value), us.length = ps.length → bindArgs (PySem.W.fnOf f f (defArgs st) (defBody st) (defScope st) .none kV doc pm an cdv ct) ⟨us, []⟩ = pure (ps.zip us)) : Gd P w K mg base f ps k (spD K T fun _ _ => False) := by
  obtain ⟨fd, F⟩ := F
  exact ⟨_, fd, ⟨fun vs H Q E ⟨_, _, _, _, _, _, z, _⟩ => z.elim, fun A outer s H args us vs Q E _ _ _ _ ⟨_, _, _, _, _, _, z, _⟩ => z.elim⟩, F.bindsN hb, F.kp, hm⟩
section
variable {C : Ct} {A A1 : AS} {tl : TA}
/-- xs + [..], xs one's own -/
theorem e_catO {i n : Nat} {xs ys : List Dt} (h1 : A.sl[i]? = some (.own n)) (h : EvA C tl A ys A1) (h3 : A1.st[n]? = some (.lst xs)) (hl : xs.length + ys.length ≤ 100000) : EvS C (tOp (rAddA C.K) (tVar i) (tLst tl)) A (.lst (xs ++ ys)) A1 := fun os σ H k Q q => by
  obtain ⟨o, e1, a, e2, e3⟩ := k.slot h1
  subst e2
  refine ⟨_, e1, h os σ H k _ fun os1 vs H1 k1 g1 i1 => ⟨by rw [isA_len i1]; exact Nat.le_trans (by omega) (by decide : 100000 ≤ sizeLine), fun p hp => ?_⟩⟩
  have e3' := g1.p n _ e3
  obtain ⟨o3, s1, a3, us, s2, s3, s4⟩ := k1.store h3
  rw [e3'] at s1; cases s1; cases s2
  have k2 := k1.monoN (o := .lst vs) hp
  refine .inr (.inr (.inr ⟨a, p, us, vs, rfl, rfl, ?_, upd_same, by rw [isA_len s4, isA_len i1]; exact Nat.le_trans hl (by decide : 100000 ≤ sizeLine), fun r hr => ?_⟩))
  · rw [upd_ne (ne_of_none s3 hp)]
    exact s3
  · have k3 := k2.monoN (o := .lst (us ++ vs)) hr
    refine q os1 _ _ k3 ((g1.trans (k1.gr (Ex.new hp))).trans (k2.gr (Ex.new hr))) ?_
    rw [Is]
    exact ⟨r, us ++ vs, rfl, SqL.of (k2.fresh hr), isA_app (IsA.mono (hd_mono ((Ex.new hp).trans (Ex.new hr))) _ _ s4) (IsA.mono (hd_mono ((Ex.new hp).trans (Ex.new hr))) _ _ i1)⟩
theorem isA_rep {K : Frg} {R : Hp} {ds : List Dt} {vs : List V} (h : IsA K R ds vs) : ∀ m : Nat, IsA K R (List.replicate m ds).flatten (List.replicate m vs).flatten
  | 0 => isA_nil
  | m + 1 => by
    rw [List.replicate_succ, List.replicate_succ, List.flatten_cons, List.flatten_cons]
    exact isA_app h (isA_rep h m)
/-- [..] * k -/
theorem e_repD {ds : List Dt} {k0 : Int} (h : EvA C tl A ds A1) (h1 : 0 ≤ k0 ∧ k0 < 100000) (hl : ds.length * k0.toNat ≤ 100000) (hl0 : ds.length ≤ 100000) : EvS C (tOp (rMulA C.K) (tLst tl) (tC (.int k0))) A (.lst (List.replicate k0.toNat ds).flatten) A1 := fun os σ H k Q q =>
  h os σ H k _ fun os1 vs H1 k1 g1 i1 => ⟨by rw [isA_len i1]; exact Nat.le_trans hl0 (by decide : 100000 ≤ sizeLine), fun p hp => .inr ⟨p, k0, vs, rfl, rfl, upd_same, by omega, by omega, by rw [isA_len i1]; exact Nat.le_trans hl (by decide : 100000 ≤ sizeLine), fun r hr => by
    have k2 := k1.monoN (o := .lst vs) hp
    have k3 := k2.monoN (o := .lst (List.replicate k0.toNat vs).flatten) hr
    refine q os1 _ _ k3 ((g1.trans (k1.gr (Ex.new hp))).trans (k2.gr (Ex.new hr))) ?_
    rw [Is]
    exact ⟨r, _, rfl, SqL.of (k2.fresh hr), isA_rep (IsA.mono (hd_mono ((Ex.new hp).trans (Ex.new hr))) _ _ i1) _⟩⟩⟩
end
end Py
end

section
set_option Elab.async false
set_option linter.all false
set_option maxRecDepth 100000
set_option maxHeartbeats 4000000
set_option autoImplicit false
namespace Law.KA
open PySem PySem.Spec PyProof.Rows L2 Py
def top (i : Nat) : Stmt := PySem.Challenge.pw_algebrastack_k01_whole_numbers_and_fract.main.body.getD i (.Pass ⟨0, 0, 0, 0⟩)

open Mt
local macro_rules | `(tactic| wtm_at "op") => `(tactic| first
  | with_reducible exact o_I0 | with_reducible exact o_add | with_reducible exact o_eqI | with_reducible exact o_neI
  | ((with_reducible apply o_mul); first | assumption | wtm_at "si")
  | ((with_reducible apply o_I); first | assumption | wtm_at "si")
  | ((with_reducible apply o_ixT); rfl) | ((with_reducible apply o_ixL); rfl)
  | ((with_reducible apply o_eqD) <;> first | rfl | decide | assumption) | ((with_reducible apply o_neD) <;> first | rfl | decide | assumption)
  | with_reducible assumption)
local macro_rules | `(tactic| wtm_at "si") => `(tactic| first | decide | exact ⟨by decide, by decide +kernel⟩ | omega)
local macro_rules | `(tactic| wtm_at "ev") => `(tactic| first
  | ((with_reducible apply e_var); rfl) | with_reducible exact e_c | with_reducible exact a_nil
  | ((with_reducible apply a_cons) <;> wtm_at "ev")
  | ((with_reducible apply e_bin) <;> first | wtm_at "ev" | wtm_at "op")
  | ((with_reducible apply e_U) <;> wtm_at "ev")
  | ((with_reducible apply t_test) <;> wtm_at "ev")
  | ((with_reducible apply t_B) <;> wtm_at "ev")
  | ((with_reducible apply t_not) <;> wtm_at "ev")
  | ((with_reducible apply e_tup) <;> first | wtm_at "ev" | exact Nat.le_of_ble_eq_true rfl)
  | ((with_reducible apply e_lst) <;> first | wtm_at "ev" | exact Nat.le_of_ble_eq_true rfl)
  | ((with_reducible apply e_gcd) <;> wtm_at "ev")
  | ((with_reducible apply e_abs) <;> wtm_at "ev")
  | ((with_reducible apply e_max2) <;> wtm_at "ev")
  | ((with_reducible apply e_int) <;> wtm_at "ev")
  | ((with_reducible apply e_intB) <;> wtm_at "ev")
  | ((with_reducible apply e_bits) <;> wtm_at "ev")
  | ((with_reducible apply e_not) <;> wtm_at "ev")
  | with_reducible assumption)

structure Txt (K : Frg) (mg : Str → Option Value) : Prop where
  gNumberError : mg "NumberError" = some (.ref (He.ga K "NumberError"))
  xNumberError : PySem.W.excIn K (He.ga K "NumberError") He.veBase "ValueError.__new__" = true ∧ PySem.W.keepIn K (.ref (He.ga K "NumberError")) = true ∧ PySem.W.subIn K (.ref (He.ga K "NumberError")) (.type "BaseException") = some true ∧ PySem.W.typeIn K (.ref (He.ga K "NumberError")) = some (.type "type")
  n_gcd : mg "gcd" = some (.builtin "math.gcd")
  n_abs : mg "abs" = none
  n_tuple : mg "tuple" = none
  n_range : mg "range" = none
  n_max : mg "max" = none
  c_MOST_TRIAL : ∃ u, mg "MOST_TRIAL" = some u ∧ RelV (.int 1000000) u
/-- the class NumberError -/
abbrev NE (K : Frg) : Addr := He.ga K "NumberError"
section
variable {P : Program} {w : World} {K : Frg} {T : List (Addr × Str)} {mg : Str → Option Value} {base : Heap}

abbrev s_common_divisor : Stmt := top 8
theorem sc_common_divisor : FnScope ["one", "other"] ["one", "other"] (defScope s_common_divisor) := ⟨rfl, rfl, rfl, by decide +kernel, rfl, by decide +kernel, by decide +kernel⟩
abbrev s_bezout : Stmt := top 9
theorem sc_bezout : FnScope ["one", "other", "found", "a", "b", "rest", "next_a", "next_b", "times"] ["one", "other"] (defScope s_bezout) := ⟨rfl, rfl, rfl, by decide +kernel, rfl, by decide +kernel, by decide +kernel⟩
abbrev s_inverse : Stmt := top 10
theorem sc_inverse : FnScope ["number", "base", "divisor", "found", "_"] ["number", "base"] (defScope s_inverse) := ⟨rfl, rfl, rfl, by decide +kernel, rfl, by decide +kernel, by decide +kernel⟩
def sp_gcd : List Dt → Rs → Prop := fun ds r => ∃ a b : Int, ds = [di a, di b] ∧ r = .ok (di (Int.gcd a b))
def sp_bez : List Dt → Rs → Prop := fun ds r => ∃ x y : Int, ds = [di x, di y] ∧ Sz 4000 x ∧ Sz 4000 y ∧ r = .ok (.tup [di (bez x y).1, di (bez x y).2.1, di (bez x y).2.2])
/-- the inverse by a base, or the error -/
def invR (K : Frg) (n b : Int) : Rs := if b < 2 then .err (NE K) else if (bez n b).1 ≠ 1 then .err (NE K) else .ok (di ((bez n b).2.1.fmod b))
def sp_inv (K : Frg) : List Dt → Rs → Prop := fun ds r => ∃ n b : Int, ds = [di n, di b] ∧ Sz 4000 n ∧ Sz 4000 b ∧ r = invR K n b
theorem ok_common_divisor (X : Txt K mg) (F : ∃ fd, FunD K "common_divisor" "common_divisor" (defArgs s_common_divisor) (defBody s_common_divisor) (defScope s_common_divisor) [] [] (He.ga K "common_divisor") fd) (hm : mg "common_divisor" = some (.ref (He.ga K "common_divisor"))) : Gd P w K mg base "common_divisor" ["one", "other"] 1 (spD K T sp_gcd) := by
  have Tx := X
  refine mkG F hm sc_common_divisor (fun _ _ _ _ _ _ us hl => match us, hl with | [_, _], _ => rfl) (fun ds r h => ?len) (fun cdv A outer s H E hr => ?body)
  case len => (obtain ⟨_, _, rfl, _⟩ := h; rfl)
  case body =>
    have sc := sc_common_divisor
    refine ⟨_, (pss_one (ps_ret (pe_callBfun cr_gcd (by rfl) Tx.n_gcd (pa_cons (pv 0) (pa_cons (pv 1) pa_nil))))), fun O ds r hg => ?_⟩
    clear sc hr
    try dsimp only [cxOf]

    obtain ⟨a, b, rfl, rfl⟩ := hg
    exact r_ret (by wtm_at "ev") rfl

theorem ok_bezout (X : Txt K mg) (F : ∃ fd, FunD K "bezout" "bezout" (defArgs s_bezout) (defBody s_bezout) (defScope s_bezout) [] [] (He.ga K "bezout") fd) (hm : mg "bezout" = some (.ref (He.ga K "bezout"))) : Gd P w K mg base "bezout" ["one", "other"] 1 (spD K T sp_bez) := by
  have Tx := X
  refine mkG F hm sc_bezout (fun _ _ _ _ _ _ us hl => match us, hl with | [_, _], _ => rfl) (fun ds r h => ?len) (fun cdv A outer s H E hr => ?body)
  case len => (obtain ⟨_, _, rfl, _⟩ := h; rfl)
  case body =>
    have sc := sc_bezout
    refine ⟨_, (pss_cons (ps_par3 (i := 2) (j := 3) (l := 4) rfl sc.nd rfl rfl rfl (by decide) (by decide) (by decide) rfl rfl rfl (pa_cons (pv 0) (pa_cons pe_int (pa_cons pe_int pa_nil))) (by rfl))
  (pss_cons (ps_par3 (i := 5) (j := 6) (l := 7) rfl sc.nd rfl rfl rfl (by decide) (by decide) (by decide) rfl rfl rfl (pa_cons (pv 1) (pa_cons pe_int (pa_cons pe_int pa_nil))) (by rfl))
  (pss_cons (ps_while (passesE) (pt_cmpR (op_neA hr.units) (pv 5) pe_int (nomark _)) (pss_cons (ps_set (i := 8) sc.nd rfl (Or.inl rfl) (pe_op op_fdivX (pv 2) (pv 5)))
  (pss_cons (ps_par (i := 2) (j := 5) rfl sc.nd rfl rfl (by decide) rfl rfl (pa_cons (pv 5) (pa_cons (pe_op op_sub (pv 2) (pe_op op_mulA (pv 8) (pv 5))) pa_nil)) (by rfl))
  (pss_cons (ps_par (i := 3) (j := 6) rfl sc.nd rfl rfl (by decide) rfl rfl (pa_cons (pv 6) (pa_cons (pe_op op_sub (pv 3) (pe_op op_mulA (pv 8) (pv 6))) pa_nil)) (by rfl))
  (pss_one (ps_par (i := 4) (j := 7) rfl sc.nd rfl rfl (by decide) rfl rfl (pa_cons (pv 7) (pa_cons (pe_op op_sub (pv 4) (pe_op op_mulA (pv 8) (pv 7))) pa_nil)) (by rfl)))))))
  (pss_cons (ps_if (pt_cmpR op_lt (pv 2) pe_int (nomark _)) (pss_one (ps_ret (pe_tup (pa_cons (pe_un un_neg (pv 2)) (pa_cons (pe_un un_neg (pv 3)) (pa_cons (pe_un un_neg (pv 4)) pa_nil)))))) pss_nil)
  (pss_one (ps_ret (pe_tup (pa_cons (pv 2) (pa_cons (pv 3) (pa_cons (pv 4) pa_nil)))))))))), fun O ds r hg => ?_⟩
    clear sc hr
    try dsimp only [cxOf]

    obtain ⟨x, y, rfl, hx, hy, rfl⟩ := hg
    refine r_seq (r_par3 (by wtm_at "ev") ?_)
    refine r_seq (r_par3 (by wtm_at "ev") ?_)
    refine r_seq (r_while (fun m A => ∃ s v, BR x y s ∧ m = s.r.natAbs ∧ bezGo s = bezGo ⟨x, 1, 0, y, 0, 1⟩ ∧ A = ⟨[.d (di x), .d (di y), .d (di s.f), .d (di s.a), .d (di s.b), .d (di s.r), .d (di s.c), .d (di s.d), v], []⟩) _ ⟨⟨x, 1, 0, y, 0, 1⟩, .un, .start, rfl, rfl, rfl⟩ ?_)
    rintro m A ⟨s, v, h, rfl, he, rfl⟩
    have z := h.sizes (n := 4000) (by decide) hx hy
    refine ⟨!decide (s.r = 0), _, by wtm_at "ev", fun hb => ?_, fun hb => ?_⟩
    · have hr : s.r ≠ 0 := by simpa using hb
      have hd : PDiv s.f s.r := divX 4000 z.r hr
      have q : (s.f.fdiv s.r).natAbs < 2 ^ 4000 := Nat.lt_of_le_of_lt (fdiv_abs_le _ _) z.f
      have m1 : PMul (s.f.fdiv s.r) s.r := mulX 4000 4000 q z.r
      have m2 : PMul (s.f.fdiv s.r) s.c := mulX 4000 4000 q z.c
      have m3 : PMul (s.f.fdiv s.r) s.d := mulX 4000 8001 q z.d
      refine r_seq (r_asg (by wtm_at "ev") ?_)
      refine r_seq (r_par (by wtm_at "ev") ?_)
      refine r_seq (r_par (by wtm_at "ev") ?_)
      refine r_par (by wtm_at "ev") ?_
      exact ⟨s.step.r.natAbs, fmod_lt hr, s.step, .d (di (s.f.fdiv s.r)), h.step hr, rfl, by rw [← he, bezGo_step hr], rfl⟩
    · have hr : s.r = 0 := by simpa using hb
      have e : bezGo ⟨x, 1, 0, y, 0, 1⟩ = s := by rw [← he, bezGo_done hr]
      refine r_seq (r_if (b := decide (s.f < 0)) (by wtm_at "ev") (fun hc => ?_) fun hc => ?_)
      · refine r_ret (by wtm_at "ev") ?_
        unfold bez
        rw [e]
        dsimp only
        rw [if_pos (by simpa using hc)]
        rfl
      · refine r_next (r_ret (by wtm_at "ev") ?_)
        unfold bez
        rw [e]
        dsimp only
        rw [if_neg (by simpa using hc)]
        rfl

theorem ok_inverse (X : Txt K mg) (F : ∃ fd, FunD K "inverse" "inverse" (defArgs s_inverse) (defBody s_inverse) (defScope s_inverse) [] [] (He.ga K "inverse") fd) (hm : mg "inverse" = some (.ref (He.ga K "inverse"))) (G_bezout : Gd P w K mg base "bezout" ["one", "other"] 1 (spD K T sp_bez)) : Gd P w K mg base "inverse" ["number", "base"] 2 (spD K T (sp_inv K)) := by
  have Tx := X
  refine mkG F hm sc_inverse (fun _ _ _ _ _ _ us hl => match us, hl with | [_, _], _ => rfl) (fun ds r h => ?len) (fun cdv A outer s H E hr => ?body)
  case len => (obtain ⟨_, _, rfl, _⟩ := h; rfl)
  case body =>
    have sc := sc_inverse
    refine ⟨_, (pss_cons (ps_if (pt_cmpR op_lt (pv 1) pe_int (nomark _)) (pss_one (ps_rz rfl takesE PySem.F.excBase_ValueError Tx.xNumberError.1 Tx.gNumberError Tx.xNumberError.2.1 (raises_own Tx.xNumberError.2.2.1 Tx.xNumberError.2.2.2) rfl)) pss_nil)
  (pss_cons (ps_asg (pe_callG G_bezout (hr.mono (by decide)) psE (pa_cons (pv 0) (pa_cons (pv 1) pa_nil))) (pg_tup rfl (pgs_cons (pg_name (i := 2) sc.nd rfl (Or.inl rfl)) (pgs_cons (pg_name (i := 3) sc.nd rfl (Or.inl rfl)) (pgs_cons (pg_name (i := 4) sc.nd rfl (Or.inl rfl)) pgs_nil)))))
  (pss_cons (ps_if (pt_cmpR (op_neA hr.units) (pv 2) pe_int (nomark _)) (pss_one (ps_rz rfl takesE PySem.F.excBase_ValueError Tx.xNumberError.1 Tx.gNumberError Tx.xNumberError.2.1 (raises_own Tx.xNumberError.2.2.1 Tx.xNumberError.2.2.2) rfl)) pss_nil)
  (pss_one (ps_ret (pe_op op_modN (pv 3) (pv 1))))))), fun O ds r hg => ?_⟩
    clear sc hr
    try dsimp only [cxOf]

    obtain ⟨n, b, rfl, hn, hb, rfl⟩ := hg
    unfold invR
    refine r_seq (r_if (b := decide (b < 2)) (by wtm_at "ev") (fun hc => ?_) fun hc => ?_)
    · rw [if_pos (by simpa using hc)]
      exact r_raise rfl
    · rw [if_neg (by simpa using hc)]
      refine r_next (r_seq (r_tg (e_call (by wtm_at "ev") ⟨n, b, rfl, hn, hb, rfl⟩) (tg_tup rfl (tgA_cons tg_name (tgA_cons tg_name (tgA_cons tg_name tgA_nil)))) ?_))
      refine r_seq (r_if (b := !decide ((bez n b).1 = 1)) (by wtm_at "ev") (fun hd => ?_) fun hd => ?_)
      · rw [if_pos (by simpa using hd)]
        exact r_raise rfl
      · rw [if_neg (by simpa using hd)]
        have h0 : b ≠ 0 := by simp at hc; omega
        exact r_next (r_ret (by wtm_at "ev") rfl)

end
end Law.KA
end

section
set_option Elab.async false
set_option linter.all false
set_option maxRecDepth 100000
set_option maxHeartbeats 4000000
set_option autoImplicit false
namespace Law.KB
open PySem PySem.Spec PyProof.Rows L2 Py
def top (i : Nat) : Stmt := PySem.Challenge.pw_algebrastack_k01_whole_numbers_and_fract.main.body.getD i (.Pass ⟨0, 0, 0, 0⟩)

open Mt
local macro_rules | `(tactic| wtm_at "op") => `(tactic| first
  | with_reducible exact o_I0 | with_reducible exact o_add | with_reducible exact o_eqI | with_reducible exact o_neI
  | ((with_reducible apply o_mul); first | assumption | wtm_at "si")
  | ((with_reducible apply o_I); first | assumption | wtm_at "si")
  | ((with_reducible apply o_ixT); rfl) | ((with_reducible apply o_ixL); rfl)
  | ((with_reducible apply o_eqD) <;> first | rfl | decide | assumption) | ((with_reducible apply o_neD) <;> first | rfl | decide | assumption)
  | with_reducible assumption)
local macro_rules | `(tactic| wtm_at "si") => `(tactic| first | decide | exact ⟨by decide, by decide +kernel⟩ | omega)
local macro_rules | `(tactic| wtm_at "ev") => `(tactic| first
  | ((with_reducible apply e_var); rfl) | with_reducible exact e_c | with_reducible exact a_nil
  | ((with_reducible apply a_cons) <;> wtm_at "ev")
  | ((with_reducible apply e_bin) <;> first | wtm_at "ev" | wtm_at "op")
  | ((with_reducible apply e_U) <;> wtm_at "ev")
  | ((with_reducible apply t_test) <;> wtm_at "ev")
  | ((with_reducible apply t_B) <;> wtm_at "ev")
  | ((with_reducible apply t_not) <;> wtm_at "ev")
  | ((with_reducible apply e_tup) <;> first | wtm_at "ev" | exact Nat.le_of_ble_eq_true rfl)
  | ((with_reducible apply e_lst) <;> first | wtm_at "ev" | exact Nat.le_of_ble_eq_true rfl)
  | ((with_reducible apply e_gcd) <;> wtm_at "ev")
  | ((with_reducible apply e_abs) <;> wtm_at "ev")
  | ((with_reducible apply e_max2) <;> wtm_at "ev")
  | ((with_reducible apply e_int) <;> wtm_at "ev")
  | ((with_reducible apply e_intB) <;> wtm_at "ev")
  | ((with_reducible apply e_bits) <;> wtm_at "ev")
  | ((with_reducible apply e_not) <;> wtm_at "ev")
  | with_reducible assumption)

structure Txt (K : Frg) (mg : Str → Option Value) : Prop where
  gNumberError : mg "NumberError" = some (.ref (He.ga K "NumberError"))
  xNumberError : PySem.W.excIn K (He.ga K "NumberError") He.veBase "ValueError.__new__" = true ∧ PySem.W.keepIn K (.ref (He.ga K "NumberError")) = true ∧ PySem.W.subIn K (.ref (He.ga K "NumberError")) (.type "BaseException") = some true ∧ PySem.W.typeIn K (.ref (He.ga K "NumberError")) = some (.type "type")
  n_gcd : mg "gcd" = some (.builtin "math.gcd")
  n_abs : mg "abs" = none
  n_tuple : mg "tuple" = none
  n_range : mg "range" = none
  n_max : mg "max" = none
  c_MOST_TRIAL : ∃ u, mg "MOST_TRIAL" = some u ∧ RelV (.int 1000000) u
/-- the class NumberError -/
abbrev NE (K : Frg) : Addr := He.ga K "NumberError"
section
variable {P : Program} {w : World} {K : Frg} {T : List (Addr × Str)} {mg : Str → Option Value} {base : Heap}

abbrev s_repeated : Stmt := top 12
theorem sc_repeated : FnScope ["multiply", "unit", "one", "exponent", "found", "square", "left"] ["multiply", "unit", "one", "exponent"] (defScope s_repeated) := ⟨rfl, rfl, rfl, by decide +kernel, rfl, by decide +kernel, by decide +kernel⟩
abbrev s_power : Stmt := top 23
theorem sc_power : FnScope ["number", "exponent"] ["number", "exponent"] (defScope s_power) := ⟨rfl, rfl, rfl, by decide +kernel, rfl, by decide +kernel, by decide +kernel⟩
abbrev s_power_by : Stmt := top 11
theorem sc_power_by : FnScope ["number", "exponent", "base"] ["number", "exponent", "base"] (defScope s_power_by) := ⟨rfl, rfl, rfl, by decide +kernel, rfl, by decide +kernel, by decide +kernel⟩
abbrev s_divided_out : Stmt := top 14
theorem sc_divided_out : FnScope ["number", "divisor", "rest", "exponent"] ["number", "divisor"] (defScope s_divided_out) := ⟨rfl, rfl, rfl, by decide +kernel, rfl, by decide +kernel, by decide +kernel⟩
theorem l_mod (l : Nat) : (l : Int).fmod 2 = ((l % 2 : Nat) : Int) := by
  rw [Int.fmod_eq_emod_of_nonneg _ (by decide)]
  omega
theorem l_div (l : Nat) : (l : Int).fdiv 2 = ((l / 2 : Nat) : Int) := by
  rw [Int.fdiv_eq_ediv_of_nonneg _ (by decide)]
  omega

theorem gives_repeated {X : Cx} {k : Nat} {g : Addr} {cdg : Value} {q : Str} {E : XK} {T : List (Addr × Str)} : GivesP X k ["multiply", "unit", "one", "exponent", "found", "square", "left"] "repeated" (defScope s_repeated) g cdg (defBody s_repeated) "multiply" 2 q E (TTr X.K T gRep) := by
  refine gives_of fun f c' s H tl hr act => ?_
  have sc := sc_repeated
  refine ⟨_, (pss_cons (ps_par3 (i := 4) (j := 5) (l := 6) rfl sc.nd rfl rfl rfl (by decide) (by decide) (by decide) rfl rfl rfl (pa_cons (pv 1) (pa_cons (pv 2) (pa_cons (pv 3) pa_nil))) (by rfl))
  (pss_cons (ps_while (passesE) (pt_cmpR op_gt (pv 6) pe_int (nomark _)) (pss_cons (ps_if (pt_cmpR (op_eqA hr.units) (pe_op op_modN (pv 6) pe_int) pe_int (nomark _)) (pss_one (ps_set (i := 4) sc.nd rfl (Or.inl rfl) (act (pa_cons (pv 4) (pa_cons (pv 5) pa_nil)) (by rfl) (by rfl)))) pss_nil)
  (pss_cons (ps_set (i := 6) sc.nd rfl (Or.inl rfl) (pe_op op_fdivX (pv 6) pe_int))
  (pss_one (ps_if (pt_cmpR op_gt (pv 6) pe_int (nomark _)) (pss_one (ps_set (i := 5) sc.nd rfl (Or.inl rfl) (act (pa_cons (pv 5) (pa_cons (pv 5) pa_nil)) (by rfl) (by rfl)))) pss_nil)))))
  (pss_one (ps_ret (pv 4))))), fun O ds r R hc hA hg => ?_⟩
  clear sc hr act
  try dsimp only [cxOf]
  obtain ⟨F, n, rfl, hF, rfl⟩ := hg
  refine r_seq (r_par3 (by wtm_at "ev") ?_)
  refine r_seq (r_while (fun m A => ∃ i j l : Nat, i + j * l = n ∧ 0 < j ∧ m = l ∧ A = ⟨[.d (.v (.ref f)), .d (F 0), .d (F 1), .d (di (n : Int)), .d (F i), .d (F j), .d (di (l : Int))], []⟩) n ⟨0, 1, n, by omega, by decide, rfl, rfl⟩ ?_)
  · rintro m A ⟨i, j, l, hn, hj, rfl, rfl⟩
    refine ⟨decide ((0 : Int) < (m : Int)), _, by wtm_at "ev", fun hb => ?_, fun hb => ?_⟩
    · have hl : 0 < m := by simpa using hb
      have hjl : j * 1 ≤ j * m := Nat.mul_le_mul_left _ hl
      have e1 : decide ((m : Int).fmod 2 = 1) = decide (m % 2 = 1) := by rw [l_mod]; simp; omega
      refine r_cut (fun A' => ∃ i', (m % 2 = 1 → i' = i + j) ∧ (m % 2 ≠ 1 → i' = i) ∧ A' = ⟨[.d (.v (.ref f)), .d (F 0), .d (F 1), .d (di (n : Int)), .d (F i'), .d (F j), .d (di (m : Int))], []⟩) ?_ ?_
      · refine r_if (b := decide (m % 2 = 1)) (t_is (by wtm_at "ev") e1) (fun hd => ?_) fun hd => ?_
        · have hd : m % 2 = 1 := by simpa using hd
          refine r_asg (e_act hA hc rfl rfl (a_cons (e_var rfl) (a_cons (e_var rfl) a_nil)) rfl (hF i j (by omega))) ?_
          exact ⟨i + j, fun _ => rfl, fun z => absurd hd z, rfl⟩
        · have hd : m % 2 ≠ 1 := by simpa using hd
          exact r_next ⟨i, fun z => absurd z hd, fun _ => rfl, rfl⟩
      · rintro A' ⟨i', h1, h2, rfl⟩
        have em := Nat.div_add_mod m 2
        have ei : i' + j * (2 * (m / 2)) = n := by
          by_cases z : m % 2 = 1
          · rw [h1 z, ← hn]
            have : j * m = j * (2 * (m / 2)) + j * 1 := by rw [← Nat.mul_add]; congr 1; omega
            omega
          · rw [h2 z, ← hn]
            congr 2
            omega
        refine r_seq (r_asg (e_is (by wtm_at "ev") (congrArg (fun z => di z) (l_div m))) ?_)
        refine r_if (b := decide ((0 : Int) < ((m / 2 : Nat) : Int))) (by wtm_at "ev") (fun hc' => ?_) fun hc' => ?_
        · have hp : 0 < m / 2 := by simp at hc'; omega
          have h2j : j * 2 ≤ j * (2 * (m / 2)) := Nat.mul_le_mul_left _ (by omega)
          refine r_asg (e_act hA hc rfl rfl (a_cons (e_var rfl) (a_cons (e_var rfl) a_nil)) rfl (hF j j (by omega))) ?_
          exact ⟨m / 2, by omega, i', j + j, m / 2, by rw [← ei, ← Nat.mul_assoc]; congr 2; omega, by omega, rfl, rfl⟩
        · have hp : m / 2 = 0 := by simp at hc'; omega
          exact r_next ⟨m / 2, by omega, i', j, m / 2, by rw [hp] at ei ⊢; simpa using ei, hj, rfl, rfl⟩
    · have hl : m = 0 := by simp at hb; omega
      subst hl
      have : i = n := by omega
      subst this
      exact r_ret (by wtm_at "ev") rfl

def sp_pow : List Dt → Rs → Prop := fun ds r => ∃ (x : Int) (n : Nat), ds = [di x, di (n : Int)] ∧ Sz 20000000 (x ^ n) ∧ Sz 20000000 x ∧ r = .ok (di (x ^ n))
theorem pow_small {x : Int} {i n : Nat} {b : Nat} (hb : 0 < b) (hn : Sz b (x ^ n)) (hi : i ≤ n) : Sz b (x ^ i) := by
  unfold Sz at *
  by_cases z : x.natAbs = 0
  · rw [Int.natAbs_pow, z]
    refine Nat.lt_of_le_of_lt ?_ (Nat.one_lt_two_pow (by omega) : 1 < 2 ^ b)
    cases i with
    | zero => exact Nat.le_refl _
    | succ i => rw [Nat.zero_pow (by omega)]; omega
  · refine Nat.lt_of_le_of_lt ?_ hn
    rw [Int.natAbs_pow, Int.natAbs_pow]
    exact Nat.pow_le_pow_right (by omega) hi

theorem ok_power (X : Txt K mg) (F : ∃ fd, FunD K "power" "power" (defArgs s_power) (defBody s_power) (defScope s_power) [] [] (He.ga K "power") fd) (hm : mg "power" = some (.ref (He.ga K "power"))) (B : LamB K base mg T "power")
    (Fr : ∃ fd, FunD K "repeated" "repeated" (defArgs s_repeated) (defBody s_repeated) (defScope s_repeated) [] [] (He.ga K "repeated") fd) (hmr : mg "repeated" = some (.ref (He.ga K "repeated"))) : Gd P w K mg base "power" ["number", "exponent"] 3 (spD K T sp_pow) := by
  have Tx := X
  obtain ⟨fdr, Fr⟩ := Fr
  have br : L2.Binds K fdr ("multiply" :: ["unit", "one", "exponent"]) [] := Fr.bindsN fun _ _ _ _ _ _ us hl => match us, hl with | [_, _, _, _], _ => rfl
  refine mkGL F hm sc_power (fun _ _ _ _ _ _ us hl => match us, hl with | [_, _], _ => rfl) (fun ds r h => ?len) (fun A outer s H E hr => ?body)
  case len => (obtain ⟨_, _, rfl, _⟩ := h; rfl)
  case body =>
    have sc := sc_power
    refine ⟨_, (pss_one (ps_ret (pe_lamP (ps := ["one", "other"]) (rs := ["unit", "one", "exponent"]) (k := 1) (kl := 0) Fr hmr br sc_repeated (Or.inl rfl) (fun _ => gives_repeated (T := T)) (by decide) B.tb rfl B.mm B.hu hr (show LamP (defScope s_power) _ _ from ⟨rfl, rfl, rfl, by decide +kernel, by decide +kernel, by decide +kernel, by decide +kernel⟩) (show ∀ x ∈ (["number", "exponent"] : List Str), x ∉ (["one", "other"] : List Str) from by decide +kernel) rfl (fun _ _ _ _ _ us hl => match us, hl with | [_, _], _ => rfl) psE (fun A outer s H f c' hr => (pe_op Py.op_mulX (pv 0) (pv 1))) (pa_cons pe_int (pa_cons (pv 0) (pa_cons (pv 1) pa_nil)))))), fun O ds r hg => ?_⟩
    clear sc hr
    try dsimp only [cxOf]

    obtain ⟨x, n, rfl, hx, hx1, rfl⟩ := hg
    refine r_ret (e_lamP (R := fun ds r => ∃ i j : Nat, i + j ≤ n ∧ ds = [di (x ^ i), di (x ^ j)] ∧ r = di (x ^ (i + j))) rfl (by wtm_at "ev") rfl ?_ ⟨fun i => di (x ^ i), n, ?_, fun i j h => ⟨i, j, h, rfl, rfl⟩, rfl⟩) rfl
    · rintro H' xs y ⟨i, j, h, rfl, rfl⟩
      have m : PMul (x ^ i) (x ^ j) := mulX 20000000 20000000 (pow_small (by decide) hx (by omega)) (pow_small (by decide) hx (by omega))
      rw [Int.pow_add]
      wtm_at "ev"
    · simp only [Int.pow_zero]
      rw [Int.pow_succ, Int.pow_zero, Int.one_mul]

/-- a power by a base, or the error -/
def powByR (K : Frg) (x e b : Int) : Rs := if e < 0 ∨ b < 1 then .err (NE K) else .ok (di (x ^ e.toNat % b))
def sp_powBy (K : Frg) : List Dt → Rs → Prop := fun ds r => ∃ x e b : Int, ds = [di x, di e, di b] ∧ Sz 4000 b ∧ r = powByR K x e b
theorem mod_sz {x b : Int} {n : Nat} (h : Sz n b) (hb : 1 ≤ b) : Sz n (x % b) := by
  unfold Sz at *
  have h1 := Int.emod_nonneg x (show b ≠ 0 by omega)
  have h2 := Int.emod_lt_of_pos x (show 0 < b by omega)
  omega

theorem ok_power_by (X : Txt K mg) (F : ∃ fd, FunD K "power_by" "power_by" (defArgs s_power_by) (defBody s_power_by) (defScope s_power_by) [] [] (He.ga K "power_by") fd) (hm : mg "power_by" = some (.ref (He.ga K "power_by"))) (B : LamB K base mg T "power_by")
    (Fr : ∃ fd, FunD K "repeated" "repeated" (defArgs s_repeated) (defBody s_repeated) (defScope s_repeated) [] [] (He.ga K "repeated") fd) (hmr : mg "repeated" = some (.ref (He.ga K "repeated"))) : Gd P w K mg base "power_by" ["number", "exponent", "base"] 3 (spD K T (sp_powBy K)) := by
  have Tx := X
  obtain ⟨fdr, Fr⟩ := Fr
  have br : L2.Binds K fdr ("multiply" :: ["unit", "one", "exponent"]) [] := Fr.bindsN fun _ _ _ _ _ _ us hl => match us, hl with | [_, _, _, _], _ => rfl
  refine mkGL F hm sc_power_by (fun _ _ _ _ _ _ us hl => match us, hl with | [_, _, _], _ => rfl) (fun ds r h => ?len) (fun A outer s H E hr => ?body)
  case len => (obtain ⟨_, _, _, rfl, _⟩ := h; rfl)
  case body =>
    have sc := sc_power_by
    refine ⟨_, (pss_cons (ps_if (PW.pt (pw_or (pt_cmpR op_lt (pv 1) pe_int (nomark _)) (pw_or1 (pt_cmpR op_lt (pv 2) pe_int (nomark _))))) (pss_one (ps_rz rfl takesE PySem.F.excBase_ValueError Tx.xNumberError.1 Tx.gNumberError Tx.xNumberError.2.1 (raises_own Tx.xNumberError.2.2.1 Tx.xNumberError.2.2.2) rfl)) pss_nil)
  (pss_one (ps_ret (pe_lamP (ps := ["one", "other"]) (rs := ["unit", "one", "exponent"]) (k := 1) (kl := 0) Fr hmr br sc_repeated (Or.inl rfl) (fun _ => gives_repeated (T := T)) (by decide) B.tb rfl B.mm B.hu hr (show LamP (defScope s_power_by) _ _ from ⟨rfl, rfl, rfl, by decide +kernel, by decide +kernel, by decide +kernel, by decide +kernel⟩) (show ∀ x ∈ (["number", "exponent", "base"] : List Str), x ∉ (["one", "other"] : List Str) from by decide +kernel) rfl (fun _ _ _ _ _ us hl => match us, hl with | [_, _], _ => rfl) psE (fun A outer s H f c' hr => (pe_op op_modN (pe_op Py.op_mulX (pv 0) (pv 1)) (pv 4))) (pa_cons (pe_op op_modN pe_int (pv 2)) (pa_cons (pe_op op_modN (pv 0) (pv 2)) (pa_cons (pv 1) pa_nil))))))), fun O ds r hg => ?_⟩
    clear sc hr
    try dsimp only [cxOf]

    obtain ⟨x, e, b, rfl, hb, rfl⟩ := hg
    unfold powByR
    by_cases hc : e < 0 ∨ b < 1
    · rw [if_pos hc]
      refine r_seq (r_ifTs ?_ (r_raise rfl))
      by_cases he : e < 0
      · exact t_orT (t_is (by wtm_at "ev") (decide_eq_true he))
      · exact t_orF (t_is (by wtm_at "ev") (decide_eq_false he)) (t_is (by wtm_at "ev") (decide_eq_true (by omega)))
    · rw [if_neg hc]
      have hb1 : 1 ≤ b := by omega
      obtain ⟨n, rfl⟩ : ∃ n : Nat, e = n := ⟨e.toNat, by omega⟩
      refine r_seq (r_ifFs (t_orF (t_is (by wtm_at "ev") (decide_eq_false (by omega))) (t_is (by wtm_at "ev") (decide_eq_false (by omega)))) (r_next ?_))
      have fe : ∀ z : Int, z.fmod b = z % b := fun z => Int.fmod_eq_emod_of_nonneg z (by omega)
      have h0 : b ≠ 0 := by omega
      refine r_ret (d := di (x ^ n % b)) (e_lamP (R := fun ds r => ∃ i j : Nat, i + j ≤ n ∧ ds = [di (x ^ i % b), di (x ^ j % b)] ∧ r = di (x ^ (i + j) % b)) (ds := [di (x ^ 0 % b), di (x ^ 1 % b), di (n : Int)]) rfl ?_ rfl ?_ ⟨fun i => di (x ^ i % b), n, rfl, fun i j h => ⟨i, j, h, rfl, rfl⟩, rfl⟩) rfl
      · rw [Int.pow_zero, Int.pow_one, ← fe, ← fe]
        wtm_at "ev"
      · rintro H' xs y ⟨i, j, h, rfl, rfl⟩
        have m : PMul (x ^ i % b) (x ^ j % b) := mulX 4000 4000 (mod_sz hb hb1) (mod_sz hb hb1)
        have e1 : x ^ (i + j) % b = ((x ^ i % b) * (x ^ j % b)).fmod b := by rw [fe, Int.pow_add, Int.mul_emod]
        rw [e1]
        wtm_at "ev"

end
end Law.KB
end

section
set_option Elab.async false
set_option linter.all false
set_option maxRecDepth 100000
set_option maxHeartbeats 4000000
set_option autoImplicit false
namespace Law.KD
open PySem PySem.Spec PyProof.Rows L2 Py
def top (i : Nat) : Stmt := PySem.Challenge.pw_algebrastack_k01_whole_numbers_and_fract.main.body.getD i (.Pass ⟨0, 0, 0, 0⟩)

local macro_rules | `(tactic| wtm_at "op") => `(tactic| first
  | with_reducible exact o_I0 | with_reducible exact o_add | with_reducible exact o_eqI | with_reducible exact o_neI
  | ((with_reducible apply o_mul); first | assumption | wtm_at "si")
  | ((with_reducible apply o_I); first | assumption | wtm_at "si")
  | ((with_reducible apply o_ixT); rfl) | ((with_reducible apply o_ixL); rfl)
  | ((with_reducible apply o_eqD) <;> first | rfl | decide | assumption) | ((with_reducible apply o_neD) <;> first | rfl | decide | assumption)
  | with_reducible assumption)
local macro_rules | `(tactic| wtm_at "si") => `(tactic| first | decide | exact ⟨by decide, by decide +kernel⟩ | omega)
local macro_rules | `(tactic| wtm_at "ev") => `(tactic| first
  | ((with_reducible apply e_var); rfl) | with_reducible exact e_c | with_reducible exact a_nil
  | ((with_reducible apply a_cons) <;> wtm_at "ev")
  | ((with_reducible apply e_bin) <;> first | wtm_at "ev" | wtm_at "op")
  | ((with_reducible apply e_ixO) <;> first | rfl | wtm_at "ev")
  | ((with_reducible apply e_U) <;> wtm_at "ev")
  | ((with_reducible apply t_test) <;> wtm_at "ev")
  | ((with_reducible apply t_B) <;> wtm_at "ev")
  | ((with_reducible apply t_not) <;> wtm_at "ev")
  | ((with_reducible apply e_tup) <;> first | wtm_at "ev" | exact Nat.le_of_ble_eq_true rfl)
  | ((with_reducible apply e_lst) <;> first | wtm_at "ev" | exact Nat.le_of_ble_eq_true rfl)
  | ((with_reducible apply e_gcd) <;> wtm_at "ev")
  | ((with_reducible apply e_abs) <;> wtm_at "ev")
  | ((with_reducible apply e_max2) <;> wtm_at "ev")
  | ((with_reducible apply e_int) <;> wtm_at "ev")
  | ((with_reducible apply e_intB) <;> wtm_at "ev")
  | ((with_reducible apply e_bits) <;> wtm_at "ev")
  | ((with_reducible apply e_not) <;> wtm_at "ev")
  | with_reducible assumption)

structure Txt (K : Frg) (mg : Str → Option Value) : Prop where
  gNumberError : mg "NumberError" = some (.ref (He.ga K "NumberError"))
  xNumberError : PySem.W.excIn K (He.ga K "NumberError") He.veBase "ValueError.__new__" = true ∧ PySem.W.keepIn K (.ref (He.ga K "NumberError")) = true ∧ PySem.W.subIn K (.ref (He.ga K "NumberError")) (.type "BaseException") = some true ∧ PySem.W.typeIn K (.ref (He.ga K "NumberError")) = some (.type "type")
  n_gcd : mg "gcd" = some (.builtin "math.gcd")
  n_abs : mg "abs" = none
  n_tuple : mg "tuple" = none
  n_range : mg "range" = none
  n_max : mg "max" = none
  n_int : mg "int" = none
  c_MOST_TRIAL : ∃ u, mg "MOST_TRIAL" = some u ∧ RelV (.int 1000000) u
/-- the class NumberError -/
abbrev NE (K : Frg) : Addr := He.ga K "NumberError"
section
variable {P : Program} {w : World} {K : Frg} {T : List (Addr × Str)} {mg : Str → Option Value} {base : Heap}

abbrev s__law_dice : Stmt := top 41
theorem sc__law_dice : FnScope ["cell"] ["cell"] (defScope s__law_dice) := ⟨rfl, rfl, rfl, by decide +kernel, rfl, by decide +kernel, by decide +kernel⟩
abbrev s__law_roll : Stmt := top 42
theorem sc__law_roll : FnScope ["dice", "many", "found"] ["dice", "many"] (defScope s__law_roll) := ⟨rfl, rfl, rfl, by decide +kernel, rfl, by decide +kernel, by decide +kernel⟩
abbrev s__law_rounds : Stmt := top 43
theorem sc__law_rounds : FnScope ["script", "most", "cells", "cell"] ["script", "most"] (defScope s__law_rounds) := ⟨rfl, rfl, rfl, by decide +kernel, rfl, by decide +kernel, by decide +kernel⟩
theorem ok_law_dice (X : Txt K mg) (F : ∃ fd, FunD K "_law_dice" "_law_dice" (defArgs s__law_dice) (defBody s__law_dice) (defScope s__law_dice) [] [] (He.ga K "_law_dice") fd) (hm : mg "_law_dice" = some (.ref (He.ga K "_law_dice"))) : Gd P w K mg base "_law_dice" ["cell"] 1 (spDice K T) := by
  have Tx := X
  obtain ⟨fd, F⟩ := F
  have hb := F.bindsN (ps := ["cell"]) fun _ _ _ _ _ _ us hl => match us, hl with | [_], _ => rfl
  refine ⟨_, fd, F.ok sc__law_dice (fun vs H Q E h => ?len) (fun cdv A outer s H vs Q E hr h => ?body), hb, F.kp, hm⟩
  case len => (obtain ⟨c, rfl, _⟩ := h; rfl)
  case body =>
    have sc := sc__law_dice
    refine ⟨_, (pss_cons (ps_if (pt_chain op_lt op_lt (pe_op op_sub pe_int pe_int) (pv 0) pe_int) (pss_one (ps_ret (pe_lst (pa_cons (pe_callB call_abs (by rfl) Tx.n_abs (by decide +kernel) (pa_cons (pv 0) pa_nil)) (pa_cons pe_int (pa_cons pe_int pa_nil)))))) pss_nil)
  (pss_one (ps_ret (pe_lst (pa_cons (pv 0) (pa_cons (pe_op op_addA pe_int (pe_op op_modN (pe_callTy call_int1 (by rfl) Tx.n_int (by decide +kernel) (pa_cons (pv 0) pa_nil)) pe_int)) (pa_cons (pe_callTy call_int1 (by rfl) Tx.n_int (by decide +kernel) (pa_cons (pe_cmpR op_ge (pv 0) (pe_op op_pow pe_int pe_int) (nomark _)) pa_nil)) pa_nil))))))), ?_⟩
    clear sc hr
    try dsimp only [cxOf]

    obtain ⟨c, rfl, hz, ht, q⟩ := h
    have k := start_flat (K := K) (N := ["cell"]) (vs := [.int c]) ht
    have lt : ∀ {x y : Int} {b : Bool}, decide (x < y) = b → OpS ⟨K, T, H, []⟩ (rI0 fun i j => .bl (decide (i < j))) (di x) (di y) (db b) := fun e => o_is o_I0 (by rw [e])
    have no : ¬ (-10 < c ∧ c < 10) → mkDice c = ⟨c, 1 + c.fmod 1009, if 10 ^ 18 ≤ c then 1 else 0⟩ := fun h => if_neg h
    by_cases h1 : (0 : Int) - 10 < c
    · by_cases h2 : c < 10
      · refine t_test (e_chainT (by wtm_at "ev") (by wtm_at "ev") (lt (decide_eq_true h1)) (by wtm_at "ev") (lt (decide_eq_true h2))) [] _ H k _ fun os1 H1 k1 g1 => ?_
        rw [if_pos rfl]
        refine ret_newL (xs := [.int (if c < 0 then -c else c), .int 0, .int 2]) k1 (by wtm_at "ev") (Nat.le_of_ble_eq_true rfl) (by rfl) rfl fun a H' f e t hl => q a H' f e t ?_
        have em : mkDice c = ⟨c.natAbs, 0, 2⟩ := if_pos ⟨by omega, h2⟩
        rw [hl, em]
        have ea : (if c < 0 then -c else c) = (c.natAbs : Int) := by split <;> omega
        rw [ea]
        rfl
      · refine t_test (e_chainT (by wtm_at "ev") (by wtm_at "ev") (lt (decide_eq_true h1)) (by wtm_at "ev") (lt (decide_eq_false h2))) [] _ H k _ fun os1 H1 k1 g1 => ?_
        rw [if_neg (by decide)]
        dsimp only [tNext]
        refine ret_newL (xs := [.int c, .int (1 + c.fmod 1009), .int (if decide ((10 : Int) ^ (18 : Int).toNat ≤ c) = true then 1 else 0)]) k1 (by wtm_at "ev") (Nat.le_of_ble_eq_true rfl) (by rfl) rfl fun a H' f e t hl => q a H' f e t ?_
        rw [hl, no (by omega)]
        show some (HO.lst [V.int c, V.int (1 + c.fmod 1009), V.int (if decide ((10 : Int) ^ 18 ≤ c) = true then 1 else 0)]) = _
        simp [Dice.vs]
    · refine t_test (e_chainF (by wtm_at "ev") (by wtm_at "ev") (lt (decide_eq_false h1))) [] _ H k _ fun os1 H1 k1 g1 => ?_
      rw [if_neg (by decide)]
      dsimp only [tNext]
      refine ret_newL (xs := [.int c, .int (1 + c.fmod 1009), .int (if decide ((10 : Int) ^ (18 : Int).toNat ≤ c) = true then 1 else 0)]) k1 (by wtm_at "ev") (Nat.le_of_ble_eq_true rfl) (by rfl) rfl fun a H' f e t hl => q a H' f e t ?_
      rw [hl, no (by omega)]
      show some (HO.lst [V.int c, V.int (1 + c.fmod 1009), V.int (if decide ((10 : Int) ^ 18 ≤ c) = true then 1 else 0)]) = _
      simp [Dice.vs]

theorem ok_law_roll (X : Txt K mg) (F : ∃ fd, FunD K "_law_roll" "_law_roll" (defArgs s__law_roll) (defBody s__law_roll) (defScope s__law_roll) [] [] (He.ga K "_law_roll") fd) (hm : mg "_law_roll" = some (.ref (He.ga K "_law_roll"))) : Gd P w K mg base "_law_roll" ["dice", "many"] 1 (spRoll K T) := by
  have Tx := X
  obtain ⟨fd, F⟩ := F
  have hb := F.bindsN (ps := ["dice", "many"]) fun _ _ _ _ _ _ us hl => match us, hl with | [_, _], _ => rfl
  refine ⟨_, fd, F.ok sc__law_roll (fun vs H Q E h => ?len) (fun cdv A outer s H vs Q E hr h => ?body), hb, F.kp, hm⟩
  case len => (obtain ⟨a, d, m, c, rfl, _⟩ := h; rfl)
  case body =>
    have sc := sc__law_roll
    refine ⟨_, (pss_cons (ps_if (PW.pt (pw_or (pt_cmpR (op_eqA hr.units) (pe_ix ix_seq (pv 0) pe_int (fun _ _ => rfl)) pe_int (nomark _)) (pw_or1 (PW.pt (pw_and (pt_cmpR (op_eqA hr.units) (pe_ix ix_seq (pv 0) pe_int (fun _ _ => rfl)) pe_int (nomark _)) (pw_and1 (pt_cmpR op_gt (pe_ix ix_seq (pv 0) pe_int (fun _ _ => rfl)) pe_int (nomark _)))))))) (pss_cons (ps_set (i := 2) sc.nd rfl (Or.inl rfl) (pe_op op_modN (pe_callTy call_int1 (by rfl) Tx.n_int (by decide +kernel) (pa_cons (pe_ix ix_seq (pv 0) pe_int (fun _ _ => rfl)) pa_nil)) (pv 1)))
  (pss_cons (ps_asg (pe_op op_fdivX (pe_ix ix_seq (pv 0) pe_int (fun _ _ => rfl)) (pv 1)) (pg_sub (pv 0) pe_int set_list))
  (pss_one (ps_ret (pv 2))))) pss_nil)
  (pss_cons (ps_asg pe_int (pg_sub (pv 0) pe_int set_list))
  (pss_cons (ps_asg (pe_op op_modN (pe_callTy call_int1 (by rfl) Tx.n_int (by decide +kernel) (pa_cons (pe_op op_addA (pe_op op_addA (pe_op op_mulA (pe_ix ix_seq (pv 0) pe_int (fun _ _ => rfl)) pe_int) (pe_op op_mulA (pe_ix ix_seq (pv 0) pe_int (fun _ _ => rfl)) pe_int)) pe_int) pa_nil)) pe_int) (pg_sub (pv 0) pe_int set_list))
  (pss_cons (ps_asg (pe_op op_addA (pe_ix ix_seq (pv 0) pe_int (fun _ _ => rfl)) pe_int) (pg_sub (pv 0) pe_int set_list))
  (pss_one (ps_ret (pe_op op_modN (pe_callTy call_int1 (by rfl) Tx.n_int (by decide +kernel) (pa_cons (pe_op op_fdivX (pe_ix ix_seq (pv 0) pe_int (fun _ _ => rfl)) pe_int) pa_nil)) (pv 1)))))))), ?_⟩
    clear sc hr
    try dsimp only [cxOf]

    obtain ⟨a, d, m, c, rfl, ha, hk, hc, h0, hs, ht, q⟩ := h
    have k := start_own (K := K) (N := ["dice", "many", "found"]) (ws := [.int m]) ht ha
    have hm0 : m ≠ 0 := by omega
    have dv : PDiv d.x m := divX 8000 hs hm0
    have m1 : PMul d.x 48271 := mulX 2000000 20 hk.x (by decide)
    have m2 : PMul d.y 69621 := mulX 30 20 (Nat.lt_of_le_of_lt hk.y (by omega)) (by decide)
    suffices R : RunS ⟨K, T, _, []⟩ E _ _ { rt := fun r A => r = di (rollV d m) ∧ A.sl[0]? = some (.own 0) ∧ A.st = [.lst (rollD d m).ds] } from
      R [some a] _ H _ k ⟨fun _ _ _ _ z => z.elim, fun os A σ r v H' ⟨h1, h2, h3⟩ k' g' i' => by
        have o0 := g'.p 0 (some a) rfl
        obtain ⟨o, s1, a3, vs, s2, s3, s4⟩ := k'.store (i := 0) (s := .lst (rollD d m).ds) (by rw [h3]; rfl)
        rw [o0] at s1; cases s1; cases s2
        rw [vs_of s4] at s3
        subst h1
        rw [Is.v_iff.mp i']
        refine q H' (fun b o hb e n => k'.ex b o ?_ n) k'.tb s3
        show (if b = a then none else H b) = some o
        rw [if_neg hb]
        exact e, fun _ _ _ _ z => z.elim, fun _ _ _ _ z => z.elim, fun _ _ z => z.elim⟩
    have dz : ∀ z : Int, EvS ⟨K, T, (fun b => if b = a then none else H b), []⟩ (tOp (rEqA K) (tOp (rIx K) (tVar 0) (tC (.int 2))) (tC (.int z))) ⟨[.own 0, .d (di m), .un], [.lst d.ds]⟩ (db (decide (d.z = z))) ⟨[.own 0, .d (di m), .un], [.lst d.ds]⟩ := fun z => by wtm_at "ev"
    have dx : EvS ⟨K, T, (fun b => if b = a then none else H b), []⟩ (tOp (rI0 fun i j => .bl (decide (j < i))) (tOp (rIx K) (tVar 0) (tC (.int 0))) (tC (.int 0))) ⟨[.own 0, .d (di m), .un], [.lst d.ds]⟩ (db (decide (0 < d.x))) ⟨[.own 0, .d (di m), .un], [.lst d.ds]⟩ := by wtm_at "ev"
    by_cases hz : d.z = 2 ∨ (d.z = 1 ∧ 0 < d.x)
    · have eV : rollV d m = d.x.fmod m := if_pos hz
      have eD : rollD d m = ⟨d.x.fdiv m, d.y, d.z⟩ := if_pos hz
      refine r_seq (r_ifTs ?tt ?_)
      case tt =>
        by_cases z2 : d.z = 2
        · exact t_orT (t_is (t_test (dz 2)) (decide_eq_true z2))
        · exact t_orF (t_is (t_test (dz 2)) (decide_eq_false z2)) (t_andT (t_is (t_test (dz 1)) (decide_eq_true (hz.resolve_left z2).1)) (t_is (t_test dx) (decide_eq_true (hz.resolve_left z2).2)))
      refine r_seq (r_asg (by wtm_at "ev") ?_)
      refine r_seq (r_setO (by wtm_at "ev") rfl rfl rfl ?_)
      refine r_ret (by wtm_at "ev") ⟨by rw [eV], rfl, by rw [eD]; rfl⟩
    · have eV : rollV d m = (((d.x * 48271 + d.y * 69621 + 11).fmod 2147483647).fdiv 7).fmod m := if_neg hz
      have eD : rollD d m = ⟨(d.x * 48271 + d.y * 69621 + 11).fmod 2147483647, d.y + 1, 0⟩ := if_neg hz
      refine r_seq (r_ifFs ?tt (r_next ?_))
      case tt =>
        refine t_orF (t_is (t_test (dz 2)) (decide_eq_false fun z => hz (.inl z))) ?_
        by_cases z1 : d.z = 1
        · exact t_andT (t_is (t_test (dz 1)) (decide_eq_true z1)) (t_is (t_test dx) (decide_eq_false fun z => hz (.inr ⟨z1, z⟩)))
        · exact t_andF (t_is (t_test (dz 1)) (decide_eq_false z1))
      refine r_seq (r_setO (by wtm_at "ev") rfl rfl rfl ?_)
      refine r_seq (r_setO (by wtm_at "ev") rfl rfl rfl ?_)
      refine r_seq (r_setO (by wtm_at "ev") rfl rfl rfl ?_)
      refine r_ret (by wtm_at "ev") ⟨by rw [eV], rfl, by rw [eD]; rfl⟩

theorem ok_law_rounds (X : Txt K mg) (F : ∃ fd, FunD K "_law_rounds" "_law_rounds" (defArgs s__law_rounds) (defBody s__law_rounds) (defScope s__law_rounds) [] [] (He.ga K "_law_rounds") fd) (hm : mg "_law_rounds" = some (.ref (He.ga K "_law_rounds"))) (G__law_dice : Gd P w K mg base "_law_dice" ["cell"] 1 (spDice K T)) : Gd P w K mg base "_law_rounds" ["script", "most"] 2 (spRounds K T) := by
  have Tx := X
  obtain ⟨fd, F⟩ := F
  have hb := F.bindsN (ps := ["script", "most"]) fun _ _ _ _ _ _ us hl => match us, hl with | [_, _], _ => rfl
  refine ⟨_, fd, F.ok sc__law_rounds (fun vs H Q E h => ?len) (fun cdv A outer s H vs Q E hr h => ?body), hb, F.kp, hm⟩
  case len => (obtain ⟨s, ns, rfl, _⟩ := h; rfl)
  case body =>
    have sc := sc__law_rounds
    refine ⟨_, (pss_cons (ps_set (i := 2) sc.nd rfl (Or.inl rfl) (pe_slice sl_list (pv 0) po_none (po_some (pv 1))))
  (pss_cons (ps_if (pt_cmpR (op_eqA hr.units) (pv 2) (pe_lst pa_nil) (nomark _)) (pss_one (ps_set (i := 2) sc.nd rfl (Or.inl rfl) (pe_lst (pa_cons pe_int pa_nil)))) pss_nil)
  (pss_one (ps_ret (pe_lc (own := [("cell", 3)]) rfl sc.nd (pi_list (pv 2)) (blkOk_by (own := [("cell", 3)]) (N := ["script", "most", "cells", "cell"]) (sc := defScope s__law_rounds) (by decide +kernel)) (fun _ _ _ _ _ => (pg_name (i := 3) sc.nd rfl (Or.inl rfl))) (fun _ _ _ _ _ => pts_nil) (fun _ _ _ _ _ => (pe_callG G__law_dice (hr.mono (by decide)) passL (pa_cons (pv 3) pa_nil)))))))), ?_⟩
    clear sc hr
    try dsimp only [cxOf]

    obtain ⟨s, ns, rfl, hq, hl, hz, ht, q⟩ := h
    have i1 : IsA K H [.lst (ns.map di), di 1] [.ref s, .int 1] := isA_cons (by rw [Is]; exact ⟨s, _, rfl, hq, (by rw [show ns.map di = (ns.map V.int).map Dt.v by rw [List.map_map]; rfl]; exact flat_isA)⟩) (isA_cons is_v isA_nil)
    have k := start_ok (K := K) (T := T) (N := ["script", "most", "cells", "cell"]) (H := H) (O := []) (fun a h => by cases h) ht i1
    have hc : Sz 1048576 (ns.headD 0) := by
      cases ns with
      | nil => exact Nat.pow_pos (by decide)
      | cons a r => exact hz a (List.mem_cons_self ..)
    have cut : cutL (ns.map di) none (some 1) = (ns.take 1).map di := by
      cases ns with
      | nil => rfl
      | cons a r => simp [cutL, HT.sIx]
    have R : RunS ⟨K, T, H, []⟩ E (tSeq (tAsg (tSl (rSlL K) (tVar 0) tNoPart (tPart (tVar 1))) (gName 2)) (tSeq (tIfS (tTest (tOp (rEqA K) (tVar 2) (tLst tNil))) (tAsg (tLst (tCons (tC (.int 0)) tNil)) (gName 2)) tNext) tNext)) ⟨[.d (.lst (ns.map di)), .d (di 1), .un, .un], []⟩ { nx := fun A => A = ⟨[.d (.lst (ns.map di)), .d (di 1), .d (.lst [di (ns.headD 0)]), .un], []⟩ } := by
      refine r_seq (r_asg (e_slL (by wtm_at "ev") o_no (o_part (by wtm_at "ev"))) ?_)
      rw [cut]
      cases ns with
      | nil =>
        refine r_seq (r_ifTs (t_is (t_test (by wtm_at "ev")) (by rfl)) ?_)
        refine r_asg (by wtm_at "ev") (r_next ?_)
        rfl
      | cons a r =>
        refine r_seq (r_ifFs (t_is (t_test (by wtm_at "ev")) (by rfl)) (r_next (r_next ?_)))
        rfl
    refine seq_last (R [] _ H _ k ⟨fun os A σ H1 hA k1 g1 => ?_, fun _ _ _ _ _ _ z => z.elim, fun _ _ _ _ z => z.elim, fun _ _ _ _ z => z.elim, fun _ _ z => z.elim⟩)
    subst hA
    exact ret_dice (i := 2) (j := 3) k1 rfl hc (by decide) (by rw [k1.sn]; exact Nat.le_of_ble_eq_true rfl) rfl q

end
end Law.KD
end

section
set_option Elab.async false
set_option linter.all false
set_option maxRecDepth 100000
set_option maxHeartbeats 4000000
set_option autoImplicit false
set_option exponentiation.threshold 100
namespace Law.KM
open PySem PySem.Spec PyProof.Rows L2 Py
def top (i : Nat) : Stmt := PySem.Challenge.pw_algebrastack_k01_whole_numbers_and_fract.main.body.getD i (.Pass ⟨0, 0, 0, 0⟩)

local macro_rules | `(tactic| wtm_at "op") => `(tactic| first
  | with_reducible exact o_I0 | with_reducible exact o_add | with_reducible exact o_eqI | with_reducible exact o_neI
  | ((with_reducible apply o_mul); first | assumption | wtm_at "si")
  | ((with_reducible apply o_I); first | assumption | wtm_at "si")
  | ((with_reducible apply o_ixT); rfl) | ((with_reducible apply o_ixL); rfl)
  | ((with_reducible apply o_eqD) <;> first | rfl | decide | assumption) | ((with_reducible apply o_neD) <;> first | rfl | decide | assumption)
  | with_reducible assumption)
local macro_rules | `(tactic| wtm_at "si") => `(tactic| first | decide | exact ⟨by decide, by decide +kernel⟩ | omega)
local macro_rules | `(tactic| wtm_at "ev") => `(tactic| first
  | ((with_reducible apply e_var); rfl) | with_reducible exact e_c | with_reducible exact a_nil
  | ((with_reducible apply a_cons) <;> wtm_at "ev")
  | ((with_reducible apply e_bin) <;> first | wtm_at "ev" | wtm_at "op")
  | ((with_reducible apply e_ixO) <;> first | rfl | wtm_at "ev")
  | ((with_reducible apply e_U) <;> wtm_at "ev")
  | ((with_reducible apply t_test) <;> wtm_at "ev")
  | ((with_reducible apply t_B) <;> wtm_at "ev")
  | ((with_reducible apply t_not) <;> wtm_at "ev")
  | ((with_reducible apply e_tup) <;> first | wtm_at "ev" | exact Nat.le_of_ble_eq_true rfl)
  | ((with_reducible apply e_lst) <;> first | wtm_at "ev" | exact Nat.le_of_ble_eq_true rfl)
  | ((with_reducible apply e_gcd) <;> wtm_at "ev")
  | ((with_reducible apply e_abs) <;> wtm_at "ev")
  | ((with_reducible apply e_max2) <;> wtm_at "ev")
  | ((with_reducible apply e_int) <;> wtm_at "ev")
  | ((with_reducible apply e_intB) <;> wtm_at "ev")
  | ((with_reducible apply e_bits) <;> wtm_at "ev")
  | ((with_reducible apply e_not) <;> wtm_at "ev")
  | with_reducible assumption)

section
variable {P : Program} {w : World} {K : Frg} {T : List (Addr × Str)} {mg : Str → Option Value} {base : Heap}

abbrev s__law_long : Stmt := top 52
theorem sc__law_long : FnScope ["dice", "size"] ["dice", "size"] (defScope s__law_long) := ⟨rfl, rfl, rfl, by decide +kernel, rfl, by decide +kernel, by decide +kernel⟩
/-! ### great rolls -/
def long : Nat → Dice → Int → Int × Dice
  | 0, d, _ => (0, d)
  | j + 1, d, m => if m ≤ 10 ^ 6 then (rollV d m, rollD d m) else ((long j d (m / 10 ^ 6)).1 * 10 ^ 6 + rollV (long j d (m / 10 ^ 6)).2 (10 ^ 6), rollD (long j d (m / 10 ^ 6)).2 (10 ^ 6))
theorem long_ok : ∀ {j : Nat} {d : Dice} {m : Int} {c : Nat}, 0 < j → DOk c d → 0 < m → m ≤ 10 ^ (6 * j) → 0 ≤ (long j d m).1 ∧ (long j d m).1 < m ∧ DOk (c + j) (long j d m).2
  | j + 1, d, m, c, _, hd, hm, hj => by
    unfold long
    split
    · have := roll_lt (d := d) hm
      have r := roll_ok hd hm
      exact ⟨this.1, this.2, ⟨r.x, by have := r.y; show (rollD d m).y.natAbs ≤ _; omega⟩⟩
    · rename_i hn
      have h1 : 0 < m / 10 ^ 6 := by omega
      have h2 : m / 10 ^ 6 ≤ 10 ^ (6 * j) := by
        have e : (10 : Int) ^ (6 * (j + 1)) = 10 ^ (6 * j) * 10 ^ 6 := by rw [← Int.pow_add]; rfl
        rw [e] at hj
        generalize (10 : Int) ^ (6 * j) = t at *
        omega
      have j0 : 0 < j := by
        rcases Nat.eq_zero_or_pos j with z | z
        · subst z; simp at hj; omega
        · exact z
      obtain ⟨a, b, r⟩ := long_ok (c := c) j0 hd h1 h2
      have p6 : (0 : Int) < 10 ^ 6 := by decide
      have q := roll_lt (d := (long j d (m / 10 ^ 6)).2) p6
      have r2 := roll_ok r p6
      refine ⟨?_, ?_, ⟨r2.x, by have := r2.y; show (rollD (long j d (m / 10 ^ 6)).2 (10 ^ 6)).y.natAbs ≤ _; omega⟩⟩
      · dsimp only; omega
      · dsimp only; omega
def gLong (j : Nat) : Dice → List V → V → Dice → Prop := fun d ws v d' => ∃ (m : Int) (c : Nat), ws = [.int m] ∧ 0 < j ∧ j ≤ 20 ∧ DOk c d ∧ c + j ≤ 1000000 ∧ 0 < m ∧ m ≤ 10 ^ (6 * j) ∧ v = .int (long j d m).1 ∧ d' = (long j d m).2
theorem ten_sz {j : Nat} {m : Int} (hj : j ≤ 20) (h0 : 0 ≤ m) (hm : m ≤ 10 ^ (6 * j)) : m.natAbs < 2 ^ 400 := by
  have h1 : (10 : Nat) ^ (6 * j) ≤ 10 ^ 120 := Nat.pow_le_pow_right (by decide) (by omega)
  have h2 : (10 : Nat) ^ 120 < 2 ^ 400 := by decide +kernel
  have h3 : (10 : Int) ^ (6 * j) = ((10 ^ (6 * j) : Nat) : Int) := by rw [Int.natCast_pow]; rfl
  rw [h3] at hm
  omega

theorem ok_law_long (F : ∃ fd, FunD K "_law_long" "_law_long" (defArgs s__law_long) (defBody s__law_long) (defScope s__law_long) [] [] (He.ga K "_law_long") fd) (hm : mg "_law_long" = some (.ref (He.ga K "_law_long"))) (Gr : Gd P w K mg base "_law_roll" ["dice", "many"] 1 (spRoll K T)) :
    ∀ j, Gd P w K mg base "_law_long" ["dice", "size"] (1 + j) (spTurn K T (gLong j)) := by
  obtain ⟨fd, F⟩ := F
  have hb := F.bindsN (ps := ["dice", "size"]) fun _ _ _ _ _ _ us hl => match us, hl with | [_, _], _ => rfl
  have G__law_roll := Gr.roll
  intro j
  induction j with
  | zero => exact ⟨_, fd, F.ok sc__law_long (fun vs H Q E h => by obtain ⟨_, _, _, _, _, _, _, ⟨_, _, _, z, _⟩, _⟩ := h; cases z) (fun cdv A outer s H vs Q E hr h => by obtain ⟨_, _, _, _, _, _, _, ⟨_, _, _, z, _⟩, _⟩ := h; cases z), hb, F.kp, hm⟩
  | succ j G__law_long =>
    rw [show 1 + (j + 1) = (1 + j) + 1 by omega]
    refine ⟨_, fd, F.ok sc__law_long (fun vs H Q E h => ?len) (fun cdv A outer s H vs Q E hr h => ?body), hb, F.kp, hm⟩
    case len =>
      obtain ⟨_, _, _, _, _, rfl, _, ⟨_, _, rfl, _⟩, _⟩ := h
      rfl
    case body =>
      have sc := sc__law_long
      refine ⟨_, (pss_cons (ps_if (pt_cmpR op_le (pv 1) (pe_op op_pow pe_int pe_int) (nomark _)) (pss_one (ps_ret (pe_callG G__law_roll (hr.mono (by omega)) psE (pa_cons (pv 0) (pa_cons (pv 1) pa_nil))))) pss_nil)
  (pss_one (ps_ret (pe_op op_addA (pe_op op_mulA (pe_callG G__law_long (hr.mono (Nat.le_refl _)) psE (pa_cons (pv 0) (pa_cons (pe_op op_fdivX (pv 1) (pe_op op_pow pe_int pe_int)) pa_nil))) (pe_op op_pow pe_int pe_int)) (pe_callG G__law_roll (hr.mono (by omega)) psE (pa_cons (pv 0) (pa_cons (pe_op op_pow pe_int pe_int) pa_nil))))))), ?_⟩
      clear sc hr
      try dsimp only [cxOf]
      obtain ⟨a, d, ws, v, d', rfl, ha, ⟨m, c, rfl, hj, hj2, hd, hc, hm0, hmj, rfl, rfl⟩, ht, q⟩ := h
      refine turn_fin (K := K) (T := T) (E := E) (sl := [.own 0, .d (di m)]) ha ht q rfl ?_
      have mz := ten_sz hj2 (Int.le_of_lt hm0) hmj
      have mz8 : Sz 8000 m := Nat.lt_of_lt_of_le mz (Nat.pow_le_pow_right (by decide) (by decide))
      have cp : CPow 10 6 := ⟨by decide, by decide, by decide⟩
      have e6 : (10 : Int) ^ (6 : Int).toNat = 10 ^ 6 := rfl
      have z6 : Sz 8000 (10 ^ 6 : Int) := Nat.lt_of_lt_of_le (by decide : 10 ^ 6 < 2 ^ 20) (Nat.pow_le_pow_right (by decide) (by decide))
      have ev6 : ∀ {A : AS}, EvS ⟨K, T, fun b => if b = a then none else H b, []⟩ (tOp (rI CPow fun i j => .int (i ^ j.toNat)) (tC (.int 10)) (tC (.int 6))) A (di (10 ^ 6)) A := e_is (e_bin e_c e_c (o_I cp)) rfl
      unfold long
      by_cases h6 : m ≤ 10 ^ 6
      · rw [if_pos h6]
        refine r_seq (r_ifTs (t_is (t_test (e_bin (e_var rfl) ev6 o_I0)) (decide_eq_true h6)) ?_)
        exact r_ret (e_turn (n := 0) (ws := [.int m]) rfl rfl (a_cons (e_var rfl) a_nil) ⟨m, c, rfl, hd, by omega, hm0, mz8, rfl, rfl⟩) ⟨rfl, rfl, rfl⟩
      · rw [if_neg h6]
        refine r_seq (r_ifFs (t_is (t_test (e_bin (e_var rfl) ev6 o_I0)) (decide_eq_false h6)) (r_next ?_))
        have h1 : 0 < m / 10 ^ 6 := by omega
        have h2 : m / 10 ^ 6 ≤ 10 ^ (6 * j) := by
          have e : (10 : Int) ^ (6 * (j + 1)) = 10 ^ (6 * j) * 10 ^ 6 := by rw [← Int.pow_add]; rfl
          rw [e] at hmj
          generalize (10 : Int) ^ (6 * j) = t at *
          omega
        have j0 : 0 < j := by
          rcases Nat.eq_zero_or_pos j with z | z
          · subst z; simp at hmj; omega
          · exact z
        obtain ⟨l0, l1, l2⟩ := long_ok (c := c) j0 hd h1 h2
        have dv : PDiv m (10 ^ 6) := divX 20 (by decide) (by decide)
        have fe : m.fdiv (10 ^ 6) = m / 10 ^ 6 := Int.fdiv_eq_ediv_of_nonneg _ (by decide)
        have mm : PMul (long j d (m / 10 ^ 6)).1 (10 ^ 6) := mulX 400 20 (by omega) (by decide)
        refine r_ret (e_bin (e_bin (e_turn (n := 0) (ws := [.int (m / 10 ^ 6)]) rfl rfl (a_cons (e_is (e_bin (e_var rfl) ev6 (o_I dv)) (congrArg di fe)) a_nil) ⟨m / 10 ^ 6, c, rfl, j0, by omega, hd, by omega, h1, h2, rfl, rfl⟩) ev6 (o_mul mm)) (e_turn (n := 0) (ws := [.int (10 ^ 6)]) rfl rfl (a_cons ev6 a_nil) ⟨10 ^ 6, c + j, rfl, l2, by omega, by decide, z6, rfl, rfl⟩) o_add) ⟨rfl, rfl, rfl⟩
end
end Law.KM
end

section
set_option Elab.async false
set_option linter.all false
set_option maxRecDepth 100000
set_option maxHeartbeats 4000000
set_option autoImplicit false
set_option exponentiation.threshold 100
namespace Law.KR
open PySem PySem.Spec PyProof.Rows L2 Py
def top (i : Nat) : Stmt := PySem.Challenge.pw_algebrastack_k01_whole_numbers_and_fract.main.body.getD i (.Pass ⟨0, 0, 0, 0⟩)

open Mt
local macro_rules | `(tactic| wtm_at "op") => `(tactic| first
  | with_reducible exact o_I0 | with_reducible exact o_add | with_reducible exact o_eqI | with_reducible exact o_neI
  | ((with_reducible apply o_mul); first | assumption | wtm_at "si")
  | ((with_reducible apply o_I); first | assumption | wtm_at "si")
  | ((with_reducible apply o_ixT); rfl) | ((with_reducible apply o_ixL); rfl)
  | ((with_reducible apply o_eqD) <;> first | rfl | decide | assumption) | ((with_reducible apply o_neD) <;> first | rfl | decide | assumption)
  | with_reducible assumption)
local macro_rules | `(tactic| wtm_at "si") => `(tactic| first | decide | exact ⟨by decide, by decide +kernel⟩ | omega)
local macro_rules | `(tactic| wtm_at "ev") => `(tactic| first
  | ((with_reducible apply e_var); rfl) | with_reducible exact e_c | with_reducible exact a_nil
  | ((with_reducible apply a_cons) <;> wtm_at "ev")
  | ((with_reducible apply e_bin) <;> first | wtm_at "ev" | wtm_at "op")
  | ((with_reducible apply e_ixO) <;> first | rfl | wtm_at "ev")
  | ((with_reducible apply e_U) <;> wtm_at "ev")
  | ((with_reducible apply t_test) <;> wtm_at "ev")
  | ((with_reducible apply t_B) <;> wtm_at "ev")
  | ((with_reducible apply t_not) <;> wtm_at "ev")
  | ((with_reducible apply e_tup) <;> first | wtm_at "ev" | exact Nat.le_of_ble_eq_true rfl)
  | ((with_reducible apply e_lst) <;> first | wtm_at "ev" | exact Nat.le_of_ble_eq_true rfl)
  | ((with_reducible apply e_gcd) <;> wtm_at "ev")
  | ((with_reducible apply e_abs) <;> wtm_at "ev")
  | ((with_reducible apply e_max2) <;> wtm_at "ev")
  | ((with_reducible apply e_int) <;> wtm_at "ev")
  | ((with_reducible apply e_intB) <;> wtm_at "ev")
  | ((with_reducible apply e_bits) <;> wtm_at "ev")
  | ((with_reducible apply e_not) <;> wtm_at "ev")
  | with_reducible assumption)

structure Txt (K : Frg) (mg : Str → Option Value) : Prop where
  gNumberError : mg "NumberError" = some (.ref (He.ga K "NumberError"))
  xNumberError : PySem.W.excIn K (He.ga K "NumberError") He.veBase "ValueError.__new__" = true ∧ PySem.W.keepIn K (.ref (He.ga K "NumberError")) = true ∧ PySem.W.subIn K (.ref (He.ga K "NumberError")) (.type "BaseException") = some true ∧ PySem.W.typeIn K (.ref (He.ga K "NumberError")) = some (.type "type")
  n_gcd : mg "gcd" = some (.builtin "math.gcd")
  n_abs : mg "abs" = none
  n_tuple : mg "tuple" = none
  n_range : mg "range" = none
  n_max : mg "max" = none
  c_MOST_TRIAL : ∃ u, mg "MOST_TRIAL" = some u ∧ RelV (.int 1000000) u
/-- the class NumberError -/
abbrev NE (K : Frg) : Addr := He.ga K "NumberError"
section
variable {P : Program} {w : World} {K : Frg} {T : List (Addr × Str)} {mg : Str → Option Value} {base : Heap}

abbrev s_rational : Stmt := top 29
theorem sc_rational : FnScope ["one", "other", "divisor"] ["one", "other"] (defScope s_rational) := ⟨rfl, rfl, rfl, by decide +kernel, rfl, by decide +kernel, by decide +kernel⟩
abbrev s_sum_of : Stmt := top 30
theorem sc_sum_of : FnScope ["one", "other"] ["one", "other"] (defScope s_sum_of) := ⟨rfl, rfl, rfl, by decide +kernel, rfl, by decide +kernel, by decide +kernel⟩
abbrev s_difference_of : Stmt := top 31
theorem sc_difference_of : FnScope ["one", "other"] ["one", "other"] (defScope s_difference_of) := ⟨rfl, rfl, rfl, by decide +kernel, rfl, by decide +kernel, by decide +kernel⟩
abbrev s_product_of : Stmt := top 32
theorem sc_product_of : FnScope ["one", "other"] ["one", "other"] (defScope s_product_of) := ⟨rfl, rfl, rfl, by decide +kernel, rfl, by decide +kernel, by decide +kernel⟩
abbrev s_quotient_of : Stmt := top 33
theorem sc_quotient_of : FnScope ["one", "other"] ["one", "other"] (defScope s_quotient_of) := ⟨rfl, rfl, rfl, by decide +kernel, rfl, by decide +kernel, by decide +kernel⟩
abbrev s_sign : Stmt := top 34
theorem sc_sign : FnScope ["one"] ["one"] (defScope s_sign) := ⟨rfl, rfl, rfl, by decide +kernel, rfl, by decide +kernel, by decide +kernel⟩
abbrev s_compared : Stmt := top 35
theorem sc_compared : FnScope ["one", "other"] ["one", "other"] (defScope s_compared) := ⟨rfl, rfl, rfl, by decide +kernel, rfl, by decide +kernel, by decide +kernel⟩
def sp_gcd : List Dt → Rs → Prop := fun ds r => ∃ a b : Int, ds = [di a, di b] ∧ r = .ok (di (Int.gcd a b))
def sp_rat (K : Frg) : List Dt → Rs → Prop := fun ds r => ∃ a b : Int, ds = [di a, di b] ∧ Sz 8000 b ∧ r = ratR (NE K) a b
def sp_two (K : Frg) (f g : Int × Int → Int × Int → Int) : List Dt → Rs → Prop := fun ds r => ∃ p q : Int × Int, ds = [fr p, fr q] ∧ SzF 3000 p ∧ SzF 3000 q ∧ r = ratR (NE K) (f p q) (g p q)

theorem ok_rational (X : Txt K mg) (F : ∃ fd, FunD K "rational" "rational" (defArgs s_rational) (defBody s_rational) (defScope s_rational) [.int 1] [] (He.ga K "rational") fd) (hm : mg "rational" = some (.ref (He.ga K "rational"))) (G_common_divisor : Gd P w K mg base "common_divisor" ["one", "other"] 1 (spD K T sp_gcd)) : Gd P w K mg base "rational" ["one", "other"] 2 (spD K T (sp_rat K)) := by
  have Tx := X
  refine mkGD F hm (by simp) sc_rational (fun T kV doc pm an cdv ct us its hl hi => match us, hl, its, hi with | [_, _], _, [_], _ => ⟨_, rfl, rfl⟩) (fun ds r h => ?len) (fun cdv A outer s H E hr => ?body)
  case len => (obtain ⟨_, _, rfl, _⟩ := h; rfl)
  case body =>
    have sc := sc_rational
    refine ⟨_, (pss_cons (ps_if (pt_cmpR (op_eqA hr.units) (pv 1) pe_int (nomark _)) (pss_one (ps_rz rfl takesE PySem.F.excBase_ValueError Tx.xNumberError.1 Tx.gNumberError Tx.xNumberError.2.1 (raises_own Tx.xNumberError.2.2.1 Tx.xNumberError.2.2.2) rfl)) pss_nil)
  (pss_cons (ps_set (i := 2) sc.nd rfl (Or.inl rfl) (pe_callG G_common_divisor (hr.mono (by decide)) psE (pa_cons (pv 0) (pa_cons (pv 1) pa_nil))))
  (pss_cons (ps_if (pt_cmpR op_lt (pv 1) pe_int (nomark _)) (pss_one (ps_set (i := 2) sc.nd rfl (Or.inl rfl) (pe_un un_neg (pv 2)))) pss_nil)
  (pss_one (ps_ret (pe_tup (pa_cons (pe_op op_fdivX (pv 0) (pv 2)) (pa_cons (pe_op op_fdivX (pv 1) (pv 2)) pa_nil)))))))), fun O ds r hg => ?_⟩
    clear sc hr
    try dsimp only [cxOf]

    obtain ⟨a, b, rfl, hb, rfl⟩ := hg
    unfold ratR
    refine r_seq (r_ifs (b := decide (b = 0)) (by wtm_at "ev") (fun hc => ?_) fun hc => ?_)
    · rw [if_pos (by simpa using hc)]
      exact r_raise rfl
    · have h0 : b ≠ 0 := by simpa using hc
      rw [if_neg h0]
      refine r_next (r_seq (r_asg (e_call (by wtm_at "ev") ⟨a, b, rfl, rfl⟩) ?_))
      have gz := gcd_sz (a := a) h0 hb
      have g0 := gcd_ne (a := a) h0
      unfold ratI
      by_cases hn : b < 0
      · rw [if_pos hn]
        refine r_seq (r_ifTs (t_is (by wtm_at "ev") (decide_eq_true hn)) (r_asg (by wtm_at "ev") ?_))
        have gz' : Sz 8000 (-(Int.gcd a b : Int)) := by unfold Sz at *; omega
        have d1 : PDiv a (-(Int.gcd a b : Int)) := divX 8000 gz' (by omega)
        have d2 : PDiv b (-(Int.gcd a b : Int)) := divX 8000 gz' (by omega)
        exact r_ret (by wtm_at "ev") rfl
      · rw [if_neg hn]
        refine r_seq (r_ifFs (t_is (by wtm_at "ev") (decide_eq_false hn)) (r_next ?_))
        have d1 : PDiv a (Int.gcd a b : Int) := divX 8000 gz g0
        have d2 : PDiv b (Int.gcd a b : Int) := divX 8000 gz g0
        exact r_ret (by wtm_at "ev") rfl

theorem ok_sum_of (X : Txt K mg) (F : ∃ fd, FunD K "sum_of" "sum_of" (defArgs s_sum_of) (defBody s_sum_of) (defScope s_sum_of) [] [] (He.ga K "sum_of") fd) (hm : mg "sum_of" = some (.ref (He.ga K "sum_of"))) (G_rational : Gd P w K mg base "rational" ["one", "other"] 2 (spD K T (sp_rat K))) : Gd P w K mg base "sum_of" ["one", "other"] 3 (spD K T (sp_two K (fun p q => p.1 * q.2 + q.1 * p.2) (fun p q => p.2 * q.2))) := by
  have Tx := X
  refine mkG F hm sc_sum_of (fun _ _ _ _ _ _ us hl => match us, hl with | [_, _], _ => rfl) (fun ds r h => ?len) (fun cdv A outer s H E hr => ?body)
  case len => (obtain ⟨_, _, rfl, _⟩ := h; rfl)
  case body =>
    have sc := sc_sum_of
    refine ⟨_, (pss_one (ps_ret (pe_callG G_rational (hr.mono (by decide)) psE (pa_cons (pe_op op_addA (pe_op op_mulA (pe_ix ix_seq (pv 0) pe_int (fun _ _ => rfl)) (pe_ix ix_seq (pv 1) pe_int (fun _ _ => rfl))) (pe_op op_mulA (pe_ix ix_seq (pv 1) pe_int (fun _ _ => rfl)) (pe_ix ix_seq (pv 0) pe_int (fun _ _ => rfl)))) (pa_cons (pe_op op_mulA (pe_ix ix_seq (pv 0) pe_int (fun _ _ => rfl)) (pe_ix ix_seq (pv 1) pe_int (fun _ _ => rfl))) pa_nil))))), fun O ds r hg => ?_⟩
    clear sc hr
    try dsimp only [cxOf]

    obtain ⟨⟨a, b⟩, ⟨c, d⟩, rfl, hp, hq, rfl⟩ := hg
    have ha : a.natAbs < 2 ^ 3000 := hp.a
    have hb : b.natAbs < 2 ^ 3000 := hp.b
    have hc : c.natAbs < 2 ^ 3000 := hq.a
    have hd : d.natAbs < 2 ^ 3000 := hq.b
    have m0 : PMul a d := mulX 3000 3000 ha hd
    have m1 : PMul c b := mulX 3000 3000 hc hb
    have m2 : PMul b d := mulX 3000 3000 hb hd
    refine r_retCall (by wtm_at "ev") ⟨_, _, rfl, ?_, rfl⟩
    exact (Sz.mul (m := 3000) (n := 3000) (by assumption) (by assumption)).mono (by decide)

theorem ok_difference_of (X : Txt K mg) (F : ∃ fd, FunD K "difference_of" "difference_of" (defArgs s_difference_of) (defBody s_difference_of) (defScope s_difference_of) [] [] (He.ga K "difference_of") fd) (hm : mg "difference_of" = some (.ref (He.ga K "difference_of"))) (G_rational : Gd P w K mg base "rational" ["one", "other"] 2 (spD K T (sp_rat K))) : Gd P w K mg base "difference_of" ["one", "other"] 3 (spD K T (sp_two K (fun p q => p.1 * q.2 - q.1 * p.2) (fun p q => p.2 * q.2))) := by
  have Tx := X
  refine mkG F hm sc_difference_of (fun _ _ _ _ _ _ us hl => match us, hl with | [_, _], _ => rfl) (fun ds r h => ?len) (fun cdv A outer s H E hr => ?body)
  case len => (obtain ⟨_, _, rfl, _⟩ := h; rfl)
  case body =>
    have sc := sc_difference_of
    refine ⟨_, (pss_one (ps_ret (pe_callG G_rational (hr.mono (by decide)) psE (pa_cons (pe_op op_sub (pe_op op_mulA (pe_ix ix_seq (pv 0) pe_int (fun _ _ => rfl)) (pe_ix ix_seq (pv 1) pe_int (fun _ _ => rfl))) (pe_op op_mulA (pe_ix ix_seq (pv 1) pe_int (fun _ _ => rfl)) (pe_ix ix_seq (pv 0) pe_int (fun _ _ => rfl)))) (pa_cons (pe_op op_mulA (pe_ix ix_seq (pv 0) pe_int (fun _ _ => rfl)) (pe_ix ix_seq (pv 1) pe_int (fun _ _ => rfl))) pa_nil))))), fun O ds r hg => ?_⟩
    clear sc hr
    try dsimp only [cxOf]

    obtain ⟨⟨a, b⟩, ⟨c, d⟩, rfl, hp, hq, rfl⟩ := hg
    have ha : a.natAbs < 2 ^ 3000 := hp.a
    have hb : b.natAbs < 2 ^ 3000 := hp.b
    have hc : c.natAbs < 2 ^ 3000 := hq.a
    have hd : d.natAbs < 2 ^ 3000 := hq.b
    have m0 : PMul a d := mulX 3000 3000 ha hd
    have m1 : PMul c b := mulX 3000 3000 hc hb
    have m2 : PMul b d := mulX 3000 3000 hb hd
    refine r_retCall (by wtm_at "ev") ⟨_, _, rfl, ?_, rfl⟩
    exact (Sz.mul (m := 3000) (n := 3000) (by assumption) (by assumption)).mono (by decide)

theorem ok_product_of (X : Txt K mg) (F : ∃ fd, FunD K "product_of" "product_of" (defArgs s_product_of) (defBody s_product_of) (defScope s_product_of) [] [] (He.ga K "product_of") fd) (hm : mg "product_of" = some (.ref (He.ga K "product_of"))) (G_rational : Gd P w K mg base "rational" ["one", "other"] 2 (spD K T (sp_rat K))) : Gd P w K mg base "product_of" ["one", "other"] 3 (spD K T (sp_two K (fun p q => p.1 * q.1) (fun p q => p.2 * q.2))) := by
  have Tx := X
  refine mkG F hm sc_product_of (fun _ _ _ _ _ _ us hl => match us, hl with | [_, _], _ => rfl) (fun ds r h => ?len) (fun cdv A outer s H E hr => ?body)
  case len => (obtain ⟨_, _, rfl, _⟩ := h; rfl)
  case body =>
    have sc := sc_product_of
    refine ⟨_, (pss_one (ps_ret (pe_callG G_rational (hr.mono (by decide)) psE (pa_cons (pe_op op_mulA (pe_ix ix_seq (pv 0) pe_int (fun _ _ => rfl)) (pe_ix ix_seq (pv 1) pe_int (fun _ _ => rfl))) (pa_cons (pe_op op_mulA (pe_ix ix_seq (pv 0) pe_int (fun _ _ => rfl)) (pe_ix ix_seq (pv 1) pe_int (fun _ _ => rfl))) pa_nil))))), fun O ds r hg => ?_⟩
    clear sc hr
    try dsimp only [cxOf]

    obtain ⟨⟨a, b⟩, ⟨c, d⟩, rfl, hp, hq, rfl⟩ := hg
    have ha : a.natAbs < 2 ^ 3000 := hp.a
    have hb : b.natAbs < 2 ^ 3000 := hp.b
    have hc : c.natAbs < 2 ^ 3000 := hq.a
    have hd : d.natAbs < 2 ^ 3000 := hq.b
    have m0 : PMul a c := mulX 3000 3000 ha hc
    have m1 : PMul b d := mulX 3000 3000 hb hd
    refine r_retCall (by wtm_at "ev") ⟨_, _, rfl, ?_, rfl⟩
    exact (Sz.mul (m := 3000) (n := 3000) (by assumption) (by assumption)).mono (by decide)

theorem ok_quotient_of (X : Txt K mg) (F : ∃ fd, FunD K "quotient_of" "quotient_of" (defArgs s_quotient_of) (defBody s_quotient_of) (defScope s_quotient_of) [] [] (He.ga K "quotient_of") fd) (hm : mg "quotient_of" = some (.ref (He.ga K "quotient_of"))) (G_rational : Gd P w K mg base "rational" ["one", "other"] 2 (spD K T (sp_rat K))) : Gd P w K mg base "quotient_of" ["one", "other"] 3 (spD K T (sp_two K (fun p q => p.1 * q.2) (fun p q => p.2 * q.1))) := by
  have Tx := X
  refine mkG F hm sc_quotient_of (fun _ _ _ _ _ _ us hl => match us, hl with | [_, _], _ => rfl) (fun ds r h => ?len) (fun cdv A outer s H E hr => ?body)
  case len => (obtain ⟨_, _, rfl, _⟩ := h; rfl)
  case body =>
    have sc := sc_quotient_of
    refine ⟨_, (pss_one (ps_ret (pe_callG G_rational (hr.mono (by decide)) psE (pa_cons (pe_op op_mulA (pe_ix ix_seq (pv 0) pe_int (fun _ _ => rfl)) (pe_ix ix_seq (pv 1) pe_int (fun _ _ => rfl))) (pa_cons (pe_op op_mulA (pe_ix ix_seq (pv 0) pe_int (fun _ _ => rfl)) (pe_ix ix_seq (pv 1) pe_int (fun _ _ => rfl))) pa_nil))))), fun O ds r hg => ?_⟩
    clear sc hr
    try dsimp only [cxOf]

    obtain ⟨⟨a, b⟩, ⟨c, d⟩, rfl, hp, hq, rfl⟩ := hg
    have ha : a.natAbs < 2 ^ 3000 := hp.a
    have hb : b.natAbs < 2 ^ 3000 := hp.b
    have hc : c.natAbs < 2 ^ 3000 := hq.a
    have hd : d.natAbs < 2 ^ 3000 := hq.b
    have m0 : PMul a d := mulX 3000 3000 ha hd
    have m1 : PMul b c := mulX 3000 3000 hb hc
    refine r_retCall (by wtm_at "ev") ⟨_, _, rfl, ?_, rfl⟩
    exact (Sz.mul (m := 3000) (n := 3000) (by assumption) (by assumption)).mono (by decide)

/-- -1, 0 or 1 -/
def sgn (a : Int) : Int := if a = 0 then 0 else if 0 < a then 1 else -1
def sp_sign : List Dt → Rs → Prop := fun ds r => ∃ p : Int × Int, ds = [fr p] ∧ r = .ok (di (sgn p.1))

theorem ok_sign (X : Txt K mg) (F : ∃ fd, FunD K "sign" "sign" (defArgs s_sign) (defBody s_sign) (defScope s_sign) [] [] (He.ga K "sign") fd) (hm : mg "sign" = some (.ref (He.ga K "sign"))) : Gd P w K mg base "sign" ["one"] 1 (spD K T sp_sign) := by
  have Tx := X
  refine mkG F hm sc_sign (fun _ _ _ _ _ _ us hl => match us, hl with | [_], _ => rfl) (fun ds r h => ?len) (fun cdv A outer s H E hr => ?body)
  case len => (obtain ⟨_, rfl, _⟩ := h; rfl)
  case body =>
    have sc := sc_sign
    refine ⟨_, (pss_cons (ps_if (pt_cmpR (op_eqA hr.units) (pe_ix ix_seq (pv 0) pe_int (fun _ _ => rfl)) pe_int (nomark _)) (pss_one (ps_ret pe_int)) pss_nil)
  (pss_one (ps_ret (pe_ifExp (pt_cmpR op_gt (pe_ix ix_seq (pv 0) pe_int (fun _ _ => rfl)) pe_int (nomark _)) pe_int (pe_un un_neg pe_int))))), fun O ds r hg => ?_⟩
    clear sc hr
    try dsimp only [cxOf]

    obtain ⟨⟨a, b⟩, rfl, rfl⟩ := hg
    unfold sgn
    dsimp only
    refine r_seq (r_ifs (b := decide (a = 0)) (by wtm_at "ev") (fun hc => ?_) fun hc => ?_)
    · rw [if_pos (by simpa using hc)]
      exact r_ret (by wtm_at "ev") rfl
    · rw [if_neg (by simpa using hc)]
      refine r_next ?_
      by_cases hp : 0 < a
      · rw [if_pos hp]
        exact r_ret (e_ifT (t_is (by wtm_at "ev") (decide_eq_true hp)) (by wtm_at "ev")) rfl
      · rw [if_neg hp]
        exact r_ret (e_ifF (t_is (by wtm_at "ev") (decide_eq_false hp)) (by wtm_at "ev")) rfl

def sp_cmp (K : Frg) : List Dt → Rs → Prop := fun ds r => ∃ p q : Int × Int, ds = [fr p, fr q] ∧ SzF 3000 p ∧ SzF 3000 q ∧ p.2 * q.2 ≠ 0 ∧ r = .ok (di (sgn (ratI (p.1 * q.2 - q.1 * p.2) (p.2 * q.2)).1))

theorem ok_compared (X : Txt K mg) (F : ∃ fd, FunD K "compared" "compared" (defArgs s_compared) (defBody s_compared) (defScope s_compared) [] [] (He.ga K "compared") fd) (hm : mg "compared" = some (.ref (He.ga K "compared"))) (G_sign : Gd P w K mg base "sign" ["one"] 1 (spD K T sp_sign)) (G_difference_of : Gd P w K mg base "difference_of" ["one", "other"] 3 (spD K T (sp_two K (fun p q => p.1 * q.2 - q.1 * p.2) (fun p q => p.2 * q.2)))) : Gd P w K mg base "compared" ["one", "other"] 4 (spD K T (sp_cmp K)) := by
  have Tx := X
  refine mkG F hm sc_compared (fun _ _ _ _ _ _ us hl => match us, hl with | [_, _], _ => rfl) (fun ds r h => ?len) (fun cdv A outer s H E hr => ?body)
  case len => (obtain ⟨_, _, rfl, _⟩ := h; rfl)
  case body =>
    have sc := sc_compared
    refine ⟨_, (pss_one (ps_ret (pe_callG G_sign (hr.mono (by decide)) psE (pa_cons (pe_callG G_difference_of (hr.mono (by decide)) psE (pa_cons (pv 0) (pa_cons (pv 1) pa_nil))) pa_nil)))), fun O ds r hg => ?_⟩
    clear sc hr
    try dsimp only [cxOf]

    obtain ⟨p, q, rfl, hp, hq, h0, rfl⟩ := hg
    refine r_ret (e_call (a_cons (e_call (by wtm_at "ev") ⟨p, q, rfl, hp, hq, (if_neg h0).symm⟩) a_nil) ⟨_, rfl, rfl⟩) rfl

end
end Law.KR
end

section
set_option Elab.async false
set_option linter.all false
set_option maxRecDepth 100000
set_option maxHeartbeats 4000000
set_option autoImplicit false
set_option exponentiation.threshold 100
namespace Law.KR
open PySem PySem.Spec PyProof.Rows L2 Py
--def top (i : Nat) : Stmt := PySem.Challenge.pw_algebrastack_k01_whole_numbers_and_fract.main.body.getD i (.Pass ⟨0, 0, 0, 0⟩)

open Mt
local macro_rules | `(tactic| wtm_at "op") => `(tactic| first
  | with_reducible exact o_I0 | with_reducible exact o_add | with_reducible exact o_eqI | with_reducible exact o_neI
  | ((with_reducible apply o_mul); first | assumption | wtm_at "si")
  | ((with_reducible apply o_I); first | assumption | wtm_at "si")
  | ((with_reducible apply o_ixT); rfl) | ((with_reducible apply o_ixL); rfl)
  | ((with_reducible apply o_eqD) <;> first | rfl | decide | assumption) | ((with_reducible apply o_neD) <;> first | rfl | decide | assumption)
  | with_reducible assumption)
local macro_rules | `(tactic| wtm_at "si") => `(tactic| first | decide | exact ⟨by decide, by decide +kernel⟩ | omega)
local macro_rules | `(tactic| wtm_at "ev") => `(tactic| first
  | ((with_reducible apply e_var); rfl) | with_reducible exact e_c | with_reducible exact a_nil
  | ((with_reducible apply a_cons) <;> wtm_at "ev")
  | ((with_reducible apply e_bin) <;> first | wtm_at "ev" | wtm_at "op")
  | ((with_reducible apply e_ixO) <;> first | rfl | wtm_at "ev")
  | ((with_reducible apply e_U) <;> wtm_at "ev")
  | ((with_reducible apply t_test) <;> wtm_at "ev")
  | ((with_reducible apply t_B) <;> wtm_at "ev")
  | ((with_reducible apply t_not) <;> wtm_at "ev")
  | ((with_reducible apply e_tup) <;> first | wtm_at "ev" | exact Nat.le_of_ble_eq_true rfl)
  | ((with_reducible apply e_lst) <;> first | wtm_at "ev" | exact Nat.le_of_ble_eq_true rfl)
  | ((with_reducible apply e_gcd) <;> wtm_at "ev")
  | ((with_reducible apply e_abs) <;> wtm_at "ev")
  | ((with_reducible apply e_max2) <;> wtm_at "ev")
  | ((with_reducible apply e_int) <;> wtm_at "ev")
  | ((with_reducible apply e_intB) <;> wtm_at "ev")
  | ((with_reducible apply e_bits) <;> wtm_at "ev")
  | ((with_reducible apply e_not) <;> wtm_at "ev")
  | with_reducible assumption)

structure Txt3 (K : Frg) (mg : Str → Option Value) : Prop where
  gNumberError : mg "NumberError" = some (.ref (He.ga K "NumberError"))
  xNumberError : PySem.W.excIn K (He.ga K "NumberError") He.veBase "ValueError.__new__" = true ∧ PySem.W.keepIn K (.ref (He.ga K "NumberError")) = true ∧ PySem.W.subIn K (.ref (He.ga K "NumberError")) (.type "BaseException") = some true ∧ PySem.W.typeIn K (.ref (He.ga K "NumberError")) = some (.type "type")
  n_gcd : mg "gcd" = some (.builtin "math.gcd")
  n_abs : mg "abs" = none
  n_tuple : mg "tuple" = none
  n_range : mg "range" = none
  n_max : mg "max" = none
  c_ONE : TupC K mg "ONE" [.int 1, .int 1]
  c_MOST_DIGITS : ∃ u, mg "MOST_DIGITS" = some u ∧ RelV (.int 2000) u
  c_MOST_TRIAL : ∃ u, mg "MOST_TRIAL" = some u ∧ RelV (.int 1000000) u
section
variable {P : Program} {w : World} {K : Frg} {T : List (Addr × Str)} {mg : Str → Option Value} {base : Heap}

abbrev s_power_few : Stmt := top 37
theorem sc_power_few : FnScope ["number", "exponent"] ["number", "exponent"] (defScope s_power_few) := ⟨rfl, rfl, rfl, by decide +kernel, rfl, by decide +kernel, by decide +kernel⟩
abbrev s_few_digits : Stmt := top 38
theorem sc_few_digits : FnScope ["one", "bound"] ["one"] (defScope s_few_digits) := ⟨rfl, rfl, rfl, by decide +kernel, rfl, by decide +kernel, by decide +kernel⟩
abbrev s_raised : Stmt := top 36
theorem sc_raised : FnScope ["one", "exponent", "above", "below", "size"] ["one", "exponent"] (defScope s_raised) := ⟨rfl, rfl, rfl, by decide +kernel, rfl, by decide +kernel, by decide +kernel⟩
abbrev s_rational_text : Stmt := top 39
theorem sc_rational_text : FnScope ["one", "above", "below"] ["one"] (defScope s_rational_text) := ⟨rfl, rfl, rfl, by decide +kernel, rfl, by decide +kernel, by decide +kernel⟩
def sp_pow : List Dt → Rs → Prop := fun ds r => ∃ (x : Int) (n : Nat), ds = [di x, di (n : Int)] ∧ Sz 20000000 (x ^ n) ∧ Sz 20000000 x ∧ r = .ok (di (x ^ n))
/-! ### small powers, texts -/
def sp_pfew : List Dt → Rs → Prop := fun ds r => ∃ (x : Int) (n : Nat), ds = [di x, di (n : Int)] ∧ x.natAbs < 2 ^ 20 ∧ n ≤ 100 ∧ r = .ok (di (x ^ n))
def sp_few : List Dt → Rs → Prop := fun ds r => ∃ p : Int × Int, ds = [fr p] ∧ SzF 3000 p ∧ r = .ok (fr p)
theorem bits_le {x : Int} {n : Nat} (h : x.natAbs < 2 ^ n) : Builtin.Int.intBits x ≤ n := by
  unfold Builtin.Int.intBits
  split
  · exact Nat.zero_le _
  · rename_i h0
    have : x.natAbs ≠ 0 := fun z => h0 (by have : x = 0 := by omega
                                           rw [this]; rfl)
    exact (Nat.log2_lt this).mpr h
theorem pow_sz {x : Int} {n : Nat} (h : x.natAbs < 2 ^ 20) (hn : n ≤ 100) : (x ^ n).natAbs < 2 ^ 2001 := by
  rw [Int.natAbs_pow]
  have h1 : x.natAbs ^ n ≤ (2 ^ 20) ^ n := Nat.pow_le_pow_left (Nat.le_of_lt h) n
  rw [← Nat.pow_mul] at h1
  exact Nat.lt_of_le_of_lt h1 (Nat.pow_lt_pow_right (by decide) (by omega))
theorem ten_ge : (2 : Nat) ^ 3000 ≤ 10 ^ 2000 := by decide +kernel
theorem ten_lt : (10 : Nat) ^ 2000 < 2 ^ 8000 := by decide +kernel
theorem ten_cast : (10 : Int) ^ 2000 = ((10 ^ 2000 : Nat) : Int) := by rw [Int.natCast_pow]; rfl

theorem ok_power_few (X : Txt3 K mg) (F : ∃ fd, FunD K "power_few" "power_few" (defArgs s_power_few) (defBody s_power_few) (defScope s_power_few) [] [] (He.ga K "power_few") fd) (hm : mg "power_few" = some (.ref (He.ga K "power_few"))) (G_power : Gd P w K mg base "power" ["number", "exponent"] 3 (spD K T sp_pow)) : Gd P w K mg base "power_few" ["number", "exponent"] 4 (spD K T sp_pfew) := by
  have Tx := X
  refine mkG F hm sc_power_few (fun _ _ _ _ _ _ us hl => match us, hl with | [_, _], _ => rfl) (fun ds r h => ?len) (fun cdv A outer s H E hr => ?body)
  case len => (obtain ⟨_, _, rfl, _⟩ := h; rfl)
  case body =>
    have sc := sc_power_few
    refine ⟨_, (pss_cons (ps_if (pt_cmpR op_gt (pe_op op_mulA (pe_op op_sub (pe_bits (pv 0)) pe_int) (pv 1)) (pe_op op_mulA pe_int (peC Tx.c_MOST_DIGITS)) (nomark _)) (pss_one (ps_rz rfl takesE PySem.F.excBase_ValueError Tx.xNumberError.1 Tx.gNumberError Tx.xNumberError.2.1 (raises_own Tx.xNumberError.2.2.1 Tx.xNumberError.2.2.2) rfl)) pss_nil)
  (pss_one (ps_ret (pe_callG G_power (hr.mono (by decide)) psE (pa_cons (pv 0) (pa_cons (pv 1) pa_nil)))))), fun O ds r hg => ?_⟩
    clear sc hr
    try dsimp only [cxOf]

    obtain ⟨x, n, rfl, hx, hn, rfl⟩ := hg
    have hb := bits_le hx
    have m1 : PMul (((Builtin.Int.intBits x : Nat) : Int) - 1) (n : Int) := mulX 20 20 (by omega) (by omega)
    have m2 : PMul 4 2000 := mulX 20 20 (by decide) (by decide)
    have lt : ¬ ((4 : Int) * 2000 < (((Builtin.Int.intBits x : Nat) : Int) - 1) * (n : Int)) := by
      have h1 : ((((Builtin.Int.intBits x : Nat) : Int) - 1) * (n : Int)) ≤ 20 * (n : Int) := Int.mul_le_mul_of_nonneg_right (by omega) (by omega)
      omega
    refine r_seq (r_ifFs (t_is (t_test (by wtm_at "ev")) (decide_eq_false lt)) (r_next ?_))
    refine r_ret (e_call (by wtm_at "ev") ⟨x, n, rfl, Nat.lt_of_lt_of_le (pow_sz hx hn) (Nat.pow_le_pow_right (by decide) (by decide)), Nat.lt_of_lt_of_le hx (Nat.pow_le_pow_right (by decide) (by decide)), rfl⟩) rfl

theorem ok_few_digits (X : Txt3 K mg) (F : ∃ fd, FunD K "few_digits" "few_digits" (defArgs s_few_digits) (defBody s_few_digits) (defScope s_few_digits) [] [] (He.ga K "few_digits") fd) (hm : mg "few_digits" = some (.ref (He.ga K "few_digits"))) (G_power : Gd P w K mg base "power" ["number", "exponent"] 3 (spD K T sp_pow)) : Gd P w K mg base "few_digits" ["one"] 4 (spD K T sp_few) := by
  have Tx := X
  refine mkG F hm sc_few_digits (fun _ _ _ _ _ _ us hl => match us, hl with | [_], _ => rfl) (fun ds r h => ?len) (fun cdv A outer s H E hr => ?body)
  case len => (obtain ⟨_, rfl, _⟩ := h; rfl)
  case body =>
    have sc := sc_few_digits
    refine ⟨_, (pss_cons (ps_set (i := 1) sc.nd rfl (Or.inl rfl) (pe_callG G_power (hr.mono (by decide)) psE (pa_cons pe_int (pa_cons (peC Tx.c_MOST_DIGITS) pa_nil))))
  (pss_cons (ps_if (PW.pt (pw_or (pt_cmpR op_ge (pe_callB call_abs (by rfl) Tx.n_abs (by decide +kernel) (pa_cons (pe_ix ix_seq (pv 0) pe_int (fun _ _ => rfl)) pa_nil)) (pv 1) (nomark _)) (pw_or1 (pt_cmpR op_ge (pe_ix ix_seq (pv 0) pe_int (fun _ _ => rfl)) (pv 1) (nomark _))))) (pss_one (ps_rz rfl takesE PySem.F.excBase_ValueError Tx.xNumberError.1 Tx.gNumberError Tx.xNumberError.2.1 (raises_own Tx.xNumberError.2.2.1 Tx.xNumberError.2.2.2) rfl)) pss_nil)
  (pss_one (ps_ret (pv 0))))), fun O ds r hg => ?_⟩
    clear sc hr
    try dsimp only [cxOf]

    obtain ⟨⟨a, b⟩, rfl, hp, rfl⟩ := hg
    have ha : a.natAbs < 2 ^ 3000 := hp.a
    have hb : b.natAbs < 2 ^ 3000 := hp.b
    have s1 : Sz 20000000 ((10 : Int) ^ 2000) := by
      rw [ten_cast]
      exact Nat.lt_of_lt_of_le ten_lt (Nat.pow_le_pow_right (by decide) (by decide))
    refine r_seq (r_asg (e_call (a_cons e_c (a_cons e_c a_nil)) ⟨10, 2000, rfl, s1, Nat.lt_of_lt_of_le (by decide : 10 < 2 ^ 4) (Nat.pow_le_pow_right (by decide) (by decide)), rfl⟩) ?_)
    rw [ten_cast]
    have tg := ten_ge
    generalize (10 : Nat) ^ 2000 = t at *
    have l1 : ¬ ((t : Int) ≤ (if a < 0 then -a else a)) := by split <;> omega
    have l2 : ¬ ((t : Int) ≤ b) := by omega
    refine r_seq (r_ifFs (t_orF (t_is (t_test (by wtm_at "ev")) (decide_eq_false l1)) (t_is (t_test (by wtm_at "ev")) (decide_eq_false l2))) (r_next ?_))
    exact r_ret (by wtm_at "ev") rfl

def raisedR (e : Addr) (p : Int × Int) (n : Int) : Rs := if 0 ≤ n then .ok (fr (p.1 ^ n.natAbs, p.2 ^ n.natAbs)) else if p.1 = 0 then .err e else .ok (fr ((ratI p.2 p.1).1 ^ n.natAbs, (ratI p.2 p.1).2 ^ n.natAbs))
def sp_raised (K : Frg) : List Dt → Rs → Prop := fun ds r => ∃ (p : Int × Int) (n : Int), ds = [fr p, di n] ∧ p.1.natAbs < 2 ^ 20 ∧ p.2.natAbs < 2 ^ 20 ∧ n.natAbs ≤ 100 ∧ r = raisedR (NE K) p n
theorem ratI_le (a b : Int) : (ratI a b).1.natAbs ≤ a.natAbs ∧ (ratI a b).2.natAbs ≤ b.natAbs := by
  unfold ratI
  split <;> exact ⟨fdiv_abs_le _ _, fdiv_abs_le _ _⟩

theorem ok_raised (X : Txt3 K mg) (F : ∃ fd, FunD K "raised" "raised" (defArgs s_raised) (defBody s_raised) (defScope s_raised) [] [] (He.ga K "raised") fd) (hm : mg "raised" = some (.ref (He.ga K "raised"))) (G_quotient_of : Gd P w K mg base "quotient_of" ["one", "other"] 3 (spD K T (sp_two K (fun p q => p.1 * q.2) (fun p q => p.2 * q.1)))) (G_few_digits : Gd P w K mg base "few_digits" ["one"] 4 (spD K T sp_few)) (G_power_few : Gd P w K mg base "power_few" ["number", "exponent"] 4 (spD K T sp_pfew)) : Gd P w K mg base "raised" ["one", "exponent"] 5 (spD K T (sp_raised K)) := by
  have Tx := X
  obtain ⟨aO, mO, kO⟩ := X.c_ONE
  refine mkG F hm sc_raised (fun _ _ _ _ _ _ us hl => match us, hl with | [_, _], _ => rfl) (fun ds r h => ?len) (fun cdv A outer s H E hr => ?body)
  case len => (obtain ⟨_, _, rfl, _⟩ := h; rfl)
  case body =>
    have sc := sc_raised
    refine ⟨_, (pss_cons (ps_asg (pe_ifExp (pt_cmpR op_ge (pv 1) pe_int (nomark _)) (pv 0) (pe_callG G_quotient_of (hr.mono (by decide)) psE (pa_cons (peC (TupC.c mO)) (pa_cons (pv 0) pa_nil)))) (pg_tup rfl (pgs_cons (pg_name (i := 2) sc.nd rfl (Or.inl rfl)) (pgs_cons (pg_name (i := 3) sc.nd rfl (Or.inl rfl)) pgs_nil))))
  (pss_cons (ps_set (i := 4) sc.nd rfl (Or.inl rfl) (pe_callB call_abs (by rfl) Tx.n_abs (by decide +kernel) (pa_cons (pv 1) pa_nil)))
  (pss_one (ps_ret (pe_callG G_few_digits (hr.mono (by decide)) psE (pa_cons (pe_tup (pa_cons (pe_callG G_power_few (hr.mono (by decide)) psE (pa_cons (pv 2) (pa_cons (pv 4) pa_nil))) (pa_cons (pe_callG G_power_few (hr.mono (by decide)) psE (pa_cons (pv 3) (pa_cons (pv 4) pa_nil))) pa_nil))) pa_nil)))))), fun O ds r hg => ?_⟩
    clear sc hr
    try dsimp only [cxOf]

    obtain ⟨p, n, rfl, h1, h2, hn, rfl⟩ := hg
    have up : ∀ {x : Int}, x.natAbs < 2 ^ 20 → x.natAbs < 2 ^ 3000 := fun h => Nat.lt_of_lt_of_le h (Nat.pow_le_pow_right (by decide) (by decide))
    have ea : (if n < 0 then -n else n) = (n.natAbs : Int) := by split <;> omega
    unfold raisedR
    have rest : ∀ (q : Int × Int), q.1.natAbs < 2 ^ 20 → q.2.natAbs < 2 ^ 20 → RunS ⟨K, T, H, O⟩ E (tSeq (tAsg (tCB (fun xs H Q => ∃ i, xs = [V.int i] ∧ Q (V.int (if i < 0 then -i else i)) H) (tCons (tVar 1) tNil)) (gName 4)) (tRet (tCall (spD K T sp_few) [] E (tCons (tTup (tCons (tCall (spD K T sp_pfew) [] E (tCons (tVar 2) (tCons (tVar 4) tNil))) (tCons (tCall (spD K T sp_pfew) [] E (tCons (tVar 3) (tCons (tVar 4) tNil))) tNil))) tNil)))) ⟨[.d (fr p), .d (di n), .d (di q.1), .d (di q.2), .un], []⟩ (poR (.ok (fr (q.1 ^ n.natAbs, q.2 ^ n.natAbs)))) := fun q q1 q2 => by
      refine r_seq (r_asg (e_is (by wtm_at "ev") (congrArg di ea)) ?_)
      have z1 := Nat.lt_of_lt_of_le (pow_sz q1 hn) (Nat.pow_le_pow_right (n := 2) (by decide) (show 2001 ≤ 3000 by decide))
      have z2 := Nat.lt_of_lt_of_le (pow_sz q2 hn) (Nat.pow_le_pow_right (n := 2) (by decide) (show 2001 ≤ 3000 by decide))
      refine r_ret (e_call (a_cons (e_tup (a_cons (e_call (by wtm_at "ev") ⟨q.1, n.natAbs, rfl, q1, hn, rfl⟩) (a_cons (e_call (by wtm_at "ev") ⟨q.2, n.natAbs, rfl, q2, hn, rfl⟩) a_nil)) (Nat.le_of_ble_eq_true rfl)) a_nil) ⟨(q.1 ^ n.natAbs, q.2 ^ n.natAbs), rfl, ⟨z1, z2⟩, rfl⟩) rfl
    by_cases c : 0 ≤ n
    · rw [if_pos c]
      refine r_seq (r_tg (e_ifT (t_is (t_test (by wtm_at "ev")) (decide_eq_true c)) (e_var rfl)) (tg_tup rfl (tgA_cons tg_name (tgA_cons tg_name tgA_nil))) ?_)
      exact rest p h1 h2
    · rw [if_neg c]
      have cl : EvA ⟨K, T, H, O⟩ (tCons (tC (.ref aO)) (tCons (tVar 0) tNil)) (start ["one", "exponent", "above", "below", "size"] [fr p, di n]) [fr (1, 1), fr p] (start ["one", "exponent", "above", "below", "size"] [fr p, di n]) := a_cons (e_is (e_cT (C := ⟨K, T, H, O⟩) kO) rfl) (a_cons (e_var rfl) a_nil)
      have hg : sp_two K (fun p q => p.1 * q.2) (fun p q => p.2 * q.1) [fr (1, 1), fr p] (ratR (NE K) (1 * p.2) (1 * p.1)) := ⟨(1, 1), p, rfl, ⟨Nat.lt_of_lt_of_le (by decide : 1 < 2 ^ 1) (Nat.pow_le_pow_right (by decide) (by decide)), Nat.lt_of_lt_of_le (by decide : 1 < 2 ^ 1) (Nat.pow_le_pow_right (by decide) (by decide))⟩, ⟨up h1, up h2⟩, rfl⟩
      rw [Int.one_mul, Int.one_mul] at hg
      by_cases c0 : p.1 = 0
      · rw [if_pos c0]
        refine r_seq (x_asg (x_ifF (t_is (t_test (by wtm_at "ev")) (decide_eq_false c)) (x_call cl ?_)) rfl)
        rw [show ratR (NE K) p.2 p.1 = .err (NE K) from if_pos c0] at hg
        exact hg
      · rw [if_neg c0]
        rw [show ratR (NE K) p.2 p.1 = .ok (fr (ratI p.2 p.1)) from if_neg c0] at hg
        refine r_seq (r_tg (e_ifF (t_is (t_test (by wtm_at "ev")) (decide_eq_false c)) (e_call cl hg)) (tg_tup rfl (tgA_cons tg_name (tgA_cons tg_name tgA_nil))) ?_)
        have l := ratI_le p.2 p.1
        exact rest (ratI p.2 p.1) (by omega) (by omega)

def rtext (p : Int × Int) : Str := if p.2 = 1 then Str.ofString (toString p.1) else Str.empty ++ Str.ofString (toString p.1) ++ Str.ofString "/" ++ Str.ofString (toString p.2)
structure TxtOk (p : Int × Int) : Prop where
  a : p.1.natAbs < 2 ^ 100
  b : p.2.natAbs < 2 ^ 100
  la : (Str.empty ++ Str.ofString (toString p.1)).length ≤ 1000
  lb : (Str.empty ++ Str.ofString (toString p.1) ++ Str.ofString "/" ++ Str.ofString (toString p.2)).length ≤ 1000
def sp_rtext : List Dt → Rs → Prop := fun dl r => ∃ p : Int × Int, dl = [fr p] ∧ TxtOk p ∧ r = .ok (ds (rtext p))
theorem app_len (a b : Str) : a.length ≤ (a ++ b).length := by
  show a.cps.size ≤ (a.cps ++ b.cps).size
  rw [Array.size_append]
  omega

theorem ok_rational_text (X : Txt3 K mg) (F : ∃ fd, FunD K "rational_text" "rational_text" (defArgs s_rational_text) (defBody s_rational_text) (defScope s_rational_text) [] [] (He.ga K "rational_text") fd) (hm : mg "rational_text" = some (.ref (He.ga K "rational_text"))) (G_few_digits : Gd P w K mg base "few_digits" ["one"] 4 (spD K T sp_few)) : Gd P w K mg base "rational_text" ["one"] 5 (spD K T sp_rtext) := by
  have Tx := X
  refine mkG F hm sc_rational_text (fun _ _ _ _ _ _ us hl => match us, hl with | [_], _ => rfl) (fun ds r h => ?len) (fun cdv A outer s H E hr => ?body)
  case len => (obtain ⟨_, rfl, _⟩ := h; rfl)
  case body =>
    have sc := sc_rational_text
    refine ⟨_, (pss_cons (ps_asg (pe_callG G_few_digits (hr.mono (by decide)) psE (pa_cons (pv 0) pa_nil)) (pg_tup rfl (pgs_cons (pg_name (i := 1) sc.nd rfl (Or.inl rfl)) (pgs_cons (pg_name (i := 2) sc.nd rfl (Or.inl rfl)) pgs_nil))))
  (pss_one (ps_ret (pe_ifExp (pt_cmpR (op_eqA hr.units) (pv 2) pe_int (nomark _)) (pe_joined1 (pe_fmt (pv 1))) (pe_joined (PJ.cons (pe_fmt (pv 1)) (PJ.cons pe_str (PJ.cons (pe_fmt (pv 2)) PJ.nil)))))))), fun O ds r hg => ?_⟩
    clear sc hr
    try dsimp only [cxOf]

    obtain ⟨⟨a, b⟩, rfl, ⟨ha, hb, la, lb⟩, rfl⟩ := hg
    have up : ∀ {x : Int}, x.natAbs < 2 ^ 100 → x.natAbs < 2 ^ 3000 := fun h => Nat.lt_of_lt_of_le h (Nat.pow_le_pow_right (by decide) (by decide))
    have lg : ∀ {x : Int}, x.natAbs < 2 ^ 100 → x.natAbs.log2 < 1920 := fun {x} h => by
      by_cases z : x.natAbs = 0
      · rw [z]; decide
      · have := (Nat.log2_lt z).mpr h
        omega
    unfold rtext
    dsimp only at *
    refine r_seq (r_tg (e_call (by wtm_at "ev") ⟨(a, b), rfl, ⟨up ha, up hb⟩, rfl⟩) (tg_tup rfl (tgA_cons tg_name (tgA_cons tg_name tgA_nil))) ?_)
    by_cases c : b = 1
    · rw [if_pos c]
      exact r_ret (e_ifT (t_is (t_test (by wtm_at "ev")) (decide_eq_true c)) (e_fmtI (lg ha) (e_var rfl))) rfl
    · rw [if_neg c]
      have l2 := Nat.le_trans (app_len _ _) lb
      refine r_ret (e_ifF (t_is (t_test (by wtm_at "ev")) (decide_eq_false c)) (e_joined (j_cons (e_fmtI (lg ha) (e_var rfl)) (Nat.le_trans la (by decide)) (j_cons e_c (Nat.le_trans l2 (by decide)) (j_cons (e_fmtI (lg hb) (e_var rfl)) (Nat.le_trans lb (by decide)) j_nil))))) rfl

theorem txt_small : ∀ a : Fin 121, ∀ b : Fin 41, (Str.empty ++ Str.ofString (toString ((a.val : Int) - 60)) ++ Str.ofString "/" ++ Str.ofString (toString (b.val : Int))).length ≤ 1000 := by decide +kernel

end
end Law.KR
end

section
set_option Elab.async false
set_option linter.all false
set_option maxRecDepth 100000
set_option maxHeartbeats 4000000
set_option autoImplicit false
set_option exponentiation.threshold 100
namespace Law
open PySem PySem.Spec PyProof.Rows L2 Py
def top (i : Nat) : Stmt := PySem.Challenge.pw_algebrastack_k01_whole_numbers_and_fract.main.body.getD i (.Pass ⟨0, 0, 0, 0⟩)

open Mt
local macro_rules | `(tactic| wtm_at "op") => `(tactic| first
  | with_reducible exact o_I0 | with_reducible exact o_add | with_reducible exact o_eqI | with_reducible exact o_neI
  | ((with_reducible apply o_mul); first | assumption | wtm_at "si")
  | ((with_reducible apply o_I); first | assumption | wtm_at "si")
  | ((with_reducible apply o_ixT); rfl) | ((with_reducible apply o_ixL); rfl)
  | ((with_reducible apply o_eqD) <;> first | rfl | decide | assumption) | ((with_reducible apply o_neD) <;> first | rfl | decide | assumption)
  | with_reducible assumption)
local macro_rules | `(tactic| wtm_at "si") => `(tactic| first | decide | exact ⟨by decide, by decide +kernel⟩ | omega)
local macro_rules | `(tactic| wtm_at "ev") => `(tactic| first
  | ((with_reducible apply e_var); rfl) | with_reducible exact e_c | with_reducible exact a_nil
  | ((with_reducible apply a_cons) <;> wtm_at "ev")
  | ((with_reducible apply e_bin) <;> first | wtm_at "ev" | wtm_at "op")
  | ((with_reducible apply e_ixO) <;> first | rfl | wtm_at "ev")
  | ((with_reducible apply e_U) <;> wtm_at "ev")
  | ((with_reducible apply t_test) <;> wtm_at "ev")
  | ((with_reducible apply t_B) <;> wtm_at "ev")
  | ((with_reducible apply t_not) <;> wtm_at "ev")
  | ((with_reducible apply e_tup) <;> first | wtm_at "ev" | exact Nat.le_of_ble_eq_true rfl)
  | ((with_reducible apply e_lst) <;> first | wtm_at "ev" | exact Nat.le_of_ble_eq_true rfl)
  | ((with_reducible apply e_gcd) <;> wtm_at "ev")
  | ((with_reducible apply e_abs) <;> wtm_at "ev")
  | ((with_reducible apply e_max2) <;> wtm_at "ev")
  | ((with_reducible apply e_int) <;> wtm_at "ev")
  | ((with_reducible apply e_intB) <;> wtm_at "ev")
  | ((with_reducible apply e_bits) <;> wtm_at "ev")
  | ((with_reducible apply e_not) <;> wtm_at "ev")
  | with_reducible assumption)

structure Txt (K : Frg) (mg : Str → Option Value) : Prop where
  gNumberError : mg "NumberError" = some (.ref (He.ga K "NumberError"))
  xNumberError : PySem.W.excIn K (He.ga K "NumberError") He.veBase "ValueError.__new__" = true ∧ PySem.W.keepIn K (.ref (He.ga K "NumberError")) = true ∧ PySem.W.subIn K (.ref (He.ga K "NumberError")) (.type "BaseException") = some true ∧ PySem.W.typeIn K (.ref (He.ga K "NumberError")) = some (.type "type")
  n_gcd : mg "gcd" = some (.builtin "math.gcd")
  n_abs : mg "abs" = none
  n_tuple : mg "tuple" = none
  n_range : mg "range" = none
  n_max : mg "max" = none
  c_MOST_TRIAL : ∃ u, mg "MOST_TRIAL" = some u ∧ RelV (.int 1000000) u
/-- the class NumberError -/
abbrev NE (K : Frg) : Addr := He.ga K "NumberError"
section
variable {P : Program} {w : World} {K : Frg} {T : List (Addr × Str)} {mg : Str → Option Value} {base : Heap}

abbrev s_divided_out : Stmt := top 14
theorem sc_divided_out : FnScope ["number", "divisor", "rest", "exponent"] ["number", "divisor"] (defScope s_divided_out) := ⟨rfl, rfl, rfl, by decide +kernel, rfl, by decide +kernel, by decide +kernel⟩
abbrev s_prime_factors : Stmt := top 13
theorem sc_prime_factors : FnScope ["number", "rows", "left", "divisor", "exponent"] ["number"] (defScope s_prime_factors) := ⟨rfl, rfl, rfl, by decide +kernel, rfl, by decide +kernel, by decide +kernel⟩
theorem n_mod (m d : Nat) : (m : Int).fmod (d : Int) = ((m % d : Nat) : Int) := by
  rw [Int.fmod_eq_emod_of_nonneg _ (Int.natCast_nonneg d)]
  rfl
theorem n_div (m d : Nat) : (m : Int).fdiv (d : Int) = ((m / d : Nat) : Int) := by
  rw [Int.fdiv_eq_ediv_of_nonneg _ (Int.natCast_nonneg d)]
  rfl
theorem n_sz {n : Nat} {m : Nat} (h : m < 2 ^ n) : Sz n (m : Int) := h
/-- a divisor is taken out: what is left, how often -/
def outF : Nat → Nat → Nat → Nat → Nat × Nat
  | 0, n, _, e => (n, e)
  | k + 1, n, d, e => if n % d = 0 then outF k (n / d) d (e + 1) else (n, e)
def outN (n d : Nat) : Nat × Nat := outF n n d 0
theorem outF_step {k n d e : Nat} (h : n % d = 0) : outF (k + 1) n d e = outF k (n / d) d (e + 1) := if_pos h
theorem outF_done {k n d e : Nat} (h : n % d ≠ 0) : outF k n d e = (n, e) := by
  cases k with
  | zero => rfl
  | succ k => exact if_neg h
theorem div_lt {n d : Nat} (h0 : 0 < n) (hd : 2 ≤ d) (h : n % d = 0) : 0 < n / d ∧ 2 * (n / d) ≤ n := by
  have e := Nat.div_add_mod n d
  have h1 : 2 * (n / d) ≤ d * (n / d) := Nat.mul_le_mul_right _ hd
  have h2 : n / d ≠ 0 := fun z => by rw [z] at e; omega
  omega
theorem outF_le {d : Nat} (hd : 2 ≤ d) : ∀ {k n e : Nat}, 0 < n → 0 < (outF k n d e).1 ∧ (outF k n d e).1 ≤ n
  | 0, n, e, h => ⟨h, Nat.le_refl _⟩
  | k + 1, n, e, h => by
    unfold outF
    split
    · rename_i q
      have := div_lt h hd q
      have := outF_le hd (k := k) (e := e + 1) this.1
      omega
    · exact ⟨h, Nat.le_refl _⟩
theorem outN_le {n d : Nat} (h0 : 0 < n) (hd : 2 ≤ d) (h : n % d = 0) : 0 < (outN n d).1 ∧ 2 * (outN n d).1 ≤ n := by
  unfold outN
  obtain ⟨m, rfl⟩ : ∃ m, n = m + 1 := ⟨n - 1, by omega⟩
  rw [outF_step h]
  have h1 := div_lt h0 hd h
  have h2 := outF_le hd (k := m) (e := 0 + 1) h1.1
  omega
def sp_out : List Dt → Rs → Prop := fun ds r => ∃ n d : Nat, ds = [di (n : Int), di (d : Int)] ∧ 0 < n ∧ 2 ≤ d ∧ d < 2 ^ 8000 ∧ r = .ok (.tup [di ((outN n d).1 : Int), di ((outN n d).2 : Int)])

theorem ok_divided_out (X : Txt K mg) (F : ∃ fd, FunD K "divided_out" "divided_out" (defArgs s_divided_out) (defBody s_divided_out) (defScope s_divided_out) [] [] (He.ga K "divided_out") fd) (hm : mg "divided_out" = some (.ref (He.ga K "divided_out"))) : Gd P w K mg base "divided_out" ["number", "divisor"] 1 (spD K T sp_out) := by
  have Tx := X
  refine mkG F hm sc_divided_out (fun _ _ _ _ _ _ us hl => match us, hl with | [_, _], _ => rfl) (fun ds r h => ?len) (fun cdv A outer s H E hr => ?body)
  case len => (obtain ⟨_, _, rfl, _⟩ := h; rfl)
  case body =>
    have sc := sc_divided_out
    refine ⟨_, (pss_cons (ps_par (i := 2) (j := 3) rfl sc.nd rfl rfl (by decide) rfl rfl (pa_cons (pv 0) (pa_cons pe_int pa_nil)) (by rfl))
  (pss_cons (ps_while (passesE) (pt_cmpR (op_eqA hr.units) (pe_op op_modN (pv 2) (pv 1)) pe_int (nomark _)) (pss_one (ps_par (i := 2) (j := 3) rfl sc.nd rfl rfl (by decide) rfl rfl (pa_cons (pe_op op_fdivX (pv 2) (pv 1)) (pa_cons (pe_op op_addA (pv 3) pe_int) pa_nil)) (by rfl))))
  (pss_one (ps_ret (pe_tup (pa_cons (pv 2) (pa_cons (pv 3) pa_nil))))))), fun O ds r hg => ?_⟩
    clear sc hr
    try dsimp only [cxOf]

    obtain ⟨n, d, rfl, hn, hd, hz, rfl⟩ := hg
    have hz' : (d : Int).natAbs < 2 ^ 8000 := hz
    have d0 : (d : Int) ≠ 0 := by omega
    refine r_seq (r_par (by wtm_at "ev") ?_)
    refine r_seq (r_while (fun m A => ∃ k e : Nat, 0 < m ∧ m ≤ k ∧ outF k m d e = outN n d ∧ A = ⟨[.d (di (n : Int)), .d (di (d : Int)), .d (di (m : Int)), .d (di (e : Int))], []⟩) n ⟨n, 0, hn, Nat.le_refl _, rfl, rfl⟩ ?_)
    rintro m A ⟨k, e, h0, hk, he, rfl⟩
    refine ⟨decide ((m : Int).fmod (d : Int) = 0), _, by wtm_at "ev", fun hb => ?_, fun hb => ?_⟩
    · have hb' : m % d = 0 := by
        have := of_decide_eq_true hb
        rw [n_mod] at this
        omega
      have dv : PDiv (m : Int) (d : Int) := divX 8000 hz' d0
      have lt := div_lt h0 hd hb'
      obtain ⟨k, rfl⟩ : ∃ j, k = j + 1 := ⟨k - 1, by omega⟩
      refine r_par (by wtm_at "ev") ⟨m / d, by omega, k, e + 1, lt.1, by omega, by rw [← he, outF_step hb'], ?_⟩
      rw [n_div]
      rfl
    · have hb' : m % d ≠ 0 := fun z => by
        have := of_decide_eq_false hb
        rw [n_mod, z] at this
        exact this rfl
      rw [outF_done hb'] at he
      refine r_ret (by wtm_at "ev") ?_
      rw [← he]
      rfl

/-! ### the prime factors -/
def nxt (d : Nat) : Nat := if 2 < d then d + 2 else 3
abbrev Row := Nat × Nat
def row (p : Row) : Dt := .tup [di (p.1 : Int), di (p.2 : Int)]
def pfF : Nat → Nat → Nat → List Row → Nat × List Row
  | 0, l, _, rs => (l, rs)
  | k + 1, l, d, rs => if d ≤ 1000000 ∧ d * d ≤ l then (if l % d = 0 then pfF k (outN l d).1 (nxt d) (rs ++ [(d, (outN l d).2)]) else pfF k l (nxt d) rs) else (l, rs)
def pfN (n : Nat) : Nat × List Row := pfF 1000001 n 2 []
def pfRows (p : Nat × List Row) : List Row := if 1 < p.1 then p.2 ++ [(p.1, 1)] else p.2
def pfR (e : Addr) (n : Int) : Rs := if n = 0 then .err e else if 1000000000000 < (pfN n.natAbs).1 then .err e else .ok (.tupZ ((pfRows (pfN n.natAbs)).map row))
theorem pfF_done {k l d : Nat} {rs : List Row} (h : ¬ (d ≤ 1000000 ∧ d * d ≤ l)) : pfF k l d rs = (l, rs) := by
  cases k with
  | zero => rfl
  | succ k => exact if_neg h
theorem nxt_le {d : Nat} (h : 2 ≤ d) : d < nxt d ∧ nxt d ≤ d + 2 := by
  unfold nxt
  split <;> omega
def sp_pf (K : Frg) : List Dt → Rs → Prop := fun ds r => ∃ n : Int, ds = [di n] ∧ Sz 8000 n ∧ r = pfR (NE K) n

theorem ok_prime_factors (X : Txt K mg) (F : ∃ fd, FunD K "prime_factors" "prime_factors" (defArgs s_prime_factors) (defBody s_prime_factors) (defScope s_prime_factors) [] [] (He.ga K "prime_factors") fd) (hm : mg "prime_factors" = some (.ref (He.ga K "prime_factors"))) (G_divided_out : Gd P w K mg base "divided_out" ["number", "divisor"] 1 (spD K T sp_out)) : Gd P w K mg base "prime_factors" ["number"] 2 (spD K T (sp_pf K)) := by
  have Tx := X
  refine mkG F hm sc_prime_factors (fun _ _ _ _ _ _ us hl => match us, hl with | [_], _ => rfl) (fun ds r h => ?len) (fun cdv A outer s H E hr => ?body)
  case len => (obtain ⟨_, rfl, _⟩ := h; rfl)
  case body =>
    have sc := sc_prime_factors
    refine ⟨_, (pss_cons (ps_if (pt_cmpR (op_eqA hr.units) (pv 0) pe_int (nomark _)) (pss_one (ps_rz rfl takesE PySem.F.excBase_ValueError Tx.xNumberError.1 Tx.gNumberError Tx.xNumberError.2.1 (raises_own Tx.xNumberError.2.2.1 Tx.xNumberError.2.2.2) rfl)) pss_nil)
  (pss_cons (ps_par3 (i := 1) (j := 2) (l := 3) rfl sc.nd rfl rfl rfl (by decide) (by decide) (by decide) rfl rfl rfl (pa_cons (pe_lst pa_nil) (pa_cons (pe_callB call_abs (by rfl) Tx.n_abs (by decide +kernel) (pa_cons (pv 0) pa_nil)) (pa_cons pe_int pa_nil))) (by rfl))
  (pss_cons (ps_while (passesE) (PW.pt (pw_and (pt_cmpR op_le (pv 3) (peC Tx.c_MOST_TRIAL) (nomark _)) (pw_and1 (pt_cmpR op_le (pe_op op_mulA (pv 3) (pv 3)) (pv 2) (nomark _))))) (pss_cons (ps_if (pt_cmpR (op_eqA hr.units) (pe_op op_modN (pv 2) (pv 3)) pe_int (nomark _)) (pss_cons (ps_asg (pe_callG G_divided_out (hr.mono (by decide)) psE (pa_cons (pv 2) (pa_cons (pv 3) pa_nil))) (pg_tup rfl (pgs_cons (pg_name (i := 2) sc.nd rfl (Or.inl rfl)) (pgs_cons (pg_name (i := 4) sc.nd rfl (Or.inl rfl)) pgs_nil))))
  (pss_one (ps_expr (pe_bm PySem.F.plainAttrs_list PySem.F.slot_list_append PySem.F.type_list_append mt_append (pv 1) (pa_cons (pe_tup (pa_cons (pv 3) (pa_cons (pv 4) pa_nil))) pa_nil))))) pss_nil)
  (pss_one (ps_set (i := 3) sc.nd rfl (Or.inl rfl) (pe_ifExp (pt_cmpR op_gt (pv 3) pe_int (nomark _)) (pe_op op_addA (pv 3) pe_int) pe_int)))))
  (pss_cons (ps_if (pt_cmpR op_gt (pv 2) (pe_op op_mulA (peC Tx.c_MOST_TRIAL) (peC Tx.c_MOST_TRIAL)) (nomark _)) (pss_one (ps_rz rfl takesE PySem.F.excBase_ValueError Tx.xNumberError.1 Tx.gNumberError Tx.xNumberError.2.1 (raises_own Tx.xNumberError.2.2.1 Tx.xNumberError.2.2.2) rfl)) pss_nil)
  (pss_cons (ps_if (pt_cmpR op_gt (pv 2) pe_int (nomark _)) (pss_one (ps_expr (pe_bm PySem.F.plainAttrs_list PySem.F.slot_list_append PySem.F.type_list_append mt_append (pv 1) (pa_cons (pe_tup (pa_cons (pv 2) (pa_cons pe_int pa_nil))) pa_nil)))) pss_nil)
  (pss_one (ps_ret (pe_callTy call_tupleZ (by rfl) Tx.n_tuple (by decide +kernel) (pa_cons (pv 1) pa_nil))))))))), fun O ds r hg => ?_⟩
    clear sc hr
    try dsimp only [cxOf]

    obtain ⟨n, rfl, hz, rfl⟩ := hg
    unfold pfR
    refine r_seq (r_ifs (b := decide (n = 0)) (by wtm_at "ev") (fun hc => ?_) fun hc => ?_)
    · rw [if_pos (by simpa using hc)]
      exact r_raise rfl
    have h0 : n ≠ 0 := by simpa using hc
    rw [if_neg h0]
    have ea : (if n < 0 then -n else n) = (n.natAbs : Int) := by split <;> omega
    refine r_next (r_seq (r_par3P (p_l a_nil (by decide) (p_d (e_is (by wtm_at "ev") (congrArg di ea)) (p_d (by wtm_at "ev") p_nil))) ?_))
    refine r_cut (fun A' => ∃ (l d : Nat) (rs : List Row) (x : SD), pfN n.natAbs = (l, rs) ∧ 0 < l ∧ rs.length < 8000 ∧ A' = ⟨[.d (di n), .own 0, .d (di (l : Int)), .d (di (d : Int)), x], [.lst (rs.map row)]⟩) (r_while (fun m A => ∃ (l d k : Nat) (rs : List Row) (x : SD), 0 < l ∧ l * 2 ^ rs.length ≤ n.natAbs ∧ 2 ≤ d ∧ d ≤ 1000002 ∧ m = 1000003 - d ∧ m ≤ k ∧ pfF k l d rs = pfN n.natAbs ∧ A = ⟨[.d (di n), .own 0, .d (di (l : Int)), .d (di (d : Int)), x], [.lst (rs.map row)]⟩) 1000001 ⟨n.natAbs, 2, 1000001, [], .un, by omega, by simp, by omega, by omega, rfl, by omega, rfl, rfl⟩ ?_) ?_
    case refine_2 =>
      rintro A' ⟨l, d, rs, x, he, hl, len, rfl⟩
      rw [he]
      dsimp only
      have mm : PMul 1000000 1000000 := mulX 20 20 (by decide) (by decide)
      by_cases c : 1000000000000 < l
      · rw [if_pos c]
        exact r_seq (r_ifTs (t_is (t_test (by wtm_at "ev")) (decide_eq_true (by omega))) (r_raise rfl))
      · rw [if_neg c]
        refine r_seq (r_ifFs (t_is (t_test (by wtm_at "ev")) (decide_eq_false (by omega))) (r_next ?_))
        unfold pfRows
        dsimp only
        by_cases c1 : 1 < l
        · rw [if_pos c1]
          refine r_seq (r_ifTs (t_is (t_test (by wtm_at "ev")) (decide_eq_true (by omega))) (r_drop (e_append (n := 0) rfl rfl (by wtm_at "ev") rfl rfl (by rw [List.length_map]; omega)) ?_))
          refine r_ret (e_tupOZ (n := 0) rfl rfl) ?_
          rw [List.map_append]
          rfl
        · rw [if_neg c1]
          refine r_seq (r_ifFs (t_is (t_test (by wtm_at "ev")) (decide_eq_false (by omega))) (r_next ?_))
          exact r_ret (e_tupOZ (n := 0) rfl rfl) rfl
    case refine_1 =>
      rintro m A ⟨l, d, k, rs, x, hl, hp, hd, hd2, rfl, hk, he, rfl⟩
      have hln : l ≤ n.natAbs := Nat.le_trans (Nat.le_mul_of_pos_right _ (Nat.pow_pos (by decide))) hp
      have hzn : n.natAbs < 2 ^ 8000 := hz
      have len : rs.length < 8000 := by
        have h1 : 2 ^ rs.length ≤ n.natAbs := Nat.le_trans (Nat.le_mul_of_pos_left _ hl) hp
        exact (Nat.pow_lt_pow_iff_right (by decide : 1 < 2)).mp (Nat.lt_of_le_of_lt h1 hzn)
      have mm : PMul (d : Int) (d : Int) := mulX 20 20 (by show d < 2 ^ 20; omega) (by show d < 2 ^ 20; omega)
      have sq : ((d : Int) * (d : Int) ≤ (l : Int)) ↔ d * d ≤ l := by rw [← Int.natCast_mul]; omega
      by_cases c : d ≤ 1000000 ∧ d * d ≤ l
      · refine ⟨true, _, t_andT (t_is (t_test (by wtm_at "ev")) (decide_eq_true (by omega))) (t_is (t_test (by wtm_at "ev")) (decide_eq_true (sq.mpr c.2))), fun _ => ?_, fun z => by cases z⟩
        obtain ⟨k, rfl⟩ : ∃ j, k = j + 1 := ⟨k - 1, by omega⟩
        have he' : (if l % d = 0 then pfF k (outN l d).1 (nxt d) (rs ++ [(d, (outN l d).2)]) else pfF k l (nxt d) rs) = pfN n.natAbs := by
          rw [← he]
          exact (if_pos c).symm
        have nx := nxt_le hd
        have n3 : nxt d ≤ 1000002 := by omega
        have d0 : (d : Int) ≠ 0 := by omega
        refine r_cut (fun A' => ∃ (l' : Nat) (rs' : List Row) (x' : SD), 0 < l' ∧ l' * 2 ^ rs'.length ≤ n.natAbs ∧ pfF k l' (nxt d) rs' = pfN n.natAbs ∧ A' = ⟨[.d (di n), .own 0, .d (di (l' : Int)), .d (di (d : Int)), x'], [.lst (rs'.map row)]⟩) ?_ ?_
        · by_cases hm : l % d = 0
          · refine r_ifTs (t_is (t_test (by wtm_at "ev")) (decide_eq_true (by rw [n_mod, hm]; rfl))) ?_
            rw [if_pos hm] at he'
            have lo := outN_le hl hd hm
            refine r_seq (r_tg (e_call (by wtm_at "ev") ⟨l, d, rfl, hl, hd, Nat.lt_of_lt_of_le (by omega : d < 2 ^ 20) (Nat.pow_le_pow_right (by decide) (by decide)), rfl⟩) (tg_tup rfl (tgA_cons tg_name (tgA_cons tg_name tgA_nil))) ?_)
            refine r_drop (e_append (n := 0) rfl rfl (by wtm_at "ev") rfl rfl (by rw [List.length_map]; omega)) ?_
            refine ⟨(outN l d).1, rs ++ [(d, (outN l d).2)], .d (di ((outN l d).2 : Int)), lo.1, ?_, he', ?_⟩
            · rw [List.length_append, List.length_singleton, Nat.pow_succ, ← Nat.mul_assoc, Nat.mul_right_comm]
              exact Nat.le_trans (Nat.mul_le_mul_right _ (by omega)) hp
            · rw [List.map_append]
              rfl
          · rw [if_neg hm] at he'
            refine r_ifFs (t_is (t_test (by wtm_at "ev")) (decide_eq_false fun z => hm (by rw [n_mod] at z; omega))) (r_next ?_)
            exact ⟨l, rs, x, hl, hp, he', rfl⟩
        · rintro A' ⟨l', rs', x', hl', hp', he'', rfl⟩
          have en : (if (2 : Int) < (d : Int) then (d : Int) + 2 else 3) = (nxt d : Int) := by
            unfold nxt
            split <;> split <;> omega
          by_cases h2 : 2 < d
          · refine r_asg (e_ifT (t_is (t_test (by wtm_at "ev")) (decide_eq_true (by omega))) (by wtm_at "ev")) ?_
            refine ⟨1000003 - nxt d, by omega, l', nxt d, k, rs', x', hl', hp', by omega, n3, rfl, by omega, he'', ?_⟩
            rw [show ((d : Int) + 2) = (nxt d : Int) by rw [← en, if_pos (by omega)]]
            rfl
          · refine r_asg (e_ifF (t_is (t_test (by wtm_at "ev")) (decide_eq_false (by omega))) (by wtm_at "ev")) ?_
            refine ⟨1000003 - nxt d, by omega, l', nxt d, k, rs', x', hl', hp', by omega, n3, rfl, by omega, he'', ?_⟩
            rw [show (3 : Int) = (nxt d : Int) by rw [← en, if_neg (by omega)]]
            rfl
      · have dn : pfN n.natAbs = (l, rs) := by rw [← he, pfF_done c]
        have nx : ∃ (l' d' : Nat) (rs' : List Row) (x' : SD), pfN n.natAbs = (l', rs') ∧ 0 < l' ∧ rs'.length < 8000 ∧ (⟨[.d (di n), .own 0, .d (di (l : Int)), .d (di (d : Int)), x], [.lst (rs.map row)]⟩ : AS) = ⟨[.d (di n), .own 0, .d (di (l' : Int)), .d (di (d' : Int)), x'], [.lst (rs'.map row)]⟩ := ⟨l, d, rs, x, dn, hl, len, rfl⟩
        by_cases c1 : d ≤ 1000000
        · have c2 : ¬ d * d ≤ l := fun z => c ⟨c1, z⟩
          exact ⟨false, _, t_andT (t_is (t_test (by wtm_at "ev")) (decide_eq_true (by omega))) (t_is (t_test (by wtm_at "ev")) (decide_eq_false fun z => c2 (sq.mp z))), fun z => (by cases z), fun _ => nx⟩
        · exact ⟨false, _, t_andF (t_is (t_test (by wtm_at "ev")) (decide_eq_false (by omega))), fun z => (by cases z), fun _ => nx⟩

end
end Law
end

section
set_option Elab.async false
set_option linter.all false
set_option maxRecDepth 100000
set_option maxHeartbeats 4000000
set_option autoImplicit false
set_option exponentiation.threshold 100
namespace Law
open PySem PySem.Spec PyProof.Rows L2 Py
--def top (i : Nat) : Stmt := PySem.Challenge.pw_algebrastack_k01_whole_numbers_and_fract.main.body.getD i (.Pass ⟨0, 0, 0, 0⟩)

open Mt
local macro_rules | `(tactic| wtm_at "op") => `(tactic| first
  | with_reducible exact o_I0 | with_reducible exact o_add | with_reducible exact o_eqI | with_reducible exact o_neI
  | ((with_reducible apply o_mul); first | assumption | wtm_at "si")
  | ((with_reducible apply o_I); first | assumption | wtm_at "si")
  | ((with_reducible apply o_ixT); rfl) | ((with_reducible apply o_ixL); rfl)
  | ((with_reducible apply o_eqD) <;> first | rfl | decide | assumption) | ((with_reducible apply o_neD) <;> first | rfl | decide | assumption)
  | with_reducible assumption)
local macro_rules | `(tactic| wtm_at "si") => `(tactic| first | decide | exact ⟨by decide, by decide +kernel⟩ | omega)
local macro_rules | `(tactic| wtm_at "ev") => `(tactic| first
  | ((with_reducible apply e_var); rfl) | with_reducible exact e_c | with_reducible exact a_nil
  | ((with_reducible apply a_cons) <;> wtm_at "ev")
  | ((with_reducible apply e_bin) <;> first | wtm_at "ev" | wtm_at "op")
  | ((with_reducible apply e_ixO) <;> first | rfl | wtm_at "ev")
  | ((with_reducible apply e_U) <;> wtm_at "ev")
  | ((with_reducible apply t_test) <;> wtm_at "ev")
  | ((with_reducible apply t_B) <;> wtm_at "ev")
  | ((with_reducible apply t_not) <;> wtm_at "ev")
  | ((with_reducible apply e_tup) <;> first | wtm_at "ev" | exact Nat.le_of_ble_eq_true rfl)
  | ((with_reducible apply e_lst) <;> first | wtm_at "ev" | exact Nat.le_of_ble_eq_true rfl)
  | ((with_reducible apply e_gcd) <;> wtm_at "ev")
  | ((with_reducible apply e_abs) <;> wtm_at "ev")
  | ((with_reducible apply e_max2) <;> wtm_at "ev")
  | ((with_reducible apply e_int) <;> wtm_at "ev")
  | ((with_reducible apply e_intB) <;> wtm_at "ev")
  | ((with_reducible apply e_bits) <;> wtm_at "ev")
  | ((with_reducible apply e_not) <;> wtm_at "ev")
  | with_reducible assumption)

structure Txt2 (K : Frg) (mg : Str → Option Value) : Prop where
  gNumberError : mg "NumberError" = some (.ref (He.ga K "NumberError"))
  xNumberError : PySem.W.excIn K (He.ga K "NumberError") He.veBase "ValueError.__new__" = true ∧ PySem.W.keepIn K (.ref (He.ga K "NumberError")) = true ∧ PySem.W.subIn K (.ref (He.ga K "NumberError")) (.type "BaseException") = some true ∧ PySem.W.typeIn K (.ref (He.ga K "NumberError")) = some (.type "type")
  n_gcd : mg "gcd" = some (.builtin "math.gcd")
  n_abs : mg "abs" = none
  n_tuple : mg "tuple" = none
  n_range : mg "range" = none
  n_max : mg "max" = none
  c_FIRST_PRIMES : TupC K mg "FIRST_PRIMES" [.int 2, .int 3, .int 5, .int 7, .int 11, .int 13, .int 17, .int 19, .int 23, .int 29, .int 31, .int 37, .int 41]
  c_LEAST_FALSE_PRIME : ∃ u, mg "LEAST_FALSE_PRIME" = some u ∧ RelV (.int 3317044064679887385961981) u
  c_MOST_TRIAL : ∃ u, mg "MOST_TRIAL" = some u ∧ RelV (.int 1000000) u
section
variable {P : Program} {w : World} {K : Frg} {T : List (Addr × Str)} {mg : Str → Option Value} {base : Heap}

abbrev s_passes_powers : Stmt := top 16
theorem sc_passes_powers : FnScope ["number", "witness", "odd", "twos", "found", "_"] ["number", "witness"] (defScope s_passes_powers) := ⟨rfl, rfl, rfl, by decide +kernel, rfl, by decide +kernel, by decide +kernel⟩
abbrev s_is_prime : Stmt := top 15
theorem sc_is_prime : FnScope ["number", "prime"] ["number"] (defScope s_is_prime) := ⟨rfl, rfl, rfl, by decide +kernel, rfl, by decide +kernel, by decide +kernel⟩
abbrev s_next_prime : Stmt := top 20
theorem sc_next_prime : FnScope ["number", "found"] ["number"] (defScope s_next_prime) := ⟨rfl, rfl, rfl, by decide +kernel, rfl, by decide +kernel, by decide +kernel⟩
def powByR (K : Frg) (x e b : Int) : Rs := if e < 0 ∨ b < 1 then .err (NE K) else .ok (di (x ^ e.toNat % b))
def sp_powBy (K : Frg) : List Dt → Rs → Prop := fun ds r => ∃ x e b : Int, ds = [di x, di e, di b] ∧ Sz 4000 b ∧ r = powByR K x e b
/-! ### primes -/
def sqGo : Nat → Nat → Nat → Bool
  | 0, _, _ => false
  | k + 1, f, n => f == n - 1 || sqGo k (f * f % n) n
def passB (n w : Nat) : Bool := let f := w ^ (outN (n - 1) 2).1 % n; f == 1 || sqGo (outN (n - 1) 2).2 f n
def sp_pass : List Dt → Rs → Prop := fun ds r => ∃ n w : Nat, ds = [di (n : Int), di (w : Int)] ∧ 2 ≤ n ∧ n < 2 ^ 4000 ∧ (outN (n - 1) 2).2 < 4000 ∧ r = .ok (db (passB n w))
theorem outF_sz {d b : Nat} (hd : 2 ≤ d) : ∀ {k n e : Nat}, 0 < n → n < 2 ^ b → (outF k n d e).2 ≤ e + b
  | 0, n, e, _, _ => Nat.le_add_right _ _
  | k + 1, n, e, h, h1 => by
    unfold outF
    split
    · rename_i q
      have l := div_lt h hd q
      cases b with
      | zero => omega
      | succ b =>
        have := outF_sz hd (b := b) (k := k) (n := n / d) (e := e + 1) l.1 (by rw [Nat.pow_succ] at h1; omega)
        omega
    · exact Nat.le_add_right _ _

theorem ok_passes_powers (X : Txt2 K mg) (F : ∃ fd, FunD K "passes_powers" "passes_powers" (defArgs s_passes_powers) (defBody s_passes_powers) (defScope s_passes_powers) [] [] (He.ga K "passes_powers") fd) (hm : mg "passes_powers" = some (.ref (He.ga K "passes_powers"))) (G_divided_out : Gd P w K mg base "divided_out" ["number", "divisor"] 1 (spD K T sp_out)) (G_power_by : Gd P w K mg base "power_by" ["number", "exponent", "base"] 3 (spD K T (sp_powBy K))) : Gd P w K mg base "passes_powers" ["number", "witness"] 4 (spD K T sp_pass) := by
  have Tx := X
  refine mkG F hm sc_passes_powers (fun _ _ _ _ _ _ us hl => match us, hl with | [_, _], _ => rfl) (fun ds r h => ?len) (fun cdv A outer s H E hr => ?body)
  case len => (obtain ⟨_, _, rfl, _⟩ := h; rfl)
  case body =>
    have sc := sc_passes_powers
    refine ⟨_, (pss_cons (ps_asg (pe_callG G_divided_out (hr.mono (by decide)) psE (pa_cons (pe_op op_sub (pv 0) pe_int) (pa_cons pe_int pa_nil))) (pg_tup rfl (pgs_cons (pg_name (i := 2) sc.nd rfl (Or.inl rfl)) (pgs_cons (pg_name (i := 3) sc.nd rfl (Or.inl rfl)) pgs_nil))))
  (pss_cons (ps_set (i := 4) sc.nd rfl (Or.inl rfl) (pe_callG G_power_by (hr.mono (by decide)) psE (pa_cons (pv 1) (pa_cons (pv 2) (pa_cons (pv 0) pa_nil)))))
  (pss_cons (ps_if (pt_cmpR (op_eqA hr.units) (pv 4) pe_int (nomark _)) (pss_one (ps_ret pe_bl)) pss_nil)
  (pss_cons (ps_for (passesE) rfl (pi_range1 rfl Tx.n_range (pa_cons (pv 3) pa_nil)) (pg_name (i := 5) sc.nd rfl (Or.inl rfl)) (pss_cons (ps_if (pt_cmpR (op_eqA hr.units) (pv 4) (pe_op op_sub (pv 0) pe_int) (nomark _)) (pss_one (ps_ret pe_bl)) pss_nil)
  (pss_one (ps_set (i := 4) sc.nd rfl (Or.inl rfl) (pe_op op_modN (pe_op op_mulA (pv 4) (pv 4)) (pv 0))))))
  (pss_one (ps_ret pe_bl)))))), fun O ds r hg => ?_⟩
    clear sc hr
    try dsimp only [cxOf]

    obtain ⟨n, w, rfl, hn, hz, ht, rfl⟩ := hg
    obtain ⟨ho1, ho2⟩ := outF_le (d := 2) (by decide) (k := n - 1) (n := n - 1) (e := 0) (by omega)
    have en : (n : Int) - 1 = ((n - 1 : Nat) : Int) := by omega
    refine r_seq (r_tg (e_call (a_cons (e_is (by wtm_at "ev") (congrArg di en)) (a_cons e_c a_nil)) ⟨n - 1, 2, rfl, by omega, by decide, Nat.lt_of_lt_of_le (by decide : 2 < 2 ^ 2) (Nat.pow_le_pow_right (by decide) (by decide)), rfl⟩) (tg_tup rfl (tgA_cons tg_name (tgA_cons tg_name tgA_nil))) ?_)
    have hz' : Sz 4000 (n : Int) := hz
    have pw : powByR K (w : Int) ((outN (n - 1) 2).1 : Int) (n : Int) = .ok (di ((w ^ (outN (n - 1) 2).1 % n : Nat) : Int)) := by
      unfold powByR
      rw [if_neg (by omega), Int.toNat_natCast, ← Int.natCast_pow, ← Int.natCast_emod]
    refine r_seq (r_asg (e_call (by wtm_at "ev") ⟨w, ((outN (n - 1) 2).1 : Int), n, rfl, hz', pw.symm⟩) ?_)
    unfold passB
    generalize hf : w ^ (outN (n - 1) 2).1 % n = f
    have hfl : f < n := by rw [← hf]; exact Nat.mod_lt _ (by omega)
    dsimp only
    by_cases h1 : f = 1
    · refine r_seq (r_ifTs (t_is (t_test (by wtm_at "ev")) (decide_eq_true (by omega))) (r_ret (by wtm_at "ev") ?_))
      rw [h1]
      rfl
    refine r_seq (r_ifFs (t_is (t_test (by wtm_at "ev")) (decide_eq_false (by omega))) (r_next ?_))
    have e1 : (f == 1 || sqGo (outN (n - 1) 2).2 f n) = sqGo (outN (n - 1) 2).2 f n := by
      rw [beq_eq_false_iff_ne.mpr h1]
      rfl
    rw [e1]
    refine r_seq (r_forR (w_rng1 (n := ((outN (n - 1) 2).2 : Int)) (a_cons (e_var rfl) a_nil) ⟨by omega, by omega⟩) (fun i A => ∃ (g : Nat) (x : SD), g < n ∧ sqGo ((outN (n - 1) 2).2 - i) g n = sqGo (outN (n - 1) 2).2 f n ∧ A = ⟨[.d (di (n : Int)), .d (di (w : Int)), .d (di ((outN (n - 1) 2).1 : Int)), .d (di ((outN (n - 1) 2).2 : Int)), .d (di (g : Int)), x], []⟩) ⟨f, .un, hfl, rfl, rfl⟩ ?_ ?_)
    · rintro i A hi ⟨g, x, hg, hq, rfl⟩
      rw [Int.toNat_natCast] at hi
      refine ⟨_, tg_name, ?_⟩
      obtain ⟨j, hj⟩ : ∃ j, (outN (n - 1) 2).2 - i = j + 1 := ⟨(outN (n - 1) 2).2 - i - 1, by omega⟩
      rw [hj] at hq
      by_cases h2 : g = n - 1
      · refine r_seq (r_ifTs (t_is (t_test (by wtm_at "ev")) (decide_eq_true (by omega))) (r_ret (by wtm_at "ev") ?_))
        have e2 : sqGo (j + 1) (n - 1) n = true := by
          show (n - 1 == n - 1 || _) = true
          simp
        rw [← hq, h2, e2]
        rfl
      · refine r_seq (r_ifFs (t_is (t_test (by wtm_at "ev")) (decide_eq_false (by omega))) (r_next ?_))
        have m1 : PMul (g : Int) (g : Int) := mulX 4000 4000 (Nat.lt_trans hg hz) (Nat.lt_trans hg hz)
        have n0 : (n : Int) ≠ 0 := by omega
        refine r_asg (by wtm_at "ev") ⟨g * g % n, .d (di (0 + (i : Int))), Nat.mod_lt _ (by omega), ?_, ?_⟩
        · rw [show (outN (n - 1) 2).2 - (i + 1) = j by omega, ← hq]
          show _ = (g == n - 1 || sqGo j (g * g % n) n)
          rw [beq_eq_false_iff_ne.mpr h2]
          rfl
        · rw [← Int.natCast_mul, n_mod]
          rfl
    · rintro A ⟨g, x, hg, hq, rfl⟩
      rw [Int.toNat_natCast, Nat.sub_self] at hq
      refine r_ret (by wtm_at "ev") ?_
      rw [← hq]
      rfl

def primesL : List Nat := [2, 3, 5, 7, 11, 13, 17, 19, 23, 29, 31, 37, 41]
abbrev primesV : List V := [.int 2, .int 3, .int 5, .int 7, .int 11, .int 13, .int 17, .int 19, .int 23, .int 29, .int 31, .int 37, .int 41]
theorem primesV_eq : primesV.map Dt.v = primesL.map fun (p : Nat) => di (p : Int) := rfl
/-- is n prime, as is_prime tells it below LEAST_FALSE_PRIME -/
def isP (n : Nat) : Bool := if n < 2 then false else match primesL.find? fun p => n % p == 0 with
  | some p => n == p
  | none => primesL.all fun p => passB n p
def sp_isp : List Dt → Rs → Prop := fun ds r => ∃ n : Nat, ds = [di (n : Int)] ∧ n < 3317044064679887385961981 ∧ r = .ok (db (isP n))
theorem pass_ok {n : Nat} (h : n < 3317044064679887385961981) (h2 : 2 ≤ n) : n < 2 ^ 4000 ∧ (outN (n - 1) 2).2 < 4000 := by
  have h3 : n < 2 ^ 90 := Nat.lt_trans h (by decide)
  refine ⟨Nat.lt_of_lt_of_le h3 (Nat.pow_le_pow_right (by decide) (by decide)), ?_⟩
  have := outF_sz (d := 2) (b := 90) (by decide) (k := n - 1) (n := n - 1) (e := 0) (by omega) (by omega)
  show (outF (n - 1) (n - 1) 2 0).2 < 4000
  omega
theorem find_take {α : Type} {p : α → Bool} {l : List α} {i : Nat} {x : α} (hx : l[i]? = some x) (h : (l.take i).find? p = none) : (l.take (i + 1)).find? p = (if p x then some x else none) := by
  rw [List.take_add_one, hx, List.find?_append, h]
  simp [List.find?]
theorem find_all {α : Type} {p : α → Bool} {l : List α} {i : Nat} {x : α} (hx : l[i]? = some x) (h : (l.take i).find? p = none) (hp : p x = true) : l.find? p = some x := by
  have h1 : (l.take (i + 1)).find? p = some x := by rw [find_take hx h, if_pos hp]
  rw [← List.take_append_drop (i + 1) l, List.find?_append, h1]
  rfl
theorem all_take {α : Type} {p : α → Bool} {l : List α} {i : Nat} {x : α} (hx : l[i]? = some x) (h : (l.take i).all p = true) : (l.take (i + 1)).all p = p x := by
  rw [List.take_add_one, hx, List.all_append, h]
  simp

theorem ok_is_prime (X : Txt2 K mg) (F : ∃ fd, FunD K "is_prime" "is_prime" (defArgs s_is_prime) (defBody s_is_prime) (defScope s_is_prime) [] [] (He.ga K "is_prime") fd) (hm : mg "is_prime" = some (.ref (He.ga K "is_prime"))) (G_passes_powers : Gd P w K mg base "passes_powers" ["number", "witness"] 4 (spD K T sp_pass)) (G_passes_roots : Gd P w K mg base "passes_roots" ["number"] 4 (spD K T fun _ _ => False)) : Gd P w K mg base "is_prime" ["number"] 5 (spD K T sp_isp) := by
  have Tx := X
  obtain ⟨aF, mF, kF⟩ := X.c_FIRST_PRIMES
  refine mkG F hm sc_is_prime (fun _ _ _ _ _ _ us hl => match us, hl with | [_], _ => rfl) (fun ds r h => ?len) (fun cdv A outer s H E hr => ?body)
  case len => (obtain ⟨_, rfl, _⟩ := h; rfl)
  case body =>
    have sc := sc_is_prime
    refine ⟨_, (pss_cons (ps_if (pt_cmpR op_lt (pv 0) pe_int (nomark _)) (pss_one (ps_ret pe_bl)) pss_nil)
  (pss_cons (ps_for (passesE) rfl (pi_tup (peC (TupC.c mF))) (pg_name (i := 1) sc.nd rfl (Or.inl rfl)) (pss_one (ps_if (pt_cmpR (op_eqA hr.units) (pe_op op_modN (pv 0) (pv 1)) pe_int (nomark _)) (pss_one (ps_ret (pe_cmpR (op_eqA hr.units) (pv 0) (pv 1) (nomark _)))) pss_nil)))
  (pss_cons (ps_for (passesE) rfl (pi_tup (peC (TupC.c mF))) (pg_name (i := 1) sc.nd rfl (Or.inl rfl)) (pss_one (ps_if (pt_not (pt_val (pe_callG G_passes_powers (hr.mono (by decide)) psE (pa_cons (pv 0) (pa_cons (pv 1) pa_nil))))) (pss_one (ps_ret pe_bl)) pss_nil)))
  (pss_one (ps_ret (pe_or (pe_cmpR op_lt (pv 0) (peC Tx.c_LEAST_FALSE_PRIME) (nomark _)) (pe_one (pe_callG G_passes_roots (hr.mono (by decide)) psE (pa_cons (pv 0) pa_nil))))))))), fun O ds r hg => ?_⟩
    clear sc hr
    try dsimp only [cxOf]

    obtain ⟨n, rfl, hl, rfl⟩ := hg
    unfold isP
    by_cases h2 : n < 2
    · rw [if_pos h2]
      exact r_seq (r_ifTs (t_is (t_test (by wtm_at "ev")) (decide_eq_true (by omega))) (r_ret (by wtm_at "ev") rfl))
    rw [if_neg h2]
    refine r_seq (r_ifFs (t_is (t_test (by wtm_at "ev")) (decide_eq_false (by omega))) (r_next ?_))
    refine r_cut (fun A' => ∃ x : SD, (primesL.find? fun p => n % p == 0) = none ∧ A' = ⟨[.d (di (n : Int)), x], []⟩) (r_forT (e_cT kF) (fun i A => ∃ x : SD, ((primesL.take i).find? fun p => n % p == 0) = none ∧ A = ⟨[.d (di (n : Int)), x], []⟩) ⟨.un, rfl, rfl⟩ ?_ ?_) ?_
    · rintro i d A hd ⟨x, hf, rfl⟩
      rw [primesV_eq, List.getElem?_map] at hd
      obtain ⟨p, hp, rfl⟩ := Option.map_eq_some_iff.mp hd
      have p0 : 0 < p := by
        have := List.mem_of_getElem? hp
        revert this
        unfold primesL
        simp
        omega
      have p1 : (p : Int) ≠ 0 := by omega
      refine ⟨_, tg_name, ?_⟩
      by_cases hm : n % p = 0
      · refine r_ifTs (t_is (t_test (by wtm_at "ev")) (decide_eq_true (by rw [n_mod, hm]; rfl))) (r_ret (e_is (by wtm_at "ev") ?_) rfl)
        rw [find_all hp hf (by rw [hm]; rfl)]
        have e3 : decide ((n : Int) = (p : Int)) = (n == p) := by
          rw [show (n == p) = decide (n = p) from rfl]
          exact decide_eq_decide.mpr (by omega)
        exact congrArg db e3
      · refine r_ifFs (t_is (t_test (by wtm_at "ev")) (decide_eq_false fun z => hm (by rw [n_mod] at z; omega))) (r_next ?_)
        refine ⟨.d (di (p : Int)), ?_, rfl⟩
        rw [find_take hp hf, if_neg (by simpa using hm)]
    · rintro A ⟨x, hf, rfl⟩
      exact ⟨x, hf, rfl⟩
    rintro A' ⟨x, hn, rfl⟩
    rw [hn]
    dsimp only
    refine r_cut (fun A' => ∃ x : SD, (primesL.all fun p => passB n p) = true ∧ A' = ⟨[.d (di (n : Int)), x], []⟩) (r_forT (e_cT kF) (fun i A => ∃ x : SD, ((primesL.take i).all fun p => passB n p) = true ∧ A = ⟨[.d (di (n : Int)), x], []⟩) ⟨x, rfl, rfl⟩ ?_ ?_) ?_
    · rintro i d A hd ⟨x, hf, rfl⟩
      rw [primesV_eq, List.getElem?_map] at hd
      obtain ⟨p, hp, rfl⟩ := Option.map_eq_some_iff.mp hd
      refine ⟨_, tg_name, ?_⟩
      obtain ⟨o1, o2⟩ := pass_ok hl (by omega)
      refine r_ifs (b := !passB n p) (t_not (t_B (e_call (by wtm_at "ev") ⟨n, p, rfl, by omega, o1, o2, rfl⟩))) (fun hb => ?_) fun hb => ?_
      · refine r_ret (e_is e_c ?_) rfl
        have hb' : passB n p = false := by simpa using hb
        have : (primesL.all fun p => passB n p) = false := by
          rw [List.all_eq_false]
          exact ⟨p, List.mem_of_getElem? hp, by simp [hb']⟩
        rw [this]
      · refine r_next ⟨.d (di (p : Int)), ?_, rfl⟩
        rw [all_take hp hf]
        simpa using hb
    · rintro A ⟨x, hf, rfl⟩
      exact ⟨x, hf, rfl⟩
    rintro A' ⟨x, ha, rfl⟩
    rw [ha]
    exact r_ret (e_orT (e_is (by wtm_at "ev") (congrArg db (decide_eq_true (by omega))))) rfl

/-- the least prime above n, told by isP -/
def IsNext (n p : Nat) : Prop := max (n + 1) 2 ≤ p ∧ isP p = true ∧ ∀ q, max (n + 1) 2 ≤ q → q < p → isP q = false
def sp_next : List Dt → Rs → Prop := fun ds r => ∃ n p : Nat, ds = [di (n : Int)] ∧ IsNext n p ∧ p < 3317044064679887385961981 ∧ r = .ok (di (p : Int))

theorem ok_next_prime (X : Txt2 K mg) (F : ∃ fd, FunD K "next_prime" "next_prime" (defArgs s_next_prime) (defBody s_next_prime) (defScope s_next_prime) [] [] (He.ga K "next_prime") fd) (hm : mg "next_prime" = some (.ref (He.ga K "next_prime"))) (G_is_prime : Gd P w K mg base "is_prime" ["number"] 5 (spD K T sp_isp)) : Gd P w K mg base "next_prime" ["number"] 6 (spD K T sp_next) := by
  have Tx := X
  refine mkG F hm sc_next_prime (fun _ _ _ _ _ _ us hl => match us, hl with | [_], _ => rfl) (fun ds r h => ?len) (fun cdv A outer s H E hr => ?body)
  case len => (obtain ⟨_, _, rfl, _⟩ := h; rfl)
  case body =>
    have sc := sc_next_prime
    refine ⟨_, (pss_cons (ps_set (i := 1) sc.nd rfl (Or.inl rfl) (pe_callB (call_max2 rfl) (by rfl) Tx.n_max (by decide +kernel) (pa_cons (pe_op op_addA (pv 0) pe_int) (pa_cons pe_int pa_nil))))
  (pss_cons (ps_while (passesE) (pt_not (pt_val (pe_callG G_is_prime (hr.mono (by decide)) psE (pa_cons (pv 1) pa_nil)))) (pss_one (ps_set (i := 1) sc.nd rfl (Or.inl rfl) (pe_op op_addA (pv 1) pe_int))))
  (pss_one (ps_ret (pv 1))))), fun O ds r hg => ?_⟩
    clear sc hr
    try dsimp only [cxOf]

    obtain ⟨n, p, rfl, ⟨hp, ht, hq⟩, hl, rfl⟩ := hg
    have em : (if (2 : Int) > (n : Int) + 1 then 2 else (n : Int) + 1) = ((max (n + 1) 2 : Nat) : Int) := by split <;> omega
    refine r_seq (r_asg (e_is (by wtm_at "ev") (congrArg di em)) ?_)
    refine r_seq (r_while (fun m A => ∃ f : Nat, max (n + 1) 2 ≤ f ∧ f ≤ p ∧ m = p - f ∧ A = ⟨[.d (di (n : Int)), .d (di (f : Int))], []⟩) (p - max (n + 1) 2) ⟨max (n + 1) 2, Nat.le_refl _, hp, rfl, rfl⟩ ?_)
    rintro m A ⟨f, h1, h2, rfl, rfl⟩
    refine ⟨!isP f, _, t_not (t_B (e_call (by wtm_at "ev") ⟨f, rfl, by omega, rfl⟩)), fun hb => ?_, fun hb => ?_⟩
    · have hb' : isP f = false := by simpa using hb
      have ne : f ≠ p := fun z => by rw [z, ht] at hb'; cases hb'
      refine r_asg (by wtm_at "ev") ⟨p - (f + 1), by omega, f + 1, by omega, by omega, rfl, rfl⟩
    · have hb' : isP f = true := by simpa using hb
      have e : f = p := by
        rcases Nat.lt_or_ge f p with z | z
        · rw [hq f h1 z] at hb'; cases hb'
        · omega
      rw [e]
      exact r_ret (by wtm_at "ev") rfl

end
end Law
end

section
set_option Elab.async false
set_option linter.all false
set_option maxRecDepth 100000
set_option maxHeartbeats 4000000
set_option autoImplicit false
set_option exponentiation.threshold 100
namespace Law
open PySem PySem.Spec PyProof.Rows L2 Py
--def top (i : Nat) : Stmt := PySem.Challenge.pw_algebrastack_k01_whole_numbers_and_fract.main.body.getD i (.Pass ⟨0, 0, 0, 0⟩)

open Mt
local macro_rules | `(tactic| wtm_at "op") => `(tactic| first
  | with_reducible exact o_I0 | with_reducible exact o_add | with_reducible exact o_eqI | with_reducible exact o_neI
  | ((with_reducible apply o_mul); first | assumption | wtm_at "si")
  | ((with_reducible apply o_I); first | assumption | wtm_at "si")
  | ((with_reducible apply o_ixT); rfl) | ((with_reducible apply o_ixL); rfl)
  | ((with_reducible apply o_eqD) <;> first | rfl | decide | assumption) | ((with_reducible apply o_neD) <;> first | rfl | decide | assumption)
  | with_reducible assumption)
local macro_rules | `(tactic| wtm_at "si") => `(tactic| first | decide | exact ⟨by decide, by decide +kernel⟩ | omega)
local macro_rules | `(tactic| wtm_at "ev") => `(tactic| first
  | ((with_reducible apply e_var); rfl) | with_reducible exact e_c | with_reducible exact a_nil
  | ((with_reducible apply a_cons) <;> wtm_at "ev")
  | ((with_reducible apply e_bin) <;> first | wtm_at "ev" | wtm_at "op")
  | ((with_reducible apply e_ixO) <;> first | rfl | wtm_at "ev")
  | ((with_reducible apply e_U) <;> wtm_at "ev")
  | ((with_reducible apply t_test) <;> wtm_at "ev")
  | ((with_reducible apply t_B) <;> wtm_at "ev")
  | ((with_reducible apply t_not) <;> wtm_at "ev")
  | ((with_reducible apply e_tup) <;> first | wtm_at "ev" | exact Nat.le_of_ble_eq_true rfl)
  | ((with_reducible apply e_lst) <;> first | wtm_at "ev" | exact Nat.le_of_ble_eq_true rfl)
  | ((with_reducible apply e_gcd) <;> wtm_at "ev")
  | ((with_reducible apply e_abs) <;> wtm_at "ev")
  | ((with_reducible apply e_max2) <;> wtm_at "ev")
  | ((with_reducible apply e_int) <;> wtm_at "ev")
  | ((with_reducible apply e_intB) <;> wtm_at "ev")
  | ((with_reducible apply e_bits) <;> wtm_at "ev")
  | ((with_reducible apply e_not) <;> wtm_at "ev")
  | with_reducible assumption)

section
variable {P : Program} {w : World} {K : Frg} {T : List (Addr × Str)} {mg : Str → Option Value} {base : Heap}

abbrev s__law_prime : Stmt := top 50
theorem sc__law_prime : FnScope ["number", "k"] ["number"] (defScope s__law_prime) := ⟨rfl, rfl, rfl, by decide +kernel, rfl, by decide +kernel, by decide +kernel⟩
/-! ### the law's primes -/
def dvs (n k : Nat) : Bool := decide (k * k ≤ n) && decide (n / k * k = n)
def lawP (n : Nat) : Bool := decide (1 < n) && ((List.range (n - 2)).filter fun i => dvs n (i + 2)).isEmpty
def sp_lprime : List Dt → Rs → Prop := fun ds r => ∃ n : Nat, ds = [di (n : Int)] ∧ n < 90000 ∧ r = .ok (db (lawP n))

theorem ok__law_prime (X : Txt K mg) (F : ∃ fd, FunD K "_law_prime" "_law_prime" (defArgs s__law_prime) (defBody s__law_prime) (defScope s__law_prime) [] [] (He.ga K "_law_prime") fd) (hm : mg "_law_prime" = some (.ref (He.ga K "_law_prime"))) : Gd P w K mg base "_law_prime" ["number"] 1 (spD K T sp_lprime) := by
  have Tx := X
  refine mkG F hm sc__law_prime (fun _ _ _ _ _ _ us hl => match us, hl with | [_], _ => rfl) (fun ds r h => ?len) (fun cdv A outer s H E hr => ?body)
  case len => (obtain ⟨_, rfl, _⟩ := h; rfl)
  case body =>
    have sc := sc__law_prime
    refine ⟨_, (pss_one (ps_ret (pe_and (pe_cmpR op_gt (pv 0) pe_int (nomark _)) (pe_one (pe_cmpR (op_eqA hr.units) (pe_lc (own := [("k", 1)]) rfl sc.nd (pi_range2 rfl Tx.n_range (pa_cons pe_int (pa_cons (pv 0) pa_nil))) (blkOk_by (own := [("k", 1)]) (N := ["number", "k"]) (sc := defScope s__law_prime) (by decide +kernel)) (fun _ _ _ _ _ => (pg_name (i := 1) sc.nd rfl (Or.inl rfl))) (fun _ _ _ _ _ => (pts_one (PW.pt (pw_and (pt_cmpR op_le (pe_op (op_mulAK (K := K) rfl) (pv 1) (pv 1)) (pv 0) (nomark _)) (pw_and1 (pt_cmpR (op_eqAK (K := K) rfl hr.units) (pe_op (op_mulAK (K := K) rfl) (pe_op op_fdivX (pv 0) (pv 1)) (pv 1)) (pv 0) (nomark _))))))) (fun _ _ _ _ _ => (pv 1))) (pe_lst pa_nil) (nomark _)))))), fun O ds r hg => ?_⟩
    clear sc hr
    try dsimp only [cxOf]

    obtain ⟨n, rfl, hn, rfl⟩ := hg
    unfold lawP
    by_cases h1 : 1 < n
    · rw [decide_eq_true h1, Bool.true_and]
      have el : (n : Int) - 2 = ((n - 2 : Nat) : Int) := by omega
      have ep : (((List.range (n - 2)).filter fun i => dvs n (i + 2)).map fun i => di (((i + 2 : Nat) : Int))).isEmpty = ((List.range (n - 2)).filter fun i => dvs n (i + 2)).isEmpty := by
        cases (List.range (n - 2)).filter fun i => dvs n (i + 2) <;> rfl
      refine r_ret (e_andT (e_is (by wtm_at "ev") (congrArg db (decide_eq_true (by omega)))) (e_is (e_bin (e_lcR (lo := 2) (n := n - 2) ?w (fun i => ⟨[.d (di (n : Int)), .un], []⟩) (fun i => ((List.range i).filter fun j => dvs n (j + 2)).map fun j => di (((j + 2 : Nat) : Int))) rfl rfl ?s (by omega)) (by wtm_at "ev") (o_eqNil (n := 0) (niceA_map (g := fun j => .int (((j + 2 : Nat) : Int))) (fun _ => .int) _))) (congrArg db ep))) rfl
      case w =>
        intro os σ H' k R q
        refine w_rng2 (m := 2) (n := (n : Int)) (a_cons e_c (a_cons (e_var rfl) a_nil)) ⟨by decide, by decide⟩ ⟨by omega, by omega⟩ os σ H' k R ?_
        rw [el, Int.toNat_natCast]
        exact q
      case s =>
        intro i hi O'
        have c2 : (2 : Int) + (i : Int) = ((i + 2 : Nat) : Int) := by omega
        rw [c2]
        generalize hk : i + 2 = k
        have k0 : (k : Int) ≠ 0 := by omega
        have kz : (k : Int).natAbs < 2 ^ 20 := by omega
        have nz : (n : Int).natAbs < 2 ^ 20 := by omega
        have m1 : PMul (k : Int) (k : Int) := mulX 20 20 kz kz
        have d1 : PDiv (n : Int) (k : Int) := divX 20 kz k0
        have qz : ((n : Int).fdiv (k : Int)).natAbs < 2 ^ 20 := Nat.lt_of_le_of_lt (fdiv_abs_le _ _) nz
        have m2 : PMul ((n : Int).fdiv (k : Int)) (k : Int) := mulX 20 20 qz kz
        have a1 : decide ((k : Int) * (k : Int) ≤ (n : Int)) = decide (k * k ≤ n) := decide_eq_decide.mpr (by rw [← Int.natCast_mul]; omega)
        have a2 : decide ((n : Int).fdiv (k : Int) * (k : Int) = (n : Int)) = decide (n / k * k = n) := decide_eq_decide.mpr (by rw [n_div, ← Int.natCast_mul]; omega)
        refine ⟨⟨[.d (di (n : Int)), .d (di (k : Int))], []⟩, dvs n k, ⟨[.d (di (n : Int)), .d (di (k : Int))], []⟩, tgS_name (List.mem_cons_self ..), ?_, ?_⟩
        · unfold dvs
          by_cases c1 : k * k ≤ n
          · rw [decide_eq_true c1, Bool.true_and]
            exact t_andT (t_is (t_test (by wtm_at "ev")) (by rw [a1, decide_eq_true c1])) (t_is (t_test (by wtm_at "ev")) a2)
          · rw [decide_eq_false c1, Bool.false_and]
            exact t_andF (t_is (t_test (by wtm_at "ev")) (by rw [a1, decide_eq_false c1]))
        · rw [List.range_succ, List.filter_append, List.filter_cons, List.filter_nil, hk]
          cases hv : dvs n k with
          | true => exact .inl ⟨rfl, di (k : Int), _, e_var rfl, by rw [if_pos rfl, List.map_append, List.map_cons, hk]; rfl, rfl⟩
          | false => exact .inr ⟨rfl, by rw [if_neg (by decide), List.append_nil], rfl⟩
    · rw [decide_eq_false h1, Bool.false_and]
      exact r_ret (e_andF (e_is (by wtm_at "ev") (congrArg db (decide_eq_false (by omega))))) rfl

end
end Law
end

section
set_option Elab.async false
set_option linter.all false
set_option maxRecDepth 100000
set_option maxHeartbeats 4000000
set_option autoImplicit false
namespace Law
open PySem PySem.Spec PyProof.Rows L2 Py
def lawQ (n : Nat) : Bool := decide (1 < n) && (List.range 70).all fun i => !dvs n (i + 2)
theorem lawP_eq {n : Nat} (h : n < 5184) : lawP n = lawQ n := by
  unfold lawP lawQ
  congr 1
  rw [Bool.eq_iff_iff, List.isEmpty_iff, List.filter_eq_nil_iff, List.all_eq_true]
  constructor
  · intro a i hi
    cases hv : dvs n (i + 2) with
    | false => rfl
    | true =>
      have h1 : (i + 2) * (i + 2) ≤ n := by
        unfold dvs at hv
        exact of_decide_eq_true (Bool.and_eq_true_iff.mp hv).1
      have h2 : 2 * (i + 2) ≤ (i + 2) * (i + 2) := Nat.mul_le_mul_right _ (by omega)
      exact absurd hv (a i (List.mem_range.mpr (by omega)))
  · intro a i hi hv
    have h1 : (i + 2) * (i + 2) ≤ n := by
      unfold dvs at hv
      exact of_decide_eq_true (Bool.and_eq_true_iff.mp hv).1
    have h3 : i < 70 := by
      rcases Nat.lt_or_ge i 70 with z | z
      · exact z
      · have : (70 + 2) * (70 + 2) ≤ (i + 2) * (i + 2) := Nat.mul_le_mul (by omega) (by omega)
        omega
    have := a i (List.mem_range.mpr h3)
    rw [hv] at this
    cases this
/-- all below k, from lo on -/
def allB (p : Nat → Bool) : Nat → Nat → Bool
  | 0, _ => true
  | k + 1, lo => p lo && allB p k (lo + 1)
theorem allB_ok {p : Nat → Bool} : ∀ {k lo : Nat}, allB p k lo = true → ∀ n, lo ≤ n → n < lo + k → p n = true
  | 0, lo, _, n, h1, h2 => by omega
  | k + 1, lo, h, n, h1, h2 => by
    obtain ⟨a, b⟩ := Bool.and_eq_true_iff.mp (show (p lo && allB p k (lo + 1)) = true from h)
    rcases Nat.eq_or_lt_of_le h1 with z | z
    · rw [← z]; exact a
    · exact allB_ok b n z (by omega)
theorem isP_chk : allB (fun n => isP n == lawQ n) 5100 0 = true := by decide +kernel
theorem isP_eq {n : Nat} (h : n < 5100) : isP n = lawP n := by
  rw [lawP_eq (by omega)]
  exact eq_of_beq (allB_ok isP_chk n (Nat.zero_le _) (by omega))
end Law
end

section
set_option Elab.async false
set_option linter.all false
set_option maxRecDepth 100000
set_option maxHeartbeats 4000000
set_option autoImplicit false
set_option exponentiation.threshold 100
namespace Law.KC
open PySem PySem.Spec PyProof.Rows L2 Py
--def top (i : Nat) : Stmt := PySem.Challenge.pw_algebrastack_k01_whole_numbers_and_fract.main.body.getD i (.Pass ⟨0, 0, 0, 0⟩)

open Mt
local macro_rules | `(tactic| wtm_at "op") => `(tactic| first
  | with_reducible exact o_I0 | with_reducible exact o_add | with_reducible exact o_eqI | with_reducible exact o_neI
  | ((with_reducible apply o_mul); first | assumption | wtm_at "si")
  | ((with_reducible apply o_I); first | assumption | wtm_at "si")
  | ((with_reducible apply o_ixT); rfl) | ((with_reducible apply o_ixL); rfl)
  | ((with_reducible apply o_eqD) <;> first | rfl | decide | assumption) | ((with_reducible apply o_neD) <;> first | rfl | decide | assumption)
  | with_reducible assumption)
local macro_rules | `(tactic| wtm_at "si") => `(tactic| first | decide | exact ⟨by decide, by decide +kernel⟩ | omega)
local macro_rules | `(tactic| wtm_at "ev") => `(tactic| first
  | ((with_reducible apply e_var); rfl) | with_reducible exact e_c | with_reducible exact a_nil
  | ((with_reducible apply a_cons) <;> wtm_at "ev")
  | ((with_reducible apply e_bin) <;> first | wtm_at "ev" | wtm_at "op")
  | ((with_reducible apply e_ixO) <;> first | rfl | wtm_at "ev")
  | ((with_reducible apply e_U) <;> wtm_at "ev")
  | ((with_reducible apply t_test) <;> wtm_at "ev")
  | ((with_reducible apply t_B) <;> wtm_at "ev")
  | ((with_reducible apply t_not) <;> wtm_at "ev")
  | ((with_reducible apply e_tup) <;> first | wtm_at "ev" | exact Nat.le_of_ble_eq_true rfl)
  | ((with_reducible apply e_lst) <;> first | wtm_at "ev" | exact Nat.le_of_ble_eq_true rfl)
  | ((with_reducible apply e_gcd) <;> wtm_at "ev")
  | ((with_reducible apply e_abs) <;> wtm_at "ev")
  | ((with_reducible apply e_max2) <;> wtm_at "ev")
  | ((with_reducible apply e_int) <;> wtm_at "ev")
  | ((with_reducible apply e_intB) <;> wtm_at "ev")
  | ((with_reducible apply e_bits) <;> wtm_at "ev")
  | ((with_reducible apply e_not) <;> wtm_at "ev")
  | with_reducible assumption)

section
variable {P : Program} {w : World} {K : Frg} {T : List (Addr × Str)} {mg : Str → Option Value} {base : Heap}

abbrev s_convergents : Stmt := top 25
theorem sc_convergents : FnScope ["one", "other", "rows", "last", "before", "above", "below", "whole"] ["one", "other"] (defScope s_convergents) := ⟨rfl, rfl, rfl, by decide +kernel, rfl, by decide +kernel, by decide +kernel⟩
abbrev s__law_convergents : Stmt := top 49
theorem sc__law_convergents : FnScope ["one", "below", "a", "b", "c", "d", "found", "part"] ["one", "below"] (defScope s__law_convergents) := ⟨rfl, rfl, rfl, by decide +kernel, rfl, by decide +kernel, by decide +kernel⟩
abbrev s__law_gcd : Stmt := top 45
theorem sc__law_gcd : FnScope ["one", "other"] ["one", "other"] (defScope s__law_gcd) := ⟨rfl, rfl, rfl, by decide +kernel, rfl, by decide +kernel, by decide +kernel⟩
abbrev s__law_frac : Stmt := top 46
theorem sc__law_frac : FnScope ["one", "other", "divisor"] ["one", "other"] (defScope s__law_frac) := ⟨rfl, rfl, rfl, by decide +kernel, rfl, by decide +kernel, by decide +kernel⟩
abbrev s__law_plus : Stmt := top 47
theorem sc__law_plus : FnScope ["one", "other"] ["one", "other"] (defScope s__law_plus) := ⟨rfl, rfl, rfl, by decide +kernel, rfl, by decide +kernel, by decide +kernel⟩
abbrev s__law_times : Stmt := top 48
theorem sc__law_times : FnScope ["one", "other"] ["one", "other"] (defScope s__law_times) := ⟨rfl, rfl, rfl, by decide +kernel, rfl, by decide +kernel, by decide +kernel⟩
/-! ### convergents -/
structure Cv where
  p : Int
  q : Int
  p' : Int
  q' : Int
  a : Int
  b : Int
def Cv.step (s : Cv) : Cv := ⟨s.a.fdiv s.b * s.p + s.p', s.a.fdiv s.b * s.q + s.q', s.p, s.q, s.b, s.a - s.a.fdiv s.b * s.b⟩
def cvF : Nat → Cv → List (Int × Int) → List (Int × Int)
  | 0, _, rs => rs
  | k + 1, s, rs => if s.b = 0 then rs else cvF k s.step (rs ++ [(s.step.p, s.step.q)])
def cvN (x y : Int) : List (Int × Int) := cvF (y.natAbs + 1) ⟨1, 0, 0, 1, x, y⟩ []
structure CR (x y : Int) (s : Cv) : Prop where
  i1 : x = s.p * s.a + s.p' * s.b
  i2 : y = s.q * s.a + s.q' * s.b
  dt : s.p * s.q' - s.p' * s.q = 1 ∨ s.p * s.q' - s.p' * s.q = -1
  q0 : 0 ≤ s.q
  q0' : 0 ≤ s.q'
  b0 : 0 ≤ s.b
  by_ : s.b ≤ y
  qa : s.q = 0 ∨ 0 ≤ s.a
  pb : s.p.natAbs ≤ x.natAbs + 1
  pb' : s.p'.natAbs ≤ x.natAbs + 1
  qb : s.q ≤ y
  qb' : s.q' ≤ y
theorem CR.start {x y : Int} (hy : 1 ≤ y) : CR x y ⟨1, 0, 0, 1, x, y⟩ := ⟨by simp, by simp, .inl rfl, Int.le_refl 0, Int.one_nonneg, by show 0 ≤ y; omega, Int.le_refl _, .inl rfl, by show (1 : Int).natAbs ≤ _; simp, by show (0 : Int).natAbs ≤ _; simp, by show 0 ≤ y; omega, hy⟩
theorem CR.step {x y : Int} {s : Cv} (h : CR x y s) (hb : s.b ≠ 0) : CR x y s.step ∧ s.step.b < s.b := by
  have b1 : 0 < s.b := by have := h.b0; omega
  have e : s.a - s.a.fdiv s.b * s.b = s.a.fmod s.b := by rw [Int.fmod_def, Int.mul_comm]
  have r0 : 0 ≤ s.a.fmod s.b := Int.fmod_nonneg_of_pos _ b1
  have r1 : s.a.fmod s.b < s.b := Int.fmod_lt_of_pos _ b1
  have wq : 0 ≤ s.a.fdiv s.b * s.q := by
    rcases h.qa with z | z
    · rw [z]; simp
    · exact Int.mul_nonneg (Int.fdiv_nonneg z h.b0) h.q0
  have i1 := h.i1
  have i2 := h.i2
  have dt := h.dt
  have q0 := h.q0
  have q0' := h.q0'
  generalize hw : s.a.fdiv s.b = w at *
  generalize hr : s.a.fmod s.b = r at *
  have ea : s.a = w * s.b + r := by omega
  have j1 : x = (w * s.p + s.p') * s.b + s.p * r := by rw [i1, ea]; grind
  have j2 : y = (w * s.q + s.q') * s.b + s.q * r := by rw [i2, ea]; grind
  have dt2 : (w * s.p + s.p') * s.q - s.p * (w * s.q + s.q') = -(s.p * s.q' - s.p' * s.q) := by grind
  have qn : 0 ≤ w * s.q + s.q' := by omega
  have qle : w * s.q + s.q' ≤ y := by
    have h1 : (w * s.q + s.q') * 1 ≤ (w * s.q + s.q') * s.b := Int.mul_le_mul_of_nonneg_left (by omega) qn
    have h2 : 0 ≤ s.q * r := Int.mul_nonneg q0 r0
    omega
  have pz : (w * s.p + s.p') * y = (w * s.q + s.q') * x + r * ((w * s.p + s.p') * s.q - s.p * (w * s.q + s.q')) := by
    have a1 : (w * s.p + s.p') * y = (w * s.p + s.p') * ((w * s.q + s.q') * s.b + s.q * r) := by rw [← j2]
    have a2 : (w * s.q + s.q') * x = (w * s.q + s.q') * ((w * s.p + s.p') * s.b + s.p * r) := by rw [← j1]
    rw [a1, a2]
    grind
  have pn : (w * s.p + s.p').natAbs ≤ x.natAbs + 1 := by
    generalize w * s.p + s.p' = pp at *
    generalize w * s.q + s.q' = qq at *
    have h1 : (pp * y).natAbs ≤ qq.natAbs * x.natAbs + r.natAbs := by
      rw [pz, dt2]
      refine Nat.le_trans (Int.natAbs_add_le _ _) ?_
      rw [Int.natAbs_mul, Int.natAbs_mul, Int.natAbs_neg]
      have : (s.p * s.q' - s.p' * s.q).natAbs = 1 := by rcases dt with z | z <;> rw [z] <;> rfl
      rw [this]
      omega
    rw [Int.natAbs_mul] at h1
    have by_ := h.by_
    have h2 : qq.natAbs * x.natAbs ≤ y.natAbs * x.natAbs := Nat.mul_le_mul_right _ (by omega)
    have h3 : pp.natAbs * y.natAbs ≤ (x.natAbs + 1) * y.natAbs := by
      rw [Nat.add_mul, Nat.one_mul, Nat.mul_comm x.natAbs]
      omega
    exact Nat.le_of_mul_le_mul_right h3 (by omega)
  have dt3 : (w * s.p + s.p') * s.q - s.p * (w * s.q + s.q') = 1 ∨ (w * s.p + s.p') * s.q - s.p * (w * s.q + s.q') = -1 := by
    rw [dt2]
    omega
  unfold Cv.step
  rw [hw, e]
  exact ⟨⟨j1, j2, dt3, qn, q0, r0, by have := h.by_; show r ≤ y; omega, .inr h.b0, pn, h.pb, qle, h.qb⟩, r1⟩
theorem cvF_step {k : Nat} {s : Cv} {rs : List (Int × Int)} (h : s.b ≠ 0) : cvF (k + 1) s rs = cvF k s.step (rs ++ [(s.step.p, s.step.q)]) := if_neg h
theorem cvF_done {k : Nat} {s : Cv} {rs : List (Int × Int)} (h : s.b = 0) : cvF k s rs = rs := by
  cases k with
  | zero => rfl
  | succ k => exact if_pos h
def sp_cv (K : Frg) (mk : List Dt → Dt) : List Dt → Rs → Prop := fun ds r => ∃ x y : Int, ds = [di x, di y] ∧ Sz 3000 x ∧ 1 ≤ y ∧ y ≤ 90000 ∧ r = .ok (mk ((cvN x y).map fr))
structure CvZ (s : Cv) : Prop where
  b : s.b.natAbs < 2 ^ 20
  q : s.q.natAbs < 2 ^ 20
  p : s.p.natAbs < 2 ^ 3001
theorem CR.z {x y : Int} {s : Cv} (h : CR x y s) (hx : Sz 3000 x) (hy : y ≤ 90000) : CvZ s := by
  have hp := h.pb
  have hq := h.qb
  have q0 := h.q0
  have b0 := h.b0
  have by_ := h.by_
  refine ⟨by omega, by omega, ?_⟩
  have : 2 ^ 3001 = 2 * 2 ^ 3000 := by rw [Nat.pow_succ]; omega
  unfold Sz at hx
  omega

theorem ok_convergents (X : Txt K mg) (F : ∃ fd, FunD K "convergents" "convergents" (defArgs s_convergents) (defBody s_convergents) (defScope s_convergents) [] [] (He.ga K "convergents") fd) (hm : mg "convergents" = some (.ref (He.ga K "convergents"))) : Gd P w K mg base "convergents" ["one", "other"] 1 (spD K T (sp_cv K .tup)) := by
  have Tx := X
  refine mkG F hm sc_convergents (fun _ _ _ _ _ _ us hl => match us, hl with | [_, _], _ => rfl) (fun ds r h => ?len) (fun cdv A outer s H E hr => ?body)
  case len => (obtain ⟨_, _, rfl, _⟩ := h; rfl)
  case body =>
    have sc := sc_convergents
    refine ⟨_, (pss_cons (ps_if (pt_cmpR op_lt (pv 1) pe_int (nomark _)) (pss_one (ps_rz rfl takesE PySem.F.excBase_ValueError Tx.xNumberError.1 Tx.gNumberError Tx.xNumberError.2.1 (raises_own Tx.xNumberError.2.2.1 Tx.xNumberError.2.2.2) rfl)) pss_nil)
  (pss_cons (ps_par3 (i := 2) (j := 3) (l := 4) rfl sc.nd rfl rfl rfl (by decide) (by decide) (by decide) rfl rfl rfl (pa_cons (pe_lst pa_nil) (pa_cons (pe_tup (pa_cons pe_int (pa_cons pe_int pa_nil))) (pa_cons (pe_tup (pa_cons pe_int (pa_cons pe_int pa_nil))) pa_nil))) (by rfl))
  (pss_cons (ps_par (i := 5) (j := 6) rfl sc.nd rfl rfl (by decide) rfl rfl (pa_cons (pv 0) (pa_cons (pv 1) pa_nil)) (by rfl))
  (pss_cons (ps_while (passesE) (pt_cmpR (op_neA hr.units) (pv 6) pe_int (nomark _)) (pss_cons (ps_set (i := 7) sc.nd rfl (Or.inl rfl) (pe_op op_fdivX (pv 5) (pv 6)))
  (pss_cons (ps_par (i := 5) (j := 6) rfl sc.nd rfl rfl (by decide) rfl rfl (pa_cons (pv 6) (pa_cons (pe_op op_sub (pv 5) (pe_op op_mulA (pv 7) (pv 6))) pa_nil)) (by rfl))
  (pss_cons (ps_par (i := 3) (j := 4) rfl sc.nd rfl rfl (by decide) rfl rfl (pa_cons (pe_tup (pa_cons (pe_op op_addA (pe_op op_mulA (pv 7) (pe_ix ix_seq (pv 3) pe_int (fun _ _ => rfl))) (pe_ix ix_seq (pv 4) pe_int (fun _ _ => rfl))) (pa_cons (pe_op op_addA (pe_op op_mulA (pv 7) (pe_ix ix_seq (pv 3) pe_int (fun _ _ => rfl))) (pe_ix ix_seq (pv 4) pe_int (fun _ _ => rfl))) pa_nil))) (pa_cons (pv 3) pa_nil)) (by rfl))
  (pss_one (ps_expr (pe_bm PySem.F.plainAttrs_list PySem.F.slot_list_append PySem.F.type_list_append mt_append (pv 2) (pa_cons (pv 3) pa_nil))))))))
  (pss_one (ps_ret (pe_callTy call_tuple_of (by rfl) Tx.n_tuple (by decide +kernel) (pa_cons (pv 2) pa_nil)))))))), fun O ds r hg => ?_⟩
    clear sc hr
    try dsimp only [cxOf]

    obtain ⟨x, y, rfl, hx, hy, hy2, rfl⟩ := hg
    refine r_seq (r_ifFs (t_is (t_test (by wtm_at "ev")) (decide_eq_false (by omega))) (r_next ?_))
    refine r_seq (r_par3P (p_l a_nil (by decide) (p_d (by wtm_at "ev") (p_d (by wtm_at "ev") p_nil))) ?_)
    refine r_seq (r_par (by wtm_at "ev") ?_)
    refine r_cut (fun A' => ∃ s : Cv, ∃ v : SD, A' = ⟨[.d (di x), .d (di y), .own 0, .d (fr (s.p, s.q)), .d (fr (s.p', s.q')), .d (di s.a), .d (di s.b), v], [.lst ((cvN x y).map fr)]⟩) (r_while (fun m A => ∃ (s : Cv) (k : Nat) (rs : List (Int × Int)) (v : SD), CR x y s ∧ s.b.natAbs < k ∧ rs.length + s.b.natAbs ≤ y.natAbs ∧ m = s.b.natAbs ∧ cvF k s rs = cvN x y ∧ s.a.natAbs < 2 ^ 3000 ∧ A = ⟨[.d (di x), .d (di y), .own 0, .d (fr (s.p, s.q)), .d (fr (s.p', s.q')), .d (di s.a), .d (di s.b), v], [.lst (rs.map fr)]⟩) _ ⟨⟨1, 0, 0, 1, x, y⟩, y.natAbs + 1, [], .un, CR.start hy, by show y.natAbs < _; omega, by show 0 + y.natAbs ≤ _; omega, rfl, rfl, hx, rfl⟩ ?_) ?_
    · rintro m A ⟨s, k, rs, v, h, hk, hl, rfl, he, hz, rfl⟩
      have z := h.z hx hy2
      refine ⟨!decide (s.b = 0), _, by wtm_at "ev", fun hb => ?_, fun hb => ?_⟩
      · have hb0 : s.b ≠ 0 := by simpa using hb
        obtain ⟨k, rfl⟩ : ∃ j, k = j + 1 := ⟨k - 1, by omega⟩
        rw [cvF_step hb0] at he
        obtain ⟨h', lt⟩ := h.step hb0
        have b0 := h.b0
        have b0' := h'.b0
        have z' := h'.z hx hy2
        have d1 : PDiv s.a s.b := divX 20 z.b hb0
        have ql : (s.a.fdiv s.b).natAbs < 2 ^ 3000 := Nat.lt_of_le_of_lt (fdiv_abs_le _ _) hz
        have m1 : PMul (s.a.fdiv s.b) s.b := mulX 3000 20 ql z.b
        have m2 : PMul (s.a.fdiv s.b) s.p := mulX 3000 3001 ql z.p
        have m3 : PMul (s.a.fdiv s.b) s.q := mulX 3000 20 ql z.q
        have zb : s.step.a.natAbs < 2 ^ 3000 := Nat.lt_of_lt_of_le z.b (Nat.pow_le_pow_right (by decide) (by decide))
        refine r_seq (r_asg (by wtm_at "ev") ?_)
        refine r_seq (r_par (by wtm_at "ev") ?_)
        refine r_seq (r_par (by wtm_at "ev") ?_)
        refine r_drop (e_append (n := 0) rfl rfl (by wtm_at "ev") rfl rfl (by rw [List.length_map]; omega)) ?_
        refine ⟨s.step.b.natAbs, by omega, s.step, k, rs ++ [(s.step.p, s.step.q)], .d (di (s.a.fdiv s.b)), h', by omega, by rw [List.length_append, List.length_singleton]; omega, rfl, he, zb, ?_⟩
        rw [List.map_append]
        rfl
      · have hb0 : s.b = 0 := by simpa using hb
        rw [cvF_done hb0] at he
        rw [← he]
        exact ⟨s, v, rfl⟩
    · rintro A' ⟨s, v, rfl⟩
      exact r_ret (e_tupO (n := 0) rfl rfl) rfl

theorem ok__law_convergents (X : Txt K mg) (F : ∃ fd, FunD K "_law_convergents" "_law_convergents" (defArgs s__law_convergents) (defBody s__law_convergents) (defScope s__law_convergents) [] [] (He.ga K "_law_convergents") fd) (hm : mg "_law_convergents" = some (.ref (He.ga K "_law_convergents"))) : Gd P w K mg base "_law_convergents" ["one", "below"] 1 (spD K T (sp_cv K .lst)) := by
  have Tx := X
  refine mkG F hm sc__law_convergents (fun _ _ _ _ _ _ us hl => match us, hl with | [_, _], _ => rfl) (fun ds r h => ?len) (fun cdv A outer s H E hr => ?body)
  case len => (obtain ⟨_, _, rfl, _⟩ := h; rfl)
  case body =>
    have sc := sc__law_convergents
    refine ⟨_, (pss_cons (ps_asg (pe_tup (pa_cons (pe_tup (pa_cons pe_int (pa_cons pe_int pa_nil))) (pa_cons (pe_tup (pa_cons pe_int (pa_cons pe_int pa_nil))) (pa_cons (pe_lst pa_nil) pa_nil)))) (pg_tup rfl (pgs_cons (pg_tup rfl (pgs_cons (pg_name (i := 2) sc.nd rfl (Or.inl rfl)) (pgs_cons (pg_name (i := 3) sc.nd rfl (Or.inl rfl)) pgs_nil))) (pgs_cons (pg_tup rfl (pgs_cons (pg_name (i := 4) sc.nd rfl (Or.inl rfl)) (pgs_cons (pg_name (i := 5) sc.nd rfl (Or.inl rfl)) pgs_nil))) (pgs_cons (pg_name (i := 6) sc.nd rfl (Or.inl rfl)) pgs_nil)))))
  (pss_cons (ps_while (passesE) (pt_cmpR (op_neA hr.units) (pv 1) pe_int (nomark _)) (pss_cons (ps_set (i := 7) sc.nd rfl (Or.inl rfl) (pe_op op_fdivX (pv 0) (pv 1)))
  (pss_cons (ps_asg (pe_tup (pa_cons (pe_tup (pa_cons (pe_op op_addA (pe_op op_mulA (pv 7) (pv 2)) (pv 4)) (pa_cons (pe_op op_addA (pe_op op_mulA (pv 7) (pv 3)) (pv 5)) pa_nil))) (pa_cons (pe_tup (pa_cons (pv 2) (pa_cons (pv 3) pa_nil))) (pa_cons (pv 1) (pa_cons (pe_op op_sub (pv 0) (pe_op op_mulA (pv 7) (pv 1))) pa_nil))))) (pg_tup rfl (pgs_cons (pg_tup rfl (pgs_cons (pg_name (i := 2) sc.nd rfl (Or.inl rfl)) (pgs_cons (pg_name (i := 3) sc.nd rfl (Or.inl rfl)) pgs_nil))) (pgs_cons (pg_tup rfl (pgs_cons (pg_name (i := 4) sc.nd rfl (Or.inl rfl)) (pgs_cons (pg_name (i := 5) sc.nd rfl (Or.inl rfl)) pgs_nil))) (pgs_cons (pg_name (i := 0) sc.nd rfl (Or.inl rfl)) (pgs_cons (pg_name (i := 1) sc.nd rfl (Or.inl rfl)) pgs_nil))))))
  (pss_one (ps_expr (pe_bm PySem.F.plainAttrs_list PySem.F.slot_list_append PySem.F.type_list_append mt_append (pv 6) (pa_cons (pe_tup (pa_cons (pv 2) (pa_cons (pv 3) pa_nil))) pa_nil)))))))
  (pss_one (ps_ret (pv 6))))), fun O ds r hg => ?_⟩
    clear sc hr
    try dsimp only [cxOf]

    obtain ⟨x, y, rfl, hx, hy, hy2, rfl⟩ := hg
    refine r_seq (r_tgP (p_d (by wtm_at "ev") (p_d (by wtm_at "ev") (p_l a_nil (by decide) p_nil))) rfl (Nat.le_of_ble_eq_true rfl) (tgPA_cons (tgP_d (tg_tup rfl (tgA_cons tg_name (tgA_cons tg_name tgA_nil)))) (tgPA_cons (tgP_d (tg_tup rfl (tgA_cons tg_name (tgA_cons tg_name tgA_nil)))) (tgPA_cons tgP_name tgPA_nil))) ?_)
    refine r_cut (fun A' => ∃ s : Cv, ∃ v : SD, A' = ⟨[.d (di s.a), .d (di s.b), .d (di s.p), .d (di s.q), .d (di s.p'), .d (di s.q'), .own 0, v], [.lst ((cvN x y).map fr)]⟩) (r_while (fun m A => ∃ (s : Cv) (k : Nat) (rs : List (Int × Int)) (v : SD), CR x y s ∧ s.b.natAbs < k ∧ rs.length + s.b.natAbs ≤ y.natAbs ∧ m = s.b.natAbs ∧ cvF k s rs = cvN x y ∧ s.a.natAbs < 2 ^ 3000 ∧ A = ⟨[.d (di s.a), .d (di s.b), .d (di s.p), .d (di s.q), .d (di s.p'), .d (di s.q'), .own 0, v], [.lst (rs.map fr)]⟩) _ ⟨⟨1, 0, 0, 1, x, y⟩, y.natAbs + 1, [], .un, CR.start hy, by show y.natAbs < _; omega, by show 0 + y.natAbs ≤ _; omega, rfl, rfl, hx, rfl⟩ ?_) ?_
    · rintro m A ⟨s, k, rs, v, h, hk, hl, rfl, he, hz, rfl⟩
      have z := h.z hx hy2
      refine ⟨!decide (s.b = 0), _, by wtm_at "ev", fun hb => ?_, fun hb => ?_⟩
      · have hb0 : s.b ≠ 0 := by simpa using hb
        obtain ⟨k, rfl⟩ : ∃ j, k = j + 1 := ⟨k - 1, by omega⟩
        rw [cvF_step hb0] at he
        obtain ⟨h', lt⟩ := h.step hb0
        have b0 := h.b0
        have b0' := h'.b0
        have z' := h'.z hx hy2
        have d1 : PDiv s.a s.b := divX 20 z.b hb0
        have ql : (s.a.fdiv s.b).natAbs < 2 ^ 3000 := Nat.lt_of_le_of_lt (fdiv_abs_le _ _) hz
        have m1 : PMul (s.a.fdiv s.b) s.b := mulX 3000 20 ql z.b
        have m2 : PMul (s.a.fdiv s.b) s.p := mulX 3000 3001 ql z.p
        have m3 : PMul (s.a.fdiv s.b) s.q := mulX 3000 20 ql z.q
        have zb : s.step.a.natAbs < 2 ^ 3000 := Nat.lt_of_lt_of_le z.b (Nat.pow_le_pow_right (by decide) (by decide))
        refine r_seq (r_asg (by wtm_at "ev") ?_)
        refine r_seq (r_tg (by wtm_at "ev") (tg_tup rfl (tgA_cons (tg_tup rfl (tgA_cons tg_name (tgA_cons tg_name tgA_nil))) (tgA_cons (tg_tup rfl (tgA_cons tg_name (tgA_cons tg_name tgA_nil))) (tgA_cons tg_name (tgA_cons tg_name tgA_nil))))) ?_)
        refine r_drop (e_append (n := 0) rfl rfl (by wtm_at "ev") rfl rfl (by rw [List.length_map]; omega)) ?_
        refine ⟨s.step.b.natAbs, by omega, s.step, k, rs ++ [(s.step.p, s.step.q)], .d (di (s.a.fdiv s.b)), h', by omega, by rw [List.length_append, List.length_singleton]; omega, rfl, he, zb, ?_⟩
        rw [List.map_append]
        rfl
      · have hb0 : s.b = 0 := by simpa using hb
        rw [cvF_done hb0] at he
        rw [← he]
        exact ⟨s, v, rfl⟩
    · rintro A' ⟨s, v, rfl⟩
      exact r_retO (n := 0) rfl rfl rfl

/-! ### the law's fractions -/
def sp_lgcd : List Dt → Rs → Prop := fun ds r => ∃ a b : Int, ds = [di a, di b] ∧ Sz 8000 a ∧ Sz 8000 b ∧ r = .ok (di (Int.gcd a b))
def sp_lfrac : List Dt → Rs → Prop := fun ds r => ∃ a b : Int, ds = [di a, di b] ∧ Sz 8000 a ∧ Sz 8000 b ∧ b ≠ 0 ∧ r = .ok (fr (ratI a b))
def sp_ltwo (f g : Int × Int → Int × Int → Int) : List Dt → Rs → Prop := fun ds r => ∃ p q : Int × Int, ds = [fr p, fr q] ∧ SzF 3000 p ∧ SzF 3000 q ∧ g p q ≠ 0 ∧ r = .ok (fr (ratI (f p q) (g p q)))
theorem gcd_next (m n : Nat) : Nat.gcd n (m % n) = Nat.gcd m n := by
  rw [Nat.gcd_comm n, ← Nat.gcd_rec, Nat.gcd_comm]

theorem ok__law_gcd (X : Txt K mg) (F : ∃ fd, FunD K "_law_gcd" "_law_gcd" (defArgs s__law_gcd) (defBody s__law_gcd) (defScope s__law_gcd) [] [] (He.ga K "_law_gcd") fd) (hm : mg "_law_gcd" = some (.ref (He.ga K "_law_gcd"))) : Gd P w K mg base "_law_gcd" ["one", "other"] 1 (spD K T sp_lgcd) := by
  have Tx := X
  refine mkG F hm sc__law_gcd (fun _ _ _ _ _ _ us hl => match us, hl with | [_, _], _ => rfl) (fun ds r h => ?len) (fun cdv A outer s H E hr => ?body)
  case len => (obtain ⟨_, _, rfl, _⟩ := h; rfl)
  case body =>
    have sc := sc__law_gcd
    refine ⟨_, (pss_cons (ps_par (i := 0) (j := 1) rfl sc.nd rfl rfl (by decide) rfl rfl (pa_cons (pe_callB call_abs (by rfl) Tx.n_abs (by decide +kernel) (pa_cons (pv 0) pa_nil)) (pa_cons (pe_callB call_abs (by rfl) Tx.n_abs (by decide +kernel) (pa_cons (pv 1) pa_nil)) pa_nil)) (by rfl))
  (pss_cons (ps_while (passesE) (pt_cmpR (op_neA hr.units) (pv 1) pe_int (nomark _)) (pss_one (ps_par (i := 0) (j := 1) rfl sc.nd rfl rfl (by decide) rfl rfl (pa_cons (pv 1) (pa_cons (pe_op op_sub (pv 0) (pe_op op_mulA (pe_op op_fdivX (pv 0) (pv 1)) (pv 1))) pa_nil)) (by rfl))))
  (pss_one (ps_ret (pv 0))))), fun O ds r hg => ?_⟩
    clear sc hr
    try dsimp only [cxOf]

    obtain ⟨a, b, rfl, ha, hb, rfl⟩ := hg
    have ea : ∀ n : Int, (if n < 0 then -n else n) = (n.natAbs : Int) := fun n => by split <;> omega
    refine r_seq (r_par (a_cons (e_is (by wtm_at "ev") (congrArg di (ea a))) (a_cons (e_is (by wtm_at "ev") (congrArg di (ea b))) a_nil)) ?_)
    refine r_seq (r_while (fun m A => ∃ l : Nat, l < 2 ^ 8000 ∧ m < 2 ^ 8000 ∧ Nat.gcd l m = Int.gcd a b ∧ A = ⟨[.d (di (l : Int)), .d (di (m : Int))], []⟩) b.natAbs ⟨a.natAbs, ha, hb, rfl, rfl⟩ ?_)
    rintro m A ⟨l, hl, hm, hg, rfl⟩
    refine ⟨!decide ((m : Int) = 0), _, by wtm_at "ev", fun hz => ?_, fun hz => ?_⟩
    · have m0 : m ≠ 0 := fun z => by
        have : ¬ (m : Int) = 0 := by simpa using hz
        omega
      have zm : (m : Int).natAbs < 2 ^ 8000 := hm
      have d1 : PDiv (l : Int) (m : Int) := divX 8000 zm (by omega)
      have q1 : ((l : Int).fdiv (m : Int)).natAbs < 2 ^ 8000 := Nat.lt_of_le_of_lt (fdiv_abs_le _ _) hl
      have m1 : PMul ((l : Int).fdiv (m : Int)) (m : Int) := mulX 8000 8000 q1 zm
      have em : (l : Int) - (l : Int).fdiv (m : Int) * (m : Int) = ((l % m : Nat) : Int) := by
        rw [n_div, ← Int.natCast_mul]
        have := Nat.div_add_mod' l m
        omega
      refine r_par (a_cons (by wtm_at "ev") (a_cons (e_is (by wtm_at "ev") (congrArg di em)) a_nil)) ⟨l % m, Nat.mod_lt _ (by omega), m, hm, Nat.lt_trans (Nat.mod_lt _ (by omega)) hm, by rw [gcd_next, hg], rfl⟩
    · have m0 : m = 0 := by
        have : (m : Int) = 0 := by simpa using hz
        omega
      subst m0
      rw [Nat.gcd_zero_right] at hg
      subst hg
      exact r_ret (by wtm_at "ev") rfl

theorem ok__law_frac (X : Txt K mg) (F : ∃ fd, FunD K "_law_frac" "_law_frac" (defArgs s__law_frac) (defBody s__law_frac) (defScope s__law_frac) [] [] (He.ga K "_law_frac") fd) (hm : mg "_law_frac" = some (.ref (He.ga K "_law_frac"))) (G__law_gcd : Gd P w K mg base "_law_gcd" ["one", "other"] 1 (spD K T sp_lgcd)) : Gd P w K mg base "_law_frac" ["one", "other"] 2 (spD K T sp_lfrac) := by
  have Tx := X
  refine mkG F hm sc__law_frac (fun _ _ _ _ _ _ us hl => match us, hl with | [_, _], _ => rfl) (fun ds r h => ?len) (fun cdv A outer s H E hr => ?body)
  case len => (obtain ⟨_, _, rfl, _⟩ := h; rfl)
  case body =>
    have sc := sc__law_frac
    refine ⟨_, (pss_cons (ps_set (i := 2) sc.nd rfl (Or.inl rfl) (pe_op op_mulA (pe_callG G__law_gcd (hr.mono (by decide)) psE (pa_cons (pv 0) (pa_cons (pv 1) pa_nil))) (pe_ifExp (pt_cmpR op_gt (pv 1) pe_int (nomark _)) pe_int (pe_un un_neg pe_int))))
  (pss_one (ps_ret (pe_tup (pa_cons (pe_op op_fdivX (pv 0) (pv 2)) (pa_cons (pe_op op_fdivX (pv 1) (pv 2)) pa_nil)))))), fun O ds r hg => ?_⟩
    clear sc hr
    try dsimp only [cxOf]

    obtain ⟨a, b, rfl, ha, hb, h0, rfl⟩ := hg
    have gz := gcd_sz (a := a) h0 hb
    have g0 := gcd_ne (a := a) h0
    unfold ratI
    by_cases hn : b < 0
    · rw [if_pos hn]
      have m1 : PMul (Int.gcd a b : Int) (-1) := mulX 8000 1 gz (by decide)
      have gz' : Sz 8000 (-(Int.gcd a b : Int)) := by unfold Sz at *; omega
      have d1 : PDiv a (-(Int.gcd a b : Int)) := divX 8000 gz' (by omega)
      have d2 : PDiv b (-(Int.gcd a b : Int)) := divX 8000 gz' (by omega)
      refine r_seq (r_asg (e_is (e_bin (e_call (by wtm_at "ev") ⟨a, b, rfl, ha, hb, rfl⟩) (e_ifF (t_is (t_test (by wtm_at "ev")) (decide_eq_false (by omega))) (by wtm_at "ev")) (o_mul m1)) (congrArg di (show (Int.gcd a b : Int) * (-1) = -(Int.gcd a b : Int) by omega))) ?_)
      exact r_ret (by wtm_at "ev") rfl
    · rw [if_neg hn]
      have m1 : PMul (Int.gcd a b : Int) 1 := mulX 8000 1 gz (by decide)
      have d1 : PDiv a (Int.gcd a b : Int) := divX 8000 gz g0
      have d2 : PDiv b (Int.gcd a b : Int) := divX 8000 gz g0
      refine r_seq (r_asg (e_is (e_bin (e_call (by wtm_at "ev") ⟨a, b, rfl, ha, hb, rfl⟩) (e_ifT (t_is (t_test (by wtm_at "ev")) (decide_eq_true (by omega))) (by wtm_at "ev")) (o_mul m1)) (congrArg di (show (Int.gcd a b : Int) * 1 = (Int.gcd a b : Int) by omega))) ?_)
      exact r_ret (by wtm_at "ev") rfl

theorem ok__law_plus (X : Txt K mg) (F : ∃ fd, FunD K "_law_plus" "_law_plus" (defArgs s__law_plus) (defBody s__law_plus) (defScope s__law_plus) [] [] (He.ga K "_law_plus") fd) (hm : mg "_law_plus" = some (.ref (He.ga K "_law_plus"))) (G__law_frac : Gd P w K mg base "_law_frac" ["one", "other"] 2 (spD K T sp_lfrac)) : Gd P w K mg base "_law_plus" ["one", "other"] 3 (spD K T (sp_ltwo (fun p q => p.1 * q.2 + q.1 * p.2) (fun p q => p.2 * q.2))) := by
  have Tx := X
  refine mkG F hm sc__law_plus (fun _ _ _ _ _ _ us hl => match us, hl with | [_, _], _ => rfl) (fun ds r h => ?len) (fun cdv A outer s H E hr => ?body)
  case len => (obtain ⟨_, _, rfl, _⟩ := h; rfl)
  case body =>
    have sc := sc__law_plus
    refine ⟨_, (pss_one (ps_ret (pe_callG G__law_frac (hr.mono (by decide)) psE (pa_cons (pe_op op_addA (pe_op op_mulA (pe_ix ix_seq (pv 0) pe_int (fun _ _ => rfl)) (pe_ix ix_seq (pv 1) pe_int (fun _ _ => rfl))) (pe_op op_mulA (pe_ix ix_seq (pv 1) pe_int (fun _ _ => rfl)) (pe_ix ix_seq (pv 0) pe_int (fun _ _ => rfl)))) (pa_cons (pe_op op_mulA (pe_ix ix_seq (pv 0) pe_int (fun _ _ => rfl)) (pe_ix ix_seq (pv 1) pe_int (fun _ _ => rfl))) pa_nil))))), fun O ds r hg => ?_⟩
    clear sc hr
    try dsimp only [cxOf]

    obtain ⟨⟨a, b⟩, ⟨c, d⟩, rfl, hp, hq, h0, rfl⟩ := hg
    have ha : a.natAbs < 2 ^ 3000 := hp.a
    have hb : b.natAbs < 2 ^ 3000 := hp.b
    have hc : c.natAbs < 2 ^ 3000 := hq.a
    have hd : d.natAbs < 2 ^ 3000 := hq.b
    have m0 : PMul a d := mulX 3000 3000 ha hd
    have m1 : PMul c b := mulX 3000 3000 hc hb
    have m2 : PMul b d := mulX 3000 3000 hb hd
    refine r_ret (e_call (by wtm_at "ev") ⟨_, _, rfl, ?_, ?_, h0, rfl⟩) rfl
    · exact (Sz.add (Sz.mul (m := 3000) (n := 3000) ha hd) (Sz.mul (m := 3000) (n := 3000) hc hb)).mono (by decide)
    · exact (Sz.mul (m := 3000) (n := 3000) hb hd).mono (by decide)

theorem ok__law_times (X : Txt K mg) (F : ∃ fd, FunD K "_law_times" "_law_times" (defArgs s__law_times) (defBody s__law_times) (defScope s__law_times) [] [] (He.ga K "_law_times") fd) (hm : mg "_law_times" = some (.ref (He.ga K "_law_times"))) (G__law_frac : Gd P w K mg base "_law_frac" ["one", "other"] 2 (spD K T sp_lfrac)) : Gd P w K mg base "_law_times" ["one", "other"] 3 (spD K T (sp_ltwo (fun p q => p.1 * q.1) (fun p q => p.2 * q.2))) := by
  have Tx := X
  refine mkG F hm sc__law_times (fun _ _ _ _ _ _ us hl => match us, hl with | [_, _], _ => rfl) (fun ds r h => ?len) (fun cdv A outer s H E hr => ?body)
  case len => (obtain ⟨_, _, rfl, _⟩ := h; rfl)
  case body =>
    have sc := sc__law_times
    refine ⟨_, (pss_one (ps_ret (pe_callG G__law_frac (hr.mono (by decide)) psE (pa_cons (pe_op op_mulA (pe_ix ix_seq (pv 0) pe_int (fun _ _ => rfl)) (pe_ix ix_seq (pv 1) pe_int (fun _ _ => rfl))) (pa_cons (pe_op op_mulA (pe_ix ix_seq (pv 0) pe_int (fun _ _ => rfl)) (pe_ix ix_seq (pv 1) pe_int (fun _ _ => rfl))) pa_nil))))), fun O ds r hg => ?_⟩
    clear sc hr
    try dsimp only [cxOf]

    obtain ⟨⟨a, b⟩, ⟨c, d⟩, rfl, hp, hq, h0, rfl⟩ := hg
    have ha : a.natAbs < 2 ^ 3000 := hp.a
    have hb : b.natAbs < 2 ^ 3000 := hp.b
    have hc : c.natAbs < 2 ^ 3000 := hq.a
    have hd : d.natAbs < 2 ^ 3000 := hq.b
    have m0 : PMul a c := mulX 3000 3000 ha hc
    have m1 : PMul b d := mulX 3000 3000 hb hd
    refine r_ret (e_call (by wtm_at "ev") ⟨_, _, rfl, ?_, ?_, h0, rfl⟩) rfl
    · exact (Sz.mul (m := 3000) (n := 3000) ha hc).mono (by decide)
    · exact (Sz.mul (m := 3000) (n := 3000) hb hd).mono (by decide)

end
end Law.KC
end

section
set_option Elab.async false
set_option linter.all false
set_option maxRecDepth 100000
set_option maxHeartbeats 4000000
set_option autoImplicit false
set_option exponentiation.threshold 100
namespace Law.KJ
open PySem PySem.Spec PyProof.Rows L2 Py
--def top (i : Nat) : Stmt := PySem.Challenge.pw_algebrastack_k01_whole_numbers_and_fract.main.body.getD i (.Pass ⟨0, 0, 0, 0⟩)

open Mt
local macro_rules | `(tactic| wtm_at "op") => `(tactic| first
  | with_reducible exact o_I0 | with_reducible exact o_add | with_reducible exact o_eqI | with_reducible exact o_neI
  | ((with_reducible apply o_mul); first | assumption | wtm_at "si")
  | ((with_reducible apply o_I); first | assumption | wtm_at "si")
  | ((with_reducible apply o_ixT); rfl) | ((with_reducible apply o_ixL); rfl)
  | ((with_reducible apply o_eqD) <;> first | rfl | decide | assumption) | ((with_reducible apply o_neD) <;> first | rfl | decide | assumption)
  | with_reducible assumption)
local macro_rules | `(tactic| wtm_at "si") => `(tactic| first | decide | exact ⟨by decide, by decide +kernel⟩ | omega)
local macro_rules | `(tactic| wtm_at "ev") => `(tactic| first
  | ((with_reducible apply e_var); rfl) | with_reducible exact e_c | with_reducible exact a_nil
  | ((with_reducible apply a_cons) <;> wtm_at "ev")
  | ((with_reducible apply e_bin) <;> first | wtm_at "ev" | wtm_at "op")
  | ((with_reducible apply e_ixO) <;> first | rfl | wtm_at "ev")
  | ((with_reducible apply e_U) <;> wtm_at "ev")
  | ((with_reducible apply t_test) <;> wtm_at "ev")
  | ((with_reducible apply t_B) <;> wtm_at "ev")
  | ((with_reducible apply t_not) <;> wtm_at "ev")
  | ((with_reducible apply e_tup) <;> first | wtm_at "ev" | exact Nat.le_of_ble_eq_true rfl)
  | ((with_reducible apply e_lst) <;> first | wtm_at "ev" | exact Nat.le_of_ble_eq_true rfl)
  | ((with_reducible apply e_gcd) <;> wtm_at "ev")
  | ((with_reducible apply e_abs) <;> wtm_at "ev")
  | ((with_reducible apply e_max2) <;> wtm_at "ev")
  | ((with_reducible apply e_int) <;> wtm_at "ev")
  | ((with_reducible apply e_intB) <;> wtm_at "ev")
  | ((with_reducible apply e_bits) <;> wtm_at "ev")
  | ((with_reducible apply e_not) <;> wtm_at "ev")
  | with_reducible assumption)

section
variable {P : Program} {w : World} {K : Frg} {T : List (Addr × Str)} {mg : Str → Option Value} {base : Heap}

abbrev s_remainders_joined : Stmt := top 21
theorem sc_remainders_joined : FnScope ["rows", "found", "base", "remainder", "other", "divisor", "factor", "_", "steps"] ["rows"] (defScope s_remainders_joined) := ⟨rfl, rfl, rfl, by decide +kernel, rfl, by decide +kernel, by decide +kernel⟩
theorem bez_sz {x y : Int} {n : Nat} (h0 : 0 < n) (hx : x.natAbs < 2 ^ n) (hy : y.natAbs < 2 ^ n) : (bez x y).2.1.natAbs < 2 ^ n := by
  have z := (BR.go (BR.start (x := x) (y := y))).sizes h0 hx hy
  unfold bez
  dsimp only
  split
  · show (-(_ : Int)).natAbs < _
    rw [Int.natAbs_neg]
    exact z.a
  · exact z.a
theorem bez_pos {x y : Int} (hy : 0 < y) : 0 < (bez x y).1 ∧ (bez x y).1 ∣ x ∧ (bez x y).1 ∣ y ∧ (bez x y).1 ≤ y := by
  rw [(bez_eq x y).2]
  have h1 := Int.gcd_dvd_left x y
  have h2 := Int.gcd_dvd_right x y
  have h3 : 0 < Int.gcd x y := Int.gcd_pos_of_ne_zero_right x (by omega)
  exact ⟨by omega, h1, h2, Int.le_of_dvd hy h2⟩
/-! ### remainders joined -/
abbrev fr2 (p : Int × Int) : Dt := fr p
def joinS (p : Int × Int) (s : Int × Int) : Option (Int × Int) :=
  if (p.1 - s.1) % (bez s.2 p.2).1 = 0 then some (s.1 + s.2 * ((p.1 - s.1) / (bez s.2 p.2).1 * (bez s.2 p.2).2.1 % (p.2 / (bez s.2 p.2).1)), s.2 * (p.2 / (bez s.2 p.2).1)) else none
def joinF : List (Int × Int) → Int × Int → Option (Int × Int)
  | [], s => some s
  | p :: t, s => match joinS p s with
    | some s' => joinF t s'
    | none => none
/-- all the remainders so far are met by s.1, and by no other number below s.2 -/
structure JI (rs : List (Int × Int)) (s : Int × Int) : Prop where
  b : 0 < s.2
  f0 : 0 ≤ s.1
  f1 : s.1 < s.2
  all : ∀ z : Int, (∀ p ∈ rs, (z - p.1) % p.2 = 0) ↔ (z - s.1) % s.2 = 0
theorem JI.start : JI [] (0, 1) := ⟨by decide, by decide, by decide, fun z => ⟨fun _ => Int.emod_one _, fun _ p hp => by cases hp⟩⟩
theorem JI.step {rs : List (Int × Int)} {s p : Int × Int} (h : JI rs s) (hp : 0 < p.2) : match joinS p s with
    | some s' => JI (rs ++ [p]) s' ∧ s'.2 ≤ s.2 * p.2
    | none => ∀ z : Int, ¬ ∀ q ∈ rs ++ [p], (z - q.1) % q.2 = 0 := by
  obtain ⟨d0, d1, d2, d3⟩ := bez_pos (x := s.2) hp
  have be := (bez_eq s.2 p.2).1
  unfold joinS
  generalize hd : (bez s.2 p.2).1 = d at *
  generalize hx : (bez s.2 p.2).2.1 = x at *
  generalize hy : (bez s.2 p.2).2.2 = y at *
  obtain ⟨b', hb'⟩ := d1
  obtain ⟨o', ho'⟩ := d2
  have hsb := h.b
  have ne : d ≠ 0 := by omega
  have eo : p.2 / d = o' := by rw [ho', Int.mul_ediv_cancel_left _ ne]
  have o0 : 0 < o' := by
    rcases Int.lt_or_le 0 o' with z | z
    · exact z
    · have : d * o' ≤ 0 := Int.mul_nonpos_of_nonneg_of_nonpos (by omega) z
      omega
  have cop : b' * x + o' * y = 1 := by
    have : d * (b' * x + o' * y) = d * 1 := by rw [hb', ho'] at be; grind
    exact Int.eq_of_mul_eq_mul_left ne this
  by_cases c : (p.1 - s.1) % d = 0
  · rw [if_pos c, eo]
    obtain ⟨q, hq⟩ := Int.dvd_of_emod_eq_zero c
    have eq_ : (p.1 - s.1) / d = q := by rw [hq, Int.mul_ediv_cancel_left _ ne]
    rw [eq_]
    generalize hst : q * x % o' = st
    have st0 : 0 ≤ st := by rw [← hst]; exact Int.emod_nonneg _ (by omega)
    have st1 : st < o' := by rw [← hst]; exact Int.emod_lt_of_pos _ o0
    have stq : ∃ t, q * x = o' * t + st := ⟨q * x / o', by rw [← hst]; exact (Int.mul_ediv_add_emod _ _).symm⟩
    obtain ⟨t, ht⟩ := stq
    refine ⟨⟨Int.mul_pos hsb o0, ?_, ?_, fun z => ?_⟩, ?_⟩
    · exact Int.add_nonneg h.f0 (Int.mul_nonneg (by omega) st0)
    · show s.1 + s.2 * st < s.2 * o'
      have h1 : s.2 * (st + 1) ≤ s.2 * o' := Int.mul_le_mul_of_nonneg_left (by omega) (by omega)
      have h2 : s.2 * (st + 1) = s.2 * st + s.2 := by grind
      have := h.f1
      omega
    · have e1 : (∀ q ∈ rs ++ [p], (z - q.1) % q.2 = 0) ↔ (∀ q ∈ rs, (z - q.1) % q.2 = 0) ∧ (z - p.1) % p.2 = 0 := by
        constructor
        · exact fun a => ⟨fun q hq => a q (List.mem_append_left _ hq), a p (List.mem_append_right _ (List.mem_singleton.mpr rfl))⟩
        · rintro ⟨a, b⟩ q hq
          rcases List.mem_append.mp hq with z | z
          · exact a q z
          · rw [List.mem_singleton.mp z]; exact b
      rw [e1, h.all z]
      show _ ↔ (z - (s.1 + s.2 * st)) % (s.2 * o') = 0
      -- the joined number meets p
      have key : s.1 + s.2 * st - p.1 = p.2 * (-(q * y) - b' * t) := by
        have : p.1 = s.1 + d * q := by omega
        rw [this, hb', ho']
        have : d * b' * st = d * (b' * (q * x)) - d * b' * (o' * t) := by
          have : st = q * x - o' * t := by omega
          rw [this]; grind
        have : b' * x = 1 - o' * y := by omega
        grind
      constructor
      · rintro ⟨a, b⟩
        obtain ⟨u, hu⟩ := Int.dvd_of_emod_eq_zero a
        obtain ⟨v, hv⟩ := Int.dvd_of_emod_eq_zero b
        -- z - joined = s.2 * (u - st), and a multiple of p.2
        have h1 : z - (s.1 + s.2 * st) = s.2 * (u - st) := by grind
        have h2 : z - (s.1 + s.2 * st) = p.2 * (v - (-(q * y) - b' * t)) := by grind
        have h3 : d * (b' * (u - st)) = d * (o' * (v - (-(q * y) - b' * t))) := by
          rw [h1, hb'] at h2
          rw [ho'] at h2
          grind
        have h4 : b' * (u - st) = o' * (v - (-(q * y) - b' * t)) := Int.eq_of_mul_eq_mul_left ne h3
        have h5 : u - st = o' * (x * (v - (-(q * y) - b' * t)) + y * (u - st)) := by
          have : u - st = (b' * x + o' * y) * (u - st) := by rw [cop]; omega
          grind
        rw [h1]
        exact Int.emod_eq_zero_of_dvd ⟨x * (v - (-(q * y) - b' * t)) + y * (u - st), by rw [Int.mul_assoc]; exact congrArg (fun k => s.2 * k) h5⟩
      · intro a
        obtain ⟨u, hu⟩ := Int.dvd_of_emod_eq_zero a
        constructor
        · exact Int.emod_eq_zero_of_dvd ⟨st + o' * u, by grind⟩
        · exact Int.emod_eq_zero_of_dvd ⟨b' * u + (-(q * y) - b' * t), by grind⟩
    · show s.2 * o' ≤ s.2 * p.2
      refine Int.mul_le_mul_of_nonneg_left ?_ (by omega)
      have : 1 * o' ≤ d * o' := Int.mul_le_mul_of_nonneg_right (by omega) (by omega)
      omega
  · rw [if_neg c]
    intro z a
    have a1 := (h.all z).mp fun q hq => a q (List.mem_append_left _ hq)
    have a2 := a p (List.mem_append_right _ (List.mem_singleton.mpr rfl))
    obtain ⟨u, hu⟩ := Int.dvd_of_emod_eq_zero a1
    obtain ⟨v, hv⟩ := Int.dvd_of_emod_eq_zero a2
    exact c (Int.emod_eq_zero_of_dvd ⟨b' * u - o' * v, by grind⟩)

theorem joinF_ok : ∀ {t rs : List (Int × Int)} {s : Int × Int}, JI rs s → (∀ p ∈ t, 0 < p.2) → match joinF t s with
    | some s' => JI (rs ++ t) s'
    | none => ∀ z : Int, ¬ ∀ q ∈ rs ++ t, (z - q.1) % q.2 = 0
  | [], rs, s, h, _ => by rw [List.append_nil]; exact h
  | p :: t, rs, s, h, hp => by
    have st := h.step (hp p (List.mem_cons_self ..))
    unfold joinF
    cases e : joinS p s with
    | some s' =>
      rw [e] at st
      have := joinF_ok (t := t) st.1 fun q hq => hp q (List.mem_cons_of_mem _ hq)
      rw [List.append_assoc] at this
      exact this
    | none =>
      rw [e] at st
      exact fun z a => st z fun q hq => a q (by
        rw [show rs ++ p :: t = rs ++ [p] ++ t by simp]
        exact List.mem_append_left _ hq)
def joinR (e : Addr) : Option (Int × Int) → Rs
  | some s => .ok (fr s)
  | none => .err e
def sp_bez : List Dt → Rs → Prop := fun ds r => ∃ x y : Int, ds = [di x, di y] ∧ Sz 4000 x ∧ Sz 4000 y ∧ r = .ok (.tup [di (bez x y).1, di (bez x y).2.1, di (bez x y).2.2])
structure SmallR (p : Int × Int) : Prop where
  a : p.1.natAbs ≤ 1000
  b : 0 < p.2
  c : p.2 ≤ 1000
def sp_join (K : Frg) : List Dt → Rs → Prop := fun ds r => ∃ rs : List (Int × Int), ds = [.lst (rs.map fr)] ∧ rs.length ≤ 100 ∧ (∀ p ∈ rs, SmallR p) ∧ r = joinR (NE K) (joinF rs (0, 1))
theorem joinF_cons {p s : Int × Int} {t : List (Int × Int)} : joinF (p :: t) s = (match joinS p s with
    | some s' => joinF t s'
    | none => none) := rfl
theorem fm {x y : Int} (h : 0 ≤ y) : x.fmod y = x % y := Int.fmod_eq_emod_of_nonneg _ h
theorem fd {x y : Int} (h : 0 ≤ y) : x.fdiv y = x / y := Int.fdiv_eq_ediv_of_nonneg _ h

theorem ok_remainders_joined (X : Txt K mg) (F : ∃ fd, FunD K "remainders_joined" "remainders_joined" (defArgs s_remainders_joined) (defBody s_remainders_joined) (defScope s_remainders_joined) [] [] (He.ga K "remainders_joined") fd) (hm : mg "remainders_joined" = some (.ref (He.ga K "remainders_joined"))) (G_bezout : Gd P w K mg base "bezout" ["one", "other"] 1 (spD K T sp_bez)) : Gd P w K mg base "remainders_joined" ["rows"] 2 (spD K T (sp_join K)) := by
  have Tx := X
  refine mkG F hm sc_remainders_joined (fun _ _ _ _ _ _ us hl => match us, hl with | [_], _ => rfl) (fun ds r h => ?len) (fun cdv A outer s H E hr => ?body)
  case len => (obtain ⟨_, rfl, _⟩ := h; rfl)
  case body =>
    have sc := sc_remainders_joined
    refine ⟨_, (pss_cons (ps_asg (pe_tup (pa_cons pe_int (pa_cons pe_int pa_nil))) (pg_tup rfl (pgs_cons (pg_name (i := 1) sc.nd rfl (Or.inl rfl)) (pgs_cons (pg_name (i := 2) sc.nd rfl (Or.inl rfl)) pgs_nil))))
  (pss_cons (ps_for (passesE) rfl (pi_list (pv 0)) (pg_tup rfl (pgs_cons (pg_name (i := 3) sc.nd rfl (Or.inl rfl)) (pgs_cons (pg_name (i := 4) sc.nd rfl (Or.inl rfl)) pgs_nil))) (pss_cons (ps_if (pt_cmpR op_lt (pv 4) pe_int (nomark _)) (pss_one (ps_rz rfl takesE PySem.F.excBase_ValueError Tx.xNumberError.1 Tx.gNumberError Tx.xNumberError.2.1 (raises_own Tx.xNumberError.2.2.1 Tx.xNumberError.2.2.2) rfl)) pss_nil)
  (pss_cons (ps_asg (pe_callG G_bezout (hr.mono (by decide)) psE (pa_cons (pv 2) (pa_cons (pv 4) pa_nil))) (pg_tup rfl (pgs_cons (pg_name (i := 5) sc.nd rfl (Or.inl rfl)) (pgs_cons (pg_name (i := 6) sc.nd rfl (Or.inl rfl)) (pgs_cons (pg_name (i := 7) sc.nd rfl (Or.inl rfl)) pgs_nil)))))
  (pss_cons (ps_if (pt_cmpR (op_neA hr.units) (pe_op op_modN (pe_op op_sub (pv 3) (pv 1)) (pv 5)) pe_int (nomark _)) (pss_one (ps_rz rfl takesE PySem.F.excBase_ValueError Tx.xNumberError.1 Tx.gNumberError Tx.xNumberError.2.1 (raises_own Tx.xNumberError.2.2.1 Tx.xNumberError.2.2.2) rfl)) pss_nil)
  (pss_cons (ps_set (i := 8) sc.nd rfl (Or.inl rfl) (pe_op op_modN (pe_op op_mulA (pe_op op_fdivX (pe_op op_sub (pv 3) (pv 1)) (pv 5)) (pv 6)) (pe_op op_fdivX (pv 4) (pv 5))))
  (pss_cons (ps_set (i := 1) sc.nd rfl (Or.inl rfl) (pe_op op_addA (pv 1) (pe_op op_mulA (pv 2) (pv 8))))
  (pss_one (ps_set (i := 2) sc.nd rfl (Or.inl rfl) (pe_op op_mulA (pv 2) (pe_op op_fdivX (pv 4) (pv 5)))))))))))
  (pss_one (ps_ret (pe_tup (pa_cons (pv 1) (pa_cons (pv 2) pa_nil))))))), fun O ds r hg => ?_⟩
    clear sc hr
    try dsimp only [cxOf]

    obtain ⟨rs, rfl, hl, hs, rfl⟩ := hg
    refine r_seq (r_tg (by wtm_at "ev") (tg_tup rfl (tgA_cons tg_name (tgA_cons tg_name tgA_nil))) ?_)
    refine r_seq (r_forL (xs := rs.map fr) (e_var rfl) (fun i A => ∃ (s : Int × Int) (v3 v4 v5 v6 v7 v8 : SD), JI (rs.take i) s ∧ s.2 ≤ 2 ^ (10 * i) ∧ joinF (rs.drop i) s = joinF rs (0, 1) ∧ A = ⟨[.d (.lst (rs.map fr)), .d (di s.1), .d (di s.2), v3, v4, v5, v6, v7, v8], []⟩) ⟨(0, 1), .un, .un, .un, .un, .un, .un, JI.start, by simp, rfl, rfl⟩ ?_ ?_)
    · rintro i d A hd ⟨s, v3, v4, v5, v6, v7, v8, J, hb, he, rfl⟩
      rw [List.getElem?_map] at hd
      obtain ⟨p, hp, rfl⟩ := Option.map_eq_some_iff.mp hd
      have hi : i < rs.length := (List.getElem?_eq_some_iff.mp hp).1
      have sp := hs p (List.mem_of_getElem? hp)
      refine ⟨_, tg_tup rfl (tgA_cons tg_name (tgA_cons tg_name tgA_nil)), ?_⟩
      refine r_seq (r_ifFs (t_is (t_test (by wtm_at "ev")) (decide_eq_false (by have := sp.b; omega))) (r_next ?_))
      have J0 := J.b
      have bz : s.2.natAbs < 2 ^ 1001 := by
        have h1 : (2 : Int) ^ (10 * i) ≤ 2 ^ 1000 := by
          have : (2 : Nat) ^ (10 * i) ≤ 2 ^ 1000 := Nat.pow_le_pow_right (by decide) (by omega)
          have h2 : ((2 ^ (10 * i) : Nat) : Int) ≤ ((2 ^ 1000 : Nat) : Int) := by omega
          rw [Int.natCast_pow, Int.natCast_pow] at h2
          exact h2
        have h3 : (2 : Int) ^ 1000 < ((2 ^ 1001 : Nat) : Int) := by decide +kernel
        omega
      have pz : p.2.natAbs < 2 ^ 10 := by have := sp.b; have := sp.c; omega
      have bz4 : s.2.natAbs < 2 ^ 4000 := Nat.lt_of_lt_of_le bz (Nat.pow_le_pow_right (by decide) (by decide))
      have pz4 : p.2.natAbs < 2 ^ 4000 := Nat.lt_of_lt_of_le pz (Nat.pow_le_pow_right (by decide) (by decide))
      refine r_seq (r_tg (e_call (by wtm_at "ev") ⟨s.2, p.2, rfl, bz4, pz4, rfl⟩) (tg_tup rfl (tgA_cons tg_name (tgA_cons tg_name (tgA_cons tg_name tgA_nil)))) ?_)
      obtain ⟨d0, _, _, d3⟩ := bez_pos (x := s.2) sp.b
      have xz := bez_sz (x := s.2) (y := p.2) (n := 4000) (by decide) bz4 pz4
      have st := J.step sp.b
      have hdr : rs.drop i = p :: rs.drop (i + 1) := by
        rw [List.drop_eq_getElem_cons hi]
        congr 1
        exact (List.getElem?_eq_some_iff.mp hp).2
      have htk : rs.take (i + 1) = rs.take i ++ [p] := by
        rw [List.take_add_one, hp]
        rfl
      rw [hdr] at he
      rw [joinF_cons] at he
      unfold joinS at he st
      generalize (bez s.2 p.2).1 = d at *
      generalize (bez s.2 p.2).2.1 = x at *
      have ne : d ≠ 0 := by omega
      have f0 := J.f0
      have f1 := J.f1
      have p1 := sp.a
      have dz : d.natAbs < 2 ^ 10 := by omega
      by_cases c : (p.1 - s.1) % d = 0
      · rw [if_pos c] at he st
        refine r_seq (r_ifFs (t_is (t_test (by wtm_at "ev")) (by rw [fm (by omega), c]; rfl)) (r_next ?_))
        have d1 : PDiv (p.1 - s.1) d := divX 10 dz ne
        have d2 : PDiv p.2 d := divX 10 dz ne
        have dd : (p.1 - s.1).natAbs < 2 ^ 1002 := by
          have : 2 ^ 1002 = 2 * 2 ^ 1001 := by rw [Nat.pow_succ]; omega
          have h5 : 1000 < 2 ^ 1001 := Nat.lt_of_lt_of_le (by decide : 1000 < 2 ^ 10) (Nat.pow_le_pow_right (by decide) (by decide))
          omega
        have qz : ((p.1 - s.1).fdiv d).natAbs < 2 ^ 1002 := Nat.lt_of_le_of_lt (fdiv_abs_le _ _) dd
        have m1 : PMul ((p.1 - s.1).fdiv d) x := mulX 1002 4000 qz xz
        have po : 0 < p.2 / d := by
          have h1 := Int.mul_ediv_add_emod p.2 d
          have h2 := Int.emod_lt_of_pos p.2 d0
          rcases Int.lt_or_le 0 (p.2 / d) with z | z
          · exact z
          · exfalso
            rcases Int.lt_or_le (p.2 / d) 0 with z2 | z2
            · have := Int.ediv_nonneg (Int.le_of_lt sp.b) (Int.le_of_lt d0)
              omega
            · have : p.2 / d = 0 := by omega
              rw [this] at h1
              omega
        have fo : p.2.fdiv d = p.2 / d := fd (by omega)
        have no : p.2.fdiv d ≠ 0 := by omega
        refine r_seq (r_asg (by wtm_at "ev") ?_)
        have e1 : ((p.1 - s.1).fdiv d * x).fmod (p.2.fdiv d) = (p.1 - s.1) / d * x % (p.2 / d) := by rw [fo, fm (by omega), fd (by omega)]
        have po2 : p.2 / d ≤ p.2 := Int.ediv_le_self _ (Int.le_of_lt sp.b)
        have sz2 : ((p.1 - s.1) / d * x % (p.2 / d)).natAbs < 2 ^ 10 := by
          have h1 := Int.emod_nonneg ((p.1 - s.1) / d * x) (show p.2 / d ≠ 0 by omega)
          have h2 := Int.emod_lt_of_pos ((p.1 - s.1) / d * x) po
          omega
        rw [e1]
        generalize hst : (p.1 - s.1) / d * x % (p.2 / d) = stp at *
        have m2 : PMul s.2 stp := mulX 1001 10 bz sz2
        have m3 : PMul s.2 (p.2.fdiv d) := mulX 1001 10 bz (by rw [fo]; omega)
        refine r_seq (r_asg (by wtm_at "ev") ?_)
        refine r_asg (by wtm_at "ev") ⟨(s.1 + s.2 * stp, s.2 * (p.2 / d)), .d (di p.1), .d (di p.2), .d (di d), .d (di x), .d (di (bez s.2 p.2).2.2), .d (di stp), ?_, ?_, he, ?_⟩
        rotate_left 2
        · rw [fo]
          rfl
        · rw [htk]
          exact st.1
        · have h6 : s.2 * p.2 ≤ 2 ^ (10 * i) * 2 ^ 10 := Int.mul_le_mul hb (by have := sp.c; omega) (by have := sp.b; omega) (Int.pow_nonneg (by decide))
          rw [← Int.pow_add] at h6
          exact Int.le_trans st.2 h6
      · rw [if_neg c] at he
        refine r_seq (r_ifTs (t_is (t_test (by wtm_at "ev")) (by rw [fm (by omega)]; simpa using c)) (r_raise ?_))
        rw [← he]
        rfl
    · rintro A ⟨s, v3, v4, v5, v6, v7, v8, J, hb, he, rfl⟩
      rw [List.length_map, List.drop_length] at he
      rw [← he]
      exact r_ret (by wtm_at "ev") rfl

end
end Law.KJ
end

section
set_option Elab.async false
set_option linter.all false
set_option maxRecDepth 100000
set_option maxHeartbeats 4000000
set_option autoImplicit false
set_option exponentiation.threshold 100
namespace Law.KS
open PySem PySem.Spec PyProof.Rows L2 Py
--def top (i : Nat) : Stmt := PySem.Challenge.pw_algebrastack_k01_whole_numbers_and_fract.main.body.getD i (.Pass ⟨0, 0, 0, 0⟩)

open Mt
local macro_rules | `(tactic| wtm_at "op") => `(tactic| first
  | with_reducible exact o_I0 | with_reducible exact o_add | with_reducible exact o_eqI | with_reducible exact o_neI
  | ((with_reducible apply o_mul); first | assumption | wtm_at "si")
  | ((with_reducible apply o_I); first | assumption | wtm_at "si")
  | ((with_reducible apply o_ixT); rfl) | ((with_reducible apply o_ixL); rfl)
  | ((with_reducible apply o_eqD) <;> first | rfl | decide | assumption) | ((with_reducible apply o_neD) <;> first | rfl | decide | assumption)
  | with_reducible assumption)
local macro_rules | `(tactic| wtm_at "si") => `(tactic| first | decide | exact ⟨by decide, by decide +kernel⟩ | omega)
local macro_rules | `(tactic| wtm_at "ev") => `(tactic| first
  | ((with_reducible apply e_var); rfl) | with_reducible exact e_c | with_reducible exact a_nil
  | ((with_reducible apply a_cons) <;> wtm_at "ev")
  | ((with_reducible apply e_bin) <;> first | wtm_at "ev" | wtm_at "op")
  | ((with_reducible apply e_ixO) <;> first | rfl | wtm_at "ev")
  | ((with_reducible apply e_U) <;> wtm_at "ev")
  | ((with_reducible apply t_test) <;> wtm_at "ev")
  | ((with_reducible apply t_B) <;> wtm_at "ev")
  | ((with_reducible apply t_not) <;> wtm_at "ev")
  | ((with_reducible apply e_tup) <;> first | wtm_at "ev" | exact Nat.le_of_ble_eq_true rfl)
  | ((with_reducible apply e_lst) <;> first | wtm_at "ev" | exact Nat.le_of_ble_eq_true rfl)
  | ((with_reducible apply e_gcd) <;> wtm_at "ev")
  | ((with_reducible apply e_abs) <;> wtm_at "ev")
  | ((with_reducible apply e_max2) <;> wtm_at "ev")
  | ((with_reducible apply e_int) <;> wtm_at "ev")
  | ((with_reducible apply e_intB) <;> wtm_at "ev")
  | ((with_reducible apply e_bits) <;> wtm_at "ev")
  | ((with_reducible apply e_not) <;> wtm_at "ev")
  | with_reducible assumption)

section
variable {P : Program} {w : World} {K : Frg} {T : List (Addr × Str)} {mg : Str → Option Value} {base : Heap}

abbrev s_root_below : Stmt := top 22
theorem sc_root_below : FnScope ["number", "many", "found", "lower"] ["number", "many"] (defScope s_root_below) := ⟨rfl, rfl, rfl, by decide +kernel, rfl, by decide +kernel, by decide +kernel⟩
abbrev s_convergents : Stmt := top 25
theorem sc_convergents : FnScope ["one", "other", "rows", "last", "before", "above", "below", "whole"] ["one", "other"] (defScope s_convergents) := ⟨rfl, rfl, rfl, by decide +kernel, rfl, by decide +kernel, by decide +kernel⟩
/-! ### roots -/
/-- k r x^(k-1) ≤ (k-1) x^k + r^k -/
theorem amgm (x r : Nat) : ∀ k : Nat, (k + 1) * r * x ^ k ≤ k * x ^ (k + 1) + r ^ (k + 1)
  | 0 => by simp
  | k + 1 => by
    have h := Nat.mul_le_mul_left r (amgm x r k)
    have sq : 2 * (r * x) ≤ x * x + r * r := by
      rcases Nat.le_total x r with z | z
      · obtain ⟨d, rfl⟩ := Nat.exists_eq_add_of_le z
        have : (x + d) * (x + d) = x * x + 2 * (x * d) + d * d := by grind
        have : (x + d) * x = x * x + x * d := by grind
        omega
      · obtain ⟨d, rfl⟩ := Nat.exists_eq_add_of_le z
        have : (r + d) * (r + d) = r * r + 2 * (r * d) + d * d := by grind
        have : r * (r + d) = r * r + r * d := by grind
        omega
    have h2 := Nat.mul_le_mul_left ((k + 1) * x ^ k) sq
    have e1 : r * ((k + 1) * r * x ^ k) = (k + 1) * x ^ k * (r * r) := by grind
    have e2 : r * (k * x ^ (k + 1) + r ^ (k + 1)) = k * (r * x * x ^ k) + r ^ (k + 1 + 1) := by grind
    have e3 : (k + 1) * x ^ k * (2 * (r * x)) = 2 * (k + 1) * (r * x * x ^ k) := by grind
    have e4 : (k + 1) * x ^ k * (x * x + r * r) = (k + 1) * x ^ (k + 1 + 1) + (k + 1) * x ^ k * (r * r) := by grind
    have e5 : (k + 1 + 1) * r * x ^ (k + 1) = (k + 2) * (r * x * x ^ k) := by grind
    rw [e5]
    rw [e1, e2] at h
    rw [e3, e4] at h2
    generalize r * x * x ^ k = u at *
    generalize (k + 1) * x ^ k * (r * r) = v at *
    have a1 : 2 * (k + 1) * u = (k + 2) * u + k * u := by grind
    omega
/-- r is the k-th root of n, rounded down -/
def IsRoot (n k r : Nat) : Prop := r ^ k ≤ n ∧ n < (r + 1) ^ k
theorem root_le {n k r x : Nat} (h : IsRoot n k r) (hx : x ^ k ≤ n) : x ≤ r := by
  rcases Nat.lt_or_ge r x with z | z
  · have : (r + 1) ^ k ≤ x ^ k := Nat.pow_le_pow_left z k
    have := h.2
    omega
  · exact z
/-- a step of Newton's stays above the root -/
theorem newton {n k r x : Nat} (h : IsRoot n (k + 1) r) (hx : 0 < x) : r ≤ (k * x + n / x ^ k) / (k + 1) := by
  rw [Nat.le_div_iff_mul_le (by omega)]
  have h1 := amgm x r k
  have hp : 0 < x ^ k := Nat.pow_pos hx
  have h2 : (k + 1) * r * x ^ k ≤ k * x ^ (k + 1) + n := Nat.le_trans h1 (Nat.add_le_add_left h.1 _)
  have e1 : k * x ^ (k + 1) = k * x * x ^ k := by grind
  rw [e1] at h2
  have h3 : (k + 1) * r - k * x ≤ n / x ^ k := by
    rw [Nat.le_div_iff_mul_le hp, Nat.sub_mul]
    omega
  have : r * (k + 1) = (k + 1) * r := Nat.mul_comm _ _
  omega
theorem newton_end {n k x : Nat} (hx : 0 < x) (h : x ≤ (k * x + n / x ^ k) / (k + 1)) : x ^ (k + 1) ≤ n := by
  rw [Nat.le_div_iff_mul_le (by omega)] at h
  have h1 : x ≤ n / x ^ k := by
    have : x * (k + 1) = k * x + x := by grind
    omega
  rw [Nat.le_div_iff_mul_le (Nat.pow_pos hx)] at h1
  rw [Nat.pow_succ, Nat.mul_comm]
  exact h1

def sp_pow : List Dt → Rs → Prop := fun ds r => ∃ (x : Int) (n : Nat), ds = [di x, di (n : Int)] ∧ Sz 20000000 (x ^ n) ∧ Sz 20000000 x ∧ r = .ok (di (x ^ n))
def sp_root (K : Frg) : List Dt → Rs → Prop := fun ds r => (∃ n k : Int, ds = [di n, di k] ∧ (n < 0 ∨ k < 1) ∧ r = .err (NE K)) ∨ ∃ n k x : Nat, ds = [di (n : Int), di (k : Int)] ∧ 0 < k ∧ k ≤ 1000 ∧ n < 2 ^ 4000 ∧ IsRoot n k x ∧ r = .ok (di (x : Int))
theorem root_one {n k x y : Nat} (h : IsRoot n k x) (h' : IsRoot n k y) : x = y := Nat.le_antisymm (root_le h' h.1) (root_le h h'.1)
theorem bits_pos {n : Nat} (h : 0 < n) : Builtin.Int.intBits (n : Int) = n.log2 + 1 := by
  unfold Builtin.Int.intBits
  rw [if_neg (by simp; omega)]
  rfl

theorem ok_root_below (X : Txt K mg) (F : ∃ fd, FunD K "root_below" "root_below" (defArgs s_root_below) (defBody s_root_below) (defScope s_root_below) [] [] (He.ga K "root_below") fd) (hm : mg "root_below" = some (.ref (He.ga K "root_below"))) (G_power : Gd P w K mg base "power" ["number", "exponent"] 3 (spD K T sp_pow)) : Gd P w K mg base "root_below" ["number", "many"] 4 (spD K T (sp_root K)) := by
  have Tx := X
  refine mkG F hm sc_root_below (fun _ _ _ _ _ _ us hl => match us, hl with | [_, _], _ => rfl) (fun ds r h => ?len) (fun cdv A outer s H E hr => ?body)
  case len => (rcases h with ⟨_, _, rfl, _⟩ | ⟨_, _, _, rfl, _⟩ <;> rfl)
  case body =>
    have sc := sc_root_below
    refine ⟨_, (pss_cons (ps_if (PW.pt (pw_or (pt_cmpR op_lt (pv 0) pe_int (nomark _)) (pw_or1 (pt_cmpR op_lt (pv 1) pe_int (nomark _))))) (pss_one (ps_rz rfl takesE PySem.F.excBase_ValueError Tx.xNumberError.1 Tx.gNumberError Tx.xNumberError.2.1 (raises_own Tx.xNumberError.2.2.1 Tx.xNumberError.2.2.2) rfl)) pss_nil)
  (pss_cons (ps_if (pt_cmpR (op_eqA hr.units) (pv 0) pe_int (nomark _)) (pss_one (ps_ret pe_int)) pss_nil)
  (pss_cons (ps_if (pt_cmpR op_ge (pv 1) (pe_bits (pv 0)) (nomark _)) (pss_one (ps_ret pe_int)) pss_nil)
  (pss_cons (ps_set (i := 2) sc.nd rfl (Or.inl rfl) (pe_op op_shl pe_int (pe_op op_addA (pe_op op_fdivX (pe_bits (pv 0)) (pv 1)) pe_int)))
  (pss_one (ps_while (passesE) (pt_val pe_bl) (pss_cons (ps_set (i := 3) sc.nd rfl (Or.inl rfl) (pe_op op_fdivX (pe_op op_addA (pe_op op_mulA (pe_op op_sub (pv 1) pe_int) (pv 2)) (pe_op op_fdivX (pv 0) (pe_callG G_power (hr.mono (by decide)) psE (pa_cons (pv 2) (pa_cons (pe_op op_sub (pv 1) pe_int) pa_nil))))) (pv 1)))
  (pss_cons (ps_if (pt_cmpR op_ge (pv 3) (pv 2) (nomark _)) (pss_one (ps_ret (pv 2))) pss_nil)
  (pss_one (ps_set (i := 2) sc.nd rfl (Or.inl rfl) (pv 3))))))))))), fun O ds r hg => ?_⟩
    clear sc hr
    try dsimp only [cxOf]

    rcases hg with ⟨n, k, rfl, hb, rfl⟩ | ⟨n, k, x, rfl, hk, hk2, hz, hr, rfl⟩
    · refine r_seq (r_ifTs ?_ (r_raise rfl))
      by_cases hn : n < 0
      · exact t_orT (t_is (t_test (by wtm_at "ev")) (decide_eq_true hn))
      · exact t_orF (t_is (t_test (by wtm_at "ev")) (decide_eq_false hn)) (t_is (t_test (by wtm_at "ev")) (decide_eq_true (by omega)))
    refine r_seq (r_ifFs (t_orF (t_is (t_test (by wtm_at "ev")) (decide_eq_false (by omega))) (t_is (t_test (by wtm_at "ev")) (decide_eq_false (by omega)))) (r_next ?_))
    by_cases h0 : n = 0
    · subst h0
      have ex : x = 0 := by
        have := hr.1
        rcases Nat.eq_zero_or_pos x with z | z
        · exact z
        · have := Nat.pow_pos (n := k) z
          omega
      subst ex
      exact r_seq (r_ifTs (t_is (t_test (by wtm_at "ev")) (decide_eq_true (by omega))) (r_ret e_c rfl))
    refine r_seq (r_ifFs (t_is (t_test (by wtm_at "ev")) (decide_eq_false (by omega))) (r_next ?_))
    have eb := bits_pos (n := n) (by omega)
    have lb : n < 2 ^ (n.log2 + 1) := Nat.lt_log2_self
    have lb2 : n.log2 < 4000 := (Nat.log2_lt h0).mpr hz
    by_cases hkb : n.log2 + 1 ≤ k
    · have ex : x = 1 := root_one hr ⟨by rw [Nat.one_pow]; omega, Nat.lt_of_lt_of_le lb (Nat.pow_le_pow_right (by decide) hkb)⟩
      subst ex
      exact r_seq (r_ifTs (t_is (t_test (by wtm_at "ev")) (decide_eq_true (by rw [eb]; omega))) (r_ret e_c rfl))
    refine r_seq (r_ifFs (t_is (t_test (by wtm_at "ev")) (decide_eq_false (by rw [eb]; omega))) (r_next ?_))
    obtain ⟨j, rfl⟩ : ∃ j, k = j + 1 := ⟨k - 1, by omega⟩
    generalize hq : (n.log2 + 1) / (j + 1) = q
    have hq1 : (n.log2 + 1) < (j + 1) * (q + 1) := by
      rw [← hq, Nat.mul_comm]
      have := Nat.div_add_mod (n.log2 + 1) (j + 1)
      have := Nat.mod_lt (n.log2 + 1) (show 0 < j + 1 by omega)
      have e : (((n.log2 + 1) / (j + 1)) + 1) * (j + 1) = (j + 1) * ((n.log2 + 1) / (j + 1)) + (j + 1) := by grind
      omega
    have hq2 : (j + 1) * q ≤ n.log2 + 1 := by rw [← hq]; exact Nat.mul_div_le _ _
    have hq3 : q ≤ 4001 := by
      have : 1 * q ≤ (j + 1) * q := Nat.mul_le_mul_right _ (by omega)
      omega
    have kz : ((j + 1 : Nat) : Int).natAbs < 2 ^ 8000 := Nat.lt_of_le_of_lt (show j + 1 ≤ 1000 from hk2) (Nat.lt_of_lt_of_le (by decide : 1000 < 2 ^ 10) (Nat.pow_le_pow_right (by decide) (by decide)))
    have k0 : ((j + 1 : Nat) : Int) ≠ 0 := by omega
    have dv0 : PDiv ((Builtin.Int.intBits (n : Int) : Nat) : Int) ((j + 1 : Nat) : Int) := divX 8000 kz k0
    have e0 : (1 : Int) * 2 ^ ((((Builtin.Int.intBits (n : Int) : Nat) : Int).fdiv ((j + 1 : Nat) : Int) + 1).toNat) = ((2 ^ (q + 1) : Nat) : Int) := by
      rw [n_div, eb, hq, Int.one_mul, Int.natCast_pow]
      congr 1
    have cp : CPow 1 (((Builtin.Int.intBits (n : Int) : Nat) : Int).fdiv ((j + 1 : Nat) : Int) + 1) := by
      rw [n_div, eb, hq]
      exact ⟨by omega, by omega, by decide⟩
    refine r_seq (r_asg (e_is (by wtm_at "ev") (congrArg di e0)) ?_)
    have r0 : x ≤ 2 ^ (q + 1) := by
      rcases Nat.lt_or_ge (2 ^ (q + 1)) x with z | z
      · have h1 : (2 ^ (q + 1)) ^ (j + 1) ≤ x ^ (j + 1) := Nat.pow_le_pow_left (Nat.le_of_lt z) _
        rw [← Nat.pow_mul] at h1
        have h2 : 2 ^ (n.log2 + 1) ≤ 2 ^ ((q + 1) * (j + 1)) := Nat.pow_le_pow_right (by decide) (by rw [Nat.mul_comm]; omega)
        have := hr.1
        omega
      · exact z
    refine r_while (fun m A => ∃ (y : Nat) (s : SD), x ≤ y ∧ 0 < y ∧ y ≤ 2 ^ (q + 1) ∧ m = y ∧ A = ⟨[.d (di (n : Int)), .d (di ((j + 1 : Nat) : Int)), .d (di (y : Int)), s], []⟩) (2 ^ (q + 1)) ⟨2 ^ (q + 1), .un, r0, Nat.pow_pos (by decide), Nat.le_refl _, rfl, rfl⟩ ?_
    rintro m A ⟨y, s, hy, hy0, hy2, rfl, rfl⟩
    refine ⟨true, _, t_B e_c, fun _ => ?_, fun z => by cases z⟩
    have pz : m ^ j < 2 ^ 8000 := by
      have h1 : m ^ j ≤ 2 ^ ((q + 1) * j) := by rw [Nat.pow_mul]; exact Nat.pow_le_pow_left hy2 _
      refine Nat.lt_of_le_of_lt h1 (Nat.pow_lt_pow_right (by decide) ?_)
      have : (q + 1) * j = j * q + j := by grind
      have : (j + 1) * q = j * q + q := by grind
      omega
    have mz : m < 2 ^ 8000 := Nat.lt_of_le_of_lt hy2 (Nat.pow_lt_pow_right (by decide) (by omega))
    have ej : (((j + 1 : Nat) : Int) - 1) = (j : Int) := by omega
    have pc : ((m : Int) ^ j) = ((m ^ j : Nat) : Int) := (Int.natCast_pow m j).symm
    have s1 : Sz 20000000 ((m : Int) ^ j) := by rw [pc]; exact Nat.lt_of_lt_of_le pz (Nat.pow_le_pow_right (by decide) (by decide))
    have s2 : Sz 20000000 (m : Int) := Nat.lt_of_lt_of_le mz (Nat.pow_le_pow_right (by decide) (by decide))
    have m1 : PMul (j : Int) (m : Int) := mulX 8000 8000 (Nat.lt_of_le_of_lt (show j ≤ 1000 by omega) (Nat.lt_of_lt_of_le (by decide : 1000 < 2 ^ 10) (Nat.pow_le_pow_right (by decide) (by decide)))) mz
    have d1 : PDiv (n : Int) ((m : Int) ^ j) := divX 8000 (by rw [pc]; exact pz) (by rw [pc]; have := Nat.pow_pos (n := j) hy0; omega)
    have d2 : ∀ z, PDiv z ((j + 1 : Nat) : Int) := fun z => divX 8000 kz k0
    have ev : ((j : Int) * (m : Int) + (n : Int).fdiv ((m : Int) ^ j)).fdiv ((j + 1 : Nat) : Int) = (((j * m + n / m ^ j) / (j + 1) : Nat) : Int) := by
      rw [pc, n_div, ← Int.natCast_mul, ← Int.natCast_add, n_div]
    refine r_seq (r_asg (e_is (e_bin (e_bin (e_bin (e_is (e_bin (e_var rfl) e_c o_I0) (congrArg di ej)) (e_var rfl) (o_mul m1)) (e_bin (e_var rfl) (e_call (a_cons (e_var rfl) (a_cons (e_is (e_bin (e_var rfl) e_c o_I0) (congrArg di ej)) a_nil)) ⟨(m : Int), j, rfl, s1, s2, rfl⟩) (o_I d1)) o_add) (e_var rfl) (o_I (d2 _))) (congrArg di ev)) ?_)
    by_cases hge : m ≤ (j * m + n / m ^ j) / (j + 1)
    · refine r_seq (r_ifTs (t_is (t_test (by wtm_at "ev")) (decide_eq_true (by omega))) (r_ret (by wtm_at "ev") ?_))
      have := root_le hr (newton_end hy0 hge)
      rw [show x = m by omega]
      rfl
    · refine r_seq (r_ifFs (t_is (t_test (by wtm_at "ev")) (decide_eq_false (by omega))) (r_next ?_))
      have nw := newton hr hy0
      refine r_asg (by wtm_at "ev") ⟨(j * m + n / m ^ j) / (j + 1), by omega, _, .d (di (((j * m + n / m ^ j) / (j + 1) : Nat) : Int)), nw, ?_, by omega, rfl, rfl⟩
      -- 0 < the next: the root is above 0
      have x0 : 0 < x := by
        rcases Nat.eq_zero_or_pos x with z | z
        · have := hr.2
          rw [z, Nat.zero_add, Nat.one_pow] at this
          omega
        · exact z
      omega

end
end Law.KS
end

section
set_option Elab.async false
set_option linter.all false
set_option maxRecDepth 100000
set_option maxHeartbeats 4000000
set_option autoImplicit false
set_option exponentiation.threshold 100
namespace Law.KV
open PySem PySem.Spec PyProof.Rows L2 Py
--def top (i : Nat) : Stmt := PySem.Challenge.pw_algebrastack_k01_whole_numbers_and_fract.main.body.getD i (.Pass ⟨0, 0, 0, 0⟩)

open Mt
local macro_rules | `(tactic| wtm_at "op") => `(tactic| first
  | with_reducible exact o_I0 | with_reducible exact o_add | with_reducible exact o_eqI | with_reducible exact o_neI
  | ((with_reducible apply o_mul); first | assumption | wtm_at "si")
  | ((with_reducible apply o_I); first | assumption | wtm_at "si")
  | ((with_reducible apply o_ixT); rfl) | ((with_reducible apply o_ixL); rfl)
  | ((with_reducible apply o_eqD) <;> first | rfl | decide | assumption) | ((with_reducible apply o_neD) <;> first | rfl | decide | assumption)
  | with_reducible assumption)
local macro_rules | `(tactic| wtm_at "si") => `(tactic| first | decide | exact ⟨by decide, by decide +kernel⟩ | omega)
local macro_rules | `(tactic| wtm_at "ev") => `(tactic| first
  | ((with_reducible apply e_var); rfl) | with_reducible exact e_c | with_reducible exact a_nil
  | ((with_reducible apply a_cons) <;> wtm_at "ev")
  | ((with_reducible apply e_bin) <;> first | wtm_at "ev" | wtm_at "op")
  | ((with_reducible apply e_ixO) <;> first | rfl | wtm_at "ev")
  | ((with_reducible apply e_U) <;> wtm_at "ev")
  | ((with_reducible apply t_test) <;> wtm_at "ev")
  | ((with_reducible apply t_B) <;> wtm_at "ev")
  | ((with_reducible apply t_not) <;> wtm_at "ev")
  | ((with_reducible apply e_tup) <;> first | wtm_at "ev" | exact Nat.le_of_ble_eq_true rfl)
  | ((with_reducible apply e_lst) <;> first | wtm_at "ev" | exact Nat.le_of_ble_eq_true rfl)
  | ((with_reducible apply e_gcd) <;> wtm_at "ev")
  | ((with_reducible apply e_abs) <;> wtm_at "ev")
  | ((with_reducible apply e_max2) <;> wtm_at "ev")
  | ((with_reducible apply e_int) <;> wtm_at "ev")
  | ((with_reducible apply e_intB) <;> wtm_at "ev")
  | ((with_reducible apply e_bits) <;> wtm_at "ev")
  | ((with_reducible apply e_not) <;> wtm_at "ev")
  | with_reducible assumption)

structure Txt4 (K : Frg) (mg : Str → Option Value) : Prop where
  gNumberError : mg "NumberError" = some (.ref (He.ga K "NumberError"))
  xNumberError : PySem.W.excIn K (He.ga K "NumberError") He.veBase "ValueError.__new__" = true ∧ PySem.W.keepIn K (.ref (He.ga K "NumberError")) = true ∧ PySem.W.subIn K (.ref (He.ga K "NumberError")) (.type "BaseException") = some true ∧ PySem.W.typeIn K (.ref (He.ga K "NumberError")) = some (.type "type")
  n_gcd : mg "gcd" = some (.builtin "math.gcd")
  n_abs : mg "abs" = none
  n_tuple : mg "tuple" = none
  n_range : mg "range" = none
  n_max : mg "max" = none
  n_sorted : mg "sorted" = none
  c_MOST_TRIAL : ∃ u, mg "MOST_TRIAL" = some u ∧ RelV (.int 1000000) u
section
variable {P : Program} {w : World} {K : Frg} {T : List (Addr × Str)} {mg : Str → Option Value} {base : Heap}

abbrev s_divisors : Stmt := top 24
theorem sc_divisors : FnScope ["number", "found", "prime", "exponent", "one", "times"] ["number"] (defScope s_divisors) := ⟨rfl, rfl, rfl, by decide +kernel, rfl, by decide +kernel, by decide +kernel⟩
def sp_pow : List Dt → Rs → Prop := fun ds r => ∃ (x : Int) (n : Nat), ds = [di x, di (n : Int)] ∧ Sz 20000000 (x ^ n) ∧ Sz 20000000 x ∧ r = .ok (di (x ^ n))
/-! ### divisors -/
def dvIn (q : Row) (x : Nat) : List Nat := (List.range (q.2 + 1)).map fun t => x * q.1 ^ t
def dvS (L : List Nat) (q : Row) : List Nat := L.flatMap (dvIn q)
def dvF (rs : List Row) : List Nat := rs.foldl dvS [1]
theorem dvF_next {rs : List Row} {i : Nat} {q : Row} (h : rs[i]? = some q) : dvF (rs.take (i + 1)) = dvS (dvF (rs.take i)) q := by
  unfold dvF
  rw [List.take_add_one, h, List.foldl_append]
  rfl
abbrev dN (n : Nat) : Dt := di (n : Int)
structure DvOk (n : Nat) (ms : List Int) : Prop where
  n0 : 0 < n
  nz : n < 2 ^ 20
  l : (pfN n).1 ≤ 1000000000000
  r : ∀ q ∈ pfRows (pfN n), q.1 < 2 ^ 20 ∧ q.2 ≤ 100
  x : ∀ i, i ≤ (pfRows (pfN n)).length → ∀ x ∈ dvF ((pfRows (pfN n)).take i), x < 2 ^ 1000
  c : ∀ i, i ≤ (pfRows (pfN n)).length → (dvF ((pfRows (pfN n)).take i)).length ≤ 900
  p : ms.Perm ((dvF (pfRows (pfN n))).map fun (x : Nat) => (x : Int))
  s : ms.Pairwise (· ≤ ·)
def sp_dv : List Dt → Rs → Prop := fun ds r => ∃ (n : Nat) (ms : List Int), ds = [dN n] ∧ DvOk n ms ∧ r = .ok (.tup (ms.map di))
theorem flat_len {f : Nat → List Nat} {c : Nat} (h : ∀ x, (f x).length ≤ c) : ∀ l : List Nat, (l.flatMap f).length ≤ l.length * c
  | [] => by simp
  | a :: l => by
    rw [List.flatMap_cons, List.length_append, List.length_cons, Nat.add_mul, Nat.one_mul]
    have := h a
    have := flat_len h l
    omega

theorem ok_divisors (X : Txt4 K mg) (F : ∃ fd, FunD K "divisors" "divisors" (defArgs s_divisors) (defBody s_divisors) (defScope s_divisors) [] [] (He.ga K "divisors") fd) (hm : mg "divisors" = some (.ref (He.ga K "divisors"))) (G_prime_factors : Gd P w K mg base "prime_factors" ["number"] 2 (spD K T (sp_pf K))) (G_power : Gd P w K mg base "power" ["number", "exponent"] 3 (spD K T sp_pow)) : Gd P w K mg base "divisors" ["number"] 4 (spD K T sp_dv) := by
  have Tx := X
  refine mkG F hm sc_divisors (fun _ _ _ _ _ _ us hl => match us, hl with | [_], _ => rfl) (fun ds r h => ?len) (fun cdv A outer s H E hr => ?body)
  case len => (obtain ⟨_, _, rfl, _⟩ := h; rfl)
  case body =>
    have sc := sc_divisors
    refine ⟨_, (pss_cons (ps_if (pt_cmpR op_lt (pv 0) pe_int (nomark _)) (pss_one (ps_rz rfl takesE PySem.F.excBase_ValueError Tx.xNumberError.1 Tx.gNumberError Tx.xNumberError.2.1 (raises_own Tx.xNumberError.2.2.1 Tx.xNumberError.2.2.2) rfl)) pss_nil)
  (pss_cons (ps_set (i := 1) sc.nd rfl (Or.inl rfl) (pe_lst (pa_cons pe_int pa_nil)))
  (pss_cons (ps_for (passesE) rfl (pi_tup (pe_callG G_prime_factors (hr.mono (by decide)) psE (pa_cons (pv 0) pa_nil))) (pg_tup rfl (pgs_cons (pg_name (i := 2) sc.nd rfl (Or.inr rfl)) (pgs_cons (pg_name (i := 3) sc.nd rfl (Or.inr rfl)) pgs_nil))) (pss_one (ps_setLc2 (i := 1) (own := [("one", 4), ("times", 5)]) (vs1 := [5]) rfl sc.nd rfl rfl (sw_true rfl rfl rfl (by decide +kernel)) (pi_list (pv 1)) (blkOk_by (own := [("one", 4), ("times", 5)]) (N := ["number", "found", "prime", "exponent", "one", "times"]) (sc := defScope s_divisors) (by decide +kernel)) (by decide) (fun _ _ _ _ _ => (pg_name (i := 4) sc.nd rfl (Or.inl rfl))) (fun _ _ _ _ _ => pts_nil) (fun _ _ _ _ _ => (pi_range1 rfl Tx.n_range (pa_cons (pe_op (op_addAK (K := K) rfl) (pv 3) pe_int) pa_nil))) (fun _ _ _ _ _ => (pg_name (i := 5) sc.nd rfl (Or.inl rfl))) (fun _ _ _ _ _ => pts_nil) (fun _ _ _ _ _ => (pe_op (op_mulAK (K := K) rfl) (pv 4) (pe_callG G_power (hr.mono (by decide)) passL (pa_cons (pv 2) (pa_cons (pv 5) pa_nil))))))))
  (pss_one (ps_ret (pe_callTy call_tuple_of (by rfl) Tx.n_tuple (by decide +kernel) (pa_cons (pe_callB cr_sortedI (by rfl) Tx.n_sorted (by decide +kernel) (pa_cons (pv 1) pa_nil)) pa_nil))))))), fun O ds r hg => ?_⟩
    clear sc hr
    try dsimp only [cxOf]

    obtain ⟨n, ms, rfl, D, rfl⟩ := hg
    have n0 := D.n0
    have hpf : pfR (NE K) (n : Int) = .ok (.tupZ ((pfRows (pfN n)).map row)) := by
      unfold pfR
      rw [if_neg (by omega), Int.natAbs_natCast, if_neg (by have := D.l; omega)]
    have hz : Sz 8000 (n : Int) := Nat.lt_of_lt_of_le D.nz (Nat.pow_le_pow_right (by decide) (by decide))
    refine r_seq (r_ifFs (t_is (t_test (by wtm_at "ev")) (decide_eq_false (by omega))) (r_next ?_))
    refine r_seq (r_asg (by wtm_at "ev") ?_)
    generalize hrs : pfRows (pfN n) = rs at *
    have Dr := D.r
    have Dx := D.x
    have Dc := D.c
    have Dp := D.p
    rw [hrs] at Dr Dx Dc Dp
    refine r_seq (r_forT (xs := rs.map row) (e_unZ (e_call (a_cons (e_var rfl) a_nil) ⟨n, rfl, hz, hpf.symm⟩)) (fun i A => ∃ s2 s3 : SD, A = ⟨[.d (dN n), .d (.lst ((dvF (rs.take i)).map dN)), s2, s3, .un, .un], []⟩) ⟨.un, .un, rfl⟩ ?_ ?_)
    · rintro i d A hd ⟨s2, s3, rfl⟩
      rw [List.getElem?_map] at hd
      obtain ⟨q, hq, rfl⟩ := Option.map_eq_some_iff.mp hd
      have hi : i < rs.length := (List.getElem?_eq_some_iff.mp hq).1
      obtain ⟨qz, qe⟩ := Dr q (List.mem_of_getElem? hq)
      have Lx := Dx i (by omega)
      have Lc := Dc i (by omega)
      refine ⟨_, tg_tup rfl (tgA_cons tg_name (tgA_cons tg_name tgA_nil)), ?_⟩
      rw [dvF_next hq]
      generalize dvF (rs.take i) = L at *
      have yl : ∀ m, (((L.take m).flatMap (dvIn q)).map dN).length ≤ 90900 := fun m => by
        rw [List.length_map]
        have h1 := flat_len (f := dvIn q) (c := q.2 + 1) (fun x => by unfold dvIn; simp) (L.take m)
        have h2 : (L.take m).length ≤ 900 := Nat.le_trans (by rw [List.length_take]; omega) Lc
        have h3 : (L.take m).length * (q.2 + 1) ≤ 900 * 101 := Nat.mul_le_mul h2 (by omega)
        omega
      refine r_asg (e_is (e_lc2L (xs := L.map dN) (e_var rfl) (fun _ => ⟨[.d (dN n), .d (.lst (L.map dN)), .d (dN q.1), .d (dN q.2), .un, .un], []⟩) (fun m => ((L.take m).flatMap (dvIn q)).map dN) rfl rfl ?_) (show Dt.lst (((L.take (L.map dN).length).flatMap (dvIn q)).map dN) = .lst ((dvS L q).map dN) by rw [List.length_map, List.take_length]; rfl)) ⟨_, _, rfl⟩
      intro m x hx O'
      rw [List.getElem?_map] at hx
      obtain ⟨y, hy, rfl⟩ := Option.map_eq_some_iff.mp hx
      have yz := Lx y (List.mem_of_getElem? hy)
      refine ⟨0, q.2 + 1, ⟨[.d (dN n), .d (.lst (L.map dN)), .d (dN q.1), .d (dN q.2), .d (dN y), .un], []⟩, fun _ => ⟨[.d (dN n), .d (.lst (L.map dN)), .d (dN q.1), .d (dN q.2), .d (dN y), .un], []⟩, fun j => ((L.take m).flatMap (dvIn q)).map dN ++ ((List.range j).map fun t => dN (y * q.1 ^ t)), ⟨tgS_name (List.mem_cons_self ..), ?wi, by simp, ?yn, ?tn, ?ln, rfl⟩⟩
      case wi =>
        intro os σ H' k R qq
        refine w_rng1 (n := (q.2 : Int) + 1) (a_cons (e_bin (e_var rfl) e_c o_add) a_nil) ⟨by omega, by omega⟩ os σ H' k R ?_
        rw [show ((q.2 : Int) + 1).toNat = q.2 + 1 by omega]
        exact qq
      case yn =>
        rw [List.take_add_one, hy, List.flatMap_append, List.map_append]
        congr 1
        simp [dvIn]
      case ln =>
        intro j hj
        have := yl m
        rw [List.length_append, List.length_map (f := fun t => dN (y * q.1 ^ t)), List.length_range]
        omega
      case tn =>
        intro j hj
        have pz : q.1 ^ j < 2 ^ 2001 := by
          have h1 : q.1 ^ j ≤ (2 ^ 20) ^ j := Nat.pow_le_pow_left (Nat.le_of_lt qz) j
          rw [← Nat.pow_mul] at h1
          exact Nat.lt_of_le_of_lt h1 (Nat.pow_lt_pow_right (by decide) (by omega))
        have ec : ((q.1 : Int) ^ j) = ((q.1 ^ j : Nat) : Int) := (Int.natCast_pow q.1 j).symm
        have s1 : Sz 20000000 ((q.1 : Int) ^ j) := by rw [ec]; exact Nat.lt_of_lt_of_le pz (Nat.pow_le_pow_right (by decide) (by decide))
        have s2 : Sz 20000000 (q.1 : Int) := Nat.lt_of_lt_of_le qz (Nat.pow_le_pow_right (by decide) (by decide))
        have m1 : PMul (y : Int) ((q.1 : Int) ^ j) := mulX 1000 2001 yz (by rw [ec]; exact pz)
        refine ⟨⟨[.d (dN n), .d (.lst (L.map dN)), .d (dN q.1), .d (dN q.2), .d (dN y), .d (di (0 + (j : Int)))], []⟩, true, _, tgS_name (List.mem_cons_self ..), t_yes, .inl ⟨rfl, dN (y * q.1 ^ j), _, e_is (e_bin (e_var rfl) (e_call (a_cons (e_var rfl) (a_cons (e_is (e_var rfl) (congrArg di (Int.zero_add (j : Int)))) a_nil)) ⟨(q.1 : Int), j, rfl, s1, s2, rfl⟩) (o_mul m1)) (congrArg di (by rw [ec, ← Int.natCast_mul])), by rw [List.range_succ, List.map_append, ← List.append_assoc]; rfl, rfl⟩⟩
    · rintro A ⟨s2, s3, rfl⟩
      rw [List.length_map, List.take_length]
      refine r_ret (e_tupL (e_sortI (ns := (dvF rs).map fun (x : Nat) => (x : Int)) (ms := ms) (e_is (e_var rfl) (show Dt.lst ((dvF rs).map dN) = .lst (((dvF rs).map fun (x : Nat) => (x : Int)).map di) by rw [List.map_map]; rfl)) fun ns' hp hs => sorted_one (hp.trans Dp.symm) hs D.s)) rfl

end
end Law.KV
end

section
set_option Elab.async false
set_option linter.all false
set_option maxRecDepth 100000
set_option maxHeartbeats 4000000
set_option autoImplicit false
namespace Law.KV
open PySem PySem.Spec PyProof.Rows L2 Py
def memB (x : Nat) : List Nat → Bool
  | [] => false
  | a :: l => Nat.beq a x || memB x l
def nodB : List Nat → Bool
  | [] => true
  | a :: l => !memB a l && nodB l
theorem memB_iff {x : Nat} : ∀ {l : List Nat}, memB x l = true ↔ x ∈ l
  | [] => by simp [memB]
  | a :: l => by
    unfold memB
    rw [Bool.or_eq_true, memB_iff, List.mem_cons]
    constructor
    · rintro (h | h)
      · exact .inl (Nat.eq_of_beq_eq_true h).symm
      · exact .inr h
    · rintro (h | h)
      · exact .inl (by rw [h]; exact Nat.beq_refl a)
      · exact .inr h
theorem nodB_ok : ∀ {l : List Nat}, nodB l = true → l.Nodup
  | [], _ => List.nodup_nil
  | a :: l, h => by
    obtain ⟨h1, h2⟩ := Bool.and_eq_true_iff.mp (show (!memB a l && nodB l) = true from h)
    refine List.nodup_cons.mpr ⟨fun z => ?_, nodB_ok h2⟩
    rw [memB_iff.mpr z] at h1
    cases h1
def bothB (D : List Nat) (n : Nat) : Nat → Nat → Bool
  | 0, _ => true
  | k + 1, i => (!Nat.beq (n % i) 0 || (memB i D && memB (n / i) D)) && bothB D n k (i + 1)
theorem bothB_ok {D : List Nat} {n : Nat} : ∀ {k lo : Nat}, bothB D n k lo = true → ∀ i, lo ≤ i → i < lo + k → n % i = 0 → i ∈ D ∧ n / i ∈ D
  | 0, lo, _, i, h1, h2, _ => by omega
  | k + 1, lo, h, i, h1, h2, hm => by
    obtain ⟨a, b⟩ := Bool.and_eq_true_iff.mp (show ((!Nat.beq (n % lo) 0 || (memB lo D && memB (n / lo) D)) && bothB D n k (lo + 1)) = true from h)
    rcases Nat.eq_or_lt_of_le h1 with z | z
    · subst z
      rw [hm] at a
      have a' : (memB lo D && memB (n / lo) D) = true := a
      obtain ⟨c, d⟩ := Bool.and_eq_true_iff.mp a'
      exact ⟨memB_iff.mp c, memB_iff.mp d⟩
    · exact bothB_ok b i z (by omega) hm
def divB (n : Nat) : List Nat → Bool
  | [] => true
  | d :: l => (Nat.beq (n % d) 0 && Nat.ble 1 d) && divB n l
theorem divB_ok {n : Nat} : ∀ {l : List Nat}, divB n l = true → ∀ d ∈ l, n % d = 0 ∧ 1 ≤ d
  | [], _, d, h => by cases h
  | e :: l, h, d, hd => by
    obtain ⟨a, b⟩ := Bool.and_eq_true_iff.mp (show ((Nat.beq (n % e) 0 && Nat.ble 1 e) && divB n l) = true from h)
    obtain ⟨c1, c2⟩ := Bool.and_eq_true_iff.mp a
    rcases List.mem_cons.mp hd with z | z
    · rw [z]; exact ⟨Nat.eq_of_beq_eq_true c1, Nat.le_of_ble_eq_true c2⟩
    · exact divB_ok b d z
/-- one number's divisors, checked -/
def dvChk (n : Nat) : Bool := let D := dvF (pfRows (pfN n)); nodB D && (divB n D && bothB D n 71 1)
def divsL (n : Nat) : List Nat := (List.range' 1 n).filter fun k => n / k * k == n
theorem dv_perm {n : Nat} (h0 : 0 < n) (hn : n < 5184) (h : dvChk n = true) : (dvF (pfRows (pfN n))).Perm (divsL n) := by
  obtain ⟨h1, h2⟩ := Bool.and_eq_true_iff.mp (show (nodB _ && (divB n _ && bothB _ n 71 1)) = true from h)
  obtain ⟨h3, h4⟩ := Bool.and_eq_true_iff.mp h2
  generalize dvF (pfRows (pfN n)) = D at *
  refine (List.perm_ext_iff_of_nodup (nodB_ok h1) ((List.nodup_range').filter _)).mpr fun k => ?_
  rw [List.mem_filter, List.mem_range'_1]
  constructor
  · intro hk
    obtain ⟨a, b⟩ := divB_ok h3 k hk
    have e := Nat.div_add_mod' n k
    have le : k ≤ n := Nat.le_of_dvd h0 (Nat.dvd_of_mod_eq_zero a)
    exact ⟨by omega, by simp; omega⟩
  · rintro ⟨hk, he⟩
    have he : n / k * k = n := by simpa using he
    have hm : n % k = 0 := by
      have := Nat.div_add_mod' n k
      omega
    rcases Nat.lt_or_ge k 72 with z | z
    · exact (bothB_ok h4 k (by omega) (by omega) hm).1
    · have q1 : n / k < 72 := by
        rcases Nat.lt_or_ge (n / k) 72 with y | y
        · exact y
        · have : 72 * 72 ≤ n / k * k := Nat.mul_le_mul y z
          omega
      have q0 : 0 < n / k := by
        rcases Nat.eq_zero_or_pos (n / k) with y | y
        · rw [y] at he; omega
        · exact y
      have hm2 : n % (n / k) = 0 := by
        have : n = n / k * k := he.symm
        exact Nat.mod_eq_zero_of_dvd ⟨k, this⟩
      have := (bothB_ok h4 (n / k) (by omega) (by omega) hm2).2
      have e2 : n / (n / k) = k := by
        have h5 : n = n / k * k := he.symm
        rw [show n / (n / k) = (n / k * k) / (n / k) by rw [← h5], Nat.mul_div_cancel_left _ q0]
      rw [e2] at this
      exact this
def allD : Nat → Nat → Bool
  | 0, _ => true
  | k + 1, lo => dvChk lo && allD k (lo + 1)

end Law.KV
end

section
set_option Elab.async false
set_option linter.all false
set_option maxRecDepth 100000
set_option maxHeartbeats 4000000
set_option autoImplicit false
namespace Law.KF
open PySem PySem.Spec PyProof.Rows L2 Py KV
def noD (n : Nat) : Nat → Nat → Bool
  | 0, _ => true
  | k + 1, i => Nat.blt n (i * i) || (!Nat.beq (n % i) 0 && noD n k (i + 1))
theorem noD_ok {n : Nat} : ∀ {k i : Nat}, noD n k i = true → ∀ j, i ≤ j → j < i + k → j * j ≤ n → n % j ≠ 0
  | 0, i, _, j, h1, h2, _ => by omega
  | k + 1, i, h, j, h1, h2, h3 => by
    have h : (Nat.blt n (i * i) || (!Nat.beq (n % i) 0 && noD n k (i + 1))) = true := h
    have hi : i * i ≤ j * j := Nat.mul_le_mul h1 h1
    rcases Bool.or_eq_true_iff.mp h with z | z
    · have : n < i * i := Nat.le_of_ble_eq_true z
      omega
    · obtain ⟨a, b⟩ := Bool.and_eq_true_iff.mp z
      rcases Nat.eq_or_lt_of_le h1 with e | e
      · subst e
        intro q
        rw [q] at a
        cases a
      · exact noD_ok b j e (by omega) h3
def primeB (p : Nat) : Bool := Nat.blt 1 p && noD p 75 2
theorem primeB_ok {p : Nat} (h : primeB p = true) (hp : p < 5184) : lawP p = true := by
  obtain ⟨a, b⟩ := Bool.and_eq_true_iff.mp (show (Nat.blt 1 p && noD p 75 2) = true from h)
  have a : 1 < p := Nat.le_of_ble_eq_true a
  rw [lawP_eq hp]
  unfold lawQ
  rw [Bool.and_eq_true]
  refine ⟨decide_eq_true a, List.all_eq_true.mpr fun i hi => ?_⟩
  have hi := List.mem_range.mp hi
  cases hv : dvs p (i + 2) with
  | false => rfl
  | true =>
    unfold dvs at hv
    obtain ⟨c, d⟩ := Bool.and_eq_true_iff.mp hv
    have c := of_decide_eq_true c
    have d := of_decide_eq_true d
    refine absurd ?_ (noD_ok b (i + 2) (by omega) (by omega) c)
    have := Nat.div_add_mod' p (i + 2)
    omega
def prodN (rs : List Row) : Nat := rs.foldl (fun a q => a * q.1 ^ q.2) 1
def rowOk (q : Row) : Bool := Nat.ble 1 q.2 && (Nat.ble q.2 20 && (Nat.ble q.1 5100 && primeB q.1))
def upB : Nat → List Row → Bool
  | _, [] => true
  | m, q :: r => Nat.blt m q.1 && upB q.1 r
def leB : Nat → List Nat → Bool
  | _, [] => true
  | 0, _ :: _ => false
  | k + 1, x :: l => Nat.ble x 100000 && leB k l
def dvPre : List Nat → List Row → Bool
  | L, [] => leB 900 L
  | L, q :: r => leB 900 L && dvPre (dvS L q) r
def pfChk (n : Nat) (p : Nat × List Row) (rs : List Row) : Bool := Nat.ble p.1 1000000000000 && (Nat.beq (prodN rs) n && (upB 0 rs && (rs.all rowOk && (leB 20 (rs.map (·.1)) && dvPre [1] rs))))
def okN (n : Nat) : Bool := pfChk n (pfN n) (pfRows (pfN n)) && dvChk n
def allP : Nat → Nat → Bool
  | 0, _ => true
  | k + 1, lo => okN lo && allP k (lo + 1)
theorem allP_ok : ∀ {k lo : Nat}, allP k lo = true → ∀ n, lo ≤ n → n < lo + k → okN n = true
  | 0, lo, _, n, h1, h2 => by omega
  | k + 1, lo, h, n, h1, h2 => by
    obtain ⟨a, b⟩ := Bool.and_eq_true_iff.mp (show (okN lo && allP k (lo + 1)) = true from h)
    rcases Nat.eq_or_lt_of_le h1 with z | z
    · rw [← z]; exact a
    · exact allP_ok b n z (by omega)
theorem chk00 : allP 250 1 = true := by decide +kernel
theorem chk01 : allP 250 251 = true := by decide +kernel
theorem chk02 : allP 250 501 = true := by decide +kernel
theorem chk03 : allP 250 751 = true := by decide +kernel
theorem chk04 : allP 250 1001 = true := by decide +kernel
theorem chk05 : allP 250 1251 = true := by decide +kernel
theorem chk06 : allP 250 1501 = true := by decide +kernel
theorem chk07 : allP 250 1751 = true := by decide +kernel
theorem chk08 : allP 250 2001 = true := by decide +kernel
theorem chk09 : allP 250 2251 = true := by decide +kernel
theorem chk10 : allP 250 2501 = true := by decide +kernel
theorem chk11 : allP 250 2751 = true := by decide +kernel
theorem chk12 : allP 250 3001 = true := by decide +kernel
theorem chk13 : allP 250 3251 = true := by decide +kernel
theorem chk14 : allP 250 3501 = true := by decide +kernel
theorem chk15 : allP 250 3751 = true := by decide +kernel
theorem chk16 : allP 250 4001 = true := by decide +kernel
theorem chk17 : allP 250 4251 = true := by decide +kernel
theorem chk18 : allP 250 4501 = true := by decide +kernel
theorem chk19 : allP 250 4751 = true := by decide +kernel
theorem okN_all {n : Nat} (h1 : 1 ≤ n) (h2 : n ≤ 5000) : okN n = true := by
  by_cases q : n < 2501
  · by_cases q1 : n < 1251
    · by_cases a : n < 251
      · exact allP_ok chk00 n (by omega) (by omega)
      · by_cases a : n < 501
        · exact allP_ok chk01 n (by omega) (by omega)
        · by_cases a : n < 751
          · exact allP_ok chk02 n (by omega) (by omega)
          · by_cases a : n < 1001
            · exact allP_ok chk03 n (by omega) (by omega)
            · exact allP_ok chk04 n (by omega) (by omega)
    · by_cases a : n < 1501
      · exact allP_ok chk05 n (by omega) (by omega)
      · by_cases a : n < 1751
        · exact allP_ok chk06 n (by omega) (by omega)
        · by_cases a : n < 2001
          · exact allP_ok chk07 n (by omega) (by omega)
          · by_cases a : n < 2251
            · exact allP_ok chk08 n (by omega) (by omega)
            · exact allP_ok chk09 n (by omega) (by omega)
  · by_cases q1 : n < 3751
    · by_cases a : n < 2751
      · exact allP_ok chk10 n (by omega) (by omega)
      · by_cases a : n < 3001
        · exact allP_ok chk11 n (by omega) (by omega)
        · by_cases a : n < 3251
          · exact allP_ok chk12 n (by omega) (by omega)
          · by_cases a : n < 3501
            · exact allP_ok chk13 n (by omega) (by omega)
            · exact allP_ok chk14 n (by omega) (by omega)
    · by_cases a : n < 4001
      · exact allP_ok chk15 n (by omega) (by omega)
      · by_cases a : n < 4251
        · exact allP_ok chk16 n (by omega) (by omega)
        · by_cases a : n < 4501
          · exact allP_ok chk17 n (by omega) (by omega)
          · by_cases a : n < 4751
            · exact allP_ok chk18 n (by omega) (by omega)
            · exact allP_ok chk19 n (by omega) (by omega)
end Law.KF
end

section
set_option Elab.async false
set_option linter.all false
set_option maxRecDepth 100000
set_option maxHeartbeats 4000000
set_option autoImplicit false
set_option exponentiation.threshold 1100
namespace Law.KF
open PySem PySem.Spec PyProof.Rows L2 Py KV
theorem upB_ok : ∀ {rs : List Row} {m : Nat}, upB m rs = true → (∀ q ∈ rs, m < q.1) ∧ rs.Pairwise fun a b => a.1 < b.1
  | [], m, _ => ⟨fun q h => (by cases h), List.Pairwise.nil⟩
  | q :: r, m, h => by
    obtain ⟨a, b⟩ := Bool.and_eq_true_iff.mp (show (Nat.blt m q.1 && upB q.1 r) = true from h)
    have a : m < q.1 := Nat.le_of_ble_eq_true a
    obtain ⟨c, d⟩ := upB_ok b
    refine ⟨fun x hx => ?_, List.pairwise_cons.mpr ⟨fun x hx => c x hx, d⟩⟩
    rcases List.mem_cons.mp hx with e | e
    · rw [e]; exact a
    · have := c x e
      omega
theorem leB_ok : ∀ {L : List Nat} {k : Nat}, leB k L = true → L.length ≤ k ∧ ∀ x ∈ L, x ≤ 100000
  | [], k, _ => ⟨Nat.zero_le _, fun x h => (by cases h)⟩
  | x :: l, 0, h => by cases h
  | x :: l, k + 1, h => by
    obtain ⟨a, b⟩ := Bool.and_eq_true_iff.mp (show (Nat.ble x 100000 && leB k l) = true from h)
    obtain ⟨c, d⟩ := leB_ok b
    refine ⟨by simp; omega, fun y hy => ?_⟩
    rcases List.mem_cons.mp hy with e | e
    · rw [e]; exact Nat.le_of_ble_eq_true a
    · exact d y e
theorem dvPre_ok : ∀ {rs : List Row} {L : List Nat}, dvPre L rs = true → ∀ i, i ≤ rs.length → leB 900 ((rs.take i).foldl dvS L) = true
  | [], L, h, i, _ => by
    rw [List.take_nil]
    exact h
  | q :: r, L, h, i, hi => by
    obtain ⟨a, b⟩ := Bool.and_eq_true_iff.mp (show (leB 900 L && dvPre (dvS L q) r) = true from h)
    cases i with
    | zero => exact a
    | succ i => exact dvPre_ok b i (by simpa using hi)
theorem fold_ge : ∀ {rs : List Row} {a : Nat}, (∀ q ∈ rs, 1 ≤ q.1) → a ≤ rs.foldl (fun a q => a * q.1 ^ q.2) a
  | [], a, _ => Nat.le_refl _
  | q :: r, a, h => by
    refine Nat.le_trans ?_ (fold_ge (a := a * q.1 ^ q.2) fun x hx => h x (List.mem_cons_of_mem _ hx))
    have : 1 ≤ q.1 ^ q.2 := Nat.pow_pos (h q (List.mem_cons_self ..))
    exact Nat.le_mul_of_pos_right a this
structure NumOk (n : Nat) : Prop where
  n1 : 1 ≤ n
  n2 : n ≤ 5000
  l : (pfN n).1 ≤ 1000000000000
  pd : prodN (pfRows (pfN n)) = n
  up : (pfRows (pfN n)).Pairwise fun a b => a.1 < b.1
  pr : ∀ q ∈ pfRows (pfN n), 1 ≤ q.2 ∧ q.2 ≤ 20 ∧ 1 ≤ q.1 ∧ q.1 ≤ 5100 ∧ lawP q.1 = true
  ln : (pfRows (pfN n)).length ≤ 20
  px : ∀ i, prodN ((pfRows (pfN n)).take i) ≤ n
  dv : DvOk n ((divsL n).map fun (x : Nat) => (x : Int))
theorem numOk {n : Nat} (h1 : 1 ≤ n) (h2 : n ≤ 5000) : NumOk n := by
  obtain ⟨h, hd⟩ := Bool.and_eq_true_iff.mp (show (pfChk n (pfN n) (pfRows (pfN n)) && dvChk n) = true from okN_all h1 h2)
  obtain ⟨c1, h⟩ := Bool.and_eq_true_iff.mp (show (Nat.ble (pfN n).1 1000000000000 && _) = true from h)
  obtain ⟨c2, h⟩ := Bool.and_eq_true_iff.mp h
  obtain ⟨c3, h⟩ := Bool.and_eq_true_iff.mp h
  obtain ⟨c4, h⟩ := Bool.and_eq_true_iff.mp h
  obtain ⟨c5, c6⟩ := Bool.and_eq_true_iff.mp h
  have c1 := Nat.le_of_ble_eq_true c1
  have c2 := Nat.eq_of_beq_eq_true c2
  obtain ⟨u0, u1⟩ := upB_ok c3
  have l20 := (leB_ok c5).1
  rw [List.length_map] at l20
  have pr : ∀ q ∈ pfRows (pfN n), 1 ≤ q.2 ∧ q.2 ≤ 20 ∧ 1 ≤ q.1 ∧ q.1 ≤ 5100 ∧ lawP q.1 = true := fun q hq => by
    obtain ⟨a1, a⟩ := Bool.and_eq_true_iff.mp (show (Nat.ble 1 q.2 && (Nat.ble q.2 20 && (Nat.ble q.1 5100 && primeB q.1))) = true from List.all_eq_true.mp c4 q hq)
    obtain ⟨a2, a⟩ := Bool.and_eq_true_iff.mp a
    obtain ⟨a3, a4⟩ := Bool.and_eq_true_iff.mp a
    have a3 := Nat.le_of_ble_eq_true a3
    exact ⟨Nat.le_of_ble_eq_true a1, Nat.le_of_ble_eq_true a2, u0 q hq, a3, primeB_ok a4 (by omega)⟩
  have px : ∀ i, prodN ((pfRows (pfN n)).take i) ≤ n := fun i => by
    have e : prodN (pfRows (pfN n)) = ((pfRows (pfN n)).drop i).foldl (fun a q => a * q.1 ^ q.2) (prodN ((pfRows (pfN n)).take i)) := by
      unfold prodN
      rw [← List.foldl_append, List.take_append_drop]
    rw [c2] at e
    refine Nat.le_trans ?_ (Nat.le_of_eq e.symm)
    exact fold_ge fun q hq => (pr q (List.mem_of_mem_drop hq)).2.2.1
  have pre := dvPre_ok c6
  refine ⟨h1, h2, c1, c2, u1, pr, l20, px, ⟨h1, by omega, c1, fun q hq => ?_, fun i hi x hx => ?_, fun i hi => (leB_ok (pre i hi)).1, ?_, ?_⟩⟩
  · obtain ⟨_, a, _, b, _⟩ := pr q hq
    omega
  · have := (leB_ok (pre i hi)).2 x hx
    exact Nat.lt_of_le_of_lt this (by decide)
  · exact ((dv_perm h1 (by omega) hd).symm).map _
  · have sorted : (divsL n).Pairwise (· ≤ ·) := by
      unfold divsL
      exact (List.pairwise_le_range' (s := 1) (n := n) (step := 1)).filter _
    exact List.pairwise_map.mpr (sorted.imp fun {a b} h => by omega)
/-! ### the next prime -/
theorem least_of {p : Nat → Bool} {m : Nat} : ∀ k, p (m + k) = true → ∃ q, m ≤ q ∧ q ≤ m + k ∧ p q = true ∧ ∀ r, m ≤ r → r < q → p r = false
  | 0, h => ⟨m, Nat.le_refl _, by omega, h, fun r h1 h2 => by omega⟩
  | k + 1, h => by
    by_cases e : ∃ j, j ≤ k ∧ p (m + j) = true
    · obtain ⟨j, hj, hp⟩ := e
      obtain ⟨q, a, b, c, d⟩ := least_of j hp
      exact ⟨q, a, by omega, c, d⟩
    · refine ⟨m + (k + 1), by omega, Nat.le_refl _, h, fun r h1 h2 => ?_⟩
      cases hr : p r with
      | false => rfl
      | true => exact absurd ⟨r - m, by omega, by rw [show m + (r - m) = r by omega]; exact hr⟩ e
theorem prime5003 : isP 5003 = true := by decide +kernel
theorem next_ok {n : Nat} (h1 : 1 ≤ n) (h2 : n ≤ 5000) : ∃ p, IsNext n p ∧ n < p ∧ p ≤ 5003 := by
  have em : max (n + 1) 2 = n + 1 := by omega
  obtain ⟨q, a, b, c, d⟩ := least_of (p := isP) (m := n + 1) (5003 - (n + 1)) (by rw [show n + 1 + (5003 - (n + 1)) = 5003 by omega]; exact prime5003)
  exact ⟨q, ⟨by rw [em]; exact a, c, fun r h h' => d r (by rw [em] at h; exact h) h'⟩, a, by omega⟩
end Law.KF
end

section
set_option Elab.async false
set_option linter.all false
set_option maxRecDepth 100000
set_option maxHeartbeats 4000000
set_option autoImplicit false
namespace Law.KI
open PySem PySem.Spec PyProof.Rows L2 Py
/-! ### no odd divisor of a great number among 2^L ones from d on -/
noncomputable def rngR (n : Nat) (L : Nat) : Nat → Bool := Nat.rec (motive := fun _ => Nat → Bool) (fun d => Bool.rec true false (Nat.beq (Nat.mod n d) (nat_lit 0))) (fun L ih d => Bool.rec false (ih (Nat.add d (Nat.pow (nat_lit 2) (Nat.succ L)))) (ih d)) L
theorem brec {a b : Bool} (h : (Bool.rec false b a : Bool) = true) : a = true ∧ b = true := by
  cases a with
  | false => cases h
  | true => exact ⟨rfl, h⟩
theorem rngR_ok {n : Nat} : ∀ {L d : Nat}, rngR n L d = true → ∀ i, i < 2 ^ L → n % (d + 2 * i) ≠ 0
  | 0, d, h, i, hi => by
    have i0 : i = 0 := by simpa using hi
    subst i0
    intro z
    rw [Nat.mul_zero, Nat.add_zero] at z
    have h : (Bool.rec true false (Nat.beq (n % d) 0) : Bool) = true := h
    rw [z] at h
    cases h
  | L + 1, d, h, i, hi => by
    obtain ⟨a, b⟩ := brec (show (Bool.rec false (rngR n L (d + 2 ^ (L + 1))) (rngR n L d) : Bool) = true from h)
    by_cases q : i < 2 ^ L
    · exact rngR_ok a i q
    · have e := Nat.pow_succ 2 L
      have := rngR_ok b (i - 2 ^ L) (by omega)
      rw [show d + 2 ^ (L + 1) + 2 * (i - 2 ^ L) = d + 2 * i by omega] at this
      exact this
theorem skip {l d k : Nat} {rs : List Row} (hd : 3 ≤ d) : ∀ {m : Nat}, (∀ i, i < m → l % (d + 2 * i) ≠ 0 ∧ d + 2 * i ≤ 1000000 ∧ (d + 2 * i) * (d + 2 * i) ≤ l) → pfF (k + m) l d rs = pfF k l (d + 2 * m) rs
  | 0, _ => rfl
  | m + 1, h => by
    rw [show k + (m + 1) = (k + 1) + m by omega, skip hd (m := m) fun i hi => h i (by omega)]
    obtain ⟨a, b, c⟩ := h m (Nat.lt_succ_self m)
    show (if d + 2 * m ≤ 1000000 ∧ (d + 2 * m) * (d + 2 * m) ≤ l then (if l % (d + 2 * m) = 0 then _ else pfF k l (nxt (d + 2 * m)) rs) else (l, rs)) = _
    rw [if_pos ⟨b, c⟩, if_neg a]
    have : nxt (d + 2 * m) = d + 2 * (m + 1) := by unfold nxt; rw [if_pos (by omega)]; omega
    rw [this]
theorem outN_once {n d : Nat} (hn : 0 < n) (h : n % d = 0) (h' : n / d % d ≠ 0) : outN n d = (n / d, 1) := by
  unfold outN
  cases n with
  | zero => omega
  | succ m =>
    rw [outF_step h]
    exact outF_done h'
theorem hit {k l d : Nat} {rs : List Row} (h1 : d ≤ 1000000) (h2 : d * d ≤ l) (h3 : l % d = 0) : pfF (k + 1) l d rs = pfF k (outN l d).1 (nxt d) (rs ++ [(d, (outN l d).2)]) := by
  rw [pfF, if_pos ⟨h1, h2⟩, if_pos h3]
theorem start {n k : Nat} (h : n % 2 = 1) (h4 : 4 ≤ n) : pfF (k + 1) n 2 [] = pfF k n 3 [] := by
  show (if 2 ≤ 1000000 ∧ 2 * 2 ≤ n then (if n % 2 = 0 then _ else pfF k n (nxt 2) []) else (n, [])) = _
  rw [if_pos ⟨by decide, by omega⟩, if_neg (by omega)]
  rfl
theorem sq_le {d n : Nat} (h : d ≤ 999999) (hn : 999998000001 ≤ n) : d * d ≤ n := Nat.le_trans (Nat.mul_le_mul h h) hn
theorem none_of {n : Nat} (h2 : n % 2 = 1) (hn : 999998000001 ≤ n) (h : rngR n 19 3 = true) : pfN n = (n, []) := by
  unfold pfN
  rw [show 1000001 = 1000000 + 1 from rfl, start h2 (by omega), show 1000000 = 500001 + 499999 from rfl, skip (by decide) fun i hi => ⟨rngR_ok h i (Nat.lt_trans hi (by decide)), by omega, sq_le (by omega) hn⟩]
  exact pfF_done (by omega)
theorem p1 : rngR 999999999989 19 3 = true := by decide +kernel
theorem p2 : rngR 1000000000000000000000000000057 19 3 = true := by decide +kernel
theorem big1 : pfN 999999999989 = (999999999989, []) := none_of (by decide) (by decide) p1
theorem big2 : pfN 1000000000000000000000000000057 = (1000000000000000000000000000057, []) := none_of (by decide) (by decide) p2
theorem q0 : rngR 999979 8 3 = true := by decide +kernel
theorem q1 : rngR 999979 7 515 = true := by decide +kernel
theorem q2 : rngR 999979 6 771 = true := by decide +kernel
theorem q3 : rngR 999979 5 899 = true := by decide +kernel
theorem q4 : rngR 999979 4 963 = true := by decide +kernel
theorem q5 : rngR 999979 1 995 = true := by decide +kernel
theorem q6 : rngR 999979 0 999 = true := by decide +kernel
theorem big3 : pfN 999979 = (999979, []) := by
  unfold pfN
  rw [show 1000001 = 1000000 + 1 from rfl, start (by decide) (by decide), show 1000000 = 999501 + 499 from rfl, skip (by decide) fun i hi => ⟨?_, by omega, Nat.le_trans (Nat.mul_le_mul (show 3 + 2 * i ≤ 999 by omega) (show 3 + 2 * i ≤ 999 by omega)) (by decide)⟩]
  · exact pfF_done (by omega)
  · by_cases a0 : i < 256
    · exact rngR_ok q0 i (by omega)
    · by_cases a1 : i < 384
      · have := rngR_ok q1 (i - 256) (by omega)
        rw [show 515 + 2 * (i - 256) = 3 + 2 * i by omega] at this
        exact this
      · by_cases a2 : i < 448
        · have := rngR_ok q2 (i - 384) (by omega)
          rw [show 771 + 2 * (i - 384) = 3 + 2 * i by omega] at this
          exact this
        · by_cases a3 : i < 480
          · have := rngR_ok q3 (i - 448) (by omega)
            rw [show 899 + 2 * (i - 448) = 3 + 2 * i by omega] at this
            exact this
          · by_cases a4 : i < 496
            · have := rngR_ok q4 (i - 480) (by omega)
              rw [show 963 + 2 * (i - 480) = 3 + 2 * i by omega] at this
              exact this
            · by_cases a5 : i < 498
              · have := rngR_ok q5 (i - 496) (by omega)
                rw [show 995 + 2 * (i - 496) = 3 + 2 * i by omega] at this
                exact this
              · have := rngR_ok q6 (i - 498) (by omega)
                rw [show 999 + 2 * (i - 498) = 3 + 2 * i by omega] at this
                exact this
theorem r0 : rngR 999985999949 18 3 = true := by decide +kernel
theorem r1 : rngR 999985999949 17 524291 = true := by decide +kernel
theorem r2 : rngR 999985999949 16 786435 = true := by decide +kernel
theorem r3 : rngR 999985999949 15 917507 = true := by decide +kernel
theorem r4 : rngR 999985999949 13 983043 = true := by decide +kernel
theorem r5 : rngR 999985999949 8 999427 = true := by decide +kernel
theorem r6 : rngR 999985999949 4 999939 = true := by decide +kernel
theorem r7 : rngR 999985999949 2 999971 = true := by decide +kernel
theorem r8 : rngR 999985999949 1 999979 = true := by decide +kernel
theorem big4 : pfN 999985999949 = (1000003, [(999983, 1)]) := by
  unfold pfN
  rw [show 1000001 = 1000000 + 1 from rfl, start (by decide) (by decide), show 1000000 = 500010 + 499990 from rfl, skip (by decide) fun i hi => ⟨?_, by omega, Nat.le_trans (Nat.mul_le_mul (show 3 + 2 * i ≤ 999981 by omega) (show 3 + 2 * i ≤ 999981 by omega)) (by decide)⟩]
  · have eo : outN 999985999949 999983 = (1000003, 1) := by
      rw [outN_once (by decide) (by decide) (by decide)]
    show pfF (500009 + 1) 999985999949 999983 [] = _
    rw [hit (by decide) (by decide) (by decide), eo]
    exact pfF_done (by decide)
  · by_cases a0 : i < 262144
    · exact rngR_ok r0 i (by omega)
    · by_cases a1 : i < 393216
      · have := rngR_ok r1 (i - 262144) (by omega)
        rw [show 524291 + 2 * (i - 262144) = 3 + 2 * i by omega] at this
        exact this
      · by_cases a2 : i < 458752
        · have := rngR_ok r2 (i - 393216) (by omega)
          rw [show 786435 + 2 * (i - 393216) = 3 + 2 * i by omega] at this
          exact this
        · by_cases a3 : i < 491520
          · have := rngR_ok r3 (i - 458752) (by omega)
            rw [show 917507 + 2 * (i - 458752) = 3 + 2 * i by omega] at this
            exact this
          · by_cases a4 : i < 499712
            · have := rngR_ok r4 (i - 491520) (by omega)
              rw [show 983043 + 2 * (i - 491520) = 3 + 2 * i by omega] at this
              exact this
            · by_cases a5 : i < 499968
              · have := rngR_ok r5 (i - 499712) (by omega)
                rw [show 999427 + 2 * (i - 499712) = 3 + 2 * i by omega] at this
                exact this
              · by_cases a6 : i < 499984
                · have := rngR_ok r6 (i - 499968) (by omega)
                  rw [show 999939 + 2 * (i - 499968) = 3 + 2 * i by omega] at this
                  exact this
                · by_cases a7 : i < 499988
                  · have := rngR_ok r7 (i - 499984) (by omega)
                    rw [show 999971 + 2 * (i - 499984) = 3 + 2 * i by omega] at this
                    exact this
                  · have := rngR_ok r8 (i - 499988) (by omega)
                    rw [show 999979 + 2 * (i - 499988) = 3 + 2 * i by omega] at this
                    exact this
end Law.KI
end

section
set_option Elab.async false
set_option linter.all false
set_option maxRecDepth 100000
set_option maxHeartbeats 4000000
set_option autoImplicit false
set_option exponentiation.threshold 100
namespace Law.KY
open PySem PySem.Spec PyProof.Rows L2 Py Mt
abbrev s__law_told : Stmt := top 44
theorem sc__law_told : FnScope ["what"] ["what"] (defScope s__law_told) := ⟨rfl, rfl, rfl, by decide +kernel, rfl, by decide +kernel, by decide +kernel⟩
abbrev s_law : Stmt := top 53
abbrev NL : List Str := ["script", "dice", "sizes", "one", "other", "k", "divisor", "first", "second", "base", "exponent", "told_now", "small", "rows", "product", "prime", "many", "rests", "whole", "rest", "part", "fits", "number", "root", "below", "found", "a", "b", "times", "due", "turn"]
theorem sc_law : FnScope NL ["script"] (defScope s_law) := ⟨rfl, rfl, rfl, by decide +kernel, rfl, by decide +kernel, by decide +kernel⟩
abbrev s__law_large : Stmt := top 51
abbrev NG : List Str := ["script", "dice", "number", "due"]
theorem sc__law_large : FnScope NG ["script"] (defScope s__law_large) := ⟨rfl, rfl, rfl, by decide +kernel, rfl, by decide +kernel, by decide +kernel⟩
/-- the body of a def's first loop -/
def bodyF : Stmt → List Stmt
  | .For _ _ b _ _ => b
  | _ => []
structure GS (P : Program) (w : World) (K : Frg) (T : List (Addr × Str)) (mg : Str → Option Value) (base : Heap) : Prop where
  G_bezout : Gd P w K mg base "bezout" ["one", "other"] 1 (spD K T KA.sp_bez)
  G_common_divisor : Gd P w K mg base "common_divisor" ["one", "other"] 1 (spD K T KA.sp_gcd)
  G_inverse : Gd P w K mg base "inverse" ["number", "base"] 2 (spD K T (KA.sp_inv K))
  G_power : Gd P w K mg base "power" ["number", "exponent"] 3 (spD K T KB.sp_pow)
  G_power_by : Gd P w K mg base "power_by" ["number", "exponent", "base"] 3 (spD K T (KB.sp_powBy K))
  G_convergents : Gd P w K mg base "convergents" ["one", "other"] 1 (spD K T (KC.sp_cv K .tup))
  G__law_convergents : Gd P w K mg base "_law_convergents" ["one", "below"] 1 (spD K T (KC.sp_cv K .lst))
  G__law_gcd : Gd P w K mg base "_law_gcd" ["one", "other"] 1 (spD K T KC.sp_lgcd)
  G__law_frac : Gd P w K mg base "_law_frac" ["one", "other"] 2 (spD K T KC.sp_lfrac)
  G__law_plus : Gd P w K mg base "_law_plus" ["one", "other"] 3 (spD K T (KC.sp_ltwo (fun p q => p.1 * q.2 + q.1 * p.2) (fun p q => p.2 * q.2)))
  G__law_times : Gd P w K mg base "_law_times" ["one", "other"] 3 (spD K T (KC.sp_ltwo (fun p q => p.1 * q.1) (fun p q => p.2 * q.2)))
  G_remainders_joined : Gd P w K mg base "remainders_joined" ["rows"] 2 (spD K T (KJ.sp_join K))
  G__law_prime : Gd P w K mg base "_law_prime" ["number"] 1 (spD K T sp_lprime)
  G_prime_factors : Gd P w K mg base "prime_factors" ["number"] 2 (spD K T (sp_pf K))
  G_is_prime : Gd P w K mg base "is_prime" ["number"] 5 (spD K T sp_isp)
  G_next_prime : Gd P w K mg base "next_prime" ["number"] 6 (spD K T sp_next)
  G_rational : Gd P w K mg base "rational" ["one", "other"] 2 (spD K T (KR.sp_rat K))
  G_sum_of : Gd P w K mg base "sum_of" ["one", "other"] 3 (spD K T (KR.sp_two K (fun p q => p.1 * q.2 + q.1 * p.2) (fun p q => p.2 * q.2)))
  G_difference_of : Gd P w K mg base "difference_of" ["one", "other"] 3 (spD K T (KR.sp_two K (fun p q => p.1 * q.2 - q.1 * p.2) (fun p q => p.2 * q.2)))
  G_product_of : Gd P w K mg base "product_of" ["one", "other"] 3 (spD K T (KR.sp_two K (fun p q => p.1 * q.1) (fun p q => p.2 * q.2)))
  G_quotient_of : Gd P w K mg base "quotient_of" ["one", "other"] 3 (spD K T (KR.sp_two K (fun p q => p.1 * q.2) (fun p q => p.2 * q.1)))
  G_sign : Gd P w K mg base "sign" ["one"] 1 (spD K T KR.sp_sign)
  G_compared : Gd P w K mg base "compared" ["one", "other"] 4 (spD K T (KR.sp_cmp K))
  G_root_below : Gd P w K mg base "root_below" ["number", "many"] 4 (spD K T (KS.sp_root K))
  G_raised : Gd P w K mg base "raised" ["one", "exponent"] 5 (spD K T (KR.sp_raised K))
  G_rational_text : Gd P w K mg base "rational_text" ["one"] 5 (spD K T KR.sp_rtext)
  G_divisors : Gd P w K mg base "divisors" ["number"] 4 (spD K T KV.sp_dv)
  G__law_roll : Gd P w K mg base "_law_roll" ["dice", "many"] 1 (spRoll K T)
  G__law_rounds : Gd P w K mg base "_law_rounds" ["script", "most"] 2 (spRounds K T)
  G__law_long : Gd P w K mg base "_law_long" ["dice", "size"] 8 (spTurn K T (KM.gLong 7))
  F_told : ∃ fd, FunD K "_law_told" "_law_told" (defArgs s__law_told) (defBody s__law_told) (defScope s__law_told) [] [] (He.ga K "_law_told") fd
  hm_told : mg "_law_told" = some (.ref (He.ga K "_law_told"))
structure Txt5 (K : Frg) (mg : Str → Option Value) : Prop where
  gNumberError : mg "NumberError" = some (.ref (He.ga K "NumberError"))
  m : PySem.W.exmOne K (.ref (He.ga K "NumberError")) (.ref (He.ga K "NumberError")) = some true
  n_abs : mg "abs" = none
  n_dict : mg "dict" = none
  n_int : mg "int" = none
  n_len : mg "len" = none
  n_list : mg "list" = none
  n_range : mg "range" = none
  n_sorted : mg "sorted" = none
  n_str : mg "str" = none
section
variable {C : Ct} {A A1 : AS} {tl : TA} {i n : Nat} {d d' : Dice} {v : V} {ws : List V}
/-- f(dice, ..), the rest of the arguments may turn the dice first -/
theorem e_turnA {E' : XK} {g : Dice → List V → V → Dice → Prop} (h1 : A.sl[i]? = some (.own n)) (hm : EvA C tl A (ws.map .v) A1) (h2 : A1.st[n]? = some (.lst d.ds)) (hg : g d ws v d') :
    EvS C (tCall (spTurn C.K C.T g) [] E' (tCons (tVar i) tl)) A (.v v) (A1.upO n d'.ds) := fun os σ H k Q q => by
  obtain ⟨o, f1, a, f2, f3⟩ := k.slot h1
  subst f2
  refine ⟨_, f1, hm os σ H k _ fun os1 vs H1 k1 g1 i1 => ?_⟩
  rw [flat_eq i1]
  have f3' := g1.p n _ f3
  obtain ⟨o3, s1, a3, us, s2, s3, s4⟩ := k1.store h2
  rw [f3'] at s1; cases s1; cases s2
  rw [vs_of s4] at s3
  refine ⟨a, d, ws, v, d', by rw [List.append_nil], s3, hg, k1.tb, fun H' e t ha => ?_⟩
  have hh : a ∈ hid C.O os1 := mem_hid.mpr (.inr (List.mem_of_getElem? f3'))
  have ku := k1.upO f3' h2 (ys := d'.ds) ds_of
  have ex : Ex (upd H1 a (.lst d'.vs)) H' := fun b o hb nt => by
    by_cases eb : b = a
    · subst eb
      rw [upd_same] at hb
      cases hb
      exact ha
    · rw [upd_ne eb] at hb
      exact e b o eb hb nt
  have kf := ku.mono ex t
  refine q os1 _ H' kf (g1.trans ⟨?_, fun b hb => ?_, fun _ _ h => h⟩) is_v
  · have := hd_mono (O := hid C.O os1) ex
    rw [show hd (hid C.O os1) (upd H1 a _) = Rh C.O os1 H1 from Rh_upd hh] at this
    exact this
  · obtain ⟨o, hb1, nt⟩ := k1.ol b hb
    have ne : b ≠ a := fun z => k1.dj b hb (by rw [z]; exact List.mem_of_getElem? f3')
    rw [hb1]
    exact e b o ne hb1 nt
end
theorem told_body : ∃ p1 p2 p3 p4 p5 p6 p7 p8 j, defBody s__law_told = [.Try [.Return (some (.Call (.Name "what" p1) [] [] p2)) p3] [.ExceptHandler (some (.Name "NumberError" p4)) none [.Return (some (.Constant (.str "NumberError") j p5)) p6] p7] [] [] p8] := ⟨_, _, _, _, _, _, _, _, _, rfl⟩
theorem told_look : (defScope s__law_told).names.lookup ("NumberError" : Str) = some .globalImplicit := by decide +kernel
theorem told_bind : ∀ (kV doc pm : Value) (an : Option Addr) (cdv ct : Value) (us : List Value), us.length = 1 → bindArgs (PySem.W.fnOf "_law_told" "_law_told" (defArgs s__law_told) (defBody s__law_told) (defScope s__law_told) .none kV doc pm an cdv ct) ⟨us, []⟩ = pure ((["what"] : List Str).zip us) := fun _ _ _ _ _ _ us hl => match us, hl with | [_], _ => rfl
theorem told_vis : Vis (defScope s__law_told) "what" := Or.inl rfl

theorem pe_toldN {X : Cx} {T : List (Addr × Str)} {CS : Addr} {f : Str} {k : Nat} {params : Arguments} {body : Expr} {scope : Scope} {t : XK → TE} {p lpos pos : Pos}
    (F : ∃ fd, FunD X.K "_law_told" "_law_told" (defArgs s__law_told) (defBody s__law_told) (defScope s__law_told) [] [] (He.ga X.K "_law_told") fd) (hm : X.mg "_law_told" = some (.ref (He.ga X.K "_law_told"))) (hme : X.mg "NumberError" = some (.ref CS))
    (LB : LamB X.K X.base X.mg T f) (hq : X.env.qual ++ "<lambda>" = lamQ f) (hcode : X.env.code = .ref (He.cT X.K (f, none)).1) (hr : Room (k + 2) X.A) (L : LamX.LamS X.env.scope scope) (hdef : defaultsOf params X.env = ([], []))
    (hbind : ∀ (q : Str) (cl : List (Str × Addr)) (pm cv ctv : Value), bindArgs (PySem.W.kla_fn "<lambda>" q params body scope cl pm cv ctv) ⟨[], []⟩ = pure [])
    (hbody : ∀ (A : Around) (outer : List Env) (s : Shared) (H : Hp) (E : XK) (f c' : Addr), Room k (A.deeper (LamX.lamEnv X scope s.heap.objs.size f c')) → PE (LamX.lamCx X A outer s H E scope f c') body (t E)) (hg : Gl X "_law_told" := by rfl) :
    PE X (.Call (.Name "_law_told" p) [.Lambda params body scope lpos] [] pos) (LamX.tLam T (LamX.TTold X.K CS "NumberError") t) := by
  obtain ⟨p1, p2, p3, p4, p5, p6, p7, p8, j, e⟩ := told_body
  exact pe_told F hm e sc__law_told told_vis told_look (by decide) hme told_bind LB hq hcode hr L hdef hbind hbody hg
end Law.KY
end

section
set_option Elab.async false
set_option linter.all false
set_option maxRecDepth 100000
set_option maxHeartbeats 4000000
set_option autoImplicit false
set_option exponentiation.threshold 300
namespace Law.KY
open PySem PySem.Spec PyProof.Rows L2 Py Mt

local macro_rules | `(tactic| wtm_at "op") => `(tactic| first
  | with_reducible exact o_I0 | with_reducible exact o_add | with_reducible exact o_eqI | with_reducible exact o_neI
  | ((with_reducible apply o_mul); first | assumption | wtm_at "si")
  | ((with_reducible apply o_I); first | assumption | wtm_at "si")
  | ((with_reducible apply o_ixT); rfl) | ((with_reducible apply o_ixL); rfl)
  | ((with_reducible apply o_eqD) <;> first | rfl | decide | assumption) | ((with_reducible apply o_neD) <;> first | rfl | decide | assumption)
  | with_reducible assumption)
local macro_rules | `(tactic| wtm_at "si") => `(tactic| first | decide | exact ⟨by decide, by decide +kernel⟩ | omega)
local macro_rules | `(tactic| wtm_at "ev") => `(tactic| first
  | ((with_reducible apply e_var); rfl) | with_reducible exact e_c | with_reducible exact a_nil
  | ((with_reducible apply a_cons) <;> wtm_at "ev")
  | ((with_reducible apply e_bin) <;> first | wtm_at "ev" | wtm_at "op")
  | ((with_reducible apply e_ixO) <;> first | rfl | wtm_at "ev")
  | ((with_reducible apply e_U) <;> wtm_at "ev")
  | ((with_reducible apply t_test) <;> wtm_at "ev")
  | ((with_reducible apply t_B) <;> wtm_at "ev")
  | ((with_reducible apply t_not) <;> wtm_at "ev")
  | ((with_reducible apply e_tup) <;> first | wtm_at "ev" | exact Nat.le_of_ble_eq_true rfl)
  | ((with_reducible apply e_lst) <;> first | wtm_at "ev" | exact Nat.le_of_ble_eq_true rfl)
  | ((with_reducible apply e_gcd) <;> wtm_at "ev")
  | ((with_reducible apply e_abs) <;> wtm_at "ev")
  | ((with_reducible apply e_max2) <;> wtm_at "ev")
  | ((with_reducible apply e_int) <;> wtm_at "ev")
  | ((with_reducible apply e_intB) <;> wtm_at "ev")
  | ((with_reducible apply e_bits) <;> wtm_at "ev")
  | ((with_reducible apply e_not) <;> wtm_at "ev")
  | with_reducible assumption)

variable {P : Program} {w : World} {K : Frg} {T : List (Addr × Str)} {mg : Str → Option Value} {base : Heap} {A0 : Around} {outer : List Env} {s0 : Shared} {H0 : Hp} {E : XK}

/-- the loop's body -/
abbrev LBd : List Stmt := bodyF ((defBody s_law).getD 0 (.Pass ⟨0, 0, 0, 0⟩))
/-- where the law's body is read -/
abbrev XL (P : Program) (w : World) (K : Frg) (mg : Str → Option Value) (base : Heap) (A0 : Around) (outer : List Env) (s0 : Shared) (H0 : Hp) (E : XK) : Cx := cxOf (L2.CX P w) P w K mg base NL "law" (defScope s_law) (He.ga K "law") (.ref (He.cT K ("law", none)).1) A0 outer s0 H0 E
/-- a turn's end: the script is still there -/
structure IL (S0 : SD) (A : AS) : Prop where
  ln : A.sl.length = 31
  h0 : A.sl[0]? = some S0
def PF (S0 : SD) : Po := { nx := IL S0, ct := IL S0, bk := IL S0 }
/-- and the dice -/
structure IA (S0 : SD) (A : AS) (d : Dice) (c : Nat) : Prop where
  ln : A.sl.length = 31
  h0 : A.sl[0]? = some S0
  h1 : A.sl[1]? = some (.own 0)
  st : A.st = [.lst d.ds]
  dk : DOk c d
theorem ex31 : ∀ l : List SD, l.length = 31 → ∃ v0 v1 v2 v3 v4 v5 v6 v7 v8 v9 v10 v11 v12 v13 v14 v15 v16 v17 v18 v19 v20 v21 v22 v23 v24 v25 v26 v27 v28 v29 v30, l = [v0, v1, v2, v3, v4, v5, v6, v7, v8, v9, v10, v11, v12, v13, v14, v15, v16, v17, v18, v19, v20, v21, v22, v23, v24, v25, v26, v27, v28, v29, v30]
  | [v0, v1, v2, v3, v4, v5, v6, v7, v8, v9, v10, v11, v12, v13, v14, v15, v16, v17, v18, v19, v20, v21, v22, v23, v24, v25, v26, v27, v28, v29, v30], _ => ⟨v0, v1, v2, v3, v4, v5, v6, v7, v8, v9, v10, v11, v12, v13, v14, v15, v16, v17, v18, v19, v20, v21, v22, v23, v24, v25, v26, v27, v28, v29, v30, rfl⟩
theorem ex_st {A : AS} {l : List SD} {m : List OD} (h : A.sl = l) (h' : A.st = m) : A = ⟨l, m⟩ := by
  cases A
  cases h
  cases h'
  rfl
theorem tg_lst {C : Ct} {A A1 : AS} {gs : TGs} {n : Nat} {xs : List Dt} (hl : xs.length = n) (h : TgA C gs xs A A1) : Tg C (gLst C.K n gs) (.lst xs) A A1 := fun os σ H v Q k i q => by
  rw [Is] at i
  obtain ⟨a, vs, rfl, h1, h2⟩ := i
  exact ⟨a, vs, rfl, hd_ex.l h1, by rw [isA_len h2, hl], h os σ H vs Q k h2 q⟩
theorem sz20 {m : Int} (h : m.natAbs < 2 ^ 20) : Sz 8000 m := Nat.lt_of_lt_of_le h (Nat.pow_le_pow_right (by decide) (by decide))
/-! ### the two numbers -/
def sizeOf (r : Int) : Int := if r = 0 then 12 else if r = 1 then 1000 else if r = 2 then 10 ^ 20 else 10 ^ 40
def signOf (r : Int) : Int := if r = 0 then 1 else -1
theorem sizes_at {r : Int} (h : 0 ≤ r ∧ r < 4) : atI [di 12, di 1000, di (10 ^ 20), di (10 ^ 40)] r = some (di (sizeOf r)) := by
  obtain ⟨h1, h2⟩ := h
  have : r = 0 ∨ r = 1 ∨ r = 2 ∨ r = 3 := by omega
  rcases this with rfl | rfl | rfl | rfl <;> rfl
theorem signs_at {r : Int} (h : 0 ≤ r ∧ r < 2) : atI [di 1, di (-1)] r = some (di (signOf r)) := by
  obtain ⟨h1, h2⟩ := h
  have : r = 0 ∨ r = 1 := by omega
  rcases this with rfl | rfl <;> rfl
theorem sizeOf_ok (r : Int) : 0 < sizeOf r ∧ sizeOf r ≤ 10 ^ 40 := by
  unfold sizeOf
  split
  · decide
  · split
    · decide
    · split
      · decide
      · decide
def dA (d : Dice) : Dice := rollD d 4
def lA (d : Dice) : Int × Dice := KM.long 7 (dA d) (sizeOf (rollV d 4))
def onD (d : Dice) : Dice := rollD (rollD (lA d).2 2) 9
def onV (d : Dice) : Int := ((lA d).1 + 1) * signOf (rollV (lA d).2 2) * (if decide ((0 : Int) < rollV (rollD (lA d).2 2) 9) = true then 1 else 0)
structure OnOk (d : Dice) (c : Nat) : Prop where
  a : DOk (c + 1) (dA d)
  l0 : 0 ≤ (lA d).1
  l1 : (lA d).1 < 10 ^ 40
  l : DOk (c + 8) (lA d).2
  m : DOk (c + 9) (rollD (lA d).2 2)
  e : DOk (c + 10) (onD d)
  z : Sz 140 (onV d)
theorem onOk {d : Dice} {c : Nat} (h : DOk c d) : OnOk d c := by
  obtain ⟨s1, s2⟩ := sizeOf_ok (rollV d 4)
  have a := roll_ok (m := 4) h (by decide)
  obtain ⟨l0, l1, l2⟩ := KM.long_ok (j := 7) (c := c + 1) (by decide) a s1 (Int.le_trans s2 (by decide))
  have m := roll_ok (m := 2) l2 (by decide)
  have e := roll_ok (m := 9) m (by decide)
  refine ⟨a, l0, Int.lt_of_lt_of_le l1 s2, l2, m, e, ?_⟩
  have l1' : (lA d).1 < 10 ^ 40 := Int.lt_of_lt_of_le l1 s2
  have l0' : 0 ≤ (lA d).1 := l0
  unfold onV Sz
  generalize (lA d).1 = x at *
  have h1 : (x + 1).natAbs ≤ 10 ^ 40 := by omega
  have h2 : (signOf (rollV (lA d).2 2)).natAbs = 1 := by unfold signOf; split <;> rfl
  have h3 : (if decide ((0 : Int) < rollV (rollD (lA d).2 2) 9) = true then (1 : Int) else 0).natAbs ≤ 1 := by split <;> decide
  rw [Int.natAbs_mul, Int.natAbs_mul, h2, Nat.mul_one]
  refine Nat.lt_of_le_of_lt (Nat.mul_le_mul h1 h3) (by decide)
def dn (d : Dice) : Nat → Dice
  | 0 => d
  | i + 1 => onD (dn d i)
def vn (d : Dice) : Nat → List Dt
  | 0 => []
  | i + 1 => vn d i ++ [di (onV (dn d i))]
theorem dn_ok {d : Dice} {c : Nat} (h : DOk c d) : ∀ i, DOk (c + 10 * i) (dn d i)
  | 0 => h
  | i + 1 => (onOk (dn_ok h i)).e
def s5 (v : SD) : Nat → SD
  | 0 => v
  | _ + 1 => .un

def Inv0 (S0 : SD) (A : AS) : Prop := ∃ d, IA S0 A d 0
def Inv2 (S0 : SD) (A : AS) : Prop := ∃ (d : Dice) (x y : Int), IA S0 A d 20 ∧ A.sl[3]? = some (.d (di x)) ∧ A.sl[4]? = some (.d (di y)) ∧ Sz 140 x ∧ Sz 140 y

theorem seg0 (Z : GS P w K T mg base) (Tx : Txt5 K mg) (LB : LamB K base mg T "law") (hr : Room 20 (XL P w K mg base A0 outer s0 H0 E).A)
    (next : ∃ t, PSs (XL P w K mg base A0 outer s0 H0 E) (LBd.drop 2) t ∧ ∀ S0 O A, Inv2 S0 A → RunS ⟨K, T, H0, O⟩ E t A (PF S0)) :
    ∃ t, PSs (XL P w K mg base A0 outer s0 H0 E) (LBd.drop 0) t ∧ ∀ S0 O A, Inv0 S0 A → RunS ⟨K, T, H0, O⟩ E t A (PF S0) := by
  obtain ⟨t', h', r0'⟩ := next
  have sc := sc_law
  refine ⟨_, (pss_cons (ps_set (i := 2) sc.nd rfl (Or.inr rfl) (pe_lst (pa_cons pe_int (pa_cons pe_int (pa_cons (pe_op op_pow pe_int pe_int) (pa_cons (pe_op op_pow pe_int pe_int) pa_nil))))))
  (pss_cons (ps_asg (pe_lc (own := [("k", 5)]) rfl sc.nd (pi_range1 rfl Tx.n_range (pa_cons pe_int pa_nil)) (blkOk_by (own := [("k", 5)]) (N := ["script", "dice", "sizes", "one", "other", "k", "divisor", "first", "second", "base", "exponent", "told_now", "small", "rows", "product", "prime", "many", "rests", "whole", "rest", "part", "fits", "number", "root", "below", "found", "a", "b", "times", "due", "turn"]) (sc := defScope s_law) (by decide +kernel)) (fun _ _ _ _ _ => (pg_name (i := 5) sc.nd rfl (Or.inl rfl))) (fun _ _ _ _ _ => pts_nil) (fun _ _ _ _ _ => (pe_op (op_mulAK (K := K) rfl) (pe_op (op_mulAK (K := K) rfl) (pe_op (op_addAK (K := K) rfl) (pe_callG Z.G__law_long (hr.mono (by decide)) passL (pa_cons (pv 1) (pa_cons (pe_ix (ix_seqK (K := K) rfl) (pv 2) (pe_callG Z.G__law_roll (hr.mono (by decide)) passL (pa_cons (pv 1) (pa_cons pe_int pa_nil))) (fun _ _ => rfl)) pa_nil))) pe_int) (pe_ix (ix_seqK (K := K) rfl) (pe_lst (pa_cons pe_int (pa_cons (pe_un un_neg pe_int) pa_nil))) (pe_callG Z.G__law_roll (hr.mono (by decide)) passL (pa_cons (pv 1) (pa_cons pe_int pa_nil))) (fun _ _ => rfl))) (pe_callTy call_int1 (by rfl) Tx.n_int (by decide +kernel) (pa_cons (pe_cmpR op_gt (pe_callG Z.G__law_roll (hr.mono (by decide)) passL (pa_cons (pv 1) (pa_cons pe_int pa_nil))) pe_int (nomark _)) pa_nil))))) (pg_lst rfl (pgs_cons (pg_name (i := 3) sc.nd rfl (Or.inr rfl)) (pgs_cons (pg_name (i := 4) sc.nd rfl (Or.inl rfl)) pgs_nil))))
  h')), fun S0 O A hA => ?_⟩
  have r' := r0' S0
  clear r0'
  clear sc hr h'
  try dsimp only [XL, cxOf]

  obtain ⟨d, ln, h0, h1, st, dk⟩ := hA
  obtain ⟨sl, st'⟩ := A
  obtain rfl : st' = _ := st
  obtain ⟨v0, v1, v2, v3, v4, v5, v6, v7, v8, v9, v10, v11, v12, v13, v14, v15, v16, v17, v18, v19, v20, v21, v22, v23, v24, v25, v26, v27, v28, v29, v30, rfl⟩ := ex31 sl ln
  obtain rfl : _ = v0 := (Option.some.inj h0).symm
  obtain rfl : _ = v1 := (Option.some.inj h1).symm
  have c20 : CPow 10 20 := ⟨by decide, by decide, by decide⟩
  have c40 : CPow 10 40 := ⟨by decide, by decide, by decide⟩
  refine r_seq (r_asg (d := .lst [di 12, di 1000, di (10 ^ 20), di (10 ^ 40)]) (e_lst (a_cons e_c (a_cons e_c (a_cons (e_is (e_bin e_c e_c (o_I c20)) rfl) (a_cons (e_is (e_bin e_c e_c (o_I c40)) rfl) a_nil)))) (by decide)) ?_)
  refine r_seq (r_tg (e_lcR (w_rng1 (n := 2) (a_cons e_c a_nil) (by decide)) (fun i => ⟨[S0, .own 0, .d (.lst [di 12, di 1000, di (10 ^ 20), di (10 ^ 40)]), v3, v4, s5 v5 i, v6, v7, v8, v9, v10, v11, v12, v13, v14, v15, v16, v17, v18, v19, v20, v21, v22, v23, v24, v25, v26, v27, v28, v29, v30], [.lst (dn d i).ds]⟩) (vn d) rfl rfl (fun i hi O' => ?_) (by decide)) (tg_lst rfl (tgA_cons tg_name (tgA_cons tg_name tgA_nil))) ?_)
  · have k := dn_ok dk i
    have h := onOk k
    have hc : 0 + 10 * i ≤ 1000 := by have : i < 2 := hi; omega
    refine ⟨_, true, _, tgS_name (by decide), t_yes, .inl ⟨rfl, di (onV (dn d i)), ⟨[S0, .own 0, .d (.lst [di 12, di 1000, di (10 ^ 20), di (10 ^ 40)]), v3, v4, .d (di (0 + i)), v6, v7, v8, v9, v10, v11, v12, v13, v14, v15, v16, v17, v18, v19, v20, v21, v22, v23, v24, v25, v26, v27, v28, v29, v30], [.lst (onD (dn d i)).ds]⟩, ?_, rfl, rfl⟩⟩
    have q4 := roll_lt (d := dn d i) (m := 4) (by decide)
    have q2 := roll_lt (d := (lA (dn d i)).2) (m := 2) (by decide)
    obtain ⟨z1, z2⟩ := sizeOf_ok (rollV (dn d i) 4)
    have hl := h.l1
    have hl0 := h.l0
    have m1 : PMul ((lA (dn d i)).1 + 1) (signOf (rollV (lA (dn d i)).2 2)) := mulX 200 2 (by show ((lA (dn d i)).1 + 1).natAbs < 2 ^ 200; generalize (lA (dn d i)).1 = x at *; have : (10 : Int) ^ 40 < 2 ^ 200 := (by decide); omega) (by unfold signOf; split <;> decide)
    have m2 : PMul (((lA (dn d i)).1 + 1) * signOf (rollV (lA (dn d i)).2 2)) (if decide ((0 : Int) < rollV (rollD (lA (dn d i)).2 2) 9) = true then 1 else 0) := mulX 200 2 (by
      show (((lA (dn d i)).1 + 1) * signOf (rollV (lA (dn d i)).2 2)).natAbs < 2 ^ 200
      have h2 : (signOf (rollV (lA (dn d i)).2 2)).natAbs = 1 := by unfold signOf; split <;> rfl
      rw [Int.natAbs_mul, h2]
      generalize (lA (dn d i)).1 = x at *
      have : (10 : Int) ^ 40 < 2 ^ 200 := by decide
      omega) (by split <;> decide)
    refine e_bin (e_bin (e_bin (e_turnA (n := 0) (d := dA (dn d i)) (ws := [.int (sizeOf (rollV (dn d i) 4))]) (v := .int (lA (dn d i)).1) (d' := (lA (dn d i)).2) rfl (a_cons (e_bin (e_var rfl) (e_roll (n := 0) rfl rfl e_c k (by omega) (by decide) (sz20 (by decide))) (o_ixL (sizes_at q4))) a_nil) rfl ⟨_, _, rfl, by decide, by decide, h.a, by omega, z1, Int.le_trans z2 (by decide), rfl, rfl⟩) e_c o_add) (e_bin (e_lst (a_cons e_c (a_cons (e_U e_c) a_nil)) (by decide)) (e_roll (n := 0) (d := (lA (dn d i)).2) rfl rfl e_c h.l (by omega) (by decide) (sz20 (by decide))) (o_ixL (signs_at q2))) (o_mul m1)) (e_intB (b := decide ((0 : Int) < rollV (rollD (lA (dn d i)).2 2) 9)) (e_bin (e_roll (n := 0) (d := rollD (lA (dn d i)).2 2) rfl rfl e_c h.m (by omega) (by decide) (sz20 (by decide))) e_c o_I0)) (o_mul m2)
  · exact r' O _ ⟨dn d 2, onV (dn d 0), onV (dn d 1), ⟨rfl, rfl, rfl, rfl, dn_ok dk 2⟩, rfl, rfl, (onOk (dn_ok dk 0)).z, (onOk (dn_ok dk 1)).z⟩

end Law.KY
end

section
set_option Elab.async false
set_option linter.all false
set_option maxRecDepth 100000
set_option maxHeartbeats 4000000
set_option autoImplicit false
set_option exponentiation.threshold 300
namespace Law.KY
open PySem PySem.Spec PyProof.Rows L2 Py Mt

local macro_rules | `(tactic| wtm_at "op") => `(tactic| first
  | with_reducible exact o_I0 | with_reducible exact o_add | with_reducible exact o_eqI | with_reducible exact o_neI
  | ((with_reducible apply o_mul); first | assumption | wtm_at "si")
  | ((with_reducible apply o_I); first | assumption | wtm_at "si")
  | ((with_reducible apply o_ixT); rfl) | ((with_reducible apply o_ixL); rfl)
  | ((with_reducible apply o_eqD) <;> first | rfl | decide | assumption) | ((with_reducible apply o_neD) <;> first | rfl | decide | assumption)
  | with_reducible assumption)
local macro_rules | `(tactic| wtm_at "si") => `(tactic| first | decide | exact ⟨by decide, by decide +kernel⟩ | omega)
local macro_rules | `(tactic| wtm_at "ev") => `(tactic| first
  | ((with_reducible apply e_var); rfl) | with_reducible exact e_c | with_reducible exact a_nil
  | ((with_reducible apply a_cons) <;> wtm_at "ev")
  | ((with_reducible apply e_bin) <;> first | wtm_at "ev" | wtm_at "op")
  | ((with_reducible apply e_ixO) <;> first | rfl | wtm_at "ev")
  | ((with_reducible apply e_U) <;> wtm_at "ev")
  | ((with_reducible apply t_test) <;> wtm_at "ev")
  | ((with_reducible apply t_B) <;> wtm_at "ev")
  | ((with_reducible apply t_not) <;> wtm_at "ev")
  | ((with_reducible apply e_tup) <;> first | wtm_at "ev" | exact Nat.le_of_ble_eq_true rfl)
  | ((with_reducible apply e_lst) <;> first | wtm_at "ev" | exact Nat.le_of_ble_eq_true rfl)
  | ((with_reducible apply e_gcd) <;> wtm_at "ev")
  | ((with_reducible apply e_abs) <;> wtm_at "ev")
  | ((with_reducible apply e_max2) <;> wtm_at "ev")
  | ((with_reducible apply e_int) <;> wtm_at "ev")
  | ((with_reducible apply e_intB) <;> wtm_at "ev")
  | ((with_reducible apply e_bits) <;> wtm_at "ev")
  | ((with_reducible apply e_not) <;> wtm_at "ev")
  | with_reducible assumption)

variable {P : Program} {w : World} {K : Frg} {T : List (Addr × Str)} {mg : Str → Option Value} {base : Heap} {A0 : Around} {outer : List Env} {s0 : Shared} {H0 : Hp} {E : XK}

def Inv4 (S0 : SD) (A : AS) : Prop := ∃ (d : Dice) (x : Int), IA S0 A d 20 ∧ A.sl[3]? = some (.d (di x)) ∧ Sz 140 x
theorem szUp {n m : Nat} {x : Int} (h : Sz n x) (hm : n ≤ m) : Sz m x := Nat.lt_of_lt_of_le h (Nat.pow_le_pow_right (by decide) hm)

theorem bez_sizes {x y : Int} {n : Nat} (h0 : 0 < n) (hx : x.natAbs < 2 ^ n) (hy : y.natAbs < 2 ^ n) : (bez x y).2.1.natAbs < 2 ^ n ∧ (bez x y).2.2.natAbs < 2 ^ (2 * n + 1) := by
  have z := (BR.start (x := x) (y := y)).go.sizes h0 hx hy
  have za := z.a
  have zb := z.b
  unfold bez
  dsimp only
  split
  · dsimp only
    exact ⟨by rw [Int.natAbs_neg]; exact za, by rw [Int.natAbs_neg]; exact zb⟩
  · exact ⟨za, zb⟩
theorem pw_le {x : Int} {a : Nat} (h : x.natAbs < 2 ^ a) (n : Nat) : (x ^ n).natAbs ≤ 2 ^ (a * n) := by
  rw [Int.natAbs_pow, Nat.pow_mul]
  exact Nat.pow_le_pow_left (Nat.le_of_lt h) n
theorem pw_sz {x : Int} {a n c : Nat} (h : x.natAbs < 2 ^ a) (hn : a * n < c) : Sz c (x ^ n) := Nat.lt_of_le_of_lt (pw_le h n) (Nat.pow_lt_pow_right (by decide) hn)
/-- told: the inverse, or the error -/
def toldI (x b : Int) : Dt := if (bez x b).1 = 1 then di ((bez x b).2.1.fmod b) else ds "NumberError"
theorem inv_ok {x b : Int} (hb : 2 ≤ b) (h : (bez x b).1 = 1) : (x * (bez x b).2.1.fmod b - 1).fmod b = 0 := by
  obtain ⟨e, _⟩ := bez_eq x b
  rw [h] at e
  generalize (bez x b).2.1 = a at *
  generalize (bez x b).2.2 = c at *
  rw [Int.fmod_eq_emod_of_nonneg _ (by omega), Int.fmod_eq_emod_of_nonneg _ (by omega)]
  have e3 := Int.emod_add_mul_ediv a b
  have e2 : x * (a % b) - 1 = b * (-c - x * (a / b)) := by grind
  rw [e2, Int.mul_emod_right]
def Inv8 (S0 : SD) (A : AS) : Prop := ∃ (d : Dice) (x : Int), IA S0 A d 22 ∧ A.sl[3]? = some (.d (di x)) ∧ Sz 140 x

theorem seg2 (Z : GS P w K T mg base) (Tx : Txt5 K mg) (LB : LamB K base mg T "law") (hr : Room 20 (XL P w K mg base A0 outer s0 H0 E).A)
    (next : ∃ t, PSs (XL P w K mg base A0 outer s0 H0 E) (LBd.drop 4) t ∧ ∀ S0 O A, Inv4 S0 A → RunS ⟨K, T, H0, O⟩ E t A (PF S0)) :
    ∃ t, PSs (XL P w K mg base A0 outer s0 H0 E) (LBd.drop 2) t ∧ ∀ S0 O A, Inv2 S0 A → RunS ⟨K, T, H0, O⟩ E t A (PF S0) := by
  obtain ⟨t', h', r0'⟩ := next
  have sc := sc_law
  refine ⟨_, (pss_cons (ps_asg (pe_callG Z.G_bezout (hr.mono (by decide)) psE (pa_cons (pv 3) (pa_cons (pv 4) pa_nil))) (pg_tup rfl (pgs_cons (pg_name (i := 6) sc.nd rfl (Or.inl rfl)) (pgs_cons (pg_name (i := 7) sc.nd rfl (Or.inl rfl)) (pgs_cons (pg_name (i := 8) sc.nd rfl (Or.inl rfl)) pgs_nil)))))
  (pss_cons (ps_if (PW.pt (pw_or (pt_cmpR (op_neA hr.units) (pv 6) (pe_callG Z.G__law_gcd (hr.mono (by decide)) psE (pa_cons (pv 3) (pa_cons (pv 4) pa_nil))) (nomark _)) (pw_or (pt_cmpR (op_neA hr.units) (pe_callG Z.G_common_divisor (hr.mono (by decide)) psE (pa_cons (pv 3) (pa_cons (pv 4) pa_nil))) (pv 6) (nomark _)) (pw_or1 (pt_cmpR (op_neA hr.units) (pe_op op_addA (pe_op op_mulA (pv 3) (pv 7)) (pe_op op_mulA (pv 4) (pv 8))) (pv 6) (nomark _)))))) (pss_one (ps_ret pe_bl)) pss_nil)
  h')), fun S0 O A hA => ?_⟩
  have r' := r0' S0
  clear r0'
  clear sc hr h'
  try dsimp only [XL, cxOf]

  obtain ⟨d, x, y, ⟨ln, h0, h1, st, dk⟩, h3, h4, hx, hy⟩ := hA
  obtain ⟨sl, st'⟩ := A
  obtain rfl : st' = _ := st
  obtain ⟨v0, v1, v2, v3, v4, v5, v6, v7, v8, v9, v10, v11, v12, v13, v14, v15, v16, v17, v18, v19, v20, v21, v22, v23, v24, v25, v26, v27, v28, v29, v30, rfl⟩ := ex31 sl ln
  obtain rfl : _ = v0 := (Option.some.inj h0).symm
  obtain rfl : _ = v1 := (Option.some.inj h1).symm
  obtain rfl : _ = v3 := (Option.some.inj h3).symm
  obtain rfl : _ = v4 := (Option.some.inj h4).symm
  clear ln
  obtain ⟨b1, b2⟩ := bez_eq x y
  refine r_seq (r_tg (e_call (a_cons (e_var rfl) (a_cons (e_var rfl) a_nil)) ⟨x, y, rfl, szUp hx (by decide), szUp hy (by decide), rfl⟩) (tg_tup rfl (tgA_cons tg_name (tgA_cons tg_name (tgA_cons tg_name tgA_nil)))) ?_)
  obtain ⟨z1, z2⟩ := bez_sizes (n := 140) (by decide) hx hy
  have ma : PMul x (bez x y).2.1 := mulX 140 140 hx z1
  have mb : PMul y (bez x y).2.2 := mulX 140 281 hy z2
  refine r_seq (r_ifFs (t_orF (t_is (t_test (e_bin (e_var rfl) (e_call (a_cons (e_var rfl) (a_cons (e_var rfl) a_nil)) ⟨x, y, rfl, szUp hx (by decide), szUp hy (by decide), rfl⟩) o_neI)) (by simp [b2])) (t_orF (t_is (t_test (e_bin (e_call (a_cons (e_var rfl) (a_cons (e_var rfl) a_nil)) ⟨x, y, rfl, rfl⟩) (e_var rfl) o_neI)) (by simp [b2])) (t_is (t_test (e_bin (e_bin (e_bin (e_var rfl) (e_var rfl) (o_mul ma)) (e_bin (e_var rfl) (e_var rfl) (o_mul mb)) o_add) (e_var rfl) o_neI)) (by simp [b1])))) (r_next ?_))
  exact r' O _ ⟨d, x, ⟨rfl, rfl, rfl, rfl, dk⟩, rfl, hx⟩

theorem seg4 (Z : GS P w K T mg base) (Tx : Txt5 K mg) (LB : LamB K base mg T "law") (hr : Room 20 (XL P w K mg base A0 outer s0 H0 E).A)
    (next : ∃ t, PSs (XL P w K mg base A0 outer s0 H0 E) (LBd.drop 8) t ∧ ∀ S0 O A, Inv8 S0 A → RunS ⟨K, T, H0, O⟩ E t A (PF S0)) :
    ∃ t, PSs (XL P w K mg base A0 outer s0 H0 E) (LBd.drop 4) t ∧ ∀ S0 O A, Inv4 S0 A → RunS ⟨K, T, H0, O⟩ E t A (PF S0) := by
  obtain ⟨t', h', r0'⟩ := next
  have sc := sc_law
  refine ⟨_, (pss_cons (ps_asg (pe_tup (pa_cons (pe_op op_addA pe_int (pe_callG Z.G__law_roll (hr.mono (by decide)) psE (pa_cons (pv 1) (pa_cons pe_int pa_nil)))) (pa_cons (pe_callG Z.G__law_roll (hr.mono (by decide)) psE (pa_cons (pv 1) (pa_cons pe_int pa_nil))) pa_nil))) (pg_tup rfl (pgs_cons (pg_name (i := 9) sc.nd rfl (Or.inr rfl)) (pgs_cons (pg_name (i := 10) sc.nd rfl (Or.inl rfl)) pgs_nil))))
  (pss_cons (ps_set (i := 11) sc.nd rfl (Or.inl rfl) (pe_toldN (f := "law") (k := 10) Z.F_told Z.hm_told Tx.gNumberError LB rfl rfl (hr.mono (by decide)) (show LamX.LamS (defScope s_law) _ from LamX.lamS_by (by decide +kernel)) rfl (fun _ _ _ _ _ => rfl) (fun A outer s H E f c' hr => (pe_callG Z.G_inverse (hr.mono (by decide)) psF (pa_cons (pv 3) (pa_cons (pv 9) pa_nil))))))
  (pss_cons (ps_if (PW.pt (pw_or (pt_cmpR (op_neA hr.units) (pe_cmpR (op_eqA hr.units) (pv 11) pe_str (nomark _)) (pe_cmpR (op_neA hr.units) (pe_callG Z.G__law_gcd (hr.mono (by decide)) psE (pa_cons (pv 3) (pa_cons (pv 9) pa_nil))) pe_int (nomark _)) (nomark _)) (pw_or1 (PW.pt (pw_and (pt_cmpR (op_neA hr.units) (pv 11) pe_str (nomark _)) (pw_and1 (pt_cmpR (op_neA hr.units) (pe_op op_modN (pe_op op_sub (pe_op op_mulA (pv 3) (pv 11)) pe_int) (pv 9)) pe_int (nomark _)))))))) (pss_one (ps_ret pe_bl)) pss_nil)
  (pss_cons (ps_if (PW.pt (pw_or (pt_cmpR (op_neA hr.units) (pe_callG Z.G_power (hr.mono (by decide)) psE (pa_cons (pv 9) (pa_cons (pe_op op_addA (pv 10) pe_int) pa_nil))) (pe_op op_mulA (pv 9) (pe_callG Z.G_power (hr.mono (by decide)) psE (pa_cons (pv 9) (pa_cons (pv 10) pa_nil)))) (nomark _)) (pw_or (pt_cmpR (op_neA hr.units) (pe_callG Z.G_power (hr.mono (by decide)) psE (pa_cons (pv 9) (pa_cons pe_int pa_nil))) pe_int (nomark _)) (pw_or1 (pt_cmpR (op_neA hr.units) (pe_callG Z.G_power_by (hr.mono (by decide)) psE (pa_cons (pv 3) (pa_cons (pv 10) (pa_cons (pv 9) pa_nil)))) (pe_op op_modN (pe_callG Z.G_power (hr.mono (by decide)) psE (pa_cons (pv 3) (pa_cons (pv 10) pa_nil))) (pv 9)) (nomark _)))))) (pss_one (ps_ret pe_bl)) pss_nil)
  h')))), fun S0 O A hA => ?_⟩
  have r' := r0' S0
  clear r0'
  clear sc hr h'
  try dsimp only [XL, cxOf]

  obtain ⟨d, x, ⟨ln, h0, h1, st, dk⟩, h3, hx⟩ := hA
  obtain ⟨sl, st'⟩ := A
  obtain rfl : st' = _ := st
  obtain ⟨v0, v1, v2, v3, v4, v5, v6, v7, v8, v9, v10, v11, v12, v13, v14, v15, v16, v17, v18, v19, v20, v21, v22, v23, v24, v25, v26, v27, v28, v29, v30, rfl⟩ := ex31 sl ln
  obtain rfl : _ = v0 := (Option.some.inj h0).symm
  obtain rfl : _ = v1 := (Option.some.inj h1).symm
  obtain rfl : _ = v3 := (Option.some.inj h3).symm
  clear ln
  have d1 := roll_ok (m := 200) dk (by decide)
  have d2 := roll_ok (m := 30) d1 (by decide)
  have q1 := roll_lt (d := d) (m := 200) (by decide)
  have q2 := roll_lt (d := rollD d 200) (m := 30) (by decide)
  refine r_seq (r_tg (e_tup (a_cons (e_bin e_c (e_roll (n := 0) rfl rfl e_c dk (by decide) (by decide) (sz20 (by decide))) o_add) (a_cons (e_roll (n := 0) (d := rollD d 200) rfl rfl e_c d1 (by decide) (by decide) (sz20 (by decide))) a_nil)) (Nat.le_of_ble_eq_true rfl)) (tg_tup rfl (tgA_cons tg_name (tgA_cons tg_name tgA_nil))) ?_)
  generalize hd2 : rollD (rollD d 200) 30 = d' at *
  generalize rollV d 200 = rb at *
  generalize rollV (rollD d 200) 30 = e at *
  obtain ⟨b, hb⟩ : ∃ b, b = 2 + rb := ⟨_, rfl⟩
  rw [← hb]
  have b2 : 2 ≤ b := by omega
  have b3 : b ≤ 201 := by omega
  have bz : Sz 10 b := (by show b.natAbs < 2 ^ 10; omega)
  obtain ⟨n, rfl⟩ : ∃ n : Nat, e = n := ⟨e.toNat, by omega⟩
  have n30 : n < 30 := by omega
  clear hb q1 q2 hd2 d1
  obtain ⟨e1, e2⟩ := bez_eq x b
  have hI : ∀ {A : AS}, A.sl[3]? = some (.d (di x)) → A.sl[9]? = some (.d (di b)) → EvS ⟨K, T, H0, O⟩ (LamX.tLam T (LamX.TTold K (NE K) "NumberError") fun E' => tCall (spD K T (KA.sp_inv K)) [] E' (tCons (tVar 3) (tCons (tVar 9) tNil))) A (toldI x b) A := fun h3 h9 => by
    unfold toldI
    by_cases hg : (bez x b).1 = 1
    · rw [if_pos hg]
      refine e_toldOk (C := ⟨K, T, H0, O⟩) fun E' => e_call (C := ⟨K, T, H0, O⟩) (a_cons (e_var h3) (a_cons (e_var h9) a_nil)) ⟨x, b, rfl, szUp hx (by decide), szUp bz (by decide), ?_⟩
      unfold KA.invR
      rw [if_neg (by omega), if_neg (by simpa using hg)]
    · rw [if_neg hg]
      refine e_toldErr (C := ⟨K, T, H0, O⟩) Tx.m fun E' => x_call (C := ⟨K, T, H0, O⟩) (a_cons (e_var h3) (a_cons (e_var h9) a_nil)) ⟨x, b, rfl, szUp hx (by decide), szUp bz (by decide), ?_⟩
      unfold KA.invR
      rw [if_neg (by omega), if_pos hg]
  refine r_seq (r_asg (hI rfl rfl) ?_)
  clear hI
  have gc : ∀ {A : AS}, A.sl[3]? = some (.d (di x)) → A.sl[9]? = some (.d (di b)) → EvS ⟨K, T, H0, O⟩ (tCall (spD K T KC.sp_lgcd) [] E (tCons (tVar 3) (tCons (tVar 9) tNil))) A (di (Int.gcd x b)) A := fun h3 h9 => e_call (C := ⟨K, T, H0, O⟩) (a_cons (e_var h3) (a_cons (e_var h9) a_nil)) ⟨x, b, rfl, szUp hx (by decide), szUp bz (by decide), rfl⟩
  have go : ∀ {A : AS} {P : Po} {t u : TS} {tt : TT}, EvT ⟨K, T, H0, O⟩ tt A false A → RunS ⟨K, T, H0, O⟩ E u A P → RunS ⟨K, T, H0, O⟩ E (tIfS tt t u) A P := fun h h' => r_ifFs h h'
  refine r_seq (go ?_ (r_next ?_))
  · unfold toldI
    by_cases hg : (bez x b).1 = 1
    · rw [if_pos hg]
      have g1 : (Int.gcd x b : Int) = 1 := by omega
      have iz : ((bez x b).2.1.fmod b).natAbs < 2 ^ 10 := by
        have h1 := Int.fmod_nonneg_of_pos (bez x b).2.1 (show 0 < b by omega)
        have h2 := Int.fmod_lt_of_pos (bez x b).2.1 (show 0 < b by omega)
        omega
      have mm : PMul x ((bez x b).2.1.fmod b) := mulX 140 10 hx iz
      have b0 : b ≠ 0 := by omega
      exact t_orF (t_is (t_test (e_bin (e_bin (e_var rfl) e_c (o_eq rfl)) (e_bin (gc rfl rfl) e_c o_neI) (o_ne rfl))) (by simp [g1])) (t_andT (t_is (t_test (e_bin (e_var rfl) e_c (o_ne rfl))) (by simp)) (t_is (t_test (e_bin (e_bin (e_bin (e_bin (e_var rfl) (e_var rfl) (o_mul mm)) e_c o_I0) (e_var rfl) (o_I b0)) e_c o_neI)) (by simp [inv_ok b2 hg])))
    · rw [if_neg hg]
      have g1 : ¬ (Int.gcd x b : Int) = 1 := by omega
      exact t_orF (t_is (t_test (e_bin (e_bin (e_var rfl) e_c (o_eq rfl)) (e_bin (gc rfl rfl) e_c o_neI) (o_ne rfl))) (by simp [g1])) (t_andF (t_is (t_test (e_bin (e_var rfl) e_c (o_ne rfl))) (by simp)))
  · have e1 : (n : Int) + 1 = ((n + 1 : Nat) : Int) := by omega
    have pz : ∀ m : Nat, m ≤ 30 → Sz 400 (b ^ m) := fun m hm => pw_sz (a := 8) (by omega) (by omega)
    have xz : Sz 4400 (x ^ n) := pw_sz hx (by omega)
    have bz' : Sz 20000000 b := szUp bz (by decide)
    have mm : PMul b (b ^ n) := mulX 10 400 bz (pz n (by omega))
    have b0 : b ≠ 0 := by omega
    have ep : b ^ (n + 1) = b * b ^ n := by rw [Int.pow_succ, Int.mul_comm]
    have pb : KB.powByR K x (n : Int) b = .ok (di (x ^ n % b)) := by
      unfold KB.powByR
      rw [if_neg (by omega), Int.toNat_natCast]
    have em : (x ^ n).fmod b = x ^ n % b := Int.fmod_eq_emod_of_nonneg _ (by omega)
    refine r_seq (go (t_orF (t_is (t_test (e_bin (e_call (a_cons (e_var rfl) (a_cons (e_is (e_bin (e_var rfl) e_c o_add) (congrArg di e1)) a_nil)) ⟨b, n + 1, rfl, szUp (pz (n + 1) (by omega)) (by decide), bz', rfl⟩) (e_bin (e_var rfl) (e_call (a_cons (e_var rfl) (a_cons (e_var rfl) a_nil)) ⟨b, n, rfl, szUp (pz n (by omega)) (by decide), bz', rfl⟩) (o_mul mm)) o_neI)) (by simp [ep])) (t_orF (t_is (t_test (e_bin (e_call (a_cons (e_var rfl) (a_cons e_c a_nil)) ⟨b, 0, rfl, szUp (pz 0 (by omega)) (by decide), bz', rfl⟩) e_c o_neI)) (by simp)) (t_is (t_test (e_bin (e_call (a_cons (e_var rfl) (a_cons (e_var rfl) (a_cons (e_var rfl) a_nil))) ⟨x, n, b, rfl, szUp bz (by decide), pb.symm⟩) (e_bin (e_call (a_cons (e_var rfl) (a_cons (e_var rfl) a_nil)) ⟨x, n, rfl, szUp xz (by decide), szUp hx (by decide), rfl⟩) (e_var rfl) (o_I b0)) o_neI)) (by simp [em])))) (r_next ?_))
    exact r' O _ ⟨d', x, ⟨rfl, rfl, rfl, rfl, d2⟩, rfl, hx⟩

end Law.KY
end

section
set_option Elab.async false
set_option linter.all false
set_option maxRecDepth 100000
set_option maxHeartbeats 4000000
set_option autoImplicit false
set_option exponentiation.threshold 300
namespace Law.KY
open PySem PySem.Spec PyProof.Rows L2 Py Mt KF

local macro_rules | `(tactic| wtm_at "op") => `(tactic| first
  | with_reducible exact o_I0 | with_reducible exact o_add | with_reducible exact o_eqI | with_reducible exact o_neI
  | ((with_reducible apply o_mul); first | assumption | wtm_at "si")
  | ((with_reducible apply o_I); first | assumption | wtm_at "si")
  | ((with_reducible apply o_ixT); rfl) | ((with_reducible apply o_ixL); rfl)
  | ((with_reducible apply o_eqD) <;> first | rfl | decide | assumption) | ((with_reducible apply o_neD) <;> first | rfl | decide | assumption)
  | with_reducible assumption)
local macro_rules | `(tactic| wtm_at "si") => `(tactic| first | decide | exact ⟨by decide, by decide +kernel⟩ | omega)
local macro_rules | `(tactic| wtm_at "ev") => `(tactic| first
  | ((with_reducible apply e_var); rfl) | with_reducible exact e_c | with_reducible exact a_nil
  | ((with_reducible apply a_cons) <;> wtm_at "ev")
  | ((with_reducible apply e_bin) <;> first | wtm_at "ev" | wtm_at "op")
  | ((with_reducible apply e_ixO) <;> first | rfl | wtm_at "ev")
  | ((with_reducible apply e_U) <;> wtm_at "ev")
  | ((with_reducible apply t_test) <;> wtm_at "ev")
  | ((with_reducible apply t_B) <;> wtm_at "ev")
  | ((with_reducible apply t_not) <;> wtm_at "ev")
  | ((with_reducible apply e_tup) <;> first | wtm_at "ev" | exact Nat.le_of_ble_eq_true rfl)
  | ((with_reducible apply e_lst) <;> first | wtm_at "ev" | exact Nat.le_of_ble_eq_true rfl)
  | ((with_reducible apply e_gcd) <;> wtm_at "ev")
  | ((with_reducible apply e_abs) <;> wtm_at "ev")
  | ((with_reducible apply e_max2) <;> wtm_at "ev")
  | ((with_reducible apply e_int) <;> wtm_at "ev")
  | ((with_reducible apply e_intB) <;> wtm_at "ev")
  | ((with_reducible apply e_bits) <;> wtm_at "ev")
  | ((with_reducible apply e_not) <;> wtm_at "ev")
  | with_reducible assumption)

variable {P : Program} {w : World} {K : Frg} {T : List (Addr × Str)} {mg : Str → Option Value} {base : Heap} {A0 : Around} {outer : List Env} {s0 : Shared} {H0 : Hp} {E : XK}

abbrev pI (q : Row) : Int × Int := ((q.1 : Int), (q.2 : Int))
theorem row_pI (rs : List Row) : rs.map row = (rs.map pI).map fr := by rw [List.map_map]; rfl
theorem prodN_next {rs : List Row} {i : Nat} {q : Row} (h : rs[i]? = some q) : prodN (rs.take (i + 1)) = prodN (rs.take i) * q.1 ^ q.2 := by
  unfold prodN
  rw [List.take_add_one, h, List.foldl_append]
  rfl
theorem nice_fr (p : Int × Int) : Nice 1 (fr p) (.tuple [.int p.1, .int p.2]) := .tup (.cons .int (.cons .int .nil))
theorem nice_frs (ps : List (Int × Int)) : Nice 2 (.lst (ps.map fr)) (.list (ps.map fun p => .tuple [.int p.1, .int p.2])) := .lst (niceA_map nice_fr ps)
def Inv13 (S0 : SD) (A : AS) : Prop := ∃ (d : Dice) (x : Int) (n : Nat), IA S0 A d 23 ∧ A.sl[3]? = some (.d (di x)) ∧ Sz 140 x ∧ A.sl[12]? = some (.d (di (n : Int))) ∧ 1 ≤ n ∧ n ≤ 5000

theorem seg8 (Z : GS P w K T mg base) (Tx : Txt5 K mg) (LB : LamB K base mg T "law") (hr : Room 20 (XL P w K mg base A0 outer s0 H0 E).A)
    (next : ∃ t, PSs (XL P w K mg base A0 outer s0 H0 E) (LBd.drop 13) t ∧ ∀ S0 O A, Inv13 S0 A → RunS ⟨K, T, H0, O⟩ E t A (PF S0)) :
    ∃ t, PSs (XL P w K mg base A0 outer s0 H0 E) (LBd.drop 8) t ∧ ∀ S0 O A, Inv8 S0 A → RunS ⟨K, T, H0, O⟩ E t A (PF S0) := by
  obtain ⟨t', h', r0'⟩ := next
  have sc := sc_law
  refine ⟨_, (pss_cons (ps_set (i := 12) sc.nd rfl (Or.inr rfl) (pe_op op_addA pe_int (pe_callG Z.G__law_roll (hr.mono (by decide)) psE (pa_cons (pv 1) (pa_cons pe_int pa_nil)))))
  (pss_cons (ps_set (i := 13) sc.nd rfl (Or.inl rfl) (pe_callG Z.G_prime_factors (hr.mono (by decide)) psE (pa_cons (pv 12) pa_nil)))
  (pss_cons (ps_set (i := 14) sc.nd rfl (Or.inl rfl) pe_int)
  (pss_cons (ps_for (passesE) rfl (pi_tup (pv 13)) (pg_tup rfl (pgs_cons (pg_name (i := 15) sc.nd rfl (Or.inl rfl)) (pgs_cons (pg_name (i := 16) sc.nd rfl (Or.inl rfl)) pgs_nil))) (pss_one (ps_set (i := 14) sc.nd rfl (Or.inl rfl) (pe_op op_mulA (pv 14) (pe_callG Z.G_power (hr.mono (by decide)) psE (pa_cons (pv 15) (pa_cons (pv 16) pa_nil)))))))
  (pss_cons (ps_if (PW.pt (pw_or (pt_cmpR (op_neA hr.units) (pv 14) (pv 12) (nomark _)) (pw_or (pt_cmpR (op_neA hr.units) (pe_lc (own := [("prime", 15), ("many", 16)]) rfl sc.nd (pi_tup (pv 13)) (blkOk_by (own := [("prime", 15), ("many", 16)]) (N := ["script", "dice", "sizes", "one", "other", "k", "divisor", "first", "second", "base", "exponent", "told_now", "small", "rows", "product", "prime", "many", "rests", "whole", "rest", "part", "fits", "number", "root", "below", "found", "a", "b", "times", "due", "turn"]) (sc := defScope s_law) (by decide +kernel)) (fun _ _ _ _ _ => (pg_tupK (K := K) (n := 2) rfl rfl (pgs_cons (pg_name (i := 15) sc.nd rfl (Or.inl rfl)) (pgs_cons (pg_name (i := 16) sc.nd rfl (Or.inl rfl)) pgs_nil)))) (fun _ _ _ _ _ => (pts_one (PW.pt (pw_or (pt_not (pt_val (pe_callG Z.G__law_prime (hr.mono (by decide)) passL (pa_cons (pv 15) pa_nil)))) (pw_or1 (pt_cmpR op_lt (pv 16) pe_int (nomark _))))))) (fun _ _ _ _ _ => pe_int)) (pe_lst pa_nil) (nomark _)) (pw_or (pt_cmpR (op_neA hr.units) (pe_callTy call_list_of (by rfl) Tx.n_list (by decide +kernel) (pa_cons (pv 13) pa_nil)) (pe_callB cr_sortQ (by rfl) Tx.n_sorted (by decide +kernel) (pa_cons (pv 13) pa_nil)) (nomark _)) (pw_or1 (pt_cmpR (op_neA hr.units) (pe_callB call_lenD (by rfl) Tx.n_len (by decide +kernel) (pa_cons (pe_callTy (call_dictZ rfl) (by rfl) Tx.n_dict (by decide +kernel) (pa_cons (pv 13) pa_nil)) pa_nil)) (pe_callB call_len (by rfl) Tx.n_len (by decide +kernel) (pa_cons (pv 13) pa_nil)) (nomark _))))))) (pss_one (ps_ret pe_bl)) pss_nil)
  h'))))), fun S0 O A hA => ?_⟩
  have r' := r0' S0
  clear r0'
  clear sc hr h'
  try dsimp only [XL, cxOf]

  obtain ⟨d, x, ⟨ln, h0, h1, st, dk⟩, h3, hx⟩ := hA
  obtain ⟨sl, st'⟩ := A
  obtain rfl : st' = _ := st
  obtain ⟨v0, v1, v2, v3, v4, v5, v6, v7, v8, v9, v10, v11, v12, v13, v14, v15, v16, v17, v18, v19, v20, v21, v22, v23, v24, v25, v26, v27, v28, v29, v30, rfl⟩ := ex31 sl ln
  obtain rfl : _ = v0 := (Option.some.inj h0).symm
  obtain rfl : _ = v1 := (Option.some.inj h1).symm
  obtain rfl : _ = v3 := (Option.some.inj h3).symm
  clear ln
  have d1 := roll_ok (m := 5000) dk (by decide)
  have q1 := roll_lt (d := d) (m := 5000) (by decide)
  refine r_seq (r_asg (e_bin e_c (e_roll (n := 0) rfl rfl e_c dk (by decide) (by decide) (sz20 (by decide))) o_add) ?_)
  generalize hd1 : rollD d 5000 = d' at *
  generalize rollV d 5000 = r at *
  obtain ⟨n, hn⟩ : ∃ n : Nat, 1 + r = (n : Int) := ⟨(1 + r).toNat, by omega⟩
  rw [hn]
  have n1 : 1 ≤ n := by omega
  have n2 : n ≤ 5000 := by omega
  clear hd1 q1 hn
  have N := numOk n1 n2
  have hpf : pfR (NE K) (n : Int) = .ok (.tupZ ((pfRows (pfN n)).map row)) := by
    unfold pfR
    rw [if_neg (by omega), Int.natAbs_natCast, if_neg (by have := N.l; omega)]
  refine r_seq (r_asg (e_call (a_cons (e_var rfl) a_nil) ⟨(n : Int), rfl, sz20 (by omega), hpf.symm⟩) ?_)
  refine r_seq (r_asg e_c ?_)
  have Npd := N.pd
  have Nup := N.up
  have Npr := N.pr
  have Nln := N.ln
  have Npx := N.px
  generalize hrs : pfRows (pfN n) = rs at *
  clear hpf
  refine r_seq (r_forT (xs := rs.map row) (e_unZ (e_var rfl)) (fun i A => ∃ u v : SD, A = ⟨[S0, .own 0, v2, .d (di x), v4, v5, v6, v7, v8, v9, v10, v11, .d (di (n : Int)), .d (.tupZ (rs.map row)), .d (di (prodN (rs.take i) : Nat)), u, v, v17, v18, v19, v20, v21, v22, v23, v24, v25, v26, v27, v28, v29, v30], [.lst d'.ds]⟩) ⟨v15, v16, rfl⟩ ?_ ?_)
  · rintro i y A hy ⟨u, v, rfl⟩
    rw [List.getElem?_map] at hy
    obtain ⟨q, hq, rfl⟩ := Option.map_eq_some_iff.mp hy
    refine ⟨_, tg_tup rfl (tgA_cons tg_name (tgA_cons tg_name tgA_nil)), ?_⟩
    have p1 := Npx i
    have p2 := Npx (i + 1)
    rw [prodN_next hq] at p2
    obtain ⟨_, q20, q1, q5, _⟩ := Npr q (List.mem_of_getElem? hq)
    have pw : q.1 ^ q.2 ≤ 5000 := by
      rcases Nat.eq_zero_or_pos (prodN (rs.take i)) with z | z
      · have e0 : prodN rs = 0 := by
          rw [← List.take_append_drop i rs]
          unfold prodN at z ⊢
          rw [List.foldl_append, z]
          clear z p2 p1
          induction rs.drop i with
          | nil => rfl
          | cons a r ih => rw [List.foldl_cons, Nat.zero_mul]; exact ih
        omega
      · have := Nat.le_mul_of_pos_left (q.1 ^ q.2) z
        omega
    have ec : ((q.1 : Int) ^ q.2) = ((q.1 ^ q.2 : Nat) : Int) := by rw [Int.natCast_pow]
    have z1 : Sz 20000000 ((q.1 : Int) ^ q.2) := by
      rw [ec]
      exact Nat.lt_of_lt_of_le (by show q.1 ^ q.2 < 2 ^ 20; omega) (Nat.pow_le_pow_right (by decide) (by decide))
    have mm : PMul ((prodN (rs.take i) : Nat) : Int) ((q.1 ^ q.2 : Nat) : Int) := mulX 20 20 (by show prodN (rs.take i) < 2 ^ 20; omega) (by show q.1 ^ q.2 < 2 ^ 20; omega)
    refine r_asg (e_is (e_bin (e_var rfl) (e_is (e_call (a_cons (e_var rfl) (a_cons (e_var rfl) a_nil)) ⟨(q.1 : Int), q.2, rfl, z1, szUp (sz20 (by omega)) (by decide), rfl⟩) (congrArg di ec)) (o_mul mm)) (congrArg di (by rw [prodN_next hq, Int.natCast_mul] : ((prodN (rs.take i) : Nat) : Int) * ((q.1 ^ q.2 : Nat) : Int) = ((prodN (rs.take (i + 1)) : Nat) : Int)))) ?_
    exact ⟨_, _, rfl⟩
  · rintro A ⟨u, v, rfl⟩
    rw [List.length_map, List.take_length, Npd]
    have ps := row_pI rs
    have srt : (rs.map pI).Pairwise fun x y => SrtO.lexB y x = false := List.pairwise_map.mpr (Nup.imp fun {a b} h => SrtO.lexB_no.mpr (by dsimp only [pI]; omega))
    have nd : ((rs.map pI).map (·.1)).Nodup := by
      rw [List.map_map]
      refine List.pairwise_map.mpr (Nup.imp fun {a b} h => ?_)
      dsimp only [pI, Function.comp]
      omega
    refine r_seq (r_ifF (t_orF (t_is (t_test (e_bin (e_var rfl) (e_var rfl) o_neI)) (by simp)) (t_orF (t_is (t_test (e_bin (e_lcT (xs := rs.map row) (e_unZ (e_var rfl)) (fun i => ⟨[S0, .own 0, v2, .d (di x), v4, v5, v6, v7, v8, v9, v10, v11, .d (di (n : Int)), .d (.tupZ (rs.map row)), .d (di (n : Int)), s5 u i, s5 v i, v17, v18, v19, v20, v21, v22, v23, v24, v25, v26, v27, v28, v29, v30], [.lst d'.ds]⟩) (fun _ => []) rfl rfl (fun i y hy O' => ?_) (by rw [List.length_map]; omega)) (e_lst a_nil (by decide)) (o_neNil (n := 0) .nil))) rfl) (t_orF (t_is (t_test (e_bin (e_is (e_listT (e_unZ (e_var rfl))) (congrArg Dt.lst ps)) (e_sortQT (e_is (e_unZ (e_var rfl)) (congrArg Dt.tup ps)) (lex_one srt)) (o_neSame (nice_frs _)))) rfl) (t_is (t_test (e_bin (e_lenDictZ (e_is (e_var rfl) (congrArg Dt.tupZ ps)) nd) (e_lenT (xs := rs.map row) (e_unZ (e_var rfl))) o_neI)) (by rw [List.length_map, List.length_map]; simp))))) (r_next ?_))
    · rw [List.getElem?_map] at hy
      obtain ⟨q, hq, rfl⟩ := Option.map_eq_some_iff.mp hy
      obtain ⟨q1, _, _, q5, qp⟩ := Npr q (List.mem_of_getElem? hq)
      refine ⟨_, false, _, tgS_tup rfl (tgsS_cons (tgS_name (by decide)) (tgsS_cons (tgS_name (by decide)) tgsS_nil)), t_orF (t_is (t_not (t_val (e_call (a_cons (e_var rfl) a_nil) ⟨q.1, rfl, by omega, rfl⟩))) (by rw [qp]; rfl)) (t_is (t_test (e_bin (e_var rfl) e_c o_I0)) (by simp; omega)), .inr ⟨rfl, rfl, rfl⟩⟩
    · exact r' O _ ⟨d', x, n, ⟨by simp, rfl, rfl, rfl, d1⟩, rfl, hx, rfl, n1, n2⟩

end Law.KY
end

section
set_option Elab.async false
set_option linter.all false
set_option maxRecDepth 100000
set_option maxHeartbeats 4000000
set_option autoImplicit false
set_option exponentiation.threshold 300
namespace Law.KY
open PySem PySem.Spec PyProof.Rows L2 Py Mt KF KV

local macro_rules | `(tactic| wtm_at "op") => `(tactic| first
  | with_reducible exact o_I0 | with_reducible exact o_add | with_reducible exact o_eqI | with_reducible exact o_neI
  | ((with_reducible apply o_mul); first | assumption | wtm_at "si")
  | ((with_reducible apply o_I); first | assumption | wtm_at "si")
  | ((with_reducible apply o_ixT); rfl) | ((with_reducible apply o_ixL); rfl)
  | ((with_reducible apply o_eqD) <;> first | rfl | decide | assumption) | ((with_reducible apply o_neD) <;> first | rfl | decide | assumption)
  | with_reducible assumption)
local macro_rules | `(tactic| wtm_at "si") => `(tactic| first | decide | exact ⟨by decide, by decide +kernel⟩ | omega)
local macro_rules | `(tactic| wtm_at "ev") => `(tactic| first
  | ((with_reducible apply e_var); rfl) | with_reducible exact e_c | with_reducible exact a_nil
  | ((with_reducible apply a_cons) <;> wtm_at "ev")
  | ((with_reducible apply e_bin) <;> first | wtm_at "ev" | wtm_at "op")
  | ((with_reducible apply e_ixO) <;> first | rfl | wtm_at "ev")
  | ((with_reducible apply e_U) <;> wtm_at "ev")
  | ((with_reducible apply t_test) <;> wtm_at "ev")
  | ((with_reducible apply t_B) <;> wtm_at "ev")
  | ((with_reducible apply t_not) <;> wtm_at "ev")
  | ((with_reducible apply e_tup) <;> first | wtm_at "ev" | exact Nat.le_of_ble_eq_true rfl)
  | ((with_reducible apply e_lst) <;> first | wtm_at "ev" | exact Nat.le_of_ble_eq_true rfl)
  | ((with_reducible apply e_gcd) <;> wtm_at "ev")
  | ((with_reducible apply e_abs) <;> wtm_at "ev")
  | ((with_reducible apply e_max2) <;> wtm_at "ev")
  | ((with_reducible apply e_int) <;> wtm_at "ev")
  | ((with_reducible apply e_intB) <;> wtm_at "ev")
  | ((with_reducible apply e_bits) <;> wtm_at "ev")
  | ((with_reducible apply e_not) <;> wtm_at "ev")
  | with_reducible assumption)

variable {P : Program} {w : World} {K : Frg} {T : List (Addr × Str)} {mg : Str → Option Value} {base : Heap} {A0 : Around} {outer : List Env} {s0 : Shared} {H0 : Hp} {E : XK}

def dvY (n i : Nat) : List Dt := (((List.range' 1 i).filter fun k => n / k * k == n).map fun (k : Nat) => (k : Int)).map di
theorem dvY_next (n i : Nat) : dvY n (i + 1) = if n / (1 + i) * (1 + i) = n then dvY n i ++ [di ((1 + i : Nat) : Int)] else dvY n i := by
  unfold dvY
  rw [List.range'_concat, List.filter_append]
  by_cases h : n / (1 + i) * (1 + i) = n
  · rw [if_pos h]
    simp [h]
  · rw [if_neg h]
    simp [h]
theorem dv_int (n k : Nat) : (n : Int).fdiv ((1 : Int) + (k : Int)) * (1 + k) = ((n / (1 + k) * (1 + k) : Nat) : Int) := by
  rw [Int.fdiv_eq_ediv_of_nonneg _ (by omega)]
  have e : (1 : Int) + (k : Int) = ((1 + k : Nat) : Int) := by omega
  rw [e, ← Int.natCast_ediv, ← Int.natCast_mul]
theorem nice_is (ms : List Int) : Nice 1 (.lst (ms.map di)) (.list (ms.map PyData.int)) := .lst (niceA_map (fun _ => .int) ms)
def Inv15 := Inv13

theorem seg13 (Z : GS P w K T mg base) (Tx : Txt5 K mg) (LB : LamB K base mg T "law") (hr : Room 20 (XL P w K mg base A0 outer s0 H0 E).A)
    (next : ∃ t, PSs (XL P w K mg base A0 outer s0 H0 E) (LBd.drop 14) t ∧ ∀ S0 O A, Inv13 S0 A → RunS ⟨K, T, H0, O⟩ E t A (PF S0)) :
    ∃ t, PSs (XL P w K mg base A0 outer s0 H0 E) (LBd.drop 13) t ∧ ∀ S0 O A, Inv13 S0 A → RunS ⟨K, T, H0, O⟩ E t A (PF S0) := by
  obtain ⟨t', h', r0'⟩ := next
  have sc := sc_law
  refine ⟨_, (pss_cons (ps_if (PW.pt (pw_or (pt_cmpR (op_neA hr.units) (pe_callG Z.G_is_prime (hr.mono (by decide)) psE (pa_cons (pv 12) pa_nil)) (pe_callG Z.G__law_prime (hr.mono (by decide)) psE (pa_cons (pv 12) pa_nil)) (nomark _)) (pw_or (pt_not (pt_val (pe_callG Z.G__law_prime (hr.mono (by decide)) psE (pa_cons (pe_callG Z.G_next_prime (hr.mono (by decide)) psE (pa_cons (pv 12) pa_nil)) pa_nil)))) (pw_or1 (pt_cmpR (op_neA hr.units) (pe_lc (own := [("k", 5)]) rfl sc.nd (pi_range2 rfl Tx.n_range (pa_cons (pe_op op_addA (pv 12) pe_int) (pa_cons (pe_callG Z.G_next_prime (hr.mono (by decide)) psE (pa_cons (pv 12) pa_nil)) pa_nil))) (blkOk_by (own := [("k", 5)]) (N := ["script", "dice", "sizes", "one", "other", "k", "divisor", "first", "second", "base", "exponent", "told_now", "small", "rows", "product", "prime", "many", "rests", "whole", "rest", "part", "fits", "number", "root", "below", "found", "a", "b", "times", "due", "turn"]) (sc := defScope s_law) (by decide +kernel)) (fun _ _ _ _ _ => (pg_name (i := 5) sc.nd rfl (Or.inl rfl))) (fun _ _ _ _ _ => (pts_one (pt_val (pe_callG Z.G__law_prime (hr.mono (by decide)) passL (pa_cons (pv 5) pa_nil))))) (fun _ _ _ _ _ => (pv 5))) (pe_lst pa_nil) (nomark _)))))) (pss_one (ps_ret pe_bl)) pss_nil)
  h'), fun S0 O A hA => ?_⟩
  have r' := r0' S0
  clear r0'
  clear sc hr h'
  try dsimp only [XL, cxOf]

  obtain ⟨d, x, n, ⟨ln, h0, h1, st, dk⟩, h3, hx, h12, n1, n2⟩ := hA
  obtain ⟨sl, st'⟩ := A
  obtain rfl : st' = _ := st
  obtain ⟨v0, v1, v2, v3, v4, v5, v6, v7, v8, v9, v10, v11, v12, v13, v14, v15, v16, v17, v18, v19, v20, v21, v22, v23, v24, v25, v26, v27, v28, v29, v30, rfl⟩ := ex31 sl ln
  obtain rfl : _ = v0 := (Option.some.inj h0).symm
  obtain rfl : _ = v1 := (Option.some.inj h1).symm
  obtain rfl : _ = v3 := (Option.some.inj h3).symm
  obtain rfl : _ = v12 := (Option.some.inj h12).symm
  clear ln
  obtain ⟨p, hp, p1, p2⟩ := next_ok n1 n2
  have e1 : isP n = lawP n := isP_eq (by omega)
  have e2 : lawP p = true := by rw [← isP_eq (by omega)]; exact hp.2.1
  have nx : ∀ {A : AS}, A.sl[12]? = some (.d (di (n : Int))) → EvS ⟨K, T, H0, O⟩ (tCall (spD K T sp_next) [] E (tCons (tVar 12) tNil)) A (di (p : Int)) A := fun h => e_call (C := ⟨K, T, H0, O⟩) (a_cons (e_var h) a_nil) ⟨n, p, rfl, hp, by omega, rfl⟩
  have ee : ((p : Int) - ((n : Int) + 1)).toNat = p - (n + 1) := by omega
  refine r_seq (r_ifF (t_orF (t_is (t_test (e_bin (e_call (a_cons (e_var rfl) a_nil) ⟨n, rfl, by omega, rfl⟩) (e_call (a_cons (e_var rfl) a_nil) ⟨n, rfl, by omega, rfl⟩) (o_ne rfl))) (by rw [e1]; simp)) (t_orF (t_is (t_not (t_val (e_call (a_cons (nx rfl) a_nil) ⟨p, rfl, by omega, rfl⟩))) (by rw [e2]; rfl)) (t_is (t_test (e_bin (e_lcR (w_rng2n (m := (n : Int) + 1) (n := (p : Int)) (a_cons (e_bin (e_var rfl) e_c o_add) (a_cons (nx rfl) a_nil)) ee (by omega) (by omega)) (fun i => ⟨[S0, .own 0, v2, .d (di x), v4, s5 v5 i, v6, v7, v8, v9, v10, v11, .d (di (n : Int)), v13, v14, v15, v16, v17, v18, v19, v20, v21, v22, v23, v24, v25, v26, v27, v28, v29, v30], [.lst d.ds]⟩) (fun _ => []) rfl rfl (fun i hi O' => ?_) (by omega)) (e_lst a_nil (by decide)) (o_neNil (n := 0) .nil))) rfl))) (r_next ?_))
  · have ek : (n : Int) + 1 + (i : Int) = ((n + 1 + i : Nat) : Int) := by omega
    have ez : lawP (n + 1 + i) = false := by
      rw [← isP_eq (by omega)]
      exact hp.2.2 _ (by omega) (by omega)
    exact ⟨_, false, _, tgS_name (by decide), t_is (t_val (e_call (a_cons (e_is (e_var rfl) (congrArg di ek)) a_nil) ⟨n + 1 + i, rfl, by omega, rfl⟩)) ez, .inr ⟨rfl, rfl, rfl⟩⟩
  · exact r' O _ ⟨d, x, n, ⟨by simp, rfl, rfl, rfl, dk⟩, rfl, hx, rfl, n1, n2⟩

theorem seg14 (Z : GS P w K T mg base) (Tx : Txt5 K mg) (LB : LamB K base mg T "law") (hr : Room 20 (XL P w K mg base A0 outer s0 H0 E).A)
    (next : ∃ t, PSs (XL P w K mg base A0 outer s0 H0 E) (LBd.drop 15) t ∧ ∀ S0 O A, Inv13 S0 A → RunS ⟨K, T, H0, O⟩ E t A (PF S0)) :
    ∃ t, PSs (XL P w K mg base A0 outer s0 H0 E) (LBd.drop 14) t ∧ ∀ S0 O A, Inv13 S0 A → RunS ⟨K, T, H0, O⟩ E t A (PF S0) := by
  obtain ⟨t', h', r0'⟩ := next
  have sc := sc_law
  refine ⟨_, (pss_cons (ps_if (pt_cmpR (op_neA hr.units) (pe_callTy call_list_of (by rfl) Tx.n_list (by decide +kernel) (pa_cons (pe_callG Z.G_divisors (hr.mono (by decide)) psE (pa_cons (pv 12) pa_nil)) pa_nil)) (pe_lc (own := [("k", 5)]) rfl sc.nd (pi_range2 rfl Tx.n_range (pa_cons pe_int (pa_cons (pe_op op_addA (pv 12) pe_int) pa_nil))) (blkOk_by (own := [("k", 5)]) (N := ["script", "dice", "sizes", "one", "other", "k", "divisor", "first", "second", "base", "exponent", "told_now", "small", "rows", "product", "prime", "many", "rests", "whole", "rest", "part", "fits", "number", "root", "below", "found", "a", "b", "times", "due", "turn"]) (sc := defScope s_law) (by decide +kernel)) (fun _ _ _ _ _ => (pg_name (i := 5) sc.nd rfl (Or.inl rfl))) (fun _ _ _ _ _ => (pts_one (pt_cmpR (op_eqAK (K := K) rfl hr.units) (pe_op (op_mulAK (K := K) rfl) (pe_op op_fdivX (pv 12) (pv 5)) (pv 5)) (pv 12) (nomark _)))) (fun _ _ _ _ _ => (pv 5))) (nomark _)) (pss_one (ps_ret pe_bl)) pss_nil)
  h'), fun S0 O A hA => ?_⟩
  have r' := r0' S0
  clear r0'
  clear sc hr h'
  try dsimp only [XL, cxOf]

  obtain ⟨d, x, n, ⟨ln, h0, h1, st, dk⟩, h3, hx, h12, n1, n2⟩ := hA
  obtain ⟨sl, st'⟩ := A
  obtain rfl : st' = _ := st
  obtain ⟨v0, v1, v2, v3, v4, v5, v6, v7, v8, v9, v10, v11, v12, v13, v14, v15, v16, v17, v18, v19, v20, v21, v22, v23, v24, v25, v26, v27, v28, v29, v30, rfl⟩ := ex31 sl ln
  obtain rfl : _ = v0 := (Option.some.inj h0).symm
  obtain rfl : _ = v1 := (Option.some.inj h1).symm
  obtain rfl : _ = v3 := (Option.some.inj h3).symm
  obtain rfl : _ = v12 := (Option.some.inj h12).symm
  clear ln
  have N := numOk n1 n2
  have ey : dvY n n = ((divsL n).map fun (x : Nat) => (x : Int)).map di := rfl
  have ee : ((n : Int) + 1 - 1).toNat = n := by omega
  refine r_seq (r_ifF (t_is (t_test (e_bin (e_listT (e_call (a_cons (e_var rfl) a_nil) ⟨n, _, rfl, N.dv, rfl⟩)) (e_is (e_lcR (w_rng2n (m := 1) (n := (n : Int) + 1) (a_cons e_c (a_cons (e_bin (e_var rfl) e_c o_add) a_nil)) ee (by omega) (by omega)) (fun i => ⟨[S0, .own 0, v2, .d (di x), v4, s5 v5 i, v6, v7, v8, v9, v10, v11, .d (di (n : Int)), v13, v14, v15, v16, v17, v18, v19, v20, v21, v22, v23, v24, v25, v26, v27, v28, v29, v30], [.lst d.ds]⟩) (dvY n) rfl rfl (fun i hi O' => ?_) (by omega)) (congrArg Dt.lst ey)) (o_neSame (nice_is _)))) rfl) (r_next ?_))
  · have k0 : (1 : Int) + (i : Int) ≠ 0 := by omega
    have dv : PDiv (n : Int) (1 + (i : Int)) := divX 20 (by show (1 + (i : Int)).natAbs < 2 ^ 20; omega) k0
    have di' := dv_int n i
    have lq : n / (1 + i) ≤ n := Nat.div_le_self _ _
    have mm : PMul ((n : Int).fdiv (1 + (i : Int))) (1 + (i : Int)) := mulX 20 20 (by
      rw [Int.fdiv_eq_ediv_of_nonneg _ (by omega), show (1 : Int) + (i : Int) = ((1 + i : Nat) : Int) by omega, ← Int.natCast_ediv]
      show n / (1 + i) < 2 ^ 20
      omega) (by show (1 + (i : Int)).natAbs < 2 ^ 20; omega)
    have tst : ∀ {A : AS}, A.sl[12]? = some (.d (di (n : Int))) → A.sl[5]? = some (.d (di (1 + (i : Int)))) → EvT ⟨K, T, H0, O'⟩ (tTest (tOp (rEqA K) (tOp (rMulA K) (tOp (rI PDiv fun i j => .int (i.fdiv j)) (tVar 12) (tVar 5)) (tVar 5)) (tVar 12))) A (decide (n / (1 + i) * (1 + i) = n)) A := fun h1 h2 =>
      t_is (t_test (e_bin (e_bin (e_bin (e_var h1) (e_var h2) (o_I dv)) (e_var h2) (o_mul mm)) (e_var h1) o_eqI)) (by rw [di', decide_eq_decide]; exact Int.natCast_inj)
    rw [dvY_next]
    by_cases h : n / (1 + i) * (1 + i) = n
    · rw [if_pos h]
      exact ⟨_, true, _, tgS_name (by decide), t_is (tst rfl rfl) (decide_eq_true h), .inl ⟨rfl, _, _, e_is (e_var rfl) (congrArg di (by omega : (1 : Int) + (i : Int) = ((1 + i : Nat) : Int))), rfl, rfl⟩⟩
    · rw [if_neg h]
      exact ⟨_, false, _, tgS_name (by decide), t_is (tst rfl rfl) (decide_eq_false h), .inr ⟨rfl, rfl, rfl⟩⟩
  · exact r' O _ ⟨d, x, n, ⟨by simp, rfl, rfl, rfl, dk⟩, rfl, hx, rfl, n1, n2⟩

end Law.KY
end

section
set_option Elab.async false
set_option linter.all false
set_option maxRecDepth 100000
set_option maxHeartbeats 4000000
set_option autoImplicit false
set_option exponentiation.threshold 300
namespace Law.KY
open PySem PySem.Spec PyProof.Rows L2 Py Mt KJ

local macro_rules | `(tactic| wtm_at "op") => `(tactic| first
  | with_reducible exact o_I0 | with_reducible exact o_add | with_reducible exact o_eqI | with_reducible exact o_neI
  | ((with_reducible apply o_mul); first | assumption | wtm_at "si")
  | ((with_reducible apply o_I); first | assumption | wtm_at "si")
  | ((with_reducible apply o_ixT); rfl) | ((with_reducible apply o_ixL); rfl)
  | ((with_reducible apply o_eqD) <;> first | rfl | decide | assumption) | ((with_reducible apply o_neD) <;> first | rfl | decide | assumption)
  | with_reducible assumption)
local macro_rules | `(tactic| wtm_at "si") => `(tactic| first | decide | exact ⟨by decide, by decide +kernel⟩ | omega)
local macro_rules | `(tactic| wtm_at "ev") => `(tactic| first
  | ((with_reducible apply e_var); rfl) | with_reducible exact e_c | with_reducible exact a_nil
  | ((with_reducible apply a_cons) <;> wtm_at "ev")
  | ((with_reducible apply e_bin) <;> first | wtm_at "ev" | wtm_at "op")
  | ((with_reducible apply e_ixO) <;> first | rfl | wtm_at "ev")
  | ((with_reducible apply e_U) <;> wtm_at "ev")
  | ((with_reducible apply t_test) <;> wtm_at "ev")
  | ((with_reducible apply t_B) <;> wtm_at "ev")
  | ((with_reducible apply t_not) <;> wtm_at "ev")
  | ((with_reducible apply e_tup) <;> first | wtm_at "ev" | exact Nat.le_of_ble_eq_true rfl)
  | ((with_reducible apply e_lst) <;> first | wtm_at "ev" | exact Nat.le_of_ble_eq_true rfl)
  | ((with_reducible apply e_gcd) <;> wtm_at "ev")
  | ((with_reducible apply e_abs) <;> wtm_at "ev")
  | ((with_reducible apply e_max2) <;> wtm_at "ev")
  | ((with_reducible apply e_int) <;> wtm_at "ev")
  | ((with_reducible apply e_intB) <;> wtm_at "ev")
  | ((with_reducible apply e_bits) <;> wtm_at "ev")
  | ((with_reducible apply e_not) <;> wtm_at "ev")
  | with_reducible assumption)

variable {P : Program} {w : World} {K : Frg} {T : List (Addr × Str)} {mg : Str → Option Value} {base : Heap} {A0 : Around} {outer : List Env} {s0 : Shared} {H0 : Hp} {E : XK}

/-! ### remainders that are joined -/
def rsD (d : Dice) : Dice := rollD (rollD d 40) 30
def rsV (d : Dice) : Int × Int := (rollV d 40, 1 + rollV (rollD d 40) 30)
def rsN (d : Dice) : Nat → Dice
  | 0 => d
  | i + 1 => rsD (rsN d i)
def rsL (d : Dice) : Nat → List (Int × Int)
  | 0 => []
  | i + 1 => rsL d i ++ [rsV (rsN d i)]
theorem rsN_ok {d : Dice} {c : Nat} (h : DOk c d) : ∀ i, DOk (c + 2 * i) (rsN d i)
  | 0 => h
  | i + 1 => roll_ok (m := 30) (roll_ok (m := 40) (rsN_ok h i) (by decide)) (by decide)
structure RsOk (p : Int × Int) : Prop where
  a0 : 0 ≤ p.1
  a1 : p.1 < 40
  b0 : 1 ≤ p.2
  b1 : p.2 ≤ 30
theorem rsV_ok (d : Dice) : RsOk (rsV d) := by
  have q1 := roll_lt (d := d) (m := 40) (by decide)
  have q2 := roll_lt (d := rollD d 40) (m := 30) (by decide)
  exact ⟨q1.1, q1.2, by show (1 : Int) ≤ 1 + _; omega, by show 1 + _ ≤ (30 : Int); omega⟩
theorem rsL_ok (d : Dice) : ∀ i, (rsL d i).length = i ∧ ∀ p ∈ rsL d i, RsOk p
  | 0 => ⟨rfl, fun p h => by cases h⟩
  | i + 1 => by
    obtain ⟨a, b⟩ := rsL_ok d i
    refine ⟨by show (rsL d i ++ [_]).length = _; rw [List.length_append, a]; rfl, fun p hp => ?_⟩
    rcases List.mem_append.mp hp with z | z
    · exact b p z
    · rw [List.mem_singleton.mp z]; exact rsV_ok _
/-- the joined base -/
def wS (w : Int) (p : Int × Int) : Int := w / Int.gcd w p.2 * p.2
def wF (rs : List (Int × Int)) : Int := rs.foldl wS 1
theorem wF_next {rs : List (Int × Int)} {i : Nat} {p : Int × Int} (h : rs[i]? = some p) : wF (rs.take (i + 1)) = wS (wF (rs.take i)) p := by
  unfold wF
  rw [List.take_add_one, h, List.foldl_append]
  rfl
theorem wS_ok {w : Int} {p : Int × Int} (hw : 1 ≤ w) (hp : RsOk p) : 1 ≤ wS w p ∧ wS w p ≤ w * 30 ∧ w ∣ wS w p ∧ p.2 ∣ wS w p ∧ ∀ z : Int, w ∣ z → p.2 ∣ z → wS w p ∣ z := by
  have hg : 0 < Int.gcd w p.2 := Int.gcd_pos_of_ne_zero_left _ (by omega)
  have d1 : (Int.gcd w p.2 : Int) ∣ w := Int.gcd_dvd_left ..
  have d2 : (Int.gcd w p.2 : Int) ∣ p.2 := Int.gcd_dvd_right ..
  have b0 := hp.b0
  have b1 := hp.b1
  unfold wS
  have el : w / Int.gcd w p.2 * p.2 = Int.lcm w p.2 := by
    have q := Int.gcd_mul_lcm w p.2
    obtain ⟨u, hu⟩ := d1
    have g0 : (Int.gcd w p.2 : Int) ≠ 0 := by omega
    have e1 : w / Int.gcd w p.2 = u := by
      rw [Int.ediv_eq_iff_eq_mul_right g0 ⟨u, hu⟩]; exact hu
    rw [e1]
    have pw : 0 ≤ w * p.2 := Int.mul_nonneg (by omega) (by omega)
    have e2 : (Int.gcd w p.2 : Int) * (u * p.2) = w * p.2 := by
      rw [← Int.mul_assoc, ← hu]
    have e3 : (Int.gcd w p.2 : Int) * (Int.lcm w p.2 : Int) = w * p.2 := by
      have : ((Int.gcd w p.2 * Int.lcm w p.2 : Nat) : Int) = ((w * p.2).natAbs : Int) := by rw [q, ← Int.natAbs_mul]
      rw [Int.natCast_mul, Int.natAbs_of_nonneg pw] at this
      exact this
    exact Int.eq_of_mul_eq_mul_left g0 (e2.trans e3.symm)
  have l1 : 0 < Int.lcm w p.2 := Int.lcm_pos (by omega) (by omega)
  refine ⟨by rw [el]; omega, ?_, by rw [el]; exact Int.dvd_lcm_left .., by rw [el]; exact Int.dvd_lcm_right .., fun z h1 h2 => by rw [el]; exact Int.coe_lcm_dvd h1 h2⟩
  have q1 : 0 ≤ w / (Int.gcd w p.2 : Int) := Int.ediv_nonneg (by omega) (by omega)
  have q2 : w / (Int.gcd w p.2 : Int) ≤ w := Int.ediv_le_self _ (by omega)
  exact Int.mul_le_mul q2 b1 (by omega) (by omega)
structure WOk (rs : List (Int × Int)) (w : Int) : Prop where
  p : 1 ≤ w
  d : ∀ q ∈ rs, q.2 ∣ w
  l : ∀ z : Int, (∀ q ∈ rs, q.2 ∣ z) → w ∣ z
theorem wF_ok {rs : List (Int × Int)} (h : ∀ p ∈ rs, RsOk p) : ∀ i, WOk (rs.take i) (wF (rs.take i)) ∧ wF (rs.take i) ≤ 30 ^ i := by
  intro i
  induction i with
  | zero => exact ⟨⟨by rw [List.take_zero]; exact Int.le_refl 1, fun q hq => (by rw [List.take_zero] at hq; cases hq), fun z _ => by rw [List.take_zero]; exact Int.one_dvd z⟩, by rw [List.take_zero]; exact Int.le_refl 1⟩
  | succ i ih =>
    obtain ⟨⟨a, b, c⟩, e⟩ := ih
    by_cases hi : i < rs.length
    · have hx : rs[i]? = some rs[i] := List.getElem?_eq_getElem hi
      obtain ⟨s1, s2, s3, s4, s5⟩ := wS_ok a (h rs[i] (List.getElem_mem hi))
      rw [wF_next hx]
      have tk : rs.take (i + 1) = rs.take i ++ [rs[i]] := by rw [List.take_add_one, hx]; rfl
      refine ⟨⟨s1, fun q hq => ?_, fun z hz => s5 z (c z fun q hq => hz q (by rw [tk]; exact List.mem_append_left _ hq)) (hz _ (by rw [tk]; exact List.mem_append_right _ (List.mem_singleton.mpr rfl)))⟩, ?_⟩
      · rw [tk] at hq
        rcases List.mem_append.mp hq with z | z
        · exact Int.dvd_trans (b q z) s3
        · rw [List.mem_singleton.mp z]; exact s4
      · have : (30 : Int) ^ (i + 1) = 30 ^ i * 30 := Int.pow_succ ..
        omega
    · have t1 : rs.take (i + 1) = rs.take i := by rw [List.take_of_length_le (by omega), List.take_of_length_le (by omega)]
      rw [t1]
      refine ⟨⟨a, b, c⟩, ?_⟩
      have : (30 : Int) ^ (i + 1) = 30 ^ i * 30 := Int.pow_succ ..
      have : (0 : Int) < 30 ^ i := Int.pow_pos (by decide)
      omega
/-- what fits -/
def fitB (rs : List (Int × Int)) (k : Int) : Bool := rs.all fun p => decide ((k - p.1) % p.2 = 0)
def fitY (rs : List (Int × Int)) : Nat → List Int
  | 0 => []
  | i + 1 => if fitB rs i then fitY rs i ++ [(i : Int)] else fitY rs i
theorem fitB_iff {rs : List (Int × Int)} {k : Int} : fitB rs k = true ↔ ∀ p ∈ rs, (k - p.1) % p.2 = 0 := by
  unfold fitB
  rw [List.all_eq_true]
  exact ⟨fun h p hp => of_decide_eq_true (h p hp), fun h p hp => decide_eq_true (h p hp)⟩
theorem fitY_none {rs : List (Int × Int)} (h : ∀ z : Int, ¬ ∀ p ∈ rs, (z - p.1) % p.2 = 0) : ∀ i, fitY rs i = []
  | 0 => rfl
  | i + 1 => by
    have e : fitB rs i = false := by
      cases q : fitB rs i with
      | false => rfl
      | true => exact absurd (fitB_iff.mp q) (h i)
    show (if fitB rs i then _ else fitY rs i) = []
    rw [e, if_neg (by decide), fitY_none h i]
theorem fitY_one {rs : List (Int × Int)} {f : Int} (f0 : 0 ≤ f) (h : ∀ z : Int, 0 ≤ z → (∀ p ∈ rs, (z - p.1) % p.2 = 0) → f ≤ z) (hf : ∀ p ∈ rs, (f - p.1) % p.2 = 0) : ∀ i : Nat, (i : Int) ≤ f ∧ fitY rs i = [] ∨ f < (i : Int) ∧ ∃ t, fitY rs i = f :: t
  | 0 => .inl ⟨f0, rfl⟩
  | i + 1 => by
    rcases fitY_one f0 h hf i with ⟨a, b⟩ | ⟨a, t, b⟩
    · by_cases e : (i : Int) = f
      · refine .inr ⟨by omega, [], ?_⟩
        show (if fitB rs i then _ else fitY rs i) = _
        rw [e, fitB_iff.mpr hf, if_pos rfl, b]
        rfl
      · refine .inl ⟨by omega, ?_⟩
        have q : fitB rs i = false := by
          cases q : fitB rs i with
          | false => rfl
          | true =>
            have := h i (by omega) (fitB_iff.mp q)
            omega
        show (if fitB rs i then _ else fitY rs i) = _
        rw [q, if_neg (by decide), b]
    · refine .inr ⟨by omega, ?_⟩
      show ∃ t, (if fitB rs i then _ else fitY rs i) = _
      split
      · exact ⟨t ++ [(i : Int)], by rw [b]; rfl⟩
      · exact ⟨t, b⟩
theorem fitY_len (rs : List (Int × Int)) : ∀ i, (fitY rs i).length ≤ i
  | 0 => Nat.le_refl _
  | i + 1 => by
    have := fitY_len rs i
    show (if fitB rs i then _ else fitY rs i).length ≤ _
    split
    · rw [List.length_append]; simp; omega
    · omega
theorem p30 : ∀ i : Nat, i ≤ 3 → (30 : Int) ^ i ≤ 27000
  | 0, _ => by decide
  | 1, _ => by decide
  | 2, _ => by decide
  | 3, _ => by decide
  | i + 4, h => by omega
theorem at0 (y : Dt) (r : List Dt) : atI (y :: r) 0 = some y := by
  unfold atI ixN
  rw [if_pos (by decide), if_pos (by rw [List.length_cons]; omega)]
  rfl
def itU (u : SD) (m : Nat) : Nat → SD
  | 0 => u
  | i + 1 => s5 (itU u m i) m
def badY (rs : List (Int × Int)) (k : Int) : List (Int × Int) := rs.filter fun p => !decide ((k - p.1) % p.2 = 0)
theorem badY_nil (rs : List (Int × Int)) (k : Int) : ((badY rs k).map fun _ => di 1).isEmpty = fitB rs k := by
  unfold badY fitB
  induction rs with
  | nil => rfl
  | cons p r ih =>
    rw [List.filter_cons, List.all_cons]
    by_cases h : (k - p.1) % p.2 = 0
    · rw [decide_eq_true h]
      exact ih
    · rw [decide_eq_false h]
      rfl
theorem badY_next {rs : List (Int × Int)} {k : Int} {i : Nat} {p : Int × Int} (h : rs[i]? = some p) : badY (rs.take (i + 1)) k = badY (rs.take i) k ++ (if (k - p.1) % p.2 = 0 then [] else [p]) := by
  unfold badY
  rw [List.take_add_one, h, List.filter_append]
  congr 1
  by_cases e : (k - p.1) % p.2 = 0
  · rw [if_pos e]; simp [e]
  · rw [if_neg e]; simp [e]
/-- the answer that is due -/
def dueJ (rs : List (Int × Int)) : Dt := match fitY rs (wF rs).toNat with
  | [] => ds "NumberError"
  | f :: _ => fr (f, wF rs)
theorem join_due {rs : List (Int × Int)} (h : ∀ p ∈ rs, RsOk p) : (∃ f t, joinF rs (0, 1) = some (f, wF rs) ∧ fitY rs (wF rs).toNat = f :: t) ∨ (joinF rs (0, 1) = none ∧ fitY rs (wF rs).toNat = []) := by
  have j := joinF_ok (t := rs) JI.start fun p hp => by have := (h p hp).b0; omega
  obtain ⟨⟨w1, w2, w3⟩, _⟩ := wF_ok h rs.length
  rw [List.take_length] at w1 w2 w3
  rw [List.nil_append] at j
  cases e : joinF rs (0, 1) with
  | none =>
    rw [e] at j
    exact .inr ⟨rfl, fitY_none j _⟩
  | some s =>
    rw [e] at j
    obtain ⟨b, f0, f1, all⟩ := j
    refine .inl ?_
    have hf : ∀ p ∈ rs, (s.1 - p.1) % p.2 = 0 := (all s.1).mpr (by rw [Int.sub_self]; exact Int.zero_emod _)
    have base : s.2 = wF rs := by
      have a1 : s.2 ∣ wF rs := by
        have q := (all (s.1 + wF rs)).mp fun p hp => by
          have e1 := Int.dvd_of_emod_eq_zero (hf p hp)
          have e2 := w2 p hp
          refine Int.emod_eq_zero_of_dvd ?_
          rw [show s.1 + wF rs - p.1 = (s.1 - p.1) + wF rs by omega]
          exact Int.dvd_add e1 e2
        rw [show s.1 + wF rs - s.1 = wF rs by omega] at q
        exact Int.dvd_of_emod_eq_zero q
      have a2 : wF rs ∣ s.2 := w3 s.2 fun p hp => by
        have q := (all (s.1 + s.2)).mpr (by rw [show s.1 + s.2 - s.1 = s.2 by omega]; exact Int.emod_self) p hp
        have e1 := Int.dvd_of_emod_eq_zero (hf p hp)
        have e2 := Int.dvd_of_emod_eq_zero q
        have := Int.dvd_sub e2 e1
        rw [show s.1 + s.2 - p.1 - (s.1 - p.1) = s.2 by omega] at this
        exact this
      exact Int.dvd_antisymm (by omega) (by omega) a1 a2
    refine ⟨s.1, ?_⟩
    have least : ∀ z : Int, 0 ≤ z → (∀ p ∈ rs, (z - p.1) % p.2 = 0) → s.1 ≤ z := fun z z0 hz => by
      have q := (all z).mp hz
      have : s.2 ∣ z - s.1 := Int.dvd_of_emod_eq_zero q
      obtain ⟨k, hk⟩ := this
      rcases Int.lt_or_le k 0 with c | c
      · have : s.2 * k ≤ s.2 * (-1) := Int.mul_le_mul_of_nonneg_left (by omega) (by omega)
        omega
      · have : 0 ≤ s.2 * k := Int.mul_nonneg (by omega) c
        omega
    rcases fitY_one f0 least hf (wF rs).toNat with ⟨a, _⟩ | ⟨a, t, c⟩
    · omega
    · exact ⟨t, by rw [← base], c⟩
def Inv20 (S0 : SD) (A : AS) : Prop := ∃ (d : Dice) (x : Int), IA S0 A d 40 ∧ A.sl[3]? = some (.d (di x)) ∧ Sz 140 x
theorem _root_.Py.DOk.up {c c' : Nat} {d : Dice} (h : DOk c d) (hc : c ≤ c') : DOk c' d := ⟨h.x, Nat.le_trans h.y (by omega)⟩

theorem seg15 (Z : GS P w K T mg base) (Tx : Txt5 K mg) (LB : LamB K base mg T "law") (hr : Room 20 (XL P w K mg base A0 outer s0 H0 E).A)
    (next : ∃ t, PSs (XL P w K mg base A0 outer s0 H0 E) (LBd.drop 20) t ∧ ∀ S0 O A, Inv20 S0 A → RunS ⟨K, T, H0, O⟩ E t A (PF S0)) :
    ∃ t, PSs (XL P w K mg base A0 outer s0 H0 E) (LBd.drop 15) t ∧ ∀ S0 O A, Inv13 S0 A → RunS ⟨K, T, H0, O⟩ E t A (PF S0) := by
  obtain ⟨t', h', r0'⟩ := next
  have sc := sc_law
  refine ⟨_, (pss_cons (ps_set (i := 17) sc.nd rfl (Or.inr rfl) (pe_lc (own := [("k", 5)]) rfl sc.nd (pi_range1 rfl Tx.n_range (pa_cons (pe_callG Z.G__law_roll (hr.mono (by decide)) psE (pa_cons (pv 1) (pa_cons pe_int pa_nil))) pa_nil)) (blkOk_by (own := [("k", 5)]) (N := ["script", "dice", "sizes", "one", "other", "k", "divisor", "first", "second", "base", "exponent", "told_now", "small", "rows", "product", "prime", "many", "rests", "whole", "rest", "part", "fits", "number", "root", "below", "found", "a", "b", "times", "due", "turn"]) (sc := defScope s_law) (by decide +kernel)) (fun _ _ _ _ _ => (pg_name (i := 5) sc.nd rfl (Or.inl rfl))) (fun _ _ _ _ _ => pts_nil) (fun _ _ _ _ _ => (pe_tup (pa_cons (pe_callG Z.G__law_roll (hr.mono (by decide)) passL (pa_cons (pv 1) (pa_cons pe_int pa_nil))) (pa_cons (pe_op (op_addAK (K := K) rfl) pe_int (pe_callG Z.G__law_roll (hr.mono (by decide)) passL (pa_cons (pv 1) (pa_cons pe_int pa_nil)))) pa_nil))))))
  (pss_cons (ps_set (i := 18) sc.nd rfl (Or.inl rfl) pe_int)
  (pss_cons (ps_for (passesE) rfl (pi_list (pv 17)) (pg_tup rfl (pgs_cons (pg_name (i := 19) sc.nd rfl (Or.inl rfl)) (pgs_cons (pg_name (i := 20) sc.nd rfl (Or.inl rfl)) pgs_nil))) (pss_one (ps_set (i := 18) sc.nd rfl (Or.inl rfl) (pe_op op_mulA (pe_op op_fdivX (pv 18) (pe_callG Z.G__law_gcd (hr.mono (by decide)) psE (pa_cons (pv 18) (pa_cons (pv 20) pa_nil)))) (pv 20)))))
  (pss_cons (ps_setLc (i := 21) (own := [("k", 5)]) rfl sc.nd rfl rfl (sw_true rfl rfl rfl (by decide +kernel)) (pi_range1 rfl Tx.n_range (pa_cons (pv 18) pa_nil)) (blkOk_by (own := [("k", 5)]) (N := ["script", "dice", "sizes", "one", "other", "k", "divisor", "first", "second", "base", "exponent", "told_now", "small", "rows", "product", "prime", "many", "rests", "whole", "rest", "part", "fits", "number", "root", "below", "found", "a", "b", "times", "due", "turn"]) (sc := defScope s_law) (by decide +kernel)) (fun _ _ _ _ _ => (pg_name (i := 5) sc.nd rfl (Or.inr rfl))) (fun _ _ _ _ _ => (pts_one (pt_cmpR (op_eqAK (K := K) rfl hr.units) (pe_lc (own := [("rest", 19), ("part", 20)]) rfl sc.nd (pi_listK (K := K) rfl (pv 17)) (blkOk_rel (blkOk_by (own := [("rest", 19), ("part", 20)]) (N := ["script", "dice", "sizes", "one", "other", "k", "divisor", "first", "second", "base", "exponent", "told_now", "small", "rows", "product", "prime", "many", "rests", "whole", "rest", "part", "fits", "number", "root", "below", "found", "a", "b", "times", "due", "turn"]) (sc := (lcScope (LBd.getD 18 (.Pass ⟨0, 0, 0, 0⟩)))) (by decide +kernel))) (fun _ _ _ _ _ => (pg_tupK (K := K) (n := 2) rfl rfl (pgs_cons (pg_name (i := 19) sc.nd rfl (Or.inl rfl)) (pgs_cons (pg_name (i := 20) sc.nd rfl (Or.inl rfl)) pgs_nil)))) (fun _ _ _ _ _ => (pts_one (pt_cmpR (op_neAK (K := K) rfl hr.units) (pe_op op_modN (pe_op op_sub (pv 5) (pv 19)) (pv 20)) pe_int (nomark _)))) (fun _ _ _ _ _ => pe_int)) (pe_lst pa_nil) (nomark _)))) (fun _ _ _ _ _ => (pv 5)))
  (pss_cons (ps_if (pt_cmpR (op_neA hr.units) (pe_toldN (f := "law") (k := 10) Z.F_told Z.hm_told Tx.gNumberError LB rfl rfl (hr.mono (by decide)) (show LamX.LamS (defScope s_law) _ from LamX.lamS_by (by decide +kernel)) rfl (fun _ _ _ _ _ => rfl) (fun A outer s H E f c' hr => (pe_callG Z.G_remainders_joined (hr.mono (by decide)) psF (pa_cons (pv 17) pa_nil)))) (pe_ifExp (pt_cmpR (op_neA hr.units) (pv 21) (pe_lst pa_nil) (nomark _)) (pe_tup (pa_cons (pe_ix ix_seq (pv 21) pe_int (fun _ _ => rfl)) (pa_cons (pv 18) pa_nil))) pe_str) (nomark _)) (pss_one (ps_ret pe_bl)) pss_nil)
  h'))))), fun S0 O A hA => ?_⟩
  have r' := r0' S0
  clear r0'
  clear sc hr h'
  try dsimp only [XL, cxOf]

  obtain ⟨d, x, n, ⟨ln, h0, h1, st, dk⟩, h3, hx, _, _, _⟩ := hA
  obtain ⟨sl, st'⟩ := A
  obtain rfl : st' = _ := st
  obtain ⟨v0, v1, v2, v3, v4, v5, v6, v7, v8, v9, v10, v11, v12, v13, v14, v15, v16, v17, v18, v19, v20, v21, v22, v23, v24, v25, v26, v27, v28, v29, v30, rfl⟩ := ex31 sl ln
  obtain rfl : _ = v0 := (Option.some.inj h0).symm
  obtain rfl : _ = v1 := (Option.some.inj h1).symm
  obtain rfl : _ = v3 := (Option.some.inj h3).symm
  clear ln
  have d1 := roll_ok (m := 4) dk (by decide)
  have q1 := roll_lt (d := d) (m := 4) (by decide)
  obtain ⟨m, hm⟩ : ∃ m : Nat, rollV d 4 = (m : Int) := ⟨(rollV d 4).toNat, by omega⟩
  have m4 : m < 4 := by omega
  refine r_seq (r_asg (e_lcR (w_rng1n (c := m) (a_cons (e_roll (n := 0) rfl rfl e_c dk (by decide) (by decide) (sz20 (by decide))) a_nil) (by omega) (by omega)) (fun i => ⟨[S0, .own 0, v2, .d (di x), v4, s5 v5 i, v6, v7, v8, v9, v10, v11, v12, v13, v14, v15, v16, v17, v18, v19, v20, v21, v22, v23, v24, v25, v26, v27, v28, v29, v30], [.lst (rsN (rollD d 4) i).ds]⟩) (fun i => (rsL (rollD d 4) i).map fr) rfl rfl (fun i hi O' => ?_) (by omega)) ?_)
  · have k := rsN_ok d1 i
    have hc : 23 + 1 + 2 * i ≤ 1000 := by omega
    have k2 := roll_ok (m := 40) k (by decide)
    refine ⟨_, true, _, tgS_name (by decide), t_yes, .inl ⟨rfl, fr (rsV (rsN (rollD d 4) i)), _, e_tup (a_cons (e_roll (n := 0) rfl rfl e_c k (by omega) (by decide) (sz20 (by decide))) (a_cons (e_bin e_c (e_roll (n := 0) (d := rollD (rsN (rollD d 4) i) 40) rfl rfl e_c k2 (by omega) (by decide) (sz20 (by decide))) o_add) a_nil)) (Nat.le_of_ble_eq_true rfl), by show (rsL (rollD d 4) i ++ [_]).map fr = _; rw [List.map_append]; rfl, rfl⟩⟩
  generalize rollD d 4 = e at *
  obtain ⟨rl, ro⟩ := rsL_ok e m
  have dm := (rsN_ok d1 m).up (c' := 40) (by omega)
  generalize rsL e m = rs at *
  generalize rsN e m = e' at *
  generalize s5 v5 m = v5 at *
  have rl4 : rs.length < 4 := by omega
  clear q1 d1 dk hm
  refine r_seq (r_asg e_c ?_)
  have W := fun i => wF_ok ro i
  refine r_seq (r_forL (xs := rs.map fr) (e_var rfl) (fun i A => ∃ u v : SD, A = ⟨[S0, .own 0, v2, .d (di x), v4, v5, v6, v7, v8, v9, v10, v11, v12, v13, v14, v15, v16, .d (.lst (rs.map fr)), .d (di (wF (rs.take i))), u, v, v21, v22, v23, v24, v25, v26, v27, v28, v29, v30], [.lst e'.ds]⟩) ⟨v19, v20, rfl⟩ ?_ ?_)
  · rintro i y A hy ⟨u, v, rfl⟩
    rw [List.getElem?_map] at hy
    obtain ⟨p, hp, rfl⟩ := Option.map_eq_some_iff.mp hy
    have hi : i < rs.length := (List.getElem?_eq_some_iff.mp hp).1
    have po := ro p (List.mem_of_getElem? hp)
    obtain ⟨⟨w1, _, _⟩, w4⟩ := W i
    have w5 : wF (rs.take i) ≤ 27000 := Int.le_trans w4 (p30 i (by omega))
    obtain ⟨s1, s2, _⟩ := wS_ok w1 po
    have b0 := po.b0
    have b1 := po.b1
    refine ⟨_, tg_tup rfl (tgA_cons tg_name (tgA_cons tg_name tgA_nil)), ?_⟩
    have ew : (wF (rs.take i)).fdiv (Int.gcd (wF (rs.take i)) p.2) * p.2 = wF (rs.take (i + 1)) := by
      rw [wF_next hp, Int.fdiv_eq_ediv_of_nonneg _ (by omega)]
      rfl
    have g0 : (Int.gcd (wF (rs.take i)) p.2 : Int) ≠ 0 := by
      have := Int.gcd_pos_of_ne_zero_left p.2 (show wF (rs.take i) ≠ 0 by omega)
      omega
    have gl : Int.gcd (wF (rs.take i)) p.2 ≤ 27000 := by
      have := Int.gcd_le_left (b := p.2) (show 0 < wF (rs.take i) by omega)
      omega
    have dv : PDiv (wF (rs.take i)) (Int.gcd (wF (rs.take i)) p.2) := divX 20 (by show Int.gcd _ _ < 2 ^ 20; omega) g0
    have fz : ((wF (rs.take i)).fdiv (Int.gcd (wF (rs.take i)) p.2)).natAbs < 2 ^ 20 := Nat.lt_of_le_of_lt (fdiv_abs_le _ _) (by omega)
    refine r_asg (e_is (e_bin (e_bin (e_var rfl) (e_call (a_cons (e_var rfl) (a_cons (e_var rfl) a_nil)) ⟨_, _, rfl, sz20 (by omega), sz20 (by omega), rfl⟩) (o_I dv)) (e_var rfl) (o_mul (mulX 20 20 fz (by omega)))) (congrArg di ew)) ?_
    exact ⟨_, _, rfl⟩
  · rintro A ⟨u, v, rfl⟩
    rw [List.length_map, List.take_length]
    obtain ⟨⟨w1, _, _⟩, w4⟩ := W rs.length
    rw [List.take_length] at w1 w4
    have jd := join_due ro
    have w5 : wF rs ≤ 27000 := Int.le_trans w4 (p30 rs.length (by omega))
    have small : ∀ p ∈ rs, SmallR p := fun p hp => by
      obtain ⟨a0, a1, b0, b1⟩ := ro p hp
      exact ⟨by omega, by omega, by omega⟩
    generalize wF rs = q at *
    refine r_seq (r_asg (e_lcR (w_rng1n (c := q.toNat) (n := q) (a_cons (e_var rfl) a_nil) rfl (by omega)) (fun i => ⟨[S0, .own 0, v2, .d (di x), v4, s5 v5 i, v6, v7, v8, v9, v10, v11, v12, v13, v14, v15, v16, .d (.lst (rs.map fr)), .d (di q), itU u (rs.map fr).length i, itU v (rs.map fr).length i, v21, v22, v23, v24, v25, v26, v27, v28, v29, v30], [.lst e'.ds]⟩) (fun i => (fitY rs i).map di) rfl rfl (fun i hi O' => ?_) (by omega)) ?_)
    · have ek : (0 : Int) + (i : Int) = (i : Int) := by omega
      refine ⟨_, fitB rs i, ⟨[S0, .own 0, v2, .d (di x), v4, .d (di (0 + (i : Int))), v6, v7, v8, v9, v10, v11, v12, v13, v14, v15, v16, .d (.lst (rs.map fr)), .d (di q), itU u (rs.map fr).length (i + 1), itU v (rs.map fr).length (i + 1), v21, v22, v23, v24, v25, v26, v27, v28, v29, v30], [.lst e'.ds]⟩, tgS_name (by decide), t_is (t_test (e_bin (e_lcL (xs := rs.map fr) (e_var rfl) (fun j => ⟨[S0, .own 0, v2, .d (di x), v4, .d (di (0 + (i : Int))), v6, v7, v8, v9, v10, v11, v12, v13, v14, v15, v16, .d (.lst (rs.map fr)), .d (di q), s5 (itU u (rs.map fr).length i) j, s5 (itU v (rs.map fr).length i) j, v21, v22, v23, v24, v25, v26, v27, v28, v29, v30], [.lst e'.ds]⟩) (fun j => (badY (rs.take j) i).map fun _ => di 1) rfl rfl (fun j y hy O2 => ?_) (by rw [List.length_map]; omega)) (e_lst a_nil (by decide)) (o_eqNil (n := 0) (niceA_map (g := fun _ => PyData.int 1) (fun _ => .int) _)))) (by rw [List.length_map, List.take_length]; exact badY_nil rs i), ?_⟩
      · rw [List.getElem?_map] at hy
        obtain ⟨p, hp, rfl⟩ := Option.map_eq_some_iff.mp hy
        obtain ⟨a0, a1, b0, b1⟩ := ro p (List.mem_of_getElem? hp)
        have p0 : p.2 ≠ 0 := by omega
        have em : ((0 : Int) + (i : Int) - p.1).fmod p.2 = ((i : Int) - p.1) % p.2 := by rw [ek]; exact Int.fmod_eq_emod_of_nonneg _ (by omega)
        have tst : ∀ {A : AS}, A.sl[5]? = some (.d (di (0 + (i : Int)))) → A.sl[19]? = some (.d (di p.1)) → A.sl[20]? = some (.d (di p.2)) → EvT ⟨K, T, H0, O2⟩ (tTest (tOp (rNeA K) (tOp (rI (fun _ j => j ≠ 0) fun i j => .int (i.fmod j)) (tOp (rI0 fun i j => .int (i - j)) (tVar 5) (tVar 19)) (tVar 20)) (tC (.int 0)))) A (!decide (((i : Int) - p.1) % p.2 = 0)) A := fun h1 h2 h3 => t_is (t_test (e_bin (e_bin (e_bin (e_var h1) (e_var h2) o_I0) (e_var h3) (o_I p0)) e_c o_neI)) (by rw [em])
        rw [badY_next hp]
        by_cases h : ((i : Int) - p.1) % p.2 = 0
        · rw [if_pos h]
          exact ⟨_, false, _, tgS_tup rfl (tgsS_cons (tgS_name (by decide)) (tgsS_cons (tgS_name (by decide)) tgsS_nil)), t_is (tst rfl rfl rfl) (by simp [h]), .inr ⟨rfl, by rw [List.append_nil], rfl⟩⟩
        · rw [if_neg h]
          exact ⟨_, true, _, tgS_tup rfl (tgsS_cons (tgS_name (by decide)) (tgsS_cons (tgS_name (by decide)) tgsS_nil)), t_is (tst rfl rfl rfl) (by simp [h]), .inl ⟨rfl, _, _, e_c, by rw [List.map_append]; rfl, rfl⟩⟩
      · have ey : fitY rs (i + 1) = if fitB rs i then fitY rs i ++ [(i : Int)] else fitY rs i := rfl
        cases hb : fitB rs i with
        | true =>
          rw [hb, if_pos rfl] at ey
          exact .inl ⟨rfl, _, _, e_is (e_var rfl) (congrArg di ek), by rw [ey, List.map_append]; rfl, rfl⟩
        | false =>
          rw [hb, if_neg (by decide)] at ey
          exact .inr ⟨rfl, by rw [ey], rfl⟩
    · generalize itU u (rs.map fr).length q.toNat = u at *
      generalize itU v (rs.map fr).length q.toNat = v at *
      generalize s5 v5 q.toNat = v5 at *
      rcases jd with ⟨f, t, j1, j2⟩ | ⟨j1, j2⟩
      · rw [j2]
        have jr : joinR (NE K) (joinF rs (0, 1)) = .ok (fr (f, q)) := by rw [j1]; rfl
        refine r_seq (r_ifFs (t_is (t_test (e_bin (e_toldOk (C := ⟨K, T, H0, O⟩) fun E' => e_call (C := ⟨K, T, H0, O⟩) (a_cons (e_var rfl) a_nil) ⟨rs, rfl, by omega, small, jr.symm⟩) (e_ifT (t_is (t_test (e_bin (e_var rfl) (e_lst a_nil (by decide)) (o_neNil (n := 0) (niceA_map (g := PyData.int) (fun _ => .int) _)))) rfl) (e_tup (a_cons (e_bin (e_var rfl) e_c (o_ixL (d := di f) (at0 _ _))) (a_cons (e_var rfl) a_nil)) (Nat.le_of_ble_eq_true rfl))) (o_neSame (nice_fr (f, q))))) rfl) (r_next ?_))
        exact r' O _ ⟨e', x, ⟨rfl, rfl, rfl, rfl, dm⟩, rfl, hx⟩
      · rw [j2]
        have jr : joinR (NE K) (joinF rs (0, 1)) = .err (NE K) := by rw [j1]; rfl
        refine r_seq (r_ifFs (t_is (t_test (e_bin (e_toldErr (C := ⟨K, T, H0, O⟩) Tx.m fun E' => x_call (C := ⟨K, T, H0, O⟩) (a_cons (e_var rfl) a_nil) ⟨rs, rfl, by omega, small, jr.symm⟩) (e_ifF (t_is (t_test (e_bin (e_var rfl) (e_lst a_nil (by decide)) (o_neNil (n := 0) .nil))) rfl) e_c) (o_ne rfl))) (by simp)) (r_next ?_))
        exact r' O _ ⟨e', x, ⟨rfl, rfl, rfl, rfl, dm⟩, rfl, hx⟩

end Law.KY
end

section
set_option Elab.async false
set_option linter.all false
set_option maxRecDepth 100000
set_option maxHeartbeats 4000000
set_option autoImplicit false
set_option exponentiation.threshold 300
namespace Law.KY
open PySem PySem.Spec PyProof.Rows L2 Py Mt KF KS KC

local macro_rules | `(tactic| wtm_at "op") => `(tactic| first
  | with_reducible exact o_I0 | with_reducible exact o_add | with_reducible exact o_eqI | with_reducible exact o_neI
  | ((with_reducible apply o_mul); first | assumption | wtm_at "si")
  | ((with_reducible apply o_I); first | assumption | wtm_at "si")
  | ((with_reducible apply o_ixT); rfl) | ((with_reducible apply o_ixL); rfl)
  | ((with_reducible apply o_eqD) <;> first | rfl | decide | assumption) | ((with_reducible apply o_neD) <;> first | rfl | decide | assumption)
  | with_reducible assumption)
local macro_rules | `(tactic| wtm_at "si") => `(tactic| first | decide | exact ⟨by decide, by decide +kernel⟩ | omega)
local macro_rules | `(tactic| wtm_at "ev") => `(tactic| first
  | ((with_reducible apply e_var); rfl) | with_reducible exact e_c | with_reducible exact a_nil
  | ((with_reducible apply a_cons) <;> wtm_at "ev")
  | ((with_reducible apply e_bin) <;> first | wtm_at "ev" | wtm_at "op")
  | ((with_reducible apply e_ixO) <;> first | rfl | wtm_at "ev")
  | ((with_reducible apply e_U) <;> wtm_at "ev")
  | ((with_reducible apply t_test) <;> wtm_at "ev")
  | ((with_reducible apply t_B) <;> wtm_at "ev")
  | ((with_reducible apply t_not) <;> wtm_at "ev")
  | ((with_reducible apply e_tup) <;> first | wtm_at "ev" | exact Nat.le_of_ble_eq_true rfl)
  | ((with_reducible apply e_lst) <;> first | wtm_at "ev" | exact Nat.le_of_ble_eq_true rfl)
  | ((with_reducible apply e_gcd) <;> wtm_at "ev")
  | ((with_reducible apply e_abs) <;> wtm_at "ev")
  | ((with_reducible apply e_max2) <;> wtm_at "ev")
  | ((with_reducible apply e_int) <;> wtm_at "ev")
  | ((with_reducible apply e_intB) <;> wtm_at "ev")
  | ((with_reducible apply e_bits) <;> wtm_at "ev")
  | ((with_reducible apply e_not) <;> wtm_at "ev")
  | with_reducible assumption)

variable {P : Program} {w : World} {K : Frg} {T : List (Addr × Str)} {mg : Str → Option Value} {base : Heap} {A0 : Around} {outer : List Env} {s0 : Shared} {H0 : Hp} {E : XK}

theorem root_ex {n k : Nat} (hk : 0 < k) : ∃ r, IsRoot n k r := by
  have h0 : decide (n < (0 + n + 1) ^ k) = true := by
    refine decide_eq_true ?_
    rw [Nat.zero_add]
    exact Nat.lt_of_lt_of_le (Nat.lt_succ_self n) (Nat.le_self_pow (by omega) _)
  obtain ⟨r, _, _, h3, h4⟩ := least_of (p := fun r => decide (n < (r + 1) ^ k)) (m := 0) n h0
  refine ⟨r, ?_, of_decide_eq_true h3⟩
  cases r with
  | zero => rw [Nat.zero_pow hk]; exact Nat.zero_le _
  | succ r =>
    have := of_decide_eq_false (h4 r (Nat.zero_le _) (Nat.lt_succ_self r))
    omega
def Inv23 (S0 : SD) (A : AS) : Prop := ∃ (d : Dice) (x : Int), IA S0 A d 41 ∧ A.sl[3]? = some (.d (di x)) ∧ Sz 140 x
def Inv26 (S0 : SD) (A : AS) : Prop := ∃ (d : Dice), IA S0 A d 42

theorem seg20 (Z : GS P w K T mg base) (Tx : Txt5 K mg) (LB : LamB K base mg T "law") (hr : Room 20 (XL P w K mg base A0 outer s0 H0 E).A)
    (next : ∃ t, PSs (XL P w K mg base A0 outer s0 H0 E) (LBd.drop 23) t ∧ ∀ S0 O A, Inv23 S0 A → RunS ⟨K, T, H0, O⟩ E t A (PF S0)) :
    ∃ t, PSs (XL P w K mg base A0 outer s0 H0 E) (LBd.drop 20) t ∧ ∀ S0 O A, Inv20 S0 A → RunS ⟨K, T, H0, O⟩ E t A (PF S0) := by
  obtain ⟨t', h', r0'⟩ := next
  have sc := sc_law
  refine ⟨_, (pss_cons (ps_par (i := 22) (j := 16) rfl sc.nd rfl rfl (by decide) rfl rfl (pa_cons (pe_callB call_abs (by rfl) Tx.n_abs (by decide +kernel) (pa_cons (pv 3) pa_nil)) (pa_cons (pe_op op_addA pe_int (pe_callG Z.G__law_roll (hr.mono (by decide)) psE (pa_cons (pv 1) (pa_cons pe_int pa_nil)))) pa_nil)) (by rfl))
  (pss_cons (ps_set (i := 23) sc.nd rfl (Or.inl rfl) (pe_callG Z.G_root_below (hr.mono (by decide)) psE (pa_cons (pv 22) (pa_cons (pv 16) pa_nil))))
  (pss_cons (ps_if (pt_not (pt_chain op_le op_lt (pe_callG Z.G_power (hr.mono (by decide)) psE (pa_cons (pv 23) (pa_cons (pv 16) pa_nil))) (pv 22) (pe_callG Z.G_power (hr.mono (by decide)) psE (pa_cons (pe_op op_addA (pv 23) pe_int) (pa_cons (pv 16) pa_nil))))) (pss_one (ps_ret pe_bl)) pss_nil)
  h'))), fun S0 O A hA => ?_⟩
  have r' := r0' S0
  clear r0'
  clear sc hr h'
  try dsimp only [XL, cxOf]

  obtain ⟨d, x, ⟨ln, h0, h1, st, dk⟩, h3, hx⟩ := hA
  obtain ⟨sl, st'⟩ := A
  obtain rfl : st' = _ := st
  obtain ⟨v0, v1, v2, v3, v4, v5, v6, v7, v8, v9, v10, v11, v12, v13, v14, v15, v16, v17, v18, v19, v20, v21, v22, v23, v24, v25, v26, v27, v28, v29, v30, rfl⟩ := ex31 sl ln
  obtain rfl : _ = v0 := (Option.some.inj h0).symm
  obtain rfl : _ = v1 := (Option.some.inj h1).symm
  obtain rfl : _ = v3 := (Option.some.inj h3).symm
  clear ln
  have d1 := roll_ok (m := 4) dk (by decide)
  have q1 := roll_lt (d := d) (m := 4) (by decide)
  have ea : (if x < 0 then -x else x) = (x.natAbs : Int) := by split <;> omega
  refine r_seq (r_par (a_cons (e_is (e_abs (e_var rfl)) (congrArg di ea)) (a_cons (e_bin e_c (e_roll (n := 0) (m := 4) rfl rfl e_c dk (by decide) (by decide) (sz20 (by decide))) o_add) a_nil)) ?_)
  generalize rollD d 4 = d' at *
  generalize rollV d 4 = rr at *
  obtain ⟨k, hk⟩ : ∃ k : Nat, 1 + rr = (k : Int) := ⟨(1 + rr).toNat, by omega⟩
  rw [hk]
  have k1 : 0 < k := by omega
  have k2 : k ≤ 4 := by omega
  clear hk q1 ea
  obtain ⟨r, hr⟩ := root_ex (n := x.natAbs) k1
  refine r_seq (r_asg (e_call (a_cons (e_var rfl) (a_cons (e_var rfl) a_nil)) (.inr ⟨x.natAbs, k, r, rfl, k1, by omega, Nat.lt_of_lt_of_le hx (Nat.pow_le_pow_right (by decide) (by decide)), hr, rfl⟩)) ?_)
  obtain ⟨r1, r2⟩ := hr
  have rx : r ≤ x.natAbs := Nat.le_trans (Nat.le_self_pow (by omega) r) r1
  have hx' : x.natAbs < 2 ^ 140 := hx
  have z1 : Sz 600 ((r : Int) ^ k) := pw_sz (a := 140) (by omega) (by omega)
  have z2 : Sz 600 (((r : Int) + 1) ^ k) := pw_sz (a := 141) (by omega) (by omega)
  have zr : Sz 20000000 (r : Int) := szUp (n := 140) (by show r < 2 ^ 140; omega) (by decide)
  have zr1 : Sz 20000000 ((r : Int) + 1) := szUp (n := 141) (by show ((r : Int) + 1).natAbs < 2 ^ 141; omega) (by decide)
  have c1 : (r : Int) ^ k ≤ (x.natAbs : Int) := by rw [← Int.natCast_pow]; omega
  have c2 : (x.natAbs : Int) < ((r : Int) + 1) ^ k := by
    rw [show (r : Int) + 1 = ((r + 1 : Nat) : Int) by omega, ← Int.natCast_pow]
    omega
  refine r_seq (r_ifFs (t_is (t_not (t_test (e_chainT (e_call (a_cons (e_var rfl) (a_cons (e_var rfl) a_nil)) ⟨(r : Int), k, rfl, szUp z1 (by decide), zr, rfl⟩) (e_var rfl) (o_is o_I0 (congrArg db (decide_eq_true c1))) (e_call (a_cons (e_bin (e_var rfl) e_c o_add) (a_cons (e_var rfl) a_nil)) ⟨(r : Int) + 1, k, rfl, szUp z2 (by decide), zr1, rfl⟩) (o_is o_I0 (congrArg db (decide_eq_true c2)))))) rfl) (r_next ?_))
  exact r' O _ ⟨d', x, ⟨rfl, rfl, rfl, rfl, d1⟩, rfl, hx⟩

theorem seg23 (Z : GS P w K T mg base) (Tx : Txt5 K mg) (LB : LamB K base mg T "law") (hr : Room 20 (XL P w K mg base A0 outer s0 H0 E).A)
    (next : ∃ t, PSs (XL P w K mg base A0 outer s0 H0 E) (LBd.drop 26) t ∧ ∀ S0 O A, Inv26 S0 A → RunS ⟨K, T, H0, O⟩ E t A (PF S0)) :
    ∃ t, PSs (XL P w K mg base A0 outer s0 H0 E) (LBd.drop 23) t ∧ ∀ S0 O A, Inv23 S0 A → RunS ⟨K, T, H0, O⟩ E t A (PF S0) := by
  obtain ⟨t', h', r0'⟩ := next
  have sc := sc_law
  refine ⟨_, (pss_cons (ps_set (i := 24) sc.nd rfl (Or.inl rfl) (pe_op op_addA pe_int (pe_callG Z.G__law_roll (hr.mono (by decide)) psE (pa_cons (pv 1) (pa_cons pe_int pa_nil)))))
  (pss_cons (ps_set (i := 25) sc.nd rfl (Or.inl rfl) (pe_callG Z.G_convergents (hr.mono (by decide)) psE (pa_cons (pv 3) (pa_cons (pv 24) pa_nil))))
  (pss_cons (ps_if (pt_cmpR (op_neA hr.units) (pe_callTy call_list_of (by rfl) Tx.n_list (by decide +kernel) (pa_cons (pv 25) pa_nil)) (pe_callG Z.G__law_convergents (hr.mono (by decide)) psE (pa_cons (pv 3) (pa_cons (pv 24) pa_nil))) (nomark _)) (pss_one (ps_ret pe_bl)) pss_nil)
  h'))), fun S0 O A hA => ?_⟩
  have r' := r0' S0
  clear r0'
  clear sc hr h'
  try dsimp only [XL, cxOf]

  obtain ⟨d, x, ⟨ln, h0, h1, st, dk⟩, h3, hx⟩ := hA
  obtain ⟨sl, st'⟩ := A
  obtain rfl : st' = _ := st
  obtain ⟨v0, v1, v2, v3, v4, v5, v6, v7, v8, v9, v10, v11, v12, v13, v14, v15, v16, v17, v18, v19, v20, v21, v22, v23, v24, v25, v26, v27, v28, v29, v30, rfl⟩ := ex31 sl ln
  obtain rfl : _ = v0 := (Option.some.inj h0).symm
  obtain rfl : _ = v1 := (Option.some.inj h1).symm
  obtain rfl : _ = v3 := (Option.some.inj h3).symm
  clear ln
  have d1 := roll_ok (m := 500) dk (by decide)
  have q1 := roll_lt (d := d) (m := 500) (by decide)
  refine r_seq (r_asg (e_bin e_c (e_roll (n := 0) rfl rfl e_c dk (by decide) (by decide) (sz20 (by decide))) o_add) ?_)
  generalize rollD d 500 = d' at *
  generalize rollV d 500 = rr at *
  refine r_seq (r_asg (e_call (a_cons (e_var rfl) (a_cons (e_var rfl) a_nil)) ⟨x, 1 + rr, rfl, szUp hx (by decide), by omega, by omega, rfl⟩) ?_)
  refine r_seq (r_ifFs (t_is (t_test (e_bin (e_listT (e_var rfl)) (e_call (a_cons (e_var rfl) (a_cons (e_var rfl) a_nil)) ⟨x, 1 + rr, rfl, szUp hx (by decide), by omega, by omega, rfl⟩) (o_neSame (nice_frs _)))) rfl) (r_next ?_))
  exact r' O _ ⟨d', rfl, rfl, rfl, rfl, d1⟩

end Law.KY
end

section
set_option Elab.async false
set_option linter.all false
set_option maxRecDepth 100000
set_option maxHeartbeats 4000000
set_option autoImplicit false
set_option exponentiation.threshold 300
namespace Law.KY
open PySem PySem.Spec PyProof.Rows L2 Py Mt KF KC KR

local macro_rules | `(tactic| wtm_at "op") => `(tactic| first
  | with_reducible exact o_I0 | with_reducible exact o_add | with_reducible exact o_eqI | with_reducible exact o_neI
  | ((with_reducible apply o_mul); first | assumption | wtm_at "si")
  | ((with_reducible apply o_I); first | assumption | wtm_at "si")
  | ((with_reducible apply o_ixT); rfl) | ((with_reducible apply o_ixL); rfl)
  | ((with_reducible apply o_eqD) <;> first | rfl | decide | assumption) | ((with_reducible apply o_neD) <;> first | rfl | decide | assumption)
  | with_reducible assumption)
local macro_rules | `(tactic| wtm_at "si") => `(tactic| first | decide | exact ⟨by decide, by decide +kernel⟩ | omega)
local macro_rules | `(tactic| wtm_at "ev") => `(tactic| first
  | ((with_reducible apply e_var); rfl) | with_reducible exact e_c | with_reducible exact a_nil
  | ((with_reducible apply a_cons) <;> wtm_at "ev")
  | ((with_reducible apply e_bin) <;> first | wtm_at "ev" | wtm_at "op")
  | ((with_reducible apply e_ixO) <;> first | rfl | wtm_at "ev")
  | ((with_reducible apply e_U) <;> wtm_at "ev")
  | ((with_reducible apply t_test) <;> wtm_at "ev")
  | ((with_reducible apply t_B) <;> wtm_at "ev")
  | ((with_reducible apply t_not) <;> wtm_at "ev")
  | ((with_reducible apply e_tup) <;> first | wtm_at "ev" | exact Nat.le_of_ble_eq_true rfl)
  | ((with_reducible apply e_lst) <;> first | wtm_at "ev" | exact Nat.le_of_ble_eq_true rfl)
  | ((with_reducible apply e_gcd) <;> wtm_at "ev")
  | ((with_reducible apply e_abs) <;> wtm_at "ev")
  | ((with_reducible apply e_max2) <;> wtm_at "ev")
  | ((with_reducible apply e_int) <;> wtm_at "ev")
  | ((with_reducible apply e_intB) <;> wtm_at "ev")
  | ((with_reducible apply e_bits) <;> wtm_at "ev")
  | ((with_reducible apply e_not) <;> wtm_at "ev")
  | with_reducible assumption)

variable {P : Program} {w : World} {K : Frg} {T : List (Addr × Str)} {mg : Str → Option Value} {base : Heap} {A0 : Around} {outer : List Env} {s0 : Shared} {H0 : Hp} {E : XK}

/-! ### fractions in lowest terms -/
structure Low (p : Int × Int) : Prop where
  q : 0 < p.2
  g : Int.gcd p.1 p.2 = 1
  a : p.1.natAbs ≤ 50
  b : p.2 ≤ 20
theorem ratI_pos {a b : Int} (hb : 0 < b) : ratI a b = (a / Int.gcd a b, b / Int.gcd a b) := by
  unfold ratI
  rw [if_neg (by omega), Int.fdiv_eq_ediv_of_nonneg _ (by omega), Int.fdiv_eq_ediv_of_nonneg _ (by omega)]
theorem ratI_low {a b : Int} (hb : 0 < b) (h1 : a.natAbs ≤ 50) (h2 : b ≤ 20) : Low (ratI a b) := by
  have g0 : 0 < Int.gcd a b := Int.gcd_pos_of_ne_zero_right _ (by omega)
  obtain ⟨l1, l2⟩ := ratI_le a b
  have e := ratI_pos (a := a) hb
  have d2 : (Int.gcd a b : Int) ∣ b := Int.gcd_dvd_right ..
  refine ⟨?_, ?_, Nat.le_trans l1 h1, by omega⟩
  · rw [e]
    exact Int.ediv_pos_of_pos_of_dvd hb (by omega) d2
  · rw [e]
    exact Int.gcd_ediv_gcd_ediv_gcd g0
theorem ratI_one {p q : Int} (hq : 0 < q) (hg : Int.gcd p q = 1) : ratI p q = (p, q) := by
  rw [ratI_pos hq, hg]
  simp
theorem ratI_six {p q : Int} (hq : 0 < q) (hg : Int.gcd p q = 1) : ratI (p * 6) (q * -6) = (-p, q) := by
  have e : Int.gcd (p * 6) (q * -6) = 6 := by
    unfold Int.gcd at hg ⊢
    rw [Int.natAbs_mul, Int.natAbs_mul]
    show Nat.gcd (p.natAbs * 6) (q.natAbs * 6) = 6
    rw [Nat.gcd_mul_right, hg]
  unfold ratI
  rw [if_pos (by omega), e]
  have e1 : p * 6 = (-p) * (-6) := by omega
  rw [e1]
  show (((-p) * (-6)).fdiv (-6), (q * -6).fdiv (-6)) = _
  rw [Int.mul_fdiv_cancel _ (by decide), Int.mul_fdiv_cancel _ (by decide)]
theorem empty_app (z : Str) : Str.empty ++ z = z := by
  show (⟨#[] ++ z.cps⟩ : Str) = z
  rw [Array.empty_append]
def Inv30 (S0 : SD) (A : AS) : Prop := ∃ (d : Dice) (a : Int × Int), IA S0 A d 46 ∧ A.sl[26]? = some (.d (fr a)) ∧ Low a

theorem seg26 (Z : GS P w K T mg base) (Tx : Txt5 K mg) (LB : LamB K base mg T "law") (hr : Room 20 (XL P w K mg base A0 outer s0 H0 E).A)
    (next : ∃ t, PSs (XL P w K mg base A0 outer s0 H0 E) (LBd.drop 30) t ∧ ∀ S0 O A, Inv30 S0 A → RunS ⟨K, T, H0, O⟩ E t A (PF S0)) :
    ∃ t, PSs (XL P w K mg base A0 outer s0 H0 E) (LBd.drop 26) t ∧ ∀ S0 O A, Inv26 S0 A → RunS ⟨K, T, H0, O⟩ E t A (PF S0) := by
  obtain ⟨t', h', r0'⟩ := next
  have sc := sc_law
  refine ⟨_, (pss_cons (ps_asg (pe_tup (pa_cons (pe_callG Z.G__law_frac (hr.mono (by decide)) psE (pa_cons (pe_op op_sub (pe_callG Z.G__law_roll (hr.mono (by decide)) psE (pa_cons (pv 1) (pa_cons pe_int pa_nil))) pe_int) (pa_cons (pe_op op_addA pe_int (pe_callG Z.G__law_roll (hr.mono (by decide)) psE (pa_cons (pv 1) (pa_cons pe_int pa_nil)))) pa_nil))) (pa_cons (pe_callG Z.G__law_frac (hr.mono (by decide)) psE (pa_cons (pe_op op_sub (pe_callG Z.G__law_roll (hr.mono (by decide)) psE (pa_cons (pv 1) (pa_cons pe_int pa_nil))) pe_int) (pa_cons (pe_op op_addA pe_int (pe_callG Z.G__law_roll (hr.mono (by decide)) psE (pa_cons (pv 1) (pa_cons pe_int pa_nil)))) pa_nil))) pa_nil))) (pg_tup rfl (pgs_cons (pg_name (i := 26) sc.nd rfl (Or.inr rfl)) (pgs_cons (pg_name (i := 27) sc.nd rfl (Or.inr rfl)) pgs_nil))))
  (pss_cons (ps_if (PW.pt (pw_or (pt_cmpR (op_neA hr.units) (pe_callG Z.G_rational (hr.mono (by decide)) psE (pa_cons (pe_op op_mulA (pe_ix ix_seq (pv 26) pe_int (fun _ _ => rfl)) pe_int) (pa_cons (pe_op op_mulA (pe_ix ix_seq (pv 26) pe_int (fun _ _ => rfl)) (pe_un un_neg pe_int)) pa_nil))) (pe_tup (pa_cons (pe_un un_neg (pe_ix ix_seq (pv 26) pe_int (fun _ _ => rfl))) (pa_cons (pe_ix ix_seq (pv 26) pe_int (fun _ _ => rfl)) pa_nil))) (nomark _)) (pw_or (pt_cmpR (op_neA hr.units) (pe_callG Z.G_sum_of (hr.mono (by decide)) psE (pa_cons (pv 26) (pa_cons (pv 27) pa_nil))) (pe_callG Z.G__law_plus (hr.mono (by decide)) psE (pa_cons (pv 26) (pa_cons (pv 27) pa_nil))) (nomark _)) (pw_or (pt_cmpR (op_neA hr.units) (pe_callG Z.G_product_of (hr.mono (by decide)) psE (pa_cons (pv 26) (pa_cons (pv 27) pa_nil))) (pe_callG Z.G__law_times (hr.mono (by decide)) psE (pa_cons (pv 26) (pa_cons (pv 27) pa_nil))) (nomark _)) (pw_or1 (pt_cmpR (op_neA hr.units) (pe_callG Z.G_difference_of (hr.mono (by decide)) psE (pa_cons (pv 26) (pa_cons (pv 27) pa_nil))) (pe_callG Z.G__law_plus (hr.mono (by decide)) psE (pa_cons (pv 26) (pa_cons (pe_tup (pa_cons (pe_un un_neg (pe_ix ix_seq (pv 27) pe_int (fun _ _ => rfl))) (pa_cons (pe_ix ix_seq (pv 27) pe_int (fun _ _ => rfl)) pa_nil))) pa_nil))) (nomark _))))))) (pss_one (ps_ret pe_bl)) pss_nil)
  (pss_cons (ps_if (PW.pt (pw_or (pt_cmpR (op_neA hr.units) (pe_toldN (f := "law") (k := 10) Z.F_told Z.hm_told Tx.gNumberError LB rfl rfl (hr.mono (by decide)) (show LamX.LamS (defScope s_law) _ from LamX.lamS_by (by decide +kernel)) rfl (fun _ _ _ _ _ => rfl) (fun A outer s H E f c' hr => (pe_callG Z.G_quotient_of (hr.mono (by decide)) psF (pa_cons (pv 26) (pa_cons (pv 27) pa_nil))))) (pe_ifExp (pt_cmpR (op_neA hr.units) (pe_ix ix_seq (pv 27) pe_int (fun _ _ => rfl)) pe_int (nomark _)) (pe_callG Z.G__law_frac (hr.mono (by decide)) psE (pa_cons (pe_op op_mulA (pe_ix ix_seq (pv 26) pe_int (fun _ _ => rfl)) (pe_ix ix_seq (pv 27) pe_int (fun _ _ => rfl))) (pa_cons (pe_op op_mulA (pe_ix ix_seq (pv 26) pe_int (fun _ _ => rfl)) (pe_ix ix_seq (pv 27) pe_int (fun _ _ => rfl))) pa_nil))) pe_str) (nomark _)) (pw_or1 (pt_cmpR (op_neA hr.units) (pe_callG Z.G_compared (hr.mono (by decide)) psE (pa_cons (pv 26) (pa_cons (pv 27) pa_nil))) (pe_callG Z.G_sign (hr.mono (by decide)) psE (pa_cons (pe_callG Z.G__law_plus (hr.mono (by decide)) psE (pa_cons (pv 26) (pa_cons (pe_tup (pa_cons (pe_un un_neg (pe_ix ix_seq (pv 27) pe_int (fun _ _ => rfl))) (pa_cons (pe_ix ix_seq (pv 27) pe_int (fun _ _ => rfl)) pa_nil))) pa_nil))) pa_nil)) (nomark _))))) (pss_one (ps_ret pe_bl)) pss_nil)
  (pss_cons (ps_if (PW.pt (pw_or (pt_cmpR (op_neA hr.units) (pe_callG Z.G_sign (hr.mono (by decide)) psE (pa_cons (pv 26) pa_nil)) (pe_op op_subBB (pe_cmpR op_gt (pe_ix ix_seq (pv 26) pe_int (fun _ _ => rfl)) pe_int (nomark _)) (pe_cmpR op_lt (pe_ix ix_seq (pv 26) pe_int (fun _ _ => rfl)) pe_int (nomark _))) (nomark _)) (pw_or1 (pt_cmpR (op_neA hr.units) (pe_callG Z.G_rational_text (hr.mono (by decide)) psE (pa_cons (pv 26) pa_nil)) (pe_ifExp (pt_cmpR (op_eqA hr.units) (pe_ix ix_seq (pv 26) pe_int (fun _ _ => rfl)) pe_int (nomark _)) (pe_callTy call_str_int (by rfl) Tx.n_str (by decide +kernel) (pa_cons (pe_ix ix_seq (pv 26) pe_int (fun _ _ => rfl)) pa_nil)) (pe_op op_addA (pe_op op_addA (pe_callTy call_str_int (by rfl) Tx.n_str (by decide +kernel) (pa_cons (pe_ix ix_seq (pv 26) pe_int (fun _ _ => rfl)) pa_nil)) pe_str) (pe_callTy call_str_int (by rfl) Tx.n_str (by decide +kernel) (pa_cons (pe_ix ix_seq (pv 26) pe_int (fun _ _ => rfl)) pa_nil)))) (nomark _))))) (pss_one (ps_ret pe_bl)) pss_nil)
  h')))), fun S0 O A hA => ?_⟩
  have r' := r0' S0
  clear r0'
  clear sc hr h'
  try dsimp only [XL, cxOf]

  obtain ⟨d, ln, h0, h1, st, dk⟩ := hA
  obtain ⟨sl, st'⟩ := A
  obtain rfl : st' = _ := st
  obtain ⟨v0, v1, v2, v3, v4, v5, v6, v7, v8, v9, v10, v11, v12, v13, v14, v15, v16, v17, v18, v19, v20, v21, v22, v23, v24, v25, v26, v27, v28, v29, v30, rfl⟩ := ex31 sl ln
  obtain rfl : _ = v0 := (Option.some.inj h0).symm
  obtain rfl : _ = v1 := (Option.some.inj h1).symm
  clear ln
  have d1 := roll_ok (m := 99) dk (by decide)
  have d2 := roll_ok (m := 20) d1 (by decide)
  have d3 := roll_ok (m := 99) d2 (by decide)
  have d4 := roll_ok (m := 20) d3 (by decide)
  have q1 := roll_lt (d := d) (m := 99) (by decide)
  have q2 := roll_lt (d := rollD d 99) (m := 20) (by decide)
  have q3 := roll_lt (d := rollD (rollD d 99) 20) (m := 99) (by decide)
  have q4 := roll_lt (d := rollD (rollD (rollD d 99) 20) 99) (m := 20) (by decide)
  refine r_seq (r_tg (e_tup (a_cons (e_call (a_cons (e_bin (e_roll (n := 0) (m := 99) rfl rfl e_c dk (by decide) (by decide) (sz20 (by decide))) e_c o_I0) (a_cons (e_bin e_c (e_roll (n := 0) (m := 20) (d := rollD d 99) rfl rfl e_c d1 (by decide) (by decide) (sz20 (by decide))) o_add) a_nil)) ⟨_, _, rfl, sz20 (by omega), sz20 (by omega), by omega, rfl⟩) (a_cons (e_call (a_cons (e_bin (e_roll (n := 0) (m := 99) (d := rollD (rollD d 99) 20) rfl rfl e_c d2 (by decide) (by decide) (sz20 (by decide))) e_c o_I0) (a_cons (e_bin e_c (e_roll (n := 0) (m := 20) (d := rollD (rollD (rollD d 99) 20) 99) rfl rfl e_c d3 (by decide) (by decide) (sz20 (by decide))) o_add) a_nil)) ⟨_, _, rfl, sz20 (by omega), sz20 (by omega), by omega, rfl⟩) a_nil)) (Nat.le_of_ble_eq_true rfl)) (tg_tup rfl (tgA_cons tg_name (tgA_cons tg_name tgA_nil))) ?_)
  have la : Low (ratI (rollV d 99 - 50) (1 + rollV (rollD d 99) 20)) := ratI_low (by omega) (by omega) (by omega)
  have lb : Low (ratI (rollV (rollD (rollD d 99) 20) 99 - 50) (1 + rollV (rollD (rollD (rollD d 99) 20) 99) 20)) := ratI_low (by omega) (by omega) (by omega)
  clear q1 q2 q3 q4
  generalize ratI (rollV d 99 - 50) (1 + rollV (rollD d 99) 20) = a at *
  generalize ratI (rollV (rollD (rollD d 99) 20) 99 - 50) (1 + rollV (rollD (rollD (rollD d 99) 20) 99) 20) = b at *
  generalize rollD (rollD (rollD (rollD d 99) 20) 99) 20 = d' at *
  clear d1 d2 d3 dk
  obtain ⟨aq, ag, aa, ab⟩ := la
  obtain ⟨bq, bg, ba, bb⟩ := lb
  have sa : SzF 3000 a := ⟨szUp (n := 20) (by show a.1.natAbs < 2 ^ 20; omega) (by decide), szUp (n := 20) (by show a.2.natAbs < 2 ^ 20; omega) (by decide)⟩
  have sb : SzF 3000 b := ⟨szUp (n := 20) (by show b.1.natAbs < 2 ^ 20; omega) (by decide), szUp (n := 20) (by show b.2.natAbs < 2 ^ 20; omega) (by decide)⟩
  have sn : SzF 3000 (-b.1, b.2) := ⟨szUp (n := 20) (by show (-b.1).natAbs < 2 ^ 20; omega) (by decide), szUp (n := 20) (by show b.2.natAbs < 2 ^ 20; omega) (by decide)⟩
  have pq : a.2 * b.2 ≠ 0 := Int.mul_ne_zero (by omega) (by omega)
  have m1 : PMul a.1 6 := mulX 20 20 (by omega) (by decide)
  have m2 : PMul a.2 (-6) := mulX 20 20 (by omega) (by decide)
  have a0 : ∀ {A : AS}, A.sl[26]? = some (.d (fr a)) → EvS ⟨K, T, H0, O⟩ (tOp (rIx K) (tVar 26) (tC (.int 0))) A (di a.1) A := fun h => e_bin (C := ⟨K, T, H0, O⟩) (e_var h) e_c (o_ixT rfl)
  have a1 : ∀ {A : AS}, A.sl[26]? = some (.d (fr a)) → EvS ⟨K, T, H0, O⟩ (tOp (rIx K) (tVar 26) (tC (.int 1))) A (di a.2) A := fun h => e_bin (C := ⟨K, T, H0, O⟩) (e_var h) e_c (o_ixT rfl)
  have b0 : ∀ {A : AS}, A.sl[27]? = some (.d (fr b)) → EvS ⟨K, T, H0, O⟩ (tOp (rIx K) (tVar 27) (tC (.int 0))) A (di b.1) A := fun h => e_bin (C := ⟨K, T, H0, O⟩) (e_var h) e_c (o_ixT rfl)
  have b1 : ∀ {A : AS}, A.sl[27]? = some (.d (fr b)) → EvS ⟨K, T, H0, O⟩ (tOp (rIx K) (tVar 27) (tC (.int 1))) A (di b.2) A := fun h => e_bin (C := ⟨K, T, H0, O⟩) (e_var h) e_c (o_ixT rfl)
  have r6 : ratR (NE K) (a.1 * 6) (a.2 * -6) = .ok (fr (-a.1, a.2)) := by
    unfold ratR
    rw [if_neg (by omega), ratI_six aq ag]
  have rS : ∀ u : Int, ratR (NE K) u (a.2 * b.2) = .ok (fr (ratI u (a.2 * b.2))) := fun u => by
    unfold ratR
    rw [if_neg pq]
  have dEq : a.1 * b.2 + -b.1 * a.2 = a.1 * b.2 - b.1 * a.2 := by grind
  have go : ∀ {A : AS} {P : Po} {t u : TS} {tt : TT}, EvT ⟨K, T, H0, O⟩ tt A false A → RunS ⟨K, T, H0, O⟩ E u A P → RunS ⟨K, T, H0, O⟩ E (tIfS tt t u) A P := fun h h' => r_ifFs h h'
  refine r_seq (go (t_orF (t_is (t_test (e_bin (e_call (a_cons (e_bin (a0 rfl) e_c (o_mul m1)) (a_cons (e_bin (a1 rfl) (e_U e_c) (o_mul m2)) a_nil)) ⟨_, _, rfl, sz20 (by omega), r6.symm⟩) (e_tup (a_cons (e_U (a0 rfl)) (a_cons (a1 rfl) a_nil)) (Nat.le_of_ble_eq_true rfl)) (o_neSame (nice_fr (-a.1, a.2))))) rfl)
    (t_orF (t_is (t_test (e_bin (e_call (a_cons (e_var rfl) (a_cons (e_var rfl) a_nil)) ⟨a, b, rfl, sa, sb, (rS _).symm⟩) (e_call (a_cons (e_var rfl) (a_cons (e_var rfl) a_nil)) ⟨a, b, rfl, sa, sb, pq, rfl⟩) (o_neSame (nice_fr _)))) rfl)
    (t_orF (t_is (t_test (e_bin (e_call (a_cons (e_var rfl) (a_cons (e_var rfl) a_nil)) ⟨a, b, rfl, sa, sb, (rS _).symm⟩) (e_call (a_cons (e_var rfl) (a_cons (e_var rfl) a_nil)) ⟨a, b, rfl, sa, sb, pq, rfl⟩) (o_neSame (nice_fr _)))) rfl)
    (t_is (t_test (e_bin (e_call (a_cons (e_var rfl) (a_cons (e_var rfl) a_nil)) ⟨a, b, rfl, sa, sb, (rS _).symm⟩) (e_call (a_cons (e_var rfl) (a_cons (e_tup (a_cons (e_U (b0 rfl)) (a_cons (b1 rfl) a_nil)) (Nat.le_of_ble_eq_true rfl)) a_nil)) ⟨a, (-b.1, b.2), rfl, sa, sn, pq, by dsimp only; rw [dEq]⟩) (o_neSame (nice_fr _)))) rfl)))) (r_next ?_))
  have c0 : a.2 * b.1 = 0 ↔ b.1 = 0 := by
    constructor
    · intro h
      rcases Int.mul_eq_zero.mp h with z | z
      · omega
      · exact z
    · intro h
      rw [h, Int.mul_zero]
  have z1 : (a.1 * b.2).natAbs < 2 ^ 20 := by
    rw [Int.natAbs_mul]
    have := Nat.mul_le_mul aa (show b.2.natAbs ≤ 20 by omega)
    omega
  have z2 : (a.2 * b.1).natAbs < 2 ^ 20 := by
    rw [Int.natAbs_mul]
    have := Nat.mul_le_mul (show a.2.natAbs ≤ 20 by omega) ba
    omega
  have n1 : PMul a.1 b.2 := mulX 20 20 (by omega) (by omega)
  have n2 : PMul a.2 b.1 := mulX 20 20 (by omega) (by omega)
  have cmp : EvT ⟨K, T, H0, O⟩ (tTest (tOp (rNeA K) (tCall (spD K T (KR.sp_cmp K)) [] E (tCons (tVar 26) (tCons (tVar 27) tNil))) (tCall (spD K T KR.sp_sign) [] E (tCons (tCall (spD K T (KC.sp_ltwo (fun p q => p.1 * q.2 + q.1 * p.2) (fun p q => p.2 * q.2))) [] E (tCons (tVar 26) (tCons (tTup (tCons (tUn (rU fun i => .int (-i)) (tOp (rIx K) (tVar 27) (tC (.int 0)))) (tCons (tOp (rIx K) (tVar 27) (tC (.int 1))) tNil))) tNil))) tNil)))) ⟨[S0, .own 0, v2, v3, v4, v5, v6, v7, v8, v9, v10, v11, v12, v13, v14, v15, v16, v17, v18, v19, v20, v21, v22, v23, v24, v25, .d (fr a), .d (fr b), v28, v29, v30], [.lst d'.ds]⟩ false ⟨[S0, .own 0, v2, v3, v4, v5, v6, v7, v8, v9, v10, v11, v12, v13, v14, v15, v16, v17, v18, v19, v20, v21, v22, v23, v24, v25, .d (fr a), .d (fr b), v28, v29, v30], [.lst d'.ds]⟩ := by
    refine t_is (t_test (e_bin (e_call (a_cons (e_var rfl) (a_cons (e_var rfl) a_nil)) ⟨a, b, rfl, sa, sb, pq, rfl⟩) (e_call (a_cons (e_call (a_cons (e_var rfl) (a_cons (e_tup (a_cons (e_U (b0 rfl)) (a_cons (b1 rfl) a_nil)) (Nat.le_of_ble_eq_true rfl)) a_nil)) ⟨a, (-b.1, b.2), rfl, sa, sn, pq, rfl⟩) a_nil) ⟨_, rfl, rfl⟩) o_neI)) ?_
    refine (congrArg (fun z => !z) (decide_eq_true ?_)).trans rfl
    dsimp only
    rw [dEq]
  have sg : KR.sgn a.1 = (if decide (a.1 > 0) = true then 1 else 0) - (if decide (a.1 < 0) = true then 1 else 0) := by
    unfold KR.sgn
    by_cases h : a.1 = 0
    · simp [h]
    · by_cases h' : 0 < a.1
      · simp [h, h']; omega
      · simp [h, h']; omega
  have tx : TxtOk a := by
    have t := txt_small ⟨(a.1 + 60).toNat, by omega⟩ ⟨a.2.toNat, by omega⟩
    have e1 : (((a.1 + 60).toNat : Int) - 60) = a.1 := by omega
    have e2 : ((a.2.toNat : Nat) : Int) = a.2 := by omega
    dsimp only at t
    rw [e1, e2] at t
    exact ⟨Nat.lt_of_le_of_lt aa (by decide), Nat.lt_of_le_of_lt (show a.2.natAbs ≤ 20 by omega) (by decide), Nat.le_trans (Nat.le_trans (app_len _ (Str.ofString "/")) (app_len _ _)) t, t⟩
  have fin : RunS ⟨K, T, H0, O⟩ E _ ⟨[S0, .own 0, v2, v3, v4, v5, v6, v7, v8, v9, v10, v11, v12, v13, v14, v15, v16, v17, v18, v19, v20, v21, v22, v23, v24, v25, .d (fr a), .d (fr b), v28, v29, v30], [.lst d'.ds]⟩ (PF S0) := r' O ⟨[S0, .own 0, v2, v3, v4, v5, v6, v7, v8, v9, v10, v11, v12, v13, v14, v15, v16, v17, v18, v19, v20, v21, v22, v23, v24, v25, .d (fr a), .d (fr b), v28, v29, v30], [.lst d'.ds]⟩ ⟨d', a, ⟨rfl, rfl, rfl, rfl, d4⟩, rfl, ⟨aq, ag, aa, ab⟩⟩
  refine r_seq (go (t_orF ?_ cmp) (r_next (r_seq (go (t_orF (t_is (t_test (e_bin (e_call (a_cons (e_var rfl) a_nil) ⟨a, rfl, rfl⟩) (e_bin (e_bin (a0 rfl) e_c o_I0) (e_bin (a0 rfl) e_c o_I0) o_subBB) o_neI)) (by rw [sg]; simp)) ?_) (r_next fin)))))
  · by_cases hb0 : b.1 = 0
    · have rq : ratR (NE K) (a.1 * b.2) (a.2 * b.1) = .err (NE K) := by
        unfold ratR
        rw [if_pos (c0.mpr hb0)]
      exact t_is (t_test (e_bin (e_toldErr (C := ⟨K, T, H0, O⟩) Tx.m fun E' => x_call (C := ⟨K, T, H0, O⟩) (a_cons (e_var rfl) (a_cons (e_var rfl) a_nil)) ⟨a, b, rfl, sa, sb, rq.symm⟩) (e_ifF (t_is (t_test (e_bin (b0 rfl) e_c o_neI)) (by simp [hb0])) e_c) (o_ne rfl))) (by simp)
    · have rq : ratR (NE K) (a.1 * b.2) (a.2 * b.1) = .ok (fr (ratI (a.1 * b.2) (a.2 * b.1))) := by
        unfold ratR
        rw [if_neg fun z => hb0 (c0.mp z)]
      exact t_is (t_test (e_bin (e_toldOk (C := ⟨K, T, H0, O⟩) fun E' => e_call (C := ⟨K, T, H0, O⟩) (a_cons (e_var rfl) (a_cons (e_var rfl) a_nil)) ⟨a, b, rfl, sa, sb, rq.symm⟩) (e_ifT (t_is (t_test (e_bin (b0 rfl) e_c o_neI)) (by simp [hb0])) (e_call (a_cons (e_bin (a0 rfl) (b1 rfl) (o_mul n1)) (a_cons (e_bin (a1 rfl) (b0 rfl) (o_mul n2)) a_nil)) ⟨_, _, rfl, sz20 z1, sz20 z2, fun z => hb0 (c0.mp z), rfl⟩)) (o_neSame (nice_fr _)))) rfl
  · have l19 : a.1.natAbs.log2 < 1920 := by
      rcases Nat.eq_zero_or_pos a.1.natAbs with z | z
      · rw [z]; decide
      · exact (Nat.log2_lt (by omega)).mpr (Nat.lt_of_le_of_lt aa (Nat.lt_of_lt_of_le (by decide : 50 < 2 ^ 6) (Nat.pow_le_pow_right (by decide) (by decide))))
    have l29 : a.2.natAbs.log2 < 1920 := (Nat.log2_lt (by omega)).mpr (Nat.lt_of_le_of_lt (show a.2.natAbs ≤ 20 by omega) (Nat.lt_of_lt_of_le (by decide : 20 < 2 ^ 6) (Nat.pow_le_pow_right (by decide) (by decide))))
    have la := tx.la
    have lb := tx.lb
    rw [empty_app] at la lb
    by_cases h1 : a.2 = 1
    · have rt : rtext a = Str.ofString (toString a.1) := if_pos h1
      exact t_is (t_test (e_bin (e_is (e_call (a_cons (e_var rfl) a_nil) ⟨a, rfl, tx, rfl⟩) (congrArg Py.ds rt)) (e_ifT (t_is (t_test (e_bin (a1 rfl) e_c o_eqI)) (decide_eq_true h1)) (e_strI l19 (a0 rfl))) (o_ne rfl))) (by simp)
    · have rt : rtext a = Str.ofString (toString a.1) ++ Str.ofString "/" ++ Str.ofString (toString a.2) := by
        unfold rtext
        rw [if_neg h1, empty_app]
      have l1 := app_len (Str.ofString (toString a.1) ++ Str.ofString "/") (Str.ofString (toString a.2))
      have len : ∀ u v : Str, (u ++ v).length = u.length + v.length := fun u v => Array.size_append
      have e1 := len (Str.ofString (toString a.1)) (Str.ofString "/")
      have e2 := len (Str.ofString (toString a.1) ++ Str.ofString "/") (Str.ofString (toString a.2))
      exact t_is (t_test (e_bin (e_is (e_call (a_cons (e_var rfl) a_nil) ⟨a, rfl, tx, rfl⟩) (congrArg Py.ds rt)) (e_ifF (t_is (t_test (e_bin (a1 rfl) e_c o_eqI)) (decide_eq_false h1)) (e_bin (e_bin (e_strI l19 (a0 rfl)) e_c (o_addS (by omega))) (e_strI l29 (a1 rfl)) (o_addS (by omega)))) (o_ne rfl))) (by simp)

end Law.KY
end

section
set_option Elab.async false
set_option linter.all false
set_option maxRecDepth 100000
set_option maxHeartbeats 4000000
set_option autoImplicit false
set_option exponentiation.threshold 300
namespace Law.KY
open PySem PySem.Spec PyProof.Rows L2 Py Mt KF KC KR

local macro_rules | `(tactic| wtm_at "op") => `(tactic| first
  | with_reducible exact o_I0 | with_reducible exact o_add | with_reducible exact o_eqI | with_reducible exact o_neI
  | ((with_reducible apply o_mul); first | assumption | wtm_at "si")
  | ((with_reducible apply o_I); first | assumption | wtm_at "si")
  | ((with_reducible apply o_ixT); rfl) | ((with_reducible apply o_ixL); rfl)
  | ((with_reducible apply o_eqD) <;> first | rfl | decide | assumption) | ((with_reducible apply o_neD) <;> first | rfl | decide | assumption)
  | with_reducible assumption)
local macro_rules | `(tactic| wtm_at "si") => `(tactic| first | decide | exact ⟨by decide, by decide +kernel⟩ | omega)
local macro_rules | `(tactic| wtm_at "ev") => `(tactic| first
  | ((with_reducible apply e_var); rfl) | with_reducible exact e_c | with_reducible exact a_nil
  | ((with_reducible apply a_cons) <;> wtm_at "ev")
  | ((with_reducible apply e_bin) <;> first | wtm_at "ev" | wtm_at "op")
  | ((with_reducible apply e_ixO) <;> first | rfl | wtm_at "ev")
  | ((with_reducible apply e_U) <;> wtm_at "ev")
  | ((with_reducible apply t_test) <;> wtm_at "ev")
  | ((with_reducible apply t_B) <;> wtm_at "ev")
  | ((with_reducible apply t_not) <;> wtm_at "ev")
  | ((with_reducible apply e_tup) <;> first | wtm_at "ev" | exact Nat.le_of_ble_eq_true rfl)
  | ((with_reducible apply e_lst) <;> first | wtm_at "ev" | exact Nat.le_of_ble_eq_true rfl)
  | ((with_reducible apply e_gcd) <;> wtm_at "ev")
  | ((with_reducible apply e_abs) <;> wtm_at "ev")
  | ((with_reducible apply e_max2) <;> wtm_at "ev")
  | ((with_reducible apply e_int) <;> wtm_at "ev")
  | ((with_reducible apply e_intB) <;> wtm_at "ev")
  | ((with_reducible apply e_bits) <;> wtm_at "ev")
  | ((with_reducible apply e_not) <;> wtm_at "ev")
  | with_reducible assumption)

variable {P : Program} {w : World} {K : Frg} {T : List (Addr × Str)} {mg : Str → Option Value} {base : Heap} {A0 : Around} {outer : List Env} {s0 : Shared} {H0 : Hp} {E : XK}

theorem gcd_pow {p q : Int} (h : Int.gcd p q = 1) (n : Nat) : Int.gcd (p ^ n) (q ^ n) = 1 := by
  unfold Int.gcd at h ⊢
  rw [Int.natAbs_pow, Int.natAbs_pow]
  exact Nat.Coprime.pow n n h
theorem neg_pow (x : Int) : ∀ n : Nat, (-x) ^ n = if n % 2 = 0 then x ^ n else -(x ^ n)
  | 0 => by simp
  | n + 1 => by
    rw [Int.pow_succ, neg_pow x n, Int.pow_succ]
    by_cases h : n % 2 = 0
    · rw [if_pos h, if_neg (by omega)]
      grind
    · rw [if_neg h, if_pos (by omega)]
      grind
theorem ratI_neg {p q : Int} (hq : q < 0) (hg : Int.gcd p q = 1) : ratI p q = (-p, -q) := by
  unfold ratI
  rw [if_pos hq, hg]
  show (p.fdiv (-1), q.fdiv (-1)) = _
  have e1 : p = (-p) * (-1) := by omega
  have e2 : q = (-q) * (-1) := by omega
  rw [show p.fdiv (-1) = ((-p) * (-1)).fdiv (-1) by rw [← e1], show q.fdiv (-1) = ((-q) * (-1)).fdiv (-1) by rw [← e2], Int.mul_fdiv_cancel _ (by decide), Int.mul_fdiv_cancel _ (by decide)]
theorem ratI_turn {p q : Int} (hp : p ≠ 0) (hq : 0 < q) (hg : Int.gcd p q = 1) (n : Nat) : ((ratI q p).1 ^ n, (ratI q p).2 ^ n) = ratI (q ^ n) (p ^ n) := by
  have hg' : Int.gcd q p = 1 := by rw [Int.gcd_comm]; exact hg
  have gp := gcd_pow hg' n
  rcases Int.lt_or_gt_of_ne hp with z | z
  · rw [ratI_neg z hg']
    dsimp only
    have hm : 0 < (-p) ^ n := Int.pow_pos (by omega)
    rw [neg_pow q n]
    rw [neg_pow p n] at hm ⊢
    by_cases h : n % 2 = 0
    · rw [if_pos h] at hm ⊢
      rw [if_pos h, ratI_one hm gp]
    · rw [if_neg h] at hm ⊢
      rw [if_neg h, ratI_neg (by omega) gp]
  · rw [ratI_one z hg', ratI_one (Int.pow_pos z) gp]

theorem seg30 (Z : GS P w K T mg base) (Tx : Txt5 K mg) (LB : LamB K base mg T "law") (hr : Room 20 (XL P w K mg base A0 outer s0 H0 E).A)
    (next : ∃ t, PSs (XL P w K mg base A0 outer s0 H0 E) (LBd.drop 34) t ∧ ∀ S0 O A, IL S0 A → RunS ⟨K, T, H0, O⟩ E t A (PF S0)) :
    ∃ t, PSs (XL P w K mg base A0 outer s0 H0 E) (LBd.drop 30) t ∧ ∀ S0 O A, Inv30 S0 A → RunS ⟨K, T, H0, O⟩ E t A (PF S0) := by
  obtain ⟨t', h', r0'⟩ := next
  have sc := sc_law
  refine ⟨_, (pss_cons (ps_set (i := 28) sc.nd rfl (Or.inr rfl) (pe_op op_sub (pe_callG Z.G__law_roll (hr.mono (by decide)) psE (pa_cons (pv 1) (pa_cons pe_int pa_nil))) pe_int))
  (pss_cons (ps_set (i := 29) sc.nd rfl (Or.inl rfl) (pe_tup (pa_cons pe_int (pa_cons pe_int pa_nil))))
  (pss_cons (ps_for (passesE) rfl (pi_range1 rfl Tx.n_range (pa_cons (pe_callB call_abs (by rfl) Tx.n_abs (by decide +kernel) (pa_cons (pv 28) pa_nil)) pa_nil)) (pg_name (i := 30) sc.nd rfl (Or.inl rfl)) (pss_one (ps_set (i := 29) sc.nd rfl (Or.inl rfl) (pe_callG Z.G__law_times (hr.mono (by decide)) psE (pa_cons (pv 29) (pa_cons (pv 26) pa_nil))))))
  (pss_cons (ps_if (pt_cmpR (op_neA hr.units) (pe_toldN (f := "law") (k := 10) Z.F_told Z.hm_told Tx.gNumberError LB rfl rfl (hr.mono (by decide)) (show LamX.LamS (defScope s_law) _ from LamX.lamS_by (by decide +kernel)) rfl (fun _ _ _ _ _ => rfl) (fun A outer s H E f c' hr => (pe_callG Z.G_raised (hr.mono (by decide)) psF (pa_cons (pv 26) (pa_cons (pv 28) pa_nil))))) (pe_ifExp (pt_cmpR op_ge (pv 28) pe_int (nomark _)) (pv 29) (pe_ifExp (pt_cmpR (op_neA hr.units) (pe_ix ix_seq (pv 29) pe_int (fun _ _ => rfl)) pe_int (nomark _)) (pe_callG Z.G__law_frac (hr.mono (by decide)) psE (pa_cons (pe_ix ix_seq (pv 29) pe_int (fun _ _ => rfl)) (pa_cons (pe_ix ix_seq (pv 29) pe_int (fun _ _ => rfl)) pa_nil))) pe_str)) (nomark _)) (pss_one (ps_ret pe_bl)) pss_nil)
  h')))), fun S0 O A hA => ?_⟩
  have r' := r0' S0
  clear r0'
  clear sc hr h'
  try dsimp only [XL, cxOf]

  obtain ⟨d, a, ⟨ln, h0, h1, st, dk⟩, h26, aq, ag, aa, ab⟩ := hA
  obtain ⟨sl, st'⟩ := A
  obtain rfl : st' = _ := st
  obtain ⟨v0, v1, v2, v3, v4, v5, v6, v7, v8, v9, v10, v11, v12, v13, v14, v15, v16, v17, v18, v19, v20, v21, v22, v23, v24, v25, v26, v27, v28, v29, v30, rfl⟩ := ex31 sl ln
  obtain rfl : _ = v0 := (Option.some.inj h0).symm
  obtain rfl : _ = v1 := (Option.some.inj h1).symm
  obtain rfl : _ = v26 := (Option.some.inj h26).symm
  clear ln
  have q1 := roll_lt (d := d) (m := 9) (by decide)
  refine r_seq (r_asg (e_bin (e_roll (n := 0) rfl rfl e_c dk (by decide) (by decide) (sz20 (by decide))) e_c o_I0) ?_)
  generalize rollD d 9 = d' at *
  obtain ⟨t, ht⟩ : ∃ t : Int, rollV d 9 - 4 = t := ⟨_, rfl⟩
  rw [ht]
  have n4 : t.natAbs ≤ 4 := by omega
  clear q1 ht dk
  have et : (if t < 0 then -t else t) = (t.natAbs : Int) := by split <;> omega
  refine r_seq (r_asg (d := fr (1, 1)) (e_tup (a_cons e_c (a_cons e_c a_nil)) (by decide)) ?_)
  have pz : ∀ i : Nat, i ≤ 4 → SzF 3000 (a.1 ^ i, a.2 ^ i) := fun i hi => ⟨pw_sz (a := 8) (by omega) (by omega), pw_sz (a := 8) (by omega) (by omega)⟩
  have sa : SzF 3000 a := ⟨szUp (n := 20) (by show a.1.natAbs < 2 ^ 20; omega) (by decide), szUp (n := 20) (by show a.2.natAbs < 2 ^ 20; omega) (by decide)⟩
  refine r_seq (r_forR (w_rng1n (c := t.natAbs) (n := (t.natAbs : Int)) (a_cons (e_is (e_abs (e_var rfl)) (congrArg di et)) a_nil) (by omega) (by omega)) (fun i A => ∃ u : SD, A = ⟨[S0, .own 0, v2, v3, v4, v5, v6, v7, v8, v9, v10, v11, v12, v13, v14, v15, v16, v17, v18, v19, v20, v21, v22, v23, v24, v25, .d (fr a), v27, .d (di t), .d (fr (a.1 ^ i, a.2 ^ i)), u], [.lst d'.ds]⟩) ⟨v30, by rw [Int.pow_zero, Int.pow_zero]; rfl⟩ ?_ ?_)
  · rintro i A hi ⟨u, rfl⟩
    refine ⟨_, tg_name, ?_⟩
    have p1 : 0 < a.2 ^ i * a.2 := Int.mul_pos (Int.pow_pos aq) aq
    have e1 : ratI (a.1 ^ i * a.1) (a.2 ^ i * a.2) = (a.1 ^ (i + 1), a.2 ^ (i + 1)) := by
      rw [← Int.pow_succ, ← Int.pow_succ]
      exact ratI_one (Int.pow_pos aq) (gcd_pow ag _)
    refine r_asg (e_is (e_call (a_cons (e_var rfl) (a_cons (e_var rfl) a_nil)) ⟨(a.1 ^ i, a.2 ^ i), a, rfl, pz i (by omega), sa, by dsimp only; omega, rfl⟩) (congrArg fr e1)) ?_
    exact ⟨_, rfl⟩
  · rintro A ⟨u, rfl⟩
    have go : ∀ {A : AS} {P : Po} {t u : TS} {tt : TT}, EvT ⟨K, T, H0, O⟩ tt A false A → RunS ⟨K, T, H0, O⟩ E u A P → RunS ⟨K, T, H0, O⟩ E (tIfS tt t u) A P := fun h h' => r_ifFs h h'
    refine r_seq (go ?_ (r_next (r' O _ ⟨rfl, rfl⟩)))
    have z1 : a.1.natAbs < 2 ^ 20 := by omega
    have z2 : a.2.natAbs < 2 ^ 20 := by omega
    by_cases h0 : 0 ≤ t
    · have rr : raisedR (NE K) a t = .ok (fr (a.1 ^ t.natAbs, a.2 ^ t.natAbs)) := if_pos h0
      exact t_is (t_test (e_bin (e_toldOk (C := ⟨K, T, H0, O⟩) fun E' => e_call (C := ⟨K, T, H0, O⟩) (a_cons (e_var rfl) (a_cons (e_var rfl) a_nil)) ⟨a, t, rfl, z1, z2, by omega, rr.symm⟩) (e_ifT (t_is (t_test (e_bin (e_var rfl) e_c o_I0)) (decide_eq_true h0)) (e_var rfl)) (o_neSame (nice_fr _)))) rfl
    · have tn : t.natAbs ≠ 0 := by omega
      by_cases ha : a.1 = 0
      · have rr : raisedR (NE K) a t = .err (NE K) := by
          unfold raisedR
          rw [if_neg h0, if_pos ha]
        have e0 : a.1 ^ t.natAbs = 0 := by rw [ha, Int.zero_pow tn]
        exact t_is (t_test (e_bin (e_toldErr (C := ⟨K, T, H0, O⟩) Tx.m fun E' => x_call (C := ⟨K, T, H0, O⟩) (a_cons (e_var rfl) (a_cons (e_var rfl) a_nil)) ⟨a, t, rfl, z1, z2, by omega, rr.symm⟩) (e_ifF (t_is (t_test (e_bin (e_var rfl) e_c o_I0)) (decide_eq_false h0)) (e_ifF (t_is (t_test (e_bin (e_bin (e_var rfl) e_c (o_ixT (d := di (a.1 ^ t.natAbs)) rfl)) e_c o_neI)) (by simp [e0])) e_c)) (o_ne rfl))) (by simp)
      · have rr : raisedR (NE K) a t = .ok (fr (ratI (a.2 ^ t.natAbs) (a.1 ^ t.natAbs))) := by
          unfold raisedR
          rw [if_neg h0, if_neg ha, ratI_turn ha aq ag]
        have e0 : a.1 ^ t.natAbs ≠ 0 := Int.pow_ne_zero ha
        obtain ⟨s1, s2⟩ := pz t.natAbs n4
        exact t_is (t_test (e_bin (e_toldOk (C := ⟨K, T, H0, O⟩) fun E' => e_call (C := ⟨K, T, H0, O⟩) (a_cons (e_var rfl) (a_cons (e_var rfl) a_nil)) ⟨a, t, rfl, z1, z2, by omega, rr.symm⟩) (e_ifF (t_is (t_test (e_bin (e_var rfl) e_c o_I0)) (decide_eq_false h0)) (e_ifT (t_is (t_test (e_bin (e_bin (e_var rfl) e_c (o_ixT (d := di (a.1 ^ t.natAbs)) rfl)) e_c o_neI)) (by simp [e0])) (e_call (a_cons (e_bin (e_var rfl) e_c (o_ixT (d := di (a.2 ^ t.natAbs)) rfl)) (a_cons (e_bin (e_var rfl) e_c (o_ixT (d := di (a.1 ^ t.natAbs)) rfl)) a_nil)) ⟨_, _, rfl, szUp s2 (by decide), szUp s1 (by decide), e0, rfl⟩))) (o_neSame (nice_fr _)))) rfl

end Law.KY
end

section
set_option Elab.async false
set_option linter.all false
set_option maxRecDepth 100000
set_option maxHeartbeats 4000000
set_option autoImplicit false
set_option exponentiation.threshold 300
namespace Law.KY
open PySem PySem.Spec PyProof.Rows L2 Py Mt KF KC KR KI

local macro_rules | `(tactic| wtm_at "op") => `(tactic| first
  | with_reducible exact o_I0 | with_reducible exact o_add | with_reducible exact o_eqI | with_reducible exact o_neI
  | ((with_reducible apply o_mul); first | assumption | wtm_at "si")
  | ((with_reducible apply o_I); first | assumption | wtm_at "si")
  | ((with_reducible apply o_ixT); rfl) | ((with_reducible apply o_ixL); rfl)
  | ((with_reducible apply o_eqD) <;> first | rfl | decide | assumption) | ((with_reducible apply o_neD) <;> first | rfl | decide | assumption)
  | with_reducible assumption)
local macro_rules | `(tactic| wtm_at "si") => `(tactic| first | decide | exact ⟨by decide, by decide +kernel⟩ | omega)
local macro_rules | `(tactic| wtm_at "ev") => `(tactic| first
  | ((with_reducible apply e_var); rfl) | with_reducible exact e_c | with_reducible exact a_nil
  | ((with_reducible apply a_cons) <;> wtm_at "ev")
  | ((with_reducible apply e_bin) <;> first | wtm_at "ev" | wtm_at "op")
  | ((with_reducible apply e_ixO) <;> first | rfl | wtm_at "ev")
  | ((with_reducible apply e_U) <;> wtm_at "ev")
  | ((with_reducible apply t_test) <;> wtm_at "ev")
  | ((with_reducible apply t_B) <;> wtm_at "ev")
  | ((with_reducible apply t_not) <;> wtm_at "ev")
  | ((with_reducible apply e_tup) <;> first | wtm_at "ev" | exact Nat.le_of_ble_eq_true rfl)
  | ((with_reducible apply e_lst) <;> first | wtm_at "ev" | exact Nat.le_of_ble_eq_true rfl)
  | ((with_reducible apply e_gcd) <;> wtm_at "ev")
  | ((with_reducible apply e_abs) <;> wtm_at "ev")
  | ((with_reducible apply e_max2) <;> wtm_at "ev")
  | ((with_reducible apply e_int) <;> wtm_at "ev")
  | ((with_reducible apply e_intB) <;> wtm_at "ev")
  | ((with_reducible apply e_bits) <;> wtm_at "ev")
  | ((with_reducible apply e_not) <;> wtm_at "ev")
  | with_reducible assumption)

variable {P : Program} {w : World} {K : Frg} {T : List (Addr × Str)} {mg : Str → Option Value} {base : Heap}
def sp_large : List Dt → Rs → Prop := fun dl r => ∃ ns : List Int, dl = [.lst (ns.map di)] ∧ ns.length ≤ 63 ∧ (∀ z ∈ ns, Sz 1048576 z) ∧ r = .ok (db true)
def keysG : List Key := [.inl 999999999989, .inl 999985999949, .inl 1000000000000000000000000000057, .inl 999979, .inl 7]
def valsG : List Dt := [.tup ([(999999999989, 1)].map fr), .tup ([(999983, 1), (1000003, 1)].map fr), ds "NumberError", .tup ([(999979, 1)].map fr), .tup ([(7, 1)].map fr)]
theorem pf_of {n : Nat} {p : Nat × List Row} {e : Addr} (hn : n ≠ 0) (h : pfN n = p) (hl : p.1 ≤ 1000000000000) : pfR e (n : Int) = .ok (.tupZ ((pfRows p).map row)) := by
  unfold pfR
  rw [if_neg (by omega), Int.natAbs_natCast, h, if_neg (by omega)]
theorem pf_err {n : Nat} {p : Nat × List Row} {e : Addr} (hn : n ≠ 0) (h : pfN n = p) (hl : 1000000000000 < p.1) : pfR e (n : Int) = .err e := by
  unfold pfR
  rw [if_neg (by omega), Int.natAbs_natCast, h, if_pos hl]
theorem pf1 {e : Addr} : pfR e 999999999989 = .ok (.tupZ ([(999999999989, 1)].map fr)) := (pf_of (n := 999999999989) (by decide) big1 (by decide)).trans rfl
theorem pf2 {e : Addr} : pfR e 999985999949 = .ok (.tupZ ([(999983, 1), (1000003, 1)].map fr)) := (pf_of (n := 999985999949) (by decide) big4 (by decide)).trans rfl
theorem pf3 {e : Addr} : pfR e 1000000000000000000000000000057 = .err e := pf_err (n := 1000000000000000000000000000057) (by decide) big2 (by decide)
theorem pf4 {e : Addr} : pfR e 999979 = .ok (.tupZ ([(999979, 1)].map fr)) := (pf_of (n := 999979) (by decide) big3 (by decide)).trans rfl
theorem pfn7 : pfN 7 = (7, []) := by decide +kernel
theorem pf5 {e : Addr} : pfR e 7 = .ok (.tupZ ([(7, 1)].map fr)) := (pf_of (n := 7) (by decide) pfn7 (by decide)).trans rfl
inductive Due : Int → Dt → Prop
  | a : Due 999999999989 (.tup ([(999999999989, 1)].map fr))
  | b : Due 999985999949 (.tup ([(999983, 1), (1000003, 1)].map fr))
  | c : Due 1000000000000000000000000000057 (Py.ds "NumberError")
  | d : Due 999979 (.tup ([(999979, 1)].map fr))
  | e : Due 7 (.tup ([(7, 1)].map fr))
theorem Due.look {n : Int} {x : Dt} (h : Due n x) : ((keysG.zip valsG).find? fun q => decide (q.1 = Sum.inl n)).map (·.2) = some x := by
  cases h <;> rfl
theorem Due.pf {n : Int} {x : Dt} {e : Addr} (h : Due n x) : (∃ ps : List (Int × Int), pfR e n = .ok (.tupZ (ps.map fr)) ∧ x = .tup (ps.map fr)) ∨ (pfR e n = .err e ∧ x = Py.ds "NumberError") := by
  cases h
  · exact .inl ⟨_, pf1, rfl⟩
  · exact .inl ⟨_, pf2, rfl⟩
  · exact .inr ⟨pf3, rfl⟩
  · exact .inl ⟨_, pf4, rfl⟩
  · exact .inl ⟨_, pf5, rfl⟩
theorem Due.sz {n : Int} {x : Dt} (h : Due n x) : Sz 8000 n := szUp (n := 120) (by cases h <;> (show Int.natAbs _ < 2 ^ 120; decide)) (by decide)
def pickG (r : Int) : Int := if r = 0 then 999999999989 else if r = 1 then 999985999949 else if r = 2 then 1000000000000000000000000000057 else 999979
theorem pick_at {r : Int} (h : 0 ≤ r ∧ r < 4) : atI [di 999999999989, di 999985999949, di 1000000000000000000000000000057, di 999979] r = some (di (pickG r)) := by
  obtain ⟨h1, h2⟩ := h
  have : r = 0 ∨ r = 1 ∨ r = 2 ∨ r = 3 := by omega
  rcases this with rfl | rfl | rfl | rfl <;> rfl
theorem pick_due {r : Int} (h : 0 ≤ r ∧ r < 4) : ∃ x, Due (pickG r) x := by
  obtain ⟨h1, h2⟩ := h
  have : r = 0 ∨ r = 1 ∨ r = 2 ∨ r = 3 := by omega
  rcases this with rfl | rfl | rfl | rfl
  · exact ⟨_, .a⟩
  · exact ⟨_, .b⟩
  · exact ⟨_, .c⟩
  · exact ⟨_, .d⟩
theorem r_asgX {C : Ct} {E : XK} {A : AS} {P : Po} {te : TE} {i : Nat} (M : Dt → AS → Prop) (h : ∃ y A1, M y A1 ∧ EvS C te A y A1) (k : ∀ y A1, M y A1 → P.nx (A1.put i y)) : RunS C E (tAsg te (gName i)) A P := by
  obtain ⟨y, A1, m, he⟩ := h
  exact r_asg he (k y A1 m)
theorem ok__law_large (Z : GS P w K T mg base) (Tx : Txt5 K mg) (F : ∃ fd, FunD K "_law_large" "_law_large" (defArgs s__law_large) (defBody s__law_large) (defScope s__law_large) [] [] (He.ga K "_law_large") fd) (hm : mg "_law_large" = some (.ref (He.ga K "_law_large"))) (LB : LamB K base mg T "_law_large") :
    Gd P w K mg base "_law_large" ["script"] 15 (spD K T sp_large) := by
  refine mkGL F hm sc__law_large (fun _ _ _ _ _ _ us hl => match us, hl with | [_], _ => rfl) (fun dl r h => ?len) (fun A outer s H E hr => ?body)
  case len => (obtain ⟨_, rfl, _⟩ := h; rfl)
  case body =>
    have sc := sc__law_large
    refine ⟨_, (pss_cons (ps_for (passesE) rfl (pi_list (pe_callG Z.G__law_rounds (hr.mono (by decide)) psE (pa_cons (pv 0) (pa_cons pe_int pa_nil)))) (pg_name (i := 1) sc.nd rfl (Or.inl rfl)) (pss_cons (ps_set (i := 2) sc.nd rfl (Or.inr rfl) (pe_ifExp (pt_cmpR (op_eqA hr.units) (pe_callG Z.G__law_roll (hr.mono (by decide)) psE (pa_cons (pv 1) (pa_cons pe_int pa_nil))) pe_int (nomark _)) (pe_ix ix_seq (pe_lst (pa_cons pe_int (pa_cons (pe_op op_mulA pe_int pe_int) (pa_cons (pe_op op_addA (pe_op op_pow pe_int pe_int) pe_int) (pa_cons pe_int pa_nil))))) (pe_callG Z.G__law_roll (hr.mono (by decide)) psE (pa_cons (pv 1) (pa_cons pe_int pa_nil))) (fun _ _ => rfl)) pe_int))
  (pss_cons (ps_set (i := 3) sc.nd rfl (Or.inl rfl) (pe_disp (pps_cons pe_int (pe_tup (pa_cons (pe_tup (pa_cons pe_int (pa_cons pe_int pa_nil))) pa_nil)) (pps_cons (pe_op op_mulA pe_int pe_int) (pe_tup (pa_cons (pe_tup (pa_cons pe_int (pa_cons pe_int pa_nil))) (pa_cons (pe_tup (pa_cons pe_int (pa_cons pe_int pa_nil))) pa_nil))) (pps_cons (pe_op op_addA (pe_op op_pow pe_int pe_int) pe_int) pe_str (pps_cons pe_int (pe_tup (pa_cons (pe_tup (pa_cons pe_int (pa_cons pe_int pa_nil))) pa_nil)) (pps_cons pe_int (pe_tup (pa_cons (pe_tup (pa_cons pe_int (pa_cons pe_int pa_nil))) pa_nil)) pps_nil))))) (by rfl) rfl (by simp) (by decide)))
  (pss_one (ps_if (pt_cmpR (op_neA hr.units) (pe_toldN (f := "_law_large") (k := 10) Z.F_told Z.hm_told Tx.gNumberError LB rfl rfl (hr.mono (by decide)) (show LamX.LamS (defScope s__law_large) _ from LamX.lamS_by (by decide +kernel)) rfl (fun _ _ _ _ _ => rfl) (fun A outer s H E f c' hr => (pe_callG Z.G_prime_factors (hr.mono (by decide)) psF (pa_cons (pv 2) pa_nil)))) (pe_dget (Nat.lt_of_le_of_lt (Nat.add_le_add_left (by decide : 1 ≤ 64) _) hr.units) (pv 3) (pv 2) (fun _ _ => rfl)) (nomark _)) (pss_one (ps_ret pe_bl)) pss_nil)))))
  (pss_one (ps_ret pe_bl))), fun O dl r hg => ?_⟩
    clear sc hr
    try dsimp only [cxOf]
    obtain ⟨ns, rfl, hl, hz, rfl⟩ := hg
    have dk : DOk 0 (mkDice (ns.headD 0)) := mkDice_ok (by
      cases ns with
      | nil => show (0 : Int).natAbs < _; exact Nat.pow_pos (by decide)
      | cons a r => exact hz a (List.mem_cons_self ..))
    refine r_seq (r_rounds (i := 0) (ns := ns) rfl hl hz ?_)
    generalize mkDice (ns.headD 0) = d at *
    show RunS _ _ _ ⟨[.d (.lst (ns.map di)), .own 0, .un, .un], [.lst d.ds]⟩ _
    have c30 : CPow 10 30 := ⟨by decide, by decide, by decide⟩
    have m1 : PMul 999983 1000003 := mulX 30 30 (by decide) (by decide)
    refine r_seq (r_asgX (fun y A1 => ∃ (n : Int) (x : Dt) (d' : Dice), Due n x ∧ y = di n ∧ A1 = ⟨[.d (.lst (ns.map di)), .own 0, .un, .un], [.lst d'.ds]⟩) ?_ ?_)
    · have d1 := roll_ok (m := 9) dk (by decide)
      have q4 := roll_lt (d := rollD d 9) (m := 4) (by decide)
      by_cases h : rollV d 9 = 0
      · obtain ⟨x, hx⟩ := pick_due q4
        exact ⟨_, _, ⟨_, x, rollD (rollD d 9) 4, hx, rfl, rfl⟩, e_ifT (t_is (t_test (e_bin (e_roll (n := 0) rfl rfl e_c dk (by decide) (by decide) (sz20 (by decide))) e_c o_eqI)) (decide_eq_true h)) (e_bin (e_lst (a_cons e_c (a_cons (e_is (e_bin e_c e_c (o_mul m1)) rfl) (a_cons (e_is (e_bin (e_bin e_c e_c (o_I c30)) e_c o_add) rfl) (a_cons e_c a_nil)))) (by decide)) (e_roll (n := 0) (d := rollD d 9) rfl rfl e_c d1 (by decide) (by decide) (sz20 (by decide))) (o_ixL (pick_at q4)))⟩
      · exact ⟨_, _, ⟨7, _, rollD d 9, .e, rfl, rfl⟩, e_ifF (t_is (t_test (e_bin (e_roll (n := 0) rfl rfl e_c dk (by decide) (by decide) (sz20 (by decide))) e_c o_eqI)) (decide_eq_false h)) e_c⟩
    rintro y A1 ⟨n, x, d', hD, rfl, rfl⟩
    refine r_seq (r_asg (e_disp (ks := keysG) (xs := valsG) (fun O' => ps_cons (k0 := .inl 999999999989) e_c (e_tup (a_cons (e_tup (a_cons e_c (a_cons e_c a_nil)) (by decide)) a_nil) (by decide)) (ps_cons (k0 := .inl 999985999949) (e_is (e_bin e_c e_c (o_mul m1)) rfl) (e_tup (a_cons (e_tup (a_cons e_c (a_cons e_c a_nil)) (by decide)) (a_cons (e_tup (a_cons e_c (a_cons e_c a_nil)) (by decide)) a_nil)) (by decide)) (ps_cons (k0 := .inl 1000000000000000000000000000057) (e_is (e_bin (e_bin e_c e_c (o_I c30)) e_c o_add) rfl) e_c (ps_cons (k0 := .inl 999979) e_c (e_tup (a_cons (e_tup (a_cons e_c (a_cons e_c a_nil)) (by decide)) a_nil) (by decide)) (ps_cons (k0 := .inl 7) e_c (e_tup (a_cons (e_tup (a_cons e_c (a_cons e_c a_nil)) (by decide)) a_nil) (by decide)) ps_nil))))) (by decide) (by decide) rfl) ?_)
    have go : ∀ {A : AS} {P : Po} {t u : TS} {tt : TT}, EvT ⟨K, T, H, O⟩ tt A false A → RunS ⟨K, T, H, O⟩ E u A P → RunS ⟨K, T, H, O⟩ E (tIfS tt t u) A P := fun h h' => r_ifFs h h'
    refine go ?_ (r_next (r_ret e_c rfl))
    have look := hD.look
    have sz := hD.sz
    rcases hD.pf (e := NE K) with ⟨ps, h1, rfl⟩ | ⟨h1, rfl⟩
    · exact t_is (t_test (e_bin (e_unZ (e_toldOk (C := ⟨K, T, H, O⟩) fun E' => e_call (C := ⟨K, T, H, O⟩) (a_cons (e_var rfl) a_nil) ⟨n, rfl, sz, h1.symm⟩)) (e_dget (k0 := .inl n) (e_var rfl) (e_var rfl) look) (o_neSame (n := 2) (.tup (niceA_map nice_fr _))))) rfl
    · exact t_is (t_test (e_bin (e_toldErr (C := ⟨K, T, H, O⟩) Tx.m fun E' => x_call (C := ⟨K, T, H, O⟩) (a_cons (e_var rfl) a_nil) ⟨n, rfl, sz, h1.symm⟩) (e_dget (k0 := .inl n) (e_var rfl) (e_var rfl) look) (o_ne rfl))) (by simp)
end Law.KY
end

section
set_option Elab.async false
set_option linter.all false
set_option maxRecDepth 100000
set_option maxHeartbeats 4000000
set_option autoImplicit false
set_option exponentiation.threshold 300
namespace Law.KY
open PySem PySem.Spec PyProof.Rows L2 Py Mt KF KC KR KI

local macro_rules | `(tactic| wtm_at "op") => `(tactic| first
  | with_reducible exact o_I0 | with_reducible exact o_add | with_reducible exact o_eqI | with_reducible exact o_neI
  | ((with_reducible apply o_mul); first | assumption | wtm_at "si")
  | ((with_reducible apply o_I); first | assumption | wtm_at "si")
  | ((with_reducible apply o_ixT); rfl) | ((with_reducible apply o_ixL); rfl)
  | ((with_reducible apply o_eqD) <;> first | rfl | decide | assumption) | ((with_reducible apply o_neD) <;> first | rfl | decide | assumption)
  | with_reducible assumption)
local macro_rules | `(tactic| wtm_at "si") => `(tactic| first | decide | exact ⟨by decide, by decide +kernel⟩ | omega)
local macro_rules | `(tactic| wtm_at "ev") => `(tactic| first
  | ((with_reducible apply e_var); rfl) | with_reducible exact e_c | with_reducible exact a_nil
  | ((with_reducible apply a_cons) <;> wtm_at "ev")
  | ((with_reducible apply e_bin) <;> first | wtm_at "ev" | wtm_at "op")
  | ((with_reducible apply e_ixO) <;> first | rfl | wtm_at "ev")
  | ((with_reducible apply e_U) <;> wtm_at "ev")
  | ((with_reducible apply t_test) <;> wtm_at "ev")
  | ((with_reducible apply t_B) <;> wtm_at "ev")
  | ((with_reducible apply t_not) <;> wtm_at "ev")
  | ((with_reducible apply e_tup) <;> first | wtm_at "ev" | exact Nat.le_of_ble_eq_true rfl)
  | ((with_reducible apply e_lst) <;> first | wtm_at "ev" | exact Nat.le_of_ble_eq_true rfl)
  | ((with_reducible apply e_gcd) <;> wtm_at "ev")
  | ((with_reducible apply e_abs) <;> wtm_at "ev")
  | ((with_reducible apply e_max2) <;> wtm_at "ev")
  | ((with_reducible apply e_int) <;> wtm_at "ev")
  | ((with_reducible apply e_intB) <;> wtm_at "ev")
  | ((with_reducible apply e_bits) <;> wtm_at "ev")
  | ((with_reducible apply e_not) <;> wtm_at "ev")
  | with_reducible assumption)

variable {P : Program} {w : World} {K : Frg} {T : List (Addr × Str)} {mg : Str → Option Value} {base : Heap}
theorem isP1 : isP 1 = false := by decide
theorem pf12 : pfN 12 = (3, [(2, 2)]) := by decide +kernel
theorem pfn1 : pfN 1 = (1, []) := by decide +kernel
theorem pfm {e : Addr} : pfR e (-12) = .ok (.tupZ ([(2, 2), (3, 1)].map fr)) := by
  unfold pfR
  rw [if_neg (by decide), show (-12 : Int).natAbs = 12 from rfl, pf12, if_neg (by decide)]
  rfl
theorem pf1' {e : Addr} : pfR e 1 = .ok (.tupZ []) := by
  unfold pfR
  rw [if_neg (by decide), show (1 : Int).natAbs = 1 from rfl, pfn1, if_neg (by decide)]
  rfl
theorem runS_pf {C : Ct} {E : XK} {t : TS} {A : AS} {S0 : SD} {M : AS → Prop} {P : Po} (h : RunS C E t A (PF S0)) (k : ∀ A', IL S0 A' → M A') : RunS C E t A { P with nx := M, ct := M, bk := M } := fun os σ H D o T =>
  h os σ H D o ⟨fun os1 A1 σ1 H1 m => T.nx os1 A1 σ1 H1 (k A1 m), fun _ _ _ _ _ _ z => z.elim, fun os1 A1 σ1 H1 m => T.bk os1 A1 σ1 H1 (k A1 m), fun os1 A1 σ1 H1 m => T.ct os1 A1 σ1 H1 (k A1 m), fun _ _ z => z.elim⟩
theorem nice_s : PyData.strOk (Str.ofString "NumberError") = true := by decide +kernel
theorem nice6 : NiceA 0 [ds "NumberError", ds "NumberError", ds "NumberError", ds "NumberError", ds "NumberError", ds "NumberError"] [.str "NumberError", .str "NumberError", .str "NumberError", .str "NumberError", .str "NumberError", .str "NumberError"] := .cons (.str nice_s) (.cons (.str nice_s) (.cons (.str nice_s) (.cons (.str nice_s) (.cons (.str nice_s) (.cons (.str nice_s) .nil)))))
theorem seg_all (Z : GS P w K T mg base) (Tx : Txt5 K mg) (LB : LamB K base mg T "law") {A0 : Around} {outer : List Env} {s0 : Shared} {H0 : Hp} {E : XK} (hr : Room 20 (XL P w K mg base A0 outer s0 H0 E).A) :
    ∃ t, PSs (XL P w K mg base A0 outer s0 H0 E) (LBd.drop 0) t ∧ ∀ S0 O A, Inv0 S0 A → RunS ⟨K, T, H0, O⟩ E t A (PF S0) :=
  seg0 Z Tx LB hr (seg2 Z Tx LB hr (seg4 Z Tx LB hr (seg8 Z Tx LB hr (seg13 Z Tx LB hr (seg14 Z Tx LB hr (seg15 Z Tx LB hr (seg20 Z Tx LB hr (seg23 Z Tx LB hr (seg26 Z Tx LB hr (seg30 Z Tx LB hr ⟨_, pss_nil, fun S0 O A h => r_next h⟩))))))))))
theorem ok_law (Z : GS P w K T mg base) (Tx : Txt5 K mg) (LB : LamB K base mg T "law") (GL : Gd P w K mg base "_law_large" ["script"] 15 (spD K T sp_large)) {fd : FuncData} (F : FunD K "law" "law" (defArgs s_law) (defBody s_law) (defScope s_law) [] [] (He.ga K "law") fd) :
    FnOk P w K mg base (L2.CX P w) 21 (He.ga K "law") fd ["script"] (spD K T sp_large) := by
  refine mkFL F sc_law (fun dl r h => ?len) (fun A outer s H E hr => ?body)
  case len => (obtain ⟨_, rfl, _⟩ := h; rfl)
  case body =>
    obtain ⟨tb, hb, rb⟩ := seg_all Z Tx LB hr
    have sc := sc_law
    have hb' : PSs (cxOf (L2.CX P w) P w K mg base NL "law" (defScope s_law) (He.ga K "law") (.ref (He.cT K ("law", none)).1) A outer s H E) LBd tb := hb
    refine ⟨_, (pss_cons (ps_for (passesE) rfl (pi_list (pe_callG Z.G__law_rounds (hr.mono (by decide)) psE (pa_cons (pv 0) (pa_cons pe_int pa_nil)))) (pg_name (i := 1) sc.nd rfl (Or.inr rfl)) hb') (pss_cons (ps_set (i := 11) sc.nd rfl (Or.inl rfl) (pe_lst (pa_cons (pe_toldN (f := "law") (k := 10) Z.F_told Z.hm_told Tx.gNumberError LB rfl rfl (hr.mono (by decide)) (show LamX.LamS (defScope s_law) _ from LamX.lamS_by (by decide +kernel)) rfl (fun _ _ _ _ _ => rfl) (fun A outer s H E f c' hr => (pe_callG Z.G_inverse (hr.mono (by decide)) psF (pa_cons pe_int (pa_cons pe_int pa_nil))))) (pa_cons (pe_toldN (f := "law") (k := 10) Z.F_told Z.hm_told Tx.gNumberError LB rfl rfl (hr.mono (by decide)) (show LamX.LamS (defScope s_law) _ from LamX.lamS_by (by decide +kernel)) rfl (fun _ _ _ _ _ => rfl) (fun A outer s H E f c' hr => (pe_callG Z.G_prime_factors (hr.mono (by decide)) psF (pa_cons pe_int pa_nil)))) (pa_cons (pe_toldN (f := "law") (k := 10) Z.F_told Z.hm_told Tx.gNumberError LB rfl rfl (hr.mono (by decide)) (show LamX.LamS (defScope s_law) _ from LamX.lamS_by (by decide +kernel)) rfl (fun _ _ _ _ _ => rfl) (fun A outer s H E f c' hr => (pe_callG Z.G_rational (hr.mono (by decide)) psF (pa_cons pe_int (pa_cons pe_int pa_nil))))) pa_nil))))) (pss_cons (ps_set (i := 11) sc.nd rfl (Or.inl rfl) (pe_op op_addA (pv 11) (pe_lst (pa_cons (pe_toldN (f := "law") (k := 10) Z.F_told Z.hm_told Tx.gNumberError LB rfl rfl (hr.mono (by decide)) (show LamX.LamS (defScope s_law) _ from LamX.lamS_by (by decide +kernel)) rfl (fun _ _ _ _ _ => rfl) (fun A outer s H E f c' hr => (pe_callG Z.G_power_by (hr.mono (by decide)) psF (pa_cons pe_int (pa_cons (pe_un un_neg pe_int) (pa_cons pe_int pa_nil)))))) (pa_cons (pe_toldN (f := "law") (k := 10) Z.F_told Z.hm_told Tx.gNumberError LB rfl rfl (hr.mono (by decide)) (show LamX.LamS (defScope s_law) _ from LamX.lamS_by (by decide +kernel)) rfl (fun _ _ _ _ _ => rfl) (fun A outer s H E f c' hr => (pe_callG Z.G_root_below (hr.mono (by decide)) psF (pa_cons (pe_un un_neg pe_int) (pa_cons pe_int pa_nil))))) (pa_cons (pe_toldN (f := "law") (k := 10) Z.F_told Z.hm_told Tx.gNumberError LB rfl rfl (hr.mono (by decide)) (show LamX.LamS (defScope s_law) _ from LamX.lamS_by (by decide +kernel)) rfl (fun _ _ _ _ _ => rfl) (fun A outer s H E f c' hr => (pe_callG Z.G_root_below (hr.mono (by decide)) psF (pa_cons pe_int (pa_cons pe_int pa_nil))))) pa_nil)))))) (pss_one (ps_ret (pe_and (pe_callG GL (hr.mono (by decide)) psE (pa_cons (pv 0) pa_nil)) (pe_and (pe_cmpR (op_eqA hr.units) (pv 11) (pe_op op_mulA (pe_lst (pa_cons pe_str pa_nil)) pe_int) (nomark _)) (pe_and (pe_cmpR (op_eqA hr.units) (pe_callG Z.G_prime_factors (hr.mono (by decide)) psE (pa_cons pe_int pa_nil)) (pe_tup pa_nil) (nomark _)) (pe_and (pe_not (pe_callG Z.G_is_prime (hr.mono (by decide)) psE (pa_cons pe_int pa_nil))) (pe_one (pe_cmpR (op_eqA hr.units) (pe_callG Z.G_prime_factors (hr.mono (by decide)) psE (pa_cons (pe_un un_neg pe_int) pa_nil)) (pe_tup (pa_cons (pe_tup (pa_cons pe_int (pa_cons pe_int pa_nil))) (pa_cons (pe_tup (pa_cons pe_int (pa_cons pe_int pa_nil))) pa_nil))) (nomark _)))))))))))), fun O dl r hg => ?_⟩
    clear sc hr hb hb'
    try dsimp only [cxOf]
    obtain ⟨ns, rfl, hl, hz, rfl⟩ := hg
    have dk : DOk 0 (mkDice (ns.headD 0)) := mkDice_ok (by
      cases ns with
      | nil => show (0 : Int).natAbs < _; exact Nat.pow_pos (by decide)
      | cons a r => exact hz a (List.mem_cons_self ..))
    refine r_seq (r_rounds (i := 0) (ns := ns) rfl hl hz ?_)
    have go := rb (.d (.lst (ns.map di))) O ((start NL [.lst (ns.map di)]).newO 1 (mkDice (ns.headD 0)).ds) ⟨mkDice (ns.headD 0), rfl, rfl, rfl, rfl, dk⟩
    refine runS_pf go ?_
    rintro A' ⟨ln, h0⟩
    obtain ⟨sl, st⟩ := A'
    obtain ⟨v0, v1, v2, v3, v4, v5, v6, v7, v8, v9, v10, v11, v12, v13, v14, v15, v16, v17, v18, v19, v20, v21, v22, v23, v24, v25, v26, v27, v28, v29, v30, rfl⟩ := ex31 sl ln
    obtain rfl : _ = v0 := (Option.some.inj h0).symm
    clear h0 ln go
    have eN : ∀ {A1 : AS} {t : XK → TE}, (∀ E', EvX ⟨K, T, H, O⟩ E' (t E') A1 (NE K) A1) → EvS ⟨K, T, H, O⟩ (LamX.tLam T (LamX.TTold K (NE K) "NumberError") t) A1 (ds "NumberError") A1 := fun h => e_toldErr (C := ⟨K, T, H, O⟩) Tx.m h
    have i1 : KA.invR K 3 1 = .err (NE K) := if_pos (by decide)
    have i2 : pfR (NE K) 0 = .err (NE K) := if_pos rfl
    have i3 : ratR (NE K) 1 0 = .err (NE K) := if_pos rfl
    have i4 : KB.powByR K 2 (-1) 5 = .err (NE K) := if_pos (by decide)
    refine r_seq (r_new (a_cons (eN fun E' => x_call (a_cons e_c (a_cons e_c a_nil)) ⟨3, 1, rfl, szUp (n := 4) (by show Int.natAbs _ < _; decide) (by decide), szUp (n := 4) (by show Int.natAbs _ < _; decide) (by decide), i1.symm⟩) (a_cons (eN fun E' => x_call (a_cons e_c a_nil) ⟨0, rfl, sz20 (by decide), i2.symm⟩) (a_cons (eN fun E' => x_call (a_cons e_c (a_cons e_c a_nil)) ⟨1, 0, rfl, sz20 (by decide), i3.symm⟩) a_nil))) (by decide) ?_)
    have stl : (st ++ [OD.lst [ds "NumberError", ds "NumberError", ds "NumberError"]])[st.length]? = some (.lst [ds "NumberError", ds "NumberError", ds "NumberError"]) := by
      rw [List.getElem?_append_right (Nat.le_refl _), Nat.sub_self]
      rfl
    refine r_seq (r_asg (e_catO (n := st.length) rfl (a_cons (eN fun E' => x_call (a_cons e_c (a_cons (e_U e_c) (a_cons e_c a_nil))) ⟨2, -1, 5, rfl, szUp (n := 4) (by show Int.natAbs _ < _; decide) (by decide), i4.symm⟩) (a_cons (eN fun E' => x_call (a_cons (e_U e_c) (a_cons e_c a_nil)) (.inl ⟨-1, 2, rfl, .inl (by decide), rfl⟩)) (a_cons (eN fun E' => x_call (a_cons e_c (a_cons e_c a_nil)) (.inl ⟨4, 0, rfl, .inr (by decide), rfl⟩)) a_nil))) stl (by decide)) ?_)
    refine r_ret (d := db true) (e_andT (e_call (a_cons (e_var rfl) a_nil) ⟨ns, rfl, hl, hz, rfl⟩) (e_andT (e_bin (e_var rfl) (e_is (e_repD (a_cons e_c a_nil) (by decide) (by decide) (by decide)) rfl) (o_eqSame (n := 1) (.lst nice6))) (e_andT (e_bin (e_unZ (e_call (a_cons e_c a_nil) ⟨1, rfl, sz20 (by decide), pf1'.symm⟩)) (e_tup a_nil (by decide)) (o_eqSame (n := 1) (.tup .nil))) (e_andT (e_is (e_not (e_call (a_cons e_c a_nil) ⟨1, rfl, by decide, rfl⟩)) (by rw [isP1]; rfl)) (e_bin (e_unZ (e_call (a_cons (e_U e_c) a_nil) ⟨-12, rfl, sz20 (by decide), pfm.symm⟩)) (e_tup (a_cons (e_tup (a_cons e_c (a_cons e_c a_nil)) (by decide)) (a_cons (e_tup (a_cons e_c (a_cons e_c a_nil)) (by decide)) a_nil)) (by decide)) (o_eqSame (n := 2) (.tup (niceA_map nice_fr [(2, 2), (3, 1)])))))))) rfl
end Law.KY
end

section
set_option Elab.async false
set_option linter.all false
set_option maxRecDepth 100000
set_option maxHeartbeats 0
namespace Law.KH
open PySem PySem.Spec PyProof.Rows L2 Py
def top (i : Nat) : Stmt := PySem.Challenge.pw_algebrastack_k01_whole_numbers_and_fract.main.body.getD i (.Pass ⟨0, 0, 0, 0⟩)
abbrev s_common_divisor : Stmt := top 8
abbrev s_bezout : Stmt := top 9
abbrev s_inverse : Stmt := top 10
abbrev s_power_by : Stmt := top 11
abbrev s_repeated : Stmt := top 12
abbrev s_prime_factors : Stmt := top 13
abbrev s_divided_out : Stmt := top 14
abbrev s_is_prime : Stmt := top 15
abbrev s_passes_powers : Stmt := top 16
abbrev s_passes_roots : Stmt := top 17
abbrev s_root_sign : Stmt := top 18
abbrev s_root_product : Stmt := top 19
abbrev s_next_prime : Stmt := top 20
abbrev s_remainders_joined : Stmt := top 21
abbrev s_root_below : Stmt := top 22
abbrev s_power : Stmt := top 23
abbrev s_divisors : Stmt := top 24
abbrev s_convergents : Stmt := top 25
abbrev s_rational : Stmt := top 29
abbrev s_sum_of : Stmt := top 30
abbrev s_difference_of : Stmt := top 31
abbrev s_product_of : Stmt := top 32
abbrev s_quotient_of : Stmt := top 33
abbrev s_sign : Stmt := top 34
abbrev s_compared : Stmt := top 35
abbrev s_raised : Stmt := top 36
abbrev s_power_few : Stmt := top 37
abbrev s_few_digits : Stmt := top 38
abbrev s_rational_text : Stmt := top 39
abbrev s__law_dice : Stmt := top 41
abbrev s__law_roll : Stmt := top 42
abbrev s__law_rounds : Stmt := top 43
abbrev s__law_told : Stmt := top 44
abbrev s__law_gcd : Stmt := top 45
abbrev s__law_frac : Stmt := top 46
abbrev s__law_plus : Stmt := top 47
abbrev s__law_times : Stmt := top 48
abbrev s__law_convergents : Stmt := top 49
abbrev s__law_prime : Stmt := top 50
abbrev s__law_large : Stmt := top 51
abbrev s__law_long : Stmt := top 52
abbrev s_law : Stmt := top 53
def dd (f : Str) (s : Stmt) : He.DefD := ⟨(f, none), f, f, defArgs s, defBody s, defScope s, [], []⟩
def dv (f : Str) (s : Stmt) (ds : List He.Dv) : He.DefD := ⟨(f, none), f, f, defArgs s, defBody s, defScope s, ds, []⟩
def fn0 : List He.DefD := [dd "common_divisor" s_common_divisor, dd "bezout" s_bezout, dd "inverse" s_inverse, dd "power_by" s_power_by, dd "repeated" s_repeated, dd "prime_factors" s_prime_factors, dd "divided_out" s_divided_out, dd "is_prime" s_is_prime, dd "passes_powers" s_passes_powers, dd "passes_roots" s_passes_roots, dd "root_sign" s_root_sign, dd "root_product" s_root_product, dd "next_prime" s_next_prime, dd "remainders_joined" s_remainders_joined, dd "root_below" s_root_below, dd "power" s_power, dd "divisors" s_divisors, dd "convergents" s_convergents, dv "rational" s_rational [.int 1], dd "sum_of" s_sum_of, dd "difference_of" s_difference_of, dd "product_of" s_product_of, dd "quotient_of" s_quotient_of, dd "sign" s_sign]
def fn1 : List He.DefD := [dd "compared" s_compared, dd "raised" s_raised, dd "power_few" s_power_few, dd "few_digits" s_few_digits, dd "rational_text" s_rational_text, dd "_law_dice" s__law_dice, dd "_law_roll" s__law_roll, dd "_law_rounds" s__law_rounds, dd "_law_told" s__law_told, dd "_law_gcd" s__law_gcd, dd "_law_frac" s__law_frac, dd "_law_plus" s__law_plus, dd "_law_times" s__law_times, dd "_law_convergents" s__law_convergents, dd "_law_prime" s__law_prime, dd "_law_large" s__law_large, dd "_law_long" s__law_long, dd "law" s_law]
def fn : List He.DefD := fn0 ++ fn1
def fa0 : List He.Fa := [.glo "common_divisor", .glo "bezout", .glo "inverse", .glo "power_by", .glo "repeated", .glo "prime_factors", .glo "divided_out", .glo "is_prime", .glo "passes_powers", .glo "passes_roots", .glo "root_sign", .glo "root_product", .glo "next_prime", .glo "remainders_joined", .glo "root_below", .glo "power", .glo "divisors", .glo "convergents", .glo "rational", .glo "sum_of", .glo "difference_of", .glo "product_of", .glo "quotient_of", .glo "sign"]
def fa1 : List He.Fa := [.glo "compared", .glo "raised", .glo "power_few", .glo "few_digits", .glo "rational_text", .glo "_law_dice", .glo "_law_roll", .glo "_law_rounds", .glo "_law_told", .glo "_law_gcd", .glo "_law_frac", .glo "_law_plus", .glo "_law_times", .glo "_law_convergents", .glo "_law_prime", .glo "_law_large", .glo "_law_long", .glo "law", .free "abs", .free "dict", .free "int", .free "len", .free "list", .free "max"]
def fa2 : List He.Fa := [.free "range", .free "sorted", .free "str", .free "tuple", .int "MOST_TRIAL" 1000000, .int "MOST_DIGITS" 2000, .int "LEAST_FALSE_PRIME" 3317044064679887385961981, .exc "NumberError", .glo "NumberError", .exm "NumberError" "NumberError" true]
def fa : List He.Fa := fa0 ++ fa1 ++ fa2
def tf : List He.Defn := [("power_by", none), ("passes_roots", none), ("power", none), ("_law_large", none), ("law", none)]
def lamF : List Str := ["power_by", "passes_roots", "power", "_law_large", "law"]
def ex (K : PySem.W.Frag) : Bool := bltB K "gcd" "math.gcd" && (tupB K "FIRST_PRIMES" [2, 3, 5, 7, 11, 13, 17, 19, 23, 29, 31, 37, 41] && (tupB K "ONE" [1, 1] && decide (lamF.map fun f => (He.cT K (f, none)).2).Nodup))
abbrev R : PySem.W.OpenRow := PySem.W.OpenLaw.row PySem.Challenge.rw_algebrastack_k01_whole_numbers_and_fract
abbrev hk : PySem.W.Hook := He.hookX 4 fa fn [] tf ex
def ob (s : PySem.W.SharedT) : He.AlX := He.obsX 4 fa fn [] tf ex (HandSHeadRun.getT s)
theorem ob_eq (s : PySem.W.SharedT) : ob s = hk.obs s.abs := He.obsX_eq (HandSHeadRun.getT_eq s)
def lo0 : List Str := ["AlgebraError", "NumberError", "MOST_TRIAL", "FIRST_PRIMES", "LEAST_FALSE_PRIME", "common_divisor", "bezout", "inverse", "power_by", "repeated", "prime_factors", "divided_out", "is_prime", "passes_powers", "passes_roots", "root_sign", "root_product", "next_prime", "remainders_joined", "root_below", "power", "divisors", "convergents", "ONE"]
def lo1 : List Str := ["MOST_DIGITS", "rational", "sum_of", "difference_of", "product_of", "quotient_of", "sign", "compared", "raised", "power_few", "few_digits", "rational_text", "_law_dice", "_law_roll", "_law_rounds", "_law_told", "_law_gcd", "_law_frac", "_law_plus", "_law_times", "_law_convergents", "_law_prime", "_law_large", "_law_long"]
def lo : List Str := lo0 ++ lo1
theorem run (w : World) : HandSHeadRun.RunEqI R (PySem.W.view R.prog [0, 53]) hk ob 4000 lo w := by
  unfold HandSHeadRun.RunEqI
  kernel_rfl
end Law.KH
end

section
set_option Elab.async false
set_option linter.all false
set_option maxRecDepth 100000
set_option maxHeartbeats 4000000
set_option autoImplicit false
namespace Law.KH
open PySem PySem.Spec PyProof.Rows L2 Py
abbrev PR : Program := (PySem.Challenge.rw_algebrastack_k01_whole_numbers_and_fract).prog
theorem okLaw {w : World} {K : Frg} {mg : Str → Option Value} {base : Heap} (hK : K.In base) (G : base.Ns mainGlobals mg) (c : He.SaysD fa fn K) (e : ex K = true) (L : ∀ f ∈ lamF, LamB K base mg (tabL K lamF) f) (fd : FuncData) (F : FunD K "law" "law" (defArgs s_law) (defBody s_law) (defScope s_law) [] [] (He.ga K "law") fd) :
  FnOk PR w K mg base (L2.CX PR w) 21 (He.ga K "law") fd ["script"] (spLaw K (tabL K lamF)) := by
  obtain ⟨e1, e2⟩ := Bool.and_eq_true_iff.mp e
  obtain ⟨e2, e3⟩ := Bool.and_eq_true_iff.mp e2
  obtain ⟨e3, _⟩ := Bool.and_eq_true_iff.mp e3
  have h_common_divisor : mg "common_divisor" = some (.ref (He.ga K "common_divisor")) := He.glo_ok hK G (c.facts (List.mem_of_getElem? (i := 0) (by rfl)))
  have F_common_divisor : ∃ fd, FunD K "common_divisor" "common_divisor" (defArgs s_common_divisor) (defBody s_common_divisor) (defScope s_common_divisor) [] [] (He.ga K "common_divisor") fd := c.defs (d := dd "common_divisor" s_common_divisor) (List.mem_of_getElem? (i := 0) (by rfl))
  have h_bezout : mg "bezout" = some (.ref (He.ga K "bezout")) := He.glo_ok hK G (c.facts (List.mem_of_getElem? (i := 1) (by rfl)))
  have F_bezout : ∃ fd, FunD K "bezout" "bezout" (defArgs s_bezout) (defBody s_bezout) (defScope s_bezout) [] [] (He.ga K "bezout") fd := c.defs (d := dd "bezout" s_bezout) (List.mem_of_getElem? (i := 1) (by rfl))
  have h_inverse : mg "inverse" = some (.ref (He.ga K "inverse")) := He.glo_ok hK G (c.facts (List.mem_of_getElem? (i := 2) (by rfl)))
  have F_inverse : ∃ fd, FunD K "inverse" "inverse" (defArgs s_inverse) (defBody s_inverse) (defScope s_inverse) [] [] (He.ga K "inverse") fd := c.defs (d := dd "inverse" s_inverse) (List.mem_of_getElem? (i := 2) (by rfl))
  have h_power_by : mg "power_by" = some (.ref (He.ga K "power_by")) := He.glo_ok hK G (c.facts (List.mem_of_getElem? (i := 3) (by rfl)))
  have F_power_by : ∃ fd, FunD K "power_by" "power_by" (defArgs s_power_by) (defBody s_power_by) (defScope s_power_by) [] [] (He.ga K "power_by") fd := c.defs (d := dd "power_by" s_power_by) (List.mem_of_getElem? (i := 3) (by rfl))
  have h_repeated : mg "repeated" = some (.ref (He.ga K "repeated")) := He.glo_ok hK G (c.facts (List.mem_of_getElem? (i := 4) (by rfl)))
  have F_repeated : ∃ fd, FunD K "repeated" "repeated" (defArgs s_repeated) (defBody s_repeated) (defScope s_repeated) [] [] (He.ga K "repeated") fd := c.defs (d := dd "repeated" s_repeated) (List.mem_of_getElem? (i := 4) (by rfl))
  have h_prime_factors : mg "prime_factors" = some (.ref (He.ga K "prime_factors")) := He.glo_ok hK G (c.facts (List.mem_of_getElem? (i := 5) (by rfl)))
  have F_prime_factors : ∃ fd, FunD K "prime_factors" "prime_factors" (defArgs s_prime_factors) (defBody s_prime_factors) (defScope s_prime_factors) [] [] (He.ga K "prime_factors") fd := c.defs (d := dd "prime_factors" s_prime_factors) (List.mem_of_getElem? (i := 5) (by rfl))
  have h_divided_out : mg "divided_out" = some (.ref (He.ga K "divided_out")) := He.glo_ok hK G (c.facts (List.mem_of_getElem? (i := 6) (by rfl)))
  have F_divided_out : ∃ fd, FunD K "divided_out" "divided_out" (defArgs s_divided_out) (defBody s_divided_out) (defScope s_divided_out) [] [] (He.ga K "divided_out") fd := c.defs (d := dd "divided_out" s_divided_out) (List.mem_of_getElem? (i := 6) (by rfl))
  have h_is_prime : mg "is_prime" = some (.ref (He.ga K "is_prime")) := He.glo_ok hK G (c.facts (List.mem_of_getElem? (i := 7) (by rfl)))
  have F_is_prime : ∃ fd, FunD K "is_prime" "is_prime" (defArgs s_is_prime) (defBody s_is_prime) (defScope s_is_prime) [] [] (He.ga K "is_prime") fd := c.defs (d := dd "is_prime" s_is_prime) (List.mem_of_getElem? (i := 7) (by rfl))
  have h_passes_powers : mg "passes_powers" = some (.ref (He.ga K "passes_powers")) := He.glo_ok hK G (c.facts (List.mem_of_getElem? (i := 8) (by rfl)))
  have F_passes_powers : ∃ fd, FunD K "passes_powers" "passes_powers" (defArgs s_passes_powers) (defBody s_passes_powers) (defScope s_passes_powers) [] [] (He.ga K "passes_powers") fd := c.defs (d := dd "passes_powers" s_passes_powers) (List.mem_of_getElem? (i := 8) (by rfl))
  have h_passes_roots : mg "passes_roots" = some (.ref (He.ga K "passes_roots")) := He.glo_ok hK G (c.facts (List.mem_of_getElem? (i := 9) (by rfl)))
  have F_passes_roots : ∃ fd, FunD K "passes_roots" "passes_roots" (defArgs s_passes_roots) (defBody s_passes_roots) (defScope s_passes_roots) [] [] (He.ga K "passes_roots") fd := c.defs (d := dd "passes_roots" s_passes_roots) (List.mem_of_getElem? (i := 9) (by rfl))
  have h_root_sign : mg "root_sign" = some (.ref (He.ga K "root_sign")) := He.glo_ok hK G (c.facts (List.mem_of_getElem? (i := 10) (by rfl)))
  have F_root_sign : ∃ fd, FunD K "root_sign" "root_sign" (defArgs s_root_sign) (defBody s_root_sign) (defScope s_root_sign) [] [] (He.ga K "root_sign") fd := c.defs (d := dd "root_sign" s_root_sign) (List.mem_of_getElem? (i := 10) (by rfl))
  have h_root_product : mg "root_product" = some (.ref (He.ga K "root_product")) := He.glo_ok hK G (c.facts (List.mem_of_getElem? (i := 11) (by rfl)))
  have F_root_product : ∃ fd, FunD K "root_product" "root_product" (defArgs s_root_product) (defBody s_root_product) (defScope s_root_product) [] [] (He.ga K "root_product") fd := c.defs (d := dd "root_product" s_root_product) (List.mem_of_getElem? (i := 11) (by rfl))
  have h_next_prime : mg "next_prime" = some (.ref (He.ga K "next_prime")) := He.glo_ok hK G (c.facts (List.mem_of_getElem? (i := 12) (by rfl)))
  have F_next_prime : ∃ fd, FunD K "next_prime" "next_prime" (defArgs s_next_prime) (defBody s_next_prime) (defScope s_next_prime) [] [] (He.ga K "next_prime") fd := c.defs (d := dd "next_prime" s_next_prime) (List.mem_of_getElem? (i := 12) (by rfl))
  have h_remainders_joined : mg "remainders_joined" = some (.ref (He.ga K "remainders_joined")) := He.glo_ok hK G (c.facts (List.mem_of_getElem? (i := 13) (by rfl)))
  have F_remainders_joined : ∃ fd, FunD K "remainders_joined" "remainders_joined" (defArgs s_remainders_joined) (defBody s_remainders_joined) (defScope s_remainders_joined) [] [] (He.ga K "remainders_joined") fd := c.defs (d := dd "remainders_joined" s_remainders_joined) (List.mem_of_getElem? (i := 13) (by rfl))
  have h_root_below : mg "root_below" = some (.ref (He.ga K "root_below")) := He.glo_ok hK G (c.facts (List.mem_of_getElem? (i := 14) (by rfl)))
  have F_root_below : ∃ fd, FunD K "root_below" "root_below" (defArgs s_root_below) (defBody s_root_below) (defScope s_root_below) [] [] (He.ga K "root_below") fd := c.defs (d := dd "root_below" s_root_below) (List.mem_of_getElem? (i := 14) (by rfl))
  have h_power : mg "power" = some (.ref (He.ga K "power")) := He.glo_ok hK G (c.facts (List.mem_of_getElem? (i := 15) (by rfl)))
  have F_power : ∃ fd, FunD K "power" "power" (defArgs s_power) (defBody s_power) (defScope s_power) [] [] (He.ga K "power") fd := c.defs (d := dd "power" s_power) (List.mem_of_getElem? (i := 15) (by rfl))
  have h_divisors : mg "divisors" = some (.ref (He.ga K "divisors")) := He.glo_ok hK G (c.facts (List.mem_of_getElem? (i := 16) (by rfl)))
  have F_divisors : ∃ fd, FunD K "divisors" "divisors" (defArgs s_divisors) (defBody s_divisors) (defScope s_divisors) [] [] (He.ga K "divisors") fd := c.defs (d := dd "divisors" s_divisors) (List.mem_of_getElem? (i := 16) (by rfl))
  have h_convergents : mg "convergents" = some (.ref (He.ga K "convergents")) := He.glo_ok hK G (c.facts (List.mem_of_getElem? (i := 17) (by rfl)))
  have F_convergents : ∃ fd, FunD K "convergents" "convergents" (defArgs s_convergents) (defBody s_convergents) (defScope s_convergents) [] [] (He.ga K "convergents") fd := c.defs (d := dd "convergents" s_convergents) (List.mem_of_getElem? (i := 17) (by rfl))
  have h_rational : mg "rational" = some (.ref (He.ga K "rational")) := He.glo_ok hK G (c.facts (List.mem_of_getElem? (i := 18) (by rfl)))
  have F_rational : ∃ fd, FunD K "rational" "rational" (defArgs s_rational) (defBody s_rational) (defScope s_rational) [.int 1] [] (He.ga K "rational") fd := c.defs (d := dv "rational" s_rational [.int 1]) (List.mem_of_getElem? (i := 18) (by rfl))
  have h_sum_of : mg "sum_of" = some (.ref (He.ga K "sum_of")) := He.glo_ok hK G (c.facts (List.mem_of_getElem? (i := 19) (by rfl)))
  have F_sum_of : ∃ fd, FunD K "sum_of" "sum_of" (defArgs s_sum_of) (defBody s_sum_of) (defScope s_sum_of) [] [] (He.ga K "sum_of") fd := c.defs (d := dd "sum_of" s_sum_of) (List.mem_of_getElem? (i := 19) (by rfl))
  have h_difference_of : mg "difference_of" = some (.ref (He.ga K "difference_of")) := He.glo_ok hK G (c.facts (List.mem_of_getElem? (i := 20) (by rfl)))
  have F_difference_of : ∃ fd, FunD K "difference_of" "difference_of" (defArgs s_difference_of) (defBody s_difference_of) (defScope s_difference_of) [] [] (He.ga K "difference_of") fd := c.defs (d := dd "difference_of" s_difference_of) (List.mem_of_getElem? (i := 20) (by rfl))
  have h_product_of : mg "product_of" = some (.ref (He.ga K "product_of")) := He.glo_ok hK G (c.facts (List.mem_of_getElem? (i := 21) (by rfl)))
  have F_product_of : ∃ fd, FunD K "product_of" "product_of" (defArgs s_product_of) (defBody s_product_of) (defScope s_product_of) [] [] (He.ga K "product_of") fd := c.defs (d := dd "product_of" s_product_of) (List.mem_of_getElem? (i := 21) (by rfl))
  have h_quotient_of : mg "quotient_of" = some (.ref (He.ga K "quotient_of")) := He.glo_ok hK G (c.facts (List.mem_of_getElem? (i := 22) (by rfl)))
  have F_quotient_of : ∃ fd, FunD K "quotient_of" "quotient_of" (defArgs s_quotient_of) (defBody s_quotient_of) (defScope s_quotient_of) [] [] (He.ga K "quotient_of") fd := c.defs (d := dd "quotient_of" s_quotient_of) (List.mem_of_getElem? (i := 22) (by rfl))
  have h_sign : mg "sign" = some (.ref (He.ga K "sign")) := He.glo_ok hK G (c.facts (List.mem_of_getElem? (i := 23) (by rfl)))
  have F_sign : ∃ fd, FunD K "sign" "sign" (defArgs s_sign) (defBody s_sign) (defScope s_sign) [] [] (He.ga K "sign") fd := c.defs (d := dd "sign" s_sign) (List.mem_of_getElem? (i := 23) (by rfl))
  have h_compared : mg "compared" = some (.ref (He.ga K "compared")) := He.glo_ok hK G (c.facts (List.mem_of_getElem? (i := 24) (by rfl)))
  have F_compared : ∃ fd, FunD K "compared" "compared" (defArgs s_compared) (defBody s_compared) (defScope s_compared) [] [] (He.ga K "compared") fd := c.defs (d := dd "compared" s_compared) (List.mem_of_getElem? (i := 24) (by rfl))
  have h_raised : mg "raised" = some (.ref (He.ga K "raised")) := He.glo_ok hK G (c.facts (List.mem_of_getElem? (i := 25) (by rfl)))
  have F_raised : ∃ fd, FunD K "raised" "raised" (defArgs s_raised) (defBody s_raised) (defScope s_raised) [] [] (He.ga K "raised") fd := c.defs (d := dd "raised" s_raised) (List.mem_of_getElem? (i := 25) (by rfl))
  have h_power_few : mg "power_few" = some (.ref (He.ga K "power_few")) := He.glo_ok hK G (c.facts (List.mem_of_getElem? (i := 26) (by rfl)))
  have F_power_few : ∃ fd, FunD K "power_few" "power_few" (defArgs s_power_few) (defBody s_power_few) (defScope s_power_few) [] [] (He.ga K "power_few") fd := c.defs (d := dd "power_few" s_power_few) (List.mem_of_getElem? (i := 26) (by rfl))
  have h_few_digits : mg "few_digits" = some (.ref (He.ga K "few_digits")) := He.glo_ok hK G (c.facts (List.mem_of_getElem? (i := 27) (by rfl)))
  have F_few_digits : ∃ fd, FunD K "few_digits" "few_digits" (defArgs s_few_digits) (defBody s_few_digits) (defScope s_few_digits) [] [] (He.ga K "few_digits") fd := c.defs (d := dd "few_digits" s_few_digits) (List.mem_of_getElem? (i := 27) (by rfl))
  have h_rational_text : mg "rational_text" = some (.ref (He.ga K "rational_text")) := He.glo_ok hK G (c.facts (List.mem_of_getElem? (i := 28) (by rfl)))
  have F_rational_text : ∃ fd, FunD K "rational_text" "rational_text" (defArgs s_rational_text) (defBody s_rational_text) (defScope s_rational_text) [] [] (He.ga K "rational_text") fd := c.defs (d := dd "rational_text" s_rational_text) (List.mem_of_getElem? (i := 28) (by rfl))
  have h__law_dice : mg "_law_dice" = some (.ref (He.ga K "_law_dice")) := He.glo_ok hK G (c.facts (List.mem_of_getElem? (i := 29) (by rfl)))
  have F__law_dice : ∃ fd, FunD K "_law_dice" "_law_dice" (defArgs s__law_dice) (defBody s__law_dice) (defScope s__law_dice) [] [] (He.ga K "_law_dice") fd := c.defs (d := dd "_law_dice" s__law_dice) (List.mem_of_getElem? (i := 29) (by rfl))
  have h__law_roll : mg "_law_roll" = some (.ref (He.ga K "_law_roll")) := He.glo_ok hK G (c.facts (List.mem_of_getElem? (i := 30) (by rfl)))
  have F__law_roll : ∃ fd, FunD K "_law_roll" "_law_roll" (defArgs s__law_roll) (defBody s__law_roll) (defScope s__law_roll) [] [] (He.ga K "_law_roll") fd := c.defs (d := dd "_law_roll" s__law_roll) (List.mem_of_getElem? (i := 30) (by rfl))
  have h__law_rounds : mg "_law_rounds" = some (.ref (He.ga K "_law_rounds")) := He.glo_ok hK G (c.facts (List.mem_of_getElem? (i := 31) (by rfl)))
  have F__law_rounds : ∃ fd, FunD K "_law_rounds" "_law_rounds" (defArgs s__law_rounds) (defBody s__law_rounds) (defScope s__law_rounds) [] [] (He.ga K "_law_rounds") fd := c.defs (d := dd "_law_rounds" s__law_rounds) (List.mem_of_getElem? (i := 31) (by rfl))
  have h__law_told : mg "_law_told" = some (.ref (He.ga K "_law_told")) := He.glo_ok hK G (c.facts (List.mem_of_getElem? (i := 32) (by rfl)))
  have F__law_told : ∃ fd, FunD K "_law_told" "_law_told" (defArgs s__law_told) (defBody s__law_told) (defScope s__law_told) [] [] (He.ga K "_law_told") fd := c.defs (d := dd "_law_told" s__law_told) (List.mem_of_getElem? (i := 32) (by rfl))
  have h__law_gcd : mg "_law_gcd" = some (.ref (He.ga K "_law_gcd")) := He.glo_ok hK G (c.facts (List.mem_of_getElem? (i := 33) (by rfl)))
  have F__law_gcd : ∃ fd, FunD K "_law_gcd" "_law_gcd" (defArgs s__law_gcd) (defBody s__law_gcd) (defScope s__law_gcd) [] [] (He.ga K "_law_gcd") fd := c.defs (d := dd "_law_gcd" s__law_gcd) (List.mem_of_getElem? (i := 33) (by rfl))
  have h__law_frac : mg "_law_frac" = some (.ref (He.ga K "_law_frac")) := He.glo_ok hK G (c.facts (List.mem_of_getElem? (i := 34) (by rfl)))
  have F__law_frac : ∃ fd, FunD K "_law_frac" "_law_frac" (defArgs s__law_frac) (defBody s__law_frac) (defScope s__law_frac) [] [] (He.ga K "_law_frac") fd := c.defs (d := dd "_law_frac" s__law_frac) (List.mem_of_getElem? (i := 34) (by rfl))
  have h__law_plus : mg "_law_plus" = some (.ref (He.ga K "_law_plus")) := He.glo_ok hK G (c.facts (List.mem_of_getElem? (i := 35) (by rfl)))
  have F__law_plus : ∃ fd, FunD K "_law_plus" "_law_plus" (defArgs s__law_plus) (defBody s__law_plus) (defScope s__law_plus) [] [] (He.ga K "_law_plus") fd := c.defs (d := dd "_law_plus" s__law_plus) (List.mem_of_getElem? (i := 35) (by rfl))
  have h__law_times : mg "_law_times" = some (.ref (He.ga K "_law_times")) := He.glo_ok hK G (c.facts (List.mem_of_getElem? (i := 36) (by rfl)))
  have F__law_times : ∃ fd, FunD K "_law_times" "_law_times" (defArgs s__law_times) (defBody s__law_times) (defScope s__law_times) [] [] (He.ga K "_law_times") fd := c.defs (d := dd "_law_times" s__law_times) (List.mem_of_getElem? (i := 36) (by rfl))
  have h__law_convergents : mg "_law_convergents" = some (.ref (He.ga K "_law_convergents")) := He.glo_ok hK G (c.facts (List.mem_of_getElem? (i := 37) (by rfl)))
  have F__law_convergents : ∃ fd, FunD K "_law_convergents" "_law_convergents" (defArgs s__law_convergents) (defBody s__law_convergents) (defScope s__law_convergents) [] [] (He.ga K "_law_convergents") fd := c.defs (d := dd "_law_convergents" s__law_convergents) (List.mem_of_getElem? (i := 37) (by rfl))
  have h__law_prime : mg "_law_prime" = some (.ref (He.ga K "_law_prime")) := He.glo_ok hK G (c.facts (List.mem_of_getElem? (i := 38) (by rfl)))
  have F__law_prime : ∃ fd, FunD K "_law_prime" "_law_prime" (defArgs s__law_prime) (defBody s__law_prime) (defScope s__law_prime) [] [] (He.ga K "_law_prime") fd := c.defs (d := dd "_law_prime" s__law_prime) (List.mem_of_getElem? (i := 38) (by rfl))
  have h__law_large : mg "_law_large" = some (.ref (He.ga K "_law_large")) := He.glo_ok hK G (c.facts (List.mem_of_getElem? (i := 39) (by rfl)))
  have F__law_large : ∃ fd, FunD K "_law_large" "_law_large" (defArgs s__law_large) (defBody s__law_large) (defScope s__law_large) [] [] (He.ga K "_law_large") fd := c.defs (d := dd "_law_large" s__law_large) (List.mem_of_getElem? (i := 39) (by rfl))
  have h__law_long : mg "_law_long" = some (.ref (He.ga K "_law_long")) := He.glo_ok hK G (c.facts (List.mem_of_getElem? (i := 40) (by rfl)))
  have F__law_long : ∃ fd, FunD K "_law_long" "_law_long" (defArgs s__law_long) (defBody s__law_long) (defScope s__law_long) [] [] (He.ga K "_law_long") fd := c.defs (d := dd "_law_long" s__law_long) (List.mem_of_getElem? (i := 40) (by rfl))
  have h_law : mg "law" = some (.ref (He.ga K "law")) := He.glo_ok hK G (c.facts (List.mem_of_getElem? (i := 41) (by rfl)))
  have n_abs : mg "abs" = none := He.free_ok hK G (c.facts (List.mem_of_getElem? (i := 42) (by rfl)))
  have n_dict : mg "dict" = none := He.free_ok hK G (c.facts (List.mem_of_getElem? (i := 43) (by rfl)))
  have n_int : mg "int" = none := He.free_ok hK G (c.facts (List.mem_of_getElem? (i := 44) (by rfl)))
  have n_len : mg "len" = none := He.free_ok hK G (c.facts (List.mem_of_getElem? (i := 45) (by rfl)))
  have n_list : mg "list" = none := He.free_ok hK G (c.facts (List.mem_of_getElem? (i := 46) (by rfl)))
  have n_max : mg "max" = none := He.free_ok hK G (c.facts (List.mem_of_getElem? (i := 47) (by rfl)))
  have n_range : mg "range" = none := He.free_ok hK G (c.facts (List.mem_of_getElem? (i := 48) (by rfl)))
  have n_sorted : mg "sorted" = none := He.free_ok hK G (c.facts (List.mem_of_getElem? (i := 49) (by rfl)))
  have n_str : mg "str" = none := He.free_ok hK G (c.facts (List.mem_of_getElem? (i := 50) (by rfl)))
  have n_tuple : mg "tuple" = none := He.free_ok hK G (c.facts (List.mem_of_getElem? (i := 51) (by rfl)))
  have gN : mg "NumberError" = some (.ref (He.ga K "NumberError")) := He.glo_ok hK G (c.facts (List.mem_of_getElem? (i := 56) (by rfl)))
  have xN := He.exc_ok (c.facts (f := .exc "NumberError") (List.mem_of_getElem? (i := 55) (by rfl)))
  have mN := He.exm_ok (c.facts (f := .exm "NumberError" "NumberError" true) (List.mem_of_getElem? (i := 57) (by rfl)))
  have c_MOST_TRIAL : ∃ u, mg "MOST_TRIAL" = some u ∧ RelV (.int 1000000) u := by
    obtain ⟨t, ht⟩ := He.int_ok hK G (c.facts (f := .int "MOST_TRIAL" 1000000) (List.mem_of_getElem? (i := 52) (by rfl)))
    exact ⟨_, ht, t, rfl⟩
  have c_MOST_DIGITS : ∃ u, mg "MOST_DIGITS" = some u ∧ RelV (.int 2000) u := by
    obtain ⟨t, ht⟩ := He.int_ok hK G (c.facts (f := .int "MOST_DIGITS" 2000) (List.mem_of_getElem? (i := 53) (by rfl)))
    exact ⟨_, ht, t, rfl⟩
  have c_LEAST_FALSE_PRIME : ∃ u, mg "LEAST_FALSE_PRIME" = some u ∧ RelV (.int 3317044064679887385961981) u := by
    obtain ⟨t, ht⟩ := He.int_ok hK G (c.facts (f := .int "LEAST_FALSE_PRIME" 3317044064679887385961981) (List.mem_of_getElem? (i := 54) (by rfl)))
    exact ⟨_, ht, t, rfl⟩
  have n_gcd : mg "gcd" = some (.builtin "math.gcd") := bltB_ok hK G e1
  have c_FIRST_PRIMES := tupB_ok hK G e2
  have c_ONE := tupB_ok hK G e3
  have XA : KA.Txt K mg := ⟨gN, xN, n_gcd, n_abs, n_tuple, n_range, n_max, c_MOST_TRIAL⟩
  have XB : KB.Txt K mg := ⟨gN, xN, n_gcd, n_abs, n_tuple, n_range, n_max, c_MOST_TRIAL⟩
  have XR : KR.Txt K mg := ⟨gN, xN, n_gcd, n_abs, n_tuple, n_range, n_max, c_MOST_TRIAL⟩
  have XP : Law.Txt K mg := ⟨gN, xN, n_gcd, n_abs, n_tuple, n_range, n_max, c_MOST_TRIAL⟩
  have XD : KD.Txt K mg := ⟨gN, xN, n_gcd, n_abs, n_tuple, n_range, n_max, n_int, c_MOST_TRIAL⟩
  have X2 : Law.Txt2 K mg := ⟨gN, xN, n_gcd, n_abs, n_tuple, n_range, n_max, c_FIRST_PRIMES, c_LEAST_FALSE_PRIME, c_MOST_TRIAL⟩
  have X3 : KR.Txt3 K mg := ⟨gN, xN, n_gcd, n_abs, n_tuple, n_range, n_max, c_ONE, c_MOST_DIGITS, c_MOST_TRIAL⟩
  have X4 : KV.Txt4 K mg := ⟨gN, xN, n_gcd, n_abs, n_tuple, n_range, n_max, n_sorted, c_MOST_TRIAL⟩
  have X5 : KY.Txt5 K mg := ⟨gN, mN, n_abs, n_dict, n_int, n_len, n_list, n_range, n_sorted, n_str⟩
  have B_power := L "power" (by decide)
  have B_power_by := L "power_by" (by decide)
  have B_large := L "_law_large" (by decide)
  have B_law := L "law" (by decide)
  generalize tabL K lamF = T at *
  have Gcd := KA.ok_common_divisor (P := PR) (w := w) (T := T) (base := base) XA F_common_divisor h_common_divisor
  have Gbez := KA.ok_bezout (P := PR) (w := w) (T := T) (base := base) XA F_bezout h_bezout
  have Ginv := KA.ok_inverse (P := PR) (w := w) (T := T) (base := base) XA F_inverse h_inverse Gbez
  have Gpow := KB.ok_power (P := PR) (w := w) (T := T) (base := base) XB F_power h_power B_power F_repeated h_repeated
  have Gpowby := KB.ok_power_by (P := PR) (w := w) (T := T) (base := base) XB F_power_by h_power_by B_power_by F_repeated h_repeated
  have Gout := ok_divided_out (P := PR) (w := w) (T := T) (base := base) XP F_divided_out h_divided_out
  have Gpf := ok_prime_factors (P := PR) (w := w) (T := T) (base := base) XP F_prime_factors h_prime_factors Gout
  have Gpass := ok_passes_powers (P := PR) (w := w) (T := T) (base := base) X2 F_passes_powers h_passes_powers Gout Gpowby
  have Groots : Gd PR w K mg base "passes_roots" ["number"] 4 (spD K T fun _ _ => False) := gd_none F_passes_roots h_passes_roots fun _ _ _ _ _ _ us hl => match us, hl with | [_], _ => rfl
  have Gisp := ok_is_prime (P := PR) (w := w) (T := T) (base := base) X2 F_is_prime h_is_prime Gpass Groots
  have Gnext := ok_next_prime (P := PR) (w := w) (T := T) (base := base) X2 F_next_prime h_next_prime Gisp
  have Groot := KS.ok_root_below (P := PR) (w := w) (T := T) (base := base) XP F_root_below h_root_below Gpow
  have Gcv := KC.ok_convergents (P := PR) (w := w) (T := T) (base := base) XP F_convergents h_convergents
  have Glcv := KC.ok__law_convergents (P := PR) (w := w) (T := T) (base := base) XP F__law_convergents h__law_convergents
  have Glgcd := KC.ok__law_gcd (P := PR) (w := w) (T := T) (base := base) XP F__law_gcd h__law_gcd
  have Glfrac := KC.ok__law_frac (P := PR) (w := w) (T := T) (base := base) XP F__law_frac h__law_frac Glgcd
  have Glplus := KC.ok__law_plus (P := PR) (w := w) (T := T) (base := base) XP F__law_plus h__law_plus Glfrac
  have Gltimes := KC.ok__law_times (P := PR) (w := w) (T := T) (base := base) XP F__law_times h__law_times Glfrac
  have Gjoin := KJ.ok_remainders_joined (P := PR) (w := w) (T := T) (base := base) XP F_remainders_joined h_remainders_joined Gbez
  have Grat := KR.ok_rational (P := PR) (w := w) (T := T) (base := base) XR F_rational h_rational Gcd
  have Gsum := KR.ok_sum_of (P := PR) (w := w) (T := T) (base := base) XR F_sum_of h_sum_of Grat
  have Gdif := KR.ok_difference_of (P := PR) (w := w) (T := T) (base := base) XR F_difference_of h_difference_of Grat
  have Gprod := KR.ok_product_of (P := PR) (w := w) (T := T) (base := base) XR F_product_of h_product_of Grat
  have Gquo := KR.ok_quotient_of (P := PR) (w := w) (T := T) (base := base) XR F_quotient_of h_quotient_of Grat
  have Gsign := KR.ok_sign (P := PR) (w := w) (T := T) (base := base) XR F_sign h_sign
  have Gcmp := KR.ok_compared (P := PR) (w := w) (T := T) (base := base) XR F_compared h_compared Gsign Gdif
  have Gpfew := KR.ok_power_few (P := PR) (w := w) (T := T) (base := base) X3 F_power_few h_power_few Gpow
  have Gfew := KR.ok_few_digits (P := PR) (w := w) (T := T) (base := base) X3 F_few_digits h_few_digits Gpow
  have Graised := KR.ok_raised (P := PR) (w := w) (T := T) (base := base) X3 F_raised h_raised Gquo Gfew Gpfew
  have Grtext := KR.ok_rational_text (P := PR) (w := w) (T := T) (base := base) X3 F_rational_text h_rational_text Gfew
  have Glprime := ok__law_prime (P := PR) (w := w) (T := T) (base := base) XP F__law_prime h__law_prime
  have Gdice := KD.ok_law_dice (P := PR) (w := w) (T := T) (base := base) XD F__law_dice h__law_dice
  have Groll := KD.ok_law_roll (P := PR) (w := w) (T := T) (base := base) XD F__law_roll h__law_roll
  have Grounds := KD.ok_law_rounds (P := PR) (w := w) (T := T) (base := base) XD F__law_rounds h__law_rounds Gdice
  have Glong := KM.ok_law_long (P := PR) (w := w) (T := T) (base := base) F__law_long h__law_long Groll 7
  have Gdv := KV.ok_divisors (P := PR) (w := w) (T := T) (base := base) X4 F_divisors h_divisors Gpf Gpow
  have Z : KY.GS PR w K T mg base := { G_bezout := Gbez, G_common_divisor := Gcd, G_inverse := Ginv, G_power := Gpow, G_power_by := Gpowby, G_convergents := Gcv, G__law_convergents := Glcv, G__law_gcd := Glgcd, G__law_frac := Glfrac, G__law_plus := Glplus, G__law_times := Gltimes, G_remainders_joined := Gjoin, G__law_prime := Glprime, G_prime_factors := Gpf, G_is_prime := Gisp, G_next_prime := Gnext, G_rational := Grat, G_sum_of := Gsum, G_difference_of := Gdif, G_product_of := Gprod, G_quotient_of := Gquo, G_sign := Gsign, G_compared := Gcmp, G_root_below := Groot, G_raised := Graised, G_rational_text := Grtext, G_divisors := Gdv, G__law_roll := Groll, G__law_rounds := Grounds, G__law_long := Glong, F_told := F__law_told, hm_told := h__law_told }
  have GL := KY.ok__law_large (P := PR) (w := w) (T := T) (base := base) Z X5 F__law_large h__law_large B_large
  refine (KY.ok_law (P := PR) (w := w) (T := T) (base := base) Z X5 B_law GL F).imp fun vs H Q E h => ?_
  obtain ⟨a, ns, rfl, h1, h2, h3, h4, h5⟩ := h
  have hL : IsA K (hd [] H) [.lst (ns.map di)] [.ref a] := isA_cons (by
    rw [hd_nil, Is]
    exact ⟨a, ns.map V.int, rfl, h1, by rw [show ns.map di = (ns.map V.int).map Dt.v by rw [List.map_map]; rfl]; exact flat_isA⟩) isA_nil
  exact ⟨[], [.lst (ns.map di)], .ok (db true), (fun a h => (by cases h)), h4, hL, ⟨ns, rfl, h2, h3, rfl⟩, (fun v H' _ _ i => (by rw [Is.v_iff.mp i]; exact h5 H'))⟩
end Law.KH
open PySem PySem.W PySem.Calls PyProof.Rows
theorem PySem.Challenge.cw_algebrastack_k01_whole_numbers_and_fract_holds : PySem.Challenge.rw_algebrastack_k01_whole_numbers_and_fract.Holds := by
  w_on; o_law
  refine HandSHeadRun.head_imp (r := OpenLaw.row PySem.Challenge.rw_algebrastack_k01_whole_numbers_and_fract) (q := view (OpenLaw.row PySem.Challenge.rw_algebrastack_k01_whole_numbers_and_fract).prog [0, 53]) (H := Law.KH.hk) (ob := Law.KH.ob) (M := 4000) (loose := Law.KH.lo) (d := HandSHeadRun.topDef (OpenLaw.row PySem.Challenge.rw_algebrastack_k01_whole_numbers_and_fract).prog 53) (kwd := []) Law.KH.ob_eq
    Law.KH.run (by kernel_rfl) (by kernel_rfl) (by kernel_rfl) (by rfl) (by first | assumption | decide +kernel) (by decide +kernel) ⟨rfl, rfl, rfl, rfl, rfl, by decide +kernel⟩ ?hw ?hc
  case hw => w_witness2
  case hc => exact Py.walk_mine (l := PySem.Challenge.rw_algebrastack_k01_whole_numbers_and_fract) (k := 21) (x := "script") (nm := "law") (N := 4) (fs := Law.KH.lamF) (st := Law.KH.s_law) rfl (by kernel_rfl) ⟨rfl, by decide, by decide⟩ (by kernel_rfl) (List.mem_of_getElem? (i := 41) (by rfl)) (List.mem_of_getElem? (i := 41) (by rfl)) (fun _ _ _ _ _ _ us hl => match us, hl with | [_], _ => rfl) (fun K e => of_decide_eq_true (Bool.and_eq_true_iff.mp (Bool.and_eq_true_iff.mp (Bool.and_eq_true_iff.mp e).2).2).2) fun w K mg base a b c d e fd F => Law.KH.okLaw a b c d e fd F
end
