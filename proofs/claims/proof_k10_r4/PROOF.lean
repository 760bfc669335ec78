import PyProof.Rows.All
import Wide.All
import OpenK.AllK
import Wide.FinOn
import HandS.ForMost
import HandS.ForExc
import HandS.Gcd
import HandS.Wide
import HandS.TupAny
import HandS.TupMul
import HandS.IsInst
import HandS.Defaults
import HandS.AnyAll
import HandS.Style
import HandS.Zip
import HandS.EndBits
import HandS.Small
import HandS.ExcIs
import HandS.ExcField
import HandS.Deep
import KE.GoesZip
import KE.GoesMore
import HandS.GenList
import HandS.MakeKwOnly
import HandS.EndTab
import KE.KNestM
import HandS.TryOnly
import HandS.Nested
import HandS.ExcInit
import HandS.FStr
import HandS.TryMany
import KE.KExcSuper
import HandS.Iter
import PyProof.ListRange
import PySem.Challenge.RW_kinkmeasure_k10_plain_networks_and_units
set_option Elab.async false
set_option linter.all false
set_option maxRecDepth 100000
set_option maxHeartbeats 4000000
/-! A layer of values without a heap: what an expression is worth, what a statement does, as plain functions. -/
namespace PD
open PySem PySem.Spec PyProof.Rows L2

/-! ### outcomes -/
abbrev Flds := List (Str × PyData)
inductive RO (α : Type) where
  | ok (a : α)
  | er (c : Str) (fl : Flds)
  | no
def RO.bind {α β : Type} (r : RO α) (f : α → RO β) : RO β := match r with
  | .ok a => f a
  | .er c fl => .er c fl
  | .no => .no
instance : Monad RO where
  pure := .ok
  bind := RO.bind
theorem RO.bind_ok {α β : Type} (a : α) (f : α → RO β) : ((RO.ok a) >>= f) = f a := rfl
theorem RO.bind_er {α β : Type} (c : Str) (fl : Flds) (f : α → RO β) : ((RO.er c fl : RO α) >>= f) = .er c fl := rfl
theorem RO.bind_no {α β : Type} (f : α → RO β) : ((RO.no : RO α) >>= f) = .no := rfl
theorem RO.pure_ok {α : Type} (a : α) : (pure a : RO α) = .ok a := rfl

/-- a slot: a value that nobody changes, or a list that this frame alone holds -/
inductive SV where
  | fz (d : PyData)
  | own (ds : List PyData)
abbrev Env := List (Option SV)
abbrev Sg := L2.St
abbrev E := Env → RO PyData
abbrev T := Env → RO Bool
inductive SO where
  | nx (e : Env)
  | rt (d : PyData)
  | bk (e : Env)
  | ct (e : Env)
  | er (e : Env) (c : Str) (fl : Flds)
  | no
abbrev S := Env → SO

/-! ### heaps that grow -/
def Ext (H H' : Hp) : Prop := ∀ a o, H a = some o → H' a = some o ∨ ∃ ps more, o = .tbl ps ∧ H' a = some (.tbl (ps ++ more)) ∧ (TriplesOk ps.toList → TriplesOk (ps ++ more).toList)
theorem Ext.refl (H : Hp) : Ext H H := fun _ _ h => .inl h
theorem Ext.trans {H H1 H2 : Hp} (a : Ext H H1) (b : Ext H1 H2) : Ext H H2 := fun x o h => by
  rcases a x o h with h1 | ⟨ps, more, rfl, h1, t1⟩
  · exact b x o h1
  · rcases b x _ h1 with h2 | ⟨ps2, more2, e, h2, t2⟩
    · exact .inr ⟨ps, more, rfl, h2, t1⟩
    · injection e with e
      subst e
      exact .inr ⟨ps, more ++ more2, rfl, by rw [h2, Array.append_assoc], fun t => by rw [← Array.append_assoc]; exact t2 (t1 t)⟩
theorem Ext.new {H : Hp} {p : Addr} {o : HO} (h : H p = none) : Ext H (upd H p o) := fun a u e => .inl (by
  rw [upd_ne (ne_of_none e h)]
  exact e)
theorem Ext.of_same {H H' : Hp} (h : Same H H') : Ext H H' := fun a o e => .inl (h a o e)
theorem Ext.fresh {H H' : Hp} {p : Addr} (e : Ext H H') (h : H' p = none) : H p = none := by
  cases h1 : H p with
  | none => rfl
  | some o =>
    rcases e p o h1 with h2 | ⟨_, _, _, h2, _⟩ <;> rw [h] at h2 <;> cases h2
theorem Ext.lst {H H' : Hp} (e : Ext H H') {a : Addr} {xs : List V} (h : H a = some (.lst xs)) : H' a = some (.lst xs) := by
  rcases e a _ h with h | ⟨_, _, q, _⟩
  · exact h
  · cases q
theorem Ext.at {H H' : Hp} (e : Ext H H') {a : Addr} {o : HO} (h : H a = some o) (n : ∀ ps, o ≠ .tbl ps) : H' a = some o := by
  rcases e a _ h with h | ⟨ps, _, q, _⟩
  · exact h
  · exact absurd q (n ps)
/-- without the addresses in O -/
def hid (O : List Addr) (H : Hp) : Hp := fun a => if a ∈ O then none else H a
theorem hid_in {O : List Addr} {H : Hp} {a : Addr} (h : a ∈ O) : hid O H a = none := if_pos h
theorem hid_out {O : List Addr} {H : Hp} {a : Addr} (h : a ∉ O) : hid O H a = H a := if_neg h
theorem hid_some {O : List Addr} {H : Hp} {a : Addr} {o : HO} (h : hid O H a = some o) : a ∉ O ∧ H a = some o := by
  unfold hid at h
  split at h
  · cases h
  · exact ⟨by assumption, h⟩
theorem hid_nil {H : Hp} : hid [] H = H := by
  funext a
  exact hid_out (by simp)
theorem Ext.hid {H H' : Hp} (e : Ext H H') (O : List Addr) : Ext (hid O H) (hid O H') := fun a o h => by
  obtain ⟨n, h⟩ := hid_some h
  rw [hid_out n]
  exact e a o h
theorem Ext.unhid {O : List Addr} {H : Hp} : Ext (PD.hid O H) H := fun a o h => .inl (hid_some h).2
theorem Ext.hid_sub {O O' : List Addr} {H : Hp} (h : ∀ a ∈ O', a ∈ O) : Ext (PD.hid O H) (PD.hid O' H) := fun a o e => by
  obtain ⟨n, e⟩ := hid_some e
  exact .inl (by rw [hid_out fun z => n (h a z)]; exact e)
/-- a new address may be hidden -/
theorem Ext.hid_new {O : List Addr} {H : Hp} {p : Addr} {o : HO} (h : H p = none) : Ext (PD.hid O H) (PD.hid (p :: O) (upd H p o)) := fun a u e => by
  obtain ⟨n, e⟩ := hid_some e
  have np : a ≠ p := ne_of_none e h
  refine .inl ?_
  rw [hid_out (by simp [np, n]), upd_ne np]
  exact e
/-- an object that is hidden may change -/
theorem Ext.hid_upd {O : List Addr} {H : Hp} {p : Addr} {o : HO} (h : p ∈ O) : Ext (PD.hid O H) (PD.hid O (upd H p o)) := fun a u e => by
  obtain ⟨n, e⟩ := hid_some e
  have np : a ≠ p := fun z => n (z ▸ h)
  refine .inl ?_
  rw [hid_out n, upd_ne np]
  exact e

section
variable {K : PySem.W.Frag} {H H' : Hp}
theorem Ext.rd (e : Ext H H') {a : Addr} {u : HO} (n : ∀ ps, u ≠ .tbl ps) (h : Rd H a u) : Rd H' a u := by
  rcases h with h | ⟨o, h⟩
  · exact .inl (e.at h n)
  · exact .inr ⟨o, e.at h fun _ => by intro z; cases z⟩
theorem Ext.sl (e : Ext H H') {a : Addr} {xs : List V} (h : SqL K H a xs) : SqL K H' a xs := by
  rcases h with h | h
  · exact .inl (e.rd (fun _ => by intro z; cases z) h)
  · exact .inr h
theorem Ext.st (e : Ext H H') {a : Addr} {xs : List V} (h : SqT K H a xs) : SqT K H' a xs := by
  rcases h with h | h
  · exact .inl (e.rd (fun _ => by intro z; cases z) h)
  · exact .inr h
mutual
theorem Ext.dp (e : Ext H H') : ∀ {d : PyData} {v : V}, Dp K H v d → Dp K H' v d
  | _, _, .non => .non
  | _, _, .bl b => .bl b
  | _, _, .int i => .int i
  | _, _, .str x => .str x
  | _, _, .lst h a => .lst (e.sl h) (Ext.dpa e a)
  | _, _, .tup h a => .tup (e.st h) (Ext.dpa e a)
theorem Ext.dpa (e : Ext H H') : ∀ {ds : List PyData} {vs : List V}, DpAll K H vs ds → DpAll K H' vs ds
  | _, _, .nil => .nil
  | _, _, .cons h t => .cons (Ext.dp e h) (Ext.dpa e t)
end
theorem dpa_len : ∀ {vs : List V} {ds : List PyData}, DpAll K H vs ds → vs.length = ds.length
  | _, _, .nil => rfl
  | _, _, .cons _ t => congrArg Nat.succ (dpa_len t)
theorem dpa_get : ∀ {vs : List V} {ds : List PyData} {i : Nat} {d : PyData}, DpAll K H vs ds → ds[i]? = some d → ∃ v, vs[i]? = some v ∧ Dp K H v d
  | _, _, _, _, .nil, e => by simp at e
  | _, _, 0, _, .cons h _, e => by simp at e; subst e; exact ⟨_, rfl, h⟩
  | _, _, i + 1, _, .cons _ t, e => by
    obtain ⟨v, h1, h2⟩ := dpa_get (i := i) t (by simpa using e)
    exact ⟨v, by simpa using h1, h2⟩
theorem dpa_getV : ∀ {vs : List V} {ds : List PyData} {i : Nat} {v : V}, DpAll K H vs ds → vs[i]? = some v → ∃ d, ds[i]? = some d ∧ Dp K H v d
  | _, _, _, _, .nil, e => by simp at e
  | _, _, 0, _, .cons h _, e => by simp at e; subst e; exact ⟨_, rfl, h⟩
  | _, _, i + 1, _, .cons _ t, e => by
    obtain ⟨v, h1, h2⟩ := dpa_getV (i := i) t (by simpa using e)
    exact ⟨v, by simpa using h1, h2⟩
theorem dpa_app : ∀ {vs ws : List V} {ds es : List PyData}, DpAll K H vs ds → DpAll K H ws es → DpAll K H (vs ++ ws) (ds ++ es)
  | _, _, _, _, .nil, h => h
  | _, _, _, _, .cons h t, k => .cons h (dpa_app t k)
theorem dpa_take : ∀ {vs : List V} {ds : List PyData} (n : Nat), DpAll K H vs ds → DpAll K H (vs.take n) (ds.take n)
  | _, _, 0, _ => .nil
  | _, _, _ + 1, .nil => .nil
  | _, _, n + 1, .cons h t => .cons h (dpa_take n t)
theorem dpa_drop : ∀ {vs : List V} {ds : List PyData} (n : Nat), DpAll K H vs ds → DpAll K H (vs.drop n) (ds.drop n)
  | _, _, 0, h => h
  | _, _, _ + 1, .nil => .nil
  | _, _, n + 1, .cons _ t => dpa_drop n t
theorem dpa_set {v : V} {d : PyData} (h : Dp K H v d) : ∀ {vs : List V} {ds : List PyData} (n : Nat), DpAll K H vs ds → DpAll K H (vs.set n v) (ds.set n d)
  | _, _, _, .nil => .nil
  | _, _, 0, .cons _ t => .cons h t
  | _, _, n + 1, .cons h' t => .cons h' (dpa_set h n t)
theorem dpa_rep {v : V} {d : PyData} (h : Dp K H v d) : ∀ n : Nat, DpAll K H (List.replicate n v) (List.replicate n d)
  | 0 => .nil
  | n + 1 => .cons h (dpa_rep h n)
theorem dp_int {i : Int} {v : V} (h : Dp K H v (.int i)) : v = .int i := by cases h; rfl
theorem dp_str {i : Str} {v : V} (h : Dp K H v (.str i)) : v = .str i := by cases h; rfl
theorem dp_bool {i : Bool} {v : V} (h : Dp K H v (.bool i)) : v = .bl i := by cases h; rfl
theorem dp_none {v : V} (h : Dp K H v .none) : v = .non := by cases h; rfl
theorem dp_tup {ds : List PyData} {v : V} (h : Dp K H v (.tuple ds)) : ∃ a xs, v = .ref a ∧ SqT K H a xs ∧ DpAll K H xs ds := by cases h with | tup a b => exact ⟨_, _, rfl, a, b⟩
theorem dp_lst {ds : List PyData} {v : V} (h : Dp K H v (.list ds)) : ∃ a xs, v = .ref a ∧ SqL K H a xs ∧ DpAll K H xs ds := by cases h with | lst a b => exact ⟨_, _, rfl, a, b⟩
end

/-! ### frames -/
/-- the entry: the heap, what the caller hides -/
structure Zn where
  H0 : Hp
  Oc : List Addr
def SRep (K : PySem.W.Frag) (Oc : List Addr) (H : Hp) (O : List Addr) (v : V) : SV → Prop
  | .fz d => Dp K (hid O H) v d
  | .own ds => ∃ a vs, v = .ref a ∧ a ∈ O ∧ a ∉ Oc ∧ H a = some (.lst vs) ∧ DpAll K (hid O H) vs ds
/-- the tables of code objects that a generator expression may fill -/
class Tbs where
  l : List Addr
theorem tabG_ext {H H' : Hp} (e : Ext H H') {P : Addr} (h : GxR.TabG H P) : GxR.TabG H' P := by
  obtain ⟨ps, h1, h2⟩ := h
  rcases e P _ h1 with h3 | ⟨qs, more, e1, h3, h4⟩
  · exact ⟨ps, h3, h2⟩
  · cases e1
    exact ⟨ps ++ more, h3, h4 h2⟩
structure Rep [Tbs] (K : PySem.W.Frag) (Z : Zn) (env : Env) (σ : Sg) (H : Hp) (O : List Addr) : Prop where
  ex : Ext (hid Z.Oc Z.H0) (hid O H)
  sub : ∀ a ∈ Z.Oc, a ∈ O
  kp : ∀ a ∈ Z.Oc, H a = Z.H0 a
  len : env.length = σ.length
  sl : ∀ (i : Nat) (s : SV), env[i]? = some (some s) → ∃ v, σ[i]? = some (some v) ∧ SRep K Z.Oc H O v s
  nd : ∀ (i j : Nat) (a : Addr) (di dj : List PyData), env[i]? = some (some (.own di)) → env[j]? = some (some (.own dj)) → σ[i]? = some (some (.ref a)) → σ[j]? = some (some (.ref a)) → i = j
  lv : ∀ a ∈ O, ∃ vs, H a = some (.lst vs)
  tb : ∀ P ∈ Tbs.l, GxR.TabG H P
section
variable {K : PySem.W.Frag} {Z : Zn} {H H' : Hp} {env : Env} {σ : Sg} {O : List Addr}
variable [Tbs]
theorem SRep.mono {Oc : List Addr} (e : Ext H H') {v : V} : ∀ {s : SV}, SRep K Oc H O v s → SRep K Oc H' O v s
  | .fz _, h => (e.hid O).dp h
  | .own _, ⟨a, vs, h1, h2, h2', h3, h4⟩ => ⟨a, vs, h1, h2, h2', e.lst h3, (e.hid O).dpa h4⟩
theorem Rep.mono (e : Ext H H') (r : Rep K Z env σ H O) : Rep K Z env σ H' O :=
  ⟨r.ex.trans (e.hid O), r.sub, fun a ha => by
    obtain ⟨vs, h⟩ := r.lv a (r.sub a ha)
    rw [e.lst h, ← r.kp a ha, h], r.len, fun i s h => let ⟨v, h1, h2⟩ := r.sl i s h; ⟨v, h1, h2.mono e⟩, r.nd, fun a ha => let ⟨vs, h⟩ := r.lv a ha; ⟨vs, e.lst h⟩, fun P hP => tabG_ext e (r.tb P hP)⟩
theorem Rep.notin (r : Rep K Z env σ H O) {p : Addr} (h : H p = none) : p ∉ O := fun z => by
  obtain ⟨vs, q⟩ := r.lv p z
  rw [h] at q; cases q
/-- what stood at the entry stands -/
theorem Rep.whole (r : Rep K Z env σ H O) : Ext Z.H0 H := fun a o h => by
  by_cases ha : a ∈ Z.Oc
  · exact .inl (by rw [r.kp a ha]; exact h)
  · have h1 : hid Z.Oc Z.H0 a = some o := by rw [hid_out ha]; exact h
    exact (r.ex.trans Ext.unhid) a o h1
theorem set_some {α : Type} {l : List (Option α)} {i j : Nat} {x : Option α} {s : α} (e : (l.set i x)[j]? = some (some s)) : (j = i ∧ j < l.length ∧ x = some s) ∨ (j ≠ i ∧ l[j]? = some (some s)) := by
  by_cases hj : j = i
  · subst hj
    by_cases z : j < l.length
    · rw [List.getElem?_set_self z] at e
      exact .inl ⟨rfl, z, Option.some.inj e⟩
    · rw [List.getElem?_eq_none (by simpa using z)] at e; cases e
  · rw [List.getElem?_set_ne (Ne.symm hj)] at e
    exact .inr ⟨hj, e⟩
/-- a name is stored -/
theorem Rep.setFz (r : Rep K Z env σ H O) (i : Nat) {v : V} {d : PyData} (h : Dp K (hid O H) v d) : Rep K Z (env.set i (some (.fz d))) (σ.set i (some v)) H O := by
  refine ⟨r.ex, r.sub, r.kp, by simp [r.len], fun j s e => ?_, fun j k a dj dk e1 e2 s1 s2 => ?_, r.lv, r.tb⟩
  · rcases set_some e with ⟨rfl, hl, e⟩ | ⟨hj, e⟩
    · cases e
      exact ⟨v, List.getElem?_set_self (by rw [← r.len]; exact hl), h⟩
    · obtain ⟨w, h1, h2⟩ := r.sl j s e
      exact ⟨w, by rw [List.getElem?_set_ne (Ne.symm hj)]; exact h1, h2⟩
  · rcases set_some e1 with ⟨_, _, e⟩ | ⟨n1, e1⟩
    · cases e
    rcases set_some e2 with ⟨_, _, e⟩ | ⟨n2, e2⟩
    · cases e
    rw [List.getElem?_set_ne (Ne.symm n1)] at s1
    rw [List.getElem?_set_ne (Ne.symm n2)] at s2
    exact r.nd j k a dj dk e1 e2 s1 s2
theorem Rep.setNone (r : Rep K Z env σ H O) (i : Nat) (x : Option V) : Rep K Z (env.set i none) (σ.set i x) H O := by
  refine ⟨r.ex, r.sub, r.kp, by simp [r.len], fun j s e => ?_, fun j k a dj dk e1 e2 s1 s2 => ?_, r.lv, r.tb⟩
  · rcases set_some e with ⟨_, _, e⟩ | ⟨hj, e⟩
    · cases e
    obtain ⟨w, h1, h2⟩ := r.sl j s e
    exact ⟨w, by rw [List.getElem?_set_ne (Ne.symm hj)]; exact h1, h2⟩
  · rcases set_some e1 with ⟨_, _, e⟩ | ⟨n1, e1⟩
    · cases e
    rcases set_some e2 with ⟨_, _, e⟩ | ⟨n2, e2⟩
    · cases e
    rw [List.getElem?_set_ne (Ne.symm n1)] at s1
    rw [List.getElem?_set_ne (Ne.symm n2)] at s2
    exact r.nd j k a dj dk e1 e2 s1 s2
/-- a new list of this frame's own is stored -/
theorem Rep.setOwn (r : Rep K Z env σ H O) (i : Nat) {p : Addr} {vs : List V} {ds : List PyData} (hp : H p = none) (h : DpAll K (hid O H) vs ds) : Rep K Z (env.set i (some (.own ds))) (σ.set i (some (.ref p))) (upd H p (.lst vs)) (p :: O) := by
  have np := r.notin hp
  have ex1 : Ext (hid O H) (hid (p :: O) (upd H p (.lst vs))) := Ext.hid_new hp
  have old : ∀ {j : Nat} {a : Addr} {dj : List PyData}, env[j]? = some (some (.own dj)) → σ[j]? = some (some (.ref a)) → a ≠ p := fun {j a dj} e s z => by
    obtain ⟨v, h1, b, ws, rfl, hb, _, h3, _⟩ := r.sl j _ e
    rw [s] at h1
    have e1 : a = b := by injection h1 with h1; injection h1 with h1; injection h1
    rw [← e1, z] at h3
    rw [hp] at h3; cases h3
  refine ⟨r.ex.trans ex1, fun a ha => List.mem_cons_of_mem _ (r.sub a ha), fun a ha => ?_, by simp [r.len], fun j s e => ?_, fun j k a dj dk e1 e2 s1 s2 => ?_, fun a ha => ?_, fun P hP => tabG_ext (Ext.new hp) (r.tb P hP)⟩
  · obtain ⟨ws, h3⟩ := r.lv a (r.sub a ha)
    rw [upd_ne (ne_of_none h3 hp)]
    exact r.kp a ha
  · rcases set_some e with ⟨rfl, hl, e⟩ | ⟨hj, e⟩
    · cases e
      exact ⟨.ref p, List.getElem?_set_self (by rw [← r.len]; exact hl), p, vs, rfl, List.mem_cons_self, fun z => np (r.sub p z), upd_same, ex1.dpa h⟩
    · obtain ⟨w, h1, h2⟩ := r.sl j s e
      refine ⟨w, by rw [List.getElem?_set_ne (Ne.symm hj)]; exact h1, ?_⟩
      cases s with
      | fz d => exact ex1.dp h2
      | own dj =>
        obtain ⟨b, ws, e1, hb, hc, h3, h4⟩ := h2
        exact ⟨b, ws, e1, List.mem_cons_of_mem _ hb, hc, by rw [upd_ne (ne_of_none h3 hp)]; exact h3, ex1.dpa h4⟩
  · have own_p : ∀ {j : Nat} {a : Addr}, j < env.length → (σ.set j (some (V.ref p)))[j]? = some (some (V.ref a)) → a = p := fun {j a} hl s => by
      rw [List.getElem?_set_self (by rw [← r.len]; exact hl)] at s
      injection s with s; injection s with s; injection s with s; exact s.symm
    rcases set_some e1 with ⟨rfl, l1, _⟩ | ⟨n1, f1⟩
    · rcases set_some e2 with ⟨rfl, l2, _⟩ | ⟨n2, f2⟩
      · rfl
      · rw [List.getElem?_set_ne (Ne.symm n2)] at s2
        exact absurd (own_p l1 s1) (old f2 s2)
    · rcases set_some e2 with ⟨rfl, l2, _⟩ | ⟨n2, f2⟩
      · rw [List.getElem?_set_ne (Ne.symm n1)] at s1
        exact absurd (own_p l2 s2) (old f1 s1)
      · rw [List.getElem?_set_ne (Ne.symm n1)] at s1
        rw [List.getElem?_set_ne (Ne.symm n2)] at s2
        exact r.nd j k a dj dk f1 f2 s1 s2
  · rcases List.mem_cons.mp ha with e | ha
    · exact ⟨vs, by rw [e, upd_same]⟩
    · obtain ⟨ws, h3⟩ := r.lv a ha
      exact ⟨ws, by rw [upd_ne (ne_of_none h3 hp)]; exact h3⟩
/-- the own list of slot i becomes another -/
theorem Rep.mutOwn (r : Rep K Z env σ H O) {i : Nat} {p : Addr} {vs : List V} {ds0 ds : List PyData} (he : env[i]? = some (some (.own ds0))) (hs : σ[i]? = some (some (.ref p))) (h : DpAll K (hid O H) vs ds) :
    Rep K Z (env.set i (some (.own ds))) σ (upd H p (.lst vs)) O := by
  obtain ⟨v, h1, a, ws, rfl, ha, hc, h3, _⟩ := r.sl i _ he
  rw [hs] at h1
  have e1 : p = a := by injection h1 with h1; injection h1 with h1; injection h1
  subst e1
  have ex1 : Ext (hid O H) (hid O (upd H p (.lst vs))) := Ext.hid_upd ha
  have back : ∀ {j : Nat} {dj : List PyData}, (env.set i (some (.own ds)))[j]? = some (some (.own dj)) → ∃ dj', env[j]? = some (some (.own dj')) := fun {j dj} e => by
    rcases set_some e with ⟨rfl, _, _⟩ | ⟨_, e⟩
    · exact ⟨_, he⟩
    · exact ⟨_, e⟩
  refine ⟨r.ex.trans ex1, r.sub, fun a ha' => ?_, by simp [r.len], fun j s e => ?_, fun j k a dj dk e1 e2 s1 s2 => ?_, fun a ha' => ?_, fun P hP => by
    obtain ⟨ps, q1, q2⟩ := r.tb P hP
    obtain ⟨ws', q3⟩ := r.lv p ha
    exact ⟨ps, by rw [upd_ne (ne_of q1 q3 (fun z => by cases z))]; exact q1, q2⟩⟩
  · rw [upd_ne (show a ≠ p from fun z => hc (z ▸ ha'))]
    exact r.kp a ha'
  · rcases set_some e with ⟨rfl, _, e⟩ | ⟨hj, e⟩
    · cases e
      exact ⟨.ref p, hs, p, vs, rfl, ha, hc, upd_same, ex1.dpa h⟩
    · obtain ⟨w, h1, h2⟩ := r.sl j s e
      refine ⟨w, h1, ?_⟩
      cases s with
      | fz d => exact ex1.dp h2
      | own dj =>
        obtain ⟨b, ws, e1, hb, hcb, h3', h4⟩ := h2
        refine ⟨b, ws, e1, hb, hcb, ?_, ex1.dpa h4⟩
        have nb : b ≠ p := fun z => hj (r.nd j i p dj ds0 e he (by rw [h1, e1, z]) hs)
        rw [upd_ne nb]
        exact h3'
  · obtain ⟨x1, y1⟩ := back e1
    obtain ⟨x2, y2⟩ := back e2
    exact r.nd j k a x1 x2 y1 y2 s1 s2
  · by_cases z : a = p
    · exact ⟨vs, by rw [z, upd_same]⟩
    · obtain ⟨ws, h3⟩ := r.lv a ha'
      exact ⟨ws, by rw [upd_ne z]; exact h3⟩
/-- the own list of slot i is changed no more -/
theorem Rep.freeze (r : Rep K Z env σ H O) {i : Nat} {ds : List PyData} (he : env[i]? = some (some (.own ds))) : ∃ O', Rep K Z (env.set i (some (.fz (.list ds)))) σ H O' ∧ (∀ a ∈ O', a ∈ O) := by
  obtain ⟨v, h1, p, ws, rfl, ha, hc, h3, h4⟩ := r.sl i _ he
  have sub' : ∀ a ∈ O.filter (fun b => decide (b ≠ p)), a ∈ O := fun a ha => (List.mem_filter.mp ha).1
  have np : p ∉ O.filter (fun b => decide (b ≠ p)) := fun z => by
    have := (List.mem_filter.mp z).2
    simp at this
  have ex1 : Ext (hid O H) (hid (O.filter (fun b => decide (b ≠ p))) H) := Ext.hid_sub sub'
  refine ⟨O.filter (fun b => decide (b ≠ p)), ⟨r.ex.trans ex1, fun a ha' => List.mem_filter.mpr ⟨r.sub a ha', decide_eq_true fun (z : a = p) => hc (z ▸ ha')⟩, r.kp, by simp [r.len], fun j s e => ?_, fun j k a dj dk e1 e2 s1 s2 => ?_, fun a ha' => r.lv a (sub' a ha'), r.tb⟩, sub'⟩
  · rcases set_some e with ⟨rfl, _, e⟩ | ⟨hj, e⟩
    · cases e
      refine ⟨.ref p, h1, .lst (SqL.of ?_) (ex1.dpa h4)⟩
      rw [hid_out np]
      exact h3
    · obtain ⟨w, h1', h2⟩ := r.sl j s e
      refine ⟨w, h1', ?_⟩
      cases s with
      | fz d => exact ex1.dp h2
      | own dj =>
        obtain ⟨b, ws', e1, hb, hcb, h3', h4'⟩ := h2
        have nb : b ≠ p := fun z => hj (r.nd j i p dj ds e he (by rw [h1', e1, z]) h1)
        exact ⟨b, ws', e1, List.mem_filter.mpr ⟨hb, by simpa using nb⟩, hcb, h3', ex1.dpa h4'⟩
  · rcases set_some e1 with ⟨_, _, e⟩ | ⟨n1, e1⟩
    · cases e
    rcases set_some e2 with ⟨_, _, e⟩ | ⟨n2, e2⟩
    · cases e
    exact r.nd j k a dj dk e1 e2 s1 s2
end
end PD
set_option Elab.async false
set_option linter.all false
set_option maxRecDepth 100000
set_option maxHeartbeats 4000000
namespace PD
open PySem PySem.Spec PyProof.Rows L2

/-! ### the machine's own readings -/
section
variable (X : Cx)
def wpE (e : Expr) : TE := fun σ H Q => ∀ pins s, Inv X pins σ H s → wpAny (model X.prog X.w) X.A (eval e X.env) (EP X pins σ Q) X.xe s
def wpT (e : Expr) : TT := fun σ H Q => ∀ pins s, Inv X pins σ H s → wpAny (model X.prog X.w) X.A (isTrue e X.env (eval e X.env)) (TP X pins σ Q) X.xe s
def wpW (e : Expr) : TT := fun σ H Q => ∀ whole pins s, Inv X pins σ H s → wpAny (model X.prog X.w) X.A (isTrue e X.env whole) (TP X pins σ Q) X.xe s
def wpA (es : List Expr) : TA := fun σ H Q => ∀ pos pins s, Inv X pins σ H s → wpAny (model X.prog X.w) X.A (spliced (backTo pos (starEach es X.env))) (AP X pins σ Q) X.xe s
def wpS (st : Stmt) : TS := fun D σ H => ∀ pins s, Inv X pins σ H s → wpAny (model X.prog X.w) X.A (exec st X.env) (SP X pins D) X.xe s
def wpSs (st : List Stmt) : TS := fun D σ H => ∀ pins s, Inv X pins σ H s → wpAny (model X.prog X.w) X.A (execs st X.env) (SP X pins D) X.xe s
def wpG (tg : Expr) : TG := fun v σ H Q => ∀ pins s u, Inv X pins σ H s → RelV v u → wpAny (model X.prog X.w) X.A (assign tg X.env u) (fun _ s' => ∃ σ' H', Inv X pins σ' H' s' ∧ Q σ' H') X.xe s
def wpI (tg iter : Expr) : TI := fun σ H R => ∀ pins s, Inv X pins σ H s → wpAny (model X.prog X.w) X.A (eval iter X.env) (fun v s1 => wpAny (model X.prog X.w) X.A (pyIter v) (PIE X pins σ tg R) X.xe s1) X.xe s
end
section
variable {X : Cx} {e : Expr} {es : List Expr} {st : Stmt} {sts : List Stmt} {tg iter : Expr}
variable [Tbs]
theorem pe_wp : PE X e (wpE X e) := ⟨fun pins s _ _ _ I h => h pins s I⟩
theorem pt_wp : PT X e (wpT X e) := ⟨fun pins s _ _ _ I h => h pins s I⟩
theorem pw_wp : PW X e (wpW X e) := ⟨fun wh pins s _ _ _ I h => h wh pins s I⟩
theorem pa_wp : PA X es (wpA X es) := ⟨fun pos pins s _ _ _ I h => h pos pins s I⟩
theorem ps_wp : PS X st (wpS X st) := ⟨fun pins s _ _ _ I h => h pins s I⟩
theorem pss_wp : PSs X sts (wpSs X sts) := ⟨fun pins s _ _ _ I h => h pins s I⟩
theorem pg_wp : PG X tg (wpG X tg) := ⟨fun pins s _ _ _ u _ I r h => h pins s u I r⟩
theorem pi_wp : PI X tg iter (wpI X tg iter) := ⟨fun pins s _ _ _ I h => h pins s I⟩
variable {σ : Sg} {H : Hp}
theorem wp_e {t : TE} (p : PE X e t) {Q : VK} (h : t σ H Q) : wpE X e σ H Q := fun pins s I => p.run pins s σ H Q I h
theorem wp_t {t : TT} (p : PT X e t) {Q : Bool → Hp → Prop} (h : t σ H Q) : wpT X e σ H Q := fun pins s I => p.run pins s σ H Q I h
theorem wp_w {t : TT} (p : PW X e t) {Q : Bool → Hp → Prop} (h : t σ H Q) : wpW X e σ H Q := fun wh pins s I => p.run wh pins s σ H Q I h
theorem wp_a {t : TA} (p : PA X es t) {Q : List V → Hp → Prop} (h : t σ H Q) : wpA X es σ H Q := fun pos pins s I => p.run pos pins s σ H Q I h
theorem wp_s {t : TS} (p : PS X st t) {D : Ends} (h : t D σ H) : wpS X st D σ H := fun pins s I => p.run pins s σ H D I h
theorem wp_ss {t : TS} (p : PSs X sts t) {D : Ends} (h : t D σ H) : wpSs X sts D σ H := fun pins s I => p.run pins s σ H D I h
theorem wp_g {t : TG} (p : PG X tg t) {v : V} {Q : L2.St → Hp → Prop} (h : t v σ H Q) : wpG X tg v σ H Q := fun pins s u I r => p.run pins s σ H v u Q I r h
theorem wp_i {t : TI} (p : PI X tg iter t) {R : It → Hp → Prop} (h : t σ H R) : wpI X tg iter σ H R := fun pins s I => p.run pins s σ H R I h
end

/-! ### an exception by its class's name and its fields -/
def ExR (mg : Str → Option Value) (K : PySem.W.Frag) (H : Hp) (c : Str) (fl : Flds) (C : Value) (od : Option Addr) : Prop :=
  mg c = some C ∧ ((fl = [] ∧ od = none) ∨ (fl ≠ [] ∧ ∃ d fs, od = some d ∧ H d = some (.xd fs) ∧ fs.map (·.1) = fl.map (·.1) ∧ DpAll K H (fs.map (·.2)) (fl.map (·.2))))
theorem ExR.mono {mg : Str → Option Value} {K : PySem.W.Frag} {H H' : Hp} {c : Str} {fl : Flds} {C : Value} {od : Option Addr} (e : Ext H H') (h : ExR mg K H c fl C od) : ExR mg K H' c fl C od := by
  refine ⟨h.1, ?_⟩
  rcases h.2 with h | ⟨n, d, fs, e1, e2, e3, e4⟩
  · exact .inl h
  · exact .inr ⟨n, d, fs, e1, e.at e2 (by intro ps z; cases z), e3, e.dpa e4⟩

/-- what an outcome asks -/
def ROk {α : Type} (X : Cx) (W : WX) (σ : Sg) (O : List Addr) (P : α → Hp → Prop) (H : Hp) : RO α → Prop
  | .ok a => ∀ H', Ext H H' → P a H'
  | .er c fl => ∀ C od H', Ext H H' → ExR X.mg X.K (hid O H') c fl C od → W C od σ H'
  | .no => False
theorem ROk.mono {α : Type} {X : Cx} {W : WX} {σ : Sg} {O : List Addr} {P : α → Hp → Prop} {H H' : Hp} (e : Ext H H') : ∀ {r : RO α}, ROk X W σ O P H r → ROk X W σ O P H' r
  | .ok _, h => fun H2 e2 => h H2 (e.trans e2)
  | .er _ _, h => fun C od H2 e2 => h C od H2 (e.trans e2)
  | .no, h => h
/-- a value, its data frozen; a value, its data as they stand -/
def VQ (K : PySem.W.Frag) (O : List Addr) (Q : VK) (d : PyData) (H : Hp) : Prop := ∀ v, Dp K (hid O H) v d → Q v H

def AQ (K : PySem.W.Frag) (O : List Addr) (Q : List V → Hp → Prop) (ds : List PyData) (H : Hp) : Prop := ∀ vs, DpAll K (hid O H) vs ds → Q vs H

def CE [Tbs] (X : Cx) (W : WX) (e : Expr) (f : E) : Prop := ∀ Z env σ H O Q, Rep X.K Z env σ H O → ROk X W σ O (VQ X.K O Q) H (f env) → wpE X e σ H Q
def CB [Tbs] (X : Cx) (W : WX) (e : Expr) (f : E) : Prop := ∀ Z env σ H O Q, Rep X.K Z env σ H O → ROk X W σ O (VQ X.K Z.Oc Q) H (f env) → wpE X e σ H Q
def CT [Tbs] (X : Cx) (W : WX) (e : Expr) (f : T) : Prop := ∀ Z env σ H O Q, Rep X.K Z env σ H O → ROk X W σ O Q H (f env) → wpT X e σ H Q
def CW [Tbs] (X : Cx) (W : WX) (e : Expr) (f : T) : Prop := ∀ Z env σ H O Q, Rep X.K Z env σ H O → ROk X W σ O Q H (f env) → wpW X e σ H Q
def CA [Tbs] (X : Cx) (W : WX) (es : List Expr) (f : Env → RO (List PyData)) : Prop := ∀ Z env σ H O Q, Rep X.K Z env σ H O → ROk X W σ O (AQ X.K O Q) H (f env) → wpA X es σ H Q
/-- a new list that nobody else holds -/
def LQ (K : PySem.W.Frag) (O : List Addr) (Q : VK) (ds : List PyData) (H : Hp) : Prop := ∀ p vs, H p = none → DpAll K (hid O H) vs ds → Q (.ref p) (upd H p (.lst vs))
def CL [Tbs] (X : Cx) (W : WX) (e : Expr) (f : Env → RO (List PyData)) : Prop := ∀ Z env σ H O Q, Rep X.K Z env σ H O → ROk X W σ O (LQ X.K O Q) H (f env) → wpE X e σ H Q

section
variable {X : Cx} {W : WX} {e a b : Expr} {es : List Expr} {f fa fb : E} {Z : Zn} {env : Env} {σ : Sg} {H : Hp} {O : List Addr}
variable [Tbs]
/-- what follows a part -/
theorem ROk.then {α β : Type} {r : RO α} {g : α → RO β} {P : β → Hp → Prop} {P' : α → Hp → Prop} (q : ROk X W σ O P H (r >>= g)) (h : ∀ d H1, r = .ok d → Ext H H1 → ROk X W σ O P H1 (g d) → P' d H1) : ROk X W σ O P' H r := by
  cases r with
  | ok d => exact fun H1 e1 => h d H1 rfl e1 (ROk.mono e1 q)
  | er c fl => exact q
  | no => exact q
theorem CE.go {β : Type} {g : PyData → RO β} {P : β → Hp → Prop} {Q : VK} (h : CE X W e f) (r : Rep X.K Z env σ H O) (q : ROk X W σ O P H (f env >>= g))
    (k : ∀ d v H1, Ext H H1 → Dp X.K (hid O H1) v d → Rep X.K Z env σ H1 O → ROk X W σ O P H1 (g d) → Q v H1) : wpE X e σ H Q :=
  h Z env σ H O Q r (q.then fun d H1 _ e1 q1 v hv => k d v H1 e1 hv (r.mono e1) q1)
theorem CB.go {β : Type} {g : PyData → RO β} {P : β → Hp → Prop} {Q : VK} (h : CB X W e f) (r : Rep X.K Z env σ H O) (q : ROk X W σ O P H (f env >>= g))
    (k : ∀ d v H1, Ext H H1 → Dp X.K (hid Z.Oc H1) v d → Rep X.K Z env σ H1 O → ROk X W σ O P H1 (g d) → Q v H1) : wpE X e σ H Q :=
  h Z env σ H O Q r (q.then fun d H1 _ e1 q1 v hv => k d v H1 e1 hv (r.mono e1) q1)
theorem CT.go {β : Type} {ft : T} {g : Bool → RO β} {P : β → Hp → Prop} {Q : Bool → Hp → Prop} (h : CT X W e ft) (r : Rep X.K Z env σ H O) (q : ROk X W σ O P H (ft env >>= g))
    (k : ∀ d H1, Ext H H1 → Rep X.K Z env σ H1 O → ROk X W σ O P H1 (g d) → Q d H1) : wpT X e σ H Q :=
  h Z env σ H O Q r (q.then fun d H1 _ e1 q1 => k d H1 e1 (r.mono e1) q1)
theorem CW.go {β : Type} {ft : T} {g : Bool → RO β} {P : β → Hp → Prop} {Q : Bool → Hp → Prop} (h : CW X W e ft) (r : Rep X.K Z env σ H O) (q : ROk X W σ O P H (ft env >>= g))
    (k : ∀ d H1, Ext H H1 → Rep X.K Z env σ H1 O → ROk X W σ O P H1 (g d) → Q d H1) : wpW X e σ H Q :=
  h Z env σ H O Q r (q.then fun d H1 _ e1 q1 => k d H1 e1 (r.mono e1) q1)
theorem CA.go {β : Type} {ft : Env → RO (List PyData)} {g : List PyData → RO β} {P : β → Hp → Prop} {Q : List V → Hp → Prop} (h : CA X W es ft) (r : Rep X.K Z env σ H O) (q : ROk X W σ O P H (ft env >>= g))
    (k : ∀ d v H1, Ext H H1 → DpAll X.K (hid O H1) v d → Rep X.K Z env σ H1 O → ROk X W σ O P H1 (g d) → Q v H1) : wpA X es σ H Q :=
  h Z env σ H O Q r (q.then fun d H1 _ e1 q1 v hv => k d v H1 e1 hv (r.mono e1) q1)
/-- the outcome as it stands -/
theorem ROk.self {α : Type} {r : RO α} {P : α → Hp → Prop} (q : ROk X W σ O P H r) : ROk X W σ O P H (r >>= fun x => .ok x) := by
  cases r <;> exact q
theorem ROk.here {α : Type} {x : α} {P : α → Hp → Prop} (q : ROk X W σ O P H (.ok x)) : P x H := q H (Ext.refl H)
theorem CE.cb (h : CE X W e f) : CB X W e f := fun Z env σ H O Q r q => h Z env σ H O Q r (by
  cases hf : f env with
  | ok d => rw [hf] at q; exact fun H1 e1 v hv => q H1 e1 v ((Ext.hid_sub r.sub).dp hv)
  | er c fl => rw [hf] at q; exact q
  | no => rw [hf] at q; exact q)
theorem CE.of_eq (h : CE X W e f) {g : E} (hg : g = f) : CE X W e g := hg ▸ h

/-! ### names, constants -/
def gv (env : Env) (i : Nat) : RO PyData := match env[i]? with
  | some (some (.fz d)) => .ok d
  | _ => .no
def gvo (env : Env) (i : Nat) : RO (List PyData) := match env[i]? with
  | some (some (.own d)) => .ok d
  | _ => .no
def eVar (i : Nat) : E := fun env => gv env i
def eC (d : PyData) : E := fun _ => .ok d
theorem gv_ok {i : Nat} {d : PyData} (h : gv env i = .ok d) : env[i]? = some (some (.fz d)) := by
  unfold gv at h
  split at h
  · cases h; assumption
  · cases h
theorem gvo_ok {i : Nat} {d : List PyData} (h : gvo env i = .ok d) : env[i]? = some (some (.own d)) := by
  unfold gvo at h
  split at h
  · cases h; assumption
  · cases h
theorem gv_cases (env : Env) (i : Nat) : (∃ d, gv env i = .ok d) ∨ gv env i = .no := by
  unfold gv
  split
  · exact .inl ⟨_, rfl⟩
  · exact .inr rfl
theorem gvo_cases (env : Env) (i : Nat) : (∃ d, gvo env i = .ok d) ∨ gvo env i = .no := by
  unfold gvo
  split
  · exact .inl ⟨_, rfl⟩
  · exact .inr rfl
theorem ce_var (i : Nat) {x : Str} {pos : Pos} (hN : X.N[i]? = some x := by rfl) (hv : Vis X.env.scope x := by first | exact Or.inl rfl | exact Or.inr (Or.inl rfl) | exact Or.inr (Or.inr rfl)) (hd : (x == ("__debug__" : Str)) = false := by decide)
    (hcd : (x == ("__classdict__" : Str)) = false := by decide) : CE X W (.Name x pos) (eVar i) := fun Z env σ H O Q r q => by
  refine wp_e (pe_var hN hv hd hcd) ?_
  rcases gv_cases env i with ⟨d, e⟩ | e
  · obtain ⟨v, h1, h2⟩ := r.sl i _ (gv_ok e)
    have q' : ROk X W σ O (VQ X.K O Q) H (.ok d) := by rw [← e]; exact q
    exact ⟨v, h1, q'.here v h2⟩
  · have q' : ROk X W σ O (VQ X.K O Q) H (.no) := by rw [← e]; exact q
    exact q'.elim
theorem ce_int {i : Int} {j pos} : CE X W (.Constant (.int i) j pos) (eC (.int i)) := fun Z env σ H O Q r q => wp_e pe_int (ROk.here q _ (.int i))
theorem ce_str {i : Str} {j pos} : CE X W (.Constant (.str i) j pos) (eC (.str i)) := fun Z env σ H O Q r q => wp_e pe_str (ROk.here q _ (.str i))
theorem ce_bl {i : Bool} {j pos} : CE X W (.Constant (.bool i) j pos) (eC (.bool i)) := fun Z env σ H O Q r q => wp_e pe_bl (ROk.here q _ (.bl i))
theorem ce_non {j pos} : CE X W (.Constant .none j pos) (eC .none) := fun Z env σ H O Q r q => wp_e pe_non (ROk.here q _ .non)

/-! ### operators -/
def ofO {α : Type} : Option α → RO α
  | some a => .ok a
  | none => .no
/-- all that is hidden stands -/
abbrev Lv (O : List Addr) (H : Hp) : Prop := ∀ a ∈ O, ∃ vs, H a = some (.lst vs)
theorem Lv.out {O : List Addr} {H : Hp} (l : Lv O H) {p : Addr} (h : H p = none) : p ∉ O := fun z => by
  obtain ⟨vs, q⟩ := l p z
  rw [h] at q; cases q
/-- a new tuple, a new list, seen behind what is hidden -/
theorem dp_newT {K : PySem.W.Frag} (l : Lv O H) {p : Addr} (hp : H p = none) {vs : List V} {ds : List PyData} (h : DpAll K (hid O H) vs ds) : Dp K (hid O (upd H p (.tup vs))) (.ref p) (.tuple ds) := by
  have np := l.out hp
  refine .tup (SqT.of ?_) (((Ext.new hp).hid O).dpa h)
  rw [hid_out np, upd_same]
theorem dp_newL {K : PySem.W.Frag} (l : Lv O H) {p : Addr} (hp : H p = none) {vs : List V} {ds : List PyData} (h : DpAll K (hid O H) vs ds) : Dp K (hid O (upd H p (.lst vs))) (.ref p) (.list ds) := by
  have np := l.out hp
  refine .lst (SqL.of ?_) (((Ext.new hp).hid O).dpa h)
  rw [hid_out np, upd_same]
theorem CL.ce {fl : Env → RO (List PyData)} (h : CL X W e fl) : CE X W e (fun env => fl env >>= fun ds => .ok (.list ds)) := fun Z env σ H O Q r q =>
  h Z env σ H O Q r (q.then fun ds H1 _ e1 q1 p vs hp hd => q1 _ (Ext.new hp) _ (dp_newL (r.mono e1).lv hp hd))

/-- an operation on values, by their data -/
def BinR (X : Cx) (f : Value → Value → Sem Value) (b : PyData → PyData → Option PyData) : Prop := ∀ dx dy d, b dx dy = some d → ∃ r : R2, OpR X f r ∧
  ∀ O H vx vy Q, Lv O H → Dp X.K (hid O H) vx dx → Dp X.K (hid O H) vy dy → (∀ v H', Ext H H' → Dp X.K (hid O H') v d → Q v H') → r vx vy H Q
/-- the same where the data may be a list of the frame's own, and the answer is none -/
def BinB (X : Cx) (f : Value → Value → Sem Value) (b : PyData → PyData → Option PyData) : Prop := ∀ dx dy d, b dx dy = some d → ∃ r : R2, OpR X f r ∧
  ∀ H vx vy Q, Dp X.K H vx dx → Dp X.K H vy dy → (∀ v, (∀ H', Dp X.K H' v d) → Q v H) → r vx vy H Q
theorem ce_op [Tbs] {op : Operator} {bi : PyData → PyData → Option PyData} {pos : Pos} (ho : BinR X (binaryOp op) bi) (ha : CE X W a fa) (hb : CE X W b fb) :
    CE X W (.BinOp a op b pos) (fun env => fa env >>= fun x => fb env >>= fun y => ofO (bi x y)) := fun Z env σ H O Q r q => by
  have key : ∀ dx dy, (∃ d, bi dx dy = some d) ∨ bi dx dy = none := fun dx dy => by
    cases bi dx dy with
    | some d => exact .inl ⟨d, rfl⟩
    | none => exact .inr rfl
  -- the operation's reading is one for all values
  let R : R2 := fun vx vy H Q => ∃ (r : R2), OpR X (binaryOp op) r ∧ r vx vy H Q
  have hR : OpR X (binaryOp op) R := fun pins s σ H x y v u Q I rx ry ⟨r, h1, h2⟩ => h1 pins s σ H x y v u Q I rx ry h2
  refine wp_e (pe_op hR pe_wp pe_wp) ?_
  refine ha.go r q fun dx vx H1 e1 d1 r1 q1 => ?_
  refine hb.go r1 q1 fun dy vy H2 e2 d2 r2 q2 => ?_
  rcases key dx dy with ⟨d, e⟩ | e
  · rw [e] at q2
    obtain ⟨rr, h1, h2⟩ := ho dx dy d e
    exact ⟨rr, h1, h2 O H2 vx vy Q r2.lv ((e2.hid O).dp d1) d2 fun v H' e' hv => q2 H' e' v hv⟩
  · rw [e] at q2
    exact q2.elim
theorem ce_cmp [Tbs] {op : CmpOp} {bi : PyData → PyData → Option PyData} {pos : Pos} (ho : BinB X (compareOp op) bi) (ha : CB X W a fa) (hb : CB X W b fb) (hm : behindInMarks op b = false := by first | exact nobehind _ (by decide) (by decide) | rfl) :
    CE X W (.Compare a [op] [b] pos) (fun env => fa env >>= fun x => fb env >>= fun y => ofO (bi x y)) := fun Z env σ H O Q r q => by
  let R : R2 := fun vx vy H Q => ∃ (r : R2), OpR X (compareOp op) r ∧ r vx vy H Q
  have hR : OpR X (compareOp op) R := fun pins s σ H x y v u Q I rx ry ⟨r, h1, h2⟩ => h1 pins s σ H x y v u Q I rx ry h2
  refine wp_e (pe_cmpR hR pe_wp pe_wp hm) ?_
  refine ha.go r q fun dx vx H1 e1 d1 r1 q1 => ?_
  refine hb.go r1 q1 fun dy vy H2 e2 d2 r2 q2 => ?_
  cases e : bi dx dy with
  | some d =>
    rw [e] at q2
    obtain ⟨rr, h1, h2⟩ := ho dx dy d e
    exact ⟨rr, h1, h2 H2 vx vy Q (e2.dp (Ext.unhid.dp d1)) (Ext.unhid.dp d2) fun v hv => q2.here v (hv _)⟩
  | none =>
    rw [e] at q2
    exact q2.elim
def tb (d : PyData) : RO Bool := match d with
  | .bool b => .ok b
  | _ => .no
theorem ct_cmp [Tbs] {op : CmpOp} {bi : PyData → PyData → Option PyData} {pos : Pos} (ho : BinB X (compareOp op) bi) (ha : CB X W a fa) (hb : CB X W b fb) (hm : behindInMarks op b = false := by first | exact nobehind _ (by decide) (by decide) | rfl) :
    CT X W (.Compare a [op] [b] pos) (fun env => fa env >>= fun x => fb env >>= fun y => ofO (bi x y) >>= tb) := fun Z env σ H O Q r q => by
  let R : R2 := fun vx vy H Q => ∃ (r : R2), OpR X (compareOp op) r ∧ r vx vy H Q
  have hR : OpR X (compareOp op) R := fun pins s σ H x y v u Q I rx ry ⟨r, h1, h2⟩ => h1 pins s σ H x y v u Q I rx ry h2
  refine wp_t (pt_cmpR hR pe_wp pe_wp hm) ?_
  refine ha.go r q fun dx vx H1 e1 d1 r1 q1 => ?_
  refine hb.go r1 q1 fun dy vy H2 e2 d2 r2 q2 => ?_
  cases e : bi dx dy with
  | some d =>
    rw [e] at q2
    obtain ⟨rr, h1, h2⟩ := ho dx dy d e
    refine ⟨rr, h1, h2 H2 vx vy _ (e2.dp (Ext.unhid.dp d1)) (Ext.unhid.dp d2) fun v hv => ?_⟩
    cases d with
    | bool k =>
      have := dp_bool (hv H2)
      subst this
      exact ⟨k, rfl, q2.here⟩
    | _ => exact q2.elim
  | none =>
    rw [e] at q2
    exact q2.elim
/-- -a and the like -/
def UnD (X : Cx) (f : Value → Sem Value) (b : PyData → Option PyData) : Prop := ∀ dx d, b dx = some d → ∃ r : V → Hp → VK → Prop, UnR X f r ∧
  ∀ H vx Q, Dp X.K H vx dx → (∀ v, (∀ H', Dp X.K H' v d) → Q v H) → r vx H Q
theorem ce_un [Tbs] {op : UnaryOp} {bi : PyData → Option PyData} {pos : Pos} (ho : UnD X (unaryOp op) bi) (ha : CE X W a fa) : CE X W (.UnaryOp op a pos) (fun env => fa env >>= fun x => ofO (bi x)) := fun Z env σ H O Q r q => by
  let R : V → Hp → VK → Prop := fun vx H Q => ∃ (r : V → Hp → VK → Prop), UnR X (unaryOp op) r ∧ r vx H Q
  have hR : UnR X (unaryOp op) R := fun pins s σ H x v Q I rx ⟨r, h1, h2⟩ => h1 pins s σ H x v Q I rx h2
  refine wp_e (pe_un hR pe_wp) ?_
  refine ha.go r q fun dx vx H1 e1 d1 r1 q1 => ?_
  cases e : bi dx with
  | some d =>
    rw [e] at q1
    obtain ⟨rr, h1, h2⟩ := ho dx d e
    exact ⟨rr, h1, h2 H1 vx Q (Ext.unhid.dp d1) fun v hv => q1.here v (hv _)⟩
  | none =>
    rw [e] at q1
    exact q1.elim

/-! ### tests -/
variable {ft fu : T} {rest : List Expr} {pos : Pos}
/-- an expression whose value is a bool -/
theorem ct_val [Tbs] (h : CE X W e f) (he : ∀ whole, isTrue e X.env whole = (do let v ← whole; standAt e.pos; holding [v] (truthy v)) := by intro _; rfl) : CT X W e (fun env => f env >>= tb) := fun Z env σ H O Q r q => by
  refine wp_t (pt_val pe_wp he) ?_
  refine h.go r q fun d v H1 e1 d1 r1 q1 => ?_
  cases d with
  | bool k =>
    have := dp_bool d1
    subst this
    exact ⟨k, rfl, q1.here⟩
  | _ => exact q1.elim
/-- a value's truth -/
def tru (d : PyData) : RO Bool := match d with
  | .none => .ok false
  | .bool b => .ok b
  | .int i => .ok (i != 0)
  | .str y => if y.length ≤ sizeLine then .ok ((y.length : Int) != 0) else .no
  | .list xs => .ok (!xs.isEmpty)
  | .tuple xs => .ok (!xs.isEmpty)
  | _ => .no
theorem ct_tru [Tbs] (h : CB X W e f) (he : ∀ whole, isTrue e X.env whole = (do let v ← whole; standAt e.pos; holding [v] (truthy v)) := by intro _; rfl) : CT X W e (fun env => f env >>= tru) := fun Z env σ H O Q r q => by
  refine wp_t (pt_truth pe_wp he) ?_
  refine h.go r q fun d v H1 e1 d1 r1 q1 => ?_
  have em : ∀ {vs : List V} {ds : List PyData}, DpAll X.K (hid Z.Oc H1) vs ds → (!ds.isEmpty) = !vs.isEmpty := fun h => by cases h <;> rfl
  cases d with
  | none => cases dp_none d1; exact ⟨false, rfl, q1.here⟩
  | bool k => cases dp_bool d1; exact ⟨k, rfl, q1.here⟩
  | int k => cases dp_int d1; exact ⟨_, rfl, q1.here⟩
  | str k =>
    cases dp_str d1
    by_cases z : k.length ≤ sizeLine
    · have q2 : ROk X W σ O Q H1 (if k.length ≤ sizeLine then .ok ((k.length : Int) != 0) else .no) := q1
      rw [if_pos z] at q2
      exact ⟨_, ⟨z, rfl⟩, q2.here⟩
    · have q2 : ROk X W σ O Q H1 (if k.length ≤ sizeLine then .ok ((k.length : Int) != 0) else .no) := q1
      rw [if_neg z] at q2
      exact q2.elim
  | list xs =>
    obtain ⟨p, vs, rfl, h1, h2⟩ := dp_lst d1
    exact ⟨_, .inl ⟨vs, Ext.unhid.sl h1, em h2⟩, q1.here⟩
  | tuple xs =>
    obtain ⟨p, vs, rfl, h1, h2⟩ := dp_tup d1
    exact ⟨_, .inr (.inl ⟨vs, Ext.unhid.st h1, em h2⟩), q1.here⟩
  | dict _ => exact q1.elim
theorem CW.ct (h : CW X W e ft) : CT X W e ft := fun Z env σ H O Q r q => wp_t pw_wp.pt (h Z env σ H O Q r q)
def tNt (t : T) : T := fun env => t env >>= fun b => .ok (!b)
def tAn (t u : T) : T := fun env => t env >>= fun b => if b = true then u env else .ok false
def tOr (t u : T) : T := fun env => t env >>= fun b => if b = true then .ok true else u env
theorem ct_not [Tbs] (h : CT X W a ft) : CT X W (.UnaryOp .Not a pos) (tNt ft) := fun Z env σ H O Q r q => by
  refine wp_t (pt_not pt_wp) ?_
  exact h.go r q fun d H1 e1 r1 q1 => q1.here
theorem cw_and1 (h : CT X W a ft) : CW X W (.BoolOp .And [a] pos) ft := fun Z env σ H O Q r q => wp_w (pw_and1 pt_wp) (h Z env σ H O Q r q)
theorem cw_or1 (h : CT X W a ft) : CW X W (.BoolOp .Or [a] pos) ft := fun Z env σ H O Q r q => wp_w (pw_or1 pt_wp) (h Z env σ H O Q r q)
theorem cw_and [Tbs] (h : CT X W a ft) (k : CW X W (.BoolOp .And (b :: rest) pos) fu) : CW X W (.BoolOp .And (a :: b :: rest) pos) (tAn ft fu) := fun Z env σ H O Q r q => by
  refine wp_w (pw_and pt_wp pw_wp) ?_
  refine h.go r q fun d H1 e1 r1 q1 => ?_
  cases d with
  | true => exact k Z env σ H1 O Q r1 q1
  | false => exact q1.here
theorem cw_or [Tbs] (h : CT X W a ft) (k : CW X W (.BoolOp .Or (b :: rest) pos) fu) : CW X W (.BoolOp .Or (a :: b :: rest) pos) (tOr ft fu) := fun Z env σ H O Q r q => by
  refine wp_w (pw_or pt_wp pw_wp) ?_
  refine h.go r q fun d H1 e1 r1 q1 => ?_
  cases d with
  | true => exact q1.here
  | false => exact k Z env σ H1 O Q r1 q1
/-- .. as values (bools) -/
def eNt (f : E) : E := fun env => f env >>= tb >>= fun b => .ok (.bool !b)
def eAn (f g : E) : E := fun env => f env >>= tb >>= fun b => if b = true then g env else .ok (.bool false)
def eOr (f g : E) : E := fun env => f env >>= tb >>= fun b => if b = true then .ok (.bool true) else g env
theorem RO.assoc {α β γ : Type} (r : RO α) (g : α → RO β) (k : β → RO γ) : (r >>= g >>= k) = (r >>= fun x => g x >>= k) := by cases r <;> rfl
theorem ce_not [Tbs] (h : CE X W a fa) : CE X W (.UnaryOp .Not a pos) (eNt fa) := fun Z env σ H O Q r q => by
  refine wp_e (pe_not pe_wp) ?_
  unfold eNt at q
  rw [RO.assoc] at q
  refine h.go r q fun d v H1 e1 d1 r1 q1 => ?_
  cases d with
  | bool k =>
    have := dp_bool d1
    subst this
    exact ⟨k, rfl, q1.here _ (.bl _)⟩
  | _ => exact q1.elim
theorem ce_one {op} (h : CE X W a fa) : CE X W (.BoolOp op [a] pos) fa := fun Z env σ H O Q r q => wp_e (pe_one pe_wp) (h Z env σ H O Q r q)
theorem ce_and [Tbs] (h : CE X W a fa) (k : CE X W (.BoolOp .And (b :: rest) pos) fb) : CE X W (.BoolOp .And (a :: b :: rest) pos) (eAn fa fb) := fun Z env σ H O Q r q => by
  refine wp_e (pe_and pe_wp pe_wp) ?_
  unfold eAn at q
  rw [RO.assoc] at q
  refine h.go r q fun d v H1 e1 d1 r1 q1 => ?_
  cases d with
  | bool c =>
    have := dp_bool d1
    subst this
    refine ⟨c, rfl, ?_⟩
    cases c with
    | true => exact k Z env σ H1 O Q r1 q1
    | false => exact q1.here _ (.bl _)
  | _ => exact q1.elim
theorem ce_or [Tbs] (h : CE X W a fa) (k : CE X W (.BoolOp .Or (b :: rest) pos) fb) : CE X W (.BoolOp .Or (a :: b :: rest) pos) (eOr fa fb) := fun Z env σ H O Q r q => by
  refine wp_e (pe_or pe_wp pe_wp) ?_
  unfold eOr at q
  rw [RO.assoc] at q
  refine h.go r q fun d v H1 e1 d1 r1 q1 => ?_
  cases d with
  | bool c =>
    have := dp_bool d1
    subst this
    refine ⟨c, rfl, ?_⟩
    cases c with
    | true => exact q1.here _ (.bl _)
    | false => exact k Z env σ H1 O Q r1 q1
  | _ => exact q1.elim
/-- a if t else b -/
def eIf (t : T) (f g : E) : E := fun env => t env >>= fun b => if b = true then f env else g env
theorem ce_if [Tbs] {c : Expr} (h : CT X W c ft) (h1 : CE X W a fa) (h2 : CE X W b fb) : CE X W (.IfExp c a b pos) (eIf ft fa fb) := fun Z env σ H O Q r q => by
  refine wp_e (pe_ifExp pt_wp pe_wp pe_wp) ?_
  refine h.go r q fun d H1 e1 r1 q1 => ?_
  cases d with
  | true => exact h1 Z env σ H1 O Q r1 q1
  | false => exact h2 Z env σ H1 O Q r1 q1

/-! ### argument lists, tuples, lists -/
def aNil : Env → RO (List PyData) := fun _ => .ok []
def aCons (f : E) (g : Env → RO (List PyData)) : Env → RO (List PyData) := fun env => f env >>= fun x => g env >>= fun xs => .ok (x :: xs)
variable {g : Env → RO (List PyData)}
theorem ca_nil : CA X W [] aNil := fun Z env σ H O Q r q => wp_a pa_nil (ROk.here q _ .nil)
theorem ca_cons [Tbs] (h : CE X W e f) (k : CA X W es g) (hs : starEach (e :: es) X.env = (false, eval e X.env) :: starEach es X.env := by rfl) : CA X W (e :: es) (aCons f g) := fun Z env σ H O Q r q => by
  refine wp_a (pa_cons pe_wp pa_wp hs) ?_
  refine h.go r q fun d v H1 e1 d1 r1 q1 => ?_
  refine k.go r1 q1 fun ds vs H2 e2 d2 r2 q2 => ?_
  exact q2.here _ (.cons ((e2.hid O).dp d1) d2)
def eTup (g : Env → RO (List PyData)) : E := fun env => g env >>= fun xs => if xs.length ≤ sizeLine then .ok (.tuple xs) else .no
def lLst (g : Env → RO (List PyData)) : Env → RO (List PyData) := fun env => g env >>= fun xs => if xs.length ≤ sizeLine then .ok xs else .no
theorem ce_tup [Tbs] {x1} (h : CA X W es g) : CE X W (.Tuple es x1 pos) (eTup g) := fun Z env σ H O Q r q => by
  refine wp_e (pe_tup pa_wp) ?_
  refine h.go r q fun ds vs H1 e1 d1 r1 q1 => ?_
  by_cases z : ds.length ≤ sizeLine
  · rw [if_pos z] at q1
    exact ⟨by rw [dpa_len d1]; exact z, fun p hp => q1 _ (Ext.new hp) _ (dp_newT r1.lv hp d1)⟩
  · rw [if_neg z] at q1
    exact q1.elim
theorem cl_lst [Tbs] (h : CA X W es g) : CL X W (.List es pos) (lLst g) := fun Z env σ H O Q r q => by
  refine wp_e (pe_lst pa_wp) ?_
  refine h.go r q fun ds vs H1 e1 d1 r1 q1 => ?_
  by_cases z : ds.length ≤ sizeLine
  · rw [if_pos z] at q1
    exact ⟨by rw [dpa_len d1]; exact z, fun p hp => q1.here p vs hp d1⟩
  · rw [if_neg z] at q1
    exact q1.elim

/-! ### calls of built-ins, by values -/
/-- a call whose answer is told by the data -/
def CalR (X : Cx) (f : Value) (b : List PyData → Option PyData) : Prop := ∀ ds d, b ds = some d → ∃ r : List V → Hp → VK → Prop, CallR X f r ∧
  ∀ O H vs Q, Lv O H → DpAll X.K (hid O H) vs ds → (∀ v H', Ext H H' → Dp X.K (hid O H') v d → Q v H') → r vs H Q
/-- the same over data as they stand (a list of the frame's own) -/
def CalB (X : Cx) (f : Value) (b : List PyData → Option PyData) : Prop := ∀ ds d, b ds = some d → ∃ r : List V → Hp → VK → Prop, CallR X f r ∧
  ∀ H vs Q, DpAll X.K H vs ds → (∀ v, (∀ H', Dp X.K H' v d) → Q v H) → r vs H Q
theorem CalB.cal {f : Value} {bi : List PyData → Option PyData} (h : CalB X f bi) : CalR X f bi := fun ds d e => by
  obtain ⟨r, h1, h2⟩ := h ds d e
  exact ⟨r, h1, fun O H vs Q _ hv k => h2 H vs Q (Ext.unhid.dpa hv) fun v hd => k v H (Ext.refl H) (hd _)⟩
section
variable {x : Str} {p : Pos} {id T : String} {bi : List PyData → Option PyData}
theorem any_call {fv : Value} : CallR X fv (fun vs H Q => ∃ r : List V → Hp → VK → Prop, CallR X fv r ∧ r vs H Q) := fun pins s σ H xs us Q I rv ⟨r, h1, h2⟩ => h1 pins s σ H xs us Q I rv h2
theorem go_call {fv : Value} {t : TE} (hc : CalR X fv bi) (k : CA X W (e :: es) g) (r : Rep X.K Z env σ H O) {Q : VK} (q : ROk X W σ O (VQ X.K O Q) H (g env >>= fun ds => ofO (bi ds))) :
    tCB (fun vs H Q => ∃ r : List V → Hp → VK → Prop, CallR X fv r ∧ r vs H Q) (wpA X (e :: es)) σ H Q := by
  refine k.go r q fun ds vs H1 e1 d1 r1 q1 => ?_
  cases eb : bi ds with
  | some d =>
    rw [eb] at q1
    obtain ⟨rr, h1, h2⟩ := hc ds d eb
    exact ⟨rr, h1, h2 O H1 vs Q r1.lv d1 fun v H' e' hv => q1 H' e' v hv⟩
  | none =>
    rw [eb] at q1
    exact q1.elim
/-- f(e, ..), f a built-in function -/
theorem ce_bf (hc : CalR X (.builtin id) bi) (hg : Gl X x) (hm : X.mg x = none) (hv : bootBuiltins x = some (.builtin id)) (ha : CA X W (e :: es) g) (hn : x ≠ "__name__" := by decide) (hdb : (x == ("__debug__" : Str)) = false := by decide)
    (he : starEach (e :: es) X.env = (false, eval e X.env) :: starEach es X.env := by rfl) (hpl : (backTo pos (starEach es X.env)).any (·.1) = false := by rfl) : CE X W (.Call (.Name x p) (e :: es) [] pos) (fun env => g env >>= fun ds => ofO (bi ds)) :=
  fun Z env σ H O Q r q => wp_e (pe_callB any_call hg hm hv pa_wp hn hdb he hpl) (go_call (t := wpE X e) hc ha r q)
/-- f a built-in function that the module imported -/
theorem ce_bi (hc : CalR X (.builtin id) bi) (hg : Gl X x) (hm : X.mg x = some (.builtin id)) (ha : CA X W (e :: es) g) (hdb : (x == ("__debug__" : Str)) = false := by decide)
    (he : starEach (e :: es) X.env = (false, eval e X.env) :: starEach es X.env := by rfl) (hpl : (backTo pos (starEach es X.env)).any (·.1) = false := by rfl) : CE X W (.Call (.Name x p) (e :: es) [] pos) (fun env => g env >>= fun ds => ofO (bi ds)) :=
  fun Z env σ H O Q r q => wp_e (pe_callBfun any_call hg hm pa_wp hdb he hpl) (go_call (t := wpE X e) hc ha r q)
/-- T(e, ..), T a built-in type -/
theorem ce_ty (hc : CalR X (.type T) bi) (hg : Gl X x) (hm : X.mg x = none) (hv : bootBuiltins x = some (.type T)) (ha : CA X W (e :: es) g) (hn : x ≠ "__name__" := by decide) (hdb : (x == ("__debug__" : Str)) = false := by decide)
    (he : starEach (e :: es) X.env = (false, eval e X.env) :: starEach es X.env := by rfl) (hpl : (backTo pos (starEach es X.env)).any (·.1) = false := by rfl) : CE X W (.Call (.Name x p) (e :: es) [] pos) (fun env => g env >>= fun ds => ofO (bi ds)) :=
  fun Z env σ H O Q r q => wp_e (pe_callTy any_call hg hm hv pa_wp hn hdb he hpl) (go_call (t := wpE X e) hc ha r q)
end
end
end PD
set_option Elab.async false
set_option linter.all false
set_option maxRecDepth 100000
set_option maxHeartbeats 4000000
namespace PD
open PySem PySem.Spec PyProof.Rows L2

/-! ### ints -/
def mulOk (i j : Int) : Bool := decide (i.natAbs.log2 + j.natAbs.log2 < 100000000)
theorem mulOk_ok {i j : Int} (h : mulOk i j = true) : IntMulOk i j := by
  have b : ∀ x : Int, Builtin.Int.intBits x ≤ x.natAbs.log2 + 1 := fun x => by
    unfold Builtin.Int.intBits
    split <;> omega
  have h1 := b i
  have h2 := b j
  have h3 : i.natAbs.log2 + j.natAbs.log2 < 100000000 := of_decide_eq_true h
  have e : bitsLine = 134217728 := by decide
  unfold IntMulOk
  intro z
  rw [Bool.and_eq_true] at z
  have z2 := z.2
  unfold Builtin.Int.intTooBig at z2
  have z3 := of_decide_eq_true z2
  rw [e] at z3
  omega
def divOk (j : Int) : Bool := decide (j ≠ 0) && decide (j.natAbs.log2 < 9000)
section
variable {X : Cx}
variable [Tbs]
theorem op_mulG : OpR X (binaryOp .Mult) (rI (fun i j => mulOk i j = true) fun i j => .int (i * j)) := opI fun _ _ _ _ _ _ _ hc q => mul_int q (mulOk_ok hc)
theorem op_fdivG : OpR X (binaryOp .FloorDiv) (rI (fun _ j => divOk j = true) fun i j => .int (i.fdiv j)) := opI fun i j _ _ _ _ _ hc q => by
  unfold divOk at hc
  simp only [Bool.and_eq_true, decide_eq_true_eq] at hc
  exact floordiv_int hc.1 q (.inl (PyProof.noPylong_of_log2 hc.2))
def powOk (i j : Int) : Bool := decide (0 ≤ j) && decide ((Builtin.Int.intBits i : Int) * j ≤ 2 ^ 27)
theorem op_powG : OpR X (binaryOp .Pow) (rI (fun i j => powOk i j = true) fun i j => .int (i ^ j.toNat)) := opI fun i j _ _ _ _ _ hc q => by
  unfold powOk at hc
  simp only [Bool.and_eq_true, decide_eq_true_eq] at hc
  exact pow_int hc.1 hc.2 q

def dAdd : PyData → PyData → Option PyData
  | .int i, .int j => some (.int (i + j))
  | .str i, .str j => if i.length + j.length ≤ sizeLine then some (.str (i ++ j)) else none
  | .tuple a, .tuple b => if a.length + b.length ≤ sizeLine then some (.tuple (a ++ b)) else none
  | _, _ => none
theorem bin_add : BinR X (binaryOp .Add) dAdd := fun dx dy d e => by
  cases dx <;> cases dy <;> first | (simp only [dAdd] at e; cases e; done) | skip
  · rename_i i j
    simp only [dAdd, Option.some.injEq] at e
    subst e
    refine ⟨_, op_add, fun O H vx vy Q l hx hy k => ?_⟩
    cases dp_int hx
    cases dp_int hy
    exact ⟨i, j, rfl, rfl, k _ H (Ext.refl H) (.int _)⟩
  · rename_i i j
    simp only [dAdd] at e
    split at e
    · rename_i hz
      cases e
      refine ⟨_, op_add_str, fun O H vx vy Q l hx hy k => ?_⟩
      cases dp_str hx
      cases dp_str hy
      exact ⟨i, j, rfl, rfl, hz, k _ H (Ext.refl H) (.str _)⟩
    · cases e
  · rename_i i j
    simp only [dAdd] at e
    split at e
    · rename_i hz
      cases e
      refine ⟨_, op_catA, fun O H vx vy Q l hx hy k => ?_⟩
      obtain ⟨p, xs, rfl, p1, p2⟩ := dp_tup hx
      obtain ⟨p', ys, rfl, p1', p2'⟩ := dp_tup hy
      refine ⟨p, p', xs, ys, rfl, rfl, Ext.unhid.st p1, Ext.unhid.st p1', by rw [dpa_len p2, dpa_len p2']; exact hz, fun e0 => ?_, fun _ e0 => ?_, fun _ _ q hq => ?_⟩
      · subst e0
        cases p2
        exact k _ H (Ext.refl H) hy
      · subst e0
        cases p2'
        rw [List.append_nil] at k
        exact k _ H (Ext.refl H) hx
      · exact k _ _ (Ext.new hq) (dp_newT l hq (dpa_app p2 p2'))
    · cases e
def dSub : PyData → PyData → Option PyData
  | .int i, .int j => some (.int (i - j))
  | _, _ => none
theorem bin_sub : BinR X (binaryOp .Sub) dSub := fun dx dy d e => by
  cases dx <;> cases dy <;> first | (simp only [dSub] at e; cases e; done) | skip
  rename_i i j
  simp only [dSub, Option.some.injEq] at e
  subst e
  refine ⟨_, op_sub, fun O H vx vy Q l hx hy k => ?_⟩
  cases dp_int hx
  cases dp_int hy
  exact ⟨i, j, rfl, rfl, k _ H (Ext.refl H) (.int _)⟩
def dMul : PyData → PyData → Option PyData
  | .int i, .int j => if mulOk i j = true then some (.int (i * j)) else none
  | .tuple a, .int k => if a ≠ [] ∧ 2 ≤ k ∧ k ≤ 1000 ∧ a.length ≤ 1000 then some (.tuple (List.replicate k.toNat a).flatten) else none
  | _, _ => none
theorem dpa_repl {K : PySem.W.Frag} {H : Hp} {vs : List V} {ds : List PyData} (h : DpAll K H vs ds) : ∀ n : Nat, DpAll K H (List.replicate n vs).flatten (List.replicate n ds).flatten
  | 0 => .nil
  | n + 1 => by
    rw [List.replicate_succ, List.replicate_succ, List.flatten_cons, List.flatten_cons]
    exact dpa_app h (dpa_repl h n)
theorem bin_mul : BinR X (binaryOp .Mult) dMul := fun dx dy d e => by
  cases dx <;> cases dy <;> first | (simp only [dMul] at e; cases e; done) | skip
  · rename_i i j
    simp only [dMul] at e
    split at e
    · rename_i hz
      cases e
      refine ⟨_, op_mulG, fun O H vx vy Q l hx hy k => ?_⟩
      cases dp_int hx
      cases dp_int hy
      exact ⟨i, j, rfl, rfl, hz, k _ H (Ext.refl H) (.int _)⟩
    · cases e
  · rename_i a j
    simp only [dMul] at e
    split at e
    · rename_i hz
      obtain ⟨h0, h1, h2, h3⟩ := hz
      cases e
      refine ⟨_, op_repT, fun O H vx vy Q l hx hy k => ?_⟩
      obtain ⟨p, xs, rfl, p1, p2⟩ := dp_tup hx
      cases dp_int hy
      have hl := dpa_len p2
      refine ⟨p, j, xs, rfl, rfl, Ext.unhid.st p1, fun z => h0 (by subst z; cases p2; rfl), h1, h2, by omega, fun q hq => ?_⟩
      exact k _ _ (Ext.new hq) (dp_newT l hq (dpa_repl p2 _))
    · cases e
def dDiv : PyData → PyData → Option PyData
  | .int i, .int j => if divOk j = true then some (.int (i.fdiv j)) else none
  | _, _ => none
theorem bin_div : BinR X (binaryOp .FloorDiv) dDiv := fun dx dy d e => by
  cases dx <;> cases dy <;> first | (simp only [dDiv] at e; cases e; done) | skip
  rename_i i j
  simp only [dDiv] at e
  split at e
  · rename_i hz
    cases e
    refine ⟨_, op_fdivG, fun O H vx vy Q l hx hy k => ?_⟩
    cases dp_int hx
    cases dp_int hy
    exact ⟨i, j, rfl, rfl, hz, k _ H (Ext.refl H) (.int _)⟩
  · cases e
def dMod : PyData → PyData → Option PyData
  | .int i, .int j => if 0 < j then some (.int (i % j)) else none
  | _, _ => none
theorem bin_mod : BinR X (binaryOp .Mod) dMod := fun dx dy d e => by
  cases dx <;> cases dy <;> first | (simp only [dMod] at e; cases e; done) | skip
  rename_i i j
  simp only [dMod] at e
  split at e
  · rename_i hz
    cases e
    refine ⟨_, op_mod, fun O H vx vy Q l hx hy k => ?_⟩
    cases dp_int hx
    cases dp_int hy
    exact ⟨i, j, rfl, rfl, hz, k _ H (Ext.refl H) (.int _)⟩
  · cases e
def dPow : PyData → PyData → Option PyData
  | .int i, .int j => if powOk i j = true then some (.int (i ^ j.toNat)) else none
  | _, _ => none
theorem bin_pow : BinR X (binaryOp .Pow) dPow := fun dx dy d e => by
  cases dx <;> cases dy <;> first | (simp only [dPow] at e; cases e; done) | skip
  rename_i i j
  simp only [dPow] at e
  split at e
  · rename_i hz
    cases e
    refine ⟨_, op_powG, fun O H vx vy Q l hx hy k => ?_⟩
    cases dp_int hx
    cases dp_int hy
    exact ⟨i, j, rfl, rfl, hz, k _ H (Ext.refl H) (.int _)⟩
  · cases e
def dNeg : PyData → Option PyData
  | .int i => some (.int (-i))
  | _ => none
theorem un_negD : UnD X (unaryOp .USub) dNeg := fun dx d e => by
  cases dx <;> first | (simp only [dNeg] at e; cases e; done) | skip
  rename_i i
  simp only [dNeg, Option.some.injEq] at e
  subst e
  refine ⟨_, un_neg, fun H vx Q hx k => ?_⟩
  cases dp_int hx
  exact ⟨i, rfl, k _ fun H' => .int _⟩

/-! ### comparisons -/
def dCmp (p : Int → Int → Bool) : PyData → PyData → Option PyData
  | .int i, .int j => some (.bool (p i j))
  | _, _ => none
theorem bin_cmp {op : CmpOp} {p : Int → Int → Bool} (ho : OpR X (compareOp op) (rI0 fun i j => .bl (p i j))) : BinB X (compareOp op) (dCmp p) := fun dx dy d e => by
  cases dx <;> cases dy <;> first | (simp only [dCmp] at e; cases e; done) | skip
  rename_i i j
  simp only [dCmp, Option.some.injEq] at e
  subst e
  refine ⟨_, ho, fun H vx vy Q hx hy k => ?_⟩
  cases dp_int hx
  cases dp_int hy
  exact ⟨i, j, rfl, rfl, k _ fun H' => .bl _⟩
abbrev dLt := dCmp fun i j => decide (i < j)
abbrev dLe := dCmp fun i j => decide (i ≤ j)
abbrev dGt := dCmp fun i j => decide (j < i)
abbrev dGe := dCmp fun i j => decide (j ≤ i)
theorem bin_lt : BinB X (compareOp .Lt) dLt := bin_cmp op_lt
theorem bin_le : BinB X (compareOp .LtE) dLe := bin_cmp op_le
theorem bin_gt : BinB X (compareOp .Gt) dGt := bin_cmp op_gt
theorem bin_ge : BinB X (compareOp .GtE) dGe := bin_cmp op_ge
def scD : PyData → Bool
  | .int _ => true
  | .str _ => true
  | .bool _ => true
  | .none => true
  | _ => false
def dEq : PyData → PyData → Option PyData
  | .int i, .int j => some (.bool (decide (i = j)))
  | .str i, .str j => some (.bool (decide (i = j)))
  | .bool i, .bool j => some (.bool (decide (i = j)))
  | x, y => if SeqAt.shaped x = true ∧ SeqAt.shaped y = true then some (.bool (PyData.eqv x y)) else none
def dNe (x y : PyData) : Option PyData := match dEq x y with
  | some (.bool b) => some (.bool !b)
  | _ => none
theorem dEq_deep (hu : X.A.units + 64 < cLine) {dx dy : PyData} (h1 : SeqAt.shaped dx = true) (h2 : SeqAt.shaped dy = true) : ∃ r : R2, OpR X (compareOp .Eq) r ∧
    ∀ H vx vy Q, Dp X.K H vx dx → Dp X.K H vy dy → (∀ v, (∀ H', Dp X.K H' v (.bool (PyData.eqv dx dy))) → Q v H) → r vx vy H Q :=
  ⟨_, op_eqD hu, fun H vx vy Q hx hy k => ⟨dx, dy, hx, hy, h1, h2, k _ fun H' => .bl _⟩⟩
theorem dNe_deep (hu : X.A.units + 64 < cLine) {dx dy : PyData} (h1 : SeqAt.shaped dx = true) (h2 : SeqAt.shaped dy = true) : ∃ r : R2, OpR X (compareOp .NotEq) r ∧
    ∀ H vx vy Q, Dp X.K H vx dx → Dp X.K H vy dy → (∀ v, (∀ H', Dp X.K H' v (.bool (!PyData.eqv dx dy))) → Q v H) → r vx vy H Q :=
  ⟨_, op_neD hu, fun H vx vy Q hx hy k => ⟨dx, dy, hx, hy, h1, h2, k _ fun H' => .bl _⟩⟩
theorem bin_eq (hu : X.A.units + 64 < cLine) : BinB X (compareOp .Eq) dEq := fun dx dy d e => by
  cases dx <;> cases dy
  all_goals try (
    simp only [dEq] at e
    split at e
    · rename_i hz
      cases e
      exact dEq_deep hu hz.1 hz.2
    · cases e
    done)
  all_goals (
    simp only [dEq, Option.some.injEq] at e
    subst e
    refine ⟨_, op_eq, fun H vx vy Q hx hy k => ?_⟩
    cases hx
    cases hy
    refine ⟨rfl, ?_⟩
    simp only [V.int.injEq, V.str.injEq, V.bl.injEq]
    exact k _ fun H' => .bl _)
theorem bin_ne (hu : X.A.units + 64 < cLine) : BinB X (compareOp .NotEq) dNe := fun dx dy d e => by
  cases dx <;> cases dy
  all_goals try (
    simp only [dNe, dEq] at e
    split at e
    · rename_i b hz
      cases e
      split at hz
      · rename_i hz2
        cases hz
        exact dNe_deep hu hz2.1 hz2.2
      · cases hz
    · cases e
    done)
  all_goals (
    simp only [dNe, dEq, Option.some.injEq] at e
    subst e
    refine ⟨_, op_ne, fun H vx vy Q hx hy k => ?_⟩
    cases hx
    cases hy
    refine ⟨rfl, ?_⟩
    simp only [V.int.injEq, V.str.injEq, V.bl.injEq]
    exact k _ fun H' => .bl _)
def isNon : PyData → Bool
  | .none => true
  | _ => false
/-- is None, is True -/
def dIs : PyData → PyData → Option PyData
  | .bool a, .bool b => some (.bool (decide (a = b)))
  | x, .none => some (.bool (isNon x))
  | _, _ => none
def dIsN (x y : PyData) : Option PyData := match dIs x y with
  | some (.bool b) => some (.bool !b)
  | _ => none
theorem dp_isnon {K : PySem.W.Frag} {H : Hp} {v : V} {d : PyData} (h : Dp K H v d) : decide (v = .non) = isNon d := by
  cases h <;> rfl
theorem bin_is : BinB X (compareOp .Is) dIs := fun dx dy d e => by
  cases dy with
  | none =>
    have e' : some (PyData.bool (isNon dx)) = some d := by cases dx <;> exact e
    cases e'
    refine ⟨_, op_isN, fun H vx vy Q hx hy k => ?_⟩
    cases dp_none hy
    refine ⟨rfl, ?_⟩
    rw [dp_isnon hx]
    exact k _ fun H' => .bl _
  | bool b =>
    cases dx with
    | bool a =>
      simp only [dIs, Option.some.injEq] at e
      subst e
      refine ⟨_, op_isBl, fun H vx vy Q hx hy k => ?_⟩
      cases dp_bool hx
      cases dp_bool hy
      exact ⟨a, b, rfl, rfl, k _ fun H' => .bl _⟩
    | _ => cases e
  | _ => cases dx <;> cases e
theorem bin_isn : BinB X (compareOp .IsNot) dIsN := fun dx dy d e => by
  cases dy with
  | none =>
    have e' : some (PyData.bool (!(isNon dx))) = some d := by cases dx <;> exact e
    cases e'
    refine ⟨_, op_notN, fun H vx vy Q hx hy k => ?_⟩
    cases dp_none hy
    refine ⟨rfl, ?_⟩
    rw [dp_isnon hx]
    exact k _ fun H' => .bl _
  | bool b =>
    cases dx with
    | bool a =>
      simp only [dIsN, dIs, Option.some.injEq] at e
      subst e
      refine ⟨_, op_notBl, fun H vx vy Q hx hy k => ?_⟩
      cases dp_bool hx
      cases dp_bool hy
      exact ⟨a, b, rfl, rfl, k _ fun H' => .bl _⟩
    | _ => cases e
  | _ => cases dx <;> cases e

/-! ### calls -/
def cLen : List PyData → Option PyData
  | [.list xs] => some (.int xs.length)
  | [.tuple xs] => some (.int xs.length)
  | [.str x] => if x.length ≤ sizeLine then some (.int x.length) else none
  | _ => none
theorem dpa1 {K : PySem.W.Frag} {H : Hp} {vs : List V} {d : PyData} (h : DpAll K H vs [d]) : ∃ v, vs = [v] ∧ Dp K H v d := by
  cases h with
  | cons a b => cases b; exact ⟨_, rfl, a⟩
theorem dpa2 {K : PySem.W.Frag} {H : Hp} {vs : List V} {d e : PyData} (h : DpAll K H vs [d, e]) : ∃ v u, vs = [v, u] ∧ Dp K H v d ∧ Dp K H u e := by
  cases h with
  | cons a b =>
    obtain ⟨u, rfl, c⟩ := dpa1 b
    exact ⟨_, u, rfl, a, c⟩
theorem cal_len : CalB X (.builtin "len") cLen := fun ds d e => by
  refine ⟨_, call_len, fun H vs Q hv k => ?_⟩
  rcases ds with _ | ⟨x, _ | ⟨y, r⟩⟩
  · cases e
  · obtain ⟨v, rfl, hx⟩ := dpa1 hv
    cases x with
    | list xs =>
      obtain ⟨p, ys, rfl, p1, p2⟩ := dp_lst hx
      simp only [cLen, Option.some.injEq] at e
      subst e
      refine ⟨_, ys.length, rfl, .inl ⟨ys, p1, rfl⟩, ?_⟩
      rw [dpa_len p2]
      exact k _ fun H' => .int _
    | tuple xs =>
      obtain ⟨p, ys, rfl, p1, p2⟩ := dp_tup hx
      simp only [cLen, Option.some.injEq] at e
      subst e
      refine ⟨_, ys.length, rfl, .inr ⟨ys, p1, rfl⟩, ?_⟩
      rw [dpa_len p2]
      exact k _ fun H' => .int _
    | str z =>
      cases dp_str hx
      simp only [cLen] at e
      split at e
      · rename_i hz
        cases e
        exact ⟨_, z.length, rfl, ⟨hz, rfl⟩, k _ fun H' => .int _⟩
      · cases e
    | _ => cases e
  · cases x <;> cases e
def cAbs : List PyData → Option PyData
  | [.int i] => some (.int (if i < 0 then -i else i))
  | _ => none
theorem cal_abs : CalB X (.builtin "abs") cAbs := fun ds d e => by
  refine ⟨_, call_abs, fun H vs Q hv k => ?_⟩
  rcases ds with _ | ⟨x, _ | ⟨y, r⟩⟩
  · cases e
  · obtain ⟨v, rfl, hx⟩ := dpa1 hv
    cases x with
    | int i =>
      cases dp_int hx
      simp only [cAbs, Option.some.injEq] at e
      subst e
      exact ⟨i, rfl, k _ fun H' => .int _⟩
    | _ => cases e
  · cases x <;> cases e
def cInt : List PyData → Option PyData
  | [.int i] => some (.int i)
  | [.bool b] => some (.int (if b then 1 else 0))
  | _ => none
theorem cal_int : CalB X (.type "int") cInt := fun ds d e => by
  refine ⟨_, call_int1, fun H vs Q hv k => ?_⟩
  rcases ds with _ | ⟨x, _ | ⟨y, r⟩⟩
  · cases e
  · obtain ⟨v, rfl, hx⟩ := dpa1 hv
    cases x with
    | int i =>
      cases dp_int hx
      simp only [cInt, Option.some.injEq] at e
      subst e
      exact .inl ⟨i, rfl, k _ fun H' => .int _⟩
    | bool i =>
      cases dp_bool hx
      simp only [cInt, Option.some.injEq] at e
      subst e
      exact .inr ⟨i, rfl, k _ fun H' => .int _⟩
    | _ => cases e
  · cases x <;> cases e
def cGcd : List PyData → Option PyData
  | [.int i, .int j] => some (.int (Nat.gcd i.natAbs j.natAbs : Nat))
  | _ => none
theorem cal_gcd : CalB X (.builtin "math.gcd") cGcd := fun ds d e => by
  refine ⟨_, cr_gcd, fun H vs Q hv k => ?_⟩
  rcases ds with _ | ⟨x, _ | ⟨y, _ | ⟨z, r⟩⟩⟩
  · cases e
  · cases x <;> cases e
  · obtain ⟨v, u, rfl, hx, hy⟩ := dpa2 hv
    cases x <;> first | (cases e; done) | skip
    cases y <;> first | (cases e; done) | skip
    cases dp_int hx
    cases dp_int hy
    simp only [cGcd, Option.some.injEq] at e
    subst e
    exact ⟨_, _, rfl, k _ fun H' => .int _⟩
  · cases x <;> cases y <;> cases e
def cMax : List PyData → Option PyData
  | [.int i, .int j] => some (.int (if j > i then j else i))
  | _ => none
def cMin : List PyData → Option PyData
  | [.int i, .int j] => some (.int (if j < i then j else i))
  | _ => none
theorem cal_max (hc : X.calm = true) : CalB X (.builtin "max") cMax := fun ds d e => by
  refine ⟨_, call_max2 hc, fun H vs Q hv k => ?_⟩
  rcases ds with _ | ⟨x, _ | ⟨y, _ | ⟨z, r⟩⟩⟩
  · cases e
  · cases x <;> cases e
  · obtain ⟨v, u, rfl, hx, hy⟩ := dpa2 hv
    cases x <;> first | (cases e; done) | skip
    cases y <;> first | (cases e; done) | skip
    cases dp_int hx
    cases dp_int hy
    simp only [cMax, Option.some.injEq] at e
    subst e
    exact ⟨_, _, rfl, k _ fun H' => .int _⟩
  · cases x <;> cases y <;> cases e
theorem cal_min (hc : X.calm = true) : CalB X (.builtin "min") cMin := fun ds d e => by
  refine ⟨_, call_min2 hc, fun H vs Q hv k => ?_⟩
  rcases ds with _ | ⟨x, _ | ⟨y, _ | ⟨z, r⟩⟩⟩
  · cases e
  · cases x <;> cases e
  · obtain ⟨v, u, rfl, hx, hy⟩ := dpa2 hv
    cases x <;> first | (cases e; done) | skip
    cases y <;> first | (cases e; done) | skip
    cases dp_int hx
    cases dp_int hy
    simp only [cMin, Option.some.injEq] at e
    subst e
    exact ⟨_, _, rfl, k _ fun H' => .int _⟩
  · cases x <;> cases y <;> cases e
/-- any, all of a list of bools -/
def bools : List PyData → Option (List Bool)
  | [] => some []
  | .bool b :: r => (bools r).map (b :: ·)
  | _ => none
theorem dpa_bools {K : PySem.W.Frag} {H : Hp} : ∀ {ds : List PyData} {vs : List V} {bs : List Bool}, DpAll K H vs ds → bools ds = some bs → vs = bs.map V.bl
  | [], _, _, .nil, e => by cases e; rfl
  | d :: ds, _, bs, .cons h t, e => by
    cases d with
    | bool b =>
      cases dp_bool h
      simp only [bools] at e
      cases hb : bools ds with
      | none => rw [hb] at e; cases e
      | some bs' =>
        rw [hb] at e
        cases e
        rw [dpa_bools t hb]
        rfl
    | _ => cases e
def cAll : List PyData → Option PyData
  | [.list xs] => (bools xs).map fun bs => .bool (bs.all id)
  | _ => none
def cAny : List PyData → Option PyData
  | [.list xs] => (bools xs).map fun bs => .bool (bs.any id)
  | _ => none
theorem cal_all (hc : X.calm = true) : CalB X (.builtin "all") cAll := fun ds d e => by
  refine ⟨_, cr_all hc, fun H vs Q hv k => ?_⟩
  rcases ds with _ | ⟨x, _ | ⟨y, r⟩⟩
  · cases e
  · obtain ⟨v, rfl, hx⟩ := dpa1 hv
    cases x with
    | list xs =>
      obtain ⟨p, ys, rfl, p1, p2⟩ := dp_lst hx
      simp only [cAll] at e
      cases hb : bools xs with
      | none => rw [hb] at e; cases e
      | some bs =>
        rw [hb] at e
        cases e
        have e2 := dpa_bools p2 hb
        subst e2
        exact ⟨p, bs, rfl, p1, k _ fun H' => .bl _⟩
    | _ => cases e
  · cases x <;> cases e
theorem cal_any (hc : X.calm = true) : CalB X (.builtin "any") cAny := fun ds d e => by
  refine ⟨_, cr_any hc, fun H vs Q hv k => ?_⟩
  rcases ds with _ | ⟨x, _ | ⟨y, r⟩⟩
  · cases e
  · obtain ⟨v, rfl, hx⟩ := dpa1 hv
    cases x with
    | list xs =>
      obtain ⟨p, ys, rfl, p1, p2⟩ := dp_lst hx
      simp only [cAny] at e
      cases hb : bools xs with
      | none => rw [hb] at e; cases e
      | some bs =>
        rw [hb] at e
        cases e
        have e2 := dpa_bools p2 hb
        subst e2
        exact ⟨p, bs, rfl, p1, k _ fun H' => .bl _⟩
    | _ => cases e
  · cases x <;> cases e
end

/-! ### kinds of values -/
def tyName : PyData → String
  | .none => "NoneType"
  | .bool _ => "bool"
  | .int _ => "int"
  | .str _ => "str"
  | .list _ => "list"
  | .tuple _ => "tuple"
  | .dict _ => "dict"
theorem dp_ty {K : PySem.W.Frag} {H : Hp} {v : V} {d : PyData} (h : Dp K H v d) : TyX K H v (.type (tyName d)) := by
  cases h with
  | non => exact .base .non
  | bl b => exact .base (.bl b)
  | int b => exact .base (.int b)
  | str b => exact .base (.str b)
  | lst h _ =>
    rcases h with (h | ⟨o, h⟩) | ⟨o, its, n, h1, h2, _⟩
    · exact .base (.lst h)
    · exact .base (.frz h)
    · exact .kList h1 h2
  | tup h _ =>
    rcases h with (h | ⟨o, h⟩) | ⟨o, its, n, h1, h2, _⟩
    · exact .base (.tup h)
    · exact .fTuple h
    · exact .kTuple h1 h2
def isiD (T : String) (d : PyData) : Bool := match T, d with
  | "int", .int _ => true
  | "int", .bool _ => true
  | "bool", .bool _ => true
  | "str", .str _ => true
  | "list", .list _ => true
  | "tuple", .tuple _ => true
  | _, _ => false
/-- the types that isiD knows -/
def isiT (T : String) : Bool := T == "int" || T == "bool" || T == "str" || T == "list" || T == "tuple"
theorem isiD_ok {T : String} (h : isiT T = true) (d : PyData) (hd : ∀ kv, d ≠ .dict kv) : kitB (tyName d) T = some (isiD T d) := by
  unfold isiT at h
  simp only [Bool.or_eq_true, beq_iff_eq] at h
  rcases h with (((h | h) | h) | h) | h <;> subst h <;> cases d <;> first | exact absurd rfl (hd _) | rfl | decide +kernel
def isiO (T : String) : PyData → Option PyData
  | .dict _ => none
  | d => some (.bool (isiD T d))
section
variable {X : Cx} {W : WX} {e : Expr} {f : E} {pos p p2 p3 : Pos} {T : String}
variable [Tbs]
theorem ce_isi {x : Str} (hT : isiT T = true) (hg : Gl X "isinstance") (hm : X.mg "isinstance" = none) (hg2 : Gl X x) (hm2 : X.mg x = none) (hv2 : bootBuiltins x = some (.type T)) (hn2 : x ≠ "__name__") (hd2 : (x == ("__debug__" : Str)) = false)
    (h : CB X W e f) (he : starEach [e, .Name x p2] X.env = (false, eval e X.env) :: starEach [.Name x p2] X.env := by rfl) (he2 : starEach [.Name x p2] X.env = (false, eval (.Name x p2) X.env) :: starEach [] X.env := by rfl)
    (hpl : (backTo pos (starEach [.Name x p2] X.env)).any (·.1) = false := by rfl) :
    CE X W (.Call (.Name "isinstance" p) [e, .Name x p2] [] pos) (fun env => f env >>= fun d => ofO (isiO T d)) := fun Z env σ H O Q r q => by
  have hb : PE X (.Name x p2) (tC (.ty T)) := pe_bltn hg2 hm2 hv2 rfl hn2 hd2
  refine wp_e (pe_callB call_isi hg hm (by decide +kernel) (pa_cons pe_wp (pa_cons hb pa_nil he2) he) (by decide) (by decide) he hpl) ?_
  refine h.go r q fun d v H1 e1 d1 r1 q1 => ?_
  cases d with
  | dict _ => exact q1.elim
  | _ => exact ⟨v, .ty T, _, .type T, _, rfl, .ty T, dp_ty (Ext.unhid.dp d1), kit_ty (isiD_ok hT _ (by intro _ z; cases z)), q1.here _ (.bl _)⟩
end
end PD
set_option Elab.async false
set_option linter.all false
set_option maxRecDepth 100000
set_option maxHeartbeats 4000000
namespace PD
open PySem PySem.Spec PyProof.Rows L2

section
variable {X : Cx} {W : WX} {e a b : Expr} {es : List Expr} {f fa fb : E} {Z : Zn} {env : Env} {σ : Sg} {H : Hp} {O : List Addr} {pos : Pos}
variable [Tbs]

/-! ### a list of the frame's own, read -/
theorem own_read {i : Nat} {x : Str} {pos : Pos} {ds : List PyData} {Q : VK} (r : Rep X.K Z env σ H O) (he : env[i]? = some (some (.own ds))) (hN : X.N[i]? = some x) (hv : Vis X.env.scope x) (hd : (x == ("__debug__" : Str)) = false) (hcd : (x == ("__classdict__" : Str)) = false)
    (k : ∀ p vs, σ[i]? = some (some (.ref p)) → p ∈ O → p ∉ Z.Oc → H p = some (.lst vs) → DpAll X.K (hid O H) vs ds → Q (.ref p) H) : wpE X (.Name x pos) σ H Q := by
  obtain ⟨v, h1, p, vs, rfl, h2, h3, h4, h5⟩ := r.sl i _ he
  exact wp_e (pe_var hN hv hd hcd) ⟨_, h1, k p vs h1 h2 h3 h4 h5⟩
/-- a name, whatever it holds, for a reader that keeps nothing of it -/
def gb (env : Env) (i : Nat) : RO PyData := match env[i]? with
  | some (some (.fz d)) => .ok d
  | some (some (.own ds)) => .ok (.list ds)
  | _ => .no
theorem cb_var (i : Nat) {x : Str} {pos : Pos} (hN : X.N[i]? = some x := by rfl) (hv : Vis X.env.scope x := by first | exact Or.inl rfl | exact Or.inr (Or.inl rfl) | exact Or.inr (Or.inr rfl)) (hd : (x == ("__debug__" : Str)) = false := by decide)
    (hcd : (x == ("__classdict__" : Str)) = false := by decide) : CB X W (.Name x pos) (fun env => gb env i) := fun Z env σ H O Q r q => by
  have q : ROk X W σ O (VQ X.K Z.Oc Q) H (gb env i) := q
  unfold gb at q
  cases he : env[i]? with
  | none => rw [he] at q; exact q.elim
  | some s =>
    cases s with
    | none => rw [he] at q; exact q.elim
    | some s =>
      cases s with
      | fz d =>
        rw [he] at q
        obtain ⟨v, h1, h2⟩ := r.sl i _ he
        exact wp_e (pe_var hN hv hd hcd) ⟨v, h1, q.here v ((Ext.hid_sub r.sub).dp h2)⟩
      | own ds =>
        rw [he] at q
        refine own_read r he hN hv hd hcd fun p vs h1 h2 h3 h4 h5 => q.here _ (.lst (SqL.of ?_) ((Ext.hid_sub r.sub).dpa h5))
        rw [hid_out h3]
        exact h4

/-! ### a[b] -/
def dIx : PyData → PyData → Option PyData
  | .list xs, .int i => atI xs i
  | .tuple xs, .int i => atI xs i
  | .str z, .int i => if z.length ≤ sizeLine then (atI z.cps.toList i).map fun c => .str ⟨#[c]⟩ else none
  | _, _ => none
theorem at_dpa {K : PySem.W.Frag} {vs : List V} {ds : List PyData} {i : Int} {d : PyData} (h : DpAll K H vs ds) (e : atI ds i = some d) : ∃ v, atI vs i = some v ∧ Dp K H v d := by
  unfold atI at e ⊢
  rw [dpa_len h]
  cases hj : ixN ds.length i with
  | none => rw [hj] at e; cases e
  | some j =>
    rw [hj] at e
    obtain ⟨v, h1, h2⟩ := dpa_get h e
    exact ⟨v, h1, h2⟩
theorem ix_ok {K : PySem.W.Frag} {vx : V} {dx d : PyData} {i : Int} {Q : VK} (hx : Dp K (hid O H) vx dx) (e : dIx dx (.int i) = some d) (k : ∀ v, Dp K (hid O H) v d → Q v H) : rIx K vx (.int i) H Q := by
  cases dx with
  | list xs =>
    obtain ⟨p, vs, rfl, h1, h2⟩ := dp_lst hx
    obtain ⟨v, e1, e2⟩ := at_dpa h2 e
    exact .inl ⟨p, vs, i, v, rfl, rfl, Ext.unhid.sl h1, e1, k v e2⟩
  | tuple xs =>
    obtain ⟨p, vs, rfl, h1, h2⟩ := dp_tup hx
    obtain ⟨v, e1, e2⟩ := at_dpa h2 e
    exact .inr (.inl ⟨p, vs, i, v, rfl, rfl, Ext.unhid.st h1, e1, k v e2⟩)
  | str z =>
    cases dp_str hx
    simp only [dIx] at e
    split at e
    · rename_i hz
      cases hc : atI z.cps.toList i with
      | none => rw [hc] at e; cases e
      | some c =>
        rw [hc] at e
        cases e
        exact .inr (.inr ⟨z, i, c, rfl, rfl, hz, hc, k _ (.str _)⟩)
    · cases e
  | _ => cases e
theorem ce_ix (ha : CE X W a fa) (hb : CE X W b fb) (hs : PlainIx b := by exact fun _ _ => rfl) : CE X W (.Subscript a b pos) (fun env => fa env >>= fun x => fb env >>= fun y => ofO (dIx x y)) := fun Z env σ H O Q r q => by
  refine wp_e (pe_ix ix_seq pe_wp pe_wp hs) ?_
  refine ha.go r q fun dx vx H1 e1 d1 r1 q1 => ?_
  refine hb.go r1 q1 fun dy vy H2 e2 d2 r2 q2 => ?_
  cases e : dIx dx dy with
  | none => rw [e] at q2; exact q2.elim
  | some d =>
    rw [e] at q2
    cases dy with
    | int i =>
      cases dp_int d2
      exact ix_ok ((e2.hid O).dp d1) e fun v hv => q2.here v hv
    | _ => cases dx <;> cases e
/-- the same of a list of the frame's own -/
theorem ce_ixO (i : Nat) {x : Str} {p : Pos} (hb : CE X W b fb) (hN : X.N[i]? = some x := by rfl) (hv : Vis X.env.scope x := by first | exact Or.inl rfl | exact Or.inr (Or.inl rfl) | exact Or.inr (Or.inr rfl)) (hd : (x == ("__debug__" : Str)) = false := by decide)
    (hcd : (x == ("__classdict__" : Str)) = false := by decide) (hs : PlainIx b := by exact fun _ _ => rfl) : CE X W (.Subscript (.Name x p) b pos) (fun env => gvo env i >>= fun xs => fb env >>= fun y => ofO (dIx (.list xs) y)) := fun Z env σ H O Q r q => by
  refine wp_e (pe_ix ix_seq pe_wp pe_wp hs) ?_
  rcases gvo_cases env i with ⟨ds, he⟩ | he
  · dsimp only at q
    rw [he] at q
    have q' : ROk X W σ O (VQ X.K O Q) H (fb env >>= fun y => ofO (dIx (.list ds) y)) := q
    refine own_read r (gvo_ok he) hN hv hd hcd fun p vs h1 h2 h3 h4 h5 => ?_
    refine hb.go r q' fun dy vy H2 e2 d2 r2 q2 => ?_
    cases e : dIx (.list ds) dy with
    | none => rw [e] at q2; exact q2.elim
    | some d =>
      rw [e] at q2
      cases dy with
      | int i =>
        cases dp_int d2
        obtain ⟨v, e3, e4⟩ := at_dpa ((e2.hid O).dpa h5) e
        exact .inl ⟨p, vs, i, v, rfl, rfl, SqL.of (e2.lst h4), e3, q2.here v e4⟩
      | _ => cases e
  · dsimp only at q
    rw [he] at q
    exact q.elim

/-! ### slices -/
def cutD {α : Type} (xs : List α) (lo hi : Option Int) : List α := (xs.drop (HT.sIx xs.length 0 lo)).take (HT.sIx xs.length xs.length hi - HT.sIx xs.length 0 lo)
theorem cut_dpa {K : PySem.W.Frag} {vs : List V} {ds : List PyData} (h : DpAll K H vs ds) (lo hi : Option Int) : DpAll K H (cutV vs lo hi) (cutD ds lo hi) := by
  unfold cutV cutD
  rw [dpa_len h]
  exact dpa_take _ (dpa_drop _ h)
/-- a part of a slice -/
def CO (X : Cx) (W : WX) (e : Option Expr) (f : Env → RO (Option Int)) : Prop := ∀ Z env σ H O Q, Rep X.K Z env σ H O → ROk X W σ O Q H (f env) → ∃ t, PO X e t ∧ t σ H Q
def tI (d : PyData) : RO Int := match d with
  | .int i => .ok i
  | _ => .no
theorem co_none : CO X W none (fun _ => .ok none) := fun Z env σ H O Q r q => ⟨_, po_none, q.here⟩
theorem co_some (h : CE X W e f) : CO X W (some e) (fun env => f env >>= tI >>= fun i => .ok (some i)) := fun Z env σ H O Q r q => by
  refine ⟨_, po_some pe_wp, ?_⟩
  dsimp only at q
  rw [RO.assoc] at q
  refine h.go r q fun d v H1 e1 d1 r1 q1 => ?_
  cases d with
  | int i =>
    cases dp_int d1
    exact ⟨i, rfl, q1.here⟩
  | _ => exact q1.elim
def wpO (X : Cx) (e : Option Expr) : TO := fun σ H Q => ∀ pins s, Inv X pins σ H s → wpAny (model X.prog X.w) X.A (evalPart e X.env) (fun u s' => ∃ o H', Inv X pins σ H' s' ∧ IsPart u o ∧ Q o H') X.xe s
theorem po_wp {e : Option Expr} : PO X e (wpO X e) := ⟨fun pins s _ _ _ I h => h pins s I⟩
theorem CO.go {β : Type} {eo : Option Expr} {fo : Env → RO (Option Int)} {g : Option Int → RO β} {P : β → Hp → Prop} {Q : Option Int → Hp → Prop} (h : CO X W eo fo) (r : Rep X.K Z env σ H O) (q : ROk X W σ O P H (fo env >>= g))
    (k : ∀ d H1, Ext H H1 → Rep X.K Z env σ H1 O → ROk X W σ O P H1 (g d) → Q d H1) : wpO X eo σ H Q := by
  obtain ⟨t, h1, h2⟩ := h Z env σ H O Q r (q.then fun d H1 _ e1 q1 => k d H1 e1 (r.mono e1) q1)
  exact fun pins s I => h1.run pins s σ H Q I h2
def dCut (x : PyData) (lo hi : Option Int) : RO PyData := match x with
  | .list xs => .ok (.list (cutD xs lo hi))
  | .tuple xs => .ok (.tuple (cutD xs lo hi))
  | .str z => if z.length ≤ sizeLine then .ok (.str (cutS z lo hi)) else .no
  | _ => .no
variable {lo hi : Option Expr} {fl fh : Env → RO (Option Int)} {p2 : Pos}
abbrev rSl3 (K : PySem.W.Frag) : V → Option Int → Option Int → Hp → VK → Prop := fun x l h H Q => rSlL K x l h H Q ∨ (rSlA K x l h H Q ∨ rSlS x l h H Q)
theorem cut_whole {xs : List PyData} {l h : Option Int} (e : HT.sIx xs.length 0 l = 0 ∧ HT.sIx xs.length xs.length h = xs.length) : cutD xs l h = xs := by
  unfold cutD
  rw [e.1, e.2, Nat.sub_zero, List.drop_zero, List.take_length]
theorem ce_slice (ha : CE X W a fa) (h1 : CO X W lo fl) (h2 : CO X W hi fh) : CE X W (.Subscript a (.Slice lo hi none p2) pos) (fun env => fa env >>= fun x => fl env >>= fun l => fh env >>= fun u => dCut x l u) := fun Z env σ H O Q r q => by
  refine wp_e (pe_slice (r := rSl3 X.K) (sl_list.or (sl_tupA.or sl_str)) pe_wp po_wp po_wp) ?_
  refine ha.go r q fun dx vx H1 e1 d1 r1 q1 => ?_
  refine h1.go r1 q1 fun l H2 e2 r2 q2 => ?_
  refine h2.go r2 q2 fun u H3 e3 r3 q3 => ?_
  have d3 := ((e2.trans e3).hid O).dp d1
  cases dx with
  | list xs =>
    obtain ⟨p, vs, rfl, p1, p2⟩ := dp_lst d3
    exact .inl ⟨p, vs, rfl, Ext.unhid.sl p1, fun t ht => q3 _ (Ext.new ht) _ (dp_newL r3.lv ht (cut_dpa p2 l u))⟩
  | tuple xs =>
    obtain ⟨p, vs, rfl, p1, p2⟩ := dp_tup d3
    refine .inr (.inl ⟨p, vs, rfl, Ext.unhid.st p1, fun hw => q3.here _ ?_, fun _ t ht => q3 _ (Ext.new ht) _ (dp_newT r3.lv ht (cut_dpa p2 l u))⟩)
    rw [dpa_len p2] at hw
    rw [cut_whole hw]
    exact d3
  | str z =>
    cases dp_str d3
    have q4 : ROk X W σ O (VQ X.K O Q) H3 (if z.length ≤ sizeLine then .ok (.str (cutS z l u)) else .no) := q3
    by_cases hz : z.length ≤ sizeLine
    · rw [if_pos hz] at q4
      exact .inr (.inr ⟨z, rfl, hz, q4.here _ (.str _)⟩)
    · rw [if_neg hz] at q4
      exact q4.elim
  | _ => exact q3.elim
/-- a slice of a list, as a new list -/
def lCut (x : PyData) (lo hi : Option Int) : RO (List PyData) := match x with
  | .list xs => .ok (cutD xs lo hi)
  | _ => .no
theorem cl_slice (ha : CE X W a fa) (h1 : CO X W lo fl) (h2 : CO X W hi fh) : CL X W (.Subscript a (.Slice lo hi none p2) pos) (fun env => fa env >>= fun x => fl env >>= fun l => fh env >>= fun u => lCut x l u) := fun Z env σ H O Q r q => by
  refine wp_e (pe_slice sl_list pe_wp po_wp po_wp) ?_
  refine ha.go r q fun dx vx H1 e1 d1 r1 q1 => ?_
  refine h1.go r1 q1 fun l H2 e2 r2 q2 => ?_
  refine h2.go r2 q2 fun u H3 e3 r3 q3 => ?_
  have d3 := ((e2.trans e3).hid O).dp d1
  cases dx with
  | list xs =>
    obtain ⟨p, vs, rfl, p1, p2⟩ := dp_lst d3
    exact ⟨p, vs, rfl, Ext.unhid.sl p1, fun t ht => q3.here t _ ht (cut_dpa p2 l u)⟩
  | _ => exact q3.elim
/-- a slice of a list of the frame's own -/
theorem cl_sliceO (i : Nat) {x : Str} {p : Pos} (h1 : CO X W lo fl) (h2 : CO X W hi fh) (hN : X.N[i]? = some x := by rfl) (hv : Vis X.env.scope x := by first | exact Or.inl rfl | exact Or.inr (Or.inl rfl) | exact Or.inr (Or.inr rfl)) (hd : (x == ("__debug__" : Str)) = false := by decide)
    (hcd : (x == ("__classdict__" : Str)) = false := by decide) : CL X W (.Subscript (.Name x p) (.Slice lo hi none p2) pos) (fun env => gvo env i >>= fun xs => fl env >>= fun l => fh env >>= fun u => .ok (cutD xs l u)) := fun Z env σ H O Q r q => by
  refine wp_e (pe_slice sl_list pe_wp po_wp po_wp) ?_
  rcases gvo_cases env i with ⟨ds, he⟩ | he
  · dsimp only at q
    rw [he] at q
    have q' : ROk X W σ O (LQ X.K O Q) H (fl env >>= fun l => fh env >>= fun u => .ok (cutD ds l u)) := q
    refine own_read r (gvo_ok he) hN hv hd hcd fun p vs s1 s2 s3 s4 s5 => ?_
    refine h1.go r q' fun l H2 e2 r2 q2 => ?_
    refine h2.go r2 q2 fun u H3 e3 r3 q3 => ?_
    exact ⟨p, vs, rfl, SqL.of ((e2.trans e3).lst s4), fun t ht => q3.here t _ ht (cut_dpa (((e2.trans e3).hid O).dpa s5) l u)⟩
  · dsimp only at q
    rw [he] at q
    exact q.elim

/-! ### tuple(x), list(x) -/
section
variable {x : Str} {p : Pos}
def dSeq (d : PyData) : RO (List PyData) := match d with
  | .list xs => .ok xs
  | .tuple xs => .ok xs
  | _ => .no
theorem cl_list (h : CE X W e f) (hg : Gl X "list") (hm : X.mg "list" = none) (he : starEach [e] X.env = (false, eval e X.env) :: starEach [] X.env := by rfl) (hpl : (backTo pos (starEach [] X.env)).any (·.1) = false := by rfl) :
    CL X W (.Call (.Name "list" p) [e] [] pos) (fun env => f env >>= dSeq) := fun Z env σ H O Q r q => by
  refine wp_e (pe_callTy call_list_of hg hm (by decide +kernel) (pa_cons pe_wp pa_nil he) (by decide) (by decide) he hpl) ?_
  refine h.go r q fun d v H1 e1 d1 r1 q1 => ?_
  cases d with
  | list xs =>
    obtain ⟨p, vs, rfl, p1, p2⟩ := dp_lst d1
    exact ⟨p, vs, rfl, .inl (Ext.unhid.sl p1), fun t ht => q1.here t _ ht p2⟩
  | tuple xs =>
    obtain ⟨p, vs, rfl, p1, p2⟩ := dp_tup d1
    exact ⟨p, vs, rfl, .inr (Ext.unhid.st p1), fun t ht => q1.here t _ ht p2⟩
  | _ => exact q1.elim
theorem ce_tuple (h : CE X W e f) (hg : Gl X "tuple") (hm : X.mg "tuple" = none) (he : starEach [e] X.env = (false, eval e X.env) :: starEach [] X.env := by rfl) (hpl : (backTo pos (starEach [] X.env)).any (·.1) = false := by rfl) :
    CE X W (.Call (.Name "tuple" p) [e] [] pos) (fun env => f env >>= dSeq >>= fun xs => .ok (.tuple xs)) := fun Z env σ H O Q r q => by
  dsimp only at q
  rw [RO.assoc] at q
  refine wp_e (pe_callTy call_tuple_of hg hm (by decide +kernel) (pa_cons pe_wp pa_nil he) (by decide) (by decide) he hpl) ?_
  refine h.go r q fun d v H1 e1 d1 r1 q1 => ?_
  cases d with
  | list xs =>
    obtain ⟨p, vs, rfl, p1, p2⟩ := dp_lst d1
    exact ⟨p, vs, rfl, .inl ⟨Ext.unhid.sl p1, fun t ht => q1 _ (Ext.new ht) _ (dp_newT r1.lv ht p2)⟩⟩
  | tuple xs =>
    obtain ⟨p, vs, rfl, p1, p2⟩ := dp_tup d1
    exact ⟨p, vs, rfl, .inr ⟨Ext.unhid.st p1, q1.here _ d1⟩⟩
  | _ => exact q1.elim
theorem ce_tupleO (i : Nat) {p2 : Pos} (hg : Gl X "tuple") (hm : X.mg "tuple" = none) (hN : X.N[i]? = some x := by rfl) (hv : Vis X.env.scope x := by first | exact Or.inl rfl | exact Or.inr (Or.inl rfl) | exact Or.inr (Or.inr rfl)) (hd : (x == ("__debug__" : Str)) = false := by decide)
    (hcd : (x == ("__classdict__" : Str)) = false := by decide) (he : starEach [.Name x p2] X.env = (false, eval (.Name x p2) X.env) :: starEach [] X.env := by rfl) (hpl : (backTo pos (starEach [] X.env)).any (·.1) = false := by rfl) :
    CE X W (.Call (.Name "tuple" p) [.Name x p2] [] pos) (fun env => gvo env i >>= fun xs => .ok (.tuple xs)) := fun Z env σ H O Q r q => by
  refine wp_e (pe_callTy call_tuple_of hg hm (by decide +kernel) (pa_cons pe_wp pa_nil he) (by decide) (by decide) he hpl) ?_
  rcases gvo_cases env i with ⟨ds, hi⟩ | hi
  · dsimp only at q
    rw [hi] at q
    exact own_read r (gvo_ok hi) hN hv hd hcd fun p vs s1 s2 s3 s4 s5 => ⟨p, vs, rfl, .inl ⟨SqL.of s4, fun t ht => q _ (Ext.new ht) _ (dp_newT r.lv ht s5)⟩⟩
  · dsimp only at q
    rw [hi] at q
    exact q.elim
/-- len(x) of a list of the frame's own -/
theorem ce_lenO (i : Nat) {p2 : Pos} (hg : Gl X "len") (hm : X.mg "len" = none) (hN : X.N[i]? = some x := by rfl) (hv : Vis X.env.scope x := by first | exact Or.inl rfl | exact Or.inr (Or.inl rfl) | exact Or.inr (Or.inr rfl)) (hd : (x == ("__debug__" : Str)) = false := by decide)
    (hcd : (x == ("__classdict__" : Str)) = false := by decide) (he : starEach [.Name x p2] X.env = (false, eval (.Name x p2) X.env) :: starEach [] X.env := by rfl) (hpl : (backTo pos (starEach [] X.env)).any (·.1) = false := by rfl) :
    CE X W (.Call (.Name "len" p) [.Name x p2] [] pos) (fun env => gvo env i >>= fun xs => .ok (.int xs.length)) := fun Z env σ H O Q r q => by
  refine wp_e (pe_callB call_len_seq hg hm PySem.boot_len (pa_cons pe_wp pa_nil he) (by decide) (by decide) he hpl) ?_
  rcases gvo_cases env i with ⟨ds, hi⟩ | hi
  · dsimp only at q
    rw [hi] at q
    refine own_read r (gvo_ok hi) hN hv hd hcd fun p vs s1 s2 s3 s4 s5 => ⟨p, vs, rfl, .inl (SqL.of s4), ?_⟩
    rw [dpa_len s5]
    exact ROk.here q _ (.int _)
  · dsimp only at q
    rw [hi] at q
    exact q.elim
end
end
end PD
set_option Elab.async false
set_option linter.all false
set_option maxRecDepth 100000
set_option maxHeartbeats 4000000
namespace PD
open PySem PySem.Spec PyProof.Rows L2

/-! ### targets -/
def GOk (r : RO Env) (P : Env → Prop) : Prop := match r with
  | .ok e => P e
  | _ => False
abbrev G := PyData → Env → RO Env
abbrev Gs := List PyData → Env → RO Env
def wpGs (X : Cx) (ts : List Expr) : TGs := fun vs σ H Q => ∀ pins s us, Inv X pins σ H s → Vals vs us → wpAny (model X.prog X.w) X.A (assignInOrder ((assignEach ts X.env).map (·.2)) us) (fun _ s' => ∃ σ' H', Inv X pins σ' H' s' ∧ Q σ' H') X.xe s
def CG [Tbs] (X : Cx) (tg : Expr) (is : List Nat) (g : G) : Prop := ∀ Z env σ H O v d (Q : L2.St → Hp → Prop), Rep X.K Z env σ H O → Dp X.K (hid O H) v d →
  GOk (g d env) (fun env' => ∀ σ' : Sg, Rep X.K Z env' σ' H O → σ'.length = σ.length → (∀ j, j ∉ is → σ'[j]? = σ[j]?) → Q σ' H) → wpG X tg v σ H Q
def CGs [Tbs] (X : Cx) (ts : List Expr) (is : List Nat) (g : Gs) : Prop := ∀ Z env σ H O vs ds (Q : L2.St → Hp → Prop), Rep X.K Z env σ H O → DpAll X.K (hid O H) vs ds →
  GOk (g ds env) (fun env' => ∀ σ' : Sg, Rep X.K Z env' σ' H O → σ'.length = σ.length → (∀ j, j ∉ is → σ'[j]? = σ[j]?) → Q σ' H) → wpGs X ts vs σ H Q
section
variable {X : Cx} {W : WX} {pos : Pos} {t : Expr} {ts : List Expr} {g : G} {gs : Gs} {is js : List Nat}
variable [Tbs]
theorem pgs_wp : PGs X ts (wpGs X ts) := ⟨fun pins s _ _ _ us _ I r h => h pins s us I r⟩
def gN (i : Nat) : G := fun d env => .ok (env.set i (some (.fz d)))
def gsN : Gs := fun ds env => match ds with
  | [] => .ok env
  | _ => .no
def gsC (g : G) (gs : Gs) : Gs := fun ds env => match ds with
  | d :: r => g d env >>= fun e1 => gs r e1
  | [] => .no
def gT (n : Nat) (gs : Gs) : G := fun d env => match d with
  | .tuple ds => if ds.length = n then gs ds env else .no
  | .list ds => if ds.length = n then gs ds env else .no
  | _ => .no
theorem cg_name (i : Nat) {x : Str} (hN : X.N.Nodup) (hi : X.N[i]? = some x) (hx : Loc X.env.scope x) (hf : X.fn x = true ∨ X.env.scope.names.lookup x = some .local := by first | exact .inl rfl | exact .inr rfl | assumption) : CG X (.Name x pos) [i] (gN i) := fun Z env σ H O v d Q r h q =>
  wp_g (pg_name hN hi hx hf) (q _ (r.setFz i h) (by simp) fun j hj => List.getElem?_set_ne (fun z => hj (by simp [z])))
theorem cgs_nil : CGs X [] [] gsN := fun Z env σ H O vs ds Q r h q => by
  intro pins s us I rv
  cases ds with
  | nil =>
    cases h
    cases rv
    exact assignInOrder_nil ⟨σ, H, I, q σ r rfl fun _ _ => rfl⟩
  | cons _ _ => exact q.elim
theorem cgs_cons (h1 : CG X t is g) (h2 : CGs X ts js gs) (hs : (assignEach (t :: ts) X.env).map (·.2) = assign t X.env :: (assignEach ts X.env).map (·.2) := by rfl) : CGs X (t :: ts) (is ++ js) (gsC g gs) := fun Z env σ H O vs ds Q r h q => by
  intro pins s us I rv
  cases ds with
  | nil => exact q.elim
  | cons d ds =>
    cases h with
    | cons hv hr =>
      cases rv with
      | cons r1 r2 =>
        rw [hs]
        have q' : GOk (g d env >>= fun e1 => gs ds e1) _ := q
        cases hg : g d env with
        | ok e1 =>
          rw [hg] at q'
          refine assignInOrder_cons (thn (h1 Z env σ H O _ d (fun σ1 H1 => H1 = H ∧ Rep X.K Z e1 σ1 H O ∧ σ1.length = σ.length ∧ ∀ j, j ∉ is → σ1[j]? = σ[j]?) r hv (by rw [hg]; exact fun σ' a b c => ⟨rfl, a, b, c⟩) pins s _ I r1) fun _ s1 ⟨σ1, H1, I1, e, rp, l1, k1⟩ => ?_)
          subst e
          exact h2 Z e1 σ1 H1 O _ ds Q rp hr (by
            have q2 : GOk (gs ds e1) _ := q'
            cases hg2 : gs ds e1 with
            | ok e2 =>
              rw [hg2] at q2
              exact fun σ' a b c => q2 σ' a (b.trans l1) fun j hj => (c j fun z => hj (List.mem_append_right _ z)).trans (k1 j fun z => hj (List.mem_append_left _ z))
            | er _ _ => rw [hg2] at q2; exact q2.elim
            | no => rw [hg2] at q2; exact q2.elim) pins s1 _ I1 r2
        | er _ _ => rw [hg] at q'; exact q'.elim
        | no => rw [hg] at q'; exact q'.elim
theorem cg_tup {k : Nat} {n : Nat} (hc : X.calm = true) (h : CGs X ts is gs) (hn : (assignEach ts X.env).length = n := by rfl) (hst : (assignEach ts X.env).findIdx? (·.1) = none := by rfl) : CG X (.Tuple ts k pos) is (gT n gs) := fun Z env σ H O v d Q r hv q => by
  cases d with
  | tuple ds =>
    obtain ⟨p, vs, rfl, h1, h2⟩ := dp_tup hv
    have q' : GOk (if ds.length = n then gs ds env else .no) _ := q
    by_cases z : ds.length = n
    · rw [if_pos z] at q'
      exact wp_g (pg_tup hc pgs_wp hn hst) ⟨p, vs, rfl, Ext.unhid.st h1, by rw [dpa_len h2]; exact z, h Z env σ H O vs ds Q r h2 q'⟩
    · rw [if_neg z] at q'
      exact q'.elim
  | list ds =>
    obtain ⟨p, vs, rfl, h1, h2⟩ := dp_lst hv
    have q' : GOk (if ds.length = n then gs ds env else .no) _ := q
    by_cases z : ds.length = n
    · rw [if_pos z] at q'
      exact wp_g (pg_lst hc pgs_wp hn hst) ⟨p, vs, rfl, Ext.unhid.sl h1, by rw [dpa_len h2]; exact z, h Z env σ H O vs ds Q r h2 q'⟩
    · rw [if_neg z] at q'
      exact q'.elim
  | _ => exact q.elim
end

/-! ### what is walked -/
structure WalkD (K : PySem.W.Frag) (O : List Addr) (H : Hp) (J : It) (ds : List PyData) : Prop where
  go : ∀ i d O1 H1, ds[i]? = some d → Ext (hid O H) (hid O1 H1) → Lv O1 H1 → J.go i H1 ∧ ∀ x H2, J.yld i H1 x H2 → Ext H1 H2 ∧ Dp K (hid O1 H2) x d
  stop : ∀ i O1 H1, ds.length = i → Ext (hid O H) (hid O1 H1) → J.stop i H1
def IQ (K : PySem.W.Frag) (O : List Addr) (R : It → Hp → Prop) (ds : List PyData) (H : Hp) : Prop := ∀ J, WalkD K O H J ds → R J H
/-- the items of the own list of slot i -/
def CIO [Tbs] (X : Cx) (tg it : Expr) (i : Nat) : Prop := ∀ Z env σ H O ds R, Rep X.K Z env σ H O → env[i]? = some (some (.own ds)) → (∀ p vs, p ∈ O → p ∉ Z.Oc → H p = some (.lst vs) → DpAll X.K (hid O H) vs ds → R (Itl X.K p) H) → wpI X tg it σ H R
def CI [Tbs] (X : Cx) (W : WX) (tg it : Expr) (f : Env → RO (List PyData)) : Prop := ∀ Z env σ H O R, Rep X.K Z env σ H O → ROk X W σ O (IQ X.K O R) H (f env) → wpI X tg it σ H R
section
variable {K : PySem.W.Frag} {O : List Addr} {H : Hp}
theorem walk_l {a : Addr} {vs : List V} {ds : List PyData} (h : SqL K (hid O H) a vs) (hd : DpAll K (hid O H) vs ds) : WalkD K O H (Itl K a) ds where
  go := fun i d O1 H1 e x l => by
    obtain ⟨v, h1, h2⟩ := dpa_get hd e
    have s1 : SqL K H1 a vs := Ext.unhid.sl (x.sl h)
    refine ⟨⟨vs, v, s1, h1⟩, fun y H2 ⟨e2, hy⟩ => ?_⟩
    subst e2
    have := hy vs s1
    rw [h1] at this
    cases this
    exact ⟨Ext.refl _, x.dp h2⟩
  stop := fun i O1 H1 hi x => ⟨vs, Ext.unhid.sl (x.sl h), by rw [dpa_len hd]; exact Nat.le_of_eq hi⟩
theorem walk_t {a : Addr} {vs : List V} {ds : List PyData} (h : SqT K (hid O H) a vs) (hd : DpAll K (hid O H) vs ds) : WalkD K O H (Itt K a) ds where
  go := fun i d O1 H1 e x l => by
    obtain ⟨v, h1, h2⟩ := dpa_get hd e
    have s1 : SqT K H1 a vs := Ext.unhid.st (x.st h)
    refine ⟨⟨vs, v, s1, h1⟩, fun y H2 ⟨e2, hy⟩ => ?_⟩
    subst e2
    have := hy vs s1
    rw [h1] at this
    cases this
    exact ⟨Ext.refl _, x.dp h2⟩
  stop := fun i O1 H1 hi x => ⟨vs, Ext.unhid.st (x.st h), by rw [dpa_len hd]; exact Nat.le_of_eq hi⟩
def strItems (x : Str) : List PyData := x.cps.toList.map fun c => .str ⟨#[c]⟩
theorem walk_s {x : Str} : WalkD K O H (Its x) (strItems x) where
  go := fun i d O1 H1 e xx l => by
    unfold strItems at e
    rw [List.getElem?_map] at e
    cases hc : x.cps.toList[i]? with
    | none => rw [hc] at e; cases e
    | some c =>
      rw [hc] at e
      cases e
      have hc' : x.cps[i]? = some c := by rw [← Array.getElem?_toList]; exact hc
      refine ⟨(Array.getElem?_eq_some_iff.mp hc').1, fun y H2 ⟨e2, c2, h2, e3⟩ => ?_⟩
      subst e2
      subst e3
      rw [hc'] at h2
      cases h2
      exact ⟨Ext.refl _, .str _⟩
  stop := fun i O1 H1 hi xx => by
    unfold strItems at hi
    rw [List.length_map, Array.length_toList] at hi
    exact Nat.le_of_eq hi
def rngItems (lo : Int) (n : Nat) : List PyData := (List.range n).map fun i => .int (lo + (i : Nat))
theorem walk_r {lo : Int} {n : Nat} : WalkD K O H (Itr lo n) (rngItems lo n) where
  go := fun i d O1 H1 e x l => by
    unfold rngItems at e
    rw [List.getElem?_map] at e
    by_cases hi : i < n
    · rw [List.getElem?_range hi] at e
      cases e
      refine ⟨hi, fun y H2 ⟨e2, e3⟩ => ?_⟩
      subst e2
      subst e3
      exact ⟨Ext.refl _, .int _⟩
    · rw [List.getElem?_eq_none (by simpa using hi)] at e
      cases e
  stop := fun i O1 H1 hi x => by
    unfold rngItems at hi
    rw [List.length_map, List.length_range] at hi
    exact Nat.le_of_eq hi
end
section
variable {X : Cx} {W : WX} {tg e a b c : Expr} {es : List Expr} {f fa fb : E} {pos p : Pos} {Z : Zn} {env : Env} {σ : Sg} {H : Hp} {O : List Addr}
variable [Tbs]
/-- walking a value -/
def wpIt (X : Cx) (tg : Expr) (v : V) : L2.St → Hp → (It → Hp → Prop) → Prop := fun σ H R => ∀ pins s u, Inv X pins σ H s → RelV v u → wpAny (model X.prog X.w) X.A (pyIter u) (PIE X pins σ tg R) X.xe s
theorem pi_gen {t : TE} (h : PE X e t) : PI X tg e (fun σ H R => t σ H fun v H1 => wpIt X tg v σ H1 R) := ⟨fun pins s σ H R I hw => thn (h.run pins s σ H _ I hw) fun u s1 ⟨v, H1, I1, r1, q1⟩ => q1 pins s1 u I1 r1⟩
theorem it_list {a : Addr} {xs : List V} {R : It → Hp → Prop} (hq : SqL X.K H a xs) (q : R (Itl X.K a) H) : wpIt X tg (.ref a) σ H R := fun pins s1 u I1 r1 => by
  cases r1
  obtain ⟨its, rv, p, hz⟩ := I1.list hq
  refine wpAny_pyIter_list p.isList ?_
  refine ⟨s1.heap.objs.size, [s1.heap.objs.size], _, _, H, rfl, I1.kept (t' := s1.toks) fun b o e => Heap.get?_push_of_some _ e, turn_list a _, ⟨_, Heap.get?_push_size _ rfl, rfl, rfl⟩, fun b hb => ?_, q⟩
  have e : b = s1.heap.objs.size := by simpa using hb
  subst e
  exact I1.fpOk (Nat.le_refl _) (I1.hok.fresh (Nat.le_refl _))
theorem it_tup {a : Addr} {xs : List V} {R : It → Hp → Prop} (hq : SqT X.K H a xs) (q : R (Itt X.K a) H) : wpIt X tg (.ref a) σ H R := fun pins s1 u I1 r1 => by
  cases r1
  obtain ⟨its, rv, p, hz⟩ := I1.tuple hq
  refine wpAny_pyIter_tuple (show s1.heap.IsTuple a its.toArray from p) ?_
  refine ⟨s1.heap.objs.size, [s1.heap.objs.size], _, _, H, rfl, I1.kept (t' := s1.toks) fun b o e => Heap.get?_push_of_some _ e, turn_tuple a _, ⟨_, Heap.get?_push_size _ rfl, rfl, rfl⟩, fun b hb => ?_, q⟩
  have e : b = s1.heap.objs.size := by simpa using hb
  subst e
  exact I1.fpOk (Nat.le_refl _) (I1.hok.fresh (Nat.le_refl _))
theorem it_str {x : Str} {R : It → Hp → Prop} (q : R (Its x) H) : wpIt X tg (.str x) σ H R := fun pins s1 u I1 r1 => by
  obtain ⟨t, rfl⟩ := r1
  cases ha : x.cps.all (· < 128)
  · exact wpAny_pyIter_wide ha (pi_one (tk := s1.toks) I1 _ (turn_str _ x t "str_iterator" (.inr rfl)) ⟨_, Heap.get?_push_size _ rfl, rfl, rfl⟩ q)
  · exact wpAny_pyIter_ascii ha (pi_one (tk := s1.toks) I1 _ (turn_str _ x t "str_ascii_iterator" (.inl rfl)) ⟨_, Heap.get?_push_size _ rfl, rfl, rfl⟩ q)
def dIter (d : PyData) : RO (List PyData) := match d with
  | .list xs => .ok xs
  | .tuple xs => .ok xs
  | .str x => .ok (strItems x)
  | _ => .no
/-- for .. in a list, a tuple, a text -/
theorem ci_seq [Tbs] (h : CE X W e f) : CI X W tg e (fun env => f env >>= dIter) := fun Z env σ H O R r q => by
  refine wp_i (pi_gen pe_wp) ?_
  refine h.go r q fun d v H1 e1 d1 r1 q1 => ?_
  cases d with
  | list xs =>
    obtain ⟨p, vs, rfl, h1, h2⟩ := dp_lst d1
    exact it_list (Ext.unhid.sl h1) (q1.here _ (walk_l h1 h2))
  | tuple xs =>
    obtain ⟨p, vs, rfl, h1, h2⟩ := dp_tup d1
    exact it_tup (Ext.unhid.st h1) (q1.here _ (walk_t h1 h2))
  | str x =>
    cases dp_str d1
    exact it_str (q1.here _ walk_s)
  | _ => exact q1.elim
/-- for .. in a list of the frame's own, while nothing is changed -/
theorem ci_own (i : Nat) {x : Str} (hN : X.N[i]? = some x := by rfl) (hv : Vis X.env.scope x := by first | exact Or.inl rfl | exact Or.inr (Or.inl rfl) | exact Or.inr (Or.inr rfl)) (hd : (x == ("__debug__" : Str)) = false := by decide)
    (hcd : (x == ("__classdict__" : Str)) = false := by decide) : CIO X tg (.Name x pos) i := fun Z env σ H O ds R r he q => by
  refine wp_i (pi_gen pe_wp) ?_
  exact own_read r he hN hv hd hcd fun p vs h1 h2 h3 h4 h5 => it_list (SqL.of h4) (q p vs h2 h3 h4 h5)
def rng1 (d : PyData) : RO (List PyData) := match d with
  | .int j => if -(2 ^ 62) ≤ j ∧ j < 2 ^ 62 then .ok (rngItems 0 j.toNat) else .no
  | _ => .no
def rng2 (d e : PyData) : RO (List PyData) := match d, e with
  | .int i, .int j => if -(2 ^ 62) ≤ i ∧ i < 2 ^ 62 ∧ -(2 ^ 62) ≤ j ∧ j < 2 ^ 62 then .ok (rngItems i (j - i).toNat) else .no
  | _, _ => .no
theorem ci_range1 [Tbs] (h : CE X W a fa) (hg : Gl X "range") (hm : X.mg "range" = none) (hs : starEach [a] X.env = [(false, eval a X.env)] := by rfl) : CI X W tg (.Call (.Name "range" p) [a] [] pos) (fun env => fa env >>= rng1) := fun Z env σ H O R r q => by
  refine wp_i (pi_range1 hg hm (pa_cons pe_wp pa_nil (by rw [hs] <;> rfl)) hs) ?_
  refine h.go r q fun d v H1 e1 d1 r1 q1 => ?_
  cases d with
  | int j =>
    cases dp_int d1
    have q2 : ROk X W σ O (IQ X.K O R) H1 (if -(2 ^ 62) ≤ j ∧ j < 2 ^ 62 then .ok (rngItems 0 j.toNat) else .no) := q1
    by_cases z : -(2 ^ 62) ≤ j ∧ j < 2 ^ 62
    · rw [if_pos z] at q2
      exact ⟨j, rfl, z.1, z.2, q2.here _ walk_r⟩
    · rw [if_neg z] at q2
      exact q2.elim
  | _ => exact q1.elim
theorem ci_range2 [Tbs] (h : CE X W a fa) (k : CE X W b fb) (hg : Gl X "range") (hm : X.mg "range" = none) (hs : starEach [a, b] X.env = [(false, eval a X.env), (false, eval b X.env)] := by rfl) (hs2 : starEach [b] X.env = [(false, eval b X.env)] := by rfl) :
    CI X W tg (.Call (.Name "range" p) [a, b] [] pos) (fun env => fa env >>= fun x => fb env >>= fun y => rng2 x y) := fun Z env σ H O R r q => by
  refine wp_i (pi_range2 hg hm (pa_cons pe_wp (pa_cons pe_wp pa_nil (by rw [hs2] <;> rfl)) (by rw [hs, hs2] <;> rfl)) hs hs2) ?_
  refine h.go r q fun d v H1 e1 d1 r1 q1 => ?_
  refine k.go r1 q1 fun d' v' H2 e2 d2 r2 q2 => ?_
  cases d with
  | int i =>
    cases dp_int d1
    cases d' with
    | int j =>
      cases dp_int d2
      have q3 : ROk X W σ O (IQ X.K O R) H2 (if -(2 ^ 62) ≤ i ∧ i < 2 ^ 62 ∧ -(2 ^ 62) ≤ j ∧ j < 2 ^ 62 then .ok (rngItems i (j - i).toNat) else .no) := q2
      by_cases z : -(2 ^ 62) ≤ i ∧ i < 2 ^ 62 ∧ -(2 ^ 62) ≤ j ∧ j < 2 ^ 62
      · rw [if_pos z] at q3
        exact ⟨i, j, rfl, z, q3.here _ walk_r⟩
      · rw [if_neg z] at q3
        exact q3.elim
    | _ => exact q2.elim
  | _ => exact q2.elim
end
end PD
set_option Elab.async false
set_option linter.all false
set_option maxRecDepth 100000
set_option maxHeartbeats 4000000
namespace PD
open PySem PySem.Spec PyProof.Rows L2

/-! ### comprehensions -/
def quiet {α : Type} (r : RO α) : RO α := match r with
  | .er _ _ => .no
  | r => r
theorem quiet_ok {α : Type} {r : RO α} {a : α} (h : quiet r = .ok a) : r = .ok a := by
  cases r with
  | ok b => exact h
  | er _ _ => cases h
  | no => cases h
def compGo (g : G) (t : T) (f : E) (env : Env) : List PyData → RO (List PyData)
  | [] => .ok []
  | x :: xs => quiet (g x env) >>= fun e1 => quiet (t e1) >>= fun b => if b = true then quiet (f e1) >>= fun y => compGo g t f env xs >>= fun ys => .ok (y :: ys) else compGo g t f env xs
def compD (g : G) (t : T) (f : E) (env : Env) (items : List PyData) : RO (List PyData) := if items.length ≤ sizeLine then compGo g t f env items else .no
theorem bind_okE {α β : Type} {r : RO α} {k : α → RO β} {b : β} (h : (r >>= k) = .ok b) : ∃ a, r = .ok a ∧ k a = .ok b := by
  cases r with
  | ok a => exact ⟨a, rfl, h⟩
  | er _ _ => cases h
  | no => cases h
theorem comp_noEr (g : G) (t : T) (f : E) (env : Env) : ∀ items c fl, compGo g t f env items ≠ .er c fl
  | [], c, fl, h => by cases h
  | x :: xs, c, fl, h => by
    have ih := comp_noEr g t f env xs
    have qn : ∀ {α : Type} (r : RO α) c fl, quiet r ≠ .er c fl := fun r c fl z => by cases r <;> cases z
    have bn : ∀ {α β : Type} {r : RO α} {k : α → RO β}, (∀ c fl, r ≠ .er c fl) → (∀ a c fl, k a ≠ .er c fl) → ∀ c fl, (r >>= k) ≠ .er c fl := fun {α β r k} h1 h2 c fl z => by
      cases r with
      | ok a => exact h2 a c fl z
      | er c' fl' => exact h1 c' fl' rfl
      | no => cases z
    refine bn (qn _) (fun e1 => bn (qn _) fun b => ?_) c fl h
    intro c fl
    split
    · exact bn (qn _) (fun y => bn ih fun ys c fl z => by cases z) c fl
    · exact ih c fl
def wipeE (env : Env) : List Nat → Env
  | [] => env
  | v :: vs => (wipeE env vs).set v none
abbrev WN : WX := fun _ _ _ _ => False
section
variable {K : PySem.W.Frag} {Z : Zn} {env : Env} {σ : Sg} {H H1 H2 : Hp} {O : List Addr} {D : Addr} {acc : List V}
variable [Tbs]
theorem Rep.wipe (r : Rep K Z env σ H O) : ∀ vs, Rep K Z (wipeE env vs) (L2.wipe σ vs) H O
  | [] => r
  | v :: vs => (Rep.wipe r vs).setNone v none
theorem hid_cons : hid O (hid [D] H) = hid (D :: O) H := by
  funext a
  unfold hid
  by_cases h1 : a ∈ O
  · rw [if_pos h1, if_pos (List.mem_cons_of_mem _ h1)]
  · rw [if_neg h1]
    by_cases h2 : a = D
    · rw [if_pos (by simp [h2]), if_pos (by simp [h2])]
    · rw [if_neg (by simp [h2]), if_neg (by simp [h1, h2])]
theorem Rep.grow (r : Rep K Z env σ H1 O) (e : Ext H1 (hid [D] H2)) (hl : H2 D = some (.lst acc)) : Rep K Z env σ H2 (D :: O) := by
  have e2 : Ext (hid O H1) (hid (D :: O) H2) := by
    rw [← hid_cons]
    exact e.hid O
  have e3 : Ext H1 H2 := e.trans Ext.unhid
  refine ⟨r.ex.trans e2, fun a h => List.mem_cons_of_mem _ (r.sub a h), fun a h => ?_, r.len, fun i s h => ?_, r.nd, fun a h => ?_, fun P hP => tabG_ext e3 (r.tb P hP)⟩
  · obtain ⟨vs, q⟩ := r.lv a (r.sub a h)
    rw [e3.lst q, ← r.kp a h, q]
  · obtain ⟨v, h1, h2⟩ := r.sl i s h
    refine ⟨v, h1, ?_⟩
    cases s with
    | fz d => exact e2.dp h2
    | own ds =>
      obtain ⟨a, vs, p1, p2, p3, p4, p5⟩ := h2
      exact ⟨a, vs, p1, List.mem_cons_of_mem _ p2, p3, e3.lst p4, e2.dpa p5⟩
  · rcases List.mem_cons.mp h with z | h
    · exact ⟨acc, by rw [z]; exact hl⟩
    · obtain ⟨vs, q⟩ := r.lv a h
      exact ⟨vs, e3.lst q⟩
theorem wipe_get (σ : L2.St) : ∀ (vs : List Nat) (j : Nat), (L2.wipe σ vs)[j]? = if j ∈ vs then (if j < σ.length then some none else none) else σ[j]?
  | [], j => by simp [L2.wipe]
  | v :: vs, j => by
    unfold L2.wipe
    by_cases h : j = v
    · subst h
      rw [if_pos List.mem_cons_self]
      by_cases z : j < σ.length
      · rw [if_pos z, List.getElem?_set_self (by rw [wipe_length]; exact z)]
      · rw [if_neg z, List.getElem?_eq_none (by rw [List.length_set, wipe_length]; omega)]
    · rw [List.getElem?_set_ne (Ne.symm h), wipe_get σ vs j]
      by_cases m : j ∈ vs
      · rw [if_pos m, if_pos (List.mem_cons_of_mem _ m)]
      · rw [if_neg m, if_neg (by simp [h, m])]
theorem wipe_back {σ σ2 : L2.St} {vs : List Nat} (hl : σ2.length = (L2.wipe σ vs).length) (h : ∀ j, j ∉ vs → σ2[j]? = (L2.wipe σ vs)[j]?) : L2.wipe σ2 vs = L2.wipe σ vs := by
  apply List.ext_getElem?
  intro j
  rw [wipe_length] at hl
  rw [wipe_get, wipe_get]
  by_cases m : j ∈ vs
  · rw [if_pos m, if_pos m, hl]
  · rw [if_neg m, if_neg m, h j m, wipe_get, if_neg m]
end
def wpTs (X : Cx) (ifs : List Expr) : TT := fun σ H Q => ∀ pins s, Inv X pins σ H s → wpAny (model X.prog X.w) X.A (forIn ifs true fun c r => if r = true then do let ok ← isTrue c X.env (eval c X.env); pure (ForInStep.yield ok) else pure (ForInStep.yield r)) (TP X pins σ Q) X.xe s
theorem pts_wp {X : Cx} {ifs : List Expr} : PTs X ifs (wpTs X ifs) := ⟨fun pins s _ _ _ I h => h pins s I⟩
def CTs [Tbs] (X : Cx) (W : WX) (ifs : List Expr) (f : T) : Prop := ∀ Z env σ H O Q, Rep X.K Z env σ H O → ROk X W σ O Q H (f env) → wpTs X ifs σ H Q
section
variable {X : Cx} {W : WX} {tg iter elt c : Expr} {ifs : List Expr} {scope : Scope} {own : List (Str × Nat)} {pos : Pos} {fs : Env → RO (List PyData)} {g : G} {is : List Nat} {t : T} {f : E}
variable [Tbs]
theorem cts_nil : CTs X W [] (fun _ => .ok true) := fun Z env σ H O Q r q => fun pins s I => pts_nil.run pins s σ H Q I q.here
theorem cts_one (h : CT X W c t) : CTs X W [c] t := fun Z env σ H O Q r q => fun pins s I => (pts_one pt_wp).run pins s σ H Q I (h Z env σ H O Q r q)
theorem ROk.unquiet {α : Type} {W' : WX} {σ : Sg} {O : List Addr} {H : Hp} {P : α → Hp → Prop} {r : RO α} {a : α} (h : r = .ok a) (q : ∀ H', Ext H H' → P a H') : ROk X W' σ O P H r := by
  rw [h]
  exact q
/-- the walk of a comprehension (the new list at D), over items that are known -/
theorem comp_core {J : It} {Z : Zn} {env : Env} {σ : Sg} {H1 : Hp} {O : List Addr} {Q : VK} {items zs : List PyData}
    (hg : ∀ (s : Shared) (H : Hp) (C : Addr) (cl : List (Str × Addr)) (fp : List Addr), CG (X.blk s H scope (compEnvC scope cl C X.env) fp) tg is g) (his : ∀ j ∈ is, j ∈ own.map (·.2))
    (ht : ∀ (s : Shared) (H : Hp) (C : Addr) (cl : List (Str × Addr)) (fp : List Addr), CTs (X.blk s H scope (compEnvC scope cl C X.env) fp) WN ifs t)
    (he : ∀ (s : Shared) (H : Hp) (C : Addr) (cl : List (Str × Addr)) (fp : List Addr), CE (X.blk s H scope (compEnvC scope cl C X.env) fp) WN elt f)
    (r1 : Rep X.K Z env σ H1 O) (wk : ∀ i d O1 H2, items[i]? = some d → Ext (hid O H1) (hid O1 H2) → (∀ a ∈ O, a ∈ O1) → Lv O1 H2 → Ext H1 H2 → J.go i H2 ∧ ∀ x H3, J.yld i H2 x H3 → Ext H2 H3 ∧ Dp X.K (hid O1 H3) x d)
    (ws : ∀ i O1 H2, items.length = i → Ext (hid O H1) (hid O1 H2) → Ext H1 H2 → J.stop i H2) (hz : items.length ≤ sizeLine) (hv : compGo g t f (wipeE env (own.map (·.2))) items = .ok zs)
    (q : ∀ H', Ext H1 H' → LQ X.K O Q zs H') (D : Addr) (hD : H1 D = none) :
    ∃ W : Nat → Nat → Hp → Prop, (∃ m, W 0 m (upd H1 D (.lst []))) ∧ ∀ i m H, W i m H →
      (J.stop i H ∧ Q (.ref D) H) ∨ (J.go i H ∧ ∃ Nx : Hp → Prop, (∀ H', Nx H' → ∃ m', m' < m ∧ W (i + 1) m' H') ∧ ∀ x H', J.yld i H x H' →
        (fun (v : V) (σ' : L2.St) (H : Hp) (Q : L2.St → Hp → Prop) => ∀ s H0 C cl fp, wpG (X.blk s H0 scope (compEnvC scope cl C X.env) fp) tg v σ' H Q) x (L2.wipe σ (own.map (·.2))) H' fun σ2 H2 => L2.wipe σ2 (own.map (·.2)) = L2.wipe σ (own.map (·.2)) ∧
        (fun (σ' : L2.St) (H : Hp) (Q : Bool → Hp → Prop) => ∀ s H0 C cl fp, wpTs (X.blk s H0 scope (compEnvC scope cl C X.env) fp) ifs σ' H Q) σ2 H2 fun b H3 =>
        if b = true then (fun (σ' : L2.St) (H : Hp) (Q : VK) => ∀ s H0 C cl fp, wpE (X.blk s H0 scope (compEnvC scope cl C X.env) fp) elt σ' H Q) σ2 H3 fun y H4 => ∃ acc, H4 D = some (.lst acc) ∧ acc.length < sizeLine ∧ Nx (upd H4 D (.lst (acc ++ [y]))) else Nx H3) := by
  have updD : ∀ {H2 : Hp} {acc : List V}, hid [D] (upd H2 D (.lst acc)) = hid [D] H2 := fun {H2 acc} => by
    funext a
    unfold hid
    by_cases z : a = D
    · rw [if_pos (by simp [z]), if_pos (by simp [z])]
    · rw [if_neg (by simp [z]), if_neg (by simp [z]), upd_ne z]
  let Wv : Nat → Nat → Hp → Prop := fun i m H2 => m = items.length - i ∧ i ≤ items.length ∧ ∃ acc ad ys, H2 D = some (.lst acc) ∧ Ext H1 (hid [D] H2) ∧ DpAll X.K (hid (D :: O) H2) acc ad ∧ compGo g t f (wipeE env (own.map (·.2))) (items.drop i) = .ok ys ∧ zs = ad ++ ys ∧ ad.length ≤ i
  refine ⟨Wv, ⟨items.length, by simp, Nat.zero_le _, [], [], zs, upd_same, ?_, .nil, by simpa using hv, rfl, Nat.le_refl _⟩, ?_⟩
  · rw [updD]
    refine fun a o ha => .inl ?_
    rw [hid_out (by simpa using ne_of_none ha hD)]
    exact ha
  rintro i m H2 ⟨rfl, hi, acc, ad, ys, hl, ex, da, hc, hzs, hai⟩
  have eO : Ext (hid O H1) (hid (D :: O) H2) := by
    rw [← hid_cons]
    exact ex.hid O
  have rg := r1.grow ex hl
  have exU : Ext H1 H2 := ex.trans Ext.unhid
  by_cases hlt : i < items.length
  · -- a turn
    have hx : items[i]? = some items[i] := List.getElem?_eq_getElem hlt
    obtain ⟨hgo, hyld⟩ := wk i _ (D :: O) H2 hx eO (fun a h => List.mem_cons_of_mem _ h) rg.lv exU
    rw [List.drop_eq_getElem_cons hlt] at hc
    obtain ⟨e1, hq1, hc⟩ := bind_okE hc
    obtain ⟨bt, hq2, hc⟩ := bind_okE hc
    have hg1 := quiet_ok hq1
    have ht1 := quiet_ok hq2
    refine .inr ⟨hgo, fun H' => Wv (i + 1) (items.length - (i + 1)) H', fun H' h' => ⟨_, by omega, h'⟩, fun x H3 hy s H0 C cl fp => ?_⟩
    obtain ⟨e3, d3⟩ := hyld x H3 hy
    have rb := (rg.mono e3).wipe (own.map (·.2))
    refine hg s H0 C cl fp Z _ _ H3 (D :: O) x _ _ rb d3 ?_
    rw [hg1]
    refine fun σ2 r2 l2 k2 => ⟨wipe_back l2 fun j hj => k2 j fun z => hj (his j z), fun s H0 C cl fp => ?_⟩
    refine ht s H0 C cl fp Z e1 σ2 H3 (D :: O) _ r2 (ROk.unquiet ht1 fun H4 e4 => ?_)
    have l4 : H4 D = some (.lst acc) := (e3.trans e4).lst hl
    have ex4 : Ext H1 (hid [D] H4) := ex.trans ((e3.trans e4).hid [D])
    cases bt with
    | false =>
      rw [if_neg Bool.false_ne_true] at hc
      rw [if_neg Bool.false_ne_true]
      exact ⟨rfl, hlt, acc, ad, ys, l4, ex4, ((e3.trans e4).hid (D :: O)).dpa da, hc, hzs, by omega⟩
    | true =>
      rw [if_pos rfl] at hc
      rw [if_pos rfl]
      obtain ⟨y, hq3, hc⟩ := bind_okE hc
      obtain ⟨ys', hc', hc2⟩ := bind_okE hc
      cases hc2
      have hf1 := quiet_ok hq3
      intro s H0 C cl fp
      refine he s H0 C cl fp Z e1 σ2 H4 (D :: O) _ (r2.mono e4) (ROk.unquiet hf1 fun H5 e5 v hv => ?_)
      have e25 := (e3.trans e4).trans e5
      have l5 : H5 D = some (.lst acc) := e25.lst hl
      have ha := dpa_len da
      refine ⟨acc, l5, by omega, rfl, hlt, acc ++ [v], ad ++ [y], ys', upd_same, ?_, ?_, hc', by rw [hzs]; simp, by rw [List.length_append, List.length_singleton]; omega⟩
      · rw [updD]
        exact ex.trans (e25.hid [D])
      · have e6 : hid (D :: O) (upd H5 D (.lst (acc ++ [v]))) = hid (D :: O) H5 := by
          rw [← hid_cons (O := O) (D := D), ← hid_cons (O := O) (D := D), updD]
        rw [e6]
        exact dpa_app ((e25.hid (D :: O)).dpa da) (.cons hv .nil)
  · -- the end
    have e0 : i = items.length := by omega
    subst e0
    rw [List.drop_length] at hc
    cases hc
    rw [List.append_nil] at hzs
    subst hzs
    refine .inl ⟨ws _ (D :: O) H2 rfl eO exU, ?_⟩
    have q2 := q (hid [D] H2) ex D acc (hid_in (by simp)) (by rw [hid_cons]; exact da)
    have e7 : upd (hid [D] H2) D (.lst acc) = H2 := by
      funext b
      by_cases z : b = D
      · rw [z, upd_same, hl]
      · rw [upd_ne z, hid_out (by simpa using z)]
    rw [e7] at q2
    exact q2
theorem pe_comp (hc : X.calm = true) (hN : X.N.Nodup) (ok : BlkOk X.N X.env.scope scope own) (hs : ∀ x, foldedSetIterable iter X.env x = pure x) : PE X (.ListComp elt [⟨tg, iter, ifs, 0⟩] scope pos)
    (tLc (wpI X tg iter) (fun v σ H Q => ∀ s H0 C cl fp, wpG (X.blk s H0 scope (compEnvC scope cl C X.env) fp) tg v σ H Q) (fun σ H Q => ∀ s H0 C cl fp, wpTs (X.blk s H0 scope (compEnvC scope cl C X.env) fp) ifs σ H Q)
      (fun σ H Q => ∀ s H0 C cl fp, wpE (X.blk s H0 scope (compEnvC scope cl C X.env) fp) elt σ H Q) (own.map (·.2))) :=
  pe_lc hc hN pi_wp ok (fun s H C cl fp => ⟨fun pins s' _ _ _ u _ I r h => h s H C cl fp pins s' u I r⟩) (fun s H C cl fp => ⟨fun pins s' _ _ _ I h => h s H C cl fp pins s' I⟩) (fun s H C cl fp => ⟨fun pins s' _ _ _ I h => h s H C cl fp pins s' I⟩) hs
theorem cl_comp (hc : X.calm = true) (hN : X.N.Nodup) (ok : BlkOk X.N X.env.scope scope own) (hi : CI X W tg iter fs)
    (hg : ∀ (s : Shared) (H : Hp) (C : Addr) (cl : List (Str × Addr)) (fp : List Addr), CG (X.blk s H scope (compEnvC scope cl C X.env) fp) tg is g) (his : ∀ j ∈ is, j ∈ own.map (·.2))
    (ht : ∀ (s : Shared) (H : Hp) (C : Addr) (cl : List (Str × Addr)) (fp : List Addr), CTs (X.blk s H scope (compEnvC scope cl C X.env) fp) WN ifs t)
    (he : ∀ (s : Shared) (H : Hp) (C : Addr) (cl : List (Str × Addr)) (fp : List Addr), CE (X.blk s H scope (compEnvC scope cl C X.env) fp) WN elt f) (hs : ∀ x, foldedSetIterable iter X.env x = pure x := by intro _; rfl) :
    CL X W (.ListComp elt [⟨tg, iter, ifs, 0⟩] scope pos) (fun env => fs env >>= fun items => compD g t f (wipeE env (own.map (·.2))) items) := fun Z env σ H O Q r q => by
  refine wp_e (pe_comp hc hN ok hs) ?_
  refine hi Z env σ H O _ r (q.then fun items H1 _ e1 q1 J wd D hD => ?_)
  unfold compD at q1
  by_cases hz : items.length ≤ sizeLine
  · rw [if_pos hz] at q1
    cases hv : compGo g t f (wipeE env (own.map (·.2))) items with
    | ok zs =>
      rw [hv] at q1
      exact comp_core hg his ht he (r.mono e1) (fun i d O1 H2 a b _ l _ => wd.go i d O1 H2 a b l) (fun i O1 H2 a b _ => wd.stop i O1 H2 a b) hz hv q1 D hD
    | er c fl => exact absurd hv (comp_noEr _ _ _ _ _ _ _)
    | no => rw [hv] at q1; exact q1.elim
  · rw [if_neg hz] at q1
    exact q1.elim
/-- over a list of the frame's own -/
theorem cl_compO (i : Nat) (hc : X.calm = true) (hN : X.N.Nodup) (ok : BlkOk X.N X.env.scope scope own) (hi : CIO X tg iter i)
    (hg : ∀ (s : Shared) (H : Hp) (C : Addr) (cl : List (Str × Addr)) (fp : List Addr), CG (X.blk s H scope (compEnvC scope cl C X.env) fp) tg is g) (his : ∀ j ∈ is, j ∈ own.map (·.2))
    (ht : ∀ (s : Shared) (H : Hp) (C : Addr) (cl : List (Str × Addr)) (fp : List Addr), CTs (X.blk s H scope (compEnvC scope cl C X.env) fp) WN ifs t)
    (he : ∀ (s : Shared) (H : Hp) (C : Addr) (cl : List (Str × Addr)) (fp : List Addr), CE (X.blk s H scope (compEnvC scope cl C X.env) fp) WN elt f) (hs : ∀ x, foldedSetIterable iter X.env x = pure x := by intro _; rfl) :
    CL X W (.ListComp elt [⟨tg, iter, ifs, 0⟩] scope pos) (fun env => gvo env i >>= fun items => compD g t f (wipeE env (own.map (·.2))) items) := fun Z env σ H O Q r q => by
  refine wp_e (pe_comp hc hN ok hs) ?_
  rcases gvo_cases env i with ⟨ds, hd⟩ | hd
  · dsimp only at q
    rw [hd] at q
    have q1 : ROk X W σ O (LQ X.K O Q) H (compD g t f (wipeE env (own.map (·.2))) ds) := q
    refine hi Z env σ H O ds _ r (gvo_ok hd) fun p vs h1 h2 h3 h4 D hD => ?_
    unfold compD at q1
    by_cases hz : ds.length ≤ sizeLine
    · rw [if_pos hz] at q1
      cases hv : compGo g t f (wipeE env (own.map (·.2))) ds with
      | ok zs =>
        rw [hv] at q1
        refine comp_core (J := Itl X.K p) hg his ht he r (fun i d O1 H2 a b sub l ex => ?_) (fun i O1 H2 a b ex => ⟨vs, SqL.of (ex.lst h3), by rw [dpa_len h4]; exact Nat.le_of_eq a⟩) hz hv q1 D hD
        obtain ⟨v, p1, p2⟩ := dpa_get h4 a
        refine ⟨⟨vs, v, SqL.of (ex.lst h3), p1⟩, fun y H3 ⟨z1, z2⟩ => ?_⟩
        subst z1
        have := z2 vs (SqL.of (ex.lst h3))
        rw [p1] at this
        cases this
        exact ⟨Ext.refl _, b.dp p2⟩
      | er c fl => exact absurd hv (comp_noEr _ _ _ _ _ _ _)
      | no => rw [hv] at q1; exact q1.elim
    · rw [if_neg hz] at q1
      exact q1.elim
  · dsimp only at q
    rw [hd] at q
    exact q.elim
end
end PD
set_option Elab.async false
set_option linter.all false
set_option maxRecDepth 100000
set_option maxHeartbeats 4000000
namespace PD
open PySem PySem.Spec PyProof.Rows L2

/-! ### statements -/
def SOk [Tbs] (X : Cx) (W : WX) (Z : Zn) (D : Ends) : SO → Prop
  | .nx env => ∀ σ H O, Rep X.K Z env σ H O → D.nx σ H
  | .rt d => ∀ v H, Ext Z.H0 H → Dp X.K (hid Z.Oc H) v d → D.rt v H
  | .bk env => ∀ σ H O, Rep X.K Z env σ H O → D.bk σ H
  | .ct env => ∀ σ H O, Rep X.K Z env σ H O → D.ct σ H
  | .er env c fl => ∀ C od σ H O, Rep X.K Z env σ H O → ExR X.mg X.K (hid O H) c fl C od → W C od σ H
  | .no => False
def CS [Tbs] (X : Cx) (W : WX) (st : Stmt) (f : S) : Prop := ∀ Z env σ H O D, Rep X.K Z env σ H O → SOk X W Z D (f env) → wpS X st D σ H
def CSs [Tbs] (X : Cx) (W : WX) (st : List Stmt) (f : S) : Prop := ∀ Z env σ H O D, Rep X.K Z env σ H O → SOk X W Z D (f env) → wpSs X st D σ H
def ofR {α : Type} (r : RO α) (env : Env) (k : α → SO) : SO := match r with
  | .ok a => k a
  | .er c fl => .er env c fl
  | .no => .no
section
variable {X : Cx} {W : WX} {e a b c : Expr} {st : Stmt} {sts rest : List Stmt} {f fa fb : E} {g h : S} {t : T} {Z : Zn} {env : Env} {σ : Sg} {H : Hp} {O : List Addr} {D : Ends} {pos p : Pos}
variable [Tbs]
theorem ROk.of_so {α : Type} {r : RO α} {k : α → SO} {P : α → Hp → Prop} (rp : Rep X.K Z env σ H O) (q : SOk X W Z D (ofR r env k)) (kk : ∀ d H1, Ext H H1 → SOk X W Z D (k d) → P d H1) : ROk X W σ O P H r := by
  cases r with
  | ok d => exact fun H1 e1 => kk d H1 e1 q
  | er c fl => exact fun C od H' e' x => q C od σ H' O (rp.mono e') x
  | no => exact q
theorem CE.so {k : PyData → SO} {P : VK} (hc : CE X W e f) (r : Rep X.K Z env σ H O) (q : SOk X W Z D (ofR (f env) env k)) (kk : ∀ d v H1, Ext H H1 → Dp X.K (hid O H1) v d → Rep X.K Z env σ H1 O → SOk X W Z D (k d) → P v H1) : wpE X e σ H P :=
  hc Z env σ H O P r (ROk.of_so r q fun d H1 e1 q1 v hv => kk d v H1 e1 hv (r.mono e1) q1)
theorem CB.so {k : PyData → SO} {P : VK} (hc : CB X W e f) (r : Rep X.K Z env σ H O) (q : SOk X W Z D (ofR (f env) env k)) (kk : ∀ d v H1, Ext H H1 → Dp X.K (hid Z.Oc H1) v d → Rep X.K Z env σ H1 O → SOk X W Z D (k d) → P v H1) : wpE X e σ H P :=
  hc Z env σ H O P r (ROk.of_so r q fun d H1 e1 q1 v hv => kk d v H1 e1 hv (r.mono e1) q1)
theorem CL.so {k : List PyData → SO} {P : VK} {fl : Env → RO (List PyData)} (hc : CL X W e fl) (r : Rep X.K Z env σ H O) (q : SOk X W Z D (ofR (fl env) env k))
    (kk : ∀ ds p vs H1, Ext H H1 → H1 p = none → DpAll X.K (hid O H1) vs ds → Rep X.K Z env σ H1 O → SOk X W Z D (k ds) → P (.ref p) (upd H1 p (.lst vs))) : wpE X e σ H P :=
  hc Z env σ H O P r (ROk.of_so r q fun ds H1 e1 q1 p vs hp hd => kk ds p vs H1 e1 hp hd (r.mono e1) q1)
theorem CT.so {k : Bool → SO} {P : Bool → Hp → Prop} (hc : CT X W e t) (r : Rep X.K Z env σ H O) (q : SOk X W Z D (ofR (t env) env k)) (kk : ∀ d H1, Ext H H1 → Rep X.K Z env σ H1 O → SOk X W Z D (k d) → P d H1) : wpT X e σ H P :=
  hc Z env σ H O P r (ROk.of_so r q fun d H1 e1 q1 => kk d H1 e1 (r.mono e1) q1)

/-! ### blocks -/
def sNx : S := fun env => .nx env
def sSeq (g h : S) : S := fun env => match g env with
  | .nx e => h e
  | r => r
theorem css_nil : CSs X W [] sNx := fun Z env σ H O D r q => wp_ss pss_nil (q σ H O r)
theorem css_cons (h1 : CS X W st g) (h2 : CSs X W rest h) : CSs X W (st :: rest) (sSeq g h) := fun Z env σ H O D r q => by
  refine wp_ss (pss_cons ps_wp pss_wp) ?_
  have q' : SOk X W Z D (match g env with | .nx e => h e | r => r) := q
  refine h1 Z env σ H O _ r ?_
  cases hg : g env with
  | nx e => rw [hg] at q'; exact fun σ1 H1 O1 r1 => h2 Z e σ1 H1 O1 D r1 q'
  | rt d => rw [hg] at q'; exact q'
  | bk d => rw [hg] at q'; exact q'
  | ct d => rw [hg] at q'; exact q'
  | er d c fl => rw [hg] at q'; exact q'
  | no => rw [hg] at q'; exact q'
theorem css_one (h1 : CS X W st g) : CSs X W [st] g := fun Z env σ H O D r q => wp_ss (pss_one ps_wp) (h1 Z env σ H O D r q)
theorem cs_pass : CS X W (.Pass pos) sNx := fun Z env σ H O D r q => wp_s ps_pass (q σ H O r)
theorem cs_break : CS X W (.Break pos) (fun env => .bk env) := fun Z env σ H O D r q => wp_s ps_break (q σ H O r)
theorem cs_continue : CS X W (.Continue pos) (fun env => .ct env) := fun Z env σ H O D r q => wp_s ps_continue (q σ H O r)
theorem cs_doc {x j pos'} : CS X W (.Expr (.Constant (.str x) j pos) pos') sNx := fun Z env σ H O D r q => wp_s ps_doc (q σ H O r)
/-- code that is never come to -/
theorem css_never : CSs X W sts (fun _ => .no) := fun Z env σ H O D r q => q.elim

/-! ### stores -/
def sSet (i : Nat) (f : E) : S := fun env => ofR (f env) env fun d => .nx (env.set i (some (.fz d)))
def sSetL (i : Nat) (f : Env → RO (List PyData)) : S := fun env => ofR (f env) env fun ds => .nx (env.set i (some (.own ds)))
theorem cs_set [Tbs] {i : Nat} {x : Str} {pos' : Pos} (hN : X.N.Nodup) (hi : X.N[i]? = some x) (hx : Loc X.env.scope x) (he : CE X W e f) (hs : swapsWith e (some (.Name x pos')) pos.line X.env = pure false := by rfl) (hf : X.fn x = true ∨ X.env.scope.names.lookup x = some .local := by first | exact .inl rfl | exact .inr rfl | assumption) :
    CS X W (.Assign [.Name x pos'] e pos) (sSet i f) := fun Z env σ H O D r q => by
  refine wp_s (ps_set hN hi hx pe_wp hs hf) ?_
  exact he.so r q fun d v H1 e1 d1 r1 q1 => q1 _ _ _ (r1.setFz i d1)
theorem cs_setL [Tbs] {i : Nat} {x : Str} {pos' : Pos} {fl : Env → RO (List PyData)} (hN : X.N.Nodup) (hi : X.N[i]? = some x) (hx : Loc X.env.scope x) (he : CL X W e fl) (hs : swapsWith e (some (.Name x pos')) pos.line X.env = pure false := by rfl) (hf : X.fn x = true ∨ X.env.scope.names.lookup x = some .local := by first | exact .inl rfl | exact .inr rfl | assumption) :
    CS X W (.Assign [.Name x pos'] e pos) (sSetL i fl) := fun Z env σ H O D r q => by
  refine wp_s (ps_set hN hi hx pe_wp hs hf) ?_
  exact he.so r q fun ds p vs H1 e1 hp d1 r1 q1 => q1 _ _ _ (r1.setOwn i hp d1)
section
variable {tg iter elt : Expr} {ifs : List Expr} {scope : Scope} {own : List (Str × Nat)} {fs : Env → RO (List PyData)} {gg : G} {is : List Nat} {tt : T}
theorem ps_comp {i : Nat} {y : Str} {py spos : Pos} (hc : X.calm = true) (hN : X.N.Nodup) (hy : X.N[i]? = some y) (hyl : X.env.scope.names.lookup y = some .local)
    (hsw : swapsWith (.ListComp elt [⟨tg, iter, ifs, 0⟩] scope pos) (some (.Name y py)) spos.line X.env = pure true) (ok : BlkOk X.N X.env.scope scope own) (hs : ∀ x, foldedSetIterable iter X.env x = pure x) : PS X (.Assign [.Name y py] (.ListComp elt [⟨tg, iter, ifs, 0⟩] scope pos) spos)
    (tAsg (tLc (wpI X tg iter) (fun v σ H Q => ∀ s H0 C cl fp, wpG (X.blk s H0 scope (compEnvC scope cl C X.env) fp) tg v σ H Q) (fun σ H Q => ∀ s H0 C cl fp, wpTs (X.blk s H0 scope (compEnvC scope cl C X.env) fp) ifs σ H Q)
      (fun σ H Q => ∀ s H0 C cl fp, wpE (X.blk s H0 scope (compEnvC scope cl C X.env) fp) elt σ H Q) (own.map (·.2))) (gName i)) :=
  ps_setLc hc hN hy hyl hsw pi_wp ok (fun s H C cl fp => ⟨fun pins s' _ _ _ u _ I r h => h s H C cl fp pins s' u I r⟩) (fun s H C cl fp => ⟨fun pins s' _ _ _ I h => h s H C cl fp pins s' I⟩) (fun s H C cl fp => ⟨fun pins s' _ _ _ I h => h s H C cl fp pins s' I⟩) hs
/-- the reading that cl_comp shows, as it stands -/
theorem comp_reads (hc : X.calm = true) (hN : X.N.Nodup) (ok : BlkOk X.N X.env.scope scope own) (hi : CI X W tg iter fs)
    (hg : ∀ (s : Shared) (H : Hp) (C : Addr) (cl : List (Str × Addr)) (fp : List Addr), CG (X.blk s H scope (compEnvC scope cl C X.env) fp) tg is gg) (his : ∀ j ∈ is, j ∈ own.map (·.2))
    (ht : ∀ (s : Shared) (H : Hp) (C : Addr) (cl : List (Str × Addr)) (fp : List Addr), CTs (X.blk s H scope (compEnvC scope cl C X.env) fp) WN ifs tt)
    (he : ∀ (s : Shared) (H : Hp) (C : Addr) (cl : List (Str × Addr)) (fp : List Addr), CE (X.blk s H scope (compEnvC scope cl C X.env) fp) WN elt f) {Q : VK}
    (r : Rep X.K Z env σ H O) (q : ROk X W σ O (LQ X.K O Q) H (fs env >>= fun items => compD gg tt f (wipeE env (own.map (·.2))) items)) :
    tLc (wpI X tg iter) (fun v σ H Q => ∀ s H0 C cl fp, wpG (X.blk s H0 scope (compEnvC scope cl C X.env) fp) tg v σ H Q) (fun σ H Q => ∀ s H0 C cl fp, wpTs (X.blk s H0 scope (compEnvC scope cl C X.env) fp) ifs σ H Q)
      (fun σ H Q => ∀ s H0 C cl fp, wpE (X.blk s H0 scope (compEnvC scope cl C X.env) fp) elt σ H Q) (own.map (·.2)) σ H Q := by
  refine hi Z env σ H O _ r (q.then fun items H1 _ e1 q1 J wd D hD => ?_)
  unfold compD at q1
  by_cases hz : items.length ≤ sizeLine
  · rw [if_pos hz] at q1
    cases hv : compGo gg tt f (wipeE env (own.map (·.2))) items with
    | ok zs =>
      rw [hv] at q1
      exact comp_core hg his ht he (r.mono e1) (fun i d O1 H2 a b _ l _ => wd.go i d O1 H2 a b l) (fun i O1 H2 a b _ => wd.stop i O1 H2 a b) hz hv q1 D hD
    | er c fl => exact absurd hv (comp_noEr _ _ _ _ _ _ _)
    | no => rw [hv] at q1; exact q1.elim
  · rw [if_neg hz] at q1
    exact q1.elim
theorem cs_setC [Tbs] {i : Nat} {y : Str} {py spos : Pos} (hc : X.calm = true) (hN : X.N.Nodup) (hy : X.N[i]? = some y) (hyl : X.env.scope.names.lookup y = some .local)
    (hsw : swapsWith (.ListComp elt [⟨tg, iter, ifs, 0⟩] scope pos) (some (.Name y py)) spos.line X.env = pure true) (ok : BlkOk X.N X.env.scope scope own) (hi : CI X W tg iter fs)
    (hg : ∀ (s : Shared) (H : Hp) (C : Addr) (cl : List (Str × Addr)) (fp : List Addr), CG (X.blk s H scope (compEnvC scope cl C X.env) fp) tg is gg) (his : ∀ j ∈ is, j ∈ own.map (·.2))
    (ht : ∀ (s : Shared) (H : Hp) (C : Addr) (cl : List (Str × Addr)) (fp : List Addr), CTs (X.blk s H scope (compEnvC scope cl C X.env) fp) WN ifs tt)
    (he : ∀ (s : Shared) (H : Hp) (C : Addr) (cl : List (Str × Addr)) (fp : List Addr), CE (X.blk s H scope (compEnvC scope cl C X.env) fp) WN elt f) (hs : ∀ x, foldedSetIterable iter X.env x = pure x := by intro _; rfl) :
    CS X W (.Assign [.Name y py] (.ListComp elt [⟨tg, iter, ifs, 0⟩] scope pos) spos) (sSetL i (fun env => fs env >>= fun items => compD gg tt f (wipeE env (own.map (·.2))) items)) := fun Z env σ H O D r q => by
  refine wp_s (ps_comp hc hN hy hyl hsw ok hs) ?_
  exact comp_reads hc hN ok hi hg his ht he r (ROk.of_so r q fun ds H1 e1 q1 p vs hp hd => q1 _ _ _ ((r.mono e1).setOwn i hp hd))
/-- the same, the list frozen at once -/
theorem cs_setCF [Tbs] {i : Nat} {y : Str} {py spos : Pos} (hc : X.calm = true) (hN : X.N.Nodup) (hy : X.N[i]? = some y) (hyl : X.env.scope.names.lookup y = some .local)
    (hsw : swapsWith (.ListComp elt [⟨tg, iter, ifs, 0⟩] scope pos) (some (.Name y py)) spos.line X.env = pure true) (ok : BlkOk X.N X.env.scope scope own) (hi : CI X W tg iter fs)
    (hg : ∀ (s : Shared) (H : Hp) (C : Addr) (cl : List (Str × Addr)) (fp : List Addr), CG (X.blk s H scope (compEnvC scope cl C X.env) fp) tg is gg) (his : ∀ j ∈ is, j ∈ own.map (·.2))
    (ht : ∀ (s : Shared) (H : Hp) (C : Addr) (cl : List (Str × Addr)) (fp : List Addr), CTs (X.blk s H scope (compEnvC scope cl C X.env) fp) WN ifs tt)
    (he : ∀ (s : Shared) (H : Hp) (C : Addr) (cl : List (Str × Addr)) (fp : List Addr), CE (X.blk s H scope (compEnvC scope cl C X.env) fp) WN elt f) (hs : ∀ x, foldedSetIterable iter X.env x = pure x := by intro _; rfl) :
    CS X W (.Assign [.Name y py] (.ListComp elt [⟨tg, iter, ifs, 0⟩] scope pos) spos) (sSet i (fun env => (fs env >>= fun items => compD gg tt f (wipeE env (own.map (·.2))) items) >>= fun ds => .ok (.list ds))) := fun Z env σ H O D r q => by
  refine wp_s (ps_comp hc hN hy hyl hsw ok hs) ?_
  have q' : ROk X W σ O (VQ X.K O fun v H1 => D.nx (σ.set i (some v)) H1) H ((fs env >>= fun items => compD gg tt f (wipeE env (own.map (·.2))) items) >>= fun ds => .ok (.list ds)) :=
    ROk.of_so r q fun d H1 e1 q1 v hv => q1 _ _ _ ((r.mono e1).setFz i hv)
  exact comp_reads hc hN ok hi hg his ht he r (q'.then fun ds H1 _ e1 q1 p vs hp hd => q1 _ (Ext.new hp) _ (dp_newL (r.mono e1).lv hp hd))
end
/-- a, b = e -/
def sAsg (f : E) (gg : G) : S := fun env => ofR (f env) env fun d => match gg d env with
  | .ok e => .nx e
  | _ => .no
theorem cs_asg [Tbs] {tg : Expr} {is : List Nat} {gg : G} (he : CE X W e f) (hg : CG X tg is gg) (hs : swapsWithSole [tg] e pos.line X.env = pure false := by rfl) (hw : swappedStores [tg] e X.env = pure none := by rfl)
    (h1 : (assignEach [tg] X.env).map (·.2) = [assign tg X.env] := by rfl) : CS X W (.Assign [tg] e pos) (sAsg f gg) := fun Z env σ H O D r q => by
  refine wp_s (ps_asg pe_wp pg_wp hs hw h1) ?_
  refine he.so r q fun d v H1 e1 d1 r1 q1 => ?_
  refine hg Z env σ H1 O v d _ r1 d1 ?_
  cases hgd : gg d env with
  | ok e2 => rw [hgd] at q1; exact fun σ' r2 _ _ => q1 _ _ _ r2
  | er _ _ => rw [hgd] at q1; exact q1
  | no => rw [hgd] at q1; exact q1
/-- x += e of ints -/
def dAugAdd : PyData → PyData → Option PyData
  | .int i, .int j => some (.int (i + j))
  | _, _ => none
def sAug (i : Nat) (f : E) : S := fun env => ofR (gv env i) env fun x => ofR (f env) env fun y => ofR (ofO (dAugAdd x y)) env fun d => .nx (env.set i (some (.fz d)))
theorem cs_aug {i : Nat} {x : Str} {pos' : Pos} (hN : X.N.Nodup) (hi : X.N[i]? = some x) (hx : Loc X.env.scope x) (he : CE X W e f) (hf : X.fn x = true ∨ X.env.scope.names.lookup x = some .local := by first | exact .inl rfl | exact .inr rfl | assumption) :
    CS X W (.AugAssign (.Name x pos') .Add e pos) (sAug i f) := fun Z env σ H O D r q => by
  refine wp_s (ps_aug hN hi hx pe_wp ip_add hf) ?_
  rcases gv_cases env i with ⟨dx, hv⟩ | hv
  · obtain ⟨v, h1, h2⟩ := r.sl i _ (gv_ok hv)
    unfold sAug at q
    rw [hv] at q
    refine ⟨v, h1, ?_⟩
    refine he.so r q fun dy u H1 e1 d1 r1 q1 => ?_
    cases dx with
    | int i' =>
      cases dp_int h2
      cases dy with
      | int j =>
        cases dp_int d1
        exact ⟨i', j, rfl, rfl, q1 _ _ _ (r1.setFz i (.int _))⟩
      | _ => exact q1.elim
    | _ => exact q1.elim
  · unfold sAug at q
    rw [hv] at q
    exact q.elim

/-! ### return, if, an expression alone -/
def sRet (f : E) : S := fun env => ofR (f env) env .rt
def sRetN : S := fun _ => .rt .none
def sDrop (f : E) : S := fun env => ofR (f env) env fun _ => .nx env
def sIf (t : T) (g h : S) : S := fun env => ofR (t env) env fun b => if b = true then g env else h env
theorem cs_ret [Tbs] (he : CE X W e f) : CS X W (.Return (some e) pos) (sRet f) := fun Z env σ H O D r q => by
  refine wp_s (ps_ret pe_wp) ?_
  exact he.so r q fun d v H1 e1 d1 r1 q1 => q1 v H1 r1.whole ((Ext.hid_sub r1.sub).dp d1)
theorem cs_retB [Tbs] (he : CB X W e f) : CS X W (.Return (some e) pos) (sRet f) := fun Z env σ H O D r q => by
  refine wp_s (ps_ret pe_wp) ?_
  exact he.so r q fun d v H1 e1 d1 r1 q1 => q1 v H1 r1.whole d1
theorem cs_retN : CS X W (.Return none pos) sRetN := fun Z env σ H O D r q => wp_s ps_retN (q _ H r.whole .non)
theorem cs_expr [Tbs] (he : CE X W e f) (hs : swapsWith e none pos.line X.env = pure false := by rfl) : CS X W (.Expr e pos) (sDrop f) := fun Z env σ H O D r q => by
  refine wp_s (ps_expr pe_wp hs) ?_
  exact he.so r q fun d v H1 e1 d1 r1 q1 => q1 _ _ _ r1
theorem cs_if [Tbs] {s1 s2 : List Stmt} (hc : CT X W c t) (h1 : CSs X W s1 g) (h2 : CSs X W s2 h) : CS X W (.If c s1 s2 pos) (sIf t g h) := fun Z env σ H O D r q => by
  refine wp_s (ps_if pt_wp pss_wp pss_wp) ?_
  refine hc.so r q fun d H1 e1 r1 q1 => ?_
  cases d with
  | true => exact h1 Z env σ H1 O D r1 q1
  | false => exact h2 Z env σ H1 O D r1 q1

/-! ### loops -/
def forGo (gg : G) (body : S) : List PyData → Env → SO
  | [], env => .nx env
  | x :: xs, env => match gg x env with
    | .ok e1 => match body e1 with
      | .nx e => forGo gg body xs e
      | .ct e => forGo gg body xs e
      | .bk e => .nx e
      | r => r
    | _ => .no
def sFor (fi : Env → RO (List PyData)) (gg : G) (body : S) : S := fun env => ofR (fi env) env fun items => forGo gg body items env
/-- the frozen things of a state, as an entry of their own -/
def zn (Z : Zn) (H : Hp) (O : List Addr) : Zn := ⟨fun a => if a ∈ O ∧ a ∉ Z.Oc then none else H a, Z.Oc⟩
theorem zn_hid (r : Rep X.K Z env σ H O) : hid (zn Z H O).Oc (zn Z H O).H0 = hid O H := by
  funext a
  show hid Z.Oc (fun a => if a ∈ O ∧ a ∉ Z.Oc then none else H a) a = hid O H a
  unfold hid
  by_cases h1 : a ∈ Z.Oc
  · rw [if_pos h1, if_pos (r.sub a h1)]
  · rw [if_neg h1]
    dsimp only
    by_cases h2 : a ∈ O
    · rw [if_pos (show a ∈ O ∧ a ∉ Z.Oc from ⟨h2, h1⟩), if_pos h2]
    · rw [if_neg (show ¬ (a ∈ O ∧ a ∉ Z.Oc) from fun z => h2 z.1), if_neg h2]
theorem zn_oc {a : Addr} (h : a ∈ Z.Oc) : (zn Z H O).H0 a = H a := if_neg fun z => z.2 h
theorem zn_ext (r : Rep X.K Z env σ H O) : Ext Z.H0 (zn Z H O).H0 := fun a o h => by
  by_cases ha : a ∈ Z.Oc
  · exact .inl (by rw [zn_oc ha, r.kp a ha]; exact h)
  · have h1 : hid Z.Oc Z.H0 a = some o := by rw [hid_out ha]; exact h
    have h2 := r.ex a o h1
    rw [← zn_hid r] at h2
    rcases h2 with h2 | ⟨ps, more, e1, h2, h3⟩
    · exact .inl (hid_some h2).2
    · exact .inr ⟨ps, more, e1, (hid_some h2).2, h3⟩
theorem Rep.zone (r : Rep X.K Z env σ H O) : Rep X.K (zn Z H O) env σ H O :=
  ⟨by rw [zn_hid r]; exact Ext.refl _, r.sub, fun a h => (zn_oc h).symm, r.len, r.sl, r.nd, r.lv, r.tb⟩
theorem Rep.unzone {env' : Env} {σ' : Sg} {H' : Hp} {O' : List Addr} (r0 : Rep X.K Z env σ H O) (r : Rep X.K (zn Z H O) env' σ' H' O') : Rep X.K Z env' σ' H' O' :=
  ⟨r0.ex.trans (by have := r.ex; rw [zn_hid r0] at this; exact this), r.sub, fun a h => by
    have h2 : H' a = (zn Z H O).H0 a := r.kp a h
    rw [h2, zn_oc h]
    exact r0.kp a h, r.len, r.sl, r.nd, r.lv, r.tb⟩
theorem Rep.frz {env' : Env} {σ' : Sg} {H' : Hp} {O' : List Addr} (r0 : Rep X.K Z env σ H O) (r : Rep X.K (zn Z H O) env' σ' H' O') : Ext (hid O H) (hid O' H') := by
  have := r.ex
  rw [zn_hid r0] at this
  exact this
/-- an outcome wanted of the whole, of a part that begins at a state -/
theorem SOk.zone (r0 : Rep X.K Z env σ H O) : ∀ {r : SO}, SOk X W Z D r → SOk X W (zn Z H O) D r
  | .nx _, h => fun σ' H' O' r => h σ' H' O' (r0.unzone r)
  | .rt _, h => fun v H' e d => h v H' ((zn_ext r0).trans e) d
  | .bk _, h => fun σ' H' O' r => h σ' H' O' (r0.unzone r)
  | .ct _, h => fun σ' H' O' r => h σ' H' O' (r0.unzone r)
  | .er _ _ _, h => fun C od σ' H' O' r x => h C od σ' H' O' (r0.unzone r) x
  | .no, h => h
theorem for_core {tg : Expr} {is : List Nat} {gg : G} {J : It} {items : List PyData} (hg : CG X tg is gg) (hb : CSs X W sts g)
    (r0 : Rep X.K Z env σ H O) (wd : WalkD X.K O H J items) (q : SOk X W Z D (forGo gg g items env)) :
    ∃ Wv : Nat → Nat → L2.St → Hp → Prop, (∃ m, Wv 0 m σ H) ∧ ∀ i m σ H, Wv i m σ H →
      (J.stop i H ∧ D.nx σ H) ∨ (J.go i H ∧ ∃ N : L2.St → Hp → Prop, (∀ σ' H', N σ' H' → ∃ m', m' < m ∧ Wv (i + 1) m' σ' H') ∧ ∀ x H', J.yld i H x H' → wpG X tg x σ H' fun σ2 H2 => wpSs X sts { D with nx := N, ct := N, bk := D.nx } σ2 H2) := by
  have q0 := q.zone r0
  let Wv : Nat → Nat → L2.St → Hp → Prop := fun i m σ' H' => m = items.length - i ∧ i ≤ items.length ∧ ∃ env' O', Rep X.K (zn Z H O) env' σ' H' O' ∧ SOk X W (zn Z H O) D (forGo gg g (items.drop i) env')
  refine ⟨Wv, ⟨items.length, by simp, Nat.zero_le _, env, O, r0.zone, by simpa using q0⟩, ?_⟩
  rintro i m σ1 H1 ⟨rfl, hi, env1, O1, r1, q1⟩
  have ex1 := r0.frz r1
  by_cases hlt : i < items.length
  · have hx : items[i]? = some items[i] := List.getElem?_eq_getElem hlt
    obtain ⟨hgo, hyld⟩ := wd.go i _ O1 H1 hx ex1 r1.lv
    refine .inr ⟨hgo, fun σ' H' => Wv (i + 1) (items.length - (i + 1)) σ' H', fun σ' H' h' => ⟨_, by omega, h'⟩, fun x H2 hy => ?_⟩
    obtain ⟨e2, d2⟩ := hyld x H2 hy
    rw [List.drop_eq_getElem_cons hlt] at q1
    refine hg (zn Z H O) env1 σ1 H2 O1 x _ _ (r1.mono e2) d2 ?_
    have q2 : SOk X W (zn Z H O) D (match gg items[i] env1 with | .ok e1 => (match g e1 with | .nx e => forGo gg g (items.drop (i + 1)) e | .ct e => forGo gg g (items.drop (i + 1)) e | .bk e => .nx e | r => r) | _ => .no) := q1
    cases hgd : gg items[i] env1 with
    | ok e1 =>
      rw [hgd] at q2
      refine fun σ2 r2 _ _ => hb (zn Z H O) e1 σ2 H2 O1 _ r2 ?_
      have q3 : SOk X W (zn Z H O) D (match g e1 with | .nx e => forGo gg g (items.drop (i + 1)) e | .ct e => forGo gg g (items.drop (i + 1)) e | .bk e => .nx e | r => r) := q2
      cases hge : g e1 with
      | nx e => rw [hge] at q3; exact fun σ3 H3 O3 r3 => ⟨rfl, hlt, e, O3, r3, q3⟩
      | ct e => rw [hge] at q3; exact fun σ3 H3 O3 r3 => ⟨rfl, hlt, e, O3, r3, q3⟩
      | bk e => rw [hge] at q3; exact q3
      | rt d => rw [hge] at q3; exact q3
      | er d c fl => rw [hge] at q3; exact q3
      | no => rw [hge] at q3; exact q3
    | er _ _ => rw [hgd] at q2; exact q2.elim
    | no => rw [hgd] at q2; exact q2.elim
  · have e0 : i = items.length := by omega
    subst e0
    rw [List.drop_length] at q1
    exact .inl ⟨wd.stop _ O1 H1 rfl ex1, q1 σ1 H1 O1 r1⟩
theorem cs_for {tg iter : Expr} {is : List Nat} {gg : G} {fi : Env → RO (List PyData)} (hp : PassesOwn (model X.prog X.w) X.A X.env X.xe) (hc : X.calm = true) (hi : CI X W tg iter fi) (hg : CG X tg is gg) (hb : CSs X W sts g)
    (hs : ∀ x, foldedSetIterable iter X.env x = pure x := by intro _; rfl) : CS X W (.For tg iter sts [] pos) (sFor fi gg g) := fun Z env σ H O D r q => by
  refine wp_s (ps_for hp hc pi_wp pg_wp pss_wp hs) ?_
  exact hi Z env σ H O _ r (ROk.of_so r q fun items H1 e1 q1 J wd => for_core hg hb (r.mono e1) wd q1)
def whileGo (t : T) (body : S) : Nat → Env → SO
  | 0, _ => .no
  | n + 1, env => ofR (t env) env fun b => if b = true then (match body env with
      | .nx e => whileGo t body n e
      | .ct e => whileGo t body n e
      | .bk e => .nx e
      | r => r) else .nx env
theorem cs_while [Tbs] (n : Nat) (hp : PassesOwn (model X.prog X.w) X.A X.env X.xe) (hc : CT X W c t) (hb : CSs X W sts g) : CS X W (.While c sts [] pos) (fun env => whileGo t g n env) := fun Z env σ H O D r q => by
  refine wp_s (ps_while hp pt_wp pss_wp) ?_
  refine ⟨fun m σ' H' => ∃ env' O', Rep X.K Z env' σ' H' O' ∧ SOk X W Z D (whileGo t g m env'), ⟨n, env, O, r, q⟩, ?_⟩
  rintro m σ1 H1 ⟨env1, O1, r1, q1⟩
  cases m with
  | zero => exact q1.elim
  | succ m =>
    refine hc.so r1 q1 fun d H2 e2 r2 q2 => ?_
    cases d with
    | false =>
      rw [if_neg Bool.false_ne_true] at q2 ⊢
      exact q2 _ _ _ r2
    | true =>
      rw [if_pos rfl] at q2 ⊢
      refine ⟨fun σ' H' => ∃ env' O', Rep X.K Z env' σ' H' O' ∧ SOk X W Z D (whileGo t g m env'), fun σ' H' h' => ⟨m, Nat.lt_succ_self _, h'⟩, hb Z env1 σ1 H2 O1 _ r2 ?_⟩
      cases hge : g env1 with
      | nx e => rw [hge] at q2; exact fun σ3 H3 O3 r3 => ⟨e, O3, r3, q2⟩
      | ct e => rw [hge] at q2; exact fun σ3 H3 O3 r3 => ⟨e, O3, r3, q2⟩
      | bk e => rw [hge] at q2; exact q2
      | rt d => rw [hge] at q2; exact q2
      | er d c fl => rw [hge] at q2; exact q2
      | no => rw [hge] at q2; exact q2

/-! ### own lists change -/
def sApp (i : Nat) (f : E) : S := fun env => ofR (gvo env i) env fun xs => ofR (f env) env fun d => if xs.length < sizeLine then .nx (env.set i (some (.own (xs ++ [d])))) else .no
theorem cs_app {i : Nat} {x : Str} {px apos cpos : Pos} (hN : X.N[i]? = some x) (hv : Vis X.env.scope x) (hd : (x == ("__debug__" : Str)) = false) (hcd : (x == ("__classdict__" : Str)) = false) (he : CE X W e f)
    (hbase : attributeBase (.Name x px) "append" X.env (eval (.Name x px) X.env) = eval (.Name x px) X.env := by rfl)
    (hfew : ((backTo cpos (starEach [e] X.env)).all (fun x => !x.1) && (backToKw cpos (keywordEach [] X.env)).all (fun x => x.1.isSome) && decide (([e] : List Expr).length + ([] : List Keyword).length + (if ([] : List Keyword).isEmpty then 0 else 1) < 30)) = true := by rfl)
    (hline : (apos.endLine == cpos.line) = true := by rfl) (hs : starEach [e] X.env = (false, eval e X.env) :: starEach [] X.env := by rfl) (hplain : (backTo cpos (starEach [] X.env)).any (·.1) = false := by rfl)
    (hsw : swapsWith (.Call (.Attribute (.Name x px) "append" apos) [e] [] cpos) none pos.line X.env = pure false := by rfl) :
    CS X W (.Expr (.Call (.Attribute (.Name x px) "append" apos) [e] [] cpos) pos) (sApp i f) := fun Z env σ H O D r q => by
  refine wp_s (ps_expr (pe_bm PySem.F.plainAttrs_list PySem.F.slot_list_append PySem.F.type_list_append mt_append pe_wp (pa_cons pe_wp pa_nil hs) hbase hfew hline hs hplain) hsw) ?_
  unfold sApp at q
  rcases gvo_cases env i with ⟨ds, hi⟩ | hi
  · rw [hi] at q
    refine own_read r (gvo_ok hi) hN hv hd hcd fun p vs s1 s2 s3 s4 s5 => ⟨.inl ⟨rfl, vs, SqL.of s4⟩, ?_⟩
    refine he.so r q fun d v H1 e1 d1 r1 q1 => ?_
    by_cases hz : ds.length < sizeLine
    · rw [if_pos hz] at q1
      exact ⟨p, vs, v, rfl, rfl, e1.lst s4, by rw [dpa_len s5]; exact hz, q1 _ _ _ (r1.mutOwn (gvo_ok hi) s1 (dpa_app ((e1.hid O).dpa s5) (.cons d1 .nil)))⟩
    · rw [if_neg hz] at q1
      exact q1.elim
  · rw [hi] at q
    exact q.elim
/-- x[i] = e -/
def setD (xs : List PyData) (k : Int) (d : PyData) : Option (List PyData) := (ixN xs.length k).map fun j => xs.set j d
def sSetI (i : Nat) (fk f : E) : S := fun env => ofR (f env) env fun d => ofR (gvo env i) env fun xs => ofR (fk env) env fun k => match k with
  | .int k => (match setD xs k d with
    | some ys => .nx (env.set i (some (.own ys)))
    | none => .no)
  | _ => .no
theorem cs_setI [Tbs] {i : Nat} {x : Str} {px : Pos} {b : Expr} (hN : X.N[i]? = some x) (hv : Vis X.env.scope x) (hd : (x == ("__debug__" : Str)) = false) (hcd : (x == ("__classdict__" : Str)) = false) (he : CE X W e f) (hb : CE X W b fb)
    (ha : ∀ v, assign (.Subscript (.Name x px) b p) X.env v = (do
      let ov ← holding [v] (eval (.Name x px) X.env)
      let iv ← holding [v, ov] (eval b X.env)
      standAt p
      holding [v, ov, iv] (setItem ov iv v)
      release [v, ov, iv] []) := by intro _; rfl)
    (hs : swapsWithSole [.Subscript (.Name x px) b p] e pos.line X.env = pure false := by rfl) (hw : swappedStores [.Subscript (.Name x px) b p] e X.env = pure none := by rfl)
    (h1 : (assignEach [.Subscript (.Name x px) b p] X.env).map (·.2) = [assign (.Subscript (.Name x px) b p) X.env] := by rfl) : CS X W (.Assign [.Subscript (.Name x px) b p] e pos) (sSetI i fb f) := fun Z env σ H O D r q => by
  refine wp_s (ps_asg pe_wp (pg_sub pe_wp pe_wp set_list ha) hs hw h1) ?_
  refine he.so r q fun d v H1 e1 d1 r1 q1 => ?_
  rcases gvo_cases env i with ⟨ds, hi⟩ | hi
  · rw [hi] at q1
    refine own_read r1 (gvo_ok hi) hN hv hd hcd fun p vs s1 s2 s3 s4 s5 => ?_
    refine hb.so r1 q1 fun k kv H2 e2 d2 r2 q2 => ?_
    cases k with
    | int k =>
      cases dp_int d2
      unfold setD at q2
      dsimp only at q2
      cases hj : ixN ds.length k with
      | none => rw [hj] at q2; exact q2.elim
      | some j =>
        rw [hj] at q2
        exact ⟨p, vs, k, j, rfl, rfl, e2.lst s4, by rw [dpa_len s5]; exact hj, q2 _ _ _ (r2.mutOwn (gvo_ok hi) s1 (dpa_set ((e2.hid O).dp d1) j ((e2.hid O).dpa s5)))⟩
    | _ => exact q2.elim
  · rw [hi] at q1
    exact q1.elim
/-- from here on the own list of slot i is a value like any other -/
def frz (i : Nat) : S → S := fun s env => match env[i]? with
  | some (some (.own ds)) => s (env.set i (some (.fz (.list ds))))
  | _ => .no
theorem cs_frz (i : Nat) (h : CS X W st g) : CS X W st (frz i g) := fun Z env σ H O D r q => by
  unfold frz at q
  split at q
  · rename_i ds he
    obtain ⟨O', r', _⟩ := r.freeze he
    exact h Z _ σ H O' D r' q
  · exact q.elim
end
end PD
set_option Elab.async false
set_option linter.all false
set_option maxRecDepth 100000
set_option maxHeartbeats 4000000
namespace PD
open PySem PySem.Spec PyProof.Rows L2

/-! ### defs -/
/-- a def's promise, by a function of its arguments' data -/
def spD [Tbs] (K : PySem.W.Frag) (mg : Str → Option Value) (n : Nat) (F : List PyData → RO PyData) : Sp := fun vs H Q E => vs.length = n ∧ (∀ P ∈ Tbs.l, GxR.TabG H P) ∧ ∃ ds Oc, Lv Oc H ∧ DpAll K (hid Oc H) vs ds ∧ (match F ds with
  | .ok d => ∀ v H', Ext H H' → Dp K (hid Oc H') v d → Q v H'
  | .er c fl => ∀ C od H', Ext H H' → ExR mg K (hid Oc H') c fl C od → E C od H'
  | .no => False)
def startE (m : Nat) (ds : List PyData) : Env := ds.map (fun d => some (.fz d)) ++ List.replicate (m - ds.length) none
def runD (m : Nat) (B : S) : List PyData → RO PyData := fun ds => match B (startE m ds) with
  | .nx _ => .ok .none
  | .rt d => .ok d
  | .er _ c fl => .er c fl
  | _ => .no
theorem start_rep [Tbs] {K : PySem.W.Frag} {H : Hp} {Oc : List Addr} {vs : List V} {ds : List PyData} {N : List Str} (l : Lv Oc H) (tb : ∀ P ∈ Tbs.l, GxR.TabG H P) (h : DpAll K (hid Oc H) vs ds) : Rep K ⟨H, Oc⟩ (startE N.length ds) (L2.start N vs) H Oc := by
  have hl := dpa_len h
  have noOwn : ∀ {i : Nat} {di : List PyData}, (startE N.length ds)[i]? = some (some (.own di)) → False := fun {i di} e => by
    unfold startE at e
    by_cases hi : i < ds.length
    · rw [List.getElem?_append_left (by simpa using hi), List.getElem?_map] at e
      cases hd : ds[i]? with
      | none => rw [hd] at e; cases e
      | some d => rw [hd] at e; cases e
    · rw [List.getElem?_append_right (by simpa using hi), List.getElem?_replicate] at e
      split at e <;> cases e
  refine ⟨Ext.refl _, fun _ h => h, fun _ _ => rfl, ?_, fun i s e => ?_, fun i j a di dj e => (noOwn e).elim, l, tb⟩
  · unfold startE L2.start
    simp [hl]
  · unfold startE at e
    by_cases hi : i < ds.length
    · rw [List.getElem?_append_left (by simpa using hi), List.getElem?_map] at e
      cases hd : ds[i]? with
      | none => rw [hd] at e; cases e
      | some d =>
        rw [hd] at e
        cases e
        obtain ⟨v, h1, h2⟩ := dpa_get h hd
        refine ⟨v, ?_, h2⟩
        unfold L2.start
        rw [List.getElem?_append_left (by rw [List.length_map, hl]; exact hi), List.getElem?_map, h1]
        rfl
    · rw [List.getElem?_append_right (by simpa using hi), List.getElem?_replicate] at e
      split at e <;> cases e
section
variable {P : Program} {w : World} {K : PySem.W.Frag} {mg : Str → Option Value} {base : Heap}
variable [Tbs]
theorem body_ok {N : List Str} {X : Cx} {H : Hp} {vs : List V} {Q : VK} {E : XK} {body : List Stmt} {B : S} {n : Nat} (hK : X.K = K) (hmg : X.mg = mg) (h : CSs X (fun cls d _ H => E cls d H) body B) (q : spD K mg n (runD N.length B) vs H Q E) :
    wpSs X body { nx := fun _ H' => Q .non H', rt := Q } (L2.start N vs) H := by
  subst hK
  subst hmg
  obtain ⟨_, tb, ds, Oc, l, hd, q⟩ := q
  refine h ⟨H, Oc⟩ (startE N.length ds) _ H Oc _ (start_rep l tb hd) ?_
  unfold runD at q
  cases hb : B (startE N.length ds) with
  | nx e => rw [hb] at q; exact fun σ' H' O' r => q _ H' r.whole .non
  | rt d => rw [hb] at q; exact fun v H' e hv => q v H' e hv
  | bk e => rw [hb] at q; exact q.elim
  | ct e => rw [hb] at q; exact q.elim
  | er e c fl => rw [hb] at q; exact fun C od σ' H' O' r x => q C od H' r.whole (x.mono (Ext.hid_sub r.sub))
  | no => rw [hb] at q; exact q.elim
theorem okD {x qual : Str} {st : Stmt} {f : Addr} {fd : FuncData} {N ps : List Str} {k : Nat} (F : Fun K x qual st f fd) (S : FnScope N ps (defScope st)) (B : PD.S)
    (h : ∀ (cdv : Value) (A : Around) (outer : List PySem.Env) (s : Shared) (H : Hp) (E : XK), Room k (A.deeper (envOfC qual (defScope st) s.heap.objs.size f cdv)) →
      CSs (cxOf (L2.CX P w) P w K mg base N qual (defScope st) f cdv A outer s H E) (fun cls d _ H => E cls d H) (defBody st) B) : FnOk P w K mg base (L2.CX P w) (k + 1) f fd ps (spD K mg ps.length (runD N.length B)) :=
  F.okX S (fun vs H Q E q => q.1) fun cdv A outer s H vs Q E hr q => ⟨_, pss_wp, body_ok (N := N) rfl rfl (h cdv A outer s H E hr) q⟩
theorem okDD {x qual : Str} {params : Arguments} {body : List Stmt} {scope : Scope} {dvs : List V} {kws : List (Str × V)} {f : Addr} {fd : FuncData} {N ps : List Str} {k : Nat} (F : FunD K x qual params body scope dvs kws f fd) (S : FnScope N ps scope) (B : PD.S)
    (h : ∀ (cdv : Value) (A : Around) (outer : List PySem.Env) (s : Shared) (H : Hp) (E : XK), Room k (A.deeper (envOfC qual scope s.heap.objs.size f cdv)) →
      CSs (cxOf (L2.CX P w) P w K mg base N qual scope f cdv A outer s H E) (fun cls d _ H => E cls d H) body B) : FnOk P w K mg base (L2.CX P w) (k + 1) f fd ps (spD K mg ps.length (runD N.length B)) :=
  F.ok S (fun vs H Q E q => q.1) fun cdv A outer s H vs Q E hr q => ⟨_, pss_wp, body_ok (N := N) rfl rfl (h cdv A outer s H E hr) q⟩
end

/-! ### calls of defs -/
def callD (n : Nat) (F : List PyData → RO PyData) (ds : List PyData) : RO PyData := if ds.length = n then F ds else .no
section
variable {X : Cx} {W : WX} {Z : Zn} {env : Env} {σ : Sg} {H : Hp} {O : List Addr} {k n : Nat} {f : Addr} {fd : FuncData} {ps : List Str} {F : List PyData → RO PyData} {x : Str} {p pos : Pos} {e : Expr} {es : List Expr} {ga : Env → RO (List PyData)} {ds : List Value} {dvs : List V} {dd : List PyData}
variable [Tbs]
theorem sp_of {vs : List V} {d : List PyData} {Q : VK} (r : Rep X.K Z env σ H O) (hv : DpAll X.K (hid O H) vs d) (q : ROk X W σ O (VQ X.K O Q) H (callD n F d)) : spD X.K X.mg n F vs H Q (WE W σ) := by
  unfold callD at q
  by_cases hl : d.length = n
  · rw [if_pos hl] at q
    refine ⟨by rw [dpa_len hv]; exact hl, r.tb, d, O, r.lv, hv, ?_⟩
    cases hF : F d with
    | ok y => rw [hF] at q; exact fun v H' e' h => q H' e' v h
    | er c fl => rw [hF] at q; exact q
    | no => rw [hF] at q; exact q
  · rw [if_neg hl] at q
    exact q.elim
theorem ce_call (G : FnOk X.prog X.w X.K X.mg X.base (L2.CX X.prog X.w) k f fd ps (spD X.K X.mg n F)) (hr : Room k X.A) (tk : Takes X W) (hg : Gl X x) (hm : X.mg x = some (.ref f)) (hk : PySem.W.keepIn X.K (.ref f) = true) (hb : Binds X.K fd ps [])
    (ha : CA X W (e :: es) ga) (hdb : (x == ("__debug__" : Str)) = false := by decide) (he : starEach (e :: es) X.env = (false, eval e X.env) :: starEach es X.env := by rfl) (hpl : (backTo pos (starEach es X.env)).any (·.1) = false := by rfl) :
    CE X W (.Call (.Name x p) (e :: es) [] pos) (fun env => ga env >>= callD n F) := fun Z env σ H O Q r q => by
  refine wp_e (pe_callS G hr hg hm hk hb (fun σ => passAt tk σ) pa_wp hdb he hpl) ?_
  exact ha.go r q fun d vs H1 e1 d1 r1 q1 => sp_of r1 d1 q1
/-- the defaults fill up -/
theorem run_fnSD {E : L2.St → XK} {sp : Sp} {pins : List (Addr × Obj)} {s : Shared} {Q : VK} {us : List Value} {vs : List V} (G : FnOk X.prog X.w X.K X.mg X.base (L2.CX X.prog X.w) k f fd ps sp) (hr : Room k X.A) (hb : Binds X.K fd ps ds) (hd : Vals dvs ds) (hx : PassesAt (L2.CX X.prog X.w) X σ (E σ))
    (I : Inv X pins σ H s) (r : Vals vs us) (h : sp (vs ++ dvs) H Q (E σ)) : wpAny (model X.prog X.w) X.A (call (.ref f) us) (EP X pins σ Q) X.xe s := by
  have r2 : Vals (vs ++ dvs) (us ++ ds) := r.append hd
  have hl : (us ++ ds).length = ps.length := by rw [← r2.length]; exact G.len _ _ _ _ h
  refine wpAny_call (codeAny_mono (G.run X.A X.stack s H ⟨us, []⟩ (us ++ ds) (vs ++ dvs) Q (E σ) hr I.env0 (hb s us I.kIn hl) r2 h) fun r s' hq => ?_)
  cases r with
  | error e => exact hx pins H s e s' I hq
  | ok fl =>
    cases fl with
    | ret u => exact I.after hq
    | next => exact False.elim hq
    | brk => exact False.elim hq
    | cont => exact False.elim hq
theorem ce_callD (G : FnOk X.prog X.w X.K X.mg X.base (L2.CX X.prog X.w) k f fd ps (spD X.K X.mg n F)) (hr : Room k X.A) (tk : Takes X W) (hg : Gl X x) (hm : X.mg x = some (.ref f)) (hk : PySem.W.keepIn X.K (.ref f) = true) (hb : Binds X.K fd ps ds) (hd : Vals dvs ds) (hdd : ∀ H, DpAll X.K H dvs dd)
    (ha : CA X W (e :: es) ga) (hdb : (x == ("__debug__" : Str)) = false := by decide) (he : starEach (e :: es) X.env = (false, eval e X.env) :: starEach es X.env := by rfl) (hpl : (backTo pos (starEach es X.env)).any (·.1) = false := by rfl) :
    CE X W (.Call (.Name x p) (e :: es) [] pos) (fun env => ga env >>= fun xs => callD n F (xs ++ dd)) := fun Z env σ H O Q r q => by
  refine wp_e (t := fun σ H Q => wpA X (e :: es) σ H fun vs H1 => spD X.K X.mg n F (vs ++ dvs) H1 Q (WE W σ)) ⟨fun pins s σ H Q I h => ?_⟩ ?_
  · refine wpAny_Call_Name_kw (ld_glob I hg hm ?_ hdb)
    refine PySem.W.callWith_K (h₀ := X.base) I.ok.mod.kin hk (thn (pa_wp.run pos pins s σ H _ I h) fun us s1 ⟨vs, H1, I1, r, q⟩ => ⟨I1.kIn, ?_⟩) he hpl
    exact run_fnSD G hr hb hd (passAt tk σ) I1 r q
  · exact ha.go r q fun d vs H1 e1 d1 r1 q1 => sp_of r1 (dpa_app d1 (hdd _)) q1
/-- f(e, .., k = v) -/
def CKs (X : Cx) (W : WX) (kws : List Keyword) (f : Env → RO (List PyData)) : Prop := ∀ Z env σ H O Q, Rep X.K Z env σ H O → ROk X W σ O (AQ X.K O Q) H (f env) → ∃ t, PK X kws t ∧ t σ H Q
theorem ck_nil : CKs X W [] aNil := fun Z env σ H O Q r q => ⟨_, pk_nil, ROk.here q _ .nil⟩
def wpK (X : Cx) (kws : List Keyword) : TA := fun σ H Q => ∀ pos pins s, Inv X pins σ H s → wpAny (model X.prog X.w) X.A (evalAll ((backToKw pos (keywordEach kws X.env)).map (·.2))) (AP X pins σ Q) X.xe s
theorem pk_wp {kws : List Keyword} : PK X kws (wpK X kws) := ⟨fun pos pins s _ _ _ I h => h pos pins s I⟩
theorem CKs.wp {kws : List Keyword} {g : Env → RO (List PyData)} (h : CKs X W kws g) {Q : List V → Hp → Prop} (r : Rep X.K Z env σ H O) (q : ROk X W σ O (AQ X.K O Q) H (g env)) : wpK X kws σ H Q := by
  obtain ⟨t, h1, h2⟩ := h Z env σ H O Q r q
  exact fun pos pins s I => h1.run pos pins s σ H Q I h2
theorem ck_cons {f : E} {g : Env → RO (List PyData)} {nm : Option Str} {kpos : Pos} {kws : List Keyword} (h : CE X W e f) (hk : CKs X W kws g) : CKs X W (⟨nm, e, kpos⟩ :: kws) (aCons f g) := fun Z env σ H O Q r q => by
  refine ⟨_, pk_cons pe_wp pk_wp, ?_⟩
  refine h.go r q fun d v H1 e1 d1 r1 q1 => ?_
  exact hk.wp r1 (q1.then fun ds H2 _ e2 q2 vs hv => q2.here _ (.cons ((e2.hid O).dp d1) hv))
theorem run_fnNS {E : L2.St → XK} {sp : Sp} {pins : List (Addr × Obj)} {s : Shared} {Q : VK} {ks : List Str} {us ws : List Value} {vs zs : List V} {m : Nat} {g : List Value → List Value → List Value} {gV : List V → List V → List V} (G : FnOk X.prog X.w X.K X.mg X.base (L2.CX X.prog X.w) k f fd ps sp) (hr : Room k X.A) (hb : KBn X.K fd ps m ks g gV) (hx : PassesAt (L2.CX X.prog X.w) X σ (E σ))
    (I : Inv X pins σ H s) (r : Vals vs us) (rz : Vals zs ws) (l1 : vs.length = m) (l2 : zs.length = ks.length) (h : sp (gV vs zs) H Q (E σ)) : wpAny (model X.prog X.w) X.A (call (.ref f) us (ks.zip ws)) (EP X pins σ Q) X.xe s := by
  have r2 := hb.rel r rz
  refine wpAny_call (codeAny_mono (G.run X.A X.stack s H ⟨us, ks.zip ws⟩ (g us ws) (gV vs zs) Q (E σ) hr I.env0 (hb.to s us ws I.kIn (r.length.symm.trans l1) (rz.length.symm.trans l2)) r2 h) fun r s' hq => ?_)
  cases r with
  | error e => exact hx pins H s e s' I hq
  | ok fl =>
    cases fl with
    | ret u => exact I.after hq
    | next => exact False.elim hq
    | brk => exact False.elim hq
    | cont => exact False.elim hq
/-- gD: how the data of the positional and of the keyword arguments are put together -/
theorem ce_callK {kws : List Keyword} {ks : List Str} {m : Nat} {g : List Value → List Value → List Value} {gV : List V → List V → List V} {gD : List PyData → List PyData → List PyData} {gk : Env → RO (List PyData)} (G : FnOk X.prog X.w X.K X.mg X.base (L2.CX X.prog X.w) k f fd ps (spD X.K X.mg n F)) (hr : Room k X.A) (tk : Takes X W) (hg : Gl X x) (hm : X.mg x = some (.ref f)) (hk : PySem.W.keepIn X.K (.ref f) = true)
    (hb : KBn X.K fd ps m ks g gV) (hgD : ∀ H vs zs xs ys, DpAll X.K H vs xs → DpAll X.K H zs ys → DpAll X.K H (gV vs zs) (gD xs ys)) (ha : CA X W (e :: es) ga) (hkw : CKs X W kws gk) (hks : (backToKw pos (keywordEach kws X.env)).filterMap (·.1) = ks := by rfl)
    (hall : (backToKw pos (keywordEach kws X.env)).all (·.1.isSome) = true := by rfl)
    (hdb : (x == ("__debug__" : Str)) = false := by decide) (he : starEach (e :: es) X.env = (false, eval e X.env) :: starEach es X.env := by rfl)
    (hpl : ((backTo pos (starEach (e :: es) X.env)).any (·.1) || (backToKw pos (keywordEach kws X.env)).any (·.1.isNone)) = false := by rfl) :
    CE X W (.Call (.Name x p) (e :: es) kws pos) (fun env => ga env >>= fun xs => gk env >>= fun ys => if xs.length = m ∧ ys.length = ks.length then callD n F (gD xs ys) else .no) := fun Z env σ H O Q r q => by
  refine wp_e (t := fun σ H Q => wpA X (e :: es) σ H fun vs H1 => wpK X kws σ H1 fun zs H2 => vs.length = m ∧ zs.length = ks.length ∧ spD X.K X.mg n F (gV vs zs) H2 Q (WE W σ)) ⟨fun pins s σ H Q I h => ?_⟩ ?_
  · refine wpAny_Call_Name_kw (ld_glob I hg hm ?_ hdb)
    refine PySem.W.callWith_KW (h₀ := X.base) I.ok.mod.kin hk hall (thn (pa_wp.run pos pins s σ H _ I h) fun us s1 ⟨vs, H1, I1, r, q⟩ => ?_) hpl he
    refine thn (pk_wp.run pos pins s1 σ H1 _ I1 q) fun ws s2 ⟨zs, H2, I2, rz, l1, l2, q2⟩ => ⟨I2.kIn, ?_⟩
    rw [hks]
    exact run_fnNS G hr hb (passAt tk σ) I2 r rz l1 l2 q2
  · refine ha.go r q fun xs vs H1 e1 d1 r1 q1 => ?_
    refine hkw.wp r1 (q1.then fun ys H2 _ e2 q2 zs d2 => ?_)
    by_cases hl : xs.length = m ∧ ys.length = ks.length
    · rw [if_pos hl] at q2
      exact ⟨by rw [dpa_len d1]; exact hl.1, by rw [dpa_len d2]; exact hl.2, sp_of (r1.mono e2) (hgD _ _ _ _ _ ((e2.hid O).dpa d1) d2) q2⟩
    · rw [if_neg hl] at q2
      exact q2.elim
end

/-! ### raise C(), C an own class without __init__ -/
section
variable {X : Cx} {W : WX} {C : Addr} {bmB : List Value} {B newId initId : String} {x : Str} {p pos : Pos}
variable [Tbs]
theorem pmk_own0 (F : ExcBaseFacts B newId initId bmB) (q : PySem.W.excIn X.K C bmB newId = true) (gC : X.mg x = some (.ref C)) (kC : PySem.W.keepIn X.K (.ref C) = true) (r : Raises X (.ref C)) (hg : Gl X x) (hdb : (x == ("__debug__" : Str)) = false := by decide) :
    PMk X (.Call (.Name x p) [] [] pos) (fun _ H Q => Q (.ref C) none H) := by
  intro pins s σ H Q I h
  refine wpAny_Call_Name_kw (ld_glob I hg gC ?_ hdb)
  refine PySem.W.callWith_K0 I.kIn kC ?_
  show wpAny _ _ (call (.ref C) []) _ _ _
  obtain ⟨bm, N, nm, qn, bs, hdct, sn, sub, ab, col, dd, k0, k1, k2, k3, k5, mN, hC, hN, hni, T⟩ := exc_obj I.kIn q
  refine wpAny_call_exc_subT F T hC hN hni (fun h' e hm => ?_) (by show 0 ≤ sizeLine; exact Nat.zero_le _)
  exact mk_of I hm r h (I.hok.gone hm.new)
def sRaise (c : Str) (fl : Flds) : S := fun env => .er env c fl
theorem cs_raise0 {pos' : Pos} (hc : X.calm = true) (tk : Takes X W) (F : ExcBaseFacts B newId initId bmB) (q : PySem.W.excIn X.K C bmB newId = true) (gC : X.mg x = some (.ref C)) (kC : PySem.W.keepIn X.K (.ref C) = true) (r : Raises X (.ref C)) (hg : Gl X x) (hdb : (x == ("__debug__" : Str)) = false := by decide) :
    CS X W (.Raise (some (.Call (.Name x p) [] [] pos)) none pos') (sRaise x []) := fun Z env σ H O D rp qq =>
  wp_s (ps_raise hc tk (pmk_own0 F q gC kC r hg hdb)) (qq (.ref C) none σ H O rp ⟨gC, .inl ⟨rfl, rfl⟩⟩)
end
end PD
set_option Elab.async false
set_option linter.all false
set_option maxRecDepth 100000
set_option maxHeartbeats 4000000
namespace PD
open PySem PySem.Spec PyProof.Rows L2

/-! ### in an except suite: expressions over the exception that slot i holds -/
abbrev Ex := Str → Flds → E
def CEx [Tbs] (X : Cx) (i : Nat) (a : Addr) (cls : Value) (od : Option Addr) (e : Expr) (f : Ex) : Prop := ∀ Z env σ H O Q c fl, Rep X.K Z env σ H O → σ[i]? = some (some (.ref a)) → ExR X.mg X.K (hid O H) c fl cls od → ROk X WN σ O (VQ X.K O Q) H (f c fl env) → wpE X e σ H Q
section
variable {X : Cx} {i : Nat} {a : Addr} {cls : Value} {od : Option Addr} {e e1 e2 : Expr} {es rest : List Expr} {f : E} {fa fb : Ex} {pos p : Pos} {Z : Zn} {env : Env} {σ : Sg} {H : Hp} {O : List Addr}
variable [Tbs]
theorem CEx.go {β : Type} {g : PyData → RO β} {P : β → Hp → Prop} {Q : VK} {c : Str} {fl : Flds} (h : CEx X i a cls od e fa) (r : Rep X.K Z env σ H O) (hi : σ[i]? = some (some (.ref a))) (x : ExR X.mg X.K (hid O H) c fl cls od) (q : ROk X WN σ O P H (fa c fl env >>= g))
    (k : ∀ d v H1, Ext H H1 → Dp X.K (hid O H1) v d → Rep X.K Z env σ H1 O → ExR X.mg X.K (hid O H1) c fl cls od → ROk X WN σ O P H1 (g d) → Q v H1) : wpE X e σ H Q :=
  h Z env σ H O Q c fl r hi x (q.then fun d H1 _ e1 q1 v hv => k d v H1 e1 hv (r.mono e1) (x.mono (e1.hid O)) q1)
theorem cx_ce (h : CE X WN e f) : CEx X i a cls od e (fun _ _ => f) := fun Z env σ H O Q c fl r _ _ q => h Z env σ H O Q r q
theorem cx_not (h : CEx X i a cls od e fa) : CEx X i a cls od (.UnaryOp .Not e pos) (fun c fl => eNt (fa c fl)) := fun Z env σ H O Q c fl r hi x q => by
  refine wp_e (pe_not pe_wp) ?_
  dsimp only at q
  unfold eNt at q
  rw [RO.assoc] at q
  refine h.go r hi x q fun d v H1 e1 d1 r1 x1 q1 => ?_
  cases d with
  | bool k =>
    cases dp_bool d1
    exact ⟨k, rfl, q1.here _ (.bl _)⟩
  | _ => exact q1.elim
theorem cx_one {op} (h : CEx X i a cls od e fa) : CEx X i a cls od (.BoolOp op [e] pos) fa := fun Z env σ H O Q c fl r hi x q => wp_e (pe_one pe_wp) (h Z env σ H O Q c fl r hi x q)
theorem cx_and (h : CEx X i a cls od e1 fa) (k : CEx X i a cls od (.BoolOp .And (e2 :: rest) pos) fb) : CEx X i a cls od (.BoolOp .And (e1 :: e2 :: rest) pos) (fun c fl => eAn (fa c fl) (fb c fl)) := fun Z env σ H O Q c fl r hi x q => by
  refine wp_e (pe_and pe_wp pe_wp) ?_
  dsimp only at q
  unfold eAn at q
  rw [RO.assoc] at q
  refine h.go r hi x q fun d v H1 e1 d1 r1 x1 q1 => ?_
  cases d with
  | bool b =>
    cases dp_bool d1
    refine ⟨b, rfl, ?_⟩
    cases b with
    | true => exact k Z env σ H1 O Q c fl r1 hi x1 q1
    | false => exact q1.here _ (.bl _)
  | _ => exact q1.elim
/-- the tuple's items -/
def CAx (X : Cx) (i : Nat) (a : Addr) (cls : Value) (od : Option Addr) (es : List Expr) (f : Str → Flds → Env → RO (List PyData)) : Prop := ∀ Z env σ H O Q c fl, Rep X.K Z env σ H O → σ[i]? = some (some (.ref a)) → ExR X.mg X.K (hid O H) c fl cls od → ROk X WN σ O (AQ X.K O Q) H (f c fl env) → wpA X es σ H Q
variable {ga : Str → Flds → Env → RO (List PyData)}
theorem cax_nil : CAx X i a cls od [] (fun _ _ => aNil) := fun Z env σ H O Q c fl r hi x q => wp_a pa_nil (ROk.here q _ .nil)
theorem cax_cons (h : CEx X i a cls od e fa) (k : CAx X i a cls od es ga) (hs : starEach (e :: es) X.env = (false, eval e X.env) :: starEach es X.env := by rfl) : CAx X i a cls od (e :: es) (fun c fl => aCons (fa c fl) (ga c fl)) := fun Z env σ H O Q c fl r hi x q => by
  refine wp_a (pa_cons pe_wp pa_wp hs) ?_
  dsimp only at q
  unfold aCons at q
  refine h.go r hi x q fun d v H1 e1 d1 r1 x1 q1 => ?_
  exact k Z env σ H1 O _ c fl r1 hi x1 (q1.then fun ds H2 _ e2 q2 vs hv => q2.here _ (.cons ((e2.hid O).dp d1) hv))
theorem cx_tup {x1} (h : CAx X i a cls od es ga) : CEx X i a cls od (.Tuple es x1 pos) (fun c fl => eTup (ga c fl)) := fun Z env σ H O Q c fl r hi x q => by
  refine wp_e (pe_tup pa_wp) ?_
  dsimp only at q
  unfold eTup at q
  refine h Z env σ H O _ c fl r hi x (q.then fun ds H1 _ e1 q1 vs d1 => ?_)
  by_cases z : ds.length ≤ sizeLine
  · rw [if_pos z] at q1
    exact ⟨by rw [dpa_len d1]; exact z, fun p hp => q1 _ (Ext.new hp) _ (dp_newT (r.mono e1).lv hp d1)⟩
  · rw [if_neg z] at q1
    exact q1.elim
end

section
variable {X : Cx} {i : Nat} {a D : Addr} {oe : Obj} {pn : List (Addr × Obj)} {cls : Value} {od : Option Addr} {n x : Str} {pos p p1 p2 : Pos} {C : Addr} {b : Bool} {c0 : Str}
variable [Tbs]
theorem cx_is0 (T : ExcC X.K D) (m0 : X.mg c0 = some (.ref D)) (hz : Zc cls od oe) (hf : ∃ vs, oe.data = .fields vs) (hg : Gl X "isinstance") (hm : X.mg "isinstance" = none) (hN : X.N[i]? = some n) (hv : Vis X.env.scope n) (hgx : Gl X x) (hmx : X.mg x = some (.ref C)) (hk : PySem.W.kitOne X.K (.ref D) (.ref C) = some b)
    (hd : (n == ("__debug__" : Str)) = false := by decide) (hcd : (n == ("__classdict__" : Str)) = false := by decide) (hdx : (x == ("__debug__" : Str)) = false := by decide)
    (he : starEach [.Name n p1, .Name x p2] X.env = (false, eval (.Name n p1) X.env) :: starEach [.Name x p2] X.env := by rfl) (he2 : starEach [.Name x p2] X.env = (false, eval (.Name x p2) X.env) :: starEach [] X.env := by rfl)
    (hpl : (backTo pos (starEach [.Name x p2] X.env)).any (·.1) = false := by rfl) :
    CEx (X.suite a ((a, oe) :: pn)) i a cls od (.Call (.Name "isinstance" p) [.Name n p1, .Name x p2] [] pos) (fun c fl _ => if c = c0 ∧ fl = [] then .ok (.bool b) else .no) := fun Z env σ H O Q c fl r hi xr q => by
  by_cases hc : c = c0 ∧ fl = []
  · obtain ⟨rfl, rfl⟩ := hc
    dsimp only at q
    rw [if_pos ⟨rfl, rfl⟩] at q
    obtain ⟨x1, x2⟩ := xr
    have e1 : cls = .ref D := Option.some.inj ((show X.mg c = some cls from x1).symm.trans m0)
    have e2 : od = none := by
      rcases x2 with ⟨_, h⟩ | ⟨h, _⟩
      · exact h
      · exact absurd rfl h
    subst e1
    subst e2
    have hb : PE (X.suite a ((a, oe) :: pn)) (.Name x p2) (tC (.ref C)) := pe_glob hgx hmx rfl hdx
    refine wp_e (X := X.suite a ((a, oe) :: pn)) (pe_callB (call_isE T hz hf) hg hm (by decide +kernel) (pa_cons (pe_var hN hv hd hcd) (pa_cons hb pa_nil he2) he) (by decide) (by decide) he hpl) ?_
    exact ⟨_, hi, .ref C, .ref C, b, rfl, fun u hu => hu, hk, q.here _ (.bl _)⟩
  · dsimp only at q
    rw [if_neg hc] at q
    exact q.elim
end
/-! ### the statement -/
def sTryR (i : Nat) (g : S) (mtc : Str → Option Bool) (fx : Ex) : S := fun env => match g env with
  | .er e1 c fl => (match mtc c with
    | some true => if i < e1.length then (match fx c fl (e1.set i none) with | .ok d => .rt d | _ => .no) else .no
    | some false => .er e1 c fl
    | none => .no)
  | r => r
section
variable {X : Cx} {W : WX} {x n : Str} {cV : Value} {i : Nat} {body : List Stmt} {np pos pos' rpos : Pos} {g : S} {mtc : Str → Option Bool} {fx : Ex} {e : Expr}
variable [Tbs]
theorem cs_try_as (hs : X.stack = X.env :: X.outer) (hf : X.env.frame = some X.env.locals) (hN : X.N.Nodup) (hi : X.N[i]? = some n) (hln : X.env.kindOf n = some .local) (hc : Names X x cV) (tk : Takes X W)
    (hb : ∀ (W' : WX) (pn : List (Addr × Obj)) (xe : Value → Shared → Prop), Takes (X.tr pn xe) W' → PassesOwn (model X.prog X.w) X.A X.env xe → CSs (X.tr pn xe) W' body g)
    (hsu : ∀ (a : Addr) (oe : Obj) (cls : Value) (d : Option Addr) (pn : List (Addr × Obj)), Zc cls d oe → (∃ vs, oe.data = .fields vs) → CEx (X.suite a ((a, oe) :: pn)) i a cls d e fx)
    (hm : ∀ c b, mtc c = some b → ∀ C, X.mg c = some C → PySem.W.exmOne X.K C cV = some b) :
    CS X W (.Try body [.ExceptHandler (some (.Name x np)) (some n) [.Return (some e) rpos] pos'] [] [] pos) (sTryR i g mtc fx) := fun Z env σ H O D r q => by
  refine wp_s (ps_try_as (tb := fun W' D σ H => ∀ pn xe, Takes (X.tr pn xe) W' → PassesOwn (model X.prog X.w) X.A X.env xe → wpSs (X.tr pn xe) body D σ H)
    (ts := fun a cls d D σ H => ∀ oe pn, Zc cls d oe → (∃ vs, oe.data = .fields vs) → wpSs (X.suite a ((a, oe) :: pn)) [.Return (some e) rpos] D σ H)
    hs hf hN hi hln hc tk (fun W' pn xe h1 h2 => ⟨fun pins s _ _ _ I h => h pn xe h1 h2 pins s I⟩) (fun a oe cls d pn h1 h2 => ⟨fun pins s _ _ _ I h => h oe pn h1 h2 pins s I⟩)) ?_
  intro pn xe h1 h2
  refine hb _ pn xe h1 h2 Z env σ H O D r ?_
  unfold sTryR at q
  cases hg : g env with
  | er e1 c fl =>
    rw [hg] at q
    intro C od σ1 H1 O1 r1 x1
    dsimp only at q
    cases hmt : mtc c with
    | none => rw [hmt] at q; exact q.elim
    | some b =>
      rw [hmt] at q
      refine ⟨b, hm c b hmt C x1.1, fun eb a na oe pn' hz hff => ?_, fun eb => ?_⟩
      · subst eb
        dsimp only at q
        by_cases hl : i < e1.length
        · rw [if_pos hl] at q
          refine wp_ss (pss_one (ps_ret pe_wp)) ?_
          have r2 := r1.setNone i (some (.ref a))
          refine hsu a oe C od pn' hz hff Z _ _ H1 O1 _ c fl r2 (List.getElem?_set_self (by rw [← r1.len]; exact hl)) x1 ?_
          cases hfx : fx c fl (e1.set i none) with
          | ok d => rw [hfx] at q; exact fun H2 e2 v hv => q v H2 (r1.whole.trans e2) ((Ext.hid_sub r1.sub).dp hv)
          | er _ _ => rw [hfx] at q; exact q.elim
          | no => rw [hfx] at q; exact q.elim
        · rw [if_neg hl] at q
          exact q.elim
      · subst eb
        exact q C od σ1 H1 O1 r1 x1
  | nx e => rw [hg] at q; exact q
  | rt e => rw [hg] at q; exact q
  | bk e => rw [hg] at q; exact q
  | ct e => rw [hg] at q; exact q
  | no => rw [hg] at q; exact q
end
end PD
set_option Elab.async false
set_option linter.all false
set_option maxRecDepth 100000
set_option maxHeartbeats 4000000
namespace PD
open PySem PySem.Spec PyProof.Rows L2

/-! ### the readings by name -/
abbrev A := PD.Env → RO (List PyData)
def eOp (bi : PyData → PyData → Option PyData) (fa fb : E) : E := fun env => fa env >>= fun x => fb env >>= fun y => ofO (bi x y)
def tCm (bi : PyData → PyData → Option PyData) (fa fb : E) : T := fun env => fa env >>= fun x => fb env >>= fun y => ofO (bi x y) >>= tb
def eUn (bi : PyData → Option PyData) (fa : E) : E := fun env => fa env >>= fun x => ofO (bi x)
def eBf (bi : List PyData → Option PyData) (ga : A) : E := fun env => ga env >>= fun ds => ofO (bi ds)
def eIsi (T : String) (f : E) : E := fun env => f env >>= fun d => ofO (isiO T d)
def eB (i : Nat) : E := fun env => gb env i
def eIx (fa fb : E) : E := fun env => fa env >>= fun x => fb env >>= fun y => ofO (dIx x y)
def eIxO (i : Nat) (fb : E) : E := fun env => gvo env i >>= fun xs => fb env >>= fun y => ofO (dIx (.list xs) y)
abbrev OI := PD.Env → RO (Option Int)
def oN : OI := fun _ => .ok none
def oS (f : E) : OI := fun env => f env >>= tI >>= fun i => .ok (some i)
def eSl (fa : E) (fl fh : OI) : E := fun env => fa env >>= fun x => fl env >>= fun l => fh env >>= fun u => dCut x l u
def lSl (fa : E) (fl fh : OI) : A := fun env => fa env >>= fun x => fl env >>= fun l => fh env >>= fun u => lCut x l u
def lSlO (i : Nat) (fl fh : OI) : A := fun env => gvo env i >>= fun xs => fl env >>= fun l => fh env >>= fun u => .ok (cutD xs l u)
def lLi (f : E) : A := fun env => f env >>= dSeq
def eTu (f : E) : E := fun env => f env >>= dSeq >>= fun xs => .ok (.tuple xs)
def eTuO (i : Nat) : E := fun env => gvo env i >>= fun xs => .ok (.tuple xs)
def eLeO (i : Nat) : E := fun env => gvo env i >>= fun xs => .ok (.int xs.length)
def eL (fl : A) : E := fun env => fl env >>= fun ds => .ok (.list ds)
def lComp (fs : A) (g : G) (t : T) (f : E) (ws : List Nat) : A := fun env => fs env >>= fun items => compD g t f (wipeE env ws) items
def lCompO (i : Nat) (g : G) (t : T) (f : E) (ws : List Nat) : A := fun env => gvo env i >>= fun items => compD g t f (wipeE env ws) items
def iSeq (f : E) : A := fun env => f env >>= dIter
def iR1 (f : E) : A := fun env => f env >>= rng1
def iR2 (f g : E) : A := fun env => f env >>= fun x => g env >>= fun y => rng2 x y
def tV (f : E) : T := fun env => f env >>= tb
def tT (f : E) : T := fun env => f env >>= tru
def tY : T := fun _ => .ok true
def eCall (n : Nat) (F : List PyData → RO PyData) (ga : A) : E := fun env => ga env >>= callD n F
def eCallD (n : Nat) (F : List PyData → RO PyData) (dd : List PyData) (ga : A) : E := fun env => ga env >>= fun xs => callD n F (xs ++ dd)
def sWh (n : Nat) (t : T) (g : S) : S := fun env => whileGo t g n env
def sBk : S := fun env => .bk env
def sCt : S := fun env => .ct env
def sNo : S := fun _ => .no

/-! ### a def that may be called by its name -/
def Dfn [Tbs] (P : Program) (w : World) (K : PySem.W.Frag) (mg : Str → Option Value) (base : Heap) (x : Str) (k n : Nat) (F : List PyData → RO PyData) : Prop :=
  ∃ (f : Addr) (fd : FuncData) (ps : List Str), FnOk P w K mg base (L2.CX P w) k f fd ps (spD K mg n F) ∧ mg x = some (.ref f) ∧ PySem.W.keepIn K (.ref f) = true ∧ Binds K fd ps []
theorem Dfn.mono [Tbs] {P : Program} {w : World} {K : PySem.W.Frag} {mg : Str → Option Value} {base : Heap} {x : Str} {k k' n : Nat} {F : List PyData → RO PyData} (h : Dfn P w K mg base x k n F) (l : k ≤ k') : Dfn P w K mg base x k' n F := by
  obtain ⟨f, fd, ps, G, r⟩ := h
  exact ⟨f, fd, ps, G.mono l, r⟩
/-- the same, with a promise that is worth as much -/
theorem Dfn.eqv [Tbs] {P : Program} {w : World} {K : PySem.W.Frag} {mg : Str → Option Value} {base : Heap} {x : Str} {k n : Nat} {F F' : List PyData → RO PyData} (h : Dfn P w K mg base x k n F) (l : ∀ ds, F' ds = .no ∨ F' ds = F ds) : Dfn P w K mg base x k n F' := by
  obtain ⟨f, fd, ps, G, r⟩ := h
  refine ⟨f, fd, ps, G.imp fun vs H Q E q => ?_, r⟩
  obtain ⟨q1, q0, ds, Oc, q2, q3, q4⟩ := q
  refine ⟨q1, q0, ds, Oc, q2, q3, ?_⟩
  rcases l ds with e | e
  · rw [e] at q4
    exact q4.elim
  · rw [← e]
    exact q4
section
variable {X : Cx} {W : WX} {e a b c : Expr} {es : List Expr} {f fa fb : E} {ga : A} {pos p : Pos} {x : Str} {k n kk : Nat} {F : List PyData → RO PyData}
variable [Tbs]
theorem c_call (G : Dfn X.prog X.w X.K X.mg X.base x k n F) (hr : Room kk X.A) (hk : k ≤ kk) (tk : Takes X W) (hg : Gl X x) (ha : CA X W (e :: es) ga) (hdb : (x == ("__debug__" : Str)) = false := by decide) (he : starEach (e :: es) X.env = (false, eval e X.env) :: starEach es X.env := by rfl) (hpl : (backTo pos (starEach es X.env)).any (·.1) = false := by rfl) :
    CE X W (.Call (.Name x p) (e :: es) [] pos) (eCall n F ga) := by
  obtain ⟨f, fd, ps, G, hm, hkp, hb⟩ := G
  exact ce_call G (hr.mono hk) tk hg hm hkp hb ha hdb he hpl
/-- a def of the text: its promise by its body -/
theorem dfn_of {P : Program} {w : World} {K : PySem.W.Frag} {mg : Str → Option Value} {base : Heap} {qual : Str} {st : Stmt} {f : Addr} {fd : FuncData} {N ps : List Str} {B : S} (Fn : Fun K x qual st f fd) (Sc : FnScope N ps (defScope st)) (hb : Binds K fd ps []) (hm : mg x = some (.ref f))
    (h : ∀ (cdv : Value) (A : Around) (outer : List PySem.Env) (s : Shared) (H : Hp) (E : XK), Room k (A.deeper (envOfC qual (defScope st) s.heap.objs.size f cdv)) →
      CSs (cxOf (L2.CX P w) P w K mg base N qual (defScope st) f cdv A outer s H E) (fun cls d _ H => E cls d H) (defBody st) B) : Dfn P w K mg base x (k + 1) ps.length (runD N.length B) :=
  ⟨f, fd, ps, okD Fn Sc B h, hm, Fn.kp, hb⟩
theorem tk0 {P : Program} {w : World} {K : PySem.W.Frag} {mg : Str → Option Value} {base : Heap} {N : List Str} {qual : Str} {sc : Scope} {f : Addr} {cdv : Value} {A : Around} {outer : List PySem.Env} {s : Shared} {H : Hp} {E : XK} :
    Takes (cxOf (L2.CX P w) P w K mg base N qual sc f cdv A outer s H E) (fun cls d _ H => E cls d H) := takes_of rfl rfl rfl rfl
theorem ps0 {P : Program} {w : World} {K : PySem.W.Frag} {mg : Str → Option Value} {base : Heap} {N : List Str} {qual : Str} {sc : Scope} {f : Addr} {cdv : Value} {A : Around} {outer : List PySem.Env} {s : Shared} {H : Hp} {E : XK} :
    PassesOwn (model (cxOf (L2.CX P w) P w K mg base N qual sc f cdv A outer s H E).prog (cxOf (L2.CX P w) P w K mg base N qual sc f cdv A outer s H E).w) (cxOf (L2.CX P w) P w K mg base N qual sc f cdv A outer s H E).A (cxOf (L2.CX P w) P w K mg base N qual sc f cdv A outer s H E).env (cxOf (L2.CX P w) P w K mg base N qual sc f cdv A outer s H E).xe :=
  passes_of (K := fun e s'' => L2.CX P w outer H s E e s'') rfl
theorem tkN {X : Cx} : Takes X WN := takes0
/-- a constant of the module -/
theorem ce_gI {i : Int} {t : Tok} (hg : Gl X x) (hm : X.mg x = some (.int i t)) (hdb : (x == ("__debug__" : Str)) = false := by decide) : CE X W (.Name x pos) (eC (.int i)) := fun Z env σ H O Q r q =>
  wp_e (pe_glob (v := .int i) hg hm ⟨t, rfl⟩ hdb) (ROk.here q _ (.int i))
/-- a tuple of ints that the module holds -/
theorem ce_gT {a : Addr} {o : Obj} {its : Array Value} {m : Nat} {ks : List Int} (hg : Gl X x) (hm : X.mg x = some (.ref a)) (hk : X.K.lookup a = some o) (hc : o.cls = .type "tuple") (hd : o.data = .seq its m) (hz : its.size ≤ sizeLine) (hv : Vals (ks.map V.int) its.toList) (hdb : (x == ("__debug__" : Str)) = false := by decide) :
    CE X W (.Name x pos) (eC (.tuple (ks.map .int))) := fun Z env σ H O Q r q => by
  refine wp_e (pe_glob (v := .ref a) hg hm rfl hdb) (ROk.here q _ (.tup (xs := ks.map V.int) (.inr ⟨o, its, m, hk, hc, hd, hz, hv⟩) ?_))
  have : ∀ (H : Hp) (ks : List Int), DpAll X.K H (ks.map V.int) (ks.map .int) := fun H ks => by
    induction ks with
    | nil => exact .nil
    | cons k ks ih => exact .cons (.int k) ih
  exact this _ ks
end
end PD
set_option Elab.async false
set_option linter.all false
set_option maxRecDepth 100000
set_option maxHeartbeats 4000000
namespace PD
open PySem PySem.Spec PyProof.Rows L2
section
variable {X : Cx} {W : WX} {e e2 : Expr} {es : List Expr} {f : E} {g : A} {pos p p2 : Pos}
variable [Tbs]
theorem c_len (hg : Gl X "len") (hm : X.mg "len" = none) (ha : CA X W (e :: es) g) (he : starEach (e :: es) X.env = (false, eval e X.env) :: starEach es X.env := by rfl) (hpl : (backTo pos (starEach es X.env)).any (·.1) = false := by rfl) :
    CE X W (.Call (.Name "len" p) (e :: es) [] pos) (eBf cLen g) := ce_bf cal_len.cal hg hm PySem.boot_len ha (by decide) (by decide) he hpl
theorem c_abs (hg : Gl X "abs") (hm : X.mg "abs" = none) (ha : CA X W (e :: es) g) (he : starEach (e :: es) X.env = (false, eval e X.env) :: starEach es X.env := by rfl) (hpl : (backTo pos (starEach es X.env)).any (·.1) = false := by rfl) :
    CE X W (.Call (.Name "abs" p) (e :: es) [] pos) (eBf cAbs g) := ce_bf cal_abs.cal hg hm (by decide +kernel) ha (by decide) (by decide) he hpl
theorem c_int (hg : Gl X "int") (hm : X.mg "int" = none) (ha : CA X W (e :: es) g) (he : starEach (e :: es) X.env = (false, eval e X.env) :: starEach es X.env := by rfl) (hpl : (backTo pos (starEach es X.env)).any (·.1) = false := by rfl) :
    CE X W (.Call (.Name "int" p) (e :: es) [] pos) (eBf cInt g) := ce_ty cal_int.cal hg hm (by decide +kernel) ha (by decide) (by decide) he hpl
theorem c_max (hc : X.calm = true) (hg : Gl X "max") (hm : X.mg "max" = none) (ha : CA X W (e :: es) g) (he : starEach (e :: es) X.env = (false, eval e X.env) :: starEach es X.env := by rfl) (hpl : (backTo pos (starEach es X.env)).any (·.1) = false := by rfl) :
    CE X W (.Call (.Name "max" p) (e :: es) [] pos) (eBf cMax g) := ce_bf (cal_max hc).cal hg hm (by decide +kernel) ha (by decide) (by decide) he hpl
theorem c_min (hc : X.calm = true) (hg : Gl X "min") (hm : X.mg "min" = none) (ha : CA X W (e :: es) g) (he : starEach (e :: es) X.env = (false, eval e X.env) :: starEach es X.env := by rfl) (hpl : (backTo pos (starEach es X.env)).any (·.1) = false := by rfl) :
    CE X W (.Call (.Name "min" p) (e :: es) [] pos) (eBf cMin g) := ce_bf (cal_min hc).cal hg hm (by decide +kernel) ha (by decide) (by decide) he hpl
theorem c_all (hc : X.calm = true) (hg : Gl X "all") (hm : X.mg "all" = none) (ha : CA X W (e :: es) g) (he : starEach (e :: es) X.env = (false, eval e X.env) :: starEach es X.env := by rfl) (hpl : (backTo pos (starEach es X.env)).any (·.1) = false := by rfl) :
    CE X W (.Call (.Name "all" p) (e :: es) [] pos) (eBf cAll g) := ce_bf (cal_all hc).cal hg hm (by decide +kernel) ha (by decide) (by decide) he hpl
theorem c_any (hc : X.calm = true) (hg : Gl X "any") (hm : X.mg "any" = none) (ha : CA X W (e :: es) g) (he : starEach (e :: es) X.env = (false, eval e X.env) :: starEach es X.env := by rfl) (hpl : (backTo pos (starEach es X.env)).any (·.1) = false := by rfl) :
    CE X W (.Call (.Name "any" p) (e :: es) [] pos) (eBf cAny g) := ce_bf (cal_any hc).cal hg hm (by decide +kernel) ha (by decide) (by decide) he hpl
theorem c_gcd (hg : Gl X "gcd") (hm : X.mg "gcd" = some (.builtin "math.gcd")) (ha : CA X W (e :: es) g) (he : starEach (e :: es) X.env = (false, eval e X.env) :: starEach es X.env := by rfl) (hpl : (backTo pos (starEach es X.env)).any (·.1) = false := by rfl) :
    CE X W (.Call (.Name "gcd" p) (e :: es) [] pos) (eBf cGcd g) := ce_bi cal_gcd.cal hg hm ha (by decide) he hpl
theorem c_isi_int (hg : Gl X "isinstance") (hm : X.mg "isinstance" = none) (hg2 : Gl X "int") (hm2 : X.mg "int" = none) (h : CB X W e f)
    (he : starEach [e, .Name "int" p2] X.env = (false, eval e X.env) :: starEach [.Name "int" p2] X.env := by rfl) (he2 : starEach [.Name "int" p2] X.env = (false, eval (.Name "int" p2) X.env) :: starEach [] X.env := by rfl) (hpl : (backTo pos (starEach [.Name "int" p2] X.env)).any (·.1) = false := by rfl) :
    CE X W (.Call (.Name "isinstance" p) [e, .Name "int" p2] [] pos) (eIsi "int" f) := ce_isi rfl hg hm hg2 hm2 (by decide +kernel) (by decide) (by decide) h he he2 hpl
theorem c_isi_bool (hg : Gl X "isinstance") (hm : X.mg "isinstance" = none) (hg2 : Gl X "bool") (hm2 : X.mg "bool" = none) (h : CB X W e f)
    (he : starEach [e, .Name "bool" p2] X.env = (false, eval e X.env) :: starEach [.Name "bool" p2] X.env := by rfl) (he2 : starEach [.Name "bool" p2] X.env = (false, eval (.Name "bool" p2) X.env) :: starEach [] X.env := by rfl) (hpl : (backTo pos (starEach [.Name "bool" p2] X.env)).any (·.1) = false := by rfl) :
    CE X W (.Call (.Name "isinstance" p) [e, .Name "bool" p2] [] pos) (eIsi "bool" f) := ce_isi rfl hg hm hg2 hm2 (by decide +kernel) (by decide) (by decide) h he he2 hpl
theorem c_isi_str (hg : Gl X "isinstance") (hm : X.mg "isinstance" = none) (hg2 : Gl X "str") (hm2 : X.mg "str" = none) (h : CB X W e f)
    (he : starEach [e, .Name "str" p2] X.env = (false, eval e X.env) :: starEach [.Name "str" p2] X.env := by rfl) (he2 : starEach [.Name "str" p2] X.env = (false, eval (.Name "str" p2) X.env) :: starEach [] X.env := by rfl) (hpl : (backTo pos (starEach [.Name "str" p2] X.env)).any (·.1) = false := by rfl) :
    CE X W (.Call (.Name "isinstance" p) [e, .Name "str" p2] [] pos) (eIsi "str" f) := ce_isi rfl hg hm hg2 hm2 (by decide +kernel) (by decide) (by decide) h he he2 hpl
theorem c_isi_tuple (hg : Gl X "isinstance") (hm : X.mg "isinstance" = none) (hg2 : Gl X "tuple") (hm2 : X.mg "tuple" = none) (h : CB X W e f)
    (he : starEach [e, .Name "tuple" p2] X.env = (false, eval e X.env) :: starEach [.Name "tuple" p2] X.env := by rfl) (he2 : starEach [.Name "tuple" p2] X.env = (false, eval (.Name "tuple" p2) X.env) :: starEach [] X.env := by rfl) (hpl : (backTo pos (starEach [.Name "tuple" p2] X.env)).any (·.1) = false := by rfl) :
    CE X W (.Call (.Name "isinstance" p) [e, .Name "tuple" p2] [] pos) (eIsi "tuple" f) := ce_isi rfl hg hm hg2 hm2 (by decide +kernel) (by decide) (by decide) h he he2 hpl
theorem c_isi_list (hg : Gl X "isinstance") (hm : X.mg "isinstance" = none) (hg2 : Gl X "list") (hm2 : X.mg "list" = none) (h : CB X W e f)
    (he : starEach [e, .Name "list" p2] X.env = (false, eval e X.env) :: starEach [.Name "list" p2] X.env := by rfl) (he2 : starEach [.Name "list" p2] X.env = (false, eval (.Name "list" p2) X.env) :: starEach [] X.env := by rfl) (hpl : (backTo pos (starEach [.Name "list" p2] X.env)).any (·.1) = false := by rfl) :
    CE X W (.Call (.Name "isinstance" p) [e, .Name "list" p2] [] pos) (eIsi "list" f) := ce_isi rfl hg hm hg2 hm2 (by decide +kernel) (by decide) (by decide) h he he2 hpl
end
/-- a recursion's promise before its first turn: nothing -/
theorem dfn_no [Tbs] {P : Program} {w : World} {K : PySem.W.Frag} {mg : Str → Option Value} {base : Heap} {x : Str} {k n : Nat} {f : Addr} {fd : FuncData} {ps : List Str} (hl : ps.length = n) (hm : mg x = some (.ref f)) (hk : PySem.W.keepIn K (.ref f) = true) (hb : Binds K fd ps []) :
    Dfn P w K mg base x k n (fun _ => .no) :=
  ⟨f, fd, ps, ⟨fun vs H Q E q => by obtain ⟨_, _, _, _, _, _, q⟩ := q; exact q.elim, fun A outer s H args us vs Q E hr e0 hbs hv q => by obtain ⟨_, _, _, _, _, _, q⟩ := q; exact q.elim⟩, hm, hk, hb⟩
/-- the law's promise, as the end asks it -/
def spLaw [Tbs] (K : PySem.W.Frag) : Sp := fun vs H Q _ => ∃ (a : Addr) (ns : List Int), vs = [.ref a] ∧ (∀ P ∈ Tbs.l, GxR.TabG H P) ∧ SqL K H a (ns.map V.int) ∧ ns.length ≤ 63 ∧ (∀ z ∈ ns, Builtin.Int.intBits z ≤ 1048576) ∧ ∀ H', Q (.bl true) H'
theorem dpa_ints {K : PySem.W.Frag} {H : Hp} : ∀ ns : List Int, DpAll K H (ns.map V.int) (ns.map PyData.int)
  | [] => .nil
  | n :: ns => .cons (.int n) (dpa_ints ns)
theorem law_of [Tbs] {P : Program} {w : World} {K : PySem.W.Frag} {mg : Str → Option Value} {base : Heap} {k : Nat} {f : Addr} {fd : FuncData} {ps : List Str} {F : List PyData → RO PyData} (G : FnOk P w K mg base (L2.CX P w) k f fd ps (spD K mg 1 F))
    (h : ∀ ns : List Int, ns.length ≤ 63 → (∀ z ∈ ns, Builtin.Int.intBits z ≤ 1048576) → F [.list (ns.map .int)] = .ok (.bool true)) : FnOk P w K mg base (L2.CX P w) k f fd ps (spLaw K) :=
  G.imp fun vs H Q E q => by
    obtain ⟨a, ns, rfl, h0, h1, h2, h3, q⟩ := q
    refine ⟨rfl, h0, [.list (ns.map .int)], [], (fun _ z => nomatch z), ?_, ?_⟩
    · rw [hid_nil]
      exact .cons (.lst h1 (dpa_ints ns)) .nil
    · rw [h ns h2 h3]
      intro v H' _ hv
      cases dp_bool hv
      exact q H'
end PD
set_option Elab.async false
set_option linter.all false
set_option maxRecDepth 100000
set_option maxHeartbeats 4000000
namespace PD
open PySem PySem.Spec PyProof.Rows L2
/-- so many turns of a while loop, so many calls within one another -/
def WH : Nat := 1000000
def RD : Nat := 20
theorem RD_eq : RD = 20 := rfl
/-! ### what the module holds -/
def GInt (mg : Str → Option Value) (x : Str) (i : Int) : Prop := ∃ t, mg x = some (.int i t)
def GTup (K : PySem.W.Frag) (mg : Str → Option Value) (x : Str) (ks : List Int) : Prop :=
  ∃ (a : Addr) (o : Obj) (its : Array Value) (m : Nat), mg x = some (.ref a) ∧ K.lookup a = some o ∧ o.cls = .type "tuple" ∧ o.data = .seq its m ∧ its.size ≤ sizeLine ∧ Vals (ks.map V.int) its.toList
theorem gtup2 {K : PySem.W.Frag} {mg : Str → Option Value} {x : Str} {a : Addr} {i j : Int} {t u : Tok} {dd : Option Addr} {m : Nat} {sl : Array (Option Value)} (h : mg x = some (.ref a)) (k : K.lookup a = some ⟨.type "tuple", dd, .seq #[.int i t, .int j u] m, sl⟩) : GTup K mg x [i, j] :=
  ⟨a, _, _, m, h, k, rfl, rfl, by show 2 ≤ sizeLine; decide, .cons ⟨t, rfl⟩ (.cons ⟨u, rfl⟩ .nil)⟩
/-- an own exception class over ValueError, without an __init__ -/
structure XC (K : PySem.W.Frag) (mg : Str → Option Value) (c : Str) (C : Addr) : Prop where
  gg : mg c = some (.ref C)
  xx : PySem.W.excIn K C [.type "ValueError", .type "Exception", .type "BaseException", .type "object"] "ValueError.__new__" = true
  kk : PySem.W.keepIn K (.ref C) = true
  bb : PySem.W.subIn K (.ref C) (.type "BaseException") = some true
  tt : PySem.W.typeIn K (.ref C) = some (.type "type")
section
variable {X : Cx} {W : WX} {pos p : Pos} {x : Str} {e : Expr} {es : List Expr} {ga gk : A} {k n kk : Nat} {F : List PyData → RO PyData}
variable [Tbs]
theorem c_gI {i : Int} (hg : Gl X x) (h : GInt X.mg x i) (hdb : (x == ("__debug__" : Str)) = false := by decide) : CE X W (.Name x pos) (eC (.int i)) := by
  obtain ⟨t, h⟩ := h
  exact ce_gI hg h hdb
theorem c_gT {ks : List Int} (hg : Gl X x) (h : GTup X.K X.mg x ks) (hdb : (x == ("__debug__" : Str)) = false := by decide) : CE X W (.Name x pos) (eC (.tuple (ks.map .int))) := by
  obtain ⟨a, o, its, m, h1, h2, h3, h4, h5, h6⟩ := h
  exact ce_gT hg h1 h2 h3 h4 h5 h6 hdb
/-- a def whose last parameter has a default: f(x), f(x, y), f(x, name=y) -/
structure Dfn1 (P : Program) (w : World) (K : PySem.W.Frag) (mg : Str → Option Value) (base : Heap) (x : Str) (k : Nat) (nm : Str) (d0 : Int) (F : List PyData → RO PyData) : Prop where
  full : Dfn P w K mg base x k 2 F
  one : ∃ (f : Addr) (fd : FuncData) (ps : List Str) (ds : List Value), FnOk P w K mg base (L2.CX P w) k f fd ps (spD K mg 2 F) ∧ mg x = some (.ref f) ∧ PySem.W.keepIn K (.ref f) = true ∧ Binds K fd ps ds ∧ Vals [.int d0] ds
  key : ∃ (f : Addr) (fd : FuncData) (ps : List Str), FnOk P w K mg base (L2.CX P w) k f fd ps (spD K mg 2 F) ∧ mg x = some (.ref f) ∧ PySem.W.keepIn K (.ref f) = true ∧ KBn K fd ps 1 [nm] (fun us ws => us ++ ws) (fun vs zs => vs ++ zs)
theorem c_call1 {nm : Str} {d0 : Int} (G : Dfn1 X.prog X.w X.K X.mg X.base x k nm d0 F) (hr : Room kk X.A) (hk : k ≤ kk) (tk : Takes X W) (hg : Gl X x) (ha : CA X W (e :: es) ga) (hdb : (x == ("__debug__" : Str)) = false := by decide) (he : starEach (e :: es) X.env = (false, eval e X.env) :: starEach es X.env := by rfl) (hpl : (backTo pos (starEach es X.env)).any (·.1) = false := by rfl) :
    CE X W (.Call (.Name x p) (e :: es) [] pos) (eCallD 2 F [.int d0] ga) := by
  obtain ⟨f, fd, ps, ds, G, hm, hkp, hb, hd⟩ := G.one
  exact ce_callD G (hr.mono hk) tk hg hm hkp hb hd (fun H => .cons (.int d0) .nil) ha hdb he hpl
def eCallK (F : List PyData → RO PyData) (ga gk : A) : E := fun env => ga env >>= fun xs => gk env >>= fun ys => if xs.length = 1 ∧ ys.length = 1 then callD 2 F (xs ++ ys) else .no
theorem c_callk {nm : Str} {d0 : Int} {kws : List Keyword} (G : Dfn1 X.prog X.w X.K X.mg X.base x k nm d0 F) (hr : Room kk X.A) (hk : k ≤ kk) (tk : Takes X W) (hg : Gl X x) (ha : CA X W (e :: es) ga) (hkw : CKs X W kws gk) (hks : (backToKw pos (keywordEach kws X.env)).filterMap (·.1) = [nm] := by rfl)
    (hall : (backToKw pos (keywordEach kws X.env)).all (·.1.isSome) = true := by rfl)
    (hdb : (x == ("__debug__" : Str)) = false := by decide) (he : starEach (e :: es) X.env = (false, eval e X.env) :: starEach es X.env := by rfl)
    (hpl : ((backTo pos (starEach (e :: es) X.env)).any (·.1) || (backToKw pos (keywordEach kws X.env)).any (·.1.isNone)) = false := by rfl) :
    CE X W (.Call (.Name x p) (e :: es) kws pos) (eCallK F ga gk) := by
  obtain ⟨f, fd, ps, G, hm, hkp, hb⟩ := G.key
  exact ce_callK (ks := [nm]) (m := 1) (gD := fun xs ys => xs ++ ys) G (hr.mono hk) tk hg hm hkp hb (fun H vs zs xs ys h1 h2 => dpa_app h1 h2) ha hkw hks hall hdb he hpl
end
/-- such a def of the text -/
theorem dfn1_of [Tbs] {P : Program} {w : World} {K : PySem.W.Frag} {mg : Str → Option Value} {base : Heap} {x qual p1 nm : Str} {k : Nat} {d0 : Int} {st : Stmt} {f : Addr} {fd : FuncData} {N : List Str} {B : S} (Fn : FunD K x qual (defArgs st) (defBody st) (defScope st) [.int d0] [] f fd) (Sc : FnScope N [p1, nm] (defScope st)) (hm : mg x = some (.ref f))
    (b : ∀ (T : Addr) (kV doc pm : Value) (an : Option Addr) (cdv ct u v : Value), ∃ k, bindArgs (PySem.W.fnOf x qual (defArgs st) (defBody st) (defScope st) (.ref T) kV doc pm an cdv ct) ⟨[u, v], []⟩ = seqItems? (.ref T) >>= k ∧ ∀ z, k (some #[z]) = pure ([p1, nm].zip [u, v]))
    (b1 : ∀ (T : Addr) (kV doc pm : Value) (an : Option Addr) (cdv ct u : Value), ∃ k, bindArgs (PySem.W.fnOf x qual (defArgs st) (defBody st) (defScope st) (.ref T) kV doc pm an cdv ct) ⟨[u], []⟩ = seqItems? (.ref T) >>= k ∧ ∀ z, k (some #[z]) = pure ([p1, nm].zip [u, z]))
    (bk : ∀ (T : Addr) (kV doc pm : Value) (an : Option Addr) (cdv ct u v : Value), ∃ k, bindArgs (PySem.W.fnOf x qual (defArgs st) (defBody st) (defScope st) (.ref T) kV doc pm an cdv ct) ⟨[u], [(nm, v)]⟩ = seqItems? (.ref T) >>= k ∧ ∀ z, k (some #[z]) = pure ([p1, nm].zip [u, v]))
    (h : ∀ (cdv : Value) (A : Around) (outer : List PySem.Env) (s : Shared) (H : Hp) (E : XK), Room k (A.deeper (envOfC qual (defScope st) s.heap.objs.size f cdv)) →
      CSs (cxOf (L2.CX P w) P w K mg base N qual (defScope st) f cdv A outer s H E) (fun cls d _ H => E cls d H) (defBody st) B) : Dfn1 P w K mg base x (k + 1) nm d0 (runD N.length B) := by
  have G := okDD (P := P) (w := w) (mg := mg) (base := base) Fn Sc B h
  have two : ∀ {us : List Value}, us.length = 2 → ∃ u v, us = [u, v] := fun {us} hl => by
    rcases us with _ | ⟨u, _ | ⟨v, _ | ⟨_, _⟩⟩⟩
    · cases hl
    · cases hl
    · exact ⟨u, v, rfl⟩
    · cases hl
  have one1 : ∀ {us : List Value}, us.length = 1 → ∃ u, us = [u] := fun {us} hl => by
    rcases us with _ | ⟨u, _ | ⟨_, _⟩⟩
    · cases hl
    · exact ⟨u, rfl⟩
    · cases hl
  refine ⟨?_, ?_, ?_⟩
  · obtain ⟨ds, hv, hb⟩ := Fn.binds1 (ps := [p1, nm]) 2 1 (by simp) (by simp) fun T kV doc pm an cdv ct us its h1 h2 => by
      obtain ⟨u, v, rfl⟩ := two h1
      obtain ⟨z, rfl⟩ := one1 h2
      obtain ⟨k, e1, e2⟩ := b T kV doc pm an cdv ct u v
      exact ⟨k, e1, by simpa using e2 z⟩
    have e0 : ds = [] := by
      have hv' : Vals [] ds := hv
      cases hv'
      rfl
    subst e0
    exact ⟨f, fd, _, G, hm, Fn.kp, hb⟩
  · obtain ⟨ds, hv, hb⟩ := Fn.binds1 (ps := [p1, nm]) 1 0 (by simp) (by simp) fun T kV doc pm an cdv ct us its h1 h2 => by
      obtain ⟨u, rfl⟩ := one1 h1
      obtain ⟨z, rfl⟩ := one1 h2
      obtain ⟨k, e1, e2⟩ := b1 T kV doc pm an cdv ct u
      exact ⟨k, e1, by simpa using e2 z⟩
    exact ⟨f, fd, _, ds, G, hm, Fn.kp, hb, hv⟩
  · refine ⟨f, fd, _, G, hm, Fn.kp, ⟨fun s us ws KX h1 h2 => ?_, fun r1 r2 => r1.append r2⟩⟩
    obtain ⟨u, rfl⟩ := one1 h1
    obtain ⟨v, rfl⟩ := one1 h2
    obtain ⟨oc, od, dV, kV, doc, pm, an, cdv, ct, osl, rfl, lk, hcd, hD, hK⟩ := Fn.ex
    rcases hD with ⟨e, _⟩ | ⟨_, T, o, its, m, rfl, lT, oT, rT⟩
    · cases e
    · obtain ⟨z, rfl⟩ := one1 rT.length.symm
      obtain ⟨k, e1, e2⟩ := bk T kV doc pm an cdv ct u v
      refine BindsTo.of_looks fun M => ?_
      have e1' : bindArgs (PySem.W.fnOf x qual (defArgs st) (defBody st) (defScope st) (.ref T) kV doc pm an cdv ct) ⟨[u], [nm].zip [v]⟩ = seqItems? (.ref T) >>= k := e1
      rw [e1']
      exact looks_items KX lT oT (.of_pure (e2 z))
/-- what an except clause does with a class below (or not below) its own -/
theorem exm_of {K : PySem.W.Frag} {S D : Addr} {b : Bool} (h1 : PySem.W.subIn K (.ref D) (.type "BaseException") = some true) (h2 : PySem.W.isClsIn K D = true) (h3 : PySem.W.typeIn K (.ref D) = some (.type "type")) (h4 : PySem.W.subIn K (.ref S) (.ref D) = some b) :
    PySem.W.exmOne K (.ref S) (.ref D) = some b := by
  have e1 : (PySem.W.subIn K (.ref D) (.type "BaseException") == some true) = true := by rw [h1] <;> rfl
  have e2 : ((PySem.W.clsIn K D).isSome && PySem.W.typeIn K (.ref D) == some (.type "type")) = true := by
    have h2' : (PySem.W.clsIn K D).isSome = true := h2
    rw [h2', h3] <;> rfl
  show (if (PySem.W.subIn K (.ref D) (.type "BaseException") == some true) = true then (if ((PySem.W.clsIn K D).isSome && PySem.W.typeIn K (.ref D) == some (.type "type")) = true then PySem.W.subIn K (.ref S) (.ref D) else none) else none) = some b
  rw [if_pos e1, if_pos e2]
  exact h4
theorem kit_ofF {K : PySem.W.Frag} {S D : Addr} {b : Bool} (h0 : (Value.ref S == Value.ref D) = false) (h2 : PySem.W.isClsIn K D = true) (h3 : PySem.W.typeIn K (.ref D) = some (.type "type")) (h4 : PySem.W.subIn K (.ref S) (.ref D) = some b) :
    PySem.W.kitOne K (.ref S) (.ref D) = some b := by
  have e2 : ((PySem.W.clsIn K D).isSome && PySem.W.typeIn K (.ref D) == some (.type "type")) = true := by
    have h2' : (PySem.W.clsIn K D).isSome = true := h2
    rw [h2', h3] <;> rfl
  show (if (Value.ref S == Value.ref D) = true then some true else (if ((PySem.W.clsIn K D).isSome && PySem.W.typeIn K (.ref D) == some (.type "type")) = true then PySem.W.subIn K (.ref S) (.ref D) else none)) = some b
  rw [h0, if_neg Bool.false_ne_true, if_pos e2]
  exact h4
theorem kit_ofT {K : PySem.W.Frag} {S D : Addr} (h2 : PySem.W.isClsIn K D = true) (h3 : PySem.W.typeIn K (.ref D) = some (.type "type")) (h4 : PySem.W.subIn K (.ref S) (.ref D) = some true) :
    PySem.W.kitOne K (.ref S) (.ref D) = some true := by
  cases h0 : (Value.ref S == Value.ref D) with
  | false => exact kit_ofF h0 h2 h3 h4
  | true =>
    show (if (Value.ref S == Value.ref D) = true then some true else _) = some true
    rw [h0, if_pos rfl]
end PD
set_option Elab.async false
set_option linter.all false
set_option maxRecDepth 100000
set_option maxHeartbeats 4000000
namespace PD
open PySem PySem.Spec PyProof.Rows L2
/-! ### the mirrors, step by step -/
def outD : SO → RO PyData
  | .nx _ => .ok .none
  | .rt d => .ok d
  | .er _ c fl => .er c fl
  | _ => .no
section
variable {α β : Type} {env e1 : Env} {g h : S} {f fa fb f2 : E} {t u : T} {ga gb2 : A} {i n : Nat} {d x y : PyData} {ds xs : List PyData} {c : Str} {fl : Flds} {b : Bool} {B : S} {F : List PyData → RO PyData} {bi : PyData → PyData → Option PyData} {bc : List PyData → Option PyData} {bu : PyData → Option PyData}
theorem x_run : runD n B ds = outD (B (startE n ds)) := rfl
theorem x_out_nx : outD (.nx env) = .ok .none := rfl
theorem x_out_rt : outD (.rt d) = .ok d := rfl
theorem x_out_er : outD (.er env c fl) = .er c fl := rfl
def seqO (r : SO) (h : S) : SO := match r with
  | .nx e => h e
  | r => r
theorem x_seq : sSeq g h env = seqO (g env) h := rfl
theorem x_seq_nx : seqO (.nx env) h = h env := rfl
theorem x_seq_rt : seqO (.rt d) h = .rt d := rfl
theorem x_seq_er : seqO (.er env c fl) h = .er env c fl := rfl
theorem x_seq_ct : seqO (.ct env) h = .ct env := rfl
theorem x_seq_bk : seqO (.bk env) h = .bk env := rfl
theorem x_seq_ite {p : Prop} [Decidable p] {r s : SO} : seqO (if p then r else s) h = if p then seqO r h else seqO s h := by split <;> rfl
theorem x_ofR_ok {k : α → SO} {a : α} : ofR (.ok a) env k = k a := rfl
theorem x_ofR_er {k : α → SO} : ofR (.er c fl : RO α) env k = .er env c fl := rfl
theorem x_nx : sNx env = .nx env := rfl
theorem x_bk : sBk env = .bk env := rfl
theorem x_ct : sCt env = .ct env := rfl
theorem x_set : sSet i f env = ofR (f env) env fun d => .nx (env.set i (some (.fz d))) := rfl
theorem x_setL : sSetL i ga env = ofR (ga env) env fun ds => .nx (env.set i (some (.own ds))) := rfl
theorem x_ret : sRet f env = ofR (f env) env .rt := rfl
theorem x_drop : sDrop f env = ofR (f env) env fun _ => .nx env := rfl
theorem x_retN : sRetN env = .rt .none := rfl
theorem x_if : sIf t g h env = ofR (t env) env fun b => if b = true then g env else h env := rfl
theorem x_raise : sRaise c fl env = .er env c fl := rfl
theorem x_var : eVar i env = gv env i := rfl
theorem x_gv (h : env[i]? = some (some (.fz d))) : gv env i = .ok d := by
  unfold gv
  rw [h]
theorem x_gv0 {r : Env} : gv (some (.fz d) :: r) 0 = .ok d := rfl
theorem x_gvS {r : Env} {a : Option SV} : gv (a :: r) (i + 1) = gv r i := rfl
theorem x_gvo0 {r : Env} : gvo (some (.own ds) :: r) 0 = .ok ds := rfl
theorem x_gvoS {r : Env} {a : Option SV} : gvo (a :: r) (i + 1) = gvo r i := rfl
theorem x_gb : eB i env = gb env i := rfl
theorem x_gb0 {r : Env} : gb (some (.fz d) :: r) 0 = .ok d := rfl
theorem x_gbO {r : Env} : gb (some (.own ds) :: r) 0 = .ok (.list ds) := rfl
theorem x_gbS {r : Env} {a : Option SV} : gb (a :: r) (i + 1) = gb r i := rfl
theorem x_c : eC d env = .ok d := rfl
theorem x_op : eOp bi fa fb env = (fa env >>= fun x => fb env >>= fun y => ofO (bi x y)) := rfl
theorem x_cm : tCm bi fa fb env = (fa env >>= fun x => fb env >>= fun y => ofO (bi x y) >>= tb) := rfl
theorem x_un : eUn bu fa env = (fa env >>= fun x => ofO (bu x)) := rfl
theorem x_bf : eBf bc ga env = (ga env >>= fun ds => ofO (bc ds)) := rfl
theorem x_isi {T : String} : eIsi T f env = (f env >>= fun d => ofO (isiO T d)) := rfl
theorem x_ix : eIx fa fb env = (fa env >>= fun x => fb env >>= fun y => ofO (dIx x y)) := rfl
theorem x_ixO : eIxO i fb env = (gvo env i >>= fun xs => fb env >>= fun y => ofO (dIx (.list xs) y)) := rfl
theorem x_ofO_some {a : α} : ofO (some a) = RO.ok a := rfl
theorem x_anil : aNil env = .ok [] := rfl
theorem x_acons : aCons f ga env = (f env >>= fun x => ga env >>= fun xs => RO.ok (x :: xs)) := rfl
theorem x_tup : eTup ga env = (ga env >>= fun xs => if xs.length ≤ sizeLine then RO.ok (.tuple xs) else .no) := rfl
theorem x_lst : lLst ga env = (ga env >>= fun xs => if xs.length ≤ sizeLine then RO.ok xs else .no) := rfl
theorem x_eL : eL ga env = (ga env >>= fun ds => RO.ok (.list ds)) := rfl
theorem x_tb : tb (.bool b) = .ok b := rfl
theorem x_nt : tNt t env = (t env >>= fun b => RO.ok (!b)) := rfl
theorem x_an : tAn t u env = (t env >>= fun b => if b = true then u env else RO.ok false) := rfl
theorem x_or : tOr t u env = (t env >>= fun b => if b = true then RO.ok true else u env) := rfl
theorem x_ent : eNt f env = (f env >>= tb >>= fun b => RO.ok (.bool !b)) := rfl
theorem x_ean : eAn fa fb env = (fa env >>= tb >>= fun b => if b = true then fb env else RO.ok (.bool false)) := rfl
theorem x_eor : eOr fa fb env = (fa env >>= tb >>= fun b => if b = true then RO.ok (.bool true) else fb env) := rfl
theorem x_eif : eIf t fa fb env = (t env >>= fun b => if b = true then fa env else fb env) := rfl
theorem x_tT : tT f env = (f env >>= tru) := rfl
theorem x_tV : tV f env = (f env >>= tb) := rfl
theorem x_tY : tY env = .ok true := rfl
theorem x_call : eCall n F ga env = (ga env >>= callD n F) := rfl
theorem x_callD {dd : List PyData} : eCallD n F dd ga env = (ga env >>= fun xs => callD n F (xs ++ dd)) := rfl
theorem x_callK {gk : A} : eCallK F ga gk env = (ga env >>= fun xs => gk env >>= fun ys => if xs.length = 1 ∧ ys.length = 1 then callD 2 F (xs ++ ys) else .no) := rfl
theorem x_cd1 {a : PyData} : callD 1 F [a] = F [a] := rfl
theorem x_cd2 {a b : PyData} : callD 2 F [a, b] = F [a, b] := rfl
theorem x_cd3 {a b c : PyData} : callD 3 F [a, b, c] = F [a, b, c] := rfl
theorem x_cd4 {a b c d : PyData} : callD 4 F [a, b, c, d] = F [a, b, c, d] := rfl
theorem x_st0 : startE 0 [] = [] := rfl
theorem x_stS : startE (n + 1) (d :: ds) = some (.fz d) :: startE n ds := by
  unfold startE
  simp
theorem x_stN : startE (n + 1) [] = none :: startE n [] := by
  unfold startE
  simp [List.replicate_succ]
theorem x_wh {k : Nat} : sWh k t g env = whileGo t g k env := rfl
theorem x_for {gg : G} : sFor ga gg g env = ofR (ga env) env fun items => forGo gg g items env := rfl
theorem x_iseq : iSeq f env = (f env >>= dIter) := rfl
theorem x_ir1 : iR1 f env = (f env >>= rng1) := rfl
theorem x_ir2 : iR2 fa fb env = (fa env >>= fun x => fb env >>= fun y => rng2 x y) := rfl
theorem x_add {i j : Int} : dAdd (.int i) (.int j) = some (.int (i + j)) := rfl
theorem x_sub {i j : Int} : dSub (.int i) (.int j) = some (.int (i - j)) := rfl
theorem x_mul {i j : Int} (h : mulOk i j = true) : dMul (.int i) (.int j) = some (.int (i * j)) := by
  show (if mulOk i j = true then some (PyData.int (i * j)) else none) = _
  rw [if_pos h]
theorem x_div {i j : Int} (h : divOk j = true) : dDiv (.int i) (.int j) = some (.int (i.fdiv j)) := by
  show (if divOk j = true then some (PyData.int (i.fdiv j)) else none) = _
  rw [if_pos h]
theorem x_mod {i j : Int} (h : 0 < j) : dMod (.int i) (.int j) = some (.int (i % j)) := by
  show (if 0 < j then some (PyData.int (i % j)) else none) = _
  rw [if_pos h]
theorem x_neg {i : Int} : dNeg (.int i) = some (.int (-i)) := rfl
theorem x_dcmp {p : Int → Int → Bool} {i j : Int} : dCmp p (.int i) (.int j) = some (.bool (p i j)) := rfl
theorem x_eqI {i j : Int} : dEq (.int i) (.int j) = some (.bool (decide (i = j))) := rfl
theorem x_neI {i j : Int} : dNe (.int i) (.int j) = some (.bool !(decide (i = j))) := rfl
theorem x_absI {i : Int} : cAbs [.int i] = some (.int (if i < 0 then -i else i)) := rfl
theorem x_intI {i : Int} : cInt [.int i] = some (.int i) := rfl
theorem x_gcdI {i j : Int} : cGcd [.int i, .int j] = some (.int (Int.gcd i j)) := rfl
theorem x_maxI {i j : Int} : cMax [.int i, .int j] = some (.int (if j > i then j else i)) := rfl
theorem x_minI {i j : Int} : cMin [.int i, .int j] = some (.int (if j < i then j else i)) := rfl
theorem x_lenL : cLen [.list xs] = some (.int xs.length) := rfl
theorem x_lenT : cLen [.tuple xs] = some (.int xs.length) := rfl
theorem x_ixL {i : Int} : dIx (.list xs) (.int i) = atI xs i := rfl
theorem x_ixT {i : Int} : dIx (.tuple xs) (.int i) = atI xs i := rfl
theorem x_at0 {a : α} {l : List α} : atI (a :: l) 0 = some a := atI_nat (j := 0) rfl
theorem x_at1 {a b : α} {l : List α} : atI (a :: b :: l) 1 = some b := atI_nat (j := 1) rfl
theorem x_sz0 : (([] : List PyData).length ≤ sizeLine) = True := eq_true (Nat.zero_le _)
theorem x_sz1 {a : PyData} : ([a].length ≤ sizeLine) = True := eq_true (by show 1 ≤ sizeLine; decide)
theorem x_sz2 {a b : PyData} : ([a, b].length ≤ sizeLine) = True := eq_true (by show 2 ≤ sizeLine; decide)
theorem x_sz3 {a b c : PyData} : ([a, b, c].length ≤ sizeLine) = True := eq_true (by show 3 ≤ sizeLine; decide)
theorem x_len1 {a : PyData} : ([a].length = 1) = True := eq_true rfl
theorem x_dt {p : Prop} [Decidable p] (h : p) : decide p = true := decide_eq_true h
theorem x_df {p : Prop} [Decidable p] (h : ¬p) : decide p = false := decide_eq_false h
def forB (r : SO) (k : PD.Env → SO) : SO := match r with
  | .nx e => k e
  | .ct e => k e
  | .bk e => .nx e
  | r => r
theorem x_forN {xs : List PyData} {r : PD.Env} : forGo (gN i) g (x :: xs) r = forB (g (r.set i (some (.fz x)))) (forGo (gN i) g xs) := rfl
theorem x_for0 {gg : G} {r : PD.Env} : forGo gg g [] r = .nx r := rfl
theorem x_fB_nx {k : PD.Env → SO} : forB (.nx env) k = k env := rfl
theorem x_fB_ct {k : PD.Env → SO} : forB (.ct env) k = k env := rfl
theorem x_fB_bk {k : PD.Env → SO} : forB (.bk env) k = .nx env := rfl
theorem x_fB_rt {k : PD.Env → SO} : forB (.rt d) k = .rt d := rfl
theorem x_fB_er {k : PD.Env → SO} : forB (.er env c fl) k = .er env c fl := rfl
theorem x_iTT : isiO "tuple" (.tuple xs) = some (.bool true) := rfl
theorem x_iTL : isiO "tuple" (.list xs) = some (.bool false) := rfl
theorem x_iTI {j : Int} : isiO "tuple" (.int j) = some (.bool false) := rfl
theorem x_iLT : isiO "list" (.tuple xs) = some (.bool false) := rfl
theorem x_iLL : isiO "list" (.list xs) = some (.bool true) := rfl
theorem x_iII {j : Int} : isiO "int" (.int j) = some (.bool true) := rfl
theorem x_iBI {j : Int} : isiO "bool" (.int j) = some (.bool false) := rfl
theorem x_iSS {z : Str} : isiO "str" (.str z) = some (.bool true) := rfl
theorem x_iBB : isiO "bool" (.bool b) = some (.bool true) := rfl
theorem x_truB : tru (.bool b) = .ok b := rfl
theorem x_itT : dIter (.tuple xs) = .ok xs := rfl
theorem x_itL : dIter (.list xs) = .ok xs := rfl
def tryB (r : SO) (i : Nat) (mtc : Str → Option Bool) (fx : Str → Flds → PD.Env → RO PyData) : SO := match r with
  | .er e1 c fl => (match mtc c with
    | some true => if i < e1.length then (match fx c fl (e1.set i none) with | .ok d => .rt d | _ => .no) else .no
    | some false => .er e1 c fl
    | none => .no)
  | r => r
theorem x_try {mtc : Str → Option Bool} {fx : Str → Flds → PD.Env → RO PyData} : sTryR i g mtc fx env = tryB (g env) i mtc fx := rfl
theorem x_try_er {mtc : Str → Option Bool} {fx : Str → Flds → PD.Env → RO PyData} (h : mtc c = some true) (hl : i < env.length) {v : PyData} (hv : fx c fl (env.set i none) = .ok v) : tryB (.er env c fl) i mtc fx = .rt v := by
  unfold tryB
  dsimp only
  rw [h]
  dsimp only
  rw [if_pos hl, hv]
theorem x_gN : gN i d env = .ok (env.set i (some (.fz d))) := rfl
end
end PD
set_option Elab.async false
set_option linter.all false
set_option maxRecDepth 100000
set_option maxHeartbeats 4000000
namespace PD
open PySem PySem.Spec PyProof.Rows L2
/-! ### sizes -/
def Sm (n : Nat) (i : Int) : Prop := i.natAbs < 2 ^ n
theorem Sm.mono {n m : Nat} {i : Int} (h : Sm n i) (l : n ≤ m) : Sm m i := Nat.lt_of_lt_of_le h (Nat.pow_le_pow_right (by decide) l)
theorem Sm.le {n : Nat} {i j : Int} (h : Sm n i) (l : j.natAbs ≤ i.natAbs) : Sm n j := Nat.lt_of_le_of_lt l h
theorem Sm.mul {n m : Nat} {i j : Int} (h : Sm n i) (k : Sm m j) : Sm (n + m) (i * j) := by
  unfold Sm at *
  rw [Int.natAbs_mul, Nat.pow_add]
  exact Nat.mul_lt_mul'' h k
theorem Sm.neg {n : Nat} {i : Int} (h : Sm n i) : Sm n (-i) := by
  unfold Sm at *
  rw [Int.natAbs_neg]
  exact h
theorem Sm.add {n : Nat} {i j : Int} (h : Sm n i) (k : Sm n j) : Sm (n + 1) (i + j) := by
  unfold Sm at *
  have := Int.natAbs_add_le i j
  rw [Nat.pow_succ]
  omega
theorem Sm.sub {n : Nat} {i j : Int} (h : Sm n i) (k : Sm n j) : Sm (n + 1) (i - j) := by
  have := Sm.add h k.neg
  rwa [Int.add_neg_eq_sub] at this
theorem Sm.log {n : Nat} {i : Int} (h : Sm n i) : i.natAbs.log2 ≤ n := by
  by_cases z : i.natAbs = 0
  · rw [z]
    exact Nat.le_trans (by decide : Nat.log2 0 ≤ 0) (Nat.zero_le _)
  · exact Nat.le_of_lt ((Nat.log2_lt z).mpr h)
theorem Sm.abs {n : Nat} {i : Int} (h : Sm n i) : Sm n (if i < 0 then -i else i) := by
  split
  · exact h.neg
  · exact h
theorem mulOk_sm {m n : Nat} {i j : Int} (h : Sm m i) (k : Sm n j) (l : m + n < 100000000 := by decide) : mulOk i j = true := by
  have h1 := h.log
  have h2 := k.log
  exact decide_eq_true (by omega)
theorem divOk_sm {n : Nat} {j : Int} (h : Sm n j) (z : j ≠ 0) (l : n < 9000 := by decide) : divOk j = true := by
  unfold divOk
  rw [Bool.and_eq_true]
  exact ⟨decide_eq_true z, decide_eq_true (Nat.lt_of_le_of_lt h.log l)⟩
theorem divOk_le {i j : Int} {n : Nat} (h : Sm n j) (z : i ≠ 0) (l : i.natAbs ≤ j.natAbs) (l2 : n < 9000 := by decide) : divOk i = true := divOk_sm (h.le l) z l2
/-! ### lowest terms -/
theorem low_facts (a b : Int) (hb : b ≠ 0) : ∃ p q : Int, a = Int.gcd a b * p ∧ b = Int.gcd a b * q ∧ Int.gcd p q = 1 ∧ 0 < (Int.gcd a b : Int) := by
  have hg : 0 < Int.gcd a b := Int.gcd_pos_of_ne_zero_right a hb
  obtain ⟨p, hp⟩ := Int.gcd_dvd_left a b
  obtain ⟨q, hq⟩ := Int.gcd_dvd_right a b
  refine ⟨p, q, hp, hq, ?_, Int.natCast_pos.mpr hg⟩
  have e : Int.gcd ((Int.gcd a b : Int) * p) ((Int.gcd a b : Int) * q) = Int.gcd a b * Int.gcd p q := by
    rw [Int.gcd_mul_left, Int.natAbs_natCast]
  rw [← hp, ← hq] at e
  exact Nat.eq_of_mul_eq_mul_left hg (by rw [Nat.mul_one]; exact e.symm)
theorem fdiv_neg_gcd {g p : Int} (h : 0 < g) : (g * p).fdiv (-g) = -p := by
  rw [show g * p = (-g) * (-p) by rw [Int.neg_mul_neg], Int.mul_fdiv_cancel_left _ (by omega)]
theorem fdiv_gcd {g p : Int} (h : 0 < g) : (g * p).fdiv g = p := Int.mul_fdiv_cancel_left _ (by omega)
/-! ### loops -/
theorem forGo_inv {gg : G} {body : S} (P : PyData → Prop) (I : PD.Env → Prop) (h : ∀ d env, P d → I env → ∃ e1, gg d env = .ok e1 ∧ ∃ e2, (body e1 = .nx e2 ∨ body e1 = .ct e2) ∧ I e2) : ∀ items env, (∀ d ∈ items, P d) → I env → ∃ env', forGo gg body items env = .nx env' ∧ I env'
  | [], env, _, hi => ⟨env, rfl, hi⟩
  | d :: items, env, hp, hi => by
    obtain ⟨e1, h1, e2, h2, h3⟩ := h d env (hp d (List.mem_cons_self ..)) hi
    obtain ⟨e3, h4, h5⟩ := forGo_inv P I h items e2 (fun x hx => hp x (List.mem_cons_of_mem _ hx)) h3
    refine ⟨e3, ?_, h5⟩
    show (match gg d env with
      | .ok e1 => match body e1 with
        | .nx e => forGo gg body items e
        | .ct e => forGo gg body items e
        | .bk e => .nx e
        | r => r
      | _ => .no) = _
    rw [h1]
    rcases h2 with h2 | h2
    · show (match body e1 with
        | .nx e => forGo gg body items e
        | .ct e => forGo gg body items e
        | .bk e => .nx e
        | r => r) = _
      rw [h2]
      exact h4
    · show (match body e1 with
        | .nx e => forGo gg body items e
        | .ct e => forGo gg body items e
        | .bk e => .nx e
        | r => r) = _
      rw [h2]
      exact h4
theorem rng1_ok {n : Nat} (h : n ≤ 1000) : rng1 (.int n) = .ok (rngItems 0 n) := by
  unfold rng1
  dsimp only
  rw [if_pos ⟨by omega, by omega⟩, Int.toNat_natCast]
theorem whileGo_stop {t : T} {body : S} {n : Nat} {env : PD.Env} (h : t env = .ok false) : whileGo t body (n + 1) env = .nx env := by
  show ofR (t env) env _ = _
  rw [h]
  rfl
theorem whileGo_step {t : T} {body : S} {n : Nat} {env e1 : PD.Env} (h : t env = .ok true) (h2 : body env = .nx e1) : whileGo t body (n + 1) env = whileGo t body n e1 := by
  show ofR (t env) env _ = _
  rw [h]
  show (if true = true then (match body env with
      | .nx e => whileGo t body n e
      | .ct e => whileGo t body n e
      | .bk e => .nx e
      | r => r) else .nx env) = _
  rw [if_pos rfl, h2]
def Keeps (I : PD.Env → Prop) : SO → Prop
  | .nx e => I e
  | .ct e => I e
  | _ => False
theorem forGo_keep {gg : G} {body : S} (P : PyData → Prop) (I : PD.Env → Prop) (h : ∀ d env, P d → I env → ∃ e1, gg d env = .ok e1 ∧ Keeps I (body e1)) (items : List PyData) (env : PD.Env) (hp : ∀ d ∈ items, P d) (hi : I env) : ∃ env', forGo gg body items env = .nx env' ∧ I env' :=
  forGo_inv P I (fun d env h1 h2 => by
    obtain ⟨e1, h3, h4⟩ := h d env h1 h2
    refine ⟨e1, h3, ?_⟩
    cases hb : body e1 with
    | nx e => rw [hb] at h4; exact ⟨e, .inl rfl, h4⟩
    | ct e => rw [hb] at h4; exact ⟨e, .inr rfl, h4⟩
    | rt d => rw [hb] at h4; exact h4.elim
    | bk e => rw [hb] at h4; exact h4.elim
    | er e c fl => rw [hb] at h4; exact h4.elim
    | no => rw [hb] at h4; exact h4.elim) items env hp hi
/-- a state whose first slot holds that, with so many more -/
def Held (d : PyData) (n : Nat) (env : PD.Env) : Prop := ∃ r : List (Option SV), r.length = n ∧ env = some (.fz d) :: r
end PD
set_option Elab.async false
set_option linter.all false
set_option maxRecDepth 100000
set_option maxHeartbeats 4000000
namespace PD
open PySem PySem.Spec PyProof.Rows L2
/-! ### lcm -/
def lcmOk (i j : Int) : Bool := decide (i.natAbs.log2 < 13000) && decide (j.natAbs.log2 < 13000)
def rLcm : List V → Hp → VK → Prop := fun vs H Q => ∃ a b : Int, vs = [.int a, .int b] ∧ lcmOk a b = true ∧ Q (.int ((Nat.lcm a.natAbs b.natAbs : Nat) : Int)) H
theorem log_max {a b k : Nat} (h1 : a.log2 < k) (h2 : b.log2 < k) : (max a b).log2 < k := by
  rcases Nat.le_total a b with h | h
  · rw [Nat.max_eq_right h]
    exact h2
  · rw [Nat.max_eq_left h]
    exact h1
theorem lcm_log {a b : Nat} (h1 : a.log2 < 13000) (h2 : b.log2 < 13000) : (a.lcm b).log2 < bitsLine := by
  have l : bitsLine = 134217728 := by decide
  by_cases z : a.lcm b = 0
  · rw [z, Nat.log2_zero, l]
    decide
  · have hb : ∀ x : Nat, x.log2 < 13000 → x < 2 ^ 13000 := fun x hx => by
      by_cases e : x = 0
      · rw [e]
        exact Nat.two_pow_pos _
      · exact (Nat.log2_lt e).mp hx
    have h3 : a.lcm b ≤ a * b := Nat.le_of_dvd (by
      rcases Nat.eq_zero_or_pos (a * b) with e | e
      · rcases Nat.mul_eq_zero.mp e with e | e
        · rw [e, Nat.lcm_zero_left] at z
          exact absurd rfl z
        · rw [e, Nat.lcm_zero_right] at z
          exact absurd rfl z
      · exact e) (Nat.lcm_dvd (Nat.dvd_mul_right a b) (Nat.dvd_mul_left b a))
    have h4 : a.lcm b < 2 ^ 26000 := Nat.lt_of_le_of_lt h3 (by
      have := Nat.mul_lt_mul'' (hb a h1) (hb b h2)
      rwa [← Nat.pow_add] at this)
    exact Nat.lt_of_lt_of_le ((Nat.log2_lt z).mpr h4) (by rw [l]; decide)
section
variable {X : Cx} {W : WX} {e : Expr} {es : List Expr} {ga : A} {pos p : Pos}
variable [Tbs]
theorem cr_lcm : CallR X (.builtin "math.lcm") rLcm := by
  intro pins s σ H vs us Q I r h
  obtain ⟨a, b, rfl, hl, q⟩ := h
  obtain ⟨t, u, rfl⟩ := Vals.int2 r
  unfold lcmOk at hl
  simp only [Bool.and_eq_true, decide_eq_true_eq] at hl
  have h1 : (max 1 a.natAbs).log2 < 13000 := log_max (by decide +kernel) hl.1
  have h2 : (max a.natAbs b.natAbs).log2 < 13000 := log_max hl.1 hl.2
  have g := PySem.W.mg_run_lcm a t b u (by omega) (by omega) (by
    show ((Nat.lcm 1 a.natAbs).lcm b.natAbs).log2 < bitsLine
    rw [Nat.lcm_one_left]
    exact lcm_log hl.1 hl.2)
  rw [Nat.lcm_one_left] at g
  exact call_function_meets PySem.W.MGF.kind_lcm PySem.W.MGF.plain_lcm PySem.W.MGF.entry_lcm (PySem.W.MGF.args_lcm _ _) g.meets ⟨.int _, H, I.tok _, ⟨_, rfl⟩, q⟩
def cLcm : List PyData → Option PyData
  | [.int i, .int j] => if lcmOk i j = true then some (.int (Nat.lcm i.natAbs j.natAbs : Nat)) else none
  | _ => none
theorem cal_lcm : CalB X (.builtin "math.lcm") cLcm := fun ds d e => by
  refine ⟨_, cr_lcm, fun H vs Q hv k => ?_⟩
  rcases ds with _ | ⟨x, _ | ⟨y, _ | ⟨z, r⟩⟩⟩
  · cases e
  · cases x <;> cases e
  · obtain ⟨v, u, rfl, hx, hy⟩ := dpa2 hv
    cases x <;> first | (cases e; done) | skip
    cases y <;> first | (cases e; done) | skip
    cases dp_int hx
    cases dp_int hy
    simp only [cLcm] at e
    split at e
    · rename_i hz
      cases e
      exact ⟨_, _, rfl, hz, k _ fun H' => .int _⟩
    · cases e
  · cases x <;> cases y <;> cases e
theorem c_lcm (hg : Gl X "lcm") (hm : X.mg "lcm" = some (.builtin "math.lcm")) (ha : CA X W (e :: es) ga) (he : starEach (e :: es) X.env = (false, eval e X.env) :: starEach es X.env := by rfl) (hpl : (backTo pos (starEach es X.env)).any (·.1) = false := by rfl) :
    CE X W (.Call (.Name "lcm" p) (e :: es) [] pos) (eBf cLcm ga) := ce_bi cal_lcm.cal hg hm ha (by decide) he hpl
/-! ### x in a list -/
def dIn : PyData → PyData → Option PyData
  | x, .list ds => if SeqAt.shaped x = true ∧ x.depth ≤ 60 ∧ SeqAt.shaped (.list ds) = true then some (.bool (ds.any fun z => PyData.eqv z x)) else none
  | _, _ => none
def dNin (x y : PyData) : Option PyData := match dIn x y with
  | some (.bool b) => some (.bool !b)
  | _ => none
def rInS2 (K : PySem.W.Frag) : R2 := fun x y H Q => ∃ d ds, Dp K H x d ∧ Dp K H y (.list ds) ∧ SeqAt.shaped d = true ∧ d.depth ≤ 60 ∧ SeqAt.shaped (.list ds) = true ∧ Q (.bl (ds.any fun z => PyData.eqv z d)) H
def rNinS2 (K : PySem.W.Frag) : R2 := fun x y H Q => ∃ d ds, Dp K H x d ∧ Dp K H y (.list ds) ∧ SeqAt.shaped d = true ∧ d.depth ≤ 60 ∧ SeqAt.shaped (.list ds) = true ∧ Q (.bl (!ds.any fun z => PyData.eqv z d)) H
theorem op_inS2 (hu : X.A.units + 64 < cLine) : OpR X (compareOp .In) (rInS2 X.K) := by
  intro pins s σ H x y v u Q I rx ry h
  obtain ⟨d, ds, hd, he, sd, dd, se, q⟩ := h
  obtain ⟨as, r1⟩ := Dp.reads I d x v hd rx
  obtain ⟨bs, r2⟩ := Dp.reads I (.list ds) y u he ry
  exact SeqAt.in_list_reads r2 r1 (SeqAt.canLay_of_shaped se) (SeqAt.canLay_of_shaped sd) (by
    have := Nat.min_le_right (PyData.depthAll ds) d.depth
    omega) ⟨.bl _, H, I, rfl, q⟩
theorem op_ninS2 (hu : X.A.units + 64 < cLine) : OpR X (compareOp .NotIn) (rNinS2 X.K) := by
  intro pins s σ H x y v u Q I rx ry h
  obtain ⟨d, ds, hd, he, sd, dd, se, q⟩ := h
  obtain ⟨as, r1⟩ := Dp.reads I d x v hd rx
  obtain ⟨bs, r2⟩ := Dp.reads I (.list ds) y u he ry
  exact SeqAt.notIn_list_reads r2 r1 (SeqAt.canLay_of_shaped se) (SeqAt.canLay_of_shaped sd) (by
    have := Nat.min_le_right (PyData.depthAll ds) d.depth
    omega) ⟨.bl _, H, I, rfl, q⟩
theorem dIn_some {x y d : PyData} (e : dIn x y = some d) : ∃ ds, y = .list ds ∧ SeqAt.shaped x = true ∧ x.depth ≤ 60 ∧ SeqAt.shaped (.list ds) = true ∧ d = .bool (ds.any fun z => PyData.eqv z x) := by
  cases y <;> first | (simp only [dIn] at e; cases e; done) | skip
  rename_i ds
  simp only [dIn] at e
  split at e
  · rename_i hz
    cases e
    exact ⟨ds, rfl, hz.1, hz.2.1, hz.2.2, rfl⟩
  · cases e
theorem bin_in (hu : X.A.units + 64 < cLine) : BinB X (compareOp .In) dIn := fun dx dy d e => by
  obtain ⟨ds, rfl, h1, h2, h3, rfl⟩ := dIn_some e
  exact ⟨_, op_inS2 hu, fun H vx vy Q hx hy k => ⟨dx, ds, hx, hy, h1, h2, h3, k _ fun H' => .bl _⟩⟩
theorem bin_nin (hu : X.A.units + 64 < cLine) : BinB X (compareOp .NotIn) dNin := fun dx dy d e => by
  unfold dNin at e
  cases hi : dIn dx dy with
  | none => rw [hi] at e; cases e
  | some z =>
    obtain ⟨ds, rfl, h1, h2, h3, rfl⟩ := dIn_some hi
    rw [hi] at e
    cases e
    exact ⟨_, op_ninS2 hu, fun H vx vy Q hx hy k => ⟨dx, ds, hx, hy, h1, h2, h3, k _ fun H' => .bl _⟩⟩
end
theorem x_lcm {i j : Int} (h : lcmOk i j = true) : cLcm [.int i, .int j] = some (.int (Int.lcm i j)) := by
  show (if lcmOk i j = true then some (PyData.int (Nat.lcm i.natAbs j.natAbs : Nat)) else none) = _
  rw [if_pos h]
  rfl
/-! ### more of the mirrors' steps -/
section
variable {g : S} {env : PD.Env} {d x y : PyData} {i j : Nat} {fa : E} {fl fh : OI} {ga : A} {xs : List PyData} {b c : Bool}
theorem x_eqB : dEq (.bool b) (.bool c) = some (.bool (decide (b = c))) := rfl
theorem x_neB : dNe (.bool b) (.bool c) = some (.bool !(decide (b = c))) := rfl
theorem x_intB : cInt [.bool b] = some (.int (if b then 1 else 0)) := rfl
theorem x_iIB : isiO "int" (.bool b) = some (.bool true) := rfl
theorem x_gT2 : gT 2 (gsC (gN i) (gsC (gN j) gsN)) (.tuple [x, y]) env = .ok ((env.set i (some (.fz x))).set j (some (.fz y))) := rfl
theorem x_lLi : lLi fa env = (fa env >>= dSeq) := rfl
theorem x_eTu : eTu fa env = (fa env >>= dSeq >>= fun xs => RO.ok (.tuple xs)) := rfl
theorem x_eTuO : eTuO i env = (gvo env i >>= fun xs => RO.ok (.tuple xs)) := rfl
theorem x_eLeO : eLeO i env = (gvo env i >>= fun xs => RO.ok (.int xs.length)) := rfl
theorem x_dSeqL : dSeq (.list xs) = .ok xs := rfl
theorem x_dSeqT : dSeq (.tuple xs) = .ok xs := rfl
theorem x_oN : oN env = .ok none := rfl
theorem x_oS : oS fa env = (fa env >>= tI >>= fun i => RO.ok (some i)) := rfl
theorem x_tI {k : Int} : tI (.int k) = .ok k := rfl
theorem x_sl : eSl fa fl fh env = (fa env >>= fun x => fl env >>= fun l => fh env >>= fun u => dCut x l u) := rfl
theorem x_cutL {l h : Option Int} : dCut (.list xs) l h = .ok (.list (cutD xs l h)) := rfl
theorem x_cutT {l h : Option Int} : dCut (.tuple xs) l h = .ok (.tuple (cutD xs l h)) := rfl
theorem x_comp {gg : G} {t : T} {f : E} {ws : List Nat} : lComp ga gg t f ws env = (ga env >>= fun items => compD gg t f (wipeE env ws) items) := rfl
theorem x_app {k : Nat} : sApp k fa env = ofR (gvo env k) env fun xs => ofR (fa env) env fun d => if xs.length < sizeLine then .nx (env.set k (some (.own (xs ++ [d])))) else .no := rfl
theorem x_asg {gg : G} : sAsg fa gg env = ofR (fa env) env fun d => match gg d env with
  | .ok e => .nx e
  | _ => .no := rfl
theorem x_aug : sAug i fa env = ofR (gv env i) env fun x => ofR (fa env) env fun y => ofR (ofO (dAugAdd x y)) env fun d => .nx (env.set i (some (.fz d))) := rfl
end
theorem forGo_pre {β : Type} {gg : G} {body : S} (f : β → PyData) (I : List β → PD.Env → Prop) : ∀ (xs pre : List β) (env : PD.Env), (∀ p x q env, pre ++ xs = p ++ x :: q → I p env → ∃ e1, gg (f x) env = .ok e1 ∧ Keeps (I (p ++ [x])) (body e1)) → I pre env →
    ∃ env', forGo gg body (xs.map f) env = .nx env' ∧ I (pre ++ xs) env'
  | [], pre, env, _, h0 => ⟨env, rfl, by rw [List.append_nil]; exact h0⟩
  | x :: xs, pre, env, h, h0 => by
    obtain ⟨e1, h1, h2⟩ := h pre x xs env rfl h0
    have fin : ∀ e, I (pre ++ [x]) e → ∃ env', forGo gg body (xs.map f) e = .nx env' ∧ I (pre ++ x :: xs) env' := fun e he => by
      obtain ⟨env', h4, h5⟩ := forGo_pre f I xs (pre ++ [x]) e (fun p y q env hp hi => h p y q env (by rw [← hp, List.append_assoc]; rfl) hi) he
      exact ⟨env', h4, by rw [List.append_assoc] at h5; exact h5⟩
    cases hb : body e1 with
    | nx e =>
      rw [hb] at h2
      obtain ⟨env', h4, h5⟩ := fin e h2
      refine ⟨env', ?_, h5⟩
      rw [← h4]
      show (match gg (f x) env with
        | .ok e1 => match body e1 with
          | .nx e => forGo gg body (xs.map f) e
          | .ct e => forGo gg body (xs.map f) e
          | .bk e => .nx e
          | r => r
        | _ => .no) = _
      rw [h1]
      show (match body e1 with
          | .nx e => forGo gg body (xs.map f) e
          | .ct e => forGo gg body (xs.map f) e
          | .bk e => .nx e
          | r => r) = _
      rw [hb]
    | ct e =>
      rw [hb] at h2
      obtain ⟨env', h4, h5⟩ := fin e h2
      refine ⟨env', ?_, h5⟩
      rw [← h4]
      show (match gg (f x) env with
        | .ok e1 => match body e1 with
          | .nx e => forGo gg body (xs.map f) e
          | .ct e => forGo gg body (xs.map f) e
          | .bk e => .nx e
          | r => r
        | _ => .no) = _
      rw [h1]
      show (match body e1 with
          | .nx e => forGo gg body (xs.map f) e
          | .ct e => forGo gg body (xs.map f) e
          | .bk e => .nx e
          | r => r) = _
      rw [hb]
    | rt d => rw [hb] at h2; exact h2.elim
    | bk e => rw [hb] at h2; exact h2.elim
    | er e c fl => rw [hb] at h2; exact h2.elim
    | no => rw [hb] at h2; exact h2.elim
/-- a comprehension without a test -/
theorem compGo_map {β : Type} {gg : G} {f : E} {env : PD.Env} (fi : β → PyData) (fo : β → PyData) : ∀ (xs : List β), (∀ x ∈ xs, ∃ e1, gg (fi x) env = .ok e1 ∧ f e1 = .ok (fo x)) → compGo gg tY f env (xs.map fi) = .ok (xs.map fo)
  | [], _ => rfl
  | x :: xs, h => by
    obtain ⟨e1, h1, h2⟩ := h x (List.mem_cons_self ..)
    have h3 := compGo_map fi fo xs fun y hy => h y (List.mem_cons_of_mem _ hy)
    show (quiet (gg (fi x) env) >>= fun e1 => quiet (tY e1) >>= fun b => if b = true then quiet (f e1) >>= fun y => compGo gg tY f env (xs.map fi) >>= fun ys => RO.ok (y :: ys) else compGo gg tY f env (xs.map fi)) = _
    rw [h1]
    show (if true = true then quiet (f e1) >>= fun y => compGo gg tY f env (xs.map fi) >>= fun ys => RO.ok (y :: ys) else compGo gg tY f env (xs.map fi)) = _
    rw [if_pos rfl, h2, h3]
    rfl
theorem compD_map {β : Type} {gg : G} {f : E} {env : PD.Env} (fi : β → PyData) (fo : β → PyData) (xs : List β) (hl : xs.length ≤ 1000) (h : ∀ x ∈ xs, ∃ e1, gg (fi x) env = .ok e1 ∧ f e1 = .ok (fo x)) : compD gg tY f env (xs.map fi) = .ok (xs.map fo) := by
  unfold compD
  rw [if_pos (by rw [List.length_map]; exact Nat.le_trans hl (by decide))]
  exact compGo_map fi fo xs h
end PD
set_option Elab.async false
set_option linter.all false
set_option maxRecDepth 100000
set_option maxHeartbeats 4000000
namespace PD
open PySem PySem.Spec PyProof.Rows L2
/-! ### zip of two lists, of two tuples -/
def pr (x y : PyData) : PyData := .tuple [x, y]
def dZip (d e : PyData) : RO (List PyData) := match d, e with
  | .list xs, .list ys => .ok (List.zipWith pr xs ys)
  | .tuple xs, .tuple ys => .ok (List.zipWith pr xs ys)
  | _, _ => .no
def iZip (fa fb : E) : A := fun env => fa env >>= fun x => fb env >>= fun y => dZip x y
section
variable {K : PySem.W.Frag} {O : List Addr} {H : Hp}
theorem zip_get {xs ys : List PyData} {i : Nat} {d : PyData} (h : (List.zipWith pr xs ys)[i]? = some d) : ∃ x y, xs[i]? = some x ∧ ys[i]? = some y ∧ d = pr x y := by
  rw [List.getElem?_zipWith] at h
  cases hx : xs[i]? with
  | none => rw [hx] at h; cases h
  | some x =>
    cases hy : ys[i]? with
    | none => rw [hx, hy] at h; cases h
    | some y =>
      rw [hx, hy] at h
      cases h
      exact ⟨x, y, rfl, rfl, rfl⟩
theorem walk_zl [Tbs] {a b : Addr} {vs us : List V} {ds es : List PyData} (h : SqL K (hid O H) a vs) (h' : SqL K (hid O H) b us) (hd : DpAll K (hid O H) vs ds) (he : DpAll K (hid O H) us es) : WalkD K O H (Itz K a b) (List.zipWith pr ds es) where
  go := fun i d O1 H1 e x l => by
    obtain ⟨dx, dy, g1, g2, rfl⟩ := zip_get e
    obtain ⟨v, h1, h2⟩ := dpa_get hd g1
    obtain ⟨u, h3, h4⟩ := dpa_get he g2
    have s1 : SqL K H1 a vs := Ext.unhid.sl (x.sl h)
    have s2 : SqL K H1 b us := Ext.unhid.sl (x.sl h')
    refine ⟨⟨vs, us, v, u, s1, s2, h1, h3⟩, fun y H2 ⟨T, x1, x2, ey, hT, e2, f1, f2⟩ => ?_⟩
    subst e2
    subst ey
    have q1 := f1 vs s1
    have q2 := f2 us s2
    rw [h1] at q1
    rw [h3] at q2
    cases q1
    cases q2
    exact ⟨Ext.new hT, dp_newT l hT (.cons (x.dp h2) (.cons (x.dp h4) .nil))⟩
  stop := fun i O1 H1 hi x => ⟨vs, us, Ext.unhid.sl (x.sl h), Ext.unhid.sl (x.sl h'), by
    rw [List.length_zipWith] at hi
    rw [dpa_len hd, dpa_len he]
    omega⟩
theorem walk_zt [Tbs] {a b : Addr} {vs us : List V} {ds es : List PyData} (h : SqT K (hid O H) a vs) (h' : SqT K (hid O H) b us) (hd : DpAll K (hid O H) vs ds) (he : DpAll K (hid O H) us es) : WalkD K O H (RZ.ItzT K a b) (List.zipWith pr ds es) where
  go := fun i d O1 H1 e x l => by
    obtain ⟨dx, dy, g1, g2, rfl⟩ := zip_get e
    obtain ⟨v, h1, h2⟩ := dpa_get hd g1
    obtain ⟨u, h3, h4⟩ := dpa_get he g2
    have s1 : SqT K H1 a vs := Ext.unhid.st (x.st h)
    have s2 : SqT K H1 b us := Ext.unhid.st (x.st h')
    refine ⟨⟨vs, us, v, u, s1, s2, h1, h3⟩, fun y H2 ⟨T, x1, x2, ey, hT, e2, f1, f2⟩ => ?_⟩
    subst e2
    subst ey
    have q1 := f1 vs s1
    have q2 := f2 us s2
    rw [h1] at q1
    rw [h3] at q2
    cases q1
    cases q2
    exact ⟨Ext.new hT, dp_newT l hT (.cons (x.dp h2) (.cons (x.dp h4) .nil))⟩
  stop := fun i O1 H1 hi x => ⟨vs, us, Ext.unhid.st (x.st h), Ext.unhid.st (x.st h'), by
    rw [List.length_zipWith] at hi
    rw [dpa_len hd, dpa_len he]
    omega⟩
end
section
variable {X : Cx} {W : WX} {tg e a b c : Expr} {es elts : List Expr} {f fa fb : E} {pos p tpos : Pos} {kk : Nat} {Z : Zn} {env : Env} {σ : Sg} {H : Hp} {O : List Addr}
variable [Tbs]
theorem ci_zip (h : CE X W a fa) (k : CE X W b fb) (hg : Gl X "zip") (hm : X.mg "zip" = none) (hs : starEach [a, b] X.env = (false, eval a X.env) :: starEach [b] X.env := by rfl) (hs2 : starEach [b] X.env = [(false, eval b X.env)] := by rfl) (hpl : (backTo pos (starEach [b] X.env)).any (·.1) = false := by rfl) :
    CI X W (.Tuple elts kk tpos) (.Call (.Name "zip" p) [a, b] [] pos) (iZip fa fb) := fun Z env σ H O R r q => by
  refine wp_i (RZ.pi_zipA hg hm (pa_cons pe_wp (pa_cons pe_wp pa_nil (by rw [hs2] <;> rfl)) hs) hs hpl) ?_
  unfold iZip at q
  refine h.go r q fun dx vx H1 e1 d1 r1 q1 => ?_
  refine k.go r1 q1 fun dy vy H2 e2 d2 r2 q2 => ?_
  have d1' := (e2.hid O).dp d1
  cases dx with
  | list xs =>
    cases dy with
    | list ys =>
      obtain ⟨p1, vs, rfl, h1, h2⟩ := dp_lst d1'
      obtain ⟨p2, us, rfl, h3, h4⟩ := dp_lst d2
      exact ⟨p1, p2, vs, us, rfl, .inl ⟨Ext.unhid.sl h1, Ext.unhid.sl h3, q2.here _ (walk_zl h1 h3 h2 h4)⟩⟩
    | _ => exact q2.elim
  | tuple xs =>
    cases dy with
    | tuple ys =>
      obtain ⟨p1, vs, rfl, h1, h2⟩ := dp_tup d1'
      obtain ⟨p2, us, rfl, h3, h4⟩ := dp_tup d2
      exact ⟨p1, p2, vs, us, rfl, .inr ⟨Ext.unhid.st h1, Ext.unhid.st h3, q2.here _ (walk_zt h1 h3 h2 h4)⟩⟩
    | _ => exact q2.elim
  | _ => exact q2.elim
/-! ### a new list times an int -/
def lRep (ga : A) (fb : E) : A := fun env => ga env >>= fun xs => fb env >>= fun y => match y with
  | .int k => if -(2 ^ 62) ≤ k ∧ xs.length * k.toNat ≤ 1000000 ∧ k ≤ 2 ^ 62 then .ok (List.replicate k.toNat xs).flatten else .no
  | _ => .no
theorem cl_rep {ga : A} (h : CL X W a ga) (k : CE X W b fb) : CL X W (.BinOp a .Mult b pos) (lRep ga fb) := fun Z env σ H O Q r q => by
  refine wp_e (pe_op op_rep pe_wp pe_wp) ?_
  unfold lRep at q
  refine h Z env σ H O _ r (q.then fun xs H1 _ e1 q1 pl vs hp hd => ?_)
  have e2 : Ext H1 (upd H1 pl (.lst vs)) := Ext.new hp
  refine k.go ((r.mono e1).mono e2) (q1.mono e2) fun dy vy H2 e3 d2 r2 q2 => ?_
  cases dy with
  | int j =>
    cases dp_int d2
    have q3 : ROk X W σ O (LQ X.K O Q) H2 (if -(2 ^ 62) ≤ j ∧ xs.length * j.toNat ≤ 1000000 ∧ j ≤ 2 ^ 62 then .ok (List.replicate j.toNat xs).flatten else .no) := q2
    by_cases z : -(2 ^ 62) ≤ j ∧ xs.length * j.toNat ≤ 1000000 ∧ j ≤ 2 ^ 62
    · rw [if_pos z] at q3
      have hl := dpa_len hd
      have hd' : DpAll X.K (hid O H2) vs xs := ((e2.trans e3).hid O).dpa hd
      refine ⟨pl, j, vs, rfl, rfl, e3.lst upd_same, by omega, by omega, ?_, fun p2 hp2 => q3.here p2 _ hp2 (dpa_repl hd' _)⟩
      have h1 : vs.length * j.toNat ≤ 1000000 := by rw [hl]; exact z.2.1
      exact Nat.le_trans h1 (by decide)
    · rw [if_neg z] at q3
      exact q3.elim
  | _ => exact q2.elim
end
end PD
set_option Elab.async false
set_option linter.all false
set_option maxRecDepth 100000
set_option maxHeartbeats 4000000
namespace PD
open PySem PySem.Spec PyProof.Rows L2
/-! ### a tuple times 0, times 1 -/
theorem tuple_mulS (l : Addr) (items : Array Value) (n : Nat) (dd : Option Addr) (sl : Array (Option Value)) (x : Int) (u : Tok) (c0 : (decide (x < -(2 ^ 63)) || decide (x ≥ 2 ^ 63)) = false) (c1 : (items.isEmpty || x == 1) = true) :
    Meets (Builtin.«tuple.__mul__» ⟨[.ref l, .int x u], []⟩) (fun _ R s => s.heap.get? l = some { cls := .type "tuple", dict := dd, data := .seq items n, slots := sl } ∧ R (.ok (.ret (Value.ref l))) s) :=
  .of_wp fun prog w A R s h => by
    obtain ⟨hp, g, d, tk, os⟩ := s
    obtain ⟨hl, h⟩ := h
    have f1 := AutoSeq1.idx_int
    wp_walk using wpAny_loadPart' hl
    repeat (first
      | (refine wpAny_ite_false (decide_eq_false (by rw [c0]; exact Bool.false_ne_true)) ?_; wp_walk using wpAny_loadPart' hl)
      | (refine wpAny_ite_true (decide_eq_true c1) ?_; wp_walk using wpAny_loadPart' hl))
    exact ⟨_, rfl, h⟩
theorem tuple_mulZ (l : Addr) (items : Array Value) (n : Nat) (dd : Option Addr) (sl : Array (Option Value)) (x : Int) (u : Tok) (c0 : (decide (x < -(2 ^ 63)) || decide (x ≥ 2 ^ 63)) = false) (c1 : (items.isEmpty || x == 1) = false) (c2 : (decide (x ≤ 0) || items.isEmpty) = true) :
    Meets (Builtin.«tuple.__mul__» ⟨[.ref l, .int x u], []⟩) (fun _ R s => s.heap.get? l = some { cls := .type "tuple", dict := dd, data := .seq items n, slots := sl } ∧
      R (.ok (.ret (Value.ref s.heap.objs.size))) { s with heap := s.heap.push { cls := Value.type "tuple", data := Data.seq #[] }, toks := s.toks }) :=
  .of_wp fun prog w A R s h => by
    obtain ⟨hp, g, d, tk, os⟩ := s
    obtain ⟨hl, h⟩ := h
    have f1 := AutoSeq1.idx_int
    wp_walk using wpAny_loadPart' hl
    repeat (first
      | (refine wpAny_ite_false (decide_eq_false (by rw [c0]; exact Bool.false_ne_true)) ?_; wp_walk using wpAny_loadPart' hl)
      | (refine wpAny_ite_false (decide_eq_false (by rw [c1]; exact Bool.false_ne_true)) ?_; wp_walk using wpAny_loadPart' hl)
      | (refine wpAny_ite_true (decide_eq_true c2) ?_; wp_walk using wpAny_loadPart' hl))
    exact ⟨_, rfl, h⟩
def rRepTS (K : PySem.W.Frag) : R2 := fun x y H Q => ∃ l k xs, x = .ref l ∧ y = .int k ∧ SqT K H l xs ∧ (xs = [] ∨ k = 1) ∧ -(2 ^ 62) ≤ k ∧ k ≤ 2 ^ 62 ∧ Q (.ref l) H
def rRepTZ (K : PySem.W.Frag) : R2 := fun x y H Q => ∃ l k xs, x = .ref l ∧ y = .int k ∧ SqT K H l xs ∧ xs ≠ [] ∧ -(2 ^ 62) ≤ k ∧ k ≤ 0 ∧ ∀ p, H p = none → Q (.ref p) (upd H p (.tup []))
section
variable {X : Cx}
variable [Tbs]
theorem op_repTS : OpR X (binaryOp .Mult) (rRepTS X.K) := by
  intro pins s σ H x y v u Q I rx ry h
  obtain ⟨l, k, xs, rfl, rfl, hT, hk, h1, h2, q⟩ := h
  cases rx
  obtain ⟨t, rfl⟩ := ry
  obtain ⟨its, r, ⟨⟨cls, dd, data, sl⟩, ho, hc, n, hd⟩, hs⟩ := I.tuple hT
  simp only at hc hd
  subst hc hd
  have c0 : (decide (k < -(2 ^ 63)) || decide (k ≥ 2 ^ 63)) = false := by
    rw [decide_eq_false (by omega), decide_eq_false (by omega)] <;> rfl
  have c1 : (its.toArray.isEmpty || k == 1) = true := by
    rcases hk with e | e
    · subst e
      cases r
      rfl
    · subst e
      exact Bool.or_true _
  refine wpAny_binaryOp_repeat_ref (T := "tuple") (U := "int") (by decide) ⟨_, ho, rfl⟩ (fun s' => typeIs_int s' k t) noFill_tuple_mul F.fills_int_mul F.slot_int_rmul repeat_tuple F.slot_int_index.lookup
    (call_meets F.slot_int_rmul (typeIs_int s k t) F.entry_int_rmul (F.args_int_rmul_2 _ _) (int_rmul_tuple k t l its.toArray n dd sl)
      ⟨ho, rfl, ⟨_, ho, rfl⟩, call_meets F.slot_tuple_mul ⟨_, ho, rfl⟩ F.entry_tuple_mul (F.args_tuple_mul_2 _ _) (tuple_mulS l its.toArray n dd sl k t c0 c1) ⟨ho, ?_⟩⟩)
  exact ⟨.ref l, H, I, rfl, q⟩
theorem op_repTZ : OpR X (binaryOp .Mult) (rRepTZ X.K) := by
  intro pins s σ H x y v u Q I rx ry h
  obtain ⟨l, k, xs, rfl, rfl, hT, hne, h1, h2, q⟩ := h
  cases rx
  obtain ⟨t, rfl⟩ := ry
  obtain ⟨its, r, ⟨⟨cls, dd, data, sl⟩, ho, hc, n, hd⟩, hs⟩ := I.tuple hT
  simp only at hc hd
  subst hc hd
  have c0 : (decide (k < -(2 ^ 63)) || decide (k ≥ 2 ^ 63)) = false := by
    rw [decide_eq_false (by omega), decide_eq_false (by omega)] <;> rfl
  have hi : its.toArray.isEmpty = false := by
    cases its with
    | nil => cases r; exact absurd rfl hne
    | cons a b => rfl
  have c1 : (its.toArray.isEmpty || k == 1) = false := by
    rw [hi, Bool.false_or]
    exact beq_eq_false_iff_ne.mpr (by omega)
  have c2 : (decide (k ≤ 0) || its.toArray.isEmpty) = true := by
    rw [decide_eq_true h2]
    rfl
  refine wpAny_binaryOp_repeat_ref (T := "tuple") (U := "int") (by decide) ⟨_, ho, rfl⟩ (fun s' => typeIs_int s' k t) noFill_tuple_mul F.fills_int_mul F.slot_int_rmul repeat_tuple F.slot_int_index.lookup
    (call_meets F.slot_int_rmul (typeIs_int s k t) F.entry_int_rmul (F.args_int_rmul_2 _ _) (int_rmul_tuple k t l its.toArray n dd sl)
      ⟨ho, rfl, ⟨_, ho, rfl⟩, call_meets F.slot_tuple_mul ⟨_, ho, rfl⟩ F.entry_tuple_mul (F.args_tuple_mul_2 _ _) (tuple_mulZ l its.toArray n dd sl k t c0 c1 c2) ⟨ho, ?_⟩⟩)
  refine ⟨.ref s.heap.objs.size, _, I.laid (t' := s.toks) (o := .tup []) (fun b ob q => Heap.get?_push_of_some _ q) (Nat.le_refl _) ?_, rfl, q _ (I.hok.fresh (Nat.le_refl _))⟩
  exact ⟨Nat.zero_le _, [], .nil, IsTup.new _ _⟩
/-- a product, also of a tuple with any small int -/
def dMulX : PyData → PyData → Option PyData
  | .int i, .int j => if mulOk i j = true then some (.int (i * j)) else none
  | .tuple a, .int k => if a.length ≤ 1000 ∧ -1000 ≤ k ∧ k ≤ 1000 then some (.tuple (List.replicate k.toNat a).flatten) else none
  | _, _ => none
theorem bin_mulX : BinR X (binaryOp .Mult) dMulX := fun dx dy d e => by
  cases dx <;> cases dy <;> first | (simp only [dMulX] at e; cases e; done) | skip
  · rename_i i j
    exact bin_mul (.int i) (.int j) d e
  · rename_i a j
    simp only [dMulX] at e
    split at e
    · rename_i hz
      obtain ⟨h0, h1, h2⟩ := hz
      cases e
      by_cases c : a = [] ∨ j = 1
      · refine ⟨_, op_repTS, fun O H vx vy Q l hx hy k => ?_⟩
        obtain ⟨p, xs, rfl, p1, p2⟩ := dp_tup hx
        cases dp_int hy
        have hl := dpa_len p2
        refine ⟨p, j, xs, rfl, rfl, Ext.unhid.st p1, ?_, by omega, by omega, k _ _ (Ext.refl H) ?_⟩
        · rcases c with c | c
          · left
            rw [c] at hl
            exact List.eq_nil_of_length_eq_zero hl
          · exact .inr c
        · have ea : (List.replicate j.toNat a).flatten = a := by
            rcases c with c | c
            · rw [c]
              simp
            · rw [c]
              simp
          rw [ea]
          exact hx
      · by_cases c2 : j ≤ 0
        · refine ⟨_, op_repTZ, fun O H vx vy Q l hx hy k => ?_⟩
          obtain ⟨p, xs, rfl, p1, p2⟩ := dp_tup hx
          cases dp_int hy
          have hl := dpa_len p2
          refine ⟨p, j, xs, rfl, rfl, Ext.unhid.st p1, fun z => c (.inl (by subst z; cases p2; rfl)), by omega, c2, fun q hq => ?_⟩
          have ej : j.toNat = 0 := by omega
          rw [ej] at k
          exact k _ _ (Ext.new hq) (dp_newT l hq .nil)
        · have j2 : 2 ≤ j := by
            have : j ≠ 1 := fun z => c (.inr z)
            omega
          have e2 : dMul (.tuple a) (.int j) = some (.tuple (List.replicate j.toNat a).flatten) := by
            show (if a ≠ [] ∧ 2 ≤ j ∧ j ≤ 1000 ∧ a.length ≤ 1000 then some (PyData.tuple (List.replicate j.toNat a).flatten) else none) = _
            rw [if_pos ⟨fun z => c (.inl z), j2, h2, h0⟩]
          exact bin_mul (.tuple a) (.int j) _ e2
    · cases e
end
end PD
set_option Elab.async false
set_option linter.all false
set_option maxRecDepth 100000
set_option maxHeartbeats 4000000
namespace PD
open PySem PySem.Spec PyProof.Rows L2
/-! ### zip of a tuple and a list -/
section
variable {prog : Program} {w : World} {A : Around} {E : Value → Shared → Prop} {s : Shared}
abbrev zmA (h : Heap) (a : Addr) : Heap :=
  h.push { cls := .type "tuple_iterator",
           data := .fields #[.ref a, .int 0 0] }
abbrev zmB (h : Heap) (a b : Addr) : Heap :=
  (zmA h a).push { cls := .type "list_iterator",
                   data := .fields #[.ref b, .int 0 0] }
abbrev zmC (h : Heap) (a b : Addr) : Heap :=
  (zmB h a b).push { cls := .type "tuple",
                     data := .seq #[.ref h.objs.size, .ref (zmA h a).objs.size] }
abbrev zmD (h : Heap) (a b : Addr) : Heap :=
  (zmC h a b).push { cls := .type "tuple", data := .seq #[.none, .none] }
abbrev zmE (h : Heap) (a b : Addr) : Heap :=
  (zmD h a b).push { cls := .type "zip",
                     data := .fields #[.none, .bool false, .bool false, .ref (zmB h a b).objs.size, .ref (zmC h a b).objs.size] }
theorem meets_zipM (a b : Addr) (xs ys : Array Value) :
    Meets (Builtin.«zip.__new__» ⟨[.type "zip", .ref a, .ref b], []⟩) (fun _ R s => s.heap.IsTuple a xs ∧ s.heap.IsList b ys ∧ R (.ok (.ret (.ref (zmD s.heap a b).objs.size))) { s with heap := zmE s.heap a b }) :=
  .of_wp fun prog w A R s h => by
    obtain ⟨hp, g, d, tk, os⟩ := s
    obtain ⟨ha, hb, h⟩ := h
    have hsub := sub_zip
    have q1 : Heap.IsTuple (Shared.heap ⟨hp, g, d, tk, os⟩) a xs := ha
    have q2 : Heap.IsList (Shared.heap ⟨hp.push { cls := .type "tuple_iterator", data := .fields #[.ref a, .int 0 0] }, g, d, tk, os⟩) b ys := Heap.IsList.push hb _
    wp_walk using wpAny_pyIter_tuple q1, wpAny_pyIter_list q2
    exact ⟨_, rfl, h⟩
theorem call_zipM {a b : Addr} {xs ys : Array Value} {Q : Value → Shared → Prop} (ha : s.heap.IsTuple a xs) (hb : s.heap.IsList b ys)
    (h : ∀ h' n, n = s.heap.objs.size → IsZip h' (n + 4) (n + 2) (n + 3) .none → IsPair h' (n + 2) (.ref n) (.ref (n + 1)) → IsPair h' (n + 3) .none .none → h'.IsTupleIter n a 0 → h'.IsListIter (n + 1) b 0 → (∀ c o, s.heap.get? c = some o → h'.get? c = some o) → Q (.ref (n + 4)) { s with heap := h' }) :
    wpAny (model prog w) A (call (.type "zip") [.ref a, .ref b]) Q E s := by
  refine callType_new F.called_zip (by decide) (F.typeCall_zip_2 _ _) (F.newCall_zip_2 _ _) (fun obj => F.args_object_init_3 obj _ _) F.entry_zip_new (meets_zipM a b xs ys) ⟨ha, hb, ?_⟩
  generalize en : s.heap.objs.size = n at h
  have eA : (zmA s.heap a).objs.size = n + 1 := by rw [Heap.size_push, en]
  have eB : (zmB s.heap a b).objs.size = n + 2 := by rw [Heap.size_push, eA]
  have eC : (zmC s.heap a b).objs.size = n + 3 := by rw [Heap.size_push, eB]
  have eD : (zmD s.heap a b).objs.size = n + 4 := by rw [Heap.size_push, eC]
  have gE : (zmE s.heap a b).get? (zmD s.heap a b).objs.size = some _ := Heap.get?_push_size _ rfl
  have gD : (zmE s.heap a b).get? (zmC s.heap a b).objs.size = some _ := Heap.get?_push_of_some _ (Heap.get?_push_size _ rfl)
  have gC : (zmE s.heap a b).get? (zmB s.heap a b).objs.size = some _ := Heap.get?_push_of_some _ (Heap.get?_push_of_some _ (Heap.get?_push_size _ rfl))
  have gB : (zmE s.heap a b).get? (zmA s.heap a).objs.size = some _ := Heap.get?_push_of_some _ (Heap.get?_push_of_some _ (Heap.get?_push_of_some _ (Heap.get?_push_size _ rfl)))
  have gA : (zmE s.heap a b).get? s.heap.objs.size = some _ := Heap.get?_push_of_some _ (Heap.get?_push_of_some _ (Heap.get?_push_of_some _ (Heap.get?_push_of_some _ (Heap.get?_push_size _ rfl))))
  rw [eD, eB, eC] at gE
  rw [eC] at gD
  rw [eB, eA, en] at gC
  rw [eA] at gB
  rw [en] at gA
  show _ ∧ _
  rw [eD]
  refine ⟨⟨_, gE, rfl⟩, h _ n rfl gE gC gD ⟨_, gA, rfl, rfl⟩ ⟨_, gB, rfl, rfl⟩ fun c o e => ?_⟩
  exact Heap.get?_push_of_some _ (Heap.get?_push_of_some _ (Heap.get?_push_of_some _ (Heap.get?_push_of_some _ (Heap.get?_push_of_some _ e))))
end
/-- the tuple at a and the list at b, item by item, in new pairs -/
def ItzM (K : PySem.W.Frag) (a b : Addr) : It where
  go := fun i H => ∃ (xs ys : List V) (x y : V), SqT K H a xs ∧ SqL K H b ys ∧ xs[i]? = some x ∧ ys[i]? = some y
  yld := fun i H v H' => ∃ T x y, v = .ref T ∧ H T = none ∧ H' = upd H T (.tup [x, y]) ∧ (∀ xs, SqT K H a xs → xs[i]? = some x) ∧ ∀ ys, SqL K H b ys → ys[i]? = some y
  stop := fun i H => ∃ xs ys : List V, SqT K H a xs ∧ SqL K H b ys ∧ (i = xs.length ∧ i ≤ ys.length ∨ i = ys.length ∧ i ≤ xs.length)
theorem sep_of {z TI TO i1 i2 a b : Addr} (D : ZipApart z TI TO i1 i2 a b) : ZipSep2 z TI TO i1 i2 [i1, a] [i2, b] where
  TIz := D.TIz
  TOz := D.TOz
  TITO := D.TITO
  TIi1 := D.TIi1
  mem1 := by simp
  zf1 := by simp [D.i1z.symm, D.l1z.symm]
  Tf1 := by simp [D.TOi1, D.l1TO.symm]
  TIi2 := D.TIi2
  mem2 := by simp
  zf2 := by simp [D.i2z.symm, D.l2z.symm]
  Tf2 := by simp [D.TOi2, D.l2TO.symm]
  sep1_2 := by simp [D.i12, D.l2i1.symm]
  sep2_1 := by simp [D.i12.symm, D.l1i2.symm]
theorem turn_zipM {P : Program} {w : World} {K : PySem.W.Frag} {elts : List Expr} {kk : Nat} {tpos : Pos} {a b z TI TO i1 i2 : Addr} (D : ZipApart z TI TO i1 i2 a b) :
    Turn P w K (.Tuple elts kk tpos) (ItzM K a b) [z, TI, TO, i1, i2] z (fun i h => (IsZip h z TI TO .none ∧ IsPair h TI (.ref i1) (.ref i2) ∧ (∃ x y, IsPair h TO x y)) ∧ h.IsTupleIter i1 a i ∧ h.IsListIter i2 b i) where
  mem := by simp
  obj := fun i h st c hc => by
    obtain ⟨⟨s1, s2, x, y, s3⟩, ⟨o1, s4, _, d1⟩, ⟨o2, s5, _, d2⟩⟩ := st
    simp only [List.mem_cons, List.not_mem_nil, or_false] at hc
    rcases hc with rfl | rfl | rfl | rfl | rfl
    · exact ⟨_, s1, fun v q => nomatch q⟩
    · exact ⟨_, s2, fun v q => nomatch q⟩
    · exact ⟨_, s3, fun v q => nomatch q⟩
    · exact ⟨o1, s4, fun v q => by rw [d1] at q; cases q⟩
    · exact ⟨o2, s5, fun v q => by rw [d2] at q; cases q⟩
  keep := fun i h h' st k => by
    obtain ⟨⟨s1, s2, x, y, s3⟩, s4, s5⟩ := st
    exact ⟨⟨k z (by simp) _ s1, k TI (by simp) _ s2, x, y, k TO (by simp) _ s3⟩, s4.at fun o q => k i1 (by simp) o q, s5.at fun o q => k i2 (by simp) o q⟩
  item := by
    intro X hP hw hK hc i pins s σ H E I hf st hg
    subst hP
    subst hw
    subst hK
    obtain ⟨⟨s1, s2, x0, y0, s3⟩, s4, s5⟩ := st
    obtain ⟨xs, ys, x, y, tx, ly, gx, gy⟩ := hg
    obtain ⟨as, ra, pa, _⟩ := I.tuple tx
    obtain ⟨bs, rb, pb, _⟩ := I.list ly
    have hz : z < s.heap.objs.size := Heap.lt_size s1
    have hh : X.A.in1.handled = none := I.ok.hd hc
    have la := ra.length
    have lb := rb.length
    have ia := (List.getElem?_eq_some_iff.mp gx).1
    have ib := (List.getElem?_eq_some_iff.mp gy).1
    refine wpAny_pyNext_zipD2_item (i := i) (sep_of D) (Draws.tuple hh i1 a D.l1i1 as.toArray) (Draws.list hh i2 b D.l2i2 bs.toArray) s1 s2 s3 ⟨s4, pa⟩ ⟨s5, pb.isList⟩ (by rw [List.size_toArray]; omega) (by rw [List.size_toArray]; omega) fun x1 x2 h' tk p1 p2 z' TO' t1 t2 hT hsz hk => ?_
    obtain ⟨ux, gux, rx⟩ := ra.get gx
    obtain ⟨uy, guy, ry⟩ := rb.get gy
    have ex : x1 = ux := Option.some.inj (p1.symm.trans (by simpa using gux))
    have ey : x2 = uy := Option.some.inj (p2.symm.trans (by simpa using guy))
    subst ex
    subst ey
    refine ⟨_, rfl, ?_⟩
    refine wpAny_letOwnedTupleGo_zip (s := { s with heap := h', toks := tk }) z' fun h2 z2 sb => ?_
    have hT2 : h2.get? s.heap.objs.size = some { cls := .type "tuple", data := .seq #[x1, x2] } := (sb.2 _ (Nat.ne_of_gt hz)).trans hT
    have new : ObjOk X.prog X.w (upd H s.heap.objs.size (.tup [x, y])) h2 s.heap.objs.size (.tup [x, y]) :=
      ⟨by show 2 ≤ sizeLine; decide, [x1, x2], .cons rx (.cons ry .nil), ⟨_, hT2, rfl, _, rfl⟩⟩
    have keep : ∀ c o, c ∉ [z, TI, TO, i1, i2] → s.heap.get? c = some o → h2.get? c = some o := fun c o nc e => by
      simp only [List.mem_cons, List.not_mem_nil, or_false, not_or] at nc
      exact (sb.2 c nc.1).trans (hk c o nc.1 nc.2.2.1 nc.2.2.2.1 nc.2.2.2.2 e)
    have I1 := I.turnedNew (t' := tk) keep hf (Nat.le_refl _) new
    refine ⟨.ref s.heap.objs.size, _, I1, rfl, ⟨_, x, y, rfl, I.hok.fresh (Nat.le_refl _), rfl, fun l hl => by rw [I.tuple_inj hl tx]; exact gx, fun l hl => by rw [I.list_inj hl ly]; exact gy⟩, ⟨⟨z2, ?_, x1, x2, ?_⟩, ?_, ?_⟩, fun c hcm => ?_⟩
    · exact (sb.2 _ D.TIz).trans (hk _ _ D.TIz D.TITO D.TIi1 D.TIi2 s2)
    · exact (sb.2 _ D.TOz).trans TO'
    · exact t1.1.at fun o q => (sb.2 _ D.i1z).trans q
    · exact t2.1.at fun o q => (sb.2 _ D.i2z).trans q
    · have hlt : c < s.heap.objs.size := by
        simp only [List.mem_cons, List.not_mem_nil, or_false] at hcm
        rcases hcm with rfl | rfl | rfl | rfl | rfl
        · exact hz
        · exact Heap.lt_size s2
        · exact Heap.lt_size s3
        · obtain ⟨_, e1, _⟩ := s4
          exact Heap.lt_size e1
        · obtain ⟨_, e2, _⟩ := s5
          exact Heap.lt_size e2
      rw [upd_ne (Nat.ne_of_lt hlt)]
      exact (hf c hcm).1
  done := by
    intro X hP hw hK hc i pins s σ H E I hf st hg
    subst hP
    subst hw
    subst hK
    obtain ⟨⟨s1, s2, x0, y0, s3⟩, s4, s5⟩ := st
    obtain ⟨xs, ys, tx, ly, hend⟩ := hg
    obtain ⟨as, ra, pa, _⟩ := I.tuple tx
    obtain ⟨bs, rb, pb, _⟩ := I.list ly
    have hh : X.A.in1.handled = none := I.ok.hd hc
    have la := ra.length
    have lb := rb.length
    refine wpAny_pyNext_zipD2_end (i := i) (sep_of D) (Draws.tuple hh i1 a D.l1i1 as.toArray) (Draws.list hh i2 b D.l2i2 bs.toArray) s1 s2 s3 ⟨s4, pa⟩ ⟨s5, pb.isList⟩ (by rw [List.size_toArray]; omega) (by rw [List.size_toArray]; omega) (by rw [List.size_toArray, List.size_toArray]; omega) fun h' tk hk => ⟨rfl, ?_⟩
    exact I.turnedL (t' := tk) (ch := [z, TI, TO, i1, i2]) (fun c o nc e => by
      simp only [List.mem_cons, List.not_mem_nil, or_false, not_or] at nc
      exact hk c o nc.1 nc.2.2.1 nc.2.2.2.1 nc.2.2.2.2 e) hf
  self := fun A i s Q E st h => wpAny_pyIter_zip st.1.1 h
/-! ### zip of any two of these -/
def wpZ (X : Cx) (tg : Expr) (vs : List V) : L2.St → Hp → (It → Hp → Prop) → Prop := fun σ H R => ∀ pins s us, Inv X pins σ H s → Vals vs us → wpAny (model X.prog X.w) X.A (call (.type "zip") us) (fun v s1 => wpAny (model X.prog X.w) X.A (pyIter v) (PIE X pins σ tg R) X.xe s1) X.xe s
section
variable {X : Cx} {W : WX} {a b e : Expr} {elts : List Expr} {fa fb : E} {pos p tpos : Pos} {kk : Nat} {σ : Sg} {H : Hp} {R : It → Hp → Prop} {p1 p2 : Addr} {vs us : List V} {ta : TA}
variable [Tbs]
theorem pi_zipX (hg : Gl X "zip") (hm : X.mg "zip" = none) (ha : PA X [a, b] ta) (hs : starEach [a, b] X.env = (false, eval a X.env) :: starEach [b] X.env) (hpl : (backTo pos (starEach [b] X.env)).any (·.1) = false) :
    PI X (.Tuple elts kk tpos) (.Call (.Name "zip" p) [a, b] [] pos) (fun σ H R => ta σ H fun vs H1 => wpZ X (.Tuple elts kk tpos) vs σ H1 R) :=
  ⟨fun pins s σ H R I h => Call_ (ld_blt I hg hm PyProof.Rows.boot_zip (PyProof.Rows.callWith_type1 (thn (ha.run pos pins s σ H _ I h) fun us s1 ⟨vs, H1, I1, r1, q1⟩ => q1 pins s1 us I1 r1) hs hpl))⟩
theorem fresh5 {pins : List (Addr × Obj)} {s : Shared} (I : Inv X pins σ H s) : ∀ c ∈ [s.heap.objs.size + 4, s.heap.objs.size + 2, s.heap.objs.size + 3, s.heap.objs.size, s.heap.objs.size + 1], FpOk X pins H c := fun c hc => by
  have hle : s.heap.objs.size ≤ c := by
    simp only [List.mem_cons, List.not_mem_nil, or_false] at hc
    rcases hc with h | h | h | h | h <;> subst h <;> first | exact Nat.le_refl _ | exact Nat.le_add_right _ _
  exact I.fpOk hle (I.hok.fresh hle)
theorem wz_ll (h1 : SqL X.K H p1 vs) (h2 : SqL X.K H p2 us) (q : R (Itz X.K p1 p2) H) : wpZ X (.Tuple elts kk tpos) [.ref p1, .ref p2] σ H R := fun pins s ws I r => by
  cases r with
  | cons r1 rr =>
    cases rr with
    | cons r2 rr =>
      cases rr
      cases r1
      cases r2
      obtain ⟨xs, _, l1, _⟩ := I.list h1
      obtain ⟨ys, _, l2, _⟩ := I.list h2
      refine call_zip_2 l1.isList l2.isList fun h' c1 c2 c3 c4 c5 _ c7 => wpAny_pyIter_zip c1 ?_
      exact ⟨_, _, _, _, H, rfl, I.kept (t' := s.toks) c7, turn_zip (PySem.W.ktu_apart s.heap.objs.size p1 p2 l1.lt l2.lt), ⟨c1, c2, ⟨_, _, c3⟩, c4, c5⟩, fresh5 I, q⟩
theorem wz_tt (h1 : SqT X.K H p1 vs) (h2 : SqT X.K H p2 us) (q : R (RZ.ItzT X.K p1 p2) H) : wpZ X (.Tuple elts kk tpos) [.ref p1, .ref p2] σ H R := fun pins s ws I r => by
  cases r with
  | cons r1 rr =>
    cases rr with
    | cons r2 rr =>
      cases rr
      cases r1
      cases r2
      obtain ⟨xs, _, l1, _⟩ := I.tuple h1
      obtain ⟨ys, _, l2, _⟩ := I.tuple h2
      obtain ⟨o1, k1, _⟩ := id l1
      obtain ⟨o2, k2, _⟩ := id l2
      refine RZ.call_zipT (show s.heap.IsTuple p1 xs.toArray from l1) (show s.heap.IsTuple p2 ys.toArray from l2) fun h' c1 c2 c3 c4 c5 _ c7 => wpAny_pyIter_zip c1 ?_
      exact ⟨_, _, _, _, H, rfl, I.kept (t' := s.toks) c7, RZ.turn_zipT (PySem.W.ktu_apart s.heap.objs.size p1 p2 (Heap.lt_size k1) (Heap.lt_size k2)), ⟨c1, c2, ⟨_, _, c3⟩, c4, c5⟩, fresh5 I, q⟩
theorem wz_tl (h1 : SqT X.K H p1 vs) (h2 : SqL X.K H p2 us) (q : R (ItzM X.K p1 p2) H) : wpZ X (.Tuple elts kk tpos) [.ref p1, .ref p2] σ H R := fun pins s ws I r => by
  cases r with
  | cons r1 rr =>
    cases rr with
    | cons r2 rr =>
      cases rr
      cases r1
      cases r2
      obtain ⟨xs, _, l1, _⟩ := I.tuple h1
      obtain ⟨ys, _, l2, _⟩ := I.list h2
      obtain ⟨o1, k1, _⟩ := id l1
      refine call_zipM (show s.heap.IsTuple p1 xs.toArray from l1) l2.isList fun h' n en c1 c2 c3 c4 c5 c7 => wpAny_pyIter_zip c1 ?_
      subst en
      exact ⟨_, _, _, _, H, rfl, I.kept (t' := s.toks) c7, turn_zipM (PySem.W.ktu_apart s.heap.objs.size p1 p2 (Heap.lt_size k1) l2.lt), ⟨⟨c1, c2, _, _, c3⟩, c4, c5⟩, fresh5 I, q⟩
end
theorem walk_zm [Tbs] {K : PySem.W.Frag} {O : List Addr} {H : Hp} {a b : Addr} {vs us : List V} {ds es : List PyData} (h : SqT K (hid O H) a vs) (h' : SqL K (hid O H) b us) (hd : DpAll K (hid O H) vs ds) (he : DpAll K (hid O H) us es) : WalkD K O H (ItzM K a b) (List.zipWith pr ds es) where
  go := fun i d O1 H1 e x l => by
    obtain ⟨dx, dy, g1, g2, rfl⟩ := zip_get e
    obtain ⟨v, h1, h2⟩ := dpa_get hd g1
    obtain ⟨u, h3, h4⟩ := dpa_get he g2
    have s1 : SqT K H1 a vs := Ext.unhid.st (x.st h)
    have s2 : SqL K H1 b us := Ext.unhid.sl (x.sl h')
    refine ⟨⟨vs, us, v, u, s1, s2, h1, h3⟩, fun y H2 ⟨T, x1, x2, ey, hT, e2, f1, f2⟩ => ?_⟩
    subst e2
    subst ey
    have q1 := f1 vs s1
    have q2 := f2 us s2
    rw [h1] at q1
    rw [h3] at q2
    cases q1
    cases q2
    exact ⟨Ext.new hT, dp_newT l hT (.cons (x.dp h2) (.cons (x.dp h4) .nil))⟩
  stop := fun i O1 H1 hi x => ⟨vs, us, Ext.unhid.st (x.st h), Ext.unhid.sl (x.sl h'), by
    rw [List.length_zipWith] at hi
    rw [dpa_len hd, dpa_len he]
    omega⟩
def dZipX (d e : PyData) : RO (List PyData) := match d, e with
  | .list xs, .list ys => .ok (List.zipWith pr xs ys)
  | .tuple xs, .tuple ys => .ok (List.zipWith pr xs ys)
  | .tuple xs, .list ys => .ok (List.zipWith pr xs ys)
  | _, _ => .no
def iZipX (fa fb : E) : A := fun env => fa env >>= fun x => fb env >>= fun y => dZipX x y
section
variable {X : Cx} {W : WX} {a b e : Expr} {elts : List Expr} {fa fb : E} {pos p tpos : Pos} {kk : Nat}
variable [Tbs]
theorem ci_zipX (h : CE X W a fa) (k : CE X W b fb) (hg : Gl X "zip") (hm : X.mg "zip" = none) (hs : starEach [a, b] X.env = (false, eval a X.env) :: starEach [b] X.env := by rfl) (hs2 : starEach [b] X.env = [(false, eval b X.env)] := by rfl) (hpl : (backTo pos (starEach [b] X.env)).any (·.1) = false := by rfl) :
    CI X W (.Tuple elts kk tpos) (.Call (.Name "zip" p) [a, b] [] pos) (iZipX fa fb) := fun Z env σ H O R r q => by
  refine wp_i (pi_zipX hg hm (pa_cons pe_wp (pa_cons pe_wp pa_nil (by rw [hs2] <;> rfl)) hs) hs hpl) ?_
  unfold iZipX at q
  refine h.go r q fun dx vx H1 e1 d1 r1 q1 => ?_
  refine k.go r1 q1 fun dy vy H2 e2 d2 r2 q2 => ?_
  have d1' := (e2.hid O).dp d1
  cases dx with
  | list xs =>
    cases dy with
    | list ys =>
      obtain ⟨p1, vs, rfl, h1, h2⟩ := dp_lst d1'
      obtain ⟨p2, us, rfl, h3, h4⟩ := dp_lst d2
      exact wz_ll (Ext.unhid.sl h1) (Ext.unhid.sl h3) (q2.here _ (walk_zl h1 h3 h2 h4))
    | _ => exact q2.elim
  | tuple xs =>
    cases dy with
    | tuple ys =>
      obtain ⟨p1, vs, rfl, h1, h2⟩ := dp_tup d1'
      obtain ⟨p2, us, rfl, h3, h4⟩ := dp_tup d2
      exact wz_tt (Ext.unhid.st h1) (Ext.unhid.st h3) (q2.here _ (walk_zt h1 h3 h2 h4))
    | list ys =>
      obtain ⟨p1, vs, rfl, h1, h2⟩ := dp_tup d1'
      obtain ⟨p2, us, rfl, h3, h4⟩ := dp_lst d2
      exact wz_tl (Ext.unhid.st h1) (Ext.unhid.sl h3) (q2.here _ (walk_zm h1 h3 h2 h4))
    | _ => exact q2.elim
  | _ => exact q2.elim
end
end PD
set_option Elab.async false
set_option linter.all false
set_option maxRecDepth 100000
set_option maxHeartbeats 4000000
namespace PD
open PySem PySem.Spec PyProof.Rows L2
/-! ### enumerate of a tuple -/
section
variable {prog : Program} {w : World} {A : Around} {E : Value → Shared → Prop} {s : Shared}
abbrev enA (h : Heap) (a : Addr) : Heap :=
  h.push { cls := .type "tuple_iterator",
           data := .fields #[.ref a, .int 0 0] }
abbrev enB (h : Heap) (a : Addr) : Heap :=
  (enA h a).push { cls := .type "enumerate",
                   data := .fields #[.none, .bool false, .ref h.objs.size, rawInt 0, .none, .none] }
theorem meets_enumT (a : Addr) (xs : Array Value) (n : Nat) (dd : Option Addr) (sl : Array (Option Value)) :
    Meets (Builtin.«enumerate.__new__» ⟨[.type "enumerate", .ref a], []⟩) (fun _ R s => s.heap.get? a = some { cls := .type "tuple", dict := dd, data := .seq xs n, slots := sl } ∧ R (.ok (.ret (.ref (enA s.heap a).objs.size))) { s with heap := enB s.heap a }) :=
  .of_wp fun prog w A R s h => by
    obtain ⟨hp, g, d, tk, os⟩ := s
    obtain ⟨ha, h⟩ := h
    have hsub := sub_enumerate
    have q1 : Heap.IsTuple (Shared.heap ⟨hp, g, d, tk, os⟩) a xs := ⟨_, ha, rfl, n, rfl⟩
    wp_walk using wpAny_loadPart' ha
    refine wpAny_stack_any fun st => wpAny_pure ?_
    split
    · rename_i c _ _ _ _ _
      cases (c == Value.type "enumerate") <;> (wp_walk using wpAny_loadPart' ha, wpAny_pyIter_tuple q1; exact ⟨_, rfl, h⟩)
    · wp_walk using wpAny_loadPart' ha, wpAny_pyIter_tuple q1
      exact ⟨_, rfl, h⟩
theorem call_enumT {a : Addr} {xs : Array Value} {Q : Value → Shared → Prop} (ha : s.heap.IsTuple a xs)
    (h : ∀ h' n, n = s.heap.objs.size → IsEnum h' (n + 1) n 0 .none → h'.IsTupleIter n a 0 → (∀ c o, s.heap.get? c = some o → h'.get? c = some o) → Q (.ref (n + 1)) { s with heap := h' }) :
    wpAny (model prog w) A (call (.type "enumerate") [.ref a]) Q E s := by
  obtain ⟨⟨c, dd, dt, sl⟩, k0, k1, m, k2⟩ := ha
  simp only at k1 k2
  subst k1
  subst k2
  refine callType_new F.called_enumerate (by decide) (F.typeCall_enumerate_1 _) (F.newCall_enumerate_1 _) (fun obj => F.args_object_init_2 obj _) F.entry_enumerate_new (meets_enumT a xs m dd sl) ⟨k0, ?_⟩
  generalize en : s.heap.objs.size = n at h
  have eA : (enA s.heap a).objs.size = n + 1 := by rw [Heap.size_push, en]
  have gB : (enB s.heap a).get? (enA s.heap a).objs.size = some _ := Heap.get?_push_size _ rfl
  have gA : (enB s.heap a).get? s.heap.objs.size = some _ := Heap.get?_push_of_some _ (Heap.get?_push_size _ rfl)
  rw [eA, en] at gB
  rw [en] at gA
  show _ ∧ _
  rw [eA]
  exact ⟨⟨_, gB, rfl⟩, h _ n rfl gB ⟨_, gA, rfl, rfl⟩ fun c o e => Heap.get?_push_of_some _ (Heap.get?_push_of_some _ e)⟩
end
def IteT (K : PySem.W.Frag) (a : Addr) : It where
  go := fun i H => ∃ (xs : List V) (x : V), SqT K H a xs ∧ xs[i]? = some x
  yld := fun i H v H' => ∃ T x, v = .ref T ∧ H T = none ∧ H' = upd H T (.tup [.int (i : Nat), x]) ∧ ∀ xs, SqT K H a xs → xs[i]? = some x
  stop := fun i H => ∃ xs : List V, SqT K H a xs ∧ xs.length = i
theorem turn_enumT {P : Program} {w : World} {K : PySem.W.Frag} {elts : List Expr} {kk : Nat} {tpos : Pos} {a e it : Addr} (hne : e ≠ it) (hea : e ≠ a) (hia : a ≠ it) :
    Turn P w K (.Tuple elts kk tpos) (IteT K a) [e, it] e (fun i h => (∃ old, IsEnum h e it ((i : Nat) : Int) old) ∧ h.IsTupleIter it a i) where
  mem := by simp
  obj := fun i h st b hb => by
    obtain ⟨⟨old, s1⟩, o, s2, _, d2⟩ := st
    simp only [List.mem_cons, List.not_mem_nil, or_false] at hb
    rcases hb with rfl | rfl
    · exact ⟨_, s1, fun v q => nomatch q⟩
    · exact ⟨o, s2, fun v q => by rw [d2] at q; cases q⟩
  keep := fun i h h' st k => by
    obtain ⟨⟨old, s1⟩, s2⟩ := st
    exact ⟨⟨old, k e (by simp) _ s1⟩, s2.at fun o q => k it (by simp) o q⟩
  item := by
    intro X hP hw hK hc i pins s σ H E I hf st hg
    subst hP
    subst hw
    subst hK
    obtain ⟨⟨old, s1⟩, s2⟩ := st
    obtain ⟨xs, x, tx, gx⟩ := hg
    obtain ⟨as, ra, pa, _⟩ := I.tuple tx
    obtain ⟨u, gu, ru⟩ := ra.get gx
    have la := ra.length
    have ia := (List.getElem?_eq_some_iff.mp gx).1
    have hh : X.A.in1.handled = none := I.ok.hd hc
    have ez : e < s.heap.objs.size := Heap.lt_size s1
    have iz : it < s.heap.objs.size := by
      obtain ⟨_, q, _⟩ := s2
      exact Heap.lt_size q
    refine wpAny_pyNext_enum_itemD (Draws.tuple hh it a hia as.toArray) s1 ⟨s2, pa⟩ (by rw [List.size_toArray]; omega) hne (by simp [hne, hea]) fun y h' tk py out st' hT hsz hk => ?_
    have ey : y = u := Option.some.inj (py.symm.trans (by simpa using gu))
    subst ey
    refine ⟨_, rfl, ?_⟩
    refine wpAny_letOwnedTupleGo_enum (s := { s with heap := h', toks := tk + 1 }) out fun h2 e2 sb => ?_
    have hT2 : h2.get? s.heap.objs.size = some { cls := .type "tuple", data := .seq #[.int i tk, y] } := (sb.2 _ (Nat.ne_of_gt ez)).trans hT
    have new : ObjOk X.prog X.w (upd H s.heap.objs.size (.tup [.int (i : Nat), x])) h2 s.heap.objs.size (.tup [.int (i : Nat), x]) :=
      ⟨by show 2 ≤ sizeLine; decide, [.int i tk, y], .cons ⟨tk, rfl⟩ (.cons ru .nil), ⟨_, hT2, rfl, _, rfl⟩⟩
    have keep : ∀ c o, c ∉ [e, it] → s.heap.get? c = some o → h2.get? c = some o := fun c o nc q => by
      simp only [List.mem_cons, List.not_mem_nil, or_false, not_or] at nc
      exact (sb.2 c nc.1).trans (hk c o nc.1 nc.2 q)
    have I1 := I.turnedNew (t' := tk + 1) keep hf (Nat.le_refl _) new
    refine ⟨.ref s.heap.objs.size, _, I1, rfl, ⟨_, x, rfl, I.hok.fresh (Nat.le_refl _), rfl, fun l hl => by rw [I.tuple_inj hl tx]; exact gx⟩, ⟨⟨y, ?_⟩, st'.1.at fun o q => (sb.2 it hne.symm).trans q⟩, fun c hcm => ?_⟩
    · rw [show ((i + 1 : Nat) : Int) = (i : Int) + 1 by omega]
      exact e2
    · have hlt : c < s.heap.objs.size := by
        simp only [List.mem_cons, List.not_mem_nil, or_false] at hcm
        rcases hcm with rfl | rfl
        · exact ez
        · exact iz
      rw [upd_ne (Nat.ne_of_lt hlt)]
      exact (hf c hcm).1
  done := by
    intro X hP hw hK hc i pins s σ H E I hf st hg
    subst hP
    subst hw
    subst hK
    obtain ⟨⟨old, s1⟩, s2⟩ := st
    obtain ⟨xs, tx, hend⟩ := hg
    obtain ⟨as, ra, pa, _⟩ := I.tuple tx
    have la := ra.length
    have hh : X.A.in1.handled = none := I.ok.hd hc
    have ei : i = as.toArray.size := by rw [List.size_toArray]; omega
    subst ei
    refine wpAny_pyNext_enum_endD (Draws.tuple hh it a hia as.toArray) s1 ⟨s2, pa⟩ fun h' hk => ⟨rfl, ?_⟩
    exact I.turnedL (t' := s.toks) (ch := [e, it]) (fun c o nc q => by
      simp only [List.mem_cons, List.not_mem_nil, or_false, not_or] at nc
      exact hk c o nc.2 q) hf
  self := fun A i s Q E st h => by
    obtain ⟨⟨old, s1⟩, _⟩ := st
    exact wpAny_pyIter_enum s1 h
/-! ### enumerate of either -/
def wpN (X : Cx) (tg : Expr) (vs : List V) : L2.St → Hp → (It → Hp → Prop) → Prop := fun σ H R => ∀ pins s us, Inv X pins σ H s → Vals vs us → wpAny (model X.prog X.w) X.A (call (.type "enumerate") us) (fun v s1 => wpAny (model X.prog X.w) X.A (pyIter v) (PIE X pins σ tg R) X.xe s1) X.xe s
section
variable {X : Cx} {W : WX} {a e : Expr} {elts : List Expr} {fa : E} {pos p tpos : Pos} {kk : Nat} {σ : Sg} {H : Hp} {R : It → Hp → Prop} {p1 : Addr} {vs : List V} {ta : TA}
variable [Tbs]
theorem pi_enumX (hg : Gl X "enumerate") (hm : X.mg "enumerate" = none) (ha : PA X [a] ta) (hs : starEach [a] X.env = [(false, eval a X.env)]) : PI X (.Tuple elts kk tpos) (.Call (.Name "enumerate" p) [a] [] pos) (fun σ H R => ta σ H fun vs H1 => wpN X (.Tuple elts kk tpos) vs σ H1 R) :=
  ⟨fun pins s σ H R I h => Call_ (ld_blt I hg hm boot_enumerate (PyProof.Rows.callWith_type1 (thn (ha.run pos pins s σ H _ I h) fun us s1 ⟨vs, H1, I1, r1, q1⟩ => q1 pins s1 us I1 r1) hs rfl))⟩
theorem fresh2 {pins : List (Addr × Obj)} {s : Shared} (I : Inv X pins σ H s) : ∀ c ∈ [s.heap.objs.size + 1, s.heap.objs.size], FpOk X pins H c := fun c hc => by
  have hle : s.heap.objs.size ≤ c := by
    simp only [List.mem_cons, List.not_mem_nil, or_false] at hc
    rcases hc with h | h <;> subst h <;> first | exact Nat.le_refl _ | exact Nat.le_add_right _ _
  exact I.fpOk hle (I.hok.fresh hle)
theorem wn_l (h1 : SqL X.K H p1 vs) (q : R (Ite X.K p1) H) : wpN X (.Tuple elts kk tpos) [.ref p1] σ H R := fun pins s ws I r => by
  cases r with
  | cons r1 rr =>
    cases rr
    cases r1
    obtain ⟨xs, _, l1, _⟩ := I.list h1
    refine call_enumerate_list l1.isList fun h' c1 c2 _ c4 => wpAny_pyIter_enum c1 ?_
    exact ⟨_, _, _, _, H, rfl, I.kept (t' := s.toks) c4, turn_enum p1 _ _, ⟨⟨_, c1⟩, c2, Nat.succ_ne_self _⟩, fresh2 I, q⟩
theorem wn_t (h1 : SqT X.K H p1 vs) (q : R (IteT X.K p1) H) : wpN X (.Tuple elts kk tpos) [.ref p1] σ H R := fun pins s ws I r => by
  cases r with
  | cons r1 rr =>
    cases rr
    cases r1
    obtain ⟨xs, _, l1, _⟩ := I.tuple h1
    obtain ⟨o1, k1, _⟩ := id l1
    have hlt := Heap.lt_size k1
    refine call_enumT (show s.heap.IsTuple p1 xs.toArray from l1) fun h' n en c1 c2 c4 => wpAny_pyIter_enum c1 ?_
    subst en
    exact ⟨_, _, _, _, H, rfl, I.kept (t' := s.toks) c4, turn_enumT (e := s.heap.objs.size + 1) (it := s.heap.objs.size) (a := p1) (Nat.succ_ne_self _) (Nat.ne_of_gt (Nat.lt_succ_of_lt hlt)) (Nat.ne_of_lt hlt), ⟨⟨_, c1⟩, c2⟩, fresh2 I, q⟩
end
def enD (xs : List PyData) : List PyData := List.zipWith (fun (i : Nat) x => pr (.int (i : Nat)) x) (List.range xs.length) xs
theorem en_get {xs : List PyData} {i : Nat} {d : PyData} (h : (enD xs)[i]? = some d) : ∃ x, xs[i]? = some x ∧ d = pr (.int (i : Nat)) x := by
  unfold enD at h
  rw [List.getElem?_zipWith] at h
  by_cases hi : i < xs.length
  · rw [List.getElem?_range hi, List.getElem?_eq_getElem hi] at h
    cases h
    exact ⟨_, List.getElem?_eq_getElem hi, rfl⟩
  · rw [List.getElem?_eq_none (by rw [List.length_range]; omega)] at h
    cases h
theorem en_len (xs : List PyData) : (enD xs).length = xs.length := by
  unfold enD
  rw [List.length_zipWith, List.length_range, Nat.min_self]
section
variable {K : PySem.W.Frag} {O : List Addr} {H : Hp} {a : Addr} {vs : List V} {ds : List PyData}
theorem walk_el [Tbs] (h : SqL K (hid O H) a vs) (hd : DpAll K (hid O H) vs ds) : WalkD K O H (Ite K a) (enD ds) where
  go := fun i d O1 H1 e x l => by
    obtain ⟨dx, g1, rfl⟩ := en_get e
    obtain ⟨v, h1, h2⟩ := dpa_get hd g1
    have s1 : SqL K H1 a vs := Ext.unhid.sl (x.sl h)
    refine ⟨⟨vs, v, s1, h1⟩, fun y H2 ⟨T, x1, ey, hT, e2, f1⟩ => ?_⟩
    subst e2
    subst ey
    have q1 := f1 vs s1
    rw [h1] at q1
    cases q1
    exact ⟨Ext.new hT, dp_newT l hT (.cons (.int _) (.cons (x.dp h2) .nil))⟩
  stop := fun i O1 H1 hi x => ⟨vs, Ext.unhid.sl (x.sl h), by
    rw [en_len] at hi
    rw [dpa_len hd]
    omega⟩
theorem walk_et [Tbs] (h : SqT K (hid O H) a vs) (hd : DpAll K (hid O H) vs ds) : WalkD K O H (IteT K a) (enD ds) where
  go := fun i d O1 H1 e x l => by
    obtain ⟨dx, g1, rfl⟩ := en_get e
    obtain ⟨v, h1, h2⟩ := dpa_get hd g1
    have s1 : SqT K H1 a vs := Ext.unhid.st (x.st h)
    refine ⟨⟨vs, v, s1, h1⟩, fun y H2 ⟨T, x1, ey, hT, e2, f1⟩ => ?_⟩
    subst e2
    subst ey
    have q1 := f1 vs s1
    rw [h1] at q1
    cases q1
    exact ⟨Ext.new hT, dp_newT l hT (.cons (.int _) (.cons (x.dp h2) .nil))⟩
  stop := fun i O1 H1 hi x => ⟨vs, Ext.unhid.st (x.st h), by
    rw [en_len] at hi
    rw [dpa_len hd]
    omega⟩
end
def dEnu (d : PyData) : RO (List PyData) := match d with
  | .list xs => .ok (enD xs)
  | .tuple xs => .ok (enD xs)
  | _ => .no
def iEnu (fa : E) : A := fun env => fa env >>= dEnu
theorem ci_enum [Tbs] {X : Cx} {W : WX} {a : Expr} {elts : List Expr} {fa : E} {pos p tpos : Pos} {kk : Nat} (h : CE X W a fa) (hg : Gl X "enumerate") (hm : X.mg "enumerate" = none) (hs : starEach [a] X.env = [(false, eval a X.env)] := by rfl) :
    CI X W (.Tuple elts kk tpos) (.Call (.Name "enumerate" p) [a] [] pos) (iEnu fa) := fun Z env σ H O R r q => by
  refine wp_i (pi_enumX hg hm (pa_cons pe_wp pa_nil (by rw [hs] <;> rfl)) hs) ?_
  unfold iEnu at q
  refine h.go r q fun dx vx H1 e1 d1 r1 q1 => ?_
  cases dx with
  | list xs =>
    obtain ⟨p1, vs, rfl, h1, h2⟩ := dp_lst d1
    exact wn_l (Ext.unhid.sl h1) (q1.here _ (walk_el h1 h2))
  | tuple xs =>
    obtain ⟨p1, vs, rfl, h1, h2⟩ := dp_tup d1
    exact wn_t (Ext.unhid.st h1) (q1.here _ (walk_et h1 h2))
  | _ => exact q1.elim
end PD
set_option Elab.async false
set_option linter.all false
set_option maxRecDepth 100000
set_option maxHeartbeats 4000000
namespace PD
open PySem PySem.Spec PyProof.Rows L2
/-! ### x[i] += e, x a list of the frame's own -/
def sAugI (i : Nat) (fk f : E) : S := fun env => ofR (gvo env i) env fun xs => ofR (fk env) env fun k => match k with
  | .int k => if k < 0 then .no else (match xs[k.toNat]? with
    | some (.int old) => ofR (f env) env fun d => (match d with
      | .int j => (match setD xs k (.int (old + j)) with
        | some ys => .nx (env.set i (some (.own ys)))
        | none => .no)
      | _ => .no)
    | _ => .no)
  | _ => .no
section
variable {X : Cx} {W : WX} {b e : Expr} {fb f : E} {pos p : Pos}
variable [Tbs]
def rGetN (K : PySem.W.Frag) : V → V → Hp → VK → Prop := fun x y H Q => ∃ p xs i v, x = .ref p ∧ y = .int i ∧ 0 ≤ i ∧ SqL K H p xs ∧ xs[i.toNat]? = some v ∧ Q v H
theorem pget_list : PGet X (rGetN X.K) := fun pins s σ H o i ov iv Q I r1 r2 h => by
  obtain ⟨p, xs, k, v, rfl, rfl, h0, hl, hg, q⟩ := h
  cases r1
  obtain ⟨t, rfl⟩ := r2
  obtain ⟨as, ra, pl, _⟩ := I.list hl
  obtain ⟨u, gu, ru⟩ := ra.get hg
  have la := ra.length
  have ik := (List.getElem?_eq_some_iff.mp hg).1
  have hn := line63
  exact wpAny_getItem_list pl.isList h0 (by omega) (by simpa using gu) ⟨v, H, I, ru, q⟩
theorem cs_augI {i : Nat} {x : Str} {px : Pos} (hN : X.N[i]? = some x) (hv : Vis X.env.scope x) (hd : (x == ("__debug__" : Str)) = false) (hcd : (x == ("__classdict__" : Str)) = false) (hb : CE X W b fb) (he : CE X W e f)
    (ha : ∀ ov iv new, augStore b ov iv new = (do holding [new, ov, iv] (setItem ov iv new); release [new, ov, iv] []; pure .next) := by intros; rfl) :
    CS X W (.AugAssign (.Subscript (.Name x px) b p) .Add e pos) (sAugI i fb f) := fun Z env σ H O D r q => by
  refine wp_s (ps_augS pe_wp pe_wp pget_list pe_wp ip_add set_list ha) ?_
  unfold sAugI at q
  rcases gvo_cases env i with ⟨ds, hi⟩ | hi
  · rw [hi] at q
    refine own_read r (gvo_ok hi) hN hv hd hcd fun pl vs s1 s2 s3 s4 s5 => ?_
    refine hb.so r q fun k kv H2 e2 d2 r2 q2 => ?_
    cases k with
    | int k =>
      cases dp_int d2
      dsimp only at q2
      by_cases k0 : k < 0
      · rw [if_pos k0] at q2
        exact q2.elim
      rw [if_neg k0] at q2
      cases ho : ds[k.toNat]? with
      | none => rw [ho] at q2; exact q2.elim
      | some old =>
        rw [ho] at q2
        have d5 : DpAll X.K (hid O H2) vs ds := (e2.hid O).dpa s5
        obtain ⟨ov, g1, g2⟩ := dpa_get d5 ho
        cases old with
        | int old =>
          cases dp_int g2
          refine ⟨pl, vs, k, .int old, rfl, rfl, by omega, SqL.of (e2.lst s4), g1, ?_⟩
          refine he.so r2 q2 fun dv v H3 e3 d3 r3 q3 => ?_
          cases dv with
          | int j =>
            cases dp_int d3
            dsimp only at q3
            unfold setD at q3
            cases hj : ixN ds.length k with
            | none => rw [hj] at q3; exact q3.elim
            | some m =>
              rw [hj] at q3
              exact ⟨old, j, rfl, rfl, pl, vs, k, m, rfl, rfl, e3.lst (e2.lst s4), by rw [dpa_len s5]; exact hj, q3 _ _ _ (r3.mutOwn (gvo_ok hi) s1 (dpa_set (.int _) m ((e3.hid O).dpa d5)))⟩
          | _ => exact q3.elim
        | _ => exact q2.elim
    | _ => exact q2.elim
  · rw [hi] at q
    exact q.elim
end
end PD
set_option Elab.async false
set_option linter.all false
set_option maxRecDepth 100000
set_option maxHeartbeats 4000000
namespace PD
open PySem PySem.Spec PyProof.Rows L2
/-! ### all, any of a generator expression -/
/-- the context of a generator expression's code -/
abbrev gex (X : Cx) (A' : Around) (s : Shared) (H : Hp) (genv : PySem.Env) (fp : List Addr) : Cx :=
  { X with A := A', s_0 := s, H_0 := H, env := genv, outer := X.stack, stack := genv :: X.stack, ex := fp, fn := fun _ => false, pn := [], xe := fun _ _ => False }
section
variable {X : Cx} {pins : List (Addr × Obj)} {σ : L2.St} {H : Hp} {s : Shared}
theorem gex_start {s' : Shared} {scope : Scope} {own : List (Str × Nat)} {fp : List Addr} {A' : Around} {code : Value} {a : Addr} {go : Obj} {m0 : Str → Option Value} (I : Inv X pins σ H s) (ok : BlkOk X.N X.env.scope scope own) (hN : X.N.Nodup) (nc : ∀ y ∈ scope.names, y.2 ≠ .cell)
    (hA : A'.handled = none) (hfr : A'.frames = some (genEnv scope (cloFrom X.env.cells scope.names []) s.heap.objs.size code builtinsNs X.env :: X.stack)) (hfp : ∀ b ∈ fp, FpOk X pins H b ∧ b < s.heap.objs.size)
    (os : s'.os = s.os) (bare : AllBare s'.gens) (kp : ∀ b o, s.heap.get? b = some o → s'.heap.get? b = some o) (hns : s'.heap.Ns s.heap.objs.size m0) (ha : s'.heap.get? a = some go) (haC : s.heap.objs.size < a) (hgo : ∀ v, go.data ≠ .cell v) :
    Inv (gex X A' s H (genEnv scope (cloFrom X.env.cells scope.names []) s.heap.objs.size code builtinsNs X.env) fp) [(a, go)] (L2.wipe σ (own.map (·.2))) H s' := by
  have hfree : ∀ y ∈ scope.names, y.2 = .free → ∃ c, X.env.cells.lookup y.1 = some c := fun y hy e => by
    rcases ok.free y hy e with k | k
    · exact I.ok.has _ (.inl k)
    · exact I.ok.has _ (.inr k)
  generalize hcenv : genEnv scope (cloFrom X.env.cells scope.names []) s.heap.objs.size code builtinsNs X.env = cenv at hfr
  have hL : cenv.locals = s.heap.objs.size := by rw [← hcenv]; rfl
  have hcl : cenv.cells = cloFrom X.env.cells scope.names [] := by rw [← hcenv]; rfl
  have hsc : cenv.scope = scope := by rw [← hcenv]; rfl
  have cm : ∀ {y c}, (y, c) ∈ cloFrom X.env.cells scope.names [] → X.env.cells.lookup y = some c ∧ c < s.heap.objs.size := fun {y c} hm => by
    rcases cloFrom_mem hm with hm | ⟨h1, rfl⟩
    · cases hm
    · obtain ⟨c, hc⟩ := hfree _ h1 rfl
      rw [hc]
      obtain ⟨w, z⟩ := I.cell _ _ hc
      exact ⟨rfl, z.lt⟩
  have mem : ∀ {y c}, cenv.cells.lookup y = some c → X.env.cells.lookup y = some c ∧ c < s.heap.objs.size := fun {y c} e => by
    rw [hcl] at e
    exact cm (PySem.mem_of_lookup e)
  have look : ∀ {y}, scope.names.lookup y = some .free → ∃ c, cenv.cells.lookup y = some c ∧ X.env.cells.lookup y = some c := fun {y} hl => by
    have hy : (y, NameKind.free) ∈ scope.names := PySem.mem_of_lookup hl
    obtain ⟨c', e'⟩ := mem_lookup (cloFrom_has (cells := X.env.cells) (acc := []) hy)
    rw [← hcl] at e'
    exact ⟨c', e', (mem e').1⟩
  have okB : (gex X A' s H cenv fp).Ok := by
    refine ⟨I.ok.mod, by show cenv.scope.kind = _; rw [hsc]; exact ok.kind, by show cenv.globals = _; rw [← hcenv]; exact I.ok.glob, by show cenv.builtins = _; rw [← hcenv]; rfl, by show s.heap.objs.size ≤ cenv.locals; rw [hL]; exact Nat.le_refl _,
      fun y z c e1 e2 => I.ok.inj y z c (mem e1).1 (mem e2).1, fun y hy => ?_, fun y c z e => absurd (show false = true from z) Bool.false_ne_true, fun _ => hA, hfr, .inr ⟨rfl, by show cenv.frame = some cenv.locals; rw [← hcenv]; rfl⟩, fun b hb => ⟨?_, fun y c e z => ?_⟩, I.bs, Nat.le_trans I.ok.bsz I.sz, fun b o e hb => ?_, fun b hb z => ?_, I.stack, I.stkFree⟩
    · show ∃ c, cenv.cells.lookup y = some c
      have hy : cenv.scope.names.lookup y = some .cell ∨ cenv.scope.names.lookup y = some .free := hy
      rw [hsc] at hy
      rcases hy with hy | hy
      · exact absurd rfl (nc _ (PySem.mem_of_lookup hy))
      · obtain ⟨c, h1, _⟩ := look hy
        exact ⟨c, h1⟩
    · show b ≠ cenv.locals
      rw [hL]; exact Nat.ne_of_lt (hfp b hb).2
    · exact (hfp b hb).1.2.2.2.2.1 y c (mem e).1 z
    · rcases (hfp b hb).1.2.2.2.1 with z | z
      · exact I.ok.noex b o e z
      · exact absurd (Nat.lt_of_lt_of_le (Heap.lt_size e) (Nat.le_trans I.ok.bsz z)) (Nat.lt_irrefl _)
    · rcases List.mem_cons.mp (I.stkSub b z) with z | z
      · exact (hfp b hb).1.2.1 z
      · exact (hfp b hb).1.2.2.1 z
  refine ⟨okB, os, bare, Un.kept kp, ⟨m0, ?_, fun i y av e1 e2 e3 => ?_⟩, fun y c e => ?_, ?_, fun y c e => ?_, fun p hp => ?_, I.hok.kept kp, by rw [wipe_length]; exact I.len⟩
  · show Heap.Ns _ cenv.locals _
    rw [hL]
    exact hns
  · obtain ⟨e2, hne⟩ := wipe_some e2
    have no : ∀ k', scope.names.lookup y = some k' → ¬ (k' = .local ∨ k' = .cell) := fun k' e hh => by
      rcases ok.own _ (PySem.mem_of_lookup e) hh with e' | e'
      · obtain ⟨p, hp, hpy⟩ := List.mem_map.mp e'
        have e3 := ok.ix p hp
        have : p.1 = y := hpy
        rw [this] at e3
        exact hne (List.mem_map.mpr ⟨p, hp, nodup_ix hN e3 e1⟩)
      · exact e' (List.mem_of_getElem? e1)
    have e3 : Vis cenv.scope y := e3
    rw [hsc] at e3
    have hf : scope.names.lookup y = some .free := by
      rcases e3 with e3 | e3 | e3
      · exact absurd (.inl rfl) (no _ e3)
      · exact absurd (.inr rfl) (no _ e3)
      · exact e3
    obtain ⟨m, hn, hl⟩ := I.loc
    have hvis : Vis X.env.scope y := (ok.free _ (PySem.mem_of_lookup hf) rfl).elim (fun k => .inr (.inl k)) (fun k => .inr (.inr k))
    obtain ⟨w, r, q⟩ := hl i y av e1 e2 hvis
    refine ⟨w, r, .inr ⟨.inr (by show cenv.scope.names.lookup y = _; rw [hsc]; exact hf), ?_⟩⟩
    obtain ⟨c, h1, h2⟩ := look hf
    rcases q with ⟨k, _⟩ | ⟨_, c', e', z⟩
    · have k : X.env.scope.names.lookup y = some .local := k
      rcases ok.free _ (PySem.mem_of_lookup hf) rfl with k' | k' <;> rw [show X.env.scope.names.lookup y = _ from k'] at k <;> cases k
    · rw [h2] at e'; cases e'
      exact ⟨c, h1, z.keeps kp⟩
  · obtain ⟨w, z⟩ := I.cell y c (mem e).1
    exact ⟨w, z.keeps kp⟩
  · show H cenv.locals = none
    rw [hL]; exact I.hok.fresh (Nat.le_refl _)
  · exact I.freeC y c (mem e).1
  · have hp' : p = (a, go) := by
      have hp2 : p ∈ ([] : List (Addr × Obj)) ++ [(a, go)] := hp
      simpa using hp2
    subst hp'
    refine ⟨ha, I.hok.fresh (Nat.le_of_lt haC), ?_, fun z => Nat.lt_irrefl _ (Nat.lt_trans haC (by obtain ⟨_, o, ho, _⟩ := I.stack.mem z; exact Heap.lt_size ho)), hgo⟩
    show a ≠ cenv.locals
    rw [hL]; exact Nat.ne_of_gt haC
end
end PD
set_option Elab.async false
set_option linter.all false
set_option maxRecDepth 100000
set_option maxHeartbeats 4000000
namespace PD
open PySem PySem.Spec PyProof.Rows L2
def gStep (g : G) (f : E) (env : Env) (x : PyData) : RO Bool := quiet (g x env) >>= fun e1 => quiet (f e1) >>= tb
/-- go: all (true), any (false) -/
def anB (go : Bool) (g : G) (f : E) (env : Env) : List PyData → RO Bool
  | [] => .ok go
  | x :: xs => gStep g f env x >>= fun b => if b = go then anB go g f env xs else .ok b
theorem gStep_ok {g : G} {f : E} {env : Env} {x : PyData} {b : Bool} (h : gStep g f env x = .ok b) : ∃ e1, g x env = .ok e1 ∧ f e1 = .ok (.bool b) := by
  obtain ⟨e1, h1, h⟩ := bind_okE h
  obtain ⟨d, h2, h3⟩ := bind_okE h
  refine ⟨e1, quiet_ok h1, ?_⟩
  cases d with
  | bool c => cases h3; exact quiet_ok h2
  | _ => cases h3
theorem gStep_noEr {g : G} {f : E} {env : Env} {x : PyData} (c : Str) (fl : Flds) : gStep g f env x ≠ .er c fl := fun h => by
  unfold gStep at h
  cases h1 : quiet (g x env) with
  | ok e1 =>
    rw [h1, RO.bind_ok] at h
    cases h2 : quiet (f e1) with
    | ok d =>
      rw [h2, RO.bind_ok] at h
      cases d <;> cases h
    | er _ _ => revert h2; cases f e1 <;> intro h2 <;> cases h2
    | no => rw [h2] at h; cases h
  | er _ _ => revert h1; cases g x env <;> intro h1 <;> cases h1
  | no => rw [h1] at h; cases h
theorem anB_noEr {go : Bool} {g : G} {f : E} {env : Env} : ∀ (xs : List PyData) (c : Str) (fl : Flds), anB go g f env xs ≠ .er c fl
  | [], c, fl, h => by cases h
  | x :: xs, c, fl, h => by
    unfold anB at h
    cases h1 : gStep g f env x with
    | ok b =>
      rw [h1, RO.bind_ok] at h
      split at h
      · exact anB_noEr xs c fl h
      · cases h
    | er c' fl' => exact gStep_noEr c' fl' h1
    | no => rw [h1] at h; cases h
/-- asleep ahead of item i -/
def GPhi (Y : Cx) (pp : List (Addr × Obj)) (σw : L2.St) (fp : List Addr) (tn : Nat → Heap → Prop) (Hx : Hp) (i : Nat) (s : Shared) : Prop := ∃ H', Inv Y pp σw H' s ∧ tn i s.heap ∧ (∀ b ∈ fp, H' b = none) ∧ Ext Hx H'
def GPsi (Y : Cx) (pp : List (Addr × Obj)) (σw : L2.St) (Hx : Hp) (s : Shared) : Prop := ∃ H', Inv Y pp σw H' s ∧ Ext Hx H'
theorem inv_gens {Y : Cx} {pp : List (Addr × Obj)} {σ : L2.St} {H : Hp} {s : Shared} (I : Inv Y pp σ H s) {g' : Array GenState} (hg : AllBare g') : Inv Y pp σ H { s with gens := g' } :=
  I.call' (s' := { s with gens := g' }) (ch := []) rfl Un.refl I.hok hg fun _ z => nomatch z
theorem GPhi.gens {Y : Cx} {pp : List (Addr × Obj)} {σw : L2.St} {fp : List Addr} {tn : Nat → Heap → Prop} {Hx : Hp} {i : Nat} {s : Shared} (h : GPhi Y pp σw fp tn Hx i s) {g : Nat} {x : GenState} (hx : x.bare = true) : GPhi Y pp σw fp tn Hx i (s.setGen g x) := by
  obtain ⟨H', I, a, b, c⟩ := h
  exact ⟨H', inv_gens I (allBare_setGen I.bare hx), a, b, c⟩
theorem GPsi.gens {Y : Cx} {pp : List (Addr × Obj)} {σw : L2.St} {Hx : Hp} {s : Shared} (h : GPsi Y pp σw Hx s) {g : Nat} {x : GenState} (hx : x.bare = true) : GPsi Y pp σw Hx (s.setGen g x) := by
  obtain ⟨H', I, c⟩ := h
  exact ⟨H', inv_gens I (allBare_setGen I.bare hx), c⟩
theorem GPhi.psi {Y : Cx} {pp : List (Addr × Obj)} {σw : L2.St} {fp : List Addr} {tn : Nat → Heap → Prop} {Hx : Hp} {i : Nat} {s : Shared} (h : GPhi Y pp σw fp tn Hx i s) : GPsi Y pp σw Hx s := by
  obtain ⟨H', I, _, _, c⟩ := h
  exact ⟨H', I, c⟩
theorem GPsi.kept {Y : Cx} {pp : List (Addr × Obj)} {σw : L2.St} {Hx : Hp} {s : Shared} (h : GPsi Y pp σw Hx s) {h' : Heap} (k : ∀ b o, s.heap.get? b = some o → h'.get? b = some o) : GPsi Y pp σw Hx { s with heap := h' } := by
  obtain ⟨H', I, c⟩ := h
  exact ⟨H', I.kept (t' := s.toks) k, c⟩
abbrev gLoop (elt iter : Expr) (tg : Expr) (scope : Scope) (pos : Pos) (it : Addr) (env : PySem.Env) : Code := .compLoop (.GeneratorExp elt [⟨tg, iter, [], 0⟩] scope pos) 0 (.ref it) .none env
def GYp (go : Bool) (g : G) (f : E) (env : Env) (items : List PyData) (Φ : Nat → Shared → Prop) : Protocol := fun m s₀ v s kap =>
  ∃ i x b, m + i = items.length ∧ items[i]? = some x ∧ gStep g f env x = .ok b ∧ v = .bool b ∧ Φ (i + 1) s ∧ (b = go → ∀ s'', Φ (i + 1) s'' → kap (.send .none) s'')
section
variable [Tbs] {Y : Cx} {AW : Around} {elt iter : Expr} {x : Str} {px pos : Pos} {scope : Scope} {it : Addr} {J : It} {fp : List Addr} {tn : Nat → Heap → Prop} {pp : List (Addr × Obj)} {is ws : List Nat} {g : G} {f : E} {Z : Zn} {env : Env} {σ : Sg} {Hx : Hp} {O : List Addr} {items : List PyData} {go : Bool}
theorem gen_seg (T : Turn Y.prog Y.w Y.K (.Name x px) J fp it tn) (hY : AW.over (gLoop elt iter (.Name x px) scope pos it Y.env) [] = Y.A) (hc : Y.calm = true) (hco : Y.env.scope.isCoroutine = false) (hxe : Y.xe = fun _ _ => False)
    (hg : CG Y (.Name x px) is g) (his : ∀ j ∈ is, j ∈ ws) (he : CE Y WN elt f) (r1 : Rep Y.K Z env σ Hx O) (wd : WalkD Y.K O Hx J items)
    (stat : ∀ H' : Hp, (∀ b ∈ fp, H' b = none) → ∀ b ∈ fp, FpOk Y pp H' b) :
    ∀ (k i : Nat) (s₀ s : Shared), items.length - i = k → i ≤ items.length → (∃ r, anB go g f (wipeE env ws) (items.drop i) = .ok r) → GPhi Y pp (L2.wipe σ ws) fp tn Hx i s →
      Seg (model Y.prog Y.w) AW (fun n s₀ r s₁ => r = .ok .next ∧ (n = 1 ∧ GPsi Y pp (L2.wipe σ ws) Hx s₁)) (GYp go g f (wipeE env ws) items (GPhi Y pp (L2.wipe σ ws) fp tn Hx)) (k + 1) s₀
        (gLoop elt iter (.Name x px) scope pos it Y.env) ((model Y.prog Y.w).den (gLoop elt iter (.Name x px) scope pos it Y.env)) [] s := by
  intro k
  induction k with
  | zero =>
    intro i s₀ s hk hi hr hΦ
    have hin : i = items.length := by omega
    subst hin
    obtain ⟨H', I, st, nf, ex⟩ := hΦ
    have rr := r1.mono ex
    show Seg _ AW _ _ _ s₀ _ ((compTurn (.GeneratorExp elt [⟨.Name x px, iter, [], 0⟩] scope pos) 0 (.ref it) .none Y.env).onRaise (leaving Y.env)) [] s
    rw [compTurn_gen, Sem.onRaise_eq_wrap]
    refine seg_bind_wrap (wpAny_standAt ?_)
    refine seg_bind_wrap ?_
    rw [hY]
    refine wpAny_mono (T.done Y rfl rfl rfl hc items.length pp s _ H' (fun _ _ => False) I (stat H' nf) st (wd.stop _ O H' rfl (ex.hid O))) (fun r s1 h1 => ?_) fun _ _ z => z.elim
    obtain ⟨hr, I1⟩ := h1
    subst hr
    exact seg_end (.ok .next) ⟨rfl, rfl, H', I1, ex⟩
  | succ k ih =>
    intro i s₀ s hk hi hr hΦ
    have hlt : i < items.length := by omega
    have hx : items[i]? = some items[i] := List.getElem?_eq_getElem hlt
    obtain ⟨r, hr⟩ := hr
    rw [List.drop_eq_getElem_cons hlt] at hr
    obtain ⟨bo, hb, hr⟩ := bind_okE hr
    obtain ⟨e1, hg1, hf1⟩ := gStep_ok hb
    obtain ⟨H', I, st, nf, ex⟩ := hΦ
    have rr := r1.mono ex
    obtain ⟨hgo, hyld⟩ := wd.go i _ O H' hx (ex.hid O) rr.lv
    show Seg _ AW _ _ _ s₀ _ ((compTurn (.GeneratorExp elt [⟨.Name x px, iter, [], 0⟩] scope pos) 0 (.ref it) .none Y.env).onRaise (leaving Y.env)) [] s
    rw [compTurn_gen, Sem.onRaise_eq_wrap]
    refine seg_bind_wrap (wpAny_standAt ?_)
    refine seg_bind_wrap ?_
    rw [hY]
    refine wpAny_mono (T.item Y rfl rfl rfl hc i pp s _ H' (fun _ _ => False) I (stat H' nf) st hgo) (fun ru s1 h1 => ?_) fun _ _ z => z.elim
    obtain ⟨u, hru, h1⟩ := h1
    subst hru
    refine seg_bind_wrap ?_
    rw [hY]
    refine wpAny_mono h1 (fun _ s2 h2 => ?_) fun _ _ z => z.elim
    obtain ⟨xv, H2, I2, rx, hy, st2, n2⟩ := h2
    obtain ⟨e2, d2⟩ := hyld xv H2 hy
    have Ip := I2.pinned (stat H2 n2) (T.obj _ _ st2)
    have rb := (r1.mono (ex.trans e2)).wipe ws
    have pin' : ∀ {σ' : L2.St} {s' : Shared} {H' : Hp}, Inv Y (pp ++ pinsAt fp s2.heap) σ' H' s' → ∀ b ∈ fp, ∀ o, s2.heap.get? b = some o → s'.heap.get? b = some o ∧ H' b = none := fun I' b hb o e =>
      let z := I'.pin (b, o) (List.mem_append_right _ (List.mem_append_right _ (mem_pinsAt hb e)))
      ⟨z.1, z.2.1⟩
    refine seg_bind_wrap ?_
    rw [hY]
    refine wpAny_mono (hg Z _ _ H2 O xv _ (fun σ2 H3 => H3 = H2 ∧ Rep Y.K Z e1 σ2 H2 O ∧ (∀ j, j ∉ is → σ2[j]? = (L2.wipe σ ws)[j]?) ∧ σ2.length = (L2.wipe σ ws).length) rb d2 (by
      rw [hg1]
      exact fun σ2 r2 l2 k2 => ⟨rfl, r2, k2, l2⟩) _ s2 u Ip rx) (fun _ s3 h3 => ?_) (fun _ _ z => by rw [hxe] at z; exact z.elim)
    obtain ⟨σ2, H3, I3, hH3, r2, hw2, hl2⟩ := h3
    subst hH3
    simp only [List.forIn_nil]
    refine seg_bind_wrap (wpAny_pure ?_)
    simp only [if_true]
    have hy' : ∀ v, yieldOut Y.env v = yieldValue v := fun v => by simp only [yieldOut, hco, Bool.false_eq_true, if_false]
    simp only [hy']
    rw [Sem.bind_eq_wrap', Sem.bind_eq_wrap', Sem.wrap_wrap, Sem.wrap_wrap]
    refine seg_wrap ?_
    rw [hY]
    refine wpAny_mono (he Z e1 σ2 H3 O (fun v H4 => v = .bl bo ∧ Ext H3 H4) r2 (ROk.unquiet hf1 fun H5 e5 v hv => ⟨dp_bool hv, e5⟩) _ s3 I3) (fun y s4 h4 => ?_) (fun _ _ z => by rw [hxe] at z; exact z.elim)
    obtain ⟨v, H4, I4, rv, hv, e4⟩ := h4
    subst hv
    have hy4 : y = .bool bo := rv
    subst hy4
    have fin : GPhi Y pp (L2.wipe σ ws) fp tn Hx (i + 1) s4 := by
      refine ⟨H4, (I4.unpinned (pins := pp)).weak (by rw [hl2]) (fun j v e => ?_), T.keep _ _ _ st2 fun b hb o e => (pin' I4 b hb o e).1, fun b hb => ?_, (ex.trans e2).trans e4⟩
      · obtain ⟨_, nm⟩ := wipe_some e
        rw [hw2 j fun z => nm (his j z)]
        exact e
      · obtain ⟨o, e, _⟩ := T.obj _ _ st2 b hb
        exact (pin' I4 b hb o e).2
    refine seg_at (seg_yield rfl rfl rfl ⟨i, items[i], bo, by omega, hx, hb, rfl, fin, fun hbg s'' hΦ' => ?_⟩)
    rw [if_pos hbg] at hr
    exact seg_again rfl (ih (i + 1) s'' s'' (by omega) hlt ⟨r, hr⟩ hΦ')
end
end PD
set_option Elab.async false
set_option linter.all false
set_option maxRecDepth 100000
set_option maxHeartbeats 4000000
namespace PD
open PySem PySem.Spec PyProof.Rows L2
section
variable {P : Program} {w : World} {A : Around} {R' : Result → Shared → Prop} {a gn : Addr} {g : G} {f : E} {env : Env} {items : List PyData} {Φ : Nat → Shared → Prop} {Ψ : Shared → Prop} {r : Bool}
/-- a generator that is asleep ahead of item i -/
def GAsleep (P : Program) (w : World) (A : Around) (go : Bool) (g : G) (f : E) (env : Env) (items : List PyData) (Φ : Nat → Shared → Prop) (Ψ : Shared → Prop) (gn : Nat) (i : Nat) (s : Shared) : Prop :=
  Φ i s ∧ ∃ gs, s.gens[gn]? = some gs ∧ ∀ s'', Φ i s'' → gs.Goes (model P w) A (fun n s₀ r s₁ => r = .ok .next ∧ (n = 1 ∧ Ψ s₁)) (GYp go g f env items Φ) (items.length - i + 1) (.send .none) s''
structure GHold (Φ : Nat → Shared → Prop) (Ψ : Shared → Prop) (a gn : Nat) : Prop where
  phi : ∀ i s x, x.bare = true → Φ i s → Φ i (s.setGen gn x)
  psi : ∀ s x, x.bare = true → Ψ s → Ψ (s.setGen gn x)
  kept : ∀ (s : Shared) h', Ψ s → (∀ b o, s.heap.get? b = some o → h'.get? b = some o) → Ψ { s with heap := h' }
  sub : ∀ i s, Φ i s → Ψ s
  gen : ∀ s, Ψ s → s.heap.IsGen a gn ∧ s.heap.NoLimit
/-- the next item of a generator that is asleep -/
theorem gen_next {go : Bool} (hh : A.handled = none) (hroom : A.depth < recursionLimit) (B : GHold Φ Ψ a gn) {i : Nat} {s : Shared} {Q : Option Value → Shared → Prop} {E : Value → Shared → Prop} (hi : i ≤ items.length)
    (G : GAsleep P w A.in1 go g f env items Φ Ψ gn i s)
    (hY : ∀ x b s', items[i]? = some x → gStep g f env x = .ok b → Ψ s' → (b = go → GAsleep P w A.in1 go g f env items Φ Ψ gn (i + 1) s') → Q (some (.bool b)) s')
    (hE : items.length = i → ∀ s', Ψ s' → Q none s') : wpAny (model P w) A (pyNext (.ref a)) Q E s := by
  obtain ⟨hΦ, gs, hgs, hgo⟩ := G
  obtain ⟨hg, hl⟩ := B.gen s (B.sub i s hΦ)
  have hlt : gn < s.gens.size := (Array.getElem?_eq_some_iff.mp hgs).1
  refine GenW.wpAny_gsz (n := gn + 1) hlt ?_
  refine wpAny_pyNext_genexpQ (P := fun n s₀ s₁ => n = 1 ∧ Ψ s₁) hh hl hroom hg hgs (hgo _ (B.phi i s .running rfl hΦ)) (fun v s₁ gs' hbare hv => ?_) (fun s₁ hp h' hk => ?_)
  · intro hsz
    obtain ⟨j, x, b, hm, hx, hb, hv, hΦ1, hkap⟩ := hv
    have hj : j = i := by omega
    subst hj
    subst hv
    refine hY x b _ hx hb (B.psi _ _ hbare (B.sub _ _ hΦ1)) fun hbg => ⟨B.phi _ _ _ hbare hΦ1, gs', setGen_at ?_, fun s'' h'' => ?_⟩
    · have e2 : (s₁.setGen gn gs').gens.size = s₁.gens.size := GenW.setGen_size s₁ gn gs'
      rw [e2] at hsz
      omega
    · have hlj : j < items.length := (List.getElem?_eq_some_iff.mp hx).1
      have e : items.length - j = items.length - (j + 1) + 1 := by omega
      have := hkap hbg s'' h''
      rw [e] at this
      exact this
  · intro hsz
    obtain ⟨h1, h2⟩ := hp
    exact hE (by omega) _ (B.kept _ _ (B.psi _ _ rfl h2) hk)
theorem all_loopG (hh : A.handled = none) (hroom : A.depth < recursionLimit) (B : GHold Φ Ψ a gn) : ∀ (k i : Nat) (s : Shared), items.length - i = k → i ≤ items.length → anB true g f env (items.drop i) = .ok r → GAsleep P w A.in1.in1 true g f env items Φ Ψ gn i s →
    (∀ s', Ψ s' → R' (.ok (.ret (.bool r))) s') → codeAny (model P w) A (.builtin "all.loop" ⟨[.ref a], []⟩) R' s := by
  intro k
  induction k with
  | zero =>
    intro i s hk hi hr hG hR
    have hin : i = items.length := by omega
    refine codeAny_builtin F.entry_all_loop ?_
    rw [Around.under_plainId F.plain_all_loop _]
    show wpAny _ A.in1 (pyNext (.ref a) >>= _) _ _ s
    refine wpAny_bind (gen_next (A := A.in1) (show A.in1.handled = none from hh) (show A.in1.depth < recursionLimit from hroom) B hi hG (fun x b s' hx _ _ _ => ?_) fun _ s' h' => ?_)
    · rw [hin, List.getElem?_eq_none (Nat.le_refl _)] at hx
      cases hx
    · refine wpAny_bind (wpAny_rule (wpAny_pure ?_))
      rw [hin, List.drop_length] at hr
      cases hr
      exact hR s' h'
  | succ k ih =>
    intro i s hk hi hr hG hR
    have hlt : i < items.length := by omega
    refine codeAny_builtin F.entry_all_loop ?_
    rw [Around.under_plainId F.plain_all_loop _]
    show wpAny _ A.in1 (pyNext (.ref a) >>= _) _ _ s
    refine wpAny_bind (gen_next (A := A.in1) (show A.in1.handled = none from hh) (show A.in1.depth < recursionLimit from hroom) B hi hG (fun x b s' hx hb hP hN => ?_) fun e _ _ => absurd e (by omega))
    have hx' : x = items[i] := by rw [List.getElem?_eq_getElem hlt] at hx; exact (Option.some.inj hx).symm
    subst hx'
    rw [List.drop_eq_getElem_cons hlt] at hr
    have hr' : (gStep g f env items[i] >>= fun b => if b = true then anB true g f env (items.drop (i + 1)) else .ok b) = .ok r := hr
    rw [hb, RO.bind_ok] at hr'
    refine wpAny_bind (wpAny_holding (wpAny_truthy_bool ?_))
    refine wpAny_bind (wpAny_letGo ?_)
    cases b with
    | true =>
      simp only [if_true] at hr' ⊢
      exact wpAny_pure ⟨plainId_quiet F.plain_all_loop _, ih (i + 1) _ (by omega) hlt hr' (hN rfl) hR⟩
    | false =>
      simp only [Bool.false_eq_true, if_false] at hr' ⊢
      refine wpAny_bind (wpAny_rule (wpAny_pure ?_))
      cases hr'
      exact hR s' hP
theorem any_loopG (hh : A.handled = none) (hroom : A.depth < recursionLimit) (B : GHold Φ Ψ a gn) : ∀ (k i : Nat) (s : Shared), items.length - i = k → i ≤ items.length → anB false g f env (items.drop i) = .ok r → GAsleep P w A.in1.in1 false g f env items Φ Ψ gn i s →
    (∀ s', Ψ s' → R' (.ok (.ret (.bool r))) s') → codeAny (model P w) A (.builtin "any.loop" ⟨[.ref a], []⟩) R' s := by
  intro k
  induction k with
  | zero =>
    intro i s hk hi hr hG hR
    have hin : i = items.length := by omega
    refine codeAny_builtin F.entry_any_loop ?_
    rw [Around.under_plainId F.plain_any_loop _]
    show wpAny _ A.in1 (pyNext (.ref a) >>= _) _ _ s
    refine wpAny_bind (gen_next (A := A.in1) (show A.in1.handled = none from hh) (show A.in1.depth < recursionLimit from hroom) B hi hG (fun x b s' hx _ _ _ => ?_) fun _ s' h' => ?_)
    · rw [hin, List.getElem?_eq_none (Nat.le_refl _)] at hx
      cases hx
    · refine wpAny_bind (wpAny_rule (wpAny_pure ?_))
      rw [hin, List.drop_length] at hr
      cases hr
      exact hR s' h'
  | succ k ih =>
    intro i s hk hi hr hG hR
    have hlt : i < items.length := by omega
    refine codeAny_builtin F.entry_any_loop ?_
    rw [Around.under_plainId F.plain_any_loop _]
    show wpAny _ A.in1 (pyNext (.ref a) >>= _) _ _ s
    refine wpAny_bind (gen_next (A := A.in1) (show A.in1.handled = none from hh) (show A.in1.depth < recursionLimit from hroom) B hi hG (fun x b s' hx hb hP hN => ?_) fun e _ _ => absurd e (by omega))
    have hx' : x = items[i] := by rw [List.getElem?_eq_getElem hlt] at hx; exact (Option.some.inj hx).symm
    subst hx'
    rw [List.drop_eq_getElem_cons hlt] at hr
    have hr' : (gStep g f env items[i] >>= fun b => if b = false then anB false g f env (items.drop (i + 1)) else .ok b) = .ok r := hr
    rw [hb, RO.bind_ok] at hr'
    refine wpAny_bind (wpAny_holding (wpAny_truthy_bool ?_))
    refine wpAny_bind (wpAny_letGo ?_)
    cases b with
    | false =>
      simp only [if_true, Bool.false_eq_true, if_false] at hr' ⊢
      exact wpAny_pure ⟨plainId_quiet F.plain_any_loop _, ih (i + 1) _ (by omega) hlt hr' (hN rfl) hR⟩
    | true =>
      simp only [if_true, Bool.true_eq_false, if_false] at hr' ⊢
      refine wpAny_bind (wpAny_rule (wpAny_pure ?_))
      cases hr'
      exact hR s' hP
end
end PD
set_option Elab.async false
set_option linter.all false
set_option maxRecDepth 100000
set_option maxHeartbeats 4000000
namespace PD
open PySem PySem.Spec PyProof.Rows L2
theorem call_allG {P : Program} {w : World} {A : Around} {a gn : Nat} {g : G} {f : E} {env : Env} {items : List PyData} {Φ : Nat → Shared → Prop} {Ψ : Shared → Prop} {b : Bool} {s : Shared} {Qv : Value → Shared → Prop} {E : Value → Shared → Prop} (hh : A.handled = none) (hroom : A.depth < recursionLimit)
    (B : GHold Φ Ψ a gn) (hr : anB true g f env items = .ok b) (hG : GAsleep P w A.in1.in1 true g f env items Φ Ψ gn 0 s) (hQ : ∀ s', Ψ s' → Qv (.bool b) s') : wpAny (model P w) A (call (.builtin "all") [.ref a]) Qv E s := by
  refine call_function_tree F.kind_all F.plain_all F.entry_all (F.args_all1 _) ?_
  unfold Builtin.«all»
  refine wpAny_bind (m := oneArg "all" _) (wpAny_pure ?_)
  refine wpAny_bind (wpAny_pyIter_gen (B.gen s (B.sub 0 s hG.1)).1 ?_)
  exact wpAny_pure ⟨plainId_quiet F.plain_all_loop _, all_loopG hh hroom B items.length 0 s (Nat.sub_zero _) (Nat.zero_le _) (by rw [List.drop_zero]; exact hr) hG fun s' h => hQ s' h⟩
theorem call_anyG {P : Program} {w : World} {A : Around} {a gn : Nat} {g : G} {f : E} {env : Env} {items : List PyData} {Φ : Nat → Shared → Prop} {Ψ : Shared → Prop} {b : Bool} {s : Shared} {Qv : Value → Shared → Prop} {E : Value → Shared → Prop} (hh : A.handled = none) (hroom : A.depth < recursionLimit)
    (B : GHold Φ Ψ a gn) (hr : anB false g f env items = .ok b) (hG : GAsleep P w A.in1.in1 false g f env items Φ Ψ gn 0 s) (hQ : ∀ s', Ψ s' → Qv (.bool b) s') : wpAny (model P w) A (call (.builtin "any") [.ref a]) Qv E s := by
  refine call_function_tree F.kind_any F.plain_any F.entry_any (F.args_any1 _) ?_
  unfold Builtin.«any»
  refine wpAny_bind (m := oneArg "any" _) (wpAny_pure ?_)
  refine wpAny_bind (wpAny_pyIter_gen (B.gen s (B.sub 0 s hG.1)).1 ?_)
  exact wpAny_pure ⟨plainId_quiet F.plain_any_loop _, any_loopG hh hroom B items.length 0 s (Nat.sub_zero _) (Nat.zero_le _) (by rw [List.drop_zero]; exact hr) hG fun s' h => hQ s' h⟩
theorem WalkD.mono {K : PySem.W.Frag} {O : List Addr} {H H2 : Hp} {J : It} {ds : List PyData} (wd : WalkD K O H J ds) (e : Ext H H2) : WalkD K O H2 J ds :=
  ⟨fun i d O1 H1 h x l => wd.go i d O1 H1 h ((e.hid O).trans x) l, fun i O1 H1 h x => wd.stop i O1 H1 h ((e.hid O).trans x)⟩
theorem ext_tab {H : Hp} {P : Addr} {ps more : Array Value} (h : H P = some (.tbl ps)) (t : TriplesOk (ps ++ more).toList) : Ext H (upd H P (.tbl (ps ++ more))) := fun b o e => by
  by_cases hb : b = P
  · subst hb
    rw [h] at e
    cases e
    exact .inr ⟨ps, more, rfl, upd_same, fun _ => t⟩
  · exact .inl (by rw [upd_ne hb]; exact e)
/-- all(..), any(..) of a generator expression, as a value -/
def eAn2 (go : Bool) (fs : Env → RO (List PyData)) (g : G) (f : E) (ws : List Nat) : E := fun env => fs env >>= fun items => anB go g f (wipeE env ws) items >>= fun b => .ok (.bool b)
section
variable [Tbs] {X : Cx} {W : WX} {elt iter : Expr} {x : Str} {px p pos gpos : Pos} {scope : Scope} {own : List (Str × Nat)} {fs : Env → RO (List PyData)} {is : List Nat} {g : G} {f : E} {k : Nat} {c P : Addr} {go : Bool} {nm : Str} {id : String}
theorem ce_gen (hr : Room (k + 1) X.A) (hc : X.calm = true) (hN : X.N.Nodup) (hg : Gl X nm) (hm : X.mg nm = none) (hb : bootBuiltins nm = some (.builtin id)) (hnn : nm ≠ "__name__") (hdb : (nm == ("__debug__" : Str)) = false)
    (hcall : ∀ {a gn : Nat} {env : Env} {items : List PyData} {Φ : Nat → Shared → Prop} {Ψ : Shared → Prop} {b : Bool} {s : Shared} {Qv : Value → Shared → Prop}, GHold Φ Ψ a gn → anB go g f env items = .ok b → GAsleep X.prog X.w X.A.in1.in1 go g f env items Φ Ψ gn 0 s → (∀ s', Ψ s' → Qv (.bool b) s') →
      wpAny (model X.prog X.w) X.A (call (.builtin id) [.ref a]) Qv X.xe s)
    (TB : GxR.TabB X.base X.mg c P) (hcode : X.env.code = .ref c) (hP : P ∈ Tbs.l)
    (ok : BlkOk X.N X.env.scope scope own) (hco : scope.isCoroutine = false) (hdot : scope.names.lookup (".0" : Str) = some NameKind.local) (nc : ∀ y ∈ scope.names, y.2 ≠ .cell)
    (hi : CI X W (.Name x px) iter fs)
    (hgx : ∀ (A' : Around) (s : Shared) (H : Hp) (C : Addr) (cl : List (Str × Addr)) (code : Value) (fp : List Addr), Room k A' → CG (gex X A' s H (genEnv scope cl C code builtinsNs X.env) fp) (.Name x px) is g) (his : ∀ j ∈ is, j ∈ own.map (·.2))
    (he : ∀ (A' : Around) (s : Shared) (H : Hp) (C : Addr) (cl : List (Str × Addr)) (code : Value) (fp : List Addr), Room k A' → CE (gex X A' s H (genEnv scope cl C code builtinsNs X.env) fp) WN elt f)
    (hs : ∀ v, genFold iter X.env v = pure v)
    (hst : starEach [.GeneratorExp elt [⟨.Name x px, iter, [], 0⟩] scope gpos] X.env = (false, eval (.GeneratorExp elt [⟨.Name x px, iter, [], 0⟩] scope gpos) X.env) :: starEach [] X.env) :
    CE X W (.Call (.Name nm p) [.GeneratorExp elt [⟨.Name x px, iter, [], 0⟩] scope gpos] [] pos) (eAn2 go fs g f (own.map (·.2))) := fun Z env σ H O Q r q => by
  intro pins s I
  have hfree : ∀ y ∈ scope.names, y.2 = .free → ∃ c, X.env.cells.lookup y.1 = some c := fun y hy e => by
    rcases ok.free y hy e with k | k
    · exact I.ok.has _ (.inl k)
    · exact I.ok.has _ (.inr k)
  refine wpAny_Call_Name_kw (ld_blt I hg hm hb ?_ hnn hdb)
  refine PyProof.Rows.callWith_builtin1 ?_ hst (by rfl)
  rw [hst]
  show wpAny _ _ (spliced ((false, eval (.GeneratorExp elt [⟨.Name x px, iter, [], 0⟩] scope gpos) X.env) :: backTo pos (starEach [] X.env))) _ _ s
  refine Calls.spliced_cons ?_
  refine wpAny_GeneratorExp_make hco (closure_ok hfree) nc hdot ok.kind hr.depth ?_ hs
  refine wpAny_mono (hi Z env σ H O (fun J H1 => ∃ items, WalkD X.K O H1 J items ∧ Ext H H1 ∧ ROk X W σ O (VQ X.K O Q) H1 (anB go g f (wipeE env (own.map (·.2))) items >>= fun b => .ok (.bool b))) r (q.then fun items H1 _ e1 q1 J wd => ⟨items, wd, e1, q1⟩) pins s I)
    (fun xv s1 h1 => wpAny_mono h1 (fun itv s2 h2 => ?_) fun _ _ e => e) fun _ _ e => e
  obtain ⟨it, fp, tn, J, H2, rfl, I2, T, st2, f2, items, wd, e2, q2⟩ := h2
  cases hv : anB go g f (wipeE env (own.map (·.2))) items with
  | er c' fl' => exact absurd hv (anB_noEr _ _ _)
  | no => rw [hv] at q2; exact q2.elim
  | ok b =>
  rw [hv] at q2
  have r2 := r.mono e2
  obtain ⟨ps, hP2, ht⟩ := r2.tb P hP
  refine ⟨I2.nolimit, ?_⟩
  have hPs : s2.heap.get? P = some { cls := .none, data := .fields ps } := I2.hok P _ hP2
  have cd : PySem.W.CodeHd s2.heap c P := TB.code.keeps fun b u e => I2.bk b u e
  have cont : ∀ (code : Value) (h3 : Heap) (tk : Nat) (ps' : Array Value), Heap.ExtBut P s2.heap h3 → s2.heap.objs.size ≤ h3.objs.size → h3.get? P = some { cls := .none, data := .fields ps' } → (∃ more, ps' = ps ++ more) → TriplesOk ps'.toList →
      wpAny (model X.prog X.w) X.A (builtinsFor X.env.globals X.env.builtins) (fun bi s₄ => ∀ h' : Heap, h'.Ns s₄.heap.objs.size (fun y => if y = (".0" : Str) then some (.ref it) else none) → Heap.SameBut s₄.heap.objs.size (s₄.heap.push { cls := .type "frame", data := .dict #[] }) h' →
          wpAny (model X.prog X.w) X.A (spliced (backTo pos (starEach [] X.env))) (fun vs s5 => wpAny (model X.prog X.w) X.A (call (.builtin id) (Value.ref h'.objs.size :: vs)) (EP X pins σ Q) X.xe s5) X.xe { s₄ with
            gens := s₄.gens.push (.fresh (.compStart (.GeneratorExp elt [⟨.Name x px, iter, [], 0⟩] scope gpos) 0 (.ref it) .none (genEnv scope (cloFrom X.env.cells scope.names []) s₄.heap.objs.size code bi X.env))),
            toks := s₄.toks + 1 + 1 + 1,
            heap := h'.push { cls := .type "generator", data := .fields #[.int s₄.gens.size 0, .str "<genexpr>" (s₄.toks + 1), .str (X.env.qual ++ "<genexpr>") (s₄.toks + 1 + 1)] } }) X.xe { s2 with heap := h3, toks := tk } := by
    intro code h3 tk ps' hx hsz hP3 hmore ht3
    obtain ⟨more, rfl⟩ := hmore
    obtain ⟨bm, ob, b1, b2, b3, b4, b5, b6, b7, b8⟩ := TB.bm
    have keep3 : ∀ b u, b ≠ P → s2.heap.get? b = some u → h3.get? b = some u := fun b u hb e => hx b u hb e
    refine wpAny_builtinsFor (m := X.mg) (by rw [I2.ok.glob]; exact (I2.mod.glob.keeps I2.bk).extBut hx TB.gP) b1 b2 (keep3 _ _ b4 (I2.bk _ _ b5)) b6 b7 b8 ?_
    have I3 : Inv X pins σ (upd H2 P (.tbl (ps ++ more))) { s2 with heap := h3, toks := tk } := GxR.inv_tab (g' := s2.gens) (d' := s2.drawn) I2 hP2 keep3 hP3 I2.bare
    have e23 : Ext H2 (upd H2 P (.tbl (ps ++ more))) := ext_tab hP2 ht3
    have r3 := r2.mono e23
    have wd3 := wd.mono e23
    have nP : ∀ b ∈ fp, b ≠ P := fun b hb z => by
      have := (f2 b hb).1
      rw [z, hP2] at this
      cases this
    have szf : ∀ b ∈ fp, b < s2.heap.objs.size := fun b hb => by
      obtain ⟨o, e, _⟩ := T.obj _ _ st2 b hb
      exact Heap.lt_size e
    have st3 : tn 0 h3 := T.keep _ _ _ st2 fun b hb o e => keep3 b o (nP b hb) e
    generalize hH3 : upd H2 P (.tbl (ps ++ more)) = H3 at I3 e23 r3 wd3
    have f3 : ∀ b ∈ fp, FpOk X pins H3 b ∧ b < h3.objs.size := fun b hb => by
      refine ⟨⟨?_, (f2 b hb).2⟩, Nat.lt_of_lt_of_le (szf b hb) hsz⟩
      rw [← hH3, upd_ne (nP b hb)]
      exact (f2 b hb).1
    generalize hs4 : ({ s2 with heap := h3, toks := tk } : Shared) = s4 at I3 ⊢
    have hh4 : s4.heap = h3 := by rw [← hs4]
    intro h' hn' hs'
    have hsz' : h'.objs.size = s4.heap.objs.size + 1 := by rw [hs'.1, Heap.size_push]
    have keep' : ∀ b o, s4.heap.get? b = some o → h'.get? b = some o := fun b o e => hs'.extBut b o (Nat.ne_of_lt (Heap.lt_size e)) (Heap.get?_push_of_some _ e)
    generalize hgo : ({ cls := .type "generator", data := .fields #[.int s4.gens.size 0, .str "<genexpr>" (s4.toks + 1), .str (X.env.qual ++ "<genexpr>") (s4.toks + 1 + 1)] } : Obj) = gobj
    have isg : ∀ h : Heap, h.get? h'.objs.size = some gobj → h.IsGen h'.objs.size s4.gens.size := fun h e => ⟨gobj, _, _, e, by rw [← hgo], by rw [← hgo], by rw [← hgo]⟩
    have gd : ∀ v, gobj.data ≠ .cell v := fun v z => by rw [← hgo] at z; cases z
    generalize hgenv : genEnv scope (cloFrom X.env.cells scope.names []) s4.heap.objs.size code builtinsNs X.env = genv
    have hco' : genv.scope.isCoroutine = false := by rw [← hgenv]; exact hco
    have hA' : (X.A.in1.in1.over (gLoop elt iter (.Name x px) scope gpos it genv) []).handled = none := hr.hd
    have hfr' : (X.A.in1.in1.over (gLoop elt iter (.Name x px) scope gpos it genv) []).frames = some (genv :: X.stack) := by
      show pushEnvs [genv] X.A.frames = _
      rw [I.ok.frames]
      rfl
    have hrm : Room k (X.A.in1.in1.over (gLoop elt iter (.Name x px) scope gpos it genv) []) := ⟨hA', by have := hr.dp; show X.A.depth + 0 + 1 + 3 * k + 5 < _; omega, by have := hr.un; show X.A.units + 1 + 1 + 0 + 3 + 16 * k + 200 < _; omega⟩
    have cgx := hgx _ s4 H3 s4.heap.objs.size (cloFrom X.env.cells scope.names []) code fp hrm
    have cex := he _ s4 H3 s4.heap.objs.size (cloFrom X.env.cells scope.names []) code fp hrm
    generalize hS5 : ({ s4 with gens := s4.gens.push (.fresh (.compStart (.GeneratorExp elt [⟨.Name x px, iter, [], 0⟩] scope gpos) 0 (.ref it) .none genv)), toks := s4.toks + 1 + 1 + 1, heap := h'.push gobj } : Shared) = s5
    have h5h : s5.heap = h'.push gobj := by rw [← hS5]
    have IG := gex_start (s' := s5) (a := h'.objs.size) (go := gobj) (A' := X.A.in1.in1.over (gLoop elt iter (.Name x px) scope gpos it genv) []) (code := code) (fp := fp) I3 ok hN nc hA' (by rw [hgenv]; exact hfr') (by rw [hh4]; exact f3) (by rw [← hS5])
      (by rw [← hS5]; exact I3.bare.push rfl) (fun b o e => by rw [h5h]; exact Heap.get?_push_of_some _ (keep' b o e)) (by rw [h5h]; exact hn'.push _) (by rw [h5h]; exact Heap.get?_push_size _ (by rw [← hgo]; rfl)) (by rw [hsz']; exact Nat.lt_succ_self _) gd
    rw [hgenv] at IG cgx cex
    have hb5 : s5.gens[s4.gens.size]? = some (.fresh (.compStart (.GeneratorExp elt [⟨.Name x px, iter, [], 0⟩] scope gpos) 0 (.ref it) .none genv)) := by rw [← hS5]; exact Array.getElem?_push_size ..
    have st5 : tn 0 s5.heap := T.keep _ _ _ st3 fun b _ o e => by
      rw [h5h]
      exact Heap.get?_push_of_some _ (keep' b o (by rw [hh4]; exact e))
    have stat : ∀ H' : Hp, (∀ b ∈ fp, H' b = none) → ∀ b ∈ fp, FpOk (gex X (X.A.in1.in1.over (gLoop elt iter (.Name x px) scope gpos it genv) []) s4 H3 genv fp) [(h'.objs.size, gobj)] H' b := fun H' hn b hb =>
      ⟨hn b hb, (IG.ok.exf b hb).1, IG.ok.exfs b hb, .inl hb, fun x c e => (IG.ok.exf b hb).2 x c e, fun p hp => by
        have hp2 : p ∈ ([] : List (Addr × Obj)) ++ [(h'.objs.size, gobj)] := hp
        have hp3 : p = (h'.objs.size, gobj) := by simpa using hp2
        subst hp3
        have := (f3 b hb).2
        rw [← hh4] at this
        exact fun z => by
          have z' : h'.objs.size = b := z
          exact Nat.ne_of_gt (Nat.lt_of_lt_of_le this (by rw [hsz']; exact Nat.le_succ _)) z'⟩
    have B : GHold (GPhi (gex X (X.A.in1.in1.over (gLoop elt iter (.Name x px) scope gpos it genv) []) s4 H3 genv fp) [(h'.objs.size, gobj)] (L2.wipe σ (own.map (·.2))) fp tn H3) (GPsi (gex X (X.A.in1.in1.over (gLoop elt iter (.Name x px) scope gpos it genv) []) s4 H3 genv fp) [(h'.objs.size, gobj)] (L2.wipe σ (own.map (·.2))) H3) h'.objs.size s4.gens.size :=
      ⟨fun i s x hx h => h.gens hx, fun s x hx h => h.gens hx, fun s h'' h k => h.kept k, fun i s h => h.psi, fun s h => by
        obtain ⟨H', J', _⟩ := h
        exact ⟨isg _ (J'.pin (h'.objs.size, gobj) (List.mem_append_right _ List.mem_cons_self)).1, J'.nolimit⟩⟩
    have seg := gen_seg (go := go) (items := items) (iter := iter) (pos := gpos) (scope := scope) (AW := X.A.in1.in1) (Y := gex X (X.A.in1.in1.over (gLoop elt iter (.Name x px) scope gpos it genv) []) s4 H3 genv fp) T rfl hc hco' rfl cgx his cex r3 wd3 stat items.length 0
    have asleep : GAsleep X.prog X.w X.A.in1.in1 go g f (wipeE env (own.map (·.2))) items (GPhi (gex X (X.A.in1.in1.over (gLoop elt iter (.Name x px) scope gpos it genv) []) s4 H3 genv fp) [(h'.objs.size, gobj)] (L2.wipe σ (own.map (·.2))) fp tn H3) (GPsi (gex X (X.A.in1.in1.over (gLoop elt iter (.Name x px) scope gpos it genv) []) s4 H3 genv fp) [(h'.objs.size, gobj)] (L2.wipe σ (own.map (·.2))) H3) s4.gens.size 0 s5 := by
      refine ⟨⟨H3, IG, st5, fun b hb => (f3 b hb).1.1, Ext.refl _⟩, _, hb5, fun s'' hΦ => ⟨rfl, ?_⟩⟩
      have loop := fun s₀ => seg s₀ s'' (Nat.sub_zero _) (Nat.zero_le _) ⟨b, by rw [List.drop_zero]; exact hv⟩ hΦ
      show Seg _ X.A.in1.in1 _ _ _ s'' _ ((compStart (.GeneratorExp elt [⟨.Name x px, iter, [], 0⟩] scope gpos) 0 (.ref it) .none genv).onRaise (leaving genv)) [] s''
      unfold compStart
      rw [Sem.onRaise_eq_wrap]
      show Seg _ X.A.in1.in1 _ _ _ s'' _ ((ask >>= _).wrap _ _ _ _) [] s''
      refine seg_bind_wrap (wpAny_askSetting ?_)
      obtain ⟨_, _, stx, _⟩ := hΦ
      split
      · exact seg_again rfl (loop s'')
      · first
          | exact seg_bind_wrap (wpAny_rule (seg_bind_wrap (wpAny_standAt (seg_bind_wrap (T.self _ 0 s'' _ _ stx (seg_again rfl (loop s'')))))))
          | (refine seg_bind_wrap (wpAny_rule ?_); show Seg _ X.A.in1.in1 _ _ _ s'' _ ((standAt iter.pos >>= _).wrap _ _ _ _) [] s''; exact seg_bind_wrap (wpAny_standAt (seg_bind_wrap (T.self _ 0 s'' _ _ stx (seg_again rfl (loop s''))))))
    refine Calls.spliced_nil ?_
    refine hcall B hv asleep fun s' hΨ => ?_
    obtain ⟨H5, I5, e5⟩ := hΨ
    refine ⟨.bl b, H5, I3.call' (ch := fp) I5.os I5.base I5.hok I5.bare (fun b hb => ⟨(f3 b hb).1.2.2.2.1, (f3 b hb).1.2.1, (f3 b hb).1.2.2.2.2.1, (f3 b hb).1.2.2.2.2.2⟩), rfl, ?_⟩
    exact q2 H5 (e23.trans e5) (.bl b) (.bl b)
  cases hf : codeAmong gpos ps.toList with
  | none =>
    refine wpAny_genexprCodeX hcode (cd.code hPs ht) (cd.tab hPs) hf fun c' h' tk hx hge hlt hco' _ htab' _ => ?_
    obtain ⟨o1, vs, f1, tf, fl, tg, inF, tx, tt, op, _, _, _, _, _, _, _, _, _, htr, _⟩ := hco'
    exact cont _ h' tk _ hx (Nat.le_trans hge (Nat.le_of_lt hlt)) htab'.2 ⟨_, rfl⟩ htr
  | some cv =>
    refine wpAny_genexprCode_hit hcode (cd.code hPs ht) hf ?_
    exact cont cv s2.heap s2.toks ps (Heap.ExtBut.refl _ _) (Nat.le_refl _) hPs ⟨#[], by simp⟩ ht
end
end PD
set_option Elab.async false
set_option linter.all false
set_option maxRecDepth 100000
set_option maxHeartbeats 4000000
namespace PD
open PySem PySem.Spec PyProof.Rows L2
/-! ### defs that hold a table; calls with keywords -/
/-- the def's code object has a table that may grow -/
def GT [Tbs] (base : Heap) (mg : Str → Option Value) (fd : FuncData) : Prop := ∃ c P, GxR.TabB base mg c P ∧ fd.code = .ref c ∧ P ∈ Tbs.l
section
variable [Tbs] {P : Program} {w : World} {K : PySem.W.Frag} {mg : Str → Option Value} {base : Heap}
theorem okDG {x qual : Str} {st : Stmt} {f : Addr} {fd : FuncData} {N ps : List Str} {k : Nat} (F : Fun K x qual st f fd) (S : FnScope N ps (defScope st)) (B : PD.S)
    (h : ∀ (cdv : Value), fd.code = cdv → ∀ (A : Around) (outer : List PySem.Env) (s : Shared) (H : Hp) (E : XK), Room k (A.deeper (envOfC qual (defScope st) s.heap.objs.size f cdv)) →
      CSs (cxOf (L2.CX P w) P w K mg base N qual (defScope st) f cdv A outer s H E) (fun cls d _ H => E cls d H) (defBody st) B) : FnOk P w K mg base (L2.CX P w) (k + 1) f fd ps (spD K mg ps.length (runD N.length B)) := by
  obtain ⟨oc, od, kV, doc, pm, an, cdv, ct, osl, rfl, lk, hcd⟩ := F.ex
  exact fn_of lk hcd S (fun vs H Q E q => q.1) fun A outer s H vs Q E hr q => ⟨_, pss_wp, body_ok (N := N) rfl rfl (h cdv rfl A outer s H E hr) q⟩
theorem okDDG {x qual : Str} {params : Arguments} {body : List Stmt} {scope : Scope} {dvs : List V} {kws : List (Str × V)} {f : Addr} {fd : FuncData} {N ps : List Str} {k : Nat} (F : FunD K x qual params body scope dvs kws f fd) (S : FnScope N ps scope) (B : PD.S)
    (h : ∀ (cdv : Value), fd.code = cdv → ∀ (A : Around) (outer : List PySem.Env) (s : Shared) (H : Hp) (E : XK), Room k (A.deeper (envOfC qual scope s.heap.objs.size f cdv)) →
      CSs (cxOf (L2.CX P w) P w K mg base N qual scope f cdv A outer s H E) (fun cls d _ H => E cls d H) body B) : FnOk P w K mg base (L2.CX P w) (k + 1) f fd ps (spD K mg ps.length (runD N.length B)) := by
  obtain ⟨oc, od, dV, kV, doc, pm, an, cdv, ct, osl, rfl, lk, hcd, _, _⟩ := F.ex
  exact fn_of lk hcd S (fun vs H Q E q => q.1) fun A outer s H vs Q E hr q => ⟨_, pss_wp, body_ok (N := N) rfl rfl (h cdv rfl A outer s H E hr) q⟩
theorem dfn_ofG {x qual : Str} {st : Stmt} {f : Addr} {fd : FuncData} {N ps : List Str} {k : Nat} {B : PD.S} (Fn : Fun K x qual st f fd) (Sc : FnScope N ps (defScope st)) (hb : Binds K fd ps []) (hm : mg x = some (.ref f))
    (h : ∀ (cdv : Value), fd.code = cdv → ∀ (A : Around) (outer : List PySem.Env) (s : Shared) (H : Hp) (E : XK), Room k (A.deeper (envOfC qual (defScope st) s.heap.objs.size f cdv)) →
      CSs (cxOf (L2.CX P w) P w K mg base N qual (defScope st) f cdv A outer s H E) (fun cls d _ H => E cls d H) (defBody st) B) : Dfn P w K mg base x (k + 1) ps.length (runD N.length B) :=
  ⟨f, fd, ps, okDG Fn Sc B h, hm, Fn.kp, hb⟩
end
/-- where a parameter's value comes from: the positional values, the keywords', the defaults -/
inductive Pk where
  | p | k | m
def fillP {α : Type} : List Pk → List α → List α → List α → List α
  | .p :: r, u :: us, ms, ws => u :: fillP r us ms ws
  | .k :: r, us, ms, w :: ws => w :: fillP r us ms ws
  | .m :: r, us, d :: ms, ws => d :: fillP r us ms ws
  | _, _, _, _ => []
theorem fillP_vals : ∀ (r : List Pk) {vs mz zs : List V} {us mv ws : List Value}, Vals vs us → Vals mz mv → Vals zs ws → Vals (fillP r vs mz zs) (fillP r us mv ws)
  | [], _, _, _, _, _, _, _, _, _ => .nil
  | .p :: r, _, _, _, _, _, _, .nil, b, c => .nil
  | .p :: r, _, _, _, _, _, _, .cons h a, b, c => .cons h (fillP_vals r a b c)
  | .k :: r, _, _, _, _, _, _, a, b, .nil => by cases a <;> cases b <;> exact .nil
  | .k :: r, _, _, _, _, _, _, a, b, .cons h c => by
    have := fillP_vals r a b c
    cases a <;> cases b <;> exact .cons h this
  | .m :: r, _, _, _, _, _, _, a, .nil, c => by cases a <;> cases c <;> exact .nil
  | .m :: r, _, _, _, _, _, _, a, .cons h b, c => by
    have := fillP_vals r a b c
    cases a <;> cases c <;> exact .cons h this
theorem fillP_dpa {K : PySem.W.Frag} {H : Hp} : ∀ (r : List Pk) {vs mz zs : List V} {us mv ws : List PyData}, DpAll K H vs us → DpAll K H mz mv → DpAll K H zs ws → DpAll K H (fillP r vs mz zs) (fillP r us mv ws)
  | [], _, _, _, _, _, _, _, _, _ => .nil
  | .p :: r, _, _, _, _, _, _, .nil, b, c => .nil
  | .p :: r, _, _, _, _, _, _, .cons h a, b, c => .cons h (fillP_dpa r a b c)
  | .k :: r, _, _, _, _, _, _, a, b, .nil => by cases a <;> cases b <;> exact .nil
  | .k :: r, _, _, _, _, _, _, a, b, .cons h c => by
    have := fillP_dpa r a b c
    cases a <;> cases b <;> exact .cons h this
  | .m :: r, _, _, _, _, _, _, a, .nil, c => by cases a <;> cases c <;> exact .nil
  | .m :: r, _, _, _, _, _, _, a, .cons h b, c => by
    have := fillP_dpa r a b c
    cases a <;> cases c <;> exact .cons h this
def aL : List E → A
  | [] => aNil
  | f :: fs => aCons f (aL fs)
/-- so many defaults, so many keywords, and nothing else -/
def wfP : List Pk → Nat → Nat → Bool
  | [], 0, 0 => true
  | .k :: r, m, k + 1 => wfP r m k
  | .m :: r, m + 1, k => wfP r m k
  | _, _, _ => false
theorem aL_cons {f : E} {fs : List E} {env : Env} : aL (f :: fs) env = (f env >>= fun x => aL fs env >>= fun xs => .ok (x :: xs)) := rfl
theorem aL_nil {env : Env} : aL [] env = .ok [] := rfl
theorem fill_kw (env : Env) : ∀ (r : List Pk) (dds : List PyData) (ks : List E), wfP r dds.length ks.length = true →
    (aL ks env >>= fun ys => RO.ok (fillP r ([] : List PyData) dds ys)) = aL (fillP r ([] : List E) (dds.map eC) ks) env
  | [], [], [], _ => rfl
  | [], [], _ :: _, h => absurd h Bool.false_ne_true
  | [], _ :: _, ks, h => by cases ks <;> exact absurd h Bool.false_ne_true
  | .p :: r, dds, ks, h => absurd (show false = true from h) Bool.false_ne_true
  | .k :: r, dds, [], h => absurd (show false = true from h) Bool.false_ne_true
  | .k :: r, dds, f :: ks, h => by
    have ih := fill_kw env r dds ks h
    have e1 : fillP (.k :: r) ([] : List E) (dds.map eC) (f :: ks) = f :: fillP r ([] : List E) (dds.map eC) ks := by cases dds <;> rfl
    rw [e1, aL_cons, aL_cons, ← ih]
    cases f env with
    | ok x =>
      rw [RO.bind_ok, RO.bind_ok]
      cases aL ks env with
      | ok xs =>
        show RO.ok (fillP (.k :: r) ([] : List PyData) dds (x :: xs)) = RO.ok (x :: fillP r ([] : List PyData) dds xs)
        cases dds <;> rfl
      | er _ _ => rfl
      | no => rfl
    | er _ _ => rfl
    | no => rfl
  | .m :: r, [], ks, h => by cases ks <;> exact absurd (show false = true from h) Bool.false_ne_true
  | .m :: r, d :: dds, ks, h => by
    have h' : wfP r dds.length ks.length = true := by cases ks <;> exact h
    have ih := fill_kw env r dds ks h'
    have e1 : fillP (.m :: r) ([] : List E) ((d :: dds).map eC) ks = eC d :: fillP r ([] : List E) (dds.map eC) ks := by cases ks <;> rfl
    rw [e1, aL_cons, ← ih]
    show _ = (RO.ok d >>= fun x => _)
    rw [RO.bind_ok]
    cases aL ks env with
    | ok xs =>
      show RO.ok (fillP (.m :: r) ([] : List PyData) (d :: dds) xs) = RO.ok (d :: fillP r ([] : List PyData) dds xs)
      cases xs <;> rfl
    | er _ _ => rfl
    | no => rfl
def pats (n : Nat) (r : List Pk) : List Pk := List.replicate n .p ++ r
theorem fill_all (env : Env) (r : List Pk) (dds : List PyData) (ks : List E) (h : wfP r dds.length ks.length = true) : ∀ (fs : List E),
    (aL fs env >>= fun xs => aL ks env >>= fun ys => RO.ok (fillP (pats fs.length r) xs dds ys)) = aL (fillP (pats fs.length r) fs (dds.map eC) ks) env
  | [] => by
    rw [aL_nil, RO.bind_ok]
    exact fill_kw env r dds ks h
  | f :: fs => by
    have ih := fill_all env r dds ks h fs
    have e0 : pats (f :: fs).length r = .p :: pats fs.length r := by unfold pats; rw [List.length_cons, List.replicate_succ, List.cons_append]
    rw [e0]
    have e1 : fillP (.p :: pats fs.length r) (f :: fs) (dds.map eC) ks = f :: fillP (pats fs.length r) fs (dds.map eC) ks := by rfl
    rw [e1, aL_cons, aL_cons, ← ih]
    cases f env with
    | ok x =>
      rw [RO.bind_ok, RO.bind_ok]
      cases aL fs env with
      | ok xs =>
        rw [RO.bind_ok, RO.bind_ok, RO.bind_ok]
        cases aL ks env with
        | ok ys => rfl
        | er _ _ => rfl
        | no => rfl
      | er _ _ => rfl
      | no => rfl
    | er _ _ => rfl
    | no => rfl
theorem aL_len {env : Env} : ∀ {fs : List E} {xs : List PyData}, aL fs env = .ok xs → xs.length = fs.length
  | [], xs, h => by cases h; rfl
  | f :: fs, xs, h => by
    rw [aL_cons] at h
    obtain ⟨x, _, h⟩ := bind_okE h
    obtain ⟨ys, h2, h⟩ := bind_okE h
    cases h
    rw [List.length_cons, List.length_cons, aL_len h2]
/-- a def, called by n positional values and the keywords ks; r: the rest of its parameters; dds: the defaults that fill up -/
def DfnP [Tbs] (P : Program) (w : World) (K : PySem.W.Frag) (mg : Str → Option Value) (base : Heap) (x : Str) (k n : Nat) (m : Nat) (ks : List Str) (r : List Pk) (dds : List PyData) (F : List PyData → RO PyData) : Prop :=
  ∃ (f : Addr) (fd : FuncData) (ps : List Str) (mv : List Value) (dvs : List V), FnOk P w K mg base (L2.CX P w) k f fd ps (spD K mg n F) ∧ mg x = some (.ref f) ∧ PySem.W.keepIn K (.ref f) = true ∧
    KBn K fd ps m ks (fun us ws => fillP (pats m r) us mv ws) (fun vs zs => fillP (pats m r) vs dvs zs) ∧ ∀ H, DpAll K H dvs dds
section
variable [Tbs] {X : Cx} {W : WX} {x : Str} {k kk n m : Nat} {ks : List Str} {r : List Pk} {dds : List PyData} {F : List PyData → RO PyData} {e : Expr} {es : List Expr} {kws : List Keyword} {fs gs : List E} {ga : A} {p pos : Pos}
theorem c_callP (G : DfnP X.prog X.w X.K X.mg X.base x k n m ks r dds F) (hr : Room kk X.A) (hk : k ≤ kk) (tk : Takes X W) (hg : Gl X x) (ha : CA X W (e :: es) (aL fs)) (hkw : CKs X W kws (aL gs)) (hm : fs.length = m) (hl : gs.length = ks.length) (hw : wfP r dds.length gs.length = true) (hga : ga = aL (fillP (pats m r) fs (dds.map eC) gs))
    (hks : (backToKw pos (keywordEach kws X.env)).filterMap (·.1) = ks := by rfl) (hall : (backToKw pos (keywordEach kws X.env)).all (·.1.isSome) = true := by rfl)
    (hdb : (x == ("__debug__" : Str)) = false := by decide) (he : starEach (e :: es) X.env = (false, eval e X.env) :: starEach es X.env := by rfl)
    (hpl : ((backTo pos (starEach (e :: es) X.env)).any (·.1) || (backToKw pos (keywordEach kws X.env)).any (·.1.isNone)) = false := by rfl) :
    CE X W (.Call (.Name x p) (e :: es) kws pos) (eCall n F ga) := by
  subst hga
  obtain ⟨f, fd, ps, mv, dvs, G, hmg, hkp, hb, hd⟩ := G
  have h := ce_callK (p := p) (gD := fun xs ys => fillP (pats m r) xs dds ys) G (hr.mono hk) tk hg hmg hkp hb (fun H vs zs xs ys h1 h2 => fillP_dpa _ h1 (hd H) h2) ha hkw hks hall hdb he hpl
  have e0 : (fun env : Env => aL fs env >>= fun xs => aL gs env >>= fun ys => if xs.length = m ∧ ys.length = ks.length then callD n F (fillP (pats m r) xs dds ys) else .no) = eCall n F (aL (fillP (pats m r) fs (dds.map eC) gs)) := by
    funext env
    show _ = (aL (fillP (pats m r) fs (dds.map eC) gs) env >>= callD n F)
    subst hm
    rw [← fill_all env r dds gs hw fs]
    cases h1 : aL fs env with
    | ok xs =>
      rw [RO.bind_ok, RO.bind_ok]
      cases h2 : aL gs env with
      | ok ys =>
        rw [RO.bind_ok, RO.bind_ok, RO.bind_ok, if_pos ⟨aL_len h1, (aL_len h2).trans hl⟩]
      | er _ _ => rfl
      | no => rfl
    | er _ _ => rfl
    | no => rfl
  rw [← e0]
  exact h
end
/-- every parameter is given, none has a default -/
theorem kbn_all {K : PySem.W.Frag} {x qual : Str} {params : Arguments} {body : List Stmt} {scope : Scope} {f : Addr} {fd : FuncData} {ps : List Str} (F : FunD K x qual params body scope [] [] f fd) (m : Nat) (ks : List Str) (r : List Pk)
    (h : ∀ (kV doc pm : Value) (an : Option Addr) (cdv ct : Value) (us ws : List Value), us.length = m → ws.length = ks.length → bindArgs (PySem.W.fnOf x qual params body scope .none kV doc pm an cdv ct) ⟨us, ks.zip ws⟩ = pure (ps.zip (fillP (pats m r) us [] ws))) :
    KBn K fd ps m ks (fun us ws => fillP (pats m r) us [] ws) (fun vs zs => fillP (pats m r) vs [] zs) := by
  obtain ⟨oc, od, dV, kV, doc, pm, an, cdv, ct, osl, rfl, lk, hcd, hD, hK⟩ := F.ex
  rcases hD with ⟨_, rfl⟩ | ⟨e, _⟩
  · exact ⟨fun s us ws _ h1 h2 => .of_eq (h kV doc pm an cdv ct us ws h1 h2), fun r1 r2 => fillP_vals _ r1 .nil r2⟩
  · exact absurd rfl e
end PD
set_option Elab.async false
set_option linter.all false
set_option maxRecDepth 100000
set_option maxHeartbeats 4000000
namespace PD
open PySem PySem.Spec PyProof.Rows L2
/-- the running def's code object has a table that may grow -/
def GTx [Tbs] (X : Cx) : Prop := ∃ c P, GxR.TabB X.base X.mg c P ∧ X.env.code = .ref c ∧ P ∈ Tbs.l
theorem gt_of [Tbs] {X : Cx} {fd : FuncData} {cdv : Value} (h : GT X.base X.mg fd) (e : fd.code = cdv) (e2 : X.env.code = cdv := by rfl) : GTx X := by
  obtain ⟨c, P, h1, h2, h3⟩ := h
  exact ⟨c, P, h1, e2.trans (e.symm.trans h2), h3⟩
def noCell (sc : Scope) : Bool := sc.names.all fun y => y.2 != .cell
theorem noCell_ok {sc : Scope} (h : noCell sc = true) : ∀ y ∈ sc.names, y.2 ≠ .cell := fun y hy e => by
  have := List.all_eq_true.mp h y hy
  rw [e] at this
  simp at this
section
variable [Tbs] {X : Cx} {W : WX} {elt iter : Expr} {x : Str} {px p pos gpos : Pos} {scope : Scope} {own : List (Str × Nat)} {fs : Env → RO (List PyData)} {is : List Nat} {g : G} {f : E} {k : Nat}
theorem c_allG (gt : GTx X) (hr : Room (k + 1) X.A) (hc : X.calm = true) (hN : X.N.Nodup) (hg : Gl X "all") (hm : X.mg "all" = none) (ok : BlkOk X.N X.env.scope scope own) (hco : scope.isCoroutine = false) (hdot : scope.names.lookup (".0" : Str) = some NameKind.local) (nc : noCell scope = true)
    (hi : CI X W (.Name x px) iter fs)
    (hgx : ∀ (A' : Around) (s : Shared) (H : Hp) (C : Addr) (cl : List (Str × Addr)) (code : Value) (fp : List Addr), Room k A' → CG (gex X A' s H (genEnv scope cl C code builtinsNs X.env) fp) (.Name x px) is g) (his : ∀ j ∈ is, j ∈ own.map (·.2))
    (he : ∀ (A' : Around) (s : Shared) (H : Hp) (C : Addr) (cl : List (Str × Addr)) (code : Value) (fp : List Addr), Room k A' → CE (gex X A' s H (genEnv scope cl C code builtinsNs X.env) fp) WN elt f)
    (hs : ∀ v, genFold iter X.env v = pure v := by intro _; rfl)
    (hst : starEach [.GeneratorExp elt [⟨.Name x px, iter, [], 0⟩] scope gpos] X.env = (false, eval (.GeneratorExp elt [⟨.Name x px, iter, [], 0⟩] scope gpos) X.env) :: starEach [] X.env := by rfl) :
    CE X W (.Call (.Name "all" p) [.GeneratorExp elt [⟨.Name x px, iter, [], 0⟩] scope gpos] [] pos) (eAn2 true fs g f (own.map (·.2))) := by
  obtain ⟨c, P, h1, h2, h3⟩ := gt
  exact ce_gen (id := "all") hr hc hN hg hm (by decide +kernel) (by decide) (by decide) (fun B b G q => call_allG hr.hd hr.depth B b G q) h1 h2 h3 ok hco hdot (noCell_ok nc) hi hgx his he hs hst
theorem c_anyG (gt : GTx X) (hr : Room (k + 1) X.A) (hc : X.calm = true) (hN : X.N.Nodup) (hg : Gl X "any") (hm : X.mg "any" = none) (ok : BlkOk X.N X.env.scope scope own) (hco : scope.isCoroutine = false) (hdot : scope.names.lookup (".0" : Str) = some NameKind.local) (nc : noCell scope = true)
    (hi : CI X W (.Name x px) iter fs)
    (hgx : ∀ (A' : Around) (s : Shared) (H : Hp) (C : Addr) (cl : List (Str × Addr)) (code : Value) (fp : List Addr), Room k A' → CG (gex X A' s H (genEnv scope cl C code builtinsNs X.env) fp) (.Name x px) is g) (his : ∀ j ∈ is, j ∈ own.map (·.2))
    (he : ∀ (A' : Around) (s : Shared) (H : Hp) (C : Addr) (cl : List (Str × Addr)) (code : Value) (fp : List Addr), Room k A' → CE (gex X A' s H (genEnv scope cl C code builtinsNs X.env) fp) WN elt f)
    (hs : ∀ v, genFold iter X.env v = pure v := by intro _; rfl)
    (hst : starEach [.GeneratorExp elt [⟨.Name x px, iter, [], 0⟩] scope gpos] X.env = (false, eval (.GeneratorExp elt [⟨.Name x px, iter, [], 0⟩] scope gpos) X.env) :: starEach [] X.env := by rfl) :
    CE X W (.Call (.Name "any" p) [.GeneratorExp elt [⟨.Name x px, iter, [], 0⟩] scope gpos] [] pos) (eAn2 false fs g f (own.map (·.2))) := by
  obtain ⟨c, P, h1, h2, h3⟩ := gt
  exact ce_gen (id := "any") hr hc hN hg hm (by decide +kernel) (by decide) (by decide) (fun B b G q => call_anyG hr.hd hr.depth B b G q) h1 h2 h3 ok hco hdot (noCell_ok nc) hi hgx his he hs hst
end
/-! ### the mathematics of it -/
theorem x_an2 {go : Bool} {fs : A} {g : G} {f : E} {ws : List Nat} {env : Env} : eAn2 go fs g f ws env = (fs env >>= fun items => anB go g f (wipeE env ws) items >>= fun b => RO.ok (.bool b)) := rfl
theorem gStep_of {g : G} {f : E} {env e1 : Env} {x : PyData} {b : Bool} (h : g x env = .ok e1) (h2 : f e1 = .ok (.bool b)) : gStep g f env x = .ok b := by
  unfold gStep
  rw [h]
  show (quiet (f e1) >>= tb) = _
  rw [h2]
  rfl
theorem anB_all {β : Type} {g : G} {f : E} {env : Env} (fi : β → PyData) (p : β → Bool) : ∀ (xs : List β), (∀ x ∈ xs, ∃ e1, g (fi x) env = .ok e1 ∧ f e1 = .ok (.bool (p x))) → anB true g f env (xs.map fi) = .ok (xs.all p)
  | [], _ => rfl
  | x :: xs, h => by
    obtain ⟨e1, h1, h2⟩ := h x List.mem_cons_self
    show (gStep g f env (fi x) >>= fun b => if b = true then anB true g f env (xs.map fi) else .ok b) = _
    rw [gStep_of h1 h2, RO.bind_ok, List.all_cons]
    cases p x with
    | true => rw [if_pos rfl, Bool.true_and]; exact anB_all fi p xs fun y hy => h y (List.mem_cons_of_mem _ hy)
    | false => rfl
theorem anB_any {β : Type} {g : G} {f : E} {env : Env} (fi : β → PyData) (p : β → Bool) : ∀ (xs : List β), (∀ x ∈ xs, ∃ e1, g (fi x) env = .ok e1 ∧ f e1 = .ok (.bool (p x))) → anB false g f env (xs.map fi) = .ok (xs.any p)
  | [], _ => rfl
  | x :: xs, h => by
    obtain ⟨e1, h1, h2⟩ := h x List.mem_cons_self
    show (gStep g f env (fi x) >>= fun b => if b = false then anB false g f env (xs.map fi) else .ok b) = _
    rw [gStep_of h1 h2, RO.bind_ok, List.any_cons]
    cases p x with
    | false => rw [if_pos rfl, Bool.false_or]; exact anB_any fi p xs fun y hy => h y (List.mem_cons_of_mem _ hy)
    | true => rfl
/-! ### the end, with tables -/
theorem tabB_of {base : Heap} {mg : Str → Option Value} {c P : Addr} (h : LamX.TabB base mg c P) : GxR.TabB base mg c P := ⟨h.code, h.bm, h.gP⟩
theorem law_at {l : PySem.W.OpenLaw} {w : World} {K : PySem.W.Frag} {k : Nat} {mg : Str → Option Value} {fa : Addr} {h : Heap} {fd : FuncData} (cs : List (Addr × Addr)) (hT : ∀ p ∈ cs, h.get? p.2 = some { cls := .none, data := .fields #[] }) (nT : ∀ p ∈ cs, K.lookup p.2 = none) (C : ∀ p ∈ cs, PySem.W.CodeHd h p.1 p.2)
    (hb : ∀ (s : Shared) (u : Value), BindsTo s fd ⟨[u], []⟩ [("script", u)])
    (F : ∀ base : Heap, K.In base → base.Ns mainGlobals mg → (∀ p ∈ cs, GxR.TabB base mg p.1 p.2) → FnOk l.prog w K mg base (L2.CX l.prog w) k fa fd ["script"] (@spLaw ⟨cs.map (·.2)⟩ K)) :
    LamX.LawAtS l w K (L2.CX l.prog w) k 63 "script" mg fa h :=
  ⟨fd, cs, @spLaw ⟨cs.map (·.2)⟩ K, hT, nT, C, hb, fun H a ns hl hbits htab hS => ⟨a, ns, rfl, fun P hP => by
    obtain ⟨p, hp, rfl⟩ := List.mem_map.mp hP
    exact ⟨#[], htab p hp, trivial⟩, hS, hl, hbits, fun _ => rfl⟩, fun base h1 h2 h3 => F base h1 h2 fun p hp => tabB_of (h3 p hp)⟩
end PD
set_option Elab.async false
set_option linter.all false
set_option maxRecDepth 100000
set_option maxHeartbeats 4000000
namespace PD
open PySem PySem.Spec PyProof.Rows L2
/-! ### a list and a list make a new list -/
def rCatL (K : PySem.W.Frag) : R2 := fun x y H Q => ∃ l b xs zs, x = .ref l ∧ y = .ref b ∧ SqL K H l xs ∧ SqL K H b zs ∧ xs.length + zs.length ≤ sizeLine ∧ ∀ p, H p = none → Q (.ref p) (upd H p (.lst (xs ++ zs)))
theorem vals_app : ∀ {xs zs : List V} {its jts : List Value}, Vals xs its → Vals zs jts → Vals (xs ++ zs) (its ++ jts)
  | [], _, _, _, h, k => by cases h; exact k
  | _ :: _, _, _, _, h, k => by
    cases h with
    | cons a b => exact .cons a (vals_app b k)
section
variable {X : Cx}
variable [Tbs]
theorem op_catL : OpR X (binaryOp .Add) (rCatL X.K) := by
  intro pins s σ H x y v u Q I rx ry h
  obtain ⟨l, b, xs, zs, rfl, rfl, h1, h2, hl, q⟩ := h
  cases rx
  cases ry
  obtain ⟨its, r1, ⟨⟨c1, d1, a1, sl1⟩, n1, ho1, hc1, hd1, hs1⟩, k1⟩ := I.list h1
  obtain ⟨jts, r2, ⟨⟨c2, d2, a2, sl2⟩, n2, ho2, hc2, hd2, hs2⟩, k2⟩ := I.list h2
  simp only at hc1 hd1 hs1 hc2 hd2 hs2
  subst hc1 hd1 hs1 hc2 hd2 hs2
  have len : its.toArray.size + jts.toArray.size ≤ sizeLine := by
    have e1 : xs.length = its.length := r1.length
    have e2 : zs.length = jts.length := r2.length
    rw [List.size_toArray, List.size_toArray]
    omega
  refine wpAny_binaryOp_concat (T := "list") ⟨_, ho1, rfl⟩ ⟨_, ho2, rfl⟩ noFill_list_add seq_list_add (call_meets F.slot_list_add ⟨_, ho1, rfl⟩ F.entry_list_add (F.args_list_add_2 _ _) (list_addW l b its.toArray jts.toArray n1 n2 none none sl1 sl2 len) ⟨ho1, ho2, ?_⟩)
  refine ⟨.ref s.heap.objs.size, _, I.laid (t' := s.toks) (o := .lst (xs ++ zs)) (fun b ob q => Heap.get?_push_of_some _ q) (Nat.le_refl _) ?_, rfl, q _ (I.hok.fresh (Nat.le_refl _))⟩
  refine ⟨by rw [List.length_append]; exact hl, its ++ jts, 0, vals_app r1 r2, ?_⟩
  rw [Heap.get?_push_size, List.append_toArray]
  rfl
/-- a sum, also of two lists -/
def dAddX : PyData → PyData → Option PyData
  | .list a, .list b => if a.length + b.length ≤ sizeLine then some (.list (a ++ b)) else none
  | x, y => dAdd x y
theorem bin_addX : BinR X (binaryOp .Add) dAddX := fun dx dy d e => by
  cases dx <;> cases dy <;> first | exact bin_add _ _ d e | skip
  rename_i a b
  simp only [dAddX] at e
  split at e
  · rename_i hz
    cases e
    refine ⟨_, op_catL, fun O H vx vy Q l hx hy k => ?_⟩
    obtain ⟨p, xs, rfl, p1, p2⟩ := dp_lst hx
    obtain ⟨p', ys, rfl, p1', p2'⟩ := dp_lst hy
    exact ⟨p, p', xs, ys, rfl, rfl, Ext.unhid.sl p1, Ext.unhid.sl p1', by rw [dpa_len p2, dpa_len p2']; exact hz, fun q hq => k _ _ (Ext.new hq) (dp_newL l hq (dpa_app p2 p2'))⟩
  · cases e
end
theorem addX_L {a b : List PyData} (h : a.length + b.length ≤ 2000) : dAddX (.list a) (.list b) = some (.list (a ++ b)) := by
  show (if a.length + b.length ≤ sizeLine then some (PyData.list (a ++ b)) else none) = _
  rw [if_pos (Nat.le_trans h (by decide))]
theorem addX_T {a b : List PyData} (h : a.length + b.length ≤ 2000) : dAddX (.tuple a) (.tuple b) = some (.tuple (a ++ b)) := by
  show (if a.length + b.length ≤ sizeLine then some (PyData.tuple (a ++ b)) else none) = _
  rw [if_pos (Nat.le_trans h (by decide))]
end PD
set_option Elab.async false
set_option linter.all false
set_option maxRecDepth 100000
set_option maxHeartbeats 4000000
namespace PD
open PySem PySem.Spec PyProof.Rows L2
section
variable {X : Cx} {W : WX} {e a b c : Expr} {es : List Expr} {f fa fb : E} {ft : T} {pos p : Pos} {Z : Zn} {env : Env} {σ : L2.St} {H : Hp} {O : List Addr} {ga : Env → RO (List PyData)} {tg iter elt : Expr} {ifs : List Expr} {scope : Scope} {own : List (Str × Nat)} {gg : G} {is : List Nat} {tt : T}
variable [Tbs]
/-! ### a comprehension over a list of the frame's own, stored -/
theorem comp_readsO (i : Nat) (hc : X.calm = true) (hN : X.N.Nodup) (ok : BlkOk X.N X.env.scope scope own) (hi : CIO X tg iter i)
    (hg : ∀ (s : Shared) (H : Hp) (C : Addr) (cl : List (Str × Addr)) (fp : List Addr), CG (X.blk s H scope (compEnvC scope cl C X.env) fp) tg is gg) (his : ∀ j ∈ is, j ∈ own.map (·.2))
    (ht : ∀ (s : Shared) (H : Hp) (C : Addr) (cl : List (Str × Addr)) (fp : List Addr), CTs (X.blk s H scope (compEnvC scope cl C X.env) fp) WN ifs tt)
    (he : ∀ (s : Shared) (H : Hp) (C : Addr) (cl : List (Str × Addr)) (fp : List Addr), CE (X.blk s H scope (compEnvC scope cl C X.env) fp) WN elt f) {Q : VK}
    (r : Rep X.K Z env σ H O) (q : ROk X W σ O (LQ X.K O Q) H (gvo env i >>= fun items => compD gg tt f (wipeE env (own.map (·.2))) items)) :
    tLc (wpI X tg iter) (fun v σ H Q => ∀ s H0 C cl fp, wpG (X.blk s H0 scope (compEnvC scope cl C X.env) fp) tg v σ H Q) (fun σ H Q => ∀ s H0 C cl fp, wpTs (X.blk s H0 scope (compEnvC scope cl C X.env) fp) ifs σ H Q)
      (fun σ H Q => ∀ s H0 C cl fp, wpE (X.blk s H0 scope (compEnvC scope cl C X.env) fp) elt σ H Q) (own.map (·.2)) σ H Q := by
  rcases gvo_cases env i with ⟨ds, hd⟩ | hd
  · rw [hd] at q
    have q1 : ROk X W σ O (LQ X.K O Q) H (compD gg tt f (wipeE env (own.map (·.2))) ds) := q
    refine hi Z env σ H O ds _ r (gvo_ok hd) fun p vs h1 h2 h3 h4 D hD => ?_
    unfold compD at q1
    by_cases hz : ds.length ≤ sizeLine
    · rw [if_pos hz] at q1
      cases hv : compGo gg tt f (wipeE env (own.map (·.2))) ds with
      | ok zs =>
        rw [hv] at q1
        refine comp_core (J := Itl X.K p) hg his ht he r (fun i d O1 H2 a b sub l ex => ?_) (fun i O1 H2 a b ex => ⟨vs, SqL.of (ex.lst h3), by rw [dpa_len h4]; exact Nat.le_of_eq a⟩) hz hv q1 D hD
        obtain ⟨v, p1, p2⟩ := dpa_get h4 a
        refine ⟨⟨vs, v, SqL.of (ex.lst h3), p1⟩, fun y H3 ⟨z1, z2⟩ => ?_⟩
        subst z1
        have := z2 vs (SqL.of (ex.lst h3))
        rw [p1] at this
        cases this
        exact ⟨Ext.refl _, b.dp p2⟩
      | er c fl => exact absurd hv (comp_noEr _ _ _ _ _ _ _)
      | no => rw [hv] at q1; exact q1.elim
    · rw [if_neg hz] at q1
      exact q1.elim
  · rw [hd] at q
    exact q.elim
theorem cs_setCFO {i : Nat} {y : Str} {py spos : Pos} (k : Nat) (hc : X.calm = true) (hN : X.N.Nodup) (hy : X.N[i]? = some y) (hyl : X.env.scope.names.lookup y = some .local)
    (hsw : swapsWith (.ListComp elt [⟨tg, iter, ifs, 0⟩] scope pos) (some (.Name y py)) spos.line X.env = pure true) (ok : BlkOk X.N X.env.scope scope own) (hi : CIO X tg iter k)
    (hg : ∀ (s : Shared) (H : Hp) (C : Addr) (cl : List (Str × Addr)) (fp : List Addr), CG (X.blk s H scope (compEnvC scope cl C X.env) fp) tg is gg) (his : ∀ j ∈ is, j ∈ own.map (·.2))
    (ht : ∀ (s : Shared) (H : Hp) (C : Addr) (cl : List (Str × Addr)) (fp : List Addr), CTs (X.blk s H scope (compEnvC scope cl C X.env) fp) WN ifs tt)
    (he : ∀ (s : Shared) (H : Hp) (C : Addr) (cl : List (Str × Addr)) (fp : List Addr), CE (X.blk s H scope (compEnvC scope cl C X.env) fp) WN elt f) (hs : ∀ x, foldedSetIterable iter X.env x = pure x := by intro _; rfl) :
    CS X W (.Assign [.Name y py] (.ListComp elt [⟨tg, iter, ifs, 0⟩] scope pos) spos) (sSet i (eL (lCompO k gg tt f (own.map (·.2))))) := fun Z env σ H O D r q => by
  refine wp_s (ps_comp hc hN hy hyl hsw ok hs) ?_
  have q' : ROk X W σ O (VQ X.K O fun v H1 => D.nx (σ.set i (some v)) H1) H ((gvo env k >>= fun items => compD gg tt f (wipeE env (own.map (·.2))) items) >>= fun ds => .ok (.list ds)) :=
    ROk.of_so r q fun d H1 e1 q1 v hv => q1 _ _ _ ((r.mono e1).setFz i hv)
  exact comp_readsO k hc hN ok hi hg his ht he r (q'.then fun ds H1 _ e1 q1 p vs hp hd => q1 _ (Ext.new hp) _ (dp_newL (r.mono e1).lv hp hd))
theorem cs_setCO {i : Nat} {y : Str} {py spos : Pos} (k : Nat) (hc : X.calm = true) (hN : X.N.Nodup) (hy : X.N[i]? = some y) (hyl : X.env.scope.names.lookup y = some .local)
    (hsw : swapsWith (.ListComp elt [⟨tg, iter, ifs, 0⟩] scope pos) (some (.Name y py)) spos.line X.env = pure true) (ok : BlkOk X.N X.env.scope scope own) (hi : CIO X tg iter k)
    (hg : ∀ (s : Shared) (H : Hp) (C : Addr) (cl : List (Str × Addr)) (fp : List Addr), CG (X.blk s H scope (compEnvC scope cl C X.env) fp) tg is gg) (his : ∀ j ∈ is, j ∈ own.map (·.2))
    (ht : ∀ (s : Shared) (H : Hp) (C : Addr) (cl : List (Str × Addr)) (fp : List Addr), CTs (X.blk s H scope (compEnvC scope cl C X.env) fp) WN ifs tt)
    (he : ∀ (s : Shared) (H : Hp) (C : Addr) (cl : List (Str × Addr)) (fp : List Addr), CE (X.blk s H scope (compEnvC scope cl C X.env) fp) WN elt f) (hs : ∀ x, foldedSetIterable iter X.env x = pure x := by intro _; rfl) :
    CS X W (.Assign [.Name y py] (.ListComp elt [⟨tg, iter, ifs, 0⟩] scope pos) spos) (sSetL i (lCompO k gg tt f (own.map (·.2)))) := fun Z env σ H O D r q => by
  refine wp_s (ps_comp hc hN hy hyl hsw ok hs) ?_
  exact comp_readsO k hc hN ok hi hg his ht he r (ROk.of_so r q fun ds H1 e1 q1 p vs hp hd => q1 _ _ _ ((r.mono e1).setOwn i hp hd))
end
section
variable {X : Cx} {i : Nat} {a : Addr} {cls : Value} {od : Option Addr} {c e1 e2 : Expr} {fa fb fc : Ex} {pos p : Pos}
variable [Tbs]
def xIf (fc fa fb : E) : E := fun env => fc env >>= fun d => match d with
  | .bool true => fa env
  | .bool false => fb env
  | _ => .no
theorem cx_if (h : CEx X i a cls od c fc) (h1 : CEx X i a cls od e1 fa) (h2 : CEx X i a cls od e2 fb) (he : ∀ whole, isTrue c X.env whole = (do let v ← whole; standAt c.pos; holding [v] (truthy v)) := by intro _; rfl) :
    CEx X i a cls od (.IfExp c e1 e2 pos) (fun k fl => xIf (fc k fl) (fa k fl) (fb k fl)) := fun Z env σ H O Q k fl r hi x q => by
  refine wp_e (pe_ifExp pt_wp pe_wp pe_wp) ?_
  refine wp_t (pt_truth pe_wp he) ?_
  dsimp only at q
  unfold xIf at q
  refine h.go r hi x q fun d v H1 e1 d1 r1 x1 q1 => ?_
  cases d with
  | bool b =>
    cases dp_bool d1
    refine ⟨b, rfl, ?_⟩
    cases b with
    | true => exact h1 Z env σ H1 O Q k fl r1 hi x1 q1
    | false => exact h2 Z env σ H1 O Q k fl r1 hi x1 q1
  | _ => exact q1.elim
end
/-! ### a list of the frame's own and a list -/
def lAddO (i : Nat) (fb : E) : A := fun env => gvo env i >>= fun xs => fb env >>= fun y => match y with
  | .list ys => if xs.length + ys.length ≤ sizeLine then .ok (xs ++ ys) else .no
  | _ => .no
section
variable {X : Cx} {W : WX} {b : Expr} {fb : E} {pos : Pos}
variable [Tbs]
theorem cl_addO (i : Nat) {x : Str} {p : Pos} (hb : CE X W b fb) (hN : X.N[i]? = some x := by rfl) (hv : Vis X.env.scope x := by first | exact Or.inl rfl | exact Or.inr (Or.inl rfl) | exact Or.inr (Or.inr rfl)) (hd : (x == ("__debug__" : Str)) = false := by decide)
    (hcd : (x == ("__classdict__" : Str)) = false := by decide) : CL X W (.BinOp (.Name x p) .Add b pos) (lAddO i fb) := fun Z env σ H O Q r q => by
  refine wp_e (pe_op op_catL pe_wp pe_wp) ?_
  unfold lAddO at q
  rcases gvo_cases env i with ⟨ds, he⟩ | he
  · rw [he] at q
    have q' : ROk X W σ O (LQ X.K O Q) H (fb env >>= fun y => match y with | .list ys => if ds.length + ys.length ≤ sizeLine then .ok (ds ++ ys) else .no | _ => .no) := q
    refine own_read r (gvo_ok he) hN hv hd hcd fun p vs h1 h2 h3 h4 h5 => ?_
    refine hb.go r q' fun dy vy H2 e2 d2 r2 q2 => ?_
    cases dy with
    | list ys =>
      obtain ⟨p', us, rfl, k1, k2⟩ := dp_lst d2
      have q3 : ROk X W σ O (LQ X.K O Q) H2 (if ds.length + ys.length ≤ sizeLine then .ok (ds ++ ys) else .no) := q2
      by_cases z : ds.length + ys.length ≤ sizeLine
      · rw [if_pos z] at q3
        have h5' := (e2.hid O).dpa h5
        exact ⟨p, p', vs, us, rfl, rfl, SqL.of (e2.lst h4), Ext.unhid.sl k1, by rw [dpa_len h5', dpa_len k2]; exact z, fun p2 hp2 => q3.here p2 _ hp2 (dpa_app h5' k2)⟩
      · rw [if_neg z] at q3
        exact q3.elim
    | _ => exact q2.elim
  · rw [he] at q
    exact q.elim
end
theorem x_addO {i : Nat} {fb : E} {env : Env} : lAddO i fb env = (gvo env i >>= fun xs => fb env >>= fun y => match y with | .list ys => if xs.length + ys.length ≤ sizeLine then .ok (xs ++ ys) else .no | _ => .no) := rfl
/-! ### a suite without a name -/
def sTryC (g : S) (mtc : Str → Option Bool) (f : E) : S := fun env => match g env with
  | .er e1 c fl => (match mtc c with
    | some true => (match f e1 with | .ok d => .rt d | _ => .no)
    | some false => .er e1 c fl
    | none => .no)
  | r => r
section
variable {X : Cx} {W : WX} {x : Str} {cV : Value} {body : List Stmt} {np pos pos' rpos : Pos} {g : S} {mtc : Str → Option Bool} {f : E} {e : Expr}
variable [Tbs]
theorem cs_try_only (hs : X.stack = X.env :: X.outer) (hf : X.env.frame = some X.env.locals) (hc : Names X x cV) (tk : Takes X W)
    (hb : ∀ (W' : WX) (pn : List (Addr × Obj)) (xe : Value → Shared → Prop), Takes (X.tr pn xe) W' → PassesOwn (model X.prog X.w) X.A X.env xe → CSs (X.tr pn xe) W' body g)
    (hsu : ∀ (a : Addr) (oe : Obj) (cls : Value) (d : Option Addr) (pn : List (Addr × Obj)), Zc cls d oe → (∃ vs, oe.data = .fields vs) → CE (X.suite a ((a, oe) :: pn)) WN e f)
    (hm : ∀ c b, mtc c = some b → ∀ C, X.mg c = some C → PySem.W.exmOne X.K C cV = some b) :
    CS X W (.Try body [.ExceptHandler (some (.Name x np)) none [.Return (some e) rpos] pos'] [] [] pos) (sTryC g mtc f) := fun Z env σ H O D r q => by
  refine wp_s (ps_try_only (tb := fun W' D σ H => ∀ pn xe, Takes (X.tr pn xe) W' → PassesOwn (model X.prog X.w) X.A X.env xe → wpSs (X.tr pn xe) body D σ H)
    (ts := fun a cls d D σ H => ∀ oe pn, Zc cls d oe → (∃ vs, oe.data = .fields vs) → wpSs (X.suite a ((a, oe) :: pn)) [.Return (some e) rpos] D σ H)
    hs hf hc tk (fun W' pn xe h1 h2 => ⟨fun pins s _ _ _ I h => h pn xe h1 h2 pins s I⟩) (fun a oe cls d pn h1 h2 => ⟨fun pins s _ _ _ I h => h oe pn h1 h2 pins s I⟩)) ?_
  intro pn xe h1 h2
  refine hb _ pn xe h1 h2 Z env σ H O D r ?_
  unfold sTryC at q
  cases hg : g env with
  | er e1 c fl =>
    rw [hg] at q
    intro C od σ1 H1 O1 r1 x1
    dsimp only at q
    cases hmt : mtc c with
    | none => rw [hmt] at q; exact q.elim
    | some b =>
      rw [hmt] at q
      refine ⟨b, hm c b hmt C x1.1, fun eb a na oe pn' hz hff => ?_, fun eb => ?_⟩
      · subst eb
        dsimp only at q
        refine wp_ss (pss_one (ps_ret pe_wp)) ?_
        refine hsu a oe C od pn' hz hff Z e1 σ1 H1 O1 _ r1 ?_
        cases hfx : f e1 with
        | ok d => rw [hfx] at q; exact fun H2 e2 v hv => q v H2 (r1.whole.trans e2) ((Ext.hid_sub r1.sub).dp hv)
        | er _ _ => rw [hfx] at q; exact q.elim
        | no => rw [hfx] at q; exact q.elim
      · subst eb
        exact q C od σ1 H1 O1 r1 x1
  | nx e => rw [hg] at q; exact q
  | rt e => rw [hg] at q; exact q
  | bk e => rw [hg] at q; exact q
  | ct e => rw [hg] at q; exact q
  | no => rw [hg] at q; exact q
end
def tryC (r : SO) (mtc : Str → Option Bool) (f : E) : SO := match r with
  | .er e1 c fl => (match mtc c with
    | some true => (match f e1 with | .ok d => .rt d | _ => .no)
    | some false => .er e1 c fl
    | none => .no)
  | r => r
theorem x_tryC {g : S} {mtc : Str → Option Bool} {f : E} {env : Env} : sTryC g mtc f env = tryC (g env) mtc f := rfl
/-! ### two names take two values at once -/
def sPar (i j : Nat) (ga : Env → RO (List PyData)) : S := fun env => ofR (ga env) env fun vs => match vs with
  | [v, w] => .nx ((env.set i (some (.fz v))).set j (some (.fz w)))
  | _ => .no
section
variable {X : Cx} {W : WX} {a b : Expr} {ga : Env → RO (List PyData)} {pos : Pos}
variable [Tbs]
theorem cs_par {i j : Nat} {x y : Str} {px py pt pt2 : Pos} {kt k2 : Nat} (hc : X.calm = true) (hN : X.N.Nodup) (hi : X.N[i]? = some x) (hj : X.N[j]? = some y) (hij : i ≠ j) (hx : X.env.scope.names.lookup x = some .local) (hy : X.env.scope.names.lookup y = some .local)
    (hw : swappedStores [.Tuple [.Name x px, .Name y py] kt pt] (.Tuple [a, b] k2 pt2) X.env = pure (some [x, y])) (ha : CA X W [a, b] ga) :
    CS X W (.Assign [.Tuple [.Name x px, .Name y py] kt pt] (.Tuple [a, b] k2 pt2) pos) (sPar i j ga) := fun Z env σ H O D r q => by
  refine wp_s (ps_par hc hN hi hj hij hx hy pa_wp hw) ?_
  refine ha Z env σ H O _ r (ROk.of_so r q fun ds H1 e1 q1 vs hv => ?_)
  match ds, hv, q1 with
  | [d, e], hv, q1 =>
    cases hv with
    | cons h1 t =>
      cases t with
      | cons h2 t2 =>
        cases t2
        exact ⟨_, _, rfl, q1 _ _ _ (((r.mono e1).setFz i h1).setFz j h2)⟩
  | [], hv, q1 => exact q1.elim
  | [_], hv, q1 => exact q1.elim
  | _ :: _ :: _ :: _, hv, q1 => exact q1.elim
end
def parS (i j : Nat) (env : Env) (vs : List PyData) : SO := match vs with
  | [v, w] => .nx ((env.set i (some (.fz v))).set j (some (.fz w)))
  | _ => .no
theorem x_par {i j : Nat} {ga : Env → RO (List PyData)} {env : Env} : sPar i j ga env = ofR (ga env) env fun vs => parS i j env vs := rfl
theorem x_par2 {i j : Nat} {env : Env} {v w : PyData} : parS i j env [v, w] = .nx ((env.set i (some (.fz v))).set j (some (.fz w))) := rfl
/-! ### argument lists, without unfolding the evaluation -/
def isStarB : Expr → Bool
  | .Starred _ _ => true
  | _ => false
theorem star_no {e : Expr} {es : List Expr} {env : PySem.Env} (h : isStarB e = false) : starEach (e :: es) env = (false, eval e env) :: starEach es env := by
  cases e <;> first | rfl | exact Bool.noConfusion h
section
variable {X : Cx} {W : WX} {e : Expr} {es : List Expr} {f : E} {g : Env → RO (List PyData)}
variable [Tbs]
theorem ca_k (h : CE X W e f) (k : CA X W es g) (hs : isStarB e = false := by rfl) : CA X W (e :: es) (aCons f g) := ca_cons h k (star_no hs)
theorem ce_nilL {pos : Pos} : CE X W (.List [] pos) (eL (lLst aNil)) := CL.ce (fl := lLst aNil) (cl_lst ca_nil)
end
end PD
set_option Elab.async false
set_option linter.all false
set_option maxRecDepth 100000
set_option maxHeartbeats 4000000
namespace PD
open PySem PySem.Spec PyProof.Rows L2
/-! ### a suite told apart by the error's class -/
def xAlt (c r : Str) (f g : E) : E := if c = r then f else g
section
variable {X : Cx} {i : Nat} {a : Addr} {cls : Value} {od : Option Addr} {e : Expr} {fa fb : Ex}
variable [Tbs]
theorem cx_alt (r : Str) (h : CEx X i a cls od e fa) (k : CEx X i a cls od e fb) : CEx X i a cls od e (fun c fl => xAlt c r (fa c fl) (fb c fl)) := fun Z env σ H O Q c fl rr hi x q => by
  dsimp only at q
  unfold xAlt at q
  by_cases hc : c = r
  · rw [if_pos hc] at q
    exact h Z env σ H O Q c fl rr hi x q
  · rw [if_neg hc] at q
    exact k Z env σ H O Q c fl rr hi x q
end
end PD
set_option Elab.async false
set_option linter.all false
set_option maxRecDepth 100000
set_option maxHeartbeats 4000000
namespace PD
open PySem PySem.Spec PyProof.Rows L2
/-! ### defs that change a list of the caller's, defs that give a new list: statements that keep the frame in sight -/
inductive SO2 where
  | nx (env : Env)
  | rt (d : PyData) (env : Env)
  | rl (ds : List PyData) (env : Env)
  | no
abbrev S2 := Env → SO2
/-- slot i holds that address all the time -/
def PinA (i : Option Nat) (σ : Sg) (p : Addr) : Prop := match i with
  | none => True
  | some i => σ[i]? = some (some (.ref p))
def of2 {α : Type} (r : RO α) (k : α → SO2) : SO2 := match r with
  | .ok a => k a
  | _ => .no
section
variable {X : Cx} {W : WX} {e a b c : Expr} {es : List Expr} {st : Stmt} {sts rest : List Stmt} {f fa fb : E} {t : T} {Z : Zn} {env : Env} {σ : Sg} {H : Hp} {O : List Addr} {D : Ends} {pos p2 : Pos}
variable [Tbs]
def SOk2 (X : Cx) (Z : Zn) (D : Ends) (i : Option Nat) (p : Addr) : SO2 → Prop
  | .nx env => ∀ σ H O, Rep X.K Z env σ H O → PinA i σ p → D.nx σ H
  | .rt d env => ∀ v σ H O, Rep X.K Z env σ H O → PinA i σ p → Dp X.K (hid O H) v d → D.rt v H
  | .rl ds env => ∀ q vs σ H O, Rep X.K Z env σ H O → PinA i σ p → H q = none → DpAll X.K (hid O H) vs ds → D.rt (.ref q) (upd H q (.lst vs))
  | .no => False
def CS2 (X : Cx) (i : Option Nat) (st : Stmt) (f : S2) : Prop := ∀ Z env σ H O D p, Rep X.K Z env σ H O → PinA i σ p → SOk2 X Z D i p (f env) → wpS X st D σ H
def CSs2 (X : Cx) (i : Option Nat) (st : List Stmt) (f : S2) : Prop := ∀ Z env σ H O D p, Rep X.K Z env σ H O → PinA i σ p → SOk2 X Z D i p (f env) → wpSs X st D σ H
theorem CE.ok2 {Q : VK} {d : PyData} (h : CE X W e f) (r : Rep X.K Z env σ H O) (hf : f env = .ok d) (k : ∀ v H1, Ext H H1 → Dp X.K (hid O H1) v d → Rep X.K Z env σ H1 O → Q v H1) : wpE X e σ H Q :=
  h Z env σ H O Q r (by
    rw [hf]
    exact fun H1 e1 v hv => k v H1 e1 hv (r.mono e1))
theorem CT.ok2 {Q : Bool → Hp → Prop} {d : Bool} (h : CT X W e t) (r : Rep X.K Z env σ H O) (hf : t env = .ok d) (k : ∀ H1, Ext H H1 → Rep X.K Z env σ H1 O → Q d H1) : wpT X e σ H Q :=
  h Z env σ H O Q r (by
    rw [hf]
    exact fun H1 e1 => k H1 e1 (r.mono e1))
theorem CL.ok2 {Q : VK} {fl : Env → RO (List PyData)} {ds : List PyData} (h : CL X W e fl) (r : Rep X.K Z env σ H O) (hf : fl env = .ok ds) (k : ∀ p vs H1, Ext H H1 → H1 p = none → DpAll X.K (hid O H1) vs ds → Rep X.K Z env σ H1 O → Q (.ref p) (upd H1 p (.lst vs))) : wpE X e σ H Q :=
  h Z env σ H O Q r (by
    rw [hf]
    exact fun H1 e1 p vs hp hd => k p vs H1 e1 hp hd (r.mono e1))
def s2Nx : S2 := fun env => .nx env
def s2Seq (g h : S2) : S2 := fun env => match g env with
  | .nx e => h e
  | r => r
def s2Set (j : Nat) (f : E) : S2 := fun env => of2 (f env) fun d => .nx (env.set j (some (.fz d)))
def s2SetI (j : Nat) (fk f : E) : S2 := fun env => of2 (f env) fun d => of2 (gvo env j) fun xs => of2 (fk env) fun k => match k with
  | .int k => (match setD xs k d with
    | some ys => .nx (env.set j (some (.own ys)))
    | none => .no)
  | _ => .no
def s2If (t : T) (g h : S2) : S2 := fun env => of2 (t env) fun b => if b = true then g env else h env
def s2Ret (f : E) : S2 := fun env => of2 (f env) fun d => .rt d env
def s2RetL (fl : Env → RO (List PyData)) : S2 := fun env => of2 (fl env) fun ds => .rl ds env
theorem css2_nil {i : Option Nat} : CSs2 X i [] s2Nx := fun Z env σ H O D p r hp q => wp_ss pss_nil (q σ H O r hp)
theorem css2_cons {i : Option Nat} {g h : S2} (h1 : CS2 X i st g) (h2 : CSs2 X i rest h) : CSs2 X i (st :: rest) (s2Seq g h) := fun Z env σ H O D p r hp q => by
  refine wp_ss (pss_cons ps_wp pss_wp) ?_
  refine h1 Z env σ H O _ p r hp ?_
  unfold s2Seq at q
  cases hg : g env with
  | nx e1 => rw [hg] at q; exact fun σ1 H1 O1 r1 hp1 => h2 Z e1 σ1 H1 O1 D p r1 hp1 q
  | rt d e1 => rw [hg] at q; exact q
  | rl d e1 => rw [hg] at q; exact q
  | no => rw [hg] at q; exact q
theorem css2_one {i : Option Nat} {g : S2} (h1 : CS2 X i st g) : CSs2 X i [st] g := fun Z env σ H O D p r hp q => wp_ss (pss_one ps_wp) (h1 Z env σ H O D p r hp q)
theorem of2_ok {α : Type} {r : RO α} {k : α → SO2} {i : Option Nat} {p : Addr} (q : SOk2 X Z D i p (of2 r k)) : ∃ a, r = .ok a ∧ SOk2 X Z D i p (k a) := by
  cases r with
  | ok a => exact ⟨a, rfl, q⟩
  | er c fl => exact q.elim
  | no => exact q.elim
theorem cs2_set {i : Option Nat} {j : Nat} {x : Str} {pos' : Pos} (tk : Takes X W) (hN : X.N.Nodup) (hi : X.N[j]? = some x) (hx : Loc X.env.scope x) (he : CE X W e f) (hne : i ≠ some j) (hs : swapsWith e (some (.Name x pos')) pos.line X.env = pure false := by rfl) (hf : X.fn x = true ∨ X.env.scope.names.lookup x = some .local := by first | exact .inl rfl | exact .inr rfl | assumption) :
    CS2 X i (.Assign [.Name x pos'] e pos) (s2Set j f) := fun Z env σ H O D p r hp q => by
  refine wp_s (ps_set hN hi hx pe_wp hs hf) ?_
  obtain ⟨d, hd, q⟩ := of2_ok q
  refine he.ok2 r hd fun v H1 e1 d1 r1 => q _ _ _ (r1.setFz j d1) ?_
  cases i with
  | none => trivial
  | some i =>
    have n : j ≠ i := fun z => hne (by rw [z])
    have hp' : σ[i]? = some (some (.ref p)) := hp
    show (σ.set j (some v))[i]? = some (some (.ref p))
    rw [List.getElem?_set_ne n]
    exact hp'
theorem cs2_setI {i : Option Nat} {j : Nat} {x : Str} {px : Pos} (tk : Takes X W) (hN : X.N[j]? = some x) (hv : Vis X.env.scope x) (hd : (x == ("__debug__" : Str)) = false) (hcd : (x == ("__classdict__" : Str)) = false) (he : CE X W e f) (hb : CE X W b fb)
    (ha : ∀ v, assign (.Subscript (.Name x px) b p2) X.env v = (do
      let ov ← holding [v] (eval (.Name x px) X.env)
      let iv ← holding [v, ov] (eval b X.env)
      standAt p2
      holding [v, ov, iv] (setItem ov iv v)
      release [v, ov, iv] []) := by intro _; rfl)
    (hs : swapsWithSole [.Subscript (.Name x px) b p2] e pos.line X.env = pure false := by rfl) (hw : swappedStores [.Subscript (.Name x px) b p2] e X.env = pure none := by rfl)
    (h1 : (assignEach [.Subscript (.Name x px) b p2] X.env).map (·.2) = [assign (.Subscript (.Name x px) b p2) X.env] := by rfl) : CS2 X i (.Assign [.Subscript (.Name x px) b p2] e pos) (s2SetI j fb f) := fun Z env σ H O D p r hp q => by
  refine wp_s (ps_asg pe_wp (pg_sub pe_wp pe_wp set_list ha) hs hw h1) ?_
  obtain ⟨d, hdd, q⟩ := of2_ok q
  obtain ⟨ds, hi, q⟩ := of2_ok q
  obtain ⟨k, hk, q⟩ := of2_ok q
  refine he.ok2 r hdd fun v H1 e1 d1 r1 => ?_
  refine own_read r1 (gvo_ok hi) hN hv hd hcd fun p3 vs s1 s2 s3 s4 s5 => ?_
  refine hb.ok2 r1 hk fun kv H2 e2 d2 r2 => ?_
  cases k with
  | int k =>
    cases dp_int d2
    unfold setD at q
    dsimp only at q
    cases hj : ixN ds.length k with
    | none => rw [hj] at q; exact q.elim
    | some j =>
      rw [hj] at q
      exact ⟨p3, vs, k, j, rfl, rfl, e2.lst s4, by rw [dpa_len s5]; exact hj, q _ _ _ (r2.mutOwn (gvo_ok hi) s1 (dpa_set ((e2.hid O).dp d1) j ((e2.hid O).dpa s5))) hp⟩
  | _ => exact q.elim
theorem cs2_if {i : Option Nat} {g h : S2} {s1 s2 : List Stmt} (tk : Takes X W) (hc : CT X W c t) (h1 : CSs2 X i s1 g) (h2 : CSs2 X i s2 h) : CS2 X i (.If c s1 s2 pos) (s2If t g h) := fun Z env σ H O D p r hp q => by
  refine wp_s (ps_if pt_wp pss_wp pss_wp) ?_
  obtain ⟨b, hb, q⟩ := of2_ok q
  refine hc.ok2 r hb fun H1 e1 r1 => ?_
  cases b with
  | true => exact h1 Z env σ H1 O D p r1 hp q
  | false => exact h2 Z env σ H1 O D p r1 hp q
theorem cs2_ret {i : Option Nat} (tk : Takes X W) (he : CE X W e f) : CS2 X i (.Return (some e) pos) (s2Ret f) := fun Z env σ H O D p r hp q => by
  refine wp_s (ps_ret pe_wp) ?_
  obtain ⟨d, hd, q⟩ := of2_ok q
  exact he.ok2 r hd fun v H1 e1 d1 r1 => q v σ H1 O r1 hp d1
theorem cs2_retL {i : Option Nat} {fl : Env → RO (List PyData)} (tk : Takes X W) (he : CL X W e fl) : CS2 X i (.Return (some e) pos) (s2RetL fl) := fun Z env σ H O D p r hp q => by
  refine wp_s (ps_ret pe_wp) ?_
  obtain ⟨d, hd, q⟩ := of2_ok q
  exact he.ok2 r hd fun v vs H1 e1 hq d1 r1 => q v vs σ H1 O r1 hp hq d1
end
/-! ### such defs' promises -/
def spI [Tbs] (K : PySem.W.Frag) (n : Nat) (F : List PyData → List PyData → RO (PyData × List PyData)) : Sp := fun vs H Q E => vs.length = n ∧ (∀ P ∈ Tbs.l, GxR.TabG H P) ∧ ∃ p ws ls ds0 ds Oc, vs = .ref p :: ws ∧ p ∉ Oc ∧ Lv (p :: Oc) H ∧ H p = some (.lst ls) ∧ DpAll K (hid (p :: Oc) H) ls ds0 ∧ DpAll K (hid (p :: Oc) H) ws ds ∧ (match F ds0 ds with
  | .ok (d, ds1) => ∀ v H' ls', Ext (hid (p :: Oc) H) (hid (p :: Oc) H') → (∀ a ∈ Oc, H' a = H a) → H' p = some (.lst ls') → DpAll K (hid (p :: Oc) H') ls' ds1 → Dp K (hid (p :: Oc) H') v d → (∀ P ∈ Tbs.l, GxR.TabG H' P) → Q v H'
  | _ => False)
def spN [Tbs] (K : PySem.W.Frag) (n : Nat) (F : List PyData → RO (List PyData)) : Sp := fun vs H Q E => vs.length = n ∧ (∀ P ∈ Tbs.l, GxR.TabG H P) ∧ ∃ ds Oc, Lv Oc H ∧ DpAll K (hid Oc H) vs ds ∧ (match F ds with
  | .ok l => ∀ q us H1, Ext H H1 → H1 q = none → DpAll K (hid Oc H1) us l → Q (.ref q) (upd H1 q (.lst us))
  | _ => False)
def startI (m : Nat) (ds0 ds : List PyData) : Env := some (.own ds0) :: (ds.map (fun d => some (.fz d)) ++ List.replicate (m - (ds.length + 1)) none)
def runI (m : Nat) (B : S2) : List PyData → List PyData → RO (PyData × List PyData) := fun ds0 ds => match B (startI m ds0 ds) with
  | .rt d env => (match (env[0]? : Option (Option SV)) with
    | some (some (SV.own l)) => .ok (d, l)
    | _ => .no)
  | _ => .no
def runN (m : Nat) (B : S2) : List PyData → RO (List PyData) := fun ds => match B (startE m ds) with
  | .rl l _ => .ok l
  | _ => .no
theorem hid_p {Oc : List Addr} {H : Hp} {p : Addr} : hid Oc (fun a => if a = p then none else H a) = hid (p :: Oc) H := by
  funext a
  unfold hid
  by_cases ha : a ∈ Oc
  · rw [if_pos ha, if_pos (List.mem_cons_of_mem _ ha)]
  · rw [if_neg ha]
    by_cases hap : a = p
    · rw [if_pos (show a ∈ p :: Oc by rw [hap]; exact List.mem_cons_self)]
      exact if_pos hap
    · rw [if_neg (fun z => (List.mem_cons.mp z).elim hap ha)]
      exact if_neg hap
theorem startI_rep [Tbs] {K : PySem.W.Frag} {H : Hp} {Oc : List Addr} {p : Addr} {ws ls : List V} {ds0 ds : List PyData} {N : List Str} (np : p ∉ Oc) (l : Lv (p :: Oc) H) (tb : ∀ P ∈ Tbs.l, GxR.TabG H P) (hp : H p = some (.lst ls)) (h0 : DpAll K (hid (p :: Oc) H) ls ds0) (h : DpAll K (hid (p :: Oc) H) ws ds) :
    Rep K ⟨fun a => if a = p then none else H a, Oc⟩ (startI N.length ds0 ds) (L2.start N (.ref p :: ws)) H (p :: Oc) := by
  have hl := dpa_len h
  have at0 : (L2.start N (.ref p :: ws))[0]? = some (some (.ref p)) := rfl
  have noOwn : ∀ {i : Nat} {di : List PyData}, (startI N.length ds0 ds)[i]? = some (some (.own di)) → i = 0 := fun {i di} e => by
    cases i with
    | zero => rfl
    | succ i =>
      exfalso
      unfold startI at e
      rw [List.getElem?_cons_succ] at e
      by_cases hi : i < ds.length
      · rw [List.getElem?_append_left (by simpa using hi), List.getElem?_map] at e
        cases hd : ds[i]? with
        | none => rw [hd] at e; cases e
        | some d => rw [hd] at e; cases e
      · rw [List.getElem?_append_right (by simpa using hi), List.getElem?_replicate] at e
        split at e <;> cases e
  refine ⟨?_, fun a ha => List.mem_cons_of_mem _ ha, fun a ha => ?_, ?_, fun i s e => ?_, fun i j a di dj e1 e2 _ _ => ?_, l, tb⟩
  · have e := hid_p (Oc := Oc) (H := H) (p := p)
    show Ext (hid Oc (fun a => if a = p then none else H a)) _
    rw [e]
    exact Ext.refl _
  · show H a = if a = p then none else H a
    have n : a ≠ p := fun z => np (by rw [← z]; exact ha)
    rw [if_neg n]
  · unfold startI L2.start
    simp [hl]
  · cases i with
    | zero =>
      cases e
      exact ⟨_, at0, p, ls, rfl, List.mem_cons_self, np, hp, h0⟩
    | succ i =>
      unfold startI at e
      rw [List.getElem?_cons_succ] at e
      by_cases hi : i < ds.length
      · rw [List.getElem?_append_left (by simpa using hi), List.getElem?_map] at e
        cases hd : ds[i]? with
        | none => rw [hd] at e; cases e
        | some d =>
          rw [hd] at e
          cases e
          obtain ⟨v, h1, h2⟩ := dpa_get h hd
          refine ⟨v, ?_, h2⟩
          unfold L2.start
          rw [List.map_cons, List.cons_append, List.getElem?_cons_succ, List.getElem?_append_left (by rw [List.length_map, hl]; exact hi), List.getElem?_map, h1]
          rfl
      · rw [List.getElem?_append_right (by simpa using hi), List.getElem?_replicate] at e
        split at e <;> cases e
  · rw [noOwn e1, noOwn e2]
section
variable {P : Program} {w : World} {K : PySem.W.Frag} {mg : Str → Option Value} {base : Heap}
variable [Tbs]
theorem bodyI_ok {N : List Str} {X : Cx} {H : Hp} {vs : List V} {Q : VK} {E : XK} {body : List Stmt} {B : S2} {n : Nat} (hK : X.K = K) (h : CSs2 X (some 0) body B) (q : spI K n (runI N.length B) vs H Q E) :
    wpSs X body { nx := fun _ H' => Q .non H', rt := Q } (L2.start N vs) H := by
  subst hK
  obtain ⟨_, tb, p, ws, ls, ds0, ds, Oc, rfl, np, l, hp, h0, hd, q⟩ := q
  refine h _ (startI N.length ds0 ds) _ H (p :: Oc) _ p (startI_rep np l tb hp h0 hd) rfl ?_
  unfold runI at q
  cases hb : B (startI N.length ds0 ds) with
  | nx e => rw [hb] at q; exact q.elim
  | rl d e => rw [hb] at q; exact q.elim
  | no => rw [hb] at q; exact q.elim
  | rt d env =>
    rw [hb] at q
    intro v σ H' O' r pin dv
    dsimp only at q
    cases he : env[0]? with
    | none => rw [he] at q; exact q.elim
    | some s =>
      cases s with
      | none => rw [he] at q; exact q.elim
      | some s =>
        cases s with
        | fz d => rw [he] at q; exact q.elim
        | own l1 =>
          rw [he] at q
          obtain ⟨u, h1, a, ls', rfl, ha, hac, hH, hD⟩ := r.sl 0 _ he
          have pin' : σ[0]? = some (some (.ref p)) := pin
          rw [pin'] at h1
          have e1 : p = a := by injection h1 with h1; injection h1 with h1; injection h1
          subst e1
          have sub : ∀ b ∈ (p :: Oc), b ∈ O' := fun b hb => by
            rcases List.mem_cons.mp hb with rfl | hb
            · exact ha
            · exact r.sub b hb
          have ex := r.ex
          have ez := hid_p (Oc := Oc) (H := H) (p := p)
          have ex' : Ext (hid (p :: Oc) H) (hid O' H') := ez ▸ ex
          exact q v H' ls' (ex'.trans (Ext.hid_sub sub)) (fun b hb => by
            have := r.kp b hb
            rw [this]
            show (if b = p then none else H b) = H b
            have n : b ≠ p := fun z => np (by rw [← z]; exact hb)
            rw [if_neg n]) hH ((Ext.hid_sub sub).dpa hD) ((Ext.hid_sub sub).dp dv) r.tb
theorem bodyN_ok {N : List Str} {X : Cx} {H : Hp} {vs : List V} {Q : VK} {E : XK} {body : List Stmt} {B : S2} {n : Nat} (hK : X.K = K) (h : CSs2 X none body B) (q : spN K n (runN N.length B) vs H Q E) :
    wpSs X body { nx := fun _ H' => Q .non H', rt := Q } (L2.start N vs) H := by
  subst hK
  obtain ⟨_, tb, ds, Oc, l, hd, q⟩ := q
  refine h ⟨H, Oc⟩ (startE N.length ds) _ H Oc _ 0 (start_rep l tb hd) trivial ?_
  unfold runN at q
  cases hb : B (startE N.length ds) with
  | nx e => rw [hb] at q; exact q.elim
  | rt d e => rw [hb] at q; exact q.elim
  | no => rw [hb] at q; exact q.elim
  | rl d e =>
    rw [hb] at q
    exact fun x us σ' H' O' r _ hx hd => q x us H' r.whole hx ((Ext.hid_sub r.sub).dpa hd)
theorem okI {x qual : Str} {st : Stmt} {f : Addr} {fd : FuncData} {N ps : List Str} {k : Nat} (F : Fun K x qual st f fd) (S : FnScope N ps (defScope st)) (B : S2)
    (h : ∀ (cdv : Value) (A : Around) (outer : List PySem.Env) (s : Shared) (H : Hp) (E : XK), Room k (A.deeper (envOfC qual (defScope st) s.heap.objs.size f cdv)) →
      CSs2 (cxOf (L2.CX P w) P w K mg base N qual (defScope st) f cdv A outer s H E) (some 0) (defBody st) B) : FnOk P w K mg base (L2.CX P w) (k + 1) f fd ps (spI K ps.length (runI N.length B)) :=
  F.okX S (fun vs H Q E q => q.1) fun cdv A outer s H vs Q E hr q => ⟨_, pss_wp, bodyI_ok (N := N) rfl (h cdv A outer s H E hr) q⟩
theorem okN {x qual : Str} {st : Stmt} {f : Addr} {fd : FuncData} {N ps : List Str} {k : Nat} (F : Fun K x qual st f fd) (S : FnScope N ps (defScope st)) (B : S2)
    (h : ∀ (cdv : Value) (A : Around) (outer : List PySem.Env) (s : Shared) (H : Hp) (E : XK), Room k (A.deeper (envOfC qual (defScope st) s.heap.objs.size f cdv)) →
      CSs2 (cxOf (L2.CX P w) P w K mg base N qual (defScope st) f cdv A outer s H E) none (defBody st) B) : FnOk P w K mg base (L2.CX P w) (k + 1) f fd ps (spN K ps.length (runN N.length B)) :=
  F.okX S (fun vs H Q E q => q.1) fun cdv A outer s H vs Q E hr q => ⟨_, pss_wp, bodyN_ok (N := N) rfl (h cdv A outer s H E hr) q⟩
end
end PD
set_option Elab.async false
set_option linter.all false
set_option maxRecDepth 100000
set_option maxHeartbeats 4000000
namespace PD
open PySem PySem.Spec PyProof.Rows L2
/-! ### expressions that change own lists of the frame -/
abbrev E2 := Env → RO (PyData × Env)
abbrev A2 := Env → RO (List PyData × Env)
abbrev T2 := Env → RO (Bool × Env)
section
variable {X : Cx} {W : WX} {e a b c : Expr} {es : List Expr} {st : Stmt} {f : E} {fa fb : E2} {ga : A2} {t : T} {ft : T2} {Z : Zn} {env env' : Env} {σ : Sg} {H H' : Hp} {O : List Addr} {pos p2 : Pos}
variable [Tbs]
/-- no list of the frame's own is made -/
def OwnLe (e e' : Env) : Prop := ∀ (j : Nat) (ds : List PyData), e'[j]? = some (some (SV.own ds)) → ∃ ds', e[j]? = some (some (SV.own ds'))
theorem OwnLe.refl {e : Env} : OwnLe e e := fun j ds h => ⟨ds, h⟩
theorem OwnLe.trans {a b c : Env} (h : OwnLe a b) (k : OwnLe b c) : OwnLe a c := fun j ds z => let ⟨ds', y⟩ := k j ds z; h j ds' y
def CE2 (X : Cx) (e : Expr) (f : E2) : Prop := (∀ env d env', f env = .ok (d, env') → OwnLe env env') ∧ ∀ Z env σ H O Q d env', Rep X.K Z env σ H O → f env = .ok (d, env') → (∀ v H', Rep X.K Z env' σ H' O → Ext (hid O H) (hid O H') → Dp X.K (hid O H') v d → Q v H') → wpE X e σ H Q
def CA2 (X : Cx) (es : List Expr) (f : A2) : Prop := (∀ env d env', f env = .ok (d, env') → OwnLe env env') ∧ ∀ Z env σ H O Q ds env', Rep X.K Z env σ H O → f env = .ok (ds, env') → (∀ vs H', Rep X.K Z env' σ H' O → Ext (hid O H) (hid O H') → DpAll X.K (hid O H') vs ds → Q vs H') → wpA X es σ H Q
def CT2 (X : Cx) (e : Expr) (f : T2) : Prop := (∀ env d env', f env = .ok (d, env') → OwnLe env env') ∧ ∀ Z env σ H O Q b env', Rep X.K Z env σ H O → f env = .ok (b, env') → (∀ H', Rep X.K Z env' σ H' O → Ext (hid O H) (hid O H') → Q b H') → wpT X e σ H Q
/-- a list of the frame's own, changed by a call -/
theorem Rep.back (r : Rep X.K Z env σ H O) {i : Nat} {p : Addr} {ds0 ds : List PyData} {ls : List V} (he : env[i]? = some (some (.own ds0))) (hs : σ[i]? = some (some (.ref p))) (e : Ext (hid O H) (hid O H')) (kp : ∀ a ∈ O, a ≠ p → H' a = H a) (hp : H' p = some (.lst ls)) (h : DpAll X.K (hid O H') ls ds) (tb : ∀ P ∈ Tbs.l, GxR.TabG H' P) : Rep X.K Z (env.set i (some (.own ds))) σ H' O := by
  obtain ⟨v, h1, a, ws, rfl, ha, hc, h3, _⟩ := r.sl i _ he
  rw [hs] at h1
  have e1 : p = a := by injection h1 with h1; injection h1 with h1; injection h1
  subst e1
  have old : ∀ {j : Nat} {dj : List PyData}, (env.set i (some (.own ds)))[j]? = some (some (.own dj)) → ∃ dj', env[j]? = some (some (.own dj')) := fun {j dj} e => by
    rcases set_some e with ⟨rfl, _, _⟩ | ⟨_, e⟩
    · exact ⟨_, he⟩
    · exact ⟨_, e⟩
  refine ⟨r.ex.trans e, r.sub, fun a ha' => ?_, by simp [r.len], fun j s e' => ?_, fun j k a dj dk e1 e2 s1 s2 => ?_, fun a ha' => ?_, tb⟩
  · have n : a ≠ p := fun z => hc (by rw [← z]; exact ha')
    rw [kp a (r.sub a ha') n]
    exact r.kp a ha'
  · rcases set_some e' with ⟨rfl, _, e'⟩ | ⟨hj, e'⟩
    · cases e'
      exact ⟨.ref p, hs, p, ls, rfl, ha, hc, hp, h⟩
    · obtain ⟨w, h1, h2⟩ := r.sl j s e'
      refine ⟨w, h1, ?_⟩
      cases s with
      | fz d => exact e.dp h2
      | own dj =>
        obtain ⟨b, ws, e1, hb, hcb, h3', h4⟩ := h2
        have nb : b ≠ p := fun z => hj (r.nd j i p dj ds0 e' he (by rw [h1, e1, z]) hs)
        exact ⟨b, ws, e1, hb, hcb, by rw [kp b hb nb]; exact h3', e.dpa h4⟩
  · obtain ⟨x1, y1⟩ := old e1
    obtain ⟨x2, y2⟩ := old e2
    exact r.nd j k a x1 x2 y1 y2 s1 s2
  · by_cases z : a = p
    · exact ⟨ls, by rw [z]; exact hp⟩
    · obtain ⟨ws, h3⟩ := r.lv a ha'
      exact ⟨ws, by rw [kp a ha' z]; exact h3⟩
def e2P (f : E) : E2 := fun env => f env >>= fun d => .ok (d, env)
theorem ce2_pure (h : CE X W e f) : CE2 X e (e2P f) := ⟨(fun env d env' q => by
  obtain ⟨x, hx, q⟩ := bind_okE q
  cases q
  exact OwnLe.refl), fun Z env σ H O Q d env' r q k => by
  obtain ⟨x, hx, q⟩ := bind_okE q
  cases q
  exact h.ok2 r hx fun v H1 e1 d1 r1 => k v H1 r1 (e1.hid O) d1⟩
def a2N : A2 := fun env => .ok ([], env)
def a2C (f : E2) (g : A2) : A2 := fun env => f env >>= fun x => g x.2 >>= fun y => .ok (x.1 :: y.1, y.2)
theorem ca2_nil : CA2 X [] a2N := ⟨(fun env d env' q => by
  cases q
  exact OwnLe.refl), fun Z env σ H O Q ds env' r q k => by
  cases q
  exact wp_a pa_nil (k [] H r (Ext.refl _) .nil)⟩
theorem ca2_cons (h : CE2 X e fa) (g : CA2 X es ga) (hs : starEach (e :: es) X.env = (false, eval e X.env) :: starEach es X.env := by rfl) : CA2 X (e :: es) (a2C fa ga) := ⟨(fun env d env' q => by
  obtain ⟨x, hx, q⟩ := bind_okE q
  obtain ⟨y, hy, q⟩ := bind_okE q
  cases q
  exact (h.1 env x.1 x.2 hx).trans (g.1 x.2 y.1 y.2 hy)), fun Z env σ H O Q ds env' r q k => by
  obtain ⟨x, hx, q⟩ := bind_okE q
  obtain ⟨y, hy, q⟩ := bind_okE q
  cases q
  refine wp_a (pa_cons pe_wp pa_wp hs) ?_
  refine h.2 Z env σ H O _ x.1 x.2 r hx fun v H1 r1 e1 d1 => ?_
  refine g.2 Z x.2 σ H1 O _ y.1 y.2 r1 hy fun vs H2 r2 e2 d2 => ?_
  exact k _ H2 r2 (e1.trans e2) (.cons (e2.dp d1) d2)⟩
def e2Op (bi : PyData → PyData → Option PyData) (fa fb : E2) : E2 := fun env => fa env >>= fun x => fb x.2 >>= fun y => ofO (bi x.1 y.1) >>= fun d => .ok (d, y.2)
theorem ofO_ok {α : Type} {o : Option α} {x : α} (h : ofO o = .ok x) : o = some x := by
  cases o with
  | none => cases h
  | some y => cases h; rfl
theorem ce2_op {op : Operator} {bi : PyData → PyData → Option PyData} (ho : BinR X (binaryOp op) bi) (ha : CE2 X a fa) (hb : CE2 X b fb) : CE2 X (.BinOp a op b pos) (e2Op bi fa fb) := ⟨(fun env d env' q => by
  obtain ⟨x, hx, q⟩ := bind_okE q
  obtain ⟨y, hy, q⟩ := bind_okE q
  obtain ⟨z, hz, q⟩ := bind_okE q
  cases q
  exact (ha.1 env x.1 x.2 hx).trans (hb.1 x.2 y.1 y.2 hy)), fun Z env σ H O Q d env' r q k => by
  obtain ⟨x, hx, q⟩ := bind_okE q
  obtain ⟨y, hy, q⟩ := bind_okE q
  obtain ⟨z, hz, q⟩ := bind_okE q
  cases q
  let R : R2 := fun vx vy H Q => ∃ (r : R2), OpR X (binaryOp op) r ∧ r vx vy H Q
  have hR : OpR X (binaryOp op) R := fun pins s σ H x y v u Q I rx ry ⟨r, h1, h2⟩ => h1 pins s σ H x y v u Q I rx ry h2
  refine wp_e (pe_op hR pe_wp pe_wp) ?_
  refine ha.2 Z env σ H O _ x.1 x.2 r hx fun vx H1 r1 e1 d1 => ?_
  refine hb.2 Z x.2 σ H1 O _ y.1 y.2 r1 hy fun vy H2 r2 e2 d2 => ?_
  obtain ⟨rr, h1, h2⟩ := ho x.1 y.1 _ (ofO_ok hz)
  exact ⟨rr, h1, h2 O H2 vx vy Q r2.lv (e2.dp d1) d2 fun v H' e' hv => k v H' (r2.mono e') (e1.trans (e2.trans (e'.hid O))) hv⟩⟩
def t2Cm (bi : PyData → PyData → Option PyData) (fa fb : E2) : T2 := fun env => fa env >>= fun x => fb x.2 >>= fun y => ofO (bi x.1 y.1) >>= tb >>= fun d => .ok (d, y.2)
theorem ct2_cmp {op : CmpOp} {bi : PyData → PyData → Option PyData} (ho : BinB X (compareOp op) bi) (ha : CE2 X a fa) (hb : CE2 X b fb) (hm : behindInMarks op b = false := by first | exact nobehind _ (by decide) (by decide) | rfl) : CT2 X (.Compare a [op] [b] pos) (t2Cm bi fa fb) := ⟨(fun env d env' q => by
  obtain ⟨x, hx, q⟩ := bind_okE q
  obtain ⟨y, hy, q⟩ := bind_okE q
  obtain ⟨z, hz, q⟩ := bind_okE q
  cases q
  exact (ha.1 env x.1 x.2 hx).trans (hb.1 x.2 y.1 y.2 hy)), fun Z env σ H O Q d env' r q k => by
  obtain ⟨x, hx, q⟩ := bind_okE q
  obtain ⟨y, hy, q⟩ := bind_okE q
  obtain ⟨z, hz, q⟩ := bind_okE q
  cases q
  obtain ⟨u, hu, hz⟩ := bind_okE hz
  let R : R2 := fun vx vy H Q => ∃ (r : R2), OpR X (compareOp op) r ∧ r vx vy H Q
  have hR : OpR X (compareOp op) R := fun pins s σ H x y v u Q I rx ry ⟨r, h1, h2⟩ => h1 pins s σ H x y v u Q I rx ry h2
  refine wp_t (pt_cmpR hR pe_wp pe_wp hm) ?_
  refine ha.2 Z env σ H O _ x.1 x.2 r hx fun vx H1 r1 e1 d1 => ?_
  refine hb.2 Z x.2 σ H1 O _ y.1 y.2 r1 hy fun vy H2 r2 e2 d2 => ?_
  obtain ⟨rr, h1, h2⟩ := ho x.1 y.1 _ (ofO_ok hu)
  refine ⟨rr, h1, h2 H2 vx vy _ (Ext.unhid.dp (e2.dp d1)) (Ext.unhid.dp d2) fun v hv => ?_⟩
  cases u with
  | bool kb =>
    cases hz
    have := dp_bool (hv H2)
    subst this
    exact ⟨_, rfl, k H2 r2 (e1.trans e2)⟩
  | _ => cases hz⟩
def e2Ix (fa fb : E2) : E2 := fun env => fa env >>= fun x => fb x.2 >>= fun y => ofO (dIx x.1 y.1) >>= fun d => .ok (d, y.2)
theorem ce2_ix (ha : CE2 X a fa) (hb : CE2 X b fb) (hs : PlainIx b := by exact fun _ _ => rfl) : CE2 X (.Subscript a b pos) (e2Ix fa fb) := ⟨(fun env d env' q => by
  obtain ⟨x, hx, q⟩ := bind_okE q
  obtain ⟨y, hy, q⟩ := bind_okE q
  obtain ⟨z, hz, q⟩ := bind_okE q
  cases q
  exact (ha.1 env x.1 x.2 hx).trans (hb.1 x.2 y.1 y.2 hy)), fun Z env σ H O Q d env' r q k => by
  obtain ⟨x, hx, q⟩ := bind_okE q
  obtain ⟨y, hy, q⟩ := bind_okE q
  obtain ⟨z, hz, q⟩ := bind_okE q
  cases q
  refine wp_e (pe_ix ix_seq pe_wp pe_wp hs) ?_
  refine ha.2 Z env σ H O _ x.1 x.2 r hx fun vx H1 r1 e1 d1 => ?_
  refine hb.2 Z x.2 σ H1 O _ y.1 y.2 r1 hy fun vy H2 r2 e2 d2 => ?_
  have e := ofO_ok hz
  generalize hyy : y.1 = dy at d2 e
  cases dy with
  | int i =>
    cases dp_int d2
    exact ix_ok (e2.dp d1) e fun v hv => k v H2 r2 (e1.trans e2) hv
  | _ => generalize x.1 = dx at e; cases dx <;> cases e⟩
def e2Lst (g : A2) : E2 := fun env => g env >>= fun xs => if xs.1.length ≤ sizeLine then .ok (.list xs.1, xs.2) else .no
theorem ce2_lst (h : CA2 X es ga) : CE2 X (.List es pos) (e2Lst ga) := ⟨(fun env d env' q => by
  obtain ⟨x, hx, q⟩ := bind_okE q
  by_cases z : x.1.length ≤ sizeLine
  · rw [if_pos z] at q
    cases q
    exact h.1 env x.1 x.2 hx
  · rw [if_neg z] at q
    cases q), fun Z env σ H O Q d env' r q k => by
  obtain ⟨x, hx, q⟩ := bind_okE q
  by_cases z : x.1.length ≤ sizeLine
  · rw [if_pos z] at q
    cases q
    refine wp_e (pe_lst pa_wp) ?_
    refine h.2 Z env σ H O _ x.1 x.2 r hx fun vs H1 r1 e1 d1 => ?_
    exact ⟨by rw [dpa_len d1]; exact z, fun p hp => k _ _ (r1.mono (Ext.new hp)) (e1.trans ((Ext.new hp).hid O)) (dp_newL r1.lv hp d1)⟩
  · rw [if_neg z] at q
    cases q⟩
def e2Tup (g : A2) : E2 := fun env => g env >>= fun xs => if xs.1.length ≤ sizeLine then .ok (.tuple xs.1, xs.2) else .no
theorem ce2_tup {x1} (h : CA2 X es ga) : CE2 X (.Tuple es x1 pos) (e2Tup ga) := ⟨(fun env d env' q => by
  obtain ⟨x, hx, q⟩ := bind_okE q
  by_cases z : x.1.length ≤ sizeLine
  · rw [if_pos z] at q
    cases q
    exact h.1 env x.1 x.2 hx
  · rw [if_neg z] at q
    cases q), fun Z env σ H O Q d env' r q k => by
  obtain ⟨x, hx, q⟩ := bind_okE q
  by_cases z : x.1.length ≤ sizeLine
  · rw [if_pos z] at q
    cases q
    refine wp_e (pe_tup pa_wp) ?_
    refine h.2 Z env σ H O _ x.1 x.2 r hx fun vs H1 r1 e1 d1 => ?_
    exact ⟨by rw [dpa_len d1]; exact z, fun p hp => k _ _ (r1.mono (Ext.new hp)) (e1.trans ((Ext.new hp).hid O)) (dp_newT r1.lv hp d1)⟩
  · rw [if_neg z] at q
    cases q⟩
end
section
variable {X : Cx} {W : WX} {Z : Zn} {env : Env} {σ : Sg} {H : Hp} {O : List Addr} {k n : Nat} {f : Addr} {fd : FuncData} {ps : List Str} {x : Str} {p pos : Pos} {e : Expr} {es : List Expr} {ga : A2}
variable [Tbs]
def e2Call (n : Nat) (F : List PyData → RO PyData) (g : A2) : E2 := fun env => g env >>= fun x => callD n F x.1 >>= fun d => .ok (d, x.2)
theorem ce2_call {F : List PyData → RO PyData} (G : FnOk X.prog X.w X.K X.mg X.base (L2.CX X.prog X.w) k f fd ps (spD X.K X.mg n F)) (hr : Room k X.A) (tk : Takes X W) (hg : Gl X x) (hm : X.mg x = some (.ref f)) (hk : PySem.W.keepIn X.K (.ref f) = true) (hb : Binds X.K fd ps [])
    (ha : CA2 X (e :: es) ga) (hdb : (x == ("__debug__" : Str)) = false := by decide) (he : starEach (e :: es) X.env = (false, eval e X.env) :: starEach es X.env := by rfl) (hpl : (backTo pos (starEach es X.env)).any (·.1) = false := by rfl) :
    CE2 X (.Call (.Name x p) (e :: es) [] pos) (e2Call n F ga) := ⟨(fun env d env' q => by
  obtain ⟨y, hy, q⟩ := bind_okE q
  obtain ⟨z, hz, q⟩ := bind_okE q
  cases q
  exact ha.1 env y.1 y.2 hy), fun Z env σ H O Q d env' r q kk => by
  obtain ⟨y, hy, q⟩ := bind_okE q
  obtain ⟨z, hz, q⟩ := bind_okE q
  cases q
  refine wp_e (pe_callS G hr hg hm hk hb (fun σ => passAt tk σ) pa_wp hdb he hpl) ?_
  refine ha.2 Z env σ H O _ y.1 y.2 r hy fun vs H1 r1 e1 d1 => ?_
  unfold callD at hz
  by_cases hl : y.1.length = n
  · rw [if_pos hl] at hz
    refine ⟨by rw [dpa_len d1]; exact hl, r1.tb, y.1, O, r1.lv, d1, ?_⟩
    rw [hz]
    exact fun v H' e' hv => kk v H' (r1.mono e') (e1.trans (e'.hid O)) hv
  · rw [if_neg hl] at hz
    cases hz⟩
def callI (n : Nat) (F : List PyData → List PyData → RO (PyData × List PyData)) (l ds : List PyData) : RO (PyData × List PyData) := if ds.length + 1 = n then F l ds else .no
def e2CallI (n i : Nat) (F : List PyData → List PyData → RO (PyData × List PyData)) (g : A2) : E2 := fun env => gvo env i >>= fun _ => g env >>= fun x => gvo x.2 i >>= fun l => callI n F l x.1 >>= fun r => .ok (r.1, x.2.set i (some (.own r.2)))
theorem hid_perm {O : List Addr} {H : Hp} {p : Addr} (h : p ∈ O) : hid (p :: O.filter (fun b => decide (b ≠ p))) H = hid O H := by
  funext a
  unfold hid
  have key : a ∈ p :: O.filter (fun b => decide (b ≠ p)) ↔ a ∈ O := by
    constructor
    · intro ha
      rcases List.mem_cons.mp ha with rfl | ha
      · exact h
      · exact (List.mem_filter.mp ha).1
    · intro ha
      by_cases z : a = p
      · rw [z]
        exact List.mem_cons_self
      · exact List.mem_cons_of_mem _ (List.mem_filter.mpr ⟨ha, by simpa using z⟩)
  by_cases ha : a ∈ O
  · rw [if_pos ha, if_pos (key.mpr ha)]
  · rw [if_neg ha, if_neg (fun z => ha (key.mp z))]
theorem ce2_callI {F : List PyData → List PyData → RO (PyData × List PyData)} {i : Nat} {y : Str} {py : Pos} (G : FnOk X.prog X.w X.K X.mg X.base (L2.CX X.prog X.w) k f fd ps (spI X.K n F)) (hr : Room k X.A) (tk : Takes X W) (hg : Gl X x) (hm : X.mg x = some (.ref f)) (hk : PySem.W.keepIn X.K (.ref f) = true) (hb : Binds X.K fd ps [])
    (ha : CA2 X es ga) (hN : X.N[i]? = some y) (hv : Vis X.env.scope y) (hd : (y == ("__debug__" : Str)) = false) (hcd : (y == ("__classdict__" : Str)) = false) (hdb : (x == ("__debug__" : Str)) = false := by decide)
    (he : starEach (.Name y py :: es) X.env = (false, eval (.Name y py) X.env) :: starEach es X.env := by rfl) (hpl : (backTo pos (starEach es X.env)).any (·.1) = false := by rfl) :
    CE2 X (.Call (.Name x p) (.Name y py :: es) [] pos) (e2CallI n i F ga) := ⟨(fun env d env' q => by
  obtain ⟨l0, hl0, q⟩ := bind_okE q
  obtain ⟨a, hy, q⟩ := bind_okE q
  obtain ⟨l, hl, q⟩ := bind_okE q
  obtain ⟨z, hz, q⟩ := bind_okE q
  cases q
  refine (ha.1 env a.1 a.2 hy).trans fun j ds e => ?_
  rcases set_some e with ⟨rfl, _, _⟩ | ⟨_, e⟩
  · exact ⟨l, gvo_ok hl⟩
  · exact ⟨ds, e⟩), fun Z env σ H O Q d env' r q kk => by
  obtain ⟨l0, hl0, q⟩ := bind_okE q
  obtain ⟨a, hy, q⟩ := bind_okE q
  obtain ⟨l, hl, q⟩ := bind_okE q
  obtain ⟨z, hz, q⟩ := bind_okE q
  cases q
  refine wp_e (pe_callS G hr hg hm hk hb (fun σ => passAt tk σ) (pa_cons pe_wp pa_wp he) hdb he hpl) ?_
  refine own_read r (gvo_ok hl0) hN hv hd hcd fun p0 vs0 s1 s2 s3 s4 s5 => ?_
  refine ha.2 Z env σ H O _ a.1 a.2 r hy fun vs H1 r1 e1 d1 => ?_
  obtain ⟨v, h1, p1, ws, rfl, hp1, hc1, hH1, hD1⟩ := r1.sl i _ (gvo_ok hl)
  rw [s1] at h1
  have ep : p0 = p1 := by injection h1 with h1; injection h1 with h1; injection h1
  subst ep
  unfold callI at hz
  by_cases hll : a.1.length + 1 = n
  · rw [if_pos hll] at hz
    have hq := hid_perm (H := H1) hp1
    have np : p0 ∉ O.filter (fun b => decide (b ≠ p0)) := fun z => by
      have := (List.mem_filter.mp z).2
      simp at this
    refine ⟨by rw [List.length_cons, dpa_len d1]; exact hll, r1.tb, p0, vs, ws, l, a.1, O.filter (fun b => decide (b ≠ p0)), rfl, np, fun b hb => ?_, hH1, by rw [hq]; exact hD1, by rw [hq]; exact d1, ?_⟩
    · rcases List.mem_cons.mp hb with rfl | hb
      · exact ⟨ws, hH1⟩
      · exact r1.lv b (List.mem_filter.mp hb).1
    · rw [hz]
      intro v H' ls' ex kp hp' hD' hv' tb'
      have hq' := hid_perm (H := H') hp1
      rw [hq, hq'] at ex
      rw [hq'] at hD' hv'
      have r2 := r1.back (gvo_ok hl) s1 ex (fun b hb hn => kp b (List.mem_filter.mpr ⟨hb, by simpa using hn⟩)) hp' hD' tb'
      exact kk v H' r2 (e1.trans ex) hv'
  · rw [if_neg hll] at hz
    cases hz⟩
def callN (n : Nat) (F : List PyData → RO (List PyData)) (ds : List PyData) : RO (List PyData) := if ds.length = n then (match F ds with | .ok l => .ok l | _ => .no) else .no
theorem cl_callN {F : List PyData → RO (List PyData)} {gp : Env → RO (List PyData)} (G : FnOk X.prog X.w X.K X.mg X.base (L2.CX X.prog X.w) k f fd ps (spN X.K n F)) (hr : Room k X.A) (tk : Takes X W) (hg : Gl X x) (hm : X.mg x = some (.ref f)) (hk : PySem.W.keepIn X.K (.ref f) = true) (hb : Binds X.K fd ps [])
    (ha : CA X W (e :: es) gp) (hdb : (x == ("__debug__" : Str)) = false := by decide) (he : starEach (e :: es) X.env = (false, eval e X.env) :: starEach es X.env := by rfl) (hpl : (backTo pos (starEach es X.env)).any (·.1) = false := by rfl) :
    CL X W (.Call (.Name x p) (e :: es) [] pos) (fun env => gp env >>= callN n F) := fun Z env σ H O Q r q => by
  refine wp_e (pe_callS G hr hg hm hk hb (fun σ => passAt tk σ) pa_wp hdb he hpl) ?_
  refine ha.go r q fun d vs H1 e1 d1 r1 q1 => ?_
  unfold callN at q1
  by_cases hl : d.length = n
  · rw [if_pos hl] at q1
    refine ⟨by rw [dpa_len d1]; exact hl, r1.tb, d, O, r1.lv, d1, ?_⟩
    cases hF : F d with
    | ok l =>
      rw [hF] at q1
      exact fun q us H2 e2 hq hd => q1 H2 e2 q us hq hd
    | er c fl => rw [hF] at q1; exact q1.elim
    | no => rw [hF] at q1; exact q1.elim
  · rw [if_neg hl] at q1
    exact q1.elim
end
/-! ### stores and tests -/
section
variable {X : Cx} {W : WX} {e c : Expr} {f2 : E2} {t2 : T2} {g h : S} {pos : Pos}
variable [Tbs]
def sSet2 (i : Nat) (f : E2) : S := fun env => match f env with
  | .ok (d, env1) => .nx (env1.set i (some (.fz d)))
  | _ => .no
def sIf2 (t : T2) (g h : S) : S := fun env => match t env with
  | .ok (b, env1) => if b = true then g env1 else h env1
  | _ => .no
theorem cs_set2 {i : Nat} {x : Str} {pos' : Pos} (hN : X.N.Nodup) (hi : X.N[i]? = some x) (hx : Loc X.env.scope x) (he : CE2 X e f2) (hs : swapsWith e (some (.Name x pos')) pos.line X.env = pure false := by rfl) (hf : X.fn x = true ∨ X.env.scope.names.lookup x = some .local := by first | exact .inl rfl | exact .inr rfl | assumption) :
    CS X W (.Assign [.Name x pos'] e pos) (sSet2 i f2) := fun Z env σ H O D r q => by
  refine wp_s (ps_set hN hi hx pe_wp hs hf) ?_
  unfold sSet2 at q
  cases hf2 : f2 env with
  | ok y =>
    rw [hf2] at q
    exact he.2 Z env σ H O _ y.1 y.2 r hf2 fun v H1 r1 e1 d1 => q _ _ _ (r1.setFz i d1)
  | er c fl => rw [hf2] at q; exact q.elim
  | no => rw [hf2] at q; exact q.elim
theorem cs_if2 {s1 s2 : List Stmt} (hc : CT2 X c t2) (h1 : CSs X W s1 g) (h2 : CSs X W s2 h) : CS X W (.If c s1 s2 pos) (sIf2 t2 g h) := fun Z env σ H O D r q => by
  refine wp_s (ps_if pt_wp pss_wp pss_wp) ?_
  unfold sIf2 at q
  cases ht : t2 env with
  | ok y =>
    rw [ht] at q
    refine hc.2 Z env σ H O _ y.1 y.2 r ht fun H1 r1 e1 => ?_
    obtain ⟨b, env1⟩ := y
    cases b with
    | true => exact h1 Z env1 σ H1 O D r1 q
    | false => exact h2 Z env1 σ H1 O D r1 q
  | er c fl => rw [ht] at q; exact q.elim
  | no => rw [ht] at q; exact q.elim
end
end PD
set_option Elab.async false
set_option linter.all false
set_option maxRecDepth 100000
set_option maxHeartbeats 4000000
namespace PD
open PySem PySem.Spec PyProof.Rows L2
/-! ### defs by name -/
def DfnI [Tbs] (P : Program) (w : World) (K : PySem.W.Frag) (mg : Str → Option Value) (base : Heap) (x : Str) (k n : Nat) (F : List PyData → List PyData → RO (PyData × List PyData)) : Prop :=
  ∃ (f : Addr) (fd : FuncData) (ps : List Str), FnOk P w K mg base (L2.CX P w) k f fd ps (spI K n F) ∧ mg x = some (.ref f) ∧ PySem.W.keepIn K (.ref f) = true ∧ Binds K fd ps []
def DfnN [Tbs] (P : Program) (w : World) (K : PySem.W.Frag) (mg : Str → Option Value) (base : Heap) (x : Str) (k n : Nat) (F : List PyData → RO (List PyData)) : Prop :=
  ∃ (f : Addr) (fd : FuncData) (ps : List Str), FnOk P w K mg base (L2.CX P w) k f fd ps (spN K n F) ∧ mg x = some (.ref f) ∧ PySem.W.keepIn K (.ref f) = true ∧ Binds K fd ps []
section
variable [Tbs] {X : Cx} {W : WX} {k kk n : Nat} {x : Str} {p pos : Pos} {e : Expr} {es : List Expr} {ga : A2} {f : E}
theorem c2_pure (tk : Takes X W) (h : CE X W e f) : CE2 X e (e2P f) := ce2_pure h
theorem c2_call {F : List PyData → RO PyData} (G : Dfn X.prog X.w X.K X.mg X.base x k n F) (hr : Room kk X.A) (hk : k ≤ kk) (tk : Takes X W) (hg : Gl X x) (ha : CA2 X (e :: es) ga) (hdb : (x == ("__debug__" : Str)) = false := by decide) (he : starEach (e :: es) X.env = (false, eval e X.env) :: starEach es X.env := by rfl) (hpl : (backTo pos (starEach es X.env)).any (·.1) = false := by rfl) :
    CE2 X (.Call (.Name x p) (e :: es) [] pos) (e2Call n F ga) := by
  obtain ⟨f, fd, ps, G, hm, hkp, hb⟩ := G
  exact ce2_call G (hr.mono hk) tk hg hm hkp hb ha hdb he hpl
theorem c2_callI {F : List PyData → List PyData → RO (PyData × List PyData)} {i : Nat} {y : Str} {py : Pos} (G : DfnI X.prog X.w X.K X.mg X.base x k n F) (hr : Room kk X.A) (hk : k ≤ kk) (tk : Takes X W) (hg : Gl X x) (ha : CA2 X es ga) (hN : X.N[i]? = some y) (hv : Vis X.env.scope y) (hd : (y == ("__debug__" : Str)) = false) (hcd : (y == ("__classdict__" : Str)) = false) (hdb : (x == ("__debug__" : Str)) = false := by decide) (he : starEach (.Name y py :: es) X.env = (false, eval (.Name y py) X.env) :: starEach es X.env := by rfl) (hpl : (backTo pos (starEach es X.env)).any (·.1) = false := by rfl) :
    CE2 X (.Call (.Name x p) (.Name y py :: es) [] pos) (e2CallI n i F ga) := by
  obtain ⟨f, fd, ps, G, hm, hkp, hb⟩ := G
  exact ce2_callI G (hr.mono hk) tk hg hm hkp hb ha hN hv hd hcd hdb he hpl
def lCallN (n : Nat) (F : List PyData → RO (List PyData)) (ga : A) : A := fun env => ga env >>= callN n F
theorem c_callN {F : List PyData → RO (List PyData)} {gp : A} (G : DfnN X.prog X.w X.K X.mg X.base x k n F) (hr : Room kk X.A) (hk : k ≤ kk) (tk : Takes X W) (hg : Gl X x) (ha : CA X W (e :: es) gp) (hdb : (x == ("__debug__" : Str)) = false := by decide) (he : starEach (e :: es) X.env = (false, eval e X.env) :: starEach es X.env := by rfl) (hpl : (backTo pos (starEach es X.env)).any (·.1) = false := by rfl) :
    CL X W (.Call (.Name x p) (e :: es) [] pos) (lCallN n F gp) := by
  obtain ⟨f, fd, ps, G, hm, hkp, hb⟩ := G
  exact cl_callN G (hr.mono hk) tk hg hm hkp hb ha hdb he hpl
theorem dfnI_of {P : Program} {w : World} {K : PySem.W.Frag} {mg : Str → Option Value} {base : Heap} {qual : Str} {st : Stmt} {f : Addr} {fd : FuncData} {N ps : List Str} {B : S2} (Fn : Fun K x qual st f fd) (Sc : FnScope N ps (defScope st)) (hb : Binds K fd ps []) (hm : mg x = some (.ref f))
    (h : ∀ (cdv : Value) (A : Around) (outer : List PySem.Env) (s : Shared) (H : Hp) (E : XK), Room k (A.deeper (envOfC qual (defScope st) s.heap.objs.size f cdv)) →
      CSs2 (cxOf (L2.CX P w) P w K mg base N qual (defScope st) f cdv A outer s H E) (some 0) (defBody st) B) : DfnI P w K mg base x (k + 1) ps.length (runI N.length B) :=
  ⟨f, fd, ps, okI Fn Sc B h, hm, Fn.kp, hb⟩
theorem dfnN_of {P : Program} {w : World} {K : PySem.W.Frag} {mg : Str → Option Value} {base : Heap} {qual : Str} {st : Stmt} {f : Addr} {fd : FuncData} {N ps : List Str} {B : S2} (Fn : Fun K x qual st f fd) (Sc : FnScope N ps (defScope st)) (hb : Binds K fd ps []) (hm : mg x = some (.ref f))
    (h : ∀ (cdv : Value) (A : Around) (outer : List PySem.Env) (s : Shared) (H : Hp) (E : XK), Room k (A.deeper (envOfC qual (defScope st) s.heap.objs.size f cdv)) →
      CSs2 (cxOf (L2.CX P w) P w K mg base N qual (defScope st) f cdv A outer s H E) none (defBody st) B) : DfnN P w K mg base x (k + 1) ps.length (runN N.length B) :=
  ⟨f, fd, ps, okN Fn Sc B h, hm, Fn.kp, hb⟩
/-- a test with nothing of the kind -/
def t2P (t : T) : T2 := fun env => t env >>= fun b => .ok (b, env)
theorem ct2_pure {t : T} (tk : Takes X W) (h : CT X W e t) : CT2 X e (t2P t) := ⟨(fun env d env' q => by
  obtain ⟨x, hx, q⟩ := bind_okE q
  cases q
  exact OwnLe.refl), fun Z env σ H O Q d env' r q k => by
  obtain ⟨y, hy, q⟩ := bind_okE q
  cases q
  exact h.ok2 r hy fun H1 e1 r1 => k H1 r1 (e1.hid O)⟩
end
end PD
set_option Elab.async false
set_option linter.all false
set_option maxRecDepth 100000
set_option maxHeartbeats 4000000
namespace PD
open PySem PySem.Spec PyProof.Rows L2
/-! ### evaluation of what has effects -/
section
variable {env e1 : PD.Env} {f fk : E} {g h : S2} {t : T} {d : PyData} {i j m n : Nat} {b : Bool} {fa fb : E2} {ga : A2} {ds xs : List PyData}
def seq2 (r : SO2) (h : S2) : SO2 := match r with
  | .nx e => h e
  | r => r
theorem x2_seq : s2Seq g h env = seq2 (g env) h := rfl
theorem x2_seq_nx : seq2 (.nx env) h = h env := rfl
theorem x2_seq_rt : seq2 (.rt d env) h = .rt d env := rfl
theorem x2_seq_rl : seq2 (.rl ds env) h = .rl ds env := rfl
theorem x2_of {α : Type} {a : α} {k : α → SO2} : of2 (.ok a) k = k a := rfl
theorem x2_nx : s2Nx env = .nx env := rfl
theorem x2_set : s2Set j f env = of2 (f env) fun d => .nx (env.set j (some (.fz d))) := rfl
def set2 (env : PD.Env) (j : Nat) (d : PyData) (xs : List PyData) (k : PyData) : SO2 := match k with
  | .int k => (match setD xs k d with
    | some ys => .nx (env.set j (some (.own ys)))
    | none => .no)
  | _ => .no
theorem x2_setI : s2SetI j fk f env = of2 (f env) fun d => of2 (gvo env j) fun xs => of2 (fk env) fun k => set2 env j d xs k := rfl
theorem x2_set20 {a b d : PyData} : set2 env j d [a, b] (.int 0) = .nx (env.set j (some (.own [d, b]))) := rfl
theorem x2_set21 {a b d : PyData} : set2 env j d [a, b] (.int 1) = .nx (env.set j (some (.own [a, d]))) := rfl
theorem x2_if {g h : S2} : s2If t g h env = of2 (t env) fun b => if b = true then g env else h env := rfl
theorem x2_ret : s2Ret f env = of2 (f env) fun d => .rt d env := rfl
theorem x2_retL {fl : A} : s2RetL fl env = of2 (fl env) fun ds => .rl ds env := rfl
def fin2 (r : SO2) : RO (PyData × List PyData) := match r with
  | .rt d env => (match (env[0]? : Option (Option SV)) with
    | some (some (SV.own l)) => .ok (d, l)
    | _ => .no)
  | _ => .no
theorem x2_runI {B : S2} {l : List PyData} : runI m B l ds = fin2 (B (startI m l ds)) := rfl
theorem x2_fin {l : List PyData} {r : PD.Env} : fin2 (.rt d (some (.own l) :: r)) = .ok (d, l) := rfl
theorem x2_start3 {l : List PyData} {a : PyData} : startI 3 l [a] = [some (.own l), some (.fz a), none] := rfl
def finN (r : SO2) : RO (List PyData) := match r with
  | .rl l _ => .ok l
  | _ => .no
theorem x2_runN {B : S2} : runN m B ds = finN (B (startE m ds)) := rfl
theorem x2_finN : finN (.rl ds env) = .ok ds := rfl
theorem x2_start1 {a : PyData} : startE 1 [a] = [some (.fz a)] := rfl
theorem x2_P : e2P f env = (f env >>= fun d => .ok (d, env)) := rfl
theorem x2_N : a2N env = .ok ([], env) := rfl
theorem x2_C : a2C fa ga env = (fa env >>= fun x => ga x.2 >>= fun y => .ok (x.1 :: y.1, y.2)) := rfl
theorem x2_Op {bi : PyData → PyData → Option PyData} : e2Op bi fa fb env = (fa env >>= fun x => fb x.2 >>= fun y => ofO (bi x.1 y.1) >>= fun d => .ok (d, y.2)) := rfl
theorem x2_Cm {bi : PyData → PyData → Option PyData} : t2Cm bi fa fb env = (fa env >>= fun x => fb x.2 >>= fun y => ofO (bi x.1 y.1) >>= tb >>= fun d => .ok (d, y.2)) := rfl
theorem x2_Ix : e2Ix fa fb env = (fa env >>= fun x => fb x.2 >>= fun y => ofO (dIx x.1 y.1) >>= fun d => .ok (d, y.2)) := rfl
theorem x2_Lst : e2Lst ga env = (ga env >>= fun xs => if xs.1.length ≤ sizeLine then .ok (.list xs.1, xs.2) else .no) := rfl
theorem x2_Tup : e2Tup ga env = (ga env >>= fun xs => if xs.1.length ≤ sizeLine then .ok (.tuple xs.1, xs.2) else .no) := rfl
theorem x2_Call {F : List PyData → RO PyData} : e2Call n F ga env = (ga env >>= fun x => callD n F x.1 >>= fun d => .ok (d, x.2)) := rfl
theorem x2_CallI {F : List PyData → List PyData → RO (PyData × List PyData)} : e2CallI n i F ga env = (gvo env i >>= fun _ => ga env >>= fun x => gvo x.2 i >>= fun l => callI n F l x.1 >>= fun r => .ok (r.1, x.2.set i (some (.own r.2)))) := rfl
theorem x2_cI2 {F : List PyData → List PyData → RO (PyData × List PyData)} {l : List PyData} {a : PyData} : callI 2 F l [a] = F l [a] := rfl
def set2S (r : RO (PyData × PD.Env)) (i : Nat) : SO := match r with
  | .ok (d, env1) => .nx (env1.set i (some (.fz d)))
  | _ => .no
theorem x2_set2 : sSet2 i fa env = set2S (fa env) i := rfl
theorem x2_set2S : set2S (.ok (d, env)) i = .nx (env.set i (some (.fz d))) := rfl
def if2S (r : RO (Bool × PD.Env)) (g h : S) : SO := match r with
  | .ok (b, env1) => if b = true then g env1 else h env1
  | _ => .no
theorem x2_if2 {t : T2} {g h : S} : sIf2 t g h env = if2S (t env) g h := rfl
theorem x2_if2S {g h : S} : if2S (.ok (b, env)) g h = if b = true then g env else h env := rfl
theorem x2_callN {F : List PyData → RO (List PyData)} {ga : A} : lCallN n F ga env = (ga env >>= callN n F) := rfl
def okL (r : RO (List PyData)) : RO (List PyData) := match r with
  | .ok l => .ok l
  | _ => .no
theorem x2_cN1 {F : List PyData → RO (List PyData)} {a : PyData} : callN 1 F [a] = okL (F [a]) := rfl
theorem x2_okL : okL (.ok ds) = .ok ds := rfl
end
end PD
set_option Elab.async false
set_option linter.all false
set_option maxRecDepth 100000
set_option maxHeartbeats 4000000
namespace PD
open PySem PySem.Spec PyProof.Rows L2
section
variable {X : Cx} {W : WX} {e a b c : Expr} {es rest : List Expr} {st : Stmt} {sts : List Stmt} {f2 fa fb : E2} {t2 ft fu : T2} {Z : Zn} {env env' : Env} {σ : Sg} {H H' : Hp} {O : List Addr} {D : Ends} {pos p2 : Pos}
variable [Tbs]
/-! ### statements of such defs, with such expressions -/
def s2Set2 (j : Nat) (f : E2) : S2 := fun env => of2 (f env) fun x => .nx (x.2.set j (some (.fz x.1)))
def s2If2 (t : T2) (g h : S2) : S2 := fun env => of2 (t env) fun x => if x.1 = true then g x.2 else h x.2
def s2Ret2 (f : E2) : S2 := fun env => of2 (f env) fun x => .rt x.1 x.2
theorem cs2_set2 {i : Option Nat} {j : Nat} {x : Str} {pos' : Pos} (hN : X.N.Nodup) (hi : X.N[j]? = some x) (hx : Loc X.env.scope x) (he : CE2 X e f2) (hne : i ≠ some j) (hs : swapsWith e (some (.Name x pos')) pos.line X.env = pure false := by rfl) (hf : X.fn x = true ∨ X.env.scope.names.lookup x = some .local := by first | exact .inl rfl | exact .inr rfl | assumption) :
    CS2 X i (.Assign [.Name x pos'] e pos) (s2Set2 j f2) := fun Z env σ H O D p r hp q => by
  refine wp_s (ps_set hN hi hx pe_wp hs hf) ?_
  obtain ⟨y, hy, q⟩ := of2_ok q
  refine he.2 Z env σ H O _ y.1 y.2 r hy fun v H1 r1 e1 d1 => q _ _ _ (r1.setFz j d1) ?_
  cases i with
  | none => trivial
  | some i =>
    have n : j ≠ i := fun z => hne (by rw [z])
    have hp' : σ[i]? = some (some (.ref p)) := hp
    show (σ.set j (some v))[i]? = some (some (.ref p))
    rw [List.getElem?_set_ne n]
    exact hp'
theorem cs2_if2 {i : Option Nat} {g h : S2} {s1 s2 : List Stmt} (hc : CT2 X c t2) (h1 : CSs2 X i s1 g) (h2 : CSs2 X i s2 h) : CS2 X i (.If c s1 s2 pos) (s2If2 t2 g h) := fun Z env σ H O D p r hp q => by
  refine wp_s (ps_if pt_wp pss_wp pss_wp) ?_
  obtain ⟨y, hy, q⟩ := of2_ok q
  refine hc.2 Z env σ H O _ y.1 y.2 r hy fun H1 r1 e1 => ?_
  obtain ⟨b, env1⟩ := y
  cases b with
  | true => exact h1 Z env1 σ H1 O D p r1 hp q
  | false => exact h2 Z env1 σ H1 O D p r1 hp q
theorem cs2_ret2 {i : Option Nat} (he : CE2 X e f2) : CS2 X i (.Return (some e) pos) (s2Ret2 f2) := fun Z env σ H O D p r hp q => by
  refine wp_s (ps_ret pe_wp) ?_
  obtain ⟨y, hy, q⟩ := of2_ok q
  exact he.2 Z env σ H O _ y.1 y.2 r hy fun v H1 r1 e1 d1 => q v σ H1 O r1 hp d1
/-! ### tests -/
def CW2 (X : Cx) (e : Expr) (f : T2) : Prop := (∀ env d env', f env = .ok (d, env') → OwnLe env env') ∧ ∀ Z env σ H O Q b env', Rep X.K Z env σ H O → f env = .ok (b, env') → (∀ H', Rep X.K Z env' σ H' O → Ext (hid O H) (hid O H') → Q b H') → wpW X e σ H Q
theorem CW2.ct (h : CW2 X e ft) : CT2 X e ft := ⟨h.1, fun Z env σ H O Q b env' r q k => wp_t pw_wp.pt (h.2 Z env σ H O Q b env' r q k)⟩
def t2Nt (t : T2) : T2 := fun env => t env >>= fun x => .ok (!x.1, x.2)
def t2An (t u : T2) : T2 := fun env => t env >>= fun x => if x.1 = true then u x.2 else .ok (false, x.2)
def t2Or (t u : T2) : T2 := fun env => t env >>= fun x => if x.1 = true then .ok (true, x.2) else u x.2
theorem ct2_not (h : CT2 X a ft) : CT2 X (.UnaryOp .Not a pos) (t2Nt ft) := ⟨(fun env d env' q => by
  obtain ⟨x, hx, q⟩ := bind_okE q
  cases q
  exact h.1 env x.1 x.2 hx), fun Z env σ H O Q d env' r q k => by
  obtain ⟨x, hx, q⟩ := bind_okE q
  cases q
  refine wp_t (pt_not pt_wp) ?_
  exact h.2 Z env σ H O _ x.1 x.2 r hx fun H1 r1 e1 => k H1 r1 e1⟩
theorem cw2_and1 (h : CT2 X a ft) : CW2 X (.BoolOp .And [a] pos) ft := ⟨h.1, fun Z env σ H O Q b env' r q k => wp_w (pw_and1 pt_wp) (h.2 Z env σ H O Q b env' r q k)⟩
theorem cw2_or1 (h : CT2 X a ft) : CW2 X (.BoolOp .Or [a] pos) ft := ⟨h.1, fun Z env σ H O Q b env' r q k => wp_w (pw_or1 pt_wp) (h.2 Z env σ H O Q b env' r q k)⟩
theorem cw2_and (h : CT2 X a ft) (g : CW2 X (.BoolOp .And (b :: rest) pos) fu) : CW2 X (.BoolOp .And (a :: b :: rest) pos) (t2An ft fu) := ⟨(fun env d env' q => by
  obtain ⟨⟨bb, e1⟩, hx, q⟩ := bind_okE q
  cases bb with
  | true => exact (h.1 env true e1 hx).trans (g.1 e1 d env' q)
  | false => cases q; exact h.1 env false e1 hx), fun Z env σ H O Q d env' r q k => by
  obtain ⟨⟨bb, e1⟩, hx, q⟩ := bind_okE q
  refine wp_w (pw_and pt_wp pw_wp) ?_
  refine h.2 Z env σ H O _ bb e1 r hx fun H1 r1 x1 => ?_
  cases bb with
  | true => exact g.2 Z e1 σ H1 O Q d env' r1 q fun H2 r2 x2 => k H2 r2 (x1.trans x2)
  | false => cases q; exact k H1 r1 x1⟩
theorem cw2_or (h : CT2 X a ft) (g : CW2 X (.BoolOp .Or (b :: rest) pos) fu) : CW2 X (.BoolOp .Or (a :: b :: rest) pos) (t2Or ft fu) := ⟨(fun env d env' q => by
  obtain ⟨⟨bb, e1⟩, hx, q⟩ := bind_okE q
  cases bb with
  | false => exact (h.1 env false e1 hx).trans (g.1 e1 d env' q)
  | true => cases q; exact h.1 env true e1 hx), fun Z env σ H O Q d env' r q k => by
  obtain ⟨⟨bb, e1⟩, hx, q⟩ := bind_okE q
  refine wp_w (pw_or pt_wp pw_wp) ?_
  refine h.2 Z env σ H O _ bb e1 r hx fun H1 r1 x1 => ?_
  cases bb with
  | false => exact g.2 Z e1 σ H1 O Q d env' r1 q fun H2 r2 x2 => k H2 r2 (x1.trans x2)
  | true => cases q; exact k H1 r1 x1⟩
/-! ### tuple(e), append(e), for x in e -/
def e2Tu (f : E2) : E2 := fun env => f env >>= fun x => dSeq x.1 >>= fun xs => .ok (.tuple xs, x.2)
theorem ce2_tuple {p : Pos} (h : CE2 X e fa) (hg : Gl X "tuple") (hm : X.mg "tuple" = none) (he : starEach [e] X.env = (false, eval e X.env) :: starEach [] X.env := by rfl) (hpl : (backTo pos (starEach [] X.env)).any (·.1) = false := by rfl) :
    CE2 X (.Call (.Name "tuple" p) [e] [] pos) (e2Tu fa) := ⟨(fun env d env' q => by
  obtain ⟨x, hx, q⟩ := bind_okE q
  obtain ⟨y, hy, q⟩ := bind_okE q
  cases q
  exact h.1 env x.1 x.2 hx), fun Z env σ H O Q d env' r q k => by
  obtain ⟨x, hx, q⟩ := bind_okE q
  obtain ⟨y, hy, q⟩ := bind_okE q
  cases q
  refine wp_e (pe_callTy call_tuple_of hg hm (by decide +kernel) (pa_cons pe_wp pa_nil he) (by decide) (by decide) he hpl) ?_
  refine h.2 Z env σ H O _ x.1 x.2 r hx fun v H1 r1 e1 d1 => ?_
  obtain ⟨dx, e2⟩ := x
  cases dx with
  | list xs =>
    cases hy
    obtain ⟨p, vs, rfl, p1, p2⟩ := dp_lst d1
    exact ⟨p, vs, rfl, .inl ⟨Ext.unhid.sl p1, fun t ht => k _ _ (r1.mono (Ext.new ht)) (e1.trans ((Ext.new ht).hid O)) (dp_newT r1.lv ht p2)⟩⟩
  | tuple xs =>
    cases hy
    obtain ⟨p, vs, rfl, p1, p2⟩ := dp_tup d1
    exact ⟨p, vs, rfl, .inr ⟨Ext.unhid.st p1, k _ _ r1 e1 d1⟩⟩
  | _ => cases hy⟩
def sApp2 (i : Nat) (f : E2) : S := fun env => match f env with
  | .ok (d, e1) => ofR (gvo env i) env fun _ => ofR (gvo e1 i) e1 fun xs => if xs.length < sizeLine then .nx (e1.set i (some (.own (xs ++ [d])))) else .no
  | _ => .no
theorem cs_app2 {i : Nat} {x : Str} {px apos cpos : Pos} (hN : X.N[i]? = some x) (hv : Vis X.env.scope x) (hd : (x == ("__debug__" : Str)) = false) (hcd : (x == ("__classdict__" : Str)) = false) (he : CE2 X e f2)
    (hbase : attributeBase (.Name x px) "append" X.env (eval (.Name x px) X.env) = eval (.Name x px) X.env := by rfl)
    (hfew : ((backTo cpos (starEach [e] X.env)).all (fun x => !x.1) && (backToKw cpos (keywordEach [] X.env)).all (fun x => x.1.isSome) && decide (([e] : List Expr).length + ([] : List Keyword).length + (if ([] : List Keyword).isEmpty then 0 else 1) < 30)) = true := by rfl)
    (hline : (apos.endLine == cpos.line) = true := by rfl) (hs : starEach [e] X.env = (false, eval e X.env) :: starEach [] X.env := by rfl) (hplain : (backTo cpos (starEach [] X.env)).any (·.1) = false := by rfl)
    (hsw : swapsWith (.Call (.Attribute (.Name x px) "append" apos) [e] [] cpos) none pos.line X.env = pure false := by rfl) :
    CS X W (.Expr (.Call (.Attribute (.Name x px) "append" apos) [e] [] cpos) pos) (sApp2 i f2) := fun Z env σ H O D r q => by
  refine wp_s (ps_expr (pe_bm PySem.F.plainAttrs_list PySem.F.slot_list_append PySem.F.type_list_append mt_append pe_wp (pa_cons pe_wp pa_nil hs) hbase hfew hline hs hplain) hsw) ?_
  unfold sApp2 at q
  cases hf : f2 env with
  | er c fl => rw [hf] at q; exact q.elim
  | no => rw [hf] at q; exact q.elim
  | ok y =>
    obtain ⟨d, e1⟩ := y
    rw [hf] at q
    dsimp only at q
    rcases gvo_cases env i with ⟨ds, hi⟩ | hi
    · rw [hi] at q
      refine own_read r (gvo_ok hi) hN hv hd hcd fun p vs s1 s2 s3 s4 s5 => ⟨.inl ⟨rfl, vs, SqL.of s4⟩, ?_⟩
      refine he.2 Z env σ H O _ d e1 r hf fun v H1 r1 x1 d1 => ?_
      rcases gvo_cases e1 i with ⟨ds1, hi1⟩ | hi1
      · have q1 : SOk X W Z D (ofR (gvo e1 i) e1 fun xs => if xs.length < sizeLine then .nx (e1.set i (some (.own (xs ++ [d])))) else .no) := q
        rw [hi1] at q1
        have q2 : SOk X W Z D (if ds1.length < sizeLine then .nx (e1.set i (some (.own (ds1 ++ [d])))) else .no) := q1
        obtain ⟨u, h1, p1, ws, rfl, hp1, hc1, hH1, hD1⟩ := r1.sl i _ (gvo_ok hi1)
        rw [s1] at h1
        have ep : p = p1 := by injection h1 with h1; injection h1 with h1; injection h1
        subst ep
        by_cases hz : ds1.length < sizeLine
        · rw [if_pos hz] at q2
          exact ⟨p, ws, v, rfl, rfl, hH1, by rw [dpa_len hD1]; exact hz, q2 _ _ _ (r1.mutOwn (gvo_ok hi1) s1 (dpa_app hD1 (.cons d1 .nil)))⟩
        · rw [if_neg hz] at q2
          exact q2.elim
      · have q1 : SOk X W Z D (ofR (gvo e1 i) e1 fun xs => if xs.length < sizeLine then .nx (e1.set i (some (.own (xs ++ [d])))) else .no) := q
        rw [hi1] at q1
        exact q1.elim
    · rw [hi] at q
      exact q.elim
def sFor2 (f : E2) (gg : G) (body : S) : S := fun env => match f env with
  | .ok (d, e1) => ofR (dIter d) e1 fun items => forGo gg body items e1
  | _ => .no
theorem cs_for2 {tg iter : Expr} {is : List Nat} {gg : G} {g : S} (hp : PassesOwn (model X.prog X.w) X.A X.env X.xe) (hc : X.calm = true) (he : CE2 X iter f2) (hg : CG X tg is gg) (hb : CSs X W sts g)
    (hs : ∀ x, foldedSetIterable iter X.env x = pure x := by intro _; rfl) : CS X W (.For tg iter sts [] pos) (sFor2 f2 gg g) := fun Z env σ H O D r q => by
  refine wp_s (ps_for hp hc pi_wp pg_wp pss_wp hs) ?_
  unfold sFor2 at q
  cases hf : f2 env with
  | er c fl => rw [hf] at q; exact q.elim
  | no => rw [hf] at q; exact q.elim
  | ok y =>
    obtain ⟨d, e1⟩ := y
    rw [hf] at q
    refine wp_i (pi_gen pe_wp) ?_
    refine he.2 Z env σ H O _ d e1 r hf fun v H1 r1 x1 d1 => ?_
    cases d with
    | list xs =>
      obtain ⟨p, vs, rfl, h1, h2⟩ := dp_lst d1
      exact it_list (Ext.unhid.sl h1) (for_core hg hb r1 (walk_l h1 h2) q)
    | tuple xs =>
      obtain ⟨p, vs, rfl, h1, h2⟩ := dp_tup d1
      exact it_tup (Ext.unhid.st h1) (for_core hg hb r1 (walk_t h1 h2) q)
    | str x =>
      cases dp_str d1
      exact it_str (for_core hg hb r1 walk_s q)
    | _ => exact q.elim
end
theorem dfnI_no [Tbs] {P : Program} {w : World} {K : PySem.W.Frag} {mg : Str → Option Value} {base : Heap} {x : Str} {k n : Nat} {f : Addr} {fd : FuncData} {ps : List Str} (hl : ps.length = n) (hm : mg x = some (.ref f)) (hk : PySem.W.keepIn K (.ref f) = true) (hb : Binds K fd ps []) :
    DfnI P w K mg base x k n (fun _ _ => .no) :=
  ⟨f, fd, ps, ⟨fun vs H Q E q => by obtain ⟨_, _, _, _, _, _, _, _, _, _, _, _, _, _, q⟩ := q; exact q.elim, fun A outer s H args us vs Q E hr e0 hbs hv q => by obtain ⟨_, _, _, _, _, _, _, _, _, _, _, _, _, _, q⟩ := q; exact q.elim⟩, hm, hk, hb⟩
end PD
set_option Elab.async false
set_option linter.all false
set_option maxRecDepth 100000
set_option maxHeartbeats 4000000
namespace PD
open PySem PySem.Spec PyProof.Rows L2
/-! ### comprehensions whose items change an own list of the frame -/
section
variable {K : PySem.W.Frag} {Z : Zn} {env : Env} {σ : Sg} {H : Hp} {O : List Addr} {D : Addr} {acc : List V}
variable [Tbs]
theorem wipeE_get (env : Env) : ∀ (vs : List Nat) (j : Nat) (s : SV), (wipeE env vs)[j]? = some (some s) → j ∉ vs ∧ env[j]? = some (some s)
  | [], j, s, h => ⟨by simp, h⟩
  | v :: vs, j, s, h => by
    have h' : ((wipeE env vs).set v none)[j]? = some (some s) := h
    rcases set_some h' with ⟨_, _, e⟩ | ⟨n, e⟩
    · cases e
    · obtain ⟨h1, h2⟩ := wipeE_get env vs j s e
      exact ⟨by simp [n, h1], h2⟩
theorem ownLe_wipe (env : Env) (vs : List Nat) : OwnLe env (wipeE env vs) := fun j ds h => ⟨ds, (wipeE_get env vs j _ h).2⟩
theorem ownLe_gN {i : Nat} {d : PyData} {e e1 : Env} (h : gN i d e = .ok e1) : OwnLe e e1 := fun j ds z => by
  cases h
  rcases set_some z with ⟨_, _, y⟩ | ⟨_, y⟩
  · cases y
  · exact ⟨ds, y⟩
theorem Rep.unwipe {ws : List Nat} (r : Rep K Z env (L2.wipe σ ws) H O) (h : ∀ j s, env[j]? = some (some s) → j ∉ ws) : Rep K Z env σ H O := by
  have g : ∀ j, j ∉ ws → (L2.wipe σ ws)[j]? = σ[j]? := fun j hj => by rw [wipe_get, if_neg hj]
  refine ⟨r.ex, r.sub, r.kp, by rw [r.len, wipe_length], fun j s e => ?_, fun i j a di dj e1 e2 s1 s2 => ?_, r.lv, r.tb⟩
  · obtain ⟨v, h1, h2⟩ := r.sl j s e
    rw [g j (h j s e)] at h1
    exact ⟨v, h1, h2⟩
  · exact r.nd i j a di dj e1 e2 (by rw [g i (h i _ e1)]; exact s1) (by rw [g j (h j _ e2)]; exact s2)
/-- no own list of the frame stands at D -/
def NoD (env : Env) (σ : Sg) (D : Addr) : Prop := ∀ (j : Nat) (ds : List PyData), env[j]? = some (some (SV.own ds)) → σ[j]? ≠ some (some (.ref D))
theorem Rep.drop (r : Rep K Z env σ H (D :: O)) (n : NoD env σ D) (hc : D ∉ Z.Oc) : Rep K Z env σ H O := by
  have sub : ∀ a ∈ O, a ∈ D :: O := fun a h => List.mem_cons_of_mem _ h
  have ex1 : Ext (hid (D :: O) H) (hid O H) := Ext.hid_sub sub
  refine ⟨r.ex.trans ex1, fun a h => ?_, r.kp, r.len, fun j s e => ?_, r.nd, fun a h => r.lv a (sub a h), r.tb⟩
  · rcases List.mem_cons.mp (r.sub a h) with z | z
    · exact absurd (z ▸ h) hc
    · exact z
  · obtain ⟨v, h1, h2⟩ := r.sl j s e
    refine ⟨v, h1, ?_⟩
    cases s with
    | fz d => exact ex1.dp h2
    | own ds =>
      obtain ⟨a, vs, p1, p2, p3, p4, p5⟩ := h2
      rcases List.mem_cons.mp p2 with z | z
      · exact absurd (by rw [h1, p1, z]) (n j ds e)
      · exact ⟨a, vs, p1, z, p3, p4, ex1.dpa p5⟩
/-- D is the caller's for a while -/
def zD (Z : Zn) (D : Addr) (acc : List V) : Zn := ⟨fun a => if a = D then some (.lst acc) else Z.H0 a, D :: Z.Oc⟩
theorem zD_hid (hD : D ∉ Z.Oc → Z.H0 D = none) : hid (zD Z D acc).Oc (zD Z D acc).H0 = hid Z.Oc Z.H0 := by
  funext a
  show hid (D :: Z.Oc) (fun a => if a = D then some (.lst acc) else Z.H0 a) a = hid Z.Oc Z.H0 a
  unfold hid
  by_cases z : a = D
  · rw [if_pos (by rw [z]; exact List.mem_cons_self)]
    by_cases h : a ∈ Z.Oc
    · rw [if_pos h]
    · rw [if_neg h, z, hD (by rw [← z]; exact h)]
  · by_cases h : a ∈ Z.Oc
    · rw [if_pos (List.mem_cons_of_mem _ h), if_pos h]
    · rw [if_neg (fun y => (List.mem_cons.mp y).elim z h), if_neg h]
      exact if_neg z
theorem Rep.lend (r : Rep K Z env σ H (D :: O)) (hD : D ∉ Z.Oc → Z.H0 D = none) (hl : H D = some (.lst acc)) (n : NoD env σ D) : Rep K (zD Z D acc) env σ H (D :: O) := by
  refine ⟨by rw [zD_hid hD]; exact r.ex, fun a h => ?_, fun a h => ?_, r.len, fun j s e => ?_, r.nd, r.lv, r.tb⟩
  · rcases List.mem_cons.mp h with z | z
    · rw [z]; exact List.mem_cons_self
    · exact r.sub a z
  · show H a = if a = D then some (.lst acc) else Z.H0 a
    by_cases z : a = D
    · rw [if_pos z, z, hl]
    · rw [if_neg z]
      rcases List.mem_cons.mp h with y | y
      · exact absurd y z
      · exact r.kp a y
  · obtain ⟨v, h1, h2⟩ := r.sl j s e
    refine ⟨v, h1, ?_⟩
    cases s with
    | fz d => exact h2
    | own ds =>
      obtain ⟨a, vs, p1, p2, p3, p4, p5⟩ := h2
      refine ⟨a, vs, p1, p2, fun y => ?_, p4, p5⟩
      rcases List.mem_cons.mp y with y | y
      · exact n j ds e (by rw [h1, p1, y])
      · exact p3 y
theorem Rep.unlend (r : Rep K (zD Z D acc) env σ H (D :: O)) (hD : D ∉ Z.Oc → Z.H0 D = none) (hc : D ∉ Z.Oc) : Rep K Z env σ H (D :: O) ∧ H D = some (.lst acc) := by
  have hl : H D = some (.lst acc) := by
    have := r.kp D List.mem_cons_self
    rw [this]
    exact if_pos rfl
  refine ⟨⟨by have := r.ex; rw [zD_hid hD] at this; exact this, fun a h => r.sub a (List.mem_cons_of_mem _ h), fun a h => ?_, r.len, fun j s e => ?_, r.nd, r.lv, r.tb⟩, hl⟩
  · have h1 : H a = if a = D then some (.lst acc) else Z.H0 a := r.kp a (List.mem_cons_of_mem _ h)
    rw [h1, if_neg (fun z => hc (by rw [← z]; exact h))]
  · obtain ⟨v, h1, h2⟩ := r.sl j s e
    refine ⟨v, h1, ?_⟩
    cases s with
    | fz d => exact h2
    | own ds =>
      obtain ⟨a, vs, p1, p2, p3, p4, p5⟩ := h2
      exact ⟨a, vs, p1, p2, fun y => p3 (List.mem_cons_of_mem _ y), p4, p5⟩
theorem hid_bump {vs : List V} : hid (D :: O) (upd H D (.lst vs)) = hid (D :: O) H := by
  funext a
  unfold hid
  by_cases z : a ∈ D :: O
  · rw [if_pos z, if_pos z]
  · rw [if_neg z, if_neg z, upd_ne (fun y => z (by rw [y]; exact List.mem_cons_self))]
theorem Rep.bump (r : Rep K Z env σ H (D :: O)) (n : NoD env σ D) (hc : D ∉ Z.Oc) (hl : H D = some (.lst acc)) {vs : List V} : Rep K Z env σ (upd H D (.lst vs)) (D :: O) := by
  refine ⟨by rw [hid_bump]; exact r.ex, r.sub, fun a h => ?_, r.len, fun j s e => ?_, r.nd, fun a h => ?_, fun P hP => ?_⟩
  · rw [upd_ne (fun z => hc (by rw [← z]; exact h))]
    exact r.kp a h
  · obtain ⟨v, h1, h2⟩ := r.sl j s e
    refine ⟨v, h1, ?_⟩
    cases s with
    | fz d =>
      show Dp K (hid (D :: O) (upd H D (.lst vs))) v d
      rw [hid_bump]
      exact h2
    | own ds =>
      obtain ⟨a, ws, p1, p2, p3, p4, p5⟩ := h2
      refine ⟨a, ws, p1, p2, p3, ?_, by rw [hid_bump]; exact p5⟩
      rw [upd_ne (fun z => n j ds e (by rw [h1, p1, z]))]
      exact p4
  · by_cases z : a = D
    · exact ⟨vs, by rw [z, upd_same]⟩
    · obtain ⟨ws, q⟩ := r.lv a h
      exact ⟨ws, by rw [upd_ne z]; exact q⟩
  · obtain ⟨ps, q1, q2⟩ := r.tb P hP
    exact ⟨ps, by rw [upd_ne (ne_of q1 hl (fun z => by cases z))]; exact q1, q2⟩
end
def comp2Go (g : G) (f : E2) (ws : List Nat) : Env → List PyData → RO (List PyData × Env)
  | env, [] => .ok ([], env)
  | env, x :: xs => g x (wipeE env ws) >>= fun e1 => f e1 >>= fun y => comp2Go g f ws y.2 xs >>= fun z => .ok (y.1 :: z.1, z.2)
def e2Comp (fs : A) (g : G) (f : E2) (ws : List Nat) : E2 := fun env => fs env >>= fun items => if items.length ≤ sizeLine then comp2Go g f ws env items >>= fun z => .ok (.list z.1, wipeE z.2 ws) else .no
section
variable {X : Cx} {W : WX} {tg iter elt : Expr} {scope : Scope} {own : List (Str × Nat)} {pos : Pos} {fs : A} {g : G} {is : List Nat} {f : E2}
variable [Tbs]
theorem comp2_le (hg : ∀ d e e1, g d e = .ok e1 → OwnLe e e1) (hf : ∀ env d env', f env = .ok (d, env') → OwnLe env env') (ws : List Nat) : ∀ (items : List PyData) (env : Env) (z : List PyData × Env), comp2Go g f ws env items = .ok z → OwnLe env z.2
  | [], env, z, h => by
    cases h
    exact OwnLe.refl
  | x :: xs, env, z, h => by
    obtain ⟨e1, h1, h⟩ := bind_okE h
    obtain ⟨y, h2, h⟩ := bind_okE h
    obtain ⟨w, h3, h⟩ := bind_okE h
    cases h
    exact (((ownLe_wipe env ws).trans (hg x _ e1 h1)).trans (hf e1 y.1 y.2 h2)).trans (comp2_le hg hf ws xs y.2 w h3)
theorem ce2_comp0 (hc : X.calm = true) (hN : X.N.Nodup) (ok : BlkOk X.N X.env.scope scope own) (hi : CI X W tg iter fs)
    (hg : ∀ (s : Shared) (H : Hp) (C : Addr) (cl : List (Str × Addr)) (fp : List Addr), CG (X.blk s H scope (compEnvC scope cl C X.env) fp) tg is g) (his : ∀ j ∈ is, j ∈ own.map (·.2))
    (hgl : ∀ d e e1, g d e = .ok e1 → OwnLe e e1)
    (he : ∀ (s : Shared) (H : Hp) (C : Addr) (cl : List (Str × Addr)) (fp : List Addr), CE2 (X.blk s H scope (compEnvC scope cl C X.env) fp) elt f)
    (hle : ∀ env d env', f env = .ok (d, env') → OwnLe env env') (hs : ∀ x, foldedSetIterable iter X.env x = pure x := by intro _; rfl) :
    CE2 X (.ListComp elt [⟨tg, iter, [], 0⟩] scope pos) (e2Comp fs g f (own.map (·.2))) := ⟨(fun env d env' q => by
  obtain ⟨items, h1, q⟩ := bind_okE q
  by_cases hz : items.length ≤ sizeLine
  · rw [if_pos hz] at q
    obtain ⟨z, h2, q⟩ := bind_okE q
    cases q
    exact (comp2_le hgl hle _ items env z h2).trans (ownLe_wipe _ _)
  · rw [if_neg hz] at q
    cases q), fun Z env σ H O Q d env' r q k => by
  obtain ⟨items, h1, q⟩ := bind_okE q
  rcases Nat.lt_or_ge sizeLine items.length with hz | hz
  · rw [if_neg (by omega)] at q
    cases q
  rw [if_pos hz] at q
  obtain ⟨z, hv, q⟩ := bind_okE q
  cases q
  refine wp_e (pe_comp hc hN ok hs) ?_
  refine hi Z env σ H O _ r ?_
  rw [h1]
  intro H1 e1 J wd D hD
  have r1 := r.mono e1
  have hDO : D ∉ O := r1.notin hD
  have hc : D ∉ Z.Oc := fun y => hDO (r1.sub D y)
  have hZ : D ∉ Z.Oc → Z.H0 D = none := fun _ => by
    cases hh : Z.H0 D with
    | none => rfl
    | some o =>
      have y : hid Z.Oc Z.H0 D = some o := by rw [hid_out hc]; exact hh
      rcases r1.ex D o y with y | ⟨_, _, _, y, _⟩
      · rw [hid_out hDO, hD] at y; cases y
      · rw [hid_out hDO, hD] at y; cases y
  have own0 : ∀ e1 : Env, OwnLe env e1 → NoD e1 σ D := fun e1 hl j ds h y => by
    obtain ⟨ds', h'⟩ := hl j ds h
    obtain ⟨v, g1, a, vs, rfl, g2, _⟩ := r.sl j _ h'
    rw [g1] at y
    have : a = D := by injection y with y; injection y with y; injection y
    exact hDO (by rw [← this]; exact g2)
  let ws := own.map (·.2)
  have noW : ∀ {e1 : Env} {σ2 : Sg}, OwnLe env e1 → (∀ j, j ∉ ws → σ2[j]? = (L2.wipe σ ws)[j]?) → (∀ (j : Nat) (ds : List PyData), e1[j]? = some (some (SV.own ds)) → j ∉ ws) → NoD e1 σ2 D := fun {e1 σ2} hl hs2 hw j ds h y => by
    have hj := hw j ds h
    rw [hs2 j hj, wipe_get, if_neg hj] at y
    exact own0 e1 hl j ds h y
  let Wv : Nat → Nat → Hp → Prop := fun i m H2 => m = items.length - i ∧ i ≤ items.length ∧ ∃ acc ad env1 ys, H2 D = some (.lst acc) ∧ Rep X.K Z (wipeE env1 ws) (L2.wipe σ ws) H2 (D :: O) ∧ OwnLe env env1 ∧ Ext (hid O H1) (hid (D :: O) H2) ∧ DpAll X.K (hid (D :: O) H2) acc ad ∧ comp2Go g f ws env1 (items.drop i) = .ok (ys, z.2) ∧ z.1 = ad ++ ys ∧ ad.length ≤ i
  refine ⟨Wv, ⟨items.length, by simp, Nat.zero_le _, [], [], env, z.1, upd_same, ?_, OwnLe.refl, ?_, .nil, hv, rfl, Nat.le_refl _⟩, ?_⟩
  · refine (r1.grow (D := D) (acc := []) ?_ upd_same).wipe ws
    refine fun a o ha => .inl ?_
    rw [hid_out (by simpa using ne_of_none ha hD), upd_ne (ne_of_none ha hD)]
    exact ha
  · rw [hid_bump]
    refine fun a o ha => .inl ?_
    obtain ⟨h2, h3⟩ := hid_some ha
    rw [hid_out (fun y => (List.mem_cons.mp y).elim (fun y => by rw [y, hD] at h3; cases h3) h2)]
    exact h3
  rintro i m H2 ⟨rfl, hi', acc, ad, env1, ys, hl, rg, le1, eO, da, hcv, hzs, hai⟩
  have now : ∀ (j : Nat) (ds : List PyData), (wipeE env1 ws)[j]? = some (some (SV.own ds)) → j ∉ ws := fun j ds h => (wipeE_get env1 ws j _ h).1
  by_cases hlt : i < items.length
  · have hx : items[i]? = some items[i] := List.getElem?_eq_getElem hlt
    obtain ⟨hgo, hyld⟩ := wd.go i _ (D :: O) H2 hx eO rg.lv
    rw [List.drop_eq_getElem_cons hlt] at hcv
    obtain ⟨e2, hg1, hcv⟩ := bind_okE hcv
    obtain ⟨y, hf1, hcv⟩ := bind_okE hcv
    obtain ⟨w, hw1, hcv⟩ := bind_okE hcv
    have hwz : y.1 :: w.1 = ys ∧ w.2 = z.2 := by
      injection hcv with hcv
      injection hcv with h1 h2
      exact ⟨h1, h2⟩
    refine .inr ⟨hgo, fun H' => Wv (i + 1) (items.length - (i + 1)) H', fun H' h' => ⟨_, by omega, h'⟩, fun x H3 hy s H0 C cl fp => ?_⟩
    obtain ⟨e3, d3⟩ := hyld x H3 hy
    refine hg s H0 C cl fp Z _ _ H3 (D :: O) x _ _ (rg.mono e3) d3 ?_
    rw [hg1]
    refine fun σ2 r2 l2 k2 => ⟨wipe_back l2 fun j hj => k2 j fun z => hj (his j z), fun s H0 C cl fp => ?_⟩
    have hw2 : L2.wipe σ2 ws = L2.wipe σ ws := wipe_back l2 fun j hj => k2 j fun z => hj (his j z)
    refine cts_nil (W := WN) Z e2 σ2 H3 (D :: O) _ r2 (ROk.unquiet rfl fun H4 e4 => ?_)
    rw [if_pos rfl]
    intro s H0 C cl fp
    have l4 : H4 D = some (.lst acc) := (e3.trans e4).lst hl
    have le2 : OwnLe env e2 := (le1.trans (ownLe_wipe env1 ws)).trans (hgl _ _ _ hg1)
    have off : ∀ {e5 : Env}, OwnLe e2 e5 → NoD e5 σ2 D := fun {e5} hl5 j ds h5 y5 => by
      obtain ⟨ds2, h2⟩ := hl5 j ds h5
      obtain ⟨ds3, h3⟩ := hgl _ _ _ hg1 j ds2 h2
      have hj := now j ds3 h3
      rw [k2 j (fun z => hj (his j z)), wipe_get, if_neg hj] at y5
      obtain ⟨ds4, h4⟩ := ownLe_wipe env1 ws j ds3 h3
      exact own0 env1 le1 j ds4 h4 y5
    have r4 := (r2.mono e4).lend hZ l4 (off OwnLe.refl)
    refine (he s H0 C cl fp).2 (zD Z D acc) e2 σ2 H4 (D :: O) _ y.1 y.2 r4 hf1 fun v H5 r5 x5 d5 => ?_
    obtain ⟨r6, l5⟩ := r5.unlend hZ hc
    have ha := dpa_len da
    have le3 := hle e2 y.1 y.2 hf1
    have x45 : Ext (hid (D :: O) H2) (hid (D :: O) H5) := ((e3.trans e4).hid (D :: O)).trans x5
    refine ⟨acc, l5, by omega, rfl, hlt, acc ++ [v], ad ++ [y.1], y.2, w.1, upd_same, ?_, le2.trans le3, ?_, ?_, by rw [hw1, ← hwz.2], by rw [hzs, ← hwz.1]; simp, by rw [List.length_append, List.length_singleton]; omega⟩
    · have r7 := (r6.bump (off le3) hc l5 (vs := acc ++ [v])).wipe ws
      rw [hw2] at r7
      exact r7
    · rw [hid_bump]
      exact eO.trans x45
    · rw [hid_bump]
      exact dpa_app (x45.dpa da) (.cons d5 .nil)
  · have e0 : i = items.length := by omega
    subst e0
    rw [List.drop_length] at hcv
    have hys : ys = [] ∧ env1 = z.2 := by
      cases hcv
      exact ⟨rfl, rfl⟩
    refine .inl ⟨wd.stop _ (D :: O) H2 rfl eO, ?_⟩
    have rr := (rg.unwipe fun j s h => (wipeE_get env1 ws j s h).1).drop (own0 _ (le1.trans (ownLe_wipe env1 ws))) hc
    rw [hys.2] at rr
    have ex : Ext (hid O H) (hid O H2) := (e1.hid O).trans (eO.trans (Ext.hid_sub fun a h => List.mem_cons_of_mem _ h))
    refine k (.ref D) H2 rr ex ?_
    rw [hzs, hys.1, List.append_nil]
    refine .lst (SqL.of ?_) ((Ext.hid_sub fun a h => List.mem_cons_of_mem _ h).dpa da)
    rw [hid_out hDO]
    exact hl⟩
theorem ce2_comp (tk : Takes X W) (hc : X.calm = true) (hN : X.N.Nodup) (ok : BlkOk X.N X.env.scope scope own) (hi : CI X W tg iter fs)
    (hg : ∀ (s : Shared) (H : Hp) (C : Addr) (cl : List (Str × Addr)) (fp : List Addr), CG (X.blk s H scope (compEnvC scope cl C X.env) fp) tg is g) (his : ∀ j ∈ is, j ∈ own.map (·.2))
    (hgl : ∀ d e e1, g d e = .ok e1 → OwnLe e e1)
    (he : ∀ (s : Shared) (H : Hp) (C : Addr) (cl : List (Str × Addr)) (fp : List Addr), CE2 (X.blk s H scope (compEnvC scope cl C X.env) fp) elt f) (hs : ∀ x, foldedSetIterable iter X.env x = pure x := by intro _; rfl) :
    CE2 X (.ListComp elt [⟨tg, iter, [], 0⟩] scope pos) (e2Comp fs g f (own.map (·.2))) := ce2_comp0 hc hN ok hi hg his hgl he (he ({} : Shared) (fun _ => none) 0 [] []).1 hs
end
end PD
set_option Elab.async false
set_option linter.all false
set_option maxRecDepth 100000
set_option maxHeartbeats 4000000
namespace PD
open PySem PySem.Spec PyProof.Rows L2 HT
section
variable {prog : Program} {w : World} {A : Around} {E : Value → Shared → Prop} {s : Shared}
theorem sliceApplied_rev {sl : Addr} {vk : Value} {n : Nat} {Q : Int × Int × Nat → Shared → Prop} (hs : s.heap.IsSliceOf sl .none .none vk) (pk : IsPart vk (some (-1)))
    (h : Q ((n : Int) - 1, -1, n) s) : wpAny (model prog w) A (Builtin.Slice.sliceApplied (.ref sl) (pure (n : Int))) Q E s := by
  obtain ⟨os, hos, hcs, hds⟩ := id hs
  unfold Builtin.Slice.sliceApplied Builtin.Slice.sliceFields
  refine wpAny_bind (wpAny_bind (wpAny_field hos hds (x := .none) rfl (wpAny_bind (wpAny_field hos hds (x := .none) rfl (wpAny_bind (wpAny_field hos hds (x := vk) rfl (wpAny_pure ?_)))))))
  refine wpAny_bind (HT.slicePart_ pk ?_)
  show wpAny _ _ (if ((-1 : Int) == 0) = true then _ else _) _ _ s
  rw [if_neg (by decide)]
  refine wpAny_bind (slicePart_none (wpAny_bind (slicePart_none (wpAny_bind (wpAny_pure ?_)))))
  have ea : Builtin.Slice.sliceAdjust none none (-1) (n : Int) = ((n : Int) - 1, -1) := by
    unfold Builtin.Slice.sliceAdjust
    simp
  have ep : Builtin.Slice.slicePlaces ((n : Int) - 1) (-1) (-1) = n := by
    unfold Builtin.Slice.slicePlaces
    simp
    omega
  show wpAny _ _ (match Builtin.Slice.sliceAdjust none none (-1) (n : Int) with | (lo, hi) => pure (lo, (-1 : Int), Builtin.Slice.slicePlaces lo hi (-1))) _ _ s
  rw [ea]
  show wpAny _ _ (pure ((n : Int) - 1, (-1 : Int), Builtin.Slice.slicePlaces ((n : Int) - 1) (-1) (-1))) _ _ s
  rw [ep]
  exact wpAny_pure h
theorem fm_congr {α β : Type} {f g : α → Option β} : ∀ l : List α, (∀ a ∈ l, f a = g a) → l.filterMap f = l.filterMap g
  | [], _ => rfl
  | a :: l, h => by
    rw [List.filterMap_cons, List.filterMap_cons, h a List.mem_cons_self, fm_congr l fun b hb => h b (List.mem_cons_of_mem _ hb)]
theorem pick_rev (xs : Array Value) : ((List.range xs.size).filterMap fun (m : Nat) => xs[(((xs.size : Int) - 1) + (m : Int) * (-1)).toNat]?).toArray = xs.toList.reverse.toArray := by
  have e : ∀ m ∈ List.range xs.size, xs[(((xs.size : Int) - 1) + (m : Int) * (-1)).toNat]? = xs[xs.size - 1 - m]? := fun m hm => by
    have := List.mem_range.mp hm
    have : (((xs.size : Int) - 1) + (m : Int) * (-1)).toNat = xs.size - 1 - m := by omega
    rw [this]
  have e2 : (List.range xs.size).filterMap (fun (m : Nat) => xs[(((xs.size : Int) - 1) + (m : Int) * (-1)).toNat]?) = ((List.range xs.size).map fun k => xs.size - 1 - k).filterMap (xs[·]?) := by
    rw [List.filterMap_map]
    exact fm_congr _ e
  rw [e2, PySem.W.krv_range, List.filterMap_reverse, PySem.W.krv_all]
theorem getItem_tuple_rev {t sl : Addr} {items : Array Value} {vk : Value} {Q : Value → Shared → Prop} (ht : IsTup s.heap t items) (hs : s.heap.IsSliceOf sl .none .none vk) (pk : IsPart vk (some (-1)))
    (h : Q (.ref s.heap.objs.size) { s with heap := s.heap.push { cls := .type "tuple", data := .seq items.toList.reverse.toArray } })
    (hsz : items.size ≤ sizeLine) : wpAny (model prog w) A (getItem (.ref t) (.ref sl)) Q E s := by
  have htake : sizeOk (.seq items.toList.reverse.toArray) := by
    show items.toList.reverse.toArray.size ≤ sizeLine
    rw [List.size_toArray, List.length_reverse, Array.length_toList]
    exact hsz
  obtain ⟨os, hos, hcs, hds⟩ := id hs
  have hTs : s.TypeIs (.ref sl) "slice" := ⟨os, hos, hcs⟩
  unfold getItem
  try with_reducible refine wpAny_holding ?_
  first | refine wpAny_bind (wpAny_pure ?_) | skip
  refine wpAny_bind (wpAny_sequenceKey ht.typeIs (by decide) ?_)
  refine wpAny_bind (wpAny_callSpecial?_slot (name := Str.ofString "__getitem__") ht.typeIs PyProof.Rows.slot_tuple_getitem
    (wpAny_call_entry PyProof.Rows.slot_tuple_getitem ht.typeIs entry_tuple_getitem ?_ (args_tuple_getitem _ _)))
  show wpAny _ _ (Builtin.Tuple.tupleItemsOf (.ref t) >>= _) _ _ s
  refine wpAny_bind (tupleItemsOf_ ht ?_)
  refine wpAny_bind (wpAny_typeOf hTs ?_)
  rw [if_pos (by decide)]
  refine wpAny_bind (sliceApplied_rev hs pk ?_)
  have hno : ¬ (((items.size : Int) - 1 == 0 && (-1 : Int) == 1 && items.size == items.size) = true) := by
    intro q
    rw [Bool.and_eq_true, Bool.and_eq_true] at q
    exact absurd q.1.2 (by decide)
  show wpAny _ _ (if ((items.size : Int) - 1 == 0 && (-1 : Int) == 1 && items.size == items.size) = true then _ else _) _ _ s
  rw [if_neg hno, pick_rev]
  first
    | exact wpAny_bind (m := Builtin.Tuple.tupleExact _) (wpAny_newObj_type (wpAny_pure ⟨_, rfl, wpAny_pure h⟩) htake)
    | exact wpAny_bind (m := Builtin.Tuple.tupleExact _) (wpAny_newObj_type (wpAny_bind (wpAny_pure (wpAny_pure ⟨_, rfl, wpAny_pure h⟩))) htake)
    | exact wpAny_bind (wpAny_bind (m := Builtin.Tuple.tupleExact _) (wpAny_newObj_type (wpAny_pure (wpAny_pure ⟨_, rfl, wpAny_pure h⟩)) htake))
    | exact wpAny_bind (wpAny_bind (m := Builtin.Tuple.tupleExact _) (wpAny_newObj_type (wpAny_pure ⟨_, rfl, wpAny_pure h⟩) htake))
end
section
variable {X : Cx} {W : WX} {e : Expr} {f : E} {es : List Expr} {g : A} {p pos : Pos}
theorem pe_revT {e : Expr} {te : TE} {k : Nat} {p1 p2 p3 pos : Pos} (he : PE X e te) : PE X (.Subscript e (.Slice none none (some (.UnaryOp .USub (.Constant (.int 1) k p1) p2)) p3) pos)
    (fun σ H Q => te σ H fun x H1 => ∃ a xs, x = .ref a ∧ SqT X.K H1 a xs ∧ ∀ p, H1 p = none → Q (.ref p) (upd H1 p (.tup xs.reverse))) := by
  refine ⟨fun pins s σ H Q I h => ?_⟩
  refine Subscript_ (thn (he.run pins s σ H _ I h) fun v s1 ⟨x, H1, I1, r1, q1⟩ => ?_)
  obtain ⟨a, xs, ex, hx, q⟩ := q1
  subst ex
  cases r1
  have hst : PO X (some (.UnaryOp .USub (.Constant (.int 1) k p1) p2)) (tPart (tUn (rU fun i => .int (-i)) (tC (.int 1)))) := po_some (pe_un un_neg pe_int)
  refine wpAny_Slice (thn (po_none.run pins s1 σ H1 (fun o H2 => o = none ∧ H2 = H1) I1 ⟨rfl, rfl⟩) fun vl s2 ⟨l, H2, I2, pl, el, e2⟩ => ?_)
  subst el e2
  refine thn (po_none.run pins s2 σ H2 (fun o H3 => o = none ∧ H3 = H2) I2 ⟨rfl, rfl⟩) fun vu s3 ⟨u, H3, I3, pu, eu, e3⟩ => ?_
  subst eu e3
  refine thn (hst.run pins s3 σ H3 (fun o H4 => o = some (-1) ∧ H4 = H3) I3 ⟨1, rfl, -1, rfl, rfl, rfl⟩) fun vs s4 ⟨o, H4, I4, ps, eo, e4⟩ => ?_
  subst eo e4
  cases pl
  cases pu
  have I5 : Inv X pins σ H4 { s4 with heap := s4.heap.push { cls := .type "slice", data := .fields #[.none, .none, vs] } } := I4.kept (t' := s4.toks) fun b ob q => Heap.get?_push_of_some _ q
  obtain ⟨its, r, ht, hz⟩ := I5.tuple hx
  have hlen := r.length
  show wpAny (model X.prog X.w) X.A (subscriptTail e (.Slice none none (some (.UnaryOp .USub (.Constant (.int 1) k p1) p2)) p3) (.ref a) (.ref s4.heap.objs.size)) (EP X pins σ Q) X.xe { s4 with heap := s4.heap.push { cls := .type "slice", data := .fields #[.none, .none, vs] } }
  refine tail_any (ops := [.ref a, .ref s4.heap.objs.size]) ht.typeIs (PyProof.Rows.slot_tuple_getitem.lookup) ?_ (by with_unfolding_all rfl)
  refine getItem_tuple_rev ht (Heap.IsSliceOf.new _ .none .none vs) ps ?_ (by rw [List.size_toArray]; omega)
  refine ⟨.ref _, _, I5.laid (t' := s4.toks) (o := .tup xs.reverse) (fun b ob q => Heap.get?_push_of_some _ q) (Nat.le_refl _) ?_, rfl, q _ (I5.hok.fresh (Nat.le_refl _))⟩
  exact ⟨by rw [List.length_reverse]; exact hz, _, r.reverse, IsTup.new _ _⟩
variable [Tbs]
def dRev (d : PyData) : RO PyData := match d with
  | .tuple xs => .ok (.tuple xs.reverse)
  | _ => .no
def eRev (f : E) : E := fun env => f env >>= dRev
theorem dpa_rev {K : PySem.W.Frag} {H : Hp} : ∀ {vs : List V} {ds : List PyData}, DpAll K H vs ds → DpAll K H vs.reverse ds.reverse
  | _, _, .nil => .nil
  | _, _, .cons h k => by
    rw [List.reverse_cons, List.reverse_cons]
    exact dpa_app (dpa_rev k) (.cons h .nil)
theorem ce_revT {k : Nat} {p1 p2 p3 : Pos} (h : CE X W e f) : CE X W (.Subscript e (.Slice none none (some (.UnaryOp .USub (.Constant (.int 1) k p1) p2)) p3) pos) (eRev f) := fun Z env σ H O Q r q => by
  refine wp_e (pe_revT pe_wp) ?_
  refine h.go r q fun d v H1 e1 d1 r1 q1 => ?_
  cases d with
  | tuple xs =>
    obtain ⟨a, vs, rfl, p1, p2⟩ := dp_tup d1
    exact ⟨a, vs, rfl, Ext.unhid.st p1, fun t ht => q1 _ (Ext.new ht) _ (dp_newT r1.lv ht (dpa_rev p2))⟩
  | _ => exact q1.elim
/-- str(i) -/
def cStr : List PyData → Option PyData
  | [.int i] => if i.natAbs.log2 < 1920 then some (.str (toString i)) else none
  | _ => none
theorem cal_str : CalB X (.type "str") cStr := fun ds d e => by
  refine ⟨_, call_str_int, fun H vs Q hv k => ?_⟩
  rcases ds with _ | ⟨x, _ | ⟨y, r⟩⟩
  · cases e
  · obtain ⟨v, rfl, hx⟩ := dpa1 hv
    cases x with
    | int i =>
      cases dp_int hx
      by_cases hz : i.natAbs.log2 < 1920
      · have e' : (if i.natAbs.log2 < 1920 then some (PyData.str (toString i)) else none) = some d := e
        rw [if_pos hz] at e'
        injection e' with e'
        subst e'
        exact ⟨i, rfl, hz, k _ fun H' => .str _⟩
      · have e' : (if i.natAbs.log2 < 1920 then some (PyData.str (toString i)) else none) = some d := e
        rw [if_neg hz] at e'
        cases e'
    | _ => cases e
  · cases x <;> cases e
theorem c_str {e : Expr} (hg : Gl X "str") (hm : X.mg "str" = none) (ha : CA X W (e :: es) g) (he : starEach (e :: es) X.env = (false, eval e X.env) :: starEach es X.env := by rfl) (hpl : (backTo pos (starEach es X.env)).any (·.1) = false := by rfl) :
    CE X W (.Call (.Name "str" p) (e :: es) [] pos) (eBf cStr g) := ce_ty cal_str.cal hg hm (by decide +kernel) ha (by decide) (by decide) he hpl
end
end PD
set_option Elab.async false
set_option linter.all false
set_option maxRecDepth 100000
set_option maxHeartbeats 4000000
namespace PD
open PySem PySem.Spec PyProof.Rows L2
section
variable {env e1 : PD.Env} {f : E} {f2 : E2} {t : T} {t2 u2 : T2} {g h : S2} {gg : G} {body : S} {d : PyData} {i j m n : Nat} {b : Bool} {fs : A} {ws : List Nat} {xs items : List PyData}
theorem x3_Set2 : s2Set2 j f2 env = of2 (f2 env) fun x => .nx (x.2.set j (some (.fz x.1))) := rfl
theorem x3_If2 : s2If2 t2 g h env = of2 (t2 env) fun x => if x.1 = true then g x.2 else h x.2 := rfl
theorem x3_Ret2 : s2Ret2 f2 env = of2 (f2 env) fun x => .rt x.1 x.2 := rfl
theorem x3_tP : t2P t env = (t env >>= fun b => .ok (b, env)) := rfl
theorem x3_tNt : t2Nt t2 env = (t2 env >>= fun x => .ok (!x.1, x.2)) := rfl
theorem x3_tAn : t2An t2 u2 env = (t2 env >>= fun x => if x.1 = true then u2 x.2 else .ok (false, x.2)) := rfl
theorem x3_tOr : t2Or t2 u2 env = (t2 env >>= fun x => if x.1 = true then .ok (true, x.2) else u2 x.2) := rfl
theorem x3_Tu : e2Tu f2 env = (f2 env >>= fun x => dSeq x.1 >>= fun xs => .ok (.tuple xs, x.2)) := rfl
theorem x3_Comp : e2Comp fs gg f2 ws env = (fs env >>= fun items => if items.length ≤ sizeLine then comp2Go gg f2 ws env items >>= fun z => .ok (.list z.1, wipeE z.2 ws) else .no) := rfl
def for2S (r : RO (PyData × PD.Env)) (gg : G) (body : S) : SO := match r with
  | .ok (d, e1) => ofR (dIter d) e1 fun items => forGo gg body items e1
  | _ => .no
theorem x3_For2 : sFor2 f2 gg body env = for2S (f2 env) gg body := rfl
theorem x3_For2S : for2S (.ok (d, e1)) gg body = ofR (dIter d) e1 fun items => forGo gg body items e1 := rfl
theorem x3_Rev : eRev f env = (f env >>= dRev) := rfl
theorem x3_dRev : dRev (.tuple xs) = .ok (.tuple xs.reverse) := rfl
theorem x3_start2 {l : List PyData} : startI 2 l [] = [some (.own l), none] := rfl
theorem x3_cI1 {F : List PyData → List PyData → RO (PyData × List PyData)} {l : List PyData} : callI 1 F l [] = F l [] := rfl
theorem x3_seqL : dSeq (.list xs) = .ok xs := rfl
theorem x3_seqT : dSeq (.tuple xs) = .ok xs := rfl
end
end PD
set_option Elab.async false
set_option linter.all false
set_option maxRecDepth 100000
set_option maxHeartbeats 4000000
namespace PD
open PySem PySem.Spec PyProof.Rows L2
/-! ### loops in defs that change a list of the caller's; walks whose items come with effects -/
def for2Go (gg : G) (body : S2) : List PyData → Env → SO2
  | [], env => .nx env
  | x :: xs, env => match gg x env with
    | .ok e1 => match body e1 with
      | .nx e => for2Go gg body xs e
      | r => r
    | _ => .no
section
variable {X : Cx} {W : WX} {tg it e a b c : Expr} {es rest : List Expr} {st : Stmt} {sts : List Stmt} {f : E} {f2 fa fb : E2} {t2 : T2} {g : S2} {gg : G} {is : List Nat} {Z : Zn} {env env' : Env} {σ : Sg} {H H' : Hp} {O : List Addr} {D : Ends} {pos p2 : Pos}
variable [Tbs]
abbrev I2 := Env → RO (List PyData × Env)
def CI2 (X : Cx) (tg it : Expr) (f : I2) : Prop := ∀ Z env σ H O R items env', Rep X.K Z env σ H O → f env = .ok (items, env') → (∀ J H', Rep X.K Z env' σ H' O → WalkD X.K O H' J items → R J H') → wpI X tg it σ H R
def i2P (f : A) : I2 := fun env => f env >>= fun items => .ok (items, env)
theorem ci2_pure {f : A} (tk : Takes X W) (h : CI X W tg it f) : CI2 X tg it (i2P f) := fun Z env σ H O R items env' r q k => by
  obtain ⟨x, hx, q⟩ := bind_okE q
  cases q
  refine h Z env σ H O R r ?_
  rw [hx]
  exact fun H1 e1 J wd => k J H1 (r.mono e1) wd
def i2Seq (f : E2) : I2 := fun env => f env >>= fun x => dIter x.1 >>= fun items => .ok (items, x.2)
theorem ci2_seq (h : CE2 X it f2) : CI2 X tg it (i2Seq f2) := fun Z env σ H O R items env' r q k => by
  obtain ⟨x, hx, q⟩ := bind_okE q
  obtain ⟨y, hy, q⟩ := bind_okE q
  cases q
  refine wp_i (pi_gen pe_wp) ?_
  refine h.2 Z env σ H O _ x.1 x.2 r hx fun v H1 r1 e1 d1 => ?_
  obtain ⟨d, e1'⟩ := x
  cases d with
  | list xs =>
    cases hy
    obtain ⟨p, vs, rfl, h1, h2⟩ := dp_lst d1
    exact it_list (Ext.unhid.sl h1) (k _ H1 r1 (walk_l h1 h2))
  | tuple xs =>
    cases hy
    obtain ⟨p, vs, rfl, h1, h2⟩ := dp_tup d1
    exact it_tup (Ext.unhid.st h1) (k _ H1 r1 (walk_t h1 h2))
  | str x =>
    cases hy
    cases dp_str d1
    exact it_str (k _ H1 r1 walk_s)
  | _ => cases hy
def i2R1 (f : E2) : I2 := fun env => f env >>= fun x => rng1 x.1 >>= fun items => .ok (items, x.2)
/-! ### such loops -/
theorem SOk2.zone {i : Option Nat} {p : Addr} (r0 : Rep X.K Z env σ H O) : ∀ {r : SO2}, SOk2 X Z D i p r → SOk2 X (zn Z H O) D i p r
  | .nx _, h => fun σ' H' O' r hp => h σ' H' O' (r0.unzone r) hp
  | .rt _ _, h => fun v σ' H' O' r hp d => h v σ' H' O' (r0.unzone r) hp d
  | .rl _ _, h => fun q vs σ' H' O' r hp hq d => h q vs σ' H' O' (r0.unzone r) hp hq d
  | .no, h => h
theorem for_core2 {i : Option Nat} {p : Addr} {J : It} {items : List PyData} (hg : CG X tg is gg) (hpin : ∀ j, i = some j → j ∉ is) (hb : CSs2 X i sts g)
    (r0 : Rep X.K Z env σ H O) (pin : PinA i σ p) (wd : WalkD X.K O H J items) (q : SOk2 X Z D i p (for2Go gg g items env)) :
    ∃ Wv : Nat → Nat → L2.St → Hp → Prop, (∃ m, Wv 0 m σ H) ∧ ∀ k m σ H, Wv k m σ H →
      (J.stop k H ∧ D.nx σ H) ∨ (J.go k H ∧ ∃ N : L2.St → Hp → Prop, (∀ σ' H', N σ' H' → ∃ m', m' < m ∧ Wv (k + 1) m' σ' H') ∧ ∀ x H', J.yld k H x H' → wpG X tg x σ H' fun σ2 H2 => wpSs X sts { D with nx := N, ct := N, bk := D.nx } σ2 H2) := by
  have q0 := q.zone r0
  let Wv : Nat → Nat → L2.St → Hp → Prop := fun k m σ' H' => m = items.length - k ∧ k ≤ items.length ∧ ∃ env' O', Rep X.K (zn Z H O) env' σ' H' O' ∧ PinA i σ' p ∧ SOk2 X (zn Z H O) D i p (for2Go gg g (items.drop k) env')
  refine ⟨Wv, ⟨items.length, by simp, Nat.zero_le _, env, O, r0.zone, pin, by simpa using q0⟩, ?_⟩
  rintro k m σ1 H1 ⟨rfl, hi, env1, O1, r1, pin1, q1⟩
  have ex1 := r0.frz r1
  by_cases hlt : k < items.length
  · have hx : items[k]? = some items[k] := List.getElem?_eq_getElem hlt
    obtain ⟨hgo, hyld⟩ := wd.go k _ O1 H1 hx ex1 r1.lv
    refine .inr ⟨hgo, fun σ' H' => Wv (k + 1) (items.length - (k + 1)) σ' H', fun σ' H' h' => ⟨_, by omega, h'⟩, fun x H2 hy => ?_⟩
    obtain ⟨e2, d2⟩ := hyld x H2 hy
    rw [List.drop_eq_getElem_cons hlt] at q1
    refine hg (zn Z H O) env1 σ1 H2 O1 x _ _ (r1.mono e2) d2 ?_
    have q2 : SOk2 X (zn Z H O) D i p (match gg items[k] env1 with | .ok e1 => (match g e1 with | .nx e => for2Go gg g (items.drop (k + 1)) e | r => r) | _ => .no) := q1
    cases hgd : gg items[k] env1 with
    | ok e1 =>
      rw [hgd] at q2
      refine fun σ2 r2 l2 k2 => ?_
      have pin2 : PinA i σ2 p := by
        cases i with
        | none => trivial
        | some j =>
          have pin1' : σ1[j]? = some (some (.ref p)) := pin1
          show σ2[j]? = some (some (.ref p))
          rw [k2 j (hpin j rfl)]
          exact pin1'
      refine hb (zn Z H O) e1 σ2 H2 O1 _ p r2 pin2 ?_
      have q3 : SOk2 X (zn Z H O) D i p (match g e1 with | .nx e => for2Go gg g (items.drop (k + 1)) e | r => r) := q2
      cases hge : g e1 with
      | nx e => rw [hge] at q3; exact fun σ3 H3 O3 r3 pin3 => ⟨rfl, hlt, e, O3, r3, pin3, q3⟩
      | rt d e => rw [hge] at q3; exact q3
      | rl d e => rw [hge] at q3; exact q3
      | no => rw [hge] at q3; exact q3
    | er _ _ => rw [hgd] at q2; exact q2.elim
    | no => rw [hgd] at q2; exact q2.elim
  · have e0 : k = items.length := by omega
    subst e0
    rw [List.drop_length] at q1
    exact .inl ⟨wd.stop _ O1 H1 rfl ex1, q1 σ1 H1 O1 r1 pin1⟩
def s2For (fi : I2) (gg : G) (body : S2) : S2 := fun env => of2 (fi env) fun x => for2Go gg body x.1 x.2
theorem cs2_for {i : Option Nat} {fi : I2} (hp : PassesOwn (model X.prog X.w) X.A X.env X.xe) (hc : X.calm = true) (hi : CI2 X tg it fi) (hg : CG X tg is gg) (hpin : ∀ j, i = some j → j ∉ is) (hb : CSs2 X i sts g)
    (hs : ∀ x, foldedSetIterable it X.env x = pure x := by intro _; rfl) : CS2 X i (.For tg it sts [] pos) (s2For fi gg g) := fun Z env σ H O D p r hpn q => by
  refine wp_s (ps_for hp hc pi_wp pg_wp pss_wp hs) ?_
  obtain ⟨x, hx, q⟩ := of2_ok q
  exact hi Z env σ H O _ x.1 x.2 r hx fun J H1 r1 wd => for_core2 hg hpin hb r1 hpn wd q
/-- the same where the frame is nobody's -/
def sForX (fi : I2) (gg : G) (body : S) : S := fun env => match fi env with
  | .ok (items, e1) => forGo gg body items e1
  | _ => .no
theorem cs_forX {fi : I2} {g : S} (hp : PassesOwn (model X.prog X.w) X.A X.env X.xe) (hc : X.calm = true) (hi : CI2 X tg it fi) (hg : CG X tg is gg) (hb : CSs X W sts g)
    (hs : ∀ x, foldedSetIterable it X.env x = pure x := by intro _; rfl) : CS X W (.For tg it sts [] pos) (sForX fi gg g) := fun Z env σ H O D r q => by
  refine wp_s (ps_for hp hc pi_wp pg_wp pss_wp hs) ?_
  unfold sForX at q
  cases hf : fi env with
  | er c fl => rw [hf] at q; exact q.elim
  | no => rw [hf] at q; exact q.elim
  | ok y =>
    obtain ⟨items, e1⟩ := y
    rw [hf] at q
    exact hi Z env σ H O _ items e1 r hf fun J H1 r1 wd => for_core hg hb r1 wd q
/-! ### own lists of such frames -/
def s2SetL (j : Nat) (fl : A) : S2 := fun env => of2 (fl env) fun ds => .nx (env.set j (some (.own ds)))
theorem cs2_setL {i : Option Nat} {j : Nat} {x : Str} {pos' : Pos} {fl : A} (tk : Takes X W) (hN : X.N.Nodup) (hi : X.N[j]? = some x) (hx : Loc X.env.scope x) (he : CL X W e fl) (hne : i ≠ some j) (hs : swapsWith e (some (.Name x pos')) pos.line X.env = pure false := by rfl) (hf : X.fn x = true ∨ X.env.scope.names.lookup x = some .local := by first | exact .inl rfl | exact .inr rfl | assumption) :
    CS2 X i (.Assign [.Name x pos'] e pos) (s2SetL j fl) := fun Z env σ H O D p r hp q => by
  refine wp_s (ps_set hN hi hx pe_wp hs hf) ?_
  obtain ⟨ds, hd, q⟩ := of2_ok q
  refine he.ok2 r hd fun v vs H1 e1 hq d1 r1 => q _ _ _ (r1.setOwn j hq d1) ?_
  cases i with
  | none => trivial
  | some i =>
    have n : j ≠ i := fun z => hne (by rw [z])
    have hp' : σ[i]? = some (some (.ref p)) := hp
    show (σ.set j (some (.ref v)))[i]? = some (some (.ref p))
    rw [List.getElem?_set_ne n]
    exact hp'
def s2App2 (j : Nat) (f : E2) : S2 := fun env => of2 (gvo env j) fun _ => of2 (f env) fun x => of2 (gvo x.2 j) fun xs => if xs.length < sizeLine then .nx (x.2.set j (some (.own (xs ++ [x.1])))) else .no
theorem cs2_app2 {i : Option Nat} {j : Nat} {x : Str} {px apos cpos : Pos} (hN : X.N[j]? = some x) (hv : Vis X.env.scope x) (hd : (x == ("__debug__" : Str)) = false) (hcd : (x == ("__classdict__" : Str)) = false) (he : CE2 X e f2)
    (hbase : attributeBase (.Name x px) "append" X.env (eval (.Name x px) X.env) = eval (.Name x px) X.env := by rfl)
    (hfew : ((backTo cpos (starEach [e] X.env)).all (fun x => !x.1) && (backToKw cpos (keywordEach [] X.env)).all (fun x => x.1.isSome) && decide (([e] : List Expr).length + ([] : List Keyword).length + (if ([] : List Keyword).isEmpty then 0 else 1) < 30)) = true := by rfl)
    (hline : (apos.endLine == cpos.line) = true := by rfl) (hs : starEach [e] X.env = (false, eval e X.env) :: starEach [] X.env := by rfl) (hplain : (backTo cpos (starEach [] X.env)).any (·.1) = false := by rfl)
    (hsw : swapsWith (.Call (.Attribute (.Name x px) "append" apos) [e] [] cpos) none pos.line X.env = pure false := by rfl) :
    CS2 X i (.Expr (.Call (.Attribute (.Name x px) "append" apos) [e] [] cpos) pos) (s2App2 j f2) := fun Z env σ H O D p r hp q => by
  refine wp_s (ps_expr (pe_bm PySem.F.plainAttrs_list PySem.F.slot_list_append PySem.F.type_list_append mt_append pe_wp (pa_cons pe_wp pa_nil hs) hbase hfew hline hs hplain) hsw) ?_
  obtain ⟨ds, hi, q⟩ := of2_ok q
  obtain ⟨y, hy, q⟩ := of2_ok q
  obtain ⟨ds1, hi1, q⟩ := of2_ok q
  refine own_read r (gvo_ok hi) hN hv hd hcd fun p0 vs s1 s2 s3 s4 s5 => ⟨.inl ⟨rfl, vs, SqL.of s4⟩, ?_⟩
  refine he.2 Z env σ H O _ y.1 y.2 r hy fun v H1 r1 x1 d1 => ?_
  obtain ⟨u, h1, p1, ws, rfl, hp1, hc1, hH1, hD1⟩ := r1.sl j _ (gvo_ok hi1)
  rw [s1] at h1
  have ep : p0 = p1 := by injection h1 with h1; injection h1 with h1; injection h1
  subst ep
  by_cases hz : ds1.length < sizeLine
  · rw [if_pos hz] at q
    exact ⟨p0, ws, v, rfl, rfl, hH1, by rw [dpa_len hD1]; exact hz, q _ _ _ (r1.mutOwn (gvo_ok hi1) s1 (dpa_app hD1 (.cons d1 .nil))) hp⟩
  · rw [if_neg hz] at q
    exact q.elim
/-! ### a and b, as a value -/
def e2An (fa fb : E2) : E2 := fun env => fa env >>= fun x => tb x.1 >>= fun k => if k = true then fb x.2 else .ok (.bool false, x.2)
theorem ce2_one {op} (h : CE2 X a fa) : CE2 X (.BoolOp op [a] pos) fa := ⟨h.1, fun Z env σ H O Q d env' r q k => wp_e (pe_one pe_wp) (h.2 Z env σ H O Q d env' r q k)⟩
theorem ce2_and (h : CE2 X a fa) (g : CE2 X (.BoolOp .And (b :: rest) pos) fb) : CE2 X (.BoolOp .And (a :: b :: rest) pos) (e2An fa fb) := ⟨(fun env d env' q => by
  obtain ⟨x, hx, q⟩ := bind_okE q
  obtain ⟨kb, hk, q⟩ := bind_okE q
  cases kb with
  | true => rw [if_pos rfl] at q; exact (h.1 env x.1 x.2 hx).trans (g.1 x.2 d env' q)
  | false => rw [if_neg Bool.false_ne_true] at q; cases q; exact h.1 env x.1 x.2 hx), fun Z env σ H O Q d env' r q k => by
  obtain ⟨x, hx, q⟩ := bind_okE q
  obtain ⟨kb, hk, q⟩ := bind_okE q
  refine wp_e (pe_and pe_wp pe_wp) ?_
  refine h.2 Z env σ H O _ x.1 x.2 r hx fun v H1 r1 e1 d1 => ?_
  obtain ⟨dx, e1'⟩ := x
  cases dx with
  | bool cb =>
    cases hk
    have := dp_bool d1
    subst this
    refine ⟨_, rfl, ?_⟩
    cases kb with
    | true => rw [if_pos rfl] at q; exact g.2 Z e1' σ H1 O Q d env' r1 q fun u H2 r2 e2 d2 => k u H2 r2 (e1.trans e2) d2
    | false => rw [if_neg Bool.false_ne_true] at q; cases q; exact k _ H1 r1 e1 (.bl _)
  | _ => cases hk⟩
def e2Cm (bi : PyData → PyData → Option PyData) (fa fb : E2) : E2 := fun env => fa env >>= fun x => fb x.2 >>= fun y => ofO (bi x.1 y.1) >>= fun d => .ok (d, y.2)
theorem ce2_cmp {op : CmpOp} {bi : PyData → PyData → Option PyData} (ho : BinB X (compareOp op) bi) (ha : CE2 X a fa) (hb : CE2 X b fb) (hm : behindInMarks op b = false := by first | exact nobehind _ (by decide) (by decide) | rfl) : CE2 X (.Compare a [op] [b] pos) (e2Cm bi fa fb) := ⟨(fun env d env' q => by
  obtain ⟨x, hx, q⟩ := bind_okE q
  obtain ⟨y, hy, q⟩ := bind_okE q
  obtain ⟨z, hz, q⟩ := bind_okE q
  cases q
  exact (ha.1 env x.1 x.2 hx).trans (hb.1 x.2 y.1 y.2 hy)), fun Z env σ H O Q d env' r q k => by
  obtain ⟨x, hx, q⟩ := bind_okE q
  obtain ⟨y, hy, q⟩ := bind_okE q
  obtain ⟨z, hz, q⟩ := bind_okE q
  cases q
  let R : R2 := fun vx vy H Q => ∃ (r : R2), OpR X (compareOp op) r ∧ r vx vy H Q
  have hR : OpR X (compareOp op) R := fun pins s σ H x y v u Q I rx ry ⟨r, h1, h2⟩ => h1 pins s σ H x y v u Q I rx ry h2
  refine wp_e (pe_cmpR hR pe_wp pe_wp hm) ?_
  refine ha.2 Z env σ H O _ x.1 x.2 r hx fun vx H1 r1 e1 d1 => ?_
  refine hb.2 Z x.2 σ H1 O _ y.1 y.2 r1 hy fun vy H2 r2 e2 d2 => ?_
  obtain ⟨rr, h1, h2⟩ := ho x.1 y.1 _ (ofO_ok hz)
  exact ⟨rr, h1, h2 H2 vx vy Q (Ext.unhid.dp (e2.dp d1)) (Ext.unhid.dp d2) fun v hv => k v H2 r2 (e1.trans e2) (hv _)⟩⟩
theorem ci2_range1 {p : Pos} (h : CE2 X a fa) (hg : Gl X "range") (hm : X.mg "range" = none) (hs : starEach [a] X.env = [(false, eval a X.env)] := by rfl) : CI2 X tg (.Call (.Name "range" p) [a] [] pos) (i2R1 fa) := fun Z env σ H O R items env' r q k => by
  obtain ⟨x, hx, q⟩ := bind_okE q
  obtain ⟨y, hy, q⟩ := bind_okE q
  cases q
  refine wp_i (pi_range1 hg hm (pa_cons pe_wp pa_nil (by rw [hs] <;> rfl)) hs) ?_
  refine h.2 Z env σ H O _ x.1 x.2 r hx fun v H1 r1 e1 d1 => ?_
  obtain ⟨d, e1'⟩ := x
  cases d with
  | int j =>
    cases dp_int d1
    have q2 : (if -(2 ^ 62) ≤ j ∧ j < 2 ^ 62 then RO.ok (rngItems 0 j.toNat) else .no) = .ok items := hy
    by_cases z : -(2 ^ 62) ≤ j ∧ j < 2 ^ 62
    · rw [if_pos z] at q2
      cases q2
      exact ⟨j, rfl, z.1, z.2, k _ H1 r1 walk_r⟩
    · rw [if_neg z] at q2
      cases q2
  | _ => cases hy
/-- a statement that is never reached -/
theorem cs_never : CS X W st sNo := fun Z env σ H O D r q => q.elim
end
end PD
set_option Elab.async false
set_option linter.all false
set_option maxRecDepth 100000
set_option maxHeartbeats 4000000
namespace PD
open PySem PySem.Spec PyProof.Rows L2
/-! ### chains of two comparisons -/
def eChain (bi bi' : PyData → PyData → Option PyData) (fa fb fc : E) : E := fun env => fa env >>= fun x => fb env >>= fun y => ofO (bi x y) >>= fun d => tb d >>= fun k => if k = true then (fc env >>= fun z => ofO (bi' y z)) else .ok (.bool false)
section
variable {X : Cx} {W : WX} {e a b c : Expr} {f fa fb fc : E} {pos : Pos} [Tbs]
theorem ce_chain {op op' : CmpOp} {bi bi' : PyData → PyData → Option PyData} (ho : BinB X (compareOp op) bi) (ho' : BinB X (compareOp op') bi') (ha : CB X W a fa) (hb : CB X W b fb) (hc : CB X W c fc)
    (hm : lastMarks [op, op'] [b, c] = false := by with_unfolding_all rfl) : CE X W (.Compare a [op, op'] [b, c] pos) (eChain bi bi' fa fb fc) := fun Z env σ H O Q r q => by
  let R : R2 := fun vx vy H Q => ∃ (r : R2), OpR X (compareOp op) r ∧ r vx vy H Q
  have hR : OpR X (compareOp op) R := fun pins s σ H x y v u Q I rx ry ⟨r, h1, h2⟩ => h1 pins s σ H x y v u Q I rx ry h2
  let R' : R2 := fun vx vy H Q => ∃ (r : R2), OpR X (compareOp op') r ∧ r vx vy H Q
  have hR' : OpR X (compareOp op') R' := fun pins s σ H x y v u Q I rx ry ⟨r, h1, h2⟩ => h1 pins s σ H x y v u Q I rx ry h2
  refine wp_e (pe_chain hR hR' pe_wp pe_wp pe_wp hm) ?_
  refine ha.go r q fun dx vx H1 e1 d1 r1 q1 => ?_
  refine hb.go r1 q1 fun dy vy H2 e2 d2 r2 q2 => ?_
  cases e : bi dx dy with
  | none => rw [e] at q2; exact q2.elim
  | some d =>
    rw [e] at q2
    obtain ⟨rr, h1, h2⟩ := ho dx dy d e
    refine ⟨rr, h1, h2 H2 vx vy _ (e2.dp (Ext.unhid.dp d1)) (Ext.unhid.dp d2) fun v hv => ?_⟩
    cases d with
    | bool k =>
      have := dp_bool (hv H2)
      subst this
      refine ⟨k, rfl, ?_⟩
      cases k with
      | false => exact ROk.here q2 _ (.bl _)
      | true =>
        refine hc.go r2 q2 fun dz vz H3 e3 d3 r3 q3 => ?_
        cases e' : bi' dy dz with
        | none => rw [e'] at q3; exact q3.elim
        | some d' =>
          rw [e'] at q3
          obtain ⟨rr', g1, g2⟩ := ho' dy dz d' e'
          exact ⟨rr', g1, g2 H3 vy vz Q (e3.dp (Ext.unhid.dp d2)) (Ext.unhid.dp d3) fun v hv => q3.here v (hv _)⟩
    | _ => exact q2.elim
def tChn (bi bi' : PyData → PyData → Option PyData) (fa fb fc : E) : T := fun env => fa env >>= fun x => fb env >>= fun y => ofO (bi x y) >>= fun d => tb d >>= fun k => if k = true then (fc env >>= fun z => ofO (bi' y z) >>= tb) else .ok false
theorem ct_chain {op op' : CmpOp} {bi bi' : PyData → PyData → Option PyData} (ho : BinB X (compareOp op) bi) (ho' : BinB X (compareOp op') bi') (ha : CB X W a fa) (hb : CB X W b fb) (hc : CB X W c fc)
    (hm : lastMarks [op, op'] [b, c] = false := by with_unfolding_all rfl) : CT X W (.Compare a [op, op'] [b, c] pos) (tChn bi bi' fa fb fc) := fun Z env σ H O Q r q => by
  let R : R2 := fun vx vy H Q => ∃ (r : R2), OpR X (compareOp op) r ∧ r vx vy H Q
  have hR : OpR X (compareOp op) R := fun pins s σ H x y v u Q I rx ry ⟨r, h1, h2⟩ => h1 pins s σ H x y v u Q I rx ry h2
  let R' : R2 := fun vx vy H Q => ∃ (r : R2), OpR X (compareOp op') r ∧ r vx vy H Q
  have hR' : OpR X (compareOp op') R' := fun pins s σ H x y v u Q I rx ry ⟨r, h1, h2⟩ => h1 pins s σ H x y v u Q I rx ry h2
  refine wp_t (pt_chain hR hR' pe_wp pe_wp pe_wp hm) ?_
  refine ha.go r q fun dx vx H1 e1 d1 r1 q1 => ?_
  refine hb.go r1 q1 fun dy vy H2 e2 d2 r2 q2 => ?_
  cases e : bi dx dy with
  | none => rw [e] at q2; exact q2.elim
  | some d =>
    rw [e] at q2
    obtain ⟨rr, h1, h2⟩ := ho dx dy d e
    refine ⟨rr, h1, h2 H2 vx vy _ (e2.dp (Ext.unhid.dp d1)) (Ext.unhid.dp d2) fun v hv => ?_⟩
    cases d with
    | bool k =>
      have := dp_bool (hv H2)
      subst this
      refine ⟨k, rfl, ?_⟩
      cases k with
      | false => exact ⟨false, rfl, q2.here⟩
      | true =>
        refine hc.go r2 q2 fun dz vz H3 e3 d3 r3 q3 => ?_
        cases e' : bi' dy dz with
        | none => rw [e'] at q3; exact q3.elim
        | some d' =>
          rw [e'] at q3
          obtain ⟨rr', g1, g2⟩ := ho' dy dz d' e'
          refine ⟨rr', g1, g2 H3 vy vz _ (e3.dp (Ext.unhid.dp d2)) (Ext.unhid.dp d3) fun v hv => ?_⟩
          cases d' with
          | bool k' =>
            have := dp_bool (hv H3)
            subst this
            exact ⟨k', rfl, q3.here⟩
          | _ => exact q3.elim
    | _ => exact q2.elim
end
end PD
set_option Elab.async false
set_option linter.all false
set_option maxRecDepth 100000
set_option maxHeartbeats 4000000
namespace PD
open PySem PySem.Spec PyProof.Rows L2
section
variable {env e1 : PD.Env} {f fa fb fc : E} {f2 a2 b2 : E2} {g h : S2} {gg : G} {body : S} {i2 : I2} {fl fs : A} {d a b c : PyData} {i j m n : Nat} {xs items l : List PyData} {bi bi' : PyData → PyData → Option PyData} {F : List PyData → List PyData → RO (PyData × List PyData)}
theorem x4_For : s2For i2 gg g env = of2 (i2 env) fun x => for2Go gg g x.1 x.2 := rfl
theorem x4_iP : i2P fs env = (fs env >>= fun items => .ok (items, env)) := rfl
theorem x4_iR : i2R1 f2 env = (f2 env >>= fun x => rng1 x.1 >>= fun items => .ok (items, x.2)) := rfl
theorem x4_iS : i2Seq f2 env = (f2 env >>= fun x => dIter x.1 >>= fun items => .ok (items, x.2)) := rfl
def forXS (r : RO (List PyData × PD.Env)) (gg : G) (body : S) : SO := match r with
  | .ok (items, e1) => forGo gg body items e1
  | _ => .no
theorem x4_ForX : sForX i2 gg body env = forXS (i2 env) gg body := rfl
theorem x4_ForXS : forXS (.ok (items, e1)) gg body = forGo gg body items e1 := rfl
theorem x4_SetL : s2SetL j fl env = of2 (fl env) fun ds => .nx (env.set j (some (.own ds))) := rfl
theorem x4_App : s2App2 j f2 env = of2 (gvo env j) fun _ => of2 (f2 env) fun x => of2 (gvo x.2 j) fun xs => if xs.length < sizeLine then .nx (x.2.set j (some (.own (xs ++ [x.1])))) else .no := rfl
theorem x4_An : e2An a2 b2 env = (a2 env >>= fun x => tb x.1 >>= fun k => if k = true then b2 x.2 else .ok (.bool false, x.2)) := rfl
theorem x4_Cm : e2Cm bi a2 b2 env = (a2 env >>= fun x => b2 x.2 >>= fun y => ofO (bi x.1 y.1) >>= fun d => .ok (d, y.2)) := rfl
theorem x4_Ch : eChain bi bi' fa fb fc env = (fa env >>= fun x => fb env >>= fun y => ofO (bi x y) >>= fun d => tb d >>= fun k => if k = true then (fc env >>= fun z => ofO (bi' y z)) else .ok (.bool false)) := rfl
theorem x4_tCh : tChn bi bi' fa fb fc env = (fa env >>= fun x => fb env >>= fun y => ofO (bi x y) >>= fun d => tb d >>= fun k => if k = true then (fc env >>= fun z => ofO (bi' y z) >>= tb) else .ok false) := rfl
theorem x4_cI3 : callI 3 F l [a, b] = F l [a, b] := rfl
theorem x4_cI4 : callI 4 F l [a, b, c] = F l [a, b, c] := rfl
def app2S (r : RO (PyData × PD.Env)) (env : PD.Env) (i : Nat) : SO := match r with
  | .ok (d, e1) => ofR (gvo env i) env fun _ => ofR (gvo e1 i) e1 fun xs => if xs.length < sizeLine then .nx (e1.set i (some (.own (xs ++ [d])))) else .no
  | _ => .no
theorem x4_App2 : sApp2 i f2 env = app2S (f2 env) env i := rfl
theorem x4_App2S : app2S (.ok (d, e1)) env i = (ofR (gvo env i) env fun _ => ofR (gvo e1 i) e1 fun xs => if xs.length < sizeLine then .nx (e1.set i (some (.own (xs ++ [d])))) else .no) := rfl
end
/-- a loop's invariant over the items before -/
theorem for2_pre {β : Type} {gg : G} {body : S2} (f : β → PyData) (I : List β → PD.Env → Prop) : ∀ (xs pre : List β) (env : PD.Env), (∀ p x q env, pre ++ xs = p ++ x :: q → I p env → ∃ e1 e2, gg (f x) env = .ok e1 ∧ body e1 = .nx e2 ∧ I (p ++ [x]) e2) → I pre env →
    ∃ env', for2Go gg body (xs.map f) env = .nx env' ∧ I (pre ++ xs) env'
  | [], pre, env, _, h0 => ⟨env, rfl, by rw [List.append_nil]; exact h0⟩
  | x :: xs, pre, env, h, h0 => by
    obtain ⟨e1, e2, h1, h2, h3⟩ := h pre x xs env rfl h0
    obtain ⟨env', h4, h5⟩ := for2_pre f I xs (pre ++ [x]) e2 (fun p y q env hp hi => h p y q env (by rw [← hp, List.append_assoc]; rfl) hi) h3
    refine ⟨env', ?_, by rw [List.append_assoc] at h5; exact h5⟩
    rw [← h4]
    show (match gg (f x) env with
      | .ok e1 => (match body e1 with
        | .nx e => for2Go gg body (xs.map f) e
        | r => r)
      | _ => .no) = _
    rw [h1]
    show (match body e1 with
        | .nx e => for2Go gg body (xs.map f) e
        | r => r) = _
    rw [h2]
end PD
set_option Elab.async false
set_option linter.all false
set_option maxRecDepth 100000
set_option maxHeartbeats 4000000
namespace PD
open PySem PySem.Spec PyProof.Rows L2
/-! ### own errors whose __init__ hands a text to super().__init__ and keeps its arguments -/
section
open PySem.W PySem.Calls
variable {prog : Program} {w : World} {A : Around} {E : Value → Shared → Prop} {h : Heap} {g : Array GenState} {d : Drawn} {t : Nat} {os : OsState}
variable {nm q : Str} {C N : Addr} {bs bm : List Value} {hdct : Bool} {sn : List Str} {sub : List Value} {ab : Bool} {col : Option Bool} {dd : Option Addr} {k0 k1 k2 k3 k5 : Option Value}
theorem call_mwV {u e t0 : Addr} {rest : List Value} {Q : Value → Shared → Prop}
    (hC : h.get? C = some (excClassObj nm q C N bs bm hdct sn sub ab col dd k0 k1 k2 k3 k5 "ValueError.__new__")) (he : h.get? e = some (HandSPX.excO C t0)) (hu : h.get? u = some (kxs_mw "ValueError.__init__" e)) (hrest : rest.length ≤ sizeLine)
    (hq : ∀ h' t1, (∀ b o, b ≠ e → h.get? b = some o → h'.get? b = some o) → h'.get? e = some (HandSPX.excO C t1) → Q .none ⟨h', g, d, t, os⟩) :
    wpAny (model prog w) A (call (.ref u) rest) Q E ⟨h, g, d, t, os⟩ := by
  refine wpAny_call (codeAny_of_tree ?_)
  show wpAny _ A.in1 (callAny (.ref u) ⟨rest, []⟩) _ _ _
  simp only [callAny]
  refine wpAny_bind (wpAny_load hu ?_)
  simp only [kxs_mw, show (Value.type "method-wrapper" == Value.type "method" || Value.type "method-wrapper" == Value.type "builtin_function_or_method" || Value.type "method-wrapper" == Value.type "method-wrapper") = true by decide, if_true]
  refine KFB.if_so (by decide) ?_
  refine wpAny_bind (check_bound_init F.excBase_ValueError.toExcCallFacts hC he rfl ?_)
  refine wpAny_bind (wpAny_pure (wpAny_pure ?_))
  refine ⟨plainId_quiet F.excBase_ValueError.init.plain _, codeAny_builtin F.excBase_ValueError.initEntry ?_⟩
  exact exc_init_tree (cls := .ref C) (t0 := t0) (dv := none) (c2 := .none) (c3 := .none) (b4 := .bool false) he hrest fun h' k e' t' => hq h' _ k e'
end
/-- what the written part must say of such an __init__: f the function, C its class, cc the cell that holds C, cda its code -/
structure InitK (P : Program) (K : PySem.W.Frag) (f C cc cda : Addr) (fd : FuncData) (x : Str) : Prop where
  fn : ∃ oc od osl, K.lookup f = some (⟨oc, od, .func fd, osl⟩ : Obj)
  par : ∃ ar : Arg, (fd.params.posonlyargs ++ fd.params.args).head? = some ar ∧ ar.arg = x
  code : ∃ ccl cdd ccs vs file tf, K.lookup cda = some (⟨ccl, cdd, .fields vs, ccs⟩ : Obj) ∧ vs[2]? = some (.str file tf) ∧ ((P.main.file : Str) == file) = true
  top : (P.main.scope.names.lookup ("super" : Str)).isSome = false
  cell : ∃ cl cld csl, K.lookup cc = some (⟨cl, cld, .cell (some (.ref C)), csl⟩ : Obj)
  cls : OexC K C
  self : PySem.W.mroIn K C (.ref C) = some true
  init : PySem.W.ks_superIn K C C "__init__" = some (some (.builtin "ValueError.__init__"))
  opq : PySem.W.nsIn K cStatics "thirdparty.any" = some none
  ve : PySem.W.subIn K (.ref C) (.type "ValueError") = some true
section
variable {X : Cx} {pins : List (Addr × Obj)} {σ : L2.St} {H : Hp} {s : Shared} {a C f cc cda : Addr} {fd : FuncData} {x : Str} {e : Expr} {te : TE} {body : List Stmt} {p0 p1 ap cp : Pos}
theorem super_init {Qn : Hp → Prop} {pl : Sem Bool} (T : InitK X.prog X.K f C cc cda fd x) (I : Inv X pins σ H s) (hks : X.env.kindOf "super" = some .globalImplicit) (hkc : X.env.kindOf "__class__" = some .free) (hfu : X.env.func = some f) (hco : X.env.code = .ref cda)
    (hcl : X.env.cells.lookup ("__class__" : Str) = some cc) (hms : X.mg "super" = none) (hN : X.N[0]? = some x) (hka : X.env.kindOf x = some .local) (hσ : σ[0]? = some (some (.ref a))) (ea : H a = some (exo a C none)) (hee : PE X e te)
    (q : te σ H fun v H1 => H1 a = some (exo a C none) ∧ Qn H1)
    (hev : eval (.Call (.Attribute (.Call (.Name "super" p0) [] [] p1) "__init__" ap) [e] [] cp) X.env = (do
      let ov ← attributeBase (.Call (.Name "super" p0) [] [] p1) "__init__" X.env (eval (.Call (.Name "super" p0) [] [] p1) X.env)
      standAt ap.atName
      let (f, first) ← holding [ov] (getMethod ov "__init__" pl)
      callWith cp f first (backTo cp (starEach [e] X.env)) []))
    (hs : starEach [e] X.env = (false, eval e X.env) :: starEach [] X.env) (hs0 : starEach [] X.env = []) :
    _root_.PySem.wpAt (model X.prog X.w) X.A (.func body X.env) (eval (.Call (.Attribute (.Call (.Name "super" p0) [] [] p1) "__init__" ap) [e] [] cp) X.env) (fun _ s' => ∃ H1, Inv X pins σ H1 s' ∧ Qn H1) X.xe s := by
  obtain ⟨oc, od, osl, lkf⟩ := T.fn
  obtain ⟨ar, har, hax⟩ := T.par
  obtain ⟨ccl, cdd, ccs, vs, file, tf, lkc, hvs, hfile⟩ := T.code
  obtain ⟨cl, cld, csl, lkcc⟩ := T.cell
  obtain ⟨nm, qn, N, bs, bm, sn, sub, ab, col, dd, k0, k1, k2, k3, k5, hC, hbm⟩ := T.cls.cls
  have KX := I.kIn
  have hcd : PySem.W.clsIn X.K C = some { name := nm, bases := bs, mro := .ref C :: bm, ns := N, qualname := qn, hasDict := true, slotNames := sn, subclasses := sub, abstract := ab, collection := col, hasDel := false } := by unfold PySem.W.clsIn; rw [hC] <;> rfl
  obtain ⟨t1, ho⟩ := exo_at I.hok ea
  have Ia : PySem.W.InstAt s.heap a ({ cls := .ref C, dict := none, data := .fields #[.ref t1, .none, .none, .none, .bool false, .none] } : Obj) C none := ⟨ho, rfl, rfl, trivial⟩
  refine ks_wpAt_MethodCall (pl := pl) ?_ hev
  refine ks_wpAt_super_base hks hkc (by decide) hfu (KX _ _ lkf) rfl har hco (KX _ _ lkc) rfl hvs hfile T.top ?_
  obtain ⟨mb, h1, h2⟩ := I.mod.blt
  refine PySem.W.ks_loadName_global I.ok.kind hks (Calls.loadGlobal_builtin (by rw [I.ok.glob]; exact I.mod.glob.keeps I.bk) hms (by rw [I.ok.blt]; exact h1.keeps I.bk) ((h2 "super" (by decide)).trans PyProof.Rows.Boot.«super») ⟨rfl, ?_⟩)
  refine wpAny_loadName_free I.ok.kind hkc hcl (v := .ref C) ⟨_, KX _ _ lkcc, rfl⟩ ?_
  obtain ⟨m, hn, hl⟩ := I.loc
  obtain ⟨u, ru, lu⟩ := hl 0 x _ hN hσ (.inl hka)
  cases ru
  have hmx : m x = some (.ref a) := by
    rcases lu with ⟨_, q⟩ | ⟨q, _⟩
    · exact q
    · rw [hka] at q
      rcases q with q | q <;> cases q
  rw [hax]
  refine wpAny_loadName_local I.ok.kind hka hn hmx ?_
  refine ks_wpAny_isType_cls (KX _ _ hC) rfl ⟨rfl, ?_⟩
  obtain ⟨hp, g, dr, tk, os⟩ := s
  refine ks_wpAny_call_super (KX _ _ hC) rfl ho rfl (fun c z => by cases z) (PySem.W.looks_mroIn KX T.self) (fun h' hso kk => ?_)
  have I1 : Inv X pins σ H ⟨h', g, dr, tk, os⟩ := I.kept (t' := tk) kk
  have hI1 : PySem.W.Looks (model X.prog X.w) hp (isInstance (.ref a) (.type "ValueError")) true := (Ia.type (M := model X.prog X.w)).andThen (PySem.W.looks_subIn KX T.ve)
  have hnC : a ≠ C := fun z => by
    rw [z] at ho
    have := (KX _ _ hC).symm.trans ho
    cases this
  have hal : PySem.W.alongIn X.K "__init__" (((Value.ref C :: bm).dropWhile (· != .ref C)).drop 1) = some (some (.builtin "ValueError.__init__")) := by
    have := T.init
    unfold PySem.W.ks_superIn at this
    rw [hcd] at this
    exact this
  have lkM : PySem.W.Looks (model X.prog X.w) hp (mroOf (.ref C)) (.ref C :: bm) := (PySem.W.looks_clsIn KX hcd).andThen .now
  refine PySem.W.kxs_getMethod PySem.W.kxs_ValueError hso ((PySem.W.looks_opaque KX T.opq).keeps kk) (lkM.keeps kk) rfl I1.kIn hal (hI1.keeps kk) hnC (by decide) ?_
  have hu : (h'.push (PySem.W.kxs_mw "ValueError.__init__" a)).get? h'.objs.size = some (PySem.W.kxs_mw "ValueError.__init__" a) := Heap.get?_push_at rfl rfl
  have I2 : Inv X pins σ H ⟨h'.push (PySem.W.kxs_mw "ValueError.__init__" a), g, dr, tk + 1, os⟩ := I1.kept (t' := tk + 1) fun b o z => Heap.get?_push_of_some _ z
  have hnu : H h'.objs.size = none := I1.hok.fresh (Nat.le_refl _)
  have I3 : Inv X ((h'.objs.size, PySem.W.kxs_mw "ValueError.__init__" a) :: pins) σ H ⟨h'.push (PySem.W.kxs_mw "ValueError.__init__" a), g, dr, tk + 1, os⟩ := I2.pins_of fun p hp => by
    rcases List.mem_cons.mp hp with rfl | hp
    · exact ⟨hu, hnu, fun z => absurd I1.lt (by rw [← z]; exact Nat.lt_irrefl _), I1.nofs (Nat.le_refl _), fun v z => by cases z⟩
    · exact I2.pin p (List.mem_append_right _ hp)
  rw [hs, hs0]
  refine PySem.W.kxs_callWith (i := "ValueError.__init__") (x := a) rfl ?_
  refine Calls.evalArgs_plain (x := eval e X.env) (rest := []) ?_
  refine Calls.spliced_cons (thn (hee.run _ _ σ H _ I3 q) fun v s4 ⟨vv, H4, I4, r4, ea4, q4⟩ => ?_)
  refine Calls.spliced_nil ?_
  obtain ⟨hu4, hn4, _⟩ := I4.pin (h'.objs.size, PySem.W.kxs_mw "ValueError.__init__" a) (List.mem_append_right _ (List.mem_cons_self ..))
  refine ⟨hu4, ?_⟩
  have I5 : Inv X pins σ H4 s4 := I4.pins_of fun p hp => I4.pin p ((List.mem_append.mp (List.mem_append_right X.pn hp)).elim (fun z => List.mem_append_left _ z) fun z => List.mem_append_right _ (List.mem_cons_of_mem _ z))
  obtain ⟨t4, ho4⟩ := exo_at I5.hok ea4
  obtain ⟨hp4, g4, dr4, tk4, os4⟩ := s4
  refine call_mwV (I5.kIn _ _ hC) ho4 hu4 (by show 1 ≤ sizeLine; decide) fun h5 t5 k5 hx5 => ?_
  have J := I5.write (t' := tk4) (x := a) (e := a) (o := exo a C none) (by rw [ea4]; exact True.intro) (.inl rfl) k5 ⟨_, hx5⟩ (exo_ok hx5)
  have eu : upd H4 a (exo a C none) = H4 := by
    funext b
    by_cases hb : b = a
    · rw [hb, upd_same, ea4]
    · rw [upd_ne hb]
  rw [eu] at J
  exact ⟨H4, J, q4⟩
end
open NdefX in
theorem fnok_init {CX : CXT} {P : Program} {w : World} {K : PySem.W.Frag} {mg : Str → Option Value} {base : Heap} {k : Nat} {f C cc cda : Addr} {name qual : Str} {params : Arguments} {rest : List Stmt} {scope : Scope} {dV kV doc pm ct : Value} {an : Option Addr} {e : Expr} {p0 p1 ap cp ep : Pos} {x : Str} {N ps : List Str} {sp : Sp} {pl : PySem.Env → Sem Bool}
    (T : InitK P K f C cc cda (PySem.W.fnX name qual params (.Expr (.Call (.Attribute (.Call (.Name "super" p0) [] [] p1) "__init__" ap) [e] [] cp) ep :: rest) scope [("__class__", cc)] dV kV doc pm an (.ref cda) ct) x)
    (hcd : PySem.W.codeIn K (.ref cda) qual = true) (hms : mg "super" = none) (S : NScope N ps ["__class__"] scope) (hN0 : N[0]? = some x) (hks : scope.names.lookup ("super" : Str) = some .globalImplicit) (hka : scope.names.lookup x = some .local)
    (len : ∀ vs H Q E, sp vs H Q E → vs.length = ps.length)
    (hev : ∀ env : PySem.Env, eval (.Call (.Attribute (.Call (.Name "super" p0) [] [] p1) "__init__" ap) [e] [] cp) env = (do
      let ov ← attributeBase (.Call (.Name "super" p0) [] [] p1) "__init__" env (eval (.Call (.Name "super" p0) [] [] p1) env)
      standAt ap.atName
      let (f, first) ← holding [ov] (getMethod ov "__init__" (pl env))
      callWith cp f first (backTo cp (starEach [e] env)) []))
    (hs : ∀ env : PySem.Env, starEach [e] env = (false, eval e env) :: starEach [] env)
    (hsw : ∀ env : PySem.Env, swapsWith (.Call (.Attribute (.Call (.Name "super" p0) [] [] p1) "__init__" ap) [e] [] cp) none ep.line env = pure false)
    (hbody : ∀ (A : Around) (outer : List PySem.Env) (s : Shared) (H : Hp) (vs : List V) (Q : VK) (E : XK), sp vs H Q E → ∃ (a : Addr) (te : TE) (t : TS), (startF N vs [none])[0]? = some (some (.ref a)) ∧ H a = some (exo a C none) ∧
      PE (ncx CX P w K mg base N ⟨name, qual, params, .Expr (.Call (.Attribute (.Call (.Name "super" p0) [] [] p1) "__init__" ap) [e] [] cp) ep :: rest, scope, [("__class__", cc)], cda⟩ f A outer s H E) e te ∧
      PSs (ncx CX P w K mg base N ⟨name, qual, params, .Expr (.Call (.Attribute (.Call (.Name "super" p0) [] [] p1) "__init__" ap) [e] [] cp) ep :: rest, scope, [("__class__", cc)], cda⟩ f A outer s H E) rest t ∧
      te (startF N vs [none]) H fun _ H1 => H1 a = some (exo a C none) ∧ t { nx := fun _ H' => Q .non H', rt := Q } (startF N vs [none]) H1) :
    FnOk P w K mg base CX (k + 1) f (PySem.W.fnX name qual params (.Expr (.Call (.Attribute (.Call (.Name "super" p0) [] [] p1) "__init__" ap) [e] [] cp) ep :: rest) scope [("__class__", cc)] dV kV doc pm an (.ref cda) ct) ps sp := by
  refine ⟨len, fun A outer s H args us vs Q E hr e0 hb r hsp => ?_⟩
  have hl := len _ _ _ _ hsp
  obtain ⟨oc, od, osl, lkf⟩ := T.fn
  obtain ⟨cl, cld, csl, lkcc⟩ := T.cell
  have KX : K.In s.heap := e0.mod.kin.keeps fun b o e => (e0.bs b o e).1
  have lim : s.heap.NoLimit := e0.mod.nolimit.keeps fun b o e => (e0.bs b o e).1
  obtain ⟨a, te, t, ha0, ea, hpe, hps, hte⟩ := hbody A outer s H vs Q E hsp
  let F : NF := ⟨name, qual, params, .Expr (.Call (.Attribute (.Call (.Name "super" p0) [] [] p1) "__init__" ap) [e] [] cp) ep :: rest, scope, [("__class__", cc)], cda⟩
  have C1 : CellsAt F.cl ["__class__"] [none] s.heap H := by
    have one : ∀ y c, F.cl.lookup y = some c → y = "__class__" ∧ c = cc := fun y c z => by
      have z' : List.lookup y [(("__class__" : Str), cc)] = some c := z
      by_cases q : y = ("__class__" : Str)
      · rw [q] at z'
        exact ⟨q, by simpa [List.lookup] using z'.symm⟩
      · have qb : (y == ("__class__" : Str)) = false := by simpa using q
        simp [List.lookup, qb] at z'
    refine ⟨rfl, fun y c z => ?_, fun x y c z z' => by rw [(one x c z).1, (one y c z').1], fun i y z => ?_⟩
    · rw [(one y c z).2]
      exact ⟨(e0.bs cc _ (e0.mod.kin _ _ lkcc)).2, _, _, KX _ _ lkcc, rfl⟩
    · cases i with
      | zero =>
        cases z
        exact ⟨cc, by simp [F, List.lookup], fun v z => by cases z⟩
      | succ i => simp at z
  refine ks_codeAny_call_defAt hr.depth (KX _ _ lkf) rfl lim (PySem.W.codeRec_of KX hcd) rfl hb S.nocell (fun ⟨n, v⟩ hy => S.par n (List.of_mem_zip hy).1) (fun h₁ hns kp => ?_) S.co S.gen S.kind
  have I : Inv (ncx CX P w K mg base N F f A outer s H E) [] (startF N vs [none]) H { s with heap := h₁, toks := s.toks + (ps.zip us).length } := inv_startN S hr.hd e0 hl r C1 hns kp
  have fin : ∀ {s' : Shared} {σ' : L2.St} {H' : Hp} {v : V} {u : Value}, Inv (ncx CX P w K mg base N F f A outer s H E) [] σ' H' s' → L2.RelV v u → Q v H' → L2.CE outer P w H s Q u s' :=
    fun {s' σ' H' v u} J rv q => ⟨v, H', J.os, J.bare, J.base, J.hok, rv, q⟩
  refine ks_wpAt_execs_cons (ks_wpAt_Expr_any (ks_wpAt_mono (super_init (X := ncx CX P w K mg base N F f A outer s H E) (Qn := fun H1 => t { nx := fun _ H' => Q .non H', rt := Q } (startF N vs [none]) H1) T I hks (S.frk _ (List.mem_singleton.mpr rfl)) rfl rfl (by simp [ncx, F, List.lookup]) hms hN0 hka ha0 ea hpe hte (hev _) (hs _) rfl) (fun v s' hh => ?_) fun e s' z => z) I.quiet ?_)
  · obtain ⟨H1, J, q1⟩ := hh
    refine wpAt_of_wpAny (wpAny_mono (hps.run [] _ _ H1 _ J q1) (fun fl s2 hs2 => ?_) fun e s2 z => z)
    cases fl with
    | ret u =>
      obtain ⟨v, σ', H', J', rv, q⟩ := hs2
      exact fin J' rv q
    | next =>
      obtain ⟨σ', H', J', q⟩ := hs2
      exact fin (v := V.non) (u := Value.none) J' rfl q
    | brk =>
      obtain ⟨_, _, _, q⟩ := hs2
      exact False.elim q
    | cont =>
      obtain ⟨_, _, _, q⟩ := hs2
      exact False.elim q
  · exact hsw _
end PD
set_option Elab.async false
set_option linter.all false
set_option maxRecDepth 100000
set_option maxHeartbeats 4000000
namespace PD
open PySem PySem.Spec PyProof.Rows L2 NdefX
/-- what such an error is made of: a small int or a short text -/
def Fld (x : V) : Prop := (∃ i : Int, x = .int i ∧ i.natAbs.log2 < 1000) ∨ ∃ y : Str, x = .str y ∧ y.length ≤ 1000
theorem Fld.fmt {x : V} (h : Fld x) {σ : L2.St} {H : Hp} {te : TE} {Q : VK} (ht : ∀ R : VK, R x H → te σ H R) (q : ∀ y : Str, y.length ≤ 2000 → Q (.str y) H) : tFmt te σ H Q := by
  rcases h with ⟨i, rfl, hi⟩ | ⟨y, rfl, hy⟩
  · refine ht _ (.inr ⟨i, rfl, by omega, q _ ?_⟩)
    have e := int_text_length_le (k := 1000) (by decide) hi
    rw [PySem.ofString_length]
    omega
  · exact ht _ (.inl ⟨y, rfl, by rw [sizeLine_eq]; omega, q y (by omega)⟩)
def spErr1 (K : PySem.W.Frag) (C : Addr) (f1 : Str) : Sp := fun vs H Q E => ∃ (a : Addr) (x : V), vs = [.ref a, x] ∧ H a = some (exo a C none) ∧ Fld x ∧ ∀ d, H d = none → d ≠ a → Q .non (upd (upd H d (exd d [(f1, x)])) a (exo a C (some d)))
def spErr2 (K : PySem.W.Frag) (C : Addr) (f1 f2 : Str) : Sp := fun vs H Q E => ∃ (a : Addr) (x y : V), vs = [.ref a, x, y] ∧ H a = some (exo a C none) ∧ Fld x ∧ Fld y ∧
  ∀ d, H d = none → d ≠ a → Q .non (upd (upd (upd H d (exd d [(f1, x)])) a (exo a C (some d))) d (exd d [(f2, y), (f1, x)]))
theorem str_empty_len : (Str.empty).length = 0 := rfl
section
variable {P : Program} {w : World} {K : PySem.W.Frag} {mg : Str → Option Value} {base : Heap} {f C cc cda : Addr} {name qual : Str} {params : Arguments} {scope : Scope} {dV kV doc pm ct : Value} {an : Option Addr} {p0 p1 ap cp ep q1 q2 q3 q4 q5 q6 q7 q8 q9 q10 q11 q12 q13 q14 q15 : Pos} {x n1 n2 f1 f2 w1 w2 : Str} {c1 c2 : Option String}
abbrev err2B (x n1 n2 f1 f2 w1 w2 : Str) (j1 j2 : Nat) (p0 p1 ap cp ep q1 q2 q3 q4 q5 q6 q7 q8 q9 q10 q11 q12 q13 q14 q15 : Pos) : List Stmt :=
  [.Expr (.Call (.Attribute (.Call (.Name "super" p0) [] [] p1) "__init__" ap) [.JoinedStr [.Constant (.str w1) j1 q1, .FormattedValue (.Name n1 q2) (-1) none q3, .Constant (.str w2) j2 q4, .FormattedValue (.Name n2 q5) (-1) none q6] q7] [] cp) ep,
   .Assign [.Attribute (.Name x q8) f1 q9] (.Name n1 q10) q11, .Assign [.Attribute (.Name x q12) f2 q13] (.Name n2 q14) q15]
theorem fnok_err2 {CX : CXT} {k j1 j2 : Nat} {pl : PySem.Env → Sem Bool} (T : InitK P K f C cc cda (PySem.W.fnX name qual params (err2B x n1 n2 f1 f2 w1 w2 j1 j2 p0 p1 ap cp ep q1 q2 q3 q4 q5 q6 q7 q8 q9 q10 q11 q12 q13 q14 q15) scope [("__class__", cc)] dV kV doc pm an (.ref cda) ct) x)
    (hcd : PySem.W.codeIn K (.ref cda) qual = true) (hms : mg "super" = none) (S : NScope [x, n1, n2, "__class__"] [x, n1, n2] ["__class__"] scope) (hks : scope.names.lookup ("super" : Str) = some .globalImplicit)
    (hw1 : w1.length ≤ 1000) (hw2 : w2.length ≤ 1000) (hf1 : PySem.W.findIn K (.ref C) f1 = some none) (hf2 : PySem.W.findIn K (.ref C) f2 = some none)
    (d0 : (x == ("__debug__" : Str)) = false) (d1 : (n1 == ("__debug__" : Str)) = false) (d2 : (n2 == ("__debug__" : Str)) = false) (e0 : (x == ("__classdict__" : Str)) = false) (e1 : (n1 == ("__classdict__" : Str)) = false) (e2 : (n2 == ("__classdict__" : Str)) = false)
    (hev : ∀ env : PySem.Env, eval (.Call (.Attribute (.Call (.Name "super" p0) [] [] p1) "__init__" ap) [.JoinedStr [.Constant (.str w1) j1 q1, .FormattedValue (.Name n1 q2) (-1) none q3, .Constant (.str w2) j2 q4, .FormattedValue (.Name n2 q5) (-1) none q6] q7] [] cp) env = (do
      let ov ← attributeBase (.Call (.Name "super" p0) [] [] p1) "__init__" env (eval (.Call (.Name "super" p0) [] [] p1) env)
      standAt ap.atName
      let (f, first) ← holding [ov] (getMethod ov "__init__" (pl env))
      callWith cp f first (backTo cp (starEach [.JoinedStr [.Constant (.str w1) j1 q1, .FormattedValue (.Name n1 q2) (-1) none q3, .Constant (.str w2) j2 q4, .FormattedValue (.Name n2 q5) (-1) none q6] q7] env)) []))
    (hsw : ∀ env : PySem.Env, swapsWith (.Call (.Attribute (.Call (.Name "super" p0) [] [] p1) "__init__" ap) [.JoinedStr [.Constant (.str w1) j1 q1, .FormattedValue (.Name n1 q2) (-1) none q3, .Constant (.str w2) j2 q4, .FormattedValue (.Name n2 q5) (-1) none q6] q7] [] cp) none ep.line env = pure false) :
    FnOk P w K mg base CX (k + 1) f (PySem.W.fnX name qual params (err2B x n1 n2 f1 f2 w1 w2 j1 j2 p0 p1 ap cp ep q1 q2 q3 q4 q5 q6 q7 q8 q9 q10 q11 q12 q13 q14 q15) scope [("__class__", cc)] dV kV doc pm an (.ref cda) ct) [x, n1, n2] (spErr2 K C f1 f2) := by
  have k0 := S.par x (by simp)
  have k1 := S.par n1 (by simp)
  have k2 := S.par n2 (by simp)
  refine fnok_init T hcd hms S rfl hks k0 (fun vs H Q E ⟨a, y, z, h, _⟩ => by rw [h]; rfl) hev (fun env => by rfl) hsw ?_
  intro A outer s H vs Q E ⟨a, y, z', hv, ea, fy, fz, hq⟩
  subst hv
  refine ⟨a, _, _, rfl, ea, pe_joined (.cons pe_str (.cons (pe_fmt (pe_var (i := 1) rfl (.inl k1) d1 e1)) (.cons pe_str (.cons (pe_fmt (pe_var (i := 2) rfl (.inl k2) d2 e2)) .nil)))),
    pss_cons (ps_ost (pe_var (i := 0) rfl (.inl k0) d0 e0) (pe_var (i := 1) rfl (.inl k1) d1 e1)) (pss_one (ps_ost (pe_var (i := 0) rfl (.inl k0) d0 e0) (pe_var (i := 2) rfl (.inl k2) d2 e2))), ?_⟩
  have z : ∀ {y : Str} {l : Nat}, y.length = l → l ≤ 10000 → y.length ≤ sizeLine := fun h1 h2 => by rw [sizeLine_eq]; omega
  have la := PySem.Str.length_append
  refine ⟨w1, rfl, z (la ..) (by rw [str_empty_len]; omega), ?_⟩
  refine fy.fmt (fun R r => ⟨y, rfl, r⟩) fun t1 ht1 => ⟨t1, rfl, z (by rw [la, la, str_empty_len]) (by omega), ?_⟩
  refine ⟨w2, rfl, z (by rw [la, la, la, str_empty_len]) (by omega), ?_⟩
  refine fz.fmt (fun R r => ⟨_, rfl, r⟩) fun t2 ht2 => ⟨t2, rfl, z (by rw [la, la, la, la, str_empty_len]) (by omega), ?_⟩
  refine ⟨ea, ?_⟩
  refine ⟨y, rfl, .ref a, rfl, a, C, rfl, T.cls, hf1, .inl ⟨ea, fun d hd dne => ?_⟩⟩
  exact ⟨z', rfl, .ref a, rfl, a, C, rfl, T.cls, hf2, .inr ⟨d, [(f1, y)], upd_same, by rw [upd_ne dne, upd_same], (by show 1 ≤ 900; omega), hq d hd dne⟩⟩
abbrev err1B (x n1 f1 w1 : Str) (j1 : Nat) (p0 p1 ap cp ep q1 q2 q3 q7 q8 q9 q10 q11 : Pos) : List Stmt :=
  [.Expr (.Call (.Attribute (.Call (.Name "super" p0) [] [] p1) "__init__" ap) [.JoinedStr [.Constant (.str w1) j1 q1, .FormattedValue (.Name n1 q2) (-1) none q3] q7] [] cp) ep,
   .Assign [.Attribute (.Name x q8) f1 q9] (.Name n1 q10) q11]
theorem fnok_err1 {CX : CXT} {k j1 : Nat} {pl : PySem.Env → Sem Bool} (T : InitK P K f C cc cda (PySem.W.fnX name qual params (err1B x n1 f1 w1 j1 p0 p1 ap cp ep q1 q2 q3 q7 q8 q9 q10 q11) scope [("__class__", cc)] dV kV doc pm an (.ref cda) ct) x)
    (hcd : PySem.W.codeIn K (.ref cda) qual = true) (hms : mg "super" = none) (S : NScope [x, n1, "__class__"] [x, n1] ["__class__"] scope) (hks : scope.names.lookup ("super" : Str) = some .globalImplicit)
    (hw1 : w1.length ≤ 1000) (hf1 : PySem.W.findIn K (.ref C) f1 = some none)
    (d0 : (x == ("__debug__" : Str)) = false) (d1 : (n1 == ("__debug__" : Str)) = false) (e0 : (x == ("__classdict__" : Str)) = false) (e1 : (n1 == ("__classdict__" : Str)) = false)
    (hev : ∀ env : PySem.Env, eval (.Call (.Attribute (.Call (.Name "super" p0) [] [] p1) "__init__" ap) [.JoinedStr [.Constant (.str w1) j1 q1, .FormattedValue (.Name n1 q2) (-1) none q3] q7] [] cp) env = (do
      let ov ← attributeBase (.Call (.Name "super" p0) [] [] p1) "__init__" env (eval (.Call (.Name "super" p0) [] [] p1) env)
      standAt ap.atName
      let (f, first) ← holding [ov] (getMethod ov "__init__" (pl env))
      callWith cp f first (backTo cp (starEach [.JoinedStr [.Constant (.str w1) j1 q1, .FormattedValue (.Name n1 q2) (-1) none q3] q7] env)) []))
    (hsw : ∀ env : PySem.Env, swapsWith (.Call (.Attribute (.Call (.Name "super" p0) [] [] p1) "__init__" ap) [.JoinedStr [.Constant (.str w1) j1 q1, .FormattedValue (.Name n1 q2) (-1) none q3] q7] [] cp) none ep.line env = pure false) :
    FnOk P w K mg base CX (k + 1) f (PySem.W.fnX name qual params (err1B x n1 f1 w1 j1 p0 p1 ap cp ep q1 q2 q3 q7 q8 q9 q10 q11) scope [("__class__", cc)] dV kV doc pm an (.ref cda) ct) [x, n1] (spErr1 K C f1) := by
  have k0 := S.par x (by simp)
  have k1 := S.par n1 (by simp)
  refine fnok_init T hcd hms S rfl hks k0 (fun vs H Q E ⟨a, y, h, _⟩ => by rw [h]; rfl) hev (fun env => by rfl) hsw ?_
  intro A outer s H vs Q E ⟨a, y, hv, ea, fy, hq⟩
  subst hv
  refine ⟨a, _, _, rfl, ea, pe_joined (.cons pe_str (.cons (pe_fmt (pe_var (i := 1) rfl (.inl k1) d1 e1)) .nil)),
    pss_one (ps_ost (pe_var (i := 0) rfl (.inl k0) d0 e0) (pe_var (i := 1) rfl (.inl k1) d1 e1)), ?_⟩
  have z : ∀ {y : Str} {l : Nat}, y.length = l → l ≤ 10000 → y.length ≤ sizeLine := fun h1 h2 => by rw [sizeLine_eq]; omega
  have la := PySem.Str.length_append
  refine ⟨w1, rfl, z (la ..) (by rw [str_empty_len]; omega), ?_⟩
  refine fy.fmt (fun R r => ⟨y, rfl, r⟩) fun t1 ht1 => ⟨t1, rfl, z (by rw [la, la, str_empty_len]) (by omega), ?_⟩
  refine ⟨ea, ?_⟩
  refine ⟨y, rfl, .ref a, rfl, a, C, rfl, T.cls, hf1, .inl ⟨ea, fun d hd dne => ?_⟩⟩
  exact hq d hd dne
end
end PD
set_option Elab.async false
set_option linter.all false
set_option maxRecDepth 100000
set_option maxHeartbeats 4000000
namespace PD
open PySem PySem.Spec PyProof.Rows L2
/-! ### raise C(a, b) -/
def fldB : PyData → Bool
  | .int i => decide (i.natAbs.log2 < 1000)
  | .str y => decide (y.length ≤ 1000)
  | _ => false
theorem fldB_ok {K : PySem.W.Frag} {H : Hp} {v : V} {d : PyData} (h : fldB d = true) (k : Dp K H v d) : Fld v := by
  cases d with
  | int i => exact .inl ⟨i, dp_int k, of_decide_eq_true h⟩
  | str y => exact .inr ⟨y, dp_str k, of_decide_eq_true h⟩
  | _ => cases h
/-- the class x with an __init__ of its own: two fields, one -/
def ErrC (P : Program) (w : World) (K : PySem.W.Frag) (mg : Str → Option Value) (base : Heap) (x : Str) (k : Nat) (sp : Addr → Sp) : Prop :=
  ∃ (C fI : Addr) (fd : FuncData) (ps : List Str), OexC K C ∧ PySem.W.findIn K (.ref C) "__init__" = some (some (.ref fI)) ∧ PySem.W.typeIn K (.ref fI) = some (.type "function") ∧ FnOk P w K mg base (L2.CX P w) k fI fd ps (sp C) ∧ Binds K fd ps [] ∧ mg x = some (.ref C)
def sRaise2 (x f1 f2 : Str) (ga : A) : S := fun env => match ga env with
  | .ok [d1, d2] => if fldB d1 = true ∧ fldB d2 = true then .er env x [(f2, d2), (f1, d1)] else .no
  | _ => .no
def sRaise1 (x f1 : Str) (ga : A) : S := fun env => match ga env with
  | .ok [d1] => if fldB d1 = true then .er env x [(f1, d1)] else .no
  | _ => .no
section
variable {X : Cx} {W : WX} {x f1 f2 : Str} {p pos pos' : Pos} {e1 e2 : Expr} {ga : A} {k kk : Nat}
variable [Tbs]
theorem cs_raise2 (G : ErrC X.prog X.w X.K X.mg X.base x k (fun C => spErr2 X.K C f1 f2)) (hr : Room kk X.A) (hk : k + 1 ≤ kk) (hc : X.calm = true) (tk : Takes X W) (hg : Gl X x) (ha : CA X W [e1, e2] ga) (hdb : (x == ("__debug__" : Str)) = false := by decide)
    (he : starEach [e1, e2] X.env = (false, eval e1 X.env) :: starEach [e2] X.env := by rfl) (hpl : (backTo pos (starEach [e2] X.env)).any (·.1) = false := by rfl) :
    CS X W (.Raise (some (.Call (.Name x p) [e1, e2] [] pos)) none pos') (sRaise2 x f1 f2 ga) := fun Z env σ H O D rp qq => by
  obtain ⟨C, fI, fd, ps, T, iC, tI, F1, hb, hm⟩ := G
  refine wp_s (ps_raise hc tk (pmk_oex T iC tI F1 (hr.mono hk) hb .nil (L2.passes_call tk fun _ _ _ _ h => h.elim) hg hm pa_wp hdb he hpl)) ?_
  unfold sRaise2 at qq
  cases hga : ga env with
  | er _ _ => rw [hga] at qq; exact qq.elim
  | no => rw [hga] at qq; exact qq.elim
  | ok ds =>
    rw [hga] at qq
    match ds, hga, qq with
    | [], _, qq => exact qq.elim
    | [_], _, qq => exact qq.elim
    | _ :: _ :: _ :: _, _, qq => exact qq.elim
    | [d1, d2], hga, qq =>
      have qq2 : SOk X W Z D (if fldB d1 = true ∧ fldB d2 = true then .er env x [(f2, d2), (f1, d1)] else .no) := qq
      by_cases hf : fldB d1 = true ∧ fldB d2 = true
      case neg => rw [if_neg hf] at qq2; exact qq2.elim
      rw [if_pos hf] at qq2
      refine ha Z env σ H O _ rp ?_
      rw [hga]
      intro H1 ex1 vs dvs
      cases dvs with
      | @cons v1 _ vr _ h1 hr1 =>
        cases hr1 with
        | @cons v2 _ _ _ h2 hr2 =>
          cases hr2
          refine ⟨by show 2 ≤ 1000; omega, fun a na => ?_⟩
          refine ⟨a, v1, v2, rfl, upd_same, fldB_ok hf.1 h1, fldB_ok hf.2 h2, fun d hd dne => ?_⟩
          have hd1 : H1 d = none := by rw [upd_ne dne] at hd; exact hd
          refine ⟨rfl, d, _, by rw [upd_ne (Ne.symm dne), upd_same], upd_same, hd1, ?_⟩
          have eH : upd (del (upd (upd (upd (upd H1 a (exo a C none)) d (exd d [(f1, v1)])) a (exo a C (some d))) d (exd d [(f2, v2), (f1, v1)])) a) d (.xd [(f2, v2), (f1, v1)]) = upd H1 d (.xd [(f2, v2), (f1, v1)]) := by
            funext b
            by_cases hb : b = d
            · rw [hb, upd_same, upd_same]
            · rw [upd_ne hb, upd_ne hb]
              by_cases hba : b = a
              · rw [hba, del_same, na]
              · rw [del_ne hba, upd_ne hb, upd_ne hba, upd_ne hb, upd_ne hba]
          rw [eH]
          have e2 : Ext H1 (upd H1 d (.xd [(f2, v2), (f1, v1)])) := Ext.new hd1
          have r2 := (rp.mono ex1).mono e2
          have nO : d ∉ O := Lv.out (rp.mono ex1).lv hd1
          refine qq2 (.ref C) (some d) σ _ O r2 ⟨hm, .inr ⟨by simp, d, _, rfl, by rw [hid_out nO, upd_same], rfl, ?_⟩⟩
          exact .cons ((e2.hid O).dp h2) (.cons ((e2.hid O).dp h1) .nil)
theorem cs_raise1 (G : ErrC X.prog X.w X.K X.mg X.base x k (fun C => spErr1 X.K C f1)) (hr : Room kk X.A) (hk : k + 1 ≤ kk) (hc : X.calm = true) (tk : Takes X W) (hg : Gl X x) (ha : CA X W [e1] ga) (hdb : (x == ("__debug__" : Str)) = false := by decide)
    (he : starEach [e1] X.env = (false, eval e1 X.env) :: starEach [] X.env := by rfl) (hpl : (backTo pos (starEach [] X.env)).any (·.1) = false := by rfl) :
    CS X W (.Raise (some (.Call (.Name x p) [e1] [] pos)) none pos') (sRaise1 x f1 ga) := fun Z env σ H O D rp qq => by
  obtain ⟨C, fI, fd, ps, T, iC, tI, F1, hb, hm⟩ := G
  refine wp_s (ps_raise hc tk (pmk_oex T iC tI F1 (hr.mono hk) hb .nil (L2.passes_call tk fun _ _ _ _ h => h.elim) hg hm pa_wp hdb he hpl)) ?_
  unfold sRaise1 at qq
  cases hga : ga env with
  | er _ _ => rw [hga] at qq; exact qq.elim
  | no => rw [hga] at qq; exact qq.elim
  | ok ds =>
    rw [hga] at qq
    match ds, hga, qq with
    | [], _, qq => exact qq.elim
    | _ :: _ :: _, _, qq => exact qq.elim
    | [d1], hga, qq =>
      have qq2 : SOk X W Z D (if fldB d1 = true then .er env x [(f1, d1)] else .no) := qq
      by_cases hf : fldB d1 = true
      case neg => rw [if_neg hf] at qq2; exact qq2.elim
      rw [if_pos hf] at qq2
      refine ha Z env σ H O _ rp ?_
      rw [hga]
      intro H1 ex1 vs dvs
      cases dvs with
      | @cons v1 _ vr _ h1 hr1 =>
        cases hr1
        refine ⟨by show 1 ≤ 1000; omega, fun a na => ?_⟩
        refine ⟨a, v1, rfl, upd_same, fldB_ok hf h1, fun d hd dne => ?_⟩
        have hd1 : H1 d = none := by rw [upd_ne dne] at hd; exact hd
        refine ⟨rfl, d, _, upd_same, by rw [upd_ne dne, upd_same], hd1, ?_⟩
        have eH : upd (del (upd (upd (upd H1 a (exo a C none)) d (exd d [(f1, v1)])) a (exo a C (some d))) a) d (.xd [(f1, v1)]) = upd H1 d (.xd [(f1, v1)]) := by
          funext b
          by_cases hb : b = d
          · rw [hb, upd_same, upd_same]
          · rw [upd_ne hb, upd_ne hb]
            by_cases hba : b = a
            · rw [hba, del_same, na]
            · rw [del_ne hba, upd_ne hba, upd_ne hb, upd_ne hba]
        rw [eH]
        have e2 : Ext H1 (upd H1 d (.xd [(f1, v1)])) := Ext.new hd1
        have r2 := (rp.mono ex1).mono e2
        have nO : d ∉ O := Lv.out (rp.mono ex1).lv hd1
        refine qq2 (.ref C) (some d) σ _ O r2 ⟨hm, .inr ⟨by simp, d, _, rfl, by rw [hid_out nO, upd_same], rfl, ?_⟩⟩
        exact .cons ((e2.hid O).dp h1) .nil
end
end PD
set_option Elab.async false
set_option linter.all false
set_option maxRecDepth 100000
set_option maxHeartbeats 4000000
namespace PD
open PySem PySem.Spec PyProof.Rows L2
/-! ### len(range(a, b, c)) -/
def dRl : PyData → PyData → PyData → Option PyData
  | .int a, .int b, .int c => if c ≠ 0 ∧ c.natAbs < 1073741824 ∧ 0 ≤ Builtin.Range.rangeSize a b c ∧ Builtin.Range.rangeSize a b c < 1073741824 then some (.int (Builtin.Range.rangeSize a b c)) else none
  | _, _, _ => none
def eRl (ga : A) : E := fun env => ga env >>= fun ds => match ds with
  | [x, y, z] => ofO (dRl x y z)
  | _ => .no
section
variable {X : Cx} {W : WX} {a b c : Expr} {ga : A} {p1 p2 pos pos2 : Pos}
variable [Tbs]
theorem ce_rl (ha : CA X W [a, b, c] ga) (hgl : Gl X "len") (hml : X.mg "len" = none) (hg : Gl X "range") (hm : X.mg "range" = none)
    (hs : starEach [a, b, c] X.env = (false, eval a X.env) :: starEach [b, c] X.env := by rfl) (hpl : (backTo pos (starEach [b, c] X.env)).any (·.1) = false := by rfl)
    (he : starEach [.Call (.Name "range" p1) [a, b, c] [] pos] X.env = (false, eval (.Call (.Name "range" p1) [a, b, c] [] pos) X.env) :: starEach [] X.env := by rfl) :
    CE X W (.Call (.Name "len" p2) [.Call (.Name "range" p1) [a, b, c] [] pos] [] pos2) (eRl ga) := fun Z env σ H O Q r q => by
  intro pins s I
  refine Call_ (ld_blt I hgl hml PySem.boot_len (PyProof.Rows.callWith_builtin1 (Q := EP X pins σ Q) ?_ he rfl))
  rw [he]
  refine Calls.spliced_cons (x := eval (.Call (.Name "range" p1) [a, b, c] [] pos) X.env) ?_
  refine Call_ (ld_blt I hg hm boot_range (PyProof.Rows.callWith_type1 ?_ hs hpl))
  unfold eRl at q
  refine thn (ha.go r q (Q := fun vs H1 => ∃ x y z : Int, vs = [.int x, .int y, .int z] ∧ (z ≠ 0 ∧ z.natAbs < 1073741824 ∧ 0 ≤ Builtin.Range.rangeSize x y z ∧ Builtin.Range.rangeSize x y z < 1073741824) ∧ Q (.int (Builtin.Range.rangeSize x y z)) H1) (fun ds vs H1 e1 d1 r1 q1 => ?_) pos pins s I) (fun us s1 hh => ?_)
  · match ds, d1, q1 with
    | [], _, q1 => exact q1.elim
    | [_], _, q1 => exact q1.elim
    | [_, _], _, q1 => exact q1.elim
    | _ :: _ :: _ :: _ :: _, _, q1 => exact q1.elim
    | [x, y, z], d1, q1 =>
      have q2 : ROk X W σ O (VQ X.K O Q) H1 (ofO (dRl x y z)) := q1
      cases x with
      | int x =>
        cases y with
        | int y =>
          cases z with
          | int z =>
            cases d1 with
            | cons h1 hr => cases hr with
              | cons h2 hr => cases hr with
                | cons h3 hr =>
                  cases hr
                  cases dp_int h1
                  cases dp_int h2
                  cases dp_int h3
                  have q3 : ROk X W σ O (VQ X.K O Q) H1 (ofO (if z ≠ 0 ∧ z.natAbs < 1073741824 ∧ 0 ≤ Builtin.Range.rangeSize x y z ∧ Builtin.Range.rangeSize x y z < 1073741824 then some (PyData.int (Builtin.Range.rangeSize x y z)) else none)) := q2
                  by_cases hz : z ≠ 0 ∧ z.natAbs < 1073741824 ∧ 0 ≤ Builtin.Range.rangeSize x y z ∧ Builtin.Range.rangeSize x y z < 1073741824
                  · rw [if_pos hz] at q3
                    exact ⟨x, y, z, rfl, hz, q3.here _ (.int _)⟩
                  · rw [if_neg hz] at q3
                    exact q3.elim
          | _ => exact q2.elim
        | _ => exact q2.elim
      | _ => exact q2.elim
  · obtain ⟨vs, H1, I1, r1, x, y, z, rfl, ⟨c0, c1, c2, c3⟩, q1⟩ := hh
    cases r1 with
    | cons r rr =>
      cases rr with
      | cons r' rr =>
        cases rr with
        | cons r'' rr =>
          cases rr
          obtain ⟨t, rfl⟩ := r
          obtain ⟨t', rfl⟩ := r'
          obtain ⟨t'', rfl⟩ := r''
          refine call_range_3 c0 ?_ (.inl (PyProof.noPylong_small c1))
          refine Calls.spliced_nil ?_
          obtain ⟨n, hn⟩ := Int.eq_ofNat_of_zero_le c2
          have I2 : Inv X pins σ H1 { s1 with heap := s1.heap.push { cls := .type "range", data := .fields #[.int x t, .int y t', .int z t''] } } := I1.kept (t' := s1.toks) fun b o e => Heap.get?_push_of_some _ e
          refine call_len_range (n := n) (IsRange.new ..) hn (by omega) ?_
          exact ⟨.int n, H1, I2.tok _, ⟨_, rfl⟩, by rw [hn] at q1; exact q1⟩
end
/-! ### err.f in an except suite -/
theorem look_fld {K : PySem.W.Frag} {H : Hp} {f : Str} {d : PyData} : ∀ (fs : List (Str × V)) (fl : Flds), fs.map (·.1) = fl.map (·.1) → DpAll K H (fs.map (·.2)) (fl.map (·.2)) → fl.lookup f = some d → ∃ v, fs.lookup f = some v ∧ Dp K H v d
  | [], [], _, _, h => by cases h
  | [], _ :: _, e, _, _ => by cases e
  | _ :: _, [], e, _, _ => by cases e
  | (k, v) :: fs, (k', d') :: fl, e, hd, h => by
    have e1 : k = k' := (List.cons.inj e).1
    have e2 := (List.cons.inj e).2
    subst e1
    cases hd with
    | cons h1 h2 =>
      by_cases q : f = k
      · subst q
        rw [List.lookup_cons, beq_self_eq_true] at h
        cases h
        exact ⟨v, by rw [List.lookup_cons, beq_self_eq_true], h1⟩
      · have qb : (f == k) = false := by simpa using q
        rw [List.lookup_cons, qb] at h
        obtain ⟨v', e3, e4⟩ := look_fld fs fl e2 h2 h
        exact ⟨v', by rw [List.lookup_cons, qb]; exact e3, e4⟩
def xFld (c0 f : Str) : Ex := fun c fl _ => if c = c0 then (match fl.lookup f with | some d => .ok d | none => .no) else .no
section
variable {X : Cx} {i : Nat} {a C : Addr} {oe : Obj} {pn : List (Addr × Obj)} {cls : Value} {od : Option Addr} {n f c0 : Str} {pos p1 : Pos}
variable [Tbs]
theorem cx_fld (T : XfC X.K C) (m0 : X.mg c0 = some (.ref C)) (hno : PySem.W.findIn X.K (.ref C) f = some none) (hz : Zc cls od oe) (hf : ∃ vs, oe.data = .fields vs) (hN : X.N[i]? = some n) (hv : Vis X.env.scope n)
    (hd : (n == ("__debug__" : Str)) = false := by decide) (hcd : (n == ("__classdict__" : Str)) = false := by decide)
    (hb : attributeBase (.Name n p1) f X.env (eval (.Name n p1) X.env) = eval (.Name n p1) X.env := by rfl) :
    CEx (X.suite a ((a, oe) :: pn)) i a cls od (.Attribute (.Name n p1) f pos) (xFld c0 f) := fun Z env σ H O Q c fl r hi xr q => by
  unfold xFld at q
  by_cases hc : c = c0
  case neg => rw [if_neg hc] at q; exact q.elim
  subst hc
  rw [if_pos rfl] at q
  cases hl : fl.lookup f with
  | none => rw [hl] at q; exact q.elim
  | some d =>
    rw [hl] at q
    obtain ⟨x1, x2⟩ := xr
    have e1 : cls = .ref C := Option.some.inj ((show X.mg c = some cls from x1).symm.trans m0)
    rcases x2 with ⟨h, _⟩ | ⟨_, dd, fs, ed, hx, hk, hda⟩
    · rw [h] at hl; cases hl
    · obtain ⟨v, hlv, hdv⟩ := look_fld fs fl hk hda hl
      refine wp_e (pe_xf T hno hz hf (pe_var hN hv hd hcd) hb) ?_
      exact ⟨_, hi, rfl, e1, dd, fs, v, ed, (hid_some hx).2, hlv, q.here v hdv⟩
end
/-! ### xs.extend([..]) -/
def sExt (i : Nat) (fl : A) : S := fun env => ofR (gvo env i) env fun xs => ofR (fl env) env fun ys => if xs.length + ys.length ≤ sizeLine then .nx (env.set i (some (.own (xs ++ ys)))) else .no
section
variable {X : Cx} {W : WX} {i : Nat} {x : Str} {px apos cpos pos : Pos} {e : Expr} {fl : A}
variable [Tbs]
theorem cs_ext (hN : X.N[i]? = some x) (hv : Vis X.env.scope x) (hd : (x == ("__debug__" : Str)) = false) (hcd : (x == ("__classdict__" : Str)) = false) (he : CL X W e fl)
    (hbase : attributeBase (.Name x px) "extend" X.env (eval (.Name x px) X.env) = eval (.Name x px) X.env := by rfl)
    (hfew : ((backTo cpos (starEach [e] X.env)).all (fun x => !x.1) && (backToKw cpos (keywordEach [] X.env)).all (fun x => x.1.isSome) && decide (([e] : List Expr).length + ([] : List Keyword).length + (if ([] : List Keyword).isEmpty then 0 else 1) < 30)) = true := by rfl)
    (hline : (apos.endLine == cpos.line) = true := by rfl) (hs : starEach [e] X.env = (false, eval e X.env) :: starEach [] X.env := by rfl) (hplain : (backTo cpos (starEach [] X.env)).any (·.1) = false := by rfl)
    (hsw : swapsWith (.Call (.Attribute (.Name x px) "extend" apos) [e] [] cpos) none pos.line X.env = pure false := by rfl) :
    CS X W (.Expr (.Call (.Attribute (.Name x px) "extend" apos) [e] [] cpos) pos) (sExt i fl) := fun Z env σ H O D r q => by
  refine wp_s (ps_expr (pe_bm PySem.F.plainAttrs_list PySem.F.slot_list_extend PySem.F.type_list_extend mt_extend pe_wp (pa_cons pe_wp pa_nil hs) hbase hfew hline hs hplain) hsw) ?_
  unfold sExt at q
  rcases gvo_cases env i with ⟨ds, hi⟩ | hi
  · rw [hi] at q
    refine own_read r (gvo_ok hi) hN hv hd hcd fun p vs s1 s2 s3 s4 s5 => ⟨.inl ⟨rfl, vs, SqL.of s4⟩, ?_⟩
    refine he Z env σ H O _ r ?_
    cases hl : fl env with
    | er c f2 =>
      rw [hl] at q
      exact fun C od H' e1 xr => q C od σ H' O (r.mono e1) xr
    | no => rw [hl] at q; exact q.elim
    | ok ys =>
      rw [hl] at q
      intro H1 e1 p2 vs2 hp2 hd2
      have q1 : SOk X W Z D (if ds.length + ys.length ≤ sizeLine then .nx (env.set i (some (.own (ds ++ ys)))) else .no) := q
      by_cases hz : ds.length + ys.length ≤ sizeLine
      · rw [if_pos hz] at q1
        have e2 : Ext H1 (upd H1 p2 (.lst vs2)) := Ext.new hp2
        have r2 := (r.mono e1).mono e2
        exact ⟨p, p2, vs, vs2, rfl, rfl, e2.lst (e1.lst s4), upd_same, by rw [dpa_len s5, dpa_len hd2]; exact hz, q1 _ _ _ (r2.mutOwn (gvo_ok hi) s1 (dpa_app (((e1.trans e2).hid O).dpa s5) ((e2.hid O).dpa hd2)))⟩
      · rw [if_neg hz] at q1
        exact q1.elim
  · rw [hi] at q
    exact q.elim
end
end PD
set_option Elab.async false
set_option linter.all false
set_option maxRecDepth 100000
set_option maxHeartbeats 4000000
namespace PD
open PySem PySem.Spec PyProof.Rows L2
/-- an own class whose errors have an __init__ of their own -/
structure XC2 (K : PySem.W.Frag) (mg : Str → Option Value) (c : Str) (a : Addr) : Prop where
  gg : mg c = some (.ref a)
  kk : PySem.W.keepIn K (.ref a) = true
  bb : PySem.W.subIn K (.ref a) (.type "BaseException") = some true
  tt : PySem.W.typeIn K (.ref a) = some (.type "type")
def oexB (K : PySem.W.Frag) (C : Addr) : Bool := match K.lookup C with
  | some ⟨.type "type", _, .cls cd, sl⟩ => (match cd.mro, sl.toList with
    | .ref C' :: bm, [_, _, _, _, some (.builtin n), _] => C' == C && n == "ValueError.__new__" && !cd.hasDel && cd.hasDict && PySem.HandSPX.refsVE bm
    | _, _ => false)
  | _ => false
end PD
namespace PD
open PySem PySem.Spec PyProof.Rows L2 NdefX
theorem oexC_of {K : PySem.W.Frag} {C : Addr} (q : oexB K C = true) (sa : PySem.W.findIn K (.ref C) "__setattr__" = some (some (.builtin "object.__setattr__"))) (b : PySem.W.subIn K (.ref C) (.type "BaseException") = some true) (t : PySem.W.typeIn K (.ref C) = some (.type "type"))
    (k : PySem.W.keepIn K (.ref C) = true) : OexC K C := by
  refine ⟨?_, sa, b, t, k⟩
  unfold oexB at q
  split at q
  · rename_i dd cd sl ho
    split at q
    · rename_i C' bm k0 k1 k2 k3 n k5 hm hs
      simp only [Bool.and_eq_true, beq_iff_eq, Bool.not_eq_true'] at q
      obtain ⟨⟨⟨⟨rfl, rfl⟩, hdel⟩, hdct⟩, ht⟩ := q
      obtain ⟨nm, bs, mro, ns, qn, hd, sn, sub, ab, col, del⟩ := cd
      dsimp only at hm hdel hdct
      subst hm hdel hdct
      have hsl : sl = #[k0, k1, k2, k3, some (.builtin "ValueError.__new__"), k5] := by
        obtain ⟨l⟩ := sl
        simp only at hs
        rw [hs]
      subst hsl
      exact ⟨nm, qn, ns, bs, bm, sn, sub, ab, col, dd, k0, k1, k2, k3, k5, ho, ht⟩
    · cases q
  · cases q
/-- what the end of a text tells of such a class -/
structure ErrK (P : Program) (K : PySem.W.Frag) (C f cc cda : Addr) (fd : FuncData) (qual : Str) (x : Str) : Prop where
  init : InitK P K f C cc cda fd x
  cd : PySem.W.codeIn K (.ref cda) qual = true
  find : PySem.W.findIn K (.ref C) "__init__" = some (some (.ref f))
  typ : PySem.W.typeIn K (.ref f) = some (.type "function")
section
variable {P : Program} {w : World} {K : PySem.W.Frag} {mg : Str → Option Value} {base : Heap} {f C cc cda : Addr} {c name qual : Str} {params : Arguments} {body : List Stmt} {scope : Scope} {dV kV doc pm ct : Value} {an : Option Addr} {p0 p1 ap cp ep q1 q2 q3 q4 q5 q6 q7 q8 q9 q10 q11 q12 q13 q14 q15 : Pos} {x n1 n2 f1 f2 w1 w2 : Str}
theorem errC2_mk {k j1 j2 : Nat} {pl : PySem.Env → Sem Bool} (G : ErrK P K C f cc cda (PySem.W.fnX name qual params body scope [("__class__", cc)] dV kV doc pm an (.ref cda) ct) qual x) (hm : mg c = some (.ref C))
    (hbd : body = err2B x n1 n2 f1 f2 w1 w2 j1 j2 p0 p1 ap cp ep q1 q2 q3 q4 q5 q6 q7 q8 q9 q10 q11 q12 q13 q14 q15)
    (hb : Binds K (PySem.W.fnX name qual params body scope [("__class__", cc)] dV kV doc pm an (.ref cda) ct) [x, n1, n2] [])
    (hms : mg "super" = none) (S : NScope [x, n1, n2, "__class__"] [x, n1, n2] ["__class__"] scope) (hks : scope.names.lookup ("super" : Str) = some .globalImplicit)
    (hw : w1.length ≤ 1000 ∧ w2.length ≤ 1000) (hf1 : PySem.W.findIn K (.ref C) f1 = some none) (hf2 : PySem.W.findIn K (.ref C) f2 = some none)
    (d0 : (x == ("__debug__" : Str)) = false ∧ (n1 == ("__debug__" : Str)) = false ∧ (n2 == ("__debug__" : Str)) = false ∧ (x == ("__classdict__" : Str)) = false ∧ (n1 == ("__classdict__" : Str)) = false ∧ (n2 == ("__classdict__" : Str)) = false)
    (hev : ∀ env : PySem.Env, eval (.Call (.Attribute (.Call (.Name "super" p0) [] [] p1) "__init__" ap) [.JoinedStr [.Constant (.str w1) j1 q1, .FormattedValue (.Name n1 q2) (-1) none q3, .Constant (.str w2) j2 q4, .FormattedValue (.Name n2 q5) (-1) none q6] q7] [] cp) env = (do
      let ov ← attributeBase (.Call (.Name "super" p0) [] [] p1) "__init__" env (eval (.Call (.Name "super" p0) [] [] p1) env)
      standAt ap.atName
      let (f, first) ← holding [ov] (getMethod ov "__init__" (pl env))
      callWith cp f first (backTo cp (starEach [.JoinedStr [.Constant (.str w1) j1 q1, .FormattedValue (.Name n1 q2) (-1) none q3, .Constant (.str w2) j2 q4, .FormattedValue (.Name n2 q5) (-1) none q6] q7] env)) []))
    (hsw : ∀ env : PySem.Env, swapsWith (.Call (.Attribute (.Call (.Name "super" p0) [] [] p1) "__init__" ap) [.JoinedStr [.Constant (.str w1) j1 q1, .FormattedValue (.Name n1 q2) (-1) none q3, .Constant (.str w2) j2 q4, .FormattedValue (.Name n2 q5) (-1) none q6] q7] [] cp) none ep.line env = pure false) :
    ErrC P w K mg base c (k + 1) (fun C => spErr2 K C f1 f2) := by
  subst hbd
  exact ⟨C, f, _, _, G.init.cls, G.find, G.typ, fnok_err2 G.init G.cd hms S hks hw.1 hw.2 hf1 hf2 d0.1 d0.2.1 d0.2.2.1 d0.2.2.2.1 d0.2.2.2.2.1 d0.2.2.2.2.2 hev hsw, hb, hm⟩
theorem errC1_mk {k j1 : Nat} {pl : PySem.Env → Sem Bool} (G : ErrK P K C f cc cda (PySem.W.fnX name qual params body scope [("__class__", cc)] dV kV doc pm an (.ref cda) ct) qual x) (hm : mg c = some (.ref C))
    (hbd : body = err1B x n1 f1 w1 j1 p0 p1 ap cp ep q1 q2 q3 q7 q8 q9 q10 q11)
    (hb : Binds K (PySem.W.fnX name qual params body scope [("__class__", cc)] dV kV doc pm an (.ref cda) ct) [x, n1] [])
    (hms : mg "super" = none) (S : NScope [x, n1, "__class__"] [x, n1] ["__class__"] scope) (hks : scope.names.lookup ("super" : Str) = some .globalImplicit)
    (hw : w1.length ≤ 1000) (hf1 : PySem.W.findIn K (.ref C) f1 = some none)
    (d0 : (x == ("__debug__" : Str)) = false ∧ (n1 == ("__debug__" : Str)) = false ∧ (x == ("__classdict__" : Str)) = false ∧ (n1 == ("__classdict__" : Str)) = false)
    (hev : ∀ env : PySem.Env, eval (.Call (.Attribute (.Call (.Name "super" p0) [] [] p1) "__init__" ap) [.JoinedStr [.Constant (.str w1) j1 q1, .FormattedValue (.Name n1 q2) (-1) none q3] q7] [] cp) env = (do
      let ov ← attributeBase (.Call (.Name "super" p0) [] [] p1) "__init__" env (eval (.Call (.Name "super" p0) [] [] p1) env)
      standAt ap.atName
      let (f, first) ← holding [ov] (getMethod ov "__init__" (pl env))
      callWith cp f first (backTo cp (starEach [.JoinedStr [.Constant (.str w1) j1 q1, .FormattedValue (.Name n1 q2) (-1) none q3] q7] env)) []))
    (hsw : ∀ env : PySem.Env, swapsWith (.Call (.Attribute (.Call (.Name "super" p0) [] [] p1) "__init__" ap) [.JoinedStr [.Constant (.str w1) j1 q1, .FormattedValue (.Name n1 q2) (-1) none q3] q7] [] cp) none ep.line env = pure false) :
    ErrC P w K mg base c (k + 1) (fun C => spErr1 K C f1) := by
  subst hbd
  exact ⟨C, f, _, _, G.init.cls, G.find, G.typ, fnok_err1 G.init G.cd hms S hks hw hf1 d0.1 d0.2.1 d0.2.2.1 d0.2.2.2 hev hsw, hb, hm⟩
end
end PD
set_option Elab.async false
set_option linter.all false
set_option maxRecDepth 100000
set_option maxHeartbeats 4000000
namespace KM
open PySem PySem.Spec PyProof.Rows L2 PD
def B_is_integer : S := (sRet (eAn (eIsi "int" (eVar 0)) (eNt (eIsi "bool" (eVar 0)))))
def F_is_integer : List PyData → RO PyData := runD 1 B_is_integer
def B_is_ratio : S := (sSeq (sIf (tOr (tNt (tT (eIsi "tuple" (eVar 0)))) (tCm dNe (eBf cLen (aCons (eVar 0) aNil)) (eC (.int 2)))) (sRet (eC (.bool false))) sNx) (sSeq (sAsg (eVar 0) (gT 2 (gsC (gN 1) (gsC (gN 2) gsN)))) (sSeq (sIf (tOr (tNt (tT (eCall 1 F_is_integer (aCons (eVar 1) aNil)))) (tNt (tT (eCall 1 F_is_integer (aCons (eVar 2) aNil))))) (sRet (eC (.bool false))) sNx) (sRet (eAn (eOp dGe (eVar 2) (eC (.int 1))) (eOp dEq (eBf cGcd (aCons (eVar 1) (aCons (eVar 2) aNil))) (eC (.int 1))))))))
def F_is_ratio : List PyData → RO PyData := runD 3 B_is_ratio
def B_is_vector : S := (sSeq (sIf (tNt (tT (eIsi "tuple" (eVar 0)))) (sRet (eC (.bool false))) sNx) (sSeq (sIf (tAn (tCm dIsN (eVar 1) (eC .none)) (tCm dNe (eBf cLen (aCons (eVar 0) aNil)) (eVar 1))) (sRet (eC (.bool false))) sNx) (sRet (eAn2 true (iSeq (eVar 0)) (gN 2) (eCall 1 F_is_ratio (aCons (eVar 2) aNil)) [2]))))
def F_is_vector : List PyData → RO PyData := runD 3 B_is_vector
def B_is_matrix : S := (sSeq (sIf (tOr (tNt (tT (eIsi "tuple" (eVar 0)))) (tCm dEq (eVar 0) (eTup aNil))) (sRet (eC (.bool false))) sNx) (sSeq (sIf (tAn (tCm dIsN (eVar 1) (eC .none)) (tCm dNe (eBf cLen (aCons (eVar 0) aNil)) (eVar 1))) (sRet (eC (.bool false))) sNx) (sSeq (sIf (tNt (tT (eIsi "tuple" (eIx (eVar 0) (eC (.int 0)))))) (sRet (eC (.bool false))) sNx) (sSeq (sSet 3 (eBf cLen (aCons (eIx (eVar 0) (eC (.int 0))) aNil))) (sSeq (sIf (tAn (tCm dIsN (eVar 2) (eC .none)) (tCm dNe (eVar 3) (eVar 2))) (sRet (eC (.bool false))) sNx) (sRet (eAn2 true (iSeq (eVar 0)) (gN 4) (eCall 2 F_is_vector (aCons (eVar 4) (aCons (eVar 3) aNil))) [4])))))))
def F_is_matrix : List PyData → RO PyData := runD 5 B_is_matrix
def B_is_group : S := (sSeq (sIf (tOr (tNt (tT (eIsi "tuple" (eVar 0)))) (tCm dEq (eVar 0) (eTup aNil))) (sRet (eC (.bool false))) sNx) (sSeq (sSet 1 (eUn dNeg (eC (.int 1)))) (sSeq (sFor (iSeq (eVar 0)) (gN 2) (sSeq (sIf (tOr (tNt (tT (eCall 1 F_is_integer (aCons (eVar 2) aNil)))) (tCm dLe (eVar 2) (eVar 1))) (sRet (eC (.bool false))) sNx) (sSet 1 (eVar 2)))) (sRet (eC (.bool true))))))
def F_is_group : List PyData → RO PyData := runD 3 B_is_group
def B_is_window : S := (sSeq (sIf (tOr (tNt (tT (eCall 1 F_is_integer (aCons (eVar 0) aNil)))) (tOr (tCm dLt (eVar 0) (eC (.int 1))) (tCm dGt (eVar 0) (eC (.int 1000))))) (sRet (eC (.bool false))) sNx) (sRet (eAn (eCall 2 F_is_vector (aCons (eVar 1) (aCons (eC .none) aNil))) (eAn (eOp dNe (eVar 1) (eTup aNil)) (eCall 1 F_is_ratio (aCons (eVar 2) aNil))))))
def F_is_window : List PyData → RO PyData := runD 3 B_is_window
def B_is_layer : S := (sSeq (sIf (tOr (tNt (tT (eIsi "tuple" (eVar 0)))) (tCm dEq (eVar 0) (eTup aNil))) (sRet (eC (.bool false))) sNx) (sSeq (sSet 1 (eIx (eVar 0) (eC (.int 0)))) (sSeq (sSet 2 (eSl (eVar 0) (oS (eC (.int 1))) oN)) (sSeq (sIf (tAn (tCm dEq (eVar 1) (eC (.str "sums"))) (tCm dEq (eBf cLen (aCons (eVar 2) aNil)) (eC (.int 2)))) (sRet (eAn (eCall 3 F_is_matrix (aCons (eIx (eVar 2) (eC (.int 0))) (aCons (eC .none) (aCons (eC .none) aNil)))) (eCall 2 F_is_vector (aCons (eIx (eVar 2) (eC (.int 1))) (aCons (eC .none) aNil))))) sNx) (sSeq (sIf (tAn (tCm dEq (eVar 1) (eC (.str "bends"))) (tCm dEq (eBf cLen (aCons (eVar 2) aNil)) (eC (.int 1)))) (sRet (eAn (eIsi "tuple" (eIx (eVar 2) (eC (.int 0)))) (eAn2 true (iSeq (eIx (eVar 2) (eC (.int 0)))) (gN 4) (eIsi "bool" (eVar 4)) [4]))) sNx) (sSeq (sIf (tAn (tCm dEq (eVar 1) (eC (.str "greatest"))) (tCm dEq (eBf cLen (aCons (eVar 2) aNil)) (eC (.int 1)))) (sSeq (sSet 3 (eIx (eVar 2) (eC (.int 0)))) (sRet (eAn (eIsi "tuple" (eVar 3)) (eAn (eOp dNe (eVar 3) (eTup aNil)) (eAn2 true (iSeq (eVar 3)) (gN 5) (eCall 1 F_is_group (aCons (eVar 5) aNil)) [5]))))) sNx) (sSeq (sIf (tAn (tCm dEq (eVar 1) (eC (.str "window"))) (tCm dEq (eBf cLen (aCons (eVar 2) aNil)) (eC (.int 3)))) (sRet (eCall 3 F_is_window (aCons (eIx (eVar 2) (eC (.int 0))) (aCons (eIx (eVar 2) (eC (.int 1))) (aCons (eIx (eVar 2) (eC (.int 2))) aNil))))) sNx) (sRet (eC (.bool false))))))))))
def F_is_layer : List PyData → RO PyData := runD 6 B_is_layer
def B_fits : S := (sSeq (sSet 2 (eIx (eVar 0) (eC (.int 0)))) (sSeq (sIf (tCm dEq (eVar 2) (eC (.str "sums"))) (sRet (eAn (eOp dEq (eBf cLen (aCons (eIx (eIx (eVar 0) (eC (.int 1))) (eC (.int 0))) aNil)) (eVar 1)) (eOp dEq (eBf cLen (aCons (eIx (eVar 0) (eC (.int 2))) aNil)) (eBf cLen (aCons (eIx (eVar 0) (eC (.int 1))) aNil))))) sNx) (sSeq (sIf (tCm dEq (eVar 2) (eC (.str "bends"))) (sRet (eOp dEq (eBf cLen (aCons (eIx (eVar 0) (eC (.int 1))) aNil)) (eVar 1))) sNx) (sSeq (sIf (tCm dEq (eVar 2) (eC (.str "greatest"))) (sRet (eAn2 true (iSeq (eIx (eVar 0) (eC (.int 1)))) (gN 3) (eOp dLt (eIx (eVar 3) (eUn dNeg (eC (.int 1)))) (eVar 1)) [3])) sNx) (sRet (eOp dLe (eBf cLen (aCons (eIx (eVar 0) (eC (.int 2))) aNil)) (eVar 1)))))))
def F_fits : List PyData → RO PyData := runD 4 B_fits
def B_given : S := (sSeq (sSet 2 (eIx (eVar 0) (eC (.int 0)))) (sSeq (sIf (tOr (tCm dEq (eVar 2) (eC (.str "sums"))) (tCm dEq (eVar 2) (eC (.str "greatest")))) (sRet (eBf cLen (aCons (eIx (eVar 0) (eC (.int 1))) aNil))) sNx) (sSeq (sIf (tCm dEq (eVar 2) (eC (.str "bends"))) (sRet (eVar 1)) sNx) (sRet (eOp dAdd (eOp dDiv (eOp dSub (eVar 1) (eBf cLen (aCons (eIx (eVar 0) (eC (.int 2))) aNil))) (eIx (eVar 0) (eC (.int 1)))) (eC (.int 1)))))))
def F_given : List PyData → RO PyData := runD 3 B_given
def B_check : S := (sSeq (sIf (tOr (tNt (tT (eIsi "tuple" (eVar 0)))) (tCm dNe (eBf cLen (aCons (eVar 0) aNil)) (eC (.int 2)))) (sRaise2 "BadNetwork" "layer" "reason" (aCons (eUn dNeg (eC (.int 1))) (aCons (eC (.str "form")) aNil))) sNx) (sSeq (sAsg (eVar 0) (gT 2 (gsC (gN 1) (gsC (gN 2) gsN)))) (sSeq (sIf (tOr (tNt (tT (eCall 1 F_is_integer (aCons (eVar 1) aNil)))) (tNt (tT (eIsi "tuple" (eVar 2))))) (sRaise2 "BadNetwork" "layer" "reason" (aCons (eUn dNeg (eC (.int 1))) (aCons (eC (.str "form")) aNil))) sNx) (sSeq (sIf (tOr (tCm dLt (eVar 1) (eC (.int 1))) (tCm dGt (eVar 1) (eC (.int 1000)))) (sRaise2 "BadNetwork" "layer" "reason" (aCons (eUn dNeg (eC (.int 1))) (aCons (eC (.str "inputs")) aNil))) sNx) (sSeq (sSet 3 (eVar 1)) (sFor (iEnu (eVar 2)) (gT 2 (gsC (gN 4) (gsC (gN 5) gsN))) (sSeq (sIf (tNt (tT (eCall 1 F_is_layer (aCons (eVar 5) aNil)))) (sRaise2 "BadNetwork" "layer" "reason" (aCons (eVar 4) (aCons (eC (.str "form")) aNil))) sNx) (sSeq (sIf (tNt (tT (eCall 2 F_fits (aCons (eVar 5) (aCons (eVar 3) aNil))))) (sRaise2 "BadNetwork" "layer" "reason" (aCons (eVar 4) (aCons (eC (.str "size")) aNil))) sNx) (sSet 3 (eCall 2 F_given (aCons (eVar 5) (aCons (eVar 3) aNil))))))))))))
def F_check : List PyData → RO PyData := runD 6 B_check
def B_in_turn : S := (sSeq (sIf (tCm dEq (eOp dMod (eBf cLen (aCons (eVar 0) aNil)) (eC (.int 2))) (eC (.int 0))) (sRet (eC (.bool false))) sNx) (sSeq (sSet 1 (eTup (aCons (eC (.str "sums")) (aCons (eC (.str "bends")) aNil)))) (sRet (eBf cAll (aCons (eL (lComp (iEnu (eVar 0)) (gT 2 (gsC (gN 2) (gsC (gN 3) gsN))) tY (eOp dEq (eIx (eVar 3) (eC (.int 0))) (eIx (eVar 1) (eOp dMod (eVar 2) (eC (.int 2))))) [2, 3])) aNil)))))
def F_in_turn : List PyData → RO PyData := runD 4 B_in_turn
def B_check_plain : S := (sSeq (sDrop (eCall 1 F_check (aCons (eVar 0) aNil))) (sIf (tNt (tT (eCall 1 F_in_turn (aCons (eIx (eVar 0) (eC (.int 1))) aNil)))) (sRaise2 "BadNetwork" "layer" "reason" (aCons (eUn dNeg (eC (.int 1))) (aCons (eC (.str "plain")) aNil))) sNx))
def F_check_plain : List PyData → RO PyData := runD 1 B_check_plain
def B_is_plain : S := (sSeq (sDrop (eCall 1 F_check (aCons (eVar 0) aNil))) (sRet (eCall 1 F_in_turn (aCons (eIx (eVar 0) (eC (.int 1))) aNil))))
def F_is_plain : List PyData → RO PyData := runD 1 B_is_plain
def B_unit_places : S := (sSeq (sDrop (eCall 1 F_check (aCons (eVar 0) aNil))) (sSeq (sSetL 1 (lLst aNil)) (sSeq (sFor (iEnu (eIx (eVar 0) (eC (.int 1)))) (gT 2 (gsC (gN 2) (gsC (gN 3) gsN))) (sIf (tCm dEq (eIx (eVar 3) (eC (.int 0))) (eC (.str "bends"))) (sExt 1 (lComp (iEnu (eIx (eVar 3) (eC (.int 1)))) (gT 2 (gsC (gN 4) (gsC (gN 5) gsN))) (tT (eVar 5)) (eTup (aCons (eVar 2) (aCons (eVar 4) aNil))) [4, 5])) sNx)) (sRet (eTuO 1)))))
def F_unit_places : List PyData → RO PyData := runD 6 B_unit_places
def B_units : S := (sRet (eBf cLen (aCons (eCall 1 F_unit_places (aCons (eVar 0) aNil)) aNil)))
def F_units : List PyData → RO PyData := runD 1 B_units
def B__law_cell : S := (sSeq (sIf (tCm dLt (eVar 1) (eBf cLen (aCons (eVar 0) aNil))) (sRet (eBf cInt (aCons (eIx (eVar 0) (eVar 1)) aNil))) sNx) (sRet (eC (.int 0))))
def F__law_cell : List PyData → RO PyData := runD 2 B__law_cell
def B__law_rich : S := (sSeq (sIf (tCm dGe (eVar 0) (eOp dPow (eC (.int 10)) (eC (.int 18)))) (sRet (eBf cInt (aCons (eVar 0) aNil))) sNx) (sSeq (sSet 2 (eC (.int 0))) (sSeq (sSet 3 (eOp dMod (eBf cInt (aCons (eOp dAdd (eOp dAdd (eOp dMulX (eVar 0) (eC (.int 48271))) (eOp dMulX (eVar 1) (eC (.int 69621)))) (eC (.int 11))) aNil)) (eC (.int 2147483647)))) (sSeq (sFor (iR1 (eC (.int 7))) (gN 4) (sSeq (sSet 3 (eOp dMod (eBf cInt (aCons (eOp dAdd (eOp dAdd (eOp dAdd (eOp dMulX (eVar 3) (eVar 3)) (eOp dMulX (eVar 3) (eC (.int 16807)))) (eVar 4)) (eC (.int 7))) aNil)) (eC (.int 2147483647)))) (sSet 2 (eOp dAdd (eOp dMulX (eVar 2) (eC (.int 2147483647))) (eVar 3))))) (sRet (eVar 2))))))
def F__law_rich : List PyData → RO PyData := runD 5 B__law_rich
def B__law_codes : S := (sSeq (sSetL 3 (lLst aNil)) (sSeq (sFor (iR1 (eVar 1)) (gN 4) (sSeq (sApp 3 (eOp dMod (eBf cInt (aCons (eVar 0) aNil)) (eVar 2))) (sSet 0 (eOp dDiv (eVar 0) (eVar 2))))) (sRet (eB 3))))
def F__law_codes : List PyData → RO PyData := runD 5 B__law_codes
def B__law_common : S := (sSeq (sSet 0 (eBf cAbs (aCons (eVar 0) aNil))) (sSeq (sSet 1 (eBf cAbs (aCons (eVar 1) aNil))) (sSeq (sWh WH (tCm dGt (eVar 1) (eC (.int 0))) (sSeq (sSet 2 (eOp dMod (eBf cInt (aCons (eVar 0) aNil)) (eVar 1))) (sSeq (sSet 0 (eVar 1)) (sSet 1 (eVar 2))))) (sRet (eVar 0)))))
def F__law_common : List PyData → RO PyData := runD 3 B__law_common
def B__law_lowest : S := (sSeq (sIf (tCm dLt (eVar 1) (eC (.int 0))) (sSeq (sSet 0 (eUn dNeg (eVar 0))) (sSet 1 (eUn dNeg (eVar 1)))) sNx) (sSeq (sSet 2 (eCall 2 F__law_common (aCons (eVar 0) (aCons (eVar 1) aNil)))) (sRet (eTup (aCons (eOp dDiv (eVar 0) (eVar 2)) (aCons (eOp dDiv (eVar 1) (eVar 2)) aNil))))))
def F__law_lowest : List PyData → RO PyData := runD 3 B__law_lowest
def B__law_ratio : S := (sSeq (sSet 1 (eOp dSub (eOp dMod (eBf cInt (aCons (eVar 0) aNil)) (eC (.int 19))) (eC (.int 9)))) (sSeq (sSet 2 (eIx (eL (lLst (aCons (eC (.int 1)) (aCons (eC (.int 1)) (aCons (eC (.int 2)) (aCons (eC (.int 3)) (aCons (eC (.int 1)) (aCons (eC (.int 7)) aNil)))))))) (eOp dMod (eOp dDiv (eVar 0) (eC (.int 19))) (eC (.int 6))))) (sSeq (sIf (tCm dEq (eOp dMod (eOp dDiv (eVar 0) (eC (.int 114))) (eC (.int 18))) (eC (.int 16))) (sSeq (sSet 1 (eOp dAdd (eOp dMulX (eVar 1) (eOp dPow (eC (.int 10)) (eC (.int 9)))) (eC (.int 7)))) (sSet 2 (eOp dMulX (eVar 2) (eC (.int 101))))) sNx) (sRet (eCall 2 F__law_lowest (aCons (eVar 1) (aCons (eVar 2) aNil)))))))
def F__law_ratio : List PyData → RO PyData := runD 3 B__law_ratio
def B__law_same (self : List PyData → RO PyData) : S := (sSeq (sIf (tT (eIsi "tuple" (eVar 1))) (sSeq (sIf (tOr (tNt (tT (eIsi "tuple" (eVar 0)))) (tCm dNe (eBf cLen (aCons (eVar 0) aNil)) (eBf cLen (aCons (eVar 1) aNil)))) (sRet (eC (.bool false))) sNx) (sRet (eBf cAll (aCons (eL (lComp (iR1 (eBf cLen (aCons (eVar 1) aNil))) (gN 2) tY (eCall 2 self (aCons (eIx (eVar 0) (eVar 2)) (aCons (eIx (eVar 1) (eVar 2)) aNil))) [2])) aNil)))) sNx) (sSeq (sIf (tCm dIs (eVar 1) (eC .none)) (sRet (eOp dIs (eVar 0) (eC .none))) sNx) (sSeq (sIf (tT (eIsi "str" (eVar 1))) (sRet (eAn (eIsi "str" (eVar 0)) (eOp dEq (eVar 0) (eVar 1)))) sNx) (sSeq (sIf (tT (eIsi "bool" (eVar 1))) (sRet (eAn (eIsi "bool" (eVar 0)) (eOp dEq (eVar 0) (eVar 1)))) sNx) (sRet (eAn (eIsi "int" (eVar 0)) (eAn (eNt (eIsi "bool" (eVar 0))) (eOp dEq (eVar 0) (eVar 1)))))))))
def F__law_same : Nat → List PyData → RO PyData
  | 0 => fun _ => .no
  | fu + 1 => runD 3 (B__law_same (F__law_same fu))
def B__law_layer : S := (sSeq (sSet 2 (eCall 3 F__law_codes (aCons (eVar 0) (aCons (eC (.int 19)) (aCons (eC (.int 2000)) aNil))))) (sSeq (sSet 3 (eOp dAdd (eC (.int 1)) (eOp dMod (eOp dDiv (eIx (eVar 2) (eC (.int 0))) (eC (.int 6))) (eC (.int 3))))) (sSeq (sSet 4 (eL (lComp (iSeq (eSl (eVar 2) (oS (eC (.int 1))) oN)) (gN 10) tY (eCall 1 F__law_ratio (aCons (eVar 10) aNil)) [10]))) (sSeq (sIf (tCm dLt (eOp dMod (eIx (eVar 2) (eC (.int 0))) (eC (.int 6))) (eC (.int 2))) (sSeq (sSet 5 (eL (lComp (iR1 (eVar 3)) (gN 7) tY (eTu (eL (lComp (iR1 (eVar 1)) (gN 11) tY (eIx (eVar 4) (eOp dAdd (eOp dMulX (eVar 7) (eVar 1)) (eVar 11))) [11]))) [7]))) (sRet (eTup (aCons (eC (.str "sums")) (aCons (eTu (eVar 5)) (aCons (eTu (eSl (eVar 4) (oS (eC (.int 12))) (oS (eOp dAdd (eC (.int 12)) (eVar 3))))) aNil)))))) sNx) (sSeq (sIf (tCm dLt (eOp dMod (eIx (eVar 2) (eC (.int 0))) (eC (.int 6))) (eC (.int 4))) (sRet (eTup (aCons (eC (.str "bends")) (aCons (eTu (eL (lComp (iR1 (eVar 1)) (gN 11) tY (eOp dGt (eOp dMod (eIx (eVar 2) (eOp dAdd (eC (.int 1)) (eVar 11))) (eC (.int 4))) (eC (.int 0))) [11]))) aNil)))) sNx) (sSeq (sIf (tCm dEq (eOp dMod (eIx (eVar 2) (eC (.int 0))) (eC (.int 6))) (eC (.int 4))) (sSeq (sSetL 6 (lLst aNil)) (sSeq (sFor (iR1 (eVar 3)) (gN 7) (sSeq (sSet 8 (eTu (eL (lComp (iR1 (eVar 1)) (gN 11) (tCm dEq (eOp dMod (eOp dDiv (eIx (eVar 2) (eOp dAdd (eC (.int 1)) (eVar 7))) (eIx (eL (lLst (aCons (eC (.int 1)) (aCons (eC (.int 2)) (aCons (eC (.int 4)) (aCons (eC (.int 8)) aNil)))))) (eVar 11))) (eC (.int 2))) (eC (.int 1))) (eVar 11) [11])))) (sApp 6 (eIf (tCm dGt (eBf cLen (aCons (eVar 8) aNil)) (eC (.int 0))) (eVar 8) (eTup (aCons (eOp dMod (eOp dDiv (eIx (eVar 2) (eOp dAdd (eC (.int 1)) (eVar 7))) (eC (.int 16))) (eVar 1)) aNil)))))) (sRet (eTup (aCons (eC (.str "greatest")) (aCons (eTuO 6) aNil)))))) sNx) (sSeq (sSet 9 (eOp dAdd (eC (.int 1)) (eOp dMod (eOp dDiv (eIx (eVar 2) (eC (.int 0))) (eC (.int 18))) (eVar 1)))) (sRet (eTup (aCons (eC (.str "window")) (aCons (eOp dAdd (eC (.int 1)) (eOp dMod (eOp dDiv (eIx (eVar 2) (eC (.int 0))) (eC (.int 72))) (eC (.int 3)))) (aCons (eTu (eSl (eVar 4) oN (oS (eVar 9)))) (aCons (eIx (eVar 4) (eC (.int 5))) aNil)))))))))))))
def F__law_layer : List PyData → RO PyData := runD 12 B__law_layer
def B__law_given : S := (sSeq (sIf (tCm dEq (eIx (eVar 1) (eC (.int 0))) (eC (.str "bends"))) (sRet (eVar 0)) sNx) (sSeq (sIf (tCm dEq (eIx (eVar 1) (eC (.int 0))) (eC (.str "window"))) (sRet (eRl (aCons (eC (.int 0)) (aCons (eOp dAdd (eOp dSub (eVar 0) (eBf cLen (aCons (eIx (eVar 1) (eC (.int 2))) aNil))) (eC (.int 1))) (aCons (eIx (eVar 1) (eC (.int 1))) aNil))))) sNx) (sRet (eBf cLen (aCons (eIx (eVar 1) (eC (.int 1))) aNil)))))
def F__law_given : List PyData → RO PyData := runD 2 B__law_given
def B__law_network : S := (sSeq (sSet 3 (eOp dAdd (eC (.int 1)) (eOp dMod (eBf cInt (aCons (eCall 2 F__law_cell (aCons (eVar 0) (aCons (eVar 1) aNil))) aNil)) (eC (.int 4))))) (sSeq (sSet 4 (eVar 3)) (sSeq (sSetL 5 (lLst aNil)) (sSeq (sFor (iR1 (eVar 2)) (gN 6) (sSeq (sSet 7 (eCall 2 F__law_layer (aCons (eCall 2 F__law_rich (aCons (eCall 2 F__law_cell (aCons (eVar 0) (aCons (eOp dAdd (eOp dAdd (eVar 1) (eC (.int 1))) (eVar 6)) aNil))) (aCons (eVar 6) aNil))) (aCons (eVar 3) aNil)))) (sSeq (sSet 3 (eCall 2 F__law_given (aCons (eVar 3) (aCons (eVar 7) aNil)))) (sApp 5 (eVar 7))))) (sRet (eTup (aCons (eVar 4) (aCons (eTuO 5) aNil))))))))
def F__law_network : List PyData → RO PyData := runD 8 B__law_network
def B__law_turns : S := (sSeq (sSet 3 (eOp dAdd (eC (.int 1)) (eOp dMod (eBf cInt (aCons (eCall 2 F__law_cell (aCons (eVar 0) (aCons (eC (.int 0)) aNil))) aNil)) (eC (.int 4))))) (sSeq (sSet 4 (eVar 3)) (sSeq (sSetL 5 (lLst aNil)) (sSeq (sFor (iR1 (eVar 1)) (gN 6) (sSeq (sSet 7 (eCall 2 F__law_rich (aCons (eCall 2 F__law_cell (aCons (eVar 0) (aCons (eOp dAdd (eC (.int 1)) (eVar 6)) aNil))) (aCons (eVar 6) aNil)))) (sSeq (sSet 8 (eCall 2 F__law_layer (aCons (eOp dAdd (eOp dAdd (eOp dSub (eVar 7) (eOp dMod (eBf cInt (aCons (eVar 7) aNil)) (eC (.int 2000)))) (eOp dMulX (eOp dMod (eOp dDiv (eBf cInt (aCons (eVar 7) aNil)) (eC (.int 7))) (eC (.int 3))) (eC (.int 6)))) (eOp dMulX (eC (.int 2)) (eOp dMod (eOp dAdd (eVar 6) (eVar 2)) (eC (.int 2))))) (aCons (eVar 3) aNil)))) (sSeq (sSet 3 (eCall 2 F__law_given (aCons (eVar 3) (aCons (eVar 8) aNil)))) (sApp 5 (eVar 8)))))) (sRet (eTup (aCons (eVar 4) (aCons (eTuO 5) aNil))))))))
def F__law_turns : List PyData → RO PyData := runD 9 B__law_turns
def B__law_plain : S := (sSeq (sSet 1 (eL (lComp (iSeq (eIx (eVar 0) (eC (.int 1)))) (gN 2) tY (eIx (eVar 2) (eC (.int 0))) [2]))) (sSeq (sIf (tCm dEq (eOp dMod (eBf cLen (aCons (eVar 1) aNil)) (eC (.int 2))) (eC (.int 0))) (sRet (eC (.bool false))) sNx) (sRet (eBf cAll (aCons (eL (lComp (iR1 (eBf cLen (aCons (eVar 1) aNil))) (gN 3) tY (eOp dEq (eIx (eVar 1) (eVar 3)) (eIx (eL (lLst (aCons (eC (.str "sums")) (aCons (eC (.str "bends")) aNil)))) (eOp dMod (eVar 3) (eC (.int 2))))) [3])) aNil)))))
def F__law_plain : List PyData → RO PyData := runD 4 B__law_plain
def B__law_places : S := (sSeq (sSet 1 (eL (lLst aNil))) (sSeq (sFor (iR1 (eBf cLen (aCons (eIx (eVar 0) (eC (.int 1))) aNil))) (gN 2) (sIf (tCm dEq (eIx (eIx (eIx (eVar 0) (eC (.int 1))) (eVar 2)) (eC (.int 0))) (eC (.str "bends"))) (sSeq (sSet 3 (eIx (eIx (eIx (eVar 0) (eC (.int 1))) (eVar 2)) (eC (.int 1)))) (sSet 1 (eOp dAddX (eVar 1) (eL (lComp (iR1 (eBf cLen (aCons (eVar 3) aNil))) (gN 4) (tT (eIx (eVar 3) (eVar 4))) (eTup (aCons (eVar 2) (aCons (eVar 4) aNil))) [4]))))) sNx)) (sRet (eTu (eVar 1)))))
def F__law_places : List PyData → RO PyData := runD 5 B__law_places
def mtc__law_checked (c : Str) : Option Bool := if c = "BadNetwork" then some true else none
def B__law_checked : S := (sTryR 1 (sRet (eCall 1 F_check_plain (aCons (eVar 0) aNil))) mtc__law_checked (fun c fl => (eTup (aCons (xFld "BadNetwork" "layer" c fl) (aCons (xFld "BadNetwork" "reason" c fl) aNil)))))
def F__law_checked : List PyData → RO PyData := runD 2 B__law_checked
def B__law_right : S := (sSeq (sSet 1 (eCall 1 F__law_plain (aCons (eVar 0) aNil))) (sSeq (sIf (tNt (tT (eCall 2 (F__law_same RD) (aCons (eCall 1 F_is_plain (aCons (eVar 0) aNil)) (aCons (eVar 1) aNil))))) (sRet (eC (.bool false))) sNx) (sSeq (sIf (tNt (tT (eCall 2 (F__law_same RD) (aCons (eCall 1 F__law_checked (aCons (eVar 0) aNil)) (aCons (eIf (tT (eVar 1)) (eC .none) (eTup (aCons (eUn dNeg (eC (.int 1))) (aCons (eC (.str "plain")) aNil)))) aNil))))) (sRet (eC (.bool false))) sNx) (sSeq (sSet 2 (eCall 1 F__law_places (aCons (eVar 0) aNil))) (sRet (eAn (eCall 2 (F__law_same RD) (aCons (eCall 1 F_unit_places (aCons (eVar 0) aNil)) (aCons (eVar 2) aNil))) (eCall 2 (F__law_same RD) (aCons (eCall 1 F_units (aCons (eVar 0) aNil)) (aCons (eBf cLen (aCons (eVar 2) aNil)) aNil)))))))))
def F__law_right : List PyData → RO PyData := runD 3 B__law_right
def B_law : S := (sSeq (sSet 1 (eBf cMax (aCons (eC (.int 1)) (aCons (eBf cMin (aCons (eC (.int 60)) (aCons (eOp dSub (eBf cLen (aCons (eVar 0) aNil)) (eC (.int 1))) aNil))) aNil)))) (sSeq (sSet 2 (eCall 3 F__law_network (aCons (eVar 0) (aCons (eC (.int 0)) (aCons (eVar 1) aNil))))) (sSeq (sIf (tOr (tNt (tT (eCall 1 F__law_right (aCons (eVar 2) aNil)))) (tNt (tT (eCall 1 F__law_right (aCons (eTup (aCons (eIx (eVar 2) (eC (.int 0))) (aCons (eTup aNil) aNil))) aNil))))) (sRet (eC (.bool false))) sNx) (sSeq (sFor (iSeq (eL (lLst (aCons (eC (.int 0)) (aCons (eC (.int 1)) aNil))))) (gN 3) (sSeq (sSet 4 (eCall 3 F__law_turns (aCons (eVar 0) (aCons (eVar 1) (aCons (eVar 3) aNil))))) (sSeq (sIf (tOr (tNt (tT (eCall 1 F__law_right (aCons (eVar 4) aNil)))) (tNt (tT (eCall 1 F__law_right (aCons (eTup (aCons (eIx (eVar 4) (eC (.int 0))) (aCons (eSl (eIx (eVar 4) (eC (.int 1))) oN (oS (eOp dSub (eVar 1) (eC (.int 1))))) aNil))) aNil))))) (sRet (eC (.bool false))) sNx) (sIf (tNt (tT (eCall 1 F__law_right (aCons (eTup (aCons (eIx (eVar 4) (eC (.int 0))) (aCons (eSl (eIx (eVar 4) (eC (.int 1))) oN (oS (eOp dAdd (eOp dDiv (eVar 1) (eC (.int 2))) (eC (.int 1))))) aNil))) aNil)))) (sRet (eC (.bool false))) sNx)))) (sRet (eC (.bool true)))))))
def F_law : List PyData → RO PyData := runD 5 B_law
end KM
set_option Elab.async false
set_option linter.all false
set_option maxRecDepth 100000
set_option maxHeartbeats 4000000
namespace KM
open PySem PySem.Spec PyProof.Rows L2 PD
/-! ### ratios -/
def rat (p q : Int) : PyData := .tuple [.int p, .int q]
/-- what stands for a over b in lowest terms -/
def Lw (a b p q : Int) : Prop := 0 < q ∧ Int.gcd p q = 1 ∧ p * b = a * q ∧ p.natAbs ≤ a.natAbs ∧ q.natAbs ≤ b.natAbs
theorem abs_le_mul {g p : Int} (h : 0 < g) : p.natAbs ≤ (g * p).natAbs := by
  rw [Int.natAbs_mul]
  exact Nat.le_mul_of_pos_left _ (by omega)
theorem lw_of {a b g p q s : Int} (h0 : 0 < g) (hp : a = g * p) (hq : b = g * q) (hg : Int.gcd p q = 1) (hb : b ≠ 0) (hs : s = if b < 0 then -g else g) : a.fdiv s = (if b < 0 then -p else p) ∧ b.fdiv s = (if b < 0 then -q else q) ∧ Lw a b (if b < 0 then -p else p) (if b < 0 then -q else q) := by
  have e : p * (g * q) = g * p * q := by rw [Int.mul_left_comm, Int.mul_assoc]
  by_cases z : b < 0
  · rw [if_pos z] at hs
    simp only [if_pos z]
    subst hs
    refine ⟨by rw [hp, fdiv_neg_gcd h0], by rw [hq, fdiv_neg_gcd h0], ?_, by rw [Int.neg_gcd, Int.gcd_neg]; exact hg, ?_, ?_, ?_⟩
    · have : q < 0 := by
        rcases Int.lt_or_le q 0 with h | h
        · exact h
        · have := Int.mul_nonneg (Int.le_of_lt h0) h
          omega
      omega
    · rw [hp, hq, Int.neg_mul, Int.mul_neg, e]
    · rw [Int.natAbs_neg, hp]
      exact abs_le_mul h0
    · rw [Int.natAbs_neg, hq]
      exact abs_le_mul h0
  · rw [if_neg z] at hs
    simp only [if_neg z]
    subst hs
    refine ⟨by rw [hp, fdiv_gcd h0], by rw [hq, fdiv_gcd h0], ?_, hg, ?_, ?_, ?_⟩
    · rcases Int.lt_or_le 0 q with h | h
      · exact h
      · have := Int.mul_nonpos_of_nonneg_of_nonpos (Int.le_of_lt h0) h
        omega
    · rw [hp, hq, e]
    · rw [hp]
      exact abs_le_mul h0
    · rw [hq]
      exact abs_le_mul h0
theorem gcd_le_right {a b : Int} (hb : b ≠ 0) : ((Int.gcd a b : Int)).natAbs ≤ b.natAbs := by
  rw [Int.natAbs_natCast]
  exact Int.gcd_le_natAbs_right a hb
/-! ### the law's own -/
abbrev cT : T := tCm dGt (eVar 1) (eC (.int 0))
abbrev cB : S := sSeq (sSet 2 (eOp dMod (eBf cInt (aCons (eVar 0) aNil)) (eVar 1))) (sSeq (sSet 0 (eVar 1)) (sSet 1 (eVar 2)))
theorem common_stop (a : Int) (r : Option SV) (m : Nat) : whileGo cT cB (m + 1) [some (.fz (.int a)), some (.fz (.int 0)), r] = .nx [some (.fz (.int a)), some (.fz (.int 0)), r] := by
  refine whileGo_stop ?_
  simp (implicitDefEqProofs := false) only [x_run, x_out_nx, x_out_rt, x_out_er, x_seq, x_seq_nx, x_seq_rt, x_seq_er, x_seq_ct, x_seq_bk, x_ofR_ok, x_ofR_er, x_nx, x_bk, x_ct, x_set, x_setL, x_ret, x_drop, x_retN, x_if, x_raise, x_var, x_gv0, x_gvS, x_gvo0, x_gvoS, x_gb, x_gb0, x_gbO, x_gbS, x_c, x_op, x_cm, x_un, x_bf, x_isi, x_ix, x_ixO, x_ofO_some, x_anil, x_acons, x_tup, x_lst, x_eL, x_tb, x_nt, x_an, x_or, x_ent, x_ean, x_eor, x_eif, x_tT, x_tV, x_tY, x_call, x_callD, x_callK, x_cd1, x_cd2, x_cd3, x_cd4, x_st0, x_stS, x_stN, x_wh, x_for, x_iseq, x_ir1, x_ir2, x_add, x_sub, x_neg, x_dcmp, x_eqI, x_neI, x_absI, x_intI, x_gcdI, x_maxI, x_minI, x_lenL, x_lenT, x_ixL, x_ixT, x_at0, x_at1, x_sz0, x_sz1, x_sz2, x_sz3, x_gN, x_forN, x_for0, x_fB_nx, x_fB_ct, x_fB_bk, x_fB_rt, x_fB_er, x_iTT, x_iTL, x_iTI, x_iLT, x_iLL, x_iII, x_iBI, x_iSS, x_iBB, x_truB, x_itT, x_itL, x_try, RO.bind_ok, RO.bind_er, RO.pure_ok, List.set_cons_zero, List.set_cons_succ, List.cons_append, List.nil_append, if_true, if_false, ite_true, ite_false, reduceIte, Bool.false_eq_true, Bool.true_eq_false, Bool.not_true, Bool.not_false, x_len1, and_self, decide_eq_true_eq, decide_true, decide_false, eq_self, Bool.not_eq_true', decide_eq_false_iff_not, not_true_eq_false, not_false_eq_true, ne_eq, Int.lt_irrefl]
theorem common_step {a b : Int} (r : Option SV) (m : Nat) (h : 0 < b) : whileGo cT cB (m + 1) [some (.fz (.int a)), some (.fz (.int b)), r] = whileGo cT cB m [some (.fz (.int b)), some (.fz (.int (a % b))), some (.fz (.int (a % b)))] := by
  refine whileGo_step ?_ ?_
  · simp (implicitDefEqProofs := false) only [x_run, x_out_nx, x_out_rt, x_out_er, x_seq, x_seq_nx, x_seq_rt, x_seq_er, x_seq_ct, x_seq_bk, x_ofR_ok, x_ofR_er, x_nx, x_bk, x_ct, x_set, x_setL, x_ret, x_drop, x_retN, x_if, x_raise, x_var, x_gv0, x_gvS, x_gvo0, x_gvoS, x_gb, x_gb0, x_gbO, x_gbS, x_c, x_op, x_cm, x_un, x_bf, x_isi, x_ix, x_ixO, x_ofO_some, x_anil, x_acons, x_tup, x_lst, x_eL, x_tb, x_nt, x_an, x_or, x_ent, x_ean, x_eor, x_eif, x_tT, x_tV, x_tY, x_call, x_callD, x_callK, x_cd1, x_cd2, x_cd3, x_cd4, x_st0, x_stS, x_stN, x_wh, x_for, x_iseq, x_ir1, x_ir2, x_add, x_sub, x_neg, x_dcmp, x_eqI, x_neI, x_absI, x_intI, x_gcdI, x_maxI, x_minI, x_lenL, x_lenT, x_ixL, x_ixT, x_at0, x_at1, x_sz0, x_sz1, x_sz2, x_sz3, x_gN, x_forN, x_for0, x_fB_nx, x_fB_ct, x_fB_bk, x_fB_rt, x_fB_er, x_iTT, x_iTL, x_iTI, x_iLT, x_iLL, x_iII, x_iBI, x_iSS, x_iBB, x_truB, x_itT, x_itL, x_try, RO.bind_ok, RO.bind_er, RO.pure_ok, List.set_cons_zero, List.set_cons_succ, List.cons_append, List.nil_append, if_true, if_false, ite_true, ite_false, reduceIte, Bool.false_eq_true, Bool.true_eq_false, Bool.not_true, Bool.not_false, x_len1, and_self, decide_eq_true_eq, decide_true, decide_false, eq_self, Bool.not_eq_true', decide_eq_false_iff_not, not_true_eq_false, not_false_eq_true, ne_eq, h]
  · simp (implicitDefEqProofs := false) only [x_run, x_out_nx, x_out_rt, x_out_er, x_seq, x_seq_nx, x_seq_rt, x_seq_er, x_seq_ct, x_seq_bk, x_ofR_ok, x_ofR_er, x_nx, x_bk, x_ct, x_set, x_setL, x_ret, x_drop, x_retN, x_if, x_raise, x_var, x_gv0, x_gvS, x_gvo0, x_gvoS, x_gb, x_gb0, x_gbO, x_gbS, x_c, x_op, x_cm, x_un, x_bf, x_isi, x_ix, x_ixO, x_ofO_some, x_anil, x_acons, x_tup, x_lst, x_eL, x_tb, x_nt, x_an, x_or, x_ent, x_ean, x_eor, x_eif, x_tT, x_tV, x_tY, x_call, x_callD, x_callK, x_cd1, x_cd2, x_cd3, x_cd4, x_st0, x_stS, x_stN, x_wh, x_for, x_iseq, x_ir1, x_ir2, x_add, x_sub, x_neg, x_dcmp, x_eqI, x_neI, x_absI, x_intI, x_gcdI, x_maxI, x_minI, x_lenL, x_lenT, x_ixL, x_ixT, x_at0, x_at1, x_sz0, x_sz1, x_sz2, x_sz3, x_gN, x_forN, x_for0, x_fB_nx, x_fB_ct, x_fB_bk, x_fB_rt, x_fB_er, x_iTT, x_iTL, x_iTI, x_iLT, x_iLL, x_iII, x_iBI, x_iSS, x_iBB, x_truB, x_itT, x_itL, x_try, RO.bind_ok, RO.bind_er, RO.pure_ok, List.set_cons_zero, List.set_cons_succ, List.cons_append, List.nil_append, if_true, if_false, ite_true, ite_false, reduceIte, Bool.false_eq_true, Bool.true_eq_false, Bool.not_true, Bool.not_false, x_len1, and_self, decide_eq_true_eq, decide_true, decide_false, eq_self, Bool.not_eq_true', decide_eq_false_iff_not, not_true_eq_false, not_false_eq_true, ne_eq, x_mod h]
theorem gcd_step {a b : Int} (ha : 0 ≤ a) (h : 0 < b) : Int.gcd b (a % b) = Int.gcd a b := by
  obtain ⟨x, rfl⟩ := Int.eq_ofNat_of_zero_le ha
  obtain ⟨y, rfl⟩ := Int.eq_ofNat_of_zero_le (Int.le_of_lt h)
  show Nat.gcd y (x % y) = Nat.gcd x y
  rw [Nat.gcd_comm y, ← Nat.gcd_rec, Nat.gcd_comm]
theorem common_loop : ∀ (n : Nat) (a b : Int) (r : Option SV) (m : Nat), 0 ≤ b → b ≤ a → (a * b).natAbs < 2 ^ n → n < m → ∃ r', whileGo cT cB m [some (.fz (.int a)), some (.fz (.int b)), r] = .nx [some (.fz (.int (Int.gcd a b))), some (.fz (.int 0)), r']
  | n, a, b, r, 0, _, _, _, hm => absurd hm (by omega)
  | n, a, b, r, m + 1, h0, h1, h2, hm => by
    by_cases z : b = 0
    · subst z
      refine ⟨r, ?_⟩
      rw [common_stop, Int.gcd_zero_right, Int.natAbs_of_nonneg h1]
    · have hb : 0 < b := by omega
      have hr0 : 0 ≤ a % b := Int.emod_nonneg a z
      have hr1 : a % b < b := Int.emod_lt_of_pos a hb
      have hd := Int.mul_ediv_add_emod a b
      have hq : 1 ≤ a / b := by
        rw [Int.le_ediv_iff_mul_le hb]
        omega
      have hq2 : b ≤ b * (a / b) := by
        have := Int.mul_le_mul_of_nonneg_left hq h0
        omega
      have hh : 2 * (a % b) ≤ a := by omega
      have key : 2 * (b * (a % b)) ≤ a * b := by
        have := Int.mul_le_mul_of_nonneg_left hh h0
        rw [Int.mul_left_comm, Int.mul_comm a b]
        exact this
      have np : 0 ≤ b * (a % b) := Int.mul_nonneg h0 hr0
      match n, h2, hm with
      | 0, h2, _ =>
        exfalso
        have : a * b = 0 := by omega
        rcases Int.mul_eq_zero.mp this with h | h <;> omega
      | n + 1, h2, hm =>
        rw [common_step r m hb]
        obtain ⟨r', e⟩ := common_loop n b (a % b) (some (.fz (.int (a % b)))) m hr0 (by omega) (by rw [Nat.pow_succ] at h2; omega) (by omega)
        exact ⟨r', by rw [e, gcd_step (by omega) hb]⟩
theorem abs_eq (i : Int) : (if i < 0 then -i else i) = i.natAbs := by
  split <;> omega
theorem common_ok {a b : Int} {n : Nat} (ha : Sm n a) (hb : Sm n b) (hn : n < 400000 := by decide) : F__law_common [.int a, .int b] = .ok (.int (Int.gcd a b)) := by
  have key : ∃ r', whileGo cT cB WH [some (.fz (.int a.natAbs)), some (.fz (.int b.natAbs)), none] = .nx [some (.fz (.int (Int.gcd a b))), some (.fz (.int 0)), r'] := by
    have hab : ((b.natAbs : Int) * (a.natAbs : Int)).natAbs < 2 ^ (n + n) := by
      have := Sm.mul hb ha
      unfold Sm at this
      rw [Int.natAbs_mul] at this
      rw [Int.natAbs_mul, Int.natAbs_natCast, Int.natAbs_natCast]
      exact this
    have eg : Int.gcd (a.natAbs : Int) (b.natAbs : Int) = Int.gcd a b := by
      unfold Int.gcd
      rw [Int.natAbs_natCast, Int.natAbs_natCast]
    rcases Int.le_total (b.natAbs : Int) (a.natAbs : Int) with h | h
    · obtain ⟨r', e⟩ := common_loop (n + n) a.natAbs b.natAbs none WH (by omega) h (by rw [Int.mul_comm]; exact hab) (by unfold WH; omega)
      exact ⟨r', by rw [e, eg]⟩
    · by_cases z : b = 0
      · subst z
        obtain ⟨r', e⟩ := common_loop (n + n) a.natAbs 0 none WH (by omega) (by omega) (by rw [Int.mul_zero]; exact Nat.two_pow_pos _) (by unfold WH; omega)
        exact ⟨r', by rw [← eg]; exact e⟩
      · have hb0 : 0 < (b.natAbs : Int) := by omega
        have e1 : WH = 999999 + 1 := rfl
        rw [e1, common_step none 999999 hb0]
        by_cases zz : (a.natAbs : Int) = b.natAbs
        · rw [zz, Int.emod_self]
          refine ⟨some (.fz (.int 0)), ?_⟩
          have e2 : (999999 : Nat) = 999998 + 1 := rfl
          rw [e2, common_stop, ← eg, zz, Int.gcd_self, Int.natAbs_natCast]
        · rw [Int.emod_eq_of_lt (by omega) (by omega)]
          obtain ⟨r', e⟩ := common_loop (n + n) b.natAbs a.natAbs (some (.fz (.int a.natAbs))) 999999 (by omega) (by omega) hab (by omega)
          exact ⟨r', by rw [e, Int.gcd_comm, eg]⟩
  obtain ⟨r', key⟩ := key
  unfold F__law_common B__law_common
  simp (implicitDefEqProofs := false) only [x_run, x_out_nx, x_out_rt, x_out_er, x_seq, x_seq_nx, x_seq_rt, x_seq_er, x_seq_ct, x_seq_bk, x_ofR_ok, x_ofR_er, x_nx, x_bk, x_ct, x_set, x_setL, x_ret, x_drop, x_retN, x_if, x_raise, x_var, x_gv0, x_gvS, x_gvo0, x_gvoS, x_gb, x_gb0, x_gbO, x_gbS, x_c, x_op, x_cm, x_un, x_bf, x_isi, x_ix, x_ixO, x_ofO_some, x_anil, x_acons, x_tup, x_lst, x_eL, x_tb, x_nt, x_an, x_or, x_ent, x_ean, x_eor, x_eif, x_tT, x_tV, x_tY, x_call, x_callD, x_callK, x_cd1, x_cd2, x_cd3, x_cd4, x_st0, x_stS, x_stN, x_wh, x_for, x_iseq, x_ir1, x_ir2, x_add, x_sub, x_neg, x_dcmp, x_eqI, x_neI, x_absI, x_intI, x_gcdI, x_maxI, x_minI, x_lenL, x_lenT, x_ixL, x_ixT, x_at0, x_at1, x_sz0, x_sz1, x_sz2, x_sz3, x_gN, x_forN, x_for0, x_fB_nx, x_fB_ct, x_fB_bk, x_fB_rt, x_fB_er, x_iTT, x_iTL, x_iTI, x_iLT, x_iLL, x_iII, x_iBI, x_iSS, x_iBB, x_truB, x_itT, x_itL, x_try, RO.bind_ok, RO.bind_er, RO.pure_ok, List.set_cons_zero, List.set_cons_succ, List.cons_append, List.nil_append, if_true, if_false, ite_true, ite_false, reduceIte, Bool.false_eq_true, Bool.true_eq_false, Bool.not_true, Bool.not_false, x_len1, and_self, decide_eq_true_eq, decide_true, decide_false, eq_self, Bool.not_eq_true', decide_eq_false_iff_not, not_true_eq_false, not_false_eq_true, ne_eq, abs_eq, key]
theorem lowest_ok {a b : Int} {n : Nat} (hb : 0 < b) (sa : Sm n a) (sb : Sm n b) (l : n < 9000 := by decide) : ∃ p q, F__law_lowest [.int a, .int b] = .ok (rat p q) ∧ Lw a b p q := by
  have hb0 : b ≠ 0 := by omega
  have nb : ¬ b < 0 := by omega
  obtain ⟨p, q, hp, hq, hg, h0⟩ := low_facts a b hb0
  have dg : divOk (Int.gcd a b : Int) = true := divOk_le sb (by omega) (gcd_le_right hb0) l
  obtain ⟨e1, e2, e3⟩ := lw_of h0 hp hq hg hb0 rfl
  simp only [if_neg nb] at e1 e2 e3
  refine ⟨p, q, ?_, e3⟩
  unfold F__law_lowest B__law_lowest rat
  simp (implicitDefEqProofs := false) only [x_run, x_out_nx, x_out_rt, x_out_er, x_seq, x_seq_nx, x_seq_rt, x_seq_er, x_seq_ct, x_seq_bk, x_ofR_ok, x_ofR_er, x_nx, x_bk, x_ct, x_set, x_setL, x_ret, x_drop, x_retN, x_if, x_raise, x_var, x_gv0, x_gvS, x_gvo0, x_gvoS, x_gb, x_gb0, x_gbO, x_gbS, x_c, x_op, x_cm, x_un, x_bf, x_isi, x_ix, x_ixO, x_ofO_some, x_anil, x_acons, x_tup, x_lst, x_eL, x_tb, x_nt, x_an, x_or, x_ent, x_ean, x_eor, x_eif, x_tT, x_tV, x_tY, x_call, x_callD, x_callK, x_cd1, x_cd2, x_cd3, x_cd4, x_st0, x_stS, x_stN, x_wh, x_for, x_iseq, x_ir1, x_ir2, x_add, x_sub, x_neg, x_dcmp, x_eqI, x_neI, x_absI, x_intI, x_gcdI, x_maxI, x_minI, x_lenL, x_lenT, x_ixL, x_ixT, x_at0, x_at1, x_sz0, x_sz1, x_sz2, x_sz3, x_gN, x_forN, x_for0, x_fB_nx, x_fB_ct, x_fB_bk, x_fB_rt, x_fB_er, x_iTT, x_iTL, x_iTI, x_iLT, x_iLL, x_iII, x_iBI, x_iSS, x_iBB, x_truB, x_itT, x_itL, x_try, RO.bind_ok, RO.bind_er, RO.pure_ok, List.set_cons_zero, List.set_cons_succ, List.cons_append, List.nil_append, if_true, if_false, ite_true, ite_false, reduceIte, Bool.false_eq_true, Bool.true_eq_false, Bool.not_true, Bool.not_false, x_len1, and_self, decide_eq_true_eq, decide_true, decide_false, eq_self, Bool.not_eq_true', decide_eq_false_iff_not, not_true_eq_false, not_false_eq_true, ne_eq, nb, common_ok sa sb (by omega), x_div dg, e1, e2]
/-- a ratio of that size -/
def Rt (n : Nat) (p q : Int) : Prop := 0 < q ∧ Int.gcd p q = 1 ∧ Sm n p ∧ Sm n q
theorem Lw.rt {n : Nat} {a b p q : Int} (h : Lw a b p q) (sa : Sm n a) (sb : Sm n b) : Rt n p q := ⟨h.1, h.2.1, sa.le h.2.2.2.1, sb.le h.2.2.2.2⟩
theorem sm_small {i : Int} {n : Nat} (h : i.natAbs < 64) (l : 6 ≤ n) : Sm n i := Nat.lt_of_lt_of_le h (Nat.pow_le_pow_right (by decide) l : 2 ^ 6 ≤ 2 ^ n)
theorem rng1_okI {j : Int} (h : 0 ≤ j) (l : j ≤ 1000) : rng1 (.int j) = .ok (rngItems 0 j.toNat) := by
  obtain ⟨n, rfl⟩ := Int.eq_ofNat_of_zero_le h
  exact rng1_ok (by omega)
theorem rng_mem {n : Nat} {d : PyData} (h : d ∈ rngItems 0 n) : ∃ k : Nat, d = .int k := by
  unfold rngItems at h
  obtain ⟨k, _, rfl⟩ := List.mem_map.mp h
  exact ⟨k, by rw [Int.zero_add]⟩
theorem fdiv_le {c : Int} {k : Int} (h : 0 < k) : (c.fdiv k).natAbs ≤ c.natAbs := by
  rw [Int.fdiv_eq_ediv_of_nonneg c (Int.le_of_lt h)]
  exact Int.natAbs_ediv_le_natAbs c k
theorem ml {m n : Nat} {i j : Int} (h : Sm m i) (k : Sm n j) (l : m + n < 100000000 := by decide) : dMul (.int i) (.int j) = some (.int (i * j)) := x_mul (mulOk_sm h k l)
def rt (x : Int × Int) : PyData := rat x.1 x.2
def Rts (n : Nat) (ps : List (Int × Int)) : Prop := ∀ x ∈ ps, Rt n x.1 x.2
/-! ### the pair in lowest terms that stands for a over b, 0 < b -/
def lw (a b : Int) : Int × Int := (a.fdiv (Int.gcd a b), b.fdiv (Int.gcd a b))
theorem lw_facts {a b : Int} (hb : 0 < b) : ∃ g : Int, 0 < g ∧ a = g * (lw a b).1 ∧ b = g * (lw a b).2 ∧ 0 < (lw a b).2 ∧ Int.gcd (lw a b).1 (lw a b).2 = 1 := by
  obtain ⟨p, q, hp, hq, hg, h0⟩ := low_facts a b (by omega)
  have e1 : a.fdiv (Int.gcd a b : Int) = p := (congrArg (fun z : Int => z.fdiv (Int.gcd a b : Int)) hp).trans (fdiv_gcd h0)
  have e2 : b.fdiv (Int.gcd a b : Int) = q := (congrArg (fun z : Int => z.fdiv (Int.gcd a b : Int)) hq).trans (fdiv_gcd h0)
  refine ⟨(Int.gcd a b : Int), h0, ?_, ?_, ?_, ?_⟩
  · show a = _ * a.fdiv _
    rw [e1]
    exact hp
  · show b = _ * b.fdiv _
    rw [e2]
    exact hq
  · show 0 < b.fdiv _
    rw [e2]
    rcases Int.lt_or_le 0 q with h | h
    · exact h
    · have := Int.mul_nonpos_of_nonneg_of_nonpos (Int.le_of_lt h0) h
      omega
  · show Int.gcd (a.fdiv _) (b.fdiv _) = 1
    rw [e1, e2]
    exact hg
theorem low_unique {p q r s : Int} (hq : 0 < q) (hs : 0 < s) (h1 : Int.gcd p q = 1) (h2 : Int.gcd r s = 1) (h : p * s = r * q) : p = r ∧ q = s := by
  have d1 : q ∣ s := by
    have k : q ∣ p * s := ⟨r, by rw [h, Int.mul_comm]⟩
    have h1' : Nat.Coprime q.natAbs p.natAbs := by
      show Nat.gcd q.natAbs p.natAbs = 1
      rw [Nat.gcd_comm]
      exact h1
    have k' : q.natAbs ∣ p.natAbs * s.natAbs := by
      rw [← Int.natAbs_mul]
      exact Int.natAbs_dvd_natAbs.mpr k
    exact Int.natAbs_dvd_natAbs.mp (h1'.dvd_of_dvd_mul_left k')
  have d2 : s ∣ q := by
    have k : s ∣ r * q := ⟨p, by rw [← h, Int.mul_comm]⟩
    have h2' : Nat.Coprime s.natAbs r.natAbs := by
      show Nat.gcd s.natAbs r.natAbs = 1
      rw [Nat.gcd_comm]
      exact h2
    have k' : s.natAbs ∣ r.natAbs * q.natAbs := by
      rw [← Int.natAbs_mul]
      exact Int.natAbs_dvd_natAbs.mpr k
    exact Int.natAbs_dvd_natAbs.mp (h2'.dvd_of_dvd_mul_left k')
  have e : q = s := Int.le_antisymm (Int.le_of_dvd hs d1) (Int.le_of_dvd hq d2)
  refine ⟨?_, e⟩
  subst e
  exact Int.eq_of_mul_eq_mul_right (by omega) h
theorem lw_eq {a b c d : Int} (hb : 0 < b) (hd : 0 < d) (h : a * d = c * b) : lw a b = lw c d := by
  obtain ⟨g, g0, e1, e2, q0, hg⟩ := lw_facts (a := a) hb
  obtain ⟨k, k0, f1, f2, s0, hk⟩ := lw_facts (a := c) hd
  generalize lw a b = x at *
  generalize lw c d = y at *
  have key : x.1 * y.2 = y.1 * x.2 := by
    have e : (g * k) * (x.1 * y.2) = (g * k) * (y.1 * x.2) := by
      have l : a * d = (g * k) * (x.1 * y.2) := by
        rw [e1, f2]
        simp only [Int.mul_assoc, Int.mul_comm, Int.mul_left_comm]
      have r : c * b = (g * k) * (y.1 * x.2) := by
        rw [f1, e2]
        simp only [Int.mul_assoc, Int.mul_comm, Int.mul_left_comm]
      rw [← l, ← r, h]
    exact Int.eq_of_mul_eq_mul_left (Int.ne_of_gt (Int.mul_pos g0 k0)) e
  obtain ⟨u1, u2⟩ := low_unique q0 s0 hg hk key
  exact Prod.ext u1 u2
theorem lowest_lw {a b : Int} {n : Nat} (hb : 0 < b) (sa : Sm n a) (sb : Sm n b) (l : n < 9000 := by decide) : F__law_lowest [.int a, .int b] = .ok (rt (lw a b)) := by
  have hb0 : b ≠ 0 := by omega
  have z : ¬ b < 0 := by omega
  have h0 : 0 < (Int.gcd a b : Int) := Int.natCast_pos.mpr (Int.gcd_pos_of_ne_zero_right a hb0)
  have dg : divOk (Int.gcd a b : Int) = true := divOk_le sb (by omega) (gcd_le_right hb0) l
  unfold F__law_lowest B__law_lowest rt rat lw
  simp (implicitDefEqProofs := false) only [x_run, x_out_nx, x_out_rt, x_out_er, x_seq, x_seq_nx, x_seq_rt, x_seq_er, x_seq_ct, x_seq_bk, x_ofR_ok, x_ofR_er, x_nx, x_bk, x_ct, x_set, x_setL, x_ret, x_drop, x_retN, x_if, x_raise, x_var, x_gv0, x_gvS, x_gvo0, x_gvoS, x_gb, x_gb0, x_gbO, x_gbS, x_c, x_op, x_cm, x_un, x_bf, x_isi, x_ix, x_ixO, x_ofO_some, x_anil, x_acons, x_tup, x_lst, x_eL, x_tb, x_nt, x_an, x_or, x_ent, x_ean, x_eor, x_eif, x_tT, x_tV, x_tY, x_call, x_callD, x_callK, x_cd1, x_cd2, x_cd3, x_cd4, x_st0, x_stS, x_stN, x_wh, x_for, x_iseq, x_ir1, x_ir2, x_add, x_sub, x_neg, x_dcmp, x_eqI, x_neI, x_absI, x_intI, x_gcdI, x_maxI, x_minI, x_lenL, x_lenT, x_ixL, x_ixT, x_at0, x_at1, x_sz0, x_sz1, x_sz2, x_sz3, x_gN, x_forN, x_for0, x_fB_nx, x_fB_ct, x_fB_bk, x_fB_rt, x_fB_er, x_iTT, x_iTL, x_iTI, x_iLT, x_iLL, x_iII, x_iBI, x_iSS, x_iBB, x_truB, x_itT, x_itL, x_try, RO.bind_ok, RO.bind_er, RO.pure_ok, List.set_cons_zero, List.set_cons_succ, List.cons_append, List.nil_append, if_true, if_false, ite_true, ite_false, reduceIte, Bool.false_eq_true, Bool.true_eq_false, Bool.not_true, Bool.not_false, x_len1, and_self, decide_eq_true_eq, decide_true, decide_false, eq_self, Bool.not_eq_true', decide_eq_false_iff_not, not_true_eq_false, not_false_eq_true, ne_eq, x_eqB, x_neB, x_intB, x_iIB, x_gT2, x_lLi, x_eTu, x_eTuO, x_eLeO, x_dSeqL, x_dSeqT, x_oN, x_oS, x_tI, x_sl, x_cutL, x_cutT, x_comp, x_app, x_asg, x_aug, wipeE, List.length_map, z, common_ok sa sb (by omega), x_div dg]
theorem mlX {m n : Nat} {i j : Int} (h : Sm m i) (k : Sm n j) (l : m + n < 100000000 := by decide) : dMulX (.int i) (.int j) = some (.int (i * j)) := by
  show (if mulOk i j = true then some (PyData.int (i * j)) else none) = _
  rw [if_pos (mulOk_sm h k l)]
theorem u0 {x : Int × Int} : dIx (rt x) (.int 0) = some (.int x.1) := x_at0
theorem u1 {x : Int × Int} : dIx (rt x) (.int 1) = some (.int x.2) := x_at1
def addL (x y : Int × Int) : Int × Int := lw (x.1 * y.2 + y.1 * x.2) (x.2 * y.2)
def subL (x y : Int × Int) : Int × Int := lw (x.1 * y.2 - y.1 * x.2) (x.2 * y.2)
def mulL (x y : Int × Int) : Int × Int := lw (x.1 * y.1) (x.2 * y.2)
def negL (x : Int × Int) : Int × Int := (-x.1, x.2)
section
variable {x y : Int × Int} {n m : Nat}
theorem lw_rt {a b : Int} {k : Nat} (hb : 0 < b) (sa : Sm k a) (sb : Sm k b) : Rt k (lw a b).1 (lw a b).2 := by
  obtain ⟨g, g0, e1, e2, q0, hg⟩ := lw_facts (a := a) hb
  refine ⟨q0, hg, sa.le ?_, sb.le ?_⟩
  · have h := abs_le_mul (p := (lw a b).1) g0
    rw [← e1] at h
    exact h
  · have h := abs_le_mul (p := (lw a b).2) g0
    rw [← e2] at h
    exact h
theorem lw_self (h : Rt n x.1 x.2) : lw x.1 x.2 = x := by
  obtain ⟨g, g0, e1, e2, q0, hg⟩ := lw_facts (a := x.1) h.1
  obtain ⟨u1, u2⟩ := low_unique q0 h.1 hg h.2.1 (by
    generalize lw x.1 x.2 = z at *
    have l : z.1 * x.2 = z.1 * (g * z.2) := by rw [← e2]
    have r : x.1 * z.2 = g * z.1 * z.2 := by rw [← e1]
    rw [l, r]
    simp only [Int.mul_assoc, Int.mul_comm, Int.mul_left_comm])
  exact Prod.ext u1 u2
theorem add_rt (hx : Rt n x.1 x.2) (hy : Rt m y.1 y.2) : Rt (n + m + 1) (addL x y).1 (addL x y).2 :=
  lw_rt (Int.mul_pos hx.1 hy.1) (Sm.add (hx.2.2.1.mul hy.2.2.2) ((hy.2.2.1.mul hx.2.2.2).mono (by omega))) ((hx.2.2.2.mul hy.2.2.2).mono (by omega))
theorem sub_rt (hx : Rt n x.1 x.2) (hy : Rt m y.1 y.2) : Rt (n + m + 1) (subL x y).1 (subL x y).2 :=
  lw_rt (Int.mul_pos hx.1 hy.1) (Sm.sub (hx.2.2.1.mul hy.2.2.2) ((hy.2.2.1.mul hx.2.2.2).mono (by omega))) ((hx.2.2.2.mul hy.2.2.2).mono (by omega))
theorem mul_rt (hx : Rt n x.1 x.2) (hy : Rt m y.1 y.2) : Rt (n + m) (mulL x y).1 (mulL x y).2 :=
  lw_rt (Int.mul_pos hx.1 hy.1) (hx.2.2.1.mul hy.2.2.1) (hx.2.2.2.mul hy.2.2.2)
end
/-! ### the law's own equality -/
inductive Flat : Nat → PyData → Prop where
  | int {n : Nat} (i : Int) : Flat n (.int i)
  | bool {n : Nat} (b : Bool) : Flat n (.bool b)
  | tup {n : Nat} (xs : List PyData) : xs.length ≤ 1000 → (∀ x ∈ xs, Flat n x) → Flat (n + 1) (.tuple xs)
theorem all_true {α : Type} (xs : List α) : cAll [.list (xs.map fun _ => PyData.bool true)] = some (.bool true) := by
  have h : bools (xs.map fun _ => PyData.bool true) = some (xs.map fun _ => true) := by
    induction xs with
    | nil => rfl
    | cons x xs ih =>
      show (bools (xs.map fun _ => PyData.bool true)).map (true :: ·) = _
      rw [ih]
      rfl
  show (bools (xs.map fun _ => PyData.bool true)).map _ = _
  rw [h]
  show some (PyData.bool ((xs.map fun _ => true).all id)) = _
  congr 2
  rw [List.all_eq_true]
  intro b hb
  obtain ⟨_, _, rfl⟩ := List.mem_map.mp hb
  rfl
theorem iso1 {j : Int} : isiO "str" (.int j) = some (.bool false) := rfl
theorem iso2 {b : Bool} : isiO "tuple" (.bool b) = some (.bool false) := rfl
theorem iso3 {b : Bool} : isiO "str" (.bool b) = some (.bool false) := rfl
theorem isn1 {j : Int} : dIs (.int j) .none = some (.bool false) := rfl
theorem isn2 {b : Bool} : dIs (.bool b) .none = some (.bool false) := rfl
theorem same_ok : ∀ (fu n : Nat) (d : PyData), Flat n d → n < fu → F__law_same fu [d, d] = .ok (.bool true)
  | 0, n, d, _, h => absurd h (Nat.not_lt_zero _)
  | fu + 1, n, d, hf, h => by
    cases hf with
    | int i =>
      show runD 3 (B__law_same (F__law_same fu)) [.int i, .int i] = _
      unfold B__law_same
      simp (implicitDefEqProofs := false) only [x_run, x_out_nx, x_out_rt, x_out_er, x_seq, x_seq_nx, x_seq_rt, x_seq_er, x_seq_ct, x_seq_bk, x_ofR_ok, x_ofR_er, x_nx, x_bk, x_ct, x_set, x_setL, x_ret, x_drop, x_retN, x_if, x_raise, x_var, x_gv0, x_gvS, x_gvo0, x_gvoS, x_gb, x_gb0, x_gbO, x_gbS, x_c, x_op, x_cm, x_un, x_bf, x_isi, x_ix, x_ixO, x_ofO_some, x_anil, x_acons, x_tup, x_lst, x_eL, x_tb, x_nt, x_an, x_or, x_ent, x_ean, x_eor, x_eif, x_tT, x_tV, x_tY, x_call, x_callD, x_callK, x_cd1, x_cd2, x_cd3, x_cd4, x_st0, x_stS, x_stN, x_wh, x_for, x_iseq, x_ir1, x_ir2, x_add, x_sub, x_neg, x_dcmp, x_eqI, x_neI, x_absI, x_intI, x_gcdI, x_maxI, x_minI, x_lenL, x_lenT, x_ixL, x_ixT, x_at0, x_at1, x_sz0, x_sz1, x_sz2, x_sz3, x_gN, x_forN, x_for0, x_fB_nx, x_fB_ct, x_fB_bk, x_fB_rt, x_fB_er, x_iTT, x_iTL, x_iTI, x_iLT, x_iLL, x_iII, x_iBI, x_iSS, x_iBB, x_truB, x_itT, x_itL, x_try, RO.bind_ok, RO.bind_er, RO.pure_ok, List.set_cons_zero, List.set_cons_succ, List.cons_append, List.nil_append, if_true, if_false, ite_true, ite_false, reduceIte, Bool.false_eq_true, Bool.true_eq_false, Bool.not_true, Bool.not_false, x_len1, and_self, decide_eq_true_eq, decide_true, decide_false, eq_self, Bool.not_eq_true', decide_eq_false_iff_not, not_true_eq_false, not_false_eq_true, ne_eq, x_eqB, x_neB, x_intB, x_iIB, x_gT2, x_lLi, x_eTu, x_eTuO, x_eLeO, x_dSeqL, x_dSeqT, x_oN, x_oS, x_tI, x_sl, x_cutL, x_cutT, x_comp, x_app, x_asg, x_aug, wipeE, List.length_map, iso1, isn1]
    | bool b =>
      show runD 3 (B__law_same (F__law_same fu)) [.bool b, .bool b] = _
      unfold B__law_same
      simp (implicitDefEqProofs := false) only [x_run, x_out_nx, x_out_rt, x_out_er, x_seq, x_seq_nx, x_seq_rt, x_seq_er, x_seq_ct, x_seq_bk, x_ofR_ok, x_ofR_er, x_nx, x_bk, x_ct, x_set, x_setL, x_ret, x_drop, x_retN, x_if, x_raise, x_var, x_gv0, x_gvS, x_gvo0, x_gvoS, x_gb, x_gb0, x_gbO, x_gbS, x_c, x_op, x_cm, x_un, x_bf, x_isi, x_ix, x_ixO, x_ofO_some, x_anil, x_acons, x_tup, x_lst, x_eL, x_tb, x_nt, x_an, x_or, x_ent, x_ean, x_eor, x_eif, x_tT, x_tV, x_tY, x_call, x_callD, x_callK, x_cd1, x_cd2, x_cd3, x_cd4, x_st0, x_stS, x_stN, x_wh, x_for, x_iseq, x_ir1, x_ir2, x_add, x_sub, x_neg, x_dcmp, x_eqI, x_neI, x_absI, x_intI, x_gcdI, x_maxI, x_minI, x_lenL, x_lenT, x_ixL, x_ixT, x_at0, x_at1, x_sz0, x_sz1, x_sz2, x_sz3, x_gN, x_forN, x_for0, x_fB_nx, x_fB_ct, x_fB_bk, x_fB_rt, x_fB_er, x_iTT, x_iTL, x_iTI, x_iLT, x_iLL, x_iII, x_iBI, x_iSS, x_iBB, x_truB, x_itT, x_itL, x_try, RO.bind_ok, RO.bind_er, RO.pure_ok, List.set_cons_zero, List.set_cons_succ, List.cons_append, List.nil_append, if_true, if_false, ite_true, ite_false, reduceIte, Bool.false_eq_true, Bool.true_eq_false, Bool.not_true, Bool.not_false, x_len1, and_self, decide_eq_true_eq, decide_true, decide_false, eq_self, Bool.not_eq_true', decide_eq_false_iff_not, not_true_eq_false, not_false_eq_true, ne_eq, x_eqB, x_neB, x_intB, x_iIB, x_gT2, x_lLi, x_eTu, x_eTuO, x_eLeO, x_dSeqL, x_dSeqT, x_oN, x_oS, x_tI, x_sl, x_cutL, x_cutT, x_comp, x_app, x_asg, x_aug, wipeE, List.length_map, iso2, iso3, isn2]
    | @tup n xs hl hx =>
      have er : rng1 (.int (xs.length : Int)) = .ok ((List.range xs.length).map fun k : Nat => PyData.int (0 + (k : Int))) := rng1_ok hl
      have ec : compD (gN 2) tY (eCall 2 (F__law_same fu) (aCons (eIx (eVar 0) (eVar 2)) (aCons (eIx (eVar 1) (eVar 2)) aNil))) [some (.fz (.tuple xs)), some (.fz (.tuple xs)), none] ((List.range xs.length).map fun k : Nat => PyData.int (0 + (k : Int))) = .ok ((List.range xs.length).map fun _ => PyData.bool true) :=
        compD_map (fun k : Nat => PyData.int (0 + (k : Int))) (fun _ => PyData.bool true) (List.range xs.length) (by rw [List.length_range]; exact hl) fun k hk => by
          have hk' := List.mem_range.mp hk
          have e1 : atI xs (0 + (k : Int)) = some xs[k] := by
            rw [Int.zero_add]
            exact atI_nat (List.getElem?_eq_getElem hk')
          have e2 := same_ok fu n xs[k] (hx _ (List.getElem_mem hk')) (by omega)
          refine ⟨_, rfl, ?_⟩
          simp (implicitDefEqProofs := false) only [x_run, x_out_nx, x_out_rt, x_out_er, x_seq, x_seq_nx, x_seq_rt, x_seq_er, x_seq_ct, x_seq_bk, x_ofR_ok, x_ofR_er, x_nx, x_bk, x_ct, x_set, x_setL, x_ret, x_drop, x_retN, x_if, x_raise, x_var, x_gv0, x_gvS, x_gvo0, x_gvoS, x_gb, x_gb0, x_gbO, x_gbS, x_c, x_op, x_cm, x_un, x_bf, x_isi, x_ix, x_ixO, x_ofO_some, x_anil, x_acons, x_tup, x_lst, x_eL, x_tb, x_nt, x_an, x_or, x_ent, x_ean, x_eor, x_eif, x_tT, x_tV, x_tY, x_call, x_callD, x_callK, x_cd1, x_cd2, x_cd3, x_cd4, x_st0, x_stS, x_stN, x_wh, x_for, x_iseq, x_ir1, x_ir2, x_add, x_sub, x_neg, x_dcmp, x_eqI, x_neI, x_absI, x_intI, x_gcdI, x_maxI, x_minI, x_lenL, x_lenT, x_ixL, x_ixT, x_at0, x_at1, x_sz0, x_sz1, x_sz2, x_sz3, x_gN, x_forN, x_for0, x_fB_nx, x_fB_ct, x_fB_bk, x_fB_rt, x_fB_er, x_iTT, x_iTL, x_iTI, x_iLT, x_iLL, x_iII, x_iBI, x_iSS, x_iBB, x_truB, x_itT, x_itL, x_try, RO.bind_ok, RO.bind_er, RO.pure_ok, List.set_cons_zero, List.set_cons_succ, List.cons_append, List.nil_append, if_true, if_false, ite_true, ite_false, reduceIte, Bool.false_eq_true, Bool.true_eq_false, Bool.not_true, Bool.not_false, x_len1, and_self, decide_eq_true_eq, decide_true, decide_false, eq_self, Bool.not_eq_true', decide_eq_false_iff_not, not_true_eq_false, not_false_eq_true, ne_eq, x_eqB, x_neB, x_intB, x_iIB, x_gT2, x_lLi, x_eTu, x_eTuO, x_eLeO, x_dSeqL, x_dSeqT, x_oN, x_oS, x_tI, x_sl, x_cutL, x_cutT, x_comp, x_app, x_asg, x_aug, wipeE, List.length_map, e1, e2]
      show runD 3 (B__law_same (F__law_same fu)) [.tuple xs, .tuple xs] = _
      unfold B__law_same
      simp (implicitDefEqProofs := false) only [x_run, x_out_nx, x_out_rt, x_out_er, x_seq, x_seq_nx, x_seq_rt, x_seq_er, x_seq_ct, x_seq_bk, x_ofR_ok, x_ofR_er, x_nx, x_bk, x_ct, x_set, x_setL, x_ret, x_drop, x_retN, x_if, x_raise, x_var, x_gv0, x_gvS, x_gvo0, x_gvoS, x_gb, x_gb0, x_gbO, x_gbS, x_c, x_op, x_cm, x_un, x_bf, x_isi, x_ix, x_ixO, x_ofO_some, x_anil, x_acons, x_tup, x_lst, x_eL, x_tb, x_nt, x_an, x_or, x_ent, x_ean, x_eor, x_eif, x_tT, x_tV, x_tY, x_call, x_callD, x_callK, x_cd1, x_cd2, x_cd3, x_cd4, x_st0, x_stS, x_stN, x_wh, x_for, x_iseq, x_ir1, x_ir2, x_add, x_sub, x_neg, x_dcmp, x_eqI, x_neI, x_absI, x_intI, x_gcdI, x_maxI, x_minI, x_lenL, x_lenT, x_ixL, x_ixT, x_at0, x_at1, x_sz0, x_sz1, x_sz2, x_sz3, x_gN, x_forN, x_for0, x_fB_nx, x_fB_ct, x_fB_bk, x_fB_rt, x_fB_er, x_iTT, x_iTL, x_iTI, x_iLT, x_iLL, x_iII, x_iBI, x_iSS, x_iBB, x_truB, x_itT, x_itL, x_try, RO.bind_ok, RO.bind_er, RO.pure_ok, List.set_cons_zero, List.set_cons_succ, List.cons_append, List.nil_append, if_true, if_false, ite_true, ite_false, reduceIte, Bool.false_eq_true, Bool.true_eq_false, Bool.not_true, Bool.not_false, x_len1, and_self, decide_eq_true_eq, decide_true, decide_false, eq_self, Bool.not_eq_true', decide_eq_false_iff_not, not_true_eq_false, not_false_eq_true, ne_eq, x_eqB, x_neB, x_intB, x_iIB, x_gT2, x_lLi, x_eTu, x_eTuO, x_eLeO, x_dSeqL, x_dSeqT, x_oN, x_oS, x_tI, x_sl, x_cutL, x_cutT, x_comp, x_app, x_asg, x_aug, wipeE, List.length_map, er, ec, all_true]
theorem flat_rt {n : Nat} (x : Int × Int) : Flat (n + 1) (rt x) := .tup _ (by show 2 ≤ 1000; decide) fun y hy => by
  rcases List.mem_cons.mp hy with h | hy
  · rw [h]
    exact .int _
  · rw [List.mem_singleton.mp hy]
    exact .int _
theorem flat_rts {n : Nat} {ps : List (Int × Int)} (h : ps.length ≤ 1000) : Flat (n + 2) (.tuple (ps.map rt)) := .tup _ (by rw [List.length_map]; exact h) fun y hy => by
  obtain ⟨x, _, rfl⟩ := List.mem_map.mp hy
  exact flat_rt x
theorem same_rt (x : Int × Int) : F__law_same RD [rt x, rt x] = .ok (.bool true) := same_ok RD 1 _ (flat_rt x) (by decide)
theorem same_rts {ps : List (Int × Int)} (h : ps.length ≤ 1000) : F__law_same RD [.tuple (ps.map rt), .tuple (ps.map rt)] = .ok (.bool true) := same_ok RD 2 _ (flat_rts h) (by decide)
/-! ### dot -/
abbrev PP := (Int × Int) × (Int × Int)
def dotZ : List PP → Int × Int → Int × Int
  | [], s => s
  | z :: zs, s => dotZ zs (addL s (mulL z.1 z.2))
theorem dotZ_snoc (z : PP) : ∀ (zs : List PP) (s : Int × Int), dotZ (zs ++ [z]) s = addL (dotZ zs s) (mulL z.1 z.2)
  | [], s => rfl
  | y :: ys, s => dotZ_snoc z ys _
def Rzs (n : Nat) (zs : List PP) : Prop := ∀ z ∈ zs, Rt n z.1.1 z.1.2 ∧ Rt n z.2.1 z.2.2
theorem dotZ_rt {n : Nat} : ∀ (zs : List PP) (s : Int × Int) (m : Nat), Rzs n zs → Rt m s.1 s.2 → Rt (m + (2 * n + 1) * zs.length) (dotZ zs s).1 (dotZ zs s).2
  | [], s, m, _, h => h
  | z :: zs, s, m, hr, h => by
    obtain ⟨r1, r2⟩ := hr z (List.mem_cons_self ..)
    have k := dotZ_rt zs (addL s (mulL z.1 z.2)) (m + (n + n) + 1) (fun y hy => hr y (List.mem_cons_of_mem _ hy)) (add_rt h (mul_rt r1 r2))
    have e : m + (n + n) + 1 + (2 * n + 1) * zs.length = m + (2 * n + 1) * (z :: zs).length := by
      rw [List.length_cons, Nat.mul_add]
      omega
    rw [e] at k
    exact k
theorem Rt.mono {n m : Nat} {a b : Int} (h : Rt n a b) (l : n ≤ m) : Rt m a b := ⟨h.1, h.2.1, h.2.2.1.mono l, h.2.2.2.mono l⟩
theorem rt01 : Rt 1 0 1 := ⟨by decide, by decide, by show (0 : Int).natAbs < 2 ^ 1; decide, by show (1 : Int).natAbs < 2 ^ 1; decide⟩
theorem range_pre {n k : Nat} {pre q : List Nat} (h : List.range n = pre ++ k :: q) : k = pre.length ∧ k < n := by
  have e : (List.range n)[pre.length]? = some k := by
    rw [h, List.getElem?_append_right (Nat.le_refl _), Nat.sub_self]
    rfl
  obtain ⟨h1, h2⟩ := List.getElem?_eq_some_iff.mp e
  rw [List.getElem_range] at h2
  rw [List.length_range] at h1
  exact ⟨h2.symm, by omega⟩
def vz (zs : List PP) : List PyData := zs.map fun z => rt z.1
def wz (zs : List PP) : List PyData := zs.map fun z => rt z.2
theorem vz_at {zs : List PP} {k : Nat} (h : k < zs.length) : atI (vz zs) (0 + (k : Int)) = some (rt zs[k].1) := by
  rw [Int.zero_add]
  exact atI_nat (by unfold vz; rw [List.getElem?_map, List.getElem?_eq_getElem h]; rfl)
theorem wz_at {zs : List PP} {k : Nat} (h : k < zs.length) : atI (wz zs) (0 + (k : Int)) = some (rt zs[k].2) := by
  rw [Int.zero_add]
  exact atI_nat (by unfold wz; rw [List.getElem?_map, List.getElem?_eq_getElem h]; rfl)
theorem gcd_parts {b q : Int} (hb : 0 < b) (hq : 0 < q) : ∃ b1 q1 : Int, b = (Int.gcd b q : Int) * b1 ∧ q = (Int.gcd b q : Int) * q1 ∧ b.fdiv (Int.gcd b q : Int) = b1 ∧ q.fdiv (Int.gcd b q : Int) = q1 ∧ divOk (Int.gcd b q : Int) = (decide (((Int.gcd b q : Int)).natAbs.log2 < 9000)) ∧ 0 < b1 ∧ 0 < q1 ∧ b1 ≤ b ∧ q1 ≤ q := by
  have g0 : 0 < (Int.gcd b q : Int) := Int.natCast_pos.mpr (Int.gcd_pos_of_ne_zero_right b (by omega))
  obtain ⟨b1, e1⟩ := Int.gcd_dvd_left b q
  obtain ⟨q1, e2⟩ := Int.gcd_dvd_right b q
  generalize (Int.gcd b q : Int) = g at *
  have b0 : 0 < b1 := by
    rcases Int.lt_or_le 0 b1 with h | h
    · exact h
    · have := Int.mul_nonpos_of_nonneg_of_nonpos (Int.le_of_lt g0) h
      omega
  have q0 : 0 < q1 := by
    rcases Int.lt_or_le 0 q1 with h | h
    · exact h
    · have := Int.mul_nonpos_of_nonneg_of_nonpos (Int.le_of_lt g0) h
      omega
  refine ⟨b1, q1, e1, e2, ?_, ?_, ?_, b0, q0, ?_, ?_⟩
  · rw [e1, fdiv_gcd g0]
  · rw [e2, fdiv_gcd g0]
  · unfold divOk
    rw [decide_eq_true (show g ≠ 0 by omega), Bool.true_and]
  · have := Int.mul_le_mul_of_nonneg_right (show 1 ≤ g by omega) (Int.le_of_lt b0)
    omega
  · have := Int.mul_le_mul_of_nonneg_right (show 1 ≤ g by omega) (Int.le_of_lt q0)
    omega
/-- a over b and c over d are the same -/
theorem tr {a b c d e f : Int} (hd : d ≠ 0) (h1 : a * d = c * b) (h2 : c * f = e * d) : a * f = e * b := by
  have k : d * (a * f) = d * (e * b) := by
    have l : d * (a * f) = (a * d) * f := by simp only [Int.mul_assoc, Int.mul_comm, Int.mul_left_comm]
    have r : d * (e * b) = (e * d) * b := by simp only [Int.mul_assoc, Int.mul_comm, Int.mul_left_comm]
    rw [l, r, h1, ← h2]
    simp only [Int.mul_assoc, Int.mul_comm, Int.mul_left_comm]
  exact Int.eq_of_mul_eq_mul_left hd k
theorem lw_cross {a b : Int} (hb : 0 < b) : a * (lw a b).2 = (lw a b).1 * b := by
  obtain ⟨g, g0, e1, e2, q0, hg⟩ := lw_facts (a := a) hb
  generalize lw a b = z at *
  have l : a * z.2 = g * z.1 * z.2 := by rw [← e1]
  have r : z.1 * b = z.1 * (g * z.2) := by rw [← e2]
  rw [l, r]
  simp only [Int.mul_assoc, Int.mul_comm, Int.mul_left_comm]
/-- the step of dot: a over b was the sum S; a product x y more -/
theorem dot_cross {a b b1 q1 g : Int} {S x y : Int × Int} (hS : 0 < S.2) (hx : 0 < x.2) (hy : 0 < y.2) (e1 : b = g * b1) (e2 : x.2 * y.2 = g * q1) (h : a * S.2 = S.1 * b) :
    (a * q1 + x.1 * y.1 * b1) * (addL S (mulL x y)).2 = (addL S (mulL x y)).1 * (b1 * (x.2 * y.2)) := by
  have hm := lw_cross (a := x.1 * y.1) (Int.mul_pos hx hy)
  have m0 : 0 < (mulL x y).2 := (lw_facts (a := x.1 * y.1) (Int.mul_pos hx hy)).choose_spec.2.2.2.1
  have hm' : x.1 * y.1 * (mulL x y).2 = (mulL x y).1 * (x.2 * y.2) := hm
  generalize mulL x y = M at *
  have ha := lw_cross (a := S.1 * M.2 + M.1 * S.2) (Int.mul_pos hS m0)
  have ha' : (S.1 * M.2 + M.1 * S.2) * (addL S M).2 = (addL S M).1 * (S.2 * M.2) := ha
  generalize addL S M = T at *
  refine tr (c := S.1 * M.2 + M.1 * S.2) (d := S.2 * M.2) (Int.ne_of_gt (Int.mul_pos hS m0)) ?_ ha'
  generalize x.1 * y.1 = part at *
  generalize x.2 * y.2 = piece at *
  have k1 : a * q1 * (S.2 * M.2) = S.1 * M.2 * (b1 * piece) := by
    have l : a * q1 * (S.2 * M.2) = (a * S.2) * (q1 * M.2) := by simp only [Int.mul_assoc, Int.mul_comm, Int.mul_left_comm]
    rw [l, h, e1, e2]
    simp only [Int.mul_assoc, Int.mul_comm, Int.mul_left_comm]
  have k2 : part * b1 * (S.2 * M.2) = M.1 * S.2 * (b1 * piece) := by
    have l : part * b1 * (S.2 * M.2) = (part * M.2) * (b1 * S.2) := by simp only [Int.mul_assoc, Int.mul_comm, Int.mul_left_comm]
    rw [l, hm']
    simp only [Int.mul_assoc, Int.mul_comm, Int.mul_left_comm]
  rw [Int.add_mul, Int.add_mul, k1, k2]
theorem dot_zero {a b : Int} {S x y : Int × Int} (hS : 0 < S.2) (hx : 0 < x.2) (hy : 0 < y.2) (z : x.1 * y.1 = 0) (h : a * S.2 = S.1 * b) : a * (addL S (mulL x y)).2 = (addL S (mulL x y)).1 * b := by
  have hm := lw_cross (a := x.1 * y.1) (Int.mul_pos hx hy)
  have m0 : 0 < (mulL x y).2 := (lw_facts (a := x.1 * y.1) (Int.mul_pos hx hy)).choose_spec.2.2.2.1
  have hm' : x.1 * y.1 * (mulL x y).2 = (mulL x y).1 * (x.2 * y.2) := hm
  rw [z, Int.zero_mul] at hm'
  have mz : (mulL x y).1 = 0 := by
    rcases Int.mul_eq_zero.mp hm'.symm with k | k
    · exact k
    · have := Int.mul_pos hx hy
      omega
  generalize mulL x y = M at *
  have ha := lw_cross (a := S.1 * M.2 + M.1 * S.2) (Int.mul_pos hS m0)
  have ha' : (S.1 * M.2 + M.1 * S.2) * (addL S M).2 = (addL S M).1 * (S.2 * M.2) := ha
  generalize addL S M = T at *
  refine tr (c := S.1 * M.2 + M.1 * S.2) (d := S.2 * M.2) (Int.ne_of_gt (Int.mul_pos hS m0)) ?_ ha'
  rw [mz, Int.zero_mul, Int.add_zero]
  have l : a * (S.2 * M.2) = (a * S.2) * M.2 := by rw [Int.mul_assoc]
  rw [l, h]
  simp only [Int.mul_assoc, Int.mul_comm, Int.mul_left_comm]
def dotB : S := sSeq (sSet 8 (eOp dMulX (eVar 4) (eVar 6))) (sIf (tCm dNe (eVar 8) (eC (.int 0))) (sSeq (sSet 9 (eOp dMulX (eVar 5) (eVar 7))) (sSeq (sSet 10 (eBf cGcd (aCons (eVar 3) (aCons (eVar 9) aNil)))) (sSeq (sSet 2 (eOp dAdd (eOp dMulX (eVar 2) (eOp dDiv (eVar 9) (eVar 10))) (eOp dMulX (eVar 8) (eOp dDiv (eVar 3) (eVar 10))))) (sSet 3 (eOp dMulX (eOp dDiv (eVar 3) (eVar 10)) (eVar 9)))))) sNx)
abbrev dotG : G := gT 2 (gsC (gT 2 (gsC (gN 4) (gsC (gN 5) gsN))) (gsC (gT 2 (gsC (gN 6) (gsC (gN 7) gsN))) gsN))
theorem zip_vw (zs : List PP) : List.zipWith pr (vz zs) (wz zs) = zs.map fun z => pr (rt z.1) (rt z.2) := by
  unfold vz wz
  rw [List.zipWith_map, List.zipWith_self]
/-! ### what the law draws -/
theorem pick {P : Int → Prop} : ∀ (l : List Int) (i : Nat), i < l.length → (∀ v ∈ l, P v) → ∃ v, (l.map PyData.int)[i]? = some (.int v) ∧ P v
  | [], i, h, _ => absurd h (Nat.not_lt_zero _)
  | x :: l, 0, _, h => ⟨x, rfl, h x (List.mem_cons_self ..)⟩
  | x :: l, i + 1, hi, h => pick l i (Nat.lt_of_succ_lt_succ hi) fun v hv => h v (List.mem_cons_of_mem _ hv)
theorem pickI {P : Int → Prop} {l : List Int} {i : Int} (h0 : 0 ≤ i) (h1 : i < l.length) (h : ∀ v ∈ l, P v) : ∃ v, atI (l.map PyData.int) i = some (.int v) ∧ P v := by
  obtain ⟨j, rfl⟩ := Int.eq_ofNat_of_zero_le h0
  obtain ⟨v, e, hv⟩ := pick l j (by omega) h
  exact ⟨v, atI_nat e, hv⟩
theorem x_sz6 {a b c d e f : PyData} : ([a, b, c, d, e, f].length ≤ sizeLine) = True := eq_true (by show 6 ≤ sizeLine; decide)
theorem six (c : Int) : ∃ v, atI [PyData.int 1, .int 1, .int 2, .int 3, .int 1, .int 7] (c % 6) = some (.int v) ∧ 0 < v ∧ v ≤ 7 := by
  refine pickI (P := fun v => 0 < v ∧ v ≤ 7) (l := [1, 1, 2, 3, 1, 7]) (Int.emod_nonneg c (by decide)) (Int.emod_lt_of_pos c (by decide)) fun v hv => ?_
  simp only [List.mem_cons, List.not_mem_nil, or_false] at hv
  omega
theorem pow9 : dPow (.int 10) (.int 9) = some (.int 1000000000) := by
  have h : powOk 10 9 = true := by decide +kernel
  show (if powOk 10 9 = true then some (PyData.int (10 ^ (9 : Int).toNat)) else none) = _
  rw [if_pos h]
  rfl
theorem sm35 {i : Int} (h : i.natAbs ≤ 10000000000) : Sm 35 i := Nat.lt_of_le_of_lt h (by decide)
theorem ratio_ok (c : Int) : ∃ x : Int × Int, F__law_ratio [.int c] = .ok (rt x) ∧ Rt 35 x.1 x.2 := by
  obtain ⟨v, ev, v0, v1⟩ := six (c.fdiv 19)
  have d19 : divOk 19 = true := by decide +kernel
  have d114 : divOk 114 = true := by decide +kernel
  have m0 := Int.emod_nonneg c (show (19 : Int) ≠ 0 by decide)
  have m1 := Int.emod_lt_of_pos c (show (0 : Int) < 19 by decide)
  have s1 : Sm 35 (c % 19 - 9) := sm35 (by omega)
  have sv : Sm 35 v := sm35 (by omega)
  by_cases z : c.fdiv 114 % 18 = 16
  · have t1 : Sm 35 ((c % 19 - 9) * 1000000000 + 7) := sm35 (by omega)
    have t2 : Sm 35 (v * 101) := sm35 (by omega)
    have e := lowest_lw (a := (c % 19 - 9) * 1000000000 + 7) (b := v * 101) (by omega) t1 t2
    refine ⟨_, ?_, lw_rt (by omega) t1 t2⟩
    unfold F__law_ratio B__law_ratio
    simp (implicitDefEqProofs := false) only [x_run, x_out_nx, x_out_rt, x_out_er, x_seq, x_seq_nx, x_seq_rt, x_seq_er, x_seq_ct, x_seq_bk, x_ofR_ok, x_ofR_er, x_nx, x_bk, x_ct, x_set, x_setL, x_ret, x_drop, x_retN, x_if, x_raise, x_var, x_gv0, x_gvS, x_gvo0, x_gvoS, x_gb, x_gb0, x_gbO, x_gbS, x_c, x_op, x_cm, x_un, x_bf, x_isi, x_ix, x_ixO, x_ofO_some, x_anil, x_acons, x_tup, x_lst, x_eL, x_tb, x_nt, x_an, x_or, x_ent, x_ean, x_eor, x_eif, x_tT, x_tV, x_tY, x_call, x_callD, x_callK, x_cd1, x_cd2, x_cd3, x_cd4, x_st0, x_stS, x_stN, x_wh, x_for, x_iseq, x_ir1, x_ir2, x_add, x_sub, x_neg, x_dcmp, x_eqI, x_neI, x_absI, x_intI, x_gcdI, x_maxI, x_minI, x_lenL, x_lenT, x_ixL, x_ixT, x_at0, x_at1, x_sz0, x_sz1, x_sz2, x_sz3, x_gN, x_forN, x_for0, x_fB_nx, x_fB_ct, x_fB_bk, x_fB_rt, x_fB_er, x_iTT, x_iTL, x_iTI, x_iLT, x_iLL, x_iII, x_iBI, x_iSS, x_iBB, x_truB, x_itT, x_itL, x_try, RO.bind_ok, RO.bind_er, RO.pure_ok, List.set_cons_zero, List.set_cons_succ, List.cons_append, List.nil_append, if_true, if_false, ite_true, ite_false, reduceIte, Bool.false_eq_true, Bool.true_eq_false, Bool.not_true, Bool.not_false, x_len1, and_self, decide_eq_true_eq, decide_true, decide_false, eq_self, Bool.not_eq_true', decide_eq_false_iff_not, not_true_eq_false, not_false_eq_true, ne_eq, x_eqB, x_neB, x_intB, x_iIB, x_gT2, x_lLi, x_eTu, x_eTuO, x_eLeO, x_dSeqL, x_dSeqT, x_oN, x_oS, x_tI, x_sl, x_cutL, x_cutT, x_comp, x_app, x_asg, x_aug, wipeE, List.length_map, x_mod (by decide : (0 : Int) < 19), x_mod (by decide : (0 : Int) < 6), x_mod (by decide : (0 : Int) < 18), x_div d19, x_div d114, x_sz6, ev, eq_true z, pow9, mlX s1 (sm35 (by decide) : Sm 35 1000000000), mlX sv (sm35 (by decide) : Sm 35 101), e]
  · have e := lowest_lw (a := c % 19 - 9) v0 s1 sv
    refine ⟨_, ?_, lw_rt v0 s1 sv⟩
    unfold F__law_ratio B__law_ratio
    simp (implicitDefEqProofs := false) only [x_run, x_out_nx, x_out_rt, x_out_er, x_seq, x_seq_nx, x_seq_rt, x_seq_er, x_seq_ct, x_seq_bk, x_ofR_ok, x_ofR_er, x_nx, x_bk, x_ct, x_set, x_setL, x_ret, x_drop, x_retN, x_if, x_raise, x_var, x_gv0, x_gvS, x_gvo0, x_gvoS, x_gb, x_gb0, x_gbO, x_gbS, x_c, x_op, x_cm, x_un, x_bf, x_isi, x_ix, x_ixO, x_ofO_some, x_anil, x_acons, x_tup, x_lst, x_eL, x_tb, x_nt, x_an, x_or, x_ent, x_ean, x_eor, x_eif, x_tT, x_tV, x_tY, x_call, x_callD, x_callK, x_cd1, x_cd2, x_cd3, x_cd4, x_st0, x_stS, x_stN, x_wh, x_for, x_iseq, x_ir1, x_ir2, x_add, x_sub, x_neg, x_dcmp, x_eqI, x_neI, x_absI, x_intI, x_gcdI, x_maxI, x_minI, x_lenL, x_lenT, x_ixL, x_ixT, x_at0, x_at1, x_sz0, x_sz1, x_sz2, x_sz3, x_gN, x_forN, x_for0, x_fB_nx, x_fB_ct, x_fB_bk, x_fB_rt, x_fB_er, x_iTT, x_iTL, x_iTI, x_iLT, x_iLL, x_iII, x_iBI, x_iSS, x_iBB, x_truB, x_itT, x_itL, x_try, RO.bind_ok, RO.bind_er, RO.pure_ok, List.set_cons_zero, List.set_cons_succ, List.cons_append, List.nil_append, if_true, if_false, ite_true, ite_false, reduceIte, Bool.false_eq_true, Bool.true_eq_false, Bool.not_true, Bool.not_false, x_len1, and_self, decide_eq_true_eq, decide_true, decide_false, eq_self, Bool.not_eq_true', decide_eq_false_iff_not, not_true_eq_false, not_false_eq_true, ne_eq, x_eqB, x_neB, x_intB, x_iIB, x_gT2, x_lLi, x_eTu, x_eTuO, x_eLeO, x_dSeqL, x_dSeqT, x_oN, x_oS, x_tI, x_sl, x_cutL, x_cutT, x_comp, x_app, x_asg, x_aug, wipeE, List.length_map, x_mod (by decide : (0 : Int) < 19), x_mod (by decide : (0 : Int) < 6), x_mod (by decide : (0 : Int) < 18), x_div d19, x_div d114, x_sz6, ev, eq_false z, e]
/-! ### vectors -/
theorem zipX_vw {fa fb : E} (zs : List PP) (env : PD.Env) (ha : fa env = .ok (.tuple (vz zs))) (hb : fb env = .ok (.tuple (wz zs))) : iZipX fa fb env = .ok (zs.map fun z => pr (rt z.1) (rt z.2)) := by
  unfold iZipX
  rw [ha, hb]
  show RO.ok (List.zipWith pr (vz zs) (wz zs)) = _
  rw [zip_vw]
abbrev pairG (i j : Nat) : G := gT 2 (gsC (gN i) (gsC (gN j) gsN))
theorem bools_map {α : Type} (f : α → Bool) : ∀ xs : List α, bools (xs.map fun x => PyData.bool (f x)) = some (xs.map f)
  | [] => rfl
  | x :: xs => by
    show (bools (xs.map fun x => PyData.bool (f x))).map (f x :: ·) = _
    rw [bools_map f xs]
    rfl
theorem all_map {α : Type} (f : α → Bool) (xs : List α) : cAll [.list (xs.map fun x => PyData.bool (f x))] = some (.bool (xs.all f)) := by
  show (bools (xs.map fun x => PyData.bool (f x))).map _ = _
  rw [bools_map]
  show some (PyData.bool ((xs.map f).all id)) = _
  rw [List.all_map]
  rfl
def leL (x y : Int × Int) : Bool := decide (x.1 * y.2 ≤ y.1 * x.2)
/-! ### zero, unit -/
/-! ### comprehensions over range that walk a list by places -/
theorem compR {i n : Nat} {f : E} {env : PD.Env} (fo : Nat → PyData) (hn : n ≤ 1000) (h : ∀ k, k < n → f (env.set i (some (.fz (.int (0 + (k : Int)))))) = .ok (fo k)) : compD (gN i) tY f env ((List.range n).map fun k : Nat => PyData.int (0 + (k : Int))) = .ok ((List.range n).map fo) :=
  compD_map (fun k : Nat => PyData.int (0 + (k : Int))) fo (List.range n) (by rw [List.length_range]; exact hn) fun k hk => ⟨_, rfl, h k (List.mem_range.mp hk)⟩
theorem range_map {α β : Type} {zs : List α} {g : α → β} {fo : Nat → β} (h : ∀ k (hk : k < zs.length), fo k = g zs[k]) : (List.range zs.length).map fo = zs.map g := by
  refine List.ext_getElem (by rw [List.length_map, List.length_map, List.length_range]) fun k h1 h2 => ?_
  rw [List.getElem_map, List.getElem_map, List.getElem_range]
  exact h k (by rw [List.length_map] at h2; exact h2)
/-- such a comprehension, told by the list's items -/
theorem compZ {α : Type} {i : Nat} {f : E} {env : PD.Env} {zs : List α} (g : α → PyData) (hn : zs.length ≤ 1000) (h : ∀ k (hk : k < zs.length), f (env.set i (some (.fz (.int (0 + (k : Int)))))) = .ok (g zs[k])) : compD (gN i) tY f env ((List.range zs.length).map fun k : Nat => PyData.int (0 + (k : Int))) = .ok (zs.map g) := by
  have e := compR (i := i) (f := f) (env := env) (n := zs.length) (fun k => if hk : k < zs.length then g zs[k] else .none) hn fun k hk => by
    rw [h k hk]
    simp only [hk, dif_pos]
  rw [e, range_map (zs := zs) (g := g)]
  intro k hk
  simp only [hk, dif_pos]
theorem len_vz {zs : List PP} : cLen [.tuple (vz zs)] = some (.int (zs.length : Int)) := by
  unfold vz
  show some (PyData.int ((zs.map fun z => rt z.1).length : Int)) = _
  rw [List.length_map]
theorem vz_len {zs : List PP} : (vz zs).length = zs.length := by
  unfold vz
  rw [List.length_map]
theorem sub_add {x y : Int × Int} : addL x (negL y) = subL x y := by
  show lw (x.1 * y.2 + -y.1 * x.2) (x.2 * y.2) = lw (x.1 * y.2 - y.1 * x.2) (x.2 * y.2)
  rw [Int.neg_mul, Int.add_neg_eq_sub]
theorem Rt.negL {n : Nat} {x : Int × Int} (h : Rt n x.1 x.2) : Rt n (negL x).1 (negL x).2 := ⟨h.1, by show Int.gcd (-x.1) x.2 = 1; rw [Int.neg_gcd]; exact h.2.1, h.2.2.1.neg, h.2.2.2⟩
theorem same_bool (b : Bool) : F__law_same RD [.bool b, .bool b] = .ok (.bool true) := same_ok RD 0 _ (.bool b) (by decide)
theorem leL_self (x : Int × Int) : leL x x = true := decide_eq_true (Int.le_refl _)
theorem same_map {α : Type} (g : α → Int × Int) {xs : List α} (h : xs.length ≤ 1000) : F__law_same RD [.tuple (xs.map fun x => rt (g x)), .tuple (xs.map fun x => rt (g x))] = .ok (.bool true) := by
  have e : (xs.map fun x => rt (g x)) = (xs.map g).map rt := by rw [List.map_map]; rfl
  rw [e]
  exact same_rts (by rw [List.length_map]; exact h)
/-! ### unit, identity -/
theorem addT {a b : List PyData} (h : a.length + b.length ≤ 2000) : dAdd (.tuple a) (.tuple b) = some (.tuple (a ++ b)) := by
  show (if a.length + b.length ≤ sizeLine then some (PyData.tuple (a ++ b)) else none) = _
  rw [if_pos (Nat.le_trans h (by decide))]
def unitL (s i : Nat) : List (Int × Int) := (List.range s).map fun k => if k = i then (1, 1) else (0, 1)
theorem unit_parts {s i : Nat} (h : i < s) : (List.replicate i ((0 : Int), (1 : Int))).map rt ++ [rt (1, 1)] ++ (List.replicate (s - i - 1) ((0 : Int), (1 : Int))).map rt = (unitL s i).map rt := by
  rw [show ([rt (1, 1)] : List PyData) = [((1 : Int), (1 : Int))].map rt from rfl, ← List.map_append, ← List.map_append]
  congr 1
  unfold unitL
  refine List.ext_getElem ?_ fun k h1 h2 => ?_
  · simp only [List.length_append, List.length_replicate, List.length_singleton, List.length_map, List.length_range]
    omega
  · rw [List.getElem_map, List.getElem_range]
    by_cases c : k < i
    · rw [List.getElem_append_left (by simp only [List.length_append, List.length_replicate, List.length_singleton]; omega), List.getElem_append_left (by rw [List.length_replicate]; exact c), List.getElem_replicate, if_neg (by omega)]
    · by_cases c2 : k = i
      · subst c2
        rw [if_pos rfl, List.getElem_append_left (by simp only [List.length_append, List.length_replicate, List.length_singleton]; omega), List.getElem_append_right (by rw [List.length_replicate]; exact Nat.le_refl _)]
        simp only [List.length_replicate, Nat.sub_self, List.getElem_cons_zero]
      · rw [if_neg c2, List.getElem_append_right (by simp only [List.length_append, List.length_replicate, List.length_singleton]; omega), List.getElem_replicate]
theorem unit_same {s i : Nat} (hs : s ≤ 900) : F__law_same RD [.tuple ((unitL s i).map rt), .tuple ((unitL s i).map rt)] = .ok (.bool true) := same_rts (by unfold unitL; rw [List.length_map, List.length_range]; omega)
/-! ### matrices -/
abbrev Row := List (Int × Int)
def rw_ (r : Row) : PyData := .tuple (r.map rt)
def mx (M : List Row) : PyData := .tuple (M.map rw_)
theorem flat_mx {M : List Row} (h : M.length ≤ 1000) (k : ∀ r ∈ M, r.length ≤ 1000) : Flat 3 (mx M) := .tup _ (by rw [List.length_map]; exact h) fun y hy => by
  obtain ⟨r, hr, rfl⟩ := List.mem_map.mp hy
  exact flat_rts (n := 0) (k r hr)
theorem same_mx {M : List Row} (h : M.length ≤ 1000) (k : ∀ r ∈ M, r.length ≤ 1000) : F__law_same RD [mx M, mx M] = .ok (.bool true) := same_ok RD 3 _ (flat_mx h k) (by decide)
theorem vz_zip {r v : Row} (h : r.length = v.length) : vz (r.zip v) = r.map rt := by
  unfold vz
  have e : (r.zip v).map (fun z => rt z.1) = ((r.zip v).map Prod.fst).map rt := by rw [List.map_map]; rfl
  rw [e, List.map_fst_zip (by omega)]
theorem wz_zip {r v : Row} (h : r.length = v.length) : wz (r.zip v) = v.map rt := by
  unfold wz
  have e : (r.zip v).map (fun z => rt z.2) = ((r.zip v).map Prod.snd).map rt := by rw [List.map_map]; rfl
  rw [e, List.map_snd_zip (by omega)]
def dotR (r v : Row) : Int × Int := dotZ (r.zip v) (0, 1)
theorem rzs_zip {n : Nat} {r v : Row} (hr : Rts n r) (hv : Rts n v) : Rzs n (r.zip v) := fun z hz => ⟨hr _ (List.of_mem_zip hz).1, hv _ (List.of_mem_zip hz).2⟩
def col (M : List Row) (i : Nat) : Row := M.map fun r => r.getD i (0, 0)
theorem row_at {r : Row} {i : Nat} (h : i < r.length) : dIx (rw_ r) (.int (i : Int)) = some (rt (r.getD i (0, 0))) := by
  show atI (r.map rt) (i : Int) = _
  refine atI_nat ?_
  rw [List.getElem?_map, List.getD_eq_getElem?_getD, List.getElem?_eq_getElem h]
  rfl
def trM (M : List Row) (n : Nat) : List Row := (List.range n).map (col M)
end KM
set_option Elab.async false
set_option linter.all false
set_option maxRecDepth 100000
set_option maxHeartbeats 4000000
namespace KM
open PySem PySem.Spec PyProof.Rows L2 PD
/-! ### the law's checks of a matrix -/
theorem size_ok {α : Type} {xs : List α} (h : xs.length ≤ 1000) : (xs.length < sizeLine) = True := eq_true (Nat.lt_of_le_of_lt h (by decide))
theorem same_rw {r : Row} (h : r.length ≤ 1000) : F__law_same RD [rw_ r, rw_ r] = .ok (.bool true) := same_rts h
theorem ei_mx {M : List Row} : dIter (mx M) = .ok (M.map rw_) := rfl
theorem col_len {M : List Row} {j : Nat} : (col M j).length = M.length := List.length_map ..
theorem colComp {M : List Row} {k : Nat} {e : PD.Env} (hM : ∀ r ∈ M, k < r.length) (hm : M.length ≤ 1000) (h4 : ∀ d, eVar 4 (e.set 5 (some (.fz d))) = .ok (.int (k : Nat))) (h5 : ∀ d, eVar 5 (e.set 5 (some (.fz d))) = .ok d) : compD (gN 5) tY (eIx (eVar 5) (eVar 4)) e (M.map rw_) = .ok (M.map fun r => rt (r.getD k (0, 0))) :=
  compD_map rw_ (fun r => rt (r.getD k (0, 0))) M hm fun r hr => by
    refine ⟨_, rfl, ?_⟩
    show (eVar 5 (e.set 5 (some (.fz (rw_ r)))) >>= fun x => eVar 4 (e.set 5 (some (.fz (rw_ r)))) >>= fun y => ofO (dIx x y)) = _
    rw [h4, h5, RO.bind_ok, RO.bind_ok, row_at (hM r hr)]
    rfl
end KM
set_option Elab.async false
set_option linter.all false
set_option maxRecDepth 100000
set_option maxHeartbeats 4000000
namespace KM
open PySem PySem.Spec PyProof.Rows L2 PD
/-! ### what the law draws -/
def cds (cs : List Int) : List PyData := cs.map .int
def coB : S := sSeq (sApp 3 (eOp dMod (eBf cInt (aCons (eVar 0) aNil)) (eVar 2))) (sSet 0 (eOp dDiv (eVar 0) (eVar 2)))
theorem codes_ok (r : Int) : ∃ cs : List Int, F__law_codes [.int r, .int 19, .int 2000] = .ok (.list (cds cs)) ∧ cs.length = 19 := by
  have d5 : divOk 2000 = true := by decide +kernel
  have loop := forGo_pre (gg := gN 4) (body := coB) (fun k : Nat => PyData.int (0 + (k : Int))) (fun pre env => ∃ r cs w4, env = [some (.fz (.int r)), some (.fz (.int 19)), some (.fz (.int 2000)), some (.own (cds cs)), w4] ∧ cs.length = pre.length) (List.range 19) [] [some (.fz (.int r)), some (.fz (.int 19)), some (.fz (.int 2000)), some (.own (cds [])), none]
    (fun pre k q env hp hi => by
      obtain ⟨r, cs, w4, rfl, hlen⟩ := hi
      have hk : pre.length + 1 ≤ 19 := by
        have e : (List.range 19).length = pre.length + (q.length + 1) := by
          rw [show List.range 19 = pre ++ k :: q from hp, List.length_append, List.length_cons]
        rw [List.length_range] at e
        omega
      refine ⟨_, rfl, ?_⟩
      unfold coB
      simp (implicitDefEqProofs := false) only [x_run, x_out_nx, x_out_rt, x_out_er, x_seq, x_seq_nx, x_seq_rt, x_seq_er, x_seq_ct, x_seq_bk, x_ofR_ok, x_ofR_er, x_nx, x_bk, x_ct, x_set, x_setL, x_ret, x_drop, x_retN, x_if, x_raise, x_var, x_gv0, x_gvS, x_gvo0, x_gvoS, x_gb, x_gb0, x_gbO, x_gbS, x_c, x_op, x_cm, x_un, x_bf, x_isi, x_ix, x_ixO, x_ofO_some, x_anil, x_acons, x_tup, x_lst, x_eL, x_tb, x_nt, x_an, x_or, x_ent, x_ean, x_eor, x_eif, x_tT, x_tV, x_tY, x_call, x_callD, x_callK, x_cd1, x_cd2, x_cd3, x_cd4, x_st0, x_stS, x_stN, x_wh, x_for, x_iseq, x_ir1, x_ir2, x_add, x_sub, x_neg, x_dcmp, x_eqI, x_neI, x_absI, x_intI, x_gcdI, x_maxI, x_minI, x_lenL, x_lenT, x_ixL, x_ixT, x_at0, x_at1, x_sz0, x_sz1, x_sz2, x_sz3, x_gN, x_forN, x_for0, x_fB_nx, x_fB_ct, x_fB_bk, x_fB_rt, x_fB_er, x_iTT, x_iTL, x_iTI, x_iLT, x_iLL, x_iII, x_iBI, x_iSS, x_iBB, x_truB, x_itT, x_itL, x_try, RO.bind_ok, RO.bind_er, RO.pure_ok, List.set_cons_zero, List.set_cons_succ, List.cons_append, List.nil_append, if_true, if_false, ite_true, ite_false, reduceIte, Bool.false_eq_true, Bool.true_eq_false, Bool.not_true, Bool.not_false, x_len1, and_self, decide_eq_true_eq, decide_true, decide_false, eq_self, Bool.not_eq_true', decide_eq_false_iff_not, not_true_eq_false, not_false_eq_true, ne_eq, x_eqB, x_neB, x_intB, x_iIB, x_gT2, x_lLi, x_eTu, x_eTuO, x_eLeO, x_dSeqL, x_dSeqT, x_oN, x_oS, x_tI, x_sl, x_cutL, x_cutT, x_comp, x_app, x_asg, x_aug, wipeE, List.length_map, x_mod (by decide : (0 : Int) < 2000), x_div d5, size_ok (xs := cds cs) (by unfold cds; rw [List.length_map]; omega)]
      exact ⟨_, cs ++ [r % 2000], _, by unfold cds; rw [List.map_append]; rfl, by rw [List.length_append, List.length_append, hlen]; rfl⟩) ⟨r, [], none, rfl, rfl⟩
  obtain ⟨env', e1, r', cs, w4, rfl, hlen⟩ := loop
  rw [List.nil_append, List.length_range] at hlen
  refine ⟨cs, ?_, hlen⟩
  have er : rng1 (.int 19) = .ok ((List.range 19).map fun k : Nat => PyData.int (0 + (k : Int))) := rng1_ok (n := 19) (by decide)
  unfold coB cds at e1
  unfold F__law_codes B__law_codes
  simp (implicitDefEqProofs := false) only [x_run, x_out_nx, x_out_rt, x_out_er, x_seq, x_seq_nx, x_seq_rt, x_seq_er, x_seq_ct, x_seq_bk, x_ofR_ok, x_ofR_er, x_nx, x_bk, x_ct, x_set, x_setL, x_ret, x_drop, x_retN, x_if, x_raise, x_var, x_gv0, x_gvS, x_gvo0, x_gvoS, x_gb, x_gb0, x_gbO, x_gbS, x_c, x_op, x_cm, x_un, x_bf, x_isi, x_ix, x_ixO, x_ofO_some, x_anil, x_acons, x_tup, x_lst, x_eL, x_tb, x_nt, x_an, x_or, x_ent, x_ean, x_eor, x_eif, x_tT, x_tV, x_tY, x_call, x_callD, x_callK, x_cd1, x_cd2, x_cd3, x_cd4, x_st0, x_stS, x_stN, x_wh, x_for, x_iseq, x_ir1, x_ir2, x_add, x_sub, x_neg, x_dcmp, x_eqI, x_neI, x_absI, x_intI, x_gcdI, x_maxI, x_minI, x_lenL, x_lenT, x_ixL, x_ixT, x_at0, x_at1, x_sz0, x_sz1, x_sz2, x_sz3, x_gN, x_forN, x_for0, x_fB_nx, x_fB_ct, x_fB_bk, x_fB_rt, x_fB_er, x_iTT, x_iTL, x_iTI, x_iLT, x_iLL, x_iII, x_iBI, x_iSS, x_iBB, x_truB, x_itT, x_itL, x_try, RO.bind_ok, RO.bind_er, RO.pure_ok, List.set_cons_zero, List.set_cons_succ, List.cons_append, List.nil_append, if_true, if_false, ite_true, ite_false, reduceIte, Bool.false_eq_true, Bool.true_eq_false, Bool.not_true, Bool.not_false, x_len1, and_self, decide_eq_true_eq, decide_true, decide_false, eq_self, Bool.not_eq_true', decide_eq_false_iff_not, not_true_eq_false, not_false_eq_true, ne_eq, x_eqB, x_neB, x_intB, x_iIB, x_gT2, x_lLi, x_eTu, x_eTuO, x_eLeO, x_dSeqL, x_dSeqT, x_oN, x_oS, x_tI, x_sl, x_cutL, x_cutT, x_comp, x_app, x_asg, x_aug, wipeE, List.length_map, er]
  rw [show ([] : List PyData) = List.map PyData.int [] from rfl, e1]
  simp (implicitDefEqProofs := false) only [x_run, x_out_nx, x_out_rt, x_out_er, x_seq, x_seq_nx, x_seq_rt, x_seq_er, x_seq_ct, x_seq_bk, x_ofR_ok, x_ofR_er, x_nx, x_bk, x_ct, x_set, x_setL, x_ret, x_drop, x_retN, x_if, x_raise, x_var, x_gv0, x_gvS, x_gvo0, x_gvoS, x_gb, x_gb0, x_gbO, x_gbS, x_c, x_op, x_cm, x_un, x_bf, x_isi, x_ix, x_ixO, x_ofO_some, x_anil, x_acons, x_tup, x_lst, x_eL, x_tb, x_nt, x_an, x_or, x_ent, x_ean, x_eor, x_eif, x_tT, x_tV, x_tY, x_call, x_callD, x_callK, x_cd1, x_cd2, x_cd3, x_cd4, x_st0, x_stS, x_stN, x_wh, x_for, x_iseq, x_ir1, x_ir2, x_add, x_sub, x_neg, x_dcmp, x_eqI, x_neI, x_absI, x_intI, x_gcdI, x_maxI, x_minI, x_lenL, x_lenT, x_ixL, x_ixT, x_at0, x_at1, x_sz0, x_sz1, x_sz2, x_sz3, x_gN, x_forN, x_for0, x_fB_nx, x_fB_ct, x_fB_bk, x_fB_rt, x_fB_er, x_iTT, x_iTL, x_iTI, x_iLT, x_iLL, x_iII, x_iBI, x_iSS, x_iBB, x_truB, x_itT, x_itL, x_try, RO.bind_ok, RO.bind_er, RO.pure_ok, List.set_cons_zero, List.set_cons_succ, List.cons_append, List.nil_append, if_true, if_false, ite_true, ite_false, reduceIte, Bool.false_eq_true, Bool.true_eq_false, Bool.not_true, Bool.not_false, x_len1, and_self, decide_eq_true_eq, decide_true, decide_false, eq_self, Bool.not_eq_true', decide_eq_false_iff_not, not_true_eq_false, not_false_eq_true, ne_eq, x_eqB, x_neB, x_intB, x_iIB, x_gT2, x_lLi, x_eTu, x_eTuO, x_eLeO, x_dSeqL, x_dSeqT, x_oN, x_oS, x_tI, x_sl, x_cutL, x_cutT, x_comp, x_app, x_asg, x_aug, wipeE, List.length_map]
  rfl
def riB : S := sSeq (sSet 3 (eOp dMod (eBf cInt (aCons (eOp dAdd (eOp dAdd (eOp dAdd (eOp dMulX (eVar 3) (eVar 3)) (eOp dMulX (eVar 3) (eC (.int 16807)))) (eVar 4)) (eC (.int 7))) aNil)) (eC (.int 2147483647)))) (sSet 2 (eOp dAdd (eOp dMulX (eVar 2) (eC (.int 2147483647))) (eVar 3)))
theorem mod_size (i : Int) : Sm 31 (i % 2147483647) := by
  have h1 := Int.emod_nonneg i (show (2147483647 : Int) ≠ 0 by decide)
  have h2 := Int.emod_lt_of_pos i (show (0 : Int) < 2147483647 by decide)
  unfold Sm
  omega
theorem sm31 : Sm 31 2147483647 := by show (2147483647 : Int).natAbs < 2 ^ 31; decide
theorem sm15 : Sm 31 16807 := by show (16807 : Int).natAbs < 2 ^ 31; decide
theorem pow18 : ∃ T : Int, dPow (.int 10) (.int 18) = some (.int T) := by
  refine ⟨10 ^ 18, ?_⟩
  have h : powOk 10 18 = true := by decide +kernel
  show (if powOk 10 18 = true then some (PyData.int (10 ^ (18 : Int).toNat)) else none) = _
  rw [if_pos h]
  rfl
/-- a number of at most so many bits, told by its logarithm -/
theorem mlB {i j : Int} (h : i.natAbs.log2 ≤ 1048576) (k : j.natAbs.log2 ≤ 1048576) : dMulX (.int i) (.int j) = some (.int (i * j)) := by
  show (if mulOk i j = true then some (PyData.int (i * j)) else none) = _
  rw [if_pos (show mulOk i j = true from decide_eq_true (by omega))]
theorem log_bits {z : Int} (h : Builtin.Int.intBits z ≤ 1048576) : z.natAbs.log2 ≤ 1048576 := by
  by_cases e : z = 0
  · subst e; decide
  · rw [show Builtin.Int.intBits z = z.natAbs.log2 + 1 from if_neg (by simpa using e)] at h
    omega
theorem rich_ok {c : Int} {k : Nat} (sc : c.natAbs.log2 ≤ 1048576) (hk : k < 1000) : ∃ r : Int, F__law_rich [.int c, .int k] = .ok (.int r) := by
  obtain ⟨T, hT⟩ := pow18
  have loop := fun m0 (h0 : Sm 31 m0) => forGo_pre (gg := gN 4) (body := riB) (fun k : Nat => PyData.int (0 + (k : Int))) (fun pre env => ∃ r m w4, env = [some (.fz (.int c)), some (.fz (.int k)), some (.fz (.int r)), some (.fz (.int m)), w4] ∧ Sm (64 * pre.length + 1) r ∧ Sm 31 m) (List.range 7) [] [some (.fz (.int c)), some (.fz (.int k)), some (.fz (.int 0)), some (.fz (.int m0)), none]
    (fun pre j q env hp hi => by
      obtain ⟨r, m, w4, rfl, sr, sm⟩ := hi
      have hj : pre.length + 1 ≤ 7 := by
        have e : (List.range 7).length = pre.length + (q.length + 1) := by
          rw [show List.range 7 = pre ++ j :: q from hp, List.length_append, List.length_cons]
        rw [List.length_range] at e
        omega
      refine ⟨_, rfl, ?_⟩
      unfold riB
      simp (implicitDefEqProofs := false) only [x_run, x_out_nx, x_out_rt, x_out_er, x_seq, x_seq_nx, x_seq_rt, x_seq_er, x_seq_ct, x_seq_bk, x_ofR_ok, x_ofR_er, x_nx, x_bk, x_ct, x_set, x_setL, x_ret, x_drop, x_retN, x_if, x_raise, x_var, x_gv0, x_gvS, x_gvo0, x_gvoS, x_gb, x_gb0, x_gbO, x_gbS, x_c, x_op, x_cm, x_un, x_bf, x_isi, x_ix, x_ixO, x_ofO_some, x_anil, x_acons, x_tup, x_lst, x_eL, x_tb, x_nt, x_an, x_or, x_ent, x_ean, x_eor, x_eif, x_tT, x_tV, x_tY, x_call, x_callD, x_callK, x_cd1, x_cd2, x_cd3, x_cd4, x_st0, x_stS, x_stN, x_wh, x_for, x_iseq, x_ir1, x_ir2, x_add, x_sub, x_neg, x_dcmp, x_eqI, x_neI, x_absI, x_intI, x_gcdI, x_maxI, x_minI, x_lenL, x_lenT, x_ixL, x_ixT, x_at0, x_at1, x_sz0, x_sz1, x_sz2, x_sz3, x_gN, x_forN, x_for0, x_fB_nx, x_fB_ct, x_fB_bk, x_fB_rt, x_fB_er, x_iTT, x_iTL, x_iTI, x_iLT, x_iLL, x_iII, x_iBI, x_iSS, x_iBB, x_truB, x_itT, x_itL, x_try, RO.bind_ok, RO.bind_er, RO.pure_ok, List.set_cons_zero, List.set_cons_succ, List.cons_append, List.nil_append, if_true, if_false, ite_true, ite_false, reduceIte, Bool.false_eq_true, Bool.true_eq_false, Bool.not_true, Bool.not_false, x_len1, and_self, decide_eq_true_eq, decide_true, decide_false, eq_self, Bool.not_eq_true', decide_eq_false_iff_not, not_true_eq_false, not_false_eq_true, ne_eq, x_eqB, x_neB, x_intB, x_iIB, x_gT2, x_lLi, x_eTu, x_eTuO, x_eLeO, x_dSeqL, x_dSeqT, x_oN, x_oS, x_tI, x_sl, x_cutL, x_cutT, x_comp, x_app, x_asg, x_aug, wipeE, List.length_map, mlX sm sm, mlX sm sm15, mlX sr sm31 (by omega), x_mod (by decide : (0 : Int) < 2147483647)]
      refine ⟨_, _, _, rfl, ?_, mod_size _⟩
      rw [List.length_append, List.length_singleton]
      exact ((sr.mul sm31).add ((mod_size _).mono (by omega))).mono (by omega)) ⟨0, m0, none, rfl, by show (0 : Int).natAbs < 2 ^ 1; decide, h0⟩
  have er : rng1 (.int 7) = .ok ((List.range 7).map fun k : Nat => PyData.int (0 + (k : Int))) := rng1_ok (n := 7) (by decide)
  by_cases z : T ≤ c
  · refine ⟨c, ?_⟩
    unfold F__law_rich B__law_rich
    simp (implicitDefEqProofs := false) only [x_run, x_out_nx, x_out_rt, x_out_er, x_seq, x_seq_nx, x_seq_rt, x_seq_er, x_seq_ct, x_seq_bk, x_ofR_ok, x_ofR_er, x_nx, x_bk, x_ct, x_set, x_setL, x_ret, x_drop, x_retN, x_if, x_raise, x_var, x_gv0, x_gvS, x_gvo0, x_gvoS, x_gb, x_gb0, x_gbO, x_gbS, x_c, x_op, x_cm, x_un, x_bf, x_isi, x_ix, x_ixO, x_ofO_some, x_anil, x_acons, x_tup, x_lst, x_eL, x_tb, x_nt, x_an, x_or, x_ent, x_ean, x_eor, x_eif, x_tT, x_tV, x_tY, x_call, x_callD, x_callK, x_cd1, x_cd2, x_cd3, x_cd4, x_st0, x_stS, x_stN, x_wh, x_for, x_iseq, x_ir1, x_ir2, x_add, x_sub, x_neg, x_dcmp, x_eqI, x_neI, x_absI, x_intI, x_gcdI, x_maxI, x_minI, x_lenL, x_lenT, x_ixL, x_ixT, x_at0, x_at1, x_sz0, x_sz1, x_sz2, x_sz3, x_gN, x_forN, x_for0, x_fB_nx, x_fB_ct, x_fB_bk, x_fB_rt, x_fB_er, x_iTT, x_iTL, x_iTI, x_iLT, x_iLL, x_iII, x_iBI, x_iSS, x_iBB, x_truB, x_itT, x_itL, x_try, RO.bind_ok, RO.bind_er, RO.pure_ok, List.set_cons_zero, List.set_cons_succ, List.cons_append, List.nil_append, if_true, if_false, ite_true, ite_false, reduceIte, Bool.false_eq_true, Bool.true_eq_false, Bool.not_true, Bool.not_false, x_len1, and_self, decide_eq_true_eq, decide_true, decide_false, eq_self, Bool.not_eq_true', decide_eq_false_iff_not, not_true_eq_false, not_false_eq_true, ne_eq, x_eqB, x_neB, x_intB, x_iIB, x_gT2, x_lLi, x_eTu, x_eTuO, x_eLeO, x_dSeqL, x_dSeqT, x_oN, x_oS, x_tI, x_sl, x_cutL, x_cutT, x_comp, x_app, x_asg, x_aug, wipeE, List.length_map, hT, eq_true z]
  · obtain ⟨env', e1, r, m, w4, rfl, _, _⟩ := loop ((c * 48271 + k * 69621 + 11) % 2147483647) (mod_size _)
    refine ⟨r, ?_⟩
    have m1 : dMulX (.int c) (.int 48271) = some (.int (c * 48271)) := mlB sc (by decide +kernel)
    have m2 : dMulX (.int (k : Int)) (.int 69621) = some (.int (k * 69621)) := mlX (by unfold Sm; omega : Sm 10 (k : Int)) (by show (69621 : Int).natAbs < 2 ^ 31; decide : Sm 31 69621)
    unfold riB at e1
    unfold F__law_rich B__law_rich
    simp (implicitDefEqProofs := false) only [x_run, x_out_nx, x_out_rt, x_out_er, x_seq, x_seq_nx, x_seq_rt, x_seq_er, x_seq_ct, x_seq_bk, x_ofR_ok, x_ofR_er, x_nx, x_bk, x_ct, x_set, x_setL, x_ret, x_drop, x_retN, x_if, x_raise, x_var, x_gv0, x_gvS, x_gvo0, x_gvoS, x_gb, x_gb0, x_gbO, x_gbS, x_c, x_op, x_cm, x_un, x_bf, x_isi, x_ix, x_ixO, x_ofO_some, x_anil, x_acons, x_tup, x_lst, x_eL, x_tb, x_nt, x_an, x_or, x_ent, x_ean, x_eor, x_eif, x_tT, x_tV, x_tY, x_call, x_callD, x_callK, x_cd1, x_cd2, x_cd3, x_cd4, x_st0, x_stS, x_stN, x_wh, x_for, x_iseq, x_ir1, x_ir2, x_add, x_sub, x_neg, x_dcmp, x_eqI, x_neI, x_absI, x_intI, x_gcdI, x_maxI, x_minI, x_lenL, x_lenT, x_ixL, x_ixT, x_at0, x_at1, x_sz0, x_sz1, x_sz2, x_sz3, x_gN, x_forN, x_for0, x_fB_nx, x_fB_ct, x_fB_bk, x_fB_rt, x_fB_er, x_iTT, x_iTL, x_iTI, x_iLT, x_iLL, x_iII, x_iBI, x_iSS, x_iBB, x_truB, x_itT, x_itL, x_try, RO.bind_ok, RO.bind_er, RO.pure_ok, List.set_cons_zero, List.set_cons_succ, List.cons_append, List.nil_append, if_true, if_false, ite_true, ite_false, reduceIte, Bool.false_eq_true, Bool.true_eq_false, Bool.not_true, Bool.not_false, x_len1, and_self, decide_eq_true_eq, decide_true, decide_false, eq_self, Bool.not_eq_true', decide_eq_false_iff_not, not_true_eq_false, not_false_eq_true, ne_eq, x_eqB, x_neB, x_intB, x_iIB, x_gT2, x_lLi, x_eTu, x_eTuO, x_eLeO, x_dSeqL, x_dSeqT, x_oN, x_oS, x_tI, x_sl, x_cutL, x_cutT, x_comp, x_app, x_asg, x_aug, wipeE, List.length_map, hT, eq_false z, m1, m2, x_mod (by decide : (0 : Int) < 2147483647), er, e1]
theorem cell_ok (ns : List Int) (hb : ∀ z ∈ ns, Builtin.Int.intBits z ≤ 1048576) (k : Nat) : ∃ c, F__law_cell [.list (ns.map .int), .int k] = .ok (.int c) ∧ c.natAbs.log2 ≤ 1048576 := by
  unfold F__law_cell B__law_cell
  by_cases hk : k < ns.length
  · have e : atI (ns.map PyData.int) (k : Int) = some (.int ns[k]) := atI_nat (by rw [List.getElem?_map, List.getElem?_eq_getElem hk]; rfl)
    refine ⟨ns[k], ?_, log_bits (hb _ (List.getElem_mem hk))⟩
    simp (implicitDefEqProofs := false) only [x_run, x_out_nx, x_out_rt, x_out_er, x_seq, x_seq_nx, x_seq_rt, x_seq_er, x_seq_ct, x_seq_bk, x_ofR_ok, x_ofR_er, x_nx, x_bk, x_ct, x_set, x_setL, x_ret, x_drop, x_retN, x_if, x_raise, x_var, x_gv0, x_gvS, x_gvo0, x_gvoS, x_gb, x_gb0, x_gbO, x_gbS, x_c, x_op, x_cm, x_un, x_bf, x_isi, x_ix, x_ixO, x_ofO_some, x_anil, x_acons, x_tup, x_lst, x_eL, x_tb, x_nt, x_an, x_or, x_ent, x_ean, x_eor, x_eif, x_tT, x_tV, x_tY, x_call, x_callD, x_callK, x_cd1, x_cd2, x_cd3, x_cd4, x_st0, x_stS, x_stN, x_wh, x_for, x_iseq, x_ir1, x_ir2, x_add, x_sub, x_neg, x_dcmp, x_eqI, x_neI, x_absI, x_intI, x_gcdI, x_maxI, x_minI, x_lenL, x_lenT, x_ixL, x_ixT, x_at0, x_at1, x_sz0, x_sz1, x_sz2, x_sz3, x_gN, x_forN, x_for0, x_fB_nx, x_fB_ct, x_fB_bk, x_fB_rt, x_fB_er, x_iTT, x_iTL, x_iTI, x_iLT, x_iLL, x_iII, x_iBI, x_iSS, x_iBB, x_truB, x_itT, x_itL, x_try, RO.bind_ok, RO.bind_er, RO.pure_ok, List.set_cons_zero, List.set_cons_succ, List.cons_append, List.nil_append, if_true, if_false, ite_true, ite_false, reduceIte, Bool.false_eq_true, Bool.true_eq_false, Bool.not_true, Bool.not_false, x_len1, and_self, decide_eq_true_eq, decide_true, decide_false, eq_self, Bool.not_eq_true', decide_eq_false_iff_not, not_true_eq_false, not_false_eq_true, ne_eq, x_eqB, x_neB, x_intB, x_iIB, x_gT2, x_lLi, x_eTu, x_eTuO, x_eLeO, x_dSeqL, x_dSeqT, x_oN, x_oS, x_tI, x_sl, x_cutL, x_cutT, x_comp, x_app, x_asg, x_aug, wipeE, List.length_map, List.length_map, Int.ofNat_lt, hk, e]
  · refine ⟨0, ?_, by decide⟩
    simp (implicitDefEqProofs := false) only [x_run, x_out_nx, x_out_rt, x_out_er, x_seq, x_seq_nx, x_seq_rt, x_seq_er, x_seq_ct, x_seq_bk, x_ofR_ok, x_ofR_er, x_nx, x_bk, x_ct, x_set, x_setL, x_ret, x_drop, x_retN, x_if, x_raise, x_var, x_gv0, x_gvS, x_gvo0, x_gvoS, x_gb, x_gb0, x_gbO, x_gbS, x_c, x_op, x_cm, x_un, x_bf, x_isi, x_ix, x_ixO, x_ofO_some, x_anil, x_acons, x_tup, x_lst, x_eL, x_tb, x_nt, x_an, x_or, x_ent, x_ean, x_eor, x_eif, x_tT, x_tV, x_tY, x_call, x_callD, x_callK, x_cd1, x_cd2, x_cd3, x_cd4, x_st0, x_stS, x_stN, x_wh, x_for, x_iseq, x_ir1, x_ir2, x_add, x_sub, x_neg, x_dcmp, x_eqI, x_neI, x_absI, x_intI, x_gcdI, x_maxI, x_minI, x_lenL, x_lenT, x_ixL, x_ixT, x_at0, x_at1, x_sz0, x_sz1, x_sz2, x_sz3, x_gN, x_forN, x_for0, x_fB_nx, x_fB_ct, x_fB_bk, x_fB_rt, x_fB_er, x_iTT, x_iTL, x_iTI, x_iLT, x_iLL, x_iII, x_iBI, x_iSS, x_iBB, x_truB, x_itT, x_itL, x_try, RO.bind_ok, RO.bind_er, RO.pure_ok, List.set_cons_zero, List.set_cons_succ, List.cons_append, List.nil_append, if_true, if_false, ite_true, ite_false, reduceIte, Bool.false_eq_true, Bool.true_eq_false, Bool.not_true, Bool.not_false, x_len1, and_self, decide_eq_true_eq, decide_true, decide_false, eq_self, Bool.not_eq_true', decide_eq_false_iff_not, not_true_eq_false, not_false_eq_true, ne_eq, x_eqB, x_neB, x_intB, x_iIB, x_gT2, x_lLi, x_eTu, x_eTuO, x_eLeO, x_dSeqL, x_dSeqT, x_oN, x_oS, x_tI, x_sl, x_cutL, x_cutT, x_comp, x_app, x_asg, x_aug, wipeE, List.length_map, List.length_map, Int.ofNat_lt, hk]
noncomputable def ratOf (c : Int) : Int × Int := (ratio_ok c).choose
theorem ratOf_ok (c : Int) : F__law_ratio [.int c] = .ok (rt (ratOf c)) := (ratio_ok c).choose_spec.1
theorem ratOf_rt (c : Int) : Rt 35 (ratOf c).1 (ratOf c).2 := (ratio_ok c).choose_spec.2
noncomputable def rats (cs : List Int) : Row := cs.map ratOf
theorem rats_rt (cs : List Int) : Rts 35 (rats cs) := fun x hx => by
  obtain ⟨c, _, rfl⟩ := List.mem_map.mp hx
  exact ratOf_rt c
theorem cut_ok {α : Type} (xs : List α) (i j : Nat) : PD.cutD xs (some (i : Int)) (some (j : Int)) = (xs.drop (min i xs.length)).take (min j xs.length - min i xs.length) := by
  unfold PD.cutD
  rw [HT.sIx_nat, HT.sIx_nat]
/-- a slice of the codes -/
theorem cut_cds {cs : List Int} {i j : Nat} (h : i ≤ j) (h2 : j ≤ cs.length) : PD.cutD (cds cs) (some (i : Int)) (some (j : Int)) = cds ((cs.drop i).take (j - i)) := by
  rw [cut_ok]
  unfold cds
  rw [List.length_map, Nat.min_eq_left h2, Nat.min_eq_left (Nat.le_trans h h2), ← List.map_drop, ← List.map_take]
theorem ratComp {cs : List Int} {i : Nat} {e : PD.Env} (hl : cs.length ≤ 1000) (hi : ∀ d, gv (e.set i (some (.fz d))) i = .ok d) : compD (gN i) tY (eCall 1 F__law_ratio (aCons (eVar i) aNil)) e (cds cs) = .ok ((rats cs).map rt) := by
  have := compD_map (gg := gN i) (f := eCall 1 F__law_ratio (aCons (eVar i) aNil)) (env := e) PyData.int (fun c => rt (ratOf c)) cs hl fun c _ => by
    refine ⟨_, rfl, ?_⟩
    simp (implicitDefEqProofs := false) only [x_run, x_out_nx, x_out_rt, x_out_er, x_seq, x_seq_nx, x_seq_rt, x_seq_er, x_seq_ct, x_seq_bk, x_ofR_ok, x_ofR_er, x_nx, x_bk, x_ct, x_set, x_setL, x_ret, x_drop, x_retN, x_if, x_raise, x_var, x_gv0, x_gvS, x_gvo0, x_gvoS, x_gb, x_gb0, x_gbO, x_gbS, x_c, x_op, x_cm, x_un, x_bf, x_isi, x_ix, x_ixO, x_ofO_some, x_anil, x_acons, x_tup, x_lst, x_eL, x_tb, x_nt, x_an, x_or, x_ent, x_ean, x_eor, x_eif, x_tT, x_tV, x_tY, x_call, x_callD, x_callK, x_cd1, x_cd2, x_cd3, x_cd4, x_st0, x_stS, x_stN, x_wh, x_for, x_iseq, x_ir1, x_ir2, x_add, x_sub, x_neg, x_dcmp, x_eqI, x_neI, x_absI, x_intI, x_gcdI, x_maxI, x_minI, x_lenL, x_lenT, x_ixL, x_ixT, x_at0, x_at1, x_sz0, x_sz1, x_sz2, x_sz3, x_gN, x_forN, x_for0, x_fB_nx, x_fB_ct, x_fB_bk, x_fB_rt, x_fB_er, x_iTT, x_iTL, x_iTI, x_iLT, x_iLL, x_iII, x_iBI, x_iSS, x_iBB, x_truB, x_itT, x_itL, x_try, RO.bind_ok, RO.bind_er, RO.pure_ok, List.set_cons_zero, List.set_cons_succ, List.cons_append, List.nil_append, if_true, if_false, ite_true, ite_false, reduceIte, Bool.false_eq_true, Bool.true_eq_false, Bool.not_true, Bool.not_false, x_len1, and_self, decide_eq_true_eq, decide_true, decide_false, eq_self, Bool.not_eq_true', decide_eq_false_iff_not, not_true_eq_false, not_false_eq_true, ne_eq, x_eqB, x_neB, x_intB, x_iIB, x_gT2, x_lLi, x_eTu, x_eTuO, x_eLeO, x_dSeqL, x_dSeqT, x_oN, x_oS, x_tI, x_sl, x_cutL, x_cutT, x_comp, x_app, x_asg, x_aug, wipeE, List.length_map, hi, ratOf_ok]
  unfold cds
  rw [this]
  unfold rats
  rw [List.map_map]
  rfl
theorem atC {cs : List Int} {i : Nat} (h : i < cs.length) : atI (cds cs) (i : Int) = some (.int cs[i]) := atI_nat (by unfold cds; rw [List.getElem?_map, List.getElem?_eq_getElem h]; rfl)
noncomputable def drawM (cs : List Int) (R C : Nat) : List Row := (List.range R).map fun r => (List.range C).map fun a => ratOf (cs.getD (r * C + a) 0)
def lmB : S := sApp 3 (eTu (eL (lComp (iR1 (eVar 2)) (gN 5) tY (eCall 1 F__law_ratio (aCons (eIx (eVar 0) (eOp dAdd (eOp dMulX (eVar 4) (eVar 2)) (eVar 5))) aNil)) [5])))
end KM
set_option Elab.async false
set_option linter.all false
set_option maxRecDepth 100000
set_option maxHeartbeats 4000000
namespace KM
open PySem PySem.Spec PyProof.Rows L2 PD
/-! ### the values that the law draws, by their shape -/
inductive Fine : Nat → PyData → Prop
  | int {n : Nat} (i : Int) (h : Sm 60 i) : Fine n (.int i)
  | bool {n : Nat} (b : Bool) : Fine n (.bool b)
  | non {n : Nat} : Fine n .none
  | str {n : Nat} (s : Str) (h : PyData.strOk s = true) : Fine n (.str s)
  | list {n : Nat} (xs : List PyData) (h : xs.length ≤ 100) (k : ∀ x ∈ xs, Fine n x) : Fine (n + 1) (.list xs)
  | tup {n : Nat} (xs : List PyData) (h : xs.length ≤ 100) (k : ∀ x ∈ xs, Fine n x) : Fine (n + 1) (.tuple xs)
theorem canAll : ∀ xs : List PyData, (∀ x ∈ xs, PyData.canLay0 x = true) → PyData.canLayAll0 xs = true
  | [], _ => by simp [PyData.canLayAll0]
  | x :: xs, h => by
    simp [PyData.canLayAll0]
    exact ⟨h x (.head _), canAll xs fun y hy => h y (.tail _ hy)⟩
theorem depAll {n : Nat} : ∀ xs : List PyData, (∀ x ∈ xs, PyData.depth x ≤ n) → PyData.depthAll xs ≤ n
  | [], _ => by simp [PyData.depthAll]
  | x :: xs, h => by
    simp [PyData.depthAll]
    exact Nat.max_le.mpr ⟨h x (.head _), depAll xs fun y hy => h y (.tail _ hy)⟩
theorem Fine.lay {n : Nat} {d : PyData} (h : Fine n d) : PyData.canLay0 d = true ∧ PyData.depth d ≤ n := by
  induction h with
  | int i h => simp [PyData.canLay0, PyData.depth]
  | bool b => simp [PyData.canLay0, PyData.depth]
  | non => simp [PyData.canLay0, PyData.depth]
  | str s h => simp [PyData.canLay0, PyData.depth, h]
  | list xs h k ih =>
    have h1 := canAll xs fun x hx => (ih x hx).1
    have h2 := depAll xs fun x hx => (ih x hx).2
    simp [PyData.canLay0, PyData.depth, h1]
    omega
  | tup xs h k ih =>
    have h1 := canAll xs fun x hx => (ih x hx).1
    have h2 := depAll xs fun x hx => (ih x hx).2
    simp [PyData.canLay0, PyData.depth, h1]
    omega
theorem Fine.shaped {n : Nat} {d : PyData} (h : Fine n d) (l : n ≤ 64) : SeqAt.shaped d = true := by
  unfold SeqAt.shaped
  rw [h.lay.1, decide_eq_true (Nat.le_trans h.lay.2 l)]
  rfl
theorem Fine.up {n : Nat} {d : PyData} (h : Fine n d) : ∀ {m : Nat}, n ≤ m → Fine m d := by
  induction h with
  | int i h => exact fun _ => .int i h
  | bool b => exact fun _ => .bool b
  | non => exact fun _ => .non
  | str s h => exact fun _ => .str s h
  | list xs h k ih =>
    intro m l
    cases m with
    | zero => omega
    | succ m => exact .list xs h fun x hx => ih x hx (by omega)
  | tup xs h k ih =>
    intro m l
    cases m with
    | zero => omega
    | succ m => exact .tup xs h fun x hx => ih x hx (by omega)
theorem tup_nil : SeqAt.shaped (.tuple []) = true := (Fine.tup (n := 0) [] (by decide) (fun x h => by cases h)).shaped (by decide)
theorem eq_nil {n : Nat} {xs : List PyData} (h : Fine n (.tuple xs)) (l : n ≤ 64) : dEq (.tuple xs) (.tuple []) = some (.bool (xs.isEmpty)) := by
  show (if SeqAt.shaped (.tuple xs) = true ∧ SeqAt.shaped (.tuple []) = true then some (PyData.bool (PyData.eqv (.tuple xs) (.tuple []))) else none) = _
  rw [if_pos ⟨h.shaped l, tup_nil⟩]
  cases xs with
  | nil => simp [PyData.eqv, PyData.eqvAll]
  | cons x xs => simp [PyData.eqv, PyData.eqvAll]
/-! ### kinds -/
theorem j1 {i : Int} : isiO "int" (.int i) = some (.bool true) := rfl
theorem j2 {i : Int} : isiO "bool" (.int i) = some (.bool false) := rfl
theorem j3 {b : Bool} : isiO "int" (.bool b) = some (.bool true) := rfl
theorem j4 {b : Bool} : isiO "bool" (.bool b) = some (.bool true) := rfl
theorem j5 {i : Int} : isiO "tuple" (.int i) = some (.bool false) := rfl
theorem j6 {b : Bool} : isiO "tuple" (.bool b) = some (.bool false) := rfl
theorem j7 : isiO "tuple" .none = some (.bool false) := rfl
theorem j8 {s : Str} : isiO "tuple" (.str s) = some (.bool false) := rfl
theorem j9 {s : List PyData} : isiO "tuple" (.list s) = some (.bool false) := rfl
theorem j10 {s : List PyData} : isiO "tuple" (.tuple s) = some (.bool true) := rfl
theorem j11 : isiO "int" .none = some (.bool false) := rfl
theorem j12 {s : Str} : isiO "int" (.str s) = some (.bool false) := rfl
theorem j13 {s : List PyData} : isiO "int" (.list s) = some (.bool false) := rfl
theorem j14 {s : List PyData} : isiO "int" (.tuple s) = some (.bool false) := rfl
theorem Fine.tupk {n : Nat} {d : PyData} (h : Fine n d) : isiO "tuple" d = some (.bool false) ∨ ∃ m xs, n = m + 1 ∧ d = .tuple xs ∧ xs.length ≤ 100 ∧ ∀ x ∈ xs, Fine m x := by
  cases h with
  | int i h => exact .inl rfl
  | bool b => exact .inl rfl
  | non => exact .inl rfl
  | str s h => exact .inl rfl
  | list xs h k => exact .inl rfl
  | tup xs h k => exact .inr ⟨_, xs, rfl, rfl, h, k⟩
/-- an int that is no bool; a bool; no int -/
theorem Fine.intk {n : Nat} {d : PyData} (h : Fine n d) : (∃ i, d = .int i ∧ Sm 60 i) ∨ (isiO "int" d = some (.bool true) ∧ isiO "bool" d = some (.bool true)) ∨ isiO "int" d = some (.bool false) := by
  cases h with
  | int i h => exact .inl ⟨i, rfl, h⟩
  | bool b => exact .inr (.inl ⟨rfl, rfl⟩)
  | non => exact .inr (.inr rfl)
  | str s h => exact .inr (.inr rfl)
  | list xs h k => exact .inr (.inr rfl)
  | tup xs h k => exact .inr (.inr rfl)
theorem gcdOk_sm {a b : Int} : cGcd [.int a, .int b] = some (.int (Int.gcd a b)) := x_gcdI
theorem len_T {xs : List PyData} : cLen [.tuple xs] = some (.int (xs.length : Int)) := rfl
theorem iter_T {xs : List PyData} : dIter (.tuple xs) = .ok xs := rfl
theorem isInt_i {i : Int} : F_is_integer [.int i] = .ok (.bool true) := by unfold F_is_integer B_is_integer; simp (implicitDefEqProofs := false) only [x_run, x_out_nx, x_out_rt, x_out_er, x_seq, x_seq_nx, x_seq_rt, x_seq_er, x_seq_ct, x_seq_bk, x_ofR_ok, x_ofR_er, x_nx, x_bk, x_ct, x_set, x_setL, x_ret, x_drop, x_retN, x_if, x_raise, x_var, x_gv0, x_gvS, x_gvo0, x_gvoS, x_gb, x_gb0, x_gbO, x_gbS, x_c, x_op, x_cm, x_un, x_bf, x_isi, x_ix, x_ixO, x_ofO_some, x_anil, x_acons, x_tup, x_lst, x_eL, x_tb, x_nt, x_an, x_or, x_ent, x_ean, x_eor, x_eif, x_tT, x_tV, x_tY, x_call, x_callD, x_callK, x_cd1, x_cd2, x_cd3, x_cd4, x_st0, x_stS, x_stN, x_wh, x_for, x_iseq, x_ir1, x_ir2, x_add, x_sub, x_neg, x_dcmp, x_eqI, x_neI, x_absI, x_intI, x_gcdI, x_maxI, x_minI, x_lenL, x_lenT, x_ixL, x_ixT, x_at0, x_at1, x_sz0, x_sz1, x_sz2, x_sz3, x_gN, x_forN, x_for0, x_fB_nx, x_fB_ct, x_fB_bk, x_fB_rt, x_fB_er, x_iTT, x_iTL, x_iTI, x_iLT, x_iLL, x_iII, x_iBI, x_iSS, x_iBB, x_truB, x_itT, x_itL, x_try, RO.bind_ok, RO.bind_er, RO.pure_ok, List.set_cons_zero, List.set_cons_succ, List.cons_append, List.nil_append, if_true, if_false, ite_true, ite_false, reduceIte, Bool.false_eq_true, Bool.true_eq_false, Bool.not_true, Bool.not_false, x_len1, and_self, decide_eq_true_eq, decide_true, decide_false, eq_self, Bool.not_eq_true', decide_eq_false_iff_not, not_true_eq_false, not_false_eq_true, ne_eq, x_eqB, x_neB, x_intB, x_iIB, x_gT2, x_lLi, x_eTu, x_eTuO, x_eLeO, x_dSeqL, x_dSeqT, x_oN, x_oS, x_tI, x_sl, x_cutL, x_cutT, x_comp, x_app, x_asg, x_aug, wipeE, List.length_map, j1, j2]
theorem isInt_b {d : PyData} (h : isiO "int" d = some (.bool true) ∧ isiO "bool" d = some (.bool true)) : F_is_integer [d] = .ok (.bool false) := by unfold F_is_integer B_is_integer; simp (implicitDefEqProofs := false) only [x_run, x_out_nx, x_out_rt, x_out_er, x_seq, x_seq_nx, x_seq_rt, x_seq_er, x_seq_ct, x_seq_bk, x_ofR_ok, x_ofR_er, x_nx, x_bk, x_ct, x_set, x_setL, x_ret, x_drop, x_retN, x_if, x_raise, x_var, x_gv0, x_gvS, x_gvo0, x_gvoS, x_gb, x_gb0, x_gbO, x_gbS, x_c, x_op, x_cm, x_un, x_bf, x_isi, x_ix, x_ixO, x_ofO_some, x_anil, x_acons, x_tup, x_lst, x_eL, x_tb, x_nt, x_an, x_or, x_ent, x_ean, x_eor, x_eif, x_tT, x_tV, x_tY, x_call, x_callD, x_callK, x_cd1, x_cd2, x_cd3, x_cd4, x_st0, x_stS, x_stN, x_wh, x_for, x_iseq, x_ir1, x_ir2, x_add, x_sub, x_neg, x_dcmp, x_eqI, x_neI, x_absI, x_intI, x_gcdI, x_maxI, x_minI, x_lenL, x_lenT, x_ixL, x_ixT, x_at0, x_at1, x_sz0, x_sz1, x_sz2, x_sz3, x_gN, x_forN, x_for0, x_fB_nx, x_fB_ct, x_fB_bk, x_fB_rt, x_fB_er, x_iTT, x_iTL, x_iTI, x_iLT, x_iLL, x_iII, x_iBI, x_iSS, x_iBB, x_truB, x_itT, x_itL, x_try, RO.bind_ok, RO.bind_er, RO.pure_ok, List.set_cons_zero, List.set_cons_succ, List.cons_append, List.nil_append, if_true, if_false, ite_true, ite_false, reduceIte, Bool.false_eq_true, Bool.true_eq_false, Bool.not_true, Bool.not_false, x_len1, and_self, decide_eq_true_eq, decide_true, decide_false, eq_self, Bool.not_eq_true', decide_eq_false_iff_not, not_true_eq_false, not_false_eq_true, ne_eq, x_eqB, x_neB, x_intB, x_iIB, x_gT2, x_lLi, x_eTu, x_eTuO, x_eLeO, x_dSeqL, x_dSeqT, x_oN, x_oS, x_tI, x_sl, x_cutL, x_cutT, x_comp, x_app, x_asg, x_aug, wipeE, List.length_map, h.1, h.2]
theorem isInt_n {d : PyData} (h : isiO "int" d = some (.bool false)) : F_is_integer [d] = .ok (.bool false) := by unfold F_is_integer B_is_integer; simp (implicitDefEqProofs := false) only [x_run, x_out_nx, x_out_rt, x_out_er, x_seq, x_seq_nx, x_seq_rt, x_seq_er, x_seq_ct, x_seq_bk, x_ofR_ok, x_ofR_er, x_nx, x_bk, x_ct, x_set, x_setL, x_ret, x_drop, x_retN, x_if, x_raise, x_var, x_gv0, x_gvS, x_gvo0, x_gvoS, x_gb, x_gb0, x_gbO, x_gbS, x_c, x_op, x_cm, x_un, x_bf, x_isi, x_ix, x_ixO, x_ofO_some, x_anil, x_acons, x_tup, x_lst, x_eL, x_tb, x_nt, x_an, x_or, x_ent, x_ean, x_eor, x_eif, x_tT, x_tV, x_tY, x_call, x_callD, x_callK, x_cd1, x_cd2, x_cd3, x_cd4, x_st0, x_stS, x_stN, x_wh, x_for, x_iseq, x_ir1, x_ir2, x_add, x_sub, x_neg, x_dcmp, x_eqI, x_neI, x_absI, x_intI, x_gcdI, x_maxI, x_minI, x_lenL, x_lenT, x_ixL, x_ixT, x_at0, x_at1, x_sz0, x_sz1, x_sz2, x_sz3, x_gN, x_forN, x_for0, x_fB_nx, x_fB_ct, x_fB_bk, x_fB_rt, x_fB_er, x_iTT, x_iTL, x_iTI, x_iLT, x_iLL, x_iII, x_iBI, x_iSS, x_iBB, x_truB, x_itT, x_itL, x_try, RO.bind_ok, RO.bind_er, RO.pure_ok, List.set_cons_zero, List.set_cons_succ, List.cons_append, List.nil_append, if_true, if_false, ite_true, ite_false, reduceIte, Bool.false_eq_true, Bool.true_eq_false, Bool.not_true, Bool.not_false, x_len1, and_self, decide_eq_true_eq, decide_true, decide_false, eq_self, Bool.not_eq_true', decide_eq_false_iff_not, not_true_eq_false, not_false_eq_true, ne_eq, x_eqB, x_neB, x_intB, x_iIB, x_gT2, x_lLi, x_eTu, x_eTuO, x_eLeO, x_dSeqL, x_dSeqT, x_oN, x_oS, x_tI, x_sl, x_cutL, x_cutT, x_comp, x_app, x_asg, x_aug, wipeE, List.length_map, h]
def Same1 (F G : List PyData → RO PyData) (xs : List PyData) : Prop := ∃ b, F xs = .ok (.bool b) ∧ G xs = .ok (.bool b)
theorem all_map' (f : PyData → Bool) : ∀ xs : List PyData, cAll [.list (xs.map fun x => PyData.bool (f x))] = some (.bool (xs.all f)) := all_map f
/-- what is told of a part, by both -/
theorem pick_same {F G : List PyData → RO PyData} {r : List PyData} {xs : List PyData} (h : ∀ x ∈ xs, Same1 F G (x :: r)) : ∃ p : PyData → Bool, ∀ x ∈ xs, F (x :: r) = .ok (.bool (p x)) ∧ G (x :: r) = .ok (.bool (p x)) := by
  classical
  refine ⟨fun x => if hx : x ∈ xs then (h x hx).choose else false, fun x hx => ?_⟩
  simp only [dif_pos hx]
  exact (h x hx).choose_spec
def Siz (s : PyData) : Prop := s = .none ∨ ∃ i : Int, s = .int i
theorem isN {i : Int} : dIsN (.int i) .none = some (.bool true) := rfl
theorem isNN : dIsN .none .none = some (.bool false) := rfl
theorem isI {i : Int} : dIs (.int i) .none = some (.bool false) := rfl
theorem isII : dIs .none .none = some (.bool true) := rfl
end KM
set_option Elab.async false
set_option linter.all false
set_option maxRecDepth 100000
set_option maxHeartbeats 4000000
namespace KM
open PySem PySem.Spec PyProof.Rows L2 PD
def lawMR : S := (sApp 2 (eTu (eL (lComp (iR1 (eVar 1)) (gN 4) tY (eCall 1 F__law_ratio (aCons (eOp dAdd (eIx (eVar 0) (eOp dAdd (eC (.int 1)) (eOp dMod (eOp dAdd (eOp dMulX (eVar 3) (eVar 1)) (eVar 4)) (eC (.int 16))))) (eVar 3)) aNil)) [4]))))
theorem Rt.f0 {x : Int × Int} (h : Rt 35 x.1 x.2) {n : Nat} : Fine n (.int x.1) ∧ Fine n (.int x.2) := ⟨.int _ (h.2.2.1.mono (by decide)), .int _ (h.2.2.2.mono (by decide))⟩
theorem fine_rt {x : Int × Int} (h : Rt 35 x.1 x.2) {n : Nat} : Fine (n + 1) (rt x) := .tup _ (by show 2 ≤ 100; decide) fun y hy => by
  rcases List.mem_cons.mp hy with rfl | hy
  · exact h.f0.1
  · rcases List.mem_cons.mp hy with rfl | hy
    · exact h.f0.2
    · cases hy
theorem fine_small {n : Nat} (i : Int) (h : i.natAbs < 64) : Fine n (.int i) := .int i (sm_small h (by decide))
theorem pickD {l : List PyData} {j : Int} (h0 : 0 ≤ j) (h1 : j < l.length) : ∃ d ∈ l, atI l j = some d := by
  obtain ⟨k, rfl⟩ := Int.eq_ofNat_of_zero_le h0
  have hk : k < l.length := by omega
  exact ⟨l[k], List.getElem_mem hk, atI_nat (List.getElem?_eq_getElem hk)⟩
theorem x_sz5 {a b c d e : PyData} : ([a, b, c, d, e].length ≤ sizeLine) = True := eq_true (by show 5 ≤ sizeLine; decide)
theorem x_sz7 {a b c d e f g : PyData} : ([a, b, c, d, e, f, g].length ≤ sizeLine) = True := eq_true (by show 7 ≤ sizeLine; decide)
theorem x_sz10 {a b c d e f g h i j : PyData} : ([a, b, c, d, e, f, g, h, i, j].length ≤ sizeLine) = True := eq_true (by show 10 ≤ sizeLine; decide)
theorem seq_rt {x : Int × Int} : dSeq (rt x) = .ok [.int x.1, .int x.2] := rfl
theorem all_cons {P : PyData → Prop} {a : PyData} {l : List PyData} (h : P a) (k : ∀ x ∈ l, P x) : ∀ x ∈ a :: l, P x := fun x hx => by
  rcases List.mem_cons.mp hx with rfl | hx
  · exact h
  · exact k x hx
theorem all_nil {P : PyData → Prop} : ∀ x ∈ ([] : List PyData), P x := fun x hx => by cases hx
theorem fine_pair {n : Nat} {a b : PyData} (h : Fine n a) (k : Fine n b) : Fine (n + 1) (.tuple [a, b]) := .tup _ (by show 2 ≤ 100; decide) (all_cons h (all_cons k all_nil))
theorem cut_gen {xs : List PyData} (i : Nat) (h : i ≤ xs.length) : PD.cutD xs (some (i : Int)) none = xs.drop i := by
  unfold PD.cutD
  rw [HT.sIx_nat, HT.sIx_none, Nat.min_eq_left h]
  exact List.take_of_length_le (by rw [List.length_drop]; exact Nat.le_refl _)
theorem cut_to {xs : List PyData} (i : Nat) : PD.cutD xs none (some (i : Int)) = xs.take i := by
  unfold PD.cutD
  rw [HT.sIx_nat, HT.sIx_none, List.drop_zero, Nat.sub_zero]
  rcases Nat.le_total i xs.length with h | h
  · rw [Nat.min_eq_left h]
  · rw [Nat.min_eq_right h, List.take_of_length_le (Nat.le_refl _), List.take_of_length_le h]
theorem cutK {cs : List Int} (i s : Nat) (h : i + s ≤ cs.length) : PD.cutD (cds cs) (some (i : Int)) (some ((i : Int) + (s : Int))) = cds ((cs.drop i).take s) := by
  rw [show (i : Int) + (s : Int) = ((i + s : Nat) : Int) from (Int.natCast_add ..).symm, cut_cds (Nat.le_add_right i s) h, Nat.add_sub_cancel_left]
theorem rats_len {cs : List Int} : (rats cs).length = cs.length := List.length_map ..
theorem emod_nat (a : Int) {m : Nat} (h : 0 < m) : ∃ k : Nat, a % (m : Int) = (k : Nat) ∧ k < m := by
  have h1 := Int.emod_nonneg a (show (m : Int) ≠ 0 by omega)
  have h2 := Int.emod_lt_of_pos a (show (0 : Int) < m by omega)
  exact ⟨(a % (m : Int)).toNat, by omega, by omega⟩
theorem fine_map {n : Nat} {ps : Row} (h : Rts 35 ps) : ∀ x ∈ ps.map rt, Fine (n + 1) x := fun x hx => by
  obtain ⟨y, hy, rfl⟩ := List.mem_map.mp hx
  exact fine_rt (h y hy)
theorem all_app {P : PyData → Prop} {a b : List PyData} (h : ∀ x ∈ a, P x) (k : ∀ x ∈ b, P x) : ∀ x ∈ a ++ b, P x := fun x hx => (List.mem_append.mp hx).elim (h x) (k x)
theorem all_take {P : PyData → Prop} {a : List PyData} {n : Nat} (h : ∀ x ∈ a, P x) : ∀ x ∈ a.take n, P x := fun x hx => h x (List.mem_of_mem_take hx)
theorem all_drop {P : PyData → Prop} {a : List PyData} {n : Nat} (h : ∀ x ∈ a, P x) : ∀ x ∈ a.drop n, P x := fun x hx => h x (List.mem_of_mem_drop hx)
/-! ### a matrix -/
noncomputable def rowK (cs : List Int) (C k : Nat) : Row := (List.range C).map fun a => ratOf (cs.getD (1 + (k * C + a) % 16) 0 + k)
theorem rowK_rt {cs : List Int} {C k : Nat} : Rts 35 (rowK cs C k) := fun x hx => by
  obtain ⟨a, _, rfl⟩ := List.mem_map.mp hx
  exact ratOf_rt _
theorem setD_nat {xs : List PyData} {k : Nat} {d : PyData} (h : k < xs.length) : setD xs (k : Int) d = some (xs.set k d) := by
  unfold setD
  have e : ixN xs.length (k : Int) = some k := by
    unfold ixN
    rw [if_pos (by omega), if_pos (by omega), Int.toNat_natCast]
  rw [e]
  rfl
theorem matLoop {cs : List Int} {R C : Nat} (hl : cs.length = 18) (hR : R ≤ 4) (hC : C ≤ 6) : ∃ w3, forGo (gN 3) lawMR ((List.range R).map fun k : Nat => PyData.int (0 + (k : Int))) [some (.fz (.list (cds cs))), some (.fz (.int (C : Nat))), some (.own []), none, none, none] = .nx [some (.fz (.list (cds cs))), some (.fz (.int (C : Nat))), some (.own ((List.range R).map fun k => rw_ (rowK cs C k))), w3, none, none] := by
  have loop := forGo_pre (gg := gN 3) (body := lawMR) (fun k : Nat => PyData.int (0 + (k : Int))) (fun pre env => ∃ w3, env = [some (.fz (.list (cds cs))), some (.fz (.int (C : Nat))), some (.own ((List.range pre.length).map fun k => rw_ (rowK cs C k))), w3, none, none]) (List.range R) [] [some (.fz (.list (cds cs))), some (.fz (.int (C : Nat))), some (.own []), none, none, none]
    (fun pre k q env hp hi => by
      obtain ⟨w3, rfl⟩ := hi
      obtain ⟨ek, hk⟩ := range_pre (show List.range R = pre ++ k :: q from hp)
      subst ek
      have z0 : (0 : Int) + (pre.length : Int) = (pre.length : Nat) := Int.zero_add _
      have er : rng1 (.int (C : Int)) = .ok ((List.range C).map fun k : Nat => PyData.int (0 + (k : Int))) := rng1_ok (by omega)
      have mm : dMulX (.int (pre.length : Nat)) (.int (C : Nat)) = some (.int ((pre.length : Int) * (C : Int))) := mlX (by unfold Sm; omega : Sm 10 (pre.length : Int)) (by unfold Sm; omega : Sm 10 (C : Int))
      have cc : ∀ ol, compD (gN 4) tY (eCall 1 F__law_ratio (aCons (eOp dAdd (eIx (eVar 0) (eOp dAdd (eC (.int 1)) (eOp dMod (eOp dAdd (eOp dMulX (eVar 3) (eVar 1)) (eVar 4)) (eC (.int 16))))) (eVar 3)) aNil)) [some (.fz (.list (cds cs))), some (.fz (.int (C : Nat))), ol, some (.fz (.int (pre.length : Nat))), none, none] ((List.range C).map fun k : Nat => PyData.int (0 + (k : Int))) = .ok ((List.range C).map fun a => rt (ratOf (cs.getD (1 + (pre.length * C + a) % 16) 0 + pre.length))) := fun ol =>
        compR (fun a => rt (ratOf (cs.getD (1 + (pre.length * C + a) % 16) 0 + pre.length))) (by omega) fun a ha => by
          have hi : 1 + (pre.length * C + a) % 16 < cs.length := by omega
          have ea := atC hi
          have ei : ((1 + (pre.length * C + a) % 16 : Nat) : Int) = 1 + ((pre.length : Int) * (C : Int) + (0 + (a : Int))) % 16 := by
            rw [Int.zero_add, Int.natCast_add, Int.natCast_emod, Int.natCast_add, Int.natCast_mul]
            rfl
          rw [ei] at ea
          have ed : cs.getD (1 + (pre.length * C + a) % 16) 0 = cs[1 + (pre.length * C + a) % 16] := by rw [List.getD_eq_getElem?_getD, List.getElem?_eq_getElem hi]; rfl
          rw [ed]
          simp (implicitDefEqProofs := false) only [x_run, x_out_nx, x_out_rt, x_out_er, x_seq, x_seq_nx, x_seq_rt, x_seq_er, x_seq_ct, x_seq_bk, x_ofR_ok, x_ofR_er, x_nx, x_bk, x_ct, x_set, x_setL, x_ret, x_drop, x_retN, x_if, x_raise, x_var, x_gv0, x_gvS, x_gvo0, x_gvoS, x_gb, x_gb0, x_gbO, x_gbS, x_c, x_op, x_cm, x_un, x_bf, x_isi, x_ix, x_ixO, x_ofO_some, x_anil, x_acons, x_tup, x_lst, x_eL, x_tb, x_nt, x_an, x_or, x_ent, x_ean, x_eor, x_eif, x_tT, x_tV, x_tY, x_call, x_callD, x_callK, x_cd1, x_cd2, x_cd3, x_cd4, x_st0, x_stS, x_stN, x_wh, x_for, x_iseq, x_ir1, x_ir2, x_add, x_sub, x_neg, x_dcmp, x_eqI, x_neI, x_absI, x_intI, x_gcdI, x_maxI, x_minI, x_lenL, x_lenT, x_ixL, x_ixT, x_at0, x_at1, x_sz0, x_sz1, x_sz2, x_sz3, x_gN, x_forN, x_for0, x_fB_nx, x_fB_ct, x_fB_bk, x_fB_rt, x_fB_er, x_iTT, x_iTL, x_iTI, x_iLT, x_iLL, x_iII, x_iBI, x_iSS, x_iBB, x_truB, x_itT, x_itL, x_try, RO.bind_ok, RO.bind_er, RO.pure_ok, List.set_cons_zero, List.set_cons_succ, List.cons_append, List.nil_append, if_true, if_false, ite_true, ite_false, reduceIte, Bool.false_eq_true, Bool.true_eq_false, Bool.not_true, Bool.not_false, x_len1, and_self, decide_eq_true_eq, decide_true, decide_false, eq_self, Bool.not_eq_true', decide_eq_false_iff_not, not_true_eq_false, not_false_eq_true, ne_eq, x_eqB, x_neB, x_intB, x_iIB, x_gT2, x_lLi, x_eTu, x_eTuO, x_eLeO, x_dSeqL, x_dSeqT, x_oN, x_oS, x_tI, x_sl, x_cutL, x_cutT, x_comp, x_app, x_asg, x_aug, wipeE, List.length_map, mm, x_mod (by decide : (0 : Int) < 16), ea, ratOf_ok]
      have ec : PyData.tuple ((List.range C).map fun a => rt (ratOf (cs.getD (1 + (pre.length * C + a) % 16) 0 + pre.length))) = rw_ (rowK cs C pre.length) := by unfold rw_ rowK; rw [List.map_map]; rfl
      have sz' : ((List.range pre.length).length < sizeLine) = True := by rw [List.length_range]; exact eq_true (Nat.lt_of_le_of_lt (show pre.length ≤ 1000 by omega) (by decide))
      refine ⟨_, rfl, ?_⟩
      unfold lawMR
      rw [z0]
      simp (implicitDefEqProofs := false) only [x_run, x_out_nx, x_out_rt, x_out_er, x_seq, x_seq_nx, x_seq_rt, x_seq_er, x_seq_ct, x_seq_bk, x_ofR_ok, x_ofR_er, x_nx, x_bk, x_ct, x_set, x_setL, x_ret, x_drop, x_retN, x_if, x_raise, x_var, x_gv0, x_gvS, x_gvo0, x_gvoS, x_gb, x_gb0, x_gbO, x_gbS, x_c, x_op, x_cm, x_un, x_bf, x_isi, x_ix, x_ixO, x_ofO_some, x_anil, x_acons, x_tup, x_lst, x_eL, x_tb, x_nt, x_an, x_or, x_ent, x_ean, x_eor, x_eif, x_tT, x_tV, x_tY, x_call, x_callD, x_callK, x_cd1, x_cd2, x_cd3, x_cd4, x_st0, x_stS, x_stN, x_wh, x_for, x_iseq, x_ir1, x_ir2, x_add, x_sub, x_neg, x_dcmp, x_eqI, x_neI, x_absI, x_intI, x_gcdI, x_maxI, x_minI, x_lenL, x_lenT, x_ixL, x_ixT, x_at0, x_at1, x_sz0, x_sz1, x_sz2, x_sz3, x_gN, x_forN, x_for0, x_fB_nx, x_fB_ct, x_fB_bk, x_fB_rt, x_fB_er, x_iTT, x_iTL, x_iTI, x_iLT, x_iLL, x_iII, x_iBI, x_iSS, x_iBB, x_truB, x_itT, x_itL, x_try, RO.bind_ok, RO.bind_er, RO.pure_ok, List.set_cons_zero, List.set_cons_succ, List.cons_append, List.nil_append, if_true, if_false, ite_true, ite_false, reduceIte, Bool.false_eq_true, Bool.true_eq_false, Bool.not_true, Bool.not_false, x_len1, and_self, decide_eq_true_eq, decide_true, decide_false, eq_self, Bool.not_eq_true', decide_eq_false_iff_not, not_true_eq_false, not_false_eq_true, ne_eq, x_eqB, x_neB, x_intB, x_iIB, x_gT2, x_lLi, x_eTu, x_eTuO, x_eLeO, x_dSeqL, x_dSeqT, x_oN, x_oS, x_tI, x_sl, x_cutL, x_cutT, x_comp, x_app, x_asg, x_aug, wipeE, List.length_map, er, cc, ec, sz']
      rw [List.length_append, List.length_singleton, List.range_succ, List.map_append]
      exact ⟨_, rfl⟩) ⟨none, rfl⟩
  obtain ⟨env', e1, w3, rfl⟩ := loop
  rw [List.nil_append, List.length_range] at e1
  exact ⟨w3, e1⟩
def setR (env : PD.Env) (i : Nat) (d : PyData) (xs : List PyData) (k : PyData) : SO := match k with
  | .int k => (match setD xs k d with
    | some ys => .nx (env.set i (some (.own ys)))
    | none => .no)
  | _ => .no
theorem x_setI {i : Nat} {fk f : E} {env : PD.Env} : sSetI i fk f env = ofR (f env) env fun d => ofR (gvo env i) env fun xs => ofR (fk env) env fun k => setR env i d xs k := rfl
theorem setR_ok {env : PD.Env} {i k : Nat} {d : PyData} {xs : List PyData} (h : k < xs.length) : setR env i d xs (.int (k : Nat)) = .nx (env.set i (some (.own (xs.set k d)))) := by
  unfold setR
  dsimp only
  rw [setD_nat h]
theorem fine_set {n : Nat} {xs : List PyData} {k : Nat} {d : PyData} (h : ∀ x ∈ xs, Fine n x) (hd : Fine n d) : ∀ x ∈ xs.set k d, Fine n x := fun x hx => by
  rcases List.mem_or_eq_of_mem_set hx with h1 | h1
  · exact h x h1
  · rw [h1]; exact hd
theorem codes18_ok (r : Int) : ∃ cs : List Int, F__law_codes [.int r, .int 18, .int 2000] = .ok (.list (cds cs)) ∧ cs.length = 18 := by
  have d5 : divOk 2000 = true := by decide +kernel
  have loop := forGo_pre (gg := gN 4) (body := coB) (fun k : Nat => PyData.int (0 + (k : Int))) (fun pre env => ∃ r cs w4, env = [some (.fz (.int r)), some (.fz (.int 18)), some (.fz (.int 2000)), some (.own (cds cs)), w4] ∧ cs.length = pre.length) (List.range 18) [] [some (.fz (.int r)), some (.fz (.int 18)), some (.fz (.int 2000)), some (.own (cds [])), none]
    (fun pre k q env hp hi => by
      obtain ⟨r, cs, w4, rfl, hlen⟩ := hi
      have hk : pre.length + 1 ≤ 18 := by
        have e : (List.range 18).length = pre.length + (q.length + 1) := by
          rw [show List.range 18 = pre ++ k :: q from hp, List.length_append, List.length_cons]
        rw [List.length_range] at e
        omega
      refine ⟨_, rfl, ?_⟩
      unfold coB
      simp (implicitDefEqProofs := false) only [x_run, x_out_nx, x_out_rt, x_out_er, x_seq, x_seq_nx, x_seq_rt, x_seq_er, x_seq_ct, x_seq_bk, x_ofR_ok, x_ofR_er, x_nx, x_bk, x_ct, x_set, x_setL, x_ret, x_drop, x_retN, x_if, x_raise, x_var, x_gv0, x_gvS, x_gvo0, x_gvoS, x_gb, x_gb0, x_gbO, x_gbS, x_c, x_op, x_cm, x_un, x_bf, x_isi, x_ix, x_ixO, x_ofO_some, x_anil, x_acons, x_tup, x_lst, x_eL, x_tb, x_nt, x_an, x_or, x_ent, x_ean, x_eor, x_eif, x_tT, x_tV, x_tY, x_call, x_callD, x_callK, x_cd1, x_cd2, x_cd3, x_cd4, x_st0, x_stS, x_stN, x_wh, x_for, x_iseq, x_ir1, x_ir2, x_add, x_sub, x_neg, x_dcmp, x_eqI, x_neI, x_absI, x_intI, x_gcdI, x_maxI, x_minI, x_lenL, x_lenT, x_ixL, x_ixT, x_at0, x_at1, x_sz0, x_sz1, x_sz2, x_sz3, x_gN, x_forN, x_for0, x_fB_nx, x_fB_ct, x_fB_bk, x_fB_rt, x_fB_er, x_iTT, x_iTL, x_iTI, x_iLT, x_iLL, x_iII, x_iBI, x_iSS, x_iBB, x_truB, x_itT, x_itL, x_try, RO.bind_ok, RO.bind_er, RO.pure_ok, List.set_cons_zero, List.set_cons_succ, List.cons_append, List.nil_append, if_true, if_false, ite_true, ite_false, reduceIte, Bool.false_eq_true, Bool.true_eq_false, Bool.not_true, Bool.not_false, x_len1, and_self, decide_eq_true_eq, decide_true, decide_false, eq_self, Bool.not_eq_true', decide_eq_false_iff_not, not_true_eq_false, not_false_eq_true, ne_eq, x_eqB, x_neB, x_intB, x_iIB, x_gT2, x_lLi, x_eTu, x_eTuO, x_eLeO, x_dSeqL, x_dSeqT, x_oN, x_oS, x_tI, x_sl, x_cutL, x_cutT, x_comp, x_app, x_asg, x_aug, wipeE, List.length_map, x_mod (by decide : (0 : Int) < 2000), x_div d5, size_ok (xs := cds cs) (by unfold cds; rw [List.length_map]; omega)]
      exact ⟨_, cs ++ [r % 2000], _, by unfold cds; rw [List.map_append]; rfl, by rw [List.length_append, List.length_append, hlen]; rfl⟩) ⟨r, [], none, rfl, rfl⟩
  obtain ⟨env', e1, r', cs, w4, rfl, hlen⟩ := loop
  rw [List.nil_append, List.length_range] at hlen
  refine ⟨cs, ?_, hlen⟩
  have er : rng1 (.int 18) = .ok ((List.range 18).map fun k : Nat => PyData.int (0 + (k : Int))) := rng1_ok (n := 18) (by decide)
  unfold coB cds at e1
  unfold F__law_codes B__law_codes
  simp (implicitDefEqProofs := false) only [x_run, x_out_nx, x_out_rt, x_out_er, x_seq, x_seq_nx, x_seq_rt, x_seq_er, x_seq_ct, x_seq_bk, x_ofR_ok, x_ofR_er, x_nx, x_bk, x_ct, x_set, x_setL, x_ret, x_drop, x_retN, x_if, x_raise, x_var, x_gv0, x_gvS, x_gvo0, x_gvoS, x_gb, x_gb0, x_gbO, x_gbS, x_c, x_op, x_cm, x_un, x_bf, x_isi, x_ix, x_ixO, x_ofO_some, x_anil, x_acons, x_tup, x_lst, x_eL, x_tb, x_nt, x_an, x_or, x_ent, x_ean, x_eor, x_eif, x_tT, x_tV, x_tY, x_call, x_callD, x_callK, x_cd1, x_cd2, x_cd3, x_cd4, x_st0, x_stS, x_stN, x_wh, x_for, x_iseq, x_ir1, x_ir2, x_add, x_sub, x_neg, x_dcmp, x_eqI, x_neI, x_absI, x_intI, x_gcdI, x_maxI, x_minI, x_lenL, x_lenT, x_ixL, x_ixT, x_at0, x_at1, x_sz0, x_sz1, x_sz2, x_sz3, x_gN, x_forN, x_for0, x_fB_nx, x_fB_ct, x_fB_bk, x_fB_rt, x_fB_er, x_iTT, x_iTL, x_iTI, x_iLT, x_iLL, x_iII, x_iBI, x_iSS, x_iBB, x_truB, x_itT, x_itL, x_try, RO.bind_ok, RO.bind_er, RO.pure_ok, List.set_cons_zero, List.set_cons_succ, List.cons_append, List.nil_append, if_true, if_false, ite_true, ite_false, reduceIte, Bool.false_eq_true, Bool.true_eq_false, Bool.not_true, Bool.not_false, x_len1, and_self, decide_eq_true_eq, decide_true, decide_false, eq_self, Bool.not_eq_true', decide_eq_false_iff_not, not_true_eq_false, not_false_eq_true, ne_eq, x_eqB, x_neB, x_intB, x_iIB, x_gT2, x_lLi, x_eTu, x_eTuO, x_eLeO, x_dSeqL, x_dSeqT, x_oN, x_oS, x_tI, x_sl, x_cutL, x_cutT, x_comp, x_app, x_asg, x_aug, wipeE, List.length_map, er]
  rw [show ([] : List PyData) = List.map PyData.int [] from rfl, e1]
  simp (implicitDefEqProofs := false) only [x_run, x_out_nx, x_out_rt, x_out_er, x_seq, x_seq_nx, x_seq_rt, x_seq_er, x_seq_ct, x_seq_bk, x_ofR_ok, x_ofR_er, x_nx, x_bk, x_ct, x_set, x_setL, x_ret, x_drop, x_retN, x_if, x_raise, x_var, x_gv0, x_gvS, x_gvo0, x_gvoS, x_gb, x_gb0, x_gbO, x_gbS, x_c, x_op, x_cm, x_un, x_bf, x_isi, x_ix, x_ixO, x_ofO_some, x_anil, x_acons, x_tup, x_lst, x_eL, x_tb, x_nt, x_an, x_or, x_ent, x_ean, x_eor, x_eif, x_tT, x_tV, x_tY, x_call, x_callD, x_callK, x_cd1, x_cd2, x_cd3, x_cd4, x_st0, x_stS, x_stN, x_wh, x_for, x_iseq, x_ir1, x_ir2, x_add, x_sub, x_neg, x_dcmp, x_eqI, x_neI, x_absI, x_intI, x_gcdI, x_maxI, x_minI, x_lenL, x_lenT, x_ixL, x_ixT, x_at0, x_at1, x_sz0, x_sz1, x_sz2, x_sz3, x_gN, x_forN, x_for0, x_fB_nx, x_fB_ct, x_fB_bk, x_fB_rt, x_fB_er, x_iTT, x_iTL, x_iTI, x_iLT, x_iLL, x_iII, x_iBI, x_iSS, x_iBB, x_truB, x_itT, x_itL, x_try, RO.bind_ok, RO.bind_er, RO.pure_ok, List.set_cons_zero, List.set_cons_succ, List.cons_append, List.nil_append, if_true, if_false, ite_true, ite_false, reduceIte, Bool.false_eq_true, Bool.true_eq_false, Bool.not_true, Bool.not_false, x_len1, and_self, decide_eq_true_eq, decide_true, decide_false, eq_self, Bool.not_eq_true', decide_eq_false_iff_not, not_true_eq_false, not_false_eq_true, ne_eq, x_eqB, x_neB, x_intB, x_iIB, x_gT2, x_lLi, x_eTu, x_eTuO, x_eLeO, x_dSeqL, x_dSeqT, x_oN, x_oS, x_tI, x_sl, x_cutL, x_cutT, x_comp, x_app, x_asg, x_aug, wipeE, List.length_map]
  rfl
def TI (ns cs : List Int) (k : Nat) (v m : List PyData) (s : Int) (env : PD.Env) : Prop := ∃ x6 x7, env = [some (.fz (.list (ns.map .int))), some (.fz (.int (k : Nat))), some (.fz (.list (cds cs))), some (.fz (.tuple v)), some (.fz (.tuple m)), some (.fz (.int s)), x6, x7]
def LI (ns : List Int) (env : PD.Env) : Prop := ∃ x1 x2 x3 x4 x5 x6 x7, env = [some (.fz (.list (ns.map .int))), x1, x2, x3, x4, x5, x6, x7]
theorem rng_mem2 {n : Nat} {d : PyData} (h : d ∈ rngItems 0 n) : ∃ k : Nat, k < n ∧ d = .int k := by
  unfold rngItems at h
  obtain ⟨k, hk, rfl⟩ := List.mem_map.mp h
  exact ⟨k, List.mem_range.mp hk, by rw [Int.zero_add]⟩
end KM
set_option Elab.async false
set_option linter.all false
set_option maxRecDepth 100000
set_option maxHeartbeats 4000000
namespace KM
open PySem PySem.Spec PyProof.Rows L2 PD
/-! ### layers of all kinds -/
inductive Lay
  | su (M : List Row) (v : Row)
  | be (fs : List Bool)
  | gr (gs : List (List Nat))
  | wi (step : Nat) (ws : Row) (o : Int × Int)
def grD (g : List Nat) : PyData := .tuple (g.map fun k : Nat => .int (k : Int))
def Lay.d : Lay → PyData
  | .su M v => .tuple [.str "sums", mx M, rw_ v]
  | .be fs => .tuple [.str "bends", .tuple (fs.map .bool)]
  | .gr gs => .tuple [.str "greatest", .tuple (gs.map grD)]
  | .wi k ws o => .tuple [.str "window", .int (k : Int), rw_ ws, rt o]
def GrOk (s : Nat) (g : List Nat) : Prop := g ≠ [] ∧ g.Pairwise (· < ·) ∧ ∀ x ∈ g, x < s
def Lay.Ok (s : Nat) : Lay → Prop
  | .su M v => v.length = M.length ∧ (∀ r ∈ M, r.length = s ∧ Rts 40 r) ∧ Rts 40 v ∧ 0 < M.length ∧ M.length ≤ 3
  | .be fs => fs.length = s
  | .gr gs => 0 < gs.length ∧ gs.length ≤ 3 ∧ ∀ g ∈ gs, GrOk s g
  | .wi k ws o => 0 < k ∧ k ≤ 3 ∧ 0 < ws.length ∧ ws.length ≤ s ∧ Rts 40 ws ∧ Rt 40 o.1 o.2
def Lay.out (s : Nat) : Lay → Nat
  | .su M _ => M.length
  | .be _ => s
  | .gr gs => gs.length
  | .wi k ws _ => (s - ws.length) / k + 1
theorem Lay.out_ok {s : Nat} {l : Lay} (h : l.Ok s) (h0 : 0 < s) (h4 : s ≤ 4) : 0 < l.out s ∧ l.out s ≤ 4 := by
  cases l with
  | su M v => exact ⟨h.2.2.2.1, Nat.le_trans h.2.2.2.2 (by decide)⟩
  | be fs => exact ⟨h0, h4⟩
  | gr gs => exact ⟨h.1, Nat.le_trans h.2.1 (by decide)⟩
  | wi k ws o =>
    obtain ⟨k0, k3, w0, ws', _⟩ := h
    refine ⟨Nat.succ_pos _, ?_⟩
    show (s - ws.length) / k + 1 ≤ 4
    have := Nat.div_le_self (s - ws.length) k
    omega
def ly1 : S := (sSeq (sSet 5 (eL (lComp (iR1 (eVar 3)) (gN 7) tY (eTu (eL (lComp (iR1 (eVar 1)) (gN 11) tY (eIx (eVar 4) (eOp dAdd (eOp dMulX (eVar 7) (eVar 1)) (eVar 11))) [11]))) [7]))) (sRet (eTup (aCons (eC (.str "sums")) (aCons (eTu (eVar 5)) (aCons (eTu (eSl (eVar 4) (oS (eC (.int 12))) (oS (eOp dAdd (eC (.int 12)) (eVar 3))))) aNil))))))
def ly2 : S := (sRet (eTup (aCons (eC (.str "bends")) (aCons (eTu (eL (lComp (iR1 (eVar 1)) (gN 11) tY (eOp dGt (eOp dMod (eIx (eVar 2) (eOp dAdd (eC (.int 1)) (eVar 11))) (eC (.int 4))) (eC (.int 0))) [11]))) aNil))))
def lyG : S := (sSeq (sSet 8 (eTu (eL (lComp (iR1 (eVar 1)) (gN 11) (tCm dEq (eOp dMod (eOp dDiv (eIx (eVar 2) (eOp dAdd (eC (.int 1)) (eVar 7))) (eIx (eL (lLst (aCons (eC (.int 1)) (aCons (eC (.int 2)) (aCons (eC (.int 4)) (aCons (eC (.int 8)) aNil)))))) (eVar 11))) (eC (.int 2))) (eC (.int 1))) (eVar 11) [11])))) (sApp 6 (eIf (tCm dGt (eBf cLen (aCons (eVar 8) aNil)) (eC (.int 0))) (eVar 8) (eTup (aCons (eOp dMod (eOp dDiv (eIx (eVar 2) (eOp dAdd (eC (.int 1)) (eVar 7))) (eC (.int 16))) (eVar 1)) aNil)))))
def ly3 : S := (sSeq (sSetL 6 (lLst aNil)) (sSeq (sFor (iR1 (eVar 3)) (gN 7) lyG) (sRet (eTup (aCons (eC (.str "greatest")) (aCons (eTuO 6) aNil))))))
def ly4 : S := (sSeq (sSet 9 (eOp dAdd (eC (.int 1)) (eOp dMod (eOp dDiv (eIx (eVar 2) (eC (.int 0))) (eC (.int 18))) (eVar 1)))) (sRet (eTup (aCons (eC (.str "window")) (aCons (eOp dAdd (eC (.int 1)) (eOp dMod (eOp dDiv (eIx (eVar 2) (eC (.int 0))) (eC (.int 72))) (eC (.int 3)))) (aCons (eTu (eSl (eVar 4) oN (oS (eVar 9)))) (aCons (eIx (eVar 4) (eC (.int 5))) aNil)))))))
def lyT : S := (sSeq (sSet 2 (eCall 3 F__law_codes (aCons (eVar 0) (aCons (eC (.int 19)) (aCons (eC (.int 2000)) aNil))))) (sSeq (sSet 3 (eOp dAdd (eC (.int 1)) (eOp dMod (eOp dDiv (eIx (eVar 2) (eC (.int 0))) (eC (.int 6))) (eC (.int 3))))) (sSeq (sSet 4 (eL (lComp (iSeq (eSl (eVar 2) (oS (eC (.int 1))) oN)) (gN 10) tY (eCall 1 F__law_ratio (aCons (eVar 10) aNil)) [10]))) (sSeq (sIf (tCm dLt (eOp dMod (eIx (eVar 2) (eC (.int 0))) (eC (.int 6))) (eC (.int 2))) ly1 sNx) (sSeq (sIf (tCm dLt (eOp dMod (eIx (eVar 2) (eC (.int 0))) (eC (.int 6))) (eC (.int 4))) ly2 sNx) (sSeq (sIf (tCm dEq (eOp dMod (eIx (eVar 2) (eC (.int 0))) (eC (.int 6))) (eC (.int 4))) ly3 sNx) ly4))))))
theorem ly_eq : B__law_layer = lyT := rfl
theorem x_sz3' {a b c : PyData} : ([a, b, c].length ≤ sizeLine) = True := eq_true (by show 3 ≤ sizeLine; decide)
theorem x_sz4 {a b c d : PyData} : ([a, b, c, d].length ≤ sizeLine) = True := eq_true (by show 4 ≤ sizeLine; decide)
theorem cds_cons {c : Int} {cs : List Int} : cds (c :: cs) = .int c :: cds cs := rfl
theorem cut1 {c : Int} {cs : List Int} : PD.cutD (cds (c :: cs)) (some 1) none = cds cs := cut_gen 1 (by rw [cds_cons, List.length_cons]; omega)
theorem ix_rats {rs : Row} {k : Nat} (h : k < rs.length) : dIx (.list (rs.map rt)) (.int (k : Int)) = some (rt (rs.getD k (0, 1))) := by
  show atI _ _ = _
  refine atI_nat ?_
  rw [List.getElem?_map, List.getD_eq_getElem?_getD, List.getElem?_eq_getElem h]
  rfl
theorem getD_mem {α : Type} {d : α} {xs : List α} {k : Nat} (h : k < xs.length) : xs.getD k d ∈ xs := by
  rw [List.getD_eq_getElem?_getD, List.getElem?_eq_getElem h]
  exact List.getElem_mem h
theorem Rts.m40 {v : Row} (h : Rts 35 v) : Rts 40 v := fun x hx => (h x hx).mono (by decide)
noncomputable def rowN (ct : List Int) (s k : Nat) : Row := (List.range s).map fun a => (rats ct).getD (k * s + a) (0, 1)
section
variable {x0 x5 x6 x7 x8 x9 x10 x11 : Option SV} {c0 : Int} {ct : List Int} {s m : Nat}
noncomputable abbrev lyEnv (x0 x5 x6 x7 x8 x9 x10 x11 : Option SV) (c0 : Int) (ct : List Int) (s m : Nat) : PD.Env := [x0, some (.fz (.int (s : Nat))), some (.fz (.list (cds (c0 :: ct)))), some (.fz (.int (m : Nat))), some (.fz (.list ((rats ct).map rt))), x5, x6, x7, x8, x9, x10, x11]
theorem ly1_ok (hl : ct.length = 18) (h4 : s ≤ 4) (m0 : 0 < m) (m3 : m ≤ 3) : ∃ l, ly1 (lyEnv x0 x5 x6 x7 x8 x9 x10 x11 c0 ct s m) = .rt (Lay.d l) ∧ l.Ok s := by
  have hr : (rats ct).length = 18 := by rw [rats_len, hl]
  have g := fun (x7 : Option SV) => compR (i := 7) (n := m) (f := eTu (eL (lComp (iR1 (eVar 1)) (gN 11) tY (eIx (eVar 4) (eOp dAdd (eOp dMulX (eVar 7) (eVar 1)) (eVar 11))) [11]))) (env := lyEnv x0 x5 x6 none x8 x9 x10 x11 c0 ct s m) (fun k => rw_ (rowN ct s k)) (by omega) fun k hk => by
    have g2 := compR (i := 11) (n := s) (f := eIx (eVar 4) (eOp dAdd (eOp dMulX (eVar 7) (eVar 1)) (eVar 11))) (env := lyEnv x0 x5 x6 (some (.fz (.int (0 + (k : Int))))) x8 x9 x10 none c0 ct s m) (fun a => rt ((rats ct).getD (k * s + a) (0, 1))) (by omega) fun a ha => by
      have mm : dMulX (.int (0 + (k : Int))) (.int (s : Int)) = some (.int ((k * s : Nat) : Int)) := by
        rw [Int.zero_add, mlX (m := 10) (n := 10) (by unfold Sm; omega) (by unfold Sm; omega)]
        rfl
      have ea : ((k * s : Nat) : Int) + (0 + (a : Int)) = ((k * s + a : Nat) : Int) := by omega
      have hks : k * s ≤ 2 * 4 := Nat.mul_le_mul (by omega) h4
      have ix := ix_rats (rs := rats ct) (k := k * s + a) (by omega)
      simp (implicitDefEqProofs := false) only [x_run, x_out_nx, x_out_rt, x_out_er, x_seq, x_seq_nx, x_seq_rt, x_seq_er, x_seq_ct, x_seq_bk, x_ofR_ok, x_ofR_er, x_nx, x_bk, x_ct, x_set, x_setL, x_ret, x_drop, x_retN, x_if, x_raise, x_var, x_gv0, x_gvS, x_gvo0, x_gvoS, x_gb, x_gb0, x_gbO, x_gbS, x_c, x_op, x_cm, x_un, x_bf, x_isi, x_ix, x_ixO, x_ofO_some, x_anil, x_acons, x_tup, x_lst, x_eL, x_tb, x_nt, x_an, x_or, x_ent, x_ean, x_eor, x_eif, x_tT, x_tV, x_tY, x_call, x_callD, x_callK, x_cd1, x_cd2, x_cd3, x_cd4, x_st0, x_stS, x_stN, x_wh, x_for, x_iseq, x_ir1, x_ir2, x_add, x_sub, x_neg, x_dcmp, x_eqI, x_neI, x_absI, x_intI, x_gcdI, x_maxI, x_minI, x_lenL, x_lenT, x_ixL, x_ixT, x_at0, x_at1, x_sz0, x_sz1, x_sz2, x_sz3, x_gN, x_forN, x_for0, x_fB_nx, x_fB_ct, x_fB_bk, x_fB_rt, x_fB_er, x_iTT, x_iTL, x_iTI, x_iLT, x_iLL, x_iII, x_iBI, x_iSS, x_iBB, x_truB, x_itT, x_itL, x_try, RO.bind_ok, RO.bind_er, RO.pure_ok, List.set_cons_zero, List.set_cons_succ, List.cons_append, List.nil_append, if_true, if_false, ite_true, ite_false, reduceIte, Bool.false_eq_true, Bool.true_eq_false, Bool.not_true, Bool.not_false, x_len1, and_self, decide_eq_true_eq, decide_true, decide_false, eq_self, Bool.not_eq_true', decide_eq_false_iff_not, not_true_eq_false, not_false_eq_true, ne_eq, x_eqB, x_neB, x_intB, x_iIB, x_gT2, x_lLi, x_eTu, x_eTuO, x_eLeO, x_dSeqL, x_dSeqT, x_oN, x_oS, x_tI, x_sl, x_cutL, x_cutT, x_comp, x_app, x_asg, x_aug, wipeE, List.length_map, mm, ea, ix]
    have cr := rng1_ok (n := s) (by omega)
    have g2' : compD (gN 11) tY (eIx (eVar 4) (eOp dAdd (eOp dMulX (eVar 7) (eVar 1)) (eVar 11))) (lyEnv x0 x5 x6 (some (.fz (.int (0 + (k : Int))))) x8 x9 x10 none c0 ct s m) (rngItems 0 s) = _ := g2
    simp (implicitDefEqProofs := false) only [x_run, x_out_nx, x_out_rt, x_out_er, x_seq, x_seq_nx, x_seq_rt, x_seq_er, x_seq_ct, x_seq_bk, x_ofR_ok, x_ofR_er, x_nx, x_bk, x_ct, x_set, x_setL, x_ret, x_drop, x_retN, x_if, x_raise, x_var, x_gv0, x_gvS, x_gvo0, x_gvoS, x_gb, x_gb0, x_gbO, x_gbS, x_c, x_op, x_cm, x_un, x_bf, x_isi, x_ix, x_ixO, x_ofO_some, x_anil, x_acons, x_tup, x_lst, x_eL, x_tb, x_nt, x_an, x_or, x_ent, x_ean, x_eor, x_eif, x_tT, x_tV, x_tY, x_call, x_callD, x_callK, x_cd1, x_cd2, x_cd3, x_cd4, x_st0, x_stS, x_stN, x_wh, x_for, x_iseq, x_ir1, x_ir2, x_add, x_sub, x_neg, x_dcmp, x_eqI, x_neI, x_absI, x_intI, x_gcdI, x_maxI, x_minI, x_lenL, x_lenT, x_ixL, x_ixT, x_at0, x_at1, x_sz0, x_sz1, x_sz2, x_sz3, x_gN, x_forN, x_for0, x_fB_nx, x_fB_ct, x_fB_bk, x_fB_rt, x_fB_er, x_iTT, x_iTL, x_iTI, x_iLT, x_iLL, x_iII, x_iBI, x_iSS, x_iBB, x_truB, x_itT, x_itL, x_try, RO.bind_ok, RO.bind_er, RO.pure_ok, List.set_cons_zero, List.set_cons_succ, List.cons_append, List.nil_append, if_true, if_false, ite_true, ite_false, reduceIte, Bool.false_eq_true, Bool.true_eq_false, Bool.not_true, Bool.not_false, x_len1, and_self, decide_eq_true_eq, decide_true, decide_false, eq_self, Bool.not_eq_true', decide_eq_false_iff_not, not_true_eq_false, not_false_eq_true, ne_eq, x_eqB, x_neB, x_intB, x_iIB, x_gT2, x_lLi, x_eTu, x_eTuO, x_eLeO, x_dSeqL, x_dSeqT, x_oN, x_oS, x_tI, x_sl, x_cutL, x_cutT, x_comp, x_app, x_asg, x_aug, wipeE, List.length_map, cr, wipeE, g2']
    unfold rw_ rowN
    rw [List.map_map]
    rfl
  have cr := rng1_ok (n := m) (by omega)
  have g' : compD (gN 7) tY (eTu (eL (lComp (iR1 (eVar 1)) (gN 11) tY (eIx (eVar 4) (eOp dAdd (eOp dMulX (eVar 7) (eVar 1)) (eVar 11))) [11]))) (lyEnv x0 x5 x6 none x8 x9 x10 x11 c0 ct s m) (rngItems 0 m) = _ := g none
  have cv : PD.cutD ((rats ct).map rt) (some 12) (some (12 + (m : Int))) = (((rats ct).drop 12).take m).map rt := by
    have := cut_ok ((rats ct).map rt) 12 (12 + m)
    rw [List.length_map, hr, Nat.min_eq_left (by omega : 12 ≤ 18), Nat.min_eq_left (by omega : 12 + m ≤ 18), Nat.add_sub_cancel_left] at this
    rw [List.map_take, List.map_drop]
    exact this
  refine ⟨.su ((List.range m).map (rowN ct s)) (((rats ct).drop 12).take m), ?_, ?_, ?_, ?_, ?_, ?_⟩
  · unfold ly1
    simp (implicitDefEqProofs := false) only [x_run, x_out_nx, x_out_rt, x_out_er, x_seq, x_seq_nx, x_seq_rt, x_seq_er, x_seq_ct, x_seq_bk, x_ofR_ok, x_ofR_er, x_nx, x_bk, x_ct, x_set, x_setL, x_ret, x_drop, x_retN, x_if, x_raise, x_var, x_gv0, x_gvS, x_gvo0, x_gvoS, x_gb, x_gb0, x_gbO, x_gbS, x_c, x_op, x_cm, x_un, x_bf, x_isi, x_ix, x_ixO, x_ofO_some, x_anil, x_acons, x_tup, x_lst, x_eL, x_tb, x_nt, x_an, x_or, x_ent, x_ean, x_eor, x_eif, x_tT, x_tV, x_tY, x_call, x_callD, x_callK, x_cd1, x_cd2, x_cd3, x_cd4, x_st0, x_stS, x_stN, x_wh, x_for, x_iseq, x_ir1, x_ir2, x_add, x_sub, x_neg, x_dcmp, x_eqI, x_neI, x_absI, x_intI, x_gcdI, x_maxI, x_minI, x_lenL, x_lenT, x_ixL, x_ixT, x_at0, x_at1, x_sz0, x_sz1, x_sz2, x_sz3, x_gN, x_forN, x_for0, x_fB_nx, x_fB_ct, x_fB_bk, x_fB_rt, x_fB_er, x_iTT, x_iTL, x_iTI, x_iLT, x_iLL, x_iII, x_iBI, x_iSS, x_iBB, x_truB, x_itT, x_itL, x_try, RO.bind_ok, RO.bind_er, RO.pure_ok, List.set_cons_zero, List.set_cons_succ, List.cons_append, List.nil_append, if_true, if_false, ite_true, ite_false, reduceIte, Bool.false_eq_true, Bool.true_eq_false, Bool.not_true, Bool.not_false, x_len1, and_self, decide_eq_true_eq, decide_true, decide_false, eq_self, Bool.not_eq_true', decide_eq_false_iff_not, not_true_eq_false, not_false_eq_true, ne_eq, x_eqB, x_neB, x_intB, x_iIB, x_gT2, x_lLi, x_eTu, x_eTuO, x_eLeO, x_dSeqL, x_dSeqT, x_oN, x_oS, x_tI, x_sl, x_cutL, x_cutT, x_comp, x_app, x_asg, x_aug, wipeE, List.length_map, cr, wipeE, g', cv, x_sz3']
    have e : ((List.range m).map (rowN ct s)).map rw_ = (List.range m).map fun k => rw_ (rowN ct s k) := by rw [List.map_map]; rfl
    show _ = SO.rt (PyData.tuple [PyData.str (Str.ofString "sums"), PyData.tuple (((List.range m).map (rowN ct s)).map rw_), PyData.tuple ((((rats ct).drop 12).take m).map rt)])
    rw [e]
  · rw [List.length_take, List.length_drop, hr, List.length_map, List.length_range]; omega
  · intro r hr'
    obtain ⟨k, hk, rfl⟩ := List.mem_map.mp hr'
    have hk := List.mem_range.mp hk
    refine ⟨by unfold rowN; rw [List.length_map, List.length_range], fun x hx => ?_⟩
    obtain ⟨a, ha, rfl⟩ := List.mem_map.mp hx
    have ha := List.mem_range.mp ha
    have hks : k * s ≤ 2 * 4 := Nat.mul_le_mul (by omega) h4
    exact (rats_rt ct _ (getD_mem (by omega))).mono (by decide)
  · exact fun x hx => (rats_rt ct x (List.mem_of_mem_drop (List.mem_of_mem_take hx))).mono (by decide)
  · rw [List.length_map, List.length_range]; exact m0
  · rw [List.length_map, List.length_range]; exact m3
end
end KM
set_option Elab.async false
set_option linter.all false
set_option maxRecDepth 100000
set_option maxHeartbeats 4000000
namespace KM
open PySem PySem.Spec PyProof.Rows L2 PD
theorem compGo_filter {β : Type} {gg : G} {t : T} {f : E} {env : PD.Env} (fi : β → PyData) (p : β → Bool) (fo : β → PyData) : ∀ (xs : List β), (∀ x ∈ xs, ∃ e1, gg (fi x) env = .ok e1 ∧ t e1 = .ok (p x) ∧ (p x = true → f e1 = .ok (fo x))) → compGo gg t f env (xs.map fi) = .ok ((xs.filter p).map fo)
  | [], _ => rfl
  | x :: xs, h => by
    obtain ⟨e1, h1, h2, h3⟩ := h x (List.mem_cons_self ..)
    have ih := compGo_filter fi p fo xs fun y hy => h y (List.mem_cons_of_mem _ hy)
    show (quiet (gg (fi x) env) >>= fun e1 => quiet (t e1) >>= fun b => if b = true then quiet (f e1) >>= fun y => compGo gg t f env (xs.map fi) >>= fun ys => RO.ok (y :: ys) else compGo gg t f env (xs.map fi)) = _
    rw [h1]
    show (quiet (t e1) >>= fun b => if b = true then quiet (f e1) >>= fun y => compGo gg t f env (xs.map fi) >>= fun ys => RO.ok (y :: ys) else compGo gg t f env (xs.map fi)) = _
    rw [h2]
    show (if p x = true then quiet (f e1) >>= fun y => compGo gg t f env (xs.map fi) >>= fun ys => RO.ok (y :: ys) else compGo gg t f env (xs.map fi)) = _
    cases hp : p x with
    | true =>
      rw [if_pos rfl, h3 hp, ih, List.filter_cons_of_pos hp]
      rfl
    | false =>
      rw [if_neg Bool.false_ne_true, ih, List.filter_cons_of_neg (by simp [hp])]
theorem compD_filter {β : Type} {gg : G} {t : T} {f : E} {env : PD.Env} (fi : β → PyData) (p : β → Bool) (fo : β → PyData) (xs : List β) (hl : xs.length ≤ 1000) (h : ∀ x ∈ xs, ∃ e1, gg (fi x) env = .ok e1 ∧ t e1 = .ok (p x) ∧ (p x = true → f e1 = .ok (fo x))) : compD gg t f env (xs.map fi) = .ok ((xs.filter p).map fo) := by
  unfold compD
  rw [if_pos (by rw [List.length_map]; exact Nat.le_trans hl (by decide))]
  exact compGo_filter fi p fo xs h

theorem ix_cds {c0 : Int} {ct : List Int} {k : Nat} (h : k < ct.length) : dIx (.list (cds (c0 :: ct))) (.int (1 + (k : Int))) = some (.int (ct.getD k 0)) := by
  show atI _ _ = _
  rw [show (1 : Int) + (k : Int) = ((k + 1 : Nat) : Int) by omega]
  refine atI_nat ?_
  unfold cds
  rw [List.getElem?_map, List.getElem?_cons_succ, List.getD_eq_getElem?_getD, List.getElem?_eq_getElem h]
  rfl
section
variable {x0 x5 x6 x7 x8 x9 x10 x11 : Option SV} {c0 : Int} {ct : List Int} {s m : Nat}
theorem ly2_ok (hl : ct.length = 18) (h4 : s ≤ 4) : ∃ l, ly2 (lyEnv x0 x5 x6 x7 x8 x9 x10 x11 c0 ct s m) = .rt (Lay.d l) ∧ l.Ok s := by
  have g := compR (i := 11) (n := s) (f := eOp dGt (eOp dMod (eIx (eVar 2) (eOp dAdd (eC (.int 1)) (eVar 11))) (eC (.int 4))) (eC (.int 0))) (env := lyEnv x0 x5 x6 x7 x8 x9 x10 none c0 ct s m) (fun k => .bool (decide (0 < ct.getD k 0 % 4))) (by omega) fun k hk => by
    have i := ix_cds (c0 := c0) (ct := ct) (k := k) (by omega)
    have m4 : dMod (.int (ct.getD k 0)) (.int 4) = some (.int (ct.getD k 0 % 4)) := x_mod (by decide)
    have ea : (1 : Int) + (0 + (k : Int)) = 1 + (k : Int) := by omega
    simp (implicitDefEqProofs := false) only [x_run, x_out_nx, x_out_rt, x_out_er, x_seq, x_seq_nx, x_seq_rt, x_seq_er, x_seq_ct, x_seq_bk, x_ofR_ok, x_ofR_er, x_nx, x_bk, x_ct, x_set, x_setL, x_ret, x_drop, x_retN, x_if, x_raise, x_var, x_gv0, x_gvS, x_gvo0, x_gvoS, x_gb, x_gb0, x_gbO, x_gbS, x_c, x_op, x_cm, x_un, x_bf, x_isi, x_ix, x_ixO, x_ofO_some, x_anil, x_acons, x_tup, x_lst, x_eL, x_tb, x_nt, x_an, x_or, x_ent, x_ean, x_eor, x_eif, x_tT, x_tV, x_tY, x_call, x_callD, x_callK, x_cd1, x_cd2, x_cd3, x_cd4, x_st0, x_stS, x_stN, x_wh, x_for, x_iseq, x_ir1, x_ir2, x_add, x_sub, x_neg, x_dcmp, x_eqI, x_neI, x_absI, x_intI, x_gcdI, x_maxI, x_minI, x_lenL, x_lenT, x_ixL, x_ixT, x_at0, x_at1, x_sz0, x_sz1, x_sz2, x_sz3, x_gN, x_forN, x_for0, x_fB_nx, x_fB_ct, x_fB_bk, x_fB_rt, x_fB_er, x_iTT, x_iTL, x_iTI, x_iLT, x_iLL, x_iII, x_iBI, x_iSS, x_iBB, x_truB, x_itT, x_itL, x_try, RO.bind_ok, RO.bind_er, RO.pure_ok, List.set_cons_zero, List.set_cons_succ, List.cons_append, List.nil_append, if_true, if_false, ite_true, ite_false, reduceIte, Bool.false_eq_true, Bool.true_eq_false, Bool.not_true, Bool.not_false, x_len1, and_self, decide_eq_true_eq, decide_true, decide_false, eq_self, Bool.not_eq_true', decide_eq_false_iff_not, not_true_eq_false, not_false_eq_true, ne_eq, x_eqB, x_neB, x_intB, x_iIB, x_gT2, x_lLi, x_eTu, x_eTuO, x_eLeO, x_dSeqL, x_dSeqT, x_oN, x_oS, x_tI, x_sl, x_cutL, x_cutT, x_comp, x_app, x_asg, x_aug, wipeE, List.length_map, ea, i, m4]
  have cr := rng1_ok (n := s) (by omega)
  have g' : compD (gN 11) tY (eOp dGt (eOp dMod (eIx (eVar 2) (eOp dAdd (eC (.int 1)) (eVar 11))) (eC (.int 4))) (eC (.int 0))) (lyEnv x0 x5 x6 x7 x8 x9 x10 none c0 ct s m) (rngItems 0 s) = _ := g
  refine ⟨.be ((List.range s).map fun k => decide (0 < ct.getD k 0 % 4)), ?_, by show List.length _ = s; rw [List.length_map, List.length_range]⟩
  unfold ly2
  simp (implicitDefEqProofs := false) only [x_run, x_out_nx, x_out_rt, x_out_er, x_seq, x_seq_nx, x_seq_rt, x_seq_er, x_seq_ct, x_seq_bk, x_ofR_ok, x_ofR_er, x_nx, x_bk, x_ct, x_set, x_setL, x_ret, x_drop, x_retN, x_if, x_raise, x_var, x_gv0, x_gvS, x_gvo0, x_gvoS, x_gb, x_gb0, x_gbO, x_gbS, x_c, x_op, x_cm, x_un, x_bf, x_isi, x_ix, x_ixO, x_ofO_some, x_anil, x_acons, x_tup, x_lst, x_eL, x_tb, x_nt, x_an, x_or, x_ent, x_ean, x_eor, x_eif, x_tT, x_tV, x_tY, x_call, x_callD, x_callK, x_cd1, x_cd2, x_cd3, x_cd4, x_st0, x_stS, x_stN, x_wh, x_for, x_iseq, x_ir1, x_ir2, x_add, x_sub, x_neg, x_dcmp, x_eqI, x_neI, x_absI, x_intI, x_gcdI, x_maxI, x_minI, x_lenL, x_lenT, x_ixL, x_ixT, x_at0, x_at1, x_sz0, x_sz1, x_sz2, x_sz3, x_gN, x_forN, x_for0, x_fB_nx, x_fB_ct, x_fB_bk, x_fB_rt, x_fB_er, x_iTT, x_iTL, x_iTI, x_iLT, x_iLL, x_iII, x_iBI, x_iSS, x_iBB, x_truB, x_itT, x_itL, x_try, RO.bind_ok, RO.bind_er, RO.pure_ok, List.set_cons_zero, List.set_cons_succ, List.cons_append, List.nil_append, if_true, if_false, ite_true, ite_false, reduceIte, Bool.false_eq_true, Bool.true_eq_false, Bool.not_true, Bool.not_false, x_len1, and_self, decide_eq_true_eq, decide_true, decide_false, eq_self, Bool.not_eq_true', decide_eq_false_iff_not, not_true_eq_false, not_false_eq_true, ne_eq, x_eqB, x_neB, x_intB, x_iIB, x_gT2, x_lLi, x_eTu, x_eTuO, x_eLeO, x_dSeqL, x_dSeqT, x_oN, x_oS, x_tI, x_sl, x_cutL, x_cutT, x_comp, x_app, x_asg, x_aug, wipeE, List.length_map, cr, wipeE, g']
  have e : ((List.range s).map fun k => decide (0 < ct.getD k 0 % 4)).map PyData.bool = (List.range s).map fun k => PyData.bool (decide (0 < ct.getD k 0 % 4)) := by rw [List.map_map]; rfl
  show _ = SO.rt (PyData.tuple [PyData.str (Str.ofString "bends"), PyData.tuple (((List.range s).map fun k => decide (0 < ct.getD k 0 % 4)).map PyData.bool)])
  rw [e]
theorem pow4 {a : Nat} (h : a < 4) : ∃ p : Int, atI [PyData.int 1, .int 2, .int 4, .int 8] (0 + (a : Int)) = some (.int p) ∧ divOk p = true := by
  match a, h with
  | 0, _ => exact ⟨1, rfl, by decide +kernel⟩
  | 1, _ => exact ⟨2, rfl, by decide +kernel⟩
  | 2, _ => exact ⟨4, rfl, by decide +kernel⟩
  | 3, _ => exact ⟨8, rfl, by decide +kernel⟩
theorem grp_ok (g : Nat → Bool) : GrOk s ((List.range s).filter g) ∨ (List.range s).filter g = [] := by
  by_cases h : (List.range s).filter g = []
  · exact .inr h
  · exact .inl ⟨h, List.Pairwise.filter _ List.pairwise_lt_range, fun x hx => List.mem_range.mp (List.mem_filter.mp hx).1⟩
def GI (x0 x5 x9 x10 : Option SV) (c0 : Int) (ct : List Int) (s m : Nat) (x4 : Option SV) (pre : List Nat) (env : PD.Env) : Prop := ∃ (gs : List (List Nat)) (x7 x8 x11 : Option SV), env = [x0, some (.fz (.int (s : Nat))), some (.fz (.list (cds (c0 :: ct)))), some (.fz (.int (m : Nat))), x4, x5, some (.own (gs.map grD)), x7, x8, x9, x10, x11] ∧ gs.length = pre.length ∧ ∀ g ∈ gs, GrOk s g
theorem lyG_step {x4 : Option SV} (hl : ct.length = 18) (h0 : 0 < s) (h4 : s ≤ 4) (m3 : m ≤ 3) (p : List Nat) (x : Nat) (q : List Nat) (env : PD.Env) (e : [] ++ List.range m = p ++ x :: q) (h : GI x0 x5 x9 x10 c0 ct s m x4 p env) :
    ∃ e1, gN 7 (.int (0 + (x : Int))) env = .ok e1 ∧ Keeps (GI x0 x5 x9 x10 c0 ct s m x4 (p ++ [x])) (lyG e1) := by
  obtain ⟨gs, x7, x8, x11, rfl, hgl, hg⟩ := h
  obtain ⟨rfl, hx⟩ := range_pre (by simpa using e)
  have ic := ix_cds (c0 := c0) (ct := ct) (k := p.length) (by omega)
  have ea : (1 : Int) + (0 + (p.length : Int)) = 1 + (p.length : Int) := by omega
  obtain ⟨pw, hpw⟩ : ∃ pw : Nat → Int, ∀ a : Nat, a < 4 → atI [PyData.int 1, .int 2, .int 4, .int 8] (0 + (a : Int)) = some (.int (pw a)) ∧ divOk (pw a) = true := ⟨fun a => if a = 0 then 1 else if a = 1 then 2 else if a = 2 then 4 else 8, fun a ha => by
    match a, ha with
    | 0, _ => exact ⟨rfl, by decide +kernel⟩
    | 1, _ => exact ⟨rfl, by decide +kernel⟩
    | 2, _ => exact ⟨rfl, by decide +kernel⟩
    | 3, _ => exact ⟨rfl, by decide +kernel⟩⟩
  have g := compD_filter (gg := gN 11) (t := tCm dEq (eOp dMod (eOp dDiv (eIx (eVar 2) (eOp dAdd (eC (.int 1)) (eVar 7))) (eIx (eL (lLst (aCons (eC (.int 1)) (aCons (eC (.int 2)) (aCons (eC (.int 4)) (aCons (eC (.int 8)) aNil)))))) (eVar 11))) (eC (.int 2))) (eC (.int 1))) (f := eVar 11)
    (env := [x0, some (.fz (.int (s : Nat))), some (.fz (.list (cds (c0 :: ct)))), some (.fz (.int (m : Nat))), x4, x5, some (.own (gs.map grD)), some (.fz (.int (0 + (p.length : Int)))), x8, x9, x10, none]) (fun a : Nat => .int (0 + (a : Int))) (fun a => decide ((ct.getD p.length 0).fdiv (pw a) % 2 = 1)) (fun a : Nat => .int (0 + (a : Int))) (List.range s) (by rw [List.length_range]; omega) fun a ha => by
      have ha := List.mem_range.mp ha
      obtain ⟨e1, e2⟩ := hpw a (by omega)
      refine ⟨_, rfl, ?_, fun _ => rfl⟩
      have dv : dDiv (.int (ct.getD p.length 0)) (.int (pw a)) = some (.int ((ct.getD p.length 0).fdiv (pw a))) := x_div e2
      have md : dMod (.int ((ct.getD p.length 0).fdiv (pw a))) (.int 2) = some (.int ((ct.getD p.length 0).fdiv (pw a) % 2)) := x_mod (by decide)
      simp (implicitDefEqProofs := false) only [x_run, x_out_nx, x_out_rt, x_out_er, x_seq, x_seq_nx, x_seq_rt, x_seq_er, x_seq_ct, x_seq_bk, x_ofR_ok, x_ofR_er, x_nx, x_bk, x_ct, x_set, x_setL, x_ret, x_drop, x_retN, x_if, x_raise, x_var, x_gv0, x_gvS, x_gvo0, x_gvoS, x_gb, x_gb0, x_gbO, x_gbS, x_c, x_op, x_cm, x_un, x_bf, x_isi, x_ix, x_ixO, x_ofO_some, x_anil, x_acons, x_tup, x_lst, x_eL, x_tb, x_nt, x_an, x_or, x_ent, x_ean, x_eor, x_eif, x_tT, x_tV, x_tY, x_call, x_callD, x_callK, x_cd1, x_cd2, x_cd3, x_cd4, x_st0, x_stS, x_stN, x_wh, x_for, x_iseq, x_ir1, x_ir2, x_add, x_sub, x_neg, x_dcmp, x_eqI, x_neI, x_absI, x_intI, x_gcdI, x_maxI, x_minI, x_lenL, x_lenT, x_ixL, x_ixT, x_at0, x_at1, x_sz0, x_sz1, x_sz2, x_sz3, x_gN, x_forN, x_for0, x_fB_nx, x_fB_ct, x_fB_bk, x_fB_rt, x_fB_er, x_iTT, x_iTL, x_iTI, x_iLT, x_iLL, x_iII, x_iBI, x_iSS, x_iBB, x_truB, x_itT, x_itL, x_try, RO.bind_ok, RO.bind_er, RO.pure_ok, List.set_cons_zero, List.set_cons_succ, List.cons_append, List.nil_append, if_true, if_false, ite_true, ite_false, reduceIte, Bool.false_eq_true, Bool.true_eq_false, Bool.not_true, Bool.not_false, x_len1, and_self, decide_eq_true_eq, decide_true, decide_false, eq_self, Bool.not_eq_true', decide_eq_false_iff_not, not_true_eq_false, not_false_eq_true, ne_eq, x_eqB, x_neB, x_intB, x_iIB, x_gT2, x_lLi, x_eTu, x_eTuO, x_eLeO, x_dSeqL, x_dSeqT, x_oN, x_oS, x_tI, x_sl, x_cutL, x_cutT, x_comp, x_app, x_asg, x_aug, wipeE, List.length_map, ea, ic, x_sz4, e1, dv, md]
  have cr := rng1_ok (n := s) (by omega)
  have g' : compD (gN 11) (tCm dEq (eOp dMod (eOp dDiv (eIx (eVar 2) (eOp dAdd (eC (.int 1)) (eVar 7))) (eIx (eL (lLst (aCons (eC (.int 1)) (aCons (eC (.int 2)) (aCons (eC (.int 4)) (aCons (eC (.int 8)) aNil)))))) (eVar 11))) (eC (.int 2))) (eC (.int 1))) (eVar 11)
    [x0, some (.fz (.int (s : Nat))), some (.fz (.list (cds (c0 :: ct)))), some (.fz (.int (m : Nat))), x4, x5, some (.own (gs.map grD)), some (.fz (.int (0 + (p.length : Int)))), x8, x9, x10, none] (rngItems 0 s) = .ok (((List.range s).filter fun a => decide ((ct.getD p.length 0).fdiv (pw a) % 2 = 1)).map fun a : Nat => .int (0 + (a : Int))) := g
  have z : (gs.length < sizeLine) = True := size_ok (by omega)
  generalize hG : (List.range s).filter (fun a => decide ((ct.getD p.length 0).fdiv (pw a) % 2 = 1)) = G at g'
  have em : (G.map fun a : Nat => PyData.int (0 + (a : Int))) = G.map fun a : Nat => PyData.int (a : Int) := by
    refine List.map_congr_left fun a _ => ?_
    rw [Int.zero_add]
  rw [em] at g'
  have fin : ∀ (G' : List Nat), GrOk s G' → GI x0 x5 x9 x10 c0 ct s m x4 (p ++ [p.length]) [x0, some (.fz (.int (s : Nat))), some (.fz (.list (cds (c0 :: ct)))), some (.fz (.int (m : Nat))), x4, x5, some (.own (gs.map grD ++ [grD G'])), some (.fz (.int (0 + (p.length : Int)))), some (.fz (grD G)), x9, x10, x11] := fun G' hG' =>
    ⟨gs ++ [G'], _, _, _, by rw [List.map_append]; rfl, by simp [hgl], fun g hg' => (List.mem_append.mp hg').elim (hg g) fun h => by rw [List.mem_singleton.mp h]; exact hG'⟩
  rcases grp_ok (s := s) (fun a => decide ((ct.getD p.length 0).fdiv (pw a) % 2 = 1)) with h1 | h1
  · rw [hG] at h1
    have zl : ((G.length : Int) > 0) = True := eq_true (by have := List.length_pos_iff.mpr h1.1; omega)
    refine ⟨_, rfl, ?_⟩
    unfold lyG
    simp (implicitDefEqProofs := false) only [x_run, x_out_nx, x_out_rt, x_out_er, x_seq, x_seq_nx, x_seq_rt, x_seq_er, x_seq_ct, x_seq_bk, x_ofR_ok, x_ofR_er, x_nx, x_bk, x_ct, x_set, x_setL, x_ret, x_drop, x_retN, x_if, x_raise, x_var, x_gv0, x_gvS, x_gvo0, x_gvoS, x_gb, x_gb0, x_gbO, x_gbS, x_c, x_op, x_cm, x_un, x_bf, x_isi, x_ix, x_ixO, x_ofO_some, x_anil, x_acons, x_tup, x_lst, x_eL, x_tb, x_nt, x_an, x_or, x_ent, x_ean, x_eor, x_eif, x_tT, x_tV, x_tY, x_call, x_callD, x_callK, x_cd1, x_cd2, x_cd3, x_cd4, x_st0, x_stS, x_stN, x_wh, x_for, x_iseq, x_ir1, x_ir2, x_add, x_sub, x_neg, x_dcmp, x_eqI, x_neI, x_absI, x_intI, x_gcdI, x_maxI, x_minI, x_lenL, x_lenT, x_ixL, x_ixT, x_at0, x_at1, x_sz0, x_sz1, x_sz2, x_sz3, x_gN, x_forN, x_for0, x_fB_nx, x_fB_ct, x_fB_bk, x_fB_rt, x_fB_er, x_iTT, x_iTL, x_iTI, x_iLT, x_iLL, x_iII, x_iBI, x_iSS, x_iBB, x_truB, x_itT, x_itL, x_try, RO.bind_ok, RO.bind_er, RO.pure_ok, List.set_cons_zero, List.set_cons_succ, List.cons_append, List.nil_append, if_true, if_false, ite_true, ite_false, reduceIte, Bool.false_eq_true, Bool.true_eq_false, Bool.not_true, Bool.not_false, x_len1, and_self, decide_eq_true_eq, decide_true, decide_false, eq_self, Bool.not_eq_true', decide_eq_false_iff_not, not_true_eq_false, not_false_eq_true, ne_eq, x_eqB, x_neB, x_intB, x_iIB, x_gT2, x_lLi, x_eTu, x_eTuO, x_eLeO, x_dSeqL, x_dSeqT, x_oN, x_oS, x_tI, x_sl, x_cutL, x_cutT, x_comp, x_app, x_asg, x_aug, wipeE, List.length_map, cr, wipeE, g', len_T, zl, z]
    exact fin G h1
  · rw [hG] at h1
    subst h1
    obtain ⟨k, ek, hk⟩ := emod_nat ((ct.getD p.length 0).fdiv 16) h0
    have dv : dDiv (.int (ct.getD p.length 0)) (.int 16) = some (.int ((ct.getD p.length 0).fdiv 16)) := x_div (by decide +kernel)
    have md : dMod (.int ((ct.getD p.length 0).fdiv 16)) (.int (s : Nat)) = some (.int (k : Nat)) := by rw [x_mod (by omega), ek]
    have l0 : cLen [.tuple (([] : List Nat).map fun a : Nat => PyData.int (a : Int))] = some (.int 0) := rfl
    have z0 : ((0 : Int) > 0) = False := eq_false (by decide)
    refine ⟨_, rfl, ?_⟩
    unfold lyG
    simp (implicitDefEqProofs := false) only [x_run, x_out_nx, x_out_rt, x_out_er, x_seq, x_seq_nx, x_seq_rt, x_seq_er, x_seq_ct, x_seq_bk, x_ofR_ok, x_ofR_er, x_nx, x_bk, x_ct, x_set, x_setL, x_ret, x_drop, x_retN, x_if, x_raise, x_var, x_gv0, x_gvS, x_gvo0, x_gvoS, x_gb, x_gb0, x_gbO, x_gbS, x_c, x_op, x_cm, x_un, x_bf, x_isi, x_ix, x_ixO, x_ofO_some, x_anil, x_acons, x_tup, x_lst, x_eL, x_tb, x_nt, x_an, x_or, x_ent, x_ean, x_eor, x_eif, x_tT, x_tV, x_tY, x_call, x_callD, x_callK, x_cd1, x_cd2, x_cd3, x_cd4, x_st0, x_stS, x_stN, x_wh, x_for, x_iseq, x_ir1, x_ir2, x_add, x_sub, x_neg, x_dcmp, x_eqI, x_neI, x_absI, x_intI, x_gcdI, x_maxI, x_minI, x_lenL, x_lenT, x_ixL, x_ixT, x_at0, x_at1, x_sz0, x_sz1, x_sz2, x_sz3, x_gN, x_forN, x_for0, x_fB_nx, x_fB_ct, x_fB_bk, x_fB_rt, x_fB_er, x_iTT, x_iTL, x_iTI, x_iLT, x_iLL, x_iII, x_iBI, x_iSS, x_iBB, x_truB, x_itT, x_itL, x_try, RO.bind_ok, RO.bind_er, RO.pure_ok, List.set_cons_zero, List.set_cons_succ, List.cons_append, List.nil_append, if_true, if_false, ite_true, ite_false, reduceIte, Bool.false_eq_true, Bool.true_eq_false, Bool.not_true, Bool.not_false, x_len1, and_self, decide_eq_true_eq, decide_true, decide_false, eq_self, Bool.not_eq_true', decide_eq_false_iff_not, not_true_eq_false, not_false_eq_true, ne_eq, x_eqB, x_neB, x_intB, x_iIB, x_gT2, x_lLi, x_eTu, x_eTuO, x_eLeO, x_dSeqL, x_dSeqT, x_oN, x_oS, x_tI, x_sl, x_cutL, x_cutT, x_comp, x_app, x_asg, x_aug, wipeE, List.length_map, cr, wipeE, g', l0, z0, ea, ic, dv, md, z]
    exact fin [k] ⟨by simp, by simp, fun x hx => by rw [List.mem_singleton.mp hx]; exact hk⟩
theorem ly3_ok (hl : ct.length = 18) (h0 : 0 < s) (h4 : s ≤ 4) (m0 : 0 < m) (m3 : m ≤ 3) : ∃ l, ly3 (lyEnv x0 x5 x6 x7 x8 x9 x10 x11 c0 ct s m) = .rt (Lay.d l) ∧ l.Ok s := by
  obtain ⟨env', ef, gs, y7, y8, y11, rfl, hgl, hg⟩ := forGo_pre (gg := gN 7) (body := lyG) (fun k : Nat => PyData.int (0 + (k : Int))) (GI x0 x5 x9 x10 c0 ct s m (some (.fz (.list ((rats ct).map rt))))) (List.range m) [] [x0, some (.fz (.int (s : Nat))), some (.fz (.list (cds (c0 :: ct)))), some (.fz (.int (m : Nat))), some (.fz (.list ((rats ct).map rt))), x5, some (.own []), x7, x8, x9, x10, x11]
    (lyG_step hl h0 h4 m3) ⟨[], x7, x8, x11, rfl, rfl, fun g hg => by cases hg⟩
  have cr := rng1_ok (n := m) (by omega)
  have ef' : forGo (gN 7) lyG (rngItems 0 m) [x0, some (.fz (.int (s : Nat))), some (.fz (.list (cds (c0 :: ct)))), some (.fz (.int (m : Nat))), some (.fz (.list ((rats ct).map rt))), x5, some (.own []), x7, x8, x9, x10, x11] = _ := ef
  have hm : gs.length = m := by rw [hgl]; simp
  refine ⟨.gr gs, ?_, by omega, by omega, hg⟩
  unfold ly3
  simp (implicitDefEqProofs := false) only [x_run, x_out_nx, x_out_rt, x_out_er, x_seq, x_seq_nx, x_seq_rt, x_seq_er, x_seq_ct, x_seq_bk, x_ofR_ok, x_ofR_er, x_nx, x_bk, x_ct, x_set, x_setL, x_ret, x_drop, x_retN, x_if, x_raise, x_var, x_gv0, x_gvS, x_gvo0, x_gvoS, x_gb, x_gb0, x_gbO, x_gbS, x_c, x_op, x_cm, x_un, x_bf, x_isi, x_ix, x_ixO, x_ofO_some, x_anil, x_acons, x_tup, x_lst, x_eL, x_tb, x_nt, x_an, x_or, x_ent, x_ean, x_eor, x_eif, x_tT, x_tV, x_tY, x_call, x_callD, x_callK, x_cd1, x_cd2, x_cd3, x_cd4, x_st0, x_stS, x_stN, x_wh, x_for, x_iseq, x_ir1, x_ir2, x_add, x_sub, x_neg, x_dcmp, x_eqI, x_neI, x_absI, x_intI, x_gcdI, x_maxI, x_minI, x_lenL, x_lenT, x_ixL, x_ixT, x_at0, x_at1, x_sz0, x_sz1, x_sz2, x_sz3, x_gN, x_forN, x_for0, x_fB_nx, x_fB_ct, x_fB_bk, x_fB_rt, x_fB_er, x_iTT, x_iTL, x_iTI, x_iLT, x_iLL, x_iII, x_iBI, x_iSS, x_iBB, x_truB, x_itT, x_itL, x_try, RO.bind_ok, RO.bind_er, RO.pure_ok, List.set_cons_zero, List.set_cons_succ, List.cons_append, List.nil_append, if_true, if_false, ite_true, ite_false, reduceIte, Bool.false_eq_true, Bool.true_eq_false, Bool.not_true, Bool.not_false, x_len1, and_self, decide_eq_true_eq, decide_true, decide_false, eq_self, Bool.not_eq_true', decide_eq_false_iff_not, not_true_eq_false, not_false_eq_true, ne_eq, x_eqB, x_neB, x_intB, x_iIB, x_gT2, x_lLi, x_eTu, x_eTuO, x_eLeO, x_dSeqL, x_dSeqT, x_oN, x_oS, x_tI, x_sl, x_cutL, x_cutT, x_comp, x_app, x_asg, x_aug, wipeE, List.length_map, cr, ef']
  rfl
theorem ly4_ok (hl : ct.length = 18) (h0 : 0 < s) (h4 : s ≤ 4) : ∃ l, ly4 (lyEnv x0 x5 x6 x7 x8 x9 x10 x11 c0 ct s m) = .rt (Lay.d l) ∧ l.Ok s := by
  have hr : (rats ct).length = 18 := by rw [rats_len, hl]
  obtain ⟨k, ek, hk⟩ := emod_nat (c0.fdiv 18) h0
  obtain ⟨j, ej, hj⟩ := emod_nat (c0.fdiv 72) (m := 3) (by decide)
  have i0 : dIx (.list (cds (c0 :: ct))) (.int 0) = some (.int c0) := x_at0
  have d1 : dDiv (.int c0) (.int 18) = some (.int (c0.fdiv 18)) := x_div (by decide +kernel)
  have d2 : dDiv (.int c0) (.int 72) = some (.int (c0.fdiv 72)) := x_div (by decide +kernel)
  have m1 : dMod (.int (c0.fdiv 18)) (.int (s : Nat)) = some (.int (k : Nat)) := by rw [x_mod (by omega), ek]
  have m2 : dMod (.int (c0.fdiv 72)) (.int 3) = some (.int (j : Nat)) := by rw [x_mod (by decide)]; exact congrArg (fun z => some (PyData.int z)) ej
  have c : PD.cutD ((rats ct).map rt) none (some (1 + (k : Int))) = ((rats ct).take (1 + k)).map rt := by
    rw [List.map_take]
    exact cut_to (1 + k)
  have i5 : dIx (.list ((rats ct).map rt)) (.int 5) = some (rt ((rats ct).getD 5 (0, 1))) := ix_rats (k := 5) (by omega)
  refine ⟨.wi (1 + j) ((rats ct).take (1 + k)) ((rats ct).getD 5 (0, 1)), ?_, by omega, by omega, by rw [List.length_take, hr]; omega, by rw [List.length_take, hr]; omega, fun x hx => (rats_rt ct x (List.mem_of_mem_take hx)).mono (by decide), (rats_rt ct _ (getD_mem (by omega))).mono (by decide)⟩
  unfold ly4
  simp (implicitDefEqProofs := false) only [x_run, x_out_nx, x_out_rt, x_out_er, x_seq, x_seq_nx, x_seq_rt, x_seq_er, x_seq_ct, x_seq_bk, x_ofR_ok, x_ofR_er, x_nx, x_bk, x_ct, x_set, x_setL, x_ret, x_drop, x_retN, x_if, x_raise, x_var, x_gv0, x_gvS, x_gvo0, x_gvoS, x_gb, x_gb0, x_gbO, x_gbS, x_c, x_op, x_cm, x_un, x_bf, x_isi, x_ix, x_ixO, x_ofO_some, x_anil, x_acons, x_tup, x_lst, x_eL, x_tb, x_nt, x_an, x_or, x_ent, x_ean, x_eor, x_eif, x_tT, x_tV, x_tY, x_call, x_callD, x_callK, x_cd1, x_cd2, x_cd3, x_cd4, x_st0, x_stS, x_stN, x_wh, x_for, x_iseq, x_ir1, x_ir2, x_add, x_sub, x_neg, x_dcmp, x_eqI, x_neI, x_absI, x_intI, x_gcdI, x_maxI, x_minI, x_lenL, x_lenT, x_ixL, x_ixT, x_at0, x_at1, x_sz0, x_sz1, x_sz2, x_sz3, x_gN, x_forN, x_for0, x_fB_nx, x_fB_ct, x_fB_bk, x_fB_rt, x_fB_er, x_iTT, x_iTL, x_iTI, x_iLT, x_iLL, x_iII, x_iBI, x_iSS, x_iBB, x_truB, x_itT, x_itL, x_try, RO.bind_ok, RO.bind_er, RO.pure_ok, List.set_cons_zero, List.set_cons_succ, List.cons_append, List.nil_append, if_true, if_false, ite_true, ite_false, reduceIte, Bool.false_eq_true, Bool.true_eq_false, Bool.not_true, Bool.not_false, x_len1, and_self, decide_eq_true_eq, decide_true, decide_false, eq_self, Bool.not_eq_true', decide_eq_false_iff_not, not_true_eq_false, not_false_eq_true, ne_eq, x_eqB, x_neB, x_intB, x_iIB, x_gT2, x_lLi, x_eTu, x_eTuO, x_eLeO, x_dSeqL, x_dSeqT, x_oN, x_oS, x_tI, x_sl, x_cutL, x_cutT, x_comp, x_app, x_asg, x_aug, wipeE, List.length_map, i0, d1, d2, m1, m2, c, i5, x_sz4]
  rfl
end
theorem lawLayer_ok {r : Int} {s : Nat} (h0 : 0 < s) (h4 : s ≤ 4) : ∃ l, F__law_layer [.int r, .int s] = .ok (Lay.d l) ∧ l.Ok s := by
  obtain ⟨cs, ec, hl⟩ := codes_ok r
  match cs, ec, hl with
  | [], _, hl => cases hl
  | c0 :: ct, ec, hl =>
    have hl' : ct.length = 18 := by simpa using hl
    obtain ⟨k, ek, hk⟩ := emod_nat (c0.fdiv 6) (m := 3) (by decide)
    have i0 : dIx (.list (cds (c0 :: ct))) (.int 0) = some (.int c0) := x_at0
    have d1 : dDiv (.int c0) (.int 6) = some (.int (c0.fdiv 6)) := x_div (by decide +kernel)
    have m2 : dMod (.int (c0.fdiv 6)) (.int 3) = some (.int (k : Nat)) := by rw [x_mod (by decide)]; exact congrArg (fun z => some (PyData.int z)) ek
    have m6 : dMod (.int c0) (.int 6) = some (.int (c0 % 6)) := x_mod (by decide)
    have e1 : (1 : Int) + (k : Int) = ((1 + k : Nat) : Int) := by omega
    have rc := ratComp (cs := ct) (i := 10) (e := [some (.fz (.int r)), some (.fz (.int (s : Nat))), some (.fz (.list (cds (c0 :: ct)))), some (.fz (.int (1 + k : Nat))), none, none, none, none, none, none, none, none]) (by omega) (fun d => rfl)
    have it : dIter (.list (cds ct)) = .ok (cds ct) := rfl
    by_cases z1 : c0 % 6 < 2
    · obtain ⟨l, e, hO⟩ := ly1_ok (x0 := some (.fz (.int r))) (x5 := none) (x6 := none) (x7 := none) (x8 := none) (x9 := none) (x10 := none) (x11 := none) (c0 := c0) (m := 1 + k) hl' h4 (by omega) (by omega)
      refine ⟨l, ?_, hO⟩
      unfold F__law_layer
      rw [ly_eq]
      unfold lyT
      simp (implicitDefEqProofs := false) only [x_run, x_out_nx, x_out_rt, x_out_er, x_seq, x_seq_nx, x_seq_rt, x_seq_er, x_seq_ct, x_seq_bk, x_ofR_ok, x_ofR_er, x_nx, x_bk, x_ct, x_set, x_setL, x_ret, x_drop, x_retN, x_if, x_raise, x_var, x_gv0, x_gvS, x_gvo0, x_gvoS, x_gb, x_gb0, x_gbO, x_gbS, x_c, x_op, x_cm, x_un, x_bf, x_isi, x_ix, x_ixO, x_ofO_some, x_anil, x_acons, x_tup, x_lst, x_eL, x_tb, x_nt, x_an, x_or, x_ent, x_ean, x_eor, x_eif, x_tT, x_tV, x_tY, x_call, x_callD, x_callK, x_cd1, x_cd2, x_cd3, x_cd4, x_st0, x_stS, x_stN, x_wh, x_for, x_iseq, x_ir1, x_ir2, x_add, x_sub, x_neg, x_dcmp, x_eqI, x_neI, x_absI, x_intI, x_gcdI, x_maxI, x_minI, x_lenL, x_lenT, x_ixL, x_ixT, x_at0, x_at1, x_sz0, x_sz1, x_sz2, x_sz3, x_gN, x_forN, x_for0, x_fB_nx, x_fB_ct, x_fB_bk, x_fB_rt, x_fB_er, x_iTT, x_iTL, x_iTI, x_iLT, x_iLL, x_iII, x_iBI, x_iSS, x_iBB, x_truB, x_itT, x_itL, x_try, RO.bind_ok, RO.bind_er, RO.pure_ok, List.set_cons_zero, List.set_cons_succ, List.cons_append, List.nil_append, if_true, if_false, ite_true, ite_false, reduceIte, Bool.false_eq_true, Bool.true_eq_false, Bool.not_true, Bool.not_false, x_len1, and_self, decide_eq_true_eq, decide_true, decide_false, eq_self, Bool.not_eq_true', decide_eq_false_iff_not, not_true_eq_false, not_false_eq_true, ne_eq, x_eqB, x_neB, x_intB, x_iIB, x_gT2, x_lLi, x_eTu, x_eTuO, x_eLeO, x_dSeqL, x_dSeqT, x_oN, x_oS, x_tI, x_sl, x_cutL, x_cutT, x_comp, x_app, x_asg, x_aug, wipeE, List.length_map, ec, i0, d1, m2, e1, cut1, it, wipeE, rc, m6, eq_true z1, e]
    · by_cases z2 : c0 % 6 < 4
      · obtain ⟨l, e, hO⟩ := ly2_ok (x0 := some (.fz (.int r))) (x5 := none) (x6 := none) (x7 := none) (x8 := none) (x9 := none) (x10 := none) (x11 := none) (c0 := c0) (m := 1 + k) hl' h4
        refine ⟨l, ?_, hO⟩
        unfold F__law_layer
        rw [ly_eq]
        unfold lyT
        simp (implicitDefEqProofs := false) only [x_run, x_out_nx, x_out_rt, x_out_er, x_seq, x_seq_nx, x_seq_rt, x_seq_er, x_seq_ct, x_seq_bk, x_ofR_ok, x_ofR_er, x_nx, x_bk, x_ct, x_set, x_setL, x_ret, x_drop, x_retN, x_if, x_raise, x_var, x_gv0, x_gvS, x_gvo0, x_gvoS, x_gb, x_gb0, x_gbO, x_gbS, x_c, x_op, x_cm, x_un, x_bf, x_isi, x_ix, x_ixO, x_ofO_some, x_anil, x_acons, x_tup, x_lst, x_eL, x_tb, x_nt, x_an, x_or, x_ent, x_ean, x_eor, x_eif, x_tT, x_tV, x_tY, x_call, x_callD, x_callK, x_cd1, x_cd2, x_cd3, x_cd4, x_st0, x_stS, x_stN, x_wh, x_for, x_iseq, x_ir1, x_ir2, x_add, x_sub, x_neg, x_dcmp, x_eqI, x_neI, x_absI, x_intI, x_gcdI, x_maxI, x_minI, x_lenL, x_lenT, x_ixL, x_ixT, x_at0, x_at1, x_sz0, x_sz1, x_sz2, x_sz3, x_gN, x_forN, x_for0, x_fB_nx, x_fB_ct, x_fB_bk, x_fB_rt, x_fB_er, x_iTT, x_iTL, x_iTI, x_iLT, x_iLL, x_iII, x_iBI, x_iSS, x_iBB, x_truB, x_itT, x_itL, x_try, RO.bind_ok, RO.bind_er, RO.pure_ok, List.set_cons_zero, List.set_cons_succ, List.cons_append, List.nil_append, if_true, if_false, ite_true, ite_false, reduceIte, Bool.false_eq_true, Bool.true_eq_false, Bool.not_true, Bool.not_false, x_len1, and_self, decide_eq_true_eq, decide_true, decide_false, eq_self, Bool.not_eq_true', decide_eq_false_iff_not, not_true_eq_false, not_false_eq_true, ne_eq, x_eqB, x_neB, x_intB, x_iIB, x_gT2, x_lLi, x_eTu, x_eTuO, x_eLeO, x_dSeqL, x_dSeqT, x_oN, x_oS, x_tI, x_sl, x_cutL, x_cutT, x_comp, x_app, x_asg, x_aug, wipeE, List.length_map, ec, i0, d1, m2, e1, cut1, it, wipeE, rc, m6, eq_false z1, eq_true z2, e]
      · by_cases z3 : c0 % 6 = 4
        · obtain ⟨l, e, hO⟩ := ly3_ok (x0 := some (.fz (.int r))) (x5 := none) (x6 := none) (x7 := none) (x8 := none) (x9 := none) (x10 := none) (x11 := none) (c0 := c0) (m := 1 + k) hl' h0 h4 (by omega) (by omega)
          refine ⟨l, ?_, hO⟩
          unfold F__law_layer
          rw [ly_eq]
          unfold lyT
          simp (implicitDefEqProofs := false) only [x_run, x_out_nx, x_out_rt, x_out_er, x_seq, x_seq_nx, x_seq_rt, x_seq_er, x_seq_ct, x_seq_bk, x_ofR_ok, x_ofR_er, x_nx, x_bk, x_ct, x_set, x_setL, x_ret, x_drop, x_retN, x_if, x_raise, x_var, x_gv0, x_gvS, x_gvo0, x_gvoS, x_gb, x_gb0, x_gbO, x_gbS, x_c, x_op, x_cm, x_un, x_bf, x_isi, x_ix, x_ixO, x_ofO_some, x_anil, x_acons, x_tup, x_lst, x_eL, x_tb, x_nt, x_an, x_or, x_ent, x_ean, x_eor, x_eif, x_tT, x_tV, x_tY, x_call, x_callD, x_callK, x_cd1, x_cd2, x_cd3, x_cd4, x_st0, x_stS, x_stN, x_wh, x_for, x_iseq, x_ir1, x_ir2, x_add, x_sub, x_neg, x_dcmp, x_eqI, x_neI, x_absI, x_intI, x_gcdI, x_maxI, x_minI, x_lenL, x_lenT, x_ixL, x_ixT, x_at0, x_at1, x_sz0, x_sz1, x_sz2, x_sz3, x_gN, x_forN, x_for0, x_fB_nx, x_fB_ct, x_fB_bk, x_fB_rt, x_fB_er, x_iTT, x_iTL, x_iTI, x_iLT, x_iLL, x_iII, x_iBI, x_iSS, x_iBB, x_truB, x_itT, x_itL, x_try, RO.bind_ok, RO.bind_er, RO.pure_ok, List.set_cons_zero, List.set_cons_succ, List.cons_append, List.nil_append, if_true, if_false, ite_true, ite_false, reduceIte, Bool.false_eq_true, Bool.true_eq_false, Bool.not_true, Bool.not_false, x_len1, and_self, decide_eq_true_eq, decide_true, decide_false, eq_self, Bool.not_eq_true', decide_eq_false_iff_not, not_true_eq_false, not_false_eq_true, ne_eq, x_eqB, x_neB, x_intB, x_iIB, x_gT2, x_lLi, x_eTu, x_eTuO, x_eLeO, x_dSeqL, x_dSeqT, x_oN, x_oS, x_tI, x_sl, x_cutL, x_cutT, x_comp, x_app, x_asg, x_aug, wipeE, List.length_map, ec, i0, d1, m2, e1, cut1, it, wipeE, rc, m6, eq_false z1, eq_false z2, eq_true z3, e]
        · obtain ⟨l, e, hO⟩ := ly4_ok (x0 := some (.fz (.int r))) (x5 := none) (x6 := none) (x7 := none) (x8 := none) (x9 := none) (x10 := none) (x11 := none) (c0 := c0) (m := 1 + k) hl' h0 h4
          refine ⟨l, ?_, hO⟩
          unfold F__law_layer
          rw [ly_eq]
          unfold lyT
          simp (implicitDefEqProofs := false) only [x_run, x_out_nx, x_out_rt, x_out_er, x_seq, x_seq_nx, x_seq_rt, x_seq_er, x_seq_ct, x_seq_bk, x_ofR_ok, x_ofR_er, x_nx, x_bk, x_ct, x_set, x_setL, x_ret, x_drop, x_retN, x_if, x_raise, x_var, x_gv0, x_gvS, x_gvo0, x_gvoS, x_gb, x_gb0, x_gbO, x_gbS, x_c, x_op, x_cm, x_un, x_bf, x_isi, x_ix, x_ixO, x_ofO_some, x_anil, x_acons, x_tup, x_lst, x_eL, x_tb, x_nt, x_an, x_or, x_ent, x_ean, x_eor, x_eif, x_tT, x_tV, x_tY, x_call, x_callD, x_callK, x_cd1, x_cd2, x_cd3, x_cd4, x_st0, x_stS, x_stN, x_wh, x_for, x_iseq, x_ir1, x_ir2, x_add, x_sub, x_neg, x_dcmp, x_eqI, x_neI, x_absI, x_intI, x_gcdI, x_maxI, x_minI, x_lenL, x_lenT, x_ixL, x_ixT, x_at0, x_at1, x_sz0, x_sz1, x_sz2, x_sz3, x_gN, x_forN, x_for0, x_fB_nx, x_fB_ct, x_fB_bk, x_fB_rt, x_fB_er, x_iTT, x_iTL, x_iTI, x_iLT, x_iLL, x_iII, x_iBI, x_iSS, x_iBB, x_truB, x_itT, x_itL, x_try, RO.bind_ok, RO.bind_er, RO.pure_ok, List.set_cons_zero, List.set_cons_succ, List.cons_append, List.nil_append, if_true, if_false, ite_true, ite_false, reduceIte, Bool.false_eq_true, Bool.true_eq_false, Bool.not_true, Bool.not_false, x_len1, and_self, decide_eq_true_eq, decide_true, decide_false, eq_self, Bool.not_eq_true', decide_eq_false_iff_not, not_true_eq_false, not_false_eq_true, ne_eq, x_eqB, x_neB, x_intB, x_iIB, x_gT2, x_lLi, x_eTu, x_eTuO, x_eLeO, x_dSeqL, x_dSeqT, x_oN, x_oS, x_tI, x_sl, x_cutL, x_cutT, x_comp, x_app, x_asg, x_aug, wipeE, List.length_map, ec, i0, d1, m2, e1, cut1, it, wipeE, rc, m6, eq_false z1, eq_false z2, eq_false z3, e]
end KM
set_option Elab.async false
set_option linter.all false
set_option maxRecDepth 100000
set_option maxHeartbeats 4000000
namespace KM
open PySem PySem.Spec PyProof.Rows L2 PD
def Lo (x : Int × Int) : Prop := 0 < x.2 ∧ Int.gcd x.1 x.2 = 1
theorem all_yes {α : Type} : ∀ xs : List α, (xs.all fun _ => true) = true
  | [] => rfl
  | _ :: xs => all_yes xs
theorem ratio_rt {x : Int × Int} (h : 0 < x.2) (k : Int.gcd x.1 x.2 = 1) : F_is_ratio [rt x] = .ok (.bool true) := by
  show F_is_ratio [.tuple [.int x.1, .int x.2]] = _
  have lT : cLen [.tuple [.int x.1, .int x.2]] = some (.int 2) := rfl
  have z : x.2 ≥ 1 := by omega
  have g : (Int.gcd x.1 x.2 : Int) = 1 := by omega
  unfold F_is_ratio B_is_ratio
  simp (implicitDefEqProofs := false) only [x_run, x_out_nx, x_out_rt, x_out_er, x_seq, x_seq_nx, x_seq_rt, x_seq_er, x_seq_ct, x_seq_bk, x_ofR_ok, x_ofR_er, x_nx, x_bk, x_ct, x_set, x_setL, x_ret, x_drop, x_retN, x_if, x_raise, x_var, x_gv0, x_gvS, x_gvo0, x_gvoS, x_gb, x_gb0, x_gbO, x_gbS, x_c, x_op, x_cm, x_un, x_bf, x_isi, x_ix, x_ixO, x_ofO_some, x_anil, x_acons, x_tup, x_lst, x_eL, x_tb, x_nt, x_an, x_or, x_ent, x_ean, x_eor, x_eif, x_tT, x_tV, x_tY, x_call, x_callD, x_callK, x_cd1, x_cd2, x_cd3, x_cd4, x_st0, x_stS, x_stN, x_wh, x_for, x_iseq, x_ir1, x_ir2, x_add, x_sub, x_neg, x_dcmp, x_eqI, x_neI, x_absI, x_intI, x_gcdI, x_maxI, x_minI, x_lenL, x_lenT, x_ixL, x_ixT, x_at0, x_at1, x_sz0, x_sz1, x_sz2, x_sz3, x_gN, x_forN, x_for0, x_fB_nx, x_fB_ct, x_fB_bk, x_fB_rt, x_fB_er, x_iTT, x_iTL, x_iTI, x_iLT, x_iLL, x_iII, x_iBI, x_iSS, x_iBB, x_truB, x_itT, x_itL, x_try, RO.bind_ok, RO.bind_er, RO.pure_ok, List.set_cons_zero, List.set_cons_succ, List.cons_append, List.nil_append, if_true, if_false, ite_true, ite_false, reduceIte, Bool.false_eq_true, Bool.true_eq_false, Bool.not_true, Bool.not_false, x_len1, and_self, decide_eq_true_eq, decide_true, decide_false, eq_self, Bool.not_eq_true', decide_eq_false_iff_not, not_true_eq_false, not_false_eq_true, ne_eq, x_eqB, x_neB, x_intB, x_iIB, x_gT2, x_lLi, x_eTu, x_eTuO, x_eLeO, x_dSeqL, x_dSeqT, x_oN, x_oS, x_tI, x_sl, x_cutL, x_cutT, x_comp, x_app, x_asg, x_aug, wipeE, List.length_map, j10, lT, isInt_i, gcdOk_sm, eq_true z, eq_true g]
theorem Rts.lo {n : Nat} {v : Row} (h : Rts n v) : ∀ x ∈ v, Lo x := fun x hx => ⟨(h x hx).1, (h x hx).2.1⟩
theorem len_rw {v : Row} : cLen [rw_ v] = some (.int (v.length : Int)) := by
  show some (PyData.int ((v.map rt).length : Int)) = _
  rw [List.length_map]
theorem vec_row {v : Row} {i : Int} (h : ∀ x ∈ v, Lo x) : F_is_vector [rw_ v, .int i] = .ok (.bool (decide ((v.length : Int) = i))) := by
  have g := anB_all (g := gN 2) (f := eCall 1 F_is_ratio (aCons (eVar 2) aNil)) (env := [some (.fz (rw_ v)), some (.fz (.int i)), none]) (fun x : Int × Int => rt x) (fun _ => true) v fun x hx => by
    refine ⟨_, rfl, ?_⟩
    simp (implicitDefEqProofs := false) only [x_run, x_out_nx, x_out_rt, x_out_er, x_seq, x_seq_nx, x_seq_rt, x_seq_er, x_seq_ct, x_seq_bk, x_ofR_ok, x_ofR_er, x_nx, x_bk, x_ct, x_set, x_setL, x_ret, x_drop, x_retN, x_if, x_raise, x_var, x_gv0, x_gvS, x_gvo0, x_gvoS, x_gb, x_gb0, x_gbO, x_gbS, x_c, x_op, x_cm, x_un, x_bf, x_isi, x_ix, x_ixO, x_ofO_some, x_anil, x_acons, x_tup, x_lst, x_eL, x_tb, x_nt, x_an, x_or, x_ent, x_ean, x_eor, x_eif, x_tT, x_tV, x_tY, x_call, x_callD, x_callK, x_cd1, x_cd2, x_cd3, x_cd4, x_st0, x_stS, x_stN, x_wh, x_for, x_iseq, x_ir1, x_ir2, x_add, x_sub, x_neg, x_dcmp, x_eqI, x_neI, x_absI, x_intI, x_gcdI, x_maxI, x_minI, x_lenL, x_lenT, x_ixL, x_ixT, x_at0, x_at1, x_sz0, x_sz1, x_sz2, x_sz3, x_gN, x_forN, x_for0, x_fB_nx, x_fB_ct, x_fB_bk, x_fB_rt, x_fB_er, x_iTT, x_iTL, x_iTI, x_iLT, x_iLL, x_iII, x_iBI, x_iSS, x_iBB, x_truB, x_itT, x_itL, x_try, RO.bind_ok, RO.bind_er, RO.pure_ok, List.set_cons_zero, List.set_cons_succ, List.cons_append, List.nil_append, if_true, if_false, ite_true, ite_false, reduceIte, Bool.false_eq_true, Bool.true_eq_false, Bool.not_true, Bool.not_false, x_len1, and_self, decide_eq_true_eq, decide_true, decide_false, eq_self, Bool.not_eq_true', decide_eq_false_iff_not, not_true_eq_false, not_false_eq_true, ne_eq, x_eqB, x_neB, x_intB, x_iIB, x_gT2, x_lLi, x_eTu, x_eTuO, x_eLeO, x_dSeqL, x_dSeqT, x_oN, x_oS, x_tI, x_sl, x_cutL, x_cutT, x_comp, x_app, x_asg, x_aug, wipeE, List.length_map, ratio_rt (h x hx).1 (h x hx).2]
  have iT : isiO "tuple" (rw_ v) = some (.bool true) := rfl
  have iw : dIter (rw_ v) = .ok (v.map rt) := rfl
  by_cases z : (v.length : Int) = i
  · unfold F_is_vector B_is_vector
    simp (implicitDefEqProofs := false) only [x_run, x_out_nx, x_out_rt, x_out_er, x_seq, x_seq_nx, x_seq_rt, x_seq_er, x_seq_ct, x_seq_bk, x_ofR_ok, x_ofR_er, x_nx, x_bk, x_ct, x_set, x_setL, x_ret, x_drop, x_retN, x_if, x_raise, x_var, x_gv0, x_gvS, x_gvo0, x_gvoS, x_gb, x_gb0, x_gbO, x_gbS, x_c, x_op, x_cm, x_un, x_bf, x_isi, x_ix, x_ixO, x_ofO_some, x_anil, x_acons, x_tup, x_lst, x_eL, x_tb, x_nt, x_an, x_or, x_ent, x_ean, x_eor, x_eif, x_tT, x_tV, x_tY, x_call, x_callD, x_callK, x_cd1, x_cd2, x_cd3, x_cd4, x_st0, x_stS, x_stN, x_wh, x_for, x_iseq, x_ir1, x_ir2, x_add, x_sub, x_neg, x_dcmp, x_eqI, x_neI, x_absI, x_intI, x_gcdI, x_maxI, x_minI, x_lenL, x_lenT, x_ixL, x_ixT, x_at0, x_at1, x_sz0, x_sz1, x_sz2, x_sz3, x_gN, x_forN, x_for0, x_fB_nx, x_fB_ct, x_fB_bk, x_fB_rt, x_fB_er, x_iTT, x_iTL, x_iTI, x_iLT, x_iLL, x_iII, x_iBI, x_iSS, x_iBB, x_truB, x_itT, x_itL, x_try, RO.bind_ok, RO.bind_er, RO.pure_ok, List.set_cons_zero, List.set_cons_succ, List.cons_append, List.nil_append, if_true, if_false, ite_true, ite_false, reduceIte, Bool.false_eq_true, Bool.true_eq_false, Bool.not_true, Bool.not_false, x_len1, and_self, decide_eq_true_eq, decide_true, decide_false, eq_self, Bool.not_eq_true', decide_eq_false_iff_not, not_true_eq_false, not_false_eq_true, ne_eq, x_eqB, x_neB, x_intB, x_iIB, x_gT2, x_lLi, x_eTu, x_eTuO, x_eLeO, x_dSeqL, x_dSeqT, x_oN, x_oS, x_tI, x_sl, x_cutL, x_cutT, x_comp, x_app, x_asg, x_aug, wipeE, List.length_map, iT, isN, len_rw, eq_true z, iw, x_an2, wipeE, g, all_yes]
  · unfold F_is_vector B_is_vector
    simp (implicitDefEqProofs := false) only [x_run, x_out_nx, x_out_rt, x_out_er, x_seq, x_seq_nx, x_seq_rt, x_seq_er, x_seq_ct, x_seq_bk, x_ofR_ok, x_ofR_er, x_nx, x_bk, x_ct, x_set, x_setL, x_ret, x_drop, x_retN, x_if, x_raise, x_var, x_gv0, x_gvS, x_gvo0, x_gvoS, x_gb, x_gb0, x_gbO, x_gbS, x_c, x_op, x_cm, x_un, x_bf, x_isi, x_ix, x_ixO, x_ofO_some, x_anil, x_acons, x_tup, x_lst, x_eL, x_tb, x_nt, x_an, x_or, x_ent, x_ean, x_eor, x_eif, x_tT, x_tV, x_tY, x_call, x_callD, x_callK, x_cd1, x_cd2, x_cd3, x_cd4, x_st0, x_stS, x_stN, x_wh, x_for, x_iseq, x_ir1, x_ir2, x_add, x_sub, x_neg, x_dcmp, x_eqI, x_neI, x_absI, x_intI, x_gcdI, x_maxI, x_minI, x_lenL, x_lenT, x_ixL, x_ixT, x_at0, x_at1, x_sz0, x_sz1, x_sz2, x_sz3, x_gN, x_forN, x_for0, x_fB_nx, x_fB_ct, x_fB_bk, x_fB_rt, x_fB_er, x_iTT, x_iTL, x_iTI, x_iLT, x_iLL, x_iII, x_iBI, x_iSS, x_iBB, x_truB, x_itT, x_itL, x_try, RO.bind_ok, RO.bind_er, RO.pure_ok, List.set_cons_zero, List.set_cons_succ, List.cons_append, List.nil_append, if_true, if_false, ite_true, ite_false, reduceIte, Bool.false_eq_true, Bool.true_eq_false, Bool.not_true, Bool.not_false, x_len1, and_self, decide_eq_true_eq, decide_true, decide_false, eq_self, Bool.not_eq_true', decide_eq_false_iff_not, not_true_eq_false, not_false_eq_true, ne_eq, x_eqB, x_neB, x_intB, x_iIB, x_gT2, x_lLi, x_eTu, x_eTuO, x_eLeO, x_dSeqL, x_dSeqT, x_oN, x_oS, x_tI, x_sl, x_cutL, x_cutT, x_comp, x_app, x_asg, x_aug, wipeE, List.length_map, iT, isN, len_rw, eq_false z]
theorem fine_rt40 {n : Nat} {x : Int × Int} (h : Rt 40 x.1 x.2) : Fine (n + 1) (rt x) := fine_pair (.int _ (h.2.2.1.mono (by decide))) (.int _ (h.2.2.2.mono (by decide)))
theorem fine_rw {n : Nat} {v : Row} (h : Rts 40 v) (l : v.length ≤ 100) : Fine (n + 2) (rw_ v) := .tup _ (by rw [List.length_map]; exact l) fun x hx => by
  obtain ⟨y, hy, rfl⟩ := List.mem_map.mp hx
  exact fine_rt40 (h y hy)
theorem fine_mx {n s : Nat} {M : List Row} (h : ∀ r ∈ M, r.length = s ∧ Rts 40 r) (l : M.length ≤ 100) (l2 : s ≤ 100) : Fine (n + 3) (mx M) := .tup _ (by rw [List.length_map]; exact l) fun x hx => by
  obtain ⟨y, hy, rfl⟩ := List.mem_map.mp hx
  exact fine_rw (h y hy).2 (by rw [(h y hy).1]; exact l2)
theorem vec_rowN {v : Row} (h : ∀ x ∈ v, Lo x) : F_is_vector [rw_ v, .none] = .ok (.bool true) := by
  have g := anB_all (g := gN 2) (f := eCall 1 F_is_ratio (aCons (eVar 2) aNil)) (env := [some (.fz (rw_ v)), some (.fz .none), none]) (fun x : Int × Int => rt x) (fun _ => true) v fun x hx => by
    refine ⟨_, rfl, ?_⟩
    simp (implicitDefEqProofs := false) only [x_run, x_out_nx, x_out_rt, x_out_er, x_seq, x_seq_nx, x_seq_rt, x_seq_er, x_seq_ct, x_seq_bk, x_ofR_ok, x_ofR_er, x_nx, x_bk, x_ct, x_set, x_setL, x_ret, x_drop, x_retN, x_if, x_raise, x_var, x_gv0, x_gvS, x_gvo0, x_gvoS, x_gb, x_gb0, x_gbO, x_gbS, x_c, x_op, x_cm, x_un, x_bf, x_isi, x_ix, x_ixO, x_ofO_some, x_anil, x_acons, x_tup, x_lst, x_eL, x_tb, x_nt, x_an, x_or, x_ent, x_ean, x_eor, x_eif, x_tT, x_tV, x_tY, x_call, x_callD, x_callK, x_cd1, x_cd2, x_cd3, x_cd4, x_st0, x_stS, x_stN, x_wh, x_for, x_iseq, x_ir1, x_ir2, x_add, x_sub, x_neg, x_dcmp, x_eqI, x_neI, x_absI, x_intI, x_gcdI, x_maxI, x_minI, x_lenL, x_lenT, x_ixL, x_ixT, x_at0, x_at1, x_sz0, x_sz1, x_sz2, x_sz3, x_gN, x_forN, x_for0, x_fB_nx, x_fB_ct, x_fB_bk, x_fB_rt, x_fB_er, x_iTT, x_iTL, x_iTI, x_iLT, x_iLL, x_iII, x_iBI, x_iSS, x_iBB, x_truB, x_itT, x_itL, x_try, RO.bind_ok, RO.bind_er, RO.pure_ok, List.set_cons_zero, List.set_cons_succ, List.cons_append, List.nil_append, if_true, if_false, ite_true, ite_false, reduceIte, Bool.false_eq_true, Bool.true_eq_false, Bool.not_true, Bool.not_false, x_len1, and_self, decide_eq_true_eq, decide_true, decide_false, eq_self, Bool.not_eq_true', decide_eq_false_iff_not, not_true_eq_false, not_false_eq_true, ne_eq, x_eqB, x_neB, x_intB, x_iIB, x_gT2, x_lLi, x_eTu, x_eTuO, x_eLeO, x_dSeqL, x_dSeqT, x_oN, x_oS, x_tI, x_sl, x_cutL, x_cutT, x_comp, x_app, x_asg, x_aug, wipeE, List.length_map, ratio_rt (h x hx).1 (h x hx).2]
  have iT : isiO "tuple" (rw_ v) = some (.bool true) := rfl
  have iw : dIter (rw_ v) = .ok (v.map rt) := rfl
  have isNn : dIsN .none .none = some (.bool false) := rfl
  unfold F_is_vector B_is_vector
  simp (implicitDefEqProofs := false) only [x_run, x_out_nx, x_out_rt, x_out_er, x_seq, x_seq_nx, x_seq_rt, x_seq_er, x_seq_ct, x_seq_bk, x_ofR_ok, x_ofR_er, x_nx, x_bk, x_ct, x_set, x_setL, x_ret, x_drop, x_retN, x_if, x_raise, x_var, x_gv0, x_gvS, x_gvo0, x_gvoS, x_gb, x_gb0, x_gbO, x_gbS, x_c, x_op, x_cm, x_un, x_bf, x_isi, x_ix, x_ixO, x_ofO_some, x_anil, x_acons, x_tup, x_lst, x_eL, x_tb, x_nt, x_an, x_or, x_ent, x_ean, x_eor, x_eif, x_tT, x_tV, x_tY, x_call, x_callD, x_callK, x_cd1, x_cd2, x_cd3, x_cd4, x_st0, x_stS, x_stN, x_wh, x_for, x_iseq, x_ir1, x_ir2, x_add, x_sub, x_neg, x_dcmp, x_eqI, x_neI, x_absI, x_intI, x_gcdI, x_maxI, x_minI, x_lenL, x_lenT, x_ixL, x_ixT, x_at0, x_at1, x_sz0, x_sz1, x_sz2, x_sz3, x_gN, x_forN, x_for0, x_fB_nx, x_fB_ct, x_fB_bk, x_fB_rt, x_fB_er, x_iTT, x_iTL, x_iTI, x_iLT, x_iLL, x_iII, x_iBI, x_iSS, x_iBB, x_truB, x_itT, x_itL, x_try, RO.bind_ok, RO.bind_er, RO.pure_ok, List.set_cons_zero, List.set_cons_succ, List.cons_append, List.nil_append, if_true, if_false, ite_true, ite_false, reduceIte, Bool.false_eq_true, Bool.true_eq_false, Bool.not_true, Bool.not_false, x_len1, and_self, decide_eq_true_eq, decide_true, decide_false, eq_self, Bool.not_eq_true', decide_eq_false_iff_not, not_true_eq_false, not_false_eq_true, ne_eq, x_eqB, x_neB, x_intB, x_iIB, x_gT2, x_lLi, x_eTu, x_eTuO, x_eLeO, x_dSeqL, x_dSeqT, x_oN, x_oS, x_tI, x_sl, x_cutL, x_cutT, x_comp, x_app, x_asg, x_aug, wipeE, List.length_map, iT, isNn, iw, x_an2, wipeE, g, all_yes]
theorem mat_ok {s : Nat} {M : List Row} (h : ∀ r ∈ M, r.length = s ∧ Rts 40 r) (l0 : 0 < M.length) (l : M.length ≤ 100) (l2 : s ≤ 100) : F_is_matrix [mx M, .none, .none] = .ok (.bool true) := by
  cases M with
  | nil => cases l0
  | cons r0 M0 =>
    have hr0 := h r0 (.head _)
    have g := anB_all (g := gN 4) (f := eCall 2 F_is_vector (aCons (eVar 4) (aCons (eVar 3) aNil))) (env := [some (.fz (mx (r0 :: M0))), some (.fz .none), some (.fz .none), some (.fz (.int (s : Nat))), none]) (fun r : Row => rw_ r) (fun _ => true) (r0 :: M0) fun r hr => by
      refine ⟨_, rfl, ?_⟩
      have v := vec_row (i := (s : Nat)) (Rts.lo (h r hr).2)
      rw [decide_eq_true (by rw [(h r hr).1])] at v
      simp (implicitDefEqProofs := false) only [x_run, x_out_nx, x_out_rt, x_out_er, x_seq, x_seq_nx, x_seq_rt, x_seq_er, x_seq_ct, x_seq_bk, x_ofR_ok, x_ofR_er, x_nx, x_bk, x_ct, x_set, x_setL, x_ret, x_drop, x_retN, x_if, x_raise, x_var, x_gv0, x_gvS, x_gvo0, x_gvoS, x_gb, x_gb0, x_gbO, x_gbS, x_c, x_op, x_cm, x_un, x_bf, x_isi, x_ix, x_ixO, x_ofO_some, x_anil, x_acons, x_tup, x_lst, x_eL, x_tb, x_nt, x_an, x_or, x_ent, x_ean, x_eor, x_eif, x_tT, x_tV, x_tY, x_call, x_callD, x_callK, x_cd1, x_cd2, x_cd3, x_cd4, x_st0, x_stS, x_stN, x_wh, x_for, x_iseq, x_ir1, x_ir2, x_add, x_sub, x_neg, x_dcmp, x_eqI, x_neI, x_absI, x_intI, x_gcdI, x_maxI, x_minI, x_lenL, x_lenT, x_ixL, x_ixT, x_at0, x_at1, x_sz0, x_sz1, x_sz2, x_sz3, x_gN, x_forN, x_for0, x_fB_nx, x_fB_ct, x_fB_bk, x_fB_rt, x_fB_er, x_iTT, x_iTL, x_iTI, x_iLT, x_iLL, x_iII, x_iBI, x_iSS, x_iBB, x_truB, x_itT, x_itL, x_try, RO.bind_ok, RO.bind_er, RO.pure_ok, List.set_cons_zero, List.set_cons_succ, List.cons_append, List.nil_append, if_true, if_false, ite_true, ite_false, reduceIte, Bool.false_eq_true, Bool.true_eq_false, Bool.not_true, Bool.not_false, x_len1, and_self, decide_eq_true_eq, decide_true, decide_false, eq_self, Bool.not_eq_true', decide_eq_false_iff_not, not_true_eq_false, not_false_eq_true, ne_eq, x_eqB, x_neB, x_intB, x_iIB, x_gT2, x_lLi, x_eTu, x_eTuO, x_eLeO, x_dSeqL, x_dSeqT, x_oN, x_oS, x_tI, x_sl, x_cutL, x_cutT, x_comp, x_app, x_asg, x_aug, wipeE, List.length_map, v]
    have f : Fine 3 (mx (r0 :: M0)) := fine_mx h l l2
    have e := eq_nil (xs := (r0 :: M0).map rw_) f (by decide)
    have iT : isiO "tuple" (mx (r0 :: M0)) = some (.bool true) := rfl
    have iT2 : isiO "tuple" (rw_ r0) = some (.bool true) := rfl
    have isNn : dIsN .none .none = some (.bool false) := rfl
    have e' : dEq (mx (r0 :: M0)) (.tuple []) = some (.bool false) := e
    have i0 : dIx (mx (r0 :: M0)) (.int 0) = some (rw_ r0) := x_at0
    have iw : dIter (mx (r0 :: M0)) = .ok ((r0 :: M0).map rw_) := rfl
    have lw : cLen [rw_ r0] = some (.int (s : Nat)) := by rw [len_rw, hr0.1]
    unfold F_is_matrix B_is_matrix
    simp (implicitDefEqProofs := false) only [x_run, x_out_nx, x_out_rt, x_out_er, x_seq, x_seq_nx, x_seq_rt, x_seq_er, x_seq_ct, x_seq_bk, x_ofR_ok, x_ofR_er, x_nx, x_bk, x_ct, x_set, x_setL, x_ret, x_drop, x_retN, x_if, x_raise, x_var, x_gv0, x_gvS, x_gvo0, x_gvoS, x_gb, x_gb0, x_gbO, x_gbS, x_c, x_op, x_cm, x_un, x_bf, x_isi, x_ix, x_ixO, x_ofO_some, x_anil, x_acons, x_tup, x_lst, x_eL, x_tb, x_nt, x_an, x_or, x_ent, x_ean, x_eor, x_eif, x_tT, x_tV, x_tY, x_call, x_callD, x_callK, x_cd1, x_cd2, x_cd3, x_cd4, x_st0, x_stS, x_stN, x_wh, x_for, x_iseq, x_ir1, x_ir2, x_add, x_sub, x_neg, x_dcmp, x_eqI, x_neI, x_absI, x_intI, x_gcdI, x_maxI, x_minI, x_lenL, x_lenT, x_ixL, x_ixT, x_at0, x_at1, x_sz0, x_sz1, x_sz2, x_sz3, x_gN, x_forN, x_for0, x_fB_nx, x_fB_ct, x_fB_bk, x_fB_rt, x_fB_er, x_iTT, x_iTL, x_iTI, x_iLT, x_iLL, x_iII, x_iBI, x_iSS, x_iBB, x_truB, x_itT, x_itL, x_try, RO.bind_ok, RO.bind_er, RO.pure_ok, List.set_cons_zero, List.set_cons_succ, List.cons_append, List.nil_append, if_true, if_false, ite_true, ite_false, reduceIte, Bool.false_eq_true, Bool.true_eq_false, Bool.not_true, Bool.not_false, x_len1, and_self, decide_eq_true_eq, decide_true, decide_false, eq_self, Bool.not_eq_true', decide_eq_false_iff_not, not_true_eq_false, not_false_eq_true, ne_eq, x_eqB, x_neB, x_intB, x_iIB, x_gT2, x_lLi, x_eTu, x_eTuO, x_eLeO, x_dSeqL, x_dSeqT, x_oN, x_oS, x_tI, x_sl, x_cutL, x_cutT, x_comp, x_app, x_asg, x_aug, wipeE, List.length_map, iT, e', isNn, i0, iT2, lw, iw, x_an2, wipeE, g, all_yes]
theorem strOk_of (s : String) : PyData.strOk (Str.ofString s) = true := by
  unfold PyData.strOk
  rw [Str.ofString_eq_toList]
  rw [Array.all_eq_true']
  intro c hc
  have hc' : c ∈ s.toList.map Char.toNat := by simpa using hc
  obtain ⟨ch, _, rfl⟩ := List.mem_map.mp hc'
  have hv : ch.toNat < 0xd800 ∨ (0xdfff < ch.toNat ∧ ch.toNat < 0x110000) := ch.valid
  exact decide_eq_true (by omega)
theorem s_bs : dEq (.str (Str.ofString "bends")) (.str (Str.ofString "sums")) = some (.bool false) := rfl
theorem s_ss : dEq (.str (Str.ofString "sums")) (.str (Str.ofString "sums")) = some (.bool true) := rfl
theorem s_bb : dEq (.str (Str.ofString "bends")) (.str (Str.ofString "bends")) = some (.bool true) := rfl
theorem s_bg : dEq (.str (Str.ofString "bends")) (.str (Str.ofString "greatest")) = some (.bool false) := rfl
theorem s_gs : dEq (.str (Str.ofString "greatest")) (.str (Str.ofString "sums")) = some (.bool false) := rfl
theorem s_gb : dEq (.str (Str.ofString "greatest")) (.str (Str.ofString "bends")) = some (.bool false) := rfl
theorem s_gg : dEq (.str (Str.ofString "greatest")) (.str (Str.ofString "greatest")) = some (.bool true) := rfl
theorem s_gw : dEq (.str (Str.ofString "greatest")) (.str (Str.ofString "window")) = some (.bool false) := rfl
theorem s_ws : dEq (.str (Str.ofString "window")) (.str (Str.ofString "sums")) = some (.bool false) := rfl
theorem s_wb : dEq (.str (Str.ofString "window")) (.str (Str.ofString "bends")) = some (.bool false) := rfl
theorem s_wg : dEq (.str (Str.ofString "window")) (.str (Str.ofString "greatest")) = some (.bool false) := rfl
theorem s_ww : dEq (.str (Str.ofString "window")) (.str (Str.ofString "window")) = some (.bool true) := rfl
theorem s_sb : dEq (.str (Str.ofString "sums")) (.str (Str.ofString "bends")) = some (.bool false) := rfl
theorem s_sw : dEq (.str (Str.ofString "sums")) (.str (Str.ofString "window")) = some (.bool false) := rfl
theorem s_bw : dEq (.str (Str.ofString "bends")) (.str (Str.ofString "window")) = some (.bool false) := rfl
theorem forGo_cons {gg : G} {body : S} {x : PyData} {xs : List PyData} {env e1 e2 : PD.Env} (h : gg x env = .ok e1) (k : body e1 = .nx e2) : forGo gg body (x :: xs) env = forGo gg body xs e2 := by
  show (match gg x env with
        | .ok e1 => match body e1 with
          | .nx e => forGo gg body xs e
          | .ct e => forGo gg body xs e
          | .bk e => .nx e
          | r => r
        | _ => .no) = _
  rw [h]
  show (match body e1 with
          | .nx e => forGo gg body xs e
          | .ct e => forGo gg body xs e
          | .bk e => .nx e
          | r => r) = _
  rw [k]
/-! ### groups -/
theorem fine_gr {n s : Nat} {g : List Nat} (h : GrOk s g) (h4 : s ≤ 4) : Fine (n + 1) (grD g) ∧ g.length ≤ 4 := by
  have hl : g.length ≤ 4 := by
    have : g.length ≤ s := by
      have nd : g.Nodup := h.2.1.imp (fun {a b} q => Nat.ne_of_lt q)
      have sub : g ⊆ List.range s := fun x hx => List.mem_range.mpr (h.2.2 x hx)
      have := (List.nodup_range (n := s))
      have q := nd.length_le_of_subset sub
      rwa [List.length_range] at q
    omega
  refine ⟨.tup _ (by rw [List.length_map]; omega) fun x hx => ?_, hl⟩
  obtain ⟨k, hk, rfl⟩ := List.mem_map.mp hx
  exact fine_small _ (by have := h.2.2 k hk; omega)
def grG : S := (sSeq (sIf (tOr (tNt (tT (eCall 1 F_is_integer (aCons (eVar 2) aNil)))) (tCm dLe (eVar 2) (eVar 1))) (sRet (eC (.bool false))) sNx) (sSet 1 (eVar 2)))
theorem gr_loop {x0 : Option SV} : ∀ (g : List Nat) (last : Int) (x2 : Option SV), g.Pairwise (· < ·) → (∀ x ∈ g, last < (x : Int)) → ∃ y1 y2, forGo (gN 2) grG (g.map fun k : Nat => .int (k : Int)) [x0, some (.fz (.int last)), x2] = .nx [x0, y1, y2]
  | [], last, x2, _, _ => ⟨_, _, rfl⟩
  | k :: g, last, x2, hp, hl => by
    obtain ⟨hp1, hp2⟩ := List.pairwise_cons.mp hp
    obtain ⟨y1, y2, e⟩ := gr_loop (x0 := x0) g (k : Int) (some (.fz (.int (k : Int)))) hp2 (fun x hx => by have := hp1 x hx; omega)
    refine ⟨y1, y2, ?_⟩
    have z : ((k : Int) ≤ last) = False := eq_false (by have := hl k (.head _); omega)
    rw [List.map_cons, forGo_cons (e1 := [x0, some (.fz (.int last)), some (.fz (.int (k : Int)))]) rfl (e2 := [x0, some (.fz (.int (k : Int))), some (.fz (.int (k : Int)))]), e]
    unfold grG
    simp (implicitDefEqProofs := false) only [x_run, x_out_nx, x_out_rt, x_out_er, x_seq, x_seq_nx, x_seq_rt, x_seq_er, x_seq_ct, x_seq_bk, x_ofR_ok, x_ofR_er, x_nx, x_bk, x_ct, x_set, x_setL, x_ret, x_drop, x_retN, x_if, x_raise, x_var, x_gv0, x_gvS, x_gvo0, x_gvoS, x_gb, x_gb0, x_gbO, x_gbS, x_c, x_op, x_cm, x_un, x_bf, x_isi, x_ix, x_ixO, x_ofO_some, x_anil, x_acons, x_tup, x_lst, x_eL, x_tb, x_nt, x_an, x_or, x_ent, x_ean, x_eor, x_eif, x_tT, x_tV, x_tY, x_call, x_callD, x_callK, x_cd1, x_cd2, x_cd3, x_cd4, x_st0, x_stS, x_stN, x_wh, x_for, x_iseq, x_ir1, x_ir2, x_add, x_sub, x_neg, x_dcmp, x_eqI, x_neI, x_absI, x_intI, x_gcdI, x_maxI, x_minI, x_lenL, x_lenT, x_ixL, x_ixT, x_at0, x_at1, x_sz0, x_sz1, x_sz2, x_sz3, x_gN, x_forN, x_for0, x_fB_nx, x_fB_ct, x_fB_bk, x_fB_rt, x_fB_er, x_iTT, x_iTL, x_iTI, x_iLT, x_iLL, x_iII, x_iBI, x_iSS, x_iBB, x_truB, x_itT, x_itL, x_try, RO.bind_ok, RO.bind_er, RO.pure_ok, List.set_cons_zero, List.set_cons_succ, List.cons_append, List.nil_append, if_true, if_false, ite_true, ite_false, reduceIte, Bool.false_eq_true, Bool.true_eq_false, Bool.not_true, Bool.not_false, x_len1, and_self, decide_eq_true_eq, decide_true, decide_false, eq_self, Bool.not_eq_true', decide_eq_false_iff_not, not_true_eq_false, not_false_eq_true, ne_eq, x_eqB, x_neB, x_intB, x_iIB, x_gT2, x_lLi, x_eTu, x_eTuO, x_eLeO, x_dSeqL, x_dSeqT, x_oN, x_oS, x_tI, x_sl, x_cutL, x_cutT, x_comp, x_app, x_asg, x_aug, wipeE, List.length_map, isInt_i, z]
theorem isGroup_ok {s : Nat} {g : List Nat} (h : GrOk s g) (h4 : s ≤ 4) : F_is_group [grD g] = .ok (.bool true) := by
  have f := (fine_gr (n := 0) h h4).1
  have e : dEq (grD g) (.tuple []) = some (.bool false) := by
    have := eq_nil f (by decide)
    have hne : (g.map fun k : Nat => PyData.int (k : Int)).isEmpty = false := by
      cases g with
      | nil => exact absurd rfl h.1
      | cons a g => rfl
    rw [hne] at this
    exact this
  have iT : isiO "tuple" (grD g) = some (.bool true) := rfl
  have it : dIter (grD g) = .ok (g.map fun k : Nat => .int (k : Int)) := rfl
  obtain ⟨y1, y2, el⟩ := gr_loop (x0 := some (.fz (grD g))) g (-1) none h.2.1 (fun x _ => by omega)
  unfold grG at el
  unfold F_is_group B_is_group
  simp (implicitDefEqProofs := false) only [x_run, x_out_nx, x_out_rt, x_out_er, x_seq, x_seq_nx, x_seq_rt, x_seq_er, x_seq_ct, x_seq_bk, x_ofR_ok, x_ofR_er, x_nx, x_bk, x_ct, x_set, x_setL, x_ret, x_drop, x_retN, x_if, x_raise, x_var, x_gv0, x_gvS, x_gvo0, x_gvoS, x_gb, x_gb0, x_gbO, x_gbS, x_c, x_op, x_cm, x_un, x_bf, x_isi, x_ix, x_ixO, x_ofO_some, x_anil, x_acons, x_tup, x_lst, x_eL, x_tb, x_nt, x_an, x_or, x_ent, x_ean, x_eor, x_eif, x_tT, x_tV, x_tY, x_call, x_callD, x_callK, x_cd1, x_cd2, x_cd3, x_cd4, x_st0, x_stS, x_stN, x_wh, x_for, x_iseq, x_ir1, x_ir2, x_add, x_sub, x_neg, x_dcmp, x_eqI, x_neI, x_absI, x_intI, x_gcdI, x_maxI, x_minI, x_lenL, x_lenT, x_ixL, x_ixT, x_at0, x_at1, x_sz0, x_sz1, x_sz2, x_sz3, x_gN, x_forN, x_for0, x_fB_nx, x_fB_ct, x_fB_bk, x_fB_rt, x_fB_er, x_iTT, x_iTL, x_iTI, x_iLT, x_iLL, x_iII, x_iBI, x_iSS, x_iBB, x_truB, x_itT, x_itL, x_try, RO.bind_ok, RO.bind_er, RO.pure_ok, List.set_cons_zero, List.set_cons_succ, List.cons_append, List.nil_append, if_true, if_false, ite_true, ite_false, reduceIte, Bool.false_eq_true, Bool.true_eq_false, Bool.not_true, Bool.not_false, x_len1, and_self, decide_eq_true_eq, decide_true, decide_false, eq_self, Bool.not_eq_true', decide_eq_false_iff_not, not_true_eq_false, not_false_eq_true, ne_eq, x_eqB, x_neB, x_intB, x_iIB, x_gT2, x_lLi, x_eTu, x_eTuO, x_eLeO, x_dSeqL, x_dSeqT, x_oN, x_oS, x_tI, x_sl, x_cutL, x_cutT, x_comp, x_app, x_asg, x_aug, wipeE, List.length_map, iT, e, it, el]
end KM
set_option Elab.async false
set_option linter.all false
set_option maxRecDepth 100000
set_option maxHeartbeats 4000000
namespace KM
open PySem PySem.Spec PyProof.Rows L2 PD
theorem fine_lay {s : Nat} {l : Lay} (h : l.Ok s) (h4 : s ≤ 4) : Fine 5 l.d := by
  cases l with
  | su M v => exact .tup _ (by show 3 ≤ 100; decide) (all_cons (.str _ (strOk_of _)) (all_cons (fine_mx h.2.1 (by have := h.2.2.2.2; omega) (by omega)) (all_cons (fine_rw h.2.2.1 (by have := h.2.2.2.2; have := h.1; omega)) all_nil)))
  | be fs => exact .tup _ (by show 2 ≤ 100; decide) (all_cons (.str _ (strOk_of _)) (all_cons (.tup _ (by rw [List.length_map]; have : fs.length = s := h; omega) fun x hx => by
      obtain ⟨b, _, rfl⟩ := List.mem_map.mp hx
      exact .bool b) all_nil))
  | gr gs => exact .tup _ (by show 2 ≤ 100; decide) (all_cons (.str _ (strOk_of _)) (all_cons (.tup _ (by rw [List.length_map]; have := h.2.1; omega) fun x hx => by
      obtain ⟨g, hg, rfl⟩ := List.mem_map.mp hx
      exact (fine_gr (h.2.2 g hg) h4).1) all_nil))
  | wi k ws o =>
    obtain ⟨k0, k3, w0, w4, hw, ho⟩ := h
    exact .tup _ (by show 4 ≤ 100; decide) (all_cons (.str _ (strOk_of _)) (all_cons (fine_small _ (by omega)) (all_cons (fine_rw hw (by omega)) (all_cons (fine_rt40 ho) all_nil))))
theorem lay_ne {s : Nat} {l : Lay} (h : l.Ok s) (h4 : s ≤ 4) : dEq l.d (.tuple []) = some (.bool false) := by
  have f := fine_lay h h4
  cases l <;> exact eq_nil f (by decide)
theorem isLayer_ok {s : Nat} {l : Lay} (h : l.Ok s) (h4 : s ≤ 4) : F_is_layer [l.d] = .ok (.bool true) := by
  have e := lay_ne h h4
  cases l with
  | su M v =>
    have m := mat_ok h.2.1 h.2.2.2.1 (by have := h.2.2.2.2; omega) (by omega)
    have r := vec_rowN (Rts.lo h.2.2.1)
    have iT : isiO "tuple" (Lay.d (.su M v)) = some (.bool true) := rfl
    have i0 : dIx (Lay.d (.su M v)) (.int 0) = some (.str (Str.ofString "sums")) := x_at0
    have c : dCut (Lay.d (.su M v)) (some 1) none = .ok (.tuple [mx M, rw_ v]) := rfl
    have l2 : cLen [.tuple [mx M, rw_ v]] = some (.int 2) := rfl
    have p0 : dIx (.tuple [mx M, rw_ v]) (.int 0) = some (mx M) := rfl
    have p1 : dIx (.tuple [mx M, rw_ v]) (.int 1) = some (rw_ v) := rfl
    unfold F_is_layer B_is_layer
    simp (implicitDefEqProofs := false) only [x_run, x_out_nx, x_out_rt, x_out_er, x_seq, x_seq_nx, x_seq_rt, x_seq_er, x_seq_ct, x_seq_bk, x_ofR_ok, x_ofR_er, x_nx, x_bk, x_ct, x_set, x_setL, x_ret, x_drop, x_retN, x_if, x_raise, x_var, x_gv0, x_gvS, x_gvo0, x_gvoS, x_gb, x_gb0, x_gbO, x_gbS, x_c, x_op, x_cm, x_un, x_bf, x_isi, x_ix, x_ixO, x_ofO_some, x_anil, x_acons, x_tup, x_lst, x_eL, x_tb, x_nt, x_an, x_or, x_ent, x_ean, x_eor, x_eif, x_tT, x_tV, x_tY, x_call, x_callD, x_callK, x_cd1, x_cd2, x_cd3, x_cd4, x_st0, x_stS, x_stN, x_wh, x_for, x_iseq, x_ir1, x_ir2, x_add, x_sub, x_neg, x_dcmp, x_eqI, x_neI, x_absI, x_intI, x_gcdI, x_maxI, x_minI, x_lenL, x_lenT, x_ixL, x_ixT, x_at0, x_at1, x_sz0, x_sz1, x_sz2, x_sz3, x_gN, x_forN, x_for0, x_fB_nx, x_fB_ct, x_fB_bk, x_fB_rt, x_fB_er, x_iTT, x_iTL, x_iTI, x_iLT, x_iLL, x_iII, x_iBI, x_iSS, x_iBB, x_truB, x_itT, x_itL, x_try, RO.bind_ok, RO.bind_er, RO.pure_ok, List.set_cons_zero, List.set_cons_succ, List.cons_append, List.nil_append, if_true, if_false, ite_true, ite_false, reduceIte, Bool.false_eq_true, Bool.true_eq_false, Bool.not_true, Bool.not_false, x_len1, and_self, decide_eq_true_eq, decide_true, decide_false, eq_self, Bool.not_eq_true', decide_eq_false_iff_not, not_true_eq_false, not_false_eq_true, ne_eq, x_eqB, x_neB, x_intB, x_iIB, x_gT2, x_lLi, x_eTu, x_eTuO, x_eLeO, x_dSeqL, x_dSeqT, x_oN, x_oS, x_tI, x_sl, x_cutL, x_cutT, x_comp, x_app, x_asg, x_aug, wipeE, List.length_map, iT, e, i0, c, l2, p0, p1, s_ss, m, r]
  | be fs =>
    have iT : isiO "tuple" (Lay.d (.be fs)) = some (.bool true) := rfl
    have iT2 : isiO "tuple" (.tuple (fs.map .bool)) = some (.bool true) := rfl
    have i0 : dIx (Lay.d (.be fs)) (.int 0) = some (.str (Str.ofString "bends")) := x_at0
    have c : dCut (Lay.d (.be fs)) (some 1) none = .ok (.tuple [.tuple (fs.map .bool)]) := rfl
    have l2 : cLen [.tuple [.tuple (fs.map PyData.bool)]] = some (.int 1) := rfl
    have p0 : dIx (.tuple [.tuple (fs.map PyData.bool)]) (.int 0) = some (.tuple (fs.map .bool)) := rfl
    have iw : dIter (.tuple (fs.map PyData.bool)) = .ok (fs.map .bool) := rfl
    have g := anB_all (g := gN 4) (f := eIsi "bool" (eVar 4)) (env := [some (.fz (Lay.d (.be fs))), some (.fz (.str (Str.ofString "bends"))), some (.fz (.tuple [.tuple (fs.map .bool)])), none, none, none]) (fun b : Bool => .bool b) (fun _ => true) fs fun r hr => by
      refine ⟨_, rfl, ?_⟩
      simp (implicitDefEqProofs := false) only [x_run, x_out_nx, x_out_rt, x_out_er, x_seq, x_seq_nx, x_seq_rt, x_seq_er, x_seq_ct, x_seq_bk, x_ofR_ok, x_ofR_er, x_nx, x_bk, x_ct, x_set, x_setL, x_ret, x_drop, x_retN, x_if, x_raise, x_var, x_gv0, x_gvS, x_gvo0, x_gvoS, x_gb, x_gb0, x_gbO, x_gbS, x_c, x_op, x_cm, x_un, x_bf, x_isi, x_ix, x_ixO, x_ofO_some, x_anil, x_acons, x_tup, x_lst, x_eL, x_tb, x_nt, x_an, x_or, x_ent, x_ean, x_eor, x_eif, x_tT, x_tV, x_tY, x_call, x_callD, x_callK, x_cd1, x_cd2, x_cd3, x_cd4, x_st0, x_stS, x_stN, x_wh, x_for, x_iseq, x_ir1, x_ir2, x_add, x_sub, x_neg, x_dcmp, x_eqI, x_neI, x_absI, x_intI, x_gcdI, x_maxI, x_minI, x_lenL, x_lenT, x_ixL, x_ixT, x_at0, x_at1, x_sz0, x_sz1, x_sz2, x_sz3, x_gN, x_forN, x_for0, x_fB_nx, x_fB_ct, x_fB_bk, x_fB_rt, x_fB_er, x_iTT, x_iTL, x_iTI, x_iLT, x_iLL, x_iII, x_iBI, x_iSS, x_iBB, x_truB, x_itT, x_itL, x_try, RO.bind_ok, RO.bind_er, RO.pure_ok, List.set_cons_zero, List.set_cons_succ, List.cons_append, List.nil_append, if_true, if_false, ite_true, ite_false, reduceIte, Bool.false_eq_true, Bool.true_eq_false, Bool.not_true, Bool.not_false, x_len1, and_self, decide_eq_true_eq, decide_true, decide_false, eq_self, Bool.not_eq_true', decide_eq_false_iff_not, not_true_eq_false, not_false_eq_true, ne_eq, x_eqB, x_neB, x_intB, x_iIB, x_gT2, x_lLi, x_eTu, x_eTuO, x_eLeO, x_dSeqL, x_dSeqT, x_oN, x_oS, x_tI, x_sl, x_cutL, x_cutT, x_comp, x_app, x_asg, x_aug, wipeE, List.length_map, j4]
    unfold F_is_layer B_is_layer
    simp (implicitDefEqProofs := false) only [x_run, x_out_nx, x_out_rt, x_out_er, x_seq, x_seq_nx, x_seq_rt, x_seq_er, x_seq_ct, x_seq_bk, x_ofR_ok, x_ofR_er, x_nx, x_bk, x_ct, x_set, x_setL, x_ret, x_drop, x_retN, x_if, x_raise, x_var, x_gv0, x_gvS, x_gvo0, x_gvoS, x_gb, x_gb0, x_gbO, x_gbS, x_c, x_op, x_cm, x_un, x_bf, x_isi, x_ix, x_ixO, x_ofO_some, x_anil, x_acons, x_tup, x_lst, x_eL, x_tb, x_nt, x_an, x_or, x_ent, x_ean, x_eor, x_eif, x_tT, x_tV, x_tY, x_call, x_callD, x_callK, x_cd1, x_cd2, x_cd3, x_cd4, x_st0, x_stS, x_stN, x_wh, x_for, x_iseq, x_ir1, x_ir2, x_add, x_sub, x_neg, x_dcmp, x_eqI, x_neI, x_absI, x_intI, x_gcdI, x_maxI, x_minI, x_lenL, x_lenT, x_ixL, x_ixT, x_at0, x_at1, x_sz0, x_sz1, x_sz2, x_sz3, x_gN, x_forN, x_for0, x_fB_nx, x_fB_ct, x_fB_bk, x_fB_rt, x_fB_er, x_iTT, x_iTL, x_iTI, x_iLT, x_iLL, x_iII, x_iBI, x_iSS, x_iBB, x_truB, x_itT, x_itL, x_try, RO.bind_ok, RO.bind_er, RO.pure_ok, List.set_cons_zero, List.set_cons_succ, List.cons_append, List.nil_append, if_true, if_false, ite_true, ite_false, reduceIte, Bool.false_eq_true, Bool.true_eq_false, Bool.not_true, Bool.not_false, x_len1, and_self, decide_eq_true_eq, decide_true, decide_false, eq_self, Bool.not_eq_true', decide_eq_false_iff_not, not_true_eq_false, not_false_eq_true, ne_eq, x_eqB, x_neB, x_intB, x_iIB, x_gT2, x_lLi, x_eTu, x_eTuO, x_eLeO, x_dSeqL, x_dSeqT, x_oN, x_oS, x_tI, x_sl, x_cutL, x_cutT, x_comp, x_app, x_asg, x_aug, wipeE, List.length_map, iT, e, i0, c, l2, p0, s_bs, s_bb, iT2, iw, x_an2, wipeE, g, all_yes]
  | gr gs =>
    have iT : isiO "tuple" (Lay.d (.gr gs)) = some (.bool true) := rfl
    have iT2 : isiO "tuple" (.tuple (gs.map grD)) = some (.bool true) := rfl
    have i0 : dIx (Lay.d (.gr gs)) (.int 0) = some (.str (Str.ofString "greatest")) := x_at0
    have c : dCut (Lay.d (.gr gs)) (some 1) none = .ok (.tuple [.tuple (gs.map grD)]) := rfl
    have l2 : cLen [.tuple [.tuple (gs.map grD)]] = some (.int 1) := rfl
    have p0 : dIx (.tuple [.tuple (gs.map grD)]) (.int 0) = some (.tuple (gs.map grD)) := rfl
    have iw : dIter (.tuple (gs.map grD)) = .ok (gs.map grD) := rfl
    have fg : Fine 5 (.tuple (gs.map grD)) := .tup _ (by rw [List.length_map]; have := h.2.1; omega) fun x hx => by
      obtain ⟨g, hg, rfl⟩ := List.mem_map.mp hx
      exact (fine_gr (h.2.2 g hg) h4).1
    have ne : dNe (.tuple (gs.map grD)) (.tuple []) = some (.bool true) := by
      have q := eq_nil fg (by decide)
      have hne : (gs.map grD).isEmpty = false := by
        cases gs with
        | nil => exact absurd h.1 (by decide)
        | cons a g => rfl
      rw [hne] at q
      unfold dNe
      rw [q]
      rfl
    have g := anB_all (g := gN 5) (f := eCall 1 F_is_group (aCons (eVar 5) aNil)) (env := [some (.fz (Lay.d (.gr gs))), some (.fz (.str (Str.ofString "greatest"))), some (.fz (.tuple [.tuple (gs.map grD)])), some (.fz (.tuple (gs.map grD))), none, none]) grD (fun _ => true) gs fun r hr => by
      refine ⟨_, rfl, ?_⟩
      simp (implicitDefEqProofs := false) only [x_run, x_out_nx, x_out_rt, x_out_er, x_seq, x_seq_nx, x_seq_rt, x_seq_er, x_seq_ct, x_seq_bk, x_ofR_ok, x_ofR_er, x_nx, x_bk, x_ct, x_set, x_setL, x_ret, x_drop, x_retN, x_if, x_raise, x_var, x_gv0, x_gvS, x_gvo0, x_gvoS, x_gb, x_gb0, x_gbO, x_gbS, x_c, x_op, x_cm, x_un, x_bf, x_isi, x_ix, x_ixO, x_ofO_some, x_anil, x_acons, x_tup, x_lst, x_eL, x_tb, x_nt, x_an, x_or, x_ent, x_ean, x_eor, x_eif, x_tT, x_tV, x_tY, x_call, x_callD, x_callK, x_cd1, x_cd2, x_cd3, x_cd4, x_st0, x_stS, x_stN, x_wh, x_for, x_iseq, x_ir1, x_ir2, x_add, x_sub, x_neg, x_dcmp, x_eqI, x_neI, x_absI, x_intI, x_gcdI, x_maxI, x_minI, x_lenL, x_lenT, x_ixL, x_ixT, x_at0, x_at1, x_sz0, x_sz1, x_sz2, x_sz3, x_gN, x_forN, x_for0, x_fB_nx, x_fB_ct, x_fB_bk, x_fB_rt, x_fB_er, x_iTT, x_iTL, x_iTI, x_iLT, x_iLL, x_iII, x_iBI, x_iSS, x_iBB, x_truB, x_itT, x_itL, x_try, RO.bind_ok, RO.bind_er, RO.pure_ok, List.set_cons_zero, List.set_cons_succ, List.cons_append, List.nil_append, if_true, if_false, ite_true, ite_false, reduceIte, Bool.false_eq_true, Bool.true_eq_false, Bool.not_true, Bool.not_false, x_len1, and_self, decide_eq_true_eq, decide_true, decide_false, eq_self, Bool.not_eq_true', decide_eq_false_iff_not, not_true_eq_false, not_false_eq_true, ne_eq, x_eqB, x_neB, x_intB, x_iIB, x_gT2, x_lLi, x_eTu, x_eTuO, x_eLeO, x_dSeqL, x_dSeqT, x_oN, x_oS, x_tI, x_sl, x_cutL, x_cutT, x_comp, x_app, x_asg, x_aug, wipeE, List.length_map, isGroup_ok (h.2.2 r hr) h4]
    unfold F_is_layer B_is_layer
    simp (implicitDefEqProofs := false) only [x_run, x_out_nx, x_out_rt, x_out_er, x_seq, x_seq_nx, x_seq_rt, x_seq_er, x_seq_ct, x_seq_bk, x_ofR_ok, x_ofR_er, x_nx, x_bk, x_ct, x_set, x_setL, x_ret, x_drop, x_retN, x_if, x_raise, x_var, x_gv0, x_gvS, x_gvo0, x_gvoS, x_gb, x_gb0, x_gbO, x_gbS, x_c, x_op, x_cm, x_un, x_bf, x_isi, x_ix, x_ixO, x_ofO_some, x_anil, x_acons, x_tup, x_lst, x_eL, x_tb, x_nt, x_an, x_or, x_ent, x_ean, x_eor, x_eif, x_tT, x_tV, x_tY, x_call, x_callD, x_callK, x_cd1, x_cd2, x_cd3, x_cd4, x_st0, x_stS, x_stN, x_wh, x_for, x_iseq, x_ir1, x_ir2, x_add, x_sub, x_neg, x_dcmp, x_eqI, x_neI, x_absI, x_intI, x_gcdI, x_maxI, x_minI, x_lenL, x_lenT, x_ixL, x_ixT, x_at0, x_at1, x_sz0, x_sz1, x_sz2, x_sz3, x_gN, x_forN, x_for0, x_fB_nx, x_fB_ct, x_fB_bk, x_fB_rt, x_fB_er, x_iTT, x_iTL, x_iTI, x_iLT, x_iLL, x_iII, x_iBI, x_iSS, x_iBB, x_truB, x_itT, x_itL, x_try, RO.bind_ok, RO.bind_er, RO.pure_ok, List.set_cons_zero, List.set_cons_succ, List.cons_append, List.nil_append, if_true, if_false, ite_true, ite_false, reduceIte, Bool.false_eq_true, Bool.true_eq_false, Bool.not_true, Bool.not_false, x_len1, and_self, decide_eq_true_eq, decide_true, decide_false, eq_self, Bool.not_eq_true', decide_eq_false_iff_not, not_true_eq_false, not_false_eq_true, ne_eq, x_eqB, x_neB, x_intB, x_iIB, x_gT2, x_lLi, x_eTu, x_eTuO, x_eLeO, x_dSeqL, x_dSeqT, x_oN, x_oS, x_tI, x_sl, x_cutL, x_cutT, x_comp, x_app, x_asg, x_aug, wipeE, List.length_map, iT, e, i0, c, l2, p0, s_gs, s_gb, s_gg, iT2, ne, iw, x_an2, wipeE, g, all_yes]
  | wi k ws o =>
    obtain ⟨k0, k3, w0, w4, hw, ho⟩ := h
    have iT : isiO "tuple" (Lay.d (.wi k ws o)) = some (.bool true) := rfl
    have i0 : dIx (Lay.d (.wi k ws o)) (.int 0) = some (.str (Str.ofString "window")) := x_at0
    have c : dCut (Lay.d (.wi k ws o)) (some 1) none = .ok (.tuple [.int (k : Int), rw_ ws, rt o]) := rfl
    have l3 : cLen [.tuple [.int (k : Int), rw_ ws, rt o]] = some (.int 3) := rfl
    have p0 : dIx (.tuple [.int (k : Int), rw_ ws, rt o]) (.int 0) = some (.int (k : Int)) := rfl
    have p1 : dIx (.tuple [.int (k : Int), rw_ ws, rt o]) (.int 1) = some (rw_ ws) := rfl
    have p2 : dIx (.tuple [.int (k : Int), rw_ ws, rt o]) (.int 2) = some (rt o) := rfl
    have v := vec_rowN (Rts.lo hw)
    have ro := ratio_rt ho.1 ho.2.1
    have ne : dNe (rw_ ws) (.tuple []) = some (.bool true) := by
      have q := eq_nil (xs := ws.map rt) (fine_rw (n := 0) hw (by omega)) (by decide)
      have hne : (ws.map rt).isEmpty = false := by
        cases ws with
        | nil => exact absurd w0 (by decide)
        | cons a g => rfl
      rw [hne] at q
      have q' : dEq (rw_ ws) (.tuple []) = some (.bool false) := q
      unfold dNe
      rw [q']
      rfl
    have z1 : ((k : Int) < 1) = False := eq_false (by omega)
    have z2 : ((k : Int) > 1000) = False := eq_false (by omega)
    have wd : F_is_window [.int (k : Int), rw_ ws, rt o] = .ok (.bool true) := by
      unfold F_is_window B_is_window
      simp (implicitDefEqProofs := false) only [x_run, x_out_nx, x_out_rt, x_out_er, x_seq, x_seq_nx, x_seq_rt, x_seq_er, x_seq_ct, x_seq_bk, x_ofR_ok, x_ofR_er, x_nx, x_bk, x_ct, x_set, x_setL, x_ret, x_drop, x_retN, x_if, x_raise, x_var, x_gv0, x_gvS, x_gvo0, x_gvoS, x_gb, x_gb0, x_gbO, x_gbS, x_c, x_op, x_cm, x_un, x_bf, x_isi, x_ix, x_ixO, x_ofO_some, x_anil, x_acons, x_tup, x_lst, x_eL, x_tb, x_nt, x_an, x_or, x_ent, x_ean, x_eor, x_eif, x_tT, x_tV, x_tY, x_call, x_callD, x_callK, x_cd1, x_cd2, x_cd3, x_cd4, x_st0, x_stS, x_stN, x_wh, x_for, x_iseq, x_ir1, x_ir2, x_add, x_sub, x_neg, x_dcmp, x_eqI, x_neI, x_absI, x_intI, x_gcdI, x_maxI, x_minI, x_lenL, x_lenT, x_ixL, x_ixT, x_at0, x_at1, x_sz0, x_sz1, x_sz2, x_sz3, x_gN, x_forN, x_for0, x_fB_nx, x_fB_ct, x_fB_bk, x_fB_rt, x_fB_er, x_iTT, x_iTL, x_iTI, x_iLT, x_iLL, x_iII, x_iBI, x_iSS, x_iBB, x_truB, x_itT, x_itL, x_try, RO.bind_ok, RO.bind_er, RO.pure_ok, List.set_cons_zero, List.set_cons_succ, List.cons_append, List.nil_append, if_true, if_false, ite_true, ite_false, reduceIte, Bool.false_eq_true, Bool.true_eq_false, Bool.not_true, Bool.not_false, x_len1, and_self, decide_eq_true_eq, decide_true, decide_false, eq_self, Bool.not_eq_true', decide_eq_false_iff_not, not_true_eq_false, not_false_eq_true, ne_eq, x_eqB, x_neB, x_intB, x_iIB, x_gT2, x_lLi, x_eTu, x_eTuO, x_eLeO, x_dSeqL, x_dSeqT, x_oN, x_oS, x_tI, x_sl, x_cutL, x_cutT, x_comp, x_app, x_asg, x_aug, wipeE, List.length_map, isInt_i, z1, z2, v, ne, ro]
    unfold F_is_layer B_is_layer
    simp (implicitDefEqProofs := false) only [x_run, x_out_nx, x_out_rt, x_out_er, x_seq, x_seq_nx, x_seq_rt, x_seq_er, x_seq_ct, x_seq_bk, x_ofR_ok, x_ofR_er, x_nx, x_bk, x_ct, x_set, x_setL, x_ret, x_drop, x_retN, x_if, x_raise, x_var, x_gv0, x_gvS, x_gvo0, x_gvoS, x_gb, x_gb0, x_gbO, x_gbS, x_c, x_op, x_cm, x_un, x_bf, x_isi, x_ix, x_ixO, x_ofO_some, x_anil, x_acons, x_tup, x_lst, x_eL, x_tb, x_nt, x_an, x_or, x_ent, x_ean, x_eor, x_eif, x_tT, x_tV, x_tY, x_call, x_callD, x_callK, x_cd1, x_cd2, x_cd3, x_cd4, x_st0, x_stS, x_stN, x_wh, x_for, x_iseq, x_ir1, x_ir2, x_add, x_sub, x_neg, x_dcmp, x_eqI, x_neI, x_absI, x_intI, x_gcdI, x_maxI, x_minI, x_lenL, x_lenT, x_ixL, x_ixT, x_at0, x_at1, x_sz0, x_sz1, x_sz2, x_sz3, x_gN, x_forN, x_for0, x_fB_nx, x_fB_ct, x_fB_bk, x_fB_rt, x_fB_er, x_iTT, x_iTL, x_iTI, x_iLT, x_iLL, x_iII, x_iBI, x_iSS, x_iBB, x_truB, x_itT, x_itL, x_try, RO.bind_ok, RO.bind_er, RO.pure_ok, List.set_cons_zero, List.set_cons_succ, List.cons_append, List.nil_append, if_true, if_false, ite_true, ite_false, reduceIte, Bool.false_eq_true, Bool.true_eq_false, Bool.not_true, Bool.not_false, x_len1, and_self, decide_eq_true_eq, decide_true, decide_false, eq_self, Bool.not_eq_true', decide_eq_false_iff_not, not_true_eq_false, not_false_eq_true, ne_eq, x_eqB, x_neB, x_intB, x_iIB, x_gT2, x_lLi, x_eTu, x_eTuO, x_eLeO, x_dSeqL, x_dSeqT, x_oN, x_oS, x_tI, x_sl, x_cutL, x_cutT, x_comp, x_app, x_asg, x_aug, wipeE, List.length_map, iT, e, i0, c, l3, p0, p1, p2, s_ws, s_wb, s_wg, s_ww, wd]
theorem at_neg1 {xs : List PyData} {d : PyData} : atI (xs ++ [d]) (-1) = some d := by
  unfold atI
  simp only [ixN, List.length_append, List.length_cons, List.length_nil]
  have e : ((-1 : Int) + ((xs.length + (0 + 1) : Nat) : Int)).toNat = xs.length := by omega
  simp [e]
  rw [if_pos (by omega)]
  simp [show ((-1 : Int) + ((xs.length : Int) + 1)).toNat = xs.length by omega]
theorem fits_ok {s : Nat} {l : Lay} (h : l.Ok s) (h4 : s ≤ 4) : F_fits [l.d, .int s] = .ok (.bool true) := by
  cases l with
  | su M v =>
    have i0 : dIx (Lay.d (.su M v)) (.int 0) = some (.str (Str.ofString "sums")) := x_at0
    have i1 : dIx (Lay.d (.su M v)) (.int 1) = some (mx M) := rfl
    have i2 : dIx (Lay.d (.su M v)) (.int 2) = some (rw_ v) := rfl
    cases M with
    | nil => exact absurd h.2.2.2.1 (by decide)
    | cons r0 M0 =>
      have m0 : dIx (mx (r0 :: M0)) (.int 0) = some (rw_ r0) := x_at0
      have lw : cLen [rw_ r0] = some (.int (s : Nat)) := by rw [len_rw, (h.2.1 r0 (.head _)).1]
      have lv : cLen [rw_ v] = some (.int ((r0 :: M0).length : Int)) := by rw [len_rw, h.1]
      have lm : cLen [mx (r0 :: M0)] = some (.int ((r0 :: M0).length : Int)) := by unfold mx; rw [len_T, List.length_map]
      unfold F_fits B_fits
      simp (implicitDefEqProofs := false) only [x_run, x_out_nx, x_out_rt, x_out_er, x_seq, x_seq_nx, x_seq_rt, x_seq_er, x_seq_ct, x_seq_bk, x_ofR_ok, x_ofR_er, x_nx, x_bk, x_ct, x_set, x_setL, x_ret, x_drop, x_retN, x_if, x_raise, x_var, x_gv0, x_gvS, x_gvo0, x_gvoS, x_gb, x_gb0, x_gbO, x_gbS, x_c, x_op, x_cm, x_un, x_bf, x_isi, x_ix, x_ixO, x_ofO_some, x_anil, x_acons, x_tup, x_lst, x_eL, x_tb, x_nt, x_an, x_or, x_ent, x_ean, x_eor, x_eif, x_tT, x_tV, x_tY, x_call, x_callD, x_callK, x_cd1, x_cd2, x_cd3, x_cd4, x_st0, x_stS, x_stN, x_wh, x_for, x_iseq, x_ir1, x_ir2, x_add, x_sub, x_neg, x_dcmp, x_eqI, x_neI, x_absI, x_intI, x_gcdI, x_maxI, x_minI, x_lenL, x_lenT, x_ixL, x_ixT, x_at0, x_at1, x_sz0, x_sz1, x_sz2, x_sz3, x_gN, x_forN, x_for0, x_fB_nx, x_fB_ct, x_fB_bk, x_fB_rt, x_fB_er, x_iTT, x_iTL, x_iTI, x_iLT, x_iLL, x_iII, x_iBI, x_iSS, x_iBB, x_truB, x_itT, x_itL, x_try, RO.bind_ok, RO.bind_er, RO.pure_ok, List.set_cons_zero, List.set_cons_succ, List.cons_append, List.nil_append, if_true, if_false, ite_true, ite_false, reduceIte, Bool.false_eq_true, Bool.true_eq_false, Bool.not_true, Bool.not_false, x_len1, and_self, decide_eq_true_eq, decide_true, decide_false, eq_self, Bool.not_eq_true', decide_eq_false_iff_not, not_true_eq_false, not_false_eq_true, ne_eq, x_eqB, x_neB, x_intB, x_iIB, x_gT2, x_lLi, x_eTu, x_eTuO, x_eLeO, x_dSeqL, x_dSeqT, x_oN, x_oS, x_tI, x_sl, x_cutL, x_cutT, x_comp, x_app, x_asg, x_aug, wipeE, List.length_map, i0, i1, i2, s_ss, m0, lw, lv, lm]
  | be fs =>
    have i0 : dIx (Lay.d (.be fs)) (.int 0) = some (.str (Str.ofString "bends")) := x_at0
    have i1 : dIx (Lay.d (.be fs)) (.int 1) = some (.tuple (fs.map .bool)) := rfl
    have l1 : cLen [.tuple (fs.map PyData.bool)] = some (.int (s : Int)) := by rw [len_T, List.length_map, show fs.length = s from h]
    unfold F_fits B_fits
    simp (implicitDefEqProofs := false) only [x_run, x_out_nx, x_out_rt, x_out_er, x_seq, x_seq_nx, x_seq_rt, x_seq_er, x_seq_ct, x_seq_bk, x_ofR_ok, x_ofR_er, x_nx, x_bk, x_ct, x_set, x_setL, x_ret, x_drop, x_retN, x_if, x_raise, x_var, x_gv0, x_gvS, x_gvo0, x_gvoS, x_gb, x_gb0, x_gbO, x_gbS, x_c, x_op, x_cm, x_un, x_bf, x_isi, x_ix, x_ixO, x_ofO_some, x_anil, x_acons, x_tup, x_lst, x_eL, x_tb, x_nt, x_an, x_or, x_ent, x_ean, x_eor, x_eif, x_tT, x_tV, x_tY, x_call, x_callD, x_callK, x_cd1, x_cd2, x_cd3, x_cd4, x_st0, x_stS, x_stN, x_wh, x_for, x_iseq, x_ir1, x_ir2, x_add, x_sub, x_neg, x_dcmp, x_eqI, x_neI, x_absI, x_intI, x_gcdI, x_maxI, x_minI, x_lenL, x_lenT, x_ixL, x_ixT, x_at0, x_at1, x_sz0, x_sz1, x_sz2, x_sz3, x_gN, x_forN, x_for0, x_fB_nx, x_fB_ct, x_fB_bk, x_fB_rt, x_fB_er, x_iTT, x_iTL, x_iTI, x_iLT, x_iLL, x_iII, x_iBI, x_iSS, x_iBB, x_truB, x_itT, x_itL, x_try, RO.bind_ok, RO.bind_er, RO.pure_ok, List.set_cons_zero, List.set_cons_succ, List.cons_append, List.nil_append, if_true, if_false, ite_true, ite_false, reduceIte, Bool.false_eq_true, Bool.true_eq_false, Bool.not_true, Bool.not_false, x_len1, and_self, decide_eq_true_eq, decide_true, decide_false, eq_self, Bool.not_eq_true', decide_eq_false_iff_not, not_true_eq_false, not_false_eq_true, ne_eq, x_eqB, x_neB, x_intB, x_iIB, x_gT2, x_lLi, x_eTu, x_eTuO, x_eLeO, x_dSeqL, x_dSeqT, x_oN, x_oS, x_tI, x_sl, x_cutL, x_cutT, x_comp, x_app, x_asg, x_aug, wipeE, List.length_map, i0, i1, s_bs, s_bb, l1]
  | gr gs =>
    have i0 : dIx (Lay.d (.gr gs)) (.int 0) = some (.str (Str.ofString "greatest")) := x_at0
    have i1 : dIx (Lay.d (.gr gs)) (.int 1) = some (.tuple (gs.map grD)) := rfl
    have iw : dIter (.tuple (gs.map grD)) = .ok (gs.map grD) := rfl
    have g := anB_all (g := gN 3) (f := eOp dLt (eIx (eVar 3) (eUn dNeg (eC (.int 1)))) (eVar 1)) (env := [some (.fz (Lay.d (.gr gs))), some (.fz (.int (s : Nat))), some (.fz (.str (Str.ofString "greatest"))), none]) grD (fun _ => true) gs fun g hg => by
      refine ⟨[some (.fz (Lay.d (.gr gs))), some (.fz (.int (s : Nat))), some (.fz (.str (Str.ofString "greatest"))), some (.fz (grD g))], rfl, ?_⟩
      have hk := h.2.2 g hg
      obtain ⟨k, hkg, ek⟩ : ∃ k ∈ g, dIx (grD g) (.int (-1)) = some (.int (k : Int)) := by
        rcases List.eq_nil_or_concat g with e | ⟨g', k, e⟩
        · exact absurd e hk.1
        · refine ⟨k, by rw [e]; simp, ?_⟩
          rw [e]
          show atI (((g'.concat k)).map fun k : Nat => PyData.int (k : Int)) (-1) = _
          rw [List.concat_eq_append, List.map_append]
          exact at_neg1
      have z : ((k : Int) < (s : Int)) = True := eq_true (by have := hk.2.2 k hkg; omega)
      simp (implicitDefEqProofs := false) only [x_run, x_out_nx, x_out_rt, x_out_er, x_seq, x_seq_nx, x_seq_rt, x_seq_er, x_seq_ct, x_seq_bk, x_ofR_ok, x_ofR_er, x_nx, x_bk, x_ct, x_set, x_setL, x_ret, x_drop, x_retN, x_if, x_raise, x_var, x_gv0, x_gvS, x_gvo0, x_gvoS, x_gb, x_gb0, x_gbO, x_gbS, x_c, x_op, x_cm, x_un, x_bf, x_isi, x_ix, x_ixO, x_ofO_some, x_anil, x_acons, x_tup, x_lst, x_eL, x_tb, x_nt, x_an, x_or, x_ent, x_ean, x_eor, x_eif, x_tT, x_tV, x_tY, x_call, x_callD, x_callK, x_cd1, x_cd2, x_cd3, x_cd4, x_st0, x_stS, x_stN, x_wh, x_for, x_iseq, x_ir1, x_ir2, x_add, x_sub, x_neg, x_dcmp, x_eqI, x_neI, x_absI, x_intI, x_gcdI, x_maxI, x_minI, x_lenL, x_lenT, x_ixL, x_ixT, x_at0, x_at1, x_sz0, x_sz1, x_sz2, x_sz3, x_gN, x_forN, x_for0, x_fB_nx, x_fB_ct, x_fB_bk, x_fB_rt, x_fB_er, x_iTT, x_iTL, x_iTI, x_iLT, x_iLL, x_iII, x_iBI, x_iSS, x_iBB, x_truB, x_itT, x_itL, x_try, RO.bind_ok, RO.bind_er, RO.pure_ok, List.set_cons_zero, List.set_cons_succ, List.cons_append, List.nil_append, if_true, if_false, ite_true, ite_false, reduceIte, Bool.false_eq_true, Bool.true_eq_false, Bool.not_true, Bool.not_false, x_len1, and_self, decide_eq_true_eq, decide_true, decide_false, eq_self, Bool.not_eq_true', decide_eq_false_iff_not, not_true_eq_false, not_false_eq_true, ne_eq, x_eqB, x_neB, x_intB, x_iIB, x_gT2, x_lLi, x_eTu, x_eTuO, x_eLeO, x_dSeqL, x_dSeqT, x_oN, x_oS, x_tI, x_sl, x_cutL, x_cutT, x_comp, x_app, x_asg, x_aug, wipeE, List.length_map, ek, z]
    unfold F_fits B_fits
    simp (implicitDefEqProofs := false) only [x_run, x_out_nx, x_out_rt, x_out_er, x_seq, x_seq_nx, x_seq_rt, x_seq_er, x_seq_ct, x_seq_bk, x_ofR_ok, x_ofR_er, x_nx, x_bk, x_ct, x_set, x_setL, x_ret, x_drop, x_retN, x_if, x_raise, x_var, x_gv0, x_gvS, x_gvo0, x_gvoS, x_gb, x_gb0, x_gbO, x_gbS, x_c, x_op, x_cm, x_un, x_bf, x_isi, x_ix, x_ixO, x_ofO_some, x_anil, x_acons, x_tup, x_lst, x_eL, x_tb, x_nt, x_an, x_or, x_ent, x_ean, x_eor, x_eif, x_tT, x_tV, x_tY, x_call, x_callD, x_callK, x_cd1, x_cd2, x_cd3, x_cd4, x_st0, x_stS, x_stN, x_wh, x_for, x_iseq, x_ir1, x_ir2, x_add, x_sub, x_neg, x_dcmp, x_eqI, x_neI, x_absI, x_intI, x_gcdI, x_maxI, x_minI, x_lenL, x_lenT, x_ixL, x_ixT, x_at0, x_at1, x_sz0, x_sz1, x_sz2, x_sz3, x_gN, x_forN, x_for0, x_fB_nx, x_fB_ct, x_fB_bk, x_fB_rt, x_fB_er, x_iTT, x_iTL, x_iTI, x_iLT, x_iLL, x_iII, x_iBI, x_iSS, x_iBB, x_truB, x_itT, x_itL, x_try, RO.bind_ok, RO.bind_er, RO.pure_ok, List.set_cons_zero, List.set_cons_succ, List.cons_append, List.nil_append, if_true, if_false, ite_true, ite_false, reduceIte, Bool.false_eq_true, Bool.true_eq_false, Bool.not_true, Bool.not_false, x_len1, and_self, decide_eq_true_eq, decide_true, decide_false, eq_self, Bool.not_eq_true', decide_eq_false_iff_not, not_true_eq_false, not_false_eq_true, ne_eq, x_eqB, x_neB, x_intB, x_iIB, x_gT2, x_lLi, x_eTu, x_eTuO, x_eLeO, x_dSeqL, x_dSeqT, x_oN, x_oS, x_tI, x_sl, x_cutL, x_cutT, x_comp, x_app, x_asg, x_aug, wipeE, List.length_map, i0, i1, s_gs, s_gb, s_gg, iw, x_an2, wipeE, g, all_yes]
  | wi k ws o =>
    obtain ⟨k0, k3, w0, w4, hw, ho⟩ := h
    have i0 : dIx (Lay.d (.wi k ws o)) (.int 0) = some (.str (Str.ofString "window")) := x_at0
    have i2 : dIx (Lay.d (.wi k ws o)) (.int 2) = some (rw_ ws) := rfl
    have z : ((ws.length : Int) ≤ (s : Int)) = True := eq_true (by omega)
    unfold F_fits B_fits
    simp (implicitDefEqProofs := false) only [x_run, x_out_nx, x_out_rt, x_out_er, x_seq, x_seq_nx, x_seq_rt, x_seq_er, x_seq_ct, x_seq_bk, x_ofR_ok, x_ofR_er, x_nx, x_bk, x_ct, x_set, x_setL, x_ret, x_drop, x_retN, x_if, x_raise, x_var, x_gv0, x_gvS, x_gvo0, x_gvoS, x_gb, x_gb0, x_gbO, x_gbS, x_c, x_op, x_cm, x_un, x_bf, x_isi, x_ix, x_ixO, x_ofO_some, x_anil, x_acons, x_tup, x_lst, x_eL, x_tb, x_nt, x_an, x_or, x_ent, x_ean, x_eor, x_eif, x_tT, x_tV, x_tY, x_call, x_callD, x_callK, x_cd1, x_cd2, x_cd3, x_cd4, x_st0, x_stS, x_stN, x_wh, x_for, x_iseq, x_ir1, x_ir2, x_add, x_sub, x_neg, x_dcmp, x_eqI, x_neI, x_absI, x_intI, x_gcdI, x_maxI, x_minI, x_lenL, x_lenT, x_ixL, x_ixT, x_at0, x_at1, x_sz0, x_sz1, x_sz2, x_sz3, x_gN, x_forN, x_for0, x_fB_nx, x_fB_ct, x_fB_bk, x_fB_rt, x_fB_er, x_iTT, x_iTL, x_iTI, x_iLT, x_iLL, x_iII, x_iBI, x_iSS, x_iBB, x_truB, x_itT, x_itL, x_try, RO.bind_ok, RO.bind_er, RO.pure_ok, List.set_cons_zero, List.set_cons_succ, List.cons_append, List.nil_append, if_true, if_false, ite_true, ite_false, reduceIte, Bool.false_eq_true, Bool.true_eq_false, Bool.not_true, Bool.not_false, x_len1, and_self, decide_eq_true_eq, decide_true, decide_false, eq_self, Bool.not_eq_true', decide_eq_false_iff_not, not_true_eq_false, not_false_eq_true, ne_eq, x_eqB, x_neB, x_intB, x_iIB, x_gT2, x_lLi, x_eTu, x_eTuO, x_eLeO, x_dSeqL, x_dSeqT, x_oN, x_oS, x_tI, x_sl, x_cutL, x_cutT, x_comp, x_app, x_asg, x_aug, wipeE, List.length_map, i0, i2, s_ws, s_wb, s_wg, len_rw, z]
end KM
set_option Elab.async false
set_option linter.all false
set_option maxRecDepth 100000
set_option maxHeartbeats 4000000
namespace KM
open PySem PySem.Spec PyProof.Rows L2 PD
theorem given_ok {s : Nat} {l : Lay} (h : l.Ok s) (h4 : s ≤ 4) : F_given [l.d, .int s] = .ok (.int (l.out s : Nat)) := by
  cases l with
  | su M v =>
    have i0 : dIx (Lay.d (.su M v)) (.int 0) = some (.str (Str.ofString "sums")) := x_at0
    have i1 : dIx (Lay.d (.su M v)) (.int 1) = some (mx M) := rfl
    have lm : cLen [mx M] = some (.int (M.length : Int)) := by unfold mx; rw [len_T, List.length_map]
    unfold F_given B_given
    simp (implicitDefEqProofs := false) only [x_run, x_out_nx, x_out_rt, x_out_er, x_seq, x_seq_nx, x_seq_rt, x_seq_er, x_seq_ct, x_seq_bk, x_ofR_ok, x_ofR_er, x_nx, x_bk, x_ct, x_set, x_setL, x_ret, x_drop, x_retN, x_if, x_raise, x_var, x_gv0, x_gvS, x_gvo0, x_gvoS, x_gb, x_gb0, x_gbO, x_gbS, x_c, x_op, x_cm, x_un, x_bf, x_isi, x_ix, x_ixO, x_ofO_some, x_anil, x_acons, x_tup, x_lst, x_eL, x_tb, x_nt, x_an, x_or, x_ent, x_ean, x_eor, x_eif, x_tT, x_tV, x_tY, x_call, x_callD, x_callK, x_cd1, x_cd2, x_cd3, x_cd4, x_st0, x_stS, x_stN, x_wh, x_for, x_iseq, x_ir1, x_ir2, x_add, x_sub, x_neg, x_dcmp, x_eqI, x_neI, x_absI, x_intI, x_gcdI, x_maxI, x_minI, x_lenL, x_lenT, x_ixL, x_ixT, x_at0, x_at1, x_sz0, x_sz1, x_sz2, x_sz3, x_gN, x_forN, x_for0, x_fB_nx, x_fB_ct, x_fB_bk, x_fB_rt, x_fB_er, x_iTT, x_iTL, x_iTI, x_iLT, x_iLL, x_iII, x_iBI, x_iSS, x_iBB, x_truB, x_itT, x_itL, x_try, RO.bind_ok, RO.bind_er, RO.pure_ok, List.set_cons_zero, List.set_cons_succ, List.cons_append, List.nil_append, if_true, if_false, ite_true, ite_false, reduceIte, Bool.false_eq_true, Bool.true_eq_false, Bool.not_true, Bool.not_false, x_len1, and_self, decide_eq_true_eq, decide_true, decide_false, eq_self, Bool.not_eq_true', decide_eq_false_iff_not, not_true_eq_false, not_false_eq_true, ne_eq, x_eqB, x_neB, x_intB, x_iIB, x_gT2, x_lLi, x_eTu, x_eTuO, x_eLeO, x_dSeqL, x_dSeqT, x_oN, x_oS, x_tI, x_sl, x_cutL, x_cutT, x_comp, x_app, x_asg, x_aug, wipeE, List.length_map, i0, i1, s_ss, lm]
    rfl
  | be fs =>
    have i0 : dIx (Lay.d (.be fs)) (.int 0) = some (.str (Str.ofString "bends")) := x_at0
    unfold F_given B_given
    simp (implicitDefEqProofs := false) only [x_run, x_out_nx, x_out_rt, x_out_er, x_seq, x_seq_nx, x_seq_rt, x_seq_er, x_seq_ct, x_seq_bk, x_ofR_ok, x_ofR_er, x_nx, x_bk, x_ct, x_set, x_setL, x_ret, x_drop, x_retN, x_if, x_raise, x_var, x_gv0, x_gvS, x_gvo0, x_gvoS, x_gb, x_gb0, x_gbO, x_gbS, x_c, x_op, x_cm, x_un, x_bf, x_isi, x_ix, x_ixO, x_ofO_some, x_anil, x_acons, x_tup, x_lst, x_eL, x_tb, x_nt, x_an, x_or, x_ent, x_ean, x_eor, x_eif, x_tT, x_tV, x_tY, x_call, x_callD, x_callK, x_cd1, x_cd2, x_cd3, x_cd4, x_st0, x_stS, x_stN, x_wh, x_for, x_iseq, x_ir1, x_ir2, x_add, x_sub, x_neg, x_dcmp, x_eqI, x_neI, x_absI, x_intI, x_gcdI, x_maxI, x_minI, x_lenL, x_lenT, x_ixL, x_ixT, x_at0, x_at1, x_sz0, x_sz1, x_sz2, x_sz3, x_gN, x_forN, x_for0, x_fB_nx, x_fB_ct, x_fB_bk, x_fB_rt, x_fB_er, x_iTT, x_iTL, x_iTI, x_iLT, x_iLL, x_iII, x_iBI, x_iSS, x_iBB, x_truB, x_itT, x_itL, x_try, RO.bind_ok, RO.bind_er, RO.pure_ok, List.set_cons_zero, List.set_cons_succ, List.cons_append, List.nil_append, if_true, if_false, ite_true, ite_false, reduceIte, Bool.false_eq_true, Bool.true_eq_false, Bool.not_true, Bool.not_false, x_len1, and_self, decide_eq_true_eq, decide_true, decide_false, eq_self, Bool.not_eq_true', decide_eq_false_iff_not, not_true_eq_false, not_false_eq_true, ne_eq, x_eqB, x_neB, x_intB, x_iIB, x_gT2, x_lLi, x_eTu, x_eTuO, x_eLeO, x_dSeqL, x_dSeqT, x_oN, x_oS, x_tI, x_sl, x_cutL, x_cutT, x_comp, x_app, x_asg, x_aug, wipeE, List.length_map, i0, s_bs, s_bg, s_bb]
    rfl
  | gr gs =>
    have i0 : dIx (Lay.d (.gr gs)) (.int 0) = some (.str (Str.ofString "greatest")) := x_at0
    have i1 : dIx (Lay.d (.gr gs)) (.int 1) = some (.tuple (gs.map grD)) := rfl
    have lm : cLen [.tuple (gs.map grD)] = some (.int (gs.length : Int)) := by rw [len_T, List.length_map]
    unfold F_given B_given
    simp (implicitDefEqProofs := false) only [x_run, x_out_nx, x_out_rt, x_out_er, x_seq, x_seq_nx, x_seq_rt, x_seq_er, x_seq_ct, x_seq_bk, x_ofR_ok, x_ofR_er, x_nx, x_bk, x_ct, x_set, x_setL, x_ret, x_drop, x_retN, x_if, x_raise, x_var, x_gv0, x_gvS, x_gvo0, x_gvoS, x_gb, x_gb0, x_gbO, x_gbS, x_c, x_op, x_cm, x_un, x_bf, x_isi, x_ix, x_ixO, x_ofO_some, x_anil, x_acons, x_tup, x_lst, x_eL, x_tb, x_nt, x_an, x_or, x_ent, x_ean, x_eor, x_eif, x_tT, x_tV, x_tY, x_call, x_callD, x_callK, x_cd1, x_cd2, x_cd3, x_cd4, x_st0, x_stS, x_stN, x_wh, x_for, x_iseq, x_ir1, x_ir2, x_add, x_sub, x_neg, x_dcmp, x_eqI, x_neI, x_absI, x_intI, x_gcdI, x_maxI, x_minI, x_lenL, x_lenT, x_ixL, x_ixT, x_at0, x_at1, x_sz0, x_sz1, x_sz2, x_sz3, x_gN, x_forN, x_for0, x_fB_nx, x_fB_ct, x_fB_bk, x_fB_rt, x_fB_er, x_iTT, x_iTL, x_iTI, x_iLT, x_iLL, x_iII, x_iBI, x_iSS, x_iBB, x_truB, x_itT, x_itL, x_try, RO.bind_ok, RO.bind_er, RO.pure_ok, List.set_cons_zero, List.set_cons_succ, List.cons_append, List.nil_append, if_true, if_false, ite_true, ite_false, reduceIte, Bool.false_eq_true, Bool.true_eq_false, Bool.not_true, Bool.not_false, x_len1, and_self, decide_eq_true_eq, decide_true, decide_false, eq_self, Bool.not_eq_true', decide_eq_false_iff_not, not_true_eq_false, not_false_eq_true, ne_eq, x_eqB, x_neB, x_intB, x_iIB, x_gT2, x_lLi, x_eTu, x_eTuO, x_eLeO, x_dSeqL, x_dSeqT, x_oN, x_oS, x_tI, x_sl, x_cutL, x_cutT, x_comp, x_app, x_asg, x_aug, wipeE, List.length_map, i0, i1, s_gs, s_gg, lm]
    rfl
  | wi k ws o =>
    obtain ⟨k0, k3, w0, w4, hw, ho⟩ := h
    have i0 : dIx (Lay.d (.wi k ws o)) (.int 0) = some (.str (Str.ofString "window")) := x_at0
    have i1 : dIx (Lay.d (.wi k ws o)) (.int 1) = some (.int (k : Int)) := rfl
    have i2 : dIx (Lay.d (.wi k ws o)) (.int 2) = some (rw_ ws) := rfl
    have dk : divOk (k : Int) = true := by
      match k, k0, k3 with
      | 1, _, _ => decide +kernel
      | 2, _, _ => decide +kernel
      | 3, _, _ => decide +kernel
    have e : ((s : Int) - (ws.length : Int)) = ((s - ws.length : Nat) : Int) := by omega
    have dv : dDiv (.int ((s - ws.length : Nat) : Int)) (.int (k : Int)) = some (.int (((s - ws.length) / k : Nat) : Int)) := by
      rw [x_div dk, Int.fdiv_eq_ediv_of_nonneg _ (by omega)]
      rfl
    unfold F_given B_given
    simp (implicitDefEqProofs := false) only [x_run, x_out_nx, x_out_rt, x_out_er, x_seq, x_seq_nx, x_seq_rt, x_seq_er, x_seq_ct, x_seq_bk, x_ofR_ok, x_ofR_er, x_nx, x_bk, x_ct, x_set, x_setL, x_ret, x_drop, x_retN, x_if, x_raise, x_var, x_gv0, x_gvS, x_gvo0, x_gvoS, x_gb, x_gb0, x_gbO, x_gbS, x_c, x_op, x_cm, x_un, x_bf, x_isi, x_ix, x_ixO, x_ofO_some, x_anil, x_acons, x_tup, x_lst, x_eL, x_tb, x_nt, x_an, x_or, x_ent, x_ean, x_eor, x_eif, x_tT, x_tV, x_tY, x_call, x_callD, x_callK, x_cd1, x_cd2, x_cd3, x_cd4, x_st0, x_stS, x_stN, x_wh, x_for, x_iseq, x_ir1, x_ir2, x_add, x_sub, x_neg, x_dcmp, x_eqI, x_neI, x_absI, x_intI, x_gcdI, x_maxI, x_minI, x_lenL, x_lenT, x_ixL, x_ixT, x_at0, x_at1, x_sz0, x_sz1, x_sz2, x_sz3, x_gN, x_forN, x_for0, x_fB_nx, x_fB_ct, x_fB_bk, x_fB_rt, x_fB_er, x_iTT, x_iTL, x_iTI, x_iLT, x_iLL, x_iII, x_iBI, x_iSS, x_iBB, x_truB, x_itT, x_itL, x_try, RO.bind_ok, RO.bind_er, RO.pure_ok, List.set_cons_zero, List.set_cons_succ, List.cons_append, List.nil_append, if_true, if_false, ite_true, ite_false, reduceIte, Bool.false_eq_true, Bool.true_eq_false, Bool.not_true, Bool.not_false, x_len1, and_self, decide_eq_true_eq, decide_true, decide_false, eq_self, Bool.not_eq_true', decide_eq_false_iff_not, not_true_eq_false, not_false_eq_true, ne_eq, x_eqB, x_neB, x_intB, x_iIB, x_gT2, x_lLi, x_eTu, x_eTuO, x_eLeO, x_dSeqL, x_dSeqT, x_oN, x_oS, x_tI, x_sl, x_cutL, x_cutT, x_comp, x_app, x_asg, x_aug, wipeE, List.length_map, i0, i1, i2, s_ws, s_wg, s_wb, len_rw, e, dv]
    rfl
theorem lawGiven_ok {s : Nat} {l : Lay} (h : l.Ok s) (h4 : s ≤ 4) : F__law_given [.int s, l.d] = .ok (.int (l.out s : Nat)) := by
  cases l with
  | su M v =>
    have i0 : dIx (Lay.d (.su M v)) (.int 0) = some (.str (Str.ofString "sums")) := x_at0
    have i1 : dIx (Lay.d (.su M v)) (.int 1) = some (mx M) := rfl
    have lm : cLen [mx M] = some (.int (M.length : Int)) := by unfold mx; rw [len_T, List.length_map]
    unfold F__law_given B__law_given
    simp (implicitDefEqProofs := false) only [x_run, x_out_nx, x_out_rt, x_out_er, x_seq, x_seq_nx, x_seq_rt, x_seq_er, x_seq_ct, x_seq_bk, x_ofR_ok, x_ofR_er, x_nx, x_bk, x_ct, x_set, x_setL, x_ret, x_drop, x_retN, x_if, x_raise, x_var, x_gv0, x_gvS, x_gvo0, x_gvoS, x_gb, x_gb0, x_gbO, x_gbS, x_c, x_op, x_cm, x_un, x_bf, x_isi, x_ix, x_ixO, x_ofO_some, x_anil, x_acons, x_tup, x_lst, x_eL, x_tb, x_nt, x_an, x_or, x_ent, x_ean, x_eor, x_eif, x_tT, x_tV, x_tY, x_call, x_callD, x_callK, x_cd1, x_cd2, x_cd3, x_cd4, x_st0, x_stS, x_stN, x_wh, x_for, x_iseq, x_ir1, x_ir2, x_add, x_sub, x_neg, x_dcmp, x_eqI, x_neI, x_absI, x_intI, x_gcdI, x_maxI, x_minI, x_lenL, x_lenT, x_ixL, x_ixT, x_at0, x_at1, x_sz0, x_sz1, x_sz2, x_sz3, x_gN, x_forN, x_for0, x_fB_nx, x_fB_ct, x_fB_bk, x_fB_rt, x_fB_er, x_iTT, x_iTL, x_iTI, x_iLT, x_iLL, x_iII, x_iBI, x_iSS, x_iBB, x_truB, x_itT, x_itL, x_try, RO.bind_ok, RO.bind_er, RO.pure_ok, List.set_cons_zero, List.set_cons_succ, List.cons_append, List.nil_append, if_true, if_false, ite_true, ite_false, reduceIte, Bool.false_eq_true, Bool.true_eq_false, Bool.not_true, Bool.not_false, x_len1, and_self, decide_eq_true_eq, decide_true, decide_false, eq_self, Bool.not_eq_true', decide_eq_false_iff_not, not_true_eq_false, not_false_eq_true, ne_eq, x_eqB, x_neB, x_intB, x_iIB, x_gT2, x_lLi, x_eTu, x_eTuO, x_eLeO, x_dSeqL, x_dSeqT, x_oN, x_oS, x_tI, x_sl, x_cutL, x_cutT, x_comp, x_app, x_asg, x_aug, wipeE, List.length_map, i0, i1, s_sb, s_sw, lm]
    rfl
  | be fs =>
    have i0 : dIx (Lay.d (.be fs)) (.int 0) = some (.str (Str.ofString "bends")) := x_at0
    unfold F__law_given B__law_given
    simp (implicitDefEqProofs := false) only [x_run, x_out_nx, x_out_rt, x_out_er, x_seq, x_seq_nx, x_seq_rt, x_seq_er, x_seq_ct, x_seq_bk, x_ofR_ok, x_ofR_er, x_nx, x_bk, x_ct, x_set, x_setL, x_ret, x_drop, x_retN, x_if, x_raise, x_var, x_gv0, x_gvS, x_gvo0, x_gvoS, x_gb, x_gb0, x_gbO, x_gbS, x_c, x_op, x_cm, x_un, x_bf, x_isi, x_ix, x_ixO, x_ofO_some, x_anil, x_acons, x_tup, x_lst, x_eL, x_tb, x_nt, x_an, x_or, x_ent, x_ean, x_eor, x_eif, x_tT, x_tV, x_tY, x_call, x_callD, x_callK, x_cd1, x_cd2, x_cd3, x_cd4, x_st0, x_stS, x_stN, x_wh, x_for, x_iseq, x_ir1, x_ir2, x_add, x_sub, x_neg, x_dcmp, x_eqI, x_neI, x_absI, x_intI, x_gcdI, x_maxI, x_minI, x_lenL, x_lenT, x_ixL, x_ixT, x_at0, x_at1, x_sz0, x_sz1, x_sz2, x_sz3, x_gN, x_forN, x_for0, x_fB_nx, x_fB_ct, x_fB_bk, x_fB_rt, x_fB_er, x_iTT, x_iTL, x_iTI, x_iLT, x_iLL, x_iII, x_iBI, x_iSS, x_iBB, x_truB, x_itT, x_itL, x_try, RO.bind_ok, RO.bind_er, RO.pure_ok, List.set_cons_zero, List.set_cons_succ, List.cons_append, List.nil_append, if_true, if_false, ite_true, ite_false, reduceIte, Bool.false_eq_true, Bool.true_eq_false, Bool.not_true, Bool.not_false, x_len1, and_self, decide_eq_true_eq, decide_true, decide_false, eq_self, Bool.not_eq_true', decide_eq_false_iff_not, not_true_eq_false, not_false_eq_true, ne_eq, x_eqB, x_neB, x_intB, x_iIB, x_gT2, x_lLi, x_eTu, x_eTuO, x_eLeO, x_dSeqL, x_dSeqT, x_oN, x_oS, x_tI, x_sl, x_cutL, x_cutT, x_comp, x_app, x_asg, x_aug, wipeE, List.length_map, i0, s_bb]
    rfl
  | gr gs =>
    have i0 : dIx (Lay.d (.gr gs)) (.int 0) = some (.str (Str.ofString "greatest")) := x_at0
    have i1 : dIx (Lay.d (.gr gs)) (.int 1) = some (.tuple (gs.map grD)) := rfl
    have lm : cLen [.tuple (gs.map grD)] = some (.int (gs.length : Int)) := by rw [len_T, List.length_map]
    unfold F__law_given B__law_given
    simp (implicitDefEqProofs := false) only [x_run, x_out_nx, x_out_rt, x_out_er, x_seq, x_seq_nx, x_seq_rt, x_seq_er, x_seq_ct, x_seq_bk, x_ofR_ok, x_ofR_er, x_nx, x_bk, x_ct, x_set, x_setL, x_ret, x_drop, x_retN, x_if, x_raise, x_var, x_gv0, x_gvS, x_gvo0, x_gvoS, x_gb, x_gb0, x_gbO, x_gbS, x_c, x_op, x_cm, x_un, x_bf, x_isi, x_ix, x_ixO, x_ofO_some, x_anil, x_acons, x_tup, x_lst, x_eL, x_tb, x_nt, x_an, x_or, x_ent, x_ean, x_eor, x_eif, x_tT, x_tV, x_tY, x_call, x_callD, x_callK, x_cd1, x_cd2, x_cd3, x_cd4, x_st0, x_stS, x_stN, x_wh, x_for, x_iseq, x_ir1, x_ir2, x_add, x_sub, x_neg, x_dcmp, x_eqI, x_neI, x_absI, x_intI, x_gcdI, x_maxI, x_minI, x_lenL, x_lenT, x_ixL, x_ixT, x_at0, x_at1, x_sz0, x_sz1, x_sz2, x_sz3, x_gN, x_forN, x_for0, x_fB_nx, x_fB_ct, x_fB_bk, x_fB_rt, x_fB_er, x_iTT, x_iTL, x_iTI, x_iLT, x_iLL, x_iII, x_iBI, x_iSS, x_iBB, x_truB, x_itT, x_itL, x_try, RO.bind_ok, RO.bind_er, RO.pure_ok, List.set_cons_zero, List.set_cons_succ, List.cons_append, List.nil_append, if_true, if_false, ite_true, ite_false, reduceIte, Bool.false_eq_true, Bool.true_eq_false, Bool.not_true, Bool.not_false, x_len1, and_self, decide_eq_true_eq, decide_true, decide_false, eq_self, Bool.not_eq_true', decide_eq_false_iff_not, not_true_eq_false, not_false_eq_true, ne_eq, x_eqB, x_neB, x_intB, x_iIB, x_gT2, x_lLi, x_eTu, x_eTuO, x_eLeO, x_dSeqL, x_dSeqT, x_oN, x_oS, x_tI, x_sl, x_cutL, x_cutT, x_comp, x_app, x_asg, x_aug, wipeE, List.length_map, i0, i1, s_gb, s_gw, lm]
    rfl
  | wi k ws o =>
    obtain ⟨k0, k3, w0, w4, hw, ho⟩ := h
    have i0 : dIx (Lay.d (.wi k ws o)) (.int 0) = some (.str (Str.ofString "window")) := x_at0
    have i1 : dIx (Lay.d (.wi k ws o)) (.int 1) = some (.int (k : Int)) := rfl
    have i2 : dIx (Lay.d (.wi k ws o)) (.int 2) = some (rw_ ws) := rfl
    have rs : Builtin.Range.rangeSize 0 ((s : Int) - (ws.length : Int) + 1) (k : Int) = (((s - ws.length) / k + 1 : Nat) : Int) := by
      unfold Builtin.Range.rangeSize
      rw [if_pos (by omega), if_pos (by omega)]
      have e : ((s : Int) - (ws.length : Int) + 1 - 0 - 1) = ((s - ws.length : Nat) : Int) := by omega
      rw [e]
      rfl
    have hq : (s - ws.length) / k ≤ s := Nat.le_trans (Nat.div_le_self _ _) (by omega)
    have rl : dRl (.int 0) (.int ((s : Int) - (ws.length : Int) + 1)) (.int (k : Int)) = some (.int (((s - ws.length) / k + 1 : Nat) : Int)) := by
      unfold dRl
      dsimp only
      have h1 : (s - ws.length) / k + 1 < 1073741824 := by omega
      rw [rs, if_pos ⟨by omega, by omega, Int.natCast_nonneg _, Int.ofNat_lt.mpr h1⟩]
    have rl' : ∀ (env : PD.Env) (ga : A), ga env = .ok [.int 0, .int ((s : Int) - (ws.length : Int) + 1), .int (k : Int)] → eRl ga env = .ok (.int (((s - ws.length) / k + 1 : Nat) : Int)) := fun env ga hga => by
      unfold eRl
      rw [hga]
      show ofO (dRl _ _ _) = _
      rw [rl]
      rfl
    unfold F__law_given B__law_given
    simp (implicitDefEqProofs := false) only [x_run, x_out_nx, x_out_rt, x_out_er, x_seq, x_seq_nx, x_seq_rt, x_seq_er, x_seq_ct, x_seq_bk, x_ofR_ok, x_ofR_er, x_nx, x_bk, x_ct, x_set, x_setL, x_ret, x_drop, x_retN, x_if, x_raise, x_var, x_gv0, x_gvS, x_gvo0, x_gvoS, x_gb, x_gb0, x_gbO, x_gbS, x_c, x_op, x_cm, x_un, x_bf, x_isi, x_ix, x_ixO, x_ofO_some, x_anil, x_acons, x_tup, x_lst, x_eL, x_tb, x_nt, x_an, x_or, x_ent, x_ean, x_eor, x_eif, x_tT, x_tV, x_tY, x_call, x_callD, x_callK, x_cd1, x_cd2, x_cd3, x_cd4, x_st0, x_stS, x_stN, x_wh, x_for, x_iseq, x_ir1, x_ir2, x_add, x_sub, x_neg, x_dcmp, x_eqI, x_neI, x_absI, x_intI, x_gcdI, x_maxI, x_minI, x_lenL, x_lenT, x_ixL, x_ixT, x_at0, x_at1, x_sz0, x_sz1, x_sz2, x_sz3, x_gN, x_forN, x_for0, x_fB_nx, x_fB_ct, x_fB_bk, x_fB_rt, x_fB_er, x_iTT, x_iTL, x_iTI, x_iLT, x_iLL, x_iII, x_iBI, x_iSS, x_iBB, x_truB, x_itT, x_itL, x_try, RO.bind_ok, RO.bind_er, RO.pure_ok, List.set_cons_zero, List.set_cons_succ, List.cons_append, List.nil_append, if_true, if_false, ite_true, ite_false, reduceIte, Bool.false_eq_true, Bool.true_eq_false, Bool.not_true, Bool.not_false, x_len1, and_self, decide_eq_true_eq, decide_true, decide_false, eq_self, Bool.not_eq_true', decide_eq_false_iff_not, not_true_eq_false, not_false_eq_true, ne_eq, x_eqB, x_neB, x_intB, x_iIB, x_gT2, x_lLi, x_eTu, x_eTuO, x_eLeO, x_dSeqL, x_dSeqT, x_oN, x_oS, x_tI, x_sl, x_cutL, x_cutT, x_comp, x_app, x_asg, x_aug, wipeE, List.length_map, i0, s_wb, s_ww]
    rw [rl' _ _ (by simp (implicitDefEqProofs := false) only [x_run, x_out_nx, x_out_rt, x_out_er, x_seq, x_seq_nx, x_seq_rt, x_seq_er, x_seq_ct, x_seq_bk, x_ofR_ok, x_ofR_er, x_nx, x_bk, x_ct, x_set, x_setL, x_ret, x_drop, x_retN, x_if, x_raise, x_var, x_gv0, x_gvS, x_gvo0, x_gvoS, x_gb, x_gb0, x_gbO, x_gbS, x_c, x_op, x_cm, x_un, x_bf, x_isi, x_ix, x_ixO, x_ofO_some, x_anil, x_acons, x_tup, x_lst, x_eL, x_tb, x_nt, x_an, x_or, x_ent, x_ean, x_eor, x_eif, x_tT, x_tV, x_tY, x_call, x_callD, x_callK, x_cd1, x_cd2, x_cd3, x_cd4, x_st0, x_stS, x_stN, x_wh, x_for, x_iseq, x_ir1, x_ir2, x_add, x_sub, x_neg, x_dcmp, x_eqI, x_neI, x_absI, x_intI, x_gcdI, x_maxI, x_minI, x_lenL, x_lenT, x_ixL, x_ixT, x_at0, x_at1, x_sz0, x_sz1, x_sz2, x_sz3, x_gN, x_forN, x_for0, x_fB_nx, x_fB_ct, x_fB_bk, x_fB_rt, x_fB_er, x_iTT, x_iTL, x_iTI, x_iLT, x_iLL, x_iII, x_iBI, x_iSS, x_iBB, x_truB, x_itT, x_itL, x_try, RO.bind_ok, RO.bind_er, RO.pure_ok, List.set_cons_zero, List.set_cons_succ, List.cons_append, List.nil_append, if_true, if_false, ite_true, ite_false, reduceIte, Bool.false_eq_true, Bool.true_eq_false, Bool.not_true, Bool.not_false, x_len1, and_self, decide_eq_true_eq, decide_true, decide_false, eq_self, Bool.not_eq_true', decide_eq_false_iff_not, not_true_eq_false, not_false_eq_true, ne_eq, x_eqB, x_neB, x_intB, x_iIB, x_gT2, x_lLi, x_eTu, x_eTuO, x_eLeO, x_dSeqL, x_dSeqT, x_oN, x_oS, x_tI, x_sl, x_cutL, x_cutT, x_comp, x_app, x_asg, x_aug, wipeE, List.length_map, i1, i2, len_rw])]
    simp (implicitDefEqProofs := false) only [x_run, x_out_nx, x_out_rt, x_out_er, x_seq, x_seq_nx, x_seq_rt, x_seq_er, x_seq_ct, x_seq_bk, x_ofR_ok, x_ofR_er, x_nx, x_bk, x_ct, x_set, x_setL, x_ret, x_drop, x_retN, x_if, x_raise, x_var, x_gv0, x_gvS, x_gvo0, x_gvoS, x_gb, x_gb0, x_gbO, x_gbS, x_c, x_op, x_cm, x_un, x_bf, x_isi, x_ix, x_ixO, x_ofO_some, x_anil, x_acons, x_tup, x_lst, x_eL, x_tb, x_nt, x_an, x_or, x_ent, x_ean, x_eor, x_eif, x_tT, x_tV, x_tY, x_call, x_callD, x_callK, x_cd1, x_cd2, x_cd3, x_cd4, x_st0, x_stS, x_stN, x_wh, x_for, x_iseq, x_ir1, x_ir2, x_add, x_sub, x_neg, x_dcmp, x_eqI, x_neI, x_absI, x_intI, x_gcdI, x_maxI, x_minI, x_lenL, x_lenT, x_ixL, x_ixT, x_at0, x_at1, x_sz0, x_sz1, x_sz2, x_sz3, x_gN, x_forN, x_for0, x_fB_nx, x_fB_ct, x_fB_bk, x_fB_rt, x_fB_er, x_iTT, x_iTL, x_iTI, x_iLT, x_iLL, x_iII, x_iBI, x_iSS, x_iBB, x_truB, x_itT, x_itL, x_try, RO.bind_ok, RO.bind_er, RO.pure_ok, List.set_cons_zero, List.set_cons_succ, List.cons_append, List.nil_append, if_true, if_false, ite_true, ite_false, reduceIte, Bool.false_eq_true, Bool.true_eq_false, Bool.not_true, Bool.not_false, x_len1, and_self, decide_eq_true_eq, decide_true, decide_false, eq_self, Bool.not_eq_true', decide_eq_false_iff_not, not_true_eq_false, not_false_eq_true, ne_eq, x_eqB, x_neB, x_intB, x_iIB, x_gT2, x_lLi, x_eTu, x_eTuO, x_eLeO, x_dSeqL, x_dSeqT, x_oN, x_oS, x_tI, x_sl, x_cutL, x_cutT, x_comp, x_app, x_asg, x_aug, wipeE, List.length_map]
    rfl
/-! ### chains of layers -/
def OkL : Nat → List Lay → Prop
  | _, [] => True
  | s, l :: ls => l.Ok s ∧ OkL (l.out s) ls
def outL : Nat → List Lay → Nat
  | s, [] => s
  | s, l :: ls => outL (l.out s) ls
theorem OkL.snoc : ∀ {ls : List Lay} {s : Nat} {l : Lay}, OkL s ls → l.Ok (outL s ls) → OkL s (ls ++ [l])
  | [], s, l, _, h => ⟨h, trivial⟩
  | _ :: ls, s, l, h, k => ⟨h.1, OkL.snoc h.2 k⟩
theorem outL_snoc : ∀ (ls : List Lay) (s : Nat) (l : Lay), outL s (ls ++ [l]) = l.out (outL s ls)
  | [], _, _ => rfl
  | l' :: ls, s, l => outL_snoc ls (l'.out s) l
theorem OkL.take : ∀ {ls : List Lay} {s : Nat} (n : Nat), OkL s ls → OkL s (ls.take n)
  | [], s, n, _ => by rw [List.take_nil]; trivial
  | l :: ls, s, 0, _ => trivial
  | l :: ls, s, n + 1, h => ⟨h.1, OkL.take n h.2⟩
theorem outL_ok : ∀ {ls : List Lay} {s : Nat}, OkL s ls → 0 < s → s ≤ 4 → 0 < outL s ls ∧ outL s ls ≤ 4
  | [], s, _, h0, h4 => ⟨h0, h4⟩
  | l :: ls, s, h, h0, h4 => outL_ok (ls := ls) (s := l.out s) h.2 (Lay.out_ok h.1 h0 h4).1 (Lay.out_ok h.1 h0 h4).2
def en : Nat → List Lay → List PyData
  | _, [] => []
  | k, l :: ls => pr (.int (k : Nat)) l.d :: en (k + 1) ls
theorem en_range (k : Nat) : ∀ (n : Nat) (ls : List Lay), ls.length = n → List.zipWith (fun (i : Nat) x => pr (.int (i : Nat)) x) (List.range' k n) (ls.map Lay.d) = en k ls := by
  intro n
  induction n generalizing k with
  | zero => intro ls h; cases ls with
    | nil => rfl
    | cons => cases h
  | succ n ih => intro ls h; cases ls with
    | nil => cases h
    | cons l ls =>
      rw [List.range'_succ, List.map_cons, List.zipWith_cons_cons, ih (k + 1) ls (by simpa using h)]
      rfl
theorem enD_eq (ls : List Lay) : enD (ls.map Lay.d) = en 0 ls := by
  unfold enD
  rw [List.range_eq_range', List.length_map]
  exact en_range 0 _ ls rfl
def ckB : S := (sSeq (sIf (tNt (tT (eCall 1 F_is_layer (aCons (eVar 5) aNil)))) (sRaise2 "BadNetwork" "layer" "reason" (aCons (eVar 4) (aCons (eC (.str "form")) aNil))) sNx) (sSeq (sIf (tNt (tT (eCall 2 F_fits (aCons (eVar 5) (aCons (eVar 3) aNil))))) (sRaise2 "BadNetwork" "layer" "reason" (aCons (eVar 4) (aCons (eC (.str "size")) aNil))) sNx) (sSet 3 (eCall 2 F_given (aCons (eVar 5) (aCons (eVar 3) aNil))))))
def ckG : G := (gT 2 (gsC (gN 4) (gsC (gN 5) gsN)))
def ckS : S := (sSeq (sIf (tOr (tNt (tT (eIsi "tuple" (eVar 0)))) (tCm dNe (eBf cLen (aCons (eVar 0) aNil)) (eC (.int 2)))) (sRaise2 "BadNetwork" "layer" "reason" (aCons (eUn dNeg (eC (.int 1))) (aCons (eC (.str "form")) aNil))) sNx) (sSeq (sAsg (eVar 0) (gT 2 (gsC (gN 1) (gsC (gN 2) gsN)))) (sSeq (sIf (tOr (tNt (tT (eCall 1 F_is_integer (aCons (eVar 1) aNil)))) (tNt (tT (eIsi "tuple" (eVar 2))))) (sRaise2 "BadNetwork" "layer" "reason" (aCons (eUn dNeg (eC (.int 1))) (aCons (eC (.str "form")) aNil))) sNx) (sSeq (sIf (tOr (tCm dLt (eVar 1) (eC (.int 1))) (tCm dGt (eVar 1) (eC (.int 1000)))) (sRaise2 "BadNetwork" "layer" "reason" (aCons (eUn dNeg (eC (.int 1))) (aCons (eC (.str "inputs")) aNil))) sNx) (sSeq (sSet 3 (eVar 1)) (sFor (iEnu (eVar 2)) ckG ckB))))))
theorem check_eq : B_check = ckS := rfl
theorem ck_g {i d : PyData} {x0 x1 x2 x3 x4 x5 : Option SV} : ckG (pr i d) [x0, x1, x2, x3, x4, x5] = .ok [x0, x1, x2, x3, some (.fz i), some (.fz d)] := rfl
theorem check_loop {x0 x1 x2 : Option SV} : ∀ (ls : List Lay) (s k : Nat) (x4 x5 : Option SV), OkL s ls → 0 < s → s ≤ 4 → ∃ y3 y4 y5, forGo ckG ckB (en k ls) [x0, x1, x2, some (.fz (.int (s : Nat))), x4, x5] = .nx [x0, x1, x2, y3, y4, y5]
  | [], s, k, x4, x5, h, l, l' => ⟨_, x4, x5, rfl⟩
  | l :: ls, s, k, x4, x5, h, h0, h4 => by
    obtain ⟨o0, o4⟩ := Lay.out_ok h.1 h0 h4
    obtain ⟨y3, y4, y5, e⟩ := check_loop (x0 := x0) (x1 := x1) (x2 := x2) ls (l.out s) (k + 1) (some (.fz (.int (k : Nat)))) (some (.fz l.d)) h.2 o0 o4
    refine ⟨y3, y4, y5, ?_⟩
    show forGo ckG ckB (pr (.int (k : Nat)) l.d :: en (k + 1) ls) _ = _
    rw [forGo_cons ck_g (e2 := [x0, x1, x2, some (.fz (.int (l.out s : Nat))), some (.fz (.int (k : Nat))), some (.fz l.d)]), e]
    have a := isLayer_ok h.1 h4
    have b := fits_ok h.1 h4
    have c := given_ok h.1 h4
    unfold ckB
    simp (implicitDefEqProofs := false) only [x_run, x_out_nx, x_out_rt, x_out_er, x_seq, x_seq_nx, x_seq_rt, x_seq_er, x_seq_ct, x_seq_bk, x_ofR_ok, x_ofR_er, x_nx, x_bk, x_ct, x_set, x_setL, x_ret, x_drop, x_retN, x_if, x_raise, x_var, x_gv0, x_gvS, x_gvo0, x_gvoS, x_gb, x_gb0, x_gbO, x_gbS, x_c, x_op, x_cm, x_un, x_bf, x_isi, x_ix, x_ixO, x_ofO_some, x_anil, x_acons, x_tup, x_lst, x_eL, x_tb, x_nt, x_an, x_or, x_ent, x_ean, x_eor, x_eif, x_tT, x_tV, x_tY, x_call, x_callD, x_callK, x_cd1, x_cd2, x_cd3, x_cd4, x_st0, x_stS, x_stN, x_wh, x_for, x_iseq, x_ir1, x_ir2, x_add, x_sub, x_neg, x_dcmp, x_eqI, x_neI, x_absI, x_intI, x_gcdI, x_maxI, x_minI, x_lenL, x_lenT, x_ixL, x_ixT, x_at0, x_at1, x_sz0, x_sz1, x_sz2, x_sz3, x_gN, x_forN, x_for0, x_fB_nx, x_fB_ct, x_fB_bk, x_fB_rt, x_fB_er, x_iTT, x_iTL, x_iTI, x_iLT, x_iLL, x_iII, x_iBI, x_iSS, x_iBB, x_truB, x_itT, x_itL, x_try, RO.bind_ok, RO.bind_er, RO.pure_ok, List.set_cons_zero, List.set_cons_succ, List.cons_append, List.nil_append, if_true, if_false, ite_true, ite_false, reduceIte, Bool.false_eq_true, Bool.true_eq_false, Bool.not_true, Bool.not_false, x_len1, and_self, decide_eq_true_eq, decide_true, decide_false, eq_self, Bool.not_eq_true', decide_eq_false_iff_not, not_true_eq_false, not_false_eq_true, ne_eq, x_eqB, x_neB, x_intB, x_iIB, x_gT2, x_lLi, x_eTu, x_eTuO, x_eLeO, x_dSeqL, x_dSeqT, x_oN, x_oS, x_tI, x_sl, x_cutL, x_cutT, x_comp, x_app, x_asg, x_aug, wipeE, List.length_map, a, b, c]
def netD (s : Nat) (ls : List Lay) : PyData := .tuple [.int (s : Nat), .tuple (ls.map Lay.d)]
theorem check_ok {s : Nat} {ls : List Lay} (h : OkL s ls) (h0 : 0 < s) (h4 : s ≤ 4) : F_check [netD s ls] = .ok .none := by
  obtain ⟨y3, y4, y5, e⟩ := check_loop (x0 := some (.fz (netD s ls))) (x1 := some (.fz (.int (s : Nat)))) (x2 := some (.fz (.tuple (ls.map Lay.d)))) ls s 0 none none h h0 h4
  have iT : isiO "tuple" (netD s ls) = some (.bool true) := rfl
  have ln : cLen [netD s ls] = some (.int 2) := rfl
  have z1 : ((s : Int) < 1) = False := eq_false (by omega)
  have z2 : ((s : Int) > 1000) = False := eq_false (by omega)
  have ie : dEnu (.tuple (ls.map Lay.d)) = .ok (en 0 ls) := by show RO.ok (enD (ls.map Lay.d)) = _; rw [enD_eq]
  have ie' : iEnu (eVar 2) [some (.fz (netD s ls)), some (.fz (.int (s : Nat))), some (.fz (.tuple (ls.map Lay.d))), some (.fz (.int (s : Nat))), none, none] = .ok (en 0 ls) := ie
  have hG : gT 2 (gsC (gN 1) (gsC (gN 2) gsN)) (netD s ls) [some (.fz (netD s ls)), none, none, none, none, none] = .ok [some (.fz (netD s ls)), some (.fz (.int (s : Nat))), some (.fz (.tuple (ls.map Lay.d))), none, none, none] := rfl
  unfold F_check
  rw [check_eq]
  unfold ckS
  simp (implicitDefEqProofs := false) only [x_run, x_out_nx, x_out_rt, x_out_er, x_seq, x_seq_nx, x_seq_rt, x_seq_er, x_seq_ct, x_seq_bk, x_ofR_ok, x_ofR_er, x_nx, x_bk, x_ct, x_set, x_setL, x_ret, x_drop, x_retN, x_if, x_raise, x_var, x_gv0, x_gvS, x_gvo0, x_gvoS, x_gb, x_gb0, x_gbO, x_gbS, x_c, x_op, x_cm, x_un, x_bf, x_isi, x_ix, x_ixO, x_ofO_some, x_anil, x_acons, x_tup, x_lst, x_eL, x_tb, x_nt, x_an, x_or, x_ent, x_ean, x_eor, x_eif, x_tT, x_tV, x_tY, x_call, x_callD, x_callK, x_cd1, x_cd2, x_cd3, x_cd4, x_st0, x_stS, x_stN, x_wh, x_for, x_iseq, x_ir1, x_ir2, x_add, x_sub, x_neg, x_dcmp, x_eqI, x_neI, x_absI, x_intI, x_gcdI, x_maxI, x_minI, x_lenL, x_lenT, x_ixL, x_ixT, x_at0, x_at1, x_sz0, x_sz1, x_sz2, x_sz3, x_gN, x_forN, x_for0, x_fB_nx, x_fB_ct, x_fB_bk, x_fB_rt, x_fB_er, x_iTT, x_iTL, x_iTI, x_iLT, x_iLL, x_iII, x_iBI, x_iSS, x_iBB, x_truB, x_itT, x_itL, x_try, RO.bind_ok, RO.bind_er, RO.pure_ok, List.set_cons_zero, List.set_cons_succ, List.cons_append, List.nil_append, if_true, if_false, ite_true, ite_false, reduceIte, Bool.false_eq_true, Bool.true_eq_false, Bool.not_true, Bool.not_false, x_len1, and_self, decide_eq_true_eq, decide_true, decide_false, eq_self, Bool.not_eq_true', decide_eq_false_iff_not, not_true_eq_false, not_false_eq_true, ne_eq, x_eqB, x_neB, x_intB, x_iIB, x_gT2, x_lLi, x_eTu, x_eTuO, x_eLeO, x_dSeqL, x_dSeqT, x_oN, x_oS, x_tI, x_sl, x_cutL, x_cutT, x_comp, x_app, x_asg, x_aug, wipeE, List.length_map, iT, ln, hG, isInt_i, j10, z1, z2, ie', e]
end KM
set_option Elab.async false
set_option linter.all false
set_option maxRecDepth 100000
set_option maxHeartbeats 4000000
namespace KM
open PySem PySem.Spec PyProof.Rows L2 PD
def kOk (k : Nat) : Lay → Bool
  | .su _ _ => decide (k % 2 = 0)
  | .be _ => decide (k % 2 = 1)
  | _ => false
def at_ (ls : List Lay) (k : Nat) : Lay := ls.getD k (.be [])
def plainB (ls : List Lay) : Bool := decide (ls.length % 2 = 1) && (List.range ls.length).all fun k => kOk k (at_ ls k)
theorem enR (ls : List Lay) : enD (ls.map Lay.d) = (List.range ls.length).map fun k => pr (.int (k : Nat)) (at_ ls k).d := by
  unfold enD at_
  refine List.ext_getElem (by simp) fun i h1 h2 => ?_
  have hi : i < ls.length := by simpa using h2
  simp [List.getD_eq_getElem?_getD, hi]
def kindsD : PyData := .tuple [.str (Str.ofString "sums"), .str (Str.ofString "bends")]
theorem kind_at (l : Lay) (k : Nat) : ∃ d e, dIx l.d (.int 0) = some d ∧ dIx kindsD (.int ((k : Int) % 2)) = some e ∧ dIx (.list [.str (Str.ofString "sums"), .str (Str.ofString "bends")]) (.int ((k : Int) % 2)) = some e ∧ dEq d e = some (.bool (kOk k l)) := by
  have e2 : ((k : Int) % 2) = ((k % 2 : Nat) : Int) := by omega
  rw [e2]
  have hk : k % 2 = 0 ∨ k % 2 = 1 := by omega
  rcases hk with hk | hk
  · cases l <;> (unfold kOk; simp only [hk]) <;> exact ⟨_, _, rfl, rfl, rfl, rfl⟩
  · cases l <;> (unfold kOk; simp only [hk]) <;> exact ⟨_, _, rfl, rfl, rfl, rfl⟩
theorem inTurn_ok {ls : List Lay} (l : ls.length ≤ 1000) : F_in_turn [.tuple (ls.map Lay.d)] = .ok (.bool (plainB ls)) := by
  have ln : cLen [.tuple (ls.map Lay.d)] = some (.int (ls.length : Int)) := by rw [len_T, List.length_map]
  have m : dMod (.int (ls.length : Nat)) (.int 2) = some (.int ((ls.length : Int) % 2)) := x_mod (by decide)
  by_cases ho : ls.length % 2 = 1
  · have g := compD_map (gg := gT 2 (gsC (gN 2) (gsC (gN 3) gsN))) (f := eOp dEq (eIx (eVar 3) (eC (.int 0))) (eIx (eVar 1) (eOp dMod (eVar 2) (eC (.int 2))))) (env := [some (.fz (.tuple (ls.map Lay.d))), some (.fz kindsD), none, none]) (fun k : Nat => pr (.int (k : Nat)) (at_ ls k).d) (fun k => PyData.bool (kOk k (at_ ls k))) (List.range ls.length) (by rw [List.length_range]; exact l) fun k hk => by
      obtain ⟨d, e, e1, e2, _, e3⟩ := kind_at (at_ ls k) k
      refine ⟨[some (.fz (.tuple (ls.map Lay.d))), some (.fz kindsD), some (.fz (.int (k : Nat))), some (.fz (at_ ls k).d)], rfl, ?_⟩
      have m : dMod (.int (k : Nat)) (.int 2) = some (.int ((k : Int) % 2)) := x_mod (by decide)
      simp (implicitDefEqProofs := false) only [x_run, x_out_nx, x_out_rt, x_out_er, x_seq, x_seq_nx, x_seq_rt, x_seq_er, x_seq_ct, x_seq_bk, x_ofR_ok, x_ofR_er, x_nx, x_bk, x_ct, x_set, x_setL, x_ret, x_drop, x_retN, x_if, x_raise, x_var, x_gv0, x_gvS, x_gvo0, x_gvoS, x_gb, x_gb0, x_gbO, x_gbS, x_c, x_op, x_cm, x_un, x_bf, x_isi, x_ix, x_ixO, x_ofO_some, x_anil, x_acons, x_tup, x_lst, x_eL, x_tb, x_nt, x_an, x_or, x_ent, x_ean, x_eor, x_eif, x_tT, x_tV, x_tY, x_call, x_callD, x_callK, x_cd1, x_cd2, x_cd3, x_cd4, x_st0, x_stS, x_stN, x_wh, x_for, x_iseq, x_ir1, x_ir2, x_add, x_sub, x_neg, x_dcmp, x_eqI, x_neI, x_absI, x_intI, x_gcdI, x_maxI, x_minI, x_lenL, x_lenT, x_ixL, x_ixT, x_at0, x_at1, x_sz0, x_sz1, x_sz2, x_sz3, x_gN, x_forN, x_for0, x_fB_nx, x_fB_ct, x_fB_bk, x_fB_rt, x_fB_er, x_iTT, x_iTL, x_iTI, x_iLT, x_iLL, x_iII, x_iBI, x_iSS, x_iBB, x_truB, x_itT, x_itL, x_try, RO.bind_ok, RO.bind_er, RO.pure_ok, List.set_cons_zero, List.set_cons_succ, List.cons_append, List.nil_append, if_true, if_false, ite_true, ite_false, reduceIte, Bool.false_eq_true, Bool.true_eq_false, Bool.not_true, Bool.not_false, x_len1, and_self, decide_eq_true_eq, decide_true, decide_false, eq_self, Bool.not_eq_true', decide_eq_false_iff_not, not_true_eq_false, not_false_eq_true, ne_eq, x_eqB, x_neB, x_intB, x_iIB, x_gT2, x_lLi, x_eTu, x_eTuO, x_eLeO, x_dSeqL, x_dSeqT, x_oN, x_oS, x_tI, x_sl, x_cutL, x_cutT, x_comp, x_app, x_asg, x_aug, wipeE, List.length_map, e1, m, e2, e3]
    rw [← enR] at g
    have c := all_map (fun k => kOk k (at_ ls k)) (List.range ls.length)
    have ie' : iEnu (eVar 0) [some (.fz (.tuple (ls.map Lay.d))), some (.fz kindsD), none, none] = .ok (enD (ls.map Lay.d)) := rfl
    have n1 : ((ls.length : Int) % 2 = 0) = False := eq_false (by omega)
    have kD : kindsD = .tuple [.str (Str.ofString "sums"), .str (Str.ofString "bends")] := rfl
    unfold plainB
    rw [decide_eq_true ho, Bool.true_and]
    unfold F_in_turn B_in_turn
    simp (implicitDefEqProofs := false) only [x_run, x_out_nx, x_out_rt, x_out_er, x_seq, x_seq_nx, x_seq_rt, x_seq_er, x_seq_ct, x_seq_bk, x_ofR_ok, x_ofR_er, x_nx, x_bk, x_ct, x_set, x_setL, x_ret, x_drop, x_retN, x_if, x_raise, x_var, x_gv0, x_gvS, x_gvo0, x_gvoS, x_gb, x_gb0, x_gbO, x_gbS, x_c, x_op, x_cm, x_un, x_bf, x_isi, x_ix, x_ixO, x_ofO_some, x_anil, x_acons, x_tup, x_lst, x_eL, x_tb, x_nt, x_an, x_or, x_ent, x_ean, x_eor, x_eif, x_tT, x_tV, x_tY, x_call, x_callD, x_callK, x_cd1, x_cd2, x_cd3, x_cd4, x_st0, x_stS, x_stN, x_wh, x_for, x_iseq, x_ir1, x_ir2, x_add, x_sub, x_neg, x_dcmp, x_eqI, x_neI, x_absI, x_intI, x_gcdI, x_maxI, x_minI, x_lenL, x_lenT, x_ixL, x_ixT, x_at0, x_at1, x_sz0, x_sz1, x_sz2, x_sz3, x_gN, x_forN, x_for0, x_fB_nx, x_fB_ct, x_fB_bk, x_fB_rt, x_fB_er, x_iTT, x_iTL, x_iTI, x_iLT, x_iLL, x_iII, x_iBI, x_iSS, x_iBB, x_truB, x_itT, x_itL, x_try, RO.bind_ok, RO.bind_er, RO.pure_ok, List.set_cons_zero, List.set_cons_succ, List.cons_append, List.nil_append, if_true, if_false, ite_true, ite_false, reduceIte, Bool.false_eq_true, Bool.true_eq_false, Bool.not_true, Bool.not_false, x_len1, and_self, decide_eq_true_eq, decide_true, decide_false, eq_self, Bool.not_eq_true', decide_eq_false_iff_not, not_true_eq_false, not_false_eq_true, ne_eq, x_eqB, x_neB, x_intB, x_iIB, x_gT2, x_lLi, x_eTu, x_eTuO, x_eLeO, x_dSeqL, x_dSeqT, x_oN, x_oS, x_tI, x_sl, x_cutL, x_cutT, x_comp, x_app, x_asg, x_aug, wipeE, List.length_map, ln, m, n1, ← kD, x_sz2, ie', g, c, wipeE]
  · have n1 : ((ls.length : Int) % 2 = 0) = True := eq_true (by omega)
    unfold plainB
    rw [decide_eq_false ho, Bool.false_and]
    unfold F_in_turn B_in_turn
    simp (implicitDefEqProofs := false) only [x_run, x_out_nx, x_out_rt, x_out_er, x_seq, x_seq_nx, x_seq_rt, x_seq_er, x_seq_ct, x_seq_bk, x_ofR_ok, x_ofR_er, x_nx, x_bk, x_ct, x_set, x_setL, x_ret, x_drop, x_retN, x_if, x_raise, x_var, x_gv0, x_gvS, x_gvo0, x_gvoS, x_gb, x_gb0, x_gbO, x_gbS, x_c, x_op, x_cm, x_un, x_bf, x_isi, x_ix, x_ixO, x_ofO_some, x_anil, x_acons, x_tup, x_lst, x_eL, x_tb, x_nt, x_an, x_or, x_ent, x_ean, x_eor, x_eif, x_tT, x_tV, x_tY, x_call, x_callD, x_callK, x_cd1, x_cd2, x_cd3, x_cd4, x_st0, x_stS, x_stN, x_wh, x_for, x_iseq, x_ir1, x_ir2, x_add, x_sub, x_neg, x_dcmp, x_eqI, x_neI, x_absI, x_intI, x_gcdI, x_maxI, x_minI, x_lenL, x_lenT, x_ixL, x_ixT, x_at0, x_at1, x_sz0, x_sz1, x_sz2, x_sz3, x_gN, x_forN, x_for0, x_fB_nx, x_fB_ct, x_fB_bk, x_fB_rt, x_fB_er, x_iTT, x_iTL, x_iTI, x_iLT, x_iLL, x_iII, x_iBI, x_iSS, x_iBB, x_truB, x_itT, x_itL, x_try, RO.bind_ok, RO.bind_er, RO.pure_ok, List.set_cons_zero, List.set_cons_succ, List.cons_append, List.nil_append, if_true, if_false, ite_true, ite_false, reduceIte, Bool.false_eq_true, Bool.true_eq_false, Bool.not_true, Bool.not_false, x_len1, and_self, decide_eq_true_eq, decide_true, decide_false, eq_self, Bool.not_eq_true', decide_eq_false_iff_not, not_true_eq_false, not_false_eq_true, ne_eq, x_eqB, x_neB, x_intB, x_iIB, x_gT2, x_lLi, x_eTu, x_eTuO, x_eLeO, x_dSeqL, x_dSeqT, x_oN, x_oS, x_tI, x_sl, x_cutL, x_cutT, x_comp, x_app, x_asg, x_aug, wipeE, List.length_map, ln, m, n1]
theorem net_ix0 {s : Nat} {ls : List Lay} : dIx (netD s ls) (.int 0) = some (.int (s : Nat)) := x_at0
theorem net_ix1 {s : Nat} {ls : List Lay} : dIx (netD s ls) (.int 1) = some (.tuple (ls.map Lay.d)) := x_at1
section
variable {s : Nat} {ls : List Lay} (h : OkL s ls) (h0 : 0 < s) (h4 : s ≤ 4) (hl : ls.length ≤ 200)
include h h0 h4 hl
theorem isPlain_ok : F_is_plain [netD s ls] = .ok (.bool (plainB ls)) := by
  unfold F_is_plain B_is_plain
  simp (implicitDefEqProofs := false) only [x_run, x_out_nx, x_out_rt, x_out_er, x_seq, x_seq_nx, x_seq_rt, x_seq_er, x_seq_ct, x_seq_bk, x_ofR_ok, x_ofR_er, x_nx, x_bk, x_ct, x_set, x_setL, x_ret, x_drop, x_retN, x_if, x_raise, x_var, x_gv0, x_gvS, x_gvo0, x_gvoS, x_gb, x_gb0, x_gbO, x_gbS, x_c, x_op, x_cm, x_un, x_bf, x_isi, x_ix, x_ixO, x_ofO_some, x_anil, x_acons, x_tup, x_lst, x_eL, x_tb, x_nt, x_an, x_or, x_ent, x_ean, x_eor, x_eif, x_tT, x_tV, x_tY, x_call, x_callD, x_callK, x_cd1, x_cd2, x_cd3, x_cd4, x_st0, x_stS, x_stN, x_wh, x_for, x_iseq, x_ir1, x_ir2, x_add, x_sub, x_neg, x_dcmp, x_eqI, x_neI, x_absI, x_intI, x_gcdI, x_maxI, x_minI, x_lenL, x_lenT, x_ixL, x_ixT, x_at0, x_at1, x_sz0, x_sz1, x_sz2, x_sz3, x_gN, x_forN, x_for0, x_fB_nx, x_fB_ct, x_fB_bk, x_fB_rt, x_fB_er, x_iTT, x_iTL, x_iTI, x_iLT, x_iLL, x_iII, x_iBI, x_iSS, x_iBB, x_truB, x_itT, x_itL, x_try, RO.bind_ok, RO.bind_er, RO.pure_ok, List.set_cons_zero, List.set_cons_succ, List.cons_append, List.nil_append, if_true, if_false, ite_true, ite_false, reduceIte, Bool.false_eq_true, Bool.true_eq_false, Bool.not_true, Bool.not_false, x_len1, and_self, decide_eq_true_eq, decide_true, decide_false, eq_self, Bool.not_eq_true', decide_eq_false_iff_not, not_true_eq_false, not_false_eq_true, ne_eq, x_eqB, x_neB, x_intB, x_iIB, x_gT2, x_lLi, x_eTu, x_eTuO, x_eLeO, x_dSeqL, x_dSeqT, x_oN, x_oS, x_tI, x_sl, x_cutL, x_cutT, x_comp, x_app, x_asg, x_aug, wipeE, List.length_map, check_ok h h0 h4, inTurn_ok (ls := ls) (by omega), net_ix1]
theorem checkPlain_yes (p : plainB ls = true) : F_check_plain [netD s ls] = .ok .none := by
  have i := inTurn_ok (ls := ls) (by omega)
  rw [p] at i
  unfold F_check_plain B_check_plain
  simp (implicitDefEqProofs := false) only [x_run, x_out_nx, x_out_rt, x_out_er, x_seq, x_seq_nx, x_seq_rt, x_seq_er, x_seq_ct, x_seq_bk, x_ofR_ok, x_ofR_er, x_nx, x_bk, x_ct, x_set, x_setL, x_ret, x_drop, x_retN, x_if, x_raise, x_var, x_gv0, x_gvS, x_gvo0, x_gvoS, x_gb, x_gb0, x_gbO, x_gbS, x_c, x_op, x_cm, x_un, x_bf, x_isi, x_ix, x_ixO, x_ofO_some, x_anil, x_acons, x_tup, x_lst, x_eL, x_tb, x_nt, x_an, x_or, x_ent, x_ean, x_eor, x_eif, x_tT, x_tV, x_tY, x_call, x_callD, x_callK, x_cd1, x_cd2, x_cd3, x_cd4, x_st0, x_stS, x_stN, x_wh, x_for, x_iseq, x_ir1, x_ir2, x_add, x_sub, x_neg, x_dcmp, x_eqI, x_neI, x_absI, x_intI, x_gcdI, x_maxI, x_minI, x_lenL, x_lenT, x_ixL, x_ixT, x_at0, x_at1, x_sz0, x_sz1, x_sz2, x_sz3, x_gN, x_forN, x_for0, x_fB_nx, x_fB_ct, x_fB_bk, x_fB_rt, x_fB_er, x_iTT, x_iTL, x_iTI, x_iLT, x_iLL, x_iII, x_iBI, x_iSS, x_iBB, x_truB, x_itT, x_itL, x_try, RO.bind_ok, RO.bind_er, RO.pure_ok, List.set_cons_zero, List.set_cons_succ, List.cons_append, List.nil_append, if_true, if_false, ite_true, ite_false, reduceIte, Bool.false_eq_true, Bool.true_eq_false, Bool.not_true, Bool.not_false, x_len1, and_self, decide_eq_true_eq, decide_true, decide_false, eq_self, Bool.not_eq_true', decide_eq_false_iff_not, not_true_eq_false, not_false_eq_true, ne_eq, x_eqB, x_neB, x_intB, x_iIB, x_gT2, x_lLi, x_eTu, x_eTuO, x_eLeO, x_dSeqL, x_dSeqT, x_oN, x_oS, x_tI, x_sl, x_cutL, x_cutT, x_comp, x_app, x_asg, x_aug, wipeE, List.length_map, check_ok h h0 h4, i, net_ix1]
theorem checkPlain_no (p : plainB ls = false) : F_check_plain [netD s ls] = .er (Str.ofString "BadNetwork") [(Str.ofString "reason", .str (Str.ofString "plain")), (Str.ofString "layer", .int (-1))] := by
  have i := inTurn_ok (ls := ls) (by omega)
  rw [p] at i
  have r : sRaise2 (Str.ofString "BadNetwork") (Str.ofString "layer") (Str.ofString "reason") (aCons (eUn dNeg (eC (.int 1))) (aCons (eC (.str (Str.ofString "plain"))) aNil)) [some (.fz (netD s ls))] = .er [some (.fz (netD s ls))] (Str.ofString "BadNetwork") [(Str.ofString "reason", .str (Str.ofString "plain")), (Str.ofString "layer", .int (-1))] := rfl
  unfold F_check_plain B_check_plain
  simp (implicitDefEqProofs := false) only [x_run, x_out_nx, x_out_rt, x_out_er, x_seq, x_seq_nx, x_seq_rt, x_seq_er, x_seq_ct, x_seq_bk, x_ofR_ok, x_ofR_er, x_nx, x_bk, x_ct, x_set, x_setL, x_ret, x_drop, x_retN, x_if, x_raise, x_var, x_gv0, x_gvS, x_gvo0, x_gvoS, x_gb, x_gb0, x_gbO, x_gbS, x_c, x_op, x_cm, x_un, x_bf, x_isi, x_ix, x_ixO, x_ofO_some, x_anil, x_acons, x_tup, x_lst, x_eL, x_tb, x_nt, x_an, x_or, x_ent, x_ean, x_eor, x_eif, x_tT, x_tV, x_tY, x_call, x_callD, x_callK, x_cd1, x_cd2, x_cd3, x_cd4, x_st0, x_stS, x_stN, x_wh, x_for, x_iseq, x_ir1, x_ir2, x_add, x_sub, x_neg, x_dcmp, x_eqI, x_neI, x_absI, x_intI, x_gcdI, x_maxI, x_minI, x_lenL, x_lenT, x_ixL, x_ixT, x_at0, x_at1, x_sz0, x_sz1, x_sz2, x_sz3, x_gN, x_forN, x_for0, x_fB_nx, x_fB_ct, x_fB_bk, x_fB_rt, x_fB_er, x_iTT, x_iTL, x_iTI, x_iLT, x_iLL, x_iII, x_iBI, x_iSS, x_iBB, x_truB, x_itT, x_itL, x_try, RO.bind_ok, RO.bind_er, RO.pure_ok, List.set_cons_zero, List.set_cons_succ, List.cons_append, List.nil_append, if_true, if_false, ite_true, ite_false, reduceIte, Bool.false_eq_true, Bool.true_eq_false, Bool.not_true, Bool.not_false, x_len1, and_self, decide_eq_true_eq, decide_true, decide_false, eq_self, Bool.not_eq_true', decide_eq_false_iff_not, not_true_eq_false, not_false_eq_true, ne_eq, x_eqB, x_neB, x_intB, x_iIB, x_gT2, x_lLi, x_eTu, x_eTuO, x_eLeO, x_dSeqL, x_dSeqT, x_oN, x_oS, x_tI, x_sl, x_cutL, x_cutT, x_comp, x_app, x_asg, x_aug, wipeE, List.length_map, check_ok h h0 h4, i, net_ix1, r]
theorem lawChecked_ok : F__law_checked [netD s ls] = .ok (if plainB ls then .none else .tuple [.int (-1), .str (Str.ofString "plain")]) := by
  cases p : plainB ls with
  | true =>
    unfold F__law_checked B__law_checked
    simp (implicitDefEqProofs := false) only [x_run, x_out_nx, x_out_rt, x_out_er, x_seq, x_seq_nx, x_seq_rt, x_seq_er, x_seq_ct, x_seq_bk, x_ofR_ok, x_ofR_er, x_nx, x_bk, x_ct, x_set, x_setL, x_ret, x_drop, x_retN, x_if, x_raise, x_var, x_gv0, x_gvS, x_gvo0, x_gvoS, x_gb, x_gb0, x_gbO, x_gbS, x_c, x_op, x_cm, x_un, x_bf, x_isi, x_ix, x_ixO, x_ofO_some, x_anil, x_acons, x_tup, x_lst, x_eL, x_tb, x_nt, x_an, x_or, x_ent, x_ean, x_eor, x_eif, x_tT, x_tV, x_tY, x_call, x_callD, x_callK, x_cd1, x_cd2, x_cd3, x_cd4, x_st0, x_stS, x_stN, x_wh, x_for, x_iseq, x_ir1, x_ir2, x_add, x_sub, x_neg, x_dcmp, x_eqI, x_neI, x_absI, x_intI, x_gcdI, x_maxI, x_minI, x_lenL, x_lenT, x_ixL, x_ixT, x_at0, x_at1, x_sz0, x_sz1, x_sz2, x_sz3, x_gN, x_forN, x_for0, x_fB_nx, x_fB_ct, x_fB_bk, x_fB_rt, x_fB_er, x_iTT, x_iTL, x_iTI, x_iLT, x_iLL, x_iII, x_iBI, x_iSS, x_iBB, x_truB, x_itT, x_itL, x_try, RO.bind_ok, RO.bind_er, RO.pure_ok, List.set_cons_zero, List.set_cons_succ, List.cons_append, List.nil_append, if_true, if_false, ite_true, ite_false, reduceIte, Bool.false_eq_true, Bool.true_eq_false, Bool.not_true, Bool.not_false, x_len1, and_self, decide_eq_true_eq, decide_true, decide_false, eq_self, Bool.not_eq_true', decide_eq_false_iff_not, not_true_eq_false, not_false_eq_true, ne_eq, x_eqB, x_neB, x_intB, x_iIB, x_gT2, x_lLi, x_eTu, x_eTuO, x_eLeO, x_dSeqL, x_dSeqT, x_oN, x_oS, x_tI, x_sl, x_cutL, x_cutT, x_comp, x_app, x_asg, x_aug, wipeE, List.length_map, checkPlain_yes h h0 h4 hl p, x_try]
    rfl
  | false =>
    unfold F__law_checked B__law_checked
    simp (implicitDefEqProofs := false) only [x_run, x_out_nx, x_out_rt, x_out_er, x_seq, x_seq_nx, x_seq_rt, x_seq_er, x_seq_ct, x_seq_bk, x_ofR_ok, x_ofR_er, x_nx, x_bk, x_ct, x_set, x_setL, x_ret, x_drop, x_retN, x_if, x_raise, x_var, x_gv0, x_gvS, x_gvo0, x_gvoS, x_gb, x_gb0, x_gbO, x_gbS, x_c, x_op, x_cm, x_un, x_bf, x_isi, x_ix, x_ixO, x_ofO_some, x_anil, x_acons, x_tup, x_lst, x_eL, x_tb, x_nt, x_an, x_or, x_ent, x_ean, x_eor, x_eif, x_tT, x_tV, x_tY, x_call, x_callD, x_callK, x_cd1, x_cd2, x_cd3, x_cd4, x_st0, x_stS, x_stN, x_wh, x_for, x_iseq, x_ir1, x_ir2, x_add, x_sub, x_neg, x_dcmp, x_eqI, x_neI, x_absI, x_intI, x_gcdI, x_maxI, x_minI, x_lenL, x_lenT, x_ixL, x_ixT, x_at0, x_at1, x_sz0, x_sz1, x_sz2, x_sz3, x_gN, x_forN, x_for0, x_fB_nx, x_fB_ct, x_fB_bk, x_fB_rt, x_fB_er, x_iTT, x_iTL, x_iTI, x_iLT, x_iLL, x_iII, x_iBI, x_iSS, x_iBB, x_truB, x_itT, x_itL, x_try, RO.bind_ok, RO.bind_er, RO.pure_ok, List.set_cons_zero, List.set_cons_succ, List.cons_append, List.nil_append, if_true, if_false, ite_true, ite_false, reduceIte, Bool.false_eq_true, Bool.true_eq_false, Bool.not_true, Bool.not_false, x_len1, and_self, decide_eq_true_eq, decide_true, decide_false, eq_self, Bool.not_eq_true', decide_eq_false_iff_not, not_true_eq_false, not_false_eq_true, ne_eq, x_eqB, x_neB, x_intB, x_iIB, x_gT2, x_lLi, x_eTu, x_eTuO, x_eLeO, x_dSeqL, x_dSeqT, x_oN, x_oS, x_tI, x_sl, x_cutL, x_cutT, x_comp, x_app, x_asg, x_aug, wipeE, List.length_map, checkPlain_no h h0 h4 hl p, x_try]
    rfl
end
end KM
set_option Elab.async false
set_option linter.all false
set_option maxRecDepth 100000
set_option maxHeartbeats 4000000
namespace KM
open PySem PySem.Spec PyProof.Rows L2 PD
theorem at_mem {ls : List Lay} {k : Nat} (h : k < ls.length) : atI (ls.map Lay.d) (k : Int) = some (at_ ls k).d := by
  refine atI_nat ?_
  unfold at_
  rw [List.getElem?_map, List.getD_eq_getElem?_getD, List.getElem?_eq_getElem h]
  rfl
def kst (l : Lay) : PyData := match l with
  | .su _ _ => .str (Str.ofString "sums")
  | .be _ => .str (Str.ofString "bends")
  | .gr _ => .str (Str.ofString "greatest")
  | .wi _ _ _ => .str (Str.ofString "window")
theorem ix_kst (l : Lay) : dIx l.d (.int 0) = some (kst l) := by cases l <;> rfl
theorem lawPlain_ok {s : Nat} {ls : List Lay} (hl : ls.length ≤ 1000) : F__law_plain [netD s ls] = .ok (.bool (plainB ls)) := by
  have it : dIter (.tuple (ls.map Lay.d)) = .ok (ls.map Lay.d) := rfl
  have g1 := compD_map (gg := gN 2) (f := eIx (eVar 2) (eC (.int 0))) (env := [some (.fz (netD s ls)), none, none, none]) Lay.d kst ls hl fun l _ => by
    refine ⟨_, rfl, ?_⟩
    simp (implicitDefEqProofs := false) only [x_run, x_out_nx, x_out_rt, x_out_er, x_seq, x_seq_nx, x_seq_rt, x_seq_er, x_seq_ct, x_seq_bk, x_ofR_ok, x_ofR_er, x_nx, x_bk, x_ct, x_set, x_setL, x_ret, x_drop, x_retN, x_if, x_raise, x_var, x_gv0, x_gvS, x_gvo0, x_gvoS, x_gb, x_gb0, x_gbO, x_gbS, x_c, x_op, x_cm, x_un, x_bf, x_isi, x_ix, x_ixO, x_ofO_some, x_anil, x_acons, x_tup, x_lst, x_eL, x_tb, x_nt, x_an, x_or, x_ent, x_ean, x_eor, x_eif, x_tT, x_tV, x_tY, x_call, x_callD, x_callK, x_cd1, x_cd2, x_cd3, x_cd4, x_st0, x_stS, x_stN, x_wh, x_for, x_iseq, x_ir1, x_ir2, x_add, x_sub, x_neg, x_dcmp, x_eqI, x_neI, x_absI, x_intI, x_gcdI, x_maxI, x_minI, x_lenL, x_lenT, x_ixL, x_ixT, x_at0, x_at1, x_sz0, x_sz1, x_sz2, x_sz3, x_gN, x_forN, x_for0, x_fB_nx, x_fB_ct, x_fB_bk, x_fB_rt, x_fB_er, x_iTT, x_iTL, x_iTI, x_iLT, x_iLL, x_iII, x_iBI, x_iSS, x_iBB, x_truB, x_itT, x_itL, x_try, RO.bind_ok, RO.bind_er, RO.pure_ok, List.set_cons_zero, List.set_cons_succ, List.cons_append, List.nil_append, if_true, if_false, ite_true, ite_false, reduceIte, Bool.false_eq_true, Bool.true_eq_false, Bool.not_true, Bool.not_false, x_len1, and_self, decide_eq_true_eq, decide_true, decide_false, eq_self, Bool.not_eq_true', decide_eq_false_iff_not, not_true_eq_false, not_false_eq_true, ne_eq, x_eqB, x_neB, x_intB, x_iIB, x_gT2, x_lLi, x_eTu, x_eTuO, x_eLeO, x_dSeqL, x_dSeqT, x_oN, x_oS, x_tI, x_sl, x_cutL, x_cutT, x_comp, x_app, x_asg, x_aug, wipeE, List.length_map, ix_kst]
  have ln : cLen [.list (ls.map kst)] = some (.int (ls.length : Int)) := by show some (PyData.int ((ls.map kst).length : Int)) = _; rw [List.length_map]
  have m : dMod (.int (ls.length : Nat)) (.int 2) = some (.int ((ls.length : Int) % 2)) := x_mod (by decide)
  by_cases ho : ls.length % 2 = 1
  · have g := compR (i := 3) (n := ls.length) (f := eOp dEq (eIx (eVar 1) (eVar 3)) (eIx (eL (lLst (aCons (eC (.str "sums")) (aCons (eC (.str "bends")) aNil)))) (eOp dMod (eVar 3) (eC (.int 2))))) (env := [some (.fz (netD s ls)), some (.fz (.list (ls.map kst))), none, none]) (fun k => PyData.bool (kOk k (at_ ls k))) hl fun k hk => by
      obtain ⟨d, e, e1, _, e2, e3⟩ := kind_at (at_ ls k) k
      have ek : (0 : Int) + (k : Int) = (k : Int) := by omega
      have m : dMod (.int (k : Nat)) (.int 2) = some (.int ((k : Int) % 2)) := x_mod (by decide)
      have i1 : dIx (.list (ls.map kst)) (.int (k : Int)) = some d := by
        have : kst (at_ ls k) = d := Option.some.inj ((ix_kst _).symm.trans e1)
        rw [← this]
        show atI _ _ = _
        refine atI_nat ?_
        unfold at_
        rw [List.getElem?_map, List.getD_eq_getElem?_getD, List.getElem?_eq_getElem hk]
        rfl
      simp (implicitDefEqProofs := false) only [x_run, x_out_nx, x_out_rt, x_out_er, x_seq, x_seq_nx, x_seq_rt, x_seq_er, x_seq_ct, x_seq_bk, x_ofR_ok, x_ofR_er, x_nx, x_bk, x_ct, x_set, x_setL, x_ret, x_drop, x_retN, x_if, x_raise, x_var, x_gv0, x_gvS, x_gvo0, x_gvoS, x_gb, x_gb0, x_gbO, x_gbS, x_c, x_op, x_cm, x_un, x_bf, x_isi, x_ix, x_ixO, x_ofO_some, x_anil, x_acons, x_tup, x_lst, x_eL, x_tb, x_nt, x_an, x_or, x_ent, x_ean, x_eor, x_eif, x_tT, x_tV, x_tY, x_call, x_callD, x_callK, x_cd1, x_cd2, x_cd3, x_cd4, x_st0, x_stS, x_stN, x_wh, x_for, x_iseq, x_ir1, x_ir2, x_add, x_sub, x_neg, x_dcmp, x_eqI, x_neI, x_absI, x_intI, x_gcdI, x_maxI, x_minI, x_lenL, x_lenT, x_ixL, x_ixT, x_at0, x_at1, x_sz0, x_sz1, x_sz2, x_sz3, x_gN, x_forN, x_for0, x_fB_nx, x_fB_ct, x_fB_bk, x_fB_rt, x_fB_er, x_iTT, x_iTL, x_iTI, x_iLT, x_iLL, x_iII, x_iBI, x_iSS, x_iBB, x_truB, x_itT, x_itL, x_try, RO.bind_ok, RO.bind_er, RO.pure_ok, List.set_cons_zero, List.set_cons_succ, List.cons_append, List.nil_append, if_true, if_false, ite_true, ite_false, reduceIte, Bool.false_eq_true, Bool.true_eq_false, Bool.not_true, Bool.not_false, x_len1, and_self, decide_eq_true_eq, decide_true, decide_false, eq_self, Bool.not_eq_true', decide_eq_false_iff_not, not_true_eq_false, not_false_eq_true, ne_eq, x_eqB, x_neB, x_intB, x_iIB, x_gT2, x_lLi, x_eTu, x_eTuO, x_eLeO, x_dSeqL, x_dSeqT, x_oN, x_oS, x_tI, x_sl, x_cutL, x_cutT, x_comp, x_app, x_asg, x_aug, wipeE, List.length_map, ek, i1, m, x_sz2, e2, e3]
    have cr := rng1_ok (n := ls.length) hl
    have g' : compD (gN 3) tY (eOp dEq (eIx (eVar 1) (eVar 3)) (eIx (eL (lLst (aCons (eC (.str "sums")) (aCons (eC (.str "bends")) aNil)))) (eOp dMod (eVar 3) (eC (.int 2))))) [some (.fz (netD s ls)), some (.fz (.list (ls.map kst))), none, none] (rngItems 0 ls.length) = _ := g
    have c := all_map (fun k => kOk k (at_ ls k)) (List.range ls.length)
    have n1 : ((ls.length : Int) % 2 = 0) = False := eq_false (by omega)
    unfold plainB
    rw [decide_eq_true ho, Bool.true_and]
    unfold F__law_plain B__law_plain
    simp (implicitDefEqProofs := false) only [x_run, x_out_nx, x_out_rt, x_out_er, x_seq, x_seq_nx, x_seq_rt, x_seq_er, x_seq_ct, x_seq_bk, x_ofR_ok, x_ofR_er, x_nx, x_bk, x_ct, x_set, x_setL, x_ret, x_drop, x_retN, x_if, x_raise, x_var, x_gv0, x_gvS, x_gvo0, x_gvoS, x_gb, x_gb0, x_gbO, x_gbS, x_c, x_op, x_cm, x_un, x_bf, x_isi, x_ix, x_ixO, x_ofO_some, x_anil, x_acons, x_tup, x_lst, x_eL, x_tb, x_nt, x_an, x_or, x_ent, x_ean, x_eor, x_eif, x_tT, x_tV, x_tY, x_call, x_callD, x_callK, x_cd1, x_cd2, x_cd3, x_cd4, x_st0, x_stS, x_stN, x_wh, x_for, x_iseq, x_ir1, x_ir2, x_add, x_sub, x_neg, x_dcmp, x_eqI, x_neI, x_absI, x_intI, x_gcdI, x_maxI, x_minI, x_lenL, x_lenT, x_ixL, x_ixT, x_at0, x_at1, x_sz0, x_sz1, x_sz2, x_sz3, x_gN, x_forN, x_for0, x_fB_nx, x_fB_ct, x_fB_bk, x_fB_rt, x_fB_er, x_iTT, x_iTL, x_iTI, x_iLT, x_iLL, x_iII, x_iBI, x_iSS, x_iBB, x_truB, x_itT, x_itL, x_try, RO.bind_ok, RO.bind_er, RO.pure_ok, List.set_cons_zero, List.set_cons_succ, List.cons_append, List.nil_append, if_true, if_false, ite_true, ite_false, reduceIte, Bool.false_eq_true, Bool.true_eq_false, Bool.not_true, Bool.not_false, x_len1, and_self, decide_eq_true_eq, decide_true, decide_false, eq_self, Bool.not_eq_true', decide_eq_false_iff_not, not_true_eq_false, not_false_eq_true, ne_eq, x_eqB, x_neB, x_intB, x_iIB, x_gT2, x_lLi, x_eTu, x_eTuO, x_eLeO, x_dSeqL, x_dSeqT, x_oN, x_oS, x_tI, x_sl, x_cutL, x_cutT, x_comp, x_app, x_asg, x_aug, wipeE, List.length_map, net_ix1, it, wipeE, g1, ln, m, n1, cr, g', c]
  · have n1 : ((ls.length : Int) % 2 = 0) = True := eq_true (by omega)
    unfold plainB
    rw [decide_eq_false ho, Bool.false_and]
    unfold F__law_plain B__law_plain
    simp (implicitDefEqProofs := false) only [x_run, x_out_nx, x_out_rt, x_out_er, x_seq, x_seq_nx, x_seq_rt, x_seq_er, x_seq_ct, x_seq_bk, x_ofR_ok, x_ofR_er, x_nx, x_bk, x_ct, x_set, x_setL, x_ret, x_drop, x_retN, x_if, x_raise, x_var, x_gv0, x_gvS, x_gvo0, x_gvoS, x_gb, x_gb0, x_gbO, x_gbS, x_c, x_op, x_cm, x_un, x_bf, x_isi, x_ix, x_ixO, x_ofO_some, x_anil, x_acons, x_tup, x_lst, x_eL, x_tb, x_nt, x_an, x_or, x_ent, x_ean, x_eor, x_eif, x_tT, x_tV, x_tY, x_call, x_callD, x_callK, x_cd1, x_cd2, x_cd3, x_cd4, x_st0, x_stS, x_stN, x_wh, x_for, x_iseq, x_ir1, x_ir2, x_add, x_sub, x_neg, x_dcmp, x_eqI, x_neI, x_absI, x_intI, x_gcdI, x_maxI, x_minI, x_lenL, x_lenT, x_ixL, x_ixT, x_at0, x_at1, x_sz0, x_sz1, x_sz2, x_sz3, x_gN, x_forN, x_for0, x_fB_nx, x_fB_ct, x_fB_bk, x_fB_rt, x_fB_er, x_iTT, x_iTL, x_iTI, x_iLT, x_iLL, x_iII, x_iBI, x_iSS, x_iBB, x_truB, x_itT, x_itL, x_try, RO.bind_ok, RO.bind_er, RO.pure_ok, List.set_cons_zero, List.set_cons_succ, List.cons_append, List.nil_append, if_true, if_false, ite_true, ite_false, reduceIte, Bool.false_eq_true, Bool.true_eq_false, Bool.not_true, Bool.not_false, x_len1, and_self, decide_eq_true_eq, decide_true, decide_false, eq_self, Bool.not_eq_true', decide_eq_false_iff_not, not_true_eq_false, not_false_eq_true, ne_eq, x_eqB, x_neB, x_intB, x_iIB, x_gT2, x_lLi, x_eTu, x_eTuO, x_eLeO, x_dSeqL, x_dSeqT, x_oN, x_oS, x_tI, x_sl, x_cutL, x_cutT, x_comp, x_app, x_asg, x_aug, wipeE, List.length_map, net_ix1, it, wipeE, g1, ln, m, n1]
/-! ### the places of the units -/
def pD (p : Nat × Nat) : PyData := .tuple [.int (p.1 : Int), .int (p.2 : Int)]
def pl (k : Nat) (fs : List Bool) : List (Nat × Nat) := ((List.range fs.length).filter fun a => fs.getD a false).map fun a => (k, a)
def pls : Nat → List Lay → List (Nat × Nat)
  | _, [] => []
  | k, .be fs :: ls => pl k fs ++ pls (k + 1) ls
  | k, _ :: ls => pls (k + 1) ls
theorem pl_len {k : Nat} {fs : List Bool} : (pl k fs).length ≤ fs.length := by
  unfold pl
  rw [List.length_map]
  exact Nat.le_trans (List.length_filter_le _ _) (by rw [List.length_range]; exact Nat.le_refl _)
theorem pls_len : ∀ (ls : List Lay) (s k : Nat), OkL s ls → 0 < s → s ≤ 4 → (pls k ls).length ≤ 4 * ls.length
  | [], s, k, _, _, _ => Nat.zero_le _
  | l :: ls, s, k, h, h0, h4 => by
    have ih := pls_len ls (l.out s) (k + 1) h.2 (Lay.out_ok h.1 h0 h4).1 (Lay.out_ok h.1 h0 h4).2
    rw [List.length_cons]
    cases l with
    | be fs =>
      show (pl k fs ++ pls (k + 1) ls).length ≤ _
      rw [List.length_append]
      have := pl_len (k := k) (fs := fs)
      have : fs.length = s := h.1
      omega
    | su M v => show (pls (k + 1) ls).length ≤ _; omega
    | gr gs => show (pls (k + 1) ls).length ≤ _; omega
    | wi a b c => show (pls (k + 1) ls).length ≤ _; omega
theorem enB (fs : List Bool) : enD (fs.map PyData.bool) = (List.range fs.length).map fun a => pr (.int (a : Nat)) (.bool (fs.getD a false)) := by
  unfold enD
  refine List.ext_getElem (by simp) fun i h1 h2 => ?_
  have hi : i < fs.length := by simpa using h2
  simp [List.getD_eq_getElem?_getD, hi]
def upB : S := (sIf (tCm dEq (eIx (eVar 3) (eC (.int 0))) (eC (.str "bends"))) (sExt 1 (lComp (iEnu (eIx (eVar 3) (eC (.int 1)))) (gT 2 (gsC (gN 4) (gsC (gN 5) gsN))) (tT (eVar 5)) (eTup (aCons (eVar 2) (aCons (eVar 4) aNil))) [4, 5])) sNx)
def upG : G := (gT 2 (gsC (gN 2) (gsC (gN 3) gsN)))
theorem up_g {i d : PyData} {x0 x1 x2 x3 x4 x5 : Option SV} : upG (pr i d) [x0, x1, x2, x3, x4, x5] = .ok [x0, x1, some (.fz i), some (.fz d), x4, x5] := rfl
theorem x_ext {i : Nat} {fl : A} {env : PD.Env} : sExt i fl env = ofR (gvo env i) env fun xs => ofR (fl env) env fun ys => if xs.length + ys.length ≤ sizeLine then .nx (env.set i (some (.own (xs ++ ys)))) else .no := rfl
theorem up_loop {x0 : Option SV} : ∀ (ls : List Lay) (s k : Nat) (acc : List (Nat × Nat)) (x2 x3 x4 x5 : Option SV), OkL s ls → 0 < s → s ≤ 4 → acc.length + 4 * ls.length ≤ 1000 → ∃ y2 y3 y4 y5, forGo upG upB (en k ls) [x0, some (.own (acc.map pD)), x2, x3, x4, x5] = .nx [x0, some (.own ((acc ++ pls k ls).map pD)), y2, y3, y4, y5]
  | [], s, k, acc, x2, x3, x4, x5, _, _, _, _ => ⟨x2, x3, x4, x5, by rw [show pls k [] = [] from rfl, List.append_nil]; rfl⟩
  | l :: ls, s, k, acc, x2, x3, x4, x5, h, h0, h4, ha => by
    rw [List.length_cons] at ha
    obtain ⟨o0, o4⟩ := Lay.out_ok h.1 h0 h4
    have other : (∀ fs, l ≠ .be fs) → ∃ y2 y3 y4 y5, forGo upG upB (en k (l :: ls)) [x0, some (.own (acc.map pD)), x2, x3, x4, x5] = .nx [x0, some (.own ((acc ++ pls k (l :: ls)).map pD)), y2, y3, y4, y5] := fun hne => by
      obtain ⟨y2, y3, y4, y5, e⟩ := up_loop (x0 := x0) ls (l.out s) (k + 1) acc (some (.fz (.int (k : Nat)))) (some (.fz l.d)) x4 x5 h.2 o0 o4 (by omega)
      have hp : pls k (l :: ls) = pls (k + 1) ls := by cases l <;> first | rfl | exact absurd rfl (hne _)
      refine ⟨y2, y3, y4, y5, ?_⟩
      show forGo upG upB (pr (.int (k : Nat)) l.d :: en (k + 1) ls) _ = _
      rw [forGo_cons up_g (e2 := [x0, some (.own (acc.map pD)), some (.fz (.int (k : Nat))), some (.fz l.d), x4, x5]), e, hp]
      have q : dEq (kst l) (.str (Str.ofString "bends")) = some (.bool false) := by cases l <;> first | rfl | exact absurd rfl (hne _)
      unfold upB
      simp (implicitDefEqProofs := false) only [x_run, x_out_nx, x_out_rt, x_out_er, x_seq, x_seq_nx, x_seq_rt, x_seq_er, x_seq_ct, x_seq_bk, x_ofR_ok, x_ofR_er, x_nx, x_bk, x_ct, x_set, x_setL, x_ret, x_drop, x_retN, x_if, x_raise, x_var, x_gv0, x_gvS, x_gvo0, x_gvoS, x_gb, x_gb0, x_gbO, x_gbS, x_c, x_op, x_cm, x_un, x_bf, x_isi, x_ix, x_ixO, x_ofO_some, x_anil, x_acons, x_tup, x_lst, x_eL, x_tb, x_nt, x_an, x_or, x_ent, x_ean, x_eor, x_eif, x_tT, x_tV, x_tY, x_call, x_callD, x_callK, x_cd1, x_cd2, x_cd3, x_cd4, x_st0, x_stS, x_stN, x_wh, x_for, x_iseq, x_ir1, x_ir2, x_add, x_sub, x_neg, x_dcmp, x_eqI, x_neI, x_absI, x_intI, x_gcdI, x_maxI, x_minI, x_lenL, x_lenT, x_ixL, x_ixT, x_at0, x_at1, x_sz0, x_sz1, x_sz2, x_sz3, x_gN, x_forN, x_for0, x_fB_nx, x_fB_ct, x_fB_bk, x_fB_rt, x_fB_er, x_iTT, x_iTL, x_iTI, x_iLT, x_iLL, x_iII, x_iBI, x_iSS, x_iBB, x_truB, x_itT, x_itL, x_try, RO.bind_ok, RO.bind_er, RO.pure_ok, List.set_cons_zero, List.set_cons_succ, List.cons_append, List.nil_append, if_true, if_false, ite_true, ite_false, reduceIte, Bool.false_eq_true, Bool.true_eq_false, Bool.not_true, Bool.not_false, x_len1, and_self, decide_eq_true_eq, decide_true, decide_false, eq_self, Bool.not_eq_true', decide_eq_false_iff_not, not_true_eq_false, not_false_eq_true, ne_eq, x_eqB, x_neB, x_intB, x_iIB, x_gT2, x_lLi, x_eTu, x_eTuO, x_eLeO, x_dSeqL, x_dSeqT, x_oN, x_oS, x_tI, x_sl, x_cutL, x_cutT, x_comp, x_app, x_asg, x_aug, wipeE, List.length_map, ix_kst, q]
    cases l with
    | su M v => exact other fun fs z => by cases z
    | gr gs => exact other fun fs z => by cases z
    | wi a b c => exact other fun fs z => by cases z
    | be fs =>
      have hf : fs.length = s := h.1
      have hpl := pl_len (k := k) (fs := fs)
      obtain ⟨y2, y3, y4, y5, e⟩ := up_loop (x0 := x0) ls s (k + 1) (acc ++ pl k fs) (some (.fz (.int (k : Nat)))) (some (.fz (Lay.d (.be fs)))) x4 x5 h.2 h0 h4 (by rw [List.length_append]; omega)
      refine ⟨y2, y3, y4, y5, ?_⟩
      show forGo upG upB (pr (.int (k : Nat)) (Lay.d (.be fs)) :: en (k + 1) ls) _ = _
      have g := compD_filter (gg := gT 2 (gsC (gN 4) (gsC (gN 5) gsN))) (t := tT (eVar 5)) (f := eTup (aCons (eVar 2) (aCons (eVar 4) aNil))) (env := [x0, some (.own (acc.map pD)), some (.fz (.int (k : Nat))), some (.fz (Lay.d (.be fs))), none, none]) (fun a : Nat => pr (.int (a : Nat)) (.bool (fs.getD a false))) (fun a => fs.getD a false) (fun a => pD (k, a)) (List.range fs.length) (by rw [List.length_range]; omega) fun a ha => by
        refine ⟨[x0, some (.own (acc.map pD)), some (.fz (.int (k : Nat))), some (.fz (Lay.d (.be fs))), some (.fz (.int (a : Nat))), some (.fz (.bool (fs.getD a false)))], rfl, rfl, fun _ => ?_⟩
        simp (implicitDefEqProofs := false) only [x_run, x_out_nx, x_out_rt, x_out_er, x_seq, x_seq_nx, x_seq_rt, x_seq_er, x_seq_ct, x_seq_bk, x_ofR_ok, x_ofR_er, x_nx, x_bk, x_ct, x_set, x_setL, x_ret, x_drop, x_retN, x_if, x_raise, x_var, x_gv0, x_gvS, x_gvo0, x_gvoS, x_gb, x_gb0, x_gbO, x_gbS, x_c, x_op, x_cm, x_un, x_bf, x_isi, x_ix, x_ixO, x_ofO_some, x_anil, x_acons, x_tup, x_lst, x_eL, x_tb, x_nt, x_an, x_or, x_ent, x_ean, x_eor, x_eif, x_tT, x_tV, x_tY, x_call, x_callD, x_callK, x_cd1, x_cd2, x_cd3, x_cd4, x_st0, x_stS, x_stN, x_wh, x_for, x_iseq, x_ir1, x_ir2, x_add, x_sub, x_neg, x_dcmp, x_eqI, x_neI, x_absI, x_intI, x_gcdI, x_maxI, x_minI, x_lenL, x_lenT, x_ixL, x_ixT, x_at0, x_at1, x_sz0, x_sz1, x_sz2, x_sz3, x_gN, x_forN, x_for0, x_fB_nx, x_fB_ct, x_fB_bk, x_fB_rt, x_fB_er, x_iTT, x_iTL, x_iTI, x_iLT, x_iLL, x_iII, x_iBI, x_iSS, x_iBB, x_truB, x_itT, x_itL, x_try, RO.bind_ok, RO.bind_er, RO.pure_ok, List.set_cons_zero, List.set_cons_succ, List.cons_append, List.nil_append, if_true, if_false, ite_true, ite_false, reduceIte, Bool.false_eq_true, Bool.true_eq_false, Bool.not_true, Bool.not_false, x_len1, and_self, decide_eq_true_eq, decide_true, decide_false, eq_self, Bool.not_eq_true', decide_eq_false_iff_not, not_true_eq_false, not_false_eq_true, ne_eq, x_eqB, x_neB, x_intB, x_iIB, x_gT2, x_lLi, x_eTu, x_eTuO, x_eLeO, x_dSeqL, x_dSeqT, x_oN, x_oS, x_tI, x_sl, x_cutL, x_cutT, x_comp, x_app, x_asg, x_aug, wipeE, List.length_map, x_sz2]
        rfl
      have i1 : dIx (Lay.d (.be fs)) (.int 1) = some (.tuple (fs.map .bool)) := rfl
      have ie : dEnu (.tuple (fs.map PyData.bool)) = .ok ((List.range fs.length).map fun a => pr (.int (a : Nat)) (.bool (fs.getD a false))) := by show RO.ok (enD (fs.map PyData.bool)) = _; rw [enB]
      have ie' : iEnu (eIx (eVar 3) (eC (.int 1))) [x0, some (.own (acc.map pD)), some (.fz (.int (k : Nat))), some (.fz (Lay.d (.be fs))), x4, x5] = .ok ((List.range fs.length).map fun a => pr (.int (a : Nat)) (.bool (fs.getD a false))) := ie
      have z : (acc.length + (pl k fs).length ≤ sizeLine) = True := eq_true (Nat.le_trans (show acc.length + (pl k fs).length ≤ 1000 by omega) (by decide))
      have em : (((List.range fs.length).filter fun a => fs.getD a false).map fun a => pD (k, a)) = (pl k fs).map pD := by unfold pl; rw [List.map_map]; rfl
      rw [em] at g
      rw [forGo_cons up_g (e2 := [x0, some (.own ((acc ++ pl k fs).map pD)), some (.fz (.int (k : Nat))), some (.fz (Lay.d (.be fs))), x4, x5]), e]
      · rw [List.append_assoc]
        rfl
      · unfold upB
        simp (implicitDefEqProofs := false) only [x_run, x_out_nx, x_out_rt, x_out_er, x_seq, x_seq_nx, x_seq_rt, x_seq_er, x_seq_ct, x_seq_bk, x_ofR_ok, x_ofR_er, x_nx, x_bk, x_ct, x_set, x_setL, x_ret, x_drop, x_retN, x_if, x_raise, x_var, x_gv0, x_gvS, x_gvo0, x_gvoS, x_gb, x_gb0, x_gbO, x_gbS, x_c, x_op, x_cm, x_un, x_bf, x_isi, x_ix, x_ixO, x_ofO_some, x_anil, x_acons, x_tup, x_lst, x_eL, x_tb, x_nt, x_an, x_or, x_ent, x_ean, x_eor, x_eif, x_tT, x_tV, x_tY, x_call, x_callD, x_callK, x_cd1, x_cd2, x_cd3, x_cd4, x_st0, x_stS, x_stN, x_wh, x_for, x_iseq, x_ir1, x_ir2, x_add, x_sub, x_neg, x_dcmp, x_eqI, x_neI, x_absI, x_intI, x_gcdI, x_maxI, x_minI, x_lenL, x_lenT, x_ixL, x_ixT, x_at0, x_at1, x_sz0, x_sz1, x_sz2, x_sz3, x_gN, x_forN, x_for0, x_fB_nx, x_fB_ct, x_fB_bk, x_fB_rt, x_fB_er, x_iTT, x_iTL, x_iTI, x_iLT, x_iLL, x_iII, x_iBI, x_iSS, x_iBB, x_truB, x_itT, x_itL, x_try, RO.bind_ok, RO.bind_er, RO.pure_ok, List.set_cons_zero, List.set_cons_succ, List.cons_append, List.nil_append, if_true, if_false, ite_true, ite_false, reduceIte, Bool.false_eq_true, Bool.true_eq_false, Bool.not_true, Bool.not_false, x_len1, and_self, decide_eq_true_eq, decide_true, decide_false, eq_self, Bool.not_eq_true', decide_eq_false_iff_not, not_true_eq_false, not_false_eq_true, ne_eq, x_eqB, x_neB, x_intB, x_iIB, x_gT2, x_lLi, x_eTu, x_eTuO, x_eLeO, x_dSeqL, x_dSeqT, x_oN, x_oS, x_tI, x_sl, x_cutL, x_cutT, x_comp, x_app, x_asg, x_aug, wipeE, List.length_map, ix_kst, kst, s_bb, x_ext, ie', wipeE, g, z]
        rw [List.map_append]
end KM
set_option Elab.async false
set_option linter.all false
set_option maxRecDepth 100000
set_option maxHeartbeats 4000000
namespace KM
open PySem PySem.Spec PyProof.Rows L2 PD
def plD (ls : List Lay) : PyData := .tuple ((pls 0 ls).map pD)
section
variable {s : Nat} {ls : List Lay} (h : OkL s ls) (h0 : 0 < s) (h4 : s ≤ 4) (hl : ls.length ≤ 200)
include h h0 h4 hl
theorem unitPlaces_ok : F_unit_places [netD s ls] = .ok (plD ls) := by
  obtain ⟨y2, y3, y4, y5, e⟩ := up_loop (x0 := some (.fz (netD s ls))) ls s 0 [] none none none none h h0 h4 (by simp; omega)
  have ie : dEnu (.tuple (ls.map Lay.d)) = .ok (en 0 ls) := by show RO.ok (enD (ls.map Lay.d)) = _; rw [enD_eq]
  have ie' : iEnu (eIx (eVar 0) (eC (.int 1))) [some (.fz (netD s ls)), some (.own []), none, none, none, none] = .ok (en 0 ls) := ie
  have e' : forGo upG upB (en 0 ls) [some (.fz (netD s ls)), some (.own []), none, none, none, none] = .nx [some (.fz (netD s ls)), some (.own ((pls 0 ls).map pD)), y2, y3, y4, y5] := e
  unfold upG upB at e'
  unfold F_unit_places B_unit_places
  simp (implicitDefEqProofs := false) only [x_run, x_out_nx, x_out_rt, x_out_er, x_seq, x_seq_nx, x_seq_rt, x_seq_er, x_seq_ct, x_seq_bk, x_ofR_ok, x_ofR_er, x_nx, x_bk, x_ct, x_set, x_setL, x_ret, x_drop, x_retN, x_if, x_raise, x_var, x_gv0, x_gvS, x_gvo0, x_gvoS, x_gb, x_gb0, x_gbO, x_gbS, x_c, x_op, x_cm, x_un, x_bf, x_isi, x_ix, x_ixO, x_ofO_some, x_anil, x_acons, x_tup, x_lst, x_eL, x_tb, x_nt, x_an, x_or, x_ent, x_ean, x_eor, x_eif, x_tT, x_tV, x_tY, x_call, x_callD, x_callK, x_cd1, x_cd2, x_cd3, x_cd4, x_st0, x_stS, x_stN, x_wh, x_for, x_iseq, x_ir1, x_ir2, x_add, x_sub, x_neg, x_dcmp, x_eqI, x_neI, x_absI, x_intI, x_gcdI, x_maxI, x_minI, x_lenL, x_lenT, x_ixL, x_ixT, x_at0, x_at1, x_sz0, x_sz1, x_sz2, x_sz3, x_gN, x_forN, x_for0, x_fB_nx, x_fB_ct, x_fB_bk, x_fB_rt, x_fB_er, x_iTT, x_iTL, x_iTI, x_iLT, x_iLL, x_iII, x_iBI, x_iSS, x_iBB, x_truB, x_itT, x_itL, x_try, RO.bind_ok, RO.bind_er, RO.pure_ok, List.set_cons_zero, List.set_cons_succ, List.cons_append, List.nil_append, if_true, if_false, ite_true, ite_false, reduceIte, Bool.false_eq_true, Bool.true_eq_false, Bool.not_true, Bool.not_false, x_len1, and_self, decide_eq_true_eq, decide_true, decide_false, eq_self, Bool.not_eq_true', decide_eq_false_iff_not, not_true_eq_false, not_false_eq_true, ne_eq, x_eqB, x_neB, x_intB, x_iIB, x_gT2, x_lLi, x_eTu, x_eTuO, x_eLeO, x_dSeqL, x_dSeqT, x_oN, x_oS, x_tI, x_sl, x_cutL, x_cutT, x_comp, x_app, x_asg, x_aug, wipeE, List.length_map, check_ok h h0 h4, ie', e']
  rfl
theorem units_ok : F_units [netD s ls] = .ok (.int ((pls 0 ls).length : Int)) := by
  have ln : cLen [plD ls] = some (.int ((pls 0 ls).length : Int)) := by unfold plD; rw [len_T, List.length_map]
  unfold F_units B_units
  simp (implicitDefEqProofs := false) only [x_run, x_out_nx, x_out_rt, x_out_er, x_seq, x_seq_nx, x_seq_rt, x_seq_er, x_seq_ct, x_seq_bk, x_ofR_ok, x_ofR_er, x_nx, x_bk, x_ct, x_set, x_setL, x_ret, x_drop, x_retN, x_if, x_raise, x_var, x_gv0, x_gvS, x_gvo0, x_gvoS, x_gb, x_gb0, x_gbO, x_gbS, x_c, x_op, x_cm, x_un, x_bf, x_isi, x_ix, x_ixO, x_ofO_some, x_anil, x_acons, x_tup, x_lst, x_eL, x_tb, x_nt, x_an, x_or, x_ent, x_ean, x_eor, x_eif, x_tT, x_tV, x_tY, x_call, x_callD, x_callK, x_cd1, x_cd2, x_cd3, x_cd4, x_st0, x_stS, x_stN, x_wh, x_for, x_iseq, x_ir1, x_ir2, x_add, x_sub, x_neg, x_dcmp, x_eqI, x_neI, x_absI, x_intI, x_gcdI, x_maxI, x_minI, x_lenL, x_lenT, x_ixL, x_ixT, x_at0, x_at1, x_sz0, x_sz1, x_sz2, x_sz3, x_gN, x_forN, x_for0, x_fB_nx, x_fB_ct, x_fB_bk, x_fB_rt, x_fB_er, x_iTT, x_iTL, x_iTI, x_iLT, x_iLL, x_iII, x_iBI, x_iSS, x_iBB, x_truB, x_itT, x_itL, x_try, RO.bind_ok, RO.bind_er, RO.pure_ok, List.set_cons_zero, List.set_cons_succ, List.cons_append, List.nil_append, if_true, if_false, ite_true, ite_false, reduceIte, Bool.false_eq_true, Bool.true_eq_false, Bool.not_true, Bool.not_false, x_len1, and_self, decide_eq_true_eq, decide_true, decide_false, eq_self, Bool.not_eq_true', decide_eq_false_iff_not, not_true_eq_false, not_false_eq_true, ne_eq, x_eqB, x_neB, x_intB, x_iIB, x_gT2, x_lLi, x_eTu, x_eTuO, x_eLeO, x_dSeqL, x_dSeqT, x_oN, x_oS, x_tI, x_sl, x_cutL, x_cutT, x_comp, x_app, x_asg, x_aug, wipeE, List.length_map, unitPlaces_ok h h0 h4 hl, ln]
end
/-! ### the law's places -/
def lpB : S := (sIf (tCm dEq (eIx (eIx (eIx (eVar 0) (eC (.int 1))) (eVar 2)) (eC (.int 0))) (eC (.str "bends"))) (sSeq (sSet 3 (eIx (eIx (eIx (eVar 0) (eC (.int 1))) (eVar 2)) (eC (.int 1)))) (sSet 1 (eOp dAddX (eVar 1) (eL (lComp (iR1 (eBf cLen (aCons (eVar 3) aNil))) (gN 4) (tT (eIx (eVar 3) (eVar 4))) (eTup (aCons (eVar 2) (aCons (eVar 4) aNil))) [4]))))) sNx)
theorem lp_loop {s : Nat} {all : List Lay} : ∀ (ls : List Lay) (t k : Nat) (acc : List (Nat × Nat)) (x2 x3 x4 : Option SV), OkL t ls → 0 < t → t ≤ 4 → (∀ j, j < ls.length → at_ all (k + j) = at_ ls j ∧ k + j < all.length) → acc.length + 4 * ls.length ≤ 1000 →
    ∃ y2 y3 y4, forGo (gN 2) lpB ((List.range' k ls.length).map fun i : Nat => PyData.int (0 + (i : Int))) [some (.fz (netD s all)), some (.fz (.list (acc.map pD))), x2, x3, x4] = .nx [some (.fz (netD s all)), some (.fz (.list ((acc ++ pls k ls).map pD))), y2, y3, y4]
  | [], t, k, acc, x2, x3, x4, _, _, _, _, _ => ⟨x2, x3, x4, by rw [show pls k [] = [] from rfl, List.append_nil]; rfl⟩
  | l :: ls, t, k, acc, x2, x3, x4, h, h0, h4, hat, ha => by
    rw [List.length_cons] at ha
    obtain ⟨o0, o4⟩ := Lay.out_ok h.1 h0 h4
    obtain ⟨hk, hkl⟩ := hat 0 (by simp)
    have hk' : at_ all k = l := by rw [Nat.add_zero] at hk; rw [hk]; rfl
    have hn : ∀ j, j < ls.length → at_ all (k + 1 + j) = at_ ls j ∧ k + 1 + j < all.length := fun j hj => by
      obtain ⟨a, b⟩ := hat (j + 1) (by simpa using hj)
      rw [show k + (j + 1) = k + 1 + j by omega] at a b
      exact ⟨by rw [a]; rfl, b⟩
    have ek : (0 : Int) + (k : Int) = (k : Int) := by omega
    have il : dIx (.tuple (all.map Lay.d)) (.int (k : Int)) = some l.d := by
      rw [← hk']
      exact at_mem (by omega)
    have other : (∀ fs, l ≠ .be fs) → ∃ y2 y3 y4, forGo (gN 2) lpB ((List.range' k (l :: ls).length).map fun i : Nat => PyData.int (0 + (i : Int))) [some (.fz (netD s all)), some (.fz (.list (acc.map pD))), x2, x3, x4] = .nx [some (.fz (netD s all)), some (.fz (.list ((acc ++ pls k (l :: ls)).map pD))), y2, y3, y4] := fun hne => by
      obtain ⟨y2, y3, y4, e⟩ := lp_loop (s := s) (all := all) ls (l.out t) (k + 1) acc (some (.fz (.int (k : Int)))) x3 x4 h.2 o0 o4 hn (by omega)
      have hp : pls k (l :: ls) = pls (k + 1) ls := by cases l <;> first | rfl | exact absurd rfl (hne _)
      refine ⟨y2, y3, y4, ?_⟩
      rw [List.length_cons, List.range'_succ, List.map_cons, ek]
      rw [forGo_cons (e1 := [some (.fz (netD s all)), some (.fz (.list (acc.map pD))), some (.fz (.int (k : Int))), x3, x4]) rfl (e2 := [some (.fz (netD s all)), some (.fz (.list (acc.map pD))), some (.fz (.int (k : Int))), x3, x4]), e, hp]
      have q : dEq (kst l) (.str (Str.ofString "bends")) = some (.bool false) := by cases l <;> first | rfl | exact absurd rfl (hne _)
      unfold lpB
      simp (implicitDefEqProofs := false) only [x_run, x_out_nx, x_out_rt, x_out_er, x_seq, x_seq_nx, x_seq_rt, x_seq_er, x_seq_ct, x_seq_bk, x_ofR_ok, x_ofR_er, x_nx, x_bk, x_ct, x_set, x_setL, x_ret, x_drop, x_retN, x_if, x_raise, x_var, x_gv0, x_gvS, x_gvo0, x_gvoS, x_gb, x_gb0, x_gbO, x_gbS, x_c, x_op, x_cm, x_un, x_bf, x_isi, x_ix, x_ixO, x_ofO_some, x_anil, x_acons, x_tup, x_lst, x_eL, x_tb, x_nt, x_an, x_or, x_ent, x_ean, x_eor, x_eif, x_tT, x_tV, x_tY, x_call, x_callD, x_callK, x_cd1, x_cd2, x_cd3, x_cd4, x_st0, x_stS, x_stN, x_wh, x_for, x_iseq, x_ir1, x_ir2, x_add, x_sub, x_neg, x_dcmp, x_eqI, x_neI, x_absI, x_intI, x_gcdI, x_maxI, x_minI, x_lenL, x_lenT, x_ixL, x_ixT, x_at0, x_at1, x_sz0, x_sz1, x_sz2, x_sz3, x_gN, x_forN, x_for0, x_fB_nx, x_fB_ct, x_fB_bk, x_fB_rt, x_fB_er, x_iTT, x_iTL, x_iTI, x_iLT, x_iLL, x_iII, x_iBI, x_iSS, x_iBB, x_truB, x_itT, x_itL, x_try, RO.bind_ok, RO.bind_er, RO.pure_ok, List.set_cons_zero, List.set_cons_succ, List.cons_append, List.nil_append, if_true, if_false, ite_true, ite_false, reduceIte, Bool.false_eq_true, Bool.true_eq_false, Bool.not_true, Bool.not_false, x_len1, and_self, decide_eq_true_eq, decide_true, decide_false, eq_self, Bool.not_eq_true', decide_eq_false_iff_not, not_true_eq_false, not_false_eq_true, ne_eq, x_eqB, x_neB, x_intB, x_iIB, x_gT2, x_lLi, x_eTu, x_eTuO, x_eLeO, x_dSeqL, x_dSeqT, x_oN, x_oS, x_tI, x_sl, x_cutL, x_cutT, x_comp, x_app, x_asg, x_aug, wipeE, List.length_map, net_ix1, il, ix_kst, q]
    cases l with
    | su M v => exact other fun fs z => by cases z
    | gr gs => exact other fun fs z => by cases z
    | wi a b c => exact other fun fs z => by cases z
    | be fs =>
      have hf : fs.length = t := h.1
      have hpl := pl_len (k := k) (fs := fs)
      obtain ⟨y2, y3, y4, e⟩ := lp_loop (s := s) (all := all) ls t (k + 1) (acc ++ pl k fs) (some (.fz (.int (k : Int)))) (some (.fz (.tuple (fs.map .bool)))) x4 h.2 h0 h4 hn (by rw [List.length_append]; omega)
      refine ⟨y2, y3, y4, ?_⟩
      rw [List.length_cons, List.range'_succ, List.map_cons, ek]
      have g := compD_filter (gg := gN 4) (t := tT (eIx (eVar 3) (eVar 4))) (f := eTup (aCons (eVar 2) (aCons (eVar 4) aNil))) (env := [some (.fz (netD s all)), some (.fz (.list (acc.map pD))), some (.fz (.int (k : Int))), some (.fz (.tuple (fs.map .bool))), none]) (fun a : Nat => PyData.int (0 + (a : Int))) (fun a => fs.getD a false) (fun a => pD (k, a)) (List.range fs.length) (by rw [List.length_range]; omega) fun a ha => by
        have ha := List.mem_range.mp ha
        have ea : (0 : Int) + (a : Int) = (a : Int) := by omega
        have ix : dIx (.tuple (fs.map PyData.bool)) (.int (a : Int)) = some (.bool (fs.getD a false)) := by
          show atI _ _ = _
          refine atI_nat ?_
          rw [List.getElem?_map, List.getD_eq_getElem?_getD, List.getElem?_eq_getElem ha]
          rfl
        refine ⟨_, rfl, ?_, fun _ => ?_⟩
        · simp (implicitDefEqProofs := false) only [x_run, x_out_nx, x_out_rt, x_out_er, x_seq, x_seq_nx, x_seq_rt, x_seq_er, x_seq_ct, x_seq_bk, x_ofR_ok, x_ofR_er, x_nx, x_bk, x_ct, x_set, x_setL, x_ret, x_drop, x_retN, x_if, x_raise, x_var, x_gv0, x_gvS, x_gvo0, x_gvoS, x_gb, x_gb0, x_gbO, x_gbS, x_c, x_op, x_cm, x_un, x_bf, x_isi, x_ix, x_ixO, x_ofO_some, x_anil, x_acons, x_tup, x_lst, x_eL, x_tb, x_nt, x_an, x_or, x_ent, x_ean, x_eor, x_eif, x_tT, x_tV, x_tY, x_call, x_callD, x_callK, x_cd1, x_cd2, x_cd3, x_cd4, x_st0, x_stS, x_stN, x_wh, x_for, x_iseq, x_ir1, x_ir2, x_add, x_sub, x_neg, x_dcmp, x_eqI, x_neI, x_absI, x_intI, x_gcdI, x_maxI, x_minI, x_lenL, x_lenT, x_ixL, x_ixT, x_at0, x_at1, x_sz0, x_sz1, x_sz2, x_sz3, x_gN, x_forN, x_for0, x_fB_nx, x_fB_ct, x_fB_bk, x_fB_rt, x_fB_er, x_iTT, x_iTL, x_iTI, x_iLT, x_iLL, x_iII, x_iBI, x_iSS, x_iBB, x_truB, x_itT, x_itL, x_try, RO.bind_ok, RO.bind_er, RO.pure_ok, List.set_cons_zero, List.set_cons_succ, List.cons_append, List.nil_append, if_true, if_false, ite_true, ite_false, reduceIte, Bool.false_eq_true, Bool.true_eq_false, Bool.not_true, Bool.not_false, x_len1, and_self, decide_eq_true_eq, decide_true, decide_false, eq_self, Bool.not_eq_true', decide_eq_false_iff_not, not_true_eq_false, not_false_eq_true, ne_eq, x_eqB, x_neB, x_intB, x_iIB, x_gT2, x_lLi, x_eTu, x_eTuO, x_eLeO, x_dSeqL, x_dSeqT, x_oN, x_oS, x_tI, x_sl, x_cutL, x_cutT, x_comp, x_app, x_asg, x_aug, wipeE, List.length_map, ea, ix, x_truB]
        · simp (implicitDefEqProofs := false) only [x_run, x_out_nx, x_out_rt, x_out_er, x_seq, x_seq_nx, x_seq_rt, x_seq_er, x_seq_ct, x_seq_bk, x_ofR_ok, x_ofR_er, x_nx, x_bk, x_ct, x_set, x_setL, x_ret, x_drop, x_retN, x_if, x_raise, x_var, x_gv0, x_gvS, x_gvo0, x_gvoS, x_gb, x_gb0, x_gbO, x_gbS, x_c, x_op, x_cm, x_un, x_bf, x_isi, x_ix, x_ixO, x_ofO_some, x_anil, x_acons, x_tup, x_lst, x_eL, x_tb, x_nt, x_an, x_or, x_ent, x_ean, x_eor, x_eif, x_tT, x_tV, x_tY, x_call, x_callD, x_callK, x_cd1, x_cd2, x_cd3, x_cd4, x_st0, x_stS, x_stN, x_wh, x_for, x_iseq, x_ir1, x_ir2, x_add, x_sub, x_neg, x_dcmp, x_eqI, x_neI, x_absI, x_intI, x_gcdI, x_maxI, x_minI, x_lenL, x_lenT, x_ixL, x_ixT, x_at0, x_at1, x_sz0, x_sz1, x_sz2, x_sz3, x_gN, x_forN, x_for0, x_fB_nx, x_fB_ct, x_fB_bk, x_fB_rt, x_fB_er, x_iTT, x_iTL, x_iTI, x_iLT, x_iLL, x_iII, x_iBI, x_iSS, x_iBB, x_truB, x_itT, x_itL, x_try, RO.bind_ok, RO.bind_er, RO.pure_ok, List.set_cons_zero, List.set_cons_succ, List.cons_append, List.nil_append, if_true, if_false, ite_true, ite_false, reduceIte, Bool.false_eq_true, Bool.true_eq_false, Bool.not_true, Bool.not_false, x_len1, and_self, decide_eq_true_eq, decide_true, decide_false, eq_self, Bool.not_eq_true', decide_eq_false_iff_not, not_true_eq_false, not_false_eq_true, ne_eq, x_eqB, x_neB, x_intB, x_iIB, x_gT2, x_lLi, x_eTu, x_eTuO, x_eLeO, x_dSeqL, x_dSeqT, x_oN, x_oS, x_tI, x_sl, x_cutL, x_cutT, x_comp, x_app, x_asg, x_aug, wipeE, List.length_map, ea, x_sz2]
          rfl
      have cr := rng1_ok (n := fs.length) (by omega)
      have g' : compD (gN 4) (tT (eIx (eVar 3) (eVar 4))) (eTup (aCons (eVar 2) (aCons (eVar 4) aNil))) [some (.fz (netD s all)), some (.fz (.list (acc.map pD))), some (.fz (.int (k : Int))), some (.fz (.tuple (fs.map .bool))), none] (rngItems 0 fs.length) = .ok (((List.range fs.length).filter fun a => fs.getD a false).map fun a => pD (k, a)) := g
      have em : (((List.range fs.length).filter fun a => fs.getD a false).map fun a => pD (k, a)) = (pl k fs).map pD := by unfold pl; rw [List.map_map]; rfl
      rw [em] at g'
      have i1 : dIx (Lay.d (.be fs)) (.int 1) = some (.tuple (fs.map .bool)) := rfl
      have lf : cLen [.tuple (fs.map PyData.bool)] = some (.int (fs.length : Int)) := by rw [len_T, List.length_map]
      have ad : dAddX (.list (acc.map pD)) (.list ((pl k fs).map pD)) = some (.list ((acc ++ pl k fs).map pD)) := by
        rw [List.map_append]
        exact addX_L (by rw [List.length_map, List.length_map]; omega)
      rw [forGo_cons (e1 := [some (.fz (netD s all)), some (.fz (.list (acc.map pD))), some (.fz (.int (k : Int))), x3, x4]) rfl (e2 := [some (.fz (netD s all)), some (.fz (.list ((acc ++ pl k fs).map pD))), some (.fz (.int (k : Int))), some (.fz (.tuple (fs.map .bool))), x4]), e]
      · rw [List.append_assoc]
        rfl
      · unfold lpB
        simp (implicitDefEqProofs := false) only [x_run, x_out_nx, x_out_rt, x_out_er, x_seq, x_seq_nx, x_seq_rt, x_seq_er, x_seq_ct, x_seq_bk, x_ofR_ok, x_ofR_er, x_nx, x_bk, x_ct, x_set, x_setL, x_ret, x_drop, x_retN, x_if, x_raise, x_var, x_gv0, x_gvS, x_gvo0, x_gvoS, x_gb, x_gb0, x_gbO, x_gbS, x_c, x_op, x_cm, x_un, x_bf, x_isi, x_ix, x_ixO, x_ofO_some, x_anil, x_acons, x_tup, x_lst, x_eL, x_tb, x_nt, x_an, x_or, x_ent, x_ean, x_eor, x_eif, x_tT, x_tV, x_tY, x_call, x_callD, x_callK, x_cd1, x_cd2, x_cd3, x_cd4, x_st0, x_stS, x_stN, x_wh, x_for, x_iseq, x_ir1, x_ir2, x_add, x_sub, x_neg, x_dcmp, x_eqI, x_neI, x_absI, x_intI, x_gcdI, x_maxI, x_minI, x_lenL, x_lenT, x_ixL, x_ixT, x_at0, x_at1, x_sz0, x_sz1, x_sz2, x_sz3, x_gN, x_forN, x_for0, x_fB_nx, x_fB_ct, x_fB_bk, x_fB_rt, x_fB_er, x_iTT, x_iTL, x_iTI, x_iLT, x_iLL, x_iII, x_iBI, x_iSS, x_iBB, x_truB, x_itT, x_itL, x_try, RO.bind_ok, RO.bind_er, RO.pure_ok, List.set_cons_zero, List.set_cons_succ, List.cons_append, List.nil_append, if_true, if_false, ite_true, ite_false, reduceIte, Bool.false_eq_true, Bool.true_eq_false, Bool.not_true, Bool.not_false, x_len1, and_self, decide_eq_true_eq, decide_true, decide_false, eq_self, Bool.not_eq_true', decide_eq_false_iff_not, not_true_eq_false, not_false_eq_true, ne_eq, x_eqB, x_neB, x_intB, x_iIB, x_gT2, x_lLi, x_eTu, x_eTuO, x_eLeO, x_dSeqL, x_dSeqT, x_oN, x_oS, x_tI, x_sl, x_cutL, x_cutT, x_comp, x_app, x_asg, x_aug, wipeE, List.length_map, net_ix1, il, ix_kst, kst, s_bb, i1, lf, cr, wipeE, g', ad]
theorem lawPlaces_ok {s : Nat} {ls : List Lay} (h : OkL s ls) (h0 : 0 < s) (h4 : s ≤ 4) (hl : ls.length ≤ 200) : F__law_places [netD s ls] = .ok (plD ls) := by
  obtain ⟨y2, y3, y4, e⟩ := lp_loop (s := s) (all := ls) ls s 0 [] none none none h h0 h4 (fun j hj => ⟨by rw [Nat.zero_add], by omega⟩) (by simp; omega)
  have ln : cLen [.tuple (ls.map Lay.d)] = some (.int (ls.length : Int)) := by rw [len_T, List.length_map]
  have cr := rng1_ok (n := ls.length) (by omega)
  have e' : forGo (gN 2) lpB (rngItems 0 ls.length) [some (.fz (netD s ls)), some (.fz (.list [])), none, none, none] = .nx [some (.fz (netD s ls)), some (.fz (.list ((pls 0 ls).map pD))), y2, y3, y4] := by
    unfold rngItems
    rw [List.range_eq_range']
    exact e
  unfold lpB at e'
  have sq : dSeq (.list ((pls 0 ls).map pD)) = .ok ((pls 0 ls).map pD) := rfl
  unfold F__law_places B__law_places
  simp (implicitDefEqProofs := false) only [x_run, x_out_nx, x_out_rt, x_out_er, x_seq, x_seq_nx, x_seq_rt, x_seq_er, x_seq_ct, x_seq_bk, x_ofR_ok, x_ofR_er, x_nx, x_bk, x_ct, x_set, x_setL, x_ret, x_drop, x_retN, x_if, x_raise, x_var, x_gv0, x_gvS, x_gvo0, x_gvoS, x_gb, x_gb0, x_gbO, x_gbS, x_c, x_op, x_cm, x_un, x_bf, x_isi, x_ix, x_ixO, x_ofO_some, x_anil, x_acons, x_tup, x_lst, x_eL, x_tb, x_nt, x_an, x_or, x_ent, x_ean, x_eor, x_eif, x_tT, x_tV, x_tY, x_call, x_callD, x_callK, x_cd1, x_cd2, x_cd3, x_cd4, x_st0, x_stS, x_stN, x_wh, x_for, x_iseq, x_ir1, x_ir2, x_add, x_sub, x_neg, x_dcmp, x_eqI, x_neI, x_absI, x_intI, x_gcdI, x_maxI, x_minI, x_lenL, x_lenT, x_ixL, x_ixT, x_at0, x_at1, x_sz0, x_sz1, x_sz2, x_sz3, x_gN, x_forN, x_for0, x_fB_nx, x_fB_ct, x_fB_bk, x_fB_rt, x_fB_er, x_iTT, x_iTL, x_iTI, x_iLT, x_iLL, x_iII, x_iBI, x_iSS, x_iBB, x_truB, x_itT, x_itL, x_try, RO.bind_ok, RO.bind_er, RO.pure_ok, List.set_cons_zero, List.set_cons_succ, List.cons_append, List.nil_append, if_true, if_false, ite_true, ite_false, reduceIte, Bool.false_eq_true, Bool.true_eq_false, Bool.not_true, Bool.not_false, x_len1, and_self, decide_eq_true_eq, decide_true, decide_false, eq_self, Bool.not_eq_true', decide_eq_false_iff_not, not_true_eq_false, not_false_eq_true, ne_eq, x_eqB, x_neB, x_intB, x_iIB, x_gT2, x_lLi, x_eTu, x_eTuO, x_eLeO, x_dSeqL, x_dSeqT, x_oN, x_oS, x_tI, x_sl, x_cutL, x_cutT, x_comp, x_app, x_asg, x_aug, wipeE, List.length_map, net_ix1, ln, cr, e', x_sz0, sq]
  rfl
end KM
set_option Elab.async false
set_option linter.all false
set_option maxRecDepth 100000
set_option maxHeartbeats 4000000
namespace KM
open PySem PySem.Spec PyProof.Rows L2 PD
def nwB : S := (sSeq (sSet 7 (eCall 2 F__law_layer (aCons (eCall 2 F__law_rich (aCons (eCall 2 F__law_cell (aCons (eVar 0) (aCons (eOp dAdd (eOp dAdd (eVar 1) (eC (.int 1))) (eVar 6)) aNil))) (aCons (eVar 6) aNil))) (aCons (eVar 3) aNil)))) (sSeq (sSet 3 (eCall 2 F__law_given (aCons (eVar 3) (aCons (eVar 7) aNil)))) (sApp 5 (eVar 7))))
def nwT : S := (sSeq (sSet 3 (eOp dAdd (eC (.int 1)) (eOp dMod (eBf cInt (aCons (eCall 2 F__law_cell (aCons (eVar 0) (aCons (eVar 1) aNil))) aNil)) (eC (.int 4))))) (sSeq (sSet 4 (eVar 3)) (sSeq (sSetL 5 (lLst aNil)) (sSeq (sFor (iR1 (eVar 2)) (gN 6) nwB) (sRet (eTup (aCons (eVar 4) (aCons (eTuO 5) aNil))))))))
theorem nw_eq : B__law_network = nwT := rfl
def tuB : S := (sSeq (sSet 7 (eCall 2 F__law_rich (aCons (eCall 2 F__law_cell (aCons (eVar 0) (aCons (eOp dAdd (eC (.int 1)) (eVar 6)) aNil))) (aCons (eVar 6) aNil)))) (sSeq (sSet 8 (eCall 2 F__law_layer (aCons (eOp dAdd (eOp dAdd (eOp dSub (eVar 7) (eOp dMod (eBf cInt (aCons (eVar 7) aNil)) (eC (.int 2000)))) (eOp dMulX (eOp dMod (eOp dDiv (eBf cInt (aCons (eVar 7) aNil)) (eC (.int 7))) (eC (.int 3))) (eC (.int 6)))) (eOp dMulX (eC (.int 2)) (eOp dMod (eOp dAdd (eVar 6) (eVar 2)) (eC (.int 2))))) (aCons (eVar 3) aNil)))) (sSeq (sSet 3 (eCall 2 F__law_given (aCons (eVar 3) (aCons (eVar 8) aNil)))) (sApp 5 (eVar 8)))))
def tuT : S := (sSeq (sSet 3 (eOp dAdd (eC (.int 1)) (eOp dMod (eBf cInt (aCons (eCall 2 F__law_cell (aCons (eVar 0) (aCons (eC (.int 0)) aNil))) aNil)) (eC (.int 4))))) (sSeq (sSet 4 (eVar 3)) (sSeq (sSetL 5 (lLst aNil)) (sSeq (sFor (iR1 (eVar 1)) (gN 6) tuB) (sRet (eTup (aCons (eVar 4) (aCons (eTuO 5) aNil))))))))
theorem tu_eq : B__law_turns = tuT := rfl
def lwB : S := (sSeq (sSet 4 (eCall 3 F__law_turns (aCons (eVar 0) (aCons (eVar 1) (aCons (eVar 3) aNil))))) (sSeq (sIf (tOr (tNt (tT (eCall 1 F__law_right (aCons (eVar 4) aNil)))) (tNt (tT (eCall 1 F__law_right (aCons (eTup (aCons (eIx (eVar 4) (eC (.int 0))) (aCons (eSl (eIx (eVar 4) (eC (.int 1))) oN (oS (eOp dSub (eVar 1) (eC (.int 1))))) aNil))) aNil))))) (sRet (eC (.bool false))) sNx) (sIf (tNt (tT (eCall 1 F__law_right (aCons (eTup (aCons (eIx (eVar 4) (eC (.int 0))) (aCons (eSl (eIx (eVar 4) (eC (.int 1))) oN (oS (eOp dAdd (eOp dDiv (eVar 1) (eC (.int 2))) (eC (.int 1))))) aNil))) aNil)))) (sRet (eC (.bool false))) sNx)))
def lwT : S := (sSeq (sSet 1 (eBf cMax (aCons (eC (.int 1)) (aCons (eBf cMin (aCons (eC (.int 60)) (aCons (eOp dSub (eBf cLen (aCons (eVar 0) aNil)) (eC (.int 1))) aNil))) aNil)))) (sSeq (sSet 2 (eCall 3 F__law_network (aCons (eVar 0) (aCons (eC (.int 0)) (aCons (eVar 1) aNil))))) (sSeq (sIf (tOr (tNt (tT (eCall 1 F__law_right (aCons (eVar 2) aNil)))) (tNt (tT (eCall 1 F__law_right (aCons (eTup (aCons (eIx (eVar 2) (eC (.int 0))) (aCons (eTup aNil) aNil))) aNil))))) (sRet (eC (.bool false))) sNx) (sSeq (sFor (iSeq (eL (lLst (aCons (eC (.int 0)) (aCons (eC (.int 1)) aNil))))) (gN 3) lwB) (sRet (eC (.bool true)))))))
theorem lw_eqL : B_law = lwT := rfl

inductive Sl : Nat → PyData → Prop
  | int {n : Nat} (i : Int) : Sl n (.int i)
  | bool {n : Nat} (b : Bool) : Sl n (.bool b)
  | non {n : Nat} : Sl n .none
  | str {n : Nat} (y : Str) : Sl n (.str y)
  | tup {n : Nat} (xs : List PyData) (h : xs.length ≤ 1000) (k : ∀ x ∈ xs, Sl n x) : Sl (n + 1) (.tuple xs)
theorem same_refl : ∀ (fu n : Nat) (d : PyData), Sl n d → n < fu → F__law_same fu [d, d] = .ok (.bool true)
  | 0, n, d, _, h => absurd h (Nat.not_lt_zero _)
  | fu + 1, n, d, hs, h => by
    show runD 3 (B__law_same (F__law_same fu)) [d, d] = _
    cases hs with
    | int i =>
      have i1 : isiO "str" (.int i) = some (.bool false) := rfl
      unfold B__law_same
      simp (implicitDefEqProofs := false) only [x_run, x_out_nx, x_out_rt, x_out_er, x_seq, x_seq_nx, x_seq_rt, x_seq_er, x_seq_ct, x_seq_bk, x_ofR_ok, x_ofR_er, x_nx, x_bk, x_ct, x_set, x_setL, x_ret, x_drop, x_retN, x_if, x_raise, x_var, x_gv0, x_gvS, x_gvo0, x_gvoS, x_gb, x_gb0, x_gbO, x_gbS, x_c, x_op, x_cm, x_un, x_bf, x_isi, x_ix, x_ixO, x_ofO_some, x_anil, x_acons, x_tup, x_lst, x_eL, x_tb, x_nt, x_an, x_or, x_ent, x_ean, x_eor, x_eif, x_tT, x_tV, x_tY, x_call, x_callD, x_callK, x_cd1, x_cd2, x_cd3, x_cd4, x_st0, x_stS, x_stN, x_wh, x_for, x_iseq, x_ir1, x_ir2, x_add, x_sub, x_neg, x_dcmp, x_eqI, x_neI, x_absI, x_intI, x_gcdI, x_maxI, x_minI, x_lenL, x_lenT, x_ixL, x_ixT, x_at0, x_at1, x_sz0, x_sz1, x_sz2, x_sz3, x_gN, x_forN, x_for0, x_fB_nx, x_fB_ct, x_fB_bk, x_fB_rt, x_fB_er, x_iTT, x_iTL, x_iTI, x_iLT, x_iLL, x_iII, x_iBI, x_iSS, x_iBB, x_truB, x_itT, x_itL, x_try, RO.bind_ok, RO.bind_er, RO.pure_ok, List.set_cons_zero, List.set_cons_succ, List.cons_append, List.nil_append, if_true, if_false, ite_true, ite_false, reduceIte, Bool.false_eq_true, Bool.true_eq_false, Bool.not_true, Bool.not_false, x_len1, and_self, decide_eq_true_eq, decide_true, decide_false, eq_self, Bool.not_eq_true', decide_eq_false_iff_not, not_true_eq_false, not_false_eq_true, ne_eq, x_eqB, x_neB, x_intB, x_iIB, x_gT2, x_lLi, x_eTu, x_eTuO, x_eLeO, x_dSeqL, x_dSeqT, x_oN, x_oS, x_tI, x_sl, x_cutL, x_cutT, x_comp, x_app, x_asg, x_aug, wipeE, List.length_map, j5, isI, i1, j2, j1]
    | bool b =>
      have i1 : isiO "str" (.bool b) = some (.bool false) := rfl
      have i2 : dIs (.bool b) .none = some (.bool false) := rfl
      have i3 : dEq (.bool b) (.bool b) = some (.bool true) := by show some (PyData.bool (decide (b = b))) = _; rw [decide_eq_true rfl]
      unfold B__law_same
      simp (implicitDefEqProofs := false) only [x_run, x_out_nx, x_out_rt, x_out_er, x_seq, x_seq_nx, x_seq_rt, x_seq_er, x_seq_ct, x_seq_bk, x_ofR_ok, x_ofR_er, x_nx, x_bk, x_ct, x_set, x_setL, x_ret, x_drop, x_retN, x_if, x_raise, x_var, x_gv0, x_gvS, x_gvo0, x_gvoS, x_gb, x_gb0, x_gbO, x_gbS, x_c, x_op, x_cm, x_un, x_bf, x_isi, x_ix, x_ixO, x_ofO_some, x_anil, x_acons, x_tup, x_lst, x_eL, x_tb, x_nt, x_an, x_or, x_ent, x_ean, x_eor, x_eif, x_tT, x_tV, x_tY, x_call, x_callD, x_callK, x_cd1, x_cd2, x_cd3, x_cd4, x_st0, x_stS, x_stN, x_wh, x_for, x_iseq, x_ir1, x_ir2, x_add, x_sub, x_neg, x_dcmp, x_eqI, x_neI, x_absI, x_intI, x_gcdI, x_maxI, x_minI, x_lenL, x_lenT, x_ixL, x_ixT, x_at0, x_at1, x_sz0, x_sz1, x_sz2, x_sz3, x_gN, x_forN, x_for0, x_fB_nx, x_fB_ct, x_fB_bk, x_fB_rt, x_fB_er, x_iTT, x_iTL, x_iTI, x_iLT, x_iLL, x_iII, x_iBI, x_iSS, x_iBB, x_truB, x_itT, x_itL, x_try, RO.bind_ok, RO.bind_er, RO.pure_ok, List.set_cons_zero, List.set_cons_succ, List.cons_append, List.nil_append, if_true, if_false, ite_true, ite_false, reduceIte, Bool.false_eq_true, Bool.true_eq_false, Bool.not_true, Bool.not_false, x_len1, and_self, decide_eq_true_eq, decide_true, decide_false, eq_self, Bool.not_eq_true', decide_eq_false_iff_not, not_true_eq_false, not_false_eq_true, ne_eq, x_eqB, x_neB, x_intB, x_iIB, x_gT2, x_lLi, x_eTu, x_eTuO, x_eLeO, x_dSeqL, x_dSeqT, x_oN, x_oS, x_tI, x_sl, x_cutL, x_cutT, x_comp, x_app, x_asg, x_aug, wipeE, List.length_map, j6, i2, i1, j4, i3]
    | non =>
      unfold B__law_same
      simp (implicitDefEqProofs := false) only [x_run, x_out_nx, x_out_rt, x_out_er, x_seq, x_seq_nx, x_seq_rt, x_seq_er, x_seq_ct, x_seq_bk, x_ofR_ok, x_ofR_er, x_nx, x_bk, x_ct, x_set, x_setL, x_ret, x_drop, x_retN, x_if, x_raise, x_var, x_gv0, x_gvS, x_gvo0, x_gvoS, x_gb, x_gb0, x_gbO, x_gbS, x_c, x_op, x_cm, x_un, x_bf, x_isi, x_ix, x_ixO, x_ofO_some, x_anil, x_acons, x_tup, x_lst, x_eL, x_tb, x_nt, x_an, x_or, x_ent, x_ean, x_eor, x_eif, x_tT, x_tV, x_tY, x_call, x_callD, x_callK, x_cd1, x_cd2, x_cd3, x_cd4, x_st0, x_stS, x_stN, x_wh, x_for, x_iseq, x_ir1, x_ir2, x_add, x_sub, x_neg, x_dcmp, x_eqI, x_neI, x_absI, x_intI, x_gcdI, x_maxI, x_minI, x_lenL, x_lenT, x_ixL, x_ixT, x_at0, x_at1, x_sz0, x_sz1, x_sz2, x_sz3, x_gN, x_forN, x_for0, x_fB_nx, x_fB_ct, x_fB_bk, x_fB_rt, x_fB_er, x_iTT, x_iTL, x_iTI, x_iLT, x_iLL, x_iII, x_iBI, x_iSS, x_iBB, x_truB, x_itT, x_itL, x_try, RO.bind_ok, RO.bind_er, RO.pure_ok, List.set_cons_zero, List.set_cons_succ, List.cons_append, List.nil_append, if_true, if_false, ite_true, ite_false, reduceIte, Bool.false_eq_true, Bool.true_eq_false, Bool.not_true, Bool.not_false, x_len1, and_self, decide_eq_true_eq, decide_true, decide_false, eq_self, Bool.not_eq_true', decide_eq_false_iff_not, not_true_eq_false, not_false_eq_true, ne_eq, x_eqB, x_neB, x_intB, x_iIB, x_gT2, x_lLi, x_eTu, x_eTuO, x_eLeO, x_dSeqL, x_dSeqT, x_oN, x_oS, x_tI, x_sl, x_cutL, x_cutT, x_comp, x_app, x_asg, x_aug, wipeE, List.length_map, j7, isII]
    | str y =>
      have i1 : isiO "str" (.str y) = some (.bool true) := rfl
      have i2 : dIs (.str y) .none = some (.bool false) := rfl
      have i3 : dEq (.str y) (.str y) = some (.bool true) := by show some (PyData.bool (decide (y = y))) = _; rw [decide_eq_true rfl]
      unfold B__law_same
      simp (implicitDefEqProofs := false) only [x_run, x_out_nx, x_out_rt, x_out_er, x_seq, x_seq_nx, x_seq_rt, x_seq_er, x_seq_ct, x_seq_bk, x_ofR_ok, x_ofR_er, x_nx, x_bk, x_ct, x_set, x_setL, x_ret, x_drop, x_retN, x_if, x_raise, x_var, x_gv0, x_gvS, x_gvo0, x_gvoS, x_gb, x_gb0, x_gbO, x_gbS, x_c, x_op, x_cm, x_un, x_bf, x_isi, x_ix, x_ixO, x_ofO_some, x_anil, x_acons, x_tup, x_lst, x_eL, x_tb, x_nt, x_an, x_or, x_ent, x_ean, x_eor, x_eif, x_tT, x_tV, x_tY, x_call, x_callD, x_callK, x_cd1, x_cd2, x_cd3, x_cd4, x_st0, x_stS, x_stN, x_wh, x_for, x_iseq, x_ir1, x_ir2, x_add, x_sub, x_neg, x_dcmp, x_eqI, x_neI, x_absI, x_intI, x_gcdI, x_maxI, x_minI, x_lenL, x_lenT, x_ixL, x_ixT, x_at0, x_at1, x_sz0, x_sz1, x_sz2, x_sz3, x_gN, x_forN, x_for0, x_fB_nx, x_fB_ct, x_fB_bk, x_fB_rt, x_fB_er, x_iTT, x_iTL, x_iTI, x_iLT, x_iLL, x_iII, x_iBI, x_iSS, x_iBB, x_truB, x_itT, x_itL, x_try, RO.bind_ok, RO.bind_er, RO.pure_ok, List.set_cons_zero, List.set_cons_succ, List.cons_append, List.nil_append, if_true, if_false, ite_true, ite_false, reduceIte, Bool.false_eq_true, Bool.true_eq_false, Bool.not_true, Bool.not_false, x_len1, and_self, decide_eq_true_eq, decide_true, decide_false, eq_self, Bool.not_eq_true', decide_eq_false_iff_not, not_true_eq_false, not_false_eq_true, ne_eq, x_eqB, x_neB, x_intB, x_iIB, x_gT2, x_lLi, x_eTu, x_eTuO, x_eLeO, x_dSeqL, x_dSeqT, x_oN, x_oS, x_tI, x_sl, x_cutL, x_cutT, x_comp, x_app, x_asg, x_aug, wipeE, List.length_map, j8, i2, i1, i3]
    | @tup m xs hl hk =>
      have g := compR (i := 2) (n := xs.length) (f := eCall 2 (F__law_same fu) (aCons (eIx (eVar 0) (eVar 2)) (aCons (eIx (eVar 1) (eVar 2)) aNil))) (env := [some (.fz (.tuple xs)), some (.fz (.tuple xs)), none]) (fun _ => PyData.bool true) hl fun k hk' => by
        have ek : (0 : Int) + (k : Int) = (k : Int) := by omega
        have ix : dIx (.tuple xs) (.int (k : Int)) = some xs[k] := by
          show atI _ _ = _
          exact atI_nat (List.getElem?_eq_getElem hk')
        have r := same_refl fu m xs[k] (hk _ (List.getElem_mem hk')) (by omega)
        simp (implicitDefEqProofs := false) only [x_run, x_out_nx, x_out_rt, x_out_er, x_seq, x_seq_nx, x_seq_rt, x_seq_er, x_seq_ct, x_seq_bk, x_ofR_ok, x_ofR_er, x_nx, x_bk, x_ct, x_set, x_setL, x_ret, x_drop, x_retN, x_if, x_raise, x_var, x_gv0, x_gvS, x_gvo0, x_gvoS, x_gb, x_gb0, x_gbO, x_gbS, x_c, x_op, x_cm, x_un, x_bf, x_isi, x_ix, x_ixO, x_ofO_some, x_anil, x_acons, x_tup, x_lst, x_eL, x_tb, x_nt, x_an, x_or, x_ent, x_ean, x_eor, x_eif, x_tT, x_tV, x_tY, x_call, x_callD, x_callK, x_cd1, x_cd2, x_cd3, x_cd4, x_st0, x_stS, x_stN, x_wh, x_for, x_iseq, x_ir1, x_ir2, x_add, x_sub, x_neg, x_dcmp, x_eqI, x_neI, x_absI, x_intI, x_gcdI, x_maxI, x_minI, x_lenL, x_lenT, x_ixL, x_ixT, x_at0, x_at1, x_sz0, x_sz1, x_sz2, x_sz3, x_gN, x_forN, x_for0, x_fB_nx, x_fB_ct, x_fB_bk, x_fB_rt, x_fB_er, x_iTT, x_iTL, x_iTI, x_iLT, x_iLL, x_iII, x_iBI, x_iSS, x_iBB, x_truB, x_itT, x_itL, x_try, RO.bind_ok, RO.bind_er, RO.pure_ok, List.set_cons_zero, List.set_cons_succ, List.cons_append, List.nil_append, if_true, if_false, ite_true, ite_false, reduceIte, Bool.false_eq_true, Bool.true_eq_false, Bool.not_true, Bool.not_false, x_len1, and_self, decide_eq_true_eq, decide_true, decide_false, eq_self, Bool.not_eq_true', decide_eq_false_iff_not, not_true_eq_false, not_false_eq_true, ne_eq, x_eqB, x_neB, x_intB, x_iIB, x_gT2, x_lLi, x_eTu, x_eTuO, x_eLeO, x_dSeqL, x_dSeqT, x_oN, x_oS, x_tI, x_sl, x_cutL, x_cutT, x_comp, x_app, x_asg, x_aug, wipeE, List.length_map, ek, ix, r]
      have cr := rng1_ok (n := xs.length) hl
      have g' : compD (gN 2) tY (eCall 2 (F__law_same fu) (aCons (eIx (eVar 0) (eVar 2)) (aCons (eIx (eVar 1) (eVar 2)) aNil))) [some (.fz (.tuple xs)), some (.fz (.tuple xs)), none] (rngItems 0 xs.length) = _ := g
      have c := all_true (List.range xs.length)
      have ne : dNe (.int (xs.length : Int)) (.int (xs.length : Int)) = some (.bool false) := by
        unfold dNe
        show (match some (PyData.bool (decide ((xs.length : Int) = (xs.length : Int)))) with | some (.bool b) => some (PyData.bool !b) | _ => none) = _
        rw [decide_eq_true rfl]
        rfl
      unfold B__law_same
      simp (implicitDefEqProofs := false) only [x_run, x_out_nx, x_out_rt, x_out_er, x_seq, x_seq_nx, x_seq_rt, x_seq_er, x_seq_ct, x_seq_bk, x_ofR_ok, x_ofR_er, x_nx, x_bk, x_ct, x_set, x_setL, x_ret, x_drop, x_retN, x_if, x_raise, x_var, x_gv0, x_gvS, x_gvo0, x_gvoS, x_gb, x_gb0, x_gbO, x_gbS, x_c, x_op, x_cm, x_un, x_bf, x_isi, x_ix, x_ixO, x_ofO_some, x_anil, x_acons, x_tup, x_lst, x_eL, x_tb, x_nt, x_an, x_or, x_ent, x_ean, x_eor, x_eif, x_tT, x_tV, x_tY, x_call, x_callD, x_callK, x_cd1, x_cd2, x_cd3, x_cd4, x_st0, x_stS, x_stN, x_wh, x_for, x_iseq, x_ir1, x_ir2, x_add, x_sub, x_neg, x_dcmp, x_eqI, x_neI, x_absI, x_intI, x_gcdI, x_maxI, x_minI, x_lenL, x_lenT, x_ixL, x_ixT, x_at0, x_at1, x_sz0, x_sz1, x_sz2, x_sz3, x_gN, x_forN, x_for0, x_fB_nx, x_fB_ct, x_fB_bk, x_fB_rt, x_fB_er, x_iTT, x_iTL, x_iTI, x_iLT, x_iLL, x_iII, x_iBI, x_iSS, x_iBB, x_truB, x_itT, x_itL, x_try, RO.bind_ok, RO.bind_er, RO.pure_ok, List.set_cons_zero, List.set_cons_succ, List.cons_append, List.nil_append, if_true, if_false, ite_true, ite_false, reduceIte, Bool.false_eq_true, Bool.true_eq_false, Bool.not_true, Bool.not_false, x_len1, and_self, decide_eq_true_eq, decide_true, decide_false, eq_self, Bool.not_eq_true', decide_eq_false_iff_not, not_true_eq_false, not_false_eq_true, ne_eq, x_eqB, x_neB, x_intB, x_iIB, x_gT2, x_lLi, x_eTu, x_eTuO, x_eLeO, x_dSeqL, x_dSeqT, x_oN, x_oS, x_tI, x_sl, x_cutL, x_cutT, x_comp, x_app, x_asg, x_aug, wipeE, List.length_map, j10, len_T, ne, cr, wipeE, g', c]
theorem sl_tup {n : Nat} {xs : List PyData} (h : xs.length ≤ 1000) (k : ∀ x ∈ xs, Sl n x) : Sl (n + 1) (.tuple xs) := .tup xs h k
theorem same_int (i : Int) : F__law_same RD [.int i, .int i] = .ok (.bool true) := same_refl RD 0 _ (.int i) (by decide)
theorem same_bl (b : Bool) : F__law_same RD [.bool b, .bool b] = .ok (.bool true) := same_refl RD 0 _ (.bool b) (by decide)
theorem same_pl {ls : List Lay} (h : (pls 0 ls).length ≤ 1000) : F__law_same RD [plD ls, plD ls] = .ok (.bool true) := same_refl RD 2 _ (.tup _ (by rw [List.length_map]; exact h) fun x hx => by
  obtain ⟨p, _, rfl⟩ := List.mem_map.mp hx
  exact .tup _ (by show 2 ≤ 1000; decide) (all_cons (.int _) (all_cons (.int _) all_nil))) (by decide)
theorem same_ck (b : Bool) : F__law_same RD [if b then .none else .tuple [.int (-1), .str (Str.ofString "plain")], if b then .none else .tuple [.int (-1), .str (Str.ofString "plain")]] = .ok (.bool true) := by
  cases b with
  | true => exact same_refl RD 0 _ .non (by decide)
  | false => exact same_refl RD 1 _ (.tup _ (by show 2 ≤ 1000; decide) (all_cons (.int _) (all_cons (.str _) all_nil))) (by decide)
theorem lawRight_ok {s : Nat} {ls : List Lay} (h : OkL s ls) (h0 : 0 < s) (h4 : s ≤ 4) (hl : ls.length ≤ 200) : F__law_right [netD s ls] = .ok (.bool true) := by
  have pln := pls_len ls s 0 h h0 h4
  have a1 := lawPlain_ok (s := s) (ls := ls) (by omega)
  have a2 := isPlain_ok h h0 h4 hl
  have a3 := lawChecked_ok h h0 h4 hl
  have a4 := lawPlaces_ok h h0 h4 hl
  have a5 := unitPlaces_ok h h0 h4 hl
  have a6 := units_ok h h0 h4 hl
  have a7 := same_pl (ls := ls) (by omega)
  have ln : cLen [plD ls] = some (.int ((pls 0 ls).length : Int)) := by unfold plD; rw [len_T, List.length_map]
  cases p : plainB ls with
  | true =>
    rw [p] at a1 a2 a3
    have sc := same_ck true
    rw [if_pos rfl] at a3 sc
    unfold F__law_right B__law_right
    simp (implicitDefEqProofs := false) only [x_run, x_out_nx, x_out_rt, x_out_er, x_seq, x_seq_nx, x_seq_rt, x_seq_er, x_seq_ct, x_seq_bk, x_ofR_ok, x_ofR_er, x_nx, x_bk, x_ct, x_set, x_setL, x_ret, x_drop, x_retN, x_if, x_raise, x_var, x_gv0, x_gvS, x_gvo0, x_gvoS, x_gb, x_gb0, x_gbO, x_gbS, x_c, x_op, x_cm, x_un, x_bf, x_isi, x_ix, x_ixO, x_ofO_some, x_anil, x_acons, x_tup, x_lst, x_eL, x_tb, x_nt, x_an, x_or, x_ent, x_ean, x_eor, x_eif, x_tT, x_tV, x_tY, x_call, x_callD, x_callK, x_cd1, x_cd2, x_cd3, x_cd4, x_st0, x_stS, x_stN, x_wh, x_for, x_iseq, x_ir1, x_ir2, x_add, x_sub, x_neg, x_dcmp, x_eqI, x_neI, x_absI, x_intI, x_gcdI, x_maxI, x_minI, x_lenL, x_lenT, x_ixL, x_ixT, x_at0, x_at1, x_sz0, x_sz1, x_sz2, x_sz3, x_gN, x_forN, x_for0, x_fB_nx, x_fB_ct, x_fB_bk, x_fB_rt, x_fB_er, x_iTT, x_iTL, x_iTI, x_iLT, x_iLL, x_iII, x_iBI, x_iSS, x_iBB, x_truB, x_itT, x_itL, x_try, RO.bind_ok, RO.bind_er, RO.pure_ok, List.set_cons_zero, List.set_cons_succ, List.cons_append, List.nil_append, if_true, if_false, ite_true, ite_false, reduceIte, Bool.false_eq_true, Bool.true_eq_false, Bool.not_true, Bool.not_false, x_len1, and_self, decide_eq_true_eq, decide_true, decide_false, eq_self, Bool.not_eq_true', decide_eq_false_iff_not, not_true_eq_false, not_false_eq_true, ne_eq, x_eqB, x_neB, x_intB, x_iIB, x_gT2, x_lLi, x_eTu, x_eTuO, x_eLeO, x_dSeqL, x_dSeqT, x_oN, x_oS, x_tI, x_sl, x_cutL, x_cutT, x_comp, x_app, x_asg, x_aug, wipeE, List.length_map, a1, a2, same_bl, a3, sc, a4, a5, a6, a7, ln, same_int]
  | false =>
    rw [p] at a1 a2 a3
    have sc := same_ck false
    rw [if_neg Bool.false_ne_true] at a3 sc
    unfold F__law_right B__law_right
    simp (implicitDefEqProofs := false) only [x_run, x_out_nx, x_out_rt, x_out_er, x_seq, x_seq_nx, x_seq_rt, x_seq_er, x_seq_ct, x_seq_bk, x_ofR_ok, x_ofR_er, x_nx, x_bk, x_ct, x_set, x_setL, x_ret, x_drop, x_retN, x_if, x_raise, x_var, x_gv0, x_gvS, x_gvo0, x_gvoS, x_gb, x_gb0, x_gbO, x_gbS, x_c, x_op, x_cm, x_un, x_bf, x_isi, x_ix, x_ixO, x_ofO_some, x_anil, x_acons, x_tup, x_lst, x_eL, x_tb, x_nt, x_an, x_or, x_ent, x_ean, x_eor, x_eif, x_tT, x_tV, x_tY, x_call, x_callD, x_callK, x_cd1, x_cd2, x_cd3, x_cd4, x_st0, x_stS, x_stN, x_wh, x_for, x_iseq, x_ir1, x_ir2, x_add, x_sub, x_neg, x_dcmp, x_eqI, x_neI, x_absI, x_intI, x_gcdI, x_maxI, x_minI, x_lenL, x_lenT, x_ixL, x_ixT, x_at0, x_at1, x_sz0, x_sz1, x_sz2, x_sz3, x_gN, x_forN, x_for0, x_fB_nx, x_fB_ct, x_fB_bk, x_fB_rt, x_fB_er, x_iTT, x_iTL, x_iTI, x_iLT, x_iLL, x_iII, x_iBI, x_iSS, x_iBB, x_truB, x_itT, x_itL, x_try, RO.bind_ok, RO.bind_er, RO.pure_ok, List.set_cons_zero, List.set_cons_succ, List.cons_append, List.nil_append, if_true, if_false, ite_true, ite_false, reduceIte, Bool.false_eq_true, Bool.true_eq_false, Bool.not_true, Bool.not_false, x_len1, and_self, decide_eq_true_eq, decide_true, decide_false, eq_self, Bool.not_eq_true', decide_eq_false_iff_not, not_true_eq_false, not_false_eq_true, ne_eq, x_eqB, x_neB, x_intB, x_iIB, x_gT2, x_lLi, x_eTu, x_eTuO, x_eLeO, x_dSeqL, x_dSeqT, x_oN, x_oS, x_tI, x_sl, x_cutL, x_cutT, x_comp, x_app, x_asg, x_aug, wipeE, List.length_map, a1, a2, same_bl, a3, sc, a4, a5, a6, a7, ln, same_int, x_sz2]
end KM
set_option Elab.async false
set_option linter.all false
set_option maxRecDepth 100000
set_option maxHeartbeats 4000000
namespace KM
open PySem PySem.Spec PyProof.Rows L2 PD
section
variable {ns : List Int}
def NW (ns : List Int) (x1 x2 : Option SV) (inp : Nat) (pre : List Nat) (env : PD.Env) : Prop := ∃ (ls : List Lay) (x6 x7 : Option SV), env = [some (.fz (.list (ns.map .int))), x1, x2, some (.fz (.int (outL inp ls : Nat))), some (.fz (.int (inp : Nat))), some (.own (ls.map Lay.d)), x6, x7] ∧ OkL inp ls ∧ ls.length = pre.length
theorem nw_step (hb : ∀ z ∈ ns, Builtin.Int.intBits z ≤ 1048576) {x2 : Option SV} {inp c : Nat} (h0 : 0 < inp) (h4 : inp ≤ 4) (hc : c ≤ 60) (p : List Nat) (x : Nat) (q : List Nat) (env : PD.Env) (e : [] ++ List.range c = p ++ x :: q) (h : NW ns (some (.fz (.int 0))) x2 inp p env) :
    ∃ e1, gN 6 (.int (0 + (x : Int))) env = .ok e1 ∧ Keeps (NW ns (some (.fz (.int 0))) x2 inp (p ++ [x])) (nwB e1) := by
  obtain ⟨ls, x6, x7, rfl, hO, hl⟩ := h
  obtain ⟨rfl, hx⟩ := range_pre (by simpa using e)
  obtain ⟨o0, o4⟩ := outL_ok hO h0 h4
  obtain ⟨cl, ec, lc⟩ := cell_ok ns hb (1 + p.length)
  obtain ⟨r, er⟩ := rich_ok (k := p.length) lc (by omega)
  obtain ⟨l, el, hl'⟩ := lawLayer_ok (r := r) o0 o4
  have g := lawGiven_ok hl' o4
  have e1 : (0 : Int) + 1 + (p.length : Int) = ((1 + p.length : Nat) : Int) := by omega
  have e2 : (0 : Int) + (p.length : Int) = (p.length : Int) := by omega
  have z : (ls.length < sizeLine) = True := size_ok (by omega)
  refine ⟨_, rfl, ?_⟩
  unfold nwB
  simp (implicitDefEqProofs := false) only [x_run, x_out_nx, x_out_rt, x_out_er, x_seq, x_seq_nx, x_seq_rt, x_seq_er, x_seq_ct, x_seq_bk, x_ofR_ok, x_ofR_er, x_nx, x_bk, x_ct, x_set, x_setL, x_ret, x_drop, x_retN, x_if, x_raise, x_var, x_gv0, x_gvS, x_gvo0, x_gvoS, x_gb, x_gb0, x_gbO, x_gbS, x_c, x_op, x_cm, x_un, x_bf, x_isi, x_ix, x_ixO, x_ofO_some, x_anil, x_acons, x_tup, x_lst, x_eL, x_tb, x_nt, x_an, x_or, x_ent, x_ean, x_eor, x_eif, x_tT, x_tV, x_tY, x_call, x_callD, x_callK, x_cd1, x_cd2, x_cd3, x_cd4, x_st0, x_stS, x_stN, x_wh, x_for, x_iseq, x_ir1, x_ir2, x_add, x_sub, x_neg, x_dcmp, x_eqI, x_neI, x_absI, x_intI, x_gcdI, x_maxI, x_minI, x_lenL, x_lenT, x_ixL, x_ixT, x_at0, x_at1, x_sz0, x_sz1, x_sz2, x_sz3, x_gN, x_forN, x_for0, x_fB_nx, x_fB_ct, x_fB_bk, x_fB_rt, x_fB_er, x_iTT, x_iTL, x_iTI, x_iLT, x_iLL, x_iII, x_iBI, x_iSS, x_iBB, x_truB, x_itT, x_itL, x_try, RO.bind_ok, RO.bind_er, RO.pure_ok, List.set_cons_zero, List.set_cons_succ, List.cons_append, List.nil_append, if_true, if_false, ite_true, ite_false, reduceIte, Bool.false_eq_true, Bool.true_eq_false, Bool.not_true, Bool.not_false, x_len1, and_self, decide_eq_true_eq, decide_true, decide_false, eq_self, Bool.not_eq_true', decide_eq_false_iff_not, not_true_eq_false, not_false_eq_true, ne_eq, x_eqB, x_neB, x_intB, x_iIB, x_gT2, x_lLi, x_eTu, x_eTuO, x_eLeO, x_dSeqL, x_dSeqT, x_oN, x_oS, x_tI, x_sl, x_cutL, x_cutT, x_comp, x_app, x_asg, x_aug, wipeE, List.length_map, e2, e1, ec, er, el, g, z]
  exact ⟨ls ++ [l], _, _, by rw [List.map_append, outL_snoc]; rfl, hO.snoc hl', by simp [hl]⟩
theorem inp_ok (hb : ∀ z ∈ ns, Builtin.Int.intBits z ≤ 1048576) : ∃ (cl : Int) (k : Nat), F__law_cell [.list (ns.map .int), .int 0] = .ok (.int cl) ∧ dMod (.int cl) (.int 4) = some (.int (k : Int)) ∧ k < 4 := by
  obtain ⟨cl, ec, lc⟩ := cell_ok ns hb 0
  obtain ⟨k, ek, hk⟩ := emod_nat cl (m := 4) (by decide)
  exact ⟨cl, k, ec, by rw [x_mod (by decide)]; exact congrArg (fun z => some (PyData.int z)) ek, hk⟩
theorem network_ok (hb : ∀ z ∈ ns, Builtin.Int.intBits z ≤ 1048576) {c : Nat} (hc : c ≤ 60) : ∃ (s : Nat) (ls : List Lay), F__law_network [.list (ns.map .int), .int 0, .int c] = .ok (netD s ls) ∧ OkL s ls ∧ 0 < s ∧ s ≤ 4 ∧ ls.length = c := by
  obtain ⟨cl, k, ec, md, hk⟩ := inp_ok hb
  obtain ⟨env', ef, ls, x6, x7, rfl, hO, hl⟩ := forGo_pre (gg := gN 6) (body := nwB) (fun k : Nat => PyData.int (0 + (k : Int))) (NW ns (some (.fz (.int 0))) (some (.fz (.int (c : Nat)))) (1 + k)) (List.range c) [] [some (.fz (.list (ns.map .int))), some (.fz (.int 0)), some (.fz (.int (c : Nat))), some (.fz (.int (1 + k : Nat))), some (.fz (.int (1 + k : Nat))), some (.own []), none, none]
    (nw_step hb (by omega) (by omega) hc) ⟨[], none, none, rfl, trivial, rfl⟩
  have cr := rng1_ok (n := c) (by omega)
  have ef' : forGo (gN 6) nwB (rngItems 0 c) [some (.fz (.list (ns.map .int))), some (.fz (.int 0)), some (.fz (.int (c : Nat))), some (.fz (.int (1 + k : Nat))), some (.fz (.int (1 + k : Nat))), some (.own []), none, none] = _ := ef
  have e1 : (1 : Int) + (k : Int) = ((1 + k : Nat) : Int) := by omega
  refine ⟨1 + k, ls, ?_, hO, by omega, by omega, by rw [hl]; simp⟩
  unfold F__law_network
  rw [nw_eq]
  unfold nwT
  simp (implicitDefEqProofs := false) only [x_run, x_out_nx, x_out_rt, x_out_er, x_seq, x_seq_nx, x_seq_rt, x_seq_er, x_seq_ct, x_seq_bk, x_ofR_ok, x_ofR_er, x_nx, x_bk, x_ct, x_set, x_setL, x_ret, x_drop, x_retN, x_if, x_raise, x_var, x_gv0, x_gvS, x_gvo0, x_gvoS, x_gb, x_gb0, x_gbO, x_gbS, x_c, x_op, x_cm, x_un, x_bf, x_isi, x_ix, x_ixO, x_ofO_some, x_anil, x_acons, x_tup, x_lst, x_eL, x_tb, x_nt, x_an, x_or, x_ent, x_ean, x_eor, x_eif, x_tT, x_tV, x_tY, x_call, x_callD, x_callK, x_cd1, x_cd2, x_cd3, x_cd4, x_st0, x_stS, x_stN, x_wh, x_for, x_iseq, x_ir1, x_ir2, x_add, x_sub, x_neg, x_dcmp, x_eqI, x_neI, x_absI, x_intI, x_gcdI, x_maxI, x_minI, x_lenL, x_lenT, x_ixL, x_ixT, x_at0, x_at1, x_sz0, x_sz1, x_sz2, x_sz3, x_gN, x_forN, x_for0, x_fB_nx, x_fB_ct, x_fB_bk, x_fB_rt, x_fB_er, x_iTT, x_iTL, x_iTI, x_iLT, x_iLL, x_iII, x_iBI, x_iSS, x_iBB, x_truB, x_itT, x_itL, x_try, RO.bind_ok, RO.bind_er, RO.pure_ok, List.set_cons_zero, List.set_cons_succ, List.cons_append, List.nil_append, if_true, if_false, ite_true, ite_false, reduceIte, Bool.false_eq_true, Bool.true_eq_false, Bool.not_true, Bool.not_false, x_len1, and_self, decide_eq_true_eq, decide_true, decide_false, eq_self, Bool.not_eq_true', decide_eq_false_iff_not, not_true_eq_false, not_false_eq_true, ne_eq, x_eqB, x_neB, x_intB, x_iIB, x_gT2, x_lLi, x_eTu, x_eTuO, x_eLeO, x_dSeqL, x_dSeqT, x_oN, x_oS, x_tI, x_sl, x_cutL, x_cutT, x_comp, x_app, x_asg, x_aug, wipeE, List.length_map, ec, md, e1, cr, ef']
  rfl
def TU (ns : List Int) (x1 x2 : Option SV) (inp : Nat) (pre : List Nat) (env : PD.Env) : Prop := ∃ (ls : List Lay) (x6 x7 x8 : Option SV), env = [some (.fz (.list (ns.map .int))), x1, x2, some (.fz (.int (outL inp ls : Nat))), some (.fz (.int (inp : Nat))), some (.own (ls.map Lay.d)), x6, x7, x8] ∧ OkL inp ls ∧ ls.length = pre.length
theorem tu_step (hb : ∀ z ∈ ns, Builtin.Int.intBits z ≤ 1048576) {x1 : Option SV} {inp c : Nat} {sh : Int} (h0 : 0 < inp) (h4 : inp ≤ 4) (hc : c ≤ 60) (p : List Nat) (x : Nat) (q : List Nat) (env : PD.Env) (e : [] ++ List.range c = p ++ x :: q) (h : TU ns x1 (some (.fz (.int sh))) inp p env) :
    ∃ e1, gN 6 (.int (0 + (x : Int))) env = .ok e1 ∧ Keeps (TU ns x1 (some (.fz (.int sh))) inp (p ++ [x])) (tuB e1) := by
  obtain ⟨ls, x6, x7, x8, rfl, hO, hl⟩ := h
  obtain ⟨rfl, hx⟩ := range_pre (by simpa using e)
  obtain ⟨o0, o4⟩ := outL_ok hO h0 h4
  obtain ⟨cl, ec, lc⟩ := cell_ok ns hb (1 + p.length)
  obtain ⟨r, er⟩ := rich_ok (k := p.length) lc (by omega)
  obtain ⟨j, ej, hj⟩ := emod_nat (r.fdiv 7) (m := 3) (by decide)
  obtain ⟨i, ei, hi⟩ := emod_nat ((p.length : Int) + sh) (m := 2) (by decide)
  have m1 : dMod (.int r) (.int 2000) = some (.int (r % 2000)) := x_mod (by decide)
  have d7 : dDiv (.int r) (.int 7) = some (.int (r.fdiv 7)) := x_div (by decide +kernel)
  have m3 : dMod (.int (r.fdiv 7)) (.int 3) = some (.int (j : Nat)) := by rw [x_mod (by decide)]; exact congrArg (fun z => some (PyData.int z)) ej
  have m2 : dMod (.int ((p.length : Int) + sh)) (.int 2) = some (.int (i : Nat)) := by rw [x_mod (by decide)]; exact congrArg (fun z => some (PyData.int z)) ei
  have t1 : dMulX (.int (j : Nat)) (.int 6) = some (.int ((j : Int) * 6)) := mlX (m := 10) (n := 10) (by unfold Sm; omega) (by unfold Sm; decide)
  have t2 : dMulX (.int 2) (.int (i : Nat)) = some (.int (2 * (i : Int))) := mlX (m := 10) (n := 10) (by unfold Sm; decide) (by unfold Sm; omega)
  obtain ⟨l, el, hl'⟩ := lawLayer_ok (r := r - r % 2000 + (j : Int) * 6 + 2 * (i : Int)) o0 o4
  have g := lawGiven_ok hl' o4
  have e1 : (1 : Int) + (p.length : Int) = ((1 + p.length : Nat) : Int) := by omega
  have e2 : (0 : Int) + (p.length : Int) = (p.length : Int) := by omega
  have z : (ls.length < sizeLine) = True := size_ok (by omega)
  refine ⟨_, rfl, ?_⟩
  unfold tuB
  simp (implicitDefEqProofs := false) only [x_run, x_out_nx, x_out_rt, x_out_er, x_seq, x_seq_nx, x_seq_rt, x_seq_er, x_seq_ct, x_seq_bk, x_ofR_ok, x_ofR_er, x_nx, x_bk, x_ct, x_set, x_setL, x_ret, x_drop, x_retN, x_if, x_raise, x_var, x_gv0, x_gvS, x_gvo0, x_gvoS, x_gb, x_gb0, x_gbO, x_gbS, x_c, x_op, x_cm, x_un, x_bf, x_isi, x_ix, x_ixO, x_ofO_some, x_anil, x_acons, x_tup, x_lst, x_eL, x_tb, x_nt, x_an, x_or, x_ent, x_ean, x_eor, x_eif, x_tT, x_tV, x_tY, x_call, x_callD, x_callK, x_cd1, x_cd2, x_cd3, x_cd4, x_st0, x_stS, x_stN, x_wh, x_for, x_iseq, x_ir1, x_ir2, x_add, x_sub, x_neg, x_dcmp, x_eqI, x_neI, x_absI, x_intI, x_gcdI, x_maxI, x_minI, x_lenL, x_lenT, x_ixL, x_ixT, x_at0, x_at1, x_sz0, x_sz1, x_sz2, x_sz3, x_gN, x_forN, x_for0, x_fB_nx, x_fB_ct, x_fB_bk, x_fB_rt, x_fB_er, x_iTT, x_iTL, x_iTI, x_iLT, x_iLL, x_iII, x_iBI, x_iSS, x_iBB, x_truB, x_itT, x_itL, x_try, RO.bind_ok, RO.bind_er, RO.pure_ok, List.set_cons_zero, List.set_cons_succ, List.cons_append, List.nil_append, if_true, if_false, ite_true, ite_false, reduceIte, Bool.false_eq_true, Bool.true_eq_false, Bool.not_true, Bool.not_false, x_len1, and_self, decide_eq_true_eq, decide_true, decide_false, eq_self, Bool.not_eq_true', decide_eq_false_iff_not, not_true_eq_false, not_false_eq_true, ne_eq, x_eqB, x_neB, x_intB, x_iIB, x_gT2, x_lLi, x_eTu, x_eTuO, x_eLeO, x_dSeqL, x_dSeqT, x_oN, x_oS, x_tI, x_sl, x_cutL, x_cutT, x_comp, x_app, x_asg, x_aug, wipeE, List.length_map, e2, e1, ec, er, m1, d7, m3, t1, m2, t2, el, g, z]
  exact ⟨ls ++ [l], _, _, _, by rw [List.map_append, outL_snoc]; rfl, hO.snoc hl', by simp [hl]⟩
theorem turns_ok (hb : ∀ z ∈ ns, Builtin.Int.intBits z ≤ 1048576) {c : Nat} {sh : Int} (hc : c ≤ 60) : ∃ (s : Nat) (ls : List Lay), F__law_turns [.list (ns.map .int), .int c, .int sh] = .ok (netD s ls) ∧ OkL s ls ∧ 0 < s ∧ s ≤ 4 ∧ ls.length = c := by
  obtain ⟨cl, k, ec, md, hk⟩ := inp_ok hb
  obtain ⟨env', ef, ls, x6, x7, x8, rfl, hO, hl⟩ := forGo_pre (gg := gN 6) (body := tuB) (fun k : Nat => PyData.int (0 + (k : Int))) (TU ns (some (.fz (.int (c : Nat)))) (some (.fz (.int sh))) (1 + k)) (List.range c) [] [some (.fz (.list (ns.map .int))), some (.fz (.int (c : Nat))), some (.fz (.int sh)), some (.fz (.int (1 + k : Nat))), some (.fz (.int (1 + k : Nat))), some (.own []), none, none, none]
    (tu_step hb (by omega) (by omega) hc) ⟨[], none, none, none, rfl, trivial, rfl⟩
  have cr := rng1_ok (n := c) (by omega)
  have ef' : forGo (gN 6) tuB (rngItems 0 c) [some (.fz (.list (ns.map .int))), some (.fz (.int (c : Nat))), some (.fz (.int sh)), some (.fz (.int (1 + k : Nat))), some (.fz (.int (1 + k : Nat))), some (.own []), none, none, none] = _ := ef
  have e1 : (1 : Int) + (k : Int) = ((1 + k : Nat) : Int) := by omega
  refine ⟨1 + k, ls, ?_, hO, by omega, by omega, by rw [hl]; simp⟩
  unfold F__law_turns
  rw [tu_eq]
  unfold tuT
  simp (implicitDefEqProofs := false) only [x_run, x_out_nx, x_out_rt, x_out_er, x_seq, x_seq_nx, x_seq_rt, x_seq_er, x_seq_ct, x_seq_bk, x_ofR_ok, x_ofR_er, x_nx, x_bk, x_ct, x_set, x_setL, x_ret, x_drop, x_retN, x_if, x_raise, x_var, x_gv0, x_gvS, x_gvo0, x_gvoS, x_gb, x_gb0, x_gbO, x_gbS, x_c, x_op, x_cm, x_un, x_bf, x_isi, x_ix, x_ixO, x_ofO_some, x_anil, x_acons, x_tup, x_lst, x_eL, x_tb, x_nt, x_an, x_or, x_ent, x_ean, x_eor, x_eif, x_tT, x_tV, x_tY, x_call, x_callD, x_callK, x_cd1, x_cd2, x_cd3, x_cd4, x_st0, x_stS, x_stN, x_wh, x_for, x_iseq, x_ir1, x_ir2, x_add, x_sub, x_neg, x_dcmp, x_eqI, x_neI, x_absI, x_intI, x_gcdI, x_maxI, x_minI, x_lenL, x_lenT, x_ixL, x_ixT, x_at0, x_at1, x_sz0, x_sz1, x_sz2, x_sz3, x_gN, x_forN, x_for0, x_fB_nx, x_fB_ct, x_fB_bk, x_fB_rt, x_fB_er, x_iTT, x_iTL, x_iTI, x_iLT, x_iLL, x_iII, x_iBI, x_iSS, x_iBB, x_truB, x_itT, x_itL, x_try, RO.bind_ok, RO.bind_er, RO.pure_ok, List.set_cons_zero, List.set_cons_succ, List.cons_append, List.nil_append, if_true, if_false, ite_true, ite_false, reduceIte, Bool.false_eq_true, Bool.true_eq_false, Bool.not_true, Bool.not_false, x_len1, and_self, decide_eq_true_eq, decide_true, decide_false, eq_self, Bool.not_eq_true', decide_eq_false_iff_not, not_true_eq_false, not_false_eq_true, ne_eq, x_eqB, x_neB, x_intB, x_iIB, x_gT2, x_lLi, x_eTu, x_eTuO, x_eLeO, x_dSeqL, x_dSeqT, x_oN, x_oS, x_tI, x_sl, x_cutL, x_cutT, x_comp, x_app, x_asg, x_aug, wipeE, List.length_map, ec, md, e1, cr, ef']
  rfl
def LI2 (ns : List Int) (c : Nat) (env : PD.Env) : Prop := ∃ x2 x3 x4, env = [some (.fz (.list (ns.map .int))), some (.fz (.int (c : Nat))), x2, x3, x4]
theorem lw_step (hb : ∀ z ∈ ns, Builtin.Int.intBits z ≤ 1048576) {c : Nat} (c0 : 0 < c) (hc : c ≤ 60) (d : PyData) (env : PD.Env) (hd : ∃ sh : Int, d = .int sh) (hi : LI2 ns c env) : ∃ e1, gN 3 d env = .ok e1 ∧ Keeps (LI2 ns c) (lwB e1) := by
  obtain ⟨sh, rfl⟩ := hd
  obtain ⟨x2, x3, x4, rfl⟩ := hi
  obtain ⟨s, ls, et, hO, h0, h4, hl⟩ := turns_ok (sh := sh) hb hc
  have r1 := lawRight_ok hO h0 h4 (by omega)
  have r2 := lawRight_ok (hO.take (c - 1)) h0 h4 (by rw [List.length_take]; omega)
  have r3 := lawRight_ok (hO.take (c / 2 + 1)) h0 h4 (by rw [List.length_take]; omega)
  have e1 : (c : Int) - 1 = ((c - 1 : Nat) : Int) := by omega
  have dv : dDiv (.int (c : Nat)) (.int 2) = some (.int ((c / 2 : Nat) : Int)) := by
    rw [x_div (by decide +kernel), Int.fdiv_eq_ediv_of_nonneg _ (by decide)]
    rfl
  have e2 : ((c / 2 : Nat) : Int) + 1 = ((c / 2 + 1 : Nat) : Int) := by omega
  have c1 : PD.cutD (ls.map Lay.d) none (some ((c - 1 : Nat) : Int)) = (ls.take (c - 1)).map Lay.d := by rw [cut_to, List.map_take]
  have c2 : PD.cutD (ls.map Lay.d) none (some ((c / 2 + 1 : Nat) : Int)) = (ls.take (c / 2 + 1)).map Lay.d := by rw [cut_to, List.map_take]
  have r2' : F__law_right [.tuple [.int (s : Nat), .tuple ((ls.take (c - 1)).map Lay.d)]] = .ok (.bool true) := r2
  have r3' : F__law_right [.tuple [.int (s : Nat), .tuple ((ls.take (c / 2 + 1)).map Lay.d)]] = .ok (.bool true) := r3
  refine ⟨_, rfl, ?_⟩
  unfold lwB
  simp (implicitDefEqProofs := false) only [x_run, x_out_nx, x_out_rt, x_out_er, x_seq, x_seq_nx, x_seq_rt, x_seq_er, x_seq_ct, x_seq_bk, x_ofR_ok, x_ofR_er, x_nx, x_bk, x_ct, x_set, x_setL, x_ret, x_drop, x_retN, x_if, x_raise, x_var, x_gv0, x_gvS, x_gvo0, x_gvoS, x_gb, x_gb0, x_gbO, x_gbS, x_c, x_op, x_cm, x_un, x_bf, x_isi, x_ix, x_ixO, x_ofO_some, x_anil, x_acons, x_tup, x_lst, x_eL, x_tb, x_nt, x_an, x_or, x_ent, x_ean, x_eor, x_eif, x_tT, x_tV, x_tY, x_call, x_callD, x_callK, x_cd1, x_cd2, x_cd3, x_cd4, x_st0, x_stS, x_stN, x_wh, x_for, x_iseq, x_ir1, x_ir2, x_add, x_sub, x_neg, x_dcmp, x_eqI, x_neI, x_absI, x_intI, x_gcdI, x_maxI, x_minI, x_lenL, x_lenT, x_ixL, x_ixT, x_at0, x_at1, x_sz0, x_sz1, x_sz2, x_sz3, x_gN, x_forN, x_for0, x_fB_nx, x_fB_ct, x_fB_bk, x_fB_rt, x_fB_er, x_iTT, x_iTL, x_iTI, x_iLT, x_iLL, x_iII, x_iBI, x_iSS, x_iBB, x_truB, x_itT, x_itL, x_try, RO.bind_ok, RO.bind_er, RO.pure_ok, List.set_cons_zero, List.set_cons_succ, List.cons_append, List.nil_append, if_true, if_false, ite_true, ite_false, reduceIte, Bool.false_eq_true, Bool.true_eq_false, Bool.not_true, Bool.not_false, x_len1, and_self, decide_eq_true_eq, decide_true, decide_false, eq_self, Bool.not_eq_true', decide_eq_false_iff_not, not_true_eq_false, not_false_eq_true, ne_eq, x_eqB, x_neB, x_intB, x_iIB, x_gT2, x_lLi, x_eTu, x_eTuO, x_eLeO, x_dSeqL, x_dSeqT, x_oN, x_oS, x_tI, x_sl, x_cutL, x_cutT, x_comp, x_app, x_asg, x_aug, wipeE, List.length_map, et, r1, net_ix0, net_ix1, e1, c1, x_sz2, r2', dv, e2, c2, r3']
  exact ⟨_, _, _, rfl⟩
theorem law_true (ns : List Int) (hl : ns.length ≤ 63) (hb : ∀ z ∈ ns, Builtin.Int.intBits z ≤ 1048576) : F_law [.list (ns.map .int)] = .ok (.bool true) := by
  obtain ⟨c, c0, hc, em⟩ : ∃ c : Nat, 0 < c ∧ c ≤ 60 ∧ (if (if (ns.length : Int) - 1 < 60 then (ns.length : Int) - 1 else 60) > 1 then (if (ns.length : Int) - 1 < 60 then (ns.length : Int) - 1 else 60) else 1) = (c : Int) := by
    by_cases z : (ns.length : Int) - 1 < 60
    · rw [if_pos z]
      by_cases z1 : (ns.length : Int) - 1 > 1
      · exact ⟨ns.length - 1, by omega, by omega, by rw [if_pos z1]; omega⟩
      · exact ⟨1, by omega, by omega, by rw [if_neg z1]; rfl⟩
    · rw [if_neg z]
      exact ⟨60, by omega, by omega, rfl⟩
  obtain ⟨s, ls, en, hO, h0, h4, hll⟩ := network_ok hb hc
  have r1 := lawRight_ok hO h0 h4 (by omega)
  have r2 : F__law_right [.tuple [.int (s : Nat), .tuple []]] = .ok (.bool true) := lawRight_ok (s := s) (ls := []) trivial h0 h4 (by decide)
  obtain ⟨env', ef, y2, y3, y4, rfl⟩ := forGo_keep (gg := gN 3) (body := lwB) (fun d => ∃ sh : Int, d = .int sh) (LI2 ns c) (lw_step hb c0 hc) [.int 0, .int 1] [some (.fz (.list (ns.map .int))), some (.fz (.int (c : Nat))), some (.fz (netD s ls)), none, none] (fun d hd => by
    rcases List.mem_cons.mp hd with rfl | hd
    · exact ⟨0, rfl⟩
    · rw [List.mem_singleton.mp hd]; exact ⟨1, rfl⟩) ⟨_, _, _, rfl⟩
  have ln : cLen [.list (ns.map PyData.int)] = some (.int (ns.length : Int)) := by show some (PyData.int ((ns.map PyData.int).length : Int)) = _; rw [List.length_map]
  have it : dIter (.list [PyData.int 0, .int 1]) = .ok [.int 0, .int 1] := rfl
  unfold F_law
  rw [lw_eqL]
  unfold lwT
  simp (implicitDefEqProofs := false) only [x_run, x_out_nx, x_out_rt, x_out_er, x_seq, x_seq_nx, x_seq_rt, x_seq_er, x_seq_ct, x_seq_bk, x_ofR_ok, x_ofR_er, x_nx, x_bk, x_ct, x_set, x_setL, x_ret, x_drop, x_retN, x_if, x_raise, x_var, x_gv0, x_gvS, x_gvo0, x_gvoS, x_gb, x_gb0, x_gbO, x_gbS, x_c, x_op, x_cm, x_un, x_bf, x_isi, x_ix, x_ixO, x_ofO_some, x_anil, x_acons, x_tup, x_lst, x_eL, x_tb, x_nt, x_an, x_or, x_ent, x_ean, x_eor, x_eif, x_tT, x_tV, x_tY, x_call, x_callD, x_callK, x_cd1, x_cd2, x_cd3, x_cd4, x_st0, x_stS, x_stN, x_wh, x_for, x_iseq, x_ir1, x_ir2, x_add, x_sub, x_neg, x_dcmp, x_eqI, x_neI, x_absI, x_intI, x_gcdI, x_maxI, x_minI, x_lenL, x_lenT, x_ixL, x_ixT, x_at0, x_at1, x_sz0, x_sz1, x_sz2, x_sz3, x_gN, x_forN, x_for0, x_fB_nx, x_fB_ct, x_fB_bk, x_fB_rt, x_fB_er, x_iTT, x_iTL, x_iTI, x_iLT, x_iLL, x_iII, x_iBI, x_iSS, x_iBB, x_truB, x_itT, x_itL, x_try, RO.bind_ok, RO.bind_er, RO.pure_ok, List.set_cons_zero, List.set_cons_succ, List.cons_append, List.nil_append, if_true, if_false, ite_true, ite_false, reduceIte, Bool.false_eq_true, Bool.true_eq_false, Bool.not_true, Bool.not_false, x_len1, and_self, decide_eq_true_eq, decide_true, decide_false, eq_self, Bool.not_eq_true', decide_eq_false_iff_not, not_true_eq_false, not_false_eq_true, ne_eq, x_eqB, x_neB, x_intB, x_iIB, x_gT2, x_lLi, x_eTu, x_eTuO, x_eLeO, x_dSeqL, x_dSeqT, x_oN, x_oS, x_tI, x_sl, x_cutL, x_cutT, x_comp, x_app, x_asg, x_aug, wipeE, List.length_map, ln, x_maxI, x_minI, em, en, r1, net_ix0, x_sz2, x_sz0, r2, it, ef]
end
end KM
set_option Elab.async false
set_option linter.all false
set_option maxRecDepth 100000
set_option maxHeartbeats 4000000
namespace KM
open PySem PySem.Spec PyProof.Rows L2 PD
def topS (i : Nat) : Stmt := PySem.Challenge.pw_kinkmeasure_k10_plain_networks_and_units.main.body.getD i (.Pass ⟨0, 0, 0, 0⟩)
abbrev s_is_integer : Stmt := topS 6
theorem sc_is_integer : FnScope ["value"] ["value"] (defScope s_is_integer) := ⟨rfl, rfl, rfl, by decide +kernel, rfl, by decide +kernel, by decide +kernel⟩
abbrev s_is_ratio : Stmt := topS 7
theorem sc_is_ratio : FnScope ["value", "above", "below"] ["value"] (defScope s_is_ratio) := ⟨rfl, rfl, rfl, by decide +kernel, rfl, by decide +kernel, by decide +kernel⟩
abbrev s_is_vector : Stmt := topS 9
theorem sc_is_vector : FnScope ["value", "size", "item"] ["value", "size"] (defScope s_is_vector) := ⟨rfl, rfl, rfl, by decide +kernel, rfl, by decide +kernel, by decide +kernel⟩
abbrev s_is_matrix : Stmt := topS 10
theorem sc_is_matrix : FnScope ["value", "rows", "columns", "width", "row"] ["value", "rows", "columns"] (defScope s_is_matrix) := ⟨rfl, rfl, rfl, by decide +kernel, rfl, by decide +kernel, by decide +kernel⟩
abbrev s_is_group : Stmt := topS 13
theorem sc_is_group : FnScope ["value", "last", "index"] ["value"] (defScope s_is_group) := ⟨rfl, rfl, rfl, by decide +kernel, rfl, by decide +kernel, by decide +kernel⟩
abbrev s_is_window : Stmt := topS 14
theorem sc_is_window : FnScope ["step", "weights", "offset"] ["step", "weights", "offset"] (defScope s_is_window) := ⟨rfl, rfl, rfl, by decide +kernel, rfl, by decide +kernel, by decide +kernel⟩
abbrev s_is_layer : Stmt := topS 15
theorem sc_is_layer : FnScope ["value", "kind", "parts", "groups", "flag", "group"] ["value"] (defScope s_is_layer) := ⟨rfl, rfl, rfl, by decide +kernel, rfl, by decide +kernel, by decide +kernel⟩
abbrev s_fits : Stmt := topS 16
theorem sc_fits : FnScope ["layer", "taken", "kind", "group"] ["layer", "taken"] (defScope s_fits) := ⟨rfl, rfl, rfl, by decide +kernel, rfl, by decide +kernel, by decide +kernel⟩
abbrev s_given : Stmt := topS 17
theorem sc_given : FnScope ["layer", "taken", "kind"] ["layer", "taken"] (defScope s_given) := ⟨rfl, rfl, rfl, by decide +kernel, rfl, by decide +kernel, by decide +kernel⟩
abbrev s_check : Stmt := topS 18
theorem sc_check : FnScope ["network", "size", "layers", "taken", "place", "layer"] ["network"] (defScope s_check) := ⟨rfl, rfl, rfl, by decide +kernel, rfl, by decide +kernel, by decide +kernel⟩
abbrev s_in_turn : Stmt := topS 19
theorem sc_in_turn : FnScope ["layers", "kinds", "place", "layer"] ["layers"] (defScope s_in_turn) := ⟨rfl, rfl, rfl, by decide +kernel, rfl, by decide +kernel, by decide +kernel⟩
abbrev s_check_plain : Stmt := topS 20
theorem sc_check_plain : FnScope ["network"] ["network"] (defScope s_check_plain) := ⟨rfl, rfl, rfl, by decide +kernel, rfl, by decide +kernel, by decide +kernel⟩
abbrev s_is_plain : Stmt := topS 21
theorem sc_is_plain : FnScope ["network"] ["network"] (defScope s_is_plain) := ⟨rfl, rfl, rfl, by decide +kernel, rfl, by decide +kernel, by decide +kernel⟩
abbrev s_unit_places : Stmt := topS 22
theorem sc_unit_places : FnScope ["network", "found", "place", "layer", "index", "flag"] ["network"] (defScope s_unit_places) := ⟨rfl, rfl, rfl, by decide +kernel, rfl, by decide +kernel, by decide +kernel⟩
abbrev s_units : Stmt := topS 23
theorem sc_units : FnScope ["network"] ["network"] (defScope s_units) := ⟨rfl, rfl, rfl, by decide +kernel, rfl, by decide +kernel, by decide +kernel⟩
abbrev s__law_cell : Stmt := topS 25
theorem sc__law_cell : FnScope ["script", "k"] ["script", "k"] (defScope s__law_cell) := ⟨rfl, rfl, rfl, by decide +kernel, rfl, by decide +kernel, by decide +kernel⟩
abbrev s__law_rich : Stmt := topS 26
theorem sc__law_rich : FnScope ["cell", "k", "rich", "mixed", "turn"] ["cell", "k"] (defScope s__law_rich) := ⟨rfl, rfl, rfl, by decide +kernel, rfl, by decide +kernel, by decide +kernel⟩
abbrev s__law_codes : Stmt := topS 27
theorem sc__law_codes : FnScope ["rich", "count", "base", "codes", "turn"] ["rich", "count", "base"] (defScope s__law_codes) := ⟨rfl, rfl, rfl, by decide +kernel, rfl, by decide +kernel, by decide +kernel⟩
abbrev s__law_common : Stmt := topS 28
theorem sc__law_common : FnScope ["one", "other", "rest"] ["one", "other"] (defScope s__law_common) := ⟨rfl, rfl, rfl, by decide +kernel, rfl, by decide +kernel, by decide +kernel⟩
abbrev s__law_lowest : Stmt := topS 29
theorem sc__law_lowest : FnScope ["above", "below", "common"] ["above", "below"] (defScope s__law_lowest) := ⟨rfl, rfl, rfl, by decide +kernel, rfl, by decide +kernel, by decide +kernel⟩
abbrev s__law_ratio : Stmt := topS 30
theorem sc__law_ratio : FnScope ["code", "above", "below"] ["code"] (defScope s__law_ratio) := ⟨rfl, rfl, rfl, by decide +kernel, rfl, by decide +kernel, by decide +kernel⟩
abbrev s__law_same : Stmt := topS 31
theorem sc__law_same : FnScope ["actual", "due", "k"] ["actual", "due"] (defScope s__law_same) := ⟨rfl, rfl, rfl, by decide +kernel, rfl, by decide +kernel, by decide +kernel⟩
abbrev s__law_layer : Stmt := topS 32
theorem sc__law_layer : FnScope ["rich", "size", "codes", "many", "ratios", "rows", "groups", "row", "group", "width", "code", "at"] ["rich", "size"] (defScope s__law_layer) := ⟨rfl, rfl, rfl, by decide +kernel, rfl, by decide +kernel, by decide +kernel⟩
abbrev s__law_given : Stmt := topS 33
theorem sc__law_given : FnScope ["size", "layer"] ["size", "layer"] (defScope s__law_given) := ⟨rfl, rfl, rfl, by decide +kernel, rfl, by decide +kernel, by decide +kernel⟩
abbrev s__law_network : Stmt := topS 34
theorem sc__law_network : FnScope ["script", "first", "count", "size", "inputs", "layers", "k", "layer"] ["script", "first", "count"] (defScope s__law_network) := ⟨rfl, rfl, rfl, by decide +kernel, rfl, by decide +kernel, by decide +kernel⟩
abbrev s__law_turns : Stmt := topS 35
theorem sc__law_turns : FnScope ["script", "count", "shift", "size", "inputs", "layers", "k", "rich", "layer"] ["script", "count", "shift"] (defScope s__law_turns) := ⟨rfl, rfl, rfl, by decide +kernel, rfl, by decide +kernel, by decide +kernel⟩
abbrev s__law_plain : Stmt := topS 36
theorem sc__law_plain : FnScope ["network", "kinds", "layer", "k"] ["network"] (defScope s__law_plain) := ⟨rfl, rfl, rfl, by decide +kernel, rfl, by decide +kernel, by decide +kernel⟩
abbrev s__law_places : Stmt := topS 37
theorem sc__law_places : FnScope ["network", "found", "k", "flags", "at"] ["network"] (defScope s__law_places) := ⟨rfl, rfl, rfl, by decide +kernel, rfl, by decide +kernel, by decide +kernel⟩
abbrev s__law_checked : Stmt := topS 38
theorem sc__law_checked : FnScope ["network", "e"] ["network"] (defScope s__law_checked) := ⟨rfl, rfl, rfl, by decide +kernel, rfl, by decide +kernel, by decide +kernel⟩
abbrev s__law_right : Stmt := topS 39
theorem sc__law_right : FnScope ["network", "plain", "places"] ["network"] (defScope s__law_right) := ⟨rfl, rfl, rfl, by decide +kernel, rfl, by decide +kernel, by decide +kernel⟩
abbrev s_law : Stmt := topS 40
theorem sc_law : FnScope ["script", "count", "network", "shift", "turned"] ["script"] (defScope s_law) := ⟨rfl, rfl, rfl, by decide +kernel, rfl, by decide +kernel, by decide +kernel⟩
def s_init_BadNetwork : Stmt := (match topS 3 with | .ClassDef _ _ _ b _ _ _ _ _ _ _ => b | _ => []).getD 0 (.Pass ⟨0, 0, 0, 0⟩)
section
variable [Tbs] {P : Program} {w : World} {K : PySem.W.Frag} {mg : Str → Option Value} {base : Heap}
theorem ok_is_integer {f : Addr} {fd : FuncData} (Fn : Fun K "is_integer" "is_integer" s_is_integer f fd) (hb : Binds K fd ["value"] []) (hm : mg "is_integer" = some (.ref f)) (m_bool : mg "bool" = none) (m_int : mg "int" = none) (m_isinstance : mg "isinstance" = none) : Dfn P w K mg base "is_integer" 1 1 F_is_integer :=
  dfn_of (B := B_is_integer) Fn sc_is_integer hb hm (fun cdv A outer s H E hr => (css_one (cs_ret (ce_and (c_isi_int (by rfl) m_isinstance (by rfl) m_int (CE.cb (ce_var 0))) (ce_one (ce_not (c_isi_bool (by rfl) m_isinstance (by rfl) m_bool (CE.cb (ce_var 0)))))))))
theorem ok_is_ratio {f : Addr} {fd : FuncData} (Fn : Fun K "is_ratio" "is_ratio" s_is_ratio f fd) (hb : Binds K fd ["value"] []) (hm : mg "is_ratio" = some (.ref f)) (D_is_integer : Dfn P w K mg base "is_integer" 1 1 F_is_integer) (m_gcd : mg "gcd" = some (.builtin "math.gcd")) (m_isinstance : mg "isinstance" = none) (m_len : mg "len" = none) (m_tuple : mg "tuple" = none) : Dfn P w K mg base "is_ratio" 2 1 F_is_ratio :=
  dfn_of (B := B_is_ratio) Fn sc_is_ratio hb hm (fun cdv A outer s H E hr => (css_cons (cs_if (CW.ct (cw_or (ct_not (ct_tru (CE.cb (c_isi_tuple (by rfl) m_isinstance (by rfl) m_tuple (CE.cb (ce_var 0)))))) (cw_or1 (ct_cmp (bin_ne hr.units) (CE.cb (c_len (by rfl) m_len (ca_cons (ce_var 0) ca_nil))) (CE.cb ce_int))))) (css_one (cs_ret ce_bl)) css_nil) (css_cons (cs_asg (ce_var 0) (cg_tup rfl (cgs_cons (cg_name 1 sc_is_ratio.nd rfl (by first | exact .inl rfl | exact .inr rfl)) (cgs_cons (cg_name 2 sc_is_ratio.nd rfl (by first | exact .inl rfl | exact .inr rfl)) cgs_nil)))) (css_cons (cs_if (CW.ct (cw_or (ct_not (ct_tru (CE.cb (c_call D_is_integer hr (by first | decide | omega) tk0 (by rfl) (ca_cons (ce_var 1) ca_nil))))) (cw_or1 (ct_not (ct_tru (CE.cb (c_call D_is_integer hr (by first | decide | omega) tk0 (by rfl) (ca_cons (ce_var 2) ca_nil)))))))) (css_one (cs_ret ce_bl)) css_nil) (css_one (cs_ret (ce_and (ce_cmp bin_ge (CE.cb (ce_var 2)) (CE.cb ce_int)) (ce_one (ce_cmp (bin_eq hr.units) (CE.cb (c_gcd (by rfl) m_gcd (ca_cons (ce_var 1) (ca_cons (ce_var 2) ca_nil)))) (CE.cb ce_int))))))))))
theorem fn_is_vector {f : Addr} {fd : FuncData} (Fn : FunD K "is_vector" "is_vector" (defArgs s_is_vector) (defBody s_is_vector) (defScope s_is_vector) [] [("size", .non)] f fd) (D_is_ratio : Dfn P w K mg base "is_ratio" 2 1 F_is_ratio) (m_all : mg "all" = none) (m_isinstance : mg "isinstance" = none) (m_len : mg "len" = none) (m_tuple : mg "tuple" = none) (gt_is_vector : GT base mg fd) : FnOk P w K mg base (L2.CX P w) 4 f fd ["value", "size"] (spD K mg 2 F_is_vector) :=
  okDDG Fn sc_is_vector B_is_vector fun cdv hcd A outer s H E hr => (css_cons (cs_if (ct_not (ct_tru (CE.cb (c_isi_tuple (by rfl) m_isinstance (by rfl) m_tuple (CE.cb (ce_var 0)))))) (css_one (cs_ret ce_bl)) css_nil) (css_cons (cs_if (CW.ct (cw_and (ct_cmp bin_isn (CE.cb (ce_var 1)) (CE.cb ce_non)) (cw_and1 (ct_cmp (bin_ne hr.units) (CE.cb (c_len (by rfl) m_len (ca_cons (ce_var 0) ca_nil))) (CE.cb (ce_var 1)))))) (css_one (cs_ret ce_bl)) css_nil) (css_one (cs_ret (c_allG (own := [("item", 2)]) (gt_of gt_is_vector hcd) hr rfl sc_is_vector.nd (by rfl) m_all (blkOk_by (own := [("item", 2)]) (N := ["value", "size", "item"]) (sc := defScope (topS 9)) (by decide +kernel)) (by rfl) (by rfl) (by decide +kernel) (ci_seq (ce_var 0)) (fun _ _ _ _ _ _ _ _ => (cg_name 2 sc_is_vector.nd rfl (by first | exact .inl rfl | exact .inr rfl))) (by decide) (fun _ _ _ _ _ _ _ hr => (c_call D_is_ratio hr (by first | decide | omega) tkN (by rfl) (ca_cons (ce_var 2) ca_nil))))))))
theorem dp_is_vector__1_size {f : Addr} {fd : FuncData} (Fn : FunD K "is_vector" "is_vector" (defArgs s_is_vector) (defBody s_is_vector) (defScope s_is_vector) [] [("size", .non)] f fd) (hm : mg "is_vector" = some (.ref f)) (Gd : FnOk P w K mg base (L2.CX P w) 4 f fd ["value", "size"] (spD K mg 2 F_is_vector)) : DfnP P w K mg base "is_vector" 4 2 1 ["size"] [.k] [] F_is_vector := by
  obtain ⟨mv, hb⟩ := Fn.kbinds0 (ps := ["value", "size"]) 1 ["size"] [] (fun us mv ws => fillP (pats 1 [.k]) us mv ws) (by simp) (by simp) (fun a b c => fillP_vals _ a b c) (fun D doc pm an cdv ct us mv ws h1 h2 h3 => match us, mv, ws, h1, h2, h3 with | [_], [], [_], _, _, _ => rfl)
  exact ⟨f, fd, ["value", "size"], mv, _, Gd, hm, Fn.kp, hb, fun H => .nil⟩
theorem dp_is_vector__1 {f : Addr} {fd : FuncData} (Fn : FunD K "is_vector" "is_vector" (defArgs s_is_vector) (defBody s_is_vector) (defScope s_is_vector) [] [("size", .non)] f fd) (hm : mg "is_vector" = some (.ref f)) (Gd : FnOk P w K mg base (L2.CX P w) 4 f fd ["value", "size"] (spD K mg 2 F_is_vector)) : DfnP P w K mg base "is_vector" 4 2 1 [] [.m] [.none] F_is_vector := by
  obtain ⟨mv, hb⟩ := Fn.kbinds0 (ps := ["value", "size"]) 1 [] [("size", .non)] (fun us mv ws => fillP (pats 1 [.m]) us mv ws) (by simp) (by simp) (fun a b c => fillP_vals _ a b c) (fun D doc pm an cdv ct us mv ws h1 h2 h3 => match us, mv, ws, h1, h2, h3 with | [_], [_], [], _, _, _ => ⟨_, _, _, _, _, _, rfl, rfl, rfl⟩)
  exact ⟨f, fd, ["value", "size"], mv, _, Gd, hm, Fn.kp, hb, fun H => (.cons .non .nil)⟩
theorem fn_is_matrix {f : Addr} {fd : FuncData} (Fn : FunD K "is_matrix" "is_matrix" (defArgs s_is_matrix) (defBody s_is_matrix) (defScope s_is_matrix) [] [("rows", .non), ("columns", .non)] f fd) (D_is_vector__1_size : DfnP P w K mg base "is_vector" 4 2 1 ["size"] [.k] [] F_is_vector) (m_all : mg "all" = none) (m_isinstance : mg "isinstance" = none) (m_len : mg "len" = none) (m_tuple : mg "tuple" = none) (gt_is_matrix : GT base mg fd) : FnOk P w K mg base (L2.CX P w) 6 f fd ["value", "rows", "columns"] (spD K mg 3 F_is_matrix) :=
  okDDG Fn sc_is_matrix B_is_matrix fun cdv hcd A outer s H E hr => (css_cons (cs_if (CW.ct (cw_or (ct_not (ct_tru (CE.cb (c_isi_tuple (by rfl) m_isinstance (by rfl) m_tuple (CE.cb (ce_var 0)))))) (cw_or1 (ct_cmp (bin_eq hr.units) (CE.cb (ce_var 0)) (CE.cb (ce_tup ca_nil)))))) (css_one (cs_ret ce_bl)) css_nil) (css_cons (cs_if (CW.ct (cw_and (ct_cmp bin_isn (CE.cb (ce_var 1)) (CE.cb ce_non)) (cw_and1 (ct_cmp (bin_ne hr.units) (CE.cb (c_len (by rfl) m_len (ca_cons (ce_var 0) ca_nil))) (CE.cb (ce_var 1)))))) (css_one (cs_ret ce_bl)) css_nil) (css_cons (cs_if (ct_not (ct_tru (CE.cb (c_isi_tuple (by rfl) m_isinstance (by rfl) m_tuple (CE.cb (ce_ix (ce_var 0) ce_int)))))) (css_one (cs_ret ce_bl)) css_nil) (css_cons (cs_set (i := 3) sc_is_matrix.nd rfl (by first | exact .inl rfl | exact .inr rfl) (c_len (by rfl) m_len (ca_cons (ce_ix (ce_var 0) ce_int) ca_nil))) (css_cons (cs_if (CW.ct (cw_and (ct_cmp bin_isn (CE.cb (ce_var 2)) (CE.cb ce_non)) (cw_and1 (ct_cmp (bin_ne hr.units) (CE.cb (ce_var 3)) (CE.cb (ce_var 2)))))) (css_one (cs_ret ce_bl)) css_nil) (css_one (cs_ret (c_allG (own := [("row", 4)]) (gt_of gt_is_matrix hcd) hr rfl sc_is_matrix.nd (by rfl) m_all (blkOk_by (own := [("row", 4)]) (N := ["value", "rows", "columns", "width", "row"]) (sc := defScope (topS 10)) (by decide +kernel)) (by rfl) (by rfl) (by decide +kernel) (ci_seq (ce_var 0)) (fun _ _ _ _ _ _ _ _ => (cg_name 4 sc_is_matrix.nd rfl (by first | exact .inl rfl | exact .inr rfl))) (by decide) (fun _ _ _ _ _ _ _ hr => (c_callP (fs := [(eVar 4)]) (gs := [(eVar 3)]) D_is_vector__1_size hr (by first | decide | omega) tkN (by rfl) (ca_cons (ce_var 4) ca_nil) (ck_cons (ce_var 3) ck_nil) rfl rfl rfl rfl))))))))))
theorem dp_is_matrix__1 {f : Addr} {fd : FuncData} (Fn : FunD K "is_matrix" "is_matrix" (defArgs s_is_matrix) (defBody s_is_matrix) (defScope s_is_matrix) [] [("rows", .non), ("columns", .non)] f fd) (hm : mg "is_matrix" = some (.ref f)) (Gd : FnOk P w K mg base (L2.CX P w) 6 f fd ["value", "rows", "columns"] (spD K mg 3 F_is_matrix)) : DfnP P w K mg base "is_matrix" 6 3 1 [] [.m, .m] [.none, .none] F_is_matrix := by
  obtain ⟨mv, hb⟩ := Fn.kbinds0 (ps := ["value", "rows", "columns"]) 1 [] [("rows", .non), ("columns", .non)] (fun us mv ws => fillP (pats 1 [.m, .m]) us mv ws) (by simp) (by simp) (fun a b c => fillP_vals _ a b c) (fun D doc pm an cdv ct us mv ws h1 h2 h3 => match us, mv, ws, h1, h2, h3 with | [_], [_, _], [], _, _, _ => ⟨_, _, _, _, _, _, rfl, rfl, ⟨_, _, _, _, _, _, rfl, rfl, rfl⟩⟩)
  exact ⟨f, fd, ["value", "rows", "columns"], mv, _, Gd, hm, Fn.kp, hb, fun H => (.cons .non (.cons .non .nil))⟩
theorem ok_is_group {f : Addr} {fd : FuncData} (Fn : Fun K "is_group" "is_group" s_is_group f fd) (hb : Binds K fd ["value"] []) (hm : mg "is_group" = some (.ref f)) (D_is_integer : Dfn P w K mg base "is_integer" 1 1 F_is_integer) (m_isinstance : mg "isinstance" = none) (m_tuple : mg "tuple" = none) : Dfn P w K mg base "is_group" 2 1 F_is_group :=
  dfn_of (B := B_is_group) Fn sc_is_group hb hm (fun cdv A outer s H E hr => (css_cons (cs_if (CW.ct (cw_or (ct_not (ct_tru (CE.cb (c_isi_tuple (by rfl) m_isinstance (by rfl) m_tuple (CE.cb (ce_var 0)))))) (cw_or1 (ct_cmp (bin_eq hr.units) (CE.cb (ce_var 0)) (CE.cb (ce_tup ca_nil)))))) (css_one (cs_ret ce_bl)) css_nil) (css_cons (cs_set (i := 1) sc_is_group.nd rfl (by first | exact .inl rfl | exact .inr rfl) (ce_un un_negD ce_int)) (css_cons (cs_for ps0 rfl (ci_seq (ce_var 0)) (cg_name 2 sc_is_group.nd rfl (by first | exact .inl rfl | exact .inr rfl)) (css_cons (cs_if (CW.ct (cw_or (ct_not (ct_tru (CE.cb (c_call D_is_integer hr (by first | decide | omega) tk0 (by rfl) (ca_cons (ce_var 2) ca_nil))))) (cw_or1 (ct_cmp bin_le (CE.cb (ce_var 2)) (CE.cb (ce_var 1)))))) (css_one (cs_ret ce_bl)) css_nil) (css_one (cs_set (i := 1) sc_is_group.nd rfl (by first | exact .inl rfl | exact .inr rfl) (ce_var 2))))) (css_one (cs_ret ce_bl))))))
theorem ok_is_window {f : Addr} {fd : FuncData} (Fn : Fun K "is_window" "is_window" s_is_window f fd) (hb : Binds K fd ["step", "weights", "offset"] []) (hm : mg "is_window" = some (.ref f)) (D_is_integer : Dfn P w K mg base "is_integer" 1 1 F_is_integer) (D_is_ratio : Dfn P w K mg base "is_ratio" 2 1 F_is_ratio) (D_is_vector__1 : DfnP P w K mg base "is_vector" 4 2 1 [] [.m] [.none] F_is_vector) (c_MOST_STEP : GInt mg "MOST_STEP" 1000) : Dfn P w K mg base "is_window" 5 3 F_is_window :=
  dfn_of (B := B_is_window) Fn sc_is_window hb hm (fun cdv A outer s H E hr => (css_cons (cs_if (CW.ct (cw_or (ct_not (ct_tru (CE.cb (c_call D_is_integer hr (by first | decide | omega) tk0 (by rfl) (ca_cons (ce_var 0) ca_nil))))) (cw_or (ct_cmp bin_lt (CE.cb (ce_var 0)) (CE.cb ce_int)) (cw_or1 (ct_cmp bin_gt (CE.cb (ce_var 0)) (CE.cb (c_gI (by rfl) c_MOST_STEP))))))) (css_one (cs_ret ce_bl)) css_nil) (css_one (cs_ret (ce_and (c_callP (fs := [(eVar 1)]) (gs := []) D_is_vector__1 hr (by first | decide | omega) tk0 (by rfl) (ca_cons (ce_var 1) ca_nil) ck_nil rfl rfl rfl rfl) (ce_and (ce_cmp (bin_ne hr.units) (CE.cb (ce_var 1)) (CE.cb (ce_tup ca_nil))) (ce_one (c_call D_is_ratio hr (by first | decide | omega) tk0 (by rfl) (ca_cons (ce_var 2) ca_nil)))))))))
theorem ok_is_layer {f : Addr} {fd : FuncData} (Fn : Fun K "is_layer" "is_layer" s_is_layer f fd) (hb : Binds K fd ["value"] []) (hm : mg "is_layer" = some (.ref f)) (D_is_group : Dfn P w K mg base "is_group" 2 1 F_is_group) (D_is_window : Dfn P w K mg base "is_window" 5 3 F_is_window) (D_is_matrix__1 : DfnP P w K mg base "is_matrix" 6 3 1 [] [.m, .m] [.none, .none] F_is_matrix) (D_is_vector__1 : DfnP P w K mg base "is_vector" 4 2 1 [] [.m] [.none] F_is_vector) (m_all : mg "all" = none) (m_bool : mg "bool" = none) (m_isinstance : mg "isinstance" = none) (m_len : mg "len" = none) (m_tuple : mg "tuple" = none) (gt_is_layer : GT base mg fd) : Dfn P w K mg base "is_layer" 8 1 F_is_layer :=
  dfn_ofG (B := B_is_layer) Fn sc_is_layer hb hm (fun cdv hcd A outer s H E hr => (css_cons (cs_if (CW.ct (cw_or (ct_not (ct_tru (CE.cb (c_isi_tuple (by rfl) m_isinstance (by rfl) m_tuple (CE.cb (ce_var 0)))))) (cw_or1 (ct_cmp (bin_eq hr.units) (CE.cb (ce_var 0)) (CE.cb (ce_tup ca_nil)))))) (css_one (cs_ret ce_bl)) css_nil) (css_cons (cs_set (i := 1) sc_is_layer.nd rfl (by first | exact .inl rfl | exact .inr rfl) (ce_ix (ce_var 0) ce_int)) (css_cons (cs_set (i := 2) sc_is_layer.nd rfl (by first | exact .inl rfl | exact .inr rfl) (ce_slice (ce_var 0) (co_some ce_int) co_none)) (css_cons (cs_if (CW.ct (cw_and (ct_cmp (bin_eq hr.units) (CE.cb (ce_var 1)) (CE.cb ce_str)) (cw_and1 (ct_cmp (bin_eq hr.units) (CE.cb (c_len (by rfl) m_len (ca_cons (ce_var 2) ca_nil))) (CE.cb ce_int))))) (css_one (cs_ret (ce_and (c_callP (fs := [(eIx (eVar 2) (eC (.int 0)))]) (gs := []) D_is_matrix__1 hr (by first | decide | omega) tk0 (by rfl) (ca_cons (ce_ix (ce_var 2) ce_int) ca_nil) ck_nil rfl rfl rfl rfl) (ce_one (c_callP (fs := [(eIx (eVar 2) (eC (.int 1)))]) (gs := []) D_is_vector__1 hr (by first | decide | omega) tk0 (by rfl) (ca_cons (ce_ix (ce_var 2) ce_int) ca_nil) ck_nil rfl rfl rfl rfl))))) css_nil) (css_cons (cs_if (CW.ct (cw_and (ct_cmp (bin_eq hr.units) (CE.cb (ce_var 1)) (CE.cb ce_str)) (cw_and1 (ct_cmp (bin_eq hr.units) (CE.cb (c_len (by rfl) m_len (ca_cons (ce_var 2) ca_nil))) (CE.cb ce_int))))) (css_one (cs_ret (ce_and (c_isi_tuple (by rfl) m_isinstance (by rfl) m_tuple (CE.cb (ce_ix (ce_var 2) ce_int))) (ce_one (c_allG (own := [("flag", 4)]) (gt_of gt_is_layer hcd) hr rfl sc_is_layer.nd (by rfl) m_all (blkOk_by (own := [("flag", 4)]) (N := ["value", "kind", "parts", "groups", "flag", "group"]) (sc := defScope (topS 15)) (by decide +kernel)) (by rfl) (by rfl) (by decide +kernel) (ci_seq (ce_ix (ce_var 2) ce_int)) (fun _ _ _ _ _ _ _ _ => (cg_name 4 sc_is_layer.nd rfl (by first | exact .inl rfl | exact .inr rfl))) (by decide) (fun _ _ _ _ _ _ _ hr => (c_isi_bool (by rfl) m_isinstance (by rfl) m_bool (CE.cb (ce_var 4))))))))) css_nil) (css_cons (cs_if (CW.ct (cw_and (ct_cmp (bin_eq hr.units) (CE.cb (ce_var 1)) (CE.cb ce_str)) (cw_and1 (ct_cmp (bin_eq hr.units) (CE.cb (c_len (by rfl) m_len (ca_cons (ce_var 2) ca_nil))) (CE.cb ce_int))))) (css_cons (cs_set (i := 3) sc_is_layer.nd rfl (by first | exact .inl rfl | exact .inr rfl) (ce_ix (ce_var 2) ce_int)) (css_one (cs_ret (ce_and (c_isi_tuple (by rfl) m_isinstance (by rfl) m_tuple (CE.cb (ce_var 3))) (ce_and (ce_cmp (bin_ne hr.units) (CE.cb (ce_var 3)) (CE.cb (ce_tup ca_nil))) (ce_one (c_allG (own := [("group", 5)]) (gt_of gt_is_layer hcd) hr rfl sc_is_layer.nd (by rfl) m_all (blkOk_by (own := [("group", 5)]) (N := ["value", "kind", "parts", "groups", "flag", "group"]) (sc := defScope (topS 15)) (by decide +kernel)) (by rfl) (by rfl) (by decide +kernel) (ci_seq (ce_var 3)) (fun _ _ _ _ _ _ _ _ => (cg_name 5 sc_is_layer.nd rfl (by first | exact .inl rfl | exact .inr rfl))) (by decide) (fun _ _ _ _ _ _ _ hr => (c_call D_is_group hr (by first | decide | omega) tkN (by rfl) (ca_cons (ce_var 5) ca_nil)))))))))) css_nil) (css_cons (cs_if (CW.ct (cw_and (ct_cmp (bin_eq hr.units) (CE.cb (ce_var 1)) (CE.cb ce_str)) (cw_and1 (ct_cmp (bin_eq hr.units) (CE.cb (c_len (by rfl) m_len (ca_cons (ce_var 2) ca_nil))) (CE.cb ce_int))))) (css_one (cs_ret (c_call D_is_window hr (by first | decide | omega) tk0 (by rfl) (ca_cons (ce_ix (ce_var 2) ce_int) (ca_cons (ce_ix (ce_var 2) ce_int) (ca_cons (ce_ix (ce_var 2) ce_int) ca_nil)))))) css_nil) (css_one (cs_ret ce_bl))))))))))
theorem ok_fits {f : Addr} {fd : FuncData} (Fn : Fun K "fits" "fits" s_fits f fd) (hb : Binds K fd ["layer", "taken"] []) (hm : mg "fits" = some (.ref f)) (m_all : mg "all" = none) (m_len : mg "len" = none) (gt_fits : GT base mg fd) : Dfn P w K mg base "fits" 2 2 F_fits :=
  dfn_ofG (B := B_fits) Fn sc_fits hb hm (fun cdv hcd A outer s H E hr => (css_cons (cs_set (i := 2) sc_fits.nd rfl (by first | exact .inl rfl | exact .inr rfl) (ce_ix (ce_var 0) ce_int)) (css_cons (cs_if (ct_cmp (bin_eq hr.units) (CE.cb (ce_var 2)) (CE.cb ce_str)) (css_one (cs_ret (ce_and (ce_cmp (bin_eq hr.units) (CE.cb (c_len (by rfl) m_len (ca_cons (ce_ix (ce_ix (ce_var 0) ce_int) ce_int) ca_nil))) (CE.cb (ce_var 1))) (ce_one (ce_cmp (bin_eq hr.units) (CE.cb (c_len (by rfl) m_len (ca_cons (ce_ix (ce_var 0) ce_int) ca_nil))) (CE.cb (c_len (by rfl) m_len (ca_cons (ce_ix (ce_var 0) ce_int) ca_nil)))))))) css_nil) (css_cons (cs_if (ct_cmp (bin_eq hr.units) (CE.cb (ce_var 2)) (CE.cb ce_str)) (css_one (cs_ret (ce_cmp (bin_eq hr.units) (CE.cb (c_len (by rfl) m_len (ca_cons (ce_ix (ce_var 0) ce_int) ca_nil))) (CE.cb (ce_var 1))))) css_nil) (css_cons (cs_if (ct_cmp (bin_eq hr.units) (CE.cb (ce_var 2)) (CE.cb ce_str)) (css_one (cs_ret (c_allG (own := [("group", 3)]) (gt_of gt_fits hcd) hr rfl sc_fits.nd (by rfl) m_all (blkOk_by (own := [("group", 3)]) (N := ["layer", "taken", "kind", "group"]) (sc := defScope (topS 16)) (by decide +kernel)) (by rfl) (by rfl) (by decide +kernel) (ci_seq (ce_ix (ce_var 0) ce_int)) (fun _ _ _ _ _ _ _ _ => (cg_name 3 sc_fits.nd rfl (by first | exact .inl rfl | exact .inr rfl))) (by decide) (fun _ _ _ _ _ _ _ hr => (ce_cmp bin_lt (CE.cb (ce_ix (ce_var 3) (ce_un un_negD ce_int))) (CE.cb (ce_var 1))))))) css_nil) (css_one (cs_ret (ce_cmp bin_le (CE.cb (c_len (by rfl) m_len (ca_cons (ce_ix (ce_var 0) ce_int) ca_nil))) (CE.cb (ce_var 1))))))))))
theorem ok_given {f : Addr} {fd : FuncData} (Fn : Fun K "given" "given" s_given f fd) (hb : Binds K fd ["layer", "taken"] []) (hm : mg "given" = some (.ref f)) (m_len : mg "len" = none) : Dfn P w K mg base "given" 1 2 F_given :=
  dfn_of (B := B_given) Fn sc_given hb hm (fun cdv A outer s H E hr => (css_cons (cs_set (i := 2) sc_given.nd rfl (by first | exact .inl rfl | exact .inr rfl) (ce_ix (ce_var 0) ce_int)) (css_cons (cs_if (CW.ct (cw_or (ct_cmp (bin_eq hr.units) (CE.cb (ce_var 2)) (CE.cb ce_str)) (cw_or1 (ct_cmp (bin_eq hr.units) (CE.cb (ce_var 2)) (CE.cb ce_str))))) (css_one (cs_ret (c_len (by rfl) m_len (ca_cons (ce_ix (ce_var 0) ce_int) ca_nil)))) css_nil) (css_cons (cs_if (ct_cmp (bin_eq hr.units) (CE.cb (ce_var 2)) (CE.cb ce_str)) (css_one (cs_ret (ce_var 1))) css_nil) (css_one (cs_ret (ce_op bin_add (ce_op bin_div (ce_op bin_sub (ce_var 1) (c_len (by rfl) m_len (ca_cons (ce_ix (ce_var 0) ce_int) ca_nil))) (ce_ix (ce_var 0) ce_int)) ce_int)))))))
theorem ok_check {f : Addr} {fd : FuncData} (Fn : Fun K "check" "check" s_check f fd) (hb : Binds K fd ["network"] []) (hm : mg "check" = some (.ref f)) (D_fits : Dfn P w K mg base "fits" 2 2 F_fits) (D_given : Dfn P w K mg base "given" 1 2 F_given) (D_is_integer : Dfn P w K mg base "is_integer" 1 1 F_is_integer) (D_is_layer : Dfn P w K mg base "is_layer" 8 1 F_is_layer) (m_enumerate : mg "enumerate" = none) (m_isinstance : mg "isinstance" = none) (m_len : mg "len" = none) (m_tuple : mg "tuple" = none) (c_MOST_INPUTS : GInt mg "MOST_INPUTS" 1000) (E_BadNetwork : ErrC P w K mg base "BadNetwork" 1 (fun C => spErr2 K C "layer" "reason")) : Dfn P w K mg base "check" 9 1 F_check :=
  dfn_of (B := B_check) Fn sc_check hb hm (fun cdv A outer s H E hr => (css_cons (cs_if (CW.ct (cw_or (ct_not (ct_tru (CE.cb (c_isi_tuple (by rfl) m_isinstance (by rfl) m_tuple (CE.cb (ce_var 0)))))) (cw_or1 (ct_cmp (bin_ne hr.units) (CE.cb (c_len (by rfl) m_len (ca_cons (ce_var 0) ca_nil))) (CE.cb ce_int))))) (css_one (cs_raise2 E_BadNetwork hr (by first | decide | omega) rfl tk0 (by rfl) (ca_cons (ce_un un_negD ce_int) (ca_cons ce_str ca_nil)))) css_nil) (css_cons (cs_asg (ce_var 0) (cg_tup rfl (cgs_cons (cg_name 1 sc_check.nd rfl (by first | exact .inl rfl | exact .inr rfl)) (cgs_cons (cg_name 2 sc_check.nd rfl (by first | exact .inl rfl | exact .inr rfl)) cgs_nil)))) (css_cons (cs_if (CW.ct (cw_or (ct_not (ct_tru (CE.cb (c_call D_is_integer hr (by first | decide | omega) tk0 (by rfl) (ca_cons (ce_var 1) ca_nil))))) (cw_or1 (ct_not (ct_tru (CE.cb (c_isi_tuple (by rfl) m_isinstance (by rfl) m_tuple (CE.cb (ce_var 2))))))))) (css_one (cs_raise2 E_BadNetwork hr (by first | decide | omega) rfl tk0 (by rfl) (ca_cons (ce_un un_negD ce_int) (ca_cons ce_str ca_nil)))) css_nil) (css_cons (cs_if (CW.ct (cw_or (ct_cmp bin_lt (CE.cb (ce_var 1)) (CE.cb ce_int)) (cw_or1 (ct_cmp bin_gt (CE.cb (ce_var 1)) (CE.cb (c_gI (by rfl) c_MOST_INPUTS)))))) (css_one (cs_raise2 E_BadNetwork hr (by first | decide | omega) rfl tk0 (by rfl) (ca_cons (ce_un un_negD ce_int) (ca_cons ce_str ca_nil)))) css_nil) (css_cons (cs_set (i := 3) sc_check.nd rfl (by first | exact .inl rfl | exact .inr rfl) (ce_var 1)) (css_one (cs_for ps0 rfl (ci_enum (ce_var 2) (by rfl) m_enumerate) (cg_tup rfl (cgs_cons (cg_name 4 sc_check.nd rfl (by first | exact .inl rfl | exact .inr rfl)) (cgs_cons (cg_name 5 sc_check.nd rfl (by first | exact .inl rfl | exact .inr rfl)) cgs_nil))) (css_cons (cs_if (ct_not (ct_tru (CE.cb (c_call D_is_layer hr (by first | decide | omega) tk0 (by rfl) (ca_cons (ce_var 5) ca_nil))))) (css_one (cs_raise2 E_BadNetwork hr (by first | decide | omega) rfl tk0 (by rfl) (ca_cons (ce_var 4) (ca_cons ce_str ca_nil)))) css_nil) (css_cons (cs_if (ct_not (ct_tru (CE.cb (c_call D_fits hr (by first | decide | omega) tk0 (by rfl) (ca_cons (ce_var 5) (ca_cons (ce_var 3) ca_nil)))))) (css_one (cs_raise2 E_BadNetwork hr (by first | decide | omega) rfl tk0 (by rfl) (ca_cons (ce_var 4) (ca_cons ce_str ca_nil)))) css_nil) (css_one (cs_set (i := 3) sc_check.nd rfl (by first | exact .inl rfl | exact .inr rfl) (c_call D_given hr (by first | decide | omega) tk0 (by rfl) (ca_cons (ce_var 5) (ca_cons (ce_var 3) ca_nil)))))))))))))))
theorem ok_in_turn {f : Addr} {fd : FuncData} (Fn : Fun K "in_turn" "in_turn" s_in_turn f fd) (hb : Binds K fd ["layers"] []) (hm : mg "in_turn" = some (.ref f)) (m_all : mg "all" = none) (m_enumerate : mg "enumerate" = none) (m_len : mg "len" = none) : Dfn P w K mg base "in_turn" 1 1 F_in_turn :=
  dfn_of (B := B_in_turn) Fn sc_in_turn hb hm (fun cdv A outer s H E hr => (css_cons (cs_if (ct_cmp (bin_eq hr.units) (CE.cb (ce_op bin_mod (c_len (by rfl) m_len (ca_cons (ce_var 0) ca_nil)) ce_int)) (CE.cb ce_int)) (css_one (cs_ret ce_bl)) css_nil) (css_cons (cs_set (i := 1) sc_in_turn.nd rfl (by first | exact .inl rfl | exact .inr rfl) (ce_tup (ca_cons ce_str (ca_cons ce_str ca_nil)))) (css_one (cs_ret (c_all rfl (by rfl) m_all (ca_cons (CL.ce (cl_comp (own := [("place", 2), ("layer", 3)]) rfl sc_in_turn.nd (blkOk_by (own := [("place", 2), ("layer", 3)]) (N := ["layers", "kinds", "place", "layer"]) (sc := defScope (topS 19)) (by decide +kernel)) (ci_enum (ce_var 0) (by rfl) m_enumerate) (fun _ _ _ _ _ => (cg_tup rfl (cgs_cons (cg_name 2 sc_in_turn.nd rfl (by first | exact .inl rfl | exact .inr rfl)) (cgs_cons (cg_name 3 sc_in_turn.nd rfl (by first | exact .inl rfl | exact .inr rfl)) cgs_nil)))) (by decide) (fun _ _ _ _ _ => cts_nil) (fun _ _ _ _ _ => (ce_cmp (bin_eq hr.units) (CE.cb (ce_ix (ce_var 3) ce_int)) (CE.cb (ce_ix (ce_var 1) (ce_op bin_mod (ce_var 2) ce_int))))))) ca_nil)))))))
theorem ok_check_plain {f : Addr} {fd : FuncData} (Fn : Fun K "check_plain" "check_plain" s_check_plain f fd) (hb : Binds K fd ["network"] []) (hm : mg "check_plain" = some (.ref f)) (D_check : Dfn P w K mg base "check" 9 1 F_check) (D_in_turn : Dfn P w K mg base "in_turn" 1 1 F_in_turn) (E_BadNetwork : ErrC P w K mg base "BadNetwork" 1 (fun C => spErr2 K C "layer" "reason")) : Dfn P w K mg base "check_plain" 10 1 F_check_plain :=
  dfn_of (B := B_check_plain) Fn sc_check_plain hb hm (fun cdv A outer s H E hr => (css_cons (cs_expr (c_call D_check hr (by first | decide | omega) tk0 (by rfl) (ca_cons (ce_var 0) ca_nil))) (css_one (cs_if (ct_not (ct_tru (CE.cb (c_call D_in_turn hr (by first | decide | omega) tk0 (by rfl) (ca_cons (ce_ix (ce_var 0) ce_int) ca_nil))))) (css_one (cs_raise2 E_BadNetwork hr (by first | decide | omega) rfl tk0 (by rfl) (ca_cons (ce_un un_negD ce_int) (ca_cons ce_str ca_nil)))) css_nil))))
theorem ok_is_plain {f : Addr} {fd : FuncData} (Fn : Fun K "is_plain" "is_plain" s_is_plain f fd) (hb : Binds K fd ["network"] []) (hm : mg "is_plain" = some (.ref f)) (D_check : Dfn P w K mg base "check" 9 1 F_check) (D_in_turn : Dfn P w K mg base "in_turn" 1 1 F_in_turn) : Dfn P w K mg base "is_plain" 10 1 F_is_plain :=
  dfn_of (B := B_is_plain) Fn sc_is_plain hb hm (fun cdv A outer s H E hr => (css_cons (cs_expr (c_call D_check hr (by first | decide | omega) tk0 (by rfl) (ca_cons (ce_var 0) ca_nil))) (css_one (cs_ret (c_call D_in_turn hr (by first | decide | omega) tk0 (by rfl) (ca_cons (ce_ix (ce_var 0) ce_int) ca_nil))))))
theorem ok_unit_places {f : Addr} {fd : FuncData} (Fn : Fun K "unit_places" "unit_places" s_unit_places f fd) (hb : Binds K fd ["network"] []) (hm : mg "unit_places" = some (.ref f)) (D_check : Dfn P w K mg base "check" 9 1 F_check) (m_enumerate : mg "enumerate" = none) (m_tuple : mg "tuple" = none) : Dfn P w K mg base "unit_places" 10 1 F_unit_places :=
  dfn_of (B := B_unit_places) Fn sc_unit_places hb hm (fun cdv A outer s H E hr => (css_cons (cs_expr (c_call D_check hr (by first | decide | omega) tk0 (by rfl) (ca_cons (ce_var 0) ca_nil))) (css_cons (cs_setL (i := 1) sc_unit_places.nd rfl (by first | exact .inl rfl | exact .inr rfl) (cl_lst ca_nil)) (css_cons (cs_for ps0 rfl (ci_enum (ce_ix (ce_var 0) ce_int) (by rfl) m_enumerate) (cg_tup rfl (cgs_cons (cg_name 2 sc_unit_places.nd rfl (by first | exact .inl rfl | exact .inr rfl)) (cgs_cons (cg_name 3 sc_unit_places.nd rfl (by first | exact .inl rfl | exact .inr rfl)) cgs_nil))) (css_one (cs_if (ct_cmp (bin_eq hr.units) (CE.cb (ce_ix (ce_var 3) ce_int)) (CE.cb ce_str)) (css_one (cs_ext (i := 1) rfl (by first | exact .inl rfl | exact .inr (.inl rfl)) (by decide) (by decide) (cl_comp (own := [("index", 4), ("flag", 5)]) rfl sc_unit_places.nd (blkOk_by (own := [("index", 4), ("flag", 5)]) (N := ["network", "found", "place", "layer", "index", "flag"]) (sc := defScope (topS 22)) (by decide +kernel)) (ci_enum (ce_ix (ce_var 3) ce_int) (by rfl) m_enumerate) (fun _ _ _ _ _ => (cg_tup rfl (cgs_cons (cg_name 4 sc_unit_places.nd rfl (by first | exact .inl rfl | exact .inr rfl)) (cgs_cons (cg_name 5 sc_unit_places.nd rfl (by first | exact .inl rfl | exact .inr rfl)) cgs_nil)))) (by decide) (fun _ _ _ _ _ => cts_one (ct_tru (CE.cb (ce_var 5)))) (fun _ _ _ _ _ => (ce_tup (ca_cons (ce_var 2) (ca_cons (ce_var 4) ca_nil))))))) css_nil))) (css_one (cs_ret (ce_tupleO 1 (by rfl) m_tuple)))))))
theorem ok_units {f : Addr} {fd : FuncData} (Fn : Fun K "units" "units" s_units f fd) (hb : Binds K fd ["network"] []) (hm : mg "units" = some (.ref f)) (D_unit_places : Dfn P w K mg base "unit_places" 10 1 F_unit_places) (m_len : mg "len" = none) : Dfn P w K mg base "units" 11 1 F_units :=
  dfn_of (B := B_units) Fn sc_units hb hm (fun cdv A outer s H E hr => (css_one (cs_ret (c_len (by rfl) m_len (ca_cons (c_call D_unit_places hr (by first | decide | omega) tk0 (by rfl) (ca_cons (ce_var 0) ca_nil)) ca_nil)))))
theorem ok__law_cell {f : Addr} {fd : FuncData} (Fn : Fun K "_law_cell" "_law_cell" s__law_cell f fd) (hb : Binds K fd ["script", "k"] []) (hm : mg "_law_cell" = some (.ref f)) (m_int : mg "int" = none) (m_len : mg "len" = none) : Dfn P w K mg base "_law_cell" 1 2 F__law_cell :=
  dfn_of (B := B__law_cell) Fn sc__law_cell hb hm (fun cdv A outer s H E hr => (css_cons (cs_if (ct_cmp bin_lt (CE.cb (ce_var 1)) (CE.cb (c_len (by rfl) m_len (ca_cons (ce_var 0) ca_nil)))) (css_one (cs_ret (c_int (by rfl) m_int (ca_cons (ce_ix (ce_var 0) (ce_var 1)) ca_nil)))) css_nil) (css_one (cs_ret ce_int))))
theorem ok__law_rich {f : Addr} {fd : FuncData} (Fn : Fun K "_law_rich" "_law_rich" s__law_rich f fd) (hb : Binds K fd ["cell", "k"] []) (hm : mg "_law_rich" = some (.ref f)) (m_int : mg "int" = none) (m_range : mg "range" = none) : Dfn P w K mg base "_law_rich" 1 2 F__law_rich :=
  dfn_of (B := B__law_rich) Fn sc__law_rich hb hm (fun cdv A outer s H E hr => (css_cons (cs_if (ct_cmp bin_ge (CE.cb (ce_var 0)) (CE.cb (ce_op bin_pow ce_int ce_int))) (css_one (cs_ret (c_int (by rfl) m_int (ca_cons (ce_var 0) ca_nil)))) css_nil) (css_cons (cs_set (i := 2) sc__law_rich.nd rfl (by first | exact .inl rfl | exact .inr rfl) ce_int) (css_cons (cs_set (i := 3) sc__law_rich.nd rfl (by first | exact .inl rfl | exact .inr rfl) (ce_op bin_mod (c_int (by rfl) m_int (ca_cons (ce_op bin_add (ce_op bin_add (ce_op bin_mulX (ce_var 0) ce_int) (ce_op bin_mulX (ce_var 1) ce_int)) ce_int) ca_nil)) ce_int)) (css_cons (cs_for ps0 rfl (ci_range1 ce_int (by rfl) m_range) (cg_name 4 sc__law_rich.nd rfl (by first | exact .inl rfl | exact .inr rfl)) (css_cons (cs_set (i := 3) sc__law_rich.nd rfl (by first | exact .inl rfl | exact .inr rfl) (ce_op bin_mod (c_int (by rfl) m_int (ca_cons (ce_op bin_add (ce_op bin_add (ce_op bin_add (ce_op bin_mulX (ce_var 3) (ce_var 3)) (ce_op bin_mulX (ce_var 3) ce_int)) (ce_var 4)) ce_int) ca_nil)) ce_int)) (css_one (cs_set (i := 2) sc__law_rich.nd rfl (by first | exact .inl rfl | exact .inr rfl) (ce_op bin_add (ce_op bin_mulX (ce_var 2) ce_int) (ce_var 3)))))) (css_one (cs_ret (ce_var 2))))))))
theorem ok__law_codes {f : Addr} {fd : FuncData} (Fn : Fun K "_law_codes" "_law_codes" s__law_codes f fd) (hb : Binds K fd ["rich", "count", "base"] []) (hm : mg "_law_codes" = some (.ref f)) (m_int : mg "int" = none) (m_range : mg "range" = none) : Dfn P w K mg base "_law_codes" 1 3 F__law_codes :=
  dfn_of (B := B__law_codes) Fn sc__law_codes hb hm (fun cdv A outer s H E hr => (css_cons (cs_setL (i := 3) sc__law_codes.nd rfl (by first | exact .inl rfl | exact .inr rfl) (cl_lst ca_nil)) (css_cons (cs_for ps0 rfl (ci_range1 (ce_var 1) (by rfl) m_range) (cg_name 4 sc__law_codes.nd rfl (by first | exact .inl rfl | exact .inr rfl)) (css_cons (cs_app (i := 3) rfl (by first | exact .inl rfl | exact .inr (.inl rfl)) (by decide) (by decide) (ce_op bin_mod (c_int (by rfl) m_int (ca_cons (ce_var 0) ca_nil)) (ce_var 2))) (css_one (cs_set (i := 0) sc__law_codes.nd rfl (by first | exact .inl rfl | exact .inr rfl) (ce_op bin_div (ce_var 0) (ce_var 2)))))) (css_one (cs_retB (cb_var 3))))))
theorem ok__law_common {f : Addr} {fd : FuncData} (Fn : Fun K "_law_common" "_law_common" s__law_common f fd) (hb : Binds K fd ["one", "other"] []) (hm : mg "_law_common" = some (.ref f)) (m_abs : mg "abs" = none) (m_int : mg "int" = none) : Dfn P w K mg base "_law_common" 1 2 F__law_common :=
  dfn_of (B := B__law_common) Fn sc__law_common hb hm (fun cdv A outer s H E hr => (css_cons (cs_set (i := 0) sc__law_common.nd rfl (by first | exact .inl rfl | exact .inr rfl) (c_abs (by rfl) m_abs (ca_cons (ce_var 0) ca_nil))) (css_cons (cs_set (i := 1) sc__law_common.nd rfl (by first | exact .inl rfl | exact .inr rfl) (c_abs (by rfl) m_abs (ca_cons (ce_var 1) ca_nil))) (css_cons (cs_while WH ps0 (ct_cmp bin_gt (CE.cb (ce_var 1)) (CE.cb ce_int)) (css_cons (cs_set (i := 2) sc__law_common.nd rfl (by first | exact .inl rfl | exact .inr rfl) (ce_op bin_mod (c_int (by rfl) m_int (ca_cons (ce_var 0) ca_nil)) (ce_var 1))) (css_cons (cs_set (i := 0) sc__law_common.nd rfl (by first | exact .inl rfl | exact .inr rfl) (ce_var 1)) (css_one (cs_set (i := 1) sc__law_common.nd rfl (by first | exact .inl rfl | exact .inr rfl) (ce_var 2)))))) (css_one (cs_ret (ce_var 0)))))))
theorem ok__law_lowest {f : Addr} {fd : FuncData} (Fn : Fun K "_law_lowest" "_law_lowest" s__law_lowest f fd) (hb : Binds K fd ["above", "below"] []) (hm : mg "_law_lowest" = some (.ref f)) (D__law_common : Dfn P w K mg base "_law_common" 1 2 F__law_common) : Dfn P w K mg base "_law_lowest" 2 2 F__law_lowest :=
  dfn_of (B := B__law_lowest) Fn sc__law_lowest hb hm (fun cdv A outer s H E hr => (css_cons (cs_if (ct_cmp bin_lt (CE.cb (ce_var 1)) (CE.cb ce_int)) (css_cons (cs_set (i := 0) sc__law_lowest.nd rfl (by first | exact .inl rfl | exact .inr rfl) (ce_un un_negD (ce_var 0))) (css_one (cs_set (i := 1) sc__law_lowest.nd rfl (by first | exact .inl rfl | exact .inr rfl) (ce_un un_negD (ce_var 1))))) css_nil) (css_cons (cs_set (i := 2) sc__law_lowest.nd rfl (by first | exact .inl rfl | exact .inr rfl) (c_call D__law_common hr (by first | decide | omega) tk0 (by rfl) (ca_cons (ce_var 0) (ca_cons (ce_var 1) ca_nil)))) (css_one (cs_ret (ce_tup (ca_cons (ce_op bin_div (ce_var 0) (ce_var 2)) (ca_cons (ce_op bin_div (ce_var 1) (ce_var 2)) ca_nil))))))))
theorem ok__law_ratio {f : Addr} {fd : FuncData} (Fn : Fun K "_law_ratio" "_law_ratio" s__law_ratio f fd) (hb : Binds K fd ["code"] []) (hm : mg "_law_ratio" = some (.ref f)) (D__law_lowest : Dfn P w K mg base "_law_lowest" 2 2 F__law_lowest) (m_int : mg "int" = none) : Dfn P w K mg base "_law_ratio" 3 1 F__law_ratio :=
  dfn_of (B := B__law_ratio) Fn sc__law_ratio hb hm (fun cdv A outer s H E hr => (css_cons (cs_set (i := 1) sc__law_ratio.nd rfl (by first | exact .inl rfl | exact .inr rfl) (ce_op bin_sub (ce_op bin_mod (c_int (by rfl) m_int (ca_cons (ce_var 0) ca_nil)) ce_int) ce_int)) (css_cons (cs_set (i := 2) sc__law_ratio.nd rfl (by first | exact .inl rfl | exact .inr rfl) (ce_ix (CL.ce (cl_lst (ca_cons ce_int (ca_cons ce_int (ca_cons ce_int (ca_cons ce_int (ca_cons ce_int (ca_cons ce_int ca_nil)))))))) (ce_op bin_mod (ce_op bin_div (ce_var 0) ce_int) ce_int))) (css_cons (cs_if (ct_cmp (bin_eq hr.units) (CE.cb (ce_op bin_mod (ce_op bin_div (ce_var 0) ce_int) ce_int)) (CE.cb ce_int)) (css_cons (cs_set (i := 1) sc__law_ratio.nd rfl (by first | exact .inl rfl | exact .inr rfl) (ce_op bin_add (ce_op bin_mulX (ce_var 1) (ce_op bin_pow ce_int ce_int)) ce_int)) (css_one (cs_set (i := 2) sc__law_ratio.nd rfl (by first | exact .inl rfl | exact .inr rfl) (ce_op bin_mulX (ce_var 2) ce_int)))) css_nil) (css_one (cs_ret (c_call D__law_lowest hr (by first | decide | omega) tk0 (by rfl) (ca_cons (ce_var 1) (ca_cons (ce_var 2) ca_nil)))))))))
theorem ok__law_same {f : Addr} {fd : FuncData} (Fn : Fun K "_law_same" "_law_same" s__law_same f fd) (hb : Binds K fd ["actual", "due"] []) (hm : mg "_law_same" = some (.ref f)) (m_all : mg "all" = none) (m_bool : mg "bool" = none) (m_int : mg "int" = none) (m_isinstance : mg "isinstance" = none) (m_len : mg "len" = none) (m_range : mg "range" = none) (m_str : mg "str" = none) (m_tuple : mg "tuple" = none) : ∀ fu : Nat, Dfn P w K mg base "_law_same" (0 + fu) 2 (F__law_same fu)
  | 0 => dfn_no rfl hm Fn.kp hb
  | fu + 1 => by
    have D__law_same := ok__law_same Fn hb hm m_all m_bool m_int m_isinstance m_len m_range m_str m_tuple fu
    exact dfn_of (B := B__law_same (F__law_same fu)) Fn sc__law_same hb hm (fun cdv A outer s H E hr => (css_cons (cs_if (ct_tru (CE.cb (c_isi_tuple (by rfl) m_isinstance (by rfl) m_tuple (CE.cb (ce_var 1))))) (css_cons (cs_if (CW.ct (cw_or (ct_not (ct_tru (CE.cb (c_isi_tuple (by rfl) m_isinstance (by rfl) m_tuple (CE.cb (ce_var 0)))))) (cw_or1 (ct_cmp (bin_ne hr.units) (CE.cb (c_len (by rfl) m_len (ca_cons (ce_var 0) ca_nil))) (CE.cb (c_len (by rfl) m_len (ca_cons (ce_var 1) ca_nil))))))) (css_one (cs_ret ce_bl)) css_nil) (css_one (cs_ret (c_all rfl (by rfl) m_all (ca_cons (CL.ce (cl_comp (own := [("k", 2)]) rfl sc__law_same.nd (blkOk_by (own := [("k", 2)]) (N := ["actual", "due", "k"]) (sc := defScope (topS 31)) (by decide +kernel)) (ci_range1 (c_len (by rfl) m_len (ca_cons (ce_var 1) ca_nil)) (by rfl) m_range) (fun _ _ _ _ _ => (cg_name 2 sc__law_same.nd rfl (by first | exact .inl rfl | exact .inr rfl))) (by decide) (fun _ _ _ _ _ => cts_nil) (fun _ _ _ _ _ => (c_call D__law_same hr (by first | exact Nat.le_refl _ | exact Nat.le_add_right _ _ | omega | decide) tkN (by rfl) (ca_cons (ce_ix (ce_var 0) (ce_var 2)) (ca_cons (ce_ix (ce_var 1) (ce_var 2)) ca_nil)))))) ca_nil))))) css_nil) (css_cons (cs_if (ct_cmp bin_is (CE.cb (ce_var 1)) (CE.cb ce_non)) (css_one (cs_ret (ce_cmp bin_is (CE.cb (ce_var 0)) (CE.cb ce_non)))) css_nil) (css_cons (cs_if (ct_tru (CE.cb (c_isi_str (by rfl) m_isinstance (by rfl) m_str (CE.cb (ce_var 1))))) (css_one (cs_ret (ce_and (c_isi_str (by rfl) m_isinstance (by rfl) m_str (CE.cb (ce_var 0))) (ce_one (ce_cmp (bin_eq hr.units) (CE.cb (ce_var 0)) (CE.cb (ce_var 1))))))) css_nil) (css_cons (cs_if (ct_tru (CE.cb (c_isi_bool (by rfl) m_isinstance (by rfl) m_bool (CE.cb (ce_var 1))))) (css_one (cs_ret (ce_and (c_isi_bool (by rfl) m_isinstance (by rfl) m_bool (CE.cb (ce_var 0))) (ce_one (ce_cmp (bin_eq hr.units) (CE.cb (ce_var 0)) (CE.cb (ce_var 1))))))) css_nil) (css_one (cs_ret (ce_and (c_isi_int (by rfl) m_isinstance (by rfl) m_int (CE.cb (ce_var 0))) (ce_and (ce_not (c_isi_bool (by rfl) m_isinstance (by rfl) m_bool (CE.cb (ce_var 0)))) (ce_one (ce_cmp (bin_eq hr.units) (CE.cb (ce_var 0)) (CE.cb (ce_var 1)))))))))))))
theorem ok__law_layer {f : Addr} {fd : FuncData} (Fn : Fun K "_law_layer" "_law_layer" s__law_layer f fd) (hb : Binds K fd ["rich", "size"] []) (hm : mg "_law_layer" = some (.ref f)) (D__law_codes : Dfn P w K mg base "_law_codes" 1 3 F__law_codes) (D__law_ratio : Dfn P w K mg base "_law_ratio" 3 1 F__law_ratio) (m_len : mg "len" = none) (m_range : mg "range" = none) (m_tuple : mg "tuple" = none) : Dfn P w K mg base "_law_layer" 4 2 F__law_layer :=
  dfn_of (B := B__law_layer) Fn sc__law_layer hb hm (fun cdv A outer s H E hr => (css_cons (cs_set (i := 2) sc__law_layer.nd rfl (by first | exact .inl rfl | exact .inr rfl) (c_call D__law_codes hr (by first | decide | omega) tk0 (by rfl) (ca_cons (ce_var 0) (ca_cons ce_int (ca_cons ce_int ca_nil))))) (css_cons (cs_set (i := 3) sc__law_layer.nd rfl (by first | exact .inl rfl | exact .inr rfl) (ce_op bin_add ce_int (ce_op bin_mod (ce_op bin_div (ce_ix (ce_var 2) ce_int) ce_int) ce_int))) (css_cons (cs_set (i := 4) sc__law_layer.nd rfl (by first | exact .inl rfl | exact .inr rfl) (CL.ce (cl_comp (own := [("code", 10)]) rfl sc__law_layer.nd (blkOk_by (own := [("code", 10)]) (N := ["rich", "size", "codes", "many", "ratios", "rows", "groups", "row", "group", "width", "code", "at"]) (sc := defScope (topS 32)) (by decide +kernel)) (ci_seq (ce_slice (ce_var 2) (co_some ce_int) co_none)) (fun _ _ _ _ _ => (cg_name 10 sc__law_layer.nd rfl (by first | exact .inl rfl | exact .inr rfl))) (by decide) (fun _ _ _ _ _ => cts_nil) (fun _ _ _ _ _ => (c_call D__law_ratio hr (by first | decide | omega) tkN (by rfl) (ca_cons (ce_var 10) ca_nil)))))) (css_cons (cs_if (ct_cmp bin_lt (CE.cb (ce_op bin_mod (ce_ix (ce_var 2) ce_int) ce_int)) (CE.cb ce_int)) (css_cons (cs_setCF (own := [("row", 7)]) (i := 5) rfl sc__law_layer.nd rfl rfl (sw_true rfl rfl rfl (by decide +kernel)) (blkOk_by (own := [("row", 7)]) (N := ["rich", "size", "codes", "many", "ratios", "rows", "groups", "row", "group", "width", "code", "at"]) (sc := defScope (topS 32)) (by decide +kernel)) (ci_range1 (ce_var 3) (by rfl) m_range) (fun _ _ _ _ _ => (cg_name 7 sc__law_layer.nd rfl (by first | exact .inl rfl | exact .inr rfl))) (by decide) (fun _ _ _ _ _ => cts_nil) (fun _ _ _ _ _ => (ce_tuple (CL.ce (cl_comp (own := [("at", 11)]) rfl sc__law_layer.nd (blkOk_by (own := [("at", 11)]) (N := ["rich", "size", "codes", "many", "ratios", "rows", "groups", "row", "group", "width", "code", "at"]) (sc := _) (by first | decide +kernel | (dsimp only [compEnvC, Cx.blk, cxOf]; decide +kernel) | rfl)) (ci_range1 (ce_var 1) (by rfl) m_range) (fun _ _ _ _ _ => (cg_name 11 sc__law_layer.nd rfl (by first | exact .inl rfl | exact .inr rfl))) (by decide) (fun _ _ _ _ _ => cts_nil) (fun _ _ _ _ _ => (ce_ix (ce_var 4) (ce_op bin_add (ce_op bin_mulX (ce_var 7) (ce_var 1)) (ce_var 11)))))) (by rfl) m_tuple))) (css_one (cs_ret (ce_tup (ca_cons ce_str (ca_cons (ce_tuple (ce_var 5) (by rfl) m_tuple) (ca_cons (ce_tuple (ce_slice (ce_var 4) (co_some ce_int) (co_some (ce_op bin_add ce_int (ce_var 3)))) (by rfl) m_tuple) ca_nil))))))) css_nil) (css_cons (cs_if (ct_cmp bin_lt (CE.cb (ce_op bin_mod (ce_ix (ce_var 2) ce_int) ce_int)) (CE.cb ce_int)) (css_one (cs_ret (ce_tup (ca_cons ce_str (ca_cons (ce_tuple (CL.ce (cl_comp (own := [("at", 11)]) rfl sc__law_layer.nd (blkOk_by (own := [("at", 11)]) (N := ["rich", "size", "codes", "many", "ratios", "rows", "groups", "row", "group", "width", "code", "at"]) (sc := defScope (topS 32)) (by decide +kernel)) (ci_range1 (ce_var 1) (by rfl) m_range) (fun _ _ _ _ _ => (cg_name 11 sc__law_layer.nd rfl (by first | exact .inl rfl | exact .inr rfl))) (by decide) (fun _ _ _ _ _ => cts_nil) (fun _ _ _ _ _ => (ce_cmp bin_gt (CE.cb (ce_op bin_mod (ce_ix (ce_var 2) (ce_op bin_add ce_int (ce_var 11))) ce_int)) (CE.cb ce_int))))) (by rfl) m_tuple) ca_nil))))) css_nil) (css_cons (cs_if (ct_cmp (bin_eq hr.units) (CE.cb (ce_op bin_mod (ce_ix (ce_var 2) ce_int) ce_int)) (CE.cb ce_int)) (css_cons (cs_setL (i := 6) sc__law_layer.nd rfl (by first | exact .inl rfl | exact .inr rfl) (cl_lst ca_nil)) (css_cons (cs_for ps0 rfl (ci_range1 (ce_var 3) (by rfl) m_range) (cg_name 7 sc__law_layer.nd rfl (by first | exact .inl rfl | exact .inr rfl)) (css_cons (cs_set (i := 8) sc__law_layer.nd rfl (by first | exact .inl rfl | exact .inr rfl) (ce_tuple (CL.ce (cl_comp (own := [("at", 11)]) rfl sc__law_layer.nd (blkOk_by (own := [("at", 11)]) (N := ["rich", "size", "codes", "many", "ratios", "rows", "groups", "row", "group", "width", "code", "at"]) (sc := defScope (topS 32)) (by decide +kernel)) (ci_range1 (ce_var 1) (by rfl) m_range) (fun _ _ _ _ _ => (cg_name 11 sc__law_layer.nd rfl (by first | exact .inl rfl | exact .inr rfl))) (by decide) (fun _ _ _ _ _ => cts_one (ct_cmp (bin_eq hr.units) (CE.cb (ce_op bin_mod (ce_op bin_div (ce_ix (ce_var 2) (ce_op bin_add ce_int (ce_var 7))) (ce_ix (CL.ce (cl_lst (ca_cons ce_int (ca_cons ce_int (ca_cons ce_int (ca_cons ce_int ca_nil)))))) (ce_var 11))) ce_int)) (CE.cb ce_int))) (fun _ _ _ _ _ => (ce_var 11)))) (by rfl) m_tuple)) (css_one (cs_app (i := 6) rfl (by first | exact .inl rfl | exact .inr (.inl rfl)) (by decide) (by decide) (ce_if (ct_cmp bin_gt (CE.cb (c_len (by rfl) m_len (ca_cons (ce_var 8) ca_nil))) (CE.cb ce_int)) (ce_var 8) (ce_tup (ca_cons (ce_op bin_mod (ce_op bin_div (ce_ix (ce_var 2) (ce_op bin_add ce_int (ce_var 7))) ce_int) (ce_var 1)) ca_nil))))))) (css_one (cs_ret (ce_tup (ca_cons ce_str (ca_cons (ce_tupleO 6 (by rfl) m_tuple) ca_nil))))))) css_nil) (css_cons (cs_set (i := 9) sc__law_layer.nd rfl (by first | exact .inl rfl | exact .inr rfl) (ce_op bin_add ce_int (ce_op bin_mod (ce_op bin_div (ce_ix (ce_var 2) ce_int) ce_int) (ce_var 1)))) (css_one (cs_ret (ce_tup (ca_cons ce_str (ca_cons (ce_op bin_add ce_int (ce_op bin_mod (ce_op bin_div (ce_ix (ce_var 2) ce_int) ce_int) ce_int)) (ca_cons (ce_tuple (ce_slice (ce_var 4) co_none (co_some (ce_var 9))) (by rfl) m_tuple) (ca_cons (ce_ix (ce_var 4) ce_int) ca_nil)))))))))))))))
theorem ok__law_given {f : Addr} {fd : FuncData} (Fn : Fun K "_law_given" "_law_given" s__law_given f fd) (hb : Binds K fd ["size", "layer"] []) (hm : mg "_law_given" = some (.ref f)) (m_len : mg "len" = none) (m_range : mg "range" = none) : Dfn P w K mg base "_law_given" 1 2 F__law_given :=
  dfn_of (B := B__law_given) Fn sc__law_given hb hm (fun cdv A outer s H E hr => (css_cons (cs_if (ct_cmp (bin_eq hr.units) (CE.cb (ce_ix (ce_var 1) ce_int)) (CE.cb ce_str)) (css_one (cs_ret (ce_var 0))) css_nil) (css_cons (cs_if (ct_cmp (bin_eq hr.units) (CE.cb (ce_ix (ce_var 1) ce_int)) (CE.cb ce_str)) (css_one (cs_ret (ce_rl (ca_cons ce_int (ca_cons (ce_op bin_add (ce_op bin_sub (ce_var 0) (c_len (by rfl) m_len (ca_cons (ce_ix (ce_var 1) ce_int) ca_nil))) ce_int) (ca_cons (ce_ix (ce_var 1) ce_int) ca_nil))) (by rfl) m_len (by rfl) m_range))) css_nil) (css_one (cs_ret (c_len (by rfl) m_len (ca_cons (ce_ix (ce_var 1) ce_int) ca_nil)))))))
theorem ok__law_network {f : Addr} {fd : FuncData} (Fn : Fun K "_law_network" "_law_network" s__law_network f fd) (hb : Binds K fd ["script", "first", "count"] []) (hm : mg "_law_network" = some (.ref f)) (D__law_cell : Dfn P w K mg base "_law_cell" 1 2 F__law_cell) (D__law_given : Dfn P w K mg base "_law_given" 1 2 F__law_given) (D__law_layer : Dfn P w K mg base "_law_layer" 4 2 F__law_layer) (D__law_rich : Dfn P w K mg base "_law_rich" 1 2 F__law_rich) (m_int : mg "int" = none) (m_range : mg "range" = none) (m_tuple : mg "tuple" = none) : Dfn P w K mg base "_law_network" 5 3 F__law_network :=
  dfn_of (B := B__law_network) Fn sc__law_network hb hm (fun cdv A outer s H E hr => (css_cons (cs_set (i := 3) sc__law_network.nd rfl (by first | exact .inl rfl | exact .inr rfl) (ce_op bin_add ce_int (ce_op bin_mod (c_int (by rfl) m_int (ca_cons (c_call D__law_cell hr (by first | decide | omega) tk0 (by rfl) (ca_cons (ce_var 0) (ca_cons (ce_var 1) ca_nil))) ca_nil)) ce_int))) (css_cons (cs_set (i := 4) sc__law_network.nd rfl (by first | exact .inl rfl | exact .inr rfl) (ce_var 3)) (css_cons (cs_setL (i := 5) sc__law_network.nd rfl (by first | exact .inl rfl | exact .inr rfl) (cl_lst ca_nil)) (css_cons (cs_for ps0 rfl (ci_range1 (ce_var 2) (by rfl) m_range) (cg_name 6 sc__law_network.nd rfl (by first | exact .inl rfl | exact .inr rfl)) (css_cons (cs_set (i := 7) sc__law_network.nd rfl (by first | exact .inl rfl | exact .inr rfl) (c_call D__law_layer hr (by first | decide | omega) tk0 (by rfl) (ca_cons (c_call D__law_rich hr (by first | decide | omega) tk0 (by rfl) (ca_cons (c_call D__law_cell hr (by first | decide | omega) tk0 (by rfl) (ca_cons (ce_var 0) (ca_cons (ce_op bin_add (ce_op bin_add (ce_var 1) ce_int) (ce_var 6)) ca_nil))) (ca_cons (ce_var 6) ca_nil))) (ca_cons (ce_var 3) ca_nil)))) (css_cons (cs_set (i := 3) sc__law_network.nd rfl (by first | exact .inl rfl | exact .inr rfl) (c_call D__law_given hr (by first | decide | omega) tk0 (by rfl) (ca_cons (ce_var 3) (ca_cons (ce_var 7) ca_nil)))) (css_one (cs_app (i := 5) rfl (by first | exact .inl rfl | exact .inr (.inl rfl)) (by decide) (by decide) (ce_var 7)))))) (css_one (cs_ret (ce_tup (ca_cons (ce_var 4) (ca_cons (ce_tupleO 5 (by rfl) m_tuple) ca_nil))))))))))
theorem ok__law_turns {f : Addr} {fd : FuncData} (Fn : Fun K "_law_turns" "_law_turns" s__law_turns f fd) (hb : Binds K fd ["script", "count", "shift"] []) (hm : mg "_law_turns" = some (.ref f)) (D__law_cell : Dfn P w K mg base "_law_cell" 1 2 F__law_cell) (D__law_given : Dfn P w K mg base "_law_given" 1 2 F__law_given) (D__law_layer : Dfn P w K mg base "_law_layer" 4 2 F__law_layer) (D__law_rich : Dfn P w K mg base "_law_rich" 1 2 F__law_rich) (m_int : mg "int" = none) (m_range : mg "range" = none) (m_tuple : mg "tuple" = none) : Dfn P w K mg base "_law_turns" 5 3 F__law_turns :=
  dfn_of (B := B__law_turns) Fn sc__law_turns hb hm (fun cdv A outer s H E hr => (css_cons (cs_set (i := 3) sc__law_turns.nd rfl (by first | exact .inl rfl | exact .inr rfl) (ce_op bin_add ce_int (ce_op bin_mod (c_int (by rfl) m_int (ca_cons (c_call D__law_cell hr (by first | decide | omega) tk0 (by rfl) (ca_cons (ce_var 0) (ca_cons ce_int ca_nil))) ca_nil)) ce_int))) (css_cons (cs_set (i := 4) sc__law_turns.nd rfl (by first | exact .inl rfl | exact .inr rfl) (ce_var 3)) (css_cons (cs_setL (i := 5) sc__law_turns.nd rfl (by first | exact .inl rfl | exact .inr rfl) (cl_lst ca_nil)) (css_cons (cs_for ps0 rfl (ci_range1 (ce_var 1) (by rfl) m_range) (cg_name 6 sc__law_turns.nd rfl (by first | exact .inl rfl | exact .inr rfl)) (css_cons (cs_set (i := 7) sc__law_turns.nd rfl (by first | exact .inl rfl | exact .inr rfl) (c_call D__law_rich hr (by first | decide | omega) tk0 (by rfl) (ca_cons (c_call D__law_cell hr (by first | decide | omega) tk0 (by rfl) (ca_cons (ce_var 0) (ca_cons (ce_op bin_add ce_int (ce_var 6)) ca_nil))) (ca_cons (ce_var 6) ca_nil)))) (css_cons (cs_set (i := 8) sc__law_turns.nd rfl (by first | exact .inl rfl | exact .inr rfl) (c_call D__law_layer hr (by first | decide | omega) tk0 (by rfl) (ca_cons (ce_op bin_add (ce_op bin_add (ce_op bin_sub (ce_var 7) (ce_op bin_mod (c_int (by rfl) m_int (ca_cons (ce_var 7) ca_nil)) ce_int)) (ce_op bin_mulX (ce_op bin_mod (ce_op bin_div (c_int (by rfl) m_int (ca_cons (ce_var 7) ca_nil)) ce_int) ce_int) ce_int)) (ce_op bin_mulX ce_int (ce_op bin_mod (ce_op bin_add (ce_var 6) (ce_var 2)) ce_int))) (ca_cons (ce_var 3) ca_nil)))) (css_cons (cs_set (i := 3) sc__law_turns.nd rfl (by first | exact .inl rfl | exact .inr rfl) (c_call D__law_given hr (by first | decide | omega) tk0 (by rfl) (ca_cons (ce_var 3) (ca_cons (ce_var 8) ca_nil)))) (css_one (cs_app (i := 5) rfl (by first | exact .inl rfl | exact .inr (.inl rfl)) (by decide) (by decide) (ce_var 8))))))) (css_one (cs_ret (ce_tup (ca_cons (ce_var 4) (ca_cons (ce_tupleO 5 (by rfl) m_tuple) ca_nil))))))))))
theorem ok__law_plain {f : Addr} {fd : FuncData} (Fn : Fun K "_law_plain" "_law_plain" s__law_plain f fd) (hb : Binds K fd ["network"] []) (hm : mg "_law_plain" = some (.ref f)) (m_all : mg "all" = none) (m_len : mg "len" = none) (m_range : mg "range" = none) : Dfn P w K mg base "_law_plain" 1 1 F__law_plain :=
  dfn_of (B := B__law_plain) Fn sc__law_plain hb hm (fun cdv A outer s H E hr => (css_cons (cs_set (i := 1) sc__law_plain.nd rfl (by first | exact .inl rfl | exact .inr rfl) (CL.ce (cl_comp (own := [("layer", 2)]) rfl sc__law_plain.nd (blkOk_by (own := [("layer", 2)]) (N := ["network", "kinds", "layer", "k"]) (sc := defScope (topS 36)) (by decide +kernel)) (ci_seq (ce_ix (ce_var 0) ce_int)) (fun _ _ _ _ _ => (cg_name 2 sc__law_plain.nd rfl (by first | exact .inl rfl | exact .inr rfl))) (by decide) (fun _ _ _ _ _ => cts_nil) (fun _ _ _ _ _ => (ce_ix (ce_var 2) ce_int))))) (css_cons (cs_if (ct_cmp (bin_eq hr.units) (CE.cb (ce_op bin_mod (c_len (by rfl) m_len (ca_cons (ce_var 1) ca_nil)) ce_int)) (CE.cb ce_int)) (css_one (cs_ret ce_bl)) css_nil) (css_one (cs_ret (c_all rfl (by rfl) m_all (ca_cons (CL.ce (cl_comp (own := [("k", 3)]) rfl sc__law_plain.nd (blkOk_by (own := [("k", 3)]) (N := ["network", "kinds", "layer", "k"]) (sc := defScope (topS 36)) (by decide +kernel)) (ci_range1 (c_len (by rfl) m_len (ca_cons (ce_var 1) ca_nil)) (by rfl) m_range) (fun _ _ _ _ _ => (cg_name 3 sc__law_plain.nd rfl (by first | exact .inl rfl | exact .inr rfl))) (by decide) (fun _ _ _ _ _ => cts_nil) (fun _ _ _ _ _ => (ce_cmp (bin_eq hr.units) (CE.cb (ce_ix (ce_var 1) (ce_var 3))) (CE.cb (ce_ix (CL.ce (cl_lst (ca_cons ce_str (ca_cons ce_str ca_nil)))) (ce_op bin_mod (ce_var 3) ce_int))))))) ca_nil)))))))
theorem ok__law_places {f : Addr} {fd : FuncData} (Fn : Fun K "_law_places" "_law_places" s__law_places f fd) (hb : Binds K fd ["network"] []) (hm : mg "_law_places" = some (.ref f)) (m_len : mg "len" = none) (m_range : mg "range" = none) (m_tuple : mg "tuple" = none) : Dfn P w K mg base "_law_places" 1 1 F__law_places :=
  dfn_of (B := B__law_places) Fn sc__law_places hb hm (fun cdv A outer s H E hr => (css_cons (cs_set (i := 1) sc__law_places.nd rfl (by first | exact .inl rfl | exact .inr rfl) (CL.ce (cl_lst ca_nil))) (css_cons (cs_for ps0 rfl (ci_range1 (c_len (by rfl) m_len (ca_cons (ce_ix (ce_var 0) ce_int) ca_nil)) (by rfl) m_range) (cg_name 2 sc__law_places.nd rfl (by first | exact .inl rfl | exact .inr rfl)) (css_one (cs_if (ct_cmp (bin_eq hr.units) (CE.cb (ce_ix (ce_ix (ce_ix (ce_var 0) ce_int) (ce_var 2)) ce_int)) (CE.cb ce_str)) (css_cons (cs_set (i := 3) sc__law_places.nd rfl (by first | exact .inl rfl | exact .inr rfl) (ce_ix (ce_ix (ce_ix (ce_var 0) ce_int) (ce_var 2)) ce_int)) (css_one (cs_set (i := 1) sc__law_places.nd rfl (by first | exact .inl rfl | exact .inr rfl) (ce_op bin_addX (ce_var 1) (CL.ce (cl_comp (own := [("at", 4)]) rfl sc__law_places.nd (blkOk_by (own := [("at", 4)]) (N := ["network", "found", "k", "flags", "at"]) (sc := defScope (topS 37)) (by decide +kernel)) (ci_range1 (c_len (by rfl) m_len (ca_cons (ce_var 3) ca_nil)) (by rfl) m_range) (fun _ _ _ _ _ => (cg_name 4 sc__law_places.nd rfl (by first | exact .inl rfl | exact .inr rfl))) (by decide) (fun _ _ _ _ _ => cts_one (ct_tru (CE.cb (ce_ix (ce_var 3) (ce_var 4))))) (fun _ _ _ _ _ => (ce_tup (ca_cons (ce_var 2) (ca_cons (ce_var 4) ca_nil)))))))))) css_nil))) (css_one (cs_ret (ce_tuple (ce_var 1) (by rfl) m_tuple))))))
theorem mt__law_checked {a_BadNetwork : Addr} (x_BadNetwork : XC2 K mg "BadNetwork" a_BadNetwork) (q_BadNetwork_BadNetwork : PySem.W.exmOne K (.ref a_BadNetwork) (.ref a_BadNetwork) = some true) : ∀ c b, mtc__law_checked c = some b → ∀ C, mg c = some C → PySem.W.exmOne K C (.ref a_BadNetwork) = some b := by
  intro c b h C hC
  unfold mtc__law_checked at h
  by_cases e_BadNetwork : c = "BadNetwork"
  · rw [if_pos e_BadNetwork] at h
    subst e_BadNetwork
    cases h
    cases x_BadNetwork.gg.symm.trans hC
    exact q_BadNetwork_BadNetwork
  rw [if_neg e_BadNetwork] at h
  cases h
theorem ok__law_checked {a_BadNetwork : Addr} {f : Addr} {fd : FuncData} (Fn : Fun K "_law_checked" "_law_checked" s__law_checked f fd) (hb : Binds K fd ["network"] []) (hm : mg "_law_checked" = some (.ref f)) (D_check_plain : Dfn P w K mg base "check_plain" 10 1 F_check_plain) (x_BadNetwork : XC2 K mg "BadNetwork" a_BadNetwork) (T_BadNetwork : XfC K a_BadNetwork) (g_BadNetwork_layer : PySem.W.findIn K (.ref a_BadNetwork) "layer" = some none) (g_BadNetwork_reason : PySem.W.findIn K (.ref a_BadNetwork) "reason" = some none) (q_BadNetwork_BadNetwork : PySem.W.exmOne K (.ref a_BadNetwork) (.ref a_BadNetwork) = some true) : Dfn P w K mg base "_law_checked" 11 1 F__law_checked :=
  dfn_of (B := B__law_checked) Fn sc__law_checked hb hm (fun cdv A outer s H E hr => (css_one (cs_try_as (i := 1) rfl rfl sc__law_checked.nd rfl rfl ⟨by rfl, by decide, .inl x_BadNetwork.gg⟩ tk0 (fun _ _ _ htk hps => (css_one (cs_ret (c_call D_check_plain hr (by first | decide | omega) htk (by rfl) (ca_cons (ce_var 0) ca_nil))))) (fun _ _ _ _ _ hz hf => (cx_tup (cax_cons (cx_fld T_BadNetwork x_BadNetwork.gg g_BadNetwork_layer hz hf rfl (.inl rfl)) (cax_cons (cx_fld T_BadNetwork x_BadNetwork.gg g_BadNetwork_reason hz hf rfl (.inl rfl)) cax_nil)))) (mt__law_checked x_BadNetwork q_BadNetwork_BadNetwork))))
theorem ok__law_right {f : Addr} {fd : FuncData} (Fn : Fun K "_law_right" "_law_right" s__law_right f fd) (hb : Binds K fd ["network"] []) (hm : mg "_law_right" = some (.ref f)) (D__law_checked : Dfn P w K mg base "_law_checked" 11 1 F__law_checked) (D__law_places : Dfn P w K mg base "_law_places" 1 1 F__law_places) (D__law_plain : Dfn P w K mg base "_law_plain" 1 1 F__law_plain) (D__law_same : Dfn P w K mg base "_law_same" 20 2 (F__law_same RD)) (D_is_plain : Dfn P w K mg base "is_plain" 10 1 F_is_plain) (D_unit_places : Dfn P w K mg base "unit_places" 10 1 F_unit_places) (D_units : Dfn P w K mg base "units" 11 1 F_units) (m_len : mg "len" = none) : Dfn P w K mg base "_law_right" 21 1 F__law_right :=
  dfn_of (B := B__law_right) Fn sc__law_right hb hm (fun cdv A outer s H E hr => (css_cons (cs_set (i := 1) sc__law_right.nd rfl (by first | exact .inl rfl | exact .inr rfl) (c_call D__law_plain hr (by first | decide | omega) tk0 (by rfl) (ca_cons (ce_var 0) ca_nil))) (css_cons (cs_if (ct_not (ct_tru (CE.cb (c_call D__law_same hr (by first | exact Nat.le_refl _ | exact Nat.le_add_right _ _ | omega | decide) tk0 (by rfl) (ca_cons (c_call D_is_plain hr (by first | decide | omega) tk0 (by rfl) (ca_cons (ce_var 0) ca_nil)) (ca_cons (ce_var 1) ca_nil)))))) (css_one (cs_ret ce_bl)) css_nil) (css_cons (cs_if (ct_not (ct_tru (CE.cb (c_call D__law_same hr (by first | exact Nat.le_refl _ | exact Nat.le_add_right _ _ | omega | decide) tk0 (by rfl) (ca_cons (c_call D__law_checked hr (by first | decide | omega) tk0 (by rfl) (ca_cons (ce_var 0) ca_nil)) (ca_cons (ce_if (ct_tru (CE.cb (ce_var 1))) ce_non (ce_tup (ca_cons (ce_un un_negD ce_int) (ca_cons ce_str ca_nil)))) ca_nil)))))) (css_one (cs_ret ce_bl)) css_nil) (css_cons (cs_set (i := 2) sc__law_right.nd rfl (by first | exact .inl rfl | exact .inr rfl) (c_call D__law_places hr (by first | decide | omega) tk0 (by rfl) (ca_cons (ce_var 0) ca_nil))) (css_one (cs_ret (ce_and (c_call D__law_same hr (by first | exact Nat.le_refl _ | exact Nat.le_add_right _ _ | omega | decide) tk0 (by rfl) (ca_cons (c_call D_unit_places hr (by first | decide | omega) tk0 (by rfl) (ca_cons (ce_var 0) ca_nil)) (ca_cons (ce_var 2) ca_nil))) (ce_one (c_call D__law_same hr (by first | exact Nat.le_refl _ | exact Nat.le_add_right _ _ | omega | decide) tk0 (by rfl) (ca_cons (c_call D_units hr (by first | decide | omega) tk0 (by rfl) (ca_cons (ce_var 0) ca_nil)) (ca_cons (c_len (by rfl) m_len (ca_cons (ce_var 2) ca_nil)) ca_nil))))))))))))
theorem ok_law {f : Addr} {fd : FuncData} (Fn : Fun K "law" "law" s_law f fd) (D__law_network : Dfn P w K mg base "_law_network" 5 3 F__law_network) (D__law_right : Dfn P w K mg base "_law_right" 21 1 F__law_right) (D__law_turns : Dfn P w K mg base "_law_turns" 5 3 F__law_turns) (m_len : mg "len" = none) (m_max : mg "max" = none) (m_min : mg "min" = none) : FnOk P w K mg base (L2.CX P w) 22 f fd ["script"] (spD K mg 1 F_law) :=
  okD Fn sc_law B_law fun cdv A outer s H E hr => (css_cons (cs_set (i := 1) sc_law.nd rfl (by first | exact .inl rfl | exact .inr rfl) (c_max rfl (by rfl) m_max (ca_cons ce_int (ca_cons (c_min rfl (by rfl) m_min (ca_cons ce_int (ca_cons (ce_op bin_sub (c_len (by rfl) m_len (ca_cons (ce_var 0) ca_nil)) ce_int) ca_nil))) ca_nil)))) (css_cons (cs_set (i := 2) sc_law.nd rfl (by first | exact .inl rfl | exact .inr rfl) (c_call D__law_network hr (by first | decide | omega) tk0 (by rfl) (ca_cons (ce_var 0) (ca_cons ce_int (ca_cons (ce_var 1) ca_nil))))) (css_cons (cs_if (CW.ct (cw_or (ct_not (ct_tru (CE.cb (c_call D__law_right hr (by first | decide | omega) tk0 (by rfl) (ca_cons (ce_var 2) ca_nil))))) (cw_or1 (ct_not (ct_tru (CE.cb (c_call D__law_right hr (by first | decide | omega) tk0 (by rfl) (ca_cons (ce_tup (ca_cons (ce_ix (ce_var 2) ce_int) (ca_cons (ce_tup ca_nil) ca_nil))) ca_nil)))))))) (css_one (cs_ret ce_bl)) css_nil) (css_cons (cs_for ps0 rfl (ci_seq (CL.ce (cl_lst (ca_cons ce_int (ca_cons ce_int ca_nil))))) (cg_name 3 sc_law.nd rfl (by first | exact .inl rfl | exact .inr rfl)) (css_cons (cs_set (i := 4) sc_law.nd rfl (by first | exact .inl rfl | exact .inr rfl) (c_call D__law_turns hr (by first | decide | omega) tk0 (by rfl) (ca_cons (ce_var 0) (ca_cons (ce_var 1) (ca_cons (ce_var 3) ca_nil))))) (css_cons (cs_if (CW.ct (cw_or (ct_not (ct_tru (CE.cb (c_call D__law_right hr (by first | decide | omega) tk0 (by rfl) (ca_cons (ce_var 4) ca_nil))))) (cw_or1 (ct_not (ct_tru (CE.cb (c_call D__law_right hr (by first | decide | omega) tk0 (by rfl) (ca_cons (ce_tup (ca_cons (ce_ix (ce_var 4) ce_int) (ca_cons (ce_slice (ce_ix (ce_var 4) ce_int) co_none (co_some (ce_op bin_sub (ce_var 1) ce_int))) ca_nil))) ca_nil)))))))) (css_one (cs_ret ce_bl)) css_nil) (css_one (cs_if (ct_not (ct_tru (CE.cb (c_call D__law_right hr (by first | decide | omega) tk0 (by rfl) (ca_cons (ce_tup (ca_cons (ce_ix (ce_var 4) ce_int) (ca_cons (ce_slice (ce_ix (ce_var 4) ce_int) co_none (co_some (ce_op bin_add (ce_op bin_div (ce_var 1) ce_int) ce_int))) ca_nil))) ca_nil))))) (css_one (cs_ret ce_bl)) css_nil))))) (css_one (cs_ret ce_bl))))))
end
end KM
set_option Elab.async false
set_option linter.all false
set_option maxRecDepth 100000
set_option maxHeartbeats 4000000
namespace KM
open PySem PySem.Spec PyProof.Rows L2 PD
theorem all_mk {lw : PySem.W.OpenLaw} {P : Program} (hP : P = lw.prog) {w : World} {K : PySem.W.Frag} {h : Heap} {mg : Str → Option Value} {fa : Addr} (X : K.In h) (G : h.Ns mainGlobals mg) (hfa : mg "law" = some (.ref fa))
    {f_is_integer : Addr} {od_is_integer an_is_integer : Option Addr} {sl_is_integer : Array (Option Value)} {oc_is_integer kV_is_integer dc_is_integer pm_is_integer cd_is_integer ct_is_integer : Value}
    {f_is_ratio : Addr} {od_is_ratio an_is_ratio : Option Addr} {sl_is_ratio : Array (Option Value)} {oc_is_ratio kV_is_ratio dc_is_ratio pm_is_ratio cd_is_ratio ct_is_ratio : Value}
    {f_is_vector : Addr} {od_is_vector an_is_vector : Option Addr} {sl_is_vector : Array (Option Value)} {oc_is_vector dc_is_vector pm_is_vector ct_is_vector : Value}
    {KD_is_vector : Addr}
    {cc_is_vector pt_is_vector : Addr}
    {f_is_matrix : Addr} {od_is_matrix an_is_matrix : Option Addr} {sl_is_matrix : Array (Option Value)} {oc_is_matrix dc_is_matrix pm_is_matrix ct_is_matrix : Value}
    {KD_is_matrix : Addr}
    {cc_is_matrix pt_is_matrix : Addr}
    {f_is_group : Addr} {od_is_group an_is_group : Option Addr} {sl_is_group : Array (Option Value)} {oc_is_group kV_is_group dc_is_group pm_is_group cd_is_group ct_is_group : Value}
    {f_is_window : Addr} {od_is_window an_is_window : Option Addr} {sl_is_window : Array (Option Value)} {oc_is_window kV_is_window dc_is_window pm_is_window cd_is_window ct_is_window : Value}
    {f_is_layer : Addr} {od_is_layer an_is_layer : Option Addr} {sl_is_layer : Array (Option Value)} {oc_is_layer kV_is_layer dc_is_layer pm_is_layer ct_is_layer : Value}
    {cc_is_layer pt_is_layer : Addr}
    {f_fits : Addr} {od_fits an_fits : Option Addr} {sl_fits : Array (Option Value)} {oc_fits kV_fits dc_fits pm_fits ct_fits : Value}
    {cc_fits pt_fits : Addr}
    {f_given : Addr} {od_given an_given : Option Addr} {sl_given : Array (Option Value)} {oc_given kV_given dc_given pm_given cd_given ct_given : Value}
    {f_check : Addr} {od_check an_check : Option Addr} {sl_check : Array (Option Value)} {oc_check kV_check dc_check pm_check cd_check ct_check : Value}
    {f_in_turn : Addr} {od_in_turn an_in_turn : Option Addr} {sl_in_turn : Array (Option Value)} {oc_in_turn kV_in_turn dc_in_turn pm_in_turn cd_in_turn ct_in_turn : Value}
    {f_check_plain : Addr} {od_check_plain an_check_plain : Option Addr} {sl_check_plain : Array (Option Value)} {oc_check_plain kV_check_plain dc_check_plain pm_check_plain cd_check_plain ct_check_plain : Value}
    {f_is_plain : Addr} {od_is_plain an_is_plain : Option Addr} {sl_is_plain : Array (Option Value)} {oc_is_plain kV_is_plain dc_is_plain pm_is_plain cd_is_plain ct_is_plain : Value}
    {f_unit_places : Addr} {od_unit_places an_unit_places : Option Addr} {sl_unit_places : Array (Option Value)} {oc_unit_places kV_unit_places dc_unit_places pm_unit_places cd_unit_places ct_unit_places : Value}
    {f_units : Addr} {od_units an_units : Option Addr} {sl_units : Array (Option Value)} {oc_units kV_units dc_units pm_units cd_units ct_units : Value}
    {f__law_cell : Addr} {od__law_cell an__law_cell : Option Addr} {sl__law_cell : Array (Option Value)} {oc__law_cell kV__law_cell dc__law_cell pm__law_cell cd__law_cell ct__law_cell : Value}
    {f__law_rich : Addr} {od__law_rich an__law_rich : Option Addr} {sl__law_rich : Array (Option Value)} {oc__law_rich kV__law_rich dc__law_rich pm__law_rich cd__law_rich ct__law_rich : Value}
    {f__law_codes : Addr} {od__law_codes an__law_codes : Option Addr} {sl__law_codes : Array (Option Value)} {oc__law_codes kV__law_codes dc__law_codes pm__law_codes cd__law_codes ct__law_codes : Value}
    {f__law_common : Addr} {od__law_common an__law_common : Option Addr} {sl__law_common : Array (Option Value)} {oc__law_common kV__law_common dc__law_common pm__law_common cd__law_common ct__law_common : Value}
    {f__law_lowest : Addr} {od__law_lowest an__law_lowest : Option Addr} {sl__law_lowest : Array (Option Value)} {oc__law_lowest kV__law_lowest dc__law_lowest pm__law_lowest cd__law_lowest ct__law_lowest : Value}
    {f__law_ratio : Addr} {od__law_ratio an__law_ratio : Option Addr} {sl__law_ratio : Array (Option Value)} {oc__law_ratio kV__law_ratio dc__law_ratio pm__law_ratio cd__law_ratio ct__law_ratio : Value}
    {f__law_same : Addr} {od__law_same an__law_same : Option Addr} {sl__law_same : Array (Option Value)} {oc__law_same kV__law_same dc__law_same pm__law_same cd__law_same ct__law_same : Value}
    {f__law_layer : Addr} {od__law_layer an__law_layer : Option Addr} {sl__law_layer : Array (Option Value)} {oc__law_layer kV__law_layer dc__law_layer pm__law_layer cd__law_layer ct__law_layer : Value}
    {f__law_given : Addr} {od__law_given an__law_given : Option Addr} {sl__law_given : Array (Option Value)} {oc__law_given kV__law_given dc__law_given pm__law_given cd__law_given ct__law_given : Value}
    {f__law_network : Addr} {od__law_network an__law_network : Option Addr} {sl__law_network : Array (Option Value)} {oc__law_network kV__law_network dc__law_network pm__law_network cd__law_network ct__law_network : Value}
    {f__law_turns : Addr} {od__law_turns an__law_turns : Option Addr} {sl__law_turns : Array (Option Value)} {oc__law_turns kV__law_turns dc__law_turns pm__law_turns cd__law_turns ct__law_turns : Value}
    {f__law_plain : Addr} {od__law_plain an__law_plain : Option Addr} {sl__law_plain : Array (Option Value)} {oc__law_plain kV__law_plain dc__law_plain pm__law_plain cd__law_plain ct__law_plain : Value}
    {f__law_places : Addr} {od__law_places an__law_places : Option Addr} {sl__law_places : Array (Option Value)} {oc__law_places kV__law_places dc__law_places pm__law_places cd__law_places ct__law_places : Value}
    {f__law_checked : Addr} {od__law_checked an__law_checked : Option Addr} {sl__law_checked : Array (Option Value)} {oc__law_checked kV__law_checked dc__law_checked pm__law_checked cd__law_checked ct__law_checked : Value}
    {f__law_right : Addr} {od__law_right an__law_right : Option Addr} {sl__law_right : Array (Option Value)} {oc__law_right kV__law_right dc__law_right pm__law_right cd__law_right ct__law_right : Value}
    {f_law : Addr} {od_law an_law : Option Addr} {sl_law : Array (Option Value)} {oc_law kV_law dc_law pm_law cd_law ct_law : Value}
    {t_MOST_INPUTS : Tok}
    {t_MOST_STEP : Tok}
    {a_BadNetwork : Addr}
    {fI_BadNetwork cc_BadNetwork cd_BadNetwork : Addr} {ocI_BadNetwork clI_BadNetwork ccI_BadNetwork dcI_BadNetwork pmI_BadNetwork ctI_BadNetwork : Value} {odI_BadNetwork cldI_BadNetwork cddI_BadNetwork anI_BadNetwork : Option Addr} {slI_BadNetwork cslI_BadNetwork ccsI_BadNetwork : Array (Option Value)} {vsI_BadNetwork : Array Value} {fileI_BadNetwork : Str} {tfI_BadNetwork : Tok}
    (a_is_integer : PySem.W.nsIn K mainGlobals "is_integer" = some (some (.ref f_is_integer)))
    (l_is_integer : K.lookup f_is_integer = some ⟨oc_is_integer, od_is_integer, .func (PySem.W.fnOf "is_integer" "is_integer" (defArgs s_is_integer) (defBody s_is_integer) (defScope s_is_integer) .none kV_is_integer dc_is_integer pm_is_integer an_is_integer cd_is_integer ct_is_integer), sl_is_integer⟩)
    (c_is_integer : PySem.W.codeIn K cd_is_integer "is_integer" = true)
    (k_is_integer : PySem.W.keepIn K (.ref f_is_integer) = true)
    (a_is_ratio : PySem.W.nsIn K mainGlobals "is_ratio" = some (some (.ref f_is_ratio)))
    (l_is_ratio : K.lookup f_is_ratio = some ⟨oc_is_ratio, od_is_ratio, .func (PySem.W.fnOf "is_ratio" "is_ratio" (defArgs s_is_ratio) (defBody s_is_ratio) (defScope s_is_ratio) .none kV_is_ratio dc_is_ratio pm_is_ratio an_is_ratio cd_is_ratio ct_is_ratio), sl_is_ratio⟩)
    (c_is_ratio : PySem.W.codeIn K cd_is_ratio "is_ratio" = true)
    (k_is_ratio : PySem.W.keepIn K (.ref f_is_ratio) = true)
    (a_is_vector : PySem.W.nsIn K mainGlobals "is_vector" = some (some (.ref f_is_vector)))
    (l_is_vector : K.lookup f_is_vector = some ⟨oc_is_vector, od_is_vector, .func (PySem.W.fnOf "is_vector" "is_vector" (defArgs s_is_vector) (defBody s_is_vector) (defScope s_is_vector) .none (.ref KD_is_vector) dc_is_vector pm_is_vector an_is_vector (.ref cc_is_vector) ct_is_vector), sl_is_vector⟩)
    (c_is_vector : PySem.W.codeIn K (.ref cc_is_vector) "is_vector" = true)
    (kd_is_vector_size : PySem.W.nsIn K KD_is_vector "size" = some (some .none))
    (gq_is_vector : PySem.W.codeHdIn K cc_is_vector pt_is_vector = true)
    (gu_is_vector : K.lookup pt_is_vector = none)
    (gh_is_vector : h.get? pt_is_vector = some { cls := .none, data := .fields #[] })
    (k_is_vector : PySem.W.keepIn K (.ref f_is_vector) = true)
    (a_is_matrix : PySem.W.nsIn K mainGlobals "is_matrix" = some (some (.ref f_is_matrix)))
    (l_is_matrix : K.lookup f_is_matrix = some ⟨oc_is_matrix, od_is_matrix, .func (PySem.W.fnOf "is_matrix" "is_matrix" (defArgs s_is_matrix) (defBody s_is_matrix) (defScope s_is_matrix) .none (.ref KD_is_matrix) dc_is_matrix pm_is_matrix an_is_matrix (.ref cc_is_matrix) ct_is_matrix), sl_is_matrix⟩)
    (c_is_matrix : PySem.W.codeIn K (.ref cc_is_matrix) "is_matrix" = true)
    (kd_is_matrix_rows : PySem.W.nsIn K KD_is_matrix "rows" = some (some .none))
    (kd_is_matrix_columns : PySem.W.nsIn K KD_is_matrix "columns" = some (some .none))
    (gq_is_matrix : PySem.W.codeHdIn K cc_is_matrix pt_is_matrix = true)
    (gu_is_matrix : K.lookup pt_is_matrix = none)
    (gh_is_matrix : h.get? pt_is_matrix = some { cls := .none, data := .fields #[] })
    (k_is_matrix : PySem.W.keepIn K (.ref f_is_matrix) = true)
    (a_is_group : PySem.W.nsIn K mainGlobals "is_group" = some (some (.ref f_is_group)))
    (l_is_group : K.lookup f_is_group = some ⟨oc_is_group, od_is_group, .func (PySem.W.fnOf "is_group" "is_group" (defArgs s_is_group) (defBody s_is_group) (defScope s_is_group) .none kV_is_group dc_is_group pm_is_group an_is_group cd_is_group ct_is_group), sl_is_group⟩)
    (c_is_group : PySem.W.codeIn K cd_is_group "is_group" = true)
    (k_is_group : PySem.W.keepIn K (.ref f_is_group) = true)
    (a_is_window : PySem.W.nsIn K mainGlobals "is_window" = some (some (.ref f_is_window)))
    (l_is_window : K.lookup f_is_window = some ⟨oc_is_window, od_is_window, .func (PySem.W.fnOf "is_window" "is_window" (defArgs s_is_window) (defBody s_is_window) (defScope s_is_window) .none kV_is_window dc_is_window pm_is_window an_is_window cd_is_window ct_is_window), sl_is_window⟩)
    (c_is_window : PySem.W.codeIn K cd_is_window "is_window" = true)
    (k_is_window : PySem.W.keepIn K (.ref f_is_window) = true)
    (a_is_layer : PySem.W.nsIn K mainGlobals "is_layer" = some (some (.ref f_is_layer)))
    (l_is_layer : K.lookup f_is_layer = some ⟨oc_is_layer, od_is_layer, .func (PySem.W.fnOf "is_layer" "is_layer" (defArgs s_is_layer) (defBody s_is_layer) (defScope s_is_layer) .none kV_is_layer dc_is_layer pm_is_layer an_is_layer (.ref cc_is_layer) ct_is_layer), sl_is_layer⟩)
    (c_is_layer : PySem.W.codeIn K (.ref cc_is_layer) "is_layer" = true)
    (gq_is_layer : PySem.W.codeHdIn K cc_is_layer pt_is_layer = true)
    (gu_is_layer : K.lookup pt_is_layer = none)
    (gh_is_layer : h.get? pt_is_layer = some { cls := .none, data := .fields #[] })
    (k_is_layer : PySem.W.keepIn K (.ref f_is_layer) = true)
    (a_fits : PySem.W.nsIn K mainGlobals "fits" = some (some (.ref f_fits)))
    (l_fits : K.lookup f_fits = some ⟨oc_fits, od_fits, .func (PySem.W.fnOf "fits" "fits" (defArgs s_fits) (defBody s_fits) (defScope s_fits) .none kV_fits dc_fits pm_fits an_fits (.ref cc_fits) ct_fits), sl_fits⟩)
    (c_fits : PySem.W.codeIn K (.ref cc_fits) "fits" = true)
    (gq_fits : PySem.W.codeHdIn K cc_fits pt_fits = true)
    (gu_fits : K.lookup pt_fits = none)
    (gh_fits : h.get? pt_fits = some { cls := .none, data := .fields #[] })
    (k_fits : PySem.W.keepIn K (.ref f_fits) = true)
    (a_given : PySem.W.nsIn K mainGlobals "given" = some (some (.ref f_given)))
    (l_given : K.lookup f_given = some ⟨oc_given, od_given, .func (PySem.W.fnOf "given" "given" (defArgs s_given) (defBody s_given) (defScope s_given) .none kV_given dc_given pm_given an_given cd_given ct_given), sl_given⟩)
    (c_given : PySem.W.codeIn K cd_given "given" = true)
    (k_given : PySem.W.keepIn K (.ref f_given) = true)
    (a_check : PySem.W.nsIn K mainGlobals "check" = some (some (.ref f_check)))
    (l_check : K.lookup f_check = some ⟨oc_check, od_check, .func (PySem.W.fnOf "check" "check" (defArgs s_check) (defBody s_check) (defScope s_check) .none kV_check dc_check pm_check an_check cd_check ct_check), sl_check⟩)
    (c_check : PySem.W.codeIn K cd_check "check" = true)
    (k_check : PySem.W.keepIn K (.ref f_check) = true)
    (a_in_turn : PySem.W.nsIn K mainGlobals "in_turn" = some (some (.ref f_in_turn)))
    (l_in_turn : K.lookup f_in_turn = some ⟨oc_in_turn, od_in_turn, .func (PySem.W.fnOf "in_turn" "in_turn" (defArgs s_in_turn) (defBody s_in_turn) (defScope s_in_turn) .none kV_in_turn dc_in_turn pm_in_turn an_in_turn cd_in_turn ct_in_turn), sl_in_turn⟩)
    (c_in_turn : PySem.W.codeIn K cd_in_turn "in_turn" = true)
    (k_in_turn : PySem.W.keepIn K (.ref f_in_turn) = true)
    (a_check_plain : PySem.W.nsIn K mainGlobals "check_plain" = some (some (.ref f_check_plain)))
    (l_check_plain : K.lookup f_check_plain = some ⟨oc_check_plain, od_check_plain, .func (PySem.W.fnOf "check_plain" "check_plain" (defArgs s_check_plain) (defBody s_check_plain) (defScope s_check_plain) .none kV_check_plain dc_check_plain pm_check_plain an_check_plain cd_check_plain ct_check_plain), sl_check_plain⟩)
    (c_check_plain : PySem.W.codeIn K cd_check_plain "check_plain" = true)
    (k_check_plain : PySem.W.keepIn K (.ref f_check_plain) = true)
    (a_is_plain : PySem.W.nsIn K mainGlobals "is_plain" = some (some (.ref f_is_plain)))
    (l_is_plain : K.lookup f_is_plain = some ⟨oc_is_plain, od_is_plain, .func (PySem.W.fnOf "is_plain" "is_plain" (defArgs s_is_plain) (defBody s_is_plain) (defScope s_is_plain) .none kV_is_plain dc_is_plain pm_is_plain an_is_plain cd_is_plain ct_is_plain), sl_is_plain⟩)
    (c_is_plain : PySem.W.codeIn K cd_is_plain "is_plain" = true)
    (k_is_plain : PySem.W.keepIn K (.ref f_is_plain) = true)
    (a_unit_places : PySem.W.nsIn K mainGlobals "unit_places" = some (some (.ref f_unit_places)))
    (l_unit_places : K.lookup f_unit_places = some ⟨oc_unit_places, od_unit_places, .func (PySem.W.fnOf "unit_places" "unit_places" (defArgs s_unit_places) (defBody s_unit_places) (defScope s_unit_places) .none kV_unit_places dc_unit_places pm_unit_places an_unit_places cd_unit_places ct_unit_places), sl_unit_places⟩)
    (c_unit_places : PySem.W.codeIn K cd_unit_places "unit_places" = true)
    (k_unit_places : PySem.W.keepIn K (.ref f_unit_places) = true)
    (a_units : PySem.W.nsIn K mainGlobals "units" = some (some (.ref f_units)))
    (l_units : K.lookup f_units = some ⟨oc_units, od_units, .func (PySem.W.fnOf "units" "units" (defArgs s_units) (defBody s_units) (defScope s_units) .none kV_units dc_units pm_units an_units cd_units ct_units), sl_units⟩)
    (c_units : PySem.W.codeIn K cd_units "units" = true)
    (k_units : PySem.W.keepIn K (.ref f_units) = true)
    (a__law_cell : PySem.W.nsIn K mainGlobals "_law_cell" = some (some (.ref f__law_cell)))
    (l__law_cell : K.lookup f__law_cell = some ⟨oc__law_cell, od__law_cell, .func (PySem.W.fnOf "_law_cell" "_law_cell" (defArgs s__law_cell) (defBody s__law_cell) (defScope s__law_cell) .none kV__law_cell dc__law_cell pm__law_cell an__law_cell cd__law_cell ct__law_cell), sl__law_cell⟩)
    (c__law_cell : PySem.W.codeIn K cd__law_cell "_law_cell" = true)
    (k__law_cell : PySem.W.keepIn K (.ref f__law_cell) = true)
    (a__law_rich : PySem.W.nsIn K mainGlobals "_law_rich" = some (some (.ref f__law_rich)))
    (l__law_rich : K.lookup f__law_rich = some ⟨oc__law_rich, od__law_rich, .func (PySem.W.fnOf "_law_rich" "_law_rich" (defArgs s__law_rich) (defBody s__law_rich) (defScope s__law_rich) .none kV__law_rich dc__law_rich pm__law_rich an__law_rich cd__law_rich ct__law_rich), sl__law_rich⟩)
    (c__law_rich : PySem.W.codeIn K cd__law_rich "_law_rich" = true)
    (k__law_rich : PySem.W.keepIn K (.ref f__law_rich) = true)
    (a__law_codes : PySem.W.nsIn K mainGlobals "_law_codes" = some (some (.ref f__law_codes)))
    (l__law_codes : K.lookup f__law_codes = some ⟨oc__law_codes, od__law_codes, .func (PySem.W.fnOf "_law_codes" "_law_codes" (defArgs s__law_codes) (defBody s__law_codes) (defScope s__law_codes) .none kV__law_codes dc__law_codes pm__law_codes an__law_codes cd__law_codes ct__law_codes), sl__law_codes⟩)
    (c__law_codes : PySem.W.codeIn K cd__law_codes "_law_codes" = true)
    (k__law_codes : PySem.W.keepIn K (.ref f__law_codes) = true)
    (a__law_common : PySem.W.nsIn K mainGlobals "_law_common" = some (some (.ref f__law_common)))
    (l__law_common : K.lookup f__law_common = some ⟨oc__law_common, od__law_common, .func (PySem.W.fnOf "_law_common" "_law_common" (defArgs s__law_common) (defBody s__law_common) (defScope s__law_common) .none kV__law_common dc__law_common pm__law_common an__law_common cd__law_common ct__law_common), sl__law_common⟩)
    (c__law_common : PySem.W.codeIn K cd__law_common "_law_common" = true)
    (k__law_common : PySem.W.keepIn K (.ref f__law_common) = true)
    (a__law_lowest : PySem.W.nsIn K mainGlobals "_law_lowest" = some (some (.ref f__law_lowest)))
    (l__law_lowest : K.lookup f__law_lowest = some ⟨oc__law_lowest, od__law_lowest, .func (PySem.W.fnOf "_law_lowest" "_law_lowest" (defArgs s__law_lowest) (defBody s__law_lowest) (defScope s__law_lowest) .none kV__law_lowest dc__law_lowest pm__law_lowest an__law_lowest cd__law_lowest ct__law_lowest), sl__law_lowest⟩)
    (c__law_lowest : PySem.W.codeIn K cd__law_lowest "_law_lowest" = true)
    (k__law_lowest : PySem.W.keepIn K (.ref f__law_lowest) = true)
    (a__law_ratio : PySem.W.nsIn K mainGlobals "_law_ratio" = some (some (.ref f__law_ratio)))
    (l__law_ratio : K.lookup f__law_ratio = some ⟨oc__law_ratio, od__law_ratio, .func (PySem.W.fnOf "_law_ratio" "_law_ratio" (defArgs s__law_ratio) (defBody s__law_ratio) (defScope s__law_ratio) .none kV__law_ratio dc__law_ratio pm__law_ratio an__law_ratio cd__law_ratio ct__law_ratio), sl__law_ratio⟩)
    (c__law_ratio : PySem.W.codeIn K cd__law_ratio "_law_ratio" = true)
    (k__law_ratio : PySem.W.keepIn K (.ref f__law_ratio) = true)
    (a__law_same : PySem.W.nsIn K mainGlobals "_law_same" = some (some (.ref f__law_same)))
    (l__law_same : K.lookup f__law_same = some ⟨oc__law_same, od__law_same, .func (PySem.W.fnOf "_law_same" "_law_same" (defArgs s__law_same) (defBody s__law_same) (defScope s__law_same) .none kV__law_same dc__law_same pm__law_same an__law_same cd__law_same ct__law_same), sl__law_same⟩)
    (c__law_same : PySem.W.codeIn K cd__law_same "_law_same" = true)
    (k__law_same : PySem.W.keepIn K (.ref f__law_same) = true)
    (a__law_layer : PySem.W.nsIn K mainGlobals "_law_layer" = some (some (.ref f__law_layer)))
    (l__law_layer : K.lookup f__law_layer = some ⟨oc__law_layer, od__law_layer, .func (PySem.W.fnOf "_law_layer" "_law_layer" (defArgs s__law_layer) (defBody s__law_layer) (defScope s__law_layer) .none kV__law_layer dc__law_layer pm__law_layer an__law_layer cd__law_layer ct__law_layer), sl__law_layer⟩)
    (c__law_layer : PySem.W.codeIn K cd__law_layer "_law_layer" = true)
    (k__law_layer : PySem.W.keepIn K (.ref f__law_layer) = true)
    (a__law_given : PySem.W.nsIn K mainGlobals "_law_given" = some (some (.ref f__law_given)))
    (l__law_given : K.lookup f__law_given = some ⟨oc__law_given, od__law_given, .func (PySem.W.fnOf "_law_given" "_law_given" (defArgs s__law_given) (defBody s__law_given) (defScope s__law_given) .none kV__law_given dc__law_given pm__law_given an__law_given cd__law_given ct__law_given), sl__law_given⟩)
    (c__law_given : PySem.W.codeIn K cd__law_given "_law_given" = true)
    (k__law_given : PySem.W.keepIn K (.ref f__law_given) = true)
    (a__law_network : PySem.W.nsIn K mainGlobals "_law_network" = some (some (.ref f__law_network)))
    (l__law_network : K.lookup f__law_network = some ⟨oc__law_network, od__law_network, .func (PySem.W.fnOf "_law_network" "_law_network" (defArgs s__law_network) (defBody s__law_network) (defScope s__law_network) .none kV__law_network dc__law_network pm__law_network an__law_network cd__law_network ct__law_network), sl__law_network⟩)
    (c__law_network : PySem.W.codeIn K cd__law_network "_law_network" = true)
    (k__law_network : PySem.W.keepIn K (.ref f__law_network) = true)
    (a__law_turns : PySem.W.nsIn K mainGlobals "_law_turns" = some (some (.ref f__law_turns)))
    (l__law_turns : K.lookup f__law_turns = some ⟨oc__law_turns, od__law_turns, .func (PySem.W.fnOf "_law_turns" "_law_turns" (defArgs s__law_turns) (defBody s__law_turns) (defScope s__law_turns) .none kV__law_turns dc__law_turns pm__law_turns an__law_turns cd__law_turns ct__law_turns), sl__law_turns⟩)
    (c__law_turns : PySem.W.codeIn K cd__law_turns "_law_turns" = true)
    (k__law_turns : PySem.W.keepIn K (.ref f__law_turns) = true)
    (a__law_plain : PySem.W.nsIn K mainGlobals "_law_plain" = some (some (.ref f__law_plain)))
    (l__law_plain : K.lookup f__law_plain = some ⟨oc__law_plain, od__law_plain, .func (PySem.W.fnOf "_law_plain" "_law_plain" (defArgs s__law_plain) (defBody s__law_plain) (defScope s__law_plain) .none kV__law_plain dc__law_plain pm__law_plain an__law_plain cd__law_plain ct__law_plain), sl__law_plain⟩)
    (c__law_plain : PySem.W.codeIn K cd__law_plain "_law_plain" = true)
    (k__law_plain : PySem.W.keepIn K (.ref f__law_plain) = true)
    (a__law_places : PySem.W.nsIn K mainGlobals "_law_places" = some (some (.ref f__law_places)))
    (l__law_places : K.lookup f__law_places = some ⟨oc__law_places, od__law_places, .func (PySem.W.fnOf "_law_places" "_law_places" (defArgs s__law_places) (defBody s__law_places) (defScope s__law_places) .none kV__law_places dc__law_places pm__law_places an__law_places cd__law_places ct__law_places), sl__law_places⟩)
    (c__law_places : PySem.W.codeIn K cd__law_places "_law_places" = true)
    (k__law_places : PySem.W.keepIn K (.ref f__law_places) = true)
    (a__law_checked : PySem.W.nsIn K mainGlobals "_law_checked" = some (some (.ref f__law_checked)))
    (l__law_checked : K.lookup f__law_checked = some ⟨oc__law_checked, od__law_checked, .func (PySem.W.fnOf "_law_checked" "_law_checked" (defArgs s__law_checked) (defBody s__law_checked) (defScope s__law_checked) .none kV__law_checked dc__law_checked pm__law_checked an__law_checked cd__law_checked ct__law_checked), sl__law_checked⟩)
    (c__law_checked : PySem.W.codeIn K cd__law_checked "_law_checked" = true)
    (k__law_checked : PySem.W.keepIn K (.ref f__law_checked) = true)
    (a__law_right : PySem.W.nsIn K mainGlobals "_law_right" = some (some (.ref f__law_right)))
    (l__law_right : K.lookup f__law_right = some ⟨oc__law_right, od__law_right, .func (PySem.W.fnOf "_law_right" "_law_right" (defArgs s__law_right) (defBody s__law_right) (defScope s__law_right) .none kV__law_right dc__law_right pm__law_right an__law_right cd__law_right ct__law_right), sl__law_right⟩)
    (c__law_right : PySem.W.codeIn K cd__law_right "_law_right" = true)
    (k__law_right : PySem.W.keepIn K (.ref f__law_right) = true)
    (a_law : PySem.W.nsIn K mainGlobals "law" = some (some (.ref f_law)))
    (l_law : K.lookup f_law = some ⟨oc_law, od_law, .func (PySem.W.fnOf "law" "law" (defArgs s_law) (defBody s_law) (defScope s_law) .none kV_law dc_law pm_law an_law cd_law ct_law), sl_law⟩)
    (c_law : PySem.W.codeIn K cd_law "law" = true)
    (k_law : PySem.W.keepIn K (.ref f_law) = true)
    (n_abs : PySem.W.nsIn K mainGlobals "abs" = some none)
    (n_all : PySem.W.nsIn K mainGlobals "all" = some none)
    (n_bool : PySem.W.nsIn K mainGlobals "bool" = some none)
    (n_enumerate : PySem.W.nsIn K mainGlobals "enumerate" = some none)
    (n_gcd : PySem.W.nsIn K mainGlobals "gcd" = some (some (.builtin "math.gcd")))
    (n_int : PySem.W.nsIn K mainGlobals "int" = some none)
    (n_isinstance : PySem.W.nsIn K mainGlobals "isinstance" = some none)
    (n_len : PySem.W.nsIn K mainGlobals "len" = some none)
    (n_max : PySem.W.nsIn K mainGlobals "max" = some none)
    (n_min : PySem.W.nsIn K mainGlobals "min" = some none)
    (n_range : PySem.W.nsIn K mainGlobals "range" = some none)
    (n_str : PySem.W.nsIn K mainGlobals "str" = some none)
    (n_tuple : PySem.W.nsIn K mainGlobals "tuple" = some none)
    (g_MOST_INPUTS : PySem.W.nsIn K mainGlobals "MOST_INPUTS" = some (some (.int 1000 t_MOST_INPUTS)))
    (g_MOST_STEP : PySem.W.nsIn K mainGlobals "MOST_STEP" = some (some (.int 1000 t_MOST_STEP)))
    (xg_BadNetwork : PySem.W.nsIn K mainGlobals "BadNetwork" = some (some (.ref a_BadNetwork)))
    (xk_BadNetwork : PySem.W.keepIn K (.ref a_BadNetwork) = true)
    (xb_BadNetwork : PySem.W.subIn K (.ref a_BadNetwork) (.type "BaseException") = some true)
    (xt_BadNetwork : PySem.W.typeIn K (.ref a_BadNetwork) = some (.type "type"))
    (nsuper : PySem.W.nsIn K mainGlobals "super" = some none)
    (opq : PySem.W.nsIn K cStatics "thirdparty.any" = some none)
    (ptop : (lw.prog.main.scope.names.lookup ("super" : Str)).isSome = false)
    (iC_BadNetwork : PySem.W.findIn K (.ref a_BadNetwork) "__init__" = some (some (.ref fI_BadNetwork)))
    (tI_BadNetwork : PySem.W.typeIn K (.ref fI_BadNetwork) = some (.type "function"))
    (lI_BadNetwork : K.lookup fI_BadNetwork = some ⟨ocI_BadNetwork, odI_BadNetwork, .func (PySem.W.fnX "__init__" "BadNetwork.__init__" (defArgs s_init_BadNetwork) (defBody s_init_BadNetwork) (defScope s_init_BadNetwork) [("__class__", cc_BadNetwork)] .none .none dcI_BadNetwork pmI_BadNetwork anI_BadNetwork (.ref cd_BadNetwork) ctI_BadNetwork), slI_BadNetwork⟩)
    (cdI_BadNetwork : PySem.W.codeIn K (.ref cd_BadNetwork) "BadNetwork.__init__" = true)
    (ceI_BadNetwork : K.lookup cc_BadNetwork = some ⟨clI_BadNetwork, cldI_BadNetwork, .cell (some (.ref a_BadNetwork)), cslI_BadNetwork⟩)
    (coI_BadNetwork : K.lookup cd_BadNetwork = some ⟨ccI_BadNetwork, cddI_BadNetwork, .fields vsI_BadNetwork, ccsI_BadNetwork⟩)
    (fiI_BadNetwork : vsI_BadNetwork[2]? = some (.str fileI_BadNetwork tfI_BadNetwork))
    (fjI_BadNetwork : ((lw.prog.main.file : Str) == fileI_BadNetwork) = true)
    (oxI_BadNetwork : oexB K a_BadNetwork = true)
    (saI_BadNetwork : PySem.W.findIn K (.ref a_BadNetwork) "__setattr__" = some (some (.builtin "object.__setattr__")))
    (mrI_BadNetwork : PySem.W.mroIn K a_BadNetwork (.ref a_BadNetwork) = some true)
    (suI_BadNetwork : PySem.W.ks_superIn K a_BadNetwork a_BadNetwork "__init__" = some (some (.builtin "ValueError.__init__")))
    (veI_BadNetwork : PySem.W.subIn K (.ref a_BadNetwork) (.type "ValueError") = some true)
    (g_BadNetwork_layer : PySem.W.findIn K (.ref a_BadNetwork) "layer" = some none)
    (g_BadNetwork_reason : PySem.W.findIn K (.ref a_BadNetwork) "reason" = some none)
    (tx_BadNetwork : xfB K a_BadNetwork = true)
    (y_BadNetwork : PySem.W.isClsIn K a_BadNetwork = true)
    (z_BadNetwork_BadNetwork : PySem.W.subIn K (.ref a_BadNetwork) (.ref a_BadNetwork) = some true)
    : LamX.LawAtS lw w K (L2.CX lw.prog w) 22 63 "script" mg fa h := by
  subst hP
  have e := hfa.symm.trans (PySem.W.mg_of X G a_law)
  cases e
  have U_is_integer := fun_mk (st := s_is_integer) l_is_integer c_is_integer k_is_integer
  have b_is_integer := U_is_integer.binds (ps := ["value"]) fun _ _ _ _ _ _ us hl => match us, hl with | [_], _ => rfl
  have U_is_ratio := fun_mk (st := s_is_ratio) l_is_ratio c_is_ratio k_is_ratio
  have b_is_ratio := U_is_ratio.binds (ps := ["value"]) fun _ _ _ _ _ _ us hl => match us, hl with | [_], _ => rfl
  have U_is_vector : FunD K "is_vector" "is_vector" (defArgs s_is_vector) (defBody s_is_vector) (defScope s_is_vector) [] [("size", .non)] f_is_vector (PySem.W.fnOf "is_vector" "is_vector" (defArgs s_is_vector) (defBody s_is_vector) (defScope s_is_vector) .none (.ref KD_is_vector) dc_is_vector pm_is_vector an_is_vector (.ref cc_is_vector) ct_is_vector) := ⟨⟨oc_is_vector, od_is_vector, .none, (.ref KD_is_vector), dc_is_vector, pm_is_vector, an_is_vector, (.ref cc_is_vector), ct_is_vector, sl_is_vector, rfl, l_is_vector, c_is_vector, .inl ⟨rfl, rfl⟩, .inr ⟨KD_is_vector, rfl, fun q hq => by
    simp only [List.mem_cons, List.not_mem_nil, or_false] at hq
    rcases hq with rfl
    · exact ⟨_, kd_is_vector_size, rfl⟩⟩⟩, k_is_vector⟩
  have U_is_matrix : FunD K "is_matrix" "is_matrix" (defArgs s_is_matrix) (defBody s_is_matrix) (defScope s_is_matrix) [] [("rows", .non), ("columns", .non)] f_is_matrix (PySem.W.fnOf "is_matrix" "is_matrix" (defArgs s_is_matrix) (defBody s_is_matrix) (defScope s_is_matrix) .none (.ref KD_is_matrix) dc_is_matrix pm_is_matrix an_is_matrix (.ref cc_is_matrix) ct_is_matrix) := ⟨⟨oc_is_matrix, od_is_matrix, .none, (.ref KD_is_matrix), dc_is_matrix, pm_is_matrix, an_is_matrix, (.ref cc_is_matrix), ct_is_matrix, sl_is_matrix, rfl, l_is_matrix, c_is_matrix, .inl ⟨rfl, rfl⟩, .inr ⟨KD_is_matrix, rfl, fun q hq => by
    simp only [List.mem_cons, List.not_mem_nil, or_false] at hq
    rcases hq with rfl | rfl
    · exact ⟨_, kd_is_matrix_rows, rfl⟩
    · exact ⟨_, kd_is_matrix_columns, rfl⟩⟩⟩, k_is_matrix⟩
  have U_is_group := fun_mk (st := s_is_group) l_is_group c_is_group k_is_group
  have b_is_group := U_is_group.binds (ps := ["value"]) fun _ _ _ _ _ _ us hl => match us, hl with | [_], _ => rfl
  have U_is_window := fun_mk (st := s_is_window) l_is_window c_is_window k_is_window
  have b_is_window := U_is_window.binds (ps := ["step", "weights", "offset"]) fun _ _ _ _ _ _ us hl => match us, hl with | [_, _, _], _ => rfl
  have U_is_layer := fun_mk (st := s_is_layer) l_is_layer c_is_layer k_is_layer
  have b_is_layer := U_is_layer.binds (ps := ["value"]) fun _ _ _ _ _ _ us hl => match us, hl with | [_], _ => rfl
  have U_fits := fun_mk (st := s_fits) l_fits c_fits k_fits
  have b_fits := U_fits.binds (ps := ["layer", "taken"]) fun _ _ _ _ _ _ us hl => match us, hl with | [_, _], _ => rfl
  have U_given := fun_mk (st := s_given) l_given c_given k_given
  have b_given := U_given.binds (ps := ["layer", "taken"]) fun _ _ _ _ _ _ us hl => match us, hl with | [_, _], _ => rfl
  have U_check := fun_mk (st := s_check) l_check c_check k_check
  have b_check := U_check.binds (ps := ["network"]) fun _ _ _ _ _ _ us hl => match us, hl with | [_], _ => rfl
  have U_in_turn := fun_mk (st := s_in_turn) l_in_turn c_in_turn k_in_turn
  have b_in_turn := U_in_turn.binds (ps := ["layers"]) fun _ _ _ _ _ _ us hl => match us, hl with | [_], _ => rfl
  have U_check_plain := fun_mk (st := s_check_plain) l_check_plain c_check_plain k_check_plain
  have b_check_plain := U_check_plain.binds (ps := ["network"]) fun _ _ _ _ _ _ us hl => match us, hl with | [_], _ => rfl
  have U_is_plain := fun_mk (st := s_is_plain) l_is_plain c_is_plain k_is_plain
  have b_is_plain := U_is_plain.binds (ps := ["network"]) fun _ _ _ _ _ _ us hl => match us, hl with | [_], _ => rfl
  have U_unit_places := fun_mk (st := s_unit_places) l_unit_places c_unit_places k_unit_places
  have b_unit_places := U_unit_places.binds (ps := ["network"]) fun _ _ _ _ _ _ us hl => match us, hl with | [_], _ => rfl
  have U_units := fun_mk (st := s_units) l_units c_units k_units
  have b_units := U_units.binds (ps := ["network"]) fun _ _ _ _ _ _ us hl => match us, hl with | [_], _ => rfl
  have U__law_cell := fun_mk (st := s__law_cell) l__law_cell c__law_cell k__law_cell
  have b__law_cell := U__law_cell.binds (ps := ["script", "k"]) fun _ _ _ _ _ _ us hl => match us, hl with | [_, _], _ => rfl
  have U__law_rich := fun_mk (st := s__law_rich) l__law_rich c__law_rich k__law_rich
  have b__law_rich := U__law_rich.binds (ps := ["cell", "k"]) fun _ _ _ _ _ _ us hl => match us, hl with | [_, _], _ => rfl
  have U__law_codes := fun_mk (st := s__law_codes) l__law_codes c__law_codes k__law_codes
  have b__law_codes := U__law_codes.binds (ps := ["rich", "count", "base"]) fun _ _ _ _ _ _ us hl => match us, hl with | [_, _, _], _ => rfl
  have U__law_common := fun_mk (st := s__law_common) l__law_common c__law_common k__law_common
  have b__law_common := U__law_common.binds (ps := ["one", "other"]) fun _ _ _ _ _ _ us hl => match us, hl with | [_, _], _ => rfl
  have U__law_lowest := fun_mk (st := s__law_lowest) l__law_lowest c__law_lowest k__law_lowest
  have b__law_lowest := U__law_lowest.binds (ps := ["above", "below"]) fun _ _ _ _ _ _ us hl => match us, hl with | [_, _], _ => rfl
  have U__law_ratio := fun_mk (st := s__law_ratio) l__law_ratio c__law_ratio k__law_ratio
  have b__law_ratio := U__law_ratio.binds (ps := ["code"]) fun _ _ _ _ _ _ us hl => match us, hl with | [_], _ => rfl
  have U__law_same := fun_mk (st := s__law_same) l__law_same c__law_same k__law_same
  have b__law_same := U__law_same.binds (ps := ["actual", "due"]) fun _ _ _ _ _ _ us hl => match us, hl with | [_, _], _ => rfl
  have U__law_layer := fun_mk (st := s__law_layer) l__law_layer c__law_layer k__law_layer
  have b__law_layer := U__law_layer.binds (ps := ["rich", "size"]) fun _ _ _ _ _ _ us hl => match us, hl with | [_, _], _ => rfl
  have U__law_given := fun_mk (st := s__law_given) l__law_given c__law_given k__law_given
  have b__law_given := U__law_given.binds (ps := ["size", "layer"]) fun _ _ _ _ _ _ us hl => match us, hl with | [_, _], _ => rfl
  have U__law_network := fun_mk (st := s__law_network) l__law_network c__law_network k__law_network
  have b__law_network := U__law_network.binds (ps := ["script", "first", "count"]) fun _ _ _ _ _ _ us hl => match us, hl with | [_, _, _], _ => rfl
  have U__law_turns := fun_mk (st := s__law_turns) l__law_turns c__law_turns k__law_turns
  have b__law_turns := U__law_turns.binds (ps := ["script", "count", "shift"]) fun _ _ _ _ _ _ us hl => match us, hl with | [_, _, _], _ => rfl
  have U__law_plain := fun_mk (st := s__law_plain) l__law_plain c__law_plain k__law_plain
  have b__law_plain := U__law_plain.binds (ps := ["network"]) fun _ _ _ _ _ _ us hl => match us, hl with | [_], _ => rfl
  have U__law_places := fun_mk (st := s__law_places) l__law_places c__law_places k__law_places
  have b__law_places := U__law_places.binds (ps := ["network"]) fun _ _ _ _ _ _ us hl => match us, hl with | [_], _ => rfl
  have U__law_checked := fun_mk (st := s__law_checked) l__law_checked c__law_checked k__law_checked
  have b__law_checked := U__law_checked.binds (ps := ["network"]) fun _ _ _ _ _ _ us hl => match us, hl with | [_], _ => rfl
  have U__law_right := fun_mk (st := s__law_right) l__law_right c__law_right k__law_right
  have b__law_right := U__law_right.binds (ps := ["network"]) fun _ _ _ _ _ _ us hl => match us, hl with | [_], _ => rfl
  have U_law := fun_mk (st := s_law) l_law c_law k_law
  have m_abs := PySem.W.mg_none_of X G n_abs
  have m_all := PySem.W.mg_none_of X G n_all
  have m_bool := PySem.W.mg_none_of X G n_bool
  have m_enumerate := PySem.W.mg_none_of X G n_enumerate
  have m_gcd := PySem.W.mg_of X G n_gcd
  have m_int := PySem.W.mg_none_of X G n_int
  have m_isinstance := PySem.W.mg_none_of X G n_isinstance
  have m_len := PySem.W.mg_none_of X G n_len
  have m_max := PySem.W.mg_none_of X G n_max
  have m_min := PySem.W.mg_none_of X G n_min
  have m_range := PySem.W.mg_none_of X G n_range
  have m_str := PySem.W.mg_none_of X G n_str
  have m_tuple := PySem.W.mg_none_of X G n_tuple
  have c_MOST_INPUTS : GInt mg "MOST_INPUTS" 1000 := ⟨_, PySem.W.mg_of X G g_MOST_INPUTS⟩
  have c_MOST_STEP : GInt mg "MOST_STEP" 1000 := ⟨_, PySem.W.mg_of X G g_MOST_STEP⟩
  have x_BadNetwork : XC2 K mg "BadNetwork" a_BadNetwork := ⟨PySem.W.mg_of X G xg_BadNetwork, xk_BadNetwork, xb_BadNetwork, xt_BadNetwork⟩
  have m_super := PySem.W.mg_none_of X G nsuper
  have T_BadNetwork := xfB_ok tx_BadNetwork
  have q_BadNetwork_BadNetwork := exm_of xb_BadNetwork y_BadNetwork xt_BadNetwork z_BadNetwork_BadNetwork
  refine law_at [(cc_is_vector, pt_is_vector), (cc_is_matrix, pt_is_matrix), (cc_is_layer, pt_is_layer), (cc_fits, pt_fits)] (fun p hp => by
    simp only [List.mem_cons, List.not_mem_nil, or_false] at hp
    rcases hp with rfl | rfl | rfl | rfl
    · exact gh_is_vector
    · exact gh_is_matrix
    · exact gh_is_layer
    · exact gh_fits)
    (fun p hp => by
    simp only [List.mem_cons, List.not_mem_nil, or_false] at hp
    rcases hp with rfl | rfl | rfl | rfl
    · exact gu_is_vector
    · exact gu_is_matrix
    · exact gu_is_layer
    · exact gu_fits)
    (fun p hp => by
    simp only [List.mem_cons, List.not_mem_nil, or_false] at hp
    rcases hp with rfl | rfl | rfl | rfl
    · exact PySem.W.codeHd_of_K X gq_is_vector
    · exact PySem.W.codeHd_of_K X gq_is_matrix
    · exact PySem.W.codeHd_of_K X gq_is_layer
    · exact PySem.W.codeHd_of_K X gq_fits)
    (fd := PySem.W.fnOf "law" "law" (defArgs s_law) (defBody s_law) (defScope s_law) .none kV_law dc_law pm_law an_law cd_law ct_law) (fun s v => .of_eq rfl) (fun base _ _ hTB => ?_)
  letI tbs : Tbs := ⟨[pt_is_vector, pt_is_matrix, pt_is_layer, pt_fits]⟩
  have gt_is_vector : GT base mg (PySem.W.fnOf "is_vector" "is_vector" (defArgs s_is_vector) (defBody s_is_vector) (defScope s_is_vector) .none (.ref KD_is_vector) dc_is_vector pm_is_vector an_is_vector (.ref cc_is_vector) ct_is_vector) := ⟨cc_is_vector, pt_is_vector, hTB (cc_is_vector, pt_is_vector) (by simp), rfl, by show pt_is_vector ∈ [pt_is_vector, pt_is_matrix, pt_is_layer, pt_fits]; simp⟩
  have gt_is_matrix : GT base mg (PySem.W.fnOf "is_matrix" "is_matrix" (defArgs s_is_matrix) (defBody s_is_matrix) (defScope s_is_matrix) .none (.ref KD_is_matrix) dc_is_matrix pm_is_matrix an_is_matrix (.ref cc_is_matrix) ct_is_matrix) := ⟨cc_is_matrix, pt_is_matrix, hTB (cc_is_matrix, pt_is_matrix) (by simp), rfl, by show pt_is_matrix ∈ [pt_is_vector, pt_is_matrix, pt_is_layer, pt_fits]; simp⟩
  have gt_is_layer : GT base mg (PySem.W.fnOf "is_layer" "is_layer" (defArgs s_is_layer) (defBody s_is_layer) (defScope s_is_layer) .none kV_is_layer dc_is_layer pm_is_layer an_is_layer (.ref cc_is_layer) ct_is_layer) := ⟨cc_is_layer, pt_is_layer, hTB (cc_is_layer, pt_is_layer) (by simp), rfl, by show pt_is_layer ∈ [pt_is_vector, pt_is_matrix, pt_is_layer, pt_fits]; simp⟩
  have gt_fits : GT base mg (PySem.W.fnOf "fits" "fits" (defArgs s_fits) (defBody s_fits) (defScope s_fits) .none kV_fits dc_fits pm_fits an_fits (.ref cc_fits) ct_fits) := ⟨cc_fits, pt_fits, hTB (cc_fits, pt_fits) (by simp), rfl, by show pt_fits ∈ [pt_is_vector, pt_is_matrix, pt_is_layer, pt_fits]; simp⟩
  have GI_BadNetwork : ErrK lw.prog K a_BadNetwork fI_BadNetwork cc_BadNetwork cd_BadNetwork _ "BadNetwork.__init__" "self" := ⟨⟨⟨_, _, _, lI_BadNetwork⟩, ⟨_, rfl, rfl⟩, ⟨_, _, _, _, _, _, coI_BadNetwork, fiI_BadNetwork, fjI_BadNetwork⟩, ptop, ⟨_, _, _, ceI_BadNetwork⟩, oexC_of oxI_BadNetwork saI_BadNetwork xb_BadNetwork xt_BadNetwork xk_BadNetwork, mrI_BadNetwork, suI_BadNetwork, opq, veI_BadNetwork⟩, cdI_BadNetwork, iC_BadNetwork, tI_BadNetwork⟩
  have E_BadNetwork : ErrC lw.prog w K mg base "BadNetwork" 1 (fun C => spErr2 K C "layer" "reason") := errC2_mk (pl := _) GI_BadNetwork x_BadNetwork.gg rfl (Binds.all fun us hl => match us, hl with | [_, _, _], _ => rfl) m_super (NdefX.nscope_by (by decide +kernel)) (by decide +kernel) (by decide +kernel) g_BadNetwork_layer g_BadNetwork_reason (by decide +kernel) (fun _ => rfl) (fun _ => rfl)
  have D_is_integer := ok_is_integer (P := lw.prog) (w := w) (base := base) U_is_integer b_is_integer (PySem.W.mg_of X G a_is_integer) m_bool m_int m_isinstance
  have D_is_ratio := ok_is_ratio (P := lw.prog) (w := w) (base := base) U_is_ratio b_is_ratio (PySem.W.mg_of X G a_is_ratio) D_is_integer m_gcd m_isinstance m_len m_tuple
  have Gd_is_vector := fn_is_vector (P := lw.prog) (w := w) (base := base) U_is_vector D_is_ratio m_all m_isinstance m_len m_tuple gt_is_vector
  have D_is_vector__1_size := dp_is_vector__1_size (P := lw.prog) (w := w) (base := base) U_is_vector (PySem.W.mg_of X G a_is_vector) Gd_is_vector
  have D_is_vector__1 := dp_is_vector__1 (P := lw.prog) (w := w) (base := base) U_is_vector (PySem.W.mg_of X G a_is_vector) Gd_is_vector
  have Gd_is_matrix := fn_is_matrix (P := lw.prog) (w := w) (base := base) U_is_matrix D_is_vector__1_size m_all m_isinstance m_len m_tuple gt_is_matrix
  have D_is_matrix__1 := dp_is_matrix__1 (P := lw.prog) (w := w) (base := base) U_is_matrix (PySem.W.mg_of X G a_is_matrix) Gd_is_matrix
  have D_is_group := ok_is_group (P := lw.prog) (w := w) (base := base) U_is_group b_is_group (PySem.W.mg_of X G a_is_group) D_is_integer m_isinstance m_tuple
  have D_is_window := ok_is_window (P := lw.prog) (w := w) (base := base) U_is_window b_is_window (PySem.W.mg_of X G a_is_window) D_is_integer D_is_ratio D_is_vector__1 c_MOST_STEP
  have D_is_layer := ok_is_layer (P := lw.prog) (w := w) (base := base) U_is_layer b_is_layer (PySem.W.mg_of X G a_is_layer) D_is_group D_is_window D_is_matrix__1 D_is_vector__1 m_all m_bool m_isinstance m_len m_tuple gt_is_layer
  have D_fits := ok_fits (P := lw.prog) (w := w) (base := base) U_fits b_fits (PySem.W.mg_of X G a_fits) m_all m_len gt_fits
  have D_given := ok_given (P := lw.prog) (w := w) (base := base) U_given b_given (PySem.W.mg_of X G a_given) m_len
  have D_check := ok_check (P := lw.prog) (w := w) (base := base) U_check b_check (PySem.W.mg_of X G a_check) D_fits D_given D_is_integer D_is_layer m_enumerate m_isinstance m_len m_tuple c_MOST_INPUTS E_BadNetwork
  have D_in_turn := ok_in_turn (P := lw.prog) (w := w) (base := base) U_in_turn b_in_turn (PySem.W.mg_of X G a_in_turn) m_all m_enumerate m_len
  have D_check_plain := ok_check_plain (P := lw.prog) (w := w) (base := base) U_check_plain b_check_plain (PySem.W.mg_of X G a_check_plain) D_check D_in_turn E_BadNetwork
  have D_is_plain := ok_is_plain (P := lw.prog) (w := w) (base := base) U_is_plain b_is_plain (PySem.W.mg_of X G a_is_plain) D_check D_in_turn
  have D_unit_places := ok_unit_places (P := lw.prog) (w := w) (base := base) U_unit_places b_unit_places (PySem.W.mg_of X G a_unit_places) D_check m_enumerate m_tuple
  have D_units := ok_units (P := lw.prog) (w := w) (base := base) U_units b_units (PySem.W.mg_of X G a_units) D_unit_places m_len
  have D__law_cell := ok__law_cell (P := lw.prog) (w := w) (base := base) U__law_cell b__law_cell (PySem.W.mg_of X G a__law_cell) m_int m_len
  have D__law_rich := ok__law_rich (P := lw.prog) (w := w) (base := base) U__law_rich b__law_rich (PySem.W.mg_of X G a__law_rich) m_int m_range
  have D__law_codes := ok__law_codes (P := lw.prog) (w := w) (base := base) U__law_codes b__law_codes (PySem.W.mg_of X G a__law_codes) m_int m_range
  have D__law_common := ok__law_common (P := lw.prog) (w := w) (base := base) U__law_common b__law_common (PySem.W.mg_of X G a__law_common) m_abs m_int
  have D__law_lowest := ok__law_lowest (P := lw.prog) (w := w) (base := base) U__law_lowest b__law_lowest (PySem.W.mg_of X G a__law_lowest) D__law_common
  have D__law_ratio := ok__law_ratio (P := lw.prog) (w := w) (base := base) U__law_ratio b__law_ratio (PySem.W.mg_of X G a__law_ratio) D__law_lowest m_int
  have D__law_same := ok__law_same (P := lw.prog) (w := w) (base := base) U__law_same b__law_same (PySem.W.mg_of X G a__law_same) m_all m_bool m_int m_isinstance m_len m_range m_str m_tuple RD
  have D__law_layer := ok__law_layer (P := lw.prog) (w := w) (base := base) U__law_layer b__law_layer (PySem.W.mg_of X G a__law_layer) D__law_codes D__law_ratio m_len m_range m_tuple
  have D__law_given := ok__law_given (P := lw.prog) (w := w) (base := base) U__law_given b__law_given (PySem.W.mg_of X G a__law_given) m_len m_range
  have D__law_network := ok__law_network (P := lw.prog) (w := w) (base := base) U__law_network b__law_network (PySem.W.mg_of X G a__law_network) D__law_cell D__law_given D__law_layer D__law_rich m_int m_range m_tuple
  have D__law_turns := ok__law_turns (P := lw.prog) (w := w) (base := base) U__law_turns b__law_turns (PySem.W.mg_of X G a__law_turns) D__law_cell D__law_given D__law_layer D__law_rich m_int m_range m_tuple
  have D__law_plain := ok__law_plain (P := lw.prog) (w := w) (base := base) U__law_plain b__law_plain (PySem.W.mg_of X G a__law_plain) m_all m_len m_range
  have D__law_places := ok__law_places (P := lw.prog) (w := w) (base := base) U__law_places b__law_places (PySem.W.mg_of X G a__law_places) m_len m_range m_tuple
  have D__law_checked := ok__law_checked (P := lw.prog) (w := w) (base := base) U__law_checked b__law_checked (PySem.W.mg_of X G a__law_checked) D_check_plain x_BadNetwork T_BadNetwork g_BadNetwork_layer g_BadNetwork_reason q_BadNetwork_BadNetwork
  have D__law_right := ok__law_right (P := lw.prog) (w := w) (base := base) U__law_right b__law_right (PySem.W.mg_of X G a__law_right) D__law_checked D__law_places D__law_plain D__law_same D_is_plain D_unit_places D_units m_len
  exact law_of (ok_law U_law D__law_network D__law_right D__law_turns m_len m_max m_min) law_true
end KM
open PySem PySem.W PyProof.Rows
local macro_rules
  | `(tactic| o_head ($f $k $a $e)) => `(tactic| o_head (PySem.W.kmHook $k $a $e [93, 101, 122, 129]))
set_option maxHeartbeats 0 in
theorem PySem.Challenge.cw_kinkmeasure_k10_plain_networks_and_units_holds : PySem.Challenge.rw_kinkmeasure_k10_plain_networks_and_units.Holds := by
  w_on; o_law; k_head; (case hw => w_witness2)
  k_fill
  refine LamX.walk_ofTs (l := PySem.Challenge.rw_kinkmeasure_k10_plain_networks_and_units) (n := 63) (k := 22) (x := "script") (CX := fun w => L2.CX PySem.Challenge.rw_kinkmeasure_k10_plain_networks_and_units.prog w) rfl (by decide) rfl ⟨rfl, by decide, by decide⟩ (fun w h Y => PySem.W.km_in_of Y) ?F (fun w H s e s' h => by obtain ⟨_, _, _, _, _, _, z⟩ := h; exact z.2.2.2.2.2.2)
  case F =>
    intro w mg fa h Y KX G hmg
    refine' KM.all_mk (lw := PySem.Challenge.rw_kinkmeasure_k10_plain_networks_and_units) (pt_is_vector := 93) (pt_is_matrix := 101) (pt_is_layer := 122) (pt_fits := 129) rfl KX G hmg ?a_is_integer ?l_is_integer ?c_is_integer ?k_is_integer ?a_is_ratio ?l_is_ratio ?c_is_ratio ?k_is_ratio ?a_is_vector ?l_is_vector ?c_is_vector ?kd_is_vector_size ?gq_is_vector ?gu_is_vector ?gh_is_vector ?k_is_vector ?a_is_matrix ?l_is_matrix ?c_is_matrix ?kd_is_matrix_rows ?kd_is_matrix_columns ?gq_is_matrix ?gu_is_matrix ?gh_is_matrix ?k_is_matrix ?a_is_group ?l_is_group ?c_is_group ?k_is_group ?a_is_window ?l_is_window ?c_is_window ?k_is_window ?a_is_layer ?l_is_layer ?c_is_layer ?gq_is_layer ?gu_is_layer ?gh_is_layer ?k_is_layer ?a_fits ?l_fits ?c_fits ?gq_fits ?gu_fits ?gh_fits ?k_fits ?a_given ?l_given ?c_given ?k_given ?a_check ?l_check ?c_check ?k_check ?a_in_turn ?l_in_turn ?c_in_turn ?k_in_turn ?a_check_plain ?l_check_plain ?c_check_plain ?k_check_plain ?a_is_plain ?l_is_plain ?c_is_plain ?k_is_plain ?a_unit_places ?l_unit_places ?c_unit_places ?k_unit_places ?a_units ?l_units ?c_units ?k_units ?a__law_cell ?l__law_cell ?c__law_cell ?k__law_cell ?a__law_rich ?l__law_rich ?c__law_rich ?k__law_rich ?a__law_codes ?l__law_codes ?c__law_codes ?k__law_codes ?a__law_common ?l__law_common ?c__law_common ?k__law_common ?a__law_lowest ?l__law_lowest ?c__law_lowest ?k__law_lowest ?a__law_ratio ?l__law_ratio ?c__law_ratio ?k__law_ratio ?a__law_same ?l__law_same ?c__law_same ?k__law_same ?a__law_layer ?l__law_layer ?c__law_layer ?k__law_layer ?a__law_given ?l__law_given ?c__law_given ?k__law_given ?a__law_network ?l__law_network ?c__law_network ?k__law_network ?a__law_turns ?l__law_turns ?c__law_turns ?k__law_turns ?a__law_plain ?l__law_plain ?c__law_plain ?k__law_plain ?a__law_places ?l__law_places ?c__law_places ?k__law_places ?a__law_checked ?l__law_checked ?c__law_checked ?k__law_checked ?a__law_right ?l__law_right ?c__law_right ?k__law_right ?a_law ?l_law ?c_law ?k_law ?n_abs ?n_all ?n_bool ?n_enumerate ?n_gcd ?n_int ?n_isinstance ?n_len ?n_max ?n_min ?n_range ?n_str ?n_tuple ?g_MOST_INPUTS ?g_MOST_STEP ?xg_BadNetwork ?xk_BadNetwork ?xb_BadNetwork ?xt_BadNetwork ?nsuper ?opq ?ptop ?iC_BadNetwork ?tI_BadNetwork ?lI_BadNetwork ?cdI_BadNetwork ?ceI_BadNetwork ?coI_BadNetwork ?fiI_BadNetwork ?fjI_BadNetwork ?oxI_BadNetwork ?saI_BadNetwork ?mrI_BadNetwork ?suI_BadNetwork ?veI_BadNetwork ?g_BadNetwork_layer ?g_BadNetwork_reason ?tx_BadNetwork ?y_BadNetwork ?z_BadNetwork_BadNetwork
    case a_is_integer => k_is
    case l_is_integer => k_is
    case c_is_integer => k_is
    case k_is_integer => k_is
    case a_is_ratio => k_is
    case l_is_ratio => k_is
    case c_is_ratio => k_is
    case k_is_ratio => k_is
    case a_is_vector => k_is
    case l_is_vector => k_is
    case c_is_vector => k_is
    case kd_is_vector_size => k_is
    case gq_is_vector => kernel_rfl
    case gu_is_vector => kernel_rfl
    case gh_is_vector => exact PySem.W.km_tabs_of Y _ (by simp)
    case k_is_vector => k_is
    case a_is_matrix => k_is
    case l_is_matrix => k_is
    case c_is_matrix => k_is
    case kd_is_matrix_rows => k_is
    case kd_is_matrix_columns => k_is
    case gq_is_matrix => kernel_rfl
    case gu_is_matrix => kernel_rfl
    case gh_is_matrix => exact PySem.W.km_tabs_of Y _ (by simp)
    case k_is_matrix => k_is
    case a_is_group => k_is
    case l_is_group => k_is
    case c_is_group => k_is
    case k_is_group => k_is
    case a_is_window => k_is
    case l_is_window => k_is
    case c_is_window => k_is
    case k_is_window => k_is
    case a_is_layer => k_is
    case l_is_layer => k_is
    case c_is_layer => k_is
    case gq_is_layer => kernel_rfl
    case gu_is_layer => kernel_rfl
    case gh_is_layer => exact PySem.W.km_tabs_of Y _ (by simp)
    case k_is_layer => k_is
    case a_fits => k_is
    case l_fits => k_is
    case c_fits => k_is
    case gq_fits => kernel_rfl
    case gu_fits => kernel_rfl
    case gh_fits => exact PySem.W.km_tabs_of Y _ (by simp)
    case k_fits => k_is
    case a_given => k_is
    case l_given => k_is
    case c_given => k_is
    case k_given => k_is
    case a_check => k_is
    case l_check => k_is
    case c_check => k_is
    case k_check => k_is
    case a_in_turn => k_is
    case l_in_turn => k_is
    case c_in_turn => k_is
    case k_in_turn => k_is
    case a_check_plain => k_is
    case l_check_plain => k_is
    case c_check_plain => k_is
    case k_check_plain => k_is
    case a_is_plain => k_is
    case l_is_plain => k_is
    case c_is_plain => k_is
    case k_is_plain => k_is
    case a_unit_places => k_is
    case l_unit_places => k_is
    case c_unit_places => k_is
    case k_unit_places => k_is
    case a_units => k_is
    case l_units => k_is
    case c_units => k_is
    case k_units => k_is
    case a__law_cell => k_is
    case l__law_cell => k_is
    case c__law_cell => k_is
    case k__law_cell => k_is
    case a__law_rich => k_is
    case l__law_rich => k_is
    case c__law_rich => k_is
    case k__law_rich => k_is
    case a__law_codes => k_is
    case l__law_codes => k_is
    case c__law_codes => k_is
    case k__law_codes => k_is
    case a__law_common => k_is
    case l__law_common => k_is
    case c__law_common => k_is
    case k__law_common => k_is
    case a__law_lowest => k_is
    case l__law_lowest => k_is
    case c__law_lowest => k_is
    case k__law_lowest => k_is
    case a__law_ratio => k_is
    case l__law_ratio => k_is
    case c__law_ratio => k_is
    case k__law_ratio => k_is
    case a__law_same => k_is
    case l__law_same => k_is
    case c__law_same => k_is
    case k__law_same => k_is
    case a__law_layer => k_is
    case l__law_layer => k_is
    case c__law_layer => k_is
    case k__law_layer => k_is
    case a__law_given => k_is
    case l__law_given => k_is
    case c__law_given => k_is
    case k__law_given => k_is
    case a__law_network => k_is
    case l__law_network => k_is
    case c__law_network => k_is
    case k__law_network => k_is
    case a__law_turns => k_is
    case l__law_turns => k_is
    case c__law_turns => k_is
    case k__law_turns => k_is
    case a__law_plain => k_is
    case l__law_plain => k_is
    case c__law_plain => k_is
    case k__law_plain => k_is
    case a__law_places => k_is
    case l__law_places => k_is
    case c__law_places => k_is
    case k__law_places => k_is
    case a__law_checked => k_is
    case l__law_checked => k_is
    case c__law_checked => k_is
    case k__law_checked => k_is
    case a__law_right => k_is
    case l__law_right => k_is
    case c__law_right => k_is
    case k__law_right => k_is
    case a_law => k_is
    case l_law => k_is
    case c_law => k_is
    case k_law => k_is
    case n_abs => k_is
    case n_all => k_is
    case n_bool => k_is
    case n_enumerate => k_is
    case n_gcd => k_is
    case n_int => k_is
    case n_isinstance => k_is
    case n_len => k_is
    case n_max => k_is
    case n_min => k_is
    case n_range => k_is
    case n_str => k_is
    case n_tuple => k_is
    case g_MOST_INPUTS => k_is
    case g_MOST_STEP => k_is
    case xg_BadNetwork => k_is
    case xk_BadNetwork => k_is
    case xb_BadNetwork => k_is
    case xt_BadNetwork => k_is
    case nsuper => k_is
    case opq => first | k_is | rfl | kernel_rfl | decide +kernel
    case ptop => first | rfl | decide +kernel
    case iC_BadNetwork => k_is
    case tI_BadNetwork => first | k_is | rfl | kernel_rfl | decide +kernel
    case lI_BadNetwork => first | k_is | rfl | kernel_rfl | decide +kernel
    case cdI_BadNetwork => first | k_is | rfl | kernel_rfl | decide +kernel
    case ceI_BadNetwork => first | k_is | rfl | kernel_rfl | decide +kernel
    case coI_BadNetwork => first | k_is | rfl | kernel_rfl | decide +kernel
    case fiI_BadNetwork => first | rfl | kernel_rfl
    case fjI_BadNetwork => first | rfl | decide +kernel
    case oxI_BadNetwork => first | k_is | rfl | kernel_rfl | decide +kernel
    case saI_BadNetwork => first | k_is | rfl | kernel_rfl | decide +kernel
    case mrI_BadNetwork => first | k_is | rfl | kernel_rfl | decide +kernel
    case suI_BadNetwork => first | ks_is | rfl | kernel_rfl | decide +kernel
    case veI_BadNetwork => first | k_is | rfl | kernel_rfl | decide +kernel
    case g_BadNetwork_layer => k_is
    case g_BadNetwork_reason => k_is
    case tx_BadNetwork => first | k_is | rfl | kernel_rfl | decide +kernel
    case y_BadNetwork => k_is
    case z_BadNetwork_BadNetwork => first | rfl | k_is

