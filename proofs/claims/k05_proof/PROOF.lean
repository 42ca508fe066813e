import PyProof.Rows.All
import Wide.All
import OpenK.AllK
import Wide.FinOn
import HandS.ForMost
import HandS.ForExc
import HandS.Wide
import HandS.WideBits
import HandS.ExcIs
import HandS.IsInst
import HandS.Lambda
import HandS.ExcInit
import HandS.TupAny
import HandS.Text
import HandS.More
import HandS.TupMul
import HandS.Deep
import PyProof.P3In
import HandS.Flow
import HandS.SortInts
import HandS.RaiseMore
import HandS.Style
import HandS.Small
import HandS.Iter
import HandS.Zip
import HandS.Words
import HandS.EndBits
import HandS.ExcValue
import KE.KTryMore
import HandS.TryMany
import KE.KDflt
import HandS.FStr
import HandS.ExcField
import HandS.Conv
import HandS.Dict
import HandS.StrMore
import KE.SortData
import KE.DataFind
import PyProof.Rows.BitMore
import PyProof.Rows.IntMath
import KE.IntBitsLaws
import PySem.Challenge.RW_spiderwires_k05_invalid_numbers
set_option Elab.async false
set_option linter.all false
set_option maxRecDepth 100000
set_option maxHeartbeats 4000000
set_option autoImplicit false
/-! A small evaluator of Python over trees and a store, held against the layer's readings. -/
namespace Zf
open PySem L2

/-- a value: scalars, tuples as trees, a list that never changes (the script, a list of the module), a changeable object by its place in the store, an own exception by its class and what it tells -/
inductive W where
  | non | bl (b : Bool) | int (i : Int) | str (s : Str) | tup (ws : List W) | klst (ws : List W) | ref (n : Nat) | exc (c : Nat) (w : W) | clo (l : Nat)
/-- a changeable object -/
inductive SO where
  | lst (ws : List W)
  | dct (kvs : List (Key × W))
  | dcT (kvs : List (List Key × W))
  /-- dicts while a loop walks them -/
  | ldct (kvs : List (Key × W))
abbrev Store := List SO
abbrev Env := List (Option W)
inductive Out (α : Type) where
  | ok (a : α) (st : Store) | er (x : W) (st : Store) | bad
def Out.bind {α β : Type} : Out α → (α → Store → Out β) → Out β
  | .ok a st, k => k a st
  | .er x st, _ => .er x st
  | .bad, _ => .bad
theorem Out.bind_ok {α β : Type} (a : α) (st : Store) (k : α → Store → Out β) : (Out.ok a st).bind k = k a st := rfl
theorem Out.bind_er {α β : Type} (x : W) (st : Store) (k : α → Store → Out β) : (Out.er x st : Out α).bind k = .er x st := rfl
theorem Out.bind_bad {α β : Type} (k : α → Store → Out β) : (Out.bad : Out α).bind k = .bad := rfl
theorem Out.bind_assoc {α β γ : Type} (o : Out α) (f : α → Store → Out β) (g : β → Store → Out γ) : (o.bind f).bind g = o.bind fun a st => (f a st).bind g := by
  cases o <;> rfl
inductive SOut where
  | nx (env : Env) (st : Store) | rt (w : W) (st : Store) | bk (env : Env) (st : Store) | ct (env : Env) (st : Store) | er (x : W) (env : Env) (st : Store) | bad
/-- what the defs do: by number, arguments, store -/
structure Phi where
  fn : Nat → List W → Store → Out W
  /-- .. one call deeper -/
  lo : Nat → List W → Store → Out W
  /-- a def that is handed a deed -/
  lam : Nat → ((Nat → List W → Store → Out W) → Store → Out W) → Store → Out W
  /-- the deed that was handed -/
  deed : Nat → Store → Out W
instance : CoeFun Phi fun _ => Nat → List W → Store → Out W := ⟨Phi.fn⟩
abbrev SE := Phi → Env → Store → Out W
abbrev ST := Phi → Env → Store → Out Bool
abbrev SL := Phi → Env → Store → Out (List W)
abbrev SS := Phi → Env → Store → SOut

/-! ### how a value lies in the heap -/
/-- what stays for ever -/
def Stab0 : HO → Prop
  | .tup _ => True
  | .frz _ (.lst _) => True
  | .ext _ => True
  | .xd _ => True
  | _ => False
/-- .. and a dict for as long as it is locked -/
def Stab : HO → Prop
  | .tup _ => True
  | .frz _ (.lst _) => True
  | .frz _ (.dK _) => True
  | .ext _ => True
  | .xd _ => True
  | _ => False
theorem Stab0.stab {o : HO} (h : Stab0 o) : Stab o := by
  cases o with
  | frz o u => cases u <;> first | exact trivial | exact h.elim
  | _ => first | exact trivial | exact h.elim
def Kp0 (H H' : Hp) : Prop := ∀ b o, H b = some o → Stab0 o → H' b = some o
/-- what is known of the module: its written part, the addresses of its exception classes with their attributes, the tables of code objects with the names that they bear; D: what holds as long as a deed that a def was handed may be called -/
structure Bk where
  K : PySem.W.Frag
  cs : List (Addr × Str)
  T : List (Addr × Str)
  D : List Addr → Hp → Prop
  Dm : ∀ (ρ ρ' : List Addr) (H H' : Hp), ρ <+: ρ' → Kp0 H H' → D ρ H → D ρ' H'
/-- no deed -/
def Bk.of (K : PySem.W.Frag) (cs T : List (Addr × Str)) : Bk := ⟨K, cs, T, fun _ _ => True, fun _ _ _ _ _ _ h => h⟩
/-- a list that never changes -/
def SqK (K : PySem.W.Frag) (H : Hp) (a : Addr) (xs : List V) : Prop :=
  (∃ o, H a = some (.frz o (.lst xs))) ∨
    ∃ (o : Obj) (its : Array Value) (n : Nat), K.lookup a = some o ∧ o.cls = .type "list" ∧ o.dict = none ∧ o.data = .seq its n ∧ its.size ≤ sizeLine ∧ Vals xs its.toList
theorem SqK.seq {K : PySem.W.Frag} {H : Hp} {a : Addr} {xs : List V} (h : SqK K H a xs) : SqL K H a xs := by
  rcases h with ⟨o, h⟩ | h
  · exact .inl (.inr ⟨o, h⟩)
  · exact .inr h
/-- an exception object of the class at C, its dict at d -/
def ExA (C d : Addr) (a : Addr) : HO := .ext fun h => ∃ (oe : Obj) (vs : Array Value), h.get? a = some oe ∧ Zc (.ref C) (some d) oe ∧ oe.data = .fields vs
def Kp (H H' : Hp) : Prop := ∀ b o, H b = some o → Stab o → H' b = some o
theorem Kp.to0 {H H' : Hp} (k : Kp H H') : Kp0 H H' := fun b o e s => k b o e s.stab
theorem Kp.refl (H : Hp) : Kp H H := fun _ _ h _ => h
theorem Kp.trans {H H1 H2 : Hp} (a : Kp H H1) (b : Kp H1 H2) : Kp H H2 := fun c o h s => b c o (a c o h s) s
theorem Kp.new {H : Hp} {p : Addr} {o : HO} (h : H p = none) : Kp H (upd H p o) := fun b u e _ => by
  rw [upd_ne (ne_of_none e h)]; exact e
theorem Kp.wr {H : Hp} {p : Addr} {o u : HO} (h : H p = some u) (hs : ¬ Stab u) : Kp H (upd H p o) := fun b v e s => by
  rw [upd_ne]
  · exact e
  · intro q; subst q; rw [h] at e; cases e; exact hs s
/-- a tuple that stays -/
def SqU (K : PySem.W.Frag) (H : Hp) (a : Addr) (xs : List V) : Prop :=
  H a = some (.tup xs) ∨
    ∃ (o : Obj) (its : Array Value) (n : Nat), K.lookup a = some o ∧ o.cls = .type "tuple" ∧ o.data = .seq its n ∧ its.size ≤ sizeLine ∧ Vals xs its.toList
theorem SqU.seq {K : PySem.W.Frag} {H : Hp} {a : Addr} {xs : List V} (h : SqU K H a xs) : SqT K H a xs := by
  rcases h with h | h
  · exact .inl (.inl h)
  · exact .inr h
theorem SqU.kp0 {K : PySem.W.Frag} {H H' : Hp} {a : Addr} {xs : List V} (h : SqU K H a xs) (k : Kp0 H H') : SqU K H' a xs := by
  rcases h with h | h
  · exact .inl (k _ _ h trivial)
  · exact .inr h
theorem SqU.kp {K : PySem.W.Frag} {H H' : Hp} {a : Addr} {xs : List V} (h : SqU K H a xs) (k : Kp H H') : SqU K H' a xs := h.kp0 k.to0
theorem SqK.kp0 {K : PySem.W.Frag} {H H' : Hp} {a : Addr} {xs : List V} (h : SqK K H a xs) (k : Kp0 H H') : SqK K H' a xs := by
  rcases h with ⟨o, h⟩ | h
  · exact .inl ⟨o, k _ _ h trivial⟩
  · exact .inr h

theorem SqK.kp {K : PySem.W.Frag} {H H' : Hp} {a : Addr} {xs : List V} (h : SqK K H a xs) (k : Kp H H') : SqK K H' a xs := h.kp0 k.to0
mutual
inductive RW (B : Bk) (ρ : List Addr) (H : Hp) : V → W → Prop
  | non : RW B ρ H .non .non
  | bl (b : Bool) : RW B ρ H (.bl b) (.bl b)
  | int (i : Int) : RW B ρ H (.int i) (.int i)
  | str (s : Str) : RW B ρ H (.str s) (.str s)
  | tup {a : Addr} {vs : List V} {ws : List W} : SqU B.K H a vs → RWs B ρ H vs ws → RW B ρ H (.ref a) (.tup ws)
  | klst {a : Addr} {vs : List V} {ws : List W} : SqK B.K H a vs → RWs B ρ H vs ws → RW B ρ H (.ref a) (.klst ws)
  | ref {a : Addr} {n : Nat} : ρ[n]? = some a → RW B ρ H (.ref a) (.ref n)
  | clo (f : Addr) : RW B ρ H (.ref f) (.clo f)
  | exc {a C d : Addr} {f : Str} {c : Nat} {v : V} {w : W} : B.cs[c]? = some (C, f) → H a = some (ExA C d a) → H d = some (.xd [(f, v)]) → RW B ρ H v w → RW B ρ H (.ref a) (.exc c w)
inductive RWs (B : Bk) (ρ : List Addr) (H : Hp) : List V → List W → Prop
  | nil : RWs B ρ H [] []
  | cons {v : V} {vs : List V} {w : W} {ws : List W} : RW B ρ H v w → RWs B ρ H vs ws → RWs B ρ H (v :: vs) (w :: ws)
end

section
variable {B : Bk} {ρ ρ' : List Addr} {H H' : Hp}
mutual
theorem RW.mono0 (hr : ρ <+: ρ') (k : Kp0 H H') : ∀ {v : V} {w : W}, RW B ρ H v w → RW B ρ' H' v w
  | _, _, .non => .non
  | _, _, .bl b => .bl b
  | _, _, .int i => .int i
  | _, _, .str s => .str s
  | _, _, .tup h q => .tup (h.kp0 k) (RWs.mono0 hr k q)
  | _, _, .klst h q => .klst (h.kp0 k) (RWs.mono0 hr k q)
  | _, _, .ref h => .ref (by
      obtain ⟨t, rfl⟩ := hr
      obtain ⟨h1, h2⟩ := List.getElem?_eq_some_iff.mp h
      rw [List.getElem?_append_left h1]; exact h)
  | _, _, .clo f => .clo f
  | _, _, .exc h1 h2 h3 h4 => .exc h1 (k _ _ h2 trivial) (k _ _ h3 trivial) (RW.mono0 hr k h4)
theorem RWs.mono0 (hr : ρ <+: ρ') (k : Kp0 H H') : ∀ {vs : List V} {ws : List W}, RWs B ρ H vs ws → RWs B ρ' H' vs ws
  | _, _, .nil => .nil
  | _, _, .cons a b => .cons (RW.mono0 hr k a) (RWs.mono0 hr k b)
end
theorem RW.mono (hr : ρ <+: ρ') (k : Kp H H') {v : V} {w : W} (h : RW B ρ H v w) : RW B ρ' H' v w := RW.mono0 hr k.to0 h
theorem RWs.mono (hr : ρ <+: ρ') (k : Kp H H') {vs : List V} {ws : List W} (h : RWs B ρ H vs ws) : RWs B ρ' H' vs ws := RWs.mono0 hr k.to0 h
theorem RWs.length : ∀ {vs : List V} {ws : List W}, RWs B ρ H vs ws → vs.length = ws.length
  | _, _, .nil => rfl
  | _, _, .cons _ t => by simp [RWs.length t]
theorem RWs.app : ∀ {vs us : List V} {ws xs : List W}, RWs B ρ H vs ws → RWs B ρ H us xs → RWs B ρ H (vs ++ us) (ws ++ xs)
  | _, _, _, _, .nil, h => h
  | _, _, _, _, .cons a b, h => .cons a (RWs.app b h)
theorem RWs.get : ∀ {vs : List V} {ws : List W} {i : Nat} {w : W}, RWs B ρ H vs ws → ws[i]? = some w → ∃ v, vs[i]? = some v ∧ RW B ρ H v w
  | _, _, _, _, .nil, e => by simp at e
  | _, _, 0, _, .cons a _, e => by simp at e; subst e; exact ⟨_, rfl, a⟩
  | _, _, i + 1, w, .cons _ b, e => by
    obtain ⟨v, h1, h2⟩ := RWs.get (i := i) (w := w) b (by simpa using e)
    exact ⟨v, by simpa using h1, h2⟩
theorem RWs.getV : ∀ {vs : List V} {ws : List W} {i : Nat} {v : V}, RWs B ρ H vs ws → vs[i]? = some v → ∃ w, ws[i]? = some w ∧ RW B ρ H v w
  | _, _, _, _, .nil, e => by simp at e
  | _, _, 0, _, .cons a _, e => by simp at e; subst e; exact ⟨_, rfl, a⟩
  | _, _, i + 1, w, .cons _ b, e => by
    obtain ⟨v, h1, h2⟩ := RWs.getV (i := i) b (by simpa using e)
    exact ⟨v, by simpa using h1, h2⟩
theorem RWs.take : ∀ {vs : List V} {ws : List W} (n : Nat), RWs B ρ H vs ws → RWs B ρ H (vs.take n) (ws.take n)
  | _, _, 0, _ => by simpa using .nil
  | _, _, _ + 1, .nil => by simpa using .nil
  | _, _, n + 1, .cons a b => by simpa using .cons a (RWs.take n b)
theorem RWs.drop : ∀ {vs : List V} {ws : List W} (n : Nat), RWs B ρ H vs ws → RWs B ρ H (vs.drop n) (ws.drop n)
  | _, _, 0, h => by simpa using h
  | _, _, _ + 1, .nil => by simpa using .nil
  | _, _, n + 1, .cons a b => by simpa using RWs.drop n b
theorem RWs.set : ∀ {vs : List V} {ws : List W} {v : V} {w : W} (n : Nat), RWs B ρ H vs ws → RW B ρ H v w → RWs B ρ H (vs.set n v) (ws.set n w)
  | _, _, _, _, _, .nil, _ => .nil
  | _, _, _, _, 0, .cons _ b, r => .cons r b
  | _, _, _, _, n + 1, .cons a b, r => .cons a (RWs.set n b r)
theorem RWs.eraseIdx : ∀ {vs : List V} {ws : List W} (n : Nat), RWs B ρ H vs ws → RWs B ρ H (vs.eraseIdx n) (ws.eraseIdx n)
  | _, _, _, .nil => by simpa using .nil
  | _, _, 0, .cons _ b => by simpa using b
  | _, _, n + 1, .cons a b => by simpa using .cons a (RWs.eraseIdx n b)
theorem RWs.rev : ∀ {vs : List V} {ws : List W}, RWs B ρ H vs ws → RWs B ρ H vs.reverse ws.reverse
  | _, _, .nil => .nil
  | _, _, .cons a b => by simpa using (RWs.rev b).app (.cons a .nil)
theorem RWs.isEmpty {vs : List V} {ws : List W} (h : RWs B ρ H vs ws) : vs.isEmpty = ws.isEmpty := by cases h <;> rfl
end

/-! ### the store -/
/-- pairs of a dict -/
inductive RKv (B : Bk) (ρ : List Addr) (H : Hp) {κ : Type} : List (κ × V) → List (κ × W) → Prop
  | nil : RKv B ρ H [] []
  | cons {k : κ} {v : V} {w : W} {vs : List (κ × V)} {ws : List (κ × W)} : RW B ρ H v w → RKv B ρ H vs ws → RKv B ρ H ((k, v) :: vs) ((k, w) :: ws)
theorem RKv.mono0 {B : Bk} {ρ ρ' : List Addr} {H H' : Hp} {κ : Type} (hr : ρ <+: ρ') (k : Kp0 H H') : ∀ {vs : List (κ × V)} {ws : List (κ × W)}, RKv B ρ H vs ws → RKv B ρ' H' vs ws
  | _, _, .nil => .nil
  | _, _, .cons a b => .cons (a.mono0 hr k) (RKv.mono0 hr k b)
theorem RKv.mono {B : Bk} {ρ ρ' : List Addr} {H H' : Hp} {κ : Type} (hr : ρ <+: ρ') (k : Kp H H') {vs : List (κ × V)} {ws : List (κ × W)} (h : RKv B ρ H vs ws) : RKv B ρ' H' vs ws := RKv.mono0 hr k.to0 h
theorem RKv.length {B : Bk} {ρ : List Addr} {H : Hp} {κ : Type} : ∀ {vs : List (κ × V)} {ws : List (κ × W)}, RKv B ρ H vs ws → vs.length = ws.length
  | _, _, .nil => rfl
  | _, _, .cons _ t => by simp [RKv.length t]
/-- what stands at a -/
def ObjR (B : Bk) (ρ : List Addr) (H : Hp) (a : Addr) : SO → Prop
  | .lst ws => ∃ vs, H a = some (.lst vs) ∧ RWs B ρ H vs ws
  | .dct kvs => ∃ kws, H a = some (.dK kws) ∧ RKv B ρ H kws kvs
  | .dcT kvs => ∃ kws, H a = some (.dT kws) ∧ RKv B ρ H kws kvs
  | .ldct kvs => ∃ o kws, H a = some (.frz o (.dK kws)) ∧ RKv B ρ H kws kvs
structure StR (B : Bk) (ρ : List Addr) (H : Hp) (st : Store) : Prop where
  len : ρ.length = st.length
  nd : ρ.Nodup
  at_ : ∀ (i : Nat) (a : Addr) (o : SO), ρ[i]? = some a → st[i]? = some o → ObjR B ρ H a o
  tb : LamX.Tabs B.T H
  dd : B.D ρ H
theorem ObjR.mono0 {B : Bk} {ρ ρ' : List Addr} {H H' : Hp} {a : Addr} {o : SO} (hr : ρ <+: ρ') (k : Kp0 H H') (ha : H' a = H a) (h : ObjR B ρ H a o) : ObjR B ρ' H' a o := by
  cases o with
  | lst ws => obtain ⟨vs, h1, h2⟩ := h; exact ⟨vs, by rw [ha]; exact h1, h2.mono0 hr k⟩
  | dct kvs => obtain ⟨vs, h1, h2⟩ := h; exact ⟨vs, by rw [ha]; exact h1, h2.mono0 hr k⟩
  | dcT kvs => obtain ⟨vs, h1, h2⟩ := h; exact ⟨vs, by rw [ha]; exact h1, h2.mono0 hr k⟩
  | ldct kvs => obtain ⟨o, vs, h1, h2⟩ := h; exact ⟨o, vs, by rw [ha]; exact h1, h2.mono0 hr k⟩
theorem ObjR.mono {B : Bk} {ρ ρ' : List Addr} {H H' : Hp} {a : Addr} {o : SO} (hr : ρ <+: ρ') (k : Kp H H') (ha : H' a = H a) (h : ObjR B ρ H a o) : ObjR B ρ' H' a o := ObjR.mono0 hr k.to0 ha h
theorem ObjR.some {B : Bk} {ρ : List Addr} {H : Hp} {a : Addr} {o : SO} (h : ObjR B ρ H a o) : ∃ u, H a = some u := by
  cases o with
  | lst ws => obtain ⟨vs, h1, h2⟩ := h; exact ⟨_, h1⟩
  | dct kvs => obtain ⟨vs, h1, h2⟩ := h; exact ⟨_, h1⟩
  | dcT kvs => obtain ⟨vs, h1, h2⟩ := h; exact ⟨_, h1⟩
  | ldct kvs => obtain ⟨o, vs, h1, h2⟩ := h; exact ⟨_, h1⟩
theorem objR_ntbl {B : Bk} {ρ : List Addr} {H : Hp} {a : Addr} {o : SO} (h : ObjR B ρ H a o) (ps : Array Value) : H a ≠ some (HO.tbl ps) := fun e => by
  cases o with
  | lst ws => obtain ⟨vs, h1, h2⟩ := h; rw [e] at h1; cases h1
  | dct kvs => obtain ⟨vs, h1, h2⟩ := h; rw [e] at h1; cases h1
  | dcT kvs => obtain ⟨vs, h1, h2⟩ := h; rw [e] at h1; cases h1
  | ldct kvs => obtain ⟨o, vs, h1, h2⟩ := h; rw [e] at h1; cases h1
section
variable {B : Bk} {ρ ρ' : List Addr} {H H' : Hp} {st : Store}
theorem StR.get (h : StR B ρ H st) {i : Nat} {o : SO} (e : st[i]? = some o) : ∃ a, ρ[i]? = some a ∧ ObjR B ρ H a o := by
  obtain ⟨h1, _⟩ := List.getElem?_eq_some_iff.mp e
  have h2 : i < ρ.length := by rw [h.len]; exact h1
  exact ⟨ρ[i], by simp [h2], h.at_ i _ o (by simp [h2]) e⟩
theorem StR.getA (h : StR B ρ H st) {i : Nat} {a : Addr} (e : ρ[i]? = some a) : ∃ o, st[i]? = some o ∧ ObjR B ρ H a o := by
  obtain ⟨h1, _⟩ := List.getElem?_eq_some_iff.mp e
  have h2 : i < st.length := by rw [← h.len]; exact h1
  exact ⟨st[i], by simp [h2], h.at_ i _ _ e (by simp [h2])⟩
theorem StR.ne_new (h : StR B ρ H st) {p : Addr} (hp : H p = none) : p ∉ ρ := fun hm => by
  obtain ⟨i, hi, e⟩ := List.getElem_of_mem hm
  obtain ⟨o, _, ho⟩ := h.getA (i := i) (a := p) (by simp [hi, e])
  obtain ⟨u, hu⟩ := ho.some
  rw [hp] at hu; cases hu
/-- the heap grows by what is no object of the store -/
theorem tabs_new {T : List (Addr × Str)} {p : Addr} {o : HO} (h : LamX.Tabs T H) (hp : H p = none) : LamX.Tabs T (upd H p o) := h.ext fun b u e => by rw [upd_ne (ne_of_none e hp)]; exact e
theorem tabs_wr {T : List (Addr × Str)} {p : Addr} {o u : HO} (h : LamX.Tabs T H) (hp : H p = some u) (h1 : ∀ ps, u ≠ HO.tbl ps) (h2 : ¬ Stab0 u) : LamX.Tabs T (upd H p o) := fun q hq => by
  obtain ⟨ps, e1, e2, e3⟩ := h q hq
  refine ⟨ps, ?_, e2, fun pos cv hc => ?_⟩
  · rw [upd_ne]
    · exact e1
    · rintro rfl; rw [e1] at hp; cases hp; exact h1 _ rfl
  · obtain ⟨c, z1, z2⟩ := e3 pos cv hc
    refine ⟨c, z1, ?_⟩
    rw [upd_ne]
    · exact z2
    · rintro rfl; rw [z2] at hp; cases hp; exact h2 trivial
theorem StR.grow (h : StR B ρ H st) (k : Kp H H') (ha : ∀ a ∈ ρ, H' a = H a) (ht : LamX.Tabs B.T H') : StR B ρ H' st := ⟨h.len, h.nd, fun i a o e1 e2 =>
  (h.at_ i a o e1 e2).mono (List.prefix_refl _) k (ha a (List.mem_of_getElem? e1)), ht, B.Dm _ _ _ _ (List.prefix_refl _) k.to0 h.dd⟩
theorem StR.new (h : StR B ρ H st) {p : Addr} {o : HO} (hp : H p = none) : StR B ρ (upd H p o) st := h.grow (.new hp) (fun a hm => by
  rw [upd_ne]; rintro rfl; exact h.ne_new hp hm) (tabs_new h.tb hp)
/-- a new object of the store -/
theorem StR.push (h : StR B ρ H st) {p : Addr} {u : HO} {o : SO} (hp : H p = none) (ho : ObjR B (ρ ++ [p]) (upd H p u) p o) : StR B (ρ ++ [p]) (upd H p u) (st ++ [o]) := by
  have hn := h.ne_new hp
  refine ⟨by simp [h.len], ?_, fun i a o' e1 e2 => ?_, tabs_new h.tb hp, B.Dm _ _ _ _ (List.prefix_append _ _) (Kp.new hp).to0 h.dd⟩
  · rw [List.nodup_append]
    exact ⟨h.nd, by simp, by intro a ha b hb; simp at hb; subst hb; rintro rfl; exact hn ha⟩
  · by_cases hi : i < ρ.length
    · rw [List.getElem?_append_left hi] at e1
      rw [List.getElem?_append_left (by rw [← h.len]; exact hi)] at e2
      refine (h.at_ i a o' e1 e2).mono (List.prefix_append _ _) (.new hp) ?_
      rw [upd_ne]; rintro rfl; exact hn (List.mem_of_getElem? e1)
    · have e3 : i = ρ.length := by
        obtain ⟨h1, _⟩ := List.getElem?_eq_some_iff.mp e1
        simp at h1; omega
      subst e3
      rw [List.getElem?_append_right (Nat.le_refl _)] at e1
      rw [h.len, List.getElem?_append_right (Nat.le_refl _)] at e2
      simp at e1 e2; subst e1 e2
      exact ho
/-- an object of the store is written -/
theorem StR.wr (h : StR B ρ H st) {i : Nat} {a : Addr} {u : HO} {o : SO} (e : ρ[i]? = some a) (ho : ObjR B ρ (upd H a u) a o) (hv : ∃ v, H a = some v ∧ ¬ Stab v) : StR B ρ (upd H a u) (st.set i o) ∧ Kp H (upd H a u) := by
  obtain ⟨v, hv, hs⟩ := hv
  have k : Kp H (upd H a u) := .wr hv hs
  have hnt : ∀ ps, v ≠ HO.tbl ps := by
    obtain ⟨o0, _, ho0⟩ := h.getA e
    rintro ps rfl
    exact objR_ntbl ho0 ps hv
  refine ⟨⟨by simp [h.len], h.nd, fun j b o' e1 e2 => ?_, tabs_wr h.tb hv hnt (fun z => hs z.stab), B.Dm _ _ _ _ (List.prefix_refl _) k.to0 h.dd⟩, k⟩
  by_cases hj : j = i
  · subst hj
    rw [e] at e1; cases e1
    have hlt : j < st.length := by rw [← h.len]; exact (List.getElem?_eq_some_iff.mp e).1
    rw [List.getElem?_set_self hlt] at e2; cases e2
    exact ho
  · rw [List.getElem?_set_ne (Ne.symm hj)] at e2
    refine (h.at_ j b o' e1 e2).mono (List.prefix_refl _) k ?_
    rw [upd_ne]
    rintro rfl
    obtain ⟨p1, q1⟩ := List.getElem?_eq_some_iff.mp e1
    obtain ⟨p2, q2⟩ := List.getElem?_eq_some_iff.mp e
    exact hj ((List.getElem_inj h.nd).mp (q1.trans q2.symm))
end

/-- the names' values -/
def EnvR (B : Bk) (ρ : List Addr) (H : Hp) (σ : St) (env : Env) : Prop := σ.length = env.length ∧ ∀ (i : Nat) (w : W), env[i]? = some (some w) → ∃ v, σ[i]? = some (some v) ∧ RW B ρ H v w
theorem EnvR.mono0 {B : Bk} {ρ ρ' : List Addr} {H H' : Hp} {σ : St} {env : Env} (h : EnvR B ρ H σ env) (hr : ρ <+: ρ') (k : Kp0 H H') : EnvR B ρ' H' σ env :=
  ⟨h.1, fun i w e => let ⟨v, h1, h2⟩ := h.2 i w e; ⟨v, h1, h2.mono0 hr k⟩⟩
theorem EnvR.mono {B : Bk} {ρ ρ' : List Addr} {H H' : Hp} {σ : St} {env : Env} (h : EnvR B ρ H σ env) (hr : ρ <+: ρ') (k : Kp H H') : EnvR B ρ' H' σ env := EnvR.mono0 h hr k.to0
theorem EnvR.set {B : Bk} {ρ : List Addr} {H : Hp} {σ : St} {env : Env} {v : V} {w : W} (h : EnvR B ρ H σ env) (i : Nat) (r : RW B ρ H v w) : EnvR B ρ H (σ.set i (some v)) (env.set i (some w)) := by
  refine ⟨by simp [h.1], fun j x e => ?_⟩
  by_cases hj : i = j
  · subst hj
    by_cases hi : i < env.length
    · rw [List.getElem?_set_self hi] at e
      cases e
      exact ⟨v, by rw [List.getElem?_set_self (by rw [h.1]; exact hi)], r⟩
    · rw [List.getElem?_eq_none (by simpa using hi)] at e; cases e
  · rw [List.getElem?_set_ne hj] at e ⊢
    exact h.2 j x e
theorem EnvR.unset {B : Bk} {ρ : List Addr} {H : Hp} {σ : St} {env : Env} (h : EnvR B ρ H σ env) (i : Nat) : EnvR B ρ H (σ.set i none) (env.set i none) := by
  refine ⟨by simp [h.1], fun j x e => ?_⟩
  by_cases hj : i = j
  · subst hj
    by_cases hi : i < env.length
    · rw [List.getElem?_set_self hi] at e
      cases e
    · rw [List.getElem?_eq_none (by simpa using hi)] at e; cases e
  · rw [List.getElem?_set_ne hj] at e ⊢
    exact h.2 j x e
end Zf
namespace Zf
open PySem L2

/-! ### readings -/
/-- an exception in the air: its class, its dict -/
def ExR (B : Bk) (ρ : List Addr) (H : Hp) (cls : Value) (d : Option Addr) (x : W) : Prop :=
  ∃ c C f w dd v, x = .exc c w ∧ B.cs[c]? = some (C, f) ∧ cls = .ref C ∧ d = some dd ∧ H dd = some (.xd [(f, v)]) ∧ RW B ρ H v w
theorem ExR.mono {B : Bk} {ρ ρ' : List Addr} {H H' : Hp} {cls : Value} {d : Option Addr} {x : W} (h : ExR B ρ H cls d x) (hr : ρ <+: ρ') (k : Kp H H') : ExR B ρ' H' cls d x := by
  obtain ⟨c, C, f, w, dd, v, h1, h2, h3, h4, h5, h6⟩ := h
  exact ⟨c, C, f, w, dd, v, h1, h2, h3, h4, k _ _ h5 trivial, h6.mono hr k⟩
/-- what is wanted of an outcome; R relates what came out with the layer's -/
def Post {α β : Type} (R : List Addr → Hp → β → α → Prop) (B : Bk) (Wx : Value → Option Addr → Hp → Prop) (ρ : List Addr) (H : Hp) (o : Out α) (Q : β → Hp → Prop) : Prop :=
  match o with
  | .ok w st' => ∀ (ρ' : List Addr) (H' : Hp) (v : β), ρ <+: ρ' → Kp H H' → StR B ρ' H' st' → R ρ' H' v w → Q v H'
  | .er x st' => ∀ (ρ' : List Addr) (H' : Hp) (cls : Value) (d : Option Addr), ρ <+: ρ' → Kp H H' → StR B ρ' H' st' → ExR B ρ' H' cls d x → Wx cls d H'
  | .bad => False
theorem Post.mono {α β : Type} {R : List Addr → Hp → β → α → Prop} {B : Bk} {Wx : Value → Option Addr → Hp → Prop} {ρ ρ1 : List Addr} {H H1 : Hp} {o : Out α} {Q : β → Hp → Prop} (h : Post R B Wx ρ H o Q) (hr : ρ <+: ρ1) (k : Kp H H1) : Post R B Wx ρ1 H1 o Q := by
  cases o with
  | ok w st' => exact fun ρ' H' v a b c d => h ρ' H' v (hr.trans a) (k.trans b) c d
  | er x st' => exact fun ρ' H' cls d a b c e => h ρ' H' cls d (hr.trans a) (k.trans b) c e
  | bad => exact h
abbrev PostE (B : Bk) := Post (β := V) (fun ρ H v w => RW B ρ H v w) B
abbrev PostB (B : Bk) := Post (β := Bool) (fun _ _ v (w : Bool) => v = w) B
abbrev PostL (B : Bk) := Post (β := List V) (fun ρ H v w => RWs B ρ H v w) B

/-- the reading of an expression, of a test, of arguments -/
def tX {α β : Type} (R : List Addr → Hp → β → α → Prop) (B : Bk) (Wx : WX) (F : Env → Store → Out α) : St → Hp → (β → Hp → Prop) → Prop := fun σ H Q =>
  ∃ ρ env st, EnvR B ρ H σ env ∧ StR B ρ H st ∧ Post R B (fun c d H' => Wx c d σ H') ρ H (F env st) Q
abbrev tE (B : Bk) (Wx : WX) (F : Env → Store → Out W) : TE := tX (β := V) (fun ρ H v w => RW B ρ H v w) B Wx F
abbrev tB (B : Bk) (Wx : WX) (F : Env → Store → Out Bool) : TT := tX (β := Bool) (fun _ _ v (w : Bool) => v = w) B Wx F
abbrev tL (B : Bk) (Wx : WX) (F : Env → Store → Out (List W)) : TA := tX (β := List V) (fun ρ H v w => RWs B ρ H v w) B Wx F

/-- one after the other -/
theorem tX_bind {α β γ δ : Type} {R : List Addr → Hp → β → α → Prop} {R' : List Addr → Hp → δ → γ → Prop} {B : Bk} {Wx : WX} {F : Env → Store → Out α} {k : α → Store → Out γ} {σ : St} {H : Hp} {Q : δ → Hp → Prop} {ρ : List Addr} {env : Env} {st : Store}
    (he : EnvR B ρ H σ env) (hs : StR B ρ H st) (h : Post R' B (fun c d H' => Wx c d σ H') ρ H ((F env st).bind k) Q) :
    tX R B Wx F σ H (fun v H1 => ∃ ρ1 st1 a, ρ <+: ρ1 ∧ Kp H H1 ∧ EnvR B ρ1 H1 σ env ∧ StR B ρ1 H1 st1 ∧ R ρ1 H1 v a ∧ Post R' B (fun c d H' => Wx c d σ H') ρ1 H1 (k a st1) Q) := by
  refine ⟨ρ, env, st, he, hs, ?_⟩
  cases e : F env st with
  | ok a st1 =>
    rw [e] at h
    exact fun ρ' H' v a1 a2 a3 a4 => ⟨ρ', st1, a, a1, a2, he.mono a1 a2, a3, a4, Post.mono h a1 a2⟩
  | er x st' => rw [e] at h; exact h
  | bad => rw [e] at h; exact h
theorem tX_imp {α β : Type} {R : List Addr → Hp → β → α → Prop} {B : Bk} {Wx : WX} {F : Env → Store → Out α} {σ : St} {H : Hp} {Q Q' : β → Hp → Prop} (h : tX R B Wx F σ H Q) (hq : ∀ v H', Q v H' → Q' v H') : tX R B Wx F σ H Q' := by
  obtain ⟨ρ, env, st, he, hs, h⟩ := h
  refine ⟨ρ, env, st, he, hs, ?_⟩
  cases e : F env st with
  | ok a st1 => rw [e] at h; exact fun ρ' H' v a1 a2 a3 a4 => hq _ _ (h ρ' H' v a1 a2 a3 a4)
  | er x st' => rw [e] at h; exact h
  | bad => rw [e] at h; exact h

theorem PE.imp {X : Cx} {e : Expr} {t t' : TE} (h : PE X e t) (hi : ∀ σ H Q, t' σ H Q → t σ H Q) : PE X e t' := ⟨fun pins s σ H Q I q => h.run pins s σ H Q I (hi σ H Q q)⟩
theorem PT.imp {X : Cx} {e : Expr} {t t' : TT} (h : PT X e t) (hi : ∀ σ H Q, t' σ H Q → t σ H Q) : PT X e t' := ⟨fun pins s σ H Q I q => h.run pins s σ H Q I (hi σ H Q q)⟩
theorem PA.imp {X : Cx} {es : List Expr} {t t' : TA} (h : PA X es t) (hi : ∀ σ H Q, t' σ H Q → t σ H Q) : PA X es t' := ⟨fun pos pins s σ H Q I q => h.run pos pins s σ H Q I (hi σ H Q q)⟩
theorem PS.imp {X : Cx} {e : Stmt} {t t' : TS} (h : PS X e t) (hi : ∀ D σ H, t' D σ H → t D σ H) : PS X e t' := ⟨fun pins s σ H D I q => h.run pins s σ H D I (hi D σ H q)⟩
theorem PSs.imp {X : Cx} {e : List Stmt} {t t' : TS} (h : PSs X e t) (hi : ∀ D σ H, t' D σ H → t D σ H) : PSs X e t' := ⟨fun pins s σ H D I q => h.run pins s σ H D I (hi D σ H q)⟩

/-! ### what is known of the module in a body -/
/-- a def of the module: its name, its parameters -/
structure FnI where
  name : Str
  ps : List Str
/-- a call's shape: which def, how many arguments by place, the keywords, whence each parameter comes -/
structure Shape where
  fn : Nat
  npos : Nat
  ks : List Str
  src : List Nat
/-- the types that data have -/
inductive Ty where
  | int | bool | str | tuple | list | dict | none | set
  deriving DecidableEq
def Ty.nm : Ty → String
  | .int => "int" | .bool => "bool" | .str => "str" | .tuple => "tuple" | .list => "list" | .dict => "dict" | .none => "NoneType" | .set => "set"
/-- excs: the names of the exception classes (with its attribute a class stands in Bk.cs at the same place); sub: which of them is under which; pys: classes of Python above some of them -/
structure Glb where
  fns : List FnI
  blt : List Str
  consts : List (Str × W)
  shapes : List Shape
  excs : List Str
  sub : List (List Bool)
  pys : List (Str × String × List Bool)
  /-- names of dicts that loops walk -/
  dn : List Str := []
  /-- the exceptions that are made: their own __init__ keeps its one argument -/
  rz : List Nat := []
  /-- the attribute of each exception -/
  fs : List Str := []
  /-- the names of the defs that make lambdas -/
  mks : List (List Str) := []
  /-- where a list is made that never changes -/
  fz : List Nat := []
/-- .. where no lambda is made -/
def noMk (G : Glb) : Glb := { G with mks := [] }
def Glb.subAt (G : Glb) (c c' : Nat) : Option Bool := (G.sub[c]?).bind (·[c']?)

def pick {α : Type} (d : α) (src : List Nat) (xs : List α) : List α := src.map fun i => xs.getD i d

/-- a def's promise, by what it does -/
def spOf (B : Bk) (φ : List W → Store → Out W) (n : Nat) : Sp := fun vs H Q E => vs.length = n ∧ ∃ ρ ws st, RWs B ρ H vs ws ∧ StR B ρ H st ∧ PostE B (fun c d H' => E c d H') ρ H (φ ws st) Q
structure FnG (P : Program) (w : World) (K : PySem.W.Frag) (mg : Str → Option Value) (base : Heap) (k : Nat) (f : Addr) (fd : FuncData) (ps : List Str) (sp : Sp) : Prop where
  run : ∀ (A : Around) (outer : List PySem.Env) (s : Shared) (H : Hp) (args : Args) (us : List Value) (vs : List V) (Q : VK) (E : XK), Room (k + 2) A → A.guards = some [] → Env0 P w K mg base A outer s H → BindsTo s fd args (ps.zip us) → Vals vs us → sp vs H Q E →
    codeAny (model P w) A (.call (.ref f) args) (CR (L2.CX P w) outer P w H s Q E) s

/-- what an exception's own __init__ does: self.f = v -/
def spInit (K : PySem.W.Frag) (C : Addr) (f : Str) : Sp := fun vs H Q _ => ∃ a v, vs = [.ref a, v] ∧ OexC K C ∧ PySem.W.findIn K (.ref C) f = some none ∧ H a = some (exo a C none) ∧ ∀ dx, H dx = none → dx ≠ a → Q .non (upd (upd H dx (exd dx [(f, v)])) a (exo a C (some dx)))
structure MkC (P : Program) (w : World) (K : PySem.W.Frag) (mg : Str → Option Value) (base : Heap) (C : Addr) (f : Str) : Prop where
  ox : OexC K C
  no : PySem.W.findIn K (.ref C) f = some none
  ini : ∃ fI fd ps, PySem.W.findIn K (.ref C) "__init__" = some (some (.ref fI)) ∧ PySem.W.typeIn K (.ref fI) = some (.type "function") ∧ FnOk P w K mg base (L2.CX P w) 1 fI fd ps (spInit K C f) ∧ Binds K fd ps []
/-- what is known of the module -/
structure GK0 (G : Glb) (B : Bk) (Φ : Phi) (k : Nat) (P : Program) (w : World) (mg : Str → Option Value) (base : Heap) : Prop where
  fn : ∀ (i : Nat) (f : FnI), G.fns[i]? = some f → ∃ (a : Addr) (fd : FuncData), mg f.name = some (.ref a) ∧ PySem.W.keepIn B.K (.ref a) = true ∧ FnG P w B.K mg base k a fd f.ps (spOf B (Φ i) f.ps.length) ∧
    ∀ c ∈ G.shapes, c.fn = i → ∀ (s : Shared) (us ws : List Value), B.K.In s.heap → us.length = c.npos → ws.length = c.ks.length → BindsTo s fd ⟨us, c.ks.zip ws⟩ (f.ps.zip (pick .none c.src (us ++ ws)))
  blt : ∀ x ∈ G.blt, mg x = none
  con : ∀ x w, (x, w) ∈ G.consts → ∃ v u, mg x = some u ∧ RelV v u ∧ ∀ ρ H, RW B ρ H v w
  cn : ∀ (c : Nat) (x : Str), G.excs[c]? = some x → ∃ C f, B.cs[c]? = some (C, f) ∧ mg x = some (.ref C)
  ec : ∀ (c : Nat) C f, B.cs[c]? = some (C, f) → ExcC B.K C
  es : ∀ (c c' : Nat) C f C' f' b, B.cs[c]? = some (C, f) → B.cs[c']? = some (C', f') → G.subAt c c' = some b → PySem.W.kitOne B.K (.ref C) (.ref C') = some b
  ep : ∀ (c j : Nat) C f x T l b, B.cs[c]? = some (C, f) → G.pys[j]? = some (x, T, l) → l[c]? = some b → PySem.W.kitOne B.K (.ref C) (.type T) = some b
  pb : ∀ (j : Nat) x T l, G.pys[j]? = some (x, T, l) → mg x = none ∧ bootBuiltins x = some (.type T)
  en : ∀ (t : Ty) (c : Nat) C f, B.cs[c]? = some (C, f) → PySem.W.kitOne B.K (.type t.nm) (.ref C) = some false
  sm : ∃ mm, base.Ns sysModules mm
  em : ∀ (c c' : Nat) C f C' f' b, B.cs[c]? = some (C, f) → B.cs[c']? = some (C', f') → G.subAt c c' = some b → PySem.W.exmOne B.K (.ref C) (.ref C') = some b
  rz : ∀ c ∈ G.rz, ∃ C f, B.cs[c]? = some (C, f) ∧ MkC P w B.K mg base C f
  fd : ∀ (c : Nat) (n : Str), G.fs[c]? = some n → ∃ C, B.cs[c]? = some (C, n) ∧ PySem.W.findIn B.K (.ref C) n = some none
/-- the deed fo, called where the def at a stands: it does what φ says -/
def DeedOk (B : Bk) (P : Program) (w : World) (mg : Str → Option Value) (base : Heap) (A : Around) (outer : List PySem.Env) (s : Shared) (H : Hp) (E : XK) (a fo : Addr) (ρ : List Addr) (φ : Store → Out W) : Prop :=
  ∀ (Ng : List Str) (qual : Str) (sg : Scope) (cdg : Value) (pn : List (Addr × Obj)) (xe : Value → Shared → Prop) (Wx : WX) (x : Str) (i : Nat) (p1 p2 : Pos),
    Takes ((cxOf (L2.CX P w) P w B.K mg base Ng qual sg a cdg A outer s H E).tr pn xe) Wx → Ng[i]? = some x → Vis sg x → (x == ("__debug__" : Str)) = false → (x == ("__classdict__" : Str)) = false →
    PE ((cxOf (L2.CX P w) P w B.K mg base Ng qual sg a cdg A outer s H E).tr pn xe) (.Call (.Name x p1) [] [] p2)
      (fun σ H' Q => σ[i]? = some (some (.ref fo)) ∧ ∃ ρ' st', ρ <+: ρ' ∧ Kp0 H H' ∧ StR B ρ' H' st' ∧ PostE B (fun c d H'' => Wx c d σ H'') ρ' H' (φ st') Q)
/-- a def that is handed a deed keeps what Φ.lam says -/
def LamG (G : Glb) (B : Bk) (Φ : Phi) (k : Nat) (P : Program) (w : World) (mg : Str → Option Value) (base : Heap) (i : Nat) (ps : List Str) (a : Addr) (fd : FuncData) : Prop :=
  ∀ (A : Around) (outer : List PySem.Env) (s : Shared) (H : Hp) (fo : Addr) (Q : VK) (E : XK) (ρ : List Addr) (st : Store) (Θ : (Nat → List W → Store → Out W) → Store → Out W), Room (k + 2) A → A.guards = some [] → Env0 P w B.K mg base A outer s H →
    BindsTo s fd ⟨[.ref fo], []⟩ (ps.zip [.ref fo]) → ps.length = 1 → StR B ρ H st →
    (∀ (Φ2 : Phi) (k2 : Nat), k = k2 + 2 → GK0 G B Φ2 k2 P w mg base → DeedOk B P w mg base A outer s H E a fo ρ (Θ Φ2.fn)) →
    PostE B (fun c d H' => E c d H') ρ H (Φ.lam i Θ st) Q → codeAny (model P w) A (.call (.ref a) ⟨[.ref fo], []⟩) (CR (L2.CX P w) outer P w H s Q E) s
structure GK (G : Glb) (B : Bk) (Φ : Phi) (k : Nat) (P : Program) (w : World) (mg : Str → Option Value) (base : Heap) : Prop extends GK0 G B Φ k P w mg base where
  lam : ∀ (i : Nat) (f : FnI), G.fns[i]? = some f → ∃ (a : Addr) (fd : FuncData), mg f.name = some (.ref a) ∧ PySem.W.keepIn B.K (.ref a) = true ∧ LamG G B Φ k P w mg base i f.ps a fd ∧
    ∀ c ∈ G.shapes, c.fn = i → ∀ (s : Shared) (us ws : List Value), B.K.In s.heap → us.length = c.npos → ws.length = c.ks.length → BindsTo s fd ⟨us, c.ks.zip ws⟩ (f.ps.zip (pick .none c.src (us ++ ws)))
/-- the code object of a def that makes lambdas, its table -/
def MkAt (B : Bk) (mg : Str → Option Value) (base : Heap) (code : Value) (qual : Str) : Prop :=
  ∃ c P, code = .ref c ∧ LamX.TabB base mg c P ∧ (P, qual ++ ("<lambda>" : Str)) ∈ B.T ∧ ∀ p ∈ B.T, p.1 = P → p.2 = qual ++ ("<lambda>" : Str)
/-- .. and of the place where one stands -/
structure GX (G : Glb) (B : Bk) (Φ : Phi) (k : Nat) (N : List Str) (Wx : WX) (sc : Scope) (X : Cx) : Prop where
  K : X.K = B.K
  N : X.N = N
  nd : X.N.Nodup
  sc : X.env.scope = sc
  calm : X.calm = true
  room2 : Room (k + 2) X.A
  gd : X.A.guards = some []
  tk : Takes X Wx
  gk : GK G B Φ k X.prog X.w X.mg X.base
  lm : X.N ∈ G.mks → MkAt B X.mg X.base X.env.code X.env.qual

theorem GX.room {G : Glb} {B : Bk} {Φ : Phi} {k : Nat} {N : List Str} {Wx : WX} {sc : Scope} {X : Cx} (g : GX G B Φ k N Wx sc X) : Room k X.A := g.room2.mono (by omega)
/-- a piece of text does what F says -/
structure Snd (G : Glb) (B : Bk) (k : Nat) (N : List Str) (sc : Scope) (e : Expr) (F : SE) : Prop where
  pe : ∀ (Φ : Phi) (Wx : WX) (X : Cx), GX G B Φ k N Wx sc X → PE X e (tE B Wx (F Φ))
structure SndT (G : Glb) (B : Bk) (k : Nat) (N : List Str) (sc : Scope) (e : Expr) (F : ST) : Prop where
  pt : ∀ (Φ : Phi) (Wx : WX) (X : Cx), GX G B Φ k N Wx sc X → PT X e (tB B Wx (F Φ))
structure SndL (G : Glb) (B : Bk) (k : Nat) (N : List Str) (sc : Scope) (es : List Expr) (F : SL) : Prop where
  pa : ∀ (Φ : Phi) (Wx : WX) (X : Cx), GX G B Φ k N Wx sc X → PA X es (tL B Wx (F Φ))

section
variable {G : Glb} {B : Bk} {k : Nat} {N : List Str} {sc : Scope}

/-! ### names, constants -/
def retE (w : W) : SE := fun _ _ st => .ok w st
def varE (i : Nat) : SE := fun _ env st => match env[i]? with
  | some (some w) => .ok w st
  | _ => .bad
theorem post_here {B : Bk} {Wx : Value → Option Addr → Hp → Prop} {ρ : List Addr} {H : Hp} {w : W} {st : Store} {Q : VK} {v : V} (h : PostE B Wx ρ H (.ok w st) Q) (hs : StR B ρ H st) (r : RW B ρ H v w) : Q v H :=
  h ρ H v (List.prefix_refl _) (.refl _) hs r
theorem snd_const {c : Const} {j : Nat} {pos : Pos} {w : W} (hw : ∀ ρ H, ∃ v, RW B ρ H v w ∧ ∀ X, PE X (.Constant c j pos) (tC v)) : Snd G B k N sc (.Constant c j pos) (retE w) := by
  refine ⟨fun Φ Wx X g => ?_⟩
  obtain ⟨v, _, h⟩ := hw [] (fun _ => none)
  refine ⟨fun pins s σ H Q I q => ?_⟩
  obtain ⟨ρ, env, st, he, hs, q⟩ := q
  obtain ⟨v, r, h⟩ := hw ρ H
  exact (h X).run pins s σ H Q I (post_here q hs r)
theorem snd_int {i : Int} {j : Nat} {pos : Pos} : Snd G B k N sc (.Constant (.int i) j pos) (retE (.int i)) := snd_const fun _ _ => ⟨_, .int i, fun _ => pe_int⟩
theorem snd_str {x : Str} {j : Nat} {pos : Pos} : Snd G B k N sc (.Constant (.str x) j pos) (retE (.str x)) := snd_const fun _ _ => ⟨_, .str x, fun _ => pe_str⟩
theorem snd_bl {b : Bool} {j : Nat} {pos : Pos} : Snd G B k N sc (.Constant (.bool b) j pos) (retE (.bl b)) := snd_const fun _ _ => ⟨_, .bl b, fun _ => pe_bl⟩
theorem snd_non {j : Nat} {pos : Pos} : Snd G B k N sc (.Constant .none j pos) (retE .non) := snd_const fun _ _ => ⟨_, .non, fun _ => pe_non⟩
def notDbg (x : Str) : Bool := !(x == ("__debug__" : Str)) && !(x == ("__classdict__" : Str))
theorem notDbg1 {x : Str} (h : notDbg x = true) : (x == ("__debug__" : Str)) = false := by
  unfold notDbg at h; simp only [Bool.and_eq_true, Bool.not_eq_true'] at h; exact h.1
theorem notDbg2 {x : Str} (h : notDbg x = true) : (x == ("__classdict__" : Str)) = false := by
  unfold notDbg at h; simp only [Bool.and_eq_true, Bool.not_eq_true'] at h; exact h.2
/-- a name of the def -/
def visB (sc : Scope) (x : Str) : Bool := match sc.names.lookup x with
  | some .local => true | some .cell => true | some .free => true | _ => false
theorem visB_ok {sc : Scope} {x : Str} (h : visB sc x = true) : Vis sc x := by
  unfold visB at h
  unfold Vis
  split at h <;> first | exact .inl ‹_› | exact .inr (.inl ‹_›) | exact .inr (.inr ‹_›) | cases h
theorem snd_var {x : Str} {pos : Pos} {i : Nat} (hi : N[i]? = some x) (hv : visB sc x = true) (hd : notDbg x = true) : Snd G B k N sc (.Name x pos) (varE i) := by
  refine ⟨fun Φ Wx X g => PE.imp (pe_var (i := i) (by rw [g.N]; exact hi) (by rw [g.sc]; exact visB_ok hv) (notDbg1 hd) (notDbg2 hd)) fun σ H Q q => ?_⟩
  obtain ⟨ρ, env, st, he, hs, q⟩ := q
  unfold varE at q
  cases e : env[i]? with
  | none => rw [e] at q; exact q.elim
  | some o =>
    cases o with
    | none => rw [e] at q; exact q.elim
    | some w =>
      rw [e] at q
      obtain ⟨v, h1, h2⟩ := he.2 i w e
      exact ⟨v, h1, post_here q hs h2⟩
/-- a global name -/
def glbB (sc : Scope) (x : Str) : Bool := match sc.names.lookup x with
  | some .globalImplicit => true | _ => false
theorem glbB_ok {X : Cx} {x : Str} (h : glbB X.env.scope x = true) : Gl X x := by
  unfold glbB at h
  show X.env.scope.names.lookup x = _
  split at h <;> first | assumption | cases h
theorem snd_glob {x : Str} {pos : Pos} {w : W} (hg : glbB sc x = true) (hd : notDbg x = true) (hm : (x, w) ∈ G.consts) : Snd G B k N sc (.Name x pos) (retE w) := by
  refine ⟨fun Φ Wx X g => ?_⟩
  obtain ⟨v, u, h1, h2, h3⟩ := g.gk.con x w hm
  refine PE.imp (pe_glob (glbB_ok (by rw [g.sc]; exact hg)) h1 h2 (notDbg1 hd)) fun σ H Q q => ?_
  obtain ⟨ρ, env, st, he, hs, q⟩ := q
  exact post_here q hs (h3 ρ H)

/-! ### operators -/
abbrev Opt := Option (W × Store)
def liftO : Opt → Out W
  | some (w, st) => .ok w st
  | none => .bad
def pureO (o : Option W) (st : Store) : Opt := o.map fun w => (w, st)
/-- what an operation does by values -/
abbrev W2 := W → W → Store → Opt
structure OpW (B : Bk) (X : Cx) (f : Value → Value → Sem Value) (g : W2) : Prop where
  run : ∀ (pins : List (Addr × Obj)) (s : Shared) (σ : St) (H : Hp) (x y : V) (v u : Value) (Q : VK) (ρ : List Addr) (st : Store) (a b : W), Inv X pins σ H s → RelV x v → RelV y u → StR B ρ H st → RW B ρ H x a → RW B ρ H y b →
    PostE B (fun _ _ _ => False) ρ H (liftO (g a b st)) Q → wpAny (model X.prog X.w) X.A (f v u) (EP X pins σ Q) X.xe s
def rW2 (B : Bk) (g : W2) : R2 := fun x y H Q => ∃ ρ st a b, StR B ρ H st ∧ RW B ρ H x a ∧ RW B ρ H y b ∧ PostE B (fun _ _ _ => False) ρ H (liftO (g a b st)) Q
theorem OpW.opR {X : Cx} {f : Value → Value → Sem Value} {g : W2} (h : OpW B X f g) : OpR X f (rW2 B g) := fun pins s σ H x y v u Q I r1 r2 ⟨ρ, st, a, b, h1, h2, h3, q⟩ => h.run pins s σ H x y v u Q ρ st a b I r1 r2 h1 h2 h3 q
theorem post_lift {Wx Wy : Value → Option Addr → Hp → Prop} {ρ : List Addr} {H : Hp} {o : Opt} {Q : VK} (h : PostE B Wx ρ H (liftO o) Q) : PostE B Wy ρ H (liftO o) Q := by
  cases o with
  | none => exact h
  | some p => exact h
def binF (g : W2) (a b : SE) : SE := fun Φ env st => (a Φ env st).bind fun x st1 => (b Φ env st1).bind fun y st2 => liftO (g x y st2)
theorem tOp_of {Wx : WX} {g : W2} {fa fb : Env → Store → Out W} {σ : St} {H : Hp} {Q : VK} (h : tE B Wx (fun env st => (fa env st).bind fun x st1 => (fb env st1).bind fun y st2 => liftO (g x y st2)) σ H Q) :
    tOp (rW2 B g) (tE B Wx fa) (tE B Wx fb) σ H Q := by
  obtain ⟨ρ, env, st, he, hs, q⟩ := h
  refine tX_imp (tX_bind he hs q) fun v H1 ⟨ρ1, st1, a, a1, a2, he1, hs1, r1, q1⟩ => ?_
  refine tX_imp (tX_bind he1 hs1 q1) fun u H2 ⟨ρ2, st2, b, b1, b2, he2, hs2, r2, q2⟩ => ?_
  exact ⟨ρ2, st2, a, b, hs2, r1.mono b1 b2, r2, post_lift q2⟩
theorem snd_bin {op : Operator} {a b : Expr} {pos : Pos} {fa fb : SE} {g : W2} (ho : ∀ X : Cx, X.K = B.K → OpW B X (binaryOp op) g) (ha : Snd G B k N sc a fa) (hb : Snd G B k N sc b fb) : Snd G B k N sc (.BinOp a op b pos) (binF g fa fb) :=
  ⟨fun Φ Wx X gx => PE.imp (pe_op (ho X gx.K).opR (ha.pe Φ Wx X gx) (hb.pe Φ Wx X gx)) fun _ _ _ q => tOp_of q⟩
/-- comparisons; the room is asked -/
theorem snd_cmp {op : CmpOp} {a b : Expr} {pos : Pos} {fa fb : SE} {g : W2} (ho : ∀ X : Cx, X.K = B.K → X.calm = true → Room k X.A → OpW B X (compareOp op) g) (hm : behindInMarks op b = false) (ha : Snd G B k N sc a fa) (hb : Snd G B k N sc b fb) :
    Snd G B k N sc (.Compare a [op] [b] pos) (binF g fa fb) :=
  ⟨fun Φ Wx X gx => PE.imp (pe_cmpR (ho X gx.K gx.calm gx.room).opR (ha.pe Φ Wx X gx) (hb.pe Φ Wx X gx) hm) fun _ _ _ q => tOp_of q⟩
/-- a truth -/
def isBl : W → Option Bool
  | .bl b => some b
  | _ => none
def asB (F : SE) : ST := fun Φ env st => (F Φ env st).bind fun w st1 => match isBl w with
  | some b => .ok b st1
  | none => .bad
theorem tTest_of {Wx : WX} {t : TE} {F : Env → Store → Out W} {σ : St} {H : Hp} {Q : Bool → Hp → Prop} (hi : ∀ Q', tE B Wx F σ H Q' → t σ H Q') (h : tB B Wx (fun env st => (F env st).bind fun w st1 => match isBl w with
  | some b => .ok b st1
  | none => .bad) σ H Q) : tTest t σ H Q := by
  refine hi _ ?_
  obtain ⟨ρ, env, st, he, hs, q⟩ := h
  refine tX_imp (tX_bind he hs q) fun v H1 ⟨ρ1, st1, a, a1, a2, he1, hs1, r1, q1⟩ => ?_
  cases r1 with
  | bl b => exact ⟨b, rfl, q1 ρ1 H1 b (List.prefix_refl _) (.refl _) hs1 rfl⟩
  | _ => exact q1.elim
theorem sndT_cmp {op : CmpOp} {a b : Expr} {pos : Pos} {fa fb : SE} {g : W2} (ho : ∀ X : Cx, X.K = B.K → X.calm = true → Room k X.A → OpW B X (compareOp op) g) (hm : behindInMarks op b = false) (ha : Snd G B k N sc a fa) (hb : Snd G B k N sc b fb) :
    SndT G B k N sc (.Compare a [op] [b] pos) (asB (binF g fa fb)) :=
  ⟨fun Φ Wx X gx => PT.imp (pt_cmpR (ho X gx.K gx.calm gx.room).opR (ha.pe Φ Wx X gx) (hb.pe Φ Wx X gx) hm) fun _ _ _ q => tTest_of (fun _ => tOp_of) q⟩
/-- a < b < c -/
def chainF (g g' : W2) (a b c : SE) : SE := fun Φ env st => (a Φ env st).bind fun x st1 => (b Φ env st1).bind fun y st2 => (liftO (g x y st2)).bind fun z st3 => match isBl z with
  | some true => (c Φ env st3).bind fun w st4 => liftO (g' y w st4)
  | some false => .ok (.bl false) st3
  | none => .bad
theorem tChain_of {Wx : WX} {g g' : W2} {fa fb fc : Env → Store → Out W} {σ : St} {H : Hp} {Q : VK} (h : tE B Wx (fun env st => (fa env st).bind fun x st1 => (fb env st1).bind fun y st2 => (liftO (g x y st2)).bind fun z st3 => match isBl z with
  | some true => (fc env st3).bind fun w st4 => liftO (g' y w st4)
  | some false => .ok (.bl false) st3
  | none => .bad) σ H Q) : tChain (rW2 B g) (rW2 B g') (tE B Wx fa) (tE B Wx fb) (tE B Wx fc) σ H Q := by
  obtain ⟨ρ, env, st, he, hs, q⟩ := h
  refine tX_imp (tX_bind he hs q) fun v H1 ⟨ρ1, st1, a, a1, a2, he1, hs1, r1, q1⟩ => ?_
  refine tX_imp (tX_bind he1 hs1 q1) fun u H2 ⟨ρ2, st2, b, b1, b2, he2, hs2, r2, q2⟩ => ?_
  refine ⟨ρ2, st2, a, b, hs2, r1.mono b1 b2, r2, ?_⟩
  cases e : g a b st2 with
  | none => rw [e] at q2; exact q2
  | some p =>
    obtain ⟨z, st3⟩ := p
    rw [e] at q2
    intro ρ3 H3 w c1 c2 hs3 rz
    have q3 := Post.mono q2 c1 c2
    cases rz with
    | bl t =>
      refine ⟨t, rfl, ?_⟩
      cases t with
      | true =>
        rw [if_pos rfl]
        refine tX_imp (tX_bind (he2.mono c1 c2) hs3 q3) fun v4 H4 ⟨ρ4, st4, d, d1, d2, he4, hs4, r4, q4⟩ => ?_
        exact ⟨ρ4, st4, b, d, hs4, (r2.mono c1 c2).mono d1 d2, r4, post_lift q4⟩
      | false =>
        rw [if_neg Bool.false_ne_true]
        exact post_here q3 hs3 (.bl false)
    | _ => exact q3.elim
theorem snd_chain {op op' : CmpOp} {a b c : Expr} {pos : Pos} {fa fb fc : SE} {g g' : W2} (ho : ∀ X : Cx, X.K = B.K → X.calm = true → Room k X.A → OpW B X (compareOp op) g) (ho' : ∀ X : Cx, X.K = B.K → X.calm = true → Room k X.A → OpW B X (compareOp op') g')
    (hm : lastMarks [op, op'] [b, c] = false) (ha : Snd G B k N sc a fa) (hb : Snd G B k N sc b fb) (hc : Snd G B k N sc c fc) : Snd G B k N sc (.Compare a [op, op'] [b, c] pos) (chainF g g' fa fb fc) :=
  ⟨fun Φ Wx X gx => PE.imp (pe_chain (ho X gx.K gx.calm gx.room).opR (ho' X gx.K gx.calm gx.room).opR (ha.pe Φ Wx X gx) (hb.pe Φ Wx X gx) (hc.pe Φ Wx X gx) hm) fun _ _ _ q => tChain_of q⟩
theorem sndT_chain {op op' : CmpOp} {a b c : Expr} {pos : Pos} {fa fb fc : SE} {g g' : W2} (ho : ∀ X : Cx, X.K = B.K → X.calm = true → Room k X.A → OpW B X (compareOp op) g) (ho' : ∀ X : Cx, X.K = B.K → X.calm = true → Room k X.A → OpW B X (compareOp op') g')
    (hm : lastMarks [op, op'] [b, c] = false) (ha : Snd G B k N sc a fa) (hb : Snd G B k N sc b fb) (hc : Snd G B k N sc c fc) : SndT G B k N sc (.Compare a [op, op'] [b, c] pos) (asB (chainF g g' fa fb fc)) :=
  ⟨fun Φ Wx X gx => PT.imp (pt_chain (ho X gx.K gx.calm gx.room).opR (ho' X gx.K gx.calm gx.room).opR (ha.pe Φ Wx X gx) (hb.pe Φ Wx X gx) (hc.pe Φ Wx X gx) hm) fun _ _ _ q => tTest_of (fun _ => tChain_of) q⟩
end
end Zf
namespace Zf
open PySem L2
open PyProof.Rows (b2i)

/-! ### lists and tuples by values -/
/-- the changeable list's items -/
def lstAt (w : W) (st : Store) : Option (List W) := match w with
  | .ref n => match st[n]? with
    | some (.lst ws) => some ws
    | _ => none
  | _ => none
/-- any list's items -/
def lstOf (w : W) (st : Store) : Option (List W) := match w with
  | .klst ws => some ws
  | .ref n => match st[n]? with
    | some (.lst ws) => some ws
    | _ => none
  | _ => none
/-- a list's or a tuple's items -/
def seqOf (w : W) (st : Store) : Option (List W) := match w with
  | .tup ws => some ws
  | .klst ws => some ws
  | .ref n => match st[n]? with
    | some (.lst ws) => some ws
    | _ => none
  | _ => none
section
variable {B : Bk} {ρ : List Addr} {H : Hp} {st : Store} {v : V} {w : W} {ws : List W}
theorem lstAt_r (hs : StR B ρ H st) (r : RW B ρ H v w) (h : lstAt w st = some ws) : ∃ n a vs, w = .ref n ∧ v = .ref a ∧ ρ[n]? = some a ∧ st[n]? = some (.lst ws) ∧ H a = some (.lst vs) ∧ RWs B ρ H vs ws := by
  cases r with
  | ref e =>
    rename_i a n
    unfold lstAt at h
    dsimp only at h
    split at h
    · rename_i ws' es
      cases h
      obtain ⟨vs, h1, h2⟩ := hs.at_ n a _ e es
      exact ⟨n, a, vs, rfl, rfl, e, es, h1, h2⟩
    · cases h
  | _ => cases h
theorem lstOf_r (hs : StR B ρ H st) (r : RW B ρ H v w) (h : lstOf w st = some ws) : ∃ a vs, v = .ref a ∧ SqL B.K H a vs ∧ RWs B ρ H vs ws := by
  cases r with
  | ref e =>
    rename_i a n
    unfold lstOf at h
    dsimp only at h
    split at h
    · rename_i ws' es
      cases h
      obtain ⟨vs, h1, h2⟩ := hs.at_ n a _ e es
      exact ⟨a, vs, rfl, SqL.of h1, h2⟩
    · cases h
  | klst h1 h2 => cases h; exact ⟨_, _, rfl, h1.seq, h2⟩
  | _ => cases h
theorem seqOf_r (hs : StR B ρ H st) (r : RW B ρ H v w) (h : seqOf w st = some ws) : ∃ a vs, v = .ref a ∧ (SqL B.K H a vs ∨ SqT B.K H a vs) ∧ RWs B ρ H vs ws := by
  cases r with
  | ref e =>
    rename_i a n
    unfold seqOf at h
    dsimp only at h
    split at h
    · rename_i ws' es
      cases h
      obtain ⟨vs, h1, h2⟩ := hs.at_ n a _ e es
      exact ⟨a, vs, rfl, .inl (SqL.of h1), h2⟩
    · cases h
  | klst h1 h2 => cases h; exact ⟨_, _, rfl, .inl h1.seq, h2⟩
  | tup h1 h2 => cases h; exact ⟨_, _, rfl, .inr h1.seq, h2⟩
  | _ => cases h
end

/-! ### ends -/
section
variable {B : Bk} {Wx : Value → Option Addr → Hp → Prop} {ρ : List Addr} {H : Hp} {st : Store} {Q : VK}
/-- a new list -/
theorem end_lst {ws : List W} {vs : List V} (h : PostE B Wx ρ H (.ok (.ref st.length) (st ++ [.lst ws])) Q) (hs : StR B ρ H st) (r : RWs B ρ H vs ws) : ∀ p, H p = none → Q (.ref p) (upd H p (.lst vs)) := fun p hp => by
  refine h (ρ ++ [p]) _ _ (List.prefix_append _ _) (.new hp) (hs.push hp ⟨vs, upd_same, r.mono (List.prefix_append _ _) (.new hp)⟩) (.ref ?_)
  rw [← hs.len, List.getElem?_append_right (Nat.le_refl _)]
  simp
/-- a new tuple -/
theorem end_tup {ws : List W} {vs : List V} (h : PostE B Wx ρ H (.ok (.tup ws) st) Q) (hs : StR B ρ H st) (r : RWs B ρ H vs ws) : ∀ p, H p = none → Q (.ref p) (upd H p (.tup vs)) := fun p hp =>
  h ρ _ _ (List.prefix_refl _) (.new hp) (hs.new hp) (.tup (.inl upd_same) (r.mono (List.prefix_refl _) (.new hp)))
/-- a list is written -/
theorem end_set {n : Nat} {a : Addr} {ws : List W} {vs : List V} {w : W} {v : V} (h : PostE B Wx ρ H (.ok w (st.set n (.lst ws))) Q) (hs : StR B ρ H st) (e : ρ[n]? = some a) (r : RWs B ρ H vs ws) (rw' : RW B ρ H v w) {u : List V} (hu : H a = some (.lst u)) : Q v (upd H a (.lst vs)) := by
  have hst : ¬ Stab (.lst u) := id
  have k : Kp H (upd H a (.lst vs)) := .wr hu hst
  obtain ⟨h1, _⟩ := hs.wr (u := .lst vs) (o := .lst ws) e ⟨vs, upd_same, r.mono (List.prefix_refl _) k⟩ ⟨_, hu, hst⟩
  exact h ρ _ _ (List.prefix_refl _) k h1 (rw'.mono (List.prefix_refl _) k)
end

/-! ### the operations -/
def slBound : Nat := 16777216
theorem slBound_eq : slBound = sizeLine := by rw [sizeLine_eq]; rfl
theorem slb {n : Nat} (h : n ≤ slBound) : n ≤ sizeLine := by rw [← slBound_eq]; exact h
theorem slb' {n : Nat} (h : n < slBound) : n < sizeLine := by rw [← slBound_eq]; exact h

def addW : W2 := fun a b st => match a, b with
  | .int i, .int j => some (.int (i + j), st)
  | .int i, .bl j => some (.int (i + b2i j), st)
  | .str x, .str y => if x.length + y.length ≤ slBound then some (.str (x ++ y), st) else none
  | .tup x, .tup y => if x.length + y.length ≤ slBound then some (.tup (x ++ y), st) else none
  | .ref m, .ref n => match lstAt (.ref m) st, lstAt (.ref n) st with
    | some x, some y => if x.length + y.length ≤ slBound then some (.ref st.length, st ++ [.lst (x ++ y)]) else none
    | _, _ => none
  | .klst x, b => match lstOf b st with
    | some y => if x.length + y.length ≤ slBound then some (.ref st.length, st ++ [.lst (x ++ y)]) else none
    | none => none
  | .ref m, .klst y => match lstAt (.ref m) st with
    | some x => if x.length + y.length ≤ slBound then some (.ref st.length, st ++ [.lst (x ++ y)]) else none
    | none => none
  | _, _ => none
/-- any two lists -/
def rCatS (K : PySem.W.Frag) : R2 := fun x y H Q => ∃ l b xs zs, x = .ref l ∧ y = .ref b ∧ SqL K H l xs ∧ SqL K H b zs ∧ xs.length + zs.length ≤ sizeLine ∧ ∀ p, H p = none → Q (.ref p) (upd H p (.lst (xs ++ zs)))
theorem op_catS {X : Cx} : OpR X (binaryOp .Add) (rCatS X.K) := by
  intro pins s σ H x y v u Q I rx ry h
  obtain ⟨l, b, xs, zs, rfl, rfl, hH, hB, hz, q⟩ := h
  cases rx
  cases ry
  obtain ⟨its, r, ⟨o1, n1, g1, c1, d1, e1⟩, _⟩ := I.list hH
  obtain ⟨its2, r2, ⟨o2, n2, g2, c2, d2, e2⟩, _⟩ := I.list hB
  obtain ⟨cls, dd, data, sl⟩ := o1
  obtain ⟨cls2, dd2, data2, sl2⟩ := o2
  simp only at c1 e1 c2 e2
  subst c1 e1 c2 e2
  have hl := r.length
  have hl2 := r2.length
  have ea : its.toArray ++ its2.toArray = (its ++ its2).toArray := by simp
  refine concat_meets ⟨_, g1, rfl⟩ ⟨_, g2, rfl⟩ noFill_list_add seq_list_add PySem.F.slot_list_add PySem.F.entry_list_add (PySem.F.args_list_add_2 _ _) (PyProof.Rows.list_addW l b its.toArray its2.toArray n1 n2 dd dd2 sl sl2 (by simp; omega)) ⟨g1, g2, ?_⟩
  rw [ea]
  exact ⟨.ref _, _, I.lnew (t' := s.toks) (r.append r2) (by rw [List.length_append]; omega), rfl, q _ I.fresh⟩
section
variable {B : Bk} {X : Cx}
theorem ow_add (hK : X.K = B.K) : OpW B X (binaryOp .Add) addW := by
  refine ⟨fun pins s σ H x y v u Q ρ st a b I rx ry hs ra rb q => ?_⟩
  cases ra with
  | int i =>
    cases rb with
    | int j => exact op_add pins s σ H _ _ v u Q I rx ry ⟨i, j, rfl, rfl, post_here q hs (.int _)⟩
    | bl j => exact op_add_ib pins s σ H _ _ v u Q I rx ry ⟨i, j, rfl, rfl, post_here q hs (.int _)⟩
    | _ => exact q.elim
  | str i =>
    cases rb with
    | str j =>
      simp only [addW] at q
      split at q
      · rename_i hz
        exact op_add_str pins s σ H _ _ v u Q I rx ry ⟨i, j, rfl, rfl, slb hz, post_here q hs (.str _)⟩
      · exact q.elim
    | _ => exact q.elim
  | tup h1 h2 =>
    cases rb with
    | tup h3 h4 =>
      simp only [addW] at q
      split at q
      · rename_i hz
        have l1 := h2.length
        have l2 := h4.length
        refine op_catA pins s σ H _ _ v u Q I rx ry ⟨_, _, _, _, rfl, rfl, by rw [hK]; exact h1.seq, by rw [hK]; exact h3.seq, by rw [l1, l2]; exact slb hz, fun e => ?_, fun _ e => ?_, fun _ _ => ?_⟩
        · subst e
          cases h2
          exact post_here q hs (.tup h3 h4)
        · subst e
          cases h4
          rw [List.append_nil] at q
          exact post_here q hs (.tup h1 h2)
        · exact end_tup q hs (h2.app h4)
      · exact q.elim
    | _ => exact q.elim
  | ref e =>
    rename_i a n
    cases rb with
    | ref e' =>
      rename_i a' n'
      simp only [addW] at q
      split at q
      · rename_i x1 y1 g1 g2
        split at q
        · rename_i hz
          obtain ⟨_, _, vs, ew, ev, e1, _, h1, r1⟩ := lstAt_r hs (.ref e) g1
          obtain ⟨_, _, us, ew', ev', e1', _, h1', r1'⟩ := lstAt_r hs (.ref e') g2
          cases ew; cases ev; cases ew'; cases ev'
          refine op_cat pins s σ H _ _ v u Q I rx ry ⟨_, _, _, _, rfl, rfl, h1, h1', by rw [r1.length, r1'.length]; exact slb hz, ?_⟩
          exact end_lst q hs (r1.app r1')
        · exact q.elim
      · exact q.elim
    | klst h3 h4 =>
      simp only [addW] at q
      split at q
      · rename_i x1 g1
        split at q
        · rename_i hz
          obtain ⟨_, _, vs, ew, ev, e1, _, h1, r1⟩ := lstAt_r hs (.ref e) g1
          cases ew; cases ev
          refine op_catS pins s σ H _ _ v u Q I rx ry ⟨_, _, _, _, rfl, rfl, .of h1, by rw [hK]; exact h3.seq, by rw [r1.length, h4.length]; exact slb hz, ?_⟩
          exact end_lst q hs (r1.app h4)
        · exact q.elim
      · exact q.elim
    | _ => exact q.elim
  | klst h1 h2 =>
    simp only [addW] at q
    split at q
    · rename_i y1 g1
      split at q
      · rename_i hz
        obtain ⟨p, vs, ev, h3, h4⟩ := lstOf_r hs rb g1
        subst ev
        refine op_catS pins s σ H _ _ v u Q I rx ry ⟨_, _, _, _, rfl, rfl, by rw [hK]; exact h1.seq, by rw [hK]; exact h3, by rw [h2.length, h4.length]; exact slb hz, ?_⟩
        exact end_lst q hs (h2.app h4)
      · exact q.elim
    · exact q.elim
  | _ => exact q.elim

def subW : W2 := fun a b st => match a, b with
  | .int i, .int j => some (.int (i - j), st)
  | _, _ => none
theorem ow_sub (hK : X.K = B.K) : OpW B X (binaryOp .Sub) subW := by
  refine ⟨fun pins s σ H x y v u Q ρ st a b I rx ry hs ra rb q => ?_⟩
  cases ra with
  | int i =>
    cases rb with
    | int j => exact op_sub pins s σ H _ _ v u Q I rx ry ⟨i, j, rfl, rfl, post_here q hs (.int _)⟩
    | _ => exact q.elim
  | _ => exact q.elim
def modW : W2 := fun a b st => match a, b with
  | .int i, .int j => if 0 < j then some (.int (i % j), st) else none
  | _, _ => none
theorem ow_mod (hK : X.K = B.K) : OpW B X (binaryOp .Mod) modW := by
  refine ⟨fun pins s σ H x y v u Q ρ st a b I rx ry hs ra rb q => ?_⟩
  cases ra with
  | int i =>
    cases rb with
    | int j =>
      simp only [modW] at q
      split at q
      · rename_i hj
        exact op_mod pins s σ H _ _ v u Q I rx ry ⟨i, j, rfl, rfl, hj, post_here q hs (.int _)⟩
      · exact q.elim
    | _ => exact q.elim
  | _ => exact q.elim
def divW : W2 := fun a b st => match a, b with
  | .int i, .int j => if 0 < j ∧ j < 2 ^ 9000 then some (.int (i / j), st) else none
  | _, _ => none
theorem ow_div (hK : X.K = B.K) : OpW B X (binaryOp .FloorDiv) divW := by
  refine ⟨fun pins s σ H x y v u Q ρ st a b I rx ry hs ra rb q => ?_⟩
  cases ra with
  | int i =>
    cases rb with
    | int j =>
      simp only [divW] at q
      split at q
      · rename_i hj
        exact op_fdivW pins s σ H _ _ v u Q I rx ry ⟨i, j, rfl, rfl, wide_div hj.1 (b := 9000) (by have := hj.2; omega) (by decide) (by decide), post_here q hs (.int _)⟩
      · exact q.elim
    | _ => exact q.elim
  | _ => exact q.elim
def powW : W2 := fun a b st => match a, b with
  | .int i, .int j => if 0 ≤ j ∧ j ≤ 1000000 ∧ i.natAbs < 2 ^ 64 then some (.int (i ^ j.toNat), st) else none
  | _, _ => none
theorem ow_pow (hK : X.K = B.K) : OpW B X (binaryOp .Pow) powW := by
  refine ⟨fun pins s σ H x y v u Q ρ st a b I rx ry hs ra rb q => ?_⟩
  cases ra with
  | int i =>
    cases rb with
    | int j =>
      simp only [powW] at q
      split at q
      · rename_i hj
        exact op_pow pins s σ H _ _ v u Q I rx ry ⟨i, j, rfl, rfl, hj, post_here q hs (.int _)⟩
      · exact q.elim
    | _ => exact q.elim
  | _ => exact q.elim
def shlW : W2 := fun a b st => match a, b with
  | .int i, .int j => if 0 ≤ j ∧ j ≤ 1000000 ∧ i.natAbs < 2 ^ 1000000 then some (.int (i * 2 ^ j.toNat), st) else none
  | _, _ => none
theorem ow_shl (hK : X.K = B.K) : OpW B X (binaryOp .LShift) shlW := by
  refine ⟨fun pins s σ H x y v u Q ρ st a b I rx ry hs ra rb q => ?_⟩
  cases ra with
  | int i =>
    cases rb with
    | int j =>
      simp only [shlW] at q
      split at q
      · rename_i hj
        obtain ⟨h0, h1, h2⟩ := hj
        obtain ⟨m, rfl⟩ := Int.eq_ofNat_of_zero_le h0
        exact op_shlW pins s σ H _ _ v u Q I rx ry ⟨i, m, rfl, rfl, shl_ok (n := 1000000) h2 (by omega), post_here q hs (.int _)⟩
      · exact q.elim
    | _ => exact q.elim
  | _ => exact q.elim
def shrW : W2 := fun a b st => match a, b with
  | .int i, .int j => if 0 ≤ j then some (.int (i / 2 ^ j.toNat), st) else none
  | _, _ => none
theorem ow_shr (hK : X.K = B.K) : OpW B X (binaryOp .RShift) shrW := by
  refine ⟨fun pins s σ H x y v u Q ρ st a b I rx ry hs ra rb q => ?_⟩
  cases ra with
  | int i =>
    cases rb with
    | int j =>
      simp only [shrW] at q
      split at q
      · rename_i hj
        exact op_shr pins s σ H _ _ v u Q I rx ry ⟨i, j, rfl, rfl, hj, post_here q hs (.int _)⟩
      · exact q.elim
    | _ => exact q.elim
  | _ => exact q.elim
def intW (g : Int → Int → Int) : W2 := fun a b st => match a, b with
  | .int i, .int j => some (.int (g i j), st)
  | _, _ => none
theorem ow_intW {f : Value → Value → Sem Value} {g : Int → Int → Int} (h : OpR X f (rI0 fun i j => .int (g i j))) : OpW B X f (intW g) := by
  refine ⟨fun pins s σ H x y v u Q ρ st a b I rx ry hs ra rb q => ?_⟩
  cases ra with
  | int i =>
    cases rb with
    | int j => exact h pins s σ H _ _ v u Q I rx ry ⟨i, j, rfl, rfl, post_here q hs (.int _)⟩
    | _ => exact q.elim
  | _ => exact q.elim
theorem ow_and (hK : X.K = B.K) : OpW B X (binaryOp .BitAnd) (intW Builtin.bitAnd) := ow_intW op_and
theorem ow_or (hK : X.K = B.K) : OpW B X (binaryOp .BitOr) (intW Builtin.bitOr) := ow_intW op_or
theorem ow_xor (hK : X.K = B.K) : OpW B X (binaryOp .BitXor) (intW Builtin.bitXor) := ow_intW op_xor
def mulW : W2 := fun a b st => match a, b with
  | .int i, .int j => if i.natAbs.log2 + j.natAbs.log2 < 1000000 then some (.int (i * j), st) else none
  | .ref n, .int k => match lstAt (.ref n) st with
    | some x => if -(2 ^ 63) ≤ k ∧ k < 2 ^ 63 ∧ x.length * k.toNat ≤ slBound then some (.ref st.length, st ++ [.lst (List.replicate k.toNat x).flatten]) else none
    | none => none
  | .tup x, .int k => if x ≠ [] ∧ 2 ≤ k ∧ k ≤ 1000 ∧ x.length ≤ 1000 then some (.tup (List.replicate k.toNat x).flatten, st) else none
  | _, _ => none
theorem RWs.rep {ρ : List Addr} {H : Hp} {vs : List V} {ws : List W} (h : RWs B ρ H vs ws) : ∀ k : Nat, RWs B ρ H (List.replicate k vs).flatten (List.replicate k ws).flatten
  | 0 => by simpa using .nil
  | k + 1 => by simpa [List.replicate_succ] using h.app (RWs.rep h k)
theorem ow_mul (hK : X.K = B.K) : OpW B X (binaryOp .Mult) mulW := by
  refine ⟨fun pins s σ H x y v u Q ρ st a b I rx ry hs ra rb q => ?_⟩
  cases ra with
  | int i =>
    cases rb with
    | int j =>
      simp only [mulW] at q
      split at q
      · rename_i hj
        exact op_mulW pins s σ H _ _ v u Q I rx ry ⟨i, j, rfl, rfl, hj, post_here q hs (.int _)⟩
      · exact q.elim
    | _ => exact q.elim
  | ref e =>
    cases rb with
    | int j =>
      simp only [mulW] at q
      split at q
      · rename_i x1 g1
        split at q
        · rename_i hz
          obtain ⟨_, _, vs, ew, ev, e1, _, h1, r1⟩ := lstAt_r hs (.ref e) g1
          cases ew; cases ev
          refine op_rep pins s σ H _ _ v u Q I rx ry ⟨_, _, _, rfl, rfl, h1, hz.1, hz.2.1, by rw [r1.length]; exact slb hz.2.2, ?_⟩
          exact end_lst q hs (r1.rep _)
        · exact q.elim
      · exact q.elim
    | _ => exact q.elim
  | tup h1 h2 =>
    cases rb with
    | int j =>
      simp only [mulW] at q
      split at q
      · rename_i hz
        have l := h2.length
        refine op_repT pins s σ H _ _ v u Q I rx ry ⟨_, _, _, rfl, rfl, by rw [hK]; exact h1.seq, fun e => ?_, hz.2.1, hz.2.2.1, by rw [l]; exact hz.2.2.2, ?_⟩
        · subst e
          cases h2
          exact hz.1 rfl
        · exact end_tup q hs (h2.rep _)
      · exact q.elim
    | _ => exact q.elim
  | _ => exact q.elim

/-! ### comparisons -/
mutual
def toD (f : Nat → Option PyData) : W → Option PyData
  | .non => some .none
  | .bl b => some (.bool b)
  | .int i => some (.int i)
  | .str s => some (.str s)
  | .tup ws => (toDs f ws).map .tuple
  | .klst ws => (toDs f ws).map .list
  | .ref n => f n
  | .exc _ _ => none
  | .clo _ => none
def toDs (f : Nat → Option PyData) : List W → Option (List PyData)
  | [] => some []
  | w :: ws => match toD f w, toDs f ws with
    | some d, some ds => some (d :: ds)
    | _, _ => none
end
def refD (st : Store) : Nat → Nat → Option PyData
  | 0, _ => none
  | k + 1, n => match st[n]? with
    | some (.lst ws) => (toDs (refD st k) ws).map .list
    | _ => none
def datum (st : Store) (w : W) : Option PyData := toD (refD st 20) w
section
variable {ρ : List Addr} {H : Hp} {st : Store}
mutual
theorem toD_dp {f : Nat → Option PyData} (hs : StR B ρ H st) (hf : ∀ (n : Nat) (a : Addr) (d : PyData), ρ[n]? = some a → f n = some d → Dp B.K H (.ref a) d) : ∀ {w : W} {v : V} {d : PyData}, RW B ρ H v w → toD f w = some d → Dp B.K H v d
  | .non, _, _, .non, e => by simp only [toD] at e; cases e; exact .non
  | .bl b, _, _, .bl _, e => by simp only [toD] at e; cases e; exact .bl b
  | .int i, _, _, .int _, e => by simp only [toD] at e; cases e; exact .int i
  | .str s, _, _, .str _, e => by simp only [toD] at e; cases e; exact .str s
  | .tup ws, _, _, .tup h1 h2, e => by
    simp only [toD, Option.map_eq_some_iff] at e
    obtain ⟨ds, e1, rfl⟩ := e
    exact .tup h1.seq (toDs_dp hs hf h2 e1)
  | .klst ws, _, _, .klst h1 h2, e => by
    simp only [toD, Option.map_eq_some_iff] at e
    obtain ⟨ds, e1, rfl⟩ := e
    exact .lst h1.seq (toDs_dp hs hf h2 e1)
  | .ref n, _, _, .ref h, e => by simp only [toD] at e; exact hf _ _ _ h e
  | .exc _ _, _, _, _, e => by simp only [toD] at e; cases e
  | .clo _, _, _, _, e => by simp only [toD] at e; cases e
theorem toDs_dp {f : Nat → Option PyData} (hs : StR B ρ H st) (hf : ∀ (n : Nat) (a : Addr) (d : PyData), ρ[n]? = some a → f n = some d → Dp B.K H (.ref a) d) : ∀ {ws : List W} {vs : List V} {ds : List PyData}, RWs B ρ H vs ws → toDs f ws = some ds → DpAll B.K H vs ds
  | [], _, _, .nil, e => by simp only [toDs] at e; cases e; exact .nil
  | w :: ws, _, _, .cons h1 h2, e => by
    simp only [toDs] at e
    split at e
    · rename_i d ds e1 e2
      cases e
      exact .cons (toD_dp hs hf h1 e1) (toDs_dp hs hf h2 e2)
    · cases e
end
theorem refD_dp (hs : StR B ρ H st) : ∀ (k n : Nat) (a : Addr) (d : PyData), ρ[n]? = some a → refD st k n = some d → Dp B.K H (.ref a) d
  | 0, _, _, _, _, e => by simp only [refD] at e; cases e
  | k + 1, n, a, d, h, e => by
    simp only [refD] at e
    split at e
    · rename_i ws es
      simp only [Option.map_eq_some_iff] at e
      obtain ⟨ds, e1, rfl⟩ := e
      obtain ⟨vs, h1, h2⟩ := hs.at_ n a _ h es
      exact .lst (SqL.of h1) (toDs_dp hs (refD_dp hs k) h2 e1)
    · cases e
theorem datum_dp (hs : StR B ρ H st) {w : W} {v : V} {d : PyData} (r : RW B ρ H v w) (e : datum st w = some d) : Dp B.K H v d := toD_dp hs (refD_dp hs 20) r e
end
/-- a == b, a != b -/
def eqD (neg : Bool) : W2 := fun a b st => match datum st a, datum st b with
  | some d, some e => if SeqAt.shaped d = true ∧ SeqAt.shaped e = true then some (.bl (PyData.eqv d e != neg), st) else none
  | _, _ => none
/-- .. texts of any signs too -/
def strs2 (a b : W) : Option (Str × Str) := match a, b with
  | .str x, .str y => some (x, y)
  | _, _ => none
theorem strs2_eq {a b : W} {x y : Str} (h : strs2 a b = some (x, y)) : a = .str x ∧ b = .str y := by
  unfold strs2 at h
  split at h
  · cases h; exact ⟨rfl, rfl⟩
  · cases h
/-- lists of other lengths are never equal, whatever they hold -/
def lens2 (a b : W) (st : Store) : Bool := match lstOf a st, lstOf b st with
  | some xs, some ys => xs.length != ys.length
  | _, _ => false
def eqW (neg : Bool) : W2 := fun a b st => match strs2 a b with
  | some (x, y) => some (.bl ((x == y) != neg), st)
  | none => match eqD neg a b st with
    | some r => some r
    | none => if lens2 a b st = true then some (.bl neg, st) else none
theorem eqW_D {neg : Bool} {a b : W} {st : Store} {r : W × Store} (h : strs2 a b = none) (h2 : eqD neg a b st = some r) : eqW neg a b st = some r := by
  simp only [eqW, h, h2]
theorem toDs_length {f : Nat → Option PyData} : ∀ {ws : List W} {ds : List PyData}, toDs f ws = some ds → ds.length = ws.length
  | [], _, e => by simp only [toDs] at e; cases e; rfl
  | w :: ws, _, e => by
    simp only [toDs] at e
    split at e
    · rename_i d ds e1 e2
      cases e
      simp [toDs_length e2]
    · cases e
/-- a list held against the empty one -/
theorem eqW_nil {neg : Bool} {n m : Nat} {ws : List W} {st : Store} (hn : st[n]? = some (.lst ws)) (hm : st[m]? = some (.lst [])) : eqW neg (.ref n) (.ref m) st = some (.bl (ws.isEmpty != neg), st) := by
  have em : datum st (.ref m) = some (.list []) := by simp [datum, toD, refD, hm, toDs]
  have es : strs2 (.ref n) (.ref m) = none := rfl
  have ed : eqD neg (.ref n) (.ref m) st = some (.bl (ws.isEmpty != neg), st) ∨ (eqD neg (.ref n) (.ref m) st = none ∧ ws ≠ []) := by
    simp only [eqD, em]
    cases en : datum st (.ref n) with
    | none =>
      refine .inr ⟨rfl, fun e => ?_⟩
      subst e
      simp [datum, toD, refD, hn, toDs] at en
    | some d =>
      have hd : ∃ ds, d = .list ds ∧ ds.length = ws.length := by
        simp only [datum, toD, refD, hn, Option.map_eq_some_iff] at en
        obtain ⟨ds, e1, e2⟩ := en
        exact ⟨ds, e2.symm, toDs_length e1⟩
      obtain ⟨ds, rfl, hl⟩ := hd
      by_cases hz : SeqAt.shaped (.list ds) = true ∧ SeqAt.shaped (.list []) = true
      · simp only [hz, and_self, if_true]
        refine .inl ?_
        cases ws with
        | nil =>
          cases ds with
          | nil => rfl
          | cons _ _ => cases hl
        | cons _ _ =>
          cases ds with
          | nil => cases hl
          | cons _ _ => rfl
      · simp only [hz, if_false]
        refine .inr ⟨trivial, fun e => ?_⟩
        subst e
        cases ds with
        | nil => exact hz ⟨by decide, by decide⟩
        | cons _ _ => cases hl
  rcases ed with ed | ⟨ed, hw⟩
  · exact eqW_D es ed
  · simp only [eqW, es, ed]
    have : lens2 (.ref n) (.ref m) st = true := by
      simp [lens2, lstOf, hn, hm, hw]
    rw [if_pos this]
    cases ws with
    | nil => exact absurd rfl hw
    | cons _ _ => simp
theorem lens2_r {B : Bk} {X : Cx} {pins : List (Addr × Obj)} {σ : St} {ρ : List Addr} {H : Hp} {st : Store} {s : Shared} {a b : W} {x y : V} {v u : Value} (hK : X.K = B.K) (I : Inv X pins σ H s) (hs : StR B ρ H st) (ra : RW B ρ H x a) (rb : RW B ρ H y b) (rx : RelV x v) (ry : RelV y u) (h : lens2 a b st = true) :
    ∃ p q is js, v = .ref p ∧ u = .ref q ∧ s.heap.IsList p is ∧ s.heap.IsList q js ∧ (is.size != js.size) = true := by
  unfold lens2 at h
  split at h
  · rename_i xs ys e1 e2
    obtain ⟨p, vs, rfl, h1, h2⟩ := lstOf_r hs ra e1
    obtain ⟨q, us, rfl, h3, h4⟩ := lstOf_r hs rb e2
    cases rx
    cases ry
    rw [← hK] at h1 h3
    obtain ⟨is, r1, p1, _⟩ := I.list h1
    obtain ⟨js, r2, p2, _⟩ := I.list h3
    refine ⟨p, q, _, _, rfl, rfl, p1.isList, p2.isList, ?_⟩
    rw [List.size_toArray, List.size_toArray, ← r1.length, ← r2.length, h2.length, h4.length]
    exact h
  · cases h
theorem ow_eq {k : Nat} (hK : X.K = B.K) (hc : X.calm = true) (hr : Room k X.A) : OpW B X (compareOp .Eq) (eqW false) := by
  refine ⟨fun pins s σ H x y v u Q ρ st a b I rx ry hs ra rb q => ?_⟩
  simp only [eqW] at q
  split at q
  · rename_i i j e
    obtain ⟨rfl, rfl⟩ := strs2_eq e
    cases ra
    cases rb
    refine op_eq pins s σ H _ _ v u Q I rx ry ⟨rfl, ?_⟩
    rw [dec_str]
    have z := post_here q hs (.bl _)
    rwa [Bool.bne_false] at z
  split at q
  · rename_i r er
    simp only [eqD] at er
    split at er
    · rename_i d e e1 e2
      split at er
      · rename_i hz
        cases er
        refine op_eqD hr.units pins s σ H x y v u Q I rx ry ⟨d, e, by rw [hK]; exact datum_dp hs ra e1, by rw [hK]; exact datum_dp hs rb e2, hz.1, hz.2, ?_⟩
        have z := post_here q hs (.bl _)
        rwa [Bool.bne_false] at z
      · cases er
    · cases er
  split at q
  · rename_i hl
    obtain ⟨p, o, is, js, rfl, rfl, q1, q2, q3⟩ := lens2_r hK I hs ra rb rx ry hl
    exact SeqAt.RcAt.lists_lengths q1 q2 q3 (by have := hr.units; omega) X.prog X.w _ _ ⟨.bl false, H, I, rfl, post_here q hs (.bl _)⟩
  · exact q.elim
theorem ow_ne {k : Nat} (hK : X.K = B.K) (hc : X.calm = true) (hr : Room k X.A) : OpW B X (compareOp .NotEq) (eqW true) := by
  refine ⟨fun pins s σ H x y v u Q ρ st a b I rx ry hs ra rb q => ?_⟩
  simp only [eqW] at q
  split at q
  · rename_i i j e
    obtain ⟨rfl, rfl⟩ := strs2_eq e
    cases ra
    cases rb
    refine op_ne pins s σ H _ _ v u Q I rx ry ⟨rfl, ?_⟩
    rw [dec_str]
    have z := post_here q hs (.bl _)
    rwa [Bool.bne_true] at z
  split at q
  · rename_i r er
    simp only [eqD] at er
    split at er
    · rename_i d e e1 e2
      split at er
      · rename_i hz
        cases er
        refine op_neD hr.units pins s σ H x y v u Q I rx ry ⟨d, e, by rw [hK]; exact datum_dp hs ra e1, by rw [hK]; exact datum_dp hs rb e2, hz.1, hz.2, ?_⟩
        have z := post_here q hs (.bl _)
        rwa [Bool.bne_true] at z
      · cases er
    · cases er
  split at q
  · rename_i hl
    obtain ⟨p, o, is, js, rfl, rfl, q1, q2, q3⟩ := lens2_r hK I hs ra rb rx ry hl
    exact SeqAt.RcNeAt.lists_lengths q1 q2 q3 (by have := hr.units; omega) X.prog X.w _ _ ⟨.bl true, H, I, rfl, post_here q hs (.bl _)⟩
  · exact q.elim
/-- orders of ints and texts -/
def ordW (f : Int → Int → Bool) (g : List Nat → List Nat → Bool) : W2 := fun a b st => match a, b with
  | .int i, .int j => some (.bl (f i j), st)
  | .str x, .str y => some (.bl (g x.cps.toList y.cps.toList), st)
  | _, _ => none
theorem ow_ord {op : CmpOp} {f : Int → Int → Bool} {g : List Nat → List Nat → Bool} (h1 : OpR X (compareOp op) (rI0 fun i j => .bl (f i j)))
    (h2 : OpR X (compareOp op) (fun x y H Q => ∃ i j, x = .str i ∧ y = .str j ∧ Q (.bl (g i.cps.toList j.cps.toList)) H)) : OpW B X (compareOp op) (ordW f g) := by
  refine ⟨fun pins s σ H x y v u Q ρ st a b I rx ry hs ra rb q => ?_⟩
  cases ra with
  | int i =>
    cases rb with
    | int j => exact h1 pins s σ H _ _ v u Q I rx ry ⟨i, j, rfl, rfl, post_here q hs (.bl _)⟩
    | _ => exact q.elim
  | str i =>
    cases rb with
    | str j => exact h2 pins s σ H _ _ v u Q I rx ry ⟨i, j, rfl, rfl, post_here q hs (.bl _)⟩
    | _ => exact q.elim
  | _ => exact q.elim
abbrev ltW : W2 := ordW (fun i j => decide (i < j)) (fun i j => decide (i < j))
abbrev leW : W2 := ordW (fun i j => decide (i ≤ j)) (fun i j => !decide (j < i))
abbrev gtW : W2 := ordW (fun i j => decide (j < i)) (fun i j => decide (j < i))
abbrev geW : W2 := ordW (fun i j => decide (j ≤ i)) (fun i j => !decide (i < j))
theorem ow_lt {k : Nat} (hK : X.K = B.K) (hc : X.calm = true) (hr : Room k X.A) : OpW B X (compareOp .Lt) ltW := ow_ord op_lt op_lt_str
theorem ow_le {k : Nat} (hK : X.K = B.K) (hc : X.calm = true) (hr : Room k X.A) : OpW B X (compareOp .LtE) leW := ow_ord op_le op_le_str
theorem ow_gt {k : Nat} (hK : X.K = B.K) (hc : X.calm = true) (hr : Room k X.A) : OpW B X (compareOp .Gt) gtW := ow_ord op_gt op_gt_str
theorem ow_ge {k : Nat} (hK : X.K = B.K) (hc : X.calm = true) (hr : Room k X.A) : OpW B X (compareOp .GtE) geW := ow_ord op_ge op_ge_str
/-- is None -/
def isNonB : W → Bool
  | .non => true
  | _ => false
def isNW (neg : Bool) : W2 := fun a b st => match b with
  | .non => some (.bl (isNonB a != neg), st)
  | _ => none
theorem isNonB_r {ρ : List Addr} {H : Hp} {v : V} {w : W} (r : RW B ρ H v w) : decide (v = .non) = isNonB w := by
  cases r <;> simp [isNonB]
theorem ow_is {k : Nat} (hK : X.K = B.K) (hc : X.calm = true) (hr : Room k X.A) : OpW B X (compareOp .Is) (isNW false) := by
  refine ⟨fun pins s σ H x y v u Q ρ st a b I rx ry hs ra rb q => ?_⟩
  cases rb with
  | non =>
    refine op_isN pins s σ H _ _ v u Q I rx ry ⟨rfl, ?_⟩
    rw [isNonB_r ra]
    have z := post_here q hs (.bl _)
    rwa [Bool.bne_false] at z
  | _ => exact q.elim
theorem ow_isNot {k : Nat} (hK : X.K = B.K) (hc : X.calm = true) (hr : Room k X.A) : OpW B X (compareOp .IsNot) (isNW true) := by
  refine ⟨fun pins s σ H x y v u Q ρ st a b I rx ry hs ra rb q => ?_⟩
  cases rb with
  | non =>
    refine op_notN pins s σ H _ _ v u Q I rx ry ⟨rfl, ?_⟩
    rw [isNonB_r ra]
    have z := post_here q hs (.bl _)
    rwa [Bool.bne_true] at z
  | _ => exact q.elim
/-- x in xs: flat items of a list or a tuple; a text in a text -/
def flatW : W → Bool
  | .non => true
  | .bl _ => true
  | .int _ => true
  | .str _ => true
  | _ => false
def eqF : W → W → Bool
  | .non, .non => true
  | .bl a, .bl b => a == b
  | .bl a, .int b => (if a then 1 else 0) == b
  | .int a, .bl b => a == (if b then 1 else 0)
  | .int a, .int b => a == b
  | .str a, .str b => a == b
  | _, _ => false
/-- .. of data of any kind -/
def inD (neg : Bool) : W2 := fun a b st => match datum st a, datum st b with
  | some d, some (.list ds) => if SeqAt.shaped d = true ∧ SeqAt.shaped (.list ds) = true then some (.bl ((ds.any fun z => PyData.eqv z d) != neg), st) else none
  | some d, some (.tuple ds) => if SeqAt.shaped d = true ∧ SeqAt.shaped (.tuple ds) = true then some (.bl ((ds.any fun z => PyData.eqv z d) != neg), st) else none
  | _, _ => none
theorem in_room {k : Nat} {A : Around} {d : PyData} {ds : List PyData} (hr : Room k A) (h : PyData.depthAll ds + 1 ≤ 64) : A.units + 1 + min (PyData.depthAll ds) d.depth < cLine := by
  have := hr.units
  have : min (PyData.depthAll ds) d.depth ≤ PyData.depthAll ds := Nat.min_le_left _ _
  omega
theorem ow_inD {k : Nat} {neg : Bool} (hK : X.K = B.K) (hr : Room k X.A) {op : CmpOp} (hop : ∀ {c x : Value} {xs : List PyData} {d : PyData} {as bs : List Addr} {Q : Value → Shared → Prop} {s : Shared}, (Reads s.heap c (.list xs) as ∨ Reads s.heap c (.tuple xs) as) → Reads s.heap x d bs → PyData.canLayAll0 xs = true → d.canLay0 = true → X.A.units + 1 + min (PyData.depthAll xs) d.depth < cLine → Q (.bool ((xs.any fun y => PyData.eqv y d) != neg)) s → wpAny (model X.prog X.w) X.A (compareOp op x c) Q X.xe s) : OpW B X (compareOp op) (inD neg) := by
  refine ⟨fun pins s σ H x y v u Q ρ st a b I rx ry hs ra rb q => ?_⟩
  simp only [inD] at q
  split at q
  · rename_i d ds e1 e2
    split at q
    · rename_i hz
      obtain ⟨as, r1⟩ := Dp.reads I d _ v (by rw [hK]; exact datum_dp hs ra e1) rx
      obtain ⟨bs, r2⟩ := Dp.reads I (.list ds) _ u (by rw [hK]; exact datum_dp hs rb e2) ry
      have hd := SeqAt.depth_of_shaped hz.2
      exact hop (.inl r2) r1 (SeqAt.canLay_of_shaped hz.2) (SeqAt.canLay_of_shaped hz.1) (in_room hr (by simp only [PyData.depth] at hd; omega)) ⟨.bl _, H, I, rfl, post_here q hs (.bl _)⟩
    · exact q.elim
  · rename_i d ds e1 e2
    split at q
    · rename_i hz
      obtain ⟨as, r1⟩ := Dp.reads I d _ v (by rw [hK]; exact datum_dp hs ra e1) rx
      obtain ⟨bs, r2⟩ := Dp.reads I (.tuple ds) _ u (by rw [hK]; exact datum_dp hs rb e2) ry
      have hd := SeqAt.depth_of_shaped hz.2
      exact hop (.inr r2) r1 (SeqAt.canLay_of_shaped hz.2) (SeqAt.canLay_of_shaped hz.1) (in_room hr (by simp only [PyData.depth] at hd; omega)) ⟨.bl _, H, I, rfl, post_here q hs (.bl _)⟩
    · exact q.elim
  · exact q.elim
def inW (neg : Bool) : W2 := fun a b st => match seqOf b st with
  | some ws => if flatW a = true ∧ ws.all flatW = true then some (.bl ((ws.any fun y => eqF y a) != neg), st) else inD neg a b st
  | none => match a, b with
    | .str x, .str y => some (.bl ((!(Builtin.Str.occurrences y x 0 y.length 1).isEmpty) != neg), st)
    | _, _ => none
theorem flatW_r {ρ : List Addr} {H : Hp} {v : V} {w : W} (r : RW B ρ H v w) : flatV v = flatW w := by cases r <;> rfl
theorem eqF_r {ρ : List Addr} {H : Hp} {v u : V} {w x : W} (r : RW B ρ H v w) (q : RW B ρ H u x) : eqV v u = eqF w x := by cases r <;> cases q <;> rfl
theorem flats_r {ρ : List Addr} {H : Hp} : ∀ {vs : List V} {ws : List W}, RWs B ρ H vs ws → vs.all flatV = ws.all flatW
  | _, _, .nil => rfl
  | _, _, .cons a b => by simp only [List.all_cons]; rw [flatW_r a, flats_r b]
theorem anys_r {ρ : List Addr} {H : Hp} {v : V} {w : W} (r : RW B ρ H v w) : ∀ {vs : List V} {ws : List W}, RWs B ρ H vs ws → (vs.any fun y => eqV y v) = ws.any fun y => eqF y w
  | _, _, .nil => rfl
  | _, _, .cons a b => by simp only [List.any_cons]; rw [eqF_r a r, anys_r r b]
theorem ow_in {k : Nat} (hK : X.K = B.K) (hc : X.calm = true) (hr : Room k X.A) : OpW B X (compareOp .In) (inW false) := by
  refine ⟨fun pins s σ H x y v u Q ρ st a b I rx ry hs ra rb q => ?_⟩
  simp only [inW] at q
  split at q
  · rename_i ws e
    split at q
    · rename_i hz
      obtain ⟨p, vs, rfl, h1, h2⟩ := seqOf_r hs rb e
      refine op_in_seq pins s σ H _ _ v u Q I rx ry ⟨p, vs, rfl, by rw [hK]; exact h1, by rw [flatW_r ra]; exact hz.1, by rw [flats_r h2]; exact hz.2, ?_⟩
      have z := post_here q hs (.bl _)
      rw [Bool.bne_false] at z
      show Q (.bl (vs.any fun y => eqV y x)) H
      rw [anys_r ra h2]
      exact z
    · exact (ow_inD (neg := false) hK hr fun h1 h2 h3 h4 h5 h6 => by
        rw [Bool.bne_false] at h6
        rcases h1 with h1 | h1
        · exact SeqAt.in_list_reads h1 h2 h3 h4 h5 h6
        · exact SeqAt.in_tuple_reads h1 h2 h3 h4 h5 h6).run pins s σ H x y v u Q ρ st a b I rx ry hs ra rb q
  · cases ra with
    | str i =>
      cases rb with
      | str j =>
        have z := post_here q hs (.bl _)
        rw [Bool.bne_false] at z
        exact op_in_str pins s σ H _ _ v u Q I rx ry ⟨i, j, rfl, rfl, z⟩
      | _ => exact q.elim
    | _ => exact q.elim
theorem ow_notIn {k : Nat} (hK : X.K = B.K) (hc : X.calm = true) (hr : Room k X.A) : OpW B X (compareOp .NotIn) (inW true) := by
  refine ⟨fun pins s σ H x y v u Q ρ st a b I rx ry hs ra rb q => ?_⟩
  simp only [inW] at q
  split at q
  · rename_i ws e
    split at q
    · rename_i hz
      obtain ⟨p, vs, rfl, h1, h2⟩ := seqOf_r hs rb e
      refine op_notIn_seq pins s σ H _ _ v u Q I rx ry ⟨p, vs, rfl, by rw [hK]; exact h1, by rw [flatW_r ra]; exact hz.1, by rw [flats_r h2]; exact hz.2, ?_⟩
      have z := post_here q hs (.bl _)
      rw [Bool.bne_true] at z
      show Q (.bl (!(vs.any fun y => eqV y x))) H
      rw [anys_r ra h2]
      exact z
    · exact (ow_inD (neg := true) hK hr fun h1 h2 h3 h4 h5 h6 => by
        rw [Bool.bne_true] at h6
        rcases h1 with h1 | h1
        · exact SeqAt.notIn_list_reads h1 h2 h3 h4 h5 h6
        · exact SeqAt.notIn_tuple_reads h1 h2 h3 h4 h5 h6).run pins s σ H x y v u Q ρ st a b I rx ry hs ra rb q
  · cases ra with
    | str i =>
      cases rb with
      | str j =>
        have z := post_here q hs (.bl _)
        rw [Bool.bne_true] at z
        exact op_notIn_str pins s σ H _ _ v u Q I rx ry ⟨i, j, rfl, rfl, z⟩
      | _ => exact q.elim
    | _ => exact q.elim
end
end Zf
namespace Zf
open PySem L2
open PyProof.Rows hiding St

section
variable {G : Glb} {B : Bk} {k : Nat} {N : List Str} {sc : Scope}

/-! ### truth -/
def truW (w : W) (st : Store) : Option Bool := match w with
  | .non => some false
  | .bl b => some b
  | .int i => some (i != 0)
  | .str s => if s.length ≤ slBound then some ((s.length : Int) != 0) else none
  | .tup ws => some (!ws.isEmpty)
  | .klst ws => some (!ws.isEmpty)
  | .ref n => match st[n]? with
    | some (.lst ws) => some (!ws.isEmpty)
    | some (.dct kvs) => some (!kvs.isEmpty)
    | _ => none
  | _ => none
theorem RKv.isEmpty {ρ : List Addr} {H : Hp} {κ : Type} {vs : List (κ × V)} {ws : List (κ × W)} (h : RKv B ρ H vs ws) : vs.isEmpty = ws.isEmpty := by cases h <;> rfl
theorem truW_r {ρ : List Addr} {H : Hp} {st : Store} {v : V} {w : W} {b : Bool} (hs : StR B ρ H st) (r : RW B ρ H v w) (h : truW w st = some b) : TruV B.K v H b := by
  cases r with
  | non => cases h; rfl
  | bl x => cases h; rfl
  | int x => cases h; rfl
  | str x =>
    simp only [truW] at h
    split at h
    · rename_i hz
      cases h
      exact ⟨slb hz, rfl⟩
    · cases h
  | tup h1 h2 => cases h; exact .inr (.inl ⟨_, h1.seq, by rw [h2.isEmpty]⟩)
  | klst h1 h2 => cases h; exact .inl ⟨_, h1.seq, by rw [h2.isEmpty]⟩
  | ref e =>
    rename_i a n
    simp only [truW] at h
    split at h
    · rename_i ws es
      cases h
      obtain ⟨vs, h1, h2⟩ := hs.at_ n a _ e es
      exact .inl ⟨vs, SqL.of h1, by rw [h2.isEmpty]⟩
    · rename_i kvs es
      cases h
      obtain ⟨vs, h1, h2⟩ := hs.at_ n a _ e es
      exact .inr (.inr ⟨vs, h1, by rw [h2.isEmpty]⟩)
    · cases h
  | exc _ _ _ _ => cases h
  | clo _ => cases h
/-- the truth of a value -/
def truF (a : SE) : ST := fun Φ env st => (a Φ env st).bind fun x st1 => match truW x st1 with
  | some b => .ok b st1
  | none => .bad
theorem sndT_tru {e : Expr} {fa : SE} (he : ∀ (env : PySem.Env) (whole : Sem Value), isTrue e env whole = (do let v ← whole; standAt e.pos; holding [v] (truthy v))) (ha : Snd G B k N sc e fa) : SndT G B k N sc e (truF fa) := by
  refine ⟨fun Φ Wx X g => PT.imp (pt_truth (ha.pe Φ Wx X g) (he _)) fun σ H Q q => ?_⟩
  obtain ⟨ρ, env, st, he, hs, q⟩ := q
  refine tX_imp (tX_bind he hs q) fun v H1 ⟨ρ1, st1, a, a1, a2, he1, hs1, r1, q1⟩ => ?_
  try dsimp only at q1
  split at q1
  · rename_i b eb
    exact ⟨b, by rw [g.K]; exact truW_r hs1 r1 eb, q1 ρ1 H1 b (List.prefix_refl _) (.refl _) hs1 rfl⟩
  · exact q1.elim
/-- a and b, a or b as values -/
def andF (a b : SE) : SE := fun Φ env st => (a Φ env st).bind fun x st1 => match truW x st1 with
  | some true => b Φ env st1
  | some false => .ok x st1
  | none => .bad
def orF (a b : SE) : SE := fun Φ env st => (a Φ env st).bind fun x st1 => match truW x st1 with
  | some true => .ok x st1
  | some false => b Φ env st1
  | none => .bad
def notF (a : SE) : SE := fun Φ env st => (a Φ env st).bind fun x st1 => match truW x st1 with
  | some b => .ok (.bl (!b)) st1
  | none => .bad
theorem snd_and {a b : Expr} {rest : List Expr} {pos : Pos} {fa fb : SE} (ha : Snd G B k N sc a fa) (hb : Snd G B k N sc (.BoolOp .And (b :: rest) pos) fb) : Snd G B k N sc (.BoolOp .And (a :: b :: rest) pos) (andF fa fb) := by
  refine ⟨fun Φ Wx X g => PE.imp (pe_andT (ha.pe Φ Wx X g) (hb.pe Φ Wx X g)) fun σ H Q q => ?_⟩
  obtain ⟨ρ, env, st, he, hs, q⟩ := q
  refine tX_imp (tX_bind he hs q) fun v H1 ⟨ρ1, st1, a, a1, a2, he1, hs1, r1, q1⟩ => ?_
  try dsimp only at q1
  split at q1
  · rename_i eb
    exact ⟨true, by rw [g.K]; exact truW_r hs1 r1 eb, by rw [if_pos rfl]; exact ⟨ρ1, env, st1, he1, hs1, q1⟩⟩
  · rename_i eb
    exact ⟨false, by rw [g.K]; exact truW_r hs1 r1 eb, by rw [if_neg Bool.false_ne_true]; exact post_here q1 hs1 r1⟩
  · exact q1.elim
theorem snd_or {a b : Expr} {rest : List Expr} {pos : Pos} {fa fb : SE} (ha : Snd G B k N sc a fa) (hb : Snd G B k N sc (.BoolOp .Or (b :: rest) pos) fb) : Snd G B k N sc (.BoolOp .Or (a :: b :: rest) pos) (orF fa fb) := by
  refine ⟨fun Φ Wx X g => PE.imp (pe_orT (ha.pe Φ Wx X g) (hb.pe Φ Wx X g)) fun σ H Q q => ?_⟩
  obtain ⟨ρ, env, st, he, hs, q⟩ := q
  refine tX_imp (tX_bind he hs q) fun v H1 ⟨ρ1, st1, a, a1, a2, he1, hs1, r1, q1⟩ => ?_
  try dsimp only at q1
  split at q1
  · rename_i eb
    exact ⟨true, by rw [g.K]; exact truW_r hs1 r1 eb, by rw [if_pos rfl]; exact post_here q1 hs1 r1⟩
  · rename_i eb
    exact ⟨false, by rw [g.K]; exact truW_r hs1 r1 eb, by rw [if_neg Bool.false_ne_true]; exact ⟨ρ1, env, st1, he1, hs1, q1⟩⟩
  · exact q1.elim
theorem snd_one {op : BoolOp} {a : Expr} {pos : Pos} {fa : SE} (ha : Snd G B k N sc a fa) : Snd G B k N sc (.BoolOp op [a] pos) fa :=
  ⟨fun Φ Wx X g => pe_one (ha.pe Φ Wx X g)⟩
theorem snd_not {a : Expr} {pos : Pos} {fa : SE} (ha : Snd G B k N sc a fa) : Snd G B k N sc (.UnaryOp .Not a pos) (notF fa) := by
  refine ⟨fun Φ Wx X g => PE.imp (pe_notT (ha.pe Φ Wx X g)) fun σ H Q q => ?_⟩
  obtain ⟨ρ, env, st, he, hs, q⟩ := q
  refine tX_imp (tX_bind he hs q) fun v H1 ⟨ρ1, st1, a, a1, a2, he1, hs1, r1, q1⟩ => ?_
  try dsimp only at q1
  split at q1
  · rename_i b eb
    exact ⟨b, by rw [g.K]; exact truW_r hs1 r1 eb, post_here q1 hs1 (.bl _)⟩
  · exact q1.elim
/-- .. as tests -/
def andT (a b : ST) : ST := fun Φ env st => (a Φ env st).bind fun x st1 => if x = true then b Φ env st1 else .ok false st1
def orT (a b : ST) : ST := fun Φ env st => (a Φ env st).bind fun x st1 => if x = true then .ok true st1 else b Φ env st1
def notT (a : ST) : ST := fun Φ env st => (a Φ env st).bind fun x st1 => .ok (!x) st1
theorem postB_here {Wx : Value → Option Addr → Hp → Prop} {ρ : List Addr} {H : Hp} {w : Bool} {st : Store} {Q : Bool → Hp → Prop} (h : PostB B Wx ρ H (.ok w st) Q) (hs : StR B ρ H st) : Q w H :=
  h ρ H w (List.prefix_refl _) (.refl _) hs rfl
structure SndW (G : Glb) (B : Bk) (k : Nat) (N : List Str) (sc : Scope) (e : Expr) (F : ST) : Prop where
  pw : ∀ (Φ : Phi) (Wx : WX) (X : Cx), GX G B Φ k N Wx sc X → PW X e (tB B Wx (F Φ))
theorem PW.imp {X : Cx} {e : Expr} {t t' : TT} (h : PW X e t) (hi : ∀ σ H Q, t' σ H Q → t σ H Q) : PW X e t' := ⟨fun w pins s σ H Q I q => h.run w pins s σ H Q I (hi σ H Q q)⟩
theorem SndW.t {e : Expr} {F : ST} (h : SndW G B k N sc e F) : SndT G B k N sc e F := ⟨fun Φ Wx X g => (h.pw Φ Wx X g).pt⟩
theorem sndW_and1 {a : Expr} {pos : Pos} {fa : ST} (ha : SndT G B k N sc a fa) : SndW G B k N sc (.BoolOp .And [a] pos) fa := ⟨fun Φ Wx X g => pw_and1 (ha.pt Φ Wx X g)⟩
theorem sndW_or1 {a : Expr} {pos : Pos} {fa : ST} (ha : SndT G B k N sc a fa) : SndW G B k N sc (.BoolOp .Or [a] pos) fa := ⟨fun Φ Wx X g => pw_or1 (ha.pt Φ Wx X g)⟩
theorem sndW_and {a b : Expr} {rest : List Expr} {pos : Pos} {fa fb : ST} (ha : SndT G B k N sc a fa) (hb : SndW G B k N sc (.BoolOp .And (b :: rest) pos) fb) : SndW G B k N sc (.BoolOp .And (a :: b :: rest) pos) (andT fa fb) := by
  refine ⟨fun Φ Wx X g => PW.imp (pw_and (ha.pt Φ Wx X g) (hb.pw Φ Wx X g)) fun σ H Q q => ?_⟩
  obtain ⟨ρ, env, st, he, hs, q⟩ := q
  refine tX_imp (tX_bind he hs q) fun v H1 ⟨ρ1, st1, a, a1, a2, he1, hs1, r1, q1⟩ => ?_
  have r1 : v = a := r1
  subst r1
  cases v with
  | true => rw [if_pos rfl] at q1 ⊢; exact ⟨ρ1, env, st1, he1, hs1, q1⟩
  | false => rw [if_neg Bool.false_ne_true] at q1 ⊢; exact postB_here q1 hs1
theorem sndW_or {a b : Expr} {rest : List Expr} {pos : Pos} {fa fb : ST} (ha : SndT G B k N sc a fa) (hb : SndW G B k N sc (.BoolOp .Or (b :: rest) pos) fb) : SndW G B k N sc (.BoolOp .Or (a :: b :: rest) pos) (orT fa fb) := by
  refine ⟨fun Φ Wx X g => PW.imp (pw_or (ha.pt Φ Wx X g) (hb.pw Φ Wx X g)) fun σ H Q q => ?_⟩
  obtain ⟨ρ, env, st, he, hs, q⟩ := q
  refine tX_imp (tX_bind he hs q) fun v H1 ⟨ρ1, st1, a, a1, a2, he1, hs1, r1, q1⟩ => ?_
  have r1 : v = a := r1
  subst r1
  cases v with
  | true => rw [if_pos rfl] at q1 ⊢; exact postB_here q1 hs1
  | false => rw [if_neg Bool.false_ne_true] at q1 ⊢; exact ⟨ρ1, env, st1, he1, hs1, q1⟩
theorem sndT_not {a : Expr} {pos : Pos} {fa : ST} (ha : SndT G B k N sc a fa) : SndT G B k N sc (.UnaryOp .Not a pos) (notT fa) := by
  refine ⟨fun Φ Wx X g => PT.imp (pt_not (ha.pt Φ Wx X g)) fun σ H Q q => ?_⟩
  obtain ⟨ρ, env, st, he, hs, q⟩ := q
  refine tX_imp (tX_bind he hs q) fun v H1 ⟨ρ1, st1, a, a1, a2, he1, hs1, r1, q1⟩ => ?_
  have r1 : v = a := r1
  subst r1
  exact postB_here q1 hs1
/-- a if t else b -/
def ifF (t : ST) (a b : SE) : SE := fun Φ env st => (t Φ env st).bind fun x st1 => if x = true then a Φ env st1 else b Φ env st1
theorem snd_if {t a b : Expr} {pos : Pos} {ft : ST} {fa fb : SE} (ht : SndT G B k N sc t ft) (ha : Snd G B k N sc a fa) (hb : Snd G B k N sc b fb) : Snd G B k N sc (.IfExp t a b pos) (ifF ft fa fb) := by
  refine ⟨fun Φ Wx X g => PE.imp (pe_ifExp (ht.pt Φ Wx X g) (ha.pe Φ Wx X g) (hb.pe Φ Wx X g)) fun σ H Q q => ?_⟩
  obtain ⟨ρ, env, st, he, hs, q⟩ := q
  refine tX_imp (tX_bind he hs q) fun v H1 ⟨ρ1, st1, a, a1, a2, he1, hs1, r1, q1⟩ => ?_
  have r1 : v = a := r1
  subst r1
  cases v with
  | true => rw [if_pos rfl] at q1 ⊢; exact ⟨ρ1, env, st1, he1, hs1, q1⟩
  | false => rw [if_neg Bool.false_ne_true] at q1 ⊢; exact ⟨ρ1, env, st1, he1, hs1, q1⟩
/-- -a -/
def negW (a : W) : Option W := match a with
  | .int i => some (.int (-i))
  | _ => none
def negF (a : SE) : SE := fun Φ env st => (a Φ env st).bind fun x st1 => liftO (pureO (negW x) st1)
theorem snd_neg {a : Expr} {pos : Pos} {fa : SE} (ha : Snd G B k N sc a fa) : Snd G B k N sc (.UnaryOp .USub a pos) (negF fa) := by
  refine ⟨fun Φ Wx X g => PE.imp (pe_un un_neg (ha.pe Φ Wx X g)) fun σ H Q q => ?_⟩
  obtain ⟨ρ, env, st, he, hs, q⟩ := q
  refine tX_imp (tX_bind he hs q) fun v H1 ⟨ρ1, st1, a, a1, a2, he1, hs1, r1, q1⟩ => ?_
  cases r1 with
  | int i => exact ⟨i, rfl, post_here q1 hs1 (.int _)⟩
  | _ => exact q1.elim

/-! ### arguments, displays -/
def nilL : SL := fun _ _ st => .ok [] st
def consL (a : SE) (b : SL) : SL := fun Φ env st => (a Φ env st).bind fun x st1 => (b Φ env st1).bind fun xs st2 => .ok (x :: xs) st2
theorem sndL_nil : SndL G B k N sc [] nilL := by
  refine ⟨fun Φ Wx X g => PA.imp pa_nil fun σ H Q q => ?_⟩
  obtain ⟨ρ, env, st, he, hs, q⟩ := q
  exact q ρ H [] (List.prefix_refl _) (.refl _) hs .nil
def noStar : Expr → Bool
  | .Starred _ _ => false
  | _ => true
theorem noStar_ok {e : Expr} (h : noStar e = true) (es : List Expr) (env : PySem.Env) : starEach (e :: es) env = (false, eval e env) :: starEach es env := by
  cases e <;> first | rfl | cases h
theorem sndL_cons {a : Expr} {es : List Expr} {fa : SE} {fb : SL} (hn : noStar a = true) (ha : Snd G B k N sc a fa) (hb : SndL G B k N sc es fb) : SndL G B k N sc (a :: es) (consL fa fb) := by
  refine ⟨fun Φ Wx X g => PA.imp (pa_cons (ha.pe Φ Wx X g) (hb.pa Φ Wx X g) (noStar_ok hn _ _)) fun σ H Q q => ?_⟩
  obtain ⟨ρ, env, st, he, hs, q⟩ := q
  refine tX_imp (tX_bind he hs q) fun v H1 ⟨ρ1, st1, a, a1, a2, he1, hs1, r1, q1⟩ => ?_
  refine tX_imp (tX_bind he1 hs1 q1) fun vs H2 ⟨ρ2, st2, as, b1, b2, he2, hs2, r2, q2⟩ => ?_
  exact q2 ρ2 H2 (v :: vs) (List.prefix_refl _) (.refl _) hs2 (.cons (r1.mono b1 b2) r2)
def tupF (a : SL) : SE := fun Φ env st => (a Φ env st).bind fun xs st1 => if xs.length ≤ slBound then .ok (.tup xs) st1 else .bad
def lstF (a : SL) : SE := fun Φ env st => (a Φ env st).bind fun xs st1 => if xs.length ≤ slBound then .ok (.ref st1.length) (st1 ++ [.lst xs]) else .bad
theorem snd_tup {es : List Expr} {j : Nat} {pos : Pos} {fa : SL} (ha : SndL G B k N sc es fa) : Snd G B k N sc (.Tuple es j pos) (tupF fa) := by
  refine ⟨fun Φ Wx X g => PE.imp (pe_tup (ha.pa Φ Wx X g)) fun σ H Q q => ?_⟩
  obtain ⟨ρ, env, st, he, hs, q⟩ := q
  refine tX_imp (tX_bind he hs q) fun v H1 ⟨ρ1, st1, a, a1, a2, he1, hs1, r1, q1⟩ => ?_
  try dsimp only at q1
  split at q1
  · rename_i hz
    exact ⟨by rw [RWs.length r1]; exact slb hz, end_tup q1 hs1 r1⟩
  · exact q1.elim
theorem snd_lst {es : List Expr} {pos : Pos} {fa : SL} (ha : SndL G B k N sc es fa) : Snd G B k N sc (.List es pos) (lstF fa) := by
  refine ⟨fun Φ Wx X g => PE.imp (pe_lst (ha.pa Φ Wx X g)) fun σ H Q q => ?_⟩
  obtain ⟨ρ, env, st, he, hs, q⟩ := q
  refine tX_imp (tX_bind he hs q) fun v H1 ⟨ρ1, st1, a, a1, a2, he1, hs1, r1, q1⟩ => ?_
  try dsimp only at q1
  split at q1
  · rename_i hz
    exact ⟨by rw [RWs.length r1]; exact slb hz, end_lst q1 hs1 r1⟩
  · exact q1.elim

/-! ### subscripts -/
/-- a key of a dict -/
def keyW : W → Option Key
  | .int i => some (.inl i)
  | .str s => some (.inr s)
  | _ => none
theorem keyW_r {ρ : List Addr} {H : Hp} {v : V} {w : W} {key : Key} (r : RW B ρ H v w) (h : keyW w = some key) : v = kV key := by
  cases r <;> first | (cases h; rfl) | cases h
def keysW : List W → Option (List Key)
  | [] => some []
  | w :: ws => match keyW w, keysW ws with
    | some k, some ks => some (k :: ks)
    | _, _ => none
theorem keysW_r {ρ : List Addr} {H : Hp} : ∀ {vs : List V} {ws : List W} {ks : List Key}, RWs B ρ H vs ws → keysW ws = some ks → vs = ks.map kV
  | _, _, _, .nil, e => by cases e; rfl
  | _, _, _, .cons a b, e => by
    simp only [keysW] at e
    split at e
    · rename_i k ks e1 e2
      cases e
      rw [keyW_r a e1, keysW_r b e2]; rfl
    · cases e
section
variable {κ : Type} [DecidableEq κ]
def valW (kvs : List (κ × W)) (k : κ) : Option W := (kvs.find? fun kv => decide (kv.1 = k)).map (·.2)
def putW (kvs : List (κ × W)) (k : κ) (v : W) : List (κ × W) :=
  if (kvs.any fun kv => decide (kv.1 = k)) = true then kvs.map (fun kv => if kv.1 = k then (kv.1, v) else kv) else kvs ++ [(k, v)]
def dropW (kvs : List (κ × W)) (k : κ) : List (κ × W) := kvs.filter fun kv => decide (kv.1 ≠ k)
variable {ρ : List Addr} {H : Hp}
theorem valW_r (k : κ) : ∀ {vs : List (κ × V)} {ws : List (κ × W)}, RKv B ρ H vs ws → (∀ w, valW ws k = some w → ∃ v, valV vs k = some v ∧ RW B ρ H v w) ∧ (valW ws k = none → valV vs k = none)
  | _, _, .nil => ⟨fun w (e : (none : Option W) = some w) => (nomatch e), fun _ => rfl⟩
  | _, _, .cons (k := k') (v := v) (w := w) a b => by
    by_cases e : k' = k
    · have z1 : ∀ t, valW ((k', w) :: t) k = some w := fun t => by simp [valW, List.find?_cons, e]
      have z2 : ∀ t, valV ((k', v) :: t) k = some v := fun t => by simp [valV, List.find?_cons, e]
      rw [z1, z2]
      exact ⟨fun w' q => by cases q; exact ⟨v, rfl, a⟩, fun q => by cases q⟩
    · have h := valW_r k b
      simp only [valW, valV, List.find?_cons, e, decide_false] at h ⊢
      exact h
theorem anyK_r (k : κ) : ∀ {vs : List (κ × V)} {ws : List (κ × W)}, RKv B ρ H vs ws → (vs.any fun kv => decide (kv.1 = k)) = ws.any fun kv => decide (kv.1 = k)
  | _, _, .nil => rfl
  | _, _, .cons a b => by simp only [List.any_cons]; rw [anyK_r k b]
theorem RKv.app {κ : Type} : ∀ {vs us : List (κ × V)} {ws xs : List (κ × W)}, RKv B ρ H vs ws → RKv B ρ H us xs → RKv B ρ H (vs ++ us) (ws ++ xs)
  | _, _, _, _, .nil, h => h
  | _, _, _, _, .cons a b, h => .cons a (RKv.app b h)
theorem mapK_r (k : κ) {v : V} {w : W} (r : RW B ρ H v w) : ∀ {vs : List (κ × V)} {ws : List (κ × W)}, RKv B ρ H vs ws → RKv B ρ H (vs.map fun kv => if kv.1 = k then (kv.1, v) else kv) (ws.map fun kv => if kv.1 = k then (kv.1, w) else kv)
  | _, _, .nil => .nil
  | _, _, .cons (k := k') a b => by
    simp only [List.map_cons]
    by_cases e : k' = k
    · rw [if_pos e, if_pos e]; exact .cons r (mapK_r k r b)
    · rw [if_neg e, if_neg e]; exact .cons a (mapK_r k r b)
theorem putW_r (k : κ) {v : V} {w : W} (r : RW B ρ H v w) {vs : List (κ × V)} {ws : List (κ × W)} (h : RKv B ρ H vs ws) : RKv B ρ H (putK vs k v) (putW ws k w) := by
  unfold putK putW
  rw [anyK_r k h]
  split
  · exact mapK_r k r h
  · exact h.app (.cons r .nil)
theorem dropW_r (k : κ) : ∀ {vs : List (κ × V)} {ws : List (κ × W)}, RKv B ρ H vs ws → RKv B ρ H (dropK vs k) (dropW ws k)
  | _, _, .nil => .nil
  | _, _, .cons (k := k') a b => by
    have h := dropW_r k b
    unfold dropK dropW at h ⊢
    by_cases e : k' = k
    · rw [List.filter_cons_of_neg (by simp [e]), List.filter_cons_of_neg (by simp [e])]; exact h
    · rw [List.filter_cons_of_pos (by simp [e]), List.filter_cons_of_pos (by simp [e])]; exact .cons a h
end
/-- a dict's entry: the dict's items, whatever the keys -/
def dGet (w : W) (key : W) (st : Store) : Option (Option W) := match w with
  | .ref n => match st[n]? with
    | some (.dct kvs) => (keyW key).map fun k => valW kvs k
    | some (.ldct kvs) => (keyW key).map fun k => valW kvs k
    | some (.dcT kvs) => match key with
      | .tup ks => (keysW ks).map fun k => valW kvs k
      | _ => none
    | _ => none
  | _ => none
theorem dGet_r {ρ : List Addr} {H : Hp} {st : Store} {v u : V} {w key : W} {o : Option W} (hs : StR B ρ H st) (r : RW B ρ H v w) (rk : RW B ρ H u key) (hk : ∀ b xs, SqU B.K H b xs → u = .ref b → H b = some (.tup xs)) (h : dGet w key st = some o) :
    ∃ a o', v = .ref a ∧ DGet H a u o' ∧ (∀ w', o = some w' → ∃ v', o' = some v' ∧ RW B ρ H v' w') ∧ (o = none → o' = none) := by
  cases r with
  | ref e =>
    rename_i a n
    simp only [dGet] at h
    split at h
    · rename_i kvs es
      obtain ⟨vs, h1, h2⟩ := hs.at_ n a _ e es
      simp only [Option.map_eq_some_iff] at h
      obtain ⟨k, hk1, rfl⟩ := h
      rw [keyW_r rk hk1]
      obtain ⟨z1, z2⟩ := valW_r k h2
      exact ⟨a, _, rfl, DGet.k h1, z1, z2⟩
    · rename_i kvs es
      obtain ⟨ob, vs, h1, h2⟩ := hs.at_ n a _ e es
      simp only [Option.map_eq_some_iff] at h
      obtain ⟨k, hk1, rfl⟩ := h
      rw [keyW_r rk hk1]
      obtain ⟨z1, z2⟩ := valW_r k h2
      exact ⟨a, _, rfl, .inl ⟨vs, k, .inr ⟨_, h1⟩, rfl, rfl⟩, z1, z2⟩
    · rename_i kvs es
      obtain ⟨vs, h1, h2⟩ := hs.at_ n a _ e es
      cases rk with
      | tup t1 t2 =>
        simp only [Option.map_eq_some_iff] at h
        obtain ⟨k, hk1, rfl⟩ := h
        have t3 := hk _ _ t1 rfl
        rw [keysW_r t2 hk1] at t3
        obtain ⟨z1, z2⟩ := valW_r k h2
        exact ⟨a, _, rfl, DGet.t h1 t3, z1, z2⟩
      | _ => cases h
    · cases h
  | _ => cases h
/-- a[i] -/
def subW' : W2 := fun a i st => match a with
  | .str s => match i with
    | .int j => if s.length ≤ slBound then (atI s.cps.toList j).map fun c => (.str ⟨#[c]⟩, st) else none
    | _ => none
  | .ref n => match st[n]? with
    | some (.lst ws) => match i with
      | .int j => (atI ws j).map fun w => (w, st)
      | _ => none
    | some (.dct _) => match dGet (.ref n) i st with
      | some (some w) => some (w, st)
      | _ => none
    | some (.ldct _) => match dGet (.ref n) i st with
      | some (some w) => some (w, st)
      | _ => none
    | _ => none
  | .tup ws => match i with
    | .int j => (atI ws j).map fun w => (w, st)
    | _ => none
  | .klst ws => match i with
    | .int j => (atI ws j).map fun w => (w, st)
    | _ => none
  | _ => none
theorem atI_r {ρ : List Addr} {H : Hp} {vs : List V} {ws : List W} {j : Int} {w : W} (h : RWs B ρ H vs ws) (e : atI ws j = some w) : ∃ v, atI vs j = some v ∧ RW B ρ H v w := by
  unfold atI at e ⊢
  rw [h.length]
  cases q : ixN ws.length j with
  | none => rw [q] at e; cases e
  | some m =>
    rw [q] at e
    exact h.get e
/-- d[y], the key there, by a subscript -/
theorem ix_dict {X : Cx} (hu : X.A.units + 1 < cLine) : IxR X (fun x y H Q => ∃ a v, x = .ref a ∧ DGet H a y (some v) ∧ Q v H) := by
  intro value slice pins s σ H x y v u Q I rx ry h hs
  obtain ⟨a, z, rfl, g, q⟩ := h
  obtain rfl : v = Value.ref a := rx
  exact tail_any (dict_typeIs I g) PySem.F.slot_dict_getitem.lookup (d_getItem hu I g ry fun w' s3 I3 rw' => ⟨z, H, I3, rw', q⟩) hs
def plainIxB : Expr → Bool
  | .Slice _ _ _ _ => false
  | _ => true
theorem plainIxB_ok {e : Expr} (h : plainIxB e = true) : PlainIx e := fun o i => by
  cases e <;> first | rfl | cases h
theorem hu_room {k : Nat} {A : Around} (h : Room k A) : A.units + 1 < cLine := hu_of h
theorem snd_sub {a i : Expr} {pos : Pos} {fa fi : SE} (hp : plainIxB i = true) (ha : Snd G B k N sc a fa) (hi : Snd G B k N sc i fi) : Snd G B k N sc (.Subscript a i pos) (binF subW' fa fi) := by
  refine ⟨fun Φ Wx X g => PE.imp (pe_ix (ix_seq.or (ix_dict (hu_room g.room))) (ha.pe Φ Wx X g) (hi.pe Φ Wx X g) (plainIxB_ok hp)) fun σ H Q q => ?_⟩
  obtain ⟨ρ, env, st, he, hs, q⟩ := q
  refine tX_imp (tX_bind he hs q) fun v H1 ⟨ρ1, st1, a, a1, a2, he1, hs1, r1, q1⟩ => ?_
  refine tX_imp (tX_bind he1 hs1 q1) fun u H2 ⟨ρ2, st2, b, b1, b2, he2, hs2, r2, q2⟩ => ?_
  have r1 := r1.mono b1 b2
  have dcase : ∀ {n : Nat}, a = .ref n → PostE B (fun c d H' => Wx c d σ H') ρ2 H2 (liftO (match dGet (.ref n) b st2 with
      | some (some w) => some (w, st2)
      | _ => none)) Q → keyW b ≠ none → (∃ a v_1, v = V.ref a ∧ DGet H2 a u (some v_1) ∧ Q v_1 H2) := fun {n} en q3 kb => by
    subst en
    split at q3
    · rename_i w ew
      have nk : ∀ b' xs, SqU B.K H2 b' xs → u = .ref b' → H2 b' = some (.tup xs) := fun b' xs _ eu => by
        cases r2 with
        | int _ => cases eu
        | str _ => cases eu
        | _ => exact absurd rfl kb
      obtain ⟨p, o', ev, g1, g2, _⟩ := dGet_r hs2 r1 r2 nk ew
      obtain ⟨v', rfl, r3⟩ := g2 w rfl
      exact ⟨p, v', ev, g1, post_here q3 hs2 r3⟩
    · exact q3.elim
  have kb_of : ∀ {n : Nat} {kvs : List (Key × W)} {w : W}, dGet (.ref n) b st2 = some (some w) → (st2[n]? = some (.dct kvs) ∨ st2[n]? = some (.ldct kvs)) → keyW b ≠ none := fun {n kvs w} e1 e2 e3 => by
    rcases e2 with e2 | e2 <;> · simp only [dGet, e2, e3, Option.map_none] at e1; cases e1
  cases r1 with
  | str s =>
    simp only [subW'] at q2
    split at q2
    · rename_i j
      split at q2
      · rename_i hz
        cases e : atI s.cps.toList j with
        | none => rw [e] at q2; exact q2.elim
        | some c =>
          rw [e] at q2
          cases r2
          exact .inl (.inr (.inr ⟨s, j, c, rfl, rfl, slb hz, e, post_here q2 hs2 (.str _)⟩))
      · exact q2.elim
    · exact q2.elim
  | @tup p0 vs ws h1 h2 =>
    simp only [subW'] at q2
    split at q2
    · rename_i j
      cases e : atI ws j with
      | none => rw [e] at q2; exact q2.elim
      | some w =>
        rw [e] at q2
        cases r2
        obtain ⟨v', e1, r3⟩ := atI_r h2 e
        exact .inl (.inr (.inl ⟨_, _, j, v', rfl, rfl, by rw [g.K]; exact h1.seq, e1, post_here q2 hs2 r3⟩))
    · exact q2.elim
  | @klst p0 vs ws h1 h2 =>
    simp only [subW'] at q2
    split at q2
    · rename_i j
      cases e : atI ws j with
      | none => rw [e] at q2; exact q2.elim
      | some w =>
        rw [e] at q2
        cases r2
        obtain ⟨v', e1, r3⟩ := atI_r h2 e
        exact .inl (.inl ⟨_, _, j, v', rfl, rfl, by rw [g.K]; exact h1.seq, e1, post_here q2 hs2 r3⟩)
    · exact q2.elim
  | @ref p n e =>
    simp only [subW'] at q2
    split at q2
    · rename_i ws es
      split at q2
      · rename_i j
        cases e2 : atI ws j with
        | none => rw [e2] at q2; exact q2.elim
        | some w =>
          rw [e2] at q2
          cases r2
          obtain ⟨vs, h1, h2⟩ := hs2.at_ n p _ e es
          obtain ⟨v', e1, r3⟩ := atI_r h2 e2
          exact .inl (.inl ⟨_, _, j, v', rfl, rfl, by rw [g.K]; exact SqL.of h1, e1, post_here q2 hs2 r3⟩)
      · exact q2.elim
    · rename_i kvs es
      refine .inr (dcase rfl q2 ?_)
      split at q2
      · rename_i w ew
        exact kb_of ew (.inl es)
      · exact q2.elim
    · rename_i kvs es
      refine .inr (dcase rfl q2 ?_)
      split at q2
      · rename_i w ew
        exact kb_of ew (.inr es)
      · exact q2.elim
    · exact q2.elim
  | _ => exact q2.elim
end
end Zf
namespace Zf
open PySem L2
open PyProof.Rows hiding St

section
variable {G : Glb} {B : Bk} {k : Nat} {N : List Str} {sc : Scope}

/-! ### slices -/
abbrev SO' := Phi → Env → Store → Out (Option Int)
abbrev tO (B : Bk) (Wx : WX) (F : Env → Store → Out (Option Int)) : TO := tX (β := Option Int) (fun _ _ v w => v = w) B Wx F
structure SndO (G : Glb) (B : Bk) (k : Nat) (N : List Str) (sc : Scope) (e : Option Expr) (F : SO') : Prop where
  po : ∀ (Φ : Phi) (Wx : WX) (X : Cx), GX G B Φ k N Wx sc X → PO X e (tO B Wx (F Φ))
theorem PO.imp {X : Cx} {e : Option Expr} {t t' : TO} (h : PO X e t) (hi : ∀ σ H Q, t' σ H Q → t σ H Q) : PO X e t' := ⟨fun pins s σ H Q I q => h.run pins s σ H Q I (hi σ H Q q)⟩
def noPart : SO' := fun _ _ st => .ok none st
def somePart (a : SE) : SO' := fun Φ env st => (a Φ env st).bind fun x st1 => match x with
  | .int i => .ok (some i) st1
  | _ => .bad
theorem sndO_none : SndO G B k N sc none noPart := by
  refine ⟨fun Φ Wx X g => PO.imp po_none fun σ H Q q => ?_⟩
  obtain ⟨ρ, env, st, he, hs, q⟩ := q
  exact q ρ H none (List.prefix_refl _) (.refl _) hs rfl
theorem sndO_some {a : Expr} {fa : SE} (ha : Snd G B k N sc a fa) : SndO G B k N sc (some a) (somePart fa) := by
  refine ⟨fun Φ Wx X g => PO.imp (po_some (ha.pe Φ Wx X g)) fun σ H Q q => ?_⟩
  obtain ⟨ρ, env, st, he, hs, q⟩ := q
  refine tX_imp (tX_bind he hs q) fun v H1 ⟨ρ1, st1, a, a1, a2, he1, hs1, r1, q1⟩ => ?_
  cases r1 with
  | int i => exact ⟨i, rfl, q1 ρ1 H1 (some i) (List.prefix_refl _) (.refl _) hs1 rfl⟩
  | _ => exact q1.elim
def cutW (ws : List W) (lo hi : Option Int) : List W := (ws.drop (HT.sIx ws.length 0 lo)).take (HT.sIx ws.length ws.length hi - HT.sIx ws.length 0 lo)
def slW (a : W) (lo hi : Option Int) (st : Store) : Opt := match a with
  | .str s => if s.length ≤ slBound then some (.str (cutS s lo hi), st) else none
  | .tup ws => some (.tup (cutW ws lo hi), st)
  | .klst ws => some (.ref st.length, st ++ [.lst (cutW ws lo hi)])
  | .ref n => match st[n]? with
    | some (.lst ws) => some (.ref st.length, st ++ [.lst (cutW ws lo hi)])
    | _ => none
  | _ => none
def slF (a : SE) (lo hi : SO') : SE := fun Φ env st => (a Φ env st).bind fun x st1 => (lo Φ env st1).bind fun l st2 => (hi Φ env st2).bind fun h st3 => liftO (slW x l h st3)
theorem cutW_r {ρ : List Addr} {H : Hp} {vs : List V} {ws : List W} (lo hi : Option Int) (h : RWs B ρ H vs ws) : RWs B ρ H (cutV vs lo hi) (cutW ws lo hi) := by
  unfold cutV cutW
  rw [h.length]
  exact (h.drop _).take _
theorem snd_sl {a : Expr} {lo hi : Option Expr} {p2 pos : Pos} {fa : SE} {fl fh : SO'} (ha : Snd G B k N sc a fa) (hl : SndO G B k N sc lo fl) (hh : SndO G B k N sc hi fh) : Snd G B k N sc (.Subscript a (.Slice lo hi none p2) pos) (slF fa fl fh) := by
  refine ⟨fun Φ Wx X g => PE.imp (pe_slice (sl_list.or (sl_tupA.or sl_str)) (ha.pe Φ Wx X g) (hl.po Φ Wx X g) (hh.po Φ Wx X g)) fun σ H Q q => ?_⟩
  obtain ⟨ρ, env, st, he, hs, q⟩ := q
  refine tX_imp (tX_bind he hs q) fun v H1 ⟨ρ1, st1, a, a1, a2, he1, hs1, r1, q1⟩ => ?_
  refine tX_imp (tX_bind he1 hs1 q1) fun l H2 ⟨ρ2, st2, l', b1, b2, he2, hs2, r2, q2⟩ => ?_
  refine tX_imp (tX_bind he2 hs2 q2) fun h H3 ⟨ρ3, st3, h', c1, c2, he3, hs3, r3, q3⟩ => ?_
  have r1 := (r1.mono b1 b2).mono c1 c2
  have r2 : l = l' := r2
  have r3 : h = h' := r3
  subst r2 r3
  cases r1 with
  | str s =>
    simp only [slW] at q3
    split at q3
    · rename_i hz
      exact .inr (.inr ⟨s, rfl, slb hz, post_here q3 hs3 (.str _)⟩)
    · exact q3.elim
  | @tup p0 vs ws h1 h2 =>
    refine .inr (.inl ⟨p0, vs, rfl, by rw [g.K]; exact h1.seq, fun hw => ?_, fun _ => end_tup q3 hs3 (cutW_r l h h2)⟩)
    refine post_here q3 hs3 (.tup h1 ?_)
    have e : cutW ws l h = ws := by
      unfold cutW
      rw [h2.length] at hw
      rw [hw.1, hw.2]
      simp
    rw [e]
    exact h2
  | @klst p0 vs ws h1 h2 => exact .inl ⟨p0, vs, rfl, by rw [g.K]; exact h1.seq, end_lst q3 hs3 (cutW_r l h h2)⟩
  | @ref p n e =>
    simp only [slW] at q3
    split at q3
    · rename_i ws es
      obtain ⟨vs, h1, h2⟩ := hs3.at_ n p _ e es
      exact .inl ⟨p, vs, rfl, by rw [g.K]; exact SqL.of h1, end_lst q3 hs3 (cutW_r l h h2)⟩
    · exact q3.elim
  | _ => exact q3.elim

/-! ### calls of builtins -/
abbrev WL := List W → Store → Opt
structure CallW (B : Bk) (X : Cx) (f : Value) (g : WL) : Prop where
  run : ∀ (pins : List (Addr × Obj)) (s : Shared) (σ : St) (H : Hp) (xs : List V) (us : List Value) (Q : VK) (ρ : List Addr) (st : Store) (as : List W), Inv X pins σ H s → Vals xs us → StR B ρ H st → RWs B ρ H xs as →
    PostE B (fun _ _ _ => False) ρ H (liftO (g as st)) Q → wpAny (model X.prog X.w) X.A (call f us) (EP X pins σ Q) X.xe s
def rWL (B : Bk) (g : WL) : List V → Hp → VK → Prop := fun xs H Q => ∃ ρ st as, StR B ρ H st ∧ RWs B ρ H xs as ∧ PostE B (fun _ _ _ => False) ρ H (liftO (g as st)) Q
theorem CallW.callR {X : Cx} {f : Value} {g : WL} (h : CallW B X f g) : CallR X f (rWL B g) := fun pins s σ H xs us Q I r ⟨ρ, st, as, h1, h2, q⟩ => h.run pins s σ H xs us Q ρ st as I r h1 h2 q
/-- f(..), f a builtin by its name -/
def bltF (g : WL) (a : SL) : SE := fun Φ env st => (a Φ env st).bind fun xs st1 => liftO (g xs st1)
theorem tCB_of {Wx : WX} {g : WL} {F : Env → Store → Out (List W)} {σ : St} {H : Hp} {Q : VK} (h : tE B Wx (fun env st => (F env st).bind fun xs st1 => liftO (g xs st1)) σ H Q) : tCB (rWL B g) (tL B Wx F) σ H Q := by
  obtain ⟨ρ, env, st, he, hs, q⟩ := h
  refine tX_imp (tX_bind he hs q) fun v H1 ⟨ρ1, st1, a, a1, a2, he1, hs1, r1, q1⟩ => ⟨ρ1, st1, a, hs1, r1, post_lift q1⟩
theorem backTo_plain {e : Expr} {es : List Expr} {pos : Pos} {env : PySem.Env} (h : es.all noStar = true) : (backTo pos (starEach es env)).any (·.1) = false := by
  induction es with
  | nil => rfl
  | cons a r ih =>
    rw [List.all_cons, Bool.and_eq_true] at h
    rw [noStar_ok h.1 r env]
    show (false || (backTo pos (starEach r env)).any (·.1)) = false
    rw [ih h.2]; rfl
theorem snd_blt {x : Str} {e : Expr} {es : List Expr} {p pos : Pos} {id : String} {g : WL} {fa : SL} (hc : ∀ (Φ : Phi) (Wx : WX) (X : Cx), GX G B Φ k N Wx sc X → CallW B X (.builtin id) g) (hg : glbB sc x = true) (hb : x ∈ G.blt) (hv : bootBuiltins x = some (.builtin id)) (hd : notDbg x = true) (hnm : x ≠ "__name__")
    (hn : (e :: es).all noStar = true) (ha : SndL G B k N sc (e :: es) fa) : Snd G B k N sc (.Call (.Name x p) (e :: es) [] pos) (bltF g fa) := by
  rw [List.all_cons, Bool.and_eq_true] at hn
  exact ⟨fun Φ Wx X gx => PE.imp (pe_callB (hc Φ Wx X gx).callR (glbB_ok (by rw [gx.sc]; exact hg)) (gx.gk.blt x hb) hv (ha.pa Φ Wx X gx) hnm (notDbg1 hd) (noStar_ok hn.1 _ _) (backTo_plain (e := e) hn.2)) fun _ _ _ q => tCB_of q⟩
theorem snd_bltT {x : Str} {e : Expr} {es : List Expr} {p pos : Pos} {T : String} {g : WL} {fa : SL} (hc : ∀ (Φ : Phi) (Wx : WX) (X : Cx), GX G B Φ k N Wx sc X → CallW B X (.type T) g) (hg : glbB sc x = true) (hb : x ∈ G.blt) (hv : bootBuiltins x = some (.type T)) (hd : notDbg x = true) (hnm : x ≠ "__name__")
    (hn : (e :: es).all noStar = true) (ha : SndL G B k N sc (e :: es) fa) : Snd G B k N sc (.Call (.Name x p) (e :: es) [] pos) (bltF g fa) := by
  rw [List.all_cons, Bool.and_eq_true] at hn
  exact ⟨fun Φ Wx X gx => PE.imp (pe_callTy (hc Φ Wx X gx).callR (glbB_ok (by rw [gx.sc]; exact hg)) (gx.gk.blt x hb) hv (ha.pa Φ Wx X gx) hnm (notDbg1 hd) (noStar_ok hn.1 _ _) (backTo_plain (e := e) hn.2)) fun _ _ _ q => tCB_of q⟩
end
end Zf
namespace Zf
open PySem L2
open PyProof.Rows hiding St

/-! ### data, for repr -/
mutual
def toE (f : Nat → Option PyData) : W → Option PyData
  | .non => some .none
  | .bl b => some (.bool b)
  | .int i => some (.int i)
  | .str s => some (.str s)
  | .tup ws => (toEs f ws).map .tuple
  | .klst ws => (toEs f ws).map .list
  | .ref n => f n
  | .exc _ _ => none
  | .clo _ => none
def toEs (f : Nat → Option PyData) : List W → Option (List PyData)
  | [] => some []
  | w :: ws => match toE f w, toEs f ws with
    | some d, some ds => some (d :: ds)
    | _, _ => none
end
def refE (st : Store) : Nat → Nat → Option PyData
  | 0, _ => none
  | k + 1, n => match st[n]? with
    | some (.lst ws) => (toEs (refE st k) ws).map .list
    | some (.dct []) => some (.dict [])
    | _ => none
def shownD (st : Store) (w : W) : Option PyData := toE (refE st 20) w
section
variable {B : Bk} {X : Cx} {pins : List (Addr × Obj)} {s : Shared} {σ : St} {ρ : List Addr} {H : Hp} {st : Store} {mm : Str → Option Value}
/-- what is tracked, and the module's lists, stand apart from sys.modules -/
theorem list_apart (I : Inv X pins σ H s) (sm : X.base.Ns sysModules mm) {a : Addr} {vs : List V} (h : SqL X.K H a vs) : a ≠ sysModules := fun e => by
  obtain ⟨o, es, ep, ho, hd, _⟩ := sm
  obtain ⟨h1, _⟩ := I.bs _ _ ho
  obtain ⟨its, _, ⟨o', n, e1, _, _, e2⟩, _⟩ := I.list h
  rw [e, h1] at e1
  cases e1
  rw [hd] at e2
  cases e2
mutual
theorem toE_reads (I : Inv X pins σ H s) (sm : X.base.Ns sysModules mm) (hK : X.K = B.K) (hs : StR B ρ H st) {f : Nat → Option PyData} (hf : ∀ (n : Nat) (a : Addr) (d : PyData), ρ[n]? = some a → f n = some d → ∃ as, Reads s.heap (.ref a) d as ∧ sysModules ∉ as) :
    ∀ {w : W} {v : V} {u : Value} {d : PyData}, RW B ρ H v w → RelV v u → toE f w = some d → ∃ as, Reads s.heap u d as ∧ sysModules ∉ as
  | .non, _, _, _, .non, r, e => by simp only [toE] at e; cases e; cases r; exact ⟨_, Reads.none, fun h => nomatch h⟩
  | .bl b, _, _, _, .bl _, r, e => by simp only [toE] at e; cases e; cases r; exact ⟨_, Reads.bool b, fun h => nomatch h⟩
  | .int i, _, _, _, .int _, r, e => by simp only [toE] at e; cases e; obtain ⟨t, rfl⟩ := r; exact ⟨_, Reads.int i t, fun h => nomatch h⟩
  | .str x, _, _, _, .str _, r, e => by simp only [toE] at e; cases e; obtain ⟨t, rfl⟩ := r; exact ⟨_, Reads.str x t, fun h => nomatch h⟩
  | .tup ws, _, _, _, .tup h1 h2, r, e => by
    simp only [toE, Option.map_eq_some_iff] at e
    obtain ⟨ds, e1, rfl⟩ := e
    cases r
    obtain ⟨its, rv, ⟨o, ho, hc, n, hd⟩, _⟩ := I.tuple (by rw [hK]; exact h1.seq)
    obtain ⟨as, q1, q2⟩ := toEs_reads I sm hK hs hf h2 rv e1
    exact ⟨_, Reads.tuple ho hc hd q1, q2⟩
  | .klst ws, _, _, _, .klst h1 h2, r, e => by
    simp only [toE, Option.map_eq_some_iff] at e
    obtain ⟨ds, e1, rfl⟩ := e
    cases r
    have hq := h1.seq
    rw [← hK] at hq
    obtain ⟨its, rv, ⟨o, n, ho, hc, _, hd⟩, _⟩ := I.list hq
    obtain ⟨as, q1, q2⟩ := toEs_reads I sm hK hs hf h2 rv e1
    exact ⟨_, Reads.list ho hc hd q1, fun hm => (List.mem_cons.mp hm).elim (fun z => list_apart I sm hq z.symm) q2⟩
  | .ref n, _, _, _, .ref h, r, e => by simp only [toE] at e; cases r; exact hf _ _ _ h e
  | .exc _ _, _, _, _, _, _, e => by simp only [toE] at e; cases e
  | .clo _, _, _, _, _, _, e => by simp only [toE] at e; cases e
theorem toEs_reads (I : Inv X pins σ H s) (sm : X.base.Ns sysModules mm) (hK : X.K = B.K) (hs : StR B ρ H st) {f : Nat → Option PyData} (hf : ∀ (n : Nat) (a : Addr) (d : PyData), ρ[n]? = some a → f n = some d → ∃ as, Reads s.heap (.ref a) d as ∧ sysModules ∉ as) :
    ∀ {ws : List W} {vs : List V} {us : List Value} {ds : List PyData}, RWs B ρ H vs ws → Vals vs us → toEs f ws = some ds → ∃ as, ReadsAll s.heap us ds as ∧ sysModules ∉ as
  | [], _, _, _, .nil, r, e => by simp only [toEs] at e; cases e; cases r; exact ⟨_, ReadsAll.nil, fun h => nomatch h⟩
  | w :: ws, _, _, _, .cons h1 h2, .cons r1 r2, e => by
    simp only [toEs] at e
    split at e
    · rename_i d ds e1 e2
      cases e
      obtain ⟨as, q1, q2⟩ := toE_reads I sm hK hs hf h1 r1 e1
      obtain ⟨bs, q3, q4⟩ := toEs_reads I sm hK hs hf h2 r2 e2
      exact ⟨_, ReadsAll.cons q1 q3, fun hm => (List.mem_append.mp hm).elim q2 q4⟩
    · cases e
end
theorem refE_reads (I : Inv X pins σ H s) (sm : X.base.Ns sysModules mm) (hK : X.K = B.K) (hs : StR B ρ H st) : ∀ (k n : Nat) (a : Addr) (d : PyData), ρ[n]? = some a → refE st k n = some d → ∃ as, Reads s.heap (.ref a) d as ∧ sysModules ∉ as
  | 0, _, _, _, _, e => by simp only [refE] at e; cases e
  | k + 1, n, a, d, h, e => by
    simp only [refE] at e
    split at e
    · rename_i ws es
      simp only [Option.map_eq_some_iff] at e
      obtain ⟨ds, e1, rfl⟩ := e
      obtain ⟨vs, h1, h2⟩ := hs.at_ n a _ h es
      have hq : SqL X.K H a vs := SqL.of h1
      obtain ⟨its, rv, ⟨o, n', ho, hc, _, hd⟩, _⟩ := I.list hq
      obtain ⟨as, q1, q2⟩ := toEs_reads I sm hK hs (refE_reads I sm hK hs k) h2 rv e1
      exact ⟨_, Reads.list ho hc hd q1, fun hm => (List.mem_cons.mp hm).elim (fun z => list_apart I sm hq z.symm) q2⟩
    · rename_i es
      cases e
      obtain ⟨vs, h1, h2⟩ := hs.at_ n a _ h es
      cases h2
      obtain ⟨_, hd, vs, r, o, es, ep, ho, hx, hdat, _, hp, _⟩ := dk_of I.hok h1
      cases r
      have e0 : es.toList = [] := by
        cases q : es.toList with
        | nil => rfl
        | cons x r => rw [q] at hp; cases hp
      have ra : Reads s.heap (.ref a) (.dict []) (a :: [] ++ []) := Reads.dict (as := []) (bs := []) ho hx.1 hdat (by rw [e0]; exact ReadsAll.nil) (by rw [e0]; exact ReadsAll.nil)
      refine ⟨_, ra, fun hm => ?_⟩
      have hm : sysModules = a := by simpa using hm
      rw [← hm] at hd
      exact absurd hd (by decide)
    · cases e
theorem shownD_reads (I : Inv X pins σ H s) (sm : X.base.Ns sysModules mm) (hK : X.K = B.K) (hs : StR B ρ H st) {w : W} {v : V} {u : Value} {d : PyData} (r : RW B ρ H v w) (ru : RelV v u) (e : shownD st w = some d) : ∃ as, Reads s.heap u d as ∧ sysModules ∉ as :=
  toE_reads I sm hK hs (refE_reads I sm hK hs 20) r ru e
end
/-- repr(x) -/
def reprW : WL := fun as st => match as with
  | [w] => match shownD st w with
    | some d => if d.showable = true ∧ d.shown.length ≤ slBound ∧ d.depth ≤ 40 then some (.str d.shown, st) else none
    | none => none
  | _ => none
theorem cw_repr {B : Bk} {k : Nat} {X : Cx} {mm : Str → Option Value} (hK : X.K = B.K) (hr : Room k X.A) (hg : X.A.guards = some []) (sm : X.base.Ns sysModules mm) : CallW B X (.builtin "repr") reprW := by
  refine ⟨fun pins s σ H xs us Q ρ st as I rx hs ra q => ?_⟩
  cases ra with
  | nil => exact q.elim
  | @cons v vs w ws r1 r2 =>
    cases r2 with
    | cons _ _ => exact q.elim
    | nil =>
      cases rx with
      | @cons v u _ us ru rr =>
        cases rr
        simp only [reprW] at q
        split at q
        · rename_i d e
          split at q
          · rename_i hz
            have q := post_here q hs (.str _)
            obtain ⟨as, hd, hm⟩ := shownD_reads I sm hK hs r1 ru e
            have fin : ∀ h' t tk, (∀ b o, s.heap.get? b = some o → h'.get? b = some o) → EP X pins σ Q (.str d.shown t) { s with heap := h', toks := tk } := fun h' t tk kk => ⟨.str d.shown, H, I.kept kk, ⟨_, rfl⟩, q⟩
            cases r1 with
            | non => cases ru; simp only [shownD, toE] at e; cases e; exact PySem.P.repr_of_none (fin s.heap _ _ fun _ _ z => z)
            | bl b => cases ru; simp only [shownD, toE] at e; cases e; exact PySem.P.repr_of_bool (by have z := fin s.heap s.toks (s.toks + 1) fun _ _ z => z; simp only [PyData.shown] at z; exact z)
            | int i => obtain ⟨t, rfl⟩ := ru; simp only [shownD, toE] at e; cases e; exact PySem.P.repr_of_int (by have z := hz.1; simp only [PyData.showable, decide_eq_true_eq] at z; exact z) (by have z := fin s.heap s.toks (s.toks + 1) fun _ _ z => z; simp only [PyData.shown] at z; exact z)
            | str x => obtain ⟨t, rfl⟩ := ru; simp only [shownD, toE] at e; cases e; exact PySem.P.repr_of_str (by have z := fin s.heap s.toks (s.toks + 1) fun _ _ z => z; simp only [PyData.shown] at z; exact z) (by have z := hz.2.1; simp only [PyData.shown] at z; exact slb z)
            | tup _ _ => cases ru; exact repr_of_reads' hd hz.1 (fun _ => hm) hg (by have := hr.un; have := hz.2.2; omega) (fun _ _ z => z) (fun h' t tk kk => fin h' t tk kk) (slb hz.2.1)
            | klst _ _ => cases ru; exact repr_of_reads' hd hz.1 (fun _ => hm) hg (by have := hr.un; have := hz.2.2; omega) (fun _ _ z => z) (fun h' t tk kk => fin h' t tk kk) (slb hz.2.1)
            | ref _ => cases ru; exact repr_of_reads' hd hz.1 (fun _ => hm) hg (by have := hr.un; have := hz.2.2; omega) (fun _ _ z => z) (fun h' t tk kk => fin h' t tk kk) (slb hz.2.1)
            | exc _ _ _ _ => simp only [shownD, toE] at e; cases e
            | clo _ => simp only [shownD, toE] at e; cases e
          · exact q.elim
        · exact q.elim
end Zf
namespace Zf
open PySem L2
open PyProof.Rows hiding St

/-! ### builtins by values -/
section
variable {B : Bk} {X : Cx}
/-- one argument -/
def un1 (g : W → Store → Opt) : WL := fun as st => match as with
  | [a] => g a st
  | _ => none
theorem cw_un1 {f : Value} {g : W → Store → Opt} (h : ∀ (pins : List (Addr × Obj)) (s : Shared) (σ : St) (H : Hp) (x : V) (u : Value) (Q : VK) (ρ : List Addr) (st : Store) (a : W), Inv X pins σ H s → RelV x u → StR B ρ H st → RW B ρ H x a →
    PostE B (fun _ _ _ => False) ρ H (liftO (g a st)) Q → wpAny (model X.prog X.w) X.A (call f [u]) (EP X pins σ Q) X.xe s) : CallW B X f (un1 g) := by
  refine ⟨fun pins s σ H xs us Q ρ st as I rx hs ra q => ?_⟩
  cases ra with
  | nil => exact q.elim
  | @cons v vs w ws r1 r2 =>
    cases r2 with
    | cons _ _ => exact q.elim
    | nil =>
      cases rx with
      | @cons v u _ us ru rr =>
        cases rr
        exact h pins s σ H v u Q ρ st w I ru hs r1 q
def un2 (g : W → W → Store → Opt) : WL := fun as st => match as with
  | [a, b] => g a b st
  | _ => none
theorem cw_un2 {f : Value} {g : W → W → Store → Opt} (h : ∀ (pins : List (Addr × Obj)) (s : Shared) (σ : St) (H : Hp) (x y : V) (u v : Value) (Q : VK) (ρ : List Addr) (st : Store) (a b : W), Inv X pins σ H s → RelV x u → RelV y v → StR B ρ H st → RW B ρ H x a → RW B ρ H y b →
    PostE B (fun _ _ _ => False) ρ H (liftO (g a b st)) Q → wpAny (model X.prog X.w) X.A (call f [u, v]) (EP X pins σ Q) X.xe s) : CallW B X f (un2 g) := by
  refine ⟨fun pins s σ H xs us Q ρ st as I rx hs ra q => ?_⟩
  cases ra with
  | nil => exact q.elim
  | @cons v vs w ws r1 r2 =>
    cases r2 with
    | nil => exact q.elim
    | @cons v2 vs2 w2 ws2 r3 r4 =>
      cases r4 with
      | cons _ _ => exact q.elim
      | nil =>
        cases rx with
        | @cons v u _ us ru rr =>
          cases rr with
          | @cons v' u' _ us' ru' rr' =>
            cases rr'
            exact h pins s σ H v v2 u u' Q ρ st w w2 I ru ru' hs r1 r3 q
theorem v1 {x : V} {u : Value} (r : RelV x u) : Vals [x] [u] := .cons r .nil
theorem v2 {x y : V} {u v : Value} (r : RelV x u) (q : RelV y v) : Vals [x, y] [u, v] := .cons r (.cons q .nil)

def lenW : W → Store → Opt := fun a st => match seqOf a st with
  | some ws => some (.int ws.length, st)
  | none => match a with
    | .str s => if s.length ≤ slBound then some (.int s.length, st) else none
    | .ref n => match st[n]? with
      | some (.dct kvs) => some (.int kvs.length, st)
      | _ => none
    | _ => none
theorem cw_len (hK : X.K = B.K) : CallW B X (.builtin "len") (un1 lenW) := by
  refine cw_un1 fun pins s σ H x u Q ρ st a I ru hs ra q => ?_
  simp only [lenW] at q
  split at q
  · rename_i ws e
    obtain ⟨p, vs, rfl, h1, h2⟩ := seqOf_r hs ra e
    refine call_len_seq pins s σ H _ _ Q I (v1 ru) ⟨p, vs, rfl, by rw [hK]; exact h1, ?_⟩
    rw [h2.length]
    exact post_here q hs (.int _)
  · cases ra with
    | str z =>
      try dsimp only at q
      split at q
      · rename_i hz
        exact call_len_str pins s σ H _ _ Q I (v1 ru) ⟨z, rfl, slb hz, post_here q hs (.int _)⟩
      · exact q.elim
    | @ref p n e =>
      try dsimp only at q
      split at q
      · rename_i kvs es
        obtain ⟨vs, h1, h2⟩ := hs.at_ n p _ e es
        cases ru
        refine d_len I (.inl h1) fun t s' I' => ⟨.int vs.length, H, I', ⟨t, rfl⟩, ?_⟩
        rw [h2.length]
        exact post_here q hs (.int _)
      · exact q.elim
    | _ => exact q.elim

def listW : W → Store → Opt := fun a st => match seqOf a st with
  | some ws => some (.ref st.length, st ++ [.lst ws])
  | none => none
theorem cw_list (hK : X.K = B.K) : CallW B X (.type "list") (un1 listW) := by
  refine cw_un1 fun pins s σ H x u Q ρ st a I ru hs ra q => ?_
  simp only [listW] at q
  split at q
  · rename_i ws e
    obtain ⟨p, vs, rfl, h1, h2⟩ := seqOf_r hs ra e
    exact call_list_of pins s σ H _ _ Q I (v1 ru) ⟨p, vs, rfl, by rw [hK]; exact h1, end_lst q hs h2⟩
  · exact q.elim
def tupleW : W → Store → Opt := fun a st => match seqOf a st with
  | some ws => some (.tup ws, st)
  | none => none
theorem cw_tuple (hK : X.K = B.K) : CallW B X (.type "tuple") (un1 tupleW) := by
  refine cw_un1 fun pins s σ H x u Q ρ st a I ru hs ra q => ?_
  simp only [tupleW] at q
  split at q
  · rename_i ws e
    cases ra with
    | @tup p vs ws' h1 h2 =>
      cases e
      exact call_tuple_of pins s σ H _ _ Q I (v1 ru) ⟨p, _, rfl, .inr ⟨by rw [hK]; exact h1.seq, post_here q hs (.tup h1 h2)⟩⟩
    | @klst p vs ws' h1 h2 =>
      cases e
      exact call_tuple_of pins s σ H _ _ Q I (v1 ru) ⟨p, _, rfl, .inl ⟨by rw [hK]; exact h1.seq, end_tup q hs h2⟩⟩
    | @ref p n er =>
      unfold seqOf at e
      try dsimp only at e
      split at e
      · rename_i ws' es
        cases e
        obtain ⟨vs, h1, h2⟩ := hs.at_ n p _ er es
        exact call_tuple_of pins s σ H _ _ Q I (v1 ru) ⟨p, _, rfl, .inl ⟨by rw [hK]; exact SqL.of h1, end_tup q hs h2⟩⟩
      · cases e
    | _ => cases e
  · exact q.elim
def strW : W → Store → Opt := fun a st => match a with
  | .str s => some (.str s, st)
  | .int i => if i.natAbs.log2 < 1920 then some (.str (toString i), st) else none
  | _ => none
theorem cw_str : CallW B X (.type "str") (un1 strW) := by
  refine cw_un1 fun pins s σ H x u Q ρ st a I ru hs ra q => ?_
  cases ra with
  | str z => exact SkE.call_str_str pins s σ H _ _ Q I (v1 ru) ⟨z, rfl, post_here q hs (.str _)⟩
  | int i =>
    simp only [strW] at q
    split at q
    · rename_i hz
      exact call_str_int pins s σ H _ _ Q I (v1 ru) ⟨i, rfl, hz, post_here q hs (.str _)⟩
    · exact q.elim
  | _ => exact q.elim
def intW1 : W → Store → Opt := fun a st => match a with
  | .int i => some (.int i, st)
  | .bl b => some (.int (if b then 1 else 0), st)
  | .str s => if s.length ≤ 640 then (PySem.intText? s).map fun n => (.int n, st) else none
  | _ => none
theorem cw_int : CallW B X (.type "int") (un1 intW1) := by
  refine cw_un1 fun pins s σ H x u Q ρ st a I ru hs ra q => ?_
  cases ra with
  | int i => exact call_int1 pins s σ H _ _ Q I (v1 ru) (.inl ⟨i, rfl, post_here q hs (.int _)⟩)
  | bl i => exact call_int1 pins s σ H _ _ Q I (v1 ru) (.inr ⟨i, rfl, post_here q hs (.int _)⟩)
  | str z =>
    simp only [intW1] at q
    split at q
    · rename_i hz
      cases e : PySem.intText? z with
      | none => rw [e] at q; exact q.elim
      | some n => rw [e] at q; exact call_int_str pins s σ H _ _ Q I (v1 ru) ⟨z, n, rfl, e, hz, post_here q hs (.int _)⟩
    · exact q.elim
  | _ => exact q.elim
def absW : W → Store → Opt := fun a st => match a with
  | .int i => some (.int (if i < 0 then -i else i), st)
  | _ => none
theorem cw_abs : CallW B X (.builtin "abs") (un1 absW) := by
  refine cw_un1 fun pins s σ H x u Q ρ st a I ru hs ra q => ?_
  cases ra with
  | int i => exact call_abs pins s σ H _ _ Q I (v1 ru) ⟨i, rfl, post_here q hs (.int _)⟩
  | _ => exact q.elim
def max2W : W → W → Store → Opt := fun a b st => match a, b with
  | .int i, .int j => some (.int (if j > i then j else i), st)
  | _, _ => none
theorem cw_max2 (hc : X.calm = true) : CallW B X (.builtin "max") (un2 max2W) := by
  refine cw_un2 fun pins s σ H x y u v Q ρ st a b I ru rv hs ra rb q => ?_
  cases ra with
  | int i =>
    cases rb with
    | int j => exact call_max2 hc pins s σ H _ _ Q I (v2 ru rv) ⟨i, j, rfl, post_here q hs (.int _)⟩
    | _ => exact q.elim
  | _ => exact q.elim
def min2W : W → W → Store → Opt := fun a b st => match a, b with
  | .int i, .int j => some (.int (if j < i then j else i), st)
  | _, _ => none
theorem cw_min2 (hc : X.calm = true) : CallW B X (.builtin "min") (un2 min2W) := by
  refine cw_un2 fun pins s σ H x y u v Q ρ st a b I ru rv hs ra rb q => ?_
  cases ra with
  | int i =>
    cases rb with
    | int j => exact call_min2 hc pins s σ H _ _ Q I (v2 ru rv) ⟨i, j, rfl, post_here q hs (.int _)⟩
    | _ => exact q.elim
  | _ => exact q.elim
/-- a list of ints, of truths -/
def intsW : List W → Option (List Int)
  | [] => some []
  | .int i :: ws => (intsW ws).map fun is => i :: is
  | _ :: _ => none
def blsW : List W → Option (List Bool)
  | [] => some []
  | .bl i :: ws => (blsW ws).map fun is => i :: is
  | _ :: _ => none
theorem intsW_r {ρ : List Addr} {H : Hp} : ∀ {vs : List V} {ws : List W} {is : List Int}, RWs B ρ H vs ws → intsW ws = some is → vs = is.map V.int
  | _, _, _, .nil, e => by cases e; rfl
  | _, _, _, .cons (.int i) b, e => by
    simp only [intsW, Option.map_eq_some_iff] at e
    obtain ⟨js, e1, rfl⟩ := e
    rw [intsW_r b e1]; rfl
  | _, _, _, .cons .non b, e => by cases e
  | _, _, _, .cons (.bl _) b, e => by cases e
  | _, _, _, .cons (.str _) b, e => by cases e
  | _, _, _, .cons (.tup _ _) b, e => by cases e
  | _, _, _, .cons (.klst _ _) b, e => by cases e
  | _, _, _, .cons (.ref _) b, e => by cases e
  | _, _, _, .cons (.exc _ _ _ _) b, e => by cases e
theorem blsW_r {ρ : List Addr} {H : Hp} : ∀ {vs : List V} {ws : List W} {is : List Bool}, RWs B ρ H vs ws → blsW ws = some is → vs = is.map V.bl
  | _, _, _, .nil, e => by cases e; rfl
  | _, _, _, .cons (.bl i) b, e => by
    simp only [blsW, Option.map_eq_some_iff] at e
    obtain ⟨js, e1, rfl⟩ := e
    rw [blsW_r b e1]; rfl
  | _, _, _, .cons .non b, e => by cases e
  | _, _, _, .cons (.int _) b, e => by cases e
  | _, _, _, .cons (.str _) b, e => by cases e
  | _, _, _, .cons (.tup _ _) b, e => by cases e
  | _, _, _, .cons (.klst _ _) b, e => by cases e
  | _, _, _, .cons (.ref _) b, e => by cases e
  | _, _, _, .cons (.exc _ _ _ _) b, e => by cases e
def sumW : W → Store → Opt := fun a st => match (lstOf a st).bind intsW with
  | some is => some (.int is.sum, st)
  | none => none
theorem cw_sum (hK : X.K = B.K) (hc : X.calm = true) : CallW B X (.builtin "sum") (un1 sumW) := by
  refine cw_un1 fun pins s σ H x u Q ρ st a I ru hs ra q => ?_
  simp only [sumW] at q
  split at q
  · rename_i is e
    obtain ⟨ws, e1, e2⟩ := Option.bind_eq_some_iff.mp e
    obtain ⟨p, vs, rfl, h1, h2⟩ := lstOf_r hs ra e1
    rw [intsW_r h2 e2, ← hK] at h1
    exact cr_sum hc pins s σ H _ _ Q I (v1 ru) ⟨p, is, rfl, h1, post_here q hs (.int _)⟩
  · exact q.elim
def allW : W → Store → Opt := fun a st => match (lstOf a st).bind blsW with
  | some is => some (.bl (is.all id), st)
  | none => none
theorem cw_all (hK : X.K = B.K) (hc : X.calm = true) : CallW B X (.builtin "all") (un1 allW) := by
  refine cw_un1 fun pins s σ H x u Q ρ st a I ru hs ra q => ?_
  simp only [allW] at q
  split at q
  · rename_i is e
    obtain ⟨ws, e1, e2⟩ := Option.bind_eq_some_iff.mp e
    obtain ⟨p, vs, rfl, h1, h2⟩ := lstOf_r hs ra e1
    rw [blsW_r h2 e2, ← hK] at h1
    exact cr_all hc pins s σ H _ _ Q I (v1 ru) ⟨p, is, rfl, h1, post_here q hs (.bl _)⟩
  · exact q.elim
def anyW : W → Store → Opt := fun a st => match (lstOf a st).bind blsW with
  | some is => some (.bl (is.any id), st)
  | none => none
theorem cw_any (hK : X.K = B.K) (hc : X.calm = true) : CallW B X (.builtin "any") (un1 anyW) := by
  refine cw_un1 fun pins s σ H x u Q ρ st a I ru hs ra q => ?_
  simp only [anyW] at q
  split at q
  · rename_i is e
    obtain ⟨ws, e1, e2⟩ := Option.bind_eq_some_iff.mp e
    obtain ⟨p, vs, rfl, h1, h2⟩ := lstOf_r hs ra e1
    rw [blsW_r h2 e2, ← hK] at h1
    exact cr_any hc pins s σ H _ _ Q I (v1 ru) ⟨p, is, rfl, h1, post_here q hs (.bl _)⟩
  · exact q.elim
end

/-! ### methods of builtin types -/
/-- the kind of what a method is asked of -/
inductive Kd where
  | str | int | list | dict
  deriving DecidableEq
def Kd.T : Kd → String
  | .str => "str" | .int => "int" | .list => "list" | .dict => "dict"
def kdOf (a : W) (st : Store) : Option Kd := match a with
  | .str _ => some .str
  | .int _ => some .int
  | .klst _ => some .list
  | .ref n => match st[n]? with
    | some (.lst _) => some .list
    | some (.dct _) => some .dict
    | some (.dcT _) => some .dict
    | _ => none
  | _ => none
theorem kdOf_r {B : Bk} {ρ : List Addr} {H : Hp} {st : Store} {v : V} {w : W} {kd : Kd} (hs : StR B ρ H st) (r : RW B ρ H v w) (h : kdOf w st = some kd) : tyV B.K kd.T v H := by
  cases r with
  | str s => cases h; exact (rfl : Kd.str.T = "str")
  | int s => cases h; exact (rfl : Kd.int.T = "int")
  | klst h1 h2 => cases h; exact .inl ⟨rfl, _, h1.seq⟩
  | @ref p n e =>
    simp only [kdOf] at h
    split at h
    · rename_i ws es
      cases h
      obtain ⟨vs, h1, h2⟩ := hs.at_ n p _ e es
      exact .inl ⟨rfl, _, SqL.of h1⟩
    · rename_i ws es
      cases h
      obtain ⟨vs, h1, h2⟩ := hs.at_ n p _ e es
      exact .inr (.inr (.inl ⟨rfl, .inl ⟨_, h1⟩⟩))
    · rename_i ws es
      cases h
      obtain ⟨vs, h1, h2⟩ := hs.at_ n p _ e es
      exact .inr (.inr (.inl ⟨rfl, .inr ⟨_, h1⟩⟩))
    · cases h
  | _ => cases h
abbrev WM := Kd → Option (W → List W → Store → Opt)
/-- what a method does, by the kind of its object -/
structure MethW (B : Bk) (X : Cx) (name : Str) (g : WM) : Prop where
  run : ∀ (kd : Kd) (f : W → List W → Store → Opt), g kd = some f → ∃ id : String, PlainAttrs kd.T ∧ Slot kd.T name id ∧ typeOf (.builtin id) = pure (.type "method_descriptor") ∧
    ∀ (pins : List (Addr × Obj)) (s : Shared) (σ : St) (H : Hp) (x : V) (xs : List V) (v : Value) (us : List Value) (Q : VK) (ρ : List Addr) (st : Store) (a : W) (as : List W), Inv X pins σ H s → RelV x v → Vals xs us → StR B ρ H st → RW B ρ H x a → RWs B ρ H xs as →
      PostE B (fun _ _ _ => False) ρ H (liftO (f a as st)) Q → wpAny (model X.prog X.w) X.A (call (.builtin id) (v :: us)) (EP X pins σ Q) X.xe s
def methF (g : WM) (a : SE) (l : SL) : SE := fun Φ env st => (a Φ env st).bind fun x st1 => match (kdOf x st1).bind g with
  | some f => (l Φ env st1).bind fun xs st2 => liftO (f x xs st2)
  | none => .bad
section
variable {G : Glb} {B : Bk} {k : Nat} {N : List Str} {sc : Scope}
def notCall : Expr → Bool
  | .Call _ _ _ _ => false
  | _ => true
/-- no super() is the object -/
def baseOk : Expr → Bool
  | .Call (.Name id _) [] [] _ => !(id == ("super" : Str))
  | _ => true
theorem baseOk_ok {e : Expr} (h : baseOk e = true) (m : Str) (env : PySem.Env) (whole : Sem Value) : attributeBase e m env whole = whole := by
  unfold attributeBase
  split
  · rename_i id p1 p2
    have h1 : (!(id == ("super" : Str))) = true := h
    have h2 : (id != ("super" : Str)) = true := by rw [bne, h1]
    simp [h2]
  · rfl
theorem few_plain {es : List Expr} {pos : Pos} {env : PySem.Env} (h : es.all noStar = true) : (backTo pos (starEach es env)).all (fun x => !x.1) = true := by
  induction es with
  | nil => rfl
  | cons a r ih =>
    rw [List.all_cons, Bool.and_eq_true] at h
    rw [noStar_ok h.1 r env]
    show (true && (backTo pos (starEach r env)).all (fun x => !x.1)) = true
    rw [ih h.2]; rfl
theorem snd_meth {o e : Expr} {es : List Expr} {name : Str} {apos pos : Pos} {g : WM} {fa : SE} {fl : SL} (hm : ∀ (Φ : Phi) (Wx : WX) (X : Cx), GX G B Φ k N Wx sc X → MethW B X name g) (hb : baseOk o = true) (hl : (apos.endLine == pos.line) = true)
    (hn : (e :: es).all noStar = true) (hlen : (e :: es).length < 30) (ha : Snd G B k N sc o fa) (hl' : SndL G B k N sc (e :: es) fl) : Snd G B k N sc (.Call (.Attribute o name apos) (e :: es) [] pos) (methF g fa fl) := by
  refine ⟨fun Φ Wx X gx => ⟨fun pins s σ H Q I q => ?_⟩⟩
  obtain ⟨ρ, env, st, he, hs, q⟩ := q
  have hfew : ((backTo pos (starEach (e :: es) X.env)).all (fun x => !x.1) && (backToKw pos (keywordEach [] X.env)).all (fun x => x.1.isSome) && decide ((e :: es).length + ([] : List Keyword).length + (if ([] : List Keyword).isEmpty then 0 else 1) < 30)) = true := by
    rw [few_plain hn]
    simp only [keywordEach, backToKw, List.map_nil, List.all_nil, Bool.true_and, List.length_nil, List.isEmpty_nil, if_true, Nat.add_zero, decide_eq_true_eq]
    exact hlen
  refine wpAny_Call_method_late (baseOk_ok hb _ _ _) hfew hl rfl (thn ((ha.pe Φ Wx X gx).run pins s σ H _ I (tX_bind he hs q)) fun v s1 ⟨x, H1, I1, r1, ρ1, st1, a, a1, a2, he1, hs1, ra, q1⟩ => ?_)
  split at q1
  · rename_i f ef
    obtain ⟨kd, e1, e2⟩ := Option.bind_eq_some_iff.mp ef
    obtain ⟨id, pa, slot, hty, run⟩ := (hm Φ Wx X gx).run kd f e2
    obtain ⟨h1, h2⟩ := tyV_is I1 r1 (by rw [gx.K]; exact kdOf_r hs1 ra e1)
    refine ⟨kd.T, id, pa, slot, hty, h1, h2, ?_⟩
    have hA := (hl'.pa Φ Wx X gx).run pos pins s1 σ H1 _ I1 (tX_bind he1 hs1 q1)
    rw [List.all_cons, Bool.and_eq_true] at hn
    rw [noStar_ok hn.1] at hA ⊢
    refine Calls.callWith_builtin (by show (false || (backTo pos (starEach es X.env)).any (·.1)) = false; rw [backTo_plain (e := e) hn.2] <;> rfl) (Calls.evalArgs_plain ?_)
    exact thn hA fun us s2 ⟨vs, H2, I2, r2, ρ2, st2, as, b1, b2, he2, hs2, rs, q2⟩ => run pins s2 σ H2 x vs v us Q ρ2 st2 a as I2 r1 r2 hs2 (ra.mono b1 b2) rs (post_lift q2)
  · exact q1.elim
theorem snd_meth0 {o : Expr} {name : Str} {apos pos : Pos} {g : WM} {fa : SE} (hm : ∀ (Φ : Phi) (Wx : WX) (X : Cx), GX G B Φ k N Wx sc X → MethW B X name g) (hb : baseOk o = true) (hl : (apos.endLine == pos.line) = true)
    (ha : Snd G B k N sc o fa) : Snd G B k N sc (.Call (.Attribute o name apos) [] [] pos) (methF g fa nilL) := by
  refine ⟨fun Φ Wx X gx => ⟨fun pins s σ H Q I q => ?_⟩⟩
  obtain ⟨ρ, env, st, he, hs, q⟩ := q
  refine wpAny_Call_method0_late (baseOk_ok hb _ _ _) hl (thn ((ha.pe Φ Wx X gx).run pins s σ H _ I (tX_bind he hs q)) fun v s1 ⟨x, H1, I1, r1, ρ1, st1, a, a1, a2, he1, hs1, ra, q1⟩ => ?_)
  split at q1
  · rename_i f ef
    obtain ⟨kd, e1, e2⟩ := Option.bind_eq_some_iff.mp ef
    obtain ⟨id, pa, slot, hty, run⟩ := (hm Φ Wx X gx).run kd f e2
    obtain ⟨h1, h2⟩ := tyV_is I1 r1 (by rw [gx.K]; exact kdOf_r hs1 ra e1)
    exact ⟨kd.T, id, pa, slot, hty, h1, h2, Calls.callWith_builtin rfl (PySem.evalArgs_none (run pins s1 σ H1 x [] v [] Q ρ1 st1 a [] I1 r1 .nil hs1 ra .nil (post_lift q1)))⟩
  · exact q1.elim
end

/-- xs.append(x) -/
def appendL : W → List W → Store → Opt := fun a as st => match a, as with
  | .ref n, [x] => match lstAt (.ref n) st with
    | some ws => if ws.length < slBound then some (.non, st.set n (.lst (ws ++ [x]))) else none
    | none => none
  | _, _ => none
def appendM : WM := fun kd => match kd with
  | .list => some appendL
  | _ => none
section
variable {B : Bk} {X : Cx}
theorem mw_append (hK : X.K = B.K) : MethW B X "append" appendM := by
  refine ⟨fun kd f e => ?_⟩
  cases kd <;> simp only [appendM, Option.some.injEq, reduceCtorEq] at e
  subst e
  refine ⟨"list.append", PySem.F.plainAttrs_list, PySem.F.slot_list_append, PySem.F.type_list_append, fun pins s σ H x xs v us Q ρ st a as I rx rxs hs ra ras q => ?_⟩
  cases ra with
  | @ref p n e =>
    cases ras with
    | nil => exact q.elim
    | @cons y _ w _ r1 r2 =>
      cases r2 with
      | cons _ _ => exact q.elim
      | nil =>
        simp only [appendL] at q
        split at q
        · rename_i ws e1
          split at q
          · rename_i hz
            obtain ⟨_, _, vs, ew, ev, e2, _, h1, h2⟩ := lstAt_r hs (.ref e) e1
            cases ew; cases ev
            exact mt_append pins s σ H _ _ v us Q I rx rxs ⟨p, vs, y, rfl, rfl, h1, by rw [h2.length]; exact slb' hz, end_set q hs e (h2.app (.cons r1 .nil)) .non h1⟩
          · exact q.elim
        · exact q.elim
  | _ => exact q.elim
end
end Zf
namespace Zf
open PySem L2
open PyProof.Rows hiding St

section
variable {G : Glb} {B : Bk} {k : Nat} {N : List Str} {sc : Scope}

/-! ### calls of the module's defs -/
theorem valsGetD {vs : List V} {us : List Value} (h : Vals vs us) : ∀ i : Nat, RelV (vs.getD i .non) (us.getD i .none) := fun i => by
  induction h generalizing i with
  | nil => exact rfl
  | cons r _ ih =>
    cases i with
    | zero => exact r
    | succ i => exact ih i
theorem valsPick {vs : List V} {us : List Value} (h : Vals vs us) : ∀ src : List Nat, Vals (pick .non src vs) (pick .none src us)
  | [] => .nil
  | i :: r => .cons (valsGetD h i) (valsPick h r)
theorem RWs.getD' {ρ : List Addr} {H : Hp} {vs : List V} {ws : List W} (h : RWs B ρ H vs ws) : ∀ i : Nat, RW B ρ H (vs.getD i .non) (ws.getD i .non) := fun i => by
  cases e : ws[i]? with
  | none =>
    have e2 : vs[i]? = none := by
      rw [List.getElem?_eq_none_iff] at e ⊢
      rw [h.length]; exact e
    rw [List.getD_eq_getElem?_getD, List.getD_eq_getElem?_getD, e, e2]
    exact .non
  | some w =>
    obtain ⟨v, h1, h2⟩ := h.get e
    rw [List.getD_eq_getElem?_getD, List.getD_eq_getElem?_getD, e, h1]
    exact h2
theorem RWs.pick {ρ : List Addr} {H : Hp} {vs : List V} {ws : List W} (h : RWs B ρ H vs ws) : ∀ src : List Nat, RWs B ρ H (pick .non src vs) (pick .non src ws)
  | [] => .nil
  | i :: r => .cons (h.getD' i) (RWs.pick h r)
theorem pick_length {α : Type} (d : α) (src : List Nat) (xs : List α) : (pick d src xs).length = src.length := by simp [pick]

theorem run_def {Φ : Phi} {Wx : WX} {X : Cx} (gx : GX G B Φ k N Wx sc X) {i : Nat} {f : FnI} {a : Addr} {fd : FuncData} {c : Shape} (F : FnG X.prog X.w B.K X.mg X.base k a fd f.ps (spOf B (Φ i) f.ps.length)) (hl : c.src.length = f.ps.length)
    (hb : ∀ (s : Shared) (us ws : List Value), B.K.In s.heap → us.length = c.npos → ws.length = c.ks.length → BindsTo s fd ⟨us, c.ks.zip ws⟩ (f.ps.zip (pick .none c.src (us ++ ws))))
    {pins : List (Addr × Obj)} {s : Shared} {σ : St} {H : Hp} {Q : VK} {us ws : List Value} {vs zs : List V} {ρ : List Addr} {st : Store} {as bs : List W} (I : Inv X pins σ H s) (r : Vals vs us) (rz : Vals zs ws) (hu : us.length = c.npos) (hw : ws.length = c.ks.length)
    (hs : StR B ρ H st) (ra : RWs B ρ H vs as) (rb : RWs B ρ H zs bs) (q : PostE B (fun cl d H' => Wx cl d σ H') ρ H (Φ i (pick .non c.src (as ++ bs)) st) Q) :
    wpAny (model X.prog X.w) X.A (call (.ref a) us (c.ks.zip ws)) (EP X pins σ Q) X.xe s := by
  have kin : B.K.In s.heap := by rw [← gx.K]; exact I.kIn
  have e0 : Env0 X.prog X.w B.K X.mg X.base X.A X.stack s H := by rw [← gx.K]; exact I.env0
  refine wpAny_call (codeAny_mono (F.run X.A X.stack s H ⟨us, c.ks.zip ws⟩ (pick .none c.src (us ++ ws)) (pick .non c.src (vs ++ zs)) Q (fun cl d H' => Wx cl d σ H') gx.room2 gx.gd e0 (hb s us ws kin hu hw) (valsPick (r.append rz) c.src)
    ⟨by rw [pick_length, hl], ρ, _, st, (ra.app rb).pick c.src, hs, q⟩) fun r s' hq => ?_)
  cases r with
  | error e => exact gx.tk _ _ (XE.of_call I (fun _ _ _ h => h) hq)
  | ok fl =>
    cases fl with
    | ret u => exact I.after hq
    | next => exact False.elim hq
    | brk => exact False.elim hq
    | cont => exact False.elim hq

/-- the keywords' values -/
structure SndK (G : Glb) (B : Bk) (k : Nat) (N : List Str) (sc : Scope) (kws : List Keyword) (F : SL) : Prop where
  pk : ∀ (Φ : Phi) (Wx : WX) (X : Cx), GX G B Φ k N Wx sc X → PK X kws (tL B Wx (F Φ))
theorem PK.imp {X : Cx} {kws : List Keyword} {t t' : TA} (h : PK X kws t) (hi : ∀ σ H Q, t' σ H Q → t σ H Q) : PK X kws t' := ⟨fun pos pins s σ H Q I q => h.run pos pins s σ H Q I (hi σ H Q q)⟩
theorem sndK_nil : SndK G B k N sc [] nilL := by
  refine ⟨fun Φ Wx X g => PK.imp pk_nil fun σ H Q q => ?_⟩
  obtain ⟨ρ, env, st, he, hs, q⟩ := q
  exact q ρ H [] (List.prefix_refl _) (.refl _) hs .nil
theorem sndK_cons {nm : Option Str} {a : Expr} {kpos : Pos} {es : List Keyword} {fa : SE} {fb : SL} (ha : Snd G B k N sc a fa) (hb : SndK G B k N sc es fb) : SndK G B k N sc (⟨nm, a, kpos⟩ :: es) (consL fa fb) := by
  refine ⟨fun Φ Wx X g => PK.imp (pk_cons (ha.pe Φ Wx X g) (hb.pk Φ Wx X g)) fun σ H Q q => ?_⟩
  obtain ⟨ρ, env, st, he, hs, q⟩ := q
  refine tX_imp (tX_bind he hs q) fun v H1 ⟨ρ1, st1, a, a1, a2, he1, hs1, r1, q1⟩ => ?_
  refine tX_imp (tX_bind he1 hs1 q1) fun vs H2 ⟨ρ2, st2, as, b1, b2, he2, hs2, r2, q2⟩ => ?_
  exact q2 ρ2 H2 (v :: vs) (List.prefix_refl _) (.refl _) hs2 (.cons (r1.mono b1 b2) r2)
/-- the keywords' names -/
def kwNm : List Keyword → Option (List Str)
  | [] => some []
  | ⟨some x, _, _⟩ :: r => (kwNm r).map (x :: ·)
  | ⟨none, _, _⟩ :: _ => none
theorem kw_all {pos : Pos} {env : PySem.Env} : ∀ {kws : List Keyword} {ks : List Str}, kwNm kws = some ks → (backToKw pos (keywordEach kws env)).all (·.1.isSome) = true ∧ (backToKw pos (keywordEach kws env)).any (·.1.isNone) = false ∧ (backToKw pos (keywordEach kws env)).filterMap (·.1) = ks
  | [], ks, h => by cases h; exact ⟨rfl, rfl, rfl⟩
  | ⟨some x, e, p⟩ :: r, ks, h => by
    simp only [kwNm, Option.map_eq_some_iff] at h
    obtain ⟨l, h1, h2⟩ := h
    subst h2
    obtain ⟨a, b, c⟩ := kw_all (pos := pos) (env := env) h1
    exact ⟨(show (true && (backToKw pos (keywordEach r env)).all (·.1.isSome)) = true by rw [a]; rfl), (show (false || (backToKw pos (keywordEach r env)).any (·.1.isNone)) = false by rw [b]; rfl),
      (show x :: (backToKw pos (keywordEach r env)).filterMap (·.1) = x :: l by rw [c])⟩
  | ⟨none, e, p⟩ :: r, ks, h => by cases h
theorem kwLen : ∀ {kws : List Keyword} {ks : List Str}, kwNm kws = some ks → kws.length = ks.length
  | [], ks, h => by cases h; rfl
  | ⟨some x, e, p⟩ :: r, ks, h => by
    simp only [kwNm, Option.map_eq_some_iff] at h
    obtain ⟨l, h1, h2⟩ := h
    subst h2
    simp [kwLen h1]
  | ⟨none, e, p⟩ :: r, ks, h => by cases h
/-- which def by its name, by which shape -/
structure CallOk (G : Glb) (sc : Scope) (x : Str) (i : Nat) (f : FnI) (c : Shape) : Prop where
  hi : G.fns[i]? = some f
  hx : f.name = x
  hc : c ∈ G.shapes
  hcf : c.fn = i
  hl : c.src.length = f.ps.length
  hg : glbB sc x = true
  hd : notDbg x = true
/-- the last step of a call -/
theorem call_end {Φ : Phi} {Wx : WX} {X : Cx} (gx : GX G B Φ k N Wx sc X) {x : Str} {i : Nat} {f : FnI} {c : Shape} {p : Pos} (ok : CallOk G sc x i f c) {pins : List (Addr × Obj)} {s : Shared} {σ : St} {H : Hp} {Q : VK} (I : Inv X pins σ H s)
    {R : Value → Shared → Prop} (h : ∀ a : Addr, PySem.W.keepIn X.K (.ref a) = true → (∀ {s : Shared} {H : Hp} {us ws : List Value} {vs zs : List V} {ρ : List Addr} {st : Store} {as bs : List W}, Inv X pins σ H s → Vals vs us → Vals zs ws → StR B ρ H st → RWs B ρ H vs as → RWs B ρ H zs bs →
      PostE B (fun cl d H' => Wx cl d σ H') ρ H (if as.length = c.npos ∧ bs.length = c.ks.length then Φ i (pick .non c.src (as ++ bs)) st else .bad) Q → wpAny (model X.prog X.w) X.A (call (.ref a) us (c.ks.zip ws)) (EP X pins σ Q) X.xe s) → R (.ref a) s) :
    wpAny (model X.prog X.w) X.A (eval (.Name x p) X.env) R X.xe s := by
  obtain ⟨a, fd, hm, hkp, F, hsh⟩ := gx.gk.fn i f ok.hi
  refine ld_glob I (glbB_ok (by rw [gx.sc]; exact ok.hg)) (by rw [← ok.hx]; exact hm) (h a (by rw [gx.K]; exact hkp) fun I2 r rz hs ra rb q => ?_) (notDbg1 ok.hd)
  split at q
  · rename_i hl
    exact run_def gx F ok.hl (hsh c ok.hc ok.hcf) I2 r rz (by rw [← r.length, ra.length]; exact hl.1) (by rw [← rz.length, rb.length]; exact hl.2) hs ra rb q
  · exact q.elim
def callF (i : Nat) (c : Shape) (l : SL) (lk : SL) : SE := fun Φ env st => (l Φ env st).bind fun xs st1 => (lk Φ env st1).bind fun ys st2 => if xs.length = c.npos ∧ ys.length = c.ks.length then Φ i (pick .non c.src (xs ++ ys)) st2 else .bad
theorem snd_call {x : Str} {i : Nat} {f : FnI} {c : Shape} {e : Expr} {es : List Expr} {p pos : Pos} {fl : SL} (ok : CallOk G sc x i f c) (hks : c.ks = []) (hn : (e :: es).all noStar = true) (ha : SndL G B k N sc (e :: es) fl) :
    Snd G B k N sc (.Call (.Name x p) (e :: es) [] pos) (callF i c fl nilL) := by
  refine ⟨fun Φ Wx X gx => ⟨fun pins s σ H Q I q => ?_⟩⟩
  obtain ⟨ρ, env, st, he, hs, q⟩ := q
  refine wpAny_Call_Name_kw (call_end (Q := Q) gx ok I fun a hk run => ?_)
  rw [List.all_cons, Bool.and_eq_true] at hn
  refine PySem.W.callWith_K (h₀ := X.base) I.ok.mod.kin hk (thn ((ha.pa Φ Wx X gx).run pos pins s σ H _ I (tX_bind he hs q)) fun us s1 ⟨vs, H1, I1, r, ρ1, st1, as, b1, b2, he1, hs1, rs, q1⟩ => ⟨I1.kIn, ?_⟩) (noStar_ok hn.1 _ _) (backTo_plain (e := e) hn.2)
  have h := run I1 r (.nil : Vals [] []) hs1 rs .nil q1
  rw [hks] at h
  exact h
theorem snd_call0 {x : Str} {i : Nat} {f : FnI} {c : Shape} {p pos : Pos} (ok : CallOk G sc x i f c) (hks : c.ks = []) : Snd G B k N sc (.Call (.Name x p) [] [] pos) (callF i c nilL nilL) := by
  refine ⟨fun Φ Wx X gx => ⟨fun pins s σ H Q I q => ?_⟩⟩
  obtain ⟨ρ, env, st, he, hs, q⟩ := q
  refine wpAny_Call_Name_kw (call_end (Q := Q) gx ok I fun a hk run => ?_)
  have h := run I (.nil : Vals [] []) (.nil : Vals [] []) hs .nil .nil q
  rw [hks] at h
  exact PySem.W.callWith_K0 I.kIn hk h
theorem snd_callK {x : Str} {i : Nat} {f : FnI} {c : Shape} {e : Expr} {es : List Expr} {kws : List Keyword} {p pos : Pos} {fl fk : SL} (ok : CallOk G sc x i f c) (hks : kwNm kws = some c.ks) (hn : (e :: es).all noStar = true) (ha : SndL G B k N sc (e :: es) fl) (hkw : SndK G B k N sc kws fk) :
    Snd G B k N sc (.Call (.Name x p) (e :: es) kws pos) (callF i c fl fk) := by
  refine ⟨fun Φ Wx X gx => ⟨fun pins s σ H Q I q => ?_⟩⟩
  obtain ⟨ρ, env, st, he, hs, q⟩ := q
  refine wpAny_Call_Name_kw (call_end (Q := Q) gx ok I fun a hk run => ?_)
  rw [List.all_cons, Bool.and_eq_true] at hn
  obtain ⟨kw1, kw2, kw3⟩ := kw_all (pos := pos) (env := X.env) hks
  refine PySem.W.callWith_KW (h₀ := X.base) I.ok.mod.kin hk kw1 (thn ((ha.pa Φ Wx X gx).run pos pins s σ H _ I (tX_bind he hs q)) fun us s1 ⟨vs, H1, I1, r, ρ1, st1, as, b1, b2, he1, hs1, rs, q1⟩ => ?_) ?_ (noStar_ok hn.1 _ _)
  · refine thn ((hkw.pk Φ Wx X gx).run pos pins s1 σ H1 _ I1 (tX_bind he1 hs1 q1)) fun ws s2 ⟨zs, H2, I2, rz, ρ2, st2, bs, c1, c2, he2, hs2, rb, q2⟩ => ⟨I2.kIn, ?_⟩
    rw [kw3]
    exact run I2 r rz hs2 (rs.mono c1 c2) rb q2
  · rw [noStar_ok hn.1 es X.env]
    show ((false || (backTo pos (starEach es X.env)).any (·.1)) || _) = false
    rw [backTo_plain (e := e) hn.2, kw2]; rfl
theorem snd_callK0 {x : Str} {i : Nat} {f : FnI} {c : Shape} {kws : List Keyword} {p pos : Pos} {fk : SL} (ok : CallOk G sc x i f c) (hks : kwNm kws = some c.ks) (hkw : SndK G B k N sc kws fk) :
    Snd G B k N sc (.Call (.Name x p) [] kws pos) (callF i c nilL fk) := by
  refine ⟨fun Φ Wx X gx => ⟨fun pins s σ H Q I q => ?_⟩⟩
  obtain ⟨ρ, env, st, he, hs, q⟩ := q
  refine wpAny_Call_Name_kw (call_end (Q := Q) gx ok I fun a hk run => ?_)
  obtain ⟨kw1, kw2, kw3⟩ := kw_all (pos := pos) (env := X.env) hks
  refine PySem.W.callWith_KW0 (h₀ := X.base) I.ok.mod.kin hk kw1 ?_ (by show (false || _) = false; rw [kw2]; rfl)
  have q : PostE B (fun c d H' => Wx c d σ H') ρ H ((fk Φ env st).bind fun ys st2 => if ([] : List W).length = c.npos ∧ ys.length = c.ks.length then Φ i (pick .non c.src ([] ++ ys)) st2 else .bad) Q := q
  refine thn ((hkw.pk Φ Wx X gx).run pos pins s σ H _ I (tX_bind he hs q)) fun ws s2 ⟨zs, H2, I2, rz, ρ2, st2, bs, c1, c2, he2, hs2, rb, q2⟩ => ⟨I2.kIn, ?_⟩
  rw [kw3]
  exact run I2 (.nil : Vals [] []) rz hs2 .nil rb q2
end
end Zf
namespace PySem.W
open PySem PySem.Spec PySem.Calls PyProof.Rows
section
variable {prog : Program} {w : World} {A : Around} {E : Value → Shared → Prop} {s : Shared} {K : Frag} {x D : Addr} {ox : Obj} {od : Option Obj}
theorem zf_findObj_data {C : Addr} {od : Option Obj} {name : Str} {a g : Value} (hc : (clsIn K C).isSome = true) (ha : findIn K (.ref C) name = some (some a)) (hg : specialIn K a "__get__" = some (some g)) (ht : takesIn K a = some true) : findObj K C od name = some (.bind g a) := by
  obtain ⟨cd, hc⟩ := Option.isSome_iff_exists.mp hc
  show ((clsIn K C).bind fun cd => _) = _
  rw [hc, Option.bind_some, ha, Option.bind_some]; simp [hg, ht]
/-- e.__class__ of an exception whatever its dict is -/
theorem zf_exc_class {Q : Option Value → Shared → Prop} (T : L2.ExcC K D) (X : K.In s.heap) (I : InstAt s.heap x ox D od) (h : Q (some (.ref D)) { s with toks := s.toks + 1 }) : wpAny (model prog w) A (getAttr? (.ref x) "__class__") Q E s := by
  have hf : findObj K D od "__class__" = some (.bind (.builtin "getset_descriptor.__get__") (.builtin "object.__class__")) := zf_findObj_data (by obtain ⟨cd, hc, _⟩ := any_some T.hd; rw [hc]; rfl) T.ha T.hn T.ht
  obtain ⟨hp, g, d, t, os⟩ := s; have L0 := I.type (M := model prog w); have L1 := looks_findIn (M := model prog w) X T.hg; have L2 := looks_findIn (M := model prog w) X T.hk
  have L3 := looks_find (M := model prog w) X I hf; have sub : Looks (model prog w) hp (isInstance (.ref x) (.type "BaseException")) true := L0.andThen (looks_subIn X T.hs)
  have hx0 : (false && onTheHeap (Value.builtin "BaseException.__getattribute__")) = false := rfl; have hx2 : (Value.builtin "BaseException.__getattribute__" == Value.builtin "object.__getattribute__") = false := by decide +kernel
  have hx1 : (onTheHeap (Value.ref D) && Value.builtin "BaseException.__getattribute__" == Value.builtin "object.__getattribute__") = false := by rw [hx2] <;> rfl
  unfold getAttr? getAttrBy? getAttrBy; refine wpAny_bind (wpAny_mkText (wpAny_bind (wpAny_attempt (wpAny_holding (wpAny_bind (L0.at (wpAny_bind (L1.at ?_))))))))
  show wpAny _ _ (ite ((onTheHeap (Value.ref D) && Value.builtin "BaseException.__getattribute__" == Value.builtin "object.__getattribute__") = true) _ _) _ _ _
  rw [hx1, if_neg Bool.false_ne_true]; unfold getAttrByItsOwn hookBefore; refine wpAny_bind ?_; rw [if_pos (show onTheHeap (Value.ref D) = true from rfl)]; refine L2.at ?_
  refine wpAny_bind (wpAny_attempt (wpAny_holding ?_)); unfold callGetattribute; rw [hx0, if_neg Bool.false_ne_true]; unfold boundAndCalled; rw [PySem.F.excAttr_ValueError.ga.bind (.ref x)]; refine wpAny_bind (wpAny_pure ?_)
  show wpAny _ _ (call (Value.builtin "BaseException.__getattribute__") [Value.ref x, Value.str "__class__" t]) _ _ _
  refine wpAny_call (codeAny_call_builtin PySem.F.excAttr_ValueError.ga.plain PySem.F.entry_bexc_ga ?_)
  refine @check_slot (model prog w) _ _ (Shared.mk hp g d (t + 1) os) "BaseException.__getattribute__" "BaseException" "__getattribute__" (Value.ref x)
    [Value.str "__class__" t] [] _ (by decide +kernel) (by decide +kernel) sub (PySem.F.args_bexc_ga (Value.ref x) (Value.str "__class__" t)) ?_
  unfold Builtin.«object.__getattribute__»; refine wpAny_bind (wpAny_of_eq (a := ((Value.ref x : Value), [Value.str "__class__" t])) (by first | rfl | (simp only [slotArgs]; rfl)) ?_)
  refine wpAny_bind (wpAny_pure (wpAny_bind (L0.at (wpAny_bind (L3.at ?_)))))
  show wpAny _ _ (holding [Value.builtin "object.__class__"] (call (Value.builtin "getset_descriptor.__get__") [Value.builtin "object.__class__", Value.ref x, Value.ref D]) >>= ret) _ _ _
  refine wpAny_bind (wpAny_holding (wpAny_call (class_get (s := ⟨hp, g, d, t + 1, os⟩) (ox := ox) (od := od) X I T.hm ?_))); refine wpAny_pure ?_
  show wpAny _ _ (handedOut (Value.ref D)) _ _ _
  rw [handedOut_of (v := Value.ref D) rfl]
  first
    | exact wpAny_pure (wpAny_pure h) | exact wpAny_pure h | exact wpAny_pure (wpAny_bind (wpAny_pure (wpAny_pure h)))
theorem zf_kitx_err (T : L2.ExcC K D) : KitX K (.ref x) (.ref D) (fun h => ∃ ox od, InstAt h x ox D od) where
  ty := fun _ _ _ ⟨_, _, I⟩ => I.type
  it := fun _ _ X _ => by
    obtain ⟨cdD, hcD, _⟩ := any_some T.hd; unfold clsIn at hcD
    split at hcD
    · rename_i c' d' cd' sl' ho
      intro A' Q' E' s' k q; unfold isType loadHead; exact wpAny_bind (wpAny_loadPart (k _ _ (X _ _ ho)) (wpAny_pure q))
    · cases hcD
  ne := fun h tp dd its n sl X htp => by
    obtain ⟨cdD, hcD, _⟩ := any_some T.hd
    refine Bool.eq_false_iff.mpr fun q => ?_
    have e : D = tp := Value.ref.inj (beq_iff_eq.mp q)
    subst e; unfold clsIn at hcD
    split at hcD
    · rename_i c' d' cd' sl' ho
      cases (X _ _ ho).symm.trans htp
    · cases hcD
  ca := fun X ⟨_, _, I⟩ k => zf_exc_class T X I k
end
end PySem.W

namespace Zf
open PySem L2
open PyProof.Rows hiding St

/-! ### isinstance -/
def Ty.sub (a b : Ty) : Bool := match a, b with
  | .bool, .int => true
  | a, b => decide (a = b)
theorem Ty.sub_ok {K : PySem.W.Frag} (a b : Ty) : PySem.W.kitOne K (.type a.nm) (.type b.nm) = some (a.sub b) := by
  refine kit_ty ?_
  cases a <;> cases b <;> decide +kernel
def tyW (w : W) (st : Store) : Option (Ty ⊕ Nat) := match w with
  | .non => some (.inl .none)
  | .bl _ => some (.inl .bool)
  | .int _ => some (.inl .int)
  | .str _ => some (.inl .str)
  | .tup _ => some (.inl .tuple)
  | .klst _ => some (.inl .list)
  | .ref n => match st[n]? with
    | some (.lst _) => some (.inl .list)
    | some (.dct _) => some (.inl .dict)
    | some (.dcT _) => some (.inl .dict)
    | some (.ldct _) => some (.inl .dict)
    | _ => none
  | .exc c _ => some (.inr c)
  | .clo _ => none
/-- a class: a type, one's own by its number, one of Python's by its number -/
inductive Cl where
  | ty (t : Ty) | own (c : Nat) | py (j : Nat)
def isiW (G : Glb) (w : W) (st : Store) (c : Cl) : Option Bool := match tyW w st, c with
  | some (.inl t), .ty u => some (t.sub u)
  | some (.inl _), .own _ => some false
  | some (.inr e), .own c => G.subAt e c
  | some (.inr e), .py j => (G.pys[j]?).bind fun p => p.2.2[e]?
  | _, _ => none
def isiAny (G : Glb) (w : W) (st : Store) : List Cl → Option Bool
  | [] => (tyW w st).map fun _ => false
  | c :: r => match isiW G w st c with
    | some true => some true
    | some false => isiAny G w st r
    | none => none
/-- a value's type in the model -/
inductive TyM (K : PySem.W.Frag) (H : Hp) : V → Value → Prop where
  | x {v : V} {t : Value} (h : TyX K H v t) : TyM K H v t
  | err {a C d : Addr} (h : H a = some (ExA C d a)) (hd : ∃ fs, H d = some (.xd fs)) (T : ExcC K C) : TyM K H (.ref a) (.ref C)
section
variable {X : Cx} {pins : List (Addr × Obj)} {σ : St} {H : Hp} {s : Shared}
theorem kit_m {x : V} {u t : Value} (I : Inv X pins σ H s) (rx : RelV x u) (ty : TyM X.K H x t) : ∃ P : Heap → Prop, PySem.W.KitX X.K u t P ∧ P s.heap ∧ u ≠ .builtin "__main__.__loader__#opaque" := by
  cases ty with
  | x h => exact kit_of I rx h
  | @err a C d h hd T =>
    cases (show u = Value.ref a from rx)
    refine ⟨_, PySem.W.zf_kitx_err (x := a) T, ?_, fun z => nomatch z⟩
    obtain ⟨⟨oe, vs, e1, e2, e3⟩, _, _⟩ := (show ObjOk X.prog X.w H s.heap a (ExA C d a) from I.hok a _ h)
    obtain ⟨fs, hd⟩ := hd
    obtain ⟨od, e4⟩ := (show ∃ o, s.heap.get? d = some o by
      obtain ⟨mA, ⟨o, _, _, ho, _⟩, _⟩ := (show ObjOk X.prog X.w H s.heap d (.xd fs) from I.hok d _ hd)
      exact ⟨o, ho⟩)
    refine ⟨oe, some od, e1, e2.1, by unfold PySem.W.notCls; rw [e3], ?_⟩
    rw [e2.2]
    exact e4
def rIsM (K : PySem.W.Frag) : List V → Hp → VK → Prop := fun xs H Q => ∃ (x c : V) (t u : Value) (b : Bool), xs = [x, c] ∧ ClsV c u ∧ TyM K H x t ∧ PySem.W.kitOne K t u = some b ∧ Q (.bl b) H
def rIsMT (K : PySem.W.Frag) : List V → Hp → VK → Prop := fun xs H Q => ∃ (x : V) (tp : Addr) (cs : List V) (t : Value) (us : List Value) (b : Bool), xs = [x, .ref tp] ∧ H tp = some (.tup cs) ∧ Paired ClsV cs us ∧ TyM K H x t ∧ PySem.W.kitAny K t us = some b ∧ Q (.bl b) H
theorem call_isM : CallR X (.builtin "isinstance") (rIsM X.K) := fun pins s σ H xs us Q I r ⟨x, c, t, u, b, ex, k, ty, e, q⟩ => by
  subst ex
  obtain ⟨u1, u2, eu, r1, r2⟩ := vals2 r
  subst eu
  obtain ⟨P, Z, p, hx⟩ := kit_m I r1 ty
  rw [k.eq r2]
  exact PySem.W.kia_one Z I.kIn p e hx fun tk => ⟨.bl b, H, I.tok tk, rfl, q⟩
theorem call_isMT : CallR X (.builtin "isinstance") (rIsMT X.K) := fun pins s σ H xs us Q I r ⟨x, tp, cs, t, ws, b, ex, hT, k, ty, e, q⟩ => by
  subst ex
  obtain ⟨u1, u2, eu, r1, r2⟩ := vals2 r
  subst eu
  cases (show u2 = Value.ref tp from r2)
  obtain ⟨P, Z, p, hx⟩ := kit_m I r1 ty
  obtain ⟨_, its, rv, ⟨oc, od, dt, sl⟩, h1, h2, n, h3⟩ := (show ObjOk X.prog X.w H s.heap tp (.tup cs) from I.hok tp _ hT)
  cases (ClsV.all k rv)
  simp only at h2 h3
  subst h2 h3
  exact PySem.W.kia_tup Z I.kIn p h1 e hx fun tk => ⟨.bl b, H, I.tok tk, rfl, q⟩
end
section
variable {G : Glb} {B : Bk} {k : Nat} {N : List Str} {sc : Scope}
/-- the type of a value of ours -/
def tyVal (B : Bk) : Ty ⊕ Nat → Option Value
  | .inl t => some (.type t.nm)
  | .inr c => (B.cs[c]?).map fun p => .ref p.1
theorem tyW_r {ρ : List Addr} {H : Hp} {st : Store} {v : V} {w : W} {t : Ty ⊕ Nat} (hec : ∀ (c : Nat) C f, B.cs[c]? = some (C, f) → ExcC B.K C) (hs : StR B ρ H st) (r : RW B ρ H v w) (h : tyW w st = some t) : ∃ u, tyVal B t = some u ∧ TyM B.K H v u := by
  cases r with
  | non => cases h; exact ⟨_, rfl, .x (.base .non)⟩
  | bl b => cases h; exact ⟨_, rfl, .x (.base (.bl b))⟩
  | int i => cases h; exact ⟨_, rfl, .x (.base (.int i))⟩
  | str x => cases h; exact ⟨_, rfl, .x (.base (.str x))⟩
  | tup hu _ =>
    cases h
    rcases hu with hu | ⟨o, its, n, e, c, _⟩
    · exact ⟨_, rfl, .x (.base (.tup hu))⟩
    · exact ⟨_, rfl, .x (.kTuple e c)⟩
  | klst hu _ =>
    cases h
    rcases hu with ⟨o, hu⟩ | ⟨o, its, n, e, c, _⟩
    · exact ⟨_, rfl, .x (.base (.frz hu))⟩
    · exact ⟨_, rfl, .x (.kList e c)⟩
  | @ref p n e =>
    unfold tyW at h
    dsimp only at h
    split at h
    · rename_i ws es
      cases h
      obtain ⟨vs, h1, h2⟩ := hs.at_ n p _ e es
      exact ⟨_, rfl, .x (.base (.lst h1))⟩
    · rename_i ws es
      cases h
      obtain ⟨vs, h1, h2⟩ := hs.at_ n p _ e es
      exact ⟨_, rfl, .x (.base (.dK h1))⟩
    · rename_i ws es
      cases h
      obtain ⟨vs, h1, h2⟩ := hs.at_ n p _ e es
      exact ⟨_, rfl, .x (.base (.dT h1))⟩
    · rename_i ws es
      cases h
      obtain ⟨o, vs, h1, h2⟩ := hs.at_ n p _ e es
      exact ⟨_, rfl, .x (.fDict h1)⟩
    · cases h
  | @exc a C d f c v w h1 h2 h3 h4 =>
    cases h
    exact ⟨.ref C, by simp [tyVal, h1], .err h2 ⟨_, h3⟩ (hec _ _ _ h1)⟩
  | clo _ => cases h

/-- which class a name means -/
def tyNamed : List (Str × Ty) := [("int", .int), ("bool", .bool), ("str", .str), ("tuple", .tuple), ("list", .list), ("dict", .dict), ("set", .set)]
theorem tyNamed_boot : ∀ p ∈ tyNamed, bootBuiltins p.1 = some (.type p.2.nm) ∧ notDbg p.1 = true ∧ p.1 ≠ ("__name__" : Str) := by
  intro p hp
  simp only [tyNamed, List.mem_cons, List.not_mem_nil, or_false] at hp
  rcases hp with e | e | e | e | e | e | e <;> subst e <;> exact ⟨by decide +kernel, by decide +kernel, by decide +kernel⟩
structure ClN (G : Glb) (sc : Scope) (x : Str) (c : Cl) : Prop where
  g : glbB sc x = true
  d : notDbg x = true
  n : x ≠ ("__name__" : Str)
  at_ : match c with
    | .ty t => (x, t) ∈ tyNamed ∧ x ∈ G.blt
    | .own c => G.excs[c]? = some x
    | .py j => ∃ T l, G.pys[j]? = some (x, T, l)
theorem cls_of {Φ : Phi} {Wx : WX} {X : Cx} (gx : GX G B Φ k N Wx sc X) {x : Str} {px : Pos} {c : Cl} (h : ClN G sc x c) : ∃ v u, PE X (.Name x px) (tC v) ∧ ClsV v u ∧
    ∀ (t : Ty ⊕ Nat) (tv : Value) (w : W) (st : Store) (b : Bool), tyW w st = some t → tyVal B t = some tv → isiW G w st c = some b → PySem.W.kitOne X.K tv u = some b := by
  have hg : Gl X x := glbB_ok (by rw [gx.sc]; exact h.g)
  cases c with
  | ty t =>
    obtain ⟨h1, h2⟩ := h.at_
    obtain ⟨b1, b2, b3⟩ := tyNamed_boot _ h1
    refine ⟨.ty t.nm, .type t.nm, pe_bltn hg (gx.gk.blt x h2) b1 rfl b3 (notDbg1 b2), .ty _, fun t' tv w st b e1 e2 e3 => ?_⟩
    unfold isiW at e3
    rw [e1] at e3
    cases t' with
    | inl t' =>
      cases e2; cases e3
      exact Ty.sub_ok _ _
    | inr c => cases e3
  | own c =>
    obtain ⟨C, f, h1, h2⟩ := gx.gk.cn c x h.at_
    refine ⟨.ref C, .ref C, pe_glob hg h2 rfl (notDbg1 h.d), .own _, fun t' tv w st b e1 e2 e3 => ?_⟩
    unfold isiW at e3
    rw [e1] at e3
    cases t' with
    | inl t' =>
      cases e2; cases e3
      rw [gx.K]; exact gx.gk.en _ c C f h1
    | inr e =>
      cases hc : B.cs[e]? with
      | none => simp [tyVal, hc] at e2
      | some p =>
        simp [tyVal, hc] at e2
        subst e2
        rw [gx.K]; exact gx.gk.es e c p.1 p.2 C f b hc h1 e3
  | py j =>
    obtain ⟨T, l, h1⟩ := h.at_
    obtain ⟨b1, b2⟩ := gx.gk.pb j x T l h1
    refine ⟨.ty T, .type T, pe_bltn hg b1 b2 rfl h.n (notDbg1 h.d), .ty _, fun t' tv w st b e1 e2 e3 => ?_⟩
    unfold isiW at e3
    rw [e1] at e3
    cases t' with
    | inl t' => cases e3
    | inr e =>
      cases hc : B.cs[e]? with
      | none => simp [tyVal, hc] at e2
      | some p =>
        simp [tyVal, hc] at e2
        subst e2
        simp only [h1, Option.bind_some] at e3
        rw [gx.K]; exact gx.gk.ep e j p.1 p.2 x T l b hc h1 e3
def isiF (G : Glb) (c : Cl) (a : SE) : SE := fun Φ env st => (a Φ env st).bind fun x st1 => liftO (pureO ((isiW G x st1 c).map .bl) st1)
def isiFT (G : Glb) (cs : List Cl) (a : SE) : SE := fun Φ env st => (a Φ env st).bind fun x st1 => liftO (pureO ((isiAny G x st1 cs).map .bl) st1)
theorem snd_isi {a : Expr} {x : Str} {c : Cl} {p px pos : Pos} {fa : SE} (hg : glbB sc "isinstance" = true) (hb : ("isinstance" : Str) ∈ G.blt) (hn : noStar a = true) (hc : ClN G sc x c) (ha : Snd G B k N sc a fa) :
    Snd G B k N sc (.Call (.Name "isinstance" p) [a, .Name x px] [] pos) (isiF G c fa) := by
  refine ⟨fun Φ Wx X gx => ?_⟩
  obtain ⟨v, u, h1, h2, h3⟩ := cls_of gx (px := px) hc
  refine PE.imp (pe_callB (e := a) (es := [.Name x px]) call_isM (glbB_ok (by rw [gx.sc]; exact hg)) (gx.gk.blt _ hb) boot_isinstance (pa_cons (ha.pe Φ Wx X gx) (pa_cons h1 pa_nil (noStar_ok rfl _ _)) (noStar_ok hn _ _)) (by decide) (by decide) (noStar_ok hn _ _) rfl) fun σ H Q q => ?_
  obtain ⟨ρ, env, st, he, hs, q⟩ := q
  refine tX_imp (tX_bind he hs q) fun y H1 ⟨ρ1, st1, w, a1, a2, he1, hs1, r1, q1⟩ => ?_
  cases e : isiW G w st1 c with
  | none => rw [e] at q1; exact q1.elim
  | some b =>
    rw [e] at q1
    obtain ⟨t, et⟩ : ∃ t, tyW w st1 = some t := by
      unfold isiW at e
      cases h : tyW w st1 with
      | none => rw [h] at e; cases e
      | some t => exact ⟨t, rfl⟩
    obtain ⟨tv, e1, e2⟩ := tyW_r gx.gk.ec hs1 r1 et
    exact ⟨y, v, tv, u, b, rfl, h2, by rw [gx.K]; exact e2, h3 t tv w st1 b et e1 e, post_here q1 hs1 (.bl b)⟩
/-- several classes -/
inductive ClNs (G : Glb) (sc : Scope) : List Expr → List Cl → Prop
  | nil : ClNs G sc [] []
  | cons {x : Str} {px : Pos} {c : Cl} {es : List Expr} {cs : List Cl} : ClN G sc x c → ClNs G sc es cs → ClNs G sc (.Name x px :: es) (c :: cs)
theorem clss_of {Φ : Phi} {Wx : WX} {X : Cx} (gx : GX G B Φ k N Wx sc X) : ∀ {es : List Expr} {cs : List Cl}, ClNs G sc es cs → ∃ (vs : List V) (us : List Value), PA X es (fun _ H Q => Q vs H) ∧ Paired ClsV vs us ∧ vs.length = es.length ∧
    ∀ (t : Ty ⊕ Nat) (tv : Value) (w : W) (st : Store) (b : Bool), tyW w st = some t → tyVal B t = some tv → isiAny G w st cs = some b → PySem.W.kitAny X.K tv us = some b
  | _, _, .nil => ⟨[], [], pa_nil, .nil, rfl, fun t tv w st b e1 e2 e3 => by unfold isiAny at e3; rw [e1] at e3; cases e3; rfl⟩
  | _, _, .cons (x := x) (px := px) (c := c) (es := es) (cs := cs) h r => by
    obtain ⟨v, u, h1, h2, h3⟩ := cls_of gx (px := px) h
    obtain ⟨vs, us, r1, r2, r3, r4⟩ := clss_of gx r
    refine ⟨v :: vs, u :: us, pa_cons h1 r1 (noStar_ok rfl _ _), .cons h2 r2, by simp [r3], fun t tv w st b e1 e2 e3 => ?_⟩
    unfold isiAny at e3
    cases e : isiW G w st c with
    | none => rw [e] at e3; cases e3
    | some d =>
      rw [e] at e3
      unfold PySem.W.kitAny
      rw [h3 t tv w st d e1 e2 e]
      cases d with
      | true => exact e3
      | false => exact r4 t tv w st b e1 e2 e3
theorem snd_isiT {a : Expr} {es : List Expr} {cs : List Cl} {j : Nat} {p pt pos : Pos} {fa : SE} (hg : glbB sc "isinstance" = true) (hb : ("isinstance" : Str) ∈ G.blt) (hn : noStar a = true) (hc : ClNs G sc es cs) (hz : es.length ≤ slBound) (ha : Snd G B k N sc a fa) :
    Snd G B k N sc (.Call (.Name "isinstance" p) [a, .Tuple es j pt] [] pos) (isiFT G cs fa) := by
  refine ⟨fun Φ Wx X gx => ?_⟩
  obtain ⟨vs, us, h1, h2, hl, h3⟩ := clss_of gx hc
  refine PE.imp (pe_callB (e := a) (es := [.Tuple es j pt]) call_isMT (glbB_ok (by rw [gx.sc]; exact hg)) (gx.gk.blt _ hb) boot_isinstance (pa_cons (ha.pe Φ Wx X gx) (pa_cons (pe_tup h1) pa_nil (noStar_ok rfl _ _)) (noStar_ok hn _ _)) (by decide) (by decide) (noStar_ok hn _ _) rfl) fun σ H Q q => ?_
  obtain ⟨ρ, env, st, he, hs, q⟩ := q
  refine tX_imp (tX_bind he hs q) fun y H1 ⟨ρ1, st1, w, a1, a2, he1, hs1, r1, q1⟩ => ?_
  cases e : isiAny G w st1 cs with
  | none => rw [e] at q1; exact q1.elim
  | some b =>
    rw [e] at q1
    refine ⟨by rw [hl]; exact slb hz, fun tp htp => ?_⟩
    cases et : tyW w st1 with
    | none =>
      cases cs with
      | nil => unfold isiAny at e; rw [et] at e; cases e
      | cons c r =>
        unfold isiAny isiW at e
        rw [et] at e
        cases e
    | some t =>
      obtain ⟨tv, e1, e2⟩ := tyW_r gx.gk.ec (hs1.new htp (o := .tup vs)) (r1.mono (List.prefix_refl _) (.new htp)) et
      exact ⟨y, tp, vs, tv, us, b, rfl, upd_same, h2, by rw [gx.K]; exact e2, h3 t tv w st1 b et e1 e, q1 ρ1 _ _ (List.prefix_refl _) (.new htp) (hs1.new htp) (.bl b)⟩
end
end Zf
namespace PySem.W
open PySem PySem.Spec PySem.Calls PyProof.Rows
section
variable {prog : Program} {w : World} {A : Around} {E : Value → Shared → Prop} {s : Shared}
theorem zf_adjust (n : Nat) : Builtin.Slice.sliceAdjust none none (-1) (n : Int) = ((n : Int) - 1, -1) := rfl
theorem zf_places (n : Nat) : Builtin.Slice.slicePlaces ((n : Int) - 1) (-1) (-1) = n := by
  unfold Builtin.Slice.slicePlaces
  simp only [show ¬ ((-1 : Int) > 0) by omega, if_false]
  split
  · rename_i h
    have : (- (-1 : Int)) = 1 := rfl
    rw [this, Int.ediv_one]
    omega
  · omega
theorem zf_rev_pick (xs : Array Value) : ((List.range xs.size).filterMap fun (m : Nat) => xs[((xs.size : Int) - 1 + (m : Int) * (-1)).toNat]?).toArray = xs.toList.reverse.toArray := by
  congr 1
  obtain ⟨l⟩ := xs
  simp only [List.size_toArray, List.getElem?_toArray]
  have hc : ∀ (f g : Nat → Option Value) (L : List Nat), (∀ m ∈ L, f m = g m) → L.filterMap f = L.filterMap g := fun f g L => by
    induction L with
    | nil => intro _; rfl
    | cons a r ih =>
      intro h
      rw [List.filterMap_cons, List.filterMap_cons, h a List.mem_cons_self, ih fun m hm => h m (List.mem_cons_of_mem _ hm)]
  have h1 : (List.range l.length).filterMap (fun (m : Nat) => l[((l.length : Int) - 1 + (m : Int) * (-1)).toNat]?) = (List.range l.length).filterMap (fun m => l.reverse[m]?) := by
    refine hc _ _ _ fun m hm => ?_
    have hm := List.mem_range.mp hm
    rw [List.getElem?_reverse hm]
    congr 1; omega
  rw [h1]
  have h2 := fun (l : List Value) => (show (List.range l.length).filterMap (fun m => l[m]?) = l by
    induction l with
    | nil => rfl
    | cons a r ih =>
      rw [List.length_cons, List.range_succ_eq_map, List.filterMap_cons]
      simp only [List.getElem?_cons_zero, List.filterMap_map]
      congr 1)
  have h3 := h2 l.reverse
  rw [List.length_reverse] at h3
  exact h3
theorem zf_getItem_tuple_rev {t sl : Addr} {items : Array Value} {vs : Value} {Q : Value → Shared → Prop} (ht : IsTup s.heap t items) (hs : s.heap.IsSliceOf sl .none .none vs) (ps : IsPart vs (some (-1)))
    (h : Q (.ref s.heap.objs.size) { s with heap := s.heap.push { cls := .type "tuple", data := .seq items.toList.reverse.toArray } }) (hsz : items.size ≤ sizeLine) : wpAny (model prog w) A (getItem (.ref t) (.ref sl)) Q E s := by
  have htake : sizeOk (.seq items.toList.reverse.toArray) := by
    show (items.toList.reverse.toArray).size ≤ sizeLine
    rw [List.size_toArray, List.length_reverse, Array.length_toList]; exact hsz
  obtain ⟨os, hos, hcs, hds⟩ := id hs; have hTs : s.TypeIs (.ref sl) "slice" := ⟨os, hos, hcs⟩
  unfold getItem; try with_reducible refine wpAny_holding ?_
  first | refine wpAny_bind (wpAny_pure ?_) | skip
  refine wpAny_bind (wpAny_sequenceKey ht.typeIs (by decide) (wpAny_bind (wpAny_callSpecial?_slot (name := Str.ofString "__getitem__") ht.typeIs PyProof.Rows.slot_tuple_getitem
    (wpAny_call_entry PyProof.Rows.slot_tuple_getitem ht.typeIs entry_tuple_getitem ?_ (args_tuple_getitem _ _)))))
  show wpAny _ _ (Builtin.Tuple.tupleItemsOf (.ref t) >>= _) _ _ s
  refine wpAny_bind (tupleItemsOf_ ht (wpAny_bind (wpAny_typeOf hTs ?_))); rw [if_pos (by decide)]
  refine wpAny_bind ?_
  unfold Builtin.Slice.sliceApplied Builtin.Slice.sliceFields
  refine wpAny_bind (wpAny_bind (wpAny_field hos hds (x := .none) rfl (wpAny_bind (wpAny_field hos hds (x := .none) rfl (wpAny_bind (wpAny_field hos hds (x := vs) rfl (wpAny_pure ?_)))))))
  refine wpAny_bind (HT.slicePart_ ps ?_)
  show wpAny _ _ (ite (((-1 : Int) == 0) = true) _ _) _ _ s
  rw [if_neg (by decide)]
  refine wpAny_bind (HT.slicePart_ .none (wpAny_bind (HT.slicePart_ .none (wpAny_bind (wpAny_pure ?_)))))
  show wpAny _ _ (match Builtin.Slice.sliceAdjust none none (-1) (items.size : Int) with | (lo, hi) => pure (lo, (-1 : Int), Builtin.Slice.slicePlaces lo hi (-1))) _ _ s
  rw [zf_adjust]
  show wpAny _ _ (pure (((items.size : Int) - 1), (-1 : Int), Builtin.Slice.slicePlaces ((items.size : Int) - 1) (-1) (-1))) _ _ s
  rw [zf_places]
  refine wpAny_pure ?_
  show wpAny _ _ (ite ((((items.size : Int) - 1 == 0) && ((-1 : Int) == 1) && (items.size == items.size)) = true) _ _) _ _ s
  rw [if_neg (by simp), zf_rev_pick]
  first
    | exact wpAny_bind (m := Builtin.Tuple.tupleExact _) (wpAny_newObj_type (wpAny_pure ⟨_, rfl, wpAny_pure h⟩) htake)
    | exact wpAny_bind (m := Builtin.Tuple.tupleExact _) (wpAny_newObj_type (wpAny_bind (wpAny_pure (wpAny_pure ⟨_, rfl, wpAny_pure h⟩))) htake)
end
end PySem.W

namespace Zf
open PySem L2
open PyProof.Rows hiding St
section
variable {G : Glb} {B : Bk} {k : Nat} {N : List Str} {sc : Scope}

/-! ### xs[::-1] -/
def revW (a : W) (st : Store) : Opt := match a with
  | .tup ws => if ws.length ≤ slBound then some (.tup ws.reverse, st) else none
  | _ => match lstOf a st with
    | some ws => if ws.length ≤ slBound then some (.ref st.length, st ++ [.lst ws.reverse]) else none
    | none => none
def revF (a : SE) : SE := fun Φ env st => (a Φ env st).bind fun x st1 => liftO (revW x st1)
theorem pe_revT {X : Cx} {e : Expr} {te : TE} {k : Nat} {p1 p2 p3 pos : Pos} (he : PE X e te) : PE X (.Subscript e (.Slice none none (some (.UnaryOp .USub (.Constant (.int 1) k p1) p2)) p3) pos)
    (fun σ H Q => te σ H fun x H1 => ∃ a xs, x = .ref a ∧ ((SqL X.K H1 a xs ∧ ∀ p, H1 p = none → Q (.ref p) (upd H1 p (.lst xs.reverse))) ∨ (SqT X.K H1 a xs ∧ ∀ p, H1 p = none → Q (.ref p) (upd H1 p (.tup xs.reverse))))) := by
  refine ⟨fun pins s σ H Q I h => Subscript_ (thn (he.run pins s σ H _ I h) fun v s1 ⟨x, H1, I1, r1, a, xs, ex, q⟩ => ?_)⟩
  subst ex
  cases r1
  have hst : PO X (some (.UnaryOp .USub (.Constant (.int 1) k p1) p2)) (tPart (tUn (rU fun i => .int (-i)) (tC (.int 1)))) := po_some (pe_un un_neg pe_int)
  refine wpAny_Slice (thn (po_none.run pins s1 σ H1 (fun o H2 => o = none ∧ H2 = H1) I1 ⟨rfl, rfl⟩) fun vl s2 ⟨l, H2, I2, pl, el, e2⟩ => ?_)
  cases el; cases e2
  refine thn (po_none.run pins s2 σ _ (fun o H3 => o = none ∧ H3 = H1) I2 ⟨rfl, rfl⟩) fun vu s3 ⟨u, H3, I3, pu, eu, e3⟩ => ?_
  cases eu; cases e3
  refine thn (hst.run pins s3 σ _ (fun o H4 => o = some (-1) ∧ H4 = H1) I3 ⟨1, rfl, -1, rfl, rfl, rfl⟩) fun vs s4 ⟨o, H4, I4, ps, eo, e4⟩ => ?_
  cases eo; cases e4
  have I5 : Inv X pins σ H1 { s4 with heap := s4.heap.push { cls := .type "slice", data := .fields #[vl, vu, vs] } } := I4.kept (t' := s4.toks) fun b ob q => Heap.get?_push_of_some _ q
  rcases q with ⟨hx, q⟩ | ⟨hx, q⟩
  · obtain ⟨its, r, ht, hz⟩ := I5.list hx
    have hlen := r.length
    refine tail_any (ops := [.ref a, .ref s4.heap.objs.size]) ht.isList.typeIs (PySem.slot_list_getitem.lookup) (wpAny_getItem_list_slice ht.isList (Heap.IsSliceOf.new _ vl vu vs) pl pu ps (by decide) ?_ (by rw [List.size_toArray]; omega)) (by with_unfolding_all rfl)
    rw [PySem.W.krv_pick]
    exact ⟨.ref _, _, I5.laid (t' := s4.toks) (o := .lst xs.reverse) (fun b ob q => Heap.get?_push_of_some _ q) (Nat.le_refl _) ⟨by rw [List.length_reverse]; exact hz, _, 0, r.reverse, Heap.get?_push_size _ rfl⟩, rfl, q _ (I5.hok.fresh (Nat.le_refl _))⟩
  · obtain ⟨its, r, ht, hz⟩ := I5.tuple hx
    have hlen := r.length
    cases pl; cases pu
    refine tail_any (ops := [.ref a, .ref s4.heap.objs.size]) ht.typeIs (PyProof.Rows.slot_tuple_getitem.lookup) (PySem.W.zf_getItem_tuple_rev ht (Heap.IsSliceOf.new _ .none .none vs) ps ?_ (by rw [List.size_toArray]; omega)) (by with_unfolding_all rfl)
    exact ⟨.ref _, _, I5.laid (t' := s4.toks) (o := .tup xs.reverse) (fun b ob q => Heap.get?_push_of_some _ q) (Nat.le_refl _) ⟨by rw [List.length_reverse]; exact hz, _, r.reverse, IsTup.new _ _⟩, rfl, q _ (I5.hok.fresh (Nat.le_refl _))⟩
theorem snd_rev {e : Expr} {fe : SE} {j : Nat} {p1 p2 p3 pos : Pos} (he : Snd G B k N sc e fe) : Snd G B k N sc (.Subscript e (.Slice none none (some (.UnaryOp .USub (.Constant (.int 1) j p1) p2)) p3) pos) (revF fe) := by
  refine ⟨fun Φ Wx X gx => PE.imp (pe_revT (he.pe Φ Wx X gx)) fun σ H Q q => ?_⟩
  obtain ⟨ρ, env, st, he, hs, q⟩ := q
  refine tX_imp (tX_bind he hs q) fun y H1 ⟨ρ1, st1, w, a1, a2, he1, hs1, r1, q1⟩ => ?_
  have hl : ∀ {ws : List W}, lstOf w st1 = some ws → PostE B (fun c d H' => Wx c d σ H') ρ1 H1 (liftO (if ws.length ≤ slBound then some (W.ref st1.length, st1 ++ [.lst ws.reverse]) else none)) Q → ∃ a xs, y = .ref a ∧ ((SqL X.K H1 a xs ∧ ∀ p, H1 p = none → Q (.ref p) (upd H1 p (.lst xs.reverse))) ∨ (SqT X.K H1 a xs ∧ ∀ p, H1 p = none → Q (.ref p) (upd H1 p (.tup xs.reverse)))) := fun {ws} e q => by
    obtain ⟨a, vs, ey, h1, h2⟩ := lstOf_r hs1 r1 e
    split at q
    · exact ⟨a, vs, ey, .inl ⟨by rw [gx.K]; exact h1, end_lst q hs1 h2.rev⟩⟩
    · exact q.elim
  cases r1 with
  | @tup a vs ws hu hr =>
    simp only [revW] at q1
    split at q1
    · exact ⟨a, vs, rfl, .inr ⟨by rw [gx.K]; exact hu.seq, end_tup q1 hs1 hr.rev⟩⟩
    · exact q1.elim
  | @klst a vs ws hu hr => exact hl rfl q1
  | @ref a n e =>
    simp only [revW] at q1
    split at q1
    · rename_i ws e1
      exact hl e1 q1
    · exact q1.elim
  | _ => exact q1.elim

/-! ### x in range(..) -/
theorem cr_rangeW {X : Cx} : CallR X (.type "range") (fun vs H Q => ∃ i j, (vs = [V.int i, V.int j] ∨ (vs = [V.int j] ∧ i = 0)) ∧ ∀ p, H p = none → Q (.ref p) (upd H p (.rng i j))) := fun pins s σ H vs us Q I r ⟨i, j, e, q⟩ => by
  rcases e with e | ⟨e, e2⟩
  · exact cr_range2 pins s σ H vs us Q I r ⟨i, j, e, q⟩
  · subst e e2
    cases r with
    | cons rj rr =>
      cases rr
      obtain ⟨u, rfl⟩ := rj
      refine call_range_1 ⟨.ref s.heap.objs.size, upd H s.heap.objs.size (.rng 0 j), I.laid (t' := _) (fun b o e => Heap.get?_push_of_some _ e) (Nat.le_refl _) ⟨_, _, _, Heap.get?_push_size _ rfl⟩, rfl, q _ (I.hok.fresh (Nat.le_refl _))⟩
def rngW : List W → Option (Int × Int)
  | [.int i, .int j] => some (i, j)
  | [.int j] => some (0, j)
  | _ => none
def inRng (w : W) (r : Option (Int × Int)) : Option W := match w, r with
  | .int x, some (i, j) => some (.bl (decide (i ≤ x ∧ x < j)))
  | _, _ => none
def inRngF (a : SE) (l : SL) : SE := fun Φ env st => (a Φ env st).bind fun x st1 => (l Φ env st1).bind fun ys st2 => liftO (pureO (inRng x (rngW ys)) st2)
theorem rngW_r {ρ : List Addr} {H : Hp} {vs : List V} {ws : List W} {i j : Int} (r : RWs B ρ H vs ws) (e : rngW ws = some (i, j)) : vs = [.int i, .int j] ∨ (vs = [.int j] ∧ i = 0) := by
  unfold rngW at e
  split at e
  · cases e
    cases r with
    | cons a b =>
      cases a
      cases b with
      | cons a b => cases a; cases b; exact .inl rfl
  · cases e
    cases r with
    | cons a b => cases a; cases b; exact .inr ⟨rfl, rfl⟩
  · cases e
structure RngC (G : Glb) (sc : Scope) (e : Expr) (es : List Expr) : Prop where
  g : glbB sc "range" = true
  b : ("range" : Str) ∈ G.blt
  n : (e :: es).all noStar = true
theorem tRng_of {Wx : WX} {fa : Env → Store → Out W} {fl : Env → Store → Out (List W)} {σ : St} {H : Hp} {Q : VK} (h : tE B Wx (fun env st => (fa env st).bind fun x st1 => (fl env st1).bind fun ys st2 => liftO (pureO (inRng x (rngW ys)) st2)) σ H Q) :
    tOp (fun x y H Q => ∃ i a lo hi, x = V.int i ∧ y = V.ref a ∧ H a = some (.rng lo hi) ∧ Q (.bl (decide (lo ≤ i ∧ i < hi))) H) (tE B Wx fa) (tCB (fun vs H Q => ∃ i j, (vs = [V.int i, V.int j] ∨ (vs = [V.int j] ∧ i = 0)) ∧ ∀ p, H p = none → Q (.ref p) (upd H p (.rng i j))) (tL B Wx fl)) σ H Q := by
  obtain ⟨ρ, env, st, he, hs, q⟩ := h
  refine tX_imp (tX_bind he hs q) fun v H1 ⟨ρ1, st1, a, a1, a2, he1, hs1, r1, q1⟩ => ?_
  refine tX_imp (tX_bind he1 hs1 q1) fun us H2 ⟨ρ2, st2, b, b1, b2, he2, hs2, r2, q2⟩ => ?_
  cases er : rngW b with
  | none => rw [er] at q2; cases a <;> exact q2.elim
  | some p =>
    obtain ⟨i, j⟩ := p
    rw [er] at q2
    cases a with
    | int x =>
      cases r1
      exact ⟨i, j, rngW_r r2 er, fun p hp => ⟨x, p, i, j, rfl, rfl, upd_same, q2 ρ2 _ _ (List.prefix_refl _) (.new hp) (hs2.new hp) (.bl _)⟩⟩
    | _ => exact q2.elim
theorem snd_inRng {a e : Expr} {es : List Expr} {p p2 pos : Pos} {fa : SE} {fl : SL} (hc : RngC G sc e es) (ha : Snd G B k N sc a fa) (hl : SndL G B k N sc (e :: es) fl) : Snd G B k N sc (.Compare a [.In] [.Call (.Name "range" p) (e :: es) [] p2] pos) (inRngF fa fl) := by
  have hn := hc.n
  rw [List.all_cons, Bool.and_eq_true] at hn
  exact ⟨fun Φ Wx X gx => PE.imp (pe_cmpR op_in_rng (ha.pe Φ Wx X gx) (pe_callTy cr_rangeW (glbB_ok (by rw [gx.sc]; exact hc.g)) (gx.gk.blt _ hc.b) boot_range (hl.pa Φ Wx X gx) (by decide) (by decide) (noStar_ok hn.1 _ _) (backTo_plain (e := e) hn.2)) rfl) fun _ _ _ q => tRng_of q⟩
theorem sndT_inRng {a e : Expr} {es : List Expr} {p p2 pos : Pos} {fa : SE} {fl : SL} (hc : RngC G sc e es) (ha : Snd G B k N sc a fa) (hl : SndL G B k N sc (e :: es) fl) : SndT G B k N sc (.Compare a [.In] [.Call (.Name "range" p) (e :: es) [] p2] pos) (asB (inRngF fa fl)) := by
  have hn := hc.n
  rw [List.all_cons, Bool.and_eq_true] at hn
  exact ⟨fun Φ Wx X gx => PT.imp (pt_cmpR op_in_rng (ha.pe Φ Wx X gx) (pe_callTy cr_rangeW (glbB_ok (by rw [gx.sc]; exact hc.g)) (gx.gk.blt _ hc.b) boot_range (hl.pa Φ Wx X gx) (by decide) (by decide) (noStar_ok hn.1 _ _) (backTo_plain (e := e) hn.2)) rfl) fun _ _ _ q => tTest_of (fun _ => tRng_of) q⟩

/-! ### x.bit_length() -/
def bitsL : W → List W → Store → Opt := fun a as st => match a, as with
  | .int i, [] => some (.int (Builtin.Int.intBits i : Nat), st)
  | _, _ => none
def bitsM : WM := fun kd => match kd with
  | .int => some bitsL
  | _ => none
theorem mw_bits {X : Cx} : MethW B X "bit_length" bitsM := by
  refine ⟨fun kd f e => ?_⟩
  cases kd <;> simp only [bitsM, Option.some.injEq, reduceCtorEq] at e
  subst e
  refine ⟨_, PySem.F.plainAttrs_int, PyProof.Rows.slot_int_bit_length, PyProof.Rows.type_int_bit_length, fun pins s σ H x xs v us Q ρ st a as I rx rxs hs ra ras q => ?_⟩
  cases ra with
  | int i =>
    cases ras with
    | nil =>
      cases rxs
      obtain ⟨t, rfl⟩ := rx
      exact call_int_bit_length ⟨.int _, H, I.tok _, ⟨_, rfl⟩, post_here q hs (.int _)⟩
    | cons _ _ => exact q.elim
  | _ => exact q.elim

/-! ### dict displays -/
/-- the pairs, from the left; keys and values -/
abbrev SP' := Phi → Env → Store → Out (List (W × W))
structure SndP (G : Glb) (B : Bk) (k : Nat) (N : List Str) (sc : Scope) (keys : List (Option Expr)) (values : List Expr) (F : SP') : Prop where
  pp : ∀ (Φ : Phi) (Wx : WX) (X : Cx), GX G B Φ k N Wx sc X → ∀ pos : Pos, ∃ trs : List (TE × TE), PPs X pos keys values trs ∧ ∀ (σ : St) (H : Hp) (Q : List (V × V) → Hp → Prop),
    tX (β := List (V × V)) (fun ρ H v (w : List (W × W)) => RWs B ρ H (v.map (·.1)) (w.map (·.1)) ∧ RWs B ρ H (v.map (·.2)) (w.map (·.2))) B Wx (F Φ) σ H Q → tPairs trs σ H Q
def nilP : SP' := fun _ _ st => .ok [] st
def consP (a b : SE) (r : SP') : SP' := fun Φ env st => (a Φ env st).bind fun x st1 => (b Φ env st1).bind fun y st2 => (r Φ env st2).bind fun ps st3 => .ok ((x, y) :: ps) st3
theorem sndP_nil : SndP G B k N sc [] [] nilP := ⟨fun Φ Wx X gx pos => ⟨[], pps_nil, fun σ H Q ⟨ρ, env, st, he, hs, q⟩ => q ρ H [] (List.prefix_refl _) (.refl _) hs ⟨.nil, .nil⟩⟩⟩
theorem sndP_cons {ka va : Expr} {ks : List (Option Expr)} {vs : List Expr} {fa fb : SE} {fr : SP'} (ha : Snd G B k N sc ka fa) (hb : Snd G B k N sc va fb) (hr : SndP G B k N sc ks vs fr) : SndP G B k N sc (some ka :: ks) (va :: vs) (consP fa fb fr) := by
  refine ⟨fun Φ Wx X gx pos => ?_⟩
  obtain ⟨trs, h1, h2⟩ := hr.pp Φ Wx X gx pos
  refine ⟨_, pps_cons (ha.pe Φ Wx X gx) (hb.pe Φ Wx X gx) h1, fun σ H Q ⟨ρ, env, st, he, hs, q⟩ => ?_⟩
  refine tX_imp (tX_bind he hs q) fun v H1 ⟨ρ1, st1, a, a1, a2, he1, hs1, r1, q1⟩ => ?_
  refine tX_imp (tX_bind he1 hs1 q1) fun u H2 ⟨ρ2, st2, b, b1, b2, he2, hs2, r2, q2⟩ => ?_
  refine h2 σ H2 _ (tX_imp (tX_bind he2 hs2 q2) fun ps H3 ⟨ρ3, st3, c, c1, c2, he3, hs3, r3, q3⟩ => ?_)
  exact q3 ρ3 H3 _ (List.prefix_refl _) (.refl _) hs3 ⟨.cons ((r1.mono b1 b2).mono c1 c2) r3.1, .cons (r2.mono c1 c2) r3.2⟩
def dpairs : List (W × W) → Option (List (Key × W))
  | [] => some []
  | (k, v) :: r => match keyW k, dpairs r with
    | some key, some l => some ((key, v) :: l)
    | _, _ => none
def mergeW (kvs more : List (Key × W)) : List (Key × W) := more.foldl (fun acc kv => putW acc kv.1 kv.2) kvs
def dispF (n : Nat) (p : SP') : SE := fun Φ env st => (p Φ env (st ++ [.dct []])).bind fun ps st1 => match dpairs ps, st1[st.length]? with
  | some kvs, some (.dct []) => if kvs.length ≤ 15 then .ok (.ref st.length) (st1.set st.length (.dct (mergeW [] kvs))) else .bad
  | _, _ => .bad
theorem dpairs_r {ρ : List Addr} {H : Hp} : ∀ {ps : List (V × V)} {ws : List (W × W)} {kvs : List (Key × W)}, RWs B ρ H (ps.map (·.1)) (ws.map (·.1)) → RWs B ρ H (ps.map (·.2)) (ws.map (·.2)) → dpairs ws = some kvs →
    ∃ kvs' : List (Key × V), ps = kvs'.map (fun kv => (kV kv.1, kv.2)) ∧ RKv B ρ H kvs' kvs
  | [], [], _, _, _, e => by cases e; exact ⟨[], rfl, .nil⟩
  | [], _ :: _, _, h, _, _ => by cases h
  | _ :: _, [], _, h, _, _ => by cases h
  | (x, y) :: ps, (k, v) :: ws, kvs, h1, h2, e => by
    cases h1 with
    | cons a b =>
      cases h2 with
      | cons c d =>
        unfold dpairs at e
        split at e
        · rename_i key l e1 e2
          cases e
          obtain ⟨kvs', q1, q2⟩ := dpairs_r b d e2
          have ex := keyW_r a e1
          exact ⟨(key, y) :: kvs', by rw [List.map_cons, q1, ← ex], .cons c q2⟩
        · cases e
theorem merge_r {ρ : List Addr} {H : Hp} : ∀ {more : List (Key × V)} {more' : List (Key × W)} {vs : List (Key × V)} {ws : List (Key × W)}, RKv B ρ H more more' → RKv B ρ H vs ws → RKv B ρ H (mergeK vs more) (mergeW ws more')
  | _, _, _, _, .nil, h => h
  | (key, v) :: m, (_, w) :: m', vs, ws, .cons r t, h => by
    have := merge_r t (putW_r key r h)
    exact this
theorem snd_disp {pos : Pos} {keys : List (Option Expr)} {values : List Expr} {fp : SP'} (h : SndP G B k N sc keys values fp) (hall : keys.all (·.isSome) = true) (hl : keys.length = values.length) (h0 : keys ≠ []) (h15 : keys.length ≤ 15) :
    Snd G B k N sc (.Dict keys values pos) (dispF keys.length fp) := by
  refine ⟨fun Φ Wx X gx => ?_⟩
  obtain ⟨trs, h1, h2⟩ := h.pp Φ Wx X gx pos
  refine PE.imp (pe_disp h1 hall hl h0 h15) fun σ H Q ⟨ρ, env, st, he, hs, q⟩ p hp => ?_
  have hs' := hs.push (o := .dct []) (u := .dK []) hp ⟨[], upd_same, .nil⟩
  have hp0 : (ρ ++ [p])[st.length]? = some p := by rw [← hs.len]; simp
  refine h2 σ _ _ (tX_imp (tX_bind (he.mono (List.prefix_append _ _) (.new hp)) hs' (Post.mono q (List.prefix_append _ _) (.new hp))) fun ps H2 ⟨ρ2, st2, ws, a1, a2, he2, hs2, ⟨r1, r2⟩, q2⟩ => ?_)
  split at q2
  · rename_i kvs e1 e2
    split at q2
    · rename_i hz
      obtain ⟨kvs', ep, rk⟩ := dpairs_r r1 r2 e1
      have hp2 : ρ2[st.length]? = some p := by
        obtain ⟨t, rfl⟩ := a1
        rw [List.getElem?_append_left (List.getElem?_eq_some_iff.mp hp0).1]; exact hp0
      obtain ⟨z, hz1, hz2⟩ := hs2.at_ _ p _ hp2 e2
      cases hz2
      refine ⟨hz1, kvs', ep, by rw [rk.length]; exact hz, ?_⟩
      have w := hs2.wr (u := .dK (mergeK [] kvs')) (o := .dct (mergeW [] kvs)) hp2 ⟨_, upd_same, (merge_r rk .nil).mono (List.prefix_refl _) (.wr hz1 id)⟩ ⟨_, hz1, id⟩
      exact q2 ρ2 _ _ (List.prefix_refl _) w.2 w.1 (.ref hp2)
    · exact q2.elim
  · exact q2.elim
def ndctF : SE := fun _ _ st => .ok (.ref st.length) (st ++ [.dct []])
theorem snd_ndct {pos : Pos} : Snd G B k N sc (.Dict [] [] pos) ndctF := by
  refine ⟨fun Φ Wx X gx => PE.imp pe_dnewK fun σ H Q ⟨ρ, env, st, he, hs, q⟩ p hp => ?_⟩
  have hs' := hs.push (o := .dct []) (u := .dK []) hp ⟨[], upd_same, .nil⟩
  exact q _ _ _ (List.prefix_append _ _) (.new hp) hs' (.ref (by rw [← hs.len]; simp))
end
end Zf
namespace Zf
open PySem L2
open PyProof.Rows hiding St

/-! ### statements -/
/-- what is wanted of a statement's outcome -/
def PostS (B : Bk) (Wx : WX) (ρ : List Addr) (H : Hp) (o : SOut) (D : Ends) : Prop :=
  match o with
  | .nx env st => ∀ (ρ' : List Addr) (H' : Hp) (σ' : St), ρ <+: ρ' → Kp H H' → EnvR B ρ' H' σ' env → StR B ρ' H' st → D.nx σ' H'
  | .rt w st => ∀ (ρ' : List Addr) (H' : Hp) (v : V), ρ <+: ρ' → Kp H H' → StR B ρ' H' st → RW B ρ' H' v w → D.rt v H'
  | .bk env st => ∀ (ρ' : List Addr) (H' : Hp) (σ' : St), ρ <+: ρ' → Kp H H' → EnvR B ρ' H' σ' env → StR B ρ' H' st → D.bk σ' H'
  | .ct env st => ∀ (ρ' : List Addr) (H' : Hp) (σ' : St), ρ <+: ρ' → Kp H H' → EnvR B ρ' H' σ' env → StR B ρ' H' st → D.ct σ' H'
  | .er x env st => ∀ (ρ' : List Addr) (H' : Hp) (σ' : St) (cls : Value) (d : Option Addr), ρ <+: ρ' → Kp H H' → EnvR B ρ' H' σ' env → StR B ρ' H' st → ExR B ρ' H' cls d x → Wx cls d σ' H'
  | .bad => False
theorem PostS.mono {B : Bk} {Wx : WX} {ρ ρ1 : List Addr} {H H1 : Hp} {o : SOut} {D : Ends} (h : PostS B Wx ρ H o D) (hr : ρ <+: ρ1) (k : Kp H H1) : PostS B Wx ρ1 H1 o D := by
  cases o with
  | nx env st => exact fun ρ' H' σ' a b => h ρ' H' σ' (hr.trans a) (k.trans b)
  | rt w st => exact fun ρ' H' v a b => h ρ' H' v (hr.trans a) (k.trans b)
  | bk env st => exact fun ρ' H' σ' a b => h ρ' H' σ' (hr.trans a) (k.trans b)
  | ct env st => exact fun ρ' H' σ' a b => h ρ' H' σ' (hr.trans a) (k.trans b)
  | er x env st => exact fun ρ' H' σ' cls d a b => h ρ' H' σ' cls d (hr.trans a) (k.trans b)
  | bad => exact h
abbrev tS (B : Bk) (Wx : WX) (F : Env → Store → SOut) : TS := fun D σ H => ∃ ρ env st, EnvR B ρ H σ env ∧ StR B ρ H st ∧ PostS B Wx ρ H (F env st) D
/-- the deed that the def was handed -/
def deedF (i : Nat) : SE := fun Φ env st => match env[i]? with
  | some (some (.clo f)) => Φ.deed f st
  | _ => .bad
def DeedAt (B : Bk) (Φ : Phi) (N : List Str) (sc : Scope) (X : Cx) : Prop := ∀ (pn : List (Addr × Obj)) (xe : Value → Shared → Prop) (W : WX), Takes (X.tr pn xe) W → ∀ (i : Nat) (x : Str) (p1 p2 : Pos), N[i]? = some x → visB sc x = true → notDbg x = true →
  PE (X.tr pn xe) (.Call (.Name x p1) [] [] p2) (tE B W (deedF i Φ))
/-- .. and of where a body's statements stand -/
structure GXS (G : Glb) (B : Bk) (Φ : Phi) (k : Nat) (N : List Str) (Wx : WX) (sc : Scope) (X : Cx) : Prop where
  g : GX G B Φ k N Wx sc X
  hp : PassesOwn (model X.prog X.w) X.A X.env X.xe
  st : X.stack = X.env :: X.outer
  fr : X.env.frame = some X.env.locals
  fn : ∀ x, X.fn x = true
  kf : sc.kind = .function
  ex : X.ex = []
  dd : DeedAt B Φ N sc X
structure SndS (G : Glb) (B : Bk) (k : Nat) (N : List Str) (sc : Scope) (s : Stmt) (F : SS) : Prop where
  ps : ∀ (Φ : Phi) (Wx : WX) (X : Cx), GXS G B Φ k N Wx sc X → PS X s (tS B Wx (F Φ))
structure SndSs (G : Glb) (B : Bk) (k : Nat) (N : List Str) (sc : Scope) (s : List Stmt) (F : SS) : Prop where
  pss : ∀ (Φ : Phi) (Wx : WX) (X : Cx), GXS G B Φ k N Wx sc X → PSs X s (tS B Wx (F Φ))

section
variable {G : Glb} {B : Bk} {k : Nat} {N : List Str} {sc : Scope}
def badS : SS := fun _ _ _ => .bad
theorem sndS_bad {s : Stmt} : SndS G B k N sc s badS := ⟨fun Φ Wx X g => ⟨fun pins s σ H D I ⟨_, _, _, _, _, q⟩ => q.elim⟩⟩
theorem sndSs_bad {s : List Stmt} : SndSs G B k N sc s badS := ⟨fun Φ Wx X g => ⟨fun pins s σ H D I ⟨_, _, _, _, _, q⟩ => q.elim⟩⟩
def skipS : SS := fun _ env st => .nx env st
theorem postS_nx {Wx : WX} {ρ : List Addr} {H : Hp} {env : Env} {st : Store} {D : Ends} {σ : St} (h : PostS B Wx ρ H (.nx env st) D) (he : EnvR B ρ H σ env) (hs : StR B ρ H st) : D.nx σ H := h ρ H σ (List.prefix_refl _) (.refl _) he hs
theorem sndSs_nil : SndSs G B k N sc [] skipS := ⟨fun Φ Wx X g => PSs.imp pss_nil fun D σ H ⟨ρ, env, st, he, hs, q⟩ => postS_nx q he hs⟩
def SOut.seq (o : SOut) (f : Env → Store → SOut) : SOut := match o with
  | .nx env st => f env st
  | o => o
def seqS (a b : SS) : SS := fun Φ env st => (a Φ env st).seq (b Φ)
theorem postS_seq {Wx : WX} {ρ : List Addr} {H : Hp} {o : SOut} {f : Env → Store → SOut} {D : Ends} (h : PostS B Wx ρ H (o.seq f) D) : PostS B Wx ρ H o { D with nx := tS B Wx f D } := by
  cases o with
  | nx env st => exact fun ρ' H' σ' a b c d => ⟨ρ', env, st, c, d, PostS.mono h a b⟩
  | _ => exact h
theorem sndSs_cons {s : Stmt} {r : List Stmt} {a b : SS} (h1 : SndS G B k N sc s a) (h2 : SndSs G B k N sc r b) : SndSs G B k N sc (s :: r) (seqS a b) :=
  ⟨fun Φ Wx X g => PSs.imp (pss_cons (h1.ps Φ Wx X g) (h2.pss Φ Wx X g)) fun D σ H ⟨ρ, env, st, he, hs, q⟩ => ⟨ρ, env, st, he, hs, postS_seq q⟩⟩
theorem sndSs_one {s : Stmt} {a : SS} (h1 : SndS G B k N sc s a) : SndSs G B k N sc [s] a := ⟨fun Φ Wx X g => pss_one (h1.ps Φ Wx X g)⟩
def brkS : SS := fun _ env st => .bk env st
def cntS : SS := fun _ env st => .ct env st
theorem sndS_brk {pos : Pos} : SndS G B k N sc (.Break pos) brkS := ⟨fun Φ Wx X g => PS.imp ps_break fun D σ H ⟨ρ, env, st, he, hs, q⟩ => q ρ H σ (List.prefix_refl _) (.refl _) he hs⟩
theorem sndS_cnt {pos : Pos} : SndS G B k N sc (.Continue pos) cntS := ⟨fun Φ Wx X g => PS.imp ps_continue fun D σ H ⟨ρ, env, st, he, hs, q⟩ => q ρ H σ (List.prefix_refl _) (.refl _) he hs⟩
theorem sndS_pass {pos : Pos} : SndS G B k N sc (.Pass pos) skipS := ⟨fun Φ Wx X g => PS.imp ps_pass fun D σ H ⟨ρ, env, st, he, hs, q⟩ => postS_nx q he hs⟩

/-- an expression's value handed on -/
def Out.toS {α : Type} (o : Out α) (env : Env) (f : α → Store → SOut) : SOut := match o with
  | .ok a st => f a st
  | .er x st => .er x env st
  | .bad => .bad
theorem tX_toS {α β : Type} {R : List Addr → Hp → β → α → Prop} {Wx : WX} {F : Env → Store → Out α} {f : α → Store → SOut} {σ : St} {H : Hp} {D : Ends} {ρ : List Addr} {env : Env} {st : Store}
    (he : EnvR B ρ H σ env) (hs : StR B ρ H st) (h : PostS B Wx ρ H ((F env st).toS env f) D) :
    tX R B Wx F σ H (fun v H1 => ∃ ρ1 st1 a, ρ <+: ρ1 ∧ Kp H H1 ∧ EnvR B ρ1 H1 σ env ∧ StR B ρ1 H1 st1 ∧ R ρ1 H1 v a ∧ PostS B Wx ρ1 H1 (f a st1) D) := by
  refine ⟨ρ, env, st, he, hs, ?_⟩
  cases e : F env st with
  | ok a st1 =>
    rw [e] at h
    exact fun ρ' H' v a1 a2 a3 a4 => ⟨ρ', st1, a, a1, a2, he.mono a1 a2, a3, a4, PostS.mono h a1 a2⟩
  | er x st' => rw [e] at h; exact fun ρ' H' cls d a b c x => h ρ' H' σ cls d a b (he.mono a b) c x
  | bad => rw [e] at h; exact h
def noComp : Expr → Bool
  | .ListComp _ _ _ _ => false
  | .SetComp _ _ _ _ => false
  | .DictComp _ _ _ _ _ => false
  | _ => true
theorem noComp_ok {e : Expr} (h : noComp e = true) (t : Option Expr) (l : Nat) (env : PySem.Env) : swapsWith e t l env = pure false := by
  cases e <;> first | rfl | cases h
def exprS (a : SE) : SS := fun Φ env st => (a Φ env st).toS env fun _ st1 => .nx env st1
theorem sndS_expr {e : Expr} {pos : Pos} {fa : SE} (hn : noComp e = true) (ha : Snd G B k N sc e fa) : SndS G B k N sc (.Expr e pos) (exprS fa) :=
  ⟨fun Φ Wx X g => PS.imp (ps_expr (ha.pe Φ Wx X g.g) (noComp_ok hn _ _ _)) fun D σ H ⟨ρ, env, st, he, hs, q⟩ => tX_imp (tX_toS he hs q) fun v H1 ⟨ρ1, st1, a, a1, a2, he1, hs1, r1, q1⟩ => postS_nx q1 he1 hs1⟩
theorem sndS_doc {x : Str} {j : Nat} {pos pos' : Pos} : SndS G B k N sc (.Expr (.Constant (.str x) j pos) pos') skipS := ⟨fun Φ Wx X g => PS.imp ps_doc fun D σ H ⟨ρ, env, st, he, hs, q⟩ => postS_nx q he hs⟩
def retS (a : SE) : SS := fun Φ env st => (a Φ env st).toS env fun w st1 => .rt w st1
theorem sndS_ret {e : Expr} {pos : Pos} {fa : SE} (ha : Snd G B k N sc e fa) : SndS G B k N sc (.Return (some e) pos) (retS fa) :=
  ⟨fun Φ Wx X g => PS.imp (ps_ret (ha.pe Φ Wx X g.g)) fun D σ H ⟨ρ, env, st, he, hs, q⟩ => tX_imp (tX_toS he hs q) fun v H1 ⟨ρ1, st1, a, a1, a2, he1, hs1, r1, q1⟩ => q1 ρ1 H1 v (List.prefix_refl _) (.refl _) hs1 r1⟩
def retN : SS := fun _ _ st => .rt .non st
theorem sndS_retN {pos : Pos} : SndS G B k N sc (.Return none pos) retN := ⟨fun Φ Wx X g => PS.imp ps_retN fun D σ H ⟨ρ, env, st, he, hs, q⟩ => q ρ H .non (List.prefix_refl _) (.refl _) hs .non⟩
def ifS (t : ST) (a b : SS) : SS := fun Φ env st => (t Φ env st).toS env fun c st1 => if c = true then a Φ env st1 else b Φ env st1
theorem sndS_if {t : Expr} {a b : List Stmt} {pos : Pos} {ft : ST} {fa fb : SS} (ht : SndT G B k N sc t ft) (ha : SndSs G B k N sc a fa) (hb : SndSs G B k N sc b fb) : SndS G B k N sc (.If t a b pos) (ifS ft fa fb) := by
  refine ⟨fun Φ Wx X g => PS.imp (ps_if (ht.pt Φ Wx X g.g) (ha.pss Φ Wx X g) (hb.pss Φ Wx X g)) fun D σ H ⟨ρ, env, st, he, hs, q⟩ => tX_imp (tX_toS he hs q) fun c H1 ⟨ρ1, st1, a, a1, a2, he1, hs1, r1, q1⟩ => ?_⟩
  cases r1
  cases c with
  | true => rw [if_pos rfl] at q1 ⊢; exact ⟨ρ1, env, st1, he1, hs1, q1⟩
  | false => rw [if_neg Bool.false_ne_true] at q1 ⊢; exact ⟨ρ1, env, st1, he1, hs1, q1⟩

/-! ### targets -/
/-- a target takes a value -/
abbrev SG := Phi → W → Env → Store → SOut
def PostG (B : Bk) (Wx : WX) (ρ : List Addr) (H : Hp) (o : SOut) (Q : St → Hp → Prop) : Prop := PostS B Wx ρ H o { nx := Q, rt := fun _ _ => False }
abbrev tG (B : Bk) (Wx : WX) (F : W → Env → Store → SOut) : TG := fun v σ H Q => ∃ ρ env st w, EnvR B ρ H σ env ∧ StR B ρ H st ∧ RW B ρ H v w ∧ PostG B Wx ρ H (F w env st) Q
abbrev tGs (B : Bk) (Wx : WX) (F : List W → Env → Store → SOut) : TGs := fun vs σ H Q => ∃ ρ env st ws, EnvR B ρ H σ env ∧ StR B ρ H st ∧ RWs B ρ H vs ws ∧ PostG B Wx ρ H (F ws env st) Q
/-- c: names in cells too -/
structure SndG (G : Glb) (B : Bk) (k : Nat) (N : List Str) (sc : Scope) (c : Bool) (t : Expr) (F : SG) : Prop where
  pg : ∀ (Φ : Phi) (Wx : WX) (X : Cx), GX G B Φ k N Wx sc X → (c = true → ∀ x, X.fn x = true) → PG X t (tG B Wx (F Φ))
structure SndGs (G : Glb) (B : Bk) (k : Nat) (N : List Str) (sc : Scope) (c : Bool) (ts : List Expr) (F : Phi → List W → Env → Store → SOut) : Prop where
  pgs : ∀ (Φ : Phi) (Wx : WX) (X : Cx), GX G B Φ k N Wx sc X → (c = true → ∀ x, X.fn x = true) → PGs X ts (tGs B Wx (F Φ))
  len : ∀ env, (assignEach ts env).length = ts.length
  nost : ∀ env, (assignEach ts env).findIdx? (·.1) = none
theorem PG.imp {X : Cx} {e : Expr} {t t' : TG} (h : PG X e t) (hi : ∀ v σ H Q, t' v σ H Q → t v σ H Q) : PG X e t' := ⟨fun pins s σ H v u Q I r q => h.run pins s σ H v u Q I r (hi v σ H Q q)⟩
theorem PGs.imp {X : Cx} {e : List Expr} {t t' : TGs} (h : PGs X e t) (hi : ∀ v σ H Q, t' v σ H Q → t v σ H Q) : PGs X e t' := ⟨fun pins s σ H v u Q I r q => h.run pins s σ H v u Q I r (hi v σ H Q q)⟩
def nameT (i : Nat) : SG := fun _ w env st => .nx (env.set i (some w)) st
def locB (sc : Scope) (c : Bool) (x : Str) : Bool := match sc.names.lookup x with
  | some .local => true | some .cell => c | _ => false
theorem locB_ok {sc : Scope} {c : Bool} {x : Str} (h : locB sc c x = true) : sc.names.lookup x = some .local ∨ (sc.names.lookup x = some .cell ∧ c = true) := by
  unfold locB at h
  split at h
  · exact .inl ‹_›
  · exact .inr ⟨‹_›, h⟩
  · cases h
theorem sndG_name {c : Bool} {x : Str} {pos : Pos} {i : Nat} (hi : N[i]? = some x) (hl : locB sc c x = true) : SndG G B k N sc c (.Name x pos) (nameT i) := by
  refine ⟨fun Φ Wx X g hf => ?_⟩
  have h := locB_ok hl
  rw [← g.sc] at h
  refine PG.imp (pg_name g.nd (by rw [g.N]; exact hi) (h.elim .inl fun z => .inr z.1) (h.elim .inr fun z => .inl (hf z.2 x))) fun v σ H Q ⟨ρ, env, st, w, he, hs, r, q⟩ => ?_
  exact q ρ H _ (List.prefix_refl _) (.refl _) (he.set i r) hs
def nilG : Phi → List W → Env → Store → SOut := fun _ ws env st => match ws with
  | [] => .nx env st
  | _ => .bad
def consG (a : SG) (b : Phi → List W → Env → Store → SOut) : Phi → List W → Env → Store → SOut := fun Φ ws env st => match ws with
  | w :: r => (a Φ w env st).seq (b Φ r)
  | [] => .bad
theorem sndGs_nil {c : Bool} : SndGs G B k N sc c [] nilG := by
  refine ⟨fun Φ Wx X g hf => PGs.imp pgs_nil fun vs σ H Q ⟨ρ, env, st, ws, he, hs, r, q⟩ => ?_, fun _ => rfl, fun _ => rfl⟩
  cases r with
  | nil => exact ⟨rfl, q ρ H σ (List.prefix_refl _) (.refl _) he hs⟩
  | cons _ _ => exact q.elim
theorem assignEach_cons {e : Expr} (h : noStar e = true) (es : List Expr) (env : PySem.Env) : assignEach (e :: es) env = (false, assign e env) :: assignEach es env := by
  cases e <;> first | rfl | cases h
theorem sndGs_cons {c : Bool} {t : Expr} {ts : List Expr} {a : SG} {b : Phi → List W → Env → Store → SOut} (hn : noStar t = true) (h1 : SndG G B k N sc c t a) (h2 : SndGs G B k N sc c ts b) : SndGs G B k N sc c (t :: ts) (consG a b) := by
  refine ⟨fun Φ Wx X g hf => PGs.imp (pgs_cons (h1.pg Φ Wx X g hf) (h2.pgs Φ Wx X g hf) (by rw [assignEach_cons hn] <;> rfl)) fun vs σ H Q ⟨ρ, env, st, ws, he, hs, r, q⟩ => ?_, fun env => by rw [assignEach_cons hn]; simp [h2.len env], fun env => by
    rw [assignEach_cons hn, List.findIdx?_cons, h2.nost env]; rfl⟩
  cases r with
  | nil => exact q.elim
  | @cons v vs w ws r1 r2 =>
    have q : PostS B Wx ρ H ((a Φ w env st).seq (b Φ ws)) { nx := Q, rt := fun _ _ => False } := q
    cases e : a Φ w env st with
    | nx env1 st1 =>
      rw [e] at q
      refine ⟨v, vs, rfl, ρ, env, st, w, he, hs, r1, ?_⟩
      rw [e]
      exact fun ρ' H' σ' a1 a2 he1 hs1 => ⟨ρ', env1, st1, ws, he1, hs1, r2.mono a1 a2, PostS.mono q a1 a2⟩
    | rt w' st' => rw [e] at q; exact ⟨v, vs, rfl, ρ, env, st, w, he, hs, r1, by rw [e]; exact q⟩
    | bk w' st' => rw [e] at q; exact ⟨v, vs, rfl, ρ, env, st, w, he, hs, r1, by rw [e]; exact q⟩
    | ct w' st' => rw [e] at q; exact ⟨v, vs, rfl, ρ, env, st, w, he, hs, r1, by rw [e]; exact q⟩
    | er x w' st' => rw [e] at q; exact ⟨v, vs, rfl, ρ, env, st, w, he, hs, r1, by rw [e]; exact q⟩
    | bad => rw [e] at q; exact q.elim
/-- (a, b, ..) = a list or a tuple -/
def tupT (n : Nat) (l : Phi → List W → Env → Store → SOut) : SG := fun Φ w env st => match seqOf w st with
  | some ws => if ws.length = n then l Φ ws env st else .bad
  | none => .bad
theorem pg_tupL {X : Cx} {es : List Expr} {j : Nat} {pos : Pos} {t : TGs} (hc : X.calm = true) (h : PGs X es t) (hn : (assignEach es X.env).length = es.length) (hst : (assignEach es X.env).findIdx? (·.1) = none) :
    PG X (.Tuple es j pos) (fun v σ H Q => ∃ a xs, v = .ref a ∧ (SqL X.K H a xs ∨ SqT X.K H a xs) ∧ xs.length = es.length ∧ t xs σ H Q) := by
  refine ⟨fun pins s σ H v u Q I r ⟨a, xs, e1, hq, hl, hw⟩ => ?_⟩
  rcases hq with hq | hq
  · exact (pg_lst (k := j) hc h hn hst).run pins s σ H v u Q I r ⟨a, xs, e1, hq, hl, hw⟩
  · exact (pg_tup (k := j) hc h hn hst).run pins s σ H v u Q I r ⟨a, xs, e1, hq, hl, hw⟩
theorem sndG_tup {c : Bool} {ts : List Expr} {j : Nat} {pos : Pos} {l : Phi → List W → Env → Store → SOut} (h : SndGs G B k N sc c ts l) : SndG G B k N sc c (.Tuple ts j pos) (tupT ts.length l) := by
  refine ⟨fun Φ Wx X g hf => PG.imp (pg_tupL g.calm (h.pgs Φ Wx X g hf) (h.len _) (h.nost _)) fun v σ H Q ⟨ρ, env, st, w, he, hs, r, q⟩ => ?_⟩
  unfold tupT at q
  split at q
  · rename_i ws e1
    split at q
    · rename_i hl
      obtain ⟨a, vs, ev, hq, hr⟩ := seqOf_r hs r e1
      exact ⟨a, vs, ev, by rw [g.K]; exact hq, by rw [hr.length]; exact hl, ρ, env, st, ws, he, hs, hr, q⟩
    · exact q.elim
  · exact q.elim
/-- o[i] = .. by values -/
def setW (o i v : W) (st : Store) : Option Store := match o with
  | .ref n => match st[n]? with
    | some (.lst ws) => match i with
      | .int j => (ixN ws.length j).map fun m => st.set n (.lst (ws.set m v))
      | _ => none
    | some (.dct kvs) => if kvs.length < slBound then (keyW i).map fun key => st.set n (.dct (putW kvs key v)) else none
    | _ => none
  | _ => none
theorem set_val {X : Cx} (hu : X.A.units + 1 < cLine) : PSet X (fun o i v H Q => rSetL o i v H Q ∨ rSetD o i v H Q) := fun pins s σ H o i v ov iv u Q I ro ri rv h => by
  rcases h with h | h
  · exact set_list pins s σ H o i v ov iv u Q I ro ri rv h
  · exact set_dict hu pins s σ H o i v ov iv u Q I ro ri rv h
theorem setW_r {X : Cx} {ρ : List Addr} {H : Hp} {st st' : Store} {vo vi vv : V} {o i v : W} (hs : StR B ρ H st) (r1 : RW B ρ H vo o) (r2 : RW B ρ H vi i) (r3 : RW B ρ H vv v) (e : setW o i v st = some st') {Q : Hp → Prop}
    (q : ∀ H', Kp H H' → StR B ρ H' st' → Q H') : rSetL vo vi vv H Q ∨ rSetD vo vi vv H Q := by
  cases r1 with
  | @ref p n en =>
    simp only [setW] at e
    split at e
    · rename_i ws es
      split at e
      · rename_i j
        cases r2
        cases hm : ixN ws.length j with
        | none => rw [hm] at e; cases e
        | some m =>
          rw [hm] at e
          cases e
          obtain ⟨vs, h1, h2⟩ := hs.at_ n p _ en es
          refine .inl ⟨p, vs, j, m, rfl, rfl, h1, by rw [h2.length]; exact hm, ?_⟩
          have w := hs.wr (u := .lst (vs.set m vv)) (o := .lst (ws.set m v)) en ⟨_, upd_same, (h2.set m r3).mono (List.prefix_refl _) (.wr h1 id)⟩ ⟨_, h1, id⟩
          exact q _ w.2 w.1
      · cases e
    · rename_i kvs es
      split at e
      · rename_i hz
        cases hk : keyW i with
        | none => rw [hk] at e; cases e
        | some key =>
          rw [hk] at e
          cases e
          obtain ⟨vs, h1, h2⟩ := hs.at_ n p _ en es
          have w := hs.wr (u := .dK (putK vs key vv)) (o := .dct (putW kvs key v)) en ⟨_, upd_same, (putW_r key r3 h2).mono (List.prefix_refl _) (.wr h1 id)⟩ ⟨_, h1, id⟩
          rw [keyW_r r2 hk]
          exact .inr ⟨p, _, rfl, DPut.k h1 (by rw [h2.length]; exact slb' hz), q _ w.2 w.1⟩
      · cases e
    · cases e
  | _ => cases e
def subT (a i : SE) : SG := fun Φ w env st => (a Φ env st).toS env fun o st1 => (i Φ env st1).toS env fun j st2 => match setW o j w st2 with
  | some st3 => .nx env st3
  | none => .bad
theorem sndG_sub {c : Bool} {a i : Expr} {pos : Pos} {fa fi : SE} (hp : plainIxB i = true) (ha : Snd G B k N sc a fa) (hi : Snd G B k N sc i fi) : SndG G B k N sc c (.Subscript a i pos) (subT fa fi) := by
  refine ⟨fun Φ Wx X g hf => PG.imp (pg_sub (ha.pe Φ Wx X g) (hi.pe Φ Wx X g) (set_val (hu_room g.room)) (fun v => by cases i <;> first | rfl | cases hp)) fun v σ H Q ⟨ρ, env, st, w, he, hs, r, q⟩ => ?_⟩
  refine tX_imp (tX_toS (D := { nx := Q, rt := fun _ _ => False }) he hs q) fun vo H1 ⟨ρ1, st1, o, a1, a2, he1, hs1, r1, q1⟩ => ?_
  refine tX_imp (tX_toS he1 hs1 q1) fun vi H2 ⟨ρ2, st2, j, b1, b2, he2, hs2, r2, q2⟩ => ?_
  split at q2
  · rename_i st3 e3
    exact setW_r (X := X) hs2 (r1.mono b1 b2) r2 ((r.mono a1 a2).mono b1 b2) e3 fun H' kp hs' => q2 ρ2 H' σ (List.prefix_refl _) kp (he2.mono (List.prefix_refl _) kp) hs'
  · exact q2.elim
end
end Zf
namespace Zf
open PySem L2
open PyProof.Rows hiding St
section
variable {G : Glb} {B : Bk} {k : Nat} {N : List Str} {sc : Scope}

/-! ### assignments -/
def SOut.go : SOut → SOut
  | .nx env st => .nx env st
  | .er x env st => .er x env st
  | _ => .bad
theorem postG_go {Wx : WX} {ρ : List Addr} {H : Hp} {o : SOut} {D : Ends} (h : PostS B Wx ρ H o.go D) : PostG B Wx ρ H o D.nx := by
  cases o <;> first | exact h | exact False.elim h
def asgS (a : SE) (t : SG) : SS := fun Φ env st => (a Φ env st).toS env fun w st1 => (t Φ w env st1).go
/-- swaps: whether the one statement's value is a comprehension that stores itself -/
def compSc : Expr → Option Scope
  | .ListComp _ _ s _ => some s
  | .SetComp _ _ s _ => some s
  | .DictComp _ _ _ s _ => some s
  | _ => none
def swB (tg e : Expr) (sc : Scope) : Bool := match compSc e, tg with
  | some s, .Name t pos => (sc.names.lookup t == some .local) && (pos.line == e.pos.line) && !(s.names.any fun p => (p.1 == t) && ((p.2 == .local) || (p.2 == .cell)))
  | _, _ => false
theorem sw_eq {tg e : Expr} {sc : Scope} {env : PySem.Env} {l : Nat} (hs : env.scope = sc) (hk : sc.kind = .function) : swapsWith e (some tg) l env = pure (swB tg e sc) := by
  have hb : env.blockKind = .function := by unfold Env.blockKind; rw [hs, hk]; rfl
  subst hs
  cases e <;> first
    | rfl
    | (cases tg <;> first
        | rfl
        | (unfold swapsWith swB compSc Env.kindOf
           simp only [hb]
           rfl))
/-- which names are stored from the right -/
def swName (sc : Scope) (l : Nat) (e : Expr) : Option Str := match e with
  | .Name id pos => if (sc.names.lookup id == some .local && pos.line == l) = true then some id else none
  | _ => none
def swNames (sc : Scope) (ts : List Expr) : List Str := ts.filterMap (swName sc ((ts.head?.map (·.pos.line)).getD 0))
def swpB (tg e : Expr) (sc : Scope) : Option (Option (List Str)) := match tg, e with
  | .Tuple ts _ _, .Tuple vs _ _ =>
    if (!(ts.length == 2 || ts.length == 3) || vs.length != ts.length) = true then some none else if (vs.any fun e => !noStar e) = true then some none
    else if ((swNames sc ts).length != ts.length || (swNames sc ts).eraseDups.length != (swNames sc ts).length) = true then some none
    else if vs.all (foldedForSure 8) = true then some none else if vs.all (constantsAlone 8) = true then none else some (some (swNames sc ts))
  | .List _ _, .Tuple _ _ _ => none
  | _, _ => some none
theorem swp_eq {tg e : Expr} {sc : Scope} {env : PySem.Env} {r : Option (List Str)} (hs : env.scope = sc) (hk : sc.kind = .function) (h : swpB tg e sc = some r) : swappedStores [tg] e env = pure r := by
  have hb : env.blockKind = .function := by unfold Env.blockKind; rw [hs, hk]; rfl
  subst hs
  unfold swpB at h
  split at h
  · rename_i ts j p vs j2 p2
    unfold swappedStores
    have e1 : ∀ f : Expr → Bool, (∀ e, f e = !noStar e) → vs.any f = vs.any fun e => !noStar e := fun f h => by rw [show f = fun e => !noStar e from funext h]
    have e2 : ∀ f : Expr → Option Str, (∀ e, f e = swName env.scope ((ts.head?.map (·.pos.line)).getD 0) e) → ts.filterMap f = swNames env.scope ts := fun f h => by rw [show f = _ from funext h]; rfl
    simp only [hb, bne_self_eq_false, Bool.or_false]
    rw [e1 _ (fun e => by cases e <;> rfl), e2 _ (fun e => by cases e <;> rfl)]
    split at h
    · rename_i c; cases h; rw [if_pos c]
    · rename_i c
      rw [if_neg c]
      split at h
      · rename_i c; cases h; rw [if_pos c]
      · rename_i c
        rw [if_neg c]
        split at h
        · rename_i c; cases h; rw [if_pos c]
        · rename_i c
          rw [if_neg c]
          split at h
          · rename_i c; cases h; rw [if_pos c]
          · rename_i c
            rw [if_neg c]
            split at h
            · cases h
            · rename_i c; cases h; rw [if_neg c]
  · cases h
  · rename_i h1 h2
    cases h
    cases tg <;> first | rfl | (cases e <;> first | rfl | exact (h1 _ _ _ _ _ _ rfl rfl).elim | exact (h2 _ _ _ _ _ rfl rfl).elim)
theorem assignEach_one {t : Expr} (h : noStar t = true) (env : PySem.Env) : (assignEach [t] env).map (·.2) = [assign t env] := by
  rw [assignEach_cons h]; rfl
/-- target = value -/
theorem sndS_asg {tg e : Expr} {pos : Pos} {fa : SE} {t : SG} (hn : noStar tg = true) (h1 : swB tg e sc = false) (h2 : swpB tg e sc = some none) (ha : Snd G B k N sc e fa) (ht : SndG G B k N sc true tg t) : SndS G B k N sc (.Assign [tg] e pos) (asgS fa t) := by
  refine ⟨fun Φ Wx X g => PS.imp (ps_asg (ha.pe Φ Wx X g.g) (ht.pg Φ Wx X g.g fun _ => g.fn) (by show swapsWith e (some tg) pos.line X.env = _; rw [sw_eq g.g.sc g.kf, h1]) (swp_eq g.g.sc g.kf h2) (assignEach_one hn _)) fun D σ H ⟨ρ, env, st, he, hs, q⟩ => ?_⟩
  exact tX_imp (tX_toS he hs q) fun v H1 ⟨ρ1, st1, w, a1, a2, he1, hs1, r1, q1⟩ => ⟨ρ1, env, st1, w, he1, hs1, r1, postG_go q1⟩
/-- a, b = x, y; a, b, c = x, y, z: plain names, stored from the right -/
def parS2 (i j : Nat) (l : SL) : SS := fun Φ env st => (l Φ env st).toS env fun ws st1 => match ws with
  | [a, b] => .nx ((env.set i (some a)).set j (some b)) st1
  | _ => .bad
def parS3 (i j m : Nat) (l : SL) : SS := fun Φ env st => (l Φ env st).toS env fun ws st1 => match ws with
  | [a, b, c] => .nx (((env.set i (some a)).set j (some b)).set m (some c)) st1
  | _ => .bad
theorem sndS_par2 {x y : Str} {a b : Expr} {px py pt p2 pos : Pos} {kt k2 : Nat} {i j : Nat} {l : SL} (hi : N[i]? = some x) (hj : N[j]? = some y) (hij : i ≠ j) (hx : sc.names.lookup x = some .local) (hy : sc.names.lookup y = some .local)
    (hw : swpB (.Tuple [.Name x px, .Name y py] kt pt) (.Tuple [a, b] k2 p2) sc = some (some [x, y])) (hl : SndL G B k N sc [a, b] l) :
    SndS G B k N sc (.Assign [.Tuple [.Name x px, .Name y py] kt pt] (.Tuple [a, b] k2 p2) pos) (parS2 i j l) := by
  refine ⟨fun Φ Wx X g => PS.imp (ps_par g.g.calm g.g.nd (by rw [g.g.N]; exact hi) (by rw [g.g.N]; exact hj) hij (by rw [g.g.sc]; exact hx) (by rw [g.g.sc]; exact hy) (hl.pa Φ Wx X g.g) (swp_eq g.g.sc g.kf hw)) fun D σ H ⟨ρ, env, st, he, hs, q⟩ => ?_⟩
  refine tX_imp (tX_toS he hs q) fun vs H1 ⟨ρ1, st1, ws, a1, a2, he1, hs1, r1, q1⟩ => ?_
  split at q1
  · cases r1 with
    | cons b1 r1 => cases r1 with
      | cons b2 r1 => cases r1; exact ⟨_, _, rfl, postS_nx q1 ((he1.set i b1).set j b2) hs1⟩
  · exact q1.elim
theorem sndS_par3 {x y z : Str} {a b c : Expr} {px py pz pt p2 pos : Pos} {kt k2 : Nat} {i j m : Nat} {l : SL} (hi : N[i]? = some x) (hj : N[j]? = some y) (hm : N[m]? = some z) (hij : i ≠ j) (him : i ≠ m) (hjm : j ≠ m) (hx : sc.names.lookup x = some .local) (hy : sc.names.lookup y = some .local)
    (hz : sc.names.lookup z = some .local) (hw : swpB (.Tuple [.Name x px, .Name y py, .Name z pz] kt pt) (.Tuple [a, b, c] k2 p2) sc = some (some [x, y, z])) (hl : SndL G B k N sc [a, b, c] l) :
    SndS G B k N sc (.Assign [.Tuple [.Name x px, .Name y py, .Name z pz] kt pt] (.Tuple [a, b, c] k2 p2) pos) (parS3 i j m l) := by
  refine ⟨fun Φ Wx X g => PS.imp (ps_par3 g.g.calm g.g.nd (by rw [g.g.N]; exact hi) (by rw [g.g.N]; exact hj) (by rw [g.g.N]; exact hm) hij him hjm (by rw [g.g.sc]; exact hx) (by rw [g.g.sc]; exact hy) (by rw [g.g.sc]; exact hz) (hl.pa Φ Wx X g.g) (swp_eq g.g.sc g.kf hw)) fun D σ H ⟨ρ, env, st, he, hs, q⟩ => ?_⟩
  refine tX_imp (tX_toS he hs q) fun vs H1 ⟨ρ1, st1, ws, a1, a2, he1, hs1, r1, q1⟩ => ?_
  split at q1
  · cases r1 with
    | cons b1 r1 => cases r1 with
      | cons b2 r1 => cases r1 with
        | cons b3 r1 => cases r1; exact ⟨_, _, _, rfl, postS_nx q1 (((he1.set i b1).set j b2).set m b3) hs1⟩
  · exact q1.elim

/-! ### a op= b -/
structure IpW (B : Bk) (X : Cx) (op : Operator) (g : W2) : Prop where
  run : ∀ (pins : List (Addr × Obj)) (s : Shared) (σ : St) (H : Hp) (x y : V) (v u : Value) (Q : VK) (ρ : List Addr) (st : Store) (a b : W), Inv X pins σ H s → RelV x v → RelV y u → StR B ρ H st → RW B ρ H x a → RW B ρ H y b →
    PostE B (fun _ _ _ => False) ρ H (liftO (g a b st)) Q → wpAny (model X.prog X.w) X.A (inplaceOp op v u) (EP X pins σ Q) X.xe s
def iaddW : W2 := fun a b st => match a, b with
  | .int i, .int j => some (.int (i + j), st)
  | .str x, .str y => if x.length + y.length ≤ slBound then some (.str (x ++ y), st) else none
  | .ref n, .ref m => match lstAt (.ref n) st, lstAt (.ref m) st with
    | some x, some y => if x.length + y.length ≤ slBound then some (.ref n, st.set n (.lst (x ++ y))) else none
    | _, _ => none
  | _, _ => none
theorem ip_addW {X : Cx} (hK : X.K = B.K) : IpW B X .Add iaddW := by
  refine ⟨fun pins s σ H x y v u Q ρ st a b I rx ry hs ra rb q => ?_⟩
  cases ra with
  | int i =>
    cases rb with
    | int j => exact iop_add pins s σ H _ _ v u Q I rx ry ⟨i, j, rfl, rfl, post_here q hs (.int _)⟩
    | _ => exact q.elim
  | str x =>
    cases rb with
    | str y =>
      simp only [iaddW] at q
      split at q
      · rename_i hz
        exact iop_add_str pins s σ H _ _ v u Q I rx ry ⟨x, y, rfl, rfl, slb hz, post_here q hs (.str _)⟩
      · exact q.elim
    | _ => exact q.elim
  | @ref p n e =>
    cases rb with
    | @ref p2 m e2 =>
      simp only [iaddW] at q
      split at q
      · rename_i xs ys e3 e4
        split at q
        · rename_i hz
          obtain ⟨_, _, vs, ew, ev, _, _, h1, h2⟩ := lstAt_r hs (.ref e) e3
          cases ew; cases ev
          obtain ⟨_, _, us, ew, ev, _, _, h3, h4⟩ := lstAt_r hs (.ref e2) e4
          cases ew; cases ev
          refine iop_ext pins s σ H _ _ v u Q I rx ry ⟨p, p2, vs, us, rfl, rfl, h1, h3, by rw [h2.length, h4.length]; exact slb hz, ?_⟩
          have w := hs.wr (u := .lst (vs ++ us)) (o := .lst (xs ++ ys)) e ⟨_, upd_same, (h2.app h4).mono (List.prefix_refl _) (.wr h1 id)⟩ ⟨_, h1, id⟩
          exact q ρ _ _ (List.prefix_refl _) w.2 w.1 (.ref e)
        · exact q.elim
      · exact q.elim
    | _ => exact q.elim
  | _ => exact q.elim
theorem ip_int {X : Cx} {op : Operator} {g : Int → Int → Int} (h : OpR X (inplaceOp op) (rI0 fun i j => .int (g i j))) : IpW B X op (intW g) := by
  refine ⟨fun pins s σ H x y v u Q ρ st a b I rx ry hs ra rb q => ?_⟩
  cases ra with
  | int i =>
    cases rb with
    | int j => exact h pins s σ H _ _ v u Q I rx ry ⟨i, j, rfl, rfl, post_here q hs (.int _)⟩
    | _ => exact q.elim
  | _ => exact q.elim
def augS (i : Nat) (g : W2) (a : SE) : SS := fun Φ env st => match env[i]? with
  | some (some w) => (a Φ env st).toS env fun y st1 => match g w y st1 with
    | some (z, st2) => .nx (env.set i (some z)) st2
    | none => .bad
  | _ => .bad
theorem sndS_aug {i : Nat} {x : Str} {e : Expr} {op : Operator} {pos pos' : Pos} {g : W2} {fa : SE} (hi : N[i]? = some x) (hl : locB sc true x = true) (ho : ∀ X : Cx, X.K = B.K → IpW B X op g) (ha : Snd G B k N sc e fa) :
    SndS G B k N sc (.AugAssign (.Name x pos') op e pos) (augS i g fa) := by
  refine ⟨fun Φ Wx X gx => ?_⟩
  have h := locB_ok hl
  rw [← gx.g.sc] at h
  refine PS.imp (ps_aug (ti := fun x y H Q => ∃ ρ st a b, StR B ρ H st ∧ RW B ρ H x a ∧ RW B ρ H y b ∧ PostE B (fun _ _ _ => False) ρ H (liftO (g a b st)) Q) gx.g.nd (by rw [gx.g.N]; exact hi) (h.elim .inl fun z => .inr z.1) (ha.pe Φ Wx X gx.g)
    (fun pins s σ H x y v u Q I r1 r2 ⟨ρ, st, a, b, h1, h2, h3, q⟩ => (ho X gx.g.K).run pins s σ H x y v u Q ρ st a b I r1 r2 h1 h2 h3 q) (.inl (gx.fn x))) fun D σ H ⟨ρ, env, st, he, hs, q⟩ => ?_
  unfold augS at q
  cases e1 : env[i]? with
  | none => rw [e1] at q; exact q.elim
  | some o =>
    cases o with
    | none => rw [e1] at q; exact q.elim
    | some w =>
      rw [e1] at q
      obtain ⟨v, h1, h2⟩ := he.2 i w e1
      refine ⟨v, h1, tX_imp (tX_toS he hs q) fun y H1 ⟨ρ1, st1, b, a1, a2, he1, hs1, r1, q1⟩ => ⟨ρ1, st1, w, b, hs1, h2.mono a1 a2, r1, ?_⟩⟩
      cases e2 : g w b st1 with
      | none => rw [e2] at q1; exact q1.elim
      | some p =>
        rw [e2] at q1
        exact fun ρ' H' z b1 b2 hs2 r2 => q1 ρ' H' _ b1 b2 ((he1.mono b1 b2).set i r2) hs2
/-- o[i] op= e: a list or a dict -/
def getW (o i : W) (st : Store) : Option W := match o with
  | .ref n => match st[n]? with
    | some (.lst ws) => match i with
      | .int j => atI ws j
      | _ => none
    | some (.dct kvs) => (keyW i).bind fun key => valW kvs key
    | _ => none
  | _ => none
theorem get_list {X : Cx} : PGet X (rIxL X.K) := fun pins s σ H o i ov iv Q I ro ri ⟨p, xs, k, z, eo, ei, hq, he, q⟩ => by
  subst eo ei
  cases ro
  obtain ⟨t, rfl⟩ := ri
  obtain ⟨its, r, pl, hz⟩ := I.list hq
  obtain ⟨j, h1, h2, h3, h4, h5⟩ := atI_get he
  obtain ⟨w, ew, rw'⟩ := r.get h2
  have hl := r.length
  have hn := line63
  have fin : EP X pins σ Q w s := ⟨z, H, I, rw', q⟩
  by_cases h0 : 0 ≤ k
  · have hj : k.toNat = j := by
      rw [seqIndex_of h0 h5] at h1; exact Option.some.inj h1
    exact wpAny_getItem_list pl.isList h0 (by omega) (by rw [hj]; simpa using ew) fin
  · have hj : (k + (its.toArray.size : Int)).toNat = j := by
      rw [seqIndex_neg (by omega) h4] at h1
      rw [List.size_toArray, ← hl]; exact Option.some.inj h1
    exact wpAny_getItem_list_neg pl.isList (by omega) (by rw [List.size_toArray] <;> omega) (by omega) (by rw [hj]; simpa using ew) fin
def rGetD : V → V → Hp → VK → Prop := fun o i H Q => ∃ a v, o = .ref a ∧ DGet H a i (some v) ∧ Q v H
theorem get_val {X : Cx} (hu : X.A.units + 1 < cLine) : PGet X (fun o i H Q => rIxL X.K o i H Q ∨ rGetD o i H Q) := fun pins s σ H o i ov iv Q I ro ri h => by
  rcases h with h | ⟨a, z, eo, g, q⟩
  · exact get_list pins s σ H o i ov iv Q I ro ri h
  · subst eo
    cases (show ov = Value.ref a from ro)
    exact d_getItem hu I g ri fun w' s3 I3 rw' => ⟨z, H, I3, rw', q⟩
theorem getW_r {K : PySem.W.Frag} {ρ : List Addr} {H : Hp} {st : Store} {vo vi : V} {o i w : W} {Q : VK} (hs : StR B ρ H st) (r1 : RW B ρ H vo o) (r2 : RW B ρ H vi i) (e : getW o i st = some w) (q : ∀ v, RW B ρ H v w → Q v H) : rIxL K vo vi H Q ∨ rGetD vo vi H Q := by
  cases r1 with
  | @ref p n en =>
    simp only [getW] at e
    split at e
    · rename_i ws es
      split at e
      · rename_i j
        cases r2
        obtain ⟨vs, h1, h2⟩ := hs.at_ n p _ en es
        obtain ⟨v', e1, r3⟩ := atI_r h2 e
        exact .inl ⟨p, vs, j, v', rfl, rfl, SqL.of h1, e1, q v' r3⟩
      · cases e
    · rename_i kvs es
      obtain ⟨key, hk, hv⟩ := Option.bind_eq_some_iff.mp e
      obtain ⟨vs, h1, h2⟩ := hs.at_ n p _ en es
      obtain ⟨v', e1, r3⟩ := (valW_r key h2).1 w hv
      rw [keyW_r r2 hk]
      exact .inr ⟨p, v', rfl, by rw [← e1]; exact DGet.k h1, q v' r3⟩
    · cases e
  | _ => cases e
def augSubS (g : W2) (o i a : SE) : SS := fun Φ env st => (o Φ env st).toS env fun x st1 => (i Φ env st1).toS env fun j st2 => match getW x j st2 with
  | some w => (a Φ env st2).toS env fun y st3 => match g w y st3 with
    | some (z, st4) => match setW x j z st4 with
      | some st5 => .nx env st5
      | none => .bad
    | none => .bad
  | none => .bad
theorem sndS_augSub {o i e : Expr} {op : Operator} {tpos pos : Pos} {g : W2} {fo fi fa : SE} (hp : plainIxB i = true) (hg : ∀ X : Cx, X.K = B.K → IpW B X op g) (ho : Snd G B k N sc o fo) (hi : Snd G B k N sc i fi) (ha : Snd G B k N sc e fa) :
    SndS G B k N sc (.AugAssign (.Subscript o i tpos) op e pos) (augSubS g fo fi fa) := by
  refine ⟨fun Φ Wx X gx => PS.imp (ps_augS (tip := fun x y H Q => ∃ ρ st a b, StR B ρ H st ∧ RW B ρ H x a ∧ RW B ρ H y b ∧ PostE B (fun _ _ _ => False) ρ H (liftO (g a b st)) Q) (ho.pe Φ Wx X gx.g) (hi.pe Φ Wx X gx.g) (get_val (hu_room gx.g.room)) (ha.pe Φ Wx X gx.g)
    (fun pins s σ H x y v u Q I r1 r2 ⟨ρ, st, a, b, h1, h2, h3, q⟩ => (hg X gx.g.K).run pins s σ H x y v u Q ρ st a b I r1 r2 h1 h2 h3 q) (set_val (hu_room gx.g.room)) (fun _ _ _ => by cases i <;> first | rfl | cases hp)) fun D σ H ⟨ρ, env, st, he, hs, q⟩ => ?_⟩
  refine tX_imp (tX_toS he hs q) fun vo H1 ⟨ρ1, st1, x, a1, a2, he1, hs1, r1, q1⟩ => ?_
  refine tX_imp (tX_toS he1 hs1 q1) fun vi H2 ⟨ρ2, st2, j, b1, b2, he2, hs2, r2, q2⟩ => ?_
  split at q2
  · rename_i w ew
    refine getW_r hs2 (r1.mono b1 b2) r2 ew fun v rv => ?_
    refine tX_imp (tX_toS he2 hs2 q2) fun y H3 ⟨ρ3, st3, b, c1, c2, he3, hs3, r3, q3⟩ => ⟨ρ3, st3, w, b, hs3, rv.mono c1 c2, r3, ?_⟩
    cases e2 : g w b st3 with
    | none => rw [e2] at q3; exact q3.elim
    | some p =>
      obtain ⟨z, st4⟩ := p
      rw [e2] at q3
      intro ρ4 H4 zv d1 d2 hs4 r4
      dsimp only at q3
      split at q3
      · rename_i st5 e5
        exact setW_r (X := X) hs4 (((r1.mono b1 b2).mono c1 c2).mono d1 d2) ((r2.mono c1 c2).mono d1 d2) r4 e5 fun H' kp hs' => q3 ρ4 H' σ d1 (d2.trans kp) ((he3.mono d1 d2).mono (List.prefix_refl _) kp) hs'
      · exact q3.elim
  · exact q2.elim
end
end Zf
namespace Zf
open PySem L2
open PyProof.Rows hiding St

/-! ### what is walked -/
inductive ItW where
  | seq (w : W) (n : Nat) | rng (lo c : Int) (n : Nat) | enu (w : W) (n : Nat) | zip (a b : W) (n m : Nat) | chr (x : Str)
  | dky (n m : Nat) | dvl (n m : Nat) | dit (n m : Nat)
def cntW : ItW → Nat
  | .seq _ n => n
  | .rng _ _ n => n
  | .enu _ n => n
  | .zip _ _ n m => min n m
  | .chr x => x.cps.size
  | .dky _ m => m
  | .dvl _ m => m
  | .dit _ m => m
/-- a locked dict, of its old length -/
def ldAt (n m : Nat) (st : Store) : Option (List (Key × W)) := match st[n]? with
  | some (.ldct kvs) => if kvs.length = m then some kvs else none
  | _ => none
def kW : Key → W
  | .inl i => .int i
  | .inr x => .str x
theorem kW_r {B : Bk} {ρ : List Addr} {H : Hp} (k : Key) : RW B ρ H (kV k) (kW k) := by
  cases k with
  | inl i => exact .int i
  | inr x => exact .str x
/-- the list as it stands, of its old length -/
def nowW (w : W) (n : Nat) (st : Store) : Option (List W) := match seqOf w st with
  | some ws => if ws.length = n then some ws else none
  | none => none
def yldW (it : ItW) (i : Nat) (st : Store) : Option W := match it with
  | .seq w n => (nowW w n st).bind fun ws => ws[i]?
  | .rng lo c _ => some (.int (lo + (i : Nat) * c))
  | .enu w n => (nowW w n st).bind fun ws => (ws[i]?).map fun x => .tup [.int (i : Nat), x]
  | .zip a b n m => (nowW a n st).bind fun xs => (nowW b m st).bind fun ys => match xs[i]?, ys[i]? with
    | some x, some y => some (.tup [x, y])
    | _, _ => none
  | .chr x => (x.cps[i]?).map fun c => .str ⟨#[c]⟩
  | .dky n m => (ldAt n m st).bind fun kvs => (kvs[i]?).map fun p => kW p.1
  | .dvl n m => (ldAt n m st).bind fun kvs => (kvs[i]?).map fun p => p.2
  | .dit n m => (ldAt n m st).bind fun kvs => (kvs[i]?).map fun p => .tup [kW p.1, p.2]
def endW (it : ItW) (st : Store) : Bool := match it with
  | .seq w n => (nowW w n st).isSome
  | .rng _ _ _ => true
  | .enu w n => (nowW w n st).isSome
  | .zip a b n m => (nowW a n st).isSome && (nowW b m st).isSome
  | .chr _ => true
  | .dky n m => (ldAt n m st).isSome
  | .dvl n m => (ldAt n m st).isSome
  | .dit n m => (ldAt n m st).isSome
structure ItR (B : Bk) (J : It) (it : ItW) (ρ0 : List Addr) (H0 : Hp) : Prop where
  go : ∀ (ρ : List Addr) (H : Hp) (st : Store), ρ0 <+: ρ → Kp H0 H → StR B ρ H st → ∀ (i : Nat) (w : W), i < cntW it → yldW it i st = some w → J.go i H ∧ ∀ x H', J.yld i H x H' → Kp H H' ∧ StR B ρ H' st ∧ RW B ρ H' x w
  stop : ∀ (ρ : List Addr) (H : Hp) (st : Store), ρ0 <+: ρ → Kp H0 H → StR B ρ H st → endW it st = true → J.stop (cntW it) H
section
variable {B : Bk}
/-- a value that is walked, with its address -/
inductive WaR (B : Bk) (K : PySem.W.Frag) (J : Addr → It) (a : Addr) (w : W) (ρ0 : List Addr) (H0 : Hp) : Prop
  | mk
theorem seq_list {ρ0 ρ : List Addr} {H0 H : Hp} {a : Addr} {w : W} {st : Store} {ws : List W} (hr : ρ0 <+: ρ) (k : Kp H0 H) (hs : StR B ρ H st) (r : RW B ρ0 H0 (.ref a) w) (hl : ∀ ws, w ≠ .tup ws) (e : seqOf w st = some ws) : ∃ vs, SqL B.K H a vs ∧ RWs B ρ H vs ws := by
  have r := r.mono hr k
  cases r with
  | tup _ _ => exact absurd rfl (hl _)
  | klst h1 h2 => simp [seqOf, lstOf, lstAt] at e; subst e; exact ⟨_, h1.seq, h2⟩
  | @ref _ n e2 =>
    have e3 : lstOf (.ref n) st = some ws := e
    obtain ⟨a', vs, ea, h1, h2⟩ := lstOf_r hs (.ref e2) e3
    cases ea
    exact ⟨vs, h1, h2⟩
  | exc _ _ _ _ => simp [seqOf, lstOf, lstAt] at e
  | clo _ => simp [seqOf, lstOf, lstAt] at e
theorem seq_tup {ρ0 ρ : List Addr} {H0 H : Hp} {a : Addr} {ws0 : List W} {st : Store} {ws : List W} (hr : ρ0 <+: ρ) (k : Kp H0 H) (r : RW B ρ0 H0 (.ref a) (.tup ws0)) (e : seqOf (.tup ws0) st = some ws) : ∃ vs, SqT B.K H a vs ∧ RWs B ρ H vs ws := by
  cases r with
  | tup h1 h2 => simp [seqOf] at e; subst e; exact ⟨_, (h1.kp k).seq, h2.mono hr k⟩
theorem nowW_ok {w : W} {n : Nat} {st : Store} {ws : List W} (e : nowW w n st = some ws) : seqOf w st = some ws ∧ ws.length = n := by
  unfold nowW at e
  split at e
  · rename_i ws' e1
    split at e
    · rename_i hl; cases e; exact ⟨e1, hl⟩
    · cases e
  · cases e
theorem itr_list {ρ0 : List Addr} {H0 : Hp} {a : Addr} {w : W} {n : Nat} (r : RW B ρ0 H0 (.ref a) w) (hl : ∀ ws, w ≠ .tup ws) : ItR B (Itl B.K a) (.seq w n) ρ0 H0 := by
  refine ⟨fun ρ H st hr k hs i x hi e => ?_, fun ρ H st hr k hs e => ?_⟩
  · obtain ⟨ws, e1, e2⟩ := Option.bind_eq_some_iff.mp e
    obtain ⟨e3, e4⟩ := nowW_ok e1
    obtain ⟨vs, h1, h2⟩ := seq_list hr k hs r hl e3
    obtain ⟨v, h3, h4⟩ := h2.get e2
    exact ⟨⟨vs, v, h1, h3⟩, fun y H' ⟨eH, hy⟩ => by
      subst eH
      have := hy vs h1
      rw [h3] at this; cases this
      exact ⟨.refl _, hs, h4⟩⟩
  · obtain ⟨ws, e1⟩ := Option.isSome_iff_exists.mp e
    obtain ⟨e3, e4⟩ := nowW_ok e1
    obtain ⟨vs, h1, h2⟩ := seq_list hr k hs r hl e3
    exact ⟨vs, h1, by rw [h2.length, e4]; exact Nat.le_refl _⟩
theorem itr_tup {ρ0 : List Addr} {H0 : Hp} {a : Addr} {ws0 : List W} {n : Nat} (r : RW B ρ0 H0 (.ref a) (.tup ws0)) : ItR B (Itt B.K a) (.seq (.tup ws0) n) ρ0 H0 := by
  refine ⟨fun ρ H st hr k hs i x hi e => ?_, fun ρ H st hr k hs e => ?_⟩
  · obtain ⟨ws, e1, e2⟩ := Option.bind_eq_some_iff.mp e
    obtain ⟨e3, e4⟩ := nowW_ok e1
    obtain ⟨vs, h1, h2⟩ := seq_tup hr k r e3
    obtain ⟨v, h3, h4⟩ := h2.get e2
    exact ⟨⟨vs, v, h1, h3⟩, fun y H' ⟨eH, hy⟩ => by
      subst eH
      have := hy vs h1
      rw [h3] at this; cases this
      exact ⟨.refl _, hs, h4⟩⟩
  · obtain ⟨ws, e1⟩ := Option.isSome_iff_exists.mp e
    obtain ⟨e3, e4⟩ := nowW_ok e1
    obtain ⟨vs, h1, h2⟩ := seq_tup hr k r e3
    exact ⟨vs, h1, by rw [h2.length, e4]; exact Nat.le_refl _⟩
theorem itr_rng {ρ0 : List Addr} {H0 : Hp} {lo : Int} {n : Nat} : ItR B (Itr lo n) (.rng lo 1 n) ρ0 H0 :=
  ⟨fun ρ H st hr k hs i x hi e => ⟨hi, fun y H' ⟨eH, ey⟩ => by subst eH ey; cases e; rw [Int.mul_one]; exact ⟨.refl _, hs, .int _⟩⟩, fun ρ H st hr k hs e => Nat.le_refl _⟩
theorem itr_rngC {ρ0 : List Addr} {H0 : Hp} {lo c : Int} {n : Nat} : ItR B (Itc lo c n) (.rng lo c n) ρ0 H0 :=
  ⟨fun ρ H st hr k hs i x hi e => ⟨hi, fun y H' ⟨eH, ey⟩ => by subst eH ey; cases e; exact ⟨.refl _, hs, .int _⟩⟩, fun ρ H st hr k hs e => Nat.le_refl _⟩
theorem itr_chr {ρ0 : List Addr} {H0 : Hp} {z : Str} : ItR B (Its z) (.chr z) ρ0 H0 :=
  ⟨fun ρ H st hr k hs i x hi e => ⟨hi, fun y H' ⟨eH, c, ec, ey⟩ => by
    subst eH ey
    simp only [yldW, ec, Option.map_some, Option.some.injEq] at e
    subst e
    exact ⟨.refl _, hs, .str _⟩⟩, fun ρ H st hr k hs e => Nat.le_refl _⟩
theorem itr_enum {ρ0 : List Addr} {H0 : Hp} {a : Addr} {w : W} {n : Nat} (r : RW B ρ0 H0 (.ref a) w) (hl : ∀ ws, w ≠ .tup ws) : ItR B (Ite B.K a) (.enu w n) ρ0 H0 := by
  refine ⟨fun ρ H st hr k hs i x hi e => ?_, fun ρ H st hr k hs e => ?_⟩
  · obtain ⟨ws, e1, e2⟩ := Option.bind_eq_some_iff.mp e
    obtain ⟨e3, e4⟩ := nowW_ok e1
    obtain ⟨vs, h1, h2⟩ := seq_list hr k hs r hl e3
    simp only [Option.map_eq_some_iff] at e2
    obtain ⟨y, e5, e6⟩ := e2
    subst e6
    obtain ⟨v, h3, h4⟩ := h2.get e5
    refine ⟨⟨vs, v, h1, h3⟩, fun y H' ⟨T, z, ey, hT, eH, hy⟩ => ?_⟩
    subst ey eH
    have := hy vs h1
    rw [h3] at this; cases this
    exact ⟨.new hT, hs.new hT, .tup (.inl upd_same) (.cons (.int _) (.cons (h4.mono (List.prefix_refl _) (.new hT)) .nil))⟩
  · obtain ⟨ws, e1⟩ := Option.isSome_iff_exists.mp e
    obtain ⟨e3, e4⟩ := nowW_ok e1
    obtain ⟨vs, h1, h2⟩ := seq_list hr k hs r hl e3
    exact ⟨vs, h1, by rw [h2.length, e4]; exact Nat.le_refl _⟩
theorem zip_yld {st : Store} {i : Nat} {a b x : W} {n m : Nat} (e : yldW (.zip a b n m) i st = some x) : ∃ xs ys y z, nowW a n st = some xs ∧ nowW b m st = some ys ∧ xs[i]? = some y ∧ ys[i]? = some z ∧ x = .tup [y, z] := by
  obtain ⟨xs, e1, e2⟩ := Option.bind_eq_some_iff.mp e
  obtain ⟨ys, e3, e4⟩ := Option.bind_eq_some_iff.mp e2
  split at e4
  · rename_i y z h1 h2; cases e4; exact ⟨xs, ys, y, z, e1, e3, h1, h2, rfl⟩
  · cases e4
theorem zip_end {st : Store} {a b : W} {n m : Nat} (e : endW (.zip a b n m) st = true) : ∃ xs ys, nowW a n st = some xs ∧ nowW b m st = some ys := by
  simp only [endW, Bool.and_eq_true] at e
  obtain ⟨xs, h1⟩ := Option.isSome_iff_exists.mp e.1
  obtain ⟨ys, h2⟩ := Option.isSome_iff_exists.mp e.2
  exact ⟨xs, ys, h1, h2⟩
theorem min_le {a b n m : Nat} (h1 : a = n) (h2 : b = m) : a ≤ min n m ∨ b ≤ min n m := by omega
theorem itr_zip {ρ0 : List Addr} {H0 : Hp} {a b : Addr} {w u : W} {n m : Nat} (r : RW B ρ0 H0 (.ref a) w) (hl : ∀ ws, w ≠ .tup ws) (r2 : RW B ρ0 H0 (.ref b) u) (hl2 : ∀ ws, u ≠ .tup ws) : ItR B (Itz B.K a b) (.zip w u n m) ρ0 H0 := by
  refine ⟨fun ρ H st hr k hs i x hi e => ?_, fun ρ H st hr k hs e => ?_⟩
  · obtain ⟨xs, ys, y, z, e1, e2, e3, e4, ex⟩ := zip_yld e
    subst ex
    obtain ⟨vs, h1, h2⟩ := seq_list hr k hs r hl (nowW_ok e1).1
    obtain ⟨us, g1, g2⟩ := seq_list hr k hs r2 hl2 (nowW_ok e2).1
    obtain ⟨v, h3, h4⟩ := h2.get e3
    obtain ⟨u', g3, g4⟩ := g2.get e4
    refine ⟨⟨vs, us, v, u', h1, g1, h3, g3⟩, fun y H' ⟨T, z, z', ey, hT, eH, hy, hy2⟩ => ?_⟩
    subst ey eH
    have t1 := hy vs h1
    rw [h3] at t1; cases t1
    have t2 := hy2 us g1
    rw [g3] at t2; cases t2
    exact ⟨.new hT, hs.new hT, .tup (.inl upd_same) (.cons (h4.mono (List.prefix_refl _) (.new hT)) (.cons (g4.mono (List.prefix_refl _) (.new hT)) .nil))⟩
  · obtain ⟨xs, ys, e1, e2⟩ := zip_end e
    obtain ⟨vs, h1, h2⟩ := seq_list hr k hs r hl (nowW_ok e1).1
    obtain ⟨us, g1, g2⟩ := seq_list hr k hs r2 hl2 (nowW_ok e2).1
    exact ⟨vs, us, h1, g1, min_le (by rw [h2.length, (nowW_ok e1).2]) (by rw [g2.length, (nowW_ok e2).2])⟩
theorem itr_zipT {ρ0 : List Addr} {H0 : Hp} {a b : Addr} {w u : List W} {n m : Nat} (r : RW B ρ0 H0 (.ref a) (.tup w)) (r2 : RW B ρ0 H0 (.ref b) (.tup u)) : ItR B (RZ.ItzT B.K a b) (.zip (.tup w) (.tup u) n m) ρ0 H0 := by
  refine ⟨fun ρ H st hr k hs i x hi e => ?_, fun ρ H st hr k hs e => ?_⟩
  · obtain ⟨xs, ys, y, z, e1, e2, e3, e4, ex⟩ := zip_yld e
    subst ex
    obtain ⟨vs, h1, h2⟩ := seq_tup hr k r (nowW_ok e1).1
    obtain ⟨us, g1, g2⟩ := seq_tup hr k r2 (nowW_ok e2).1
    obtain ⟨v, h3, h4⟩ := h2.get e3
    obtain ⟨u', g3, g4⟩ := g2.get e4
    refine ⟨⟨vs, us, v, u', h1, g1, h3, g3⟩, fun y H' ⟨T, z, z', ey, hT, eH, hy, hy2⟩ => ?_⟩
    subst ey eH
    have t1 := hy vs h1
    rw [h3] at t1; cases t1
    have t2 := hy2 us g1
    rw [g3] at t2; cases t2
    exact ⟨.new hT, hs.new hT, .tup (.inl upd_same) (.cons (h4.mono (List.prefix_refl _) (.new hT)) (.cons (g4.mono (List.prefix_refl _) (.new hT)) .nil))⟩
  · obtain ⟨xs, ys, e1, e2⟩ := zip_end e
    obtain ⟨vs, h1, h2⟩ := seq_tup hr k r (nowW_ok e1).1
    obtain ⟨us, g1, g2⟩ := seq_tup hr k r2 (nowW_ok e2).1
    exact ⟨vs, us, h1, g1, min_le (by rw [h2.length, (nowW_ok e1).2]) (by rw [g2.length, (nowW_ok e2).2])⟩
theorem RKv.get {ρ : List Addr} {H : Hp} : ∀ {i : Nat} {vs : List (Key × V)} {ws : List (Key × W)} {p : Key × W}, RKv B ρ H vs ws → ws[i]? = some p → ∃ v, vs[i]? = some (p.1, v) ∧ RW B ρ H v p.2
  | _, _, _, _, .nil, e => by simp at e
  | 0, _, _, _, .cons a _, e => by simp at e; subst e; exact ⟨_, rfl, a⟩
  | i + 1, _, _, p, .cons _ b, e => by
    obtain ⟨v, h1, h2⟩ := RKv.get (i := i) (p := p) b (by simpa using e)
    exact ⟨v, by simpa using h1, h2⟩
/-- the locked dict still lies there -/
theorem ld_at {ρ0 ρ : List Addr} {H0 H : Hp} {st : Store} {d : Addr} {o : Obj} {kws : List (Key × V)} {n m : Nat} {kvs : List (Key × W)} (e0 : ρ0[n]? = some d) (h0 : H0 d = some (.frz o (.dK kws))) (hr : ρ0 <+: ρ) (k : Kp H0 H) (hs : StR B ρ H st)
    (e : ldAt n m st = some kvs) : H d = some (.frz o (.dK kws)) ∧ RKv B ρ H kws kvs ∧ kvs.length = m := by
  have h1 := k d _ h0 trivial
  have e1 : ρ[n]? = some d := by
    obtain ⟨t, rfl⟩ := hr
    rw [List.getElem?_append_left (List.getElem?_eq_some_iff.mp e0).1]; exact e0
  unfold ldAt at e
  split at e
  · rename_i kvs' e2
    split at e
    · rename_i hl
      cases e
      obtain ⟨o', kws', g1, g2⟩ := hs.at_ n d _ e1 e2
      rw [h1] at g1; cases g1
      exact ⟨h1, g2, hl⟩
    · cases e
  · cases e
theorem itr_dky {ρ0 : List Addr} {H0 : Hp} {d : Addr} {o : Obj} {kws : List (Key × V)} {n m : Nat} (e0 : ρ0[n]? = some d) (h0 : H0 d = some (.frz o (.dK kws))) : ItR B (Itk d o kws) (.dky n m) ρ0 H0 := by
  refine ⟨fun ρ H st hr k hs i x hi e => ?_, fun ρ H st hr k hs e => ?_⟩
  · obtain ⟨kvs, e1, e2⟩ := Option.bind_eq_some_iff.mp e
    obtain ⟨p, e3, e4⟩ := Option.map_eq_some_iff.mp e2
    obtain ⟨h1, h2, hl⟩ := ld_at e0 h0 hr k hs e1
    obtain ⟨v, h3, h4⟩ := h2.get e3
    subst e4
    refine ⟨⟨h1, (List.getElem?_eq_some_iff.mp h3).1⟩, fun y H' ⟨eH, k', v', ey, ex⟩ => ?_⟩
    subst eH ex
    rw [h3] at ey; cases ey
    exact ⟨.refl _, hs, kW_r _⟩
  · obtain ⟨kvs, e1⟩ := Option.isSome_iff_exists.mp e
    obtain ⟨h1, h2, hl⟩ := ld_at e0 h0 hr k hs e1
    exact ⟨h1, by rw [h2.length, hl]; exact Nat.le_refl _⟩
theorem itr_dvl {ρ0 : List Addr} {H0 : Hp} {d : Addr} {o : Obj} {kws : List (Key × V)} {n m : Nat} (e0 : ρ0[n]? = some d) (h0 : H0 d = some (.frz o (.dK kws))) : ItR B (Itd d o kws) (.dvl n m) ρ0 H0 := by
  refine ⟨fun ρ H st hr k hs i x hi e => ?_, fun ρ H st hr k hs e => ?_⟩
  · obtain ⟨kvs, e1, e2⟩ := Option.bind_eq_some_iff.mp e
    obtain ⟨p, e3, e4⟩ := Option.map_eq_some_iff.mp e2
    obtain ⟨h1, h2, hl⟩ := ld_at e0 h0 hr k hs e1
    obtain ⟨v, h3, h4⟩ := h2.get e3
    subst e4
    refine ⟨⟨h1, (List.getElem?_eq_some_iff.mp h3).1⟩, fun y H' ⟨eH, k', ey⟩ => ?_⟩
    subst eH
    rw [h3] at ey; cases ey
    exact ⟨.refl _, hs, h4⟩
  · obtain ⟨kvs, e1⟩ := Option.isSome_iff_exists.mp e
    obtain ⟨h1, h2, hl⟩ := ld_at e0 h0 hr k hs e1
    exact ⟨h1, by rw [h2.length, hl]; exact Nat.le_refl _⟩
theorem itr_dit {ρ0 : List Addr} {H0 : Hp} {d : Addr} {o : Obj} {kws : List (Key × V)} {n m : Nat} (e0 : ρ0[n]? = some d) (h0 : H0 d = some (.frz o (.dK kws))) : ItR B (Iti d o kws) (.dit n m) ρ0 H0 := by
  refine ⟨fun ρ H st hr k hs i x hi e => ?_, fun ρ H st hr k hs e => ?_⟩
  · obtain ⟨kvs, e1, e2⟩ := Option.bind_eq_some_iff.mp e
    obtain ⟨p, e3, e4⟩ := Option.map_eq_some_iff.mp e2
    obtain ⟨h1, h2, hl⟩ := ld_at e0 h0 hr k hs e1
    obtain ⟨v, h3, h4⟩ := h2.get e3
    subst e4
    refine ⟨⟨h1, (List.getElem?_eq_some_iff.mp h3).1⟩, fun y H' ⟨T, k', v', ey, ex, hT, eH⟩ => ?_⟩
    subst ex eH
    rw [h3] at ey; cases ey
    exact ⟨.new hT, hs.new hT, .tup (.inl upd_same) (.cons (kW_r _) (.cons (h4.mono (List.prefix_refl _) (.new hT)) .nil))⟩
  · obtain ⟨kvs, e1⟩ := Option.isSome_iff_exists.mp e
    obtain ⟨h1, h2, hl⟩ := ld_at e0 h0 hr k hs e1
    exact ⟨h1, by rw [h2.length, hl]; exact Nat.le_refl _⟩
end

/-! ### what a loop walks, as text -/
abbrev SI := Phi → Env → Store → Out ItW
structure SndI (G : Glb) (B : Bk) (k : Nat) (N : List Str) (sc : Scope) (tg iter : Expr) (F : SI) : Prop where
  pi : ∀ (Φ : Phi) (Wx : WX) (X : Cx), GX G B Φ k N Wx sc X → ∃ wi : TI, PI X tg iter wi ∧ ∀ (σ : St) (H : Hp) (R : It → Hp → Prop), tX (β := It) (fun ρ H J it => ItR B J it ρ H) B Wx (F Φ) σ H R → wi σ H R
  nf : ∀ env x, foldedSetIterable iter env x = pure x
def notSet : Expr → Bool
  | .Set _ _ _ => false
  | _ => true
theorem notSet_ok {e : Expr} (h : notSet e = true) (env : PySem.Env) (x : Value) : foldedSetIterable e env x = pure x := by
  cases e <;> first | rfl | cases h
theorem pi_any {X : Cx} {tg l : Expr} {tl : TE} (hl : PE X l tl) : PI X tg l (fun σ H R => tl σ H fun x H1 => (∃ a, x = .ref a ∧ (∃ xs, SqL X.K H1 a xs) ∧ R (Itl X.K a) H1) ∨ (∃ a, x = .ref a ∧ (∃ xs, SqT X.K H1 a xs) ∧ R (Itt X.K a) H1) ∨ (∃ z, x = .str z ∧ R (Its z) H1)) := by
  refine ⟨fun pins s σ H R I h => thn (hl.run pins s σ H _ I h) fun v s1 ⟨x, H1, I1, r1, q1⟩ => ?_⟩
  have nw : ∀ {o : Obj} {tn : Nat → Heap → Prop} {J : It}, Turn X.prog X.w X.K tg J [s1.heap.objs.size] s1.heap.objs.size tn → tn 0 (s1.heap.push o) → R J H1 → PIE X pins σ tg R (.ref s1.heap.objs.size) { s1 with heap := s1.heap.push o } := fun {o tn J} T h0 q =>
    ⟨s1.heap.objs.size, [s1.heap.objs.size], tn, J, H1, rfl, I1.kept (t' := s1.toks) (fun b o e => Heap.get?_push_of_some _ e), T, h0, fun b hb => (List.mem_singleton.mp hb) ▸ I1.fpOk (Nat.le_refl _) (I1.hok.fresh (Nat.le_refl _)), q⟩
  rcases q1 with ⟨a, e, ⟨xs, hq⟩, q⟩ | ⟨a, e, ⟨xs, hq⟩, q⟩ | ⟨z, e, q⟩
  · subst e; cases r1
    obtain ⟨its, rv, p, hz⟩ := I1.list hq
    exact wpAny_pyIter_list p.isList (nw (turn_list a _) ⟨_, Heap.get?_push_size _ rfl, rfl, rfl⟩ q)
  · subst e; cases r1
    obtain ⟨its, rv, p, hz⟩ := I1.tuple hq
    exact wpAny_pyIter_tuple (show s1.heap.IsTuple a its.toArray from p) (nw (turn_tuple a _) ⟨_, Heap.get?_push_size _ rfl, rfl, rfl⟩ q)
  · subst e
    obtain ⟨t, rfl⟩ := r1
    cases ha : z.cps.all (· < 128)
    · exact wpAny_pyIter_wide ha (nw (turn_str _ z t "str_iterator" (.inr rfl)) ⟨_, Heap.get?_push_size _ rfl, rfl, rfl⟩ q)
    · exact wpAny_pyIter_ascii ha (nw (turn_str _ z t "str_ascii_iterator" (.inl rfl)) ⟨_, Heap.get?_push_size _ rfl, rfl, rfl⟩ q)
section
variable {G : Glb} {B : Bk} {k : Nat} {N : List Str} {sc : Scope} {tg : Expr}
/-- a list, a tuple, a text -/
def valI (a : SE) : SI := fun Φ env st => (a Φ env st).bind fun w st1 => match w with
  | .str z => .ok (.chr z) st1
  | w => match seqOf w st1 with
    | some ws => .ok (.seq w ws.length) st1
    | none => .bad
theorem sndI_val {e : Expr} {fa : SE} (hn : notSet e = true) (ha : Snd G B k N sc e fa) : SndI G B k N sc tg e (valI fa) := by
  refine ⟨fun Φ Wx X g => ⟨_, pi_any (ha.pe Φ Wx X g), fun σ H R ⟨ρ, env, st, he, hs, q⟩ => ?_⟩, fun env x => notSet_ok hn env x⟩
  refine tX_imp (tX_bind he hs q) fun v H1 ⟨ρ1, st1, w, a1, a2, he1, hs1, r1, q1⟩ => ?_
  have here : ∀ {J : It} {it : ItW}, Post (β := It) (fun ρ H J it => ItR B J it ρ H) B (fun c d H' => Wx c d σ H') ρ1 H1 (.ok it st1) R → ItR B J it ρ1 H1 → R J H1 := fun {J it} q r => q ρ1 H1 J (List.prefix_refl _) (.refl _) hs1 r
  cases r1 with
  | str z => exact .inr (.inr ⟨z, rfl, here q1 itr_chr⟩)
  | @tup a vs ws h1 h2 => exact .inr (.inl ⟨a, rfl, ⟨vs, by rw [g.K]; exact h1.seq⟩, by rw [g.K]; exact here q1 (itr_tup (.tup h1 h2))⟩)
  | @klst a vs ws h1 h2 => exact .inl ⟨a, rfl, ⟨vs, by rw [g.K]; exact h1.seq⟩, by rw [g.K]; exact here q1 (itr_list (.klst h1 h2) (fun _ z => nomatch z))⟩
  | @ref a n e =>
    dsimp only at q1
    split at q1
    · rename_i ws e1
      have e3 : lstOf (.ref n) st1 = some ws := e1
      obtain ⟨a', vs, ea, h1, h2⟩ := lstOf_r hs1 (.ref e) e3
      cases ea
      exact .inl ⟨a, rfl, ⟨vs, by rw [g.K]; exact h1⟩, by rw [g.K]; exact here q1 (itr_list (.ref e) (fun _ z => nomatch z))⟩
    · exact q1.elim
  | _ => exact q1.elim
/-- a dict that is locked: mode 0 its keys, 1 its values, 2 its pairs -/
def dctI (mk : Nat → Nat → ItW) (a : SE) : SI := fun Φ env st => (a Φ env st).bind fun w st1 => match w with
  | .ref n => match st1[n]? with
    | some (.ldct kvs) => .ok (mk n kvs.length) st1
    | _ => .bad
  | _ => .bad
theorem dctI_r {Φ : Phi} {Wx : WX} {fa : SE} {mk : Nat → Nat → ItW} {jt : Addr → Obj → List (Key × V) → It} (hj : ∀ {ρ0 : List Addr} {H0 : Hp} {d : Addr} {o : Obj} {kws : List (Key × V)} {n m : Nat}, ρ0[n]? = some d → H0 d = some (.frz o (.dK kws)) → ItR B (jt d o kws) (mk n m) ρ0 H0)
    {σ : St} {H : Hp} {R : It → Hp → Prop} (h : tX (β := It) (fun ρ H J it => ItR B J it ρ H) B Wx (dctI mk fa Φ) σ H R) :
    tX (RW B) B Wx (fa Φ) σ H fun x H1 => ∃ d o kws, x = .ref d ∧ H1 d = some (.frz o (.dK kws)) ∧ R (jt d o kws) H1 := by
  obtain ⟨ρ, env, st, he, hs, q⟩ := h
  refine tX_imp (tX_bind he hs q) fun v H1 ⟨ρ1, st1, w, a1, a2, he1, hs1, r1, q1⟩ => ?_
  split at q1
  · rename_i n
    split at q1
    · rename_i kvs e1
      cases r1 with
      | @ref a n er =>
        obtain ⟨o, kws, g1, g2⟩ := hs1.at_ n a _ er e1
        exact ⟨a, o, kws, rfl, g1, q1 ρ1 H1 _ (List.prefix_refl _) (.refl _) hs1 (hj er g1)⟩
    · exact q1.elim
  · exact q1.elim
theorem sndI_key {e : Expr} {fa : SE} (hn : notSet e = true) (ha : Snd G B k N sc e fa) : SndI G B k N sc tg e (dctI .dky fa) :=
  ⟨fun Φ Wx X g => ⟨_, pi_keys (ha.pe Φ Wx X g), fun σ H R h => tX_imp (dctI_r itr_dky h) fun x H1 ⟨d, o, kws, e1, e2, q⟩ => ⟨d, o, e1, .inl ⟨kws, e2, q⟩⟩⟩, fun env x => notSet_ok hn env x⟩
theorem sndI_keys {e : Expr} {apos cpos : Pos} {fa : SE} (hb : baseOk e = true) (hl : (apos.endLine == cpos.line) = true) (ha : Snd G B k N sc e fa) : SndI G B k N sc tg (.Call (.Attribute e "keys" apos) [] [] cpos) (dctI .dky fa) :=
  ⟨fun Φ Wx X g => ⟨_, pi_keysM (ha.pe Φ Wx X g) (baseOk_ok hb _ _ _) hl, fun σ H R h => dctI_r itr_dky h⟩, fun env x => rfl⟩
theorem sndI_values {e : Expr} {apos cpos : Pos} {fa : SE} (hb : baseOk e = true) (hl : (apos.endLine == cpos.line) = true) (ha : Snd G B k N sc e fa) : SndI G B k N sc tg (.Call (.Attribute e "values" apos) [] [] cpos) (dctI .dvl fa) :=
  ⟨fun Φ Wx X g => ⟨_, pi_values (ha.pe Φ Wx X g) (baseOk_ok hb _ _ _) hl, fun σ H R h => dctI_r itr_dvl h⟩, fun env x => rfl⟩
theorem sndI_items {e : Expr} {apos cpos : Pos} {fa : SE} {elts : List Expr} {kk : Nat} {tpos : Pos} (hb : baseOk e = true) (hl : (apos.endLine == cpos.line) = true) (ha : Snd G B k N sc e fa) :
    SndI G B k N sc (.Tuple elts kk tpos) (.Call (.Attribute e "items" apos) [] [] cpos) (dctI .dit fa) :=
  ⟨fun Φ Wx X g => ⟨_, pi_items (ha.pe Φ Wx X g) (baseOk_ok hb _ _ _) hl, fun σ H R h => dctI_r itr_dit h⟩, fun env x => rfl⟩
end
end Zf
namespace Zf
open PySem L2
open PyProof.Rows hiding St
section
variable {G : Glb} {B : Bk} {k : Nat} {N : List Str} {sc : Scope} {tg : Expr}
theorem noStar1 {e : Expr} (h : noStar e = true) (env : PySem.Env) : starEach [e] env = [(false, eval e env)] := by rw [noStar_ok h]; rfl
/-- range(..) -/
def inR (i : Int) : Bool := decide (-(2 ^ 62) ≤ i) && decide (i < 2 ^ 62)
def rng1 : List W → Option ItW
  | [.int j] => if inR j = true then some (.rng 0 1 j.toNat) else none
  | _ => none
def rng2 : List W → Option ItW
  | [.int i, .int j] => if (inR i && inR j) = true then some (.rng i 1 (j - i).toNat) else none
  | _ => none
def rng3 : List W → Option ItW
  | [.int i, .int j, .int c] => if (inR i && inR j && decide (c = -1)) = true then some (.rng i (-1) (i - j).toNat) else none
  | _ => none
def rngI (f : List W → Option ItW) (l : SL) : SI := fun Φ env st => (l Φ env st).bind fun ws st1 => match f ws with
  | some it => .ok it st1
  | none => .bad
theorem inR_ok {i : Int} (h : inR i = true) : -(2 ^ 62) ≤ i ∧ i < 2 ^ 62 := by
  unfold inR at h
  simp only [Bool.and_eq_true, decide_eq_true_eq] at h
  exact h
theorem postIt {Wx : Value → Option Addr → Hp → Prop} {ρ1 : List Addr} {H1 : Hp} {st1 : Store} {R : It → Hp → Prop} {J : It} {it : ItW} (hs1 : StR B ρ1 H1 st1)
    (q : Post (β := It) (fun ρ H J it => ItR B J it ρ H) B Wx ρ1 H1 (.ok it st1) R) (r : ItR B J it ρ1 H1) : R J H1 := q ρ1 H1 J (List.prefix_refl _) (.refl _) hs1 r
theorem sndI_rng1 {a : Expr} {p pos : Pos} {fl : SL} (hg : glbB sc "range" = true) (hb : ("range" : Str) ∈ G.blt) (hn : noStar a = true) (hl : SndL G B k N sc [a] fl) : SndI G B k N sc tg (.Call (.Name "range" p) [a] [] pos) (rngI rng1 fl) := by
  refine ⟨fun Φ Wx X g => ⟨_, pi_range1 (glbB_ok (by rw [g.sc]; exact hg)) (g.gk.blt _ hb) (hl.pa Φ Wx X g) (noStar1 hn _), fun σ H R ⟨ρ, env, st, he, hs, q⟩ => ?_⟩, fun _ _ => rfl⟩
  refine tX_imp (tX_bind he hs q) fun vs H1 ⟨ρ1, st1, ws, a1, a2, he1, hs1, r1, q1⟩ => ?_
  split at q1
  · rename_i it e
    unfold rng1 at e
    split at e
    · rename_i j
      split at e
      · rename_i h
        cases e
        cases r1 with
        | cons r r1 =>
          cases r; cases r1
          exact ⟨j, rfl, (inR_ok h).1, (inR_ok h).2, postIt hs1 q1 itr_rng⟩
      · cases e
    · cases e
  · exact q1.elim
theorem sndI_rng2 {a b : Expr} {p pos : Pos} {fl : SL} (hg : glbB sc "range" = true) (hb : ("range" : Str) ∈ G.blt) (hn : noStar a = true) (hn2 : noStar b = true) (hl : SndL G B k N sc [a, b] fl) : SndI G B k N sc tg (.Call (.Name "range" p) [a, b] [] pos) (rngI rng2 fl) := by
  refine ⟨fun Φ Wx X g => ⟨_, pi_range2 (glbB_ok (by rw [g.sc]; exact hg)) (g.gk.blt _ hb) (hl.pa Φ Wx X g) (by rw [noStar_ok hn, noStar1 hn2]) (noStar1 hn2 _), fun σ H R ⟨ρ, env, st, he, hs, q⟩ => ?_⟩, fun _ _ => rfl⟩
  refine tX_imp (tX_bind he hs q) fun vs H1 ⟨ρ1, st1, ws, a1, a2, he1, hs1, r1, q1⟩ => ?_
  split at q1
  · rename_i it e
    unfold rng2 at e
    split at e
    · rename_i i j
      split at e
      · rename_i h
        cases e
        rw [Bool.and_eq_true] at h
        cases r1 with
        | cons r r1 => cases r; cases r1 with
          | cons r r1 =>
            cases r; cases r1
            exact ⟨i, j, rfl, ⟨(inR_ok h.1).1, (inR_ok h.1).2, (inR_ok h.2).1, (inR_ok h.2).2⟩, postIt hs1 q1 itr_rng⟩
      · cases e
    · cases e
  · exact q1.elim
theorem sndI_rng3 {a b c : Expr} {p pos : Pos} {fl : SL} (hg : glbB sc "range" = true) (hb : ("range" : Str) ∈ G.blt) (hn : noStar a = true) (hn2 : [b, c].all noStar = true) (hl : SndL G B k N sc [a, b, c] fl) : SndI G B k N sc tg (.Call (.Name "range" p) [a, b, c] [] pos) (rngI rng3 fl) := by
  refine ⟨fun Φ Wx X g => ⟨_, pi_range3 (glbB_ok (by rw [g.sc]; exact hg)) (g.gk.blt _ hb) (hl.pa Φ Wx X g) (noStar_ok hn _ _) (backTo_plain (e := a) hn2), fun σ H R ⟨ρ, env, st, he, hs, q⟩ => ?_⟩, fun _ _ => rfl⟩
  refine tX_imp (tX_bind he hs q) fun vs H1 ⟨ρ1, st1, ws, a1, a2, he1, hs1, r1, q1⟩ => ?_
  split at q1
  · rename_i it e
    unfold rng3 at e
    split at e
    · rename_i i j c
      split at e
      · rename_i h
        cases e
        simp only [Bool.and_eq_true, decide_eq_true_eq] at h
        obtain ⟨⟨h1, h2⟩, h3⟩ := h
        subst h3
        cases r1 with
        | cons r r1 => cases r; cases r1 with
          | cons r r1 => cases r; cases r1 with
            | cons r r1 =>
              cases r; cases r1
              exact ⟨i, j, -1, _, rfl, .neg (inR_ok h1).1 (inR_ok h1).2 (inR_ok h2).1 (inR_ok h2).2, postIt hs1 q1 itr_rngC⟩
      · cases e
    · cases e
  · exact q1.elim
/-- enumerate(a list) -/
def isLstW (w : W) (st : Store) : Option Nat := match w with
  | .klst ws => some ws.length
  | .ref n => (lstOf (.ref n) st).map (·.length)
  | _ => none
theorem isLstW_r {ρ : List Addr} {H : Hp} {st : Store} {v : V} {w : W} {n : Nat} (hs : StR B ρ H st) (r : RW B ρ H v w) (e : isLstW w st = some n) : (∃ a xs, v = .ref a ∧ SqL B.K H a xs) ∧ ∀ ws, w ≠ .tup ws := by
  cases r with
  | klst h1 h2 => exact ⟨⟨_, _, rfl, h1.seq⟩, fun _ z => nomatch z⟩
  | @ref a n e2 =>
    simp only [isLstW, Option.map_eq_some_iff] at e
    obtain ⟨ws, e3, _⟩ := e
    obtain ⟨a', vs, ea, h1, h2⟩ := lstOf_r hs (.ref e2) e3
    exact ⟨⟨a', vs, ea, h1⟩, fun _ z => nomatch z⟩
  | _ => cases e
def enuI (l : SL) : SI := fun Φ env st => (l Φ env st).bind fun ws st1 => match ws with
  | [w] => match isLstW w st1 with
    | some n => .ok (.enu w n) st1
    | none => .bad
  | _ => .bad
theorem sndI_enu {a : Expr} {elts : List Expr} {kk : Nat} {p pos tpos : Pos} {fl : SL} (hg : glbB sc "enumerate" = true) (hb : ("enumerate" : Str) ∈ G.blt) (hn : noStar a = true) (hl : SndL G B k N sc [a] fl) :
    SndI G B k N sc (.Tuple elts kk tpos) (.Call (.Name "enumerate" p) [a] [] pos) (enuI fl) := by
  refine ⟨fun Φ Wx X g => ⟨_, pi_enum (glbB_ok (by rw [g.sc]; exact hg)) (g.gk.blt _ hb) (hl.pa Φ Wx X g) (noStar1 hn _), fun σ H R ⟨ρ, env, st, he, hs, q⟩ => ?_⟩, fun _ _ => rfl⟩
  refine tX_imp (tX_bind he hs q) fun vs H1 ⟨ρ1, st1, ws, a1, a2, he1, hs1, r1, q1⟩ => ?_
  split at q1
  · rename_i w
    split at q1
    · rename_i n e
      cases r1 with
      | cons r r1 =>
        cases r1
        obtain ⟨⟨a, xs, ev, h1⟩, h2⟩ := isLstW_r hs1 r e
        subst ev
        exact ⟨a, xs, rfl, by rw [g.K]; exact h1, by rw [g.K]; exact postIt hs1 q1 (itr_enum r h2)⟩
    · exact q1.elim
  · exact q1.elim
/-- zip(a, b): two lists or two tuples -/
def zipI (l : SL) : SI := fun Φ env st => (l Φ env st).bind fun ws st1 => match ws with
  | [.tup a, .tup b] => .ok (.zip (.tup a) (.tup b) a.length b.length) st1
  | [a, b] => match isLstW a st1, isLstW b st1 with
    | some n, some m => .ok (.zip a b n m) st1
    | _, _ => .bad
  | _ => .bad
theorem sndI_zip {a b : Expr} {elts : List Expr} {kk : Nat} {p pos tpos : Pos} {fl : SL} (hg : glbB sc "zip" = true) (hb : ("zip" : Str) ∈ G.blt) (hn : noStar a = true) (hn2 : noStar b = true) (hl : SndL G B k N sc [a, b] fl) :
    SndI G B k N sc (.Tuple elts kk tpos) (.Call (.Name "zip" p) [a, b] [] pos) (zipI fl) := by
  refine ⟨fun Φ Wx X g => ⟨_, RZ.pi_zipA (glbB_ok (by rw [g.sc]; exact hg)) (g.gk.blt _ hb) (hl.pa Φ Wx X g) (noStar_ok hn _ _) (by rw [noStar1 hn2] <;> rfl), fun σ H R ⟨ρ, env, st, he, hs, q⟩ => ?_⟩, fun _ _ => rfl⟩
  refine tX_imp (tX_bind he hs q) fun vs H1 ⟨ρ1, st1, ws, a1, a2, he1, hs1, r1, q1⟩ => ?_
  split at q1
  · rename_i a b
    cases r1 with
    | cons r r1 => cases r1 with
      | cons r' r1 =>
        cases r1
        cases r with
        | tup h1 h2 => cases r' with
          | tup h3 h4 => exact ⟨_, _, _, _, rfl, .inr ⟨by rw [g.K]; exact h1.seq, by rw [g.K]; exact h3.seq, by rw [g.K]; exact postIt hs1 q1 (itr_zipT (.tup h1 h2) (.tup h3 h4))⟩⟩
  · rename_i a b _
    split at q1
    · rename_i n m e1 e2
      cases r1 with
      | cons r r1 => cases r1 with
        | cons r' r1 =>
          cases r1
          obtain ⟨⟨a, xs, ev, h1⟩, h2⟩ := isLstW_r hs1 r e1
          obtain ⟨⟨b, ys, ev2, h3⟩, h4⟩ := isLstW_r hs1 r' e2
          subst ev ev2
          exact ⟨a, b, xs, ys, rfl, .inl ⟨by rw [g.K]; exact h1, by rw [g.K]; exact h3, by rw [g.K]; exact postIt hs1 q1 (itr_zip r h2 r' h4)⟩⟩
    · exact q1.elim
  · exact q1.elim

/-! ### for -/
def forL (it : ItW) (t : W → Env → Store → SOut) (b : Env → Store → SOut) : Nat → Env → Store → SOut
  | 0, env, st => if endW it st = true then .nx env st else .bad
  | m + 1, env, st => match yldW it (cntW it - (m + 1)) st with
    | none => .bad
    | some w => match (t w env st).go with
      | .nx env1 st1 => match b env1 st1 with
        | .nx env2 st2 => forL it t b m env2 st2
        | .ct env2 st2 => forL it t b m env2 st2
        | .bk env2 st2 => .nx env2 st2
        | o => o
      | o => o
def forS (it : SI) (t : SG) (b : SS) : SS := fun Φ env st => (it Φ env st).toS env fun I st1 => forL I (t Φ) (b Φ) (cntW I) env st1
theorem sndS_for {tg iter : Expr} {body : List Stmt} {pos : Pos} {fi : SI} {ft : SG} {fb : SS} (hi : SndI G B k N sc tg iter fi) (ht : SndG G B k N sc true tg ft) (hb : SndSs G B k N sc body fb) : SndS G B k N sc (.For tg iter body [] pos) (forS fi ft fb) := by
  refine ⟨fun Φ Wx X g => ?_⟩
  obtain ⟨wi, h1, h2⟩ := hi.pi Φ Wx X g.g
  refine PS.imp (ps_for g.hp g.g.calm h1 (ht.pg Φ Wx X g.g fun _ => g.fn) (hb.pss Φ Wx X g) (fun x => hi.nf _ x)) fun D σ H ⟨ρ, env, st, he, hs, q⟩ => ?_
  refine h2 σ H _ (tX_imp (tX_toS he hs q) fun J H1 ⟨ρ1, st1, it, a1, a2, he1, hs1, r1, q1⟩ => ?_)
  refine ⟨fun i m σ H => m = cntW it - i ∧ i ≤ cntW it ∧ ∃ ρ env st, ρ1 <+: ρ ∧ Kp H1 H ∧ EnvR B ρ H σ env ∧ StR B ρ H st ∧ PostS B Wx ρ H (forL it (ft Φ) (fb Φ) m env st) D, ⟨_, rfl, Nat.zero_le _, ρ1, env, st1, List.prefix_refl _, .refl _, he1, hs1, q1⟩, ?_⟩
  rintro i m σ2 H2 ⟨em, hi, ρ2, env2, st2, b1, b2, he2, hs2, q2⟩
  cases m with
  | zero =>
    have ei : i = cntW it := by omega
    subst ei
    simp only [forL] at q2
    split at q2
    · rename_i he'
      exact .inl ⟨r1.stop ρ2 H2 st2 b1 b2 hs2 he', postS_nx q2 he2 hs2⟩
    · exact q2.elim
  | succ m =>
    have ei : cntW it - (m + 1) = i := by omega
    simp only [forL] at q2
    rw [ei] at q2
    split at q2
    · exact q2.elim
    · rename_i w ew
      obtain ⟨go, yl⟩ := r1.go ρ2 H2 st2 b1 b2 hs2 i w (by omega) ew
      refine .inr ⟨go, fun σ' H' => ∃ ρ' env' st', ρ1 <+: ρ' ∧ Kp H1 H' ∧ EnvR B ρ' H' σ' env' ∧ StR B ρ' H' st' ∧ PostS B Wx ρ' H' (forL it (ft Φ) (fb Φ) m env' st') D, fun σ' H' p => ⟨m, by omega, by omega, by omega, p⟩, fun x H3 y => ?_⟩
      obtain ⟨kp, hs3, rx⟩ := yl x H3 y
      have he3 := he2.mono (List.prefix_refl _) kp
      have q3 := PostS.mono q2 (List.prefix_refl _) kp
      refine ⟨ρ2, env2, st2, w, he3, hs3, rx, ?_⟩
      cases et : ft Φ w env2 st2 with
      | nx env4 st4 =>
        rw [et] at q3
        intro ρ4 H4 σ4 c1 c2 he4 hs4
        have q4 := PostS.mono q3 c1 c2
        refine ⟨ρ4, env4, st4, he4, hs4, ?_⟩
        simp only [SOut.go] at q4
        cases eb : fb Φ env4 st4 with
        | nx env5 st5 =>
          rw [eb] at q4
          exact fun ρ5 H5 σ5 d1 d2 he5 hs5 => ⟨ρ5, env5, st5, (b1.trans c1).trans d1, ((b2.trans kp).trans c2).trans d2, he5, hs5, PostS.mono q4 d1 d2⟩
        | ct env5 st5 =>
          rw [eb] at q4
          exact fun ρ5 H5 σ5 d1 d2 he5 hs5 => ⟨ρ5, env5, st5, (b1.trans c1).trans d1, ((b2.trans kp).trans c2).trans d2, he5, hs5, PostS.mono q4 d1 d2⟩
        | bk env5 st5 => rw [eb] at q4; exact q4
        | rt w5 st5 => rw [eb] at q4; exact q4
        | er x5 env5 st5 => rw [eb] at q4; exact q4
        | bad => rw [eb] at q4; exact q4.elim
      | er x4 env4 st4 => rw [et] at q3; exact q3
      | bad => rw [et] at q3; exact q3.elim
      | rt w4 st4 => rw [et] at q3; exact q3.elim
      | bk w4 st4 => rw [et] at q3; exact q3.elim
      | ct w4 st4 => rw [et] at q3; exact q3.elim

/-! ### while -/
def whileL (c : Env → Store → Out Bool) (b : Env → Store → SOut) : Nat → Env → Store → SOut
  | 0, _, _ => .bad
  | m + 1, env, st => (c env st).toS env fun t st1 => if t = true then match b env st1 with
      | .nx env2 st2 => whileL c b m env2 st2
      | .ct env2 st2 => whileL c b m env2 st2
      | .bk env2 st2 => .nx env2 st2
      | o => o
    else .nx env st1
/-- at most so many turns -/
def turns : Nat := 1000000000
def whileS (c : ST) (b : SS) : SS := fun Φ env st => whileL (c Φ) (b Φ) turns env st
theorem sndS_while {c : Expr} {body : List Stmt} {pos : Pos} {fc : ST} {fb : SS} (hc : SndT G B k N sc c fc) (hb : SndSs G B k N sc body fb) : SndS G B k N sc (.While c body [] pos) (whileS fc fb) := by
  refine ⟨fun Φ Wx X g => PS.imp (ps_while g.hp (hc.pt Φ Wx X g.g) (hb.pss Φ Wx X g)) fun D σ H ⟨ρ, env, st, he, hs, q⟩ => ?_⟩
  refine ⟨fun m σ H => ∃ ρ env st, EnvR B ρ H σ env ∧ StR B ρ H st ∧ PostS B Wx ρ H (whileL (fc Φ) (fb Φ) m env st) D, ⟨turns, ρ, env, st, he, hs, q⟩, ?_⟩
  rintro m σ2 H2 ⟨ρ2, env2, st2, he2, hs2, q2⟩
  cases m with
  | zero => exact q2.elim
  | succ m =>
    simp only [whileL] at q2
    refine tX_imp (tX_toS he2 hs2 q2) fun t H3 ⟨ρ3, st3, t', a1, a2, he3, hs3, r3, q3⟩ => ?_
    cases r3
    cases t with
    | false => exact postS_nx q3 he3 hs3
    | true =>
      rw [if_pos rfl] at q3 ⊢
      refine ⟨fun σ' H' => ∃ ρ' env' st', EnvR B ρ' H' σ' env' ∧ StR B ρ' H' st' ∧ PostS B Wx ρ' H' (whileL (fc Φ) (fb Φ) m env' st') D, fun σ' H' p => ⟨m, Nat.lt_succ_self _, p⟩, ρ3, env2, st3, he3, hs3, ?_⟩
      cases eb : fb Φ env2 st3 with
      | nx env5 st5 =>
        rw [eb] at q3
        exact fun ρ5 H5 σ5 d1 d2 he5 hs5 => ⟨ρ5, env5, st5, he5, hs5, PostS.mono q3 d1 d2⟩
      | ct env5 st5 =>
        rw [eb] at q3
        exact fun ρ5 H5 σ5 d1 d2 he5 hs5 => ⟨ρ5, env5, st5, he5, hs5, PostS.mono q3 d1 d2⟩
      | bk env5 st5 => rw [eb] at q3; exact q3
      | rt w5 st5 => rw [eb] at q3; exact q3
      | er x5 env5 st5 => rw [eb] at q3; exact q3
      | bad => rw [eb] at q3; exact q3.elim
end
end Zf
namespace Zf
open PySem L2
open PyProof.Rows hiding St

/-! ### list comprehensions -/
def Out.noEr {α : Type} (o : Out α) : Out α := match o with
  | .ok a st => .ok a st
  | _ => .bad
theorem tX_noEr {α β γ δ : Type} {R : List Addr → Hp → β → α → Prop} {R' : List Addr → Hp → δ → γ → Prop} {B : Bk} {Wx : WX} {Wy : Value → Option Addr → Hp → Prop} {F : Env → Store → Out α} {k : α → Store → Out γ} {σ : St} {H : Hp} {Q : δ → Hp → Prop} {ρ : List Addr} {env : Env} {st : Store}
    (he : EnvR B ρ H σ env) (hs : StR B ρ H st) (h : Post R' B Wy ρ H ((F env st).noEr.bind k) Q) :
    tX R B Wx F σ H (fun v H1 => ∃ ρ1 st1 a, ρ <+: ρ1 ∧ Kp H H1 ∧ EnvR B ρ1 H1 σ env ∧ StR B ρ1 H1 st1 ∧ R ρ1 H1 v a ∧ Post R' B Wy ρ1 H1 (k a st1) Q) := by
  refine ⟨ρ, env, st, he, hs, ?_⟩
  cases e : F env st with
  | ok a st1 =>
    rw [e] at h
    exact fun ρ' H' v a1 a2 a3 a4 => ⟨ρ', st1, a, a1, a2, he.mono a1 a2, a3, a4, Post.mono h a1 a2⟩
  | er x st' => rw [e] at h; exact h.elim
  | bad => rw [e] at h; exact h.elim
/-- own names forgotten -/
def wipeE (env : Env) : List Nat → Env
  | [] => env
  | v :: vs => (wipeE env vs).set v none
theorem EnvR.wipe {B : Bk} {ρ : List Addr} {H : Hp} {σ : St} {env : Env} (h : EnvR B ρ H σ env) : ∀ vs : List Nat, EnvR B ρ H (wipe σ vs) (wipeE env vs)
  | [] => h
  | v :: vs => (EnvR.wipe h vs).unset v
theorem wipe_set {σ : St} {i : Nat} {x : Option V} : ∀ {vs : List Nat}, i ∈ vs → wipe (σ.set i x) vs = wipe σ vs
  | v :: vs, h => by
    unfold wipe
    by_cases hi : i = v
    · subst hi
      by_cases hm : i ∈ vs
      · rw [wipe_set hm]
      · have : ∀ vs : List Nat, i ∉ vs → wipe (σ.set i x) vs = (wipe σ vs).set i x := fun vs => by
          induction vs with
          | nil => intro _; rfl
          | cons u us ih =>
            intro hn
            simp only [List.mem_cons, not_or] at hn
            unfold wipe
            rw [ih hn.2, List.set_comm _ _ hn.1]
        rw [this vs hm, List.set_set]
    · have hm : i ∈ vs := by
        rcases List.mem_cons.mp h with e | e
        · exact absurd e hi
        · exact e
      rw [wipe_set hm]
theorem wipe_wipe {σ : St} {vs : List Nat} : wipe (wipe σ vs) vs = wipe σ vs := by
  have : ∀ us : List Nat, (∀ u ∈ us, u ∈ vs) → wipe (wipe σ us) vs = wipe σ vs := fun us => by
    induction us with
    | nil => intro _; rfl
    | cons u us ih =>
      intro h
      show wipe ((wipe σ us).set u none) vs = _
      rw [wipe_set (h u List.mem_cons_self), ih fun x hx => h x (List.mem_cons_of_mem _ hx)]
  exact this vs fun _ h => h
/-- a comprehension's target: names alone -/
abbrev TF := W → Env → Store → Option Env
abbrev TFs := List W → Env → Option Env
structure SndC (B : Bk) (N : List Str) (sc : Scope) (own : List Nat) (t : Expr) (F : TF) : Prop where
  ex : ∃ g : TG, (∀ X : Cx, X.K = B.K → X.N = N → X.N.Nodup → X.env.scope = sc → X.calm = true → PG X t g) ∧ ∀ (ρ : List Addr) (H : Hp) (σ : St) (env env' : Env) (st : Store) (v : V) (w : W) (Q : St → Hp → Prop), EnvR B ρ H σ env → StR B ρ H st → RW B ρ H v w → F w env st = some env' →
    (∀ σ', EnvR B ρ H σ' env' → wipe σ' own = wipe σ own → Q σ' H) → g v σ H Q
structure SndCs (B : Bk) (N : List Str) (sc : Scope) (own : List Nat) (ts : List Expr) (F : TFs) : Prop where
  ex : ∃ g : TGs, (∀ X : Cx, X.K = B.K → X.N = N → X.N.Nodup → X.env.scope = sc → X.calm = true → PGs X ts g) ∧ ∀ (ρ : List Addr) (H : Hp) (σ : St) (env env' : Env) (vs : List V) (ws : List W) (Q : St → Hp → Prop), EnvR B ρ H σ env → RWs B ρ H vs ws → F ws env = some env' →
    (∀ σ', EnvR B ρ H σ' env' → wipe σ' own = wipe σ own → Q σ' H) → g vs σ H Q
  len : ∀ env, (assignEach ts env).length = ts.length
  nost : ∀ env, (assignEach ts env).findIdx? (·.1) = none
section
variable {G : Glb} {B : Bk} {k : Nat} {N : List Str} {sc : Scope} {own : List Nat}
def nameC (i : Nat) : TF := fun w env _ => some (env.set i (some w))
theorem sndC_name {x : Str} {pos : Pos} {i : Nat} (hi : N[i]? = some x) (hl : sc.names.lookup x = some .local) (ho : i ∈ own) : SndC B N sc own (.Name x pos) (nameC i) := by
  refine ⟨gName i, fun X hK hN hd hs hc => pg_name (i := i) hd (by rw [hN]; exact hi) (.inl (by rw [hs]; exact hl)) (.inr (by rw [hs]; exact hl)), fun ρ H σ env env' st v w Q he hs r e q => ?_⟩
  cases e
  exact q _ (he.set i r) (wipe_set ho)
/-- one of several: a name -/
def nilC : TFs := fun ws env => match ws with
  | [] => some env
  | _ => none
def consC (i : Nat) (r : TFs) : TFs := fun ws env => match ws with
  | w :: ws => r ws (env.set i (some w))
  | [] => none
theorem sndCs_nil : SndCs B N sc own [] nilC := by
  refine ⟨⟨gNil, fun X hK hN hd hs hc => pgs_nil, fun ρ H σ env env' vs ws Q he r e q => ?_⟩, fun _ => rfl, fun _ => rfl⟩
  cases r with
  | nil => cases e; exact ⟨rfl, q σ he rfl⟩
  | cons _ _ => cases e
theorem sndCs_cons {x : Str} {pos : Pos} {i : Nat} {ts : List Expr} {F : TFs} (hi : N[i]? = some x) (hl : sc.names.lookup x = some .local) (ho : i ∈ own) (h : SndCs B N sc own ts F) : SndCs B N sc own (.Name x pos :: ts) (consC i F) := by
  obtain ⟨g, g1, g2⟩ := h.ex
  refine ⟨⟨gCons (gName i) g, fun X hK hN hd hs hc => pgs_cons (pg_name (i := i) hd (by rw [hN]; exact hi) (.inl (by rw [hs]; exact hl)) (.inr (by rw [hs]; exact hl))) (g1 X hK hN hd hs hc) (by rw [assignEach_cons rfl] <;> rfl), fun ρ H σ env env' vs ws Q he r e q => ?_⟩, fun env => by rw [assignEach_cons rfl]; simp [h.len env], fun env => by rw [assignEach_cons rfl, List.findIdx?_cons, h.nost env]; rfl⟩
  cases r with
  | nil => cases e
  | cons r1 r2 => exact ⟨_, _, rfl, g2 ρ H _ _ env' _ _ Q (he.set i r1) r2 e fun σ' h1 h2 => q σ' h1 (h2.trans (wipe_set ho))⟩
/-- one of several: a tuple of those -/
def consTC (n : Nat) (F r : TFs) : TFs := fun ws env => match ws with
  | .tup us :: ws => if us.length = n then (F us env).bind fun env1 => r ws env1 else none
  | _ => none
theorem sndCs_consT {ts es : List Expr} {j : Nat} {pos : Pos} {F F2 : TFs} (h1 : SndCs B N sc own es F) (h : SndCs B N sc own ts F2) : SndCs B N sc own (.Tuple es j pos :: ts) (consTC es.length F F2) := by
  obtain ⟨g1, g2, g3⟩ := h1.ex
  obtain ⟨g, g4, g5⟩ := h.ex
  refine ⟨⟨gCons (fun v σ H Q => ∃ a xs, v = .ref a ∧ (SqL B.K H a xs ∨ SqT B.K H a xs) ∧ xs.length = es.length ∧ g1 xs σ H Q) g, fun X hK hN hd hs hc => pgs_cons (by rw [← hK]; exact pg_tupL hc (g2 X hK hN hd hs hc) (h1.len _) (h1.nost _)) (g4 X hK hN hd hs hc) (by rw [assignEach_cons rfl] <;> rfl), fun ρ H σ env env' vs ws Q he r e q => ?_⟩, fun env => by rw [assignEach_cons rfl]; simp [h.len env], fun env => by rw [assignEach_cons rfl, List.findIdx?_cons, h.nost env]; rfl⟩
  cases r with
  | nil => cases e
  | cons r1 r2 =>
    cases r1 with
    | tup t1 t2 =>
      simp only [consTC] at e
      split at e
      · rename_i hl
        obtain ⟨env1, e1, e2⟩ := Option.bind_eq_some_iff.mp e
        exact ⟨_, _, rfl, _, _, rfl, .inr t1.seq, by rw [t2.length]; exact hl, g3 ρ H σ env env1 _ _ _ he t2 e1 fun σ1 k1 k2 => g5 ρ H σ1 env1 env' _ _ Q k1 r2 e2 fun σ' k3 k4 => q σ' k3 (k4.trans k2)⟩
      · cases e
    | _ => simp only [consTC] at e; cases e
def tupC (n : Nat) (F : TFs) : TF := fun w env st => match seqOf w st with
  | some ws => if ws.length = n then F ws env else none
  | none => none
theorem sndC_tup {ts : List Expr} {j : Nat} {pos : Pos} {F : TFs} (h : SndCs B N sc own ts F) : SndC B N sc own (.Tuple ts j pos) (tupC ts.length F) := by
  obtain ⟨g, g1, g2⟩ := h.ex
  refine ⟨fun v σ H Q => ∃ a xs, v = .ref a ∧ (SqL B.K H a xs ∨ SqT B.K H a xs) ∧ xs.length = ts.length ∧ g xs σ H Q, fun X hK hN hd hs hc => by rw [← hK]; exact pg_tupL hc (g1 X hK hN hd hs hc) (h.len _) (h.nost _), fun ρ H σ env env' st v w Q he hs r e q => ?_⟩
  unfold tupC at e
  split at e
  · rename_i ws e1
    split at e
    · rename_i hl
      obtain ⟨a, vs, ev, hq, hr⟩ := seqOf_r hs r e1
      exact ⟨a, vs, ev, hq, by rw [hr.length]; exact hl, g2 ρ H σ env env' vs ws Q he hr e q⟩
    · cases e
  · cases e

/-- the tests of a clause -/
structure SndTs (G : Glb) (B : Bk) (k : Nat) (N : List Str) (sc : Scope) (es : List Expr) (F : ST) : Prop where
  pts : ∀ (Φ : Phi) (Wx : WX) (X : Cx), GX G B Φ k N Wx sc X → PTs X es (tB B Wx (F Φ))
theorem PTs.imp {X : Cx} {e : List Expr} {t t' : TT} (h : PTs X e t) (hi : ∀ σ H Q, t' σ H Q → t σ H Q) : PTs X e t' := ⟨fun pins s σ H Q I q => h.run pins s σ H Q I (hi σ H Q q)⟩
def yesT : ST := fun _ _ st => .ok true st
theorem sndTs_nil : SndTs G B k N sc [] yesT := ⟨fun Φ Wx X g => PTs.imp pts_nil fun σ H Q ⟨ρ, env, st, he, hs, q⟩ => postB_here q hs⟩
theorem sndTs_one {e : Expr} {ft : ST} (h : SndT G B k N sc e ft) : SndTs G B k N sc [e] ft := ⟨fun Φ Wx X g => pts_one (h.pt Φ Wx X g)⟩

def lcL (n0 : Nat) (it : ItW) (t : TF) (c : Env → Store → Out Bool) (e : Env → Store → Out W) (env : Env) : Nat → Store → Out W
  | 0, st => if endW it st = true then .ok (.ref n0) st else .bad
  | m + 1, st => match yldW it (cntW it - (m + 1)) st with
    | none => .bad
    | some w => match t w env st with
      | none => .bad
      | some env1 => (c env1 st).noEr.bind fun b st1 => if b = true then (e env1 st1).noEr.bind fun y st2 => match lstAt (.ref n0) st2 with
          | some acc => if acc.length < slBound then lcL n0 it t c e env m (st2.set n0 (.lst (acc ++ [y]))) else .bad
          | none => .bad
        else lcL n0 it t c e env m st1
def lcF (own : List Nat) (it : SI) (t : TF) (c : ST) (e : SE) : SE := fun Φ env st => (it Φ env st).bind fun I st1 => lcL st1.length I t (c Φ) (e Φ) (wipeE env own) (cntW I) (st1 ++ [.lst []])
theorem getElem?_prefix {α : Type} {l l' : List α} {i : Nat} {a : α} (h : l <+: l') (e : l[i]? = some a) : l'[i]? = some a := by
  obtain ⟨t, rfl⟩ := h
  rw [List.getElem?_append_left (List.getElem?_eq_some_iff.mp e).1]; exact e
/-- a block of the context -/
theorem GX.blk {Φ : Phi} {Wx : WX} {X : Cx} (g : GX G B Φ k N Wx sc X) (s : Shared) (H : Hp) (scope : Scope) (C : Addr) (cl : List (Str × Addr)) (fp : List Addr) :
    GX G B Φ k N (fun _ _ _ _ => False) (relS scope sc) (X.blk s H scope (compEnvC scope cl C X.env) fp) where
  K := g.K
  N := g.N
  nd := g.nd
  sc := by rw [← g.sc]; rfl
  calm := g.calm
  room2 := g.room2
  gd := g.gd
  tk := fun _ _ ⟨_, _, _, _, _, _, _, _, _, _, _, _, _, _, _, _, w⟩ => w.elim
  gk := g.gk
  lm := g.lm
theorem lc_of {Φ : Phi} {Wx : WX} {fi : SI} {ft : TF} {fc : ST} {fe : SE} {wi : TI} {g : TG} {σ : St} {H : Hp} {Q : VK}
    (h2 : ∀ (σ : St) (H : Hp) (R : It → Hp → Prop), tX (β := It) (fun ρ H J it => ItR B J it ρ H) B Wx (fi Φ) σ H R → wi σ H R)
    (hg : ∀ (ρ : List Addr) (H : Hp) (σ : St) (env env' : Env) (st : Store) (v : V) (w : W) (Q : St → Hp → Prop), EnvR B ρ H σ env → StR B ρ H st → RW B ρ H v w → ft w env st = some env' → (∀ σ', EnvR B ρ H σ' env' → wipe σ' own = wipe σ own → Q σ' H) → g v σ H Q)
    (q : tE B Wx (lcF own fi ft fc fe Φ) σ H Q) : tLc wi g (tB B (fun _ _ _ _ => False) (fc Φ)) (tE B (fun _ _ _ _ => False) (fe Φ)) own σ H Q := by
  obtain ⟨ρ, env, st, he, hs, q⟩ := q
  refine h2 σ H _ (tX_imp (tX_bind he hs q) fun J H1 ⟨ρ1, st1, it, a1, a2, he1, hs1, r1, q1⟩ D hD => ?_)
  have hs1' := hs1.push (o := .lst []) (u := .lst []) hD ⟨[], upd_same, .nil⟩
  have hD1 : (ρ1 ++ [D])[st1.length]? = some D := by rw [← hs1.len]; simp
  have hew := (he1.mono (List.prefix_append _ [D]) (.new (o := .lst []) hD)).wipe own
  refine ⟨fun i m H => m = cntW it - i ∧ i ≤ cntW it ∧ ∃ ρ st, (ρ1 ++ [D]) <+: ρ ∧ Kp (upd H1 D (.lst [])) H ∧ StR B ρ H st ∧ PostE B (fun c d H' => Wx c d σ H') ρ H (lcL st1.length it ft (fc Φ) (fe Φ) (wipeE env own) m st) Q,
    ⟨_, rfl, Nat.zero_le _, _, _, List.prefix_refl _, .refl _, hs1', Post.mono q1 (List.prefix_append _ _) (.new hD)⟩, ?_⟩
  rintro i m H2 ⟨em, hi, ρ2, st2, b1, b2, hs2, q2⟩
  have p1 : ρ1 <+: ρ2 := (List.prefix_append _ _).trans b1
  have p2 : Kp H1 H2 := (Kp.new hD).trans b2
  cases m with
  | zero =>
    have ei : i = cntW it := by omega
    subst ei
    simp only [lcL] at q2
    split at q2
    · rename_i he'
      exact .inl ⟨r1.stop ρ2 H2 st2 p1 p2 hs2 he', post_here q2 hs2 (.ref (getElem?_prefix b1 hD1))⟩
    · exact q2.elim
  | succ m =>
    have ei : cntW it - (m + 1) = i := by omega
    simp only [lcL] at q2
    rw [ei] at q2
    split at q2
    · exact q2.elim
    · rename_i w ew
      obtain ⟨go, yl⟩ := r1.go ρ2 H2 st2 p1 p2 hs2 i w (by omega) ew
      refine .inr ⟨go, fun H' => ∃ ρ' st', (ρ1 ++ [D]) <+: ρ' ∧ Kp (upd H1 D (.lst [])) H' ∧ StR B ρ' H' st' ∧ PostE B (fun c d H' => Wx c d σ H') ρ' H' (lcL st1.length it ft (fc Φ) (fe Φ) (wipeE env own) m st') Q, fun H' p => ⟨m, by omega, by omega, by omega, p⟩, fun x H3 y => ?_⟩
      obtain ⟨kp, hs3, rx⟩ := yl x H3 y
      have q3 := Post.mono q2 (List.prefix_refl _) kp
      have he3 := hew.mono b1 (b2.trans kp)
      split at q3
      · exact q3.elim
      · rename_i env1 et
        refine hg ρ2 H3 _ _ env1 st2 x w _ he3 hs3 rx et fun σ4 he4 hw4 => ⟨hw4.trans wipe_wipe, ?_⟩
        refine tX_imp (tX_noEr he4 hs3 q3) fun b H5 ⟨ρ5, st5, b', c1, c2, he5, hs5, r5, q5⟩ => ?_
        cases r5
        cases b with
        | false => exact ⟨ρ5, st5, b1.trans c1, (b2.trans kp).trans c2, hs5, q5⟩
        | true =>
          rw [if_pos rfl] at q5 ⊢
          refine tX_imp (tX_noEr he5 hs5 q5) fun yv H6 ⟨ρ6, st6, yw, d1, d2, he6, hs6, r6, q6⟩ => ?_
          split at q6
          · rename_i acc ea
            split at q6
            · rename_i hz
              have hD6 : ρ6[st1.length]? = some D := getElem?_prefix d1 (getElem?_prefix c1 (getElem?_prefix b1 hD1))
              obtain ⟨_, _, vs, en, ev, e1, e2, h3, h4⟩ := lstAt_r hs6 (.ref hD6) ea
              cases en; cases ev
              refine ⟨vs, h3, by rw [h4.length]; exact slb' hz, ?_⟩
              have w := hs6.wr (u := .lst (vs ++ [yv])) (o := .lst (acc ++ [yw])) hD6 ⟨_, upd_same, (h4.app (.cons r6 .nil)).mono (List.prefix_refl _) (.wr h3 id)⟩ ⟨_, h3, id⟩
              exact ⟨ρ6, _, (b1.trans c1).trans d1, (((b2.trans kp).trans c2).trans d2).trans w.2, w.1, Post.mono q6 (List.prefix_refl _) w.2⟩
            · exact q6.elim
          · exact q6.elim
/-- the scope of the block -/
def blkB (N : List Str) (sc scope : Scope) (own : List (Str × Nat)) : Bool :=
  decide (scope.kind = .function) && scope.names.all (fun y => decide (scope.names.lookup y.1 = some y.2) && (match y.2 with
    | .free => decide (sc.names.lookup y.1 = some .cell) || decide (sc.names.lookup y.1 = some .free)
    | .local => (own.map (·.1)).contains y.1 || !(N.contains y.1)
    | .cell => (own.map (·.1)).contains y.1 || !(N.contains y.1)
    | _ => true)) && own.all fun p => decide (N[p.2]? = some p.1)
theorem blkB_ok {scope : Scope} {ow : List (Str × Nat)} (h : blkB N sc scope ow = true) : BlkOk N sc scope ow := by
  unfold blkB at h
  simp only [Bool.and_eq_true, decide_eq_true_eq, List.all_eq_true] at h
  obtain ⟨⟨h1, h2⟩, h3⟩ := h
  have hx : ∀ y : Str × NameKind, ((ow.map (·.1)).contains y.1 || !(N.contains y.1)) = true → y.1 ∈ ow.map (·.1) ∨ y.1 ∉ N := fun y q => by
    rcases Bool.or_eq_true_iff.mp q with q | q
    · exact .inl (List.contains_iff_mem.mp q)
    · refine .inr fun hm => ?_
      rw [List.contains_iff_mem.mpr hm] at q
      cases q
  refine ⟨h1, fun y hy => (h2 y hy).1, fun p hp => h3 p hp, fun y hy e => ?_, fun y hy e => ?_⟩
  · have q := (h2 y hy).2
    rw [e] at q
    simpa [Bool.or_eq_true] using q
  · have q := (h2 y hy).2
    rcases e with e | e <;> · rw [e] at q; exact hx y q
structure LcOk (G : Glb) (B : Bk) (k : Nat) (N : List Str) (sc scope : Scope) (ow : List (Str × Nat)) (elt tg iter : Expr) (ifs : List Expr) (fi : SI) (ft : TF) (fc : ST) (fe : SE) : Prop where
  hb : blkB N sc scope ow = true
  hi : SndI G B k N sc tg iter fi
  ht : SndC B N (relS scope sc) (ow.map (·.2)) tg ft
  hc : SndTs G B k N (relS scope sc) ifs fc
  he : Snd G B k N (relS scope sc) elt fe
theorem snd_lc {elt tg iter : Expr} {ifs : List Expr} {scope : Scope} {ow : List (Str × Nat)} {pos : Pos} {fi : SI} {ft : TF} {fc : ST} {fe : SE} (h : LcOk G B k N sc scope ow elt tg iter ifs fi ft fc fe) :
    Snd G B k N sc (.ListComp elt [⟨tg, iter, ifs, 0⟩] scope pos) (lcF (ow.map (·.2)) fi ft fc fe) := by
  refine ⟨fun Φ Wx X g => ?_⟩
  obtain ⟨wi, h1, h2⟩ := h.hi.pi Φ Wx X g
  obtain ⟨tg', t1, t2⟩ := h.ht.ex
  exact PE.imp (pe_lc (tt := tB B (fun _ _ _ _ => False) (fc Φ)) (te := tE B (fun _ _ _ _ => False) (fe Φ)) g.calm g.nd h1 (by rw [g.N, g.sc]; exact blkB_ok h.hb) (fun s H C cl fp => let b := g.blk s H scope C cl fp; t1 _ b.K b.N b.nd b.sc b.calm)
    (fun s H C cl fp => h.hc.pts Φ _ _ (g.blk s H scope C cl fp)) (fun s H C cl fp => h.he.pe Φ _ _ (g.blk s H scope C cl fp)) (fun x => h.hi.nf _ x)) fun σ H Q q => lc_of h2 t2 q
/-- name = [..], the name stored by the comprehension itself -/
theorem sndS_asgLc {i : Nat} {y : Str} {py : Pos} {elt tg iter : Expr} {ifs : List Expr} {scope : Scope} {ow : List (Str × Nat)} {pos spos : Pos} {fi : SI} {ft : TF} {fc : ST} {fe : SE} (hy : N[i]? = some y) (hl : sc.names.lookup y = some .local)
    (hw : swB (.Name y py) (.ListComp elt [⟨tg, iter, ifs, 0⟩] scope pos) sc = true) (h : LcOk G B k N sc scope ow elt tg iter ifs fi ft fc fe) :
    SndS G B k N sc (.Assign [.Name y py] (.ListComp elt [⟨tg, iter, ifs, 0⟩] scope pos) spos) (asgS (lcF (ow.map (·.2)) fi ft fc fe) (nameT i)) := by
  refine ⟨fun Φ Wx X g => ?_⟩
  obtain ⟨wi, h1, h2⟩ := h.hi.pi Φ Wx X g.g
  obtain ⟨tg', t1, t2⟩ := h.ht.ex
  refine PS.imp (ps_setLc (tt := tB B (fun _ _ _ _ => False) (fc Φ)) (te := tE B (fun _ _ _ _ => False) (fe Φ)) g.g.calm g.g.nd (by rw [g.g.N]; exact hy) (by rw [g.g.sc]; exact hl) (by rw [sw_eq g.g.sc g.kf, hw]) h1 (by rw [g.g.N, g.g.sc]; exact blkB_ok h.hb) (fun s H C cl fp => let b := g.g.blk s H scope C cl fp; t1 _ b.K b.N b.nd b.sc b.calm)
    (fun s H C cl fp => h.hc.pts Φ _ _ (g.g.blk s H scope C cl fp)) (fun s H C cl fp => h.he.pe Φ _ _ (g.g.blk s H scope C cl fp)) (fun x => h.hi.nf _ x)) fun D σ H ⟨ρ, env, st, he, hs, q⟩ => ?_
  refine lc_of h2 t2 (tX_imp (tX_toS he hs q) fun v H1 ⟨ρ1, st1, w, a1, a2, he1, hs1, r1, q1⟩ => ?_)
  exact q1 ρ1 H1 _ (List.prefix_refl _) (.refl _) (he1.set i r1) hs1
end
end Zf
namespace Zf
open PySem L2
open PyProof.Rows hiding St

/-! ### what a call leaves behind that nobody sees goes -/
mutual
def refsLt (n : Nat) : W → Bool
  | .ref m => decide (m < n)
  | .tup ws => refsLtL n ws
  | .klst ws => refsLtL n ws
  | .exc _ w => refsLt n w
  | _ => true
def refsLtL (n : Nat) : List W → Bool
  | [] => true
  | w :: r => refsLt n w && refsLtL n r
end
def refsLtO (n : Nat) : SO → Bool
  | .lst ws => refsLtL n ws
  | .dct kvs => refsLtL n (kvs.map (·.2))
  | .dcT kvs => refsLtL n (kvs.map (·.2))
  | .ldct kvs => refsLtL n (kvs.map (·.2))
section
variable {B : Bk} {ρ ρ' : List Addr} {H H' : Hp}
mutual
theorem RW.down (hr : ρ <+: ρ') : ∀ {v : V} {w : W}, RW B ρ' H v w → refsLt ρ.length w = true → RW B ρ H v w
  | _, _, .non, _ => .non
  | _, _, .bl b, _ => .bl b
  | _, _, .int i, _ => .int i
  | _, _, .str s, _ => .str s
  | _, _, .tup h q, e => .tup h (RWs.down hr q (by simpa [refsLt] using e))
  | _, _, .klst h q, e => .klst h (RWs.down hr q (by simpa [refsLt] using e))
  | _, _, .ref (n := n) h, e => .ref (by
      have e : n < ρ.length := by simpa [refsLt] using e
      obtain ⟨t, rfl⟩ := hr
      rw [List.getElem?_append_left e] at h; exact h)
  | _, _, .clo f, _ => .clo f
  | _, _, .exc h1 h2 h3 h4, e => .exc h1 h2 h3 (RW.down hr h4 (by simpa [refsLt] using e))
theorem RWs.down (hr : ρ <+: ρ') : ∀ {vs : List V} {ws : List W}, RWs B ρ' H vs ws → refsLtL ρ.length ws = true → RWs B ρ H vs ws
  | _, _, .nil, _ => .nil
  | _, _, .cons a b, e => by
    simp only [refsLtL, Bool.and_eq_true] at e
    exact .cons (RW.down hr a e.1) (RWs.down hr b e.2)
end
mutual
theorem RW.lt : ∀ {v : V} {w : W}, RW B ρ H v w → refsLt ρ.length w = true
  | _, _, .non => rfl
  | _, _, .bl b => rfl
  | _, _, .int i => rfl
  | _, _, .str s => rfl
  | _, _, .tup h q => by simpa [refsLt] using RWs.lt q
  | _, _, .klst h q => by simpa [refsLt] using RWs.lt q
  | _, _, .ref h => by
    simp only [refsLt, decide_eq_true_eq]
    exact (List.getElem?_eq_some_iff.mp h).1
  | _, _, .clo f => rfl
  | _, _, .exc h1 h2 h3 h4 => by simpa [refsLt] using RW.lt h4
theorem RWs.lt : ∀ {vs : List V} {ws : List W}, RWs B ρ H vs ws → refsLtL ρ.length ws = true
  | _, _, .nil => rfl
  | _, _, .cons a b => by simp only [refsLtL, Bool.and_eq_true]; exact ⟨RW.lt a, RWs.lt b⟩
end
theorem RKv.down {κ : Type} (hr : ρ <+: ρ') : ∀ {vs : List (κ × V)} {ws : List (κ × W)}, RKv B ρ' H vs ws → refsLtL ρ.length (ws.map (·.2)) = true → RKv B ρ H vs ws
  | _, _, .nil, _ => .nil
  | _, _, .cons a b, e => by
    simp only [List.map_cons, refsLtL, Bool.and_eq_true] at e
    exact .cons (RW.down hr a e.1) (RKv.down hr b e.2)
theorem RKv.lt {κ : Type} : ∀ {vs : List (κ × V)} {ws : List (κ × W)}, RKv B ρ H vs ws → refsLtL ρ.length (ws.map (·.2)) = true
  | _, _, .nil => rfl
  | _, _, .cons a b => by simp only [List.map_cons, refsLtL, Bool.and_eq_true]; exact ⟨RW.lt a, RKv.lt b⟩
theorem ObjR.down {a : Addr} {o : SO} (hr : ρ <+: ρ') (h : ObjR B ρ' H a o) (e : refsLtO ρ.length o = true) : ObjR B ρ H a o := by
  cases o with
  | lst ws => obtain ⟨vs, h1, h2⟩ := h; exact ⟨vs, h1, h2.down hr e⟩
  | dct ws => obtain ⟨vs, h1, h2⟩ := h; exact ⟨vs, h1, h2.down hr e⟩
  | dcT ws => obtain ⟨vs, h1, h2⟩ := h; exact ⟨vs, h1, h2.down hr e⟩
  | ldct ws => obtain ⟨ob, vs, h1, h2⟩ := h; exact ⟨ob, vs, h1, h2.down hr e⟩
theorem ObjR.lt {a : Addr} {o : SO} (h : ObjR B ρ H a o) : refsLtO ρ.length o = true := by
  cases o with
  | lst ws => obtain ⟨vs, h1, h2⟩ := h; exact h2.lt
  | dct ws => obtain ⟨vs, h1, h2⟩ := h; exact h2.lt
  | dcT ws => obtain ⟨vs, h1, h2⟩ := h; exact h2.lt
  | ldct ws => obtain ⟨ob, vs, h1, h2⟩ := h; exact h2.lt
end
/-- what may go: the result tells of no new object, nor do the old ones -/
def TrimOk (st : Store) (w : W) (st' : Store) : Prop := refsLt st.length w = true ∧ ∀ (i : Nat) (o : SO), i < st.length → st'[i]? = some o → st[i]? = some o ∨ refsLtO st.length o = true
open Classical in
noncomputable def trimO (st : Store) (o : Out W) : Out W := match o with
  | .ok w st' => if TrimOk st w st' then .ok w (st'.take st.length) else .ok w st'
  | .er w st' => if TrimOk st w st' then .er w (st'.take st.length) else .er w st'
  | .bad => .bad
theorem trim_st {B : Bk} {ρ ρ' : List Addr} {H H' : Hp} {st st' : Store} {w : W} (hs : StR B ρ H st) (kp : Kp H H') (hr : ρ <+: ρ') (hs' : StR B ρ' H' st') (c : TrimOk st w st') : StR B ρ H' (st'.take st.length) := by
  obtain ⟨_, c⟩ := c
  have hl := hs.len
  have hl' := hs'.len
  have hle : ρ.length ≤ ρ'.length := hr.length_le
  refine ⟨by rw [List.length_take]; omega, hs.nd, fun i a o e1 e2 => ?_, hs'.tb, B.Dm _ _ _ _ (List.prefix_refl _) kp.to0 hs.dd⟩
  have hi := (List.getElem?_eq_some_iff.mp e1).1
  have hi' : i < st.length := by omega
  rw [List.getElem?_take_of_lt hi'] at e2
  have h := hs'.at_ i a o (getElem?_prefix hr e1) e2
  refine h.down hr ?_
  rcases c i o hi' e2 with e3 | e3
  · obtain ⟨a', _, h'⟩ := hs.get e3
    exact h'.lt
  · rw [hl]; exact e3
theorem post_trim {B : Bk} {Wx : Value → Option Addr → Hp → Prop} {ρ : List Addr} {H : Hp} {st : Store} {o : Out W} {Q : VK} (hs : StR B ρ H st) (q : PostE B Wx ρ H (trimO st o) Q) : PostE B Wx ρ H o Q := by
  cases o with
  | ok w st' =>
    unfold trimO at q
    dsimp only at q
    split at q
    · rename_i c
      intro ρ' H' v hr kp hs' r
      exact q ρ H' v (List.prefix_refl _) kp (trim_st hs kp hr hs' c) (r.down hr (by rw [hs.len]; exact c.1))
    · exact q
  | er x st' =>
    unfold trimO at q
    dsimp only at q
    split at q
    · rename_i c
      intro ρ' H' cls d hr kp hs' r
      refine q ρ H' cls d (List.prefix_refl _) kp (trim_st hs kp hr hs' c) ?_
      obtain ⟨cc, C, f, w, dd, v, h1, h2, h3, h4, h5, h6⟩ := r
      subst h1
      exact ⟨cc, C, f, w, dd, v, rfl, h2, h3, h4, h5, h6.down hr (by rw [hs.len]; simpa [refsLt] using c.1)⟩
    · exact q
  | bad => exact q

/-! ### defs -/
/-- a def: its statement, its names, its parameters, what its body does -/
structure FnD where
  name : Str
  st : Stmt
  N : List Str
  ps : List Str
  F : SS
def endO : SOut → Out W
  | .nx _ st => .ok .non st
  | .rt w st => .ok w st
  | .er x _ st => .er x st
  | _ => .bad
def env0 (N : List Str) (args : List W) : Env := args.map some ++ List.replicate (N.length - args.length) none
noncomputable def callD (d : FnD) (Φ : Phi) (args : List W) (st : Store) : Out W := if args.length = d.ps.length then trimO st (endO (d.F Φ (env0 d.N args) st)) else .bad
/-- what comes out whatever the address -/
noncomputable def allF (g : Nat → Out W) : Out W := open Classical in if ∀ f, g f = g 0 then g 0 else .bad
theorem allF_eq {g : Nat → Out W} {o : Out W} (h : ∀ f, g f = o) : allF g = o := by
  unfold allF
  rw [if_pos fun f => (h f).trans (h 0).symm, h 0]
theorem post_allF {B : Bk} {Wx : Value → Option Addr → Hp → Prop} {ρ : List Addr} {H : Hp} {g : Nat → Out W} {Q : VK} (f : Nat) (q : PostE B Wx ρ H (allF g) Q) : PostE B Wx ρ H (g f) Q := by
  unfold allF at q
  split at q
  · rename_i h; rw [h f]; exact q
  · exact q.elim
/-- what the defs do, so many calls deep -/
noncomputable def PhiOf (Ds : List FnD) : Nat → Phi
  | 0 => ⟨fun _ _ _ => .bad, fun _ _ _ => .bad, fun _ _ _ => .bad, fun _ _ => .bad⟩
  | k + 1 => ⟨fun i args st => match Ds[i]? with
    | some d => callD d (PhiOf Ds k) args st
    | none => .bad, (PhiOf Ds k).fn, fun i Θ st => if k = 0 then .bad else match Ds[i]? with
    | some d => allF fun f => callD d ⟨(PhiOf Ds k).fn, (PhiOf Ds k).lo, fun _ _ _ => .bad, fun g st' => if g = f then Θ (PhiOf Ds k).lo st' else .bad⟩ [.clo f] st
    | none => .bad, fun _ _ => .bad⟩
theorem env_start {B : Bk} {ρ : List Addr} {H : Hp} {N : List Str} {vs : List V} {ws : List W} (r : RWs B ρ H vs ws) : EnvR B ρ H (L2.start N vs) (env0 N ws) := by
  refine ⟨by simp [L2.start, env0, r.length], fun i w e => ?_⟩
  unfold env0 at e
  by_cases hi : i < ws.length
  · rw [List.getElem?_append_left (by simpa using hi), List.getElem?_map] at e
    cases e2 : ws[i]? with
    | none => rw [e2] at e; cases e
    | some w' =>
      rw [e2] at e; cases e
      obtain ⟨v, h1, h2⟩ := r.get e2
      refine ⟨v, ?_, h2⟩
      unfold L2.start
      rw [List.getElem?_append_left (by simpa [r.length] using hi), List.getElem?_map, h1]
      rfl
  · rw [List.getElem?_append_right (by simpa using hi), List.getElem?_replicate] at e
    split at e <;> cases e
theorem deeper_guards {A : Around} {env : PySem.Env} (h : A.guards = some []) : (A.deeper env).guards = some [] := by
  first
    | exact h
    | (simp [Around.deeper, h])
/-- a def is called, its body does what is said -/
theorem call_body {P : Program} {w : World} {K : PySem.W.Frag} {mg : Str → Option Value} {base : Heap} {k : Nat} {x qual : Str} {st : Stmt} {f : Addr} {fd : FuncData} {N ps : List Str} (F : Fun K x qual st f fd) (S : FnScope N ps (defScope st)) {A : Around} {outer : List PySem.Env} {s : Shared} {H : Hp} {args : Args} {us : List Value} {vs : List V} {Q : VK} {E : XK}
    (hr : Room (k + 1) A) (e0 : Env0 P w K mg base A outer s H) (hb : BindsTo s fd args (ps.zip us)) (r : Vals vs us) (hl : vs.length = ps.length)
    (hbody : ∀ cdv : Value, fd.code = cdv → Room k (A.deeper (envOfC qual (defScope st) s.heap.objs.size f cdv)) →
      ∃ t, PSs (cxOf (L2.CX P w) P w K mg base N qual (defScope st) f cdv A outer s H E) (defBody st) t ∧ t { nx := fun _ H' => Q .non H', rt := Q } (L2.start N vs) H) :
    codeAny (model P w) A (.call (.ref f) args) (CR (L2.CX P w) outer P w H s Q E) s := by
  obtain ⟨oc, od, kV, doc, pm, an, cdv, ct, osl, rfl, lk, hcd⟩ := F.ex
  have KX : K.In s.heap := e0.mod.kin.keeps fun b o e => (e0.bs b o e).1; have lim : s.heap.NoLimit := e0.mod.nolimit.keeps fun b o e => (e0.bs b o e).1
  refine codeAny_call_function hr.depth (KX _ _ lk) rfl S.co S.gen rfl (PySem.W.codeRec_of KX hcd) (hb _ _ _ _ (wpAny_newFunctionEnv_cells S.kind (fun ⟨n, v⟩ hy => (S.par n (List.of_mem_zip hy).1).elim .inl fun q => .inr ⟨q, PySem.W.cellsFrom_some _ _ _ (.inl q)⟩) fun env he s1 y => ?_))
  subst he
  refine ⟨lim.keeps y.toInCall.keep, codeAny_func ?_⟩
  obtain ⟨t, ht, hq⟩ := hbody cdv rfl (hr.deeper _)
  refine wpAny_mono (ht.run [] s1 (L2.start N vs) H _ (inv_start S hr.hd e0 hl r y) hq) (fun fl s' hs => ?_) fun _ _ hs => hs
  cases fl with
  | ret u => obtain ⟨v, σ', H', J, rv, q⟩ := hs; exact ⟨v, H', J.os, J.bare, J.base, J.hok, rv, q⟩
  | next => obtain ⟨σ', H', J, q⟩ := hs; exact ⟨V.non, H', J.os, J.bare, J.base, J.hok, rfl, q⟩
  | brk => obtain ⟨_, _, _, q⟩ := hs; exact False.elim q
  | cont => obtain ⟨_, _, _, q⟩ := hs; exact False.elim q
/-- the text of an exception's own __init__ -/
structure InitAt (K : PySem.W.Frag) (C : Addr) (f : Str) : Prop where
  ox : OexC K C
  no : PySem.W.findIn K (.ref C) f = some none
  ex : ∃ (fI : Addr) (oc : Value) (od : Option Addr) (osl : Array (Option Value)) (x y qual : Str) (params : Arguments) (scope : Scope) (dV kV doc pm cdv ct : Value) (an : Option Addr) (p1 p2 p3 pos : Pos),
    PySem.W.findIn K (.ref C) "__init__" = some (some (.ref fI)) ∧ PySem.W.typeIn K (.ref fI) = some (.type "function") ∧
    K.lookup fI = some ⟨oc, od, .func (PySem.W.fnOf "__init__" qual params [.Assign [.Attribute (.Name x p1) f p2] (.Name y p3) pos] scope dV kV doc pm an cdv ct), osl⟩ ∧ PySem.W.codeIn K cdv qual = true ∧
    FnScope [x, y] [x, y] scope ∧ (visB scope x = true ∧ visB scope y = true ∧ notDbg x = true ∧ notDbg y = true) ∧ Binds K (PySem.W.fnOf "__init__" qual params [.Assign [.Attribute (.Name x p1) f p2] (.Name y p3) pos] scope dV kV doc pm an cdv ct) [x, y] []
theorem mkC_of {P : Program} {w : World} {K : PySem.W.Frag} {mg : Str → Option Value} {base : Heap} {C : Addr} {f : Str} (h : InitAt K C f) : MkC P w K mg base C f := by
  obtain ⟨ox, no, fI, oc, od, osl, x, y, qual, params, scope, dV, kV, doc, pm, cdv, ct, an, p1, p2, p3, pos, h1, h2, lk, hcd, S, ⟨vx, vy, dx, dy⟩, hb⟩ := h
  refine ⟨ox, no, fI, _, [x, y], h1, h2, fn_of (k := 0) (sp := spInit K C f) lk hcd S (fun vs H Q E ⟨a, v, ev, _⟩ => by rw [ev]; rfl) (fun A outer s H vs Q E hr ⟨a, v, ev, T, hn, e, q⟩ => ?_), hb⟩
  refine ⟨_, pss_one (ps_ost (pe_var (i := 0) rfl (visB_ok vx) (notDbg1 dx) (notDbg2 dx)) (pe_var (i := 1) rfl (visB_ok vy) (notDbg1 dy) (notDbg2 dy)) rfl), ?_⟩
  subst ev
  exact ⟨v, rfl, .ref a, rfl, a, C, rfl, T, hn, .inl ⟨e, fun dx n ne => q dx n ne⟩⟩
/-- what is known of the module, whatever the depth -/
structure GS (G : Glb) (B : Bk) (mg : Str → Option Value) (base : Heap) : Prop where
  blt : ∀ x ∈ G.blt, mg x = none
  con : ∀ x w, (x, w) ∈ G.consts → ∃ v u, mg x = some u ∧ RelV v u ∧ ∀ ρ H, RW B ρ H v w
  cn : ∀ (c : Nat) (x : Str), G.excs[c]? = some x → ∃ C f, B.cs[c]? = some (C, f) ∧ mg x = some (.ref C)
  ec : ∀ (c : Nat) C f, B.cs[c]? = some (C, f) → ExcC B.K C
  es : ∀ (c c' : Nat) C f C' f' b, B.cs[c]? = some (C, f) → B.cs[c']? = some (C', f') → G.subAt c c' = some b → PySem.W.kitOne B.K (.ref C) (.ref C') = some b
  ep : ∀ (c j : Nat) C f x T l b, B.cs[c]? = some (C, f) → G.pys[j]? = some (x, T, l) → l[c]? = some b → PySem.W.kitOne B.K (.ref C) (.type T) = some b
  pb : ∀ (j : Nat) x T l, G.pys[j]? = some (x, T, l) → mg x = none ∧ bootBuiltins x = some (.type T)
  en : ∀ (t : Ty) (c : Nat) C f, B.cs[c]? = some (C, f) → PySem.W.kitOne B.K (.type t.nm) (.ref C) = some false
  sm : ∃ mm, base.Ns sysModules mm
  em : ∀ (c c' : Nat) C f C' f' b, B.cs[c]? = some (C, f) → B.cs[c']? = some (C', f') → G.subAt c c' = some b → PySem.W.exmOne B.K (.ref C) (.ref C') = some b
  rz : ∀ c ∈ G.rz, ∃ C f, B.cs[c]? = some (C, f) ∧ InitAt B.K C f
  fd : ∀ (c : Nat) (n : Str), G.fs[c]? = some n → ∃ C, B.cs[c]? = some (C, n) ∧ PySem.W.findIn B.K (.ref C) n = some none
  bm : ∀ p ∈ B.T, base.BuiltinsAt mg p.1
/-- a look at a def's scope -/
def scC' (N P : List Str) (sc : Scope) : Bool :=
  (decide (sc.kind = .function) && !sc.isCoroutine && !sc.isGenerator) && (decide N.Nodup && decide (N.take P.length = P)) && (P.all (fun x => decide (sc.names.lookup x = some .local) || decide (sc.names.lookup x = some .cell)) && sc.names.all fun y => !decide (y.2 = .free))
theorem scC'_ok {N P : List Str} {sc : Scope} (h : scC' N P sc = true) : FnScope N P sc := by
  unfold scC' at h
  simp only [Bool.and_eq_true, Bool.not_eq_true', decide_eq_true_eq, List.all_eq_true, Bool.or_eq_true, decide_eq_false_iff_not] at h
  exact ⟨h.1.1.1.1, h.1.1.1.2, h.1.1.2, h.1.2.1, h.1.2.2, h.2.1, h.2.2⟩
/-- a maker's code object by the written part -/
def MkK (B : Bk) (code : Value) (qual : Str) : Prop :=
  ∃ c P, code = .ref c ∧ PySem.W.codeHdIn B.K c P = true ∧ mainGlobals ≠ P ∧ (P, qual ++ ("<lambda>" : Str)) ∈ B.T ∧ ∀ p ∈ B.T, p.1 = P → p.2 = qual ++ ("<lambda>" : Str)
/-- a def stands in the module -/
structure DefAt (G : Glb) (B : Bk) (mg : Str → Option Value) (i : Nat) (d : FnD) : Prop where
  at_ : ∃ (a : Addr) (fd : FuncData), mg d.name = some (.ref a) ∧ Fun B.K d.name d.name d.st a fd ∧
    ∀ c ∈ G.shapes, c.fn = i → ∀ (s : Shared) (us ws : List Value), B.K.In s.heap → us.length = c.npos → ws.length = c.ks.length → BindsTo s fd ⟨us, c.ks.zip ws⟩ (d.ps.zip (pick .none c.src (us ++ ws)))
  mkr : d.N ∈ G.mks → ∃ (a : Addr) (fd : FuncData), mg d.name = some (.ref a) ∧ Fun B.K d.name d.name d.st a fd ∧ MkK B fd.code (d.name ++ (".<locals>." : Str))
/-- its body does what is said -/
structure DefDo (G : Glb) (d : FnD) : Prop where
  sc : scC' d.N d.ps (defScope d.st) = true
  do_ : ∀ (B : Bk) (k : Nat), SndSs G B k d.N (defScope d.st) (defBody d.st) d.F
/-! ### the same for another D -/
def Bk.wD (B : Bk) (D : List Addr → Hp → Prop) (Dm : ∀ (ρ ρ' : List Addr) (H H' : Hp), ρ <+: ρ' → Kp0 H H' → D ρ H → D ρ' H') : Bk := ⟨B.K, B.cs, B.T, D, Dm⟩
section
variable {B B' : Bk} {ρ : List Addr} {H : Hp}
mutual
theorem RW.cv (hK : B.K = B'.K) (hc : B.cs = B'.cs) : ∀ {v : V} {w : W}, RW B ρ H v w → RW B' ρ H v w
  | _, _, .non => .non
  | _, _, .bl b => .bl b
  | _, _, .int i => .int i
  | _, _, .str s => .str s
  | _, _, .tup h q => .tup (hK ▸ h) (RWs.cv hK hc q)
  | _, _, .klst h q => .klst (hK ▸ h) (RWs.cv hK hc q)
  | _, _, .ref h => .ref h
  | _, _, .clo f => .clo f
  | _, _, .exc h1 h2 h3 h4 => .exc (hc ▸ h1) h2 h3 (RW.cv hK hc h4)
theorem RWs.cv (hK : B.K = B'.K) (hc : B.cs = B'.cs) : ∀ {vs : List V} {ws : List W}, RWs B ρ H vs ws → RWs B' ρ H vs ws
  | _, _, .nil => .nil
  | _, _, .cons a b => .cons (RW.cv hK hc a) (RWs.cv hK hc b)
end
theorem RKv.cv {κ : Type} (hK : B.K = B'.K) (hc : B.cs = B'.cs) : ∀ {vs : List (κ × V)} {ws : List (κ × W)}, RKv B ρ H vs ws → RKv B' ρ H vs ws
  | _, _, .nil => .nil
  | _, _, .cons a b => .cons (a.cv hK hc) (RKv.cv hK hc b)
theorem objR_cv {a : Addr} {o : SO} (hK : B.K = B'.K) (hc : B.cs = B'.cs) (h : ObjR B ρ H a o) : ObjR B' ρ H a o := by
  cases o with
  | lst ws => obtain ⟨vs, h1, h2⟩ := h; exact ⟨vs, h1, h2.cv hK hc⟩
  | dct ws => obtain ⟨vs, h1, h2⟩ := h; exact ⟨vs, h1, h2.cv hK hc⟩
  | dcT ws => obtain ⟨vs, h1, h2⟩ := h; exact ⟨vs, h1, h2.cv hK hc⟩
  | ldct ws => obtain ⟨ob, vs, h1, h2⟩ := h; exact ⟨ob, vs, h1, h2.cv hK hc⟩
theorem StR.cv {st : Store} (hK : B.K = B'.K) (hc : B.cs = B'.cs) (hT : B.T = B'.T) (hD : B'.D ρ H) (h : StR B ρ H st) : StR B' ρ H st := ⟨h.len, h.nd, fun i a o e1 e2 => objR_cv hK hc (h.at_ i a o e1 e2), hT ▸ h.tb, hD⟩
theorem ExR.cv {cls : Value} {d : Option Addr} {x : W} (hK : B.K = B'.K) (hc : B.cs = B'.cs) (h : ExR B ρ H cls d x) : ExR B' ρ H cls d x := by
  obtain ⟨c, C, f, w, dd, v, h1, h2, h3, h4, h5, h6⟩ := h
  exact ⟨c, C, f, w, dd, v, h1, hc ▸ h2, h3, h4, h5, h6.cv hK hc⟩
/-- hD: what B asks beyond holds from here on -/
theorem postE_cv {Wx : Value → Option Addr → Hp → Prop} {o : Out W} {Q : VK} (hK : B.K = B'.K) (hc : B.cs = B'.cs) (hT : B.T = B'.T) (hD : ∀ ρ' H', ρ <+: ρ' → Kp H H' → B'.D ρ' H' → B.D ρ' H') (q : PostE B Wx ρ H o Q) : PostE B' Wx ρ H o Q := by
  cases o with
  | ok w st' => exact fun ρ' H' v a b c d => q ρ' H' v a b (c.cv hK.symm hc.symm hT.symm (hD _ _ a b c.dd)) (d.cv hK.symm hc.symm)
  | er x st' => exact fun ρ' H' cls d a b c e => q ρ' H' cls d a b (c.cv hK.symm hc.symm hT.symm (hD _ _ a b c.dd)) (e.cv hK.symm hc.symm)
  | bad => exact q
end
theorem FnG.imp {P : Program} {w : World} {K : PySem.W.Frag} {mg : Str → Option Value} {base : Heap} {k : Nat} {f : Addr} {fd : FuncData} {ps : List Str} {sp sp' : Sp} (F : FnG P w K mg base k f fd ps sp) (h : ∀ vs H Q E, sp' vs H Q E → sp vs H Q E) : FnG P w K mg base k f fd ps sp' :=
  ⟨fun A outer s H args us vs Q E hr hg e0 hb r q => F.run A outer s H args us vs Q E hr hg e0 hb r (h _ _ _ _ q)⟩
theorem spOf_cv {B B' : Bk} {φ : List W → Store → Out W} {n : Nat} (hK : B.K = B'.K) (hc : B.cs = B'.cs) (hT : B.T = B'.T) (hD : ∀ ρ H, B'.D ρ H → B.D ρ H) (vs : List V) (H : Hp) (Q : VK) (E : XK) (h : spOf B' φ n vs H Q E) : spOf B φ n vs H Q E := by
  obtain ⟨hl, ρ, ws, st, rs, hs, q⟩ := h
  exact ⟨hl, ρ, ws, st, rs.cv hK.symm hc.symm, hs.cv hK.symm hc.symm hT.symm (hD _ _ hs.dd), postE_cv hK.symm hc.symm hT.symm (fun ρ' H' a b _ => B'.Dm _ _ _ _ a b.to0 hs.dd) q⟩
theorem GK0.cv {G G' : Glb} {B B' : Bk} {Φ Φ' : Phi} {k : Nat} {P : Program} {w : World} {mg : Str → Option Value} {base : Heap} (g : GK0 G B Φ k P w mg base) (hG : G' = { G with mks := G'.mks }) (hΦ : Φ'.fn = Φ.fn) (hB : B' = ⟨B.K, B.cs, B.T, B'.D, B'.Dm⟩) (hD : ∀ ρ H, B'.D ρ H → B.D ρ H) : GK0 G' B' Φ' k P w mg base := by
  obtain ⟨D, Dm⟩ : ∃ D Dm, B' = ⟨B.K, B.cs, B.T, D, Dm⟩ := ⟨_, _, hB⟩
  generalize hm : G'.mks = m at hG
  subst hG
  obtain ⟨Dm, e⟩ := Dm
  clear hB
  subst e
  exact ⟨fun i f e => by
      obtain ⟨a, fd, h1, h2, h3, h4⟩ := g.fn i f e
      exact ⟨a, fd, h1, h2, by rw [hΦ]; exact h3.imp (spOf_cv rfl rfl rfl hD), h4⟩,
    g.blt, fun x w e => let ⟨v, u, h1, h2, h3⟩ := g.con x w e; ⟨v, u, h1, h2, fun ρ H => RW.cv (B := B) (B' := ⟨B.K, B.cs, B.T, D, Dm⟩) rfl rfl (h3 ρ H)⟩, g.cn, g.ec, g.es, g.ep, g.pb, g.en, g.sm, g.em, g.rz, g.fd⟩
theorem GK.ofBad {G : Glb} {B : Bk} {Φ : Phi} {k : Nat} {P : Program} {w : World} {mg : Str → Option Value} {base : Heap} (g : GK0 G B Φ k P w mg base) (h : Φ.lam = fun _ _ _ => .bad) : GK G B Φ k P w mg base :=
  ⟨g, fun i f e => by
    obtain ⟨a, fd, h1, h2, h3, h4⟩ := g.fn i f e
    exact ⟨a, fd, h1, h2, fun A outer s H fo Q E ρ st Θ _ _ _ _ _ _ _ q => by rw [h] at q; exact q.elim, h4⟩⟩
/-- no deed was handed -/
theorem deedAt_bad {B : Bk} {Φ : Phi} {N : List Str} {sc : Scope} {X : Cx} (h : Φ.deed = fun _ _ => .bad) : DeedAt B Φ N sc X := fun pn xe W tk i x p1 p2 hi hv hd => ⟨fun pins s σ H Q I ⟨ρ, env, st, he, hs, q⟩ => by
  unfold deedF at q
  rw [h] at q
  split at q <;> exact q.elim⟩
theorem ends_of {B : Bk} {E : XK} {ρ : List Addr} {H : Hp} {st : Store} {Q : VK} {o : SOut} (hs : StR B ρ H st) (q : PostE B (fun c d H' => E c d H') ρ H (trimO st (endO o)) Q) : PostS B (fun cls dd _ H' => E cls dd H') ρ H o { nx := fun _ H' => Q .non H', rt := Q } := by
  have q := post_trim hs q
  cases o with
  | nx env' st' => exact fun ρ' H' σ' a1 a2 he' hs' => q ρ' H' .non a1 a2 hs' .non
  | rt w' st' => exact fun ρ' H' v a1 a2 hs' r' => q ρ' H' v a1 a2 hs' r'
  | er x env' st' => exact fun ρ' H' σ' cls dd a1 a2 he' hs' r' => q ρ' H' cls dd a1 a2 hs' r'
  | bk env' st' => exact q.elim
  | ct env' st' => exact q.elim
  | bad => exact q.elim
theorem mkAt_of {G : Glb} {B : Bk} {mg : Str → Option Value} {base : Heap} {i : Nat} {d : FnD} {a : Addr} {fd : FuncData} {cdv : Value} (gs : GS G B mg base) (kin : B.K.In base) (ha : DefAt G B mg i d) (hm : mg d.name = some (.ref a)) (F : Fun B.K d.name d.name d.st a fd) (hc : fd.code = cdv) (h : d.N ∈ G.mks) : MkAt B mg base cdv (d.name ++ (".<locals>." : Str)) := by
  obtain ⟨a', fd', h1, F', c, P, e1, e2, e3, e4, e5⟩ := ha.mkr h
  rw [hm] at h1
  cases h1
  have : fd' = fd := by
    obtain ⟨_, _, _, _, _, _, _, _, _, rfl, l1, _⟩ := F.ex
    obtain ⟨_, _, _, _, _, _, _, _, _, rfl, l2, _⟩ := F'.ex
    rw [l1] at l2
    exact (Data.func.inj (congrArg Obj.data (Option.some.inj l2))).symm
  subst this
  exact ⟨c, P, by rw [← hc]; exact e1, ⟨PySem.W.codeHd_of_K kin e2, gs.bm _ e4, e3⟩, e4, e5⟩
theorem gk_of {G : Glb} {B : Bk} {Ds : List FnD} {P : Program} {w : World} {mg : Str → Option Value} {base : Heap} (gs : GS G B mg base) (hD : ∀ ρ H, B.D ρ H) (hf : G.fns = Ds.map fun d => ⟨d.name, d.ps⟩) (ha : ∀ (i : Nat) (d : FnD), Ds[i]? = some d → DefAt G B mg i d) (hd : ∀ d ∈ Ds, DefDo G d) :
    ∀ k : Nat, GK G B (PhiOf Ds k) k P w mg base ∧ ∀ (i : Nat) (d : FnD) (a : Addr) (fd : FuncData), Ds[i]? = some d → mg d.name = some (.ref a) → Fun B.K d.name d.name d.st a fd → FnG P w B.K mg base k a fd d.ps (spOf B (PhiOf Ds k i) d.ps.length) := fun k => by
  have mk : ∀ k : Nat, (∀ (i : Nat) (d : FnD) (a : Addr) (fd : FuncData), Ds[i]? = some d → mg d.name = some (.ref a) → Fun B.K d.name d.name d.st a fd → FnG P w B.K mg base k a fd d.ps (spOf B (PhiOf Ds k i) d.ps.length)) →
      (∀ (i : Nat) (d : FnD) (a : Addr) (fd : FuncData), Ds[i]? = some d → mg d.name = some (.ref a) → Fun B.K d.name d.name d.st a fd → LamG G B (PhiOf Ds k) k P w mg base i d.ps a fd) →
      GK G B (PhiOf Ds k) k P w mg base ∧ ∀ (i : Nat) (d : FnD) (a : Addr) (fd : FuncData), Ds[i]? = some d → mg d.name = some (.ref a) → Fun B.K d.name d.name d.st a fd → FnG P w B.K mg base k a fd d.ps (spOf B (PhiOf Ds k i) d.ps.length) := fun k h hl => by
    refine ⟨⟨⟨fun i f e => ?_, gs.blt, gs.con, gs.cn, gs.ec, gs.es, gs.ep, gs.pb, gs.en, gs.sm, gs.em, fun c hc => let ⟨C, f, e1, e2⟩ := gs.rz c hc; ⟨C, f, e1, mkC_of e2⟩, gs.fd⟩, fun i f e => ?_⟩, h⟩
    · rw [hf, List.getElem?_map, Option.map_eq_some_iff] at e
      obtain ⟨d, e1, e2⟩ := e
      subst e2
      obtain ⟨a, fd, h1, h2, h3⟩ := (ha i d e1).at_
      exact ⟨a, fd, h1, h2.kp, h i d a fd e1 h1 h2, h3⟩
    · rw [hf, List.getElem?_map, Option.map_eq_some_iff] at e
      obtain ⟨d, e1, e2⟩ := e
      subst e2
      obtain ⟨a, fd, h1, h2, h3⟩ := (ha i d e1).at_
      exact ⟨a, fd, h1, h2.kp, hl i d a fd e1 h1 h2, h3⟩
  induction k using Nat.strongRecOn with
  | ind k ih =>
  refine mk k (fun i d a fd e h1 h2 => ?_) fun i d a fd e h1 h2 => ?_
  · cases k with
    | zero => exact ⟨fun A outer s H args us vs Q E hr hgd e0 hb r ⟨_, ρ, ws, st, _, _, q⟩ => q.elim⟩
    | succ k =>
      have ih := ih k (Nat.lt_succ_self k)
      have dd := hd d (List.mem_of_getElem? e)
      have S := scC'_ok dd.sc
      refine ⟨fun A outer s H args us vs Q E hr hgd e0 hb r ⟨hl, ρ, ws, st, rs, hs, q⟩ => call_body (k := k + 2) h2 S hr e0 hb r hl fun cdv hc hr' => ?_⟩
      have gx : GXS G B (PhiOf Ds k) k d.N (fun cls dd _ H' => E cls dd H') (defScope d.st) (cxOf (L2.CX P w) P w B.K mg base d.N d.name (defScope d.st) a cdv A outer s H E) := by
        exact ⟨⟨rfl, rfl, S.nd, rfl, rfl, hr', deeper_guards hgd, takes_of rfl rfl rfl rfl, ih.1, fun hm => mkAt_of gs e0.mod.kin (ha i d e) h1 h2 hc hm⟩, passes_of rfl, rfl, rfl, fun _ => rfl, S.kind, rfl, deedAt_bad (by cases k <;> rfl)⟩
      refine ⟨_, (dd.do_ B k).pss _ _ _ gx, ρ, _, st, env_start rs, hs, ends_of hs ?_⟩
      have hi : PhiOf Ds (k + 1) i ws st = trimO st (endO (d.F (PhiOf Ds k) (env0 d.N ws) st)) := by
        show (match Ds[i]? with
          | some d => callD d (PhiOf Ds k) ws st
          | none => Out.bad) = _
        rw [e]
        show callD d _ ws st = _
        unfold callD
        rw [if_pos (by rw [← rs.length]; exact hl)]
      rw [hi] at q
      exact q
  · match k, ih with
    | 0, _ => intro A outer s H fo Q E ρ st Θ _ _ _ _ _ _ _ q; exact q.elim
    | 1, _ =>
        intro A outer s H fo Q E ρ st Θ _ _ _ _ _ _ _ q
        have z : (PhiOf Ds 1).lam i Θ st = .bad := by
          unfold PhiOf
          dsimp only
          rw [if_pos rfl]
        rw [z] at q
        exact q.elim
    | k + 2, ih =>
      have ih1 := ih (k + 1) (Nat.lt_succ_self _)
      have ih0 := ih k (by omega)
      have dd := hd d (List.mem_of_getElem? e)
      have S := scC'_ok dd.sc
      intro A outer s H fo Q E ρ st Θ hr hgd e0 hb hl hs hdeed q
      have hd2 := hdeed (PhiOf Ds k) k rfl ih0.1.toGK0
      refine call_body (us := [.ref fo]) (vs := [.ref fo]) (k := k + 3) h2 S hr e0 hb (.cons rfl .nil) hl.symm fun cdv hc hr' => ?_
      let Φ' : Phi := ⟨(PhiOf Ds (k + 1)).fn, (PhiOf Ds (k + 1)).lo, fun _ _ _ => .bad, fun g st' => if g = fo then Θ (PhiOf Ds k).fn st' else .bad⟩
      let B' : Bk := ⟨B.K, B.cs, B.T, fun ρ' H' => ρ <+: ρ' ∧ Kp0 H H', fun _ _ _ _ a b ⟨c, d⟩ => ⟨c.trans a, fun x o z1 z2 => b x o (d x o z1 z2) z2⟩⟩
      have hB : ∀ ρ H, B'.D ρ H → B.D ρ H := fun ρ H _ => hD ρ H
      have gk' : GK G B' Φ' (k + 1) P w mg base := .ofBad (ih1.1.toGK0.cv rfl rfl rfl hB) rfl
      have gx : GXS G B' Φ' (k + 1) d.N (fun cls dd _ H' => E cls dd H') (defScope d.st) (cxOf (L2.CX P w) P w B.K mg base d.N d.name (defScope d.st) a cdv A outer s H E) := by
        refine ⟨⟨rfl, rfl, S.nd, rfl, rfl, hr', deeper_guards hgd, takes_of rfl rfl rfl rfl, gk', fun hm => let ⟨c, P, e1, e2, e3, e4⟩ := mkAt_of (B := B) gs e0.mod.kin (ha i d e) h1 h2 hc hm; ⟨c, P, e1, e2, e3, e4⟩⟩, passes_of rfl, rfl, rfl, fun _ => rfl, S.kind, rfl, ?_⟩
        intro pn xe W tk j x p1 p2 hj hv hn
        refine PE.imp (hd2 d.N d.name (defScope d.st) cdv pn xe W x j p1 p2 tk hj (visB_ok hv) (notDbg1 hn) (notDbg2 hn)) fun σ H' Q' ⟨ρ', env, st', he', hs', q'⟩ => ?_
        unfold deedF at q'
        split at q'
        · rename_i g eg
          have q2 : PostE B' (fun c d H'' => W c d σ H'') ρ' H' (if g = fo then Θ (PhiOf Ds k).fn st' else .bad) Q' := q'
          by_cases hg : g = fo
          · rw [if_pos hg] at q2
            subst hg
            obtain ⟨v, hv1, hv2⟩ := he'.2 j _ eg
            cases hv2
            exact ⟨hv1, ρ', st', hs'.dd.1, hs'.dd.2, StR.cv (B := B') (B' := B) rfl rfl rfl (hB _ _ hs'.dd) hs', postE_cv (B := B') (B' := B) rfl rfl rfl (fun ρ2 H2 a b _ => B'.Dm _ _ _ _ a b.to0 hs'.dd) q2⟩
          · rw [if_neg hg] at q2
            exact q2.elim
        · exact q'.elim
      have hs' : StR B' ρ H st := StR.cv (B := B) (B' := B') rfl rfl rfl ⟨List.prefix_refl _, fun _ _ z _ => z⟩ hs
      refine ⟨_, (dd.do_ B' (k + 1)).pss _ _ _ gx, ρ, _, st, env_start (.cons (.clo fo) .nil), hs', ends_of hs' (postE_cv (B := B) rfl rfl rfl (fun ρ' H' _ _ h => hB _ _ h) ?_)⟩
      have q : PostE B (fun c d H' => E c d H') ρ H (if k + 1 = 0 then Out.bad else match Ds[i]? with
        | some d => allF fun f => callD d ⟨(PhiOf Ds (k + 1)).fn, (PhiOf Ds (k + 1)).lo, fun _ _ _ => .bad, fun g st' => if g = f then Θ (PhiOf Ds (k + 1)).lo st' else .bad⟩ [.clo f] st
        | none => .bad) Q := q
      rw [if_neg (by omega), e] at q
      have q := post_allF fo q
      unfold callD at q
      rw [if_pos (by simp [hl])] at q
      exact q
end Zf
namespace Zf
open PySem L2
open PyProof.Rows hiding St

/-! ### the law's call -/
theorem ints_rws {B : Bk} {ρ : List Addr} {H : Hp} : ∀ ns : List Int, RWs B ρ H (ns.map V.int) (ns.map W.int)
  | [] => .nil
  | n :: r => .cons (.int n) (ints_rws r)
/-- the heap without what is tracked: the script, the tables -/
theorem noScript {P : Program} {w : World} {h : Heap} {H : Hp} {a : Addr} {vs : List Value} {T : List Addr} (ha : h.get? a = some { cls := .type "list", data := .seq vs.toArray }) (hT : ∀ b ∈ T, h.get? b = some { cls := .none, data := .fields #[] }) (hA : ∀ b, H b ≠ none → b = a ∨ b ∈ T) {b : Addr} {o : Obj} (e : h.get? b = some o)
    (h1 : ∀ vs n, o.data ≠ .seq vs n) (h2 : o.data ≠ .fields #[]) : (hidT h H).get? b = some o := by
  refine hidT_get e ?_
  cases q : H b with
  | none => rfl
  | some u =>
    rcases hA b (by rw [q]; simp) with e' | e'
    · rw [e', ha] at e; cases e; exact absurd rfl (h1 _ _)
    · rw [hT b e'] at e; cases e; exact absurd rfl h2
theorem noScriptN {P : Program} {w : World} {h : Heap} {H : Hp} {a : Addr} {vs : List Value} {T : List Addr} (ha : h.get? a = some { cls := .type "list", data := .seq vs.toArray }) (hT : ∀ b ∈ T, h.get? b = some { cls := .none, data := .fields #[] }) (hA : ∀ b, H b ≠ none → b = a ∨ b ∈ T) {b : Addr} {m : Str → Option Value} (n : h.Ns b m) : (hidT h H).Ns b m := by
  obtain ⟨o, es, ep, e, d, r⟩ := n
  exact ⟨o, es, ep, noScript (P := P) (w := w) ha hT hA e (fun vs n z => by rw [d] at z; cases z) (fun z => by rw [d] at z; cases z), d, r⟩
theorem caller_guards : callerA.guards = some [] := rfl
/-- the law's call from the heap behind the top -/
theorem law_callG {P : Program} {w : World} {K : PySem.W.Frag} {mg mb mm : Str → Option Value} {k : Nat} {fa a : Addr} {fd : FuncData} {x : Str} {cs T : List (Addr × Str)} {φ : List W → Store → Out W} {s₁ : Shared} {vs : List Value} {ns : List Int} {st' : Store}
    (KX : K.In s₁.heap) (hns : s₁.heap.Ns mainGlobals mg) (hb : s₁.heap.Ns builtinsNs mb) (hbb : ∀ x : Str, x ≠ "__name__" → mb x = bootBuiltins x) (hsm : s₁.heap.Ns sysModules mm) (hlim : s₁.heap.NoLimit) (hg : s₁.gens = #[])
    (hT : ∀ p ∈ T, s₁.heap.get? p.1 = some { cls := .none, data := .fields #[] }) (nT : ∀ p ∈ T, K.lookup p.1 = none) (cT : ∀ p ∈ T, ∃ c, PySem.W.codeHdIn K c p.1 = true)
    (hbm : ∃ (bm : Addr) (ob : Obj), mg "__builtins__" = some (.ref bm) ∧ bm ≠ builtinsNs ∧ s₁.heap.get? bm = some ob ∧ ob.cls = .type "module" ∧ ob.dict = some builtinsNs ∧ ob.data = .plain)
    (ha : s₁.heap.get? a = some { cls := .type "list", data := .seq vs.toArray }) (hi : IntsAre vs ns) (hl : ns.length ≤ sizeLine) (hr : Room (k + 2) callerA)
    (F : ∀ base : Heap, K.In base → base.Ns mainGlobals mg → (∃ mm, base.Ns sysModules mm) → (∀ p ∈ T, base.BuiltinsAt mg p.1) → FnG P w K mg base k fa fd [x] (spOf (Bk.of K cs T) φ 1)) (hbind : ∀ (s : Shared) (u : Value), BindsTo s fd ⟨[u], []⟩ [(x, u)])
    (hφ : φ [.klst (ns.map W.int)] [] = .ok (.bl true) st') :
    codeAny (model P w) callerA (.call (.ref fa) ⟨[.ref a], []⟩) (fun r s' => r = .ok (.ret (.bool true)) ∧ OldK s₁.heap s'.heap ∧ s'.os = s₁.os ∧ AllBare s'.gens) s₁ := by
  have rv := vals_ints hi
  have lenV := hi.length
  generalize hTT : T.map (·.1) = TT
  have isT : ∀ b ∈ TT, s₁.heap.get? b = some { cls := .none, data := .fields #[] } := fun b hb => by
    subst hTT
    obtain ⟨p, hp, e⟩ := List.mem_map.mp hb
    rw [← e]; exact hT p hp
  have kT : ∀ b ∈ TT, K.lookup b = none ∧ ∃ c, PySem.W.codeHdIn K c b = true := fun b hb => by
    subst hTT
    obtain ⟨p, hp, e⟩ := List.mem_map.mp hb
    rw [← e]; exact ⟨nT p hp, cT p hp⟩
  have memT : ∀ p ∈ T, p.1 ∈ TT := fun p hp => by subst hTT; exact List.mem_map.mpr ⟨p, hp, rfl⟩
  have aT : a ∉ TT := fun z => by
    have q := isT a z
    rw [ha] at q
    exact nomatch congrArg Obj.data (Option.some.inj q)
  -- H tells of the script and of the tables at most
  have core : ∀ H : Hp, SqK K H a (ns.map V.int) → (∀ b, H b ≠ none → b = a ∨ b ∈ TT) → (∀ b ∈ TT, H b = some (.tbl #[])) → (∀ b, H b = none ∨ b ∈ TT ∨ ∃ o ys, H b = some (.frz o (.lst ys))) → HOk P w H s₁.heap → (H a ≠ none → K.lookup a = none) →
      codeAny (model P w) callerA (.call (.ref fa) ⟨[.ref a], []⟩) (fun r s' => r = .ok (.ret (.bool true)) ∧ OldK s₁.heap s'.heap ∧ s'.os = s₁.os ∧ AllBare s'.gens) s₁ := fun H hS hA hTb hO hok hK => by
    have hKb : K.In (hidT s₁.heap H) := fun b o e => hidT_get (KX b o e) (by
      cases q : H b with
      | none => rfl
      | some u =>
        rcases hA b (by rw [q]; simp) with e' | e'
        · rw [e', hK (by rw [← e', q]; simp)] at e; cases e
        · rw [(kT b e').1] at e; cases e)
    have nsK : ∀ {b : Addr} {m : Str → Option Value}, s₁.heap.Ns b m → (hidT s₁.heap H).Ns b m := fun n => noScriptN (P := P) (w := w) ha isT hA n
    obtain ⟨mc, l1, l2⟩ := hlim
    have hM : Mod K mg (hidT s₁.heap H) := ⟨hKb, nsK hns, ⟨mb, nsK hb, hbb⟩, ⟨mc, nsK l1, l2⟩⟩
    have e0 : Env0 P w K mg (hidT s₁.heap H) callerA [] s₁ H := ⟨rfl, hM, fun b o e => of_hidT e, Nat.le_of_eq (hidT_size _ _), trivial, fun _ z => (List.not_mem_nil z).elim, hok, .of_eq hg⟩
    have bmT : ∀ p ∈ T, (hidT s₁.heap H).BuiltinsAt mg p.1 := fun p hp => by
      obtain ⟨bm, ob, b1, b2, b3, b4, b5, b6⟩ := hbm
      refine ⟨bm, ob, b1, b2, fun q => ?_, fun q => ?_, noScript (P := P) (w := w) ha isT hA b3 (fun vs n z => by rw [b6] at z; cases z) (fun z => by rw [b6] at z; cases z), b4, b5, b6⟩
      · obtain ⟨o, es, ep, e, hd, _⟩ := hns
        rw [q, e] at b3; cases b3
        rw [hd] at b6; cases b6
      · rw [q, hT p hp] at b3; cases b3
        cases b6
    have fn := F _ hKb (nsK hns) ⟨mm, nsK hsm⟩ bmT
    refine codeAny_mono (fn.run callerA [] s₁ H ⟨[.ref a], []⟩ [.ref a] [.ref a] (fun v _ => v = .bl true) (fun _ _ _ => False) hr caller_guards e0 (hbind s₁ (.ref a)) (.cons rfl .nil) ⟨rfl, [], [.klst (ns.map W.int)], [], .cons (.klst hS (ints_rws ns)) .nil, ⟨rfl, .nil, fun _ _ _ z => (nomatch z), fun p hp => LamX.TabS.nil (hTb p.1 (memT p hp)), trivial⟩, ?_⟩) fun r s' h => ?_
    · rw [hφ]
      intro ρ' H' v _ _ _ r
      cases r
      rfl
    · cases r with
      | error e =>
        obtain ⟨_, _, _, _, _, _, _, _, _, _, _, _, z⟩ := h
        exact z.elim
      | ok fl =>
        cases fl with
        | ret u =>
          obtain ⟨v, H', os, bare, un, hok', r', q⟩ := h
          cases q
          cases (show u = Value.bool true from r')
          have key : ∀ b o, b ∉ TT → s₁.heap.get? b = some o → s'.heap.get? b = some o := fun b o nb e => by
            rcases hO b with z | z | ⟨ob, ys, z⟩
            · exact un.keep b o e z (fun q => nomatch q) (fun q => nomatch q)
            · exact absurd z nb
            · obtain ⟨e1, _⟩ := hok b _ z
              obtain ⟨e2, _⟩ := hok' b _ (un.frzs b ob _ z)
              rw [e] at e1; cases e1
              exact e2
          have grown : ∀ b ∈ TT, ∃ more : Array Value, s'.heap.get? b = some { cls := .none, data := .fields more } := fun b hb => by
            obtain ⟨more, z⟩ := un.tbls b #[] (hTb b hb)
            exact ⟨_, hok' b _ z⟩
          refine ⟨rfl, ⟨fun b o e => ?_, fun b o e => ?_⟩, os, bare⟩
          · by_cases hb : b ∈ TT
            · obtain ⟨more, hm⟩ := grown b hb
              obtain ⟨_, c, hc⟩ := kT b hb
              rw [isT b hb] at e
              cases e
              exact .inr (.inl ⟨((PySem.W.codeHd_of_K KX hc).tab (isT b hb)).isCodeTable, rfl, #[], more, rfl, by rw [Array.empty_append]; exact hm⟩)
            · exact .inl (key b o hb e)
          · by_cases hb : b ∈ TT
            · obtain ⟨more, hm⟩ := grown b hb
              exact ⟨_, hm⟩
            · exact ⟨o, key b o hb e⟩
        | next => exact False.elim h
        | brk => exact False.elim h
        | cont => exact False.elim h
  cases hk : K.lookup a with
  | some o =>
    have e := KX a o hk
    rw [ha] at e
    cases e
    let H0 : Hp := fun b => if b ∈ TT then some (.tbl #[]) else none
    have h1 : ∀ b, b ∈ TT → H0 b = some (.tbl #[]) := fun b hb => if_pos hb
    have h2 : ∀ b, b ∉ TT → H0 b = none := fun b hb => if_neg hb
    refine core H0 (.inr ⟨_, vs.toArray, _, hk, rfl, rfl, rfl, by rw [List.size_toArray, lenV]; exact hl, by simpa using rv⟩) (fun b z => ?_) h1 (fun b => ?_) (fun b u z => ?_) fun z => absurd (h2 a aT) z
    · by_cases hb : b ∈ TT
      · exact .inr hb
      · exact absurd (h2 b hb) z
    · by_cases hb : b ∈ TT
      · exact .inr (.inl hb)
      · exact .inl (h2 b hb)
    · by_cases hb : b ∈ TT
      · rw [h1 b hb] at z; cases z
        exact isT b hb
      · rw [h2 b hb] at z; cases z
  | none =>
    let H0 : Hp := fun b => if b = a then some (.frz { cls := .type "list", data := .seq vs.toArray } (.lst (ns.map V.int))) else if b ∈ TT then some (.tbl #[]) else none
    have h0 : H0 a = some (.frz { cls := .type "list", data := .seq vs.toArray } (.lst (ns.map V.int))) := if_pos rfl
    have h1 : ∀ b, b ∈ TT → H0 b = some (.tbl #[]) := fun b hb => (if_neg (show ¬ b = a from fun z => aT (by rw [← z]; exact hb))).trans (if_pos hb)
    have h2 : ∀ b, b ≠ a → b ∉ TT → H0 b = none := fun b ha hb => (if_neg ha).trans (if_neg hb)
    refine core H0 (.inl ⟨_, h0⟩) (fun b z => ?_) h1 (fun b => ?_) (fun b u z => ?_) fun _ => hk
    · by_cases hb : b = a
      · exact .inl hb
      · by_cases hb2 : b ∈ TT
        · exact .inr hb2
        · exact absurd (h2 b hb hb2) z
    · by_cases hb : b = a
      · subst hb; exact .inr (.inr ⟨_, _, h0⟩)
      · by_cases hb2 : b ∈ TT
        · exact .inr (.inl hb2)
        · exact .inl (h2 b hb hb2)
    · by_cases hb : b = a
      · subst hb
        rw [h0] at z; cases z
        exact ⟨ha, by rw [List.length_map]; exact hl, vs, _, rv, ha⟩
      · by_cases hb2 : b ∈ TT
        · rw [h1 b hb2] at z; cases z
          exact isT b hb2
        · rw [h2 b hb hb2] at z; cases z
/-- a law's row -/
theorem walk_zf {l : PySem.W.OpenLaw} {q : Program} {loose : List Str} {XP : (Str → Option Value) → Heap → Prop} {YP : World → Heap → Prop} {d : DefRec} {K : Params → PySem.W.Frag} {x : Str} {G : Glb} {Ds : List FnD} {k iL : Nat} {dL : FnD}
    (T : List (Addr × Str)) (hn : l.most = some 63) (hq : importsNone q = true) (hdf : d.params.defaults = []) (hr : Room (k + 2) callerA) (hY : ∀ (w : World) (h : Heap), YP w h → (K w.params).In h) (hYT : ∀ (w : World) (h : Heap), YP w h → ∀ p ∈ T, h.get? p.1 = some { cls := .none, data := .fields #[] })
    (hf : G.fns = Ds.map fun d => ⟨d.name, d.ps⟩) (hd : ∀ d ∈ Ds, DefDo G d) (hL : Ds[iL]? = some dL) (hLn : dL.name = d.name) (hLp : dL.ps = [x])
    (F : ∀ (w : World) (mg : Str → Option Value) (h : Heap), (K w.params).In h → h.Ns mainGlobals mg → ∃ cs : List (Addr × Str), (∀ base : Heap, (K w.params).In base → base.Ns mainGlobals mg → (∃ mm, base.Ns sysModules mm) → (∀ p ∈ T, base.BuiltinsAt mg p.1) → GS G (Bk.of (K w.params) cs T) mg base) ∧
      (∀ (i : Nat) (d : FnD), Ds[i]? = some d → DefAt G (Bk.of (K w.params) cs T) mg i d) ∧ (∀ (fd : FuncData) (a : Addr), Fun (K w.params) dL.name dL.name dL.st a fd → ∀ (s : Shared) (u : Value), BindsTo s fd ⟨[u], []⟩ [(x, u)]) ∧ ∀ p ∈ T, (K w.params).lookup p.1 = none ∧ ∃ c, PySem.W.codeHdIn (K w.params) c p.1 = true)
    (hp : ∀ ns : List Int, ns.length ≤ 63 → (∀ z ∈ ns, Builtin.Int.intBits z ≤ 1048576) → ∃ st', PhiOf Ds k iL [.klst (ns.map W.int)] [] = .ok (.bl true) st') :
    PySem.W.WalkO q loose XP YP l.row.toRowW d [] (fun f vs => PySem.call f vs) := by
  refine Att.attach_callB hn hdf fun w s₀ s₁ mg mb fa o pm cd doc a vs ns Gr Y ho hdd hcd hmg hobj hints hlen hbits hg => ?_
  have KX := hY w _ Y
  obtain ⟨cs, f1, f2, f3, f4⟩ := F w mg _ KX Gr.T.g
  obtain ⟨mm, hmm, _⟩ := (Gr.T.seer hq).mods
  obtain ⟨a', fd, h1, h2, _⟩ := (f2 iL dL hL).at_
  rw [hLn, hmg] at h1
  cases h1
  obtain ⟨st', hst⟩ := hp ns hlen hbits
  refine law_callG (cs := cs) (T := T) (φ := PhiOf Ds k iL) KX Gr.T.g Gr.T.b Gr.T.builtins hmm Gr.T.nolimit hg (hYT w _ Y) (fun p hp => (f4 p hp).1) (fun p hp => (f4 p hp).2) Gr.T.bmain hobj hints (Nat.le_trans hlen (by rw [sizeLine_eq]; decide)) hr (fun base b1 b2 b3 b4 => ?_) (f3 fd fa h2) hst
  have g := (gk_of (P := l.prog) (w := w) (f1 base b1 b2 b3 b4) (fun _ _ => trivial) hf f2 hd k).2 iL dL fa fd hL (by rw [hLn]; exact hmg) h2
  rw [hLp] at g
  exact g
end Zf
/-! try: .. except (A, B) as e: x = e: the exception is kept -/
namespace Zf
open PySem L2
open PyProof.Rows hiding St

/-- an exception object of the class cls, its dict d, that lies at a -/
def ExZ (cls : Value) (d : Option Addr) (a : Addr) : HO := .ext fun h => ∃ (oe : Obj) (vs : Array Value), h.get? a = some oe ∧ Zc cls d oe ∧ oe.data = .fields vs
theorem exZ_ok {P : Program} {w : World} {H : Hp} {h : Heap} {a : Addr} {cls : Value} {d : Option Addr} {oe : Obj} {vs : Array Value} (e : h.get? a = some oe) (z : Zc cls d oe) (f : oe.data = .fields vs) : ObjOk P w H h a (ExZ cls d a) :=
  ⟨⟨oe, vs, e, z, f⟩, ⟨oe, e⟩, fun _ _ ⟨o, v, q, r⟩ k => ⟨o, v, k o q, r⟩⟩
section
variable {X : Cx} {s : Shared} {H : Hp} {σ : St} {pins : List (Addr × Obj)}
/-- what was held is known from now on -/
theorem take_in {a : Addr} {oe : Obj} {u : HO} (I : Inv X ((a, oe) :: pins) σ H s) (h0 : X.s_0.heap.get? a = none) (nw : ObjOk X.prog X.w (upd H a u) s.heap a u) (hp : ∀ p ∈ X.pn ++ pins, p.1 ≠ a) : Inv X pins σ (upd H a u) s := by
  obtain ⟨e1, na, nL, nF, nc⟩ := I.pin (a, oe) (List.mem_append_right _ List.mem_cons_self)
  have ok2 : HOk X.prog X.w (upd H a u) s.heap := I.hok.laidN (fun _ _ z => z) na nw
  have bs : Un X.fs X.ex X.H_0 (upd H a u) X.s_0.heap s.heap := {
    keep := I.base.keep
    slot := I.base.slot
    free := fun b o z n hx => by
      have hb : b ≠ a := by rintro rfl; rw [h0] at z; cases z
      rw [upd_ne hb]; exact I.base.free b o z n hx
    there := I.base.there
    tups := fun b xs z => by
      have q := I.base.tups b xs z
      rw [upd_ne (ne_of_none q na)]; exact q
    frzs := fun b o v z => by
      have q := I.base.frzs b o v z
      rw [upd_ne (ne_of_none q na)]; exact q
    tbls := fun b ps z => by
      obtain ⟨m, q⟩ := I.base.tbls b ps z
      exact ⟨m, by rw [upd_ne (ne_of_none q na)]; exact q⟩ }
  refine ⟨I.ok, I.os, I.bare, bs, I.loc, I.cell, by rw [upd_ne (Ne.symm nL)]; exact I.free, fun x c e => ?_, fun p hm => ?_, ok2, I.len⟩
  · obtain ⟨v, o, z1, z2⟩ := I.cell x c e
    have hc : c ≠ a := by
      rintro rfl
      rw [e1] at z1; cases z1
      first
        | exact nc _ z2
        | exact nc _ z2.1
        | exact nc _ z2.2
        | exact nc _ z2.2.2
    rw [upd_ne hc]; exact I.freeC x c e
  · obtain ⟨z1, z2, z3⟩ := I.pin p (by
      rcases List.mem_append.mp hm with q1 | q1
      · exact List.mem_append_left _ q1
      · exact List.mem_append_right _ (List.mem_cons_of_mem _ q1))
    exact ⟨z1, by rw [upd_ne (hp p hm)]; exact z2, z3⟩
end

/-- flying on in a heap that grew -/
theorem fly_on {B h h' : Heap} {l : List PySem.Env} {a : Addr} {Z : Obj → Prop} (f : HandSPX.FlyingZ B l a Z h) (k : ∀ b o, h.get? b = some o → h'.get? b = some o) : HandSPX.FlyingZ B l a Z h' := by
  obtain ⟨f1, f2, f3, oe, vs, T, oT, ts, he, hz, hd, h1, hT, hTa, hg, hk, h3⟩ := f
  exact ⟨fun b o q => k b o (f1 b o q), f2, f3.of_keeps fun b o q _ => ⟨o, k b o q, rfl⟩, oe, vs, T, oT, ts, k _ _ he, hz, hd, h1, hT, hTa, k _ _ hg, hk, h3⟩
/-- what a clause's classes say of an exception's class -/
def CatchT (X : Cx) (t : Expr) (m : Value → Option Bool) : Prop :=
  ∀ (a : Addr) (oe : Obj) (pn : List (Addr × Obj)) (b : Bool) (σ : St) (H : Hp) (s : Shared) (Q : Bool → Shared → Prop) (E : Value → Shared → Prop), Inv (X.suite a ((a, oe) :: pn)) [] σ H s → m oe.cls = some b →
    (∀ h', (∀ q o, s.heap.get? q = some o → h'.get? q = some o) → Q b { s with heap := h' }) →
    wpAny (model X.prog X.w) (X.A.mark (some (.ref a))) (eval t X.env) (fun c s1 => wpAny (model X.prog X.w) (X.A.mark (some (.ref a))) (excMatches (.ref a) c) Q E s1) E s
section
variable {X : Cx}
theorem name_in {x : Str} {np : Pos} {c : Value} {a : Addr} {oe : Obj} {pn : List (Addr × Obj)} {σ : St} {H : Hp} {s : Shared} {Q : Value → Shared → Prop} {E : Value → Shared → Prop} (hc : Names X x c) (I : Inv (X.suite a ((a, oe) :: pn)) [] σ H s) (q : Q c s) :
    wpAny (model X.prog X.w) (X.A.mark (some (.ref a))) (eval (.Name x np) X.env) Q E s := by
  obtain ⟨g, dbg, hm | ⟨hm, hv, hn⟩⟩ := hc
  · exact ld_glob (X := X.suite a ((a, oe) :: pn)) I g hm q dbg
  · exact ld_blt (X := X.suite a ((a, oe) :: pn)) I g hm hv q hn dbg
theorem look_ty {a : Addr} {oe : Obj} {pn : List (Addr × Obj)} {σ : St} {H : Hp} {s : Shared} (I : Inv (X.suite a ((a, oe) :: pn)) [] σ H s) : PySem.W.Looks (model X.prog X.w) s.heap (typeOf (.ref a)) oe.cls := by
  obtain ⟨e, _⟩ := I.pin (a, oe) (List.mem_append_left _ List.mem_cons_self)
  exact fun A Q E s' k q => wpAny_typeOf_ref (k _ _ e) q
theorem catch_one {x : Str} {np : Pos} {c : Value} (hc : Names X x c) : CatchT X (.Name x np) (fun cls => PySem.W.exmOne X.K cls c) := fun a oe pn b σ H s Q E I e q =>
  name_in hc I ((PySem.W.exm_one I.kIn (look_ty I) e).here (q s.heap fun _ _ z => z))
theorem catch_two {x1 x2 : Str} {p1 p2 tp : Pos} {kk : Nat} {c1 c2 : Value} (h1 : Names X x1 c1) (h2 : Names X x2 c2) : CatchT X (.Tuple [.Name x1 p1, .Name x2 p2] kk tp) (fun cls => PySem.W.exmAny X.K cls [c1, c2]) := fun a oe pn b σ H s Q E I e q => by
  refine wpAny_Tuple (wpAny_items_cons (name_in h1 I (wpAny_items_cons (name_in h2 I (wpAny_items_nil ⟨by size_fits, ?_⟩)))))
  have up : ∀ b o, s.heap.get? b = some o → (s.heap.push { cls := .type "tuple", data := .seq [c1, c2].toArray }).get? b = some o := fun _ _ z => Heap.get?_push_of_some _ z
  exact (PySem.W.exm_tup2 (I.kIn.keeps up) ((look_ty I).keeps up) (Heap.get?_push_size _ rfl) e).here (q _ up)
theorem catch_three {x1 x2 x3 : Str} {p1 p2 p3 tp : Pos} {kk : Nat} {c1 c2 c3 : Value} (h1 : Names X x1 c1) (h2 : Names X x2 c2) (h3 : Names X x3 c3) :
    CatchT X (.Tuple [.Name x1 p1, .Name x2 p2, .Name x3 p3] kk tp) (fun cls => PySem.W.exmAny X.K cls [c1, c2, c3]) := fun a oe pn b σ H s Q E I e q => by
  refine wpAny_Tuple (wpAny_items_cons (name_in h1 I (wpAny_items_cons (name_in h2 I (wpAny_items_cons (name_in h3 I (wpAny_items_nil ⟨by size_fits, ?_⟩)))))))
  have up : ∀ b o, s.heap.get? b = some o → (s.heap.push { cls := .type "tuple", data := .seq [c1, c2, c3].toArray }).get? b = some o := fun _ _ z => Heap.get?_push_of_some _ z
  exact (PySem.W.exm_tup3 (I.kIn.keeps up) ((look_ty I).keeps up) (Heap.get?_push_size _ rfl) e).here (q _ up)

/-- where the suite goes on: the exception stays known -/
def keptD (i : Nat) (a : Addr) (u : HO) (D : Ends) : Ends :=
  { nx := fun σ H => D.nx (σ.set i none) (upd H a u), rt := fun v H => D.rt v (upd H a u), bk := fun σ H => D.bk (σ.set i none) (upd H a u), ct := fun σ H => D.ct (σ.set i none) (upd H a u) }
/-- what the clause wishes of an exception of the body -/
def wCat (m : Value → Option Bool) (i : Nat) (ts : Addr → Value → Option Addr → TS) (Wout : WX) (D : Ends) : WX := fun cls d σ H =>
  ∃ b, m cls = some b ∧ (b = true → ∀ a, H a = none → ts a cls d (keptD i a (ExZ cls d a) D) (σ.set i (some (.ref a))) H) ∧ (b = false → Wout cls d σ H)
theorem ps_catch {te : Expr} {n : Str} {i : Nat} {body suite : List Stmt} {b₀ : Stmt} {pos pos' : Pos} {tb : WX → TS} {ts : Addr → Value → Option Addr → TS} {Wout : WX} {m : Value → Option Bool}
    (hex : X.ex = []) (hstk : X.stack = X.env :: X.outer) (hfr0 : X.env.frame = some X.env.locals) (hN : X.N.Nodup) (hi : X.N[i]? = some n) (hln : X.env.kindOf n = some .local) (hm : CatchT X te m) (tk : Takes X Wout)
    (hb : ∀ (W : WX) (pn : List (Addr × Obj)) (xe : Value → Shared → Prop), Takes (X.tr pn xe) W → PassesOwn (model X.prog X.w) X.A X.env xe → PSs (X.tr pn xe) body (tb W)) (hsu : ∀ (a : Addr) (oe : Obj) (cls : Value) (d : Option Addr) (pn : List (Addr × Obj)), Zc cls d oe → (∃ vs, oe.data = .fields vs) → PSs (X.suite a ((a, oe) :: pn)) (b₀ :: suite) (ts a cls d)) :
    PS X (.Try body [.ExceptHandler (some te) (some n) (b₀ :: suite) pos'] [] [] pos) (fun D σ H => tb (wCat m i ts Wout D) D σ H) := by
  refine ⟨fun pins s0 σ H D I hw => ?_⟩
  have ok := I.ok
  have hA : X.A.frames = some (X.env :: X.outer) := by rw [ok.frames, hstk]
  refine wpAny_Try_except (wpAny_mono ((hb (wCat m i ts Wout D) (X.pn ++ pins) (fun e s₁ => wpAny (model X.prog X.w) X.A (noteFrame e X.env) (fun _ s₂ => wpAny (model X.prog X.w) X.A (setFlight e none) (fun _ s₃ => wpAny (model X.prog X.w) X.A (handleBy e X.env [.ExceptHandler (some te) (some n) (b₀ :: suite) pos']) (SP X pins D) X.xe s₃) X.xe s₂) X.xe s₁)
    (fun u s' xx => ?_) PassesOwn.looking).run [] s0 σ H D (I.toTry _) hw) (fun f s1 hsp => ?_) (fun _ _ z => z))
  · obtain ⟨a, G0, sI, pins', σ', H', cls, d, eu, J', nb, upS, sk, na, os, ag, b, hb1, hyes, hno⟩ := xx
    subst eu
    have J := (J'.ofTry ok : Inv X pins σ' H' sI)
    refine Sky.land Zc.steady hA hfr0 (show Sky G0 (X.env :: X.outer) a (Zc cls d) X.env.locals s'.heap by rw [← hstk]; exact sk) fun g3 fl3 up3 => ?_
    have ga : G0.get? a = none := fl3.2.1
    have apart : ∀ {h : Heap} {o : Obj} {vs : Array Value}, h.FunFrames G0 (X.env :: X.outer) → h.get? a = some o → o.data = .fields vs → a ∉ frs (X.env :: X.outer) := fun ff e dd hmem => by
      obtain ⟨_, o', e', hnf⟩ := ff.mem hmem
      rw [e] at e'; cases e'; exact hnf _ dd
    obtain ⟨oe3, vs3, he3, hz3, hd3⟩ := id fl3.there
    have nfr := apart fl3.2.2.1 he3 hd3
    have nL : a ≠ X.env.locals := fun z => nfr (List.mem_filterMap.mpr ⟨X.env, List.mem_cons_self, by rw [hfr0, z]⟩)
    have nF : a ∉ X.fs := fun hmem => by
      obtain ⟨e, he, q⟩ := List.mem_filterMap.mp hmem
      exact nfr (List.mem_filterMap.mpr ⟨_, List.mem_cons_of_mem _ he, q⟩)
    have nI : sI.heap.get? a = none := by
      cases q : sI.heap.get? a with
      | none => rfl
      | some o =>
        have z := nb a o q (by rw [hstk]; exact nfr)
        rw [ga] at z; cases z
    have n0 : (X.s_0).heap.get? a = none := by
      cases q : X.s_0.heap.get? a with
      | none => rfl
      | some o =>
        obtain ⟨o', z⟩ := J.base.there a o q (by rw [hex]; exact fun z => nomatch z)
        rw [nI] at z; cases z
    have npin : ∀ p ∈ X.pn ++ pins, p.1 ≠ a := fun p hp e => by
      obtain ⟨z, _⟩ := J.pin p hp
      rw [e, nI] at z; cases z
    have J3 : Inv X pins σ' H' { s' with heap := g3 } := J.landed nb fl3.1 (upS.trans up3) os ag
    have S3 := (J3.suite he3 hd3 na nL nF)
    refine wpAny_handleBy_cons (codeAny_handlers_test (hm a oe3 (X.pn ++ pins) b σ' H' _ _ _ S3 (by rw [hz3.1]; exact hb1) fun g4 up4 => ?_)) (by intro q; cases q)
    have fl4 : HandSPX.FlyingZ G0 (X.env :: X.outer) a (Zc cls d) g4 := fly_on fl3 up4
    have us4 : sI.heap.UpToSlots g4 := (upS.trans up3).trans (Heap.UpToSlots.of_keeps up4)
    cases b with
    | true =>
      refine codeAny_handlers_suite_as (HandSPX.lands_againZ (s := { s' with heap := g4 }) fl4 fun g5 fl5 up5 => ?_)
      have J5 : Inv X pins σ' H' { s' with heap := g5 } := J.landed nb fl5.1 (us4.trans up5) os ag
      obtain ⟨oe5, vs5, he5, hz5, hd5⟩ := fl5.there
      refine store_ok (X := X.suite a ((a, oe5) :: (X.pn ++ pins))) (v := .ref a) (J5.suite he5 hd5 na nL nF) hN hi (.inl hln) rfl (fun s6 S6 => ?_) (.inr hln)
      refine wpAny_mono ((hsu a oe5 cls d (X.pn ++ pins) hz5 ⟨_, hd5⟩).run [] s6 _ H' _ S6 (hyes rfl a na)) (fun f s7 hsp => ?_) (fun _ _ z => False.elim z)
      have out : ∀ {σ7 : St} {H7 : Hp} {Q : Shared → Prop}, Inv (X.suite a ((a, oe5) :: (X.pn ++ pins))) [] σ7 H7 s7 → (∀ s8, Inv X pins (σ7.set i none) (upd H7 a (ExZ cls d a)) s8 → Q s8) →
          wpAny (model X.prog X.w) X.A (do bindName X.env n .none; unbindBehindTheSuite X.env n pos') (fun _ s8 => Q s8) X.xe s7 := fun {σ7 H7 Q} S7 hq => by
        have K7 : Inv X ((a, oe5) :: pins) σ7 H7 s7 := ⟨ok, S7.os, S7.bare, S7.base, S7.loc, S7.cell, S7.free, S7.freeC, fun p hp => S7.pin p (List.mem_append_left _ (by
          rcases List.mem_append.mp hp with q1 | q1
          · exact List.mem_cons_of_mem _ (List.mem_append_left _ q1)
          · rcases List.mem_cons.mp q1 with q2 | q2
            · rw [q2]; exact List.mem_cons_self
            · exact List.mem_cons_of_mem _ (List.mem_append_right _ q2))), S7.hok, S7.len⟩
        refine gone_ok K7 hN hi hln fun s8 K8 => hq s8 (take_in K8 n0 ?_ npin)
        obtain ⟨e8, _⟩ := K8.pin (a, oe5) (List.mem_append_right _ List.mem_cons_self)
        exact exZ_ok e8 hz5 hd5
      cases f with
      | next => obtain ⟨σ7, H7, S7, q7⟩ := hsp; exact out S7 fun s8 J8 => ⟨_, _, J8, q7⟩
      | brk => obtain ⟨σ7, H7, S7, q7⟩ := hsp; exact out S7 fun s8 J8 => ⟨_, _, J8, q7⟩
      | cont => obtain ⟨σ7, H7, S7, q7⟩ := hsp; exact out S7 fun s8 J8 => ⟨_, _, J8, q7⟩
      | ret u => obtain ⟨v7, σ7, H7, S7, r7, q7⟩ := hsp; exact out S7 fun s8 J8 => ⟨_, _, _, J8, r7, q7⟩
    | false =>
      refine wpAny_handleBy_nil (env := X.env) ?_
      obtain ⟨k1, k2, k3, oe, vs, T, oT, ts', he, hz, hd, h1, hr⟩ := id fl4
      unfold PySem.passOn; refine wpAny_bind (wpAny_field he hd h1 ?_)
      rw [if_neg (show ¬ ((Value.ref T == Value.none) = true) by simp)]
      have fin : wpAny (model X.prog X.w) X.A (setFlight (.ref a) X.env.frame) (fun _ s4 => wpAny (model X.prog X.w) X.A (throw (.ref a) : Sem Flow) (SP X pins D) X.xe s4) X.xe { s' with heap := g4 } := by
        rw [hfr0]
        refine HandSPX.setFlight_upZ (s := { s' with heap := g4 }) fl4 fun g5 hh5 up5 => wpAny_throw (tk _ _ ⟨a, G0, sI, pins, σ', H', cls, d, rfl, J, nb, us4.trans up5, .inr (.inr (by rw [hstk]; exact hh5)), na, os, ag, hno rfl⟩)
      first | exact wpAny_bind (wpAny_pure (wpAny_bind fin)) | exact wpAny_bind fin
  · cases f with
    | next => obtain ⟨σ', H', J', q⟩ := hsp; exact wpAny_execs_nil ⟨σ', H', J'.ofTry ok, q⟩
    | brk => obtain ⟨σ', H', J', q⟩ := hsp; exact ⟨σ', H', J'.ofTry ok, q⟩
    | cont => obtain ⟨σ', H', J', q⟩ := hsp; exact ⟨σ', H', J'.ofTry ok, q⟩
    | ret u => obtain ⟨v, σ', H', J', r, q⟩ := hsp; exact ⟨v, σ', H', J'.ofTry ok, r, q⟩
end
end Zf
/-! try: .. except A: x = None; except (A, B, C) as e: x = e -/
namespace Zf
open PySem L2
open PyProof.Rows hiding St

def excIn (G : Glb) (c : Nat) : List Nat → Option Bool
  | [] => some false
  | c' :: r => match G.subAt c c', excIn G c r with
    | some b1, some b2 => some (b1 || b2)
    | _, _ => none
/-- the text of a clause's classes -/
inductive ClsT (G : Glb) (sc : Scope) : Expr → List Nat → Prop
  | one {x : Str} {p : Pos} {c : Nat} (h : glbB sc x = true ∧ notDbg x = true ∧ G.excs[c]? = some x) : ClsT G sc (.Name x p) [c]
  | two {x y : Str} {p p' t : Pos} {kk c c' : Nat} (h : glbB sc x = true ∧ notDbg x = true ∧ G.excs[c]? = some x) (h' : glbB sc y = true ∧ notDbg y = true ∧ G.excs[c']? = some y) : ClsT G sc (.Tuple [.Name x p, .Name y p'] kk t) [c, c']
  | three {x y z : Str} {p p' p2 t : Pos} {kk c c' c2 : Nat} (h : glbB sc x = true ∧ notDbg x = true ∧ G.excs[c]? = some x) (h' : glbB sc y = true ∧ notDbg y = true ∧ G.excs[c']? = some y) (h2 : glbB sc z = true ∧ notDbg z = true ∧ G.excs[c2]? = some z) :
      ClsT G sc (.Tuple [.Name x p, .Name y p', .Name z p2] kk t) [c, c', c2]
section
variable {G : Glb} {B : Bk} {k : Nat} {N : List Str} {sc : Scope} {Φ : Phi} {Wx : WX} {X : Cx}
theorem names_of (g : GX G B Φ k N Wx sc X) {x : Str} {c : Nat} (h : glbB sc x = true ∧ notDbg x = true ∧ G.excs[c]? = some x) : ∃ C f, B.cs[c]? = some (C, f) ∧ Names X x (.ref C) := by
  obtain ⟨C, f, e1, e2⟩ := g.gk.cn c x h.2.2
  exact ⟨C, f, e1, glbB_ok (by rw [g.sc]; exact h.1), notDbg1 h.2.1, .inl e2⟩
theorem exm_all (g : GX G B Φ k N Wx sc X) {c : Nat} {C : Addr} {f : Str} (e : B.cs[c]? = some (C, f)) : ∀ {cs : List Nat} {Cs : List Value} {b : Bool}, Paired (fun (c' : Nat) (v : Value) => ∃ C' f', B.cs[c']? = some (C', f') ∧ v = .ref C') cs Cs → excIn G c cs = some b → PySem.W.exmAny X.K (.ref C) Cs = some b
  | _, _, _, .nil, h => h
  | _, _, _, .cons ⟨C', f', e', ev⟩ r, h => by
    subst ev
    unfold excIn at h
    split at h
    · rename_i b1 d1 h1 h2
      have q := exm_all g e r h2
      unfold PySem.W.exmAny
      rw [q, g.K, g.gk.em _ _ _ _ _ _ _ e e' h1]
      exact h
    · cases h
theorem clause_ok (g : GX G B Φ k N Wx sc X) {te : Expr} {cs : List Nat} (h : ClsT G sc te cs) : ∃ m, CatchT X te m ∧ ∀ c C f b, B.cs[c]? = some (C, f) → excIn G c cs = some b → m (.ref C) = some b := by
  cases h with
  | @one x p c h =>
    obtain ⟨C, f, e, n⟩ := names_of g h
    refine ⟨_, catch_one n, fun c1 C1 f1 b e1 q => ?_⟩
    unfold excIn at q
    split at q
    · rename_i b1 d1 h1 h2
      cases h2
      rw [Bool.or_false] at q
      cases q
      rw [g.K]
      exact g.gk.em _ _ _ _ _ _ _ e1 e h1
    · cases q
  | two h h' =>
    obtain ⟨C, f, e, n⟩ := names_of g h
    obtain ⟨C', f', e', n'⟩ := names_of g h'
    exact ⟨_, catch_two n n', fun c1 C1 f1 b e1 q => exm_all g e1 (.cons ⟨C, f, e, rfl⟩ (.cons ⟨C', f', e', rfl⟩ .nil)) q⟩
  | three h h' h2 =>
    obtain ⟨C, f, e, n⟩ := names_of g h
    obtain ⟨C', f', e', n'⟩ := names_of g h'
    obtain ⟨C2, f2, e2, n2⟩ := names_of g h2
    exact ⟨_, catch_three n n' n2, fun c1 C1 f1 b e1 q => exm_all g e1 (.cons ⟨C, f, e, rfl⟩ (.cons ⟨C', f', e', rfl⟩ (.cons ⟨C2, f2, e2, rfl⟩ .nil))) q⟩
theorem gxs_tr (g : GXS G B Φ k N Wx sc X) {W : WX} {pn : List (Addr × Obj)} {xe : Value → Shared → Prop} (tk : Takes (X.tr pn xe) W) (hp : PassesOwn (model X.prog X.w) X.A X.env xe) : GXS G B Φ k N W sc (X.tr pn xe) :=
  ⟨⟨g.g.K, g.g.N, g.g.nd, g.g.sc, g.g.calm, g.g.room2, g.g.gd, tk, g.g.gk, g.g.lm⟩, hp, g.st, g.fr, g.fn, g.kf, g.ex, g.dd⟩
end

/-- the exception is kept in j; i is the clause's own name -/
def tryK (G : Glb) (cs : List Nat) (i j : Nat) (b : SS) : SS := fun Φ env st => match b Φ env st with
  | .er x env' st' => match x with
    | .exc c _ => match excIn G c cs with
      | some true => if i < env'.length then .nx (((env'.set i (some x)).set j (some x)).set i none) st' else .bad
      | some false => .er x env' st'
      | none => .bad
    | _ => .bad
  | o => o
/-- .. where the exception is kept -/
def tKeep (i j : Nat) : TS := tAsg (tVar i) (gName j)
theorem sndS_tryK {G : Glb} {B : Bk} {k : Nat} {N : List Str} {sc : Scope} {te : Expr} {cs : List Nat} {x y : Str} {i j : Nat} {body : List Stmt} {F : SS} {p1 p2 p3 pos pos' : Pos} (hc : ClsT G sc te cs) (hi : N[i]? = some x) (hj : N[j]? = some y)
    (hx : sc.names.lookup x = some .local) (hy : sc.names.lookup y = some .local) (hdx : notDbg x = true) (hb : SndSs G B k N sc body F) :
    SndS G B k N sc (.Try body [.ExceptHandler (some te) (some x) [.Assign [.Name y p1] (.Name x p2) p3] pos'] [] [] pos) (tryK G cs i j F) := by
  refine ⟨fun Φ Wx X g => ?_⟩
  obtain ⟨m, hm, hmm⟩ := clause_ok g.g hc
  have hNi : X.N[i]? = some x := by rw [g.g.N]; exact hi
  have hNj : X.N[j]? = some y := by rw [g.g.N]; exact hj
  have kx : X.env.scope.names.lookup x = some .local := by rw [g.g.sc]; exact hx
  have ky : X.env.scope.names.lookup y = some .local := by rw [g.g.sc]; exact hy
  have hsw : swapsWithSole [.Name y p1] (.Name x p2) p3.line X.env = pure false := rfl
  have hsp : swappedStores [.Name y p1] (.Name x p2) X.env = pure none := rfl
  refine PS.imp (ps_catch (ts := fun _ _ _ => tKeep i j) (tb := fun W => tS B W (F Φ)) g.ex g.st g.fr g.g.nd hNi kx hm g.g.tk (fun W pn xe tk hp => hb.pss Φ W _ (gxs_tr g tk hp))
    (fun a oe cls d pn hz hf => pss_one (ps_asg (pe_var (i := i) hNi (visB_ok (by unfold visB; rw [kx])) (notDbg1 hdx) (notDbg2 hdx)) (pg_name (i := j) g.g.nd hNj (.inl ky) (.inr ky)) hsw hsp rfl))) fun D σ H ⟨ρ, env, st, he, hs, q⟩ => ⟨ρ, env, st, he, hs, ?_⟩
  unfold tryK at q
  cases eF : F Φ env st with
  | er w env' st' =>
    rw [eF] at q
    intro ρ' H' σ' cls d a1 a2 he' hs' ex
    obtain ⟨c, C, f, u, dd, v, e1, e2, e3, e4, e5, e6⟩ := ex
    subst e1 e3 e4
    dsimp only at q
    split at q
    · rename_i hin
      split at q
      · rename_i hlt
        refine ⟨true, hmm c C f true e2 hin, fun _ a na => ?_, fun z => nomatch z⟩
        have hl : i < σ'.length := by rw [he'.1]; exact hlt
        refine ⟨.ref a, by rw [List.getElem?_set_self hl], ?_⟩
        have kp : Kp H' (upd H' a (ExA C dd a)) := .new na
        have hda : dd ≠ a := by rintro rfl; rw [na] at e5; cases e5
        have r : RW B ρ' (upd H' a (ExA C dd a)) (.ref a) (.exc c u) := .exc e2 upd_same (by rw [upd_ne hda]; exact e5) (e6.mono (List.prefix_refl _) kp)
        exact q ρ' _ _ a1 (a2.trans kp) ((((he'.mono (List.prefix_refl _) kp).set i r).set j r).unset i) (hs'.new na)
      · exact q.elim
    · rename_i hin
      exact ⟨false, hmm c C f false e2 hin, fun z => (nomatch z), fun _ => q ρ' H' σ' _ _ a1 a2 he' hs' ⟨c, C, f, u, dd, v, rfl, e2, rfl, rfl, e5, e6⟩⟩
    · exact q.elim
  | nx env' st' => rw [eF] at q; exact q
  | rt w st' => rw [eF] at q; exact q
  | bk env' st' => rw [eF] at q; exact q
  | ct env' st' => rw [eF] at q; exact q
  | bad => rw [eF] at q; exact q
/-- except A: y = None -/
def tryN (G : Glb) (cs : List Nat) (j : Nat) (b : SS) : SS := fun Φ env st => match b Φ env st with
  | .er x env' st' => match x with
    | .exc c _ => match excIn G c cs with
      | some true => .nx (env'.set j (some .non)) st'
      | some false => .er x env' st'
      | none => .bad
    | _ => .bad
  | o => o
theorem sndS_tryN {G : Glb} {B : Bk} {k : Nat} {N : List Str} {sc : Scope} {x y : Str} {c0 j jj : Nat} {body : List Stmt} {F : SS} {p0 p1 p2 p3 pos pos' : Pos} (hc : glbB sc x = true ∧ notDbg x = true ∧ G.excs[c0]? = some x) (hj : N[j]? = some y)
    (hy : sc.names.lookup y = some .local) (hb : SndSs G B k N sc body F) :
    SndS G B k N sc (.Try body [.ExceptHandler (some (.Name x p0)) none [.Assign [.Name y p1] (.Constant .none jj p2) p3] pos'] [] [] pos) (tryN G [c0] j F) := by
  refine ⟨fun Φ Wx X g => ?_⟩
  obtain ⟨C0, f0, e0, nm⟩ := names_of g.g hc
  have hNj : X.N[j]? = some y := by rw [g.g.N]; exact hj
  have ky : X.env.scope.names.lookup y = some .local := by rw [g.g.sc]; exact hy
  have hsw : swapsWithSole [.Name y p1] (.Constant .none jj p2) p3.line X.env = pure false := rfl
  have hsp : swappedStores [.Name y p1] (.Constant .none jj p2) X.env = pure none := rfl
  refine PS.imp (ps_try_many (l := [(.ref C0, fun _ _ _ => tAsg (tC .non) (gName j))]) (tb := fun W => tS B W (F Φ)) g.st g.fr g.g.tk (fun W pn xe tk hp => hb.pss Φ W _ (gxs_tr g tk hp))
    (.cons nm (fun a oe cls d pn hz hf => pss_one (ps_asg pe_non (pg_name (i := j) g.g.nd hNj (.inl ky) (.inr ky)) hsw hsp rfl)) .nil)) fun D σ H ⟨ρ, env, st, he, hs, q⟩ => ⟨ρ, env, st, he, hs, ?_⟩
  unfold tryN at q
  cases eF : F Φ env st with
  | er w env' st' =>
    rw [eF] at q
    intro ρ' H' σ' cls d a1 a2 he' hs' ex
    obtain ⟨c, C, f, u, dd, v, e1, e2, e3, e4, e5, e6⟩ := ex
    subst e1 e3 e4
    dsimp only at q
    have em : ∀ b, excIn G c [c0] = some b → PySem.W.exmOne X.K (.ref C) (.ref C0) = some b := fun b hin => by
      unfold excIn at hin
      split at hin
      · rename_i b1 d1 h1 h2
        cases h2
        rw [Bool.or_false] at hin
        cases hin
        rw [g.g.K]
        exact g.g.gk.em _ _ _ _ _ _ _ e2 e0 h1
      · cases hin
    split at q
    · rename_i hin
      exact ⟨true, em _ hin, fun _ a na => q ρ' _ _ a1 a2 (he'.set j .non) hs', fun z => nomatch z⟩
    · rename_i hin
      exact ⟨false, em _ hin, fun z => (nomatch z), fun _ => q ρ' H' σ' _ _ a1 a2 he' hs' ⟨c, C, f, u, dd, v, rfl, e2, rfl, rfl, e5, e6⟩⟩
    · exact q.elim
  | nx env' st' => rw [eF] at q; exact q
  | rt w st' => rw [eF] at q; exact q
  | bk env' st' => rw [eF] at q; exact q
  | ct env' st' => rw [eF] at q; exact q
  | bad => rw [eF] at q; exact q
end Zf
/-! lambdas handed to a def: x(lambda: e), x(lambda y=0: e); the deed called there -/
namespace Zf
open PySem L2
open PyProof.Rows hiding St

section
variable {G : Glb} {B : Bk} {k : Nat} {N : List Str} {sc : Scope}
theorem sndS_deed {x : Str} {i : Nat} {p1 p2 pos : Pos} (hi : N[i]? = some x) (hv : visB sc x = true) (hn : notDbg x = true) : SndS G B k N sc (.Expr (.Call (.Name x p1) [] [] p2) pos) (exprS (deedF i)) :=
  ⟨fun Φ Wx X g => PS.imp (ps_expr (show PE X (.Call (.Name x p1) [] [] p2) (tE B Wx (deedF i Φ)) from g.dd X.pn X.xe Wx g.g.tk i x p1 p2 hi hv hn) (noComp_ok rfl _ _ _)) fun D σ H ⟨ρ, env, st, he, hs, q⟩ => tX_imp (tX_toS he hs q) fun v H1 ⟨ρ1, st1, a, a1, a2, he1, hs1, r1, q1⟩ => postS_nx q1 he1 hs1⟩
theorem sndS_asgDeed {tg : Expr} {t : SG} {x : Str} {i : Nat} {p1 p2 pos : Pos} (hi : N[i]? = some x) (hv : visB sc x = true) (hd : notDbg x = true) (hn : noStar tg = true) (h1 : swB tg (.Call (.Name x p1) [] [] p2) sc = false) (h2 : swpB tg (.Call (.Name x p1) [] [] p2) sc = some none) (ht : SndG G B k N sc true tg t) :
    SndS G B k N sc (.Assign [tg] (.Call (.Name x p1) [] [] p2) pos) (asgS (deedF i) t) := by
  refine ⟨fun Φ Wx X g => PS.imp (ps_asg (show PE X (.Call (.Name x p1) [] [] p2) (tE B Wx (deedF i Φ)) from g.dd X.pn X.xe Wx g.g.tk i x p1 p2 hi hv hd) (ht.pg Φ Wx X g.g fun _ => g.fn) (by show swapsWith (.Call (.Name x p1) [] [] p2) (some tg) pos.line X.env = _; rw [sw_eq g.g.sc g.kf, h1]) (swp_eq g.g.sc g.kf h2) (assignEach_one hn _)) fun D σ H ⟨ρ, env, st, he, hs, q⟩ => ?_⟩
  exact tX_imp (tX_toS he hs q) fun v H1 ⟨ρ1, st1, w, a1, a2, he1, hs1, r1, q1⟩ => ⟨ρ1, env, st1, w, he1, hs1, r1, postG_go q1⟩
end

/-! ### the lambda is made -/
/-- a function object made by a lambda -/
abbrev lamO (qual : Str) (params : Arguments) (body : Expr) (scope : Scope) (cl : List (Str × Addr)) (dV doc pm : Value) (c' : Addr) (ctv : Value) : Obj := PySem.W.kdv_obj ("<lambda>" : Str) qual params (.expr body) scope cl dV doc pm c' ctv
section
variable {X : Cx} {pins : List (Addr × Obj)} {σ : L2.St} {H : Hp} {s : Shared}
theorem tail_made {T : List (Addr × Str)} {c P : Addr} {params : Arguments} {body : Expr} {scope : Scope} {pos : Pos} {dV : Value} {qn : Str} {E Q : Value → Shared → Prop} (I : Inv X pins σ H s) (tb : LamX.TabB X.base X.mg c P) (hcode : X.env.code = .ref c) (hm : (P, qn) ∈ T) (hu : ∀ p ∈ T, p.1 = P → p.2 = qn) (hT : LamX.Tabs T H)
    (hfree : ∀ y ∈ scope.names, y.2 = .free → ∃ c, X.env.cells.lookup y.1 = some c)
    (h : ∀ (f c' : Addr) (doc pm ctv : Value) (H1 : Hp) (s' : Shared), Inv X pins σ H1 s' → LamX.ExtN H H1 → LamX.Tabs T H1 → s'.heap.get? f = some (lamO qn params body scope (cloFrom X.env.cells scope.names []) dV doc pm c' ctv) → H1 f = none → f ∉ frs X.stack → H1 c' = some (LamX.CodeO c' qn) → Q (.ref f) s') :
    wpAny (model X.prog X.w) X.A (makeTail ("<lambda>" : Str) qn params (.expr body) scope X.env dV .none none pos pos.line) Q E s := by
  obtain ⟨ps, hP, ht, ha⟩ := hT _ hm
  have bP : s.heap.BuiltinsAt X.mg P := tb.bm.keeps I.bk
  have hP' : s.heap.get? P = some { cls := .none, data := .fields ps } := I.hok P _ hP
  have nofr : ∀ f, s.heap.objs.size ≤ f → f ∉ frs X.stack := fun f hf z => by
    rcases List.mem_cons.mp (I.stkSub _ z) with e | e
    · exact absurd hf (Nat.not_le.mpr (by rw [e]; exact I.lt))
    · exact I.nofs hf e
  cases hc : codeAmong pos ps.toList with
  | some cv =>
    obtain ⟨c', e, hco⟩ := ha pos cv hc
    subst e
    refine PySem.W.kdv_makeTailHit (mg := X.mg) (c := c) (P := P) (ps := ps) (closure_ok hfree) I.ok.glob (I.mod.glob.keeps I.bk) hcode (tb.code.keeps I.bk) hP' ht hc bP fun ctv doc h' tk hx hsz => ?_
    exact h _ c' doc _ ctv H _ (I.kept fun b o e => Heap.get?_push_of_some _ (hx b o e)) (.refl H) hT (Heap.get?_push_size _ rfl) (I.hok.fresh hsz) (nofr _ hsz) hco
  | none =>
    refine PySem.W.kdv_makeTail (mg := X.mg) (c := c) (P := P) (ps := ps) (closure_ok hfree) I.ok.glob (I.mod.glob.keeps I.bk) hcode (tb.code.keeps I.bk) hP' ht hc tb.gP bP fun c' ctv doc h' tk hx hge hlt hrec htb => ?_
    obtain ⟨c2, oc, vs, t, e2, hoc, hd, hv⟩ := hrec
    cases e2
    have hsz : s.heap.objs.size ≤ h'.objs.size := by omega
    have nC : H c' = none := I.hok.fresh hge
    have J := LamX.inv_table (t' := tk) (more := #[rawInt pos.line, rawInt pos.col, .ref c']) (h' := h'.push (lamO qn params body scope (cloFrom X.env.cells scope.names []) dV doc ((X.mg "__name__").getD .none) c' ctv)) (q := qn) I hP
      (fun b o hb e => Heap.get?_push_of_some _ (hx b o hb e)) (Heap.get?_push_of_some _ htb) hge ⟨oc, vs, t, Heap.get?_push_of_some _ hoc, hd, hv⟩
    have at_P : ∀ {u : HO}, upd (upd H P u) c' (LamX.CodeO c' qn) P = some u := fun {u} => by rw [upd_ne (ne_of_none hP nC), upd_same]
    have ex : LamX.ExtN H (upd (upd H P (.tbl (ps ++ #[rawInt pos.line, rawInt pos.col, .ref c']))) c' (LamX.CodeO c' qn)) := fun b o e n => by
      have hb : b ≠ P := by rintro rfl; rw [hP] at e; cases e; exact n _ rfl
      rw [upd_ne (ne_of_none e nC), upd_ne hb]
      exact e
    refine h h'.objs.size c' doc _ ctv _ _ J ex (fun p hp => ?_) (Heap.get?_push_size _ rfl) ?_ (nofr _ hsz) upd_same
    · by_cases hb : p.1 = P
      · rw [hu p hp hb, hb]
        have e3 : (ps ++ #[rawInt pos.line, rawInt pos.col, .ref c']).toList = ps.toList ++ [rawInt pos.line, rawInt pos.col, .ref c'] := by simp
        refine ⟨_, at_P, by rw [e3]; exact PySem.TriplesOk_snoc _ _ _ _ ht, fun p' cv hcv => ?_⟩
        rw [e3] at hcv
        rcases LamX.among_app _ ht hcv with z | z
        · obtain ⟨c0, e1, e2⟩ := ha p' cv z
          exact ⟨c0, e1, ex _ _ e2 LamX.codeO_ne⟩
        · exact ⟨c', z, upd_same⟩
      · obtain ⟨ps', a1, a2, a3⟩ := hT p hp
        refine ⟨ps', by rw [upd_ne (ne_of_none a1 nC), upd_ne hb]; exact a1, a2, fun p' cv hcv => ?_⟩
        obtain ⟨c0, e1, e2⟩ := a3 p' cv hcv
        exact ⟨c0, e1, ex _ _ e2 LamX.codeO_ne⟩
    · have n1 : h'.objs.size ≠ c' := by omega
      have n2 : h'.objs.size ≠ P := Nat.ne_of_gt (Nat.lt_of_lt_of_le (Heap.lt_size hP') hsz)
      rw [upd_ne n1, upd_ne n2]
      exact I.hok.fresh hsz
end
/-- the parameters: none, or one with a whole number for a default -/
inductive ParD : Arguments → List (Str × Int) → Prop
  | none : ParD { posonlyargs := [], args := [], vararg := .none, kwonlyargs := [], kw_defaults := [], kwarg := .none, defaults := [] } []
  | one {a : Str} {p1 p2 : Pos} {i : Int} {j : Nat} : ParD { posonlyargs := [], args := [{ arg := a, annotation := .none, pos := p1 }], vararg := .none, kwonlyargs := [], kw_defaults := [], kwarg := .none, defaults := [.Constant (.int i) j p2] } [(a, i)]
/-- what the parameters get -/
def parV (l : List (Str × Int)) (tk : Tok) : List (Str × Value) := l.map fun p => (p.1, .int p.2 tk)
/-- the object that holds the defaults, if any -/
def DflAt (h : Heap) (dV : Value) (l : List (Str × Int)) : Prop := match l with
  | [] => dV = .none
  | _ => ∃ (tk : Tok) (dt : Addr) (o : Obj) (n : Nat), dV = .ref dt ∧ h.get? dt = some o ∧ o.data = .seq (l.map fun p => Value.int p.2 tk).toArray n
theorem par_binds {params : Arguments} {l : List (Str × Int)} (h : ParD params l) {name qual : Str} {body : FuncBody} {scope : Scope} {cl : List (Str × Addr)} {dV doc pm cd ct : Value} {s : Shared} (hd : DflAt s.heap dV l) : ∃ tk, BindsTo s (PySem.W.kdv_fn name qual params body scope cl dV doc pm cd ct) ⟨[], []⟩ (parV l tk) := by
  cases h with
  | none =>
    cases (show dV = .none from hd)
    exact ⟨0, .of_eq rfl⟩
  | one =>
    obtain ⟨tk, dt, o, n, e, h1, h2⟩ := hd
    subst e
    refine ⟨tk, BindsTo.of_defaults rfl h1 h2 rfl ?_⟩
    simp [List.lookup, parV]
structure LamN (N : List Str) (sc scope : Scope) (l : List (Str × Int)) : Prop where
  kind : scope.kind = .function
  co : scope.isCoroutine = false
  gen : scope.isGenerator = false
  own : ∀ y ∈ scope.names, y.2 ≠ .cell ∧ (y.2 = .local → y.1 ∉ N)
  free : ∀ y ∈ scope.names, y.2 = .free → sc.names.lookup y.1 = some .cell ∨ sc.names.lookup y.1 = some .free
  par : ∀ p ∈ l, scope.names.lookup p.1 = some .local
def lamNB (N : List Str) (sc scope : Scope) (l : List (Str × Int)) : Bool :=
  (decide (scope.kind = .function) && !scope.isCoroutine && !scope.isGenerator) && ((scope.names.all fun y => !decide (y.2 = .cell) && (!decide (y.2 = .local) || !N.contains y.1) && (!decide (y.2 = .free) || decide (sc.names.lookup y.1 = some .cell) || decide (sc.names.lookup y.1 = some .free))) && l.all fun p => decide (scope.names.lookup p.1 = some .local))
theorem lamN_by {N : List Str} {sc scope : Scope} {l : List (Str × Int)} (h : lamNB N sc scope l = true) : LamN N sc scope l := by
  unfold lamNB at h
  simp only [Bool.and_eq_true, Bool.or_eq_true, Bool.not_eq_true', decide_eq_true_eq, decide_eq_false_iff_not, List.all_eq_true] at h
  obtain ⟨⟨⟨h1, h2⟩, h3⟩, h4, h5⟩ := h
  refine ⟨h1, h2, h3, fun y hy => ⟨(h4 y hy).1.1, fun e hm => ?_⟩, fun y hy e => ?_, h5⟩
  · rcases (h4 y hy).1.2 with z | z
    · exact z e
    · rw [List.contains_iff_mem.mpr hm] at z; cases z
  · rcases (h4 y hy).2 with (z | z) | z
    · exact absurd e z
    · exact .inl z
    · exact .inr z
theorem LamN.has {N : List Str} {X : Cx} {scope : Scope} {l : List (Str × Int)} (L : LamN N X.env.scope scope l) (ok : X.Ok) : ∀ y ∈ scope.names, y.2 = .free → ∃ c, X.env.cells.lookup y.1 = some c := fun y hy e =>
  (L.free y hy e).elim (fun z => ok.has _ (.inl z)) fun z => ok.has _ (.inr z)
section
variable {X : Cx} {pins : List (Addr × Obj)} {σ : L2.St} {H HZ : Hp} {s s1 : Shared}
theorem lam_enter {A : Around} {outer : List PySem.Env} {E : XK} {scope : Scope} {f c' : Addr} {h₁ : Heap} {tk : Nat} {l : List (Str × Int)} {bs : List (Str × Value)} (I : Inv X pins σ H s) (L : LamN X.N X.env.scope scope l) (e0 : Env0 X.prog X.w X.K X.mg X.base A outer s1 HZ) (hd : A.handled = none)
    (un : Un (frs X.stack) [] H HZ s.heap s1.heap) (hns : h₁.Ns s1.heap.objs.size fun y => bs.reverse.lookup y) (kp : ∀ b o, s1.heap.get? b = some o → h₁.get? b = some o) :
    Inv (LamX.lamCx X A outer s1 HZ E scope f c') [] σ HZ { s1 with heap := h₁, toks := tk } := by
  have hfree := L.has I.ok
  have cells : ∀ {y c}, (cloFrom X.env.cells scope.names []).lookup y = some c → X.env.cells.lookup y = some c := fun {y c} e => by
    rcases cloFrom_mem (PySem.mem_of_lookup e) with hm | ⟨h1, h2⟩
    · cases hm
    · obtain ⟨c1, hc⟩ := hfree _ h1 rfl
      have hc : X.env.cells.lookup y = some c1 := hc
      have : c = c1 := by rw [h2, hc] <;> rfl
      rw [this]; exact hc
  have found : ∀ {y}, scope.names.lookup y = some .free → ∃ c, (cloFrom X.env.cells scope.names []).lookup y = some c := fun {y} hl => mem_lookup (cloFrom_has (cells := X.env.cells) (acc := []) (PySem.mem_of_lookup hl))
  have cellK : ∀ {c : Addr} {v : Option Value}, H c = none → s.heap.IsCell c v → h₁.IsCell c v := fun {c v} n ⟨o, ho, hd⟩ => by
    obtain ⟨sl, q⟩ := un.any ho n (by simp)
    exact ⟨_, kp _ _ q, hd⟩
  have noA : ∀ b : Addr, b ∉ (LamX.lamCx X A outer s1 HZ E scope f c').ex := fun b z => (List.not_mem_nil (show b ∈ ([] : List Addr) from z)).elim
  have ok : (LamX.lamCx X A outer s1 HZ E scope f c').Ok := by
    refine ⟨e0.mod, L.kind, rfl, rfl, Nat.le_refl _, fun y z c e1 e2 => I.ok.inj y z c (cells e1) (cells e2), fun y hy => ?_, fun y c z _ => (Bool.false_ne_true (show false = true from z)).elim, fun _ => hd, Around.frames_deeper e0.frames, .inr ⟨rfl, rfl⟩, fun b z => absurd z (noA b), e0.bs, e0.bsz, fun b _ _ => noA b, fun b z => absurd z (noA b), e0.funs, e0.frf⟩
    rcases (show scope.names.lookup y = some .cell ∨ scope.names.lookup y = some .free from hy) with hy | hy
    · exact absurd rfl (L.own _ (PySem.mem_of_lookup hy)).1
    · exact found hy
  refine ⟨ok, rfl, e0.bare, Un.kept kp, ⟨_, hns, fun i y v e1 e2 e3 => ?_⟩, fun y c e => ?_, e0.hok.fresh (Nat.le_refl _), fun y c e => ?_, fun q hq => (List.not_mem_nil (show q ∈ ([] : List (Addr × Obj)) from hq)).elim, e0.hok.kept kp, I.len⟩
  · rcases (show Vis scope y from e3) with k | k | k
    · exact absurd (List.mem_of_getElem? e1) ((L.own _ (PySem.mem_of_lookup k)).2 rfl)
    · exact absurd rfl (L.own _ (PySem.mem_of_lookup k)).1
    · obtain ⟨m, hn, hl⟩ := I.loc
      have outerK := L.free _ (PySem.mem_of_lookup k) rfl
      obtain ⟨w', r, q⟩ := hl i y v e1 e2 (outerK.elim (fun z => .inr (.inl z)) fun z => .inr (.inr z))
      obtain ⟨c2, h2⟩ := found k
      refine ⟨w', r, .inr ⟨.inr k, c2, h2, ?_⟩⟩
      rcases q with ⟨k', _⟩ | ⟨_, c3, e', z⟩
      · rcases outerK with k2 | k2 <;> · have k3 := k2; rw [show X.env.scope.names.lookup y = some .local from k'] at k3; cases k3
      · rw [cells h2] at e'; cases e'
        exact cellK (I.freeC y _ (cells h2)) z
  · obtain ⟨w', z⟩ := I.cell y c (cells e)
    exact ⟨w', cellK (I.freeC y c (cells e)) z⟩
  · obtain ⟨v, o, ho, hd⟩ := I.cell y c (cells e)
    exact un.free c o ho (I.freeC y c (cells e)) (by simp)
end

/-! ### the deed is called -/
def noPhi (φ : Nat → List W → Store → Out W) : Phi := ⟨φ, fun _ _ _ => .bad, fun _ _ _ => .bad, fun _ _ => .bad⟩
def lamF (i : Nat) (fb : SE) : SE := fun Φ env st => Φ.lam i (fun φ st' => fb (noPhi φ) env st') st
section
variable {G : Glb} {B : Bk} {k : Nat} {N : List Str} {sc : Scope} {Φ : Phi} {Wx : WX} {X : Cx} {pins : List (Addr × Obj)} {σ : L2.St} {H : Hp} {s : Shared}
theorem deed_ok (g : GX G B Φ k N Wx sc X) {k2 : Nat} {Φ2 : Phi} {a fo c' : Addr} {params : Arguments} {body : Expr} {scope : Scope} {l : List (Str × Int)} {dV doc pm ctv : Value} {fb : SE} {E : XK} {ρ : List Addr} {env : Env} (hk : k = k2 + 2) (g2 : GK0 G B Φ2 k2 X.prog X.w X.mg X.base) (I : Inv X pins σ H s) (L : LamN N sc scope l) (hp : ParD params l)
    (hf : s.heap.get? fo = some (lamO (X.env.qual ++ ("<lambda>" : Str)) params body scope (cloFrom X.env.cells scope.names []) dV doc pm c' ctv)) (hfn : H fo = none) (hfr : fo ∉ frs X.stack) (hco : H c' = some (LamX.CodeO c' (X.env.qual ++ ("<lambda>" : Str)))) (hdv : ∀ (H' : Hp) (s' : Shared), HOk X.prog X.w H' s'.heap → Kp0 H H' → DflAt s'.heap dV l)
    (he : EnvR B ρ H σ env) (hb : Snd (noMk G) B k2 N scope body fb) : DeedOk B X.prog X.w X.mg X.base X.A X.stack s H E a fo ρ (fun st' => fb (noPhi Φ2.fn) env st') := by
  intro Ng qual sg cdg pn xe W x i p1 p2 tk' hN hv hd hcd
  refine ⟨fun pinsZ sZ σZ HZ Q IZ ⟨hs, ρ', st', hr, kp, hst, q⟩ => ?_⟩
  refine wpAny_Call_Name_kw (thn ((pe_var (pos := p1) (i := i) hN hv hd hcd).run pinsZ sZ σZ HZ (fun v H1 => v = .ref fo ∧ H1 = HZ) IZ ⟨.ref fo, hs, rfl, rfl⟩) fun u s1 ⟨v, H1, I1, r1, e1, e2⟩ => ?_)
  subst e1 e2
  obtain rfl : u = Value.ref fo := r1
  have of1 := I1.base.keep fo _ hf hfn hfr fun z => (List.not_mem_nil z).elim
  refine PySem.W.callWith_F0 ⟨_, _, _, _, of1⟩ ?_
  have un : Un (frs X.stack) [] H H1 s.heap s1.heap := I1.base
  obtain ⟨⟨oc, vs, t, hoc, hdc, hvc⟩, _, _⟩ := I1.hok c' _ (kp _ _ hco trivial)
  obtain ⟨tk, hdf⟩ := par_binds hp (hdv H1 s1 I1.hok kp)
  have rm : Room (k2 + 3) (X.A.deeper (envOfC qual sg s.heap.objs.size a cdg)) := by have := g.room2; rw [hk] at this; exact this.deeper _
  have e0 : Env0 X.prog X.w X.K X.mg X.base (X.A.deeper (envOfC qual sg s.heap.objs.size a cdg)) (envOfC qual sg s.heap.objs.size a cdg :: X.stack) s1 H1 := by rw [g.K]; exact I1.env0
  let E2 : XK := fun c d H' => W c d σZ H'
  have L' : LamN X.N X.env.scope scope l := by rw [g.N, g.sc]; exact L
  have rc : codeAny (model X.prog X.w) (X.A.deeper (envOfC qual sg s.heap.objs.size a cdg)) (.call (.ref fo) ⟨[], []⟩) (CR (L2.CX X.prog X.w) (envOfC qual sg s.heap.objs.size a cdg :: X.stack) X.prog X.w H1 s1 Q E2) s1 := by
    refine PySem.W.kla_callFunE (fd := PySem.W.kdv_fn _ _ _ _ _ _ _ _ _ _ _) rm.depth of1 rfl L.co L.gen rfl ⟨c', oc, vs, t, rfl, hoc, hdc, hvc⟩ ?_
    refine hdf _ _ _ _ (wpAny_newFunctionEnv (fun y hy => (L.own y hy).1) (fun y hy => ?_) (fun h₁ hns hsb => ⟨I1.nolimit.fresh _ hsb, ?_⟩) L.kind)
    · obtain ⟨p, hp', e⟩ := List.mem_map.mp hy
      rw [← e]; exact L.par p hp'
    show codeAny _ _ (.expr body (LamX.lamEnv X scope s1.heap.objs.size fo c')) _ _
    have keep : ∀ b o, s1.heap.get? b = some o → h₁.get? b = some o := fun b o e => hsb.extBut b o (Nat.ne_of_lt (Heap.lt_size e)) (Heap.get?_push_of_some _ e)
    have J : Inv (LamX.lamCx X (X.A.deeper (envOfC qual sg s.heap.objs.size a cdg)) (envOfC qual sg s.heap.objs.size a cdg :: X.stack) s1 H1 E2 scope fo c') [] σ H1 { s1 with heap := h₁, toks := s1.toks + (parV l tk).length } := lam_enter I L' e0 rm.hd un hns keep
    have g3 : GX (noMk G) B (noPhi Φ2.fn) k2 N (fun c d _ H' => E2 c d H') scope (LamX.lamCx X (X.A.deeper (envOfC qual sg s.heap.objs.size a cdg)) (envOfC qual sg s.heap.objs.size a cdg :: X.stack) s1 H1 E2 scope fo c') :=
      ⟨g.K, g.N, g.nd, rfl, rfl, rm.deeper _, deeper_guards (deeper_guards g.gd), takes_of rfl rfl rfl rfl, .ofBad (g2.cv rfl rfl rfl fun _ _ h => h) rfl, fun z => (List.not_mem_nil (show X.N ∈ ([] : List (List Str)) from z)).elim⟩
    refine PySem.W.kla_codeExpr (wpAny_mono ((hb.pe _ _ _ g3).run [] _ _ H1 Q J ⟨ρ', env, st', he.mono0 hr kp, hst, q⟩) (fun v s' hq => ?_) fun e s' hq => hq)
    obtain ⟨w', H', J', rv, q⟩ := hq
    exact ⟨w', H', J'.os, J'.bare, J'.base, J'.hok, rv, q⟩
  refine wpAny_call (codeAny_mono rc fun r s' hq => ?_)
  cases r with
  | error e => exact tk' _ _ (XE.of_call I1 (fun _ _ _ h => h) hq)
  | ok fl =>
    cases fl with
    | ret u => exact I1.after hq
    | next => exact False.elim hq
    | brk => exact False.elim hq
    | cont => exact False.elim hq
end

theorem StR.extN {B : Bk} {ρ : List Addr} {H H' : Hp} {st : Store} (h : StR B ρ H st) (e : LamX.ExtN H H') (t : LamX.Tabs B.T H') : StR B ρ H' st := by
  have kp : Kp H H' := fun b o e1 e2 => e b o e1 fun ps z => by subst z; exact e2
  refine h.grow kp (fun a ha => ?_) t
  obtain ⟨i, hi, ei⟩ := List.getElem_of_mem ha
  obtain ⟨o, _, ho⟩ := h.getA (i := i) (a := a) (by simp [hi, ei])
  obtain ⟨u, hu⟩ := ho.some
  rw [hu, e a u hu fun ps z => by subst z; exact objR_ntbl ho ps hu]
theorem ExtN.kp {H H' : Hp} (e : LamX.ExtN H H') : Kp H H' := fun b o e1 e2 => e b o e1 fun ps z => by subst z; exact e2
/-- x(lambda: e) -/
structure LamOk (G : Glb) (N : List Str) (sc scope : Scope) (x : Str) (i : Nat) (f : FnI) (c : Shape) (params : Arguments) (l : List (Str × Int)) : Prop where
  call : CallOk G sc x i f c
  npos : c.npos = 1
  ks : c.ks = []
  src : c.src = [0]
  mkr : N ∈ G.mks
  lam : LamN N sc scope l
  par : ParD params l
section
variable {G : Glb} {B : Bk} {k : Nat} {N : List Str} {sc : Scope}
theorem snd_lam {x : Str} {i : Nat} {f : FnI} {c : Shape} {params : Arguments} {l : List (Str × Int)} {body : Expr} {scope : Scope} {p lpos pos : Pos} {fb : SE} (ok : LamOk G N sc scope x i f c params l) (hb : ∀ k2, Snd (noMk G) B k2 N scope body fb) :
    Snd G B k N sc (.Call (.Name x p) [.Lambda params body scope lpos] [] pos) (lamF i fb) := by
  refine ⟨fun Φ Wx X g => ⟨fun pins s σ H Q I ⟨ρ, env, st, he, hs, q⟩ => ?_⟩⟩
  obtain ⟨a, fd, hm, hkp, LG, hsh⟩ := g.gk.lam i f ok.call.hi
  obtain ⟨cc, P, hcode, tb, hmem, huniq⟩ := g.lm (by rw [g.N]; exact ok.mkr)
  have hm : X.mg x = some (.ref a) := by rw [← ok.call.hx]; exact hm
  have L : LamN X.N X.env.scope scope l := by rw [g.N, g.sc]; exact ok.lam
  have hl : f.ps.length = 1 := by rw [← ok.call.hl, ok.src]; rfl
  have bind : ∀ (s' : Shared) (fo : Addr), B.K.In s'.heap → BindsTo s' fd ⟨[.ref fo], []⟩ (f.ps.zip [.ref fo]) := fun s' fo hk => by
    have z := hsh c ok.call.hc ok.call.hcf s' [.ref fo] [] hk (by rw [ok.npos]; rfl) (by rw [ok.ks]; rfl)
    rw [ok.ks, ok.src] at z
    exact z
  refine wpAny_Call_Name_kw (ld_glob I (glbB_ok (by rw [g.sc]; exact ok.call.hg)) hm ?_ (notDbg1 ok.call.hd))
  refine PySem.W.callWith_K (h₀ := X.base) I.ok.mod.kin (by rw [g.K]; exact hkp) ?_ (by rfl) (by rfl)
  show wpAny _ _ (spliced ((false, eval (.Lambda params body scope lpos) X.env) :: backTo pos (starEach [] X.env))) _ _ s
  -- the lambda has been made
  have done : ∀ (fo c' : Addr) (dV doc pm ctv : Value) (H1 : Hp) (s' : Shared), Inv X pins σ H1 s' → Kp H H1 → StR B ρ H1 st → s'.heap.get? fo = some (lamO (X.env.qual ++ ("<lambda>" : Str)) params body scope (cloFrom X.env.cells scope.names []) dV doc pm c' ctv) → H1 fo = none → fo ∉ frs X.stack → H1 c' = some (LamX.CodeO c' (X.env.qual ++ ("<lambda>" : Str))) →
      (∀ (H' : Hp) (s' : Shared), HOk X.prog X.w H' s'.heap → Kp0 H1 H' → DflAt s'.heap dV l) → wpAny (model X.prog X.w) X.A (call (.ref a) [.ref fo] []) (EP X pins σ Q) X.xe s' := fun fo c' dV doc pm ctv H1 s' I1 kp hs1 hf hfn hfr hco hdv => by
    have kin : B.K.In s'.heap := by rw [← g.K]; exact I1.kIn
    have e0 : Env0 X.prog X.w B.K X.mg X.base X.A X.stack s' H1 := by rw [← g.K]; exact I1.env0
    refine wpAny_call (codeAny_mono (LG X.A X.stack s' H1 fo Q (fun cl d H' => Wx cl d σ H') ρ st (fun φ st' => fb (noPhi φ) env st') g.room2 g.gd e0 (bind s' fo kin) hl hs1
      (fun Φ2 k2 hk g2 => deed_ok g hk g2 I1 ok.lam ok.par hf hfn hfr hco hdv (he.mono (List.prefix_refl _) kp) (hb k2)) (Post.mono q (List.prefix_refl _) kp)) fun r s2 hq => ?_)
    cases r with
    | error e => exact g.tk _ _ (XE.of_call I1 (fun _ _ _ h => h) hq)
    | ok fl =>
      cases fl with
      | ret u => exact I1.after hq
      | next => exact False.elim hq
      | brk => exact False.elim hq
      | cont => exact False.elim hq
  cases hpar : ok.par with
  | none =>
    refine Calls.spliced_cons (PySem.W.kla_eval rfl ?_)
    rw [makeFunction_eq]
    simp only [List.zip_nil_right, List.filterMap_nil, List.isEmpty_nil, if_true, pure_bind]
    refine tail_made I tb hcode hmem huniq hs.tb (L.has I.ok) fun fo c' doc pm ctv H1 s' I1 ex T1 hf hfn hfr hco => ?_
    exact Calls.spliced_nil ⟨I1.kIn, done fo c' _ doc pm ctv H1 s' I1 (ExtN.kp ex) (hs.extN ex T1) hf hfn hfr hco fun _ _ _ _ => rfl⟩
  | @one a0 p1 p2 i0 j =>
    refine Calls.spliced_cons (PySem.W.kdv_lam rfl rfl (PySem.W.kdv_all1 ?_))
    refine thn ((pe_int (X := X) (i := i0) (j := j) (pos := p2)).run pins s σ H (fun v H1 => v = .int i0 ∧ H1 = H) I ⟨rfl, rfl⟩) fun u s1 ⟨v, H1, I1, r1, e1, e2⟩ => ?_
    subst e1 e2
    obtain ⟨tk, rfl⟩ := r1
    refine PySem.W.kdv_all0 ?_
    rw [makeFunction_eq]
    simp only [List.zip_nil_right, List.filterMap_nil, List.isEmpty_nil, List.isEmpty_cons, Bool.false_eq_true, if_false, if_true, pure_bind]
    refine wpAny_bind (wpAny_newTextTuple ?_)
    have nf : H1 s1.heap.objs.size = none := I1.hok.fresh (Nat.le_refl _)
    have I2 := I1.laid (a := s1.heap.objs.size) (o := .tup [.int i0]) (h' := s1.heap.push { cls := .type "tuple", data := .seq [Value.int i0 tk].toArray }) (t' := s1.toks) (fun b u e => Heap.get?_push_of_some _ e) (Nat.le_refl _) ⟨show 1 ≤ sizeLine by rw [sizeLine_eq]; decide, [.int i0 tk], .cons ⟨tk, rfl⟩ .nil, ⟨_, Heap.get?_push_size _ rfl, rfl, _, rfl⟩⟩
    have kp0 : Kp H1 (upd H1 s1.heap.objs.size (.tup [.int i0])) := .new nf
    refine tail_made I2 tb hcode hmem huniq (tabs_new hs.tb nf) (L.has I.ok) fun fo c' doc pm ctv H2 s' I3 ex T1 hf hfn hfr hco => ?_
    refine Calls.spliced_nil ⟨I3.kIn, done fo c' _ doc pm ctv H2 s' I3 (kp0.trans (ExtN.kp ex)) ((hs.new nf).extN ex T1) hf hfn hfr hco fun H' s3 hok kp => ?_⟩
    have e2 := kp _ _ (ExtN.kp ex _ _ (upd_same (a := s1.heap.objs.size)) trivial) trivial
    obtain ⟨_, its, rv, ⟨oc, od, dt, sl⟩, h1, h2, n, h3⟩ := (show ObjOk X.prog X.w H' s3.heap s1.heap.objs.size (.tup [.int i0]) from hok _ _ e2)
    cases rv with
    | cons r0 r1 =>
      cases r1
      obtain ⟨t0, rfl⟩ := r0
      exact ⟨t0, _, _, n, rfl, h1, h3⟩
end
end Zf
/-! a list that never changes from now on -/
namespace Zf
open PySem L2
open PyProof.Rows hiding St

/-- the new list may be kept as a value: it tells of no new object, nor do the old ones -/
def FrzOk (st : Store) (n : Nat) (ws : List W) (st1 : Store) : Prop := st.length ≤ n ∧ refsLtL st.length ws = true ∧ ∀ (i : Nat) (o : SO), i < st.length → st1[i]? = some o → st[i]? = some o ∨ refsLtO st.length o = true
/-- .. or what was made before it stays -/
def FrzOk2 (st : Store) (n : Nat) (ws : List W) (st1 : Store) : Prop := st.length ≤ n ∧ refsLtL n ws = true ∧ ∀ (i : Nat) (o : SO), i < n → st1[i]? = some o → st[i]? = some o ∨ refsLtO n o = true
open Classical in
noncomputable def frzO (st : Store) (o : Out W) : Out W := match o with
  | .ok (.ref n) st1 => match st1[n]? with
    | some (.lst ws) => if FrzOk st n ws st1 then .ok (.klst ws) (st1.take st.length) else if FrzOk2 st n ws st1 then .ok (.klst ws) (st1.take n) else .ok (.ref n) st1
    | _ => .ok (.ref n) st1
  | o => o
noncomputable def frzF (a : SE) : SE := fun Φ env st => frzO st (a Φ env st)
mutual
theorem refsLt_mono {n m : Nat} (h : n ≤ m) : ∀ w : W, refsLt n w = true → refsLt m w = true
  | .non, _ => rfl
  | .bl _, _ => rfl
  | .int _, _ => rfl
  | .str _, _ => rfl
  | .tup ws, q => by simp only [refsLt] at *; exact refsLtL_mono h ws q
  | .klst ws, q => by simp only [refsLt] at *; exact refsLtL_mono h ws q
  | .ref i, q => by simp only [refsLt, decide_eq_true_eq] at *; omega
  | .exc _ w, q => by simp only [refsLt] at *; exact refsLt_mono h w q
  | .clo _, _ => rfl
theorem refsLtL_mono {n m : Nat} (h : n ≤ m) : ∀ ws : List W, refsLtL n ws = true → refsLtL m ws = true
  | [], _ => rfl
  | w :: ws, q => by
    simp only [refsLtL, Bool.and_eq_true] at *
    exact ⟨refsLt_mono h w q.1, refsLtL_mono h ws q.2⟩
end
theorem refsLtO_mono {n m : Nat} (h : n ≤ m) (o : SO) (q : refsLtO n o = true) : refsLtO m o = true := by
  cases o <;> exact refsLtL_mono h _ q
/-- what is wanted of what is kept -/
def FrzQ (Q : VK) : VK := fun v H => Q v H ∨ ∃ p u, v = .ref p ∧ H p = some u ∧ Mut (some u) ∧ ∀ od, Q v (upd H p (.frz od u))
theorem prefix_take {α : Type} {l l' : List α} {n : Nat} (h : l <+: l') (hn : l.length ≤ n) : l <+: l'.take n := by
  obtain ⟨t, rfl⟩ := h
  rw [List.take_append, List.take_of_length_le hn]
  exact List.prefix_append _ _
theorem frz_step {B : Bk} {ρ1 ρ' : List Addr} {H' : Hp} {st1 : Store} {n m : Nat} {a : Addr} {vs : List V} {od : Obj} {ws : List W} (hρ : ρ1 = ρ'.take m) (hm : m ≤ n) (ea : ρ'[n]? = some a) (hl : H' a = some (.lst vs)) (hs' : StR B ρ' H' st1) (hws : RWs B ρ' H' vs ws) (hw : refsLtL m ws = true)
    (ho : ∀ (i : Nat) (o : SO), i < m → st1[i]? = some o → ∀ b, ρ1[i]? = some b → ObjR B ρ1 H' b o) (hd : B.D ρ1 H') (hml : m ≤ ρ'.length) : Kp H' (upd H' a (.frz od (.lst vs))) ∧ StR B ρ1 (upd H' a (.frz od (.lst vs))) (st1.take m) ∧ RW B ρ1 (upd H' a (.frz od (.lst vs))) (.ref a) (.klst ws) := by
  have kp : Kp H' (upd H' a (.frz od (.lst vs))) := .wr hl id
  have pre : ρ1 <+: ρ' := by rw [hρ]; exact List.take_prefix _ _
  have len1 : ρ1.length = m := by rw [hρ, List.length_take]; omega
  have lenS := hs'.len
  refine ⟨kp, ⟨by rw [len1, List.length_take]; omega, by rw [hρ]; exact hs'.nd.sublist (List.take_sublist _ _), fun i b o e1 e2 => ?_, tabs_wr hs'.tb hl (fun ps z => by cases z) id, B.Dm _ _ _ _ (List.prefix_refl _) kp.to0 hd⟩, .klst (.inl ⟨od, upd_same⟩) ((hws.down pre (by rw [len1]; exact hw)).mono (List.prefix_refl _) kp)⟩
  have hi : i < m := by rw [← len1]; exact (List.getElem?_eq_some_iff.mp e1).1
  rw [List.getElem?_take_of_lt hi] at e2
  refine (ho i o hi e2 b e1).mono (List.prefix_refl _) kp ?_
  rw [upd_ne]
  rintro rfl
  have e3 := getElem?_prefix pre e1
  obtain ⟨p1, q1⟩ := List.getElem?_eq_some_iff.mp e3
  obtain ⟨p2, q2⟩ := List.getElem?_eq_some_iff.mp ea
  have := (List.getElem_inj hs'.nd).mp (q1.trans q2.symm)
  omega
theorem post_frz {B : Bk} {Wx : Value → Option Addr → Hp → Prop} {ρ : List Addr} {H : Hp} {st : Store} {o : Out W} {Q : VK} (hs : StR B ρ H st) (q : PostE B Wx ρ H (frzO st o) Q) : PostE B Wx ρ H o (FrzQ Q) := by
  have plain : ∀ {o : Out W}, PostE B Wx ρ H o Q → PostE B Wx ρ H o (FrzQ Q) := fun {o} q => by
    cases o with
    | ok w st' => exact fun ρ' H' v a b c d => .inl (q ρ' H' v a b c d)
    | er x st' => exact q
    | bad => exact q
  unfold frzO at q
  split at q
  · rename_i n st1
    split at q
    · rename_i ws en
      split at q
      · rename_i c
        obtain ⟨c1, c2, c3⟩ := c
        intro ρ' H' v hr kp hs' r
        cases r with
        | @ref a _ ea =>
          obtain ⟨vs, h1, h2⟩ := hs'.at_ n a _ ea en
          refine .inr ⟨a, _, rfl, h1, trivial, fun od => ?_⟩
          have hl := hs.len
          have pre : ρ = ρ'.take st.length := by rw [← hl]; exact (List.prefix_iff_eq_take.mp hr)
          have hn := (List.getElem?_eq_some_iff.mp ea).1
          obtain ⟨k1, k2, k3⟩ := frz_step (od := od) pre c1 ea h1 hs' h2 c2 (fun i o hi e b eb => (hs'.at_ i b o (getElem?_prefix hr eb) e).down hr (by
            rw [hl]
            rcases c3 i o hi e with z | z
            · obtain ⟨a', _, h'⟩ := hs.get z
              have := h'.lt
              rw [hl] at this
              exact this
            · exact z)) (B.Dm _ _ _ _ (List.prefix_refl _) kp.to0 hs.dd) (by omega)
          exact q ρ _ _ (List.prefix_refl _) (kp.trans k1) k2 k3
      · split at q
        · rename_i c
          obtain ⟨c1, c2, c3⟩ := c
          intro ρ' H' v hr kp hs' r
          cases r with
          | @ref a _ ea =>
            obtain ⟨vs, h1, h2⟩ := hs'.at_ n a _ ea en
            refine .inr ⟨a, _, rfl, h1, trivial, fun od => ?_⟩
            have hl := hs.len
            have hn := (List.getElem?_eq_some_iff.mp ea).1
            have pre2 : ρ <+: ρ'.take n := prefix_take hr (by omega)
            have len2 : (ρ'.take n).length = n := by rw [List.length_take]; omega
            obtain ⟨k1, k2, k3⟩ := frz_step (od := od) rfl (Nat.le_refl n) ea h1 hs' h2 c2 (fun i o hi e b eb => (hs'.at_ i b o (getElem?_prefix (List.take_prefix _ _) eb) e).down (List.take_prefix _ _) (by
              rw [len2]
              rcases c3 i o hi e with z | z
              · obtain ⟨a', _, h'⟩ := hs.get z
                exact refsLtO_mono (by omega) o h'.lt
              · exact z)) (B.Dm _ _ _ _ pre2 kp.to0 hs.dd) (by omega)
            exact q _ _ _ pre2 (kp.trans k1) k2 k3
        · exact plain q
    · exact plain q
  · exact plain q
theorem pe_frz {X : Cx} {e : Expr} {t : TE} (h : PE X e t) : PE X e (fun σ H Q => t σ H (FrzQ Q)) := by
  refine ⟨fun pins s σ H Q I q => wpAny_mono (h.run pins s σ H (FrzQ Q) I q) (fun u s' hq => ?_) fun _ _ hq => hq⟩
  obtain ⟨v, H', I', r, q⟩ := hq
  rcases q with q | ⟨p, u', ev, h1, mu, q⟩
  · exact ⟨v, H', I', r, q⟩
  · obtain ⟨od, I2⟩ := I'.lock h1 mu
    exact ⟨v, _, I2, r, q od⟩
theorem ps_frz {X : Cx} {e : Stmt} {t : TS} {i : Nat} (h : PS X e t) : PS X e (fun D σ H => t { D with nx := fun σ' H' => D.nx σ' H' ∨ ∃ p u, H' p = some u ∧ Mut (some u) ∧ ∀ od, D.nx σ' (upd H' p (.frz od u)) } σ H) := by
  refine ⟨fun pins s σ H D I q => wpAny_mono (h.run pins s σ H _ I q) (fun fl s' hq => ?_) fun _ _ hq => hq⟩
  cases fl with
  | next =>
    obtain ⟨σ', H', I', q⟩ := hq
    rcases q with q | ⟨p, u', h1, mu, q⟩
    · exact ⟨σ', H', I', q⟩
    · obtain ⟨od, I2⟩ := I'.lock h1 mu
      exact ⟨σ', _, I2, q od⟩
  | brk => exact hq
  | cont => exact hq
  | ret u => exact hq
section
variable {G : Glb} {B : Bk} {k : Nat} {N : List Str} {sc : Scope}
theorem snd_frz {e : Expr} {fa : SE} (ha : Snd G B k N sc e fa) : Snd G B k N sc e (frzF fa) :=
  ⟨fun Φ Wx X g => PE.imp (pe_frz (ha.pe Φ Wx X g)) fun σ H Q ⟨ρ, env, st, he, hs, q⟩ => ⟨ρ, env, st, he, hs, post_frz hs q⟩⟩
/-- name = [..], the name stored by the comprehension itself, and the list kept -/
theorem sndS_asgLcF {i : Nat} {y : Str} {py : Pos} {elt tg iter : Expr} {ifs : List Expr} {scope : Scope} {ow : List (Str × Nat)} {pos spos : Pos} {fi : SI} {ft : TF} {fc : ST} {fe : SE} (hy : N[i]? = some y) (hl : sc.names.lookup y = some .local)
    (hw : swB (.Name y py) (.ListComp elt [⟨tg, iter, ifs, 0⟩] scope pos) sc = true) (h : LcOk G B k N sc scope ow elt tg iter ifs fi ft fc fe) :
    SndS G B k N sc (.Assign [.Name y py] (.ListComp elt [⟨tg, iter, ifs, 0⟩] scope pos) spos) (asgS (frzF (lcF (ow.map (·.2)) fi ft fc fe)) (nameT i)) := by
  refine ⟨fun Φ Wx X g => ?_⟩
  obtain ⟨wi, h1, h2⟩ := h.hi.pi Φ Wx X g.g
  obtain ⟨tg', t1, t2⟩ := h.ht.ex
  refine PS.imp (ps_frz (i := i) (ps_setLc (tt := tB B (fun _ _ _ _ => False) (fc Φ)) (te := tE B (fun _ _ _ _ => False) (fe Φ)) g.g.calm g.g.nd (by rw [g.g.N]; exact hy) (by rw [g.g.sc]; exact hl) (by rw [sw_eq g.g.sc g.kf, hw]) h1 (by rw [g.g.N, g.g.sc]; exact blkB_ok h.hb) (fun s H C cl fp => let b := g.g.blk s H scope C cl fp; t1 _ b.K b.N b.nd b.sc b.calm)
    (fun s H C cl fp => h.hc.pts Φ _ _ (g.g.blk s H scope C cl fp)) (fun s H C cl fp => h.he.pe Φ _ _ (g.g.blk s H scope C cl fp)) (fun x => h.hi.nf _ x))) fun D σ H ⟨ρ, env, st, he, hs, q⟩ => ?_
  have q2 : tE B Wx (frzF (lcF (ow.map (·.2)) fi ft fc fe) Φ) σ H (fun v H1 => D.nx (σ.set i (some v)) H1) := tX_imp (tX_toS he hs q) fun v H1 ⟨ρ1, st1, w, a1, a2, he1, hs1, r1, q1⟩ => q1 ρ1 H1 _ (List.prefix_refl _) (.refl _) (he1.set i r1) hs1
  obtain ⟨ρ, env, st, he, hs, q2⟩ := q2
  refine lc_of h2 t2 (tX_imp (R := fun ρ H v w => RW B ρ H v w) ⟨ρ, env, st, he, hs, post_frz hs q2⟩ fun v H1 q3 => ?_)
  rcases q3 with q3 | ⟨p, u, ev, h3, mu, q3⟩
  · exact .inl q3
  · exact .inr ⟨p, u, h3, mu, q3⟩
end
/-! ### reckoning -/
section
variable {st : Store}
@[simp] theorem frzF_ (a : SE) (Φ : Phi) (env : Env) (st : Store) : frzF a Φ env st = frzO st (a Φ env st) := rfl
theorem frzO_new {ws : List W} {g : Store} (h : refsLtL st.length ws = true) : frzO st (.ok (.ref st.length) (st ++ .lst ws :: g)) = .ok (.klst ws) st := by
  unfold frzO
  have e : (st ++ .lst ws :: g)[st.length]? = some (SO.lst ws) := by rw [List.getElem?_append_right (Nat.le_refl _), Nat.sub_self]; rfl
  simp only [e]
  rw [if_pos ⟨Nat.le_refl _, h, fun i o hi z => .inl (by rwa [List.getElem?_append_left hi] at z)⟩, List.take_left]
theorem frzO_new' {ws : List W} {n : Nat} {g : Store} (hn : n = st.length) (h : refsLtL 0 ws = true) : frzO st (.ok (.ref n) (st ++ .lst ws :: g)) = .ok (.klst ws) st := by
  subst hn
  exact frzO_new (refsLtL_mono (Nat.zero_le _) ws h)
theorem frzO_new2 {ws : List W} {n : Nat} {g : Store} (hn : n = (st ++ g).length) (h0 : refsLtL st.length ws = false) (h : refsLtL n ws = true) (hg : ∀ o ∈ g, refsLtO n o = true) : frzO st (.ok (.ref n) (st ++ (g ++ [.lst ws]))) = .ok (.klst ws) (st ++ g) := by
  subst hn
  unfold frzO
  have e : (st ++ (g ++ [.lst ws]))[(st ++ g).length]? = some (SO.lst ws) := by rw [← List.append_assoc]; simp
  simp only [e]
  have c : FrzOk2 st (st ++ g).length ws (st ++ (g ++ [.lst ws])) := by
    refine ⟨by simp, h, fun i o hi z => ?_⟩
    rw [← List.append_assoc, List.getElem?_append_left hi] at z
    by_cases hl : i < st.length
    · rw [List.getElem?_append_left hl] at z; exact .inl z
    · rw [List.getElem?_append_right (by omega)] at z
      exact .inr (hg o (List.mem_of_getElem? z))
  rw [if_neg (fun c => by rw [c.2.1] at h0; cases h0), if_pos c, ← List.append_assoc, List.take_left]
end
end Zf
/-! raise C(e) -/
namespace Zf
open PySem L2
open PyProof.Rows hiding St

def raiseS (c : Nat) (a : SE) : SS := fun Φ env st => (a Φ env st).toS env fun w st1 => .er (.exc c w) env st1
theorem sndS_raise {G : Glb} {B : Bk} {k : Nat} {N : List Str} {sc : Scope} {x : Str} {c : Nat} {e : Expr} {p pos pos' : Pos} {fa : SE} (hx : glbB sc x = true ∧ notDbg x = true ∧ G.excs[c]? = some x) (hr : c ∈ G.rz) (hn : noStar e = true) (ha : Snd G B k N sc e fa) :
    SndS G B k N sc (.Raise (some (.Call (.Name x p) [e] [] pos)) none pos') (raiseS c fa) := by
  refine ⟨fun Φ Wx X g => ?_⟩
  obtain ⟨C, f, e1, M⟩ := g.g.gk.rz c hr
  obtain ⟨fI, fd, ps, m1, m2, F1, hb⟩ := M.ini
  obtain ⟨C', f', e1', e2⟩ := g.g.gk.cn c x hx.2.2
  rw [e1] at e1'
  cases e1'
  have K := g.g.K
  refine PS.imp (ps_raise g.g.calm g.g.tk (pmk_oex (CX := L2.CX X.prog X.w) (k := 1) (ds := []) (dvs := []) (sp := spInit X.K C f) (by rw [K]; exact M.ox) (by rw [K]; exact m1) (by rw [K]; exact m2) (by rw [K]; exact F1) (g.g.room2.mono (by omega)) (by rw [K]; exact hb) .nil
    (fun _ _ _ _ _ _ _ ⟨_, _, _, _, _, _, _, _, _, _, _, _, z⟩ => z.elim) (glbB_ok (by rw [g.g.sc]; exact hx.1)) e2 (pa_cons (ha.pe Φ Wx X g.g) pa_nil (noStar_ok hn _ _)) (notDbg1 hx.2.1) (noStar_ok hn _ _) rfl)) fun D σ H ⟨ρ, env, st, he, hs, q⟩ => ?_
  refine tX_imp (tX_toS he hs q) fun v H1 ⟨ρ1, st1, w, a1, a2, he1, hs1, r1, q1⟩ => ?_
  refine ⟨by show (1 : Nat) ≤ 1000; decide, fun a na => ⟨a, v, rfl, by rw [K]; exact M.ox, by rw [K]; exact M.no, upd_same, fun dx n ne => ?_⟩⟩
  have n1 : H1 dx = none := by rw [upd_ne ne] at n; exact n
  refine ⟨rfl, dx, [(f, v)], upd_same, by rw [upd_ne ne, upd_same], n1, ?_⟩
  have eH : upd (del (upd (upd (upd H1 a (exo a C none)) dx (exd dx [(f, v)])) a (exo a C (some dx))) a) dx (.xd [(f, v)]) = upd H1 dx (.xd [(f, v)]) := by
    funext b
    by_cases hb : b = dx
    · rw [hb, upd_same, upd_same]
    · rw [upd_ne hb, upd_ne hb]
      by_cases hba : b = a
      · rw [hba, del_same, na]
      · rw [del_ne hba, upd_ne hba, upd_ne hb, upd_ne hba]
  rw [eH]
  exact q1 ρ1 _ _ _ _ (List.prefix_refl _) (.new n1) (he1.mono (List.prefix_refl _) (.new n1)) (hs1.new n1) ⟨c, C, f, w, dx, v, rfl, e1, rfl, rfl, upd_same, r1.mono (List.prefix_refl _) (.new n1)⟩
end Zf
/-! f-strings -/
namespace Zf
open PySem L2
open PyProof.Rows hiding St

def fmtW : W → Option W
  | .str y => if y.length ≤ slBound then some (.str y) else none
  | .int i => if i.natAbs.log2 < 1920 then some (.str (toString i)) else none
  | _ => none
/-- {x} -/
def fmtF (a : SE) : SE := fun Φ env st => (a Φ env st).bind fun w st1 => match fmtW w with
  | some u => .ok u st1
  | none => .bad
def jsF : List SE → Str → Phi → Env → Store → Out Str
  | [], acc, _, _, st => .ok acc st
  | a :: r, acc, Φ, env, st => (a Φ env st).bind fun w st1 => match w with
    | .str y => if (acc ++ y).length ≤ slBound then jsF r (acc ++ y) Φ env st1 else .bad
    | _ => .bad
def joinedF (l : List SE) : SE := fun Φ env st => (jsF l Str.empty Φ env st).bind fun s st1 => .ok (.str s) st1
section
variable {G : Glb} {B : Bk} {k : Nat} {N : List Str} {sc : Scope}
theorem snd_fmt {e : Expr} {pos : Pos} {fa : SE} (ha : Snd G B k N sc e fa) : Snd G B k N sc (.FormattedValue e (-1) none pos) (fmtF fa) := by
  refine ⟨fun Φ Wx X g => PE.imp (pe_fmt (ha.pe Φ Wx X g)) fun σ H Q ⟨ρ, env, st, he, hs, q⟩ => ?_⟩
  refine tX_imp (tX_bind he hs q) fun v H1 ⟨ρ1, st1, w, a1, a2, he1, hs1, r1, q1⟩ => ?_
  cases r1 with
  | str y =>
    simp only [fmtW] at q1
    split at q1
    · rename_i u e
      split at e
      · rename_i hl
        cases e
        exact .inl ⟨y, rfl, by rw [← slBound_eq]; exact hl, post_here q1 hs1 (.str _)⟩
      · cases e
    · exact q1.elim
  | int i =>
    simp only [fmtW] at q1
    split at q1
    · rename_i u e
      split at e
      · rename_i hl
        cases e
        exact .inr ⟨i, rfl, hl, post_here q1 hs1 (.str _)⟩
      · cases e
    · exact q1.elim
  | _ => exact q1.elim
inductive SndPJ (G : Glb) (B : Bk) (k : Nat) (N : List Str) (sc : Scope) : List Expr → List SE → Prop
  | nil : SndPJ G B k N sc [] []
  | cons {e : Expr} {F : SE} {es : List Expr} {Fs : List SE} (h : Snd G B k N sc e F) (r : SndPJ G B k N sc es Fs) : SndPJ G B k N sc (e :: es) (F :: Fs)
theorem js_ok {Φ : Phi} {Wx : WX} {X : Cx} (g : GX G B Φ k N Wx sc X) : ∀ {es : List Expr} {Fs : List SE}, SndPJ G B k N sc es Fs → ∃ ts, PJ X es ts ∧ ∀ (acc : Str) (σ : St) (H : Hp) (ρ : List Addr) (env : Env) (st : Store) (Q : Str → Hp → Prop), EnvR B ρ H σ env → StR B ρ H st →
    Post (fun _ _ (y z : Str) => y = z) B (fun c d H' => Wx c d σ H') ρ H (jsF Fs acc Φ env st) Q → tJs ts acc σ H Q
  | _, _, .nil => ⟨[], .nil, fun acc σ H ρ env st Q he hs q => q ρ H acc (List.prefix_refl _) (.refl _) hs rfl⟩
  | _, _, .cons h r => by
    obtain ⟨ts, h1, h2⟩ := js_ok g r
    refine ⟨_ :: ts, .cons (h.pe Φ Wx X g) h1, fun acc σ H ρ env st Q he hs q => ?_⟩
    refine tX_imp (tX_bind he hs q) fun v H1 ⟨ρ1, st1, w, a1, a2, he1, hs1, r1, q1⟩ => ?_
    cases r1 with
    | str y =>
      dsimp only at q1
      split at q1
      · rename_i hl
        exact ⟨y, rfl, by rw [← slBound_eq]; exact hl, h2 _ σ H1 ρ1 env st1 Q he1 hs1 q1⟩
      · exact q1.elim
    | _ => exact q1.elim
theorem snd_joined {e1 e2 : Expr} {es : List Expr} {Fs : List SE} {pos : Pos} (h : SndPJ G B k N sc (e1 :: e2 :: es) Fs) : Snd G B k N sc (.JoinedStr (e1 :: e2 :: es) pos) (joinedF Fs) := by
  refine ⟨fun Φ Wx X g => ?_⟩
  obtain ⟨ts, h1, h2⟩ := js_ok g h
  refine PE.imp (pe_joined h1) fun σ H Q ⟨ρ, env, st, he, hs, q⟩ => h2 _ σ H ρ env st _ he hs ?_
  unfold joinedF at q
  cases e : jsF Fs Str.empty Φ env st with
  | ok s st1 => rw [e] at q; exact fun ρ' H' y a1 a2 hs' ey => by subst ey; exact q ρ' H' _ a1 a2 hs' (.str _)
  | er x st1 => rw [e] at q; exact q
  | bad => rw [e] at q; exact q
theorem snd_joined1 {e : Expr} {F : SE} {pos : Pos} (h : Snd G B k N sc e F) : Snd G B k N sc (.JoinedStr [e] pos) F := ⟨fun Φ Wx X g => pe_joined1 (h.pe Φ Wx X g)⟩
end
end Zf
/-! e.f of an exception -/
namespace Zf
open PySem L2
open PyProof.Rows hiding St

def fldF (G : Glb) (n : Str) (a : SE) : SE := fun Φ env st => (a Φ env st).bind fun x st1 => match x with
  | .exc c w => if G.fs[c]? = some n then .ok w st1 else .bad
  | _ => .bad
section
variable {G : Glb} {B : Bk} {k : Nat} {N : List Str} {sc : Scope}
theorem snd_fld {e : Expr} {n : Str} {pos : Pos} {fa : SE} (hb : baseOk e = true) (ha : Snd G B k N sc e fa) : Snd G B k N sc (.Attribute e n pos) (fldF G n fa) := by
  refine ⟨fun Φ Wx X g => ⟨fun pins s σ H Q I q => attr_of (baseOk_ok hb _ _ _) (thn ((ha.pe Φ Wx X g).run pins s σ H (fun x H1 => ∃ (a C dd : Addr) (v : V), x = .ref a ∧ H1 a = some (ExA C dd a) ∧ ExcC B.K C ∧ PySem.W.findIn B.K (.ref C) n = some none ∧ H1 dd = some (.xd [(n, v)]) ∧ Q v H1) I ?_) fun u s1 hh => ?_)⟩⟩
  · obtain ⟨ρ, env, st, he, hs, q⟩ := q
    refine tX_imp (tX_bind he hs q) fun x H1 ⟨ρ1, st1, w, a1, a2, he1, hs1, r1, q1⟩ => ?_
    cases r1 with
    | @exc a C d f c v w h1 h2 h3 h4 =>
      dsimp only at q1
      split at q1
      · rename_i hf
        obtain ⟨C', e1, e2⟩ := g.gk.fd c n hf
        rw [h1] at e1
        cases e1
        exact ⟨a, C, d, v, rfl, h2, g.gk.ec _ _ _ h1, e2, h3, post_here q1 hs1 h4⟩
      · exact q1.elim
    | _ => exact q1.elim
  · obtain ⟨x, H1, I1, rx, a, C, dd, v, ex, h2, T, hno, h3, q⟩ := hh
    subst ex
    obtain rfl : u = (Value.ref a) := rx
    obtain ⟨⟨oe, vs, e1, e2, e3⟩, _, _⟩ := (show ObjOk X.prog X.w H1 s1.heap a (ExA C dd a) from I1.hok a _ h2)
    obtain ⟨mA, hns, hr⟩ := (show ObjOk X.prog X.w H1 s1.heap dd (.xd [(n, v)]) from I1.hok dd _ h3)
    obtain ⟨od, ho, hl⟩ := (lookIn_ns hns)
    obtain ⟨u', hu, ru⟩ := RelO.some_of (v := v) (o := mA n) (by
      have z := hr n
      rw [show ([(n, v)] : List (Str × V)).lookup n = some v by simp [List.lookup]] at z
      exact z)
    have K := g.K
    have J : PySem.W.InstAt s1.heap a oe C (some od) := ⟨e1, e2.1, by unfold PySem.W.notCls; rw [e3] <;> rfl, by rw [e2.2]; exact ho⟩
    exact HandSPX.exc_get I1.kIn J (by rw [K]; exact T.hg) (by rw [K]; exact T.hk) (by rw [K]; exact T.hs) (PySem.W.findObj_own (by rw [K]; exact T.hd) (by rw [K]; exact hno) rfl (by rw [hl, hu])) (handed_of ru) ⟨v, H1, I1.tok _, ru, q⟩
end
end Zf
/-! list(range(..)), tuple(range(..)) -/
namespace Zf
open PySem L2
open PyProof.Rows hiding St

def rgW (a b : Int) : List W := (List.range (b - a).toNat).map fun i => W.int (a + (i : Nat))
def rgOk (a b : Int) : Bool := inR a && inR b && decide ((b - a).toNat ≤ 2 ^ 24)
def mkRg (tup : Bool) (a b : Int) (st : Store) : Out W := if rgOk a b = true then if tup = true then .ok (.tup (rgW a b)) st else .ok (.ref st.length) (st ++ [.lst (rgW a b)]) else .bad
def lrgF1 (tup : Bool) (f : SE) : SE := fun Φ env st => (f Φ env st).bind fun w st1 => match w with
  | .int n => mkRg tup 0 n st1
  | _ => .bad
def lrgF2 (tup : Bool) (f g : SE) : SE := fun Φ env st => (f Φ env st).bind fun w st1 => (g Φ env st1).bind fun u st2 => match w, u with
  | .int i, .int j => mkRg tup i j st2
  | _, _ => .bad
section
variable {G : Glb} {B : Bk} {k : Nat} {N : List Str} {sc : Scope}
theorem rgW_r {ρ : List Addr} {H : Hp} (a b : Int) : RWs B ρ H (rgV a b) (rgW a b) := by
  unfold rgV rgW
  induction List.range (b - a).toNat with
  | nil => exact .nil
  | cons x r ih => exact .cons (.int _) ih
theorem rgOk_ok {a b : Int} (h : rgOk a b = true) : RgOk a b := by
  unfold rgOk at h
  simp only [Bool.and_eq_true, decide_eq_true_eq] at h
  exact ⟨(inR_ok h.1.1).1, (inR_ok h.1.1).2, (inR_ok h.1.2).1, (inR_ok h.1.2).2, h.2⟩
theorem mk_list {Wx : Value → Option Addr → Hp → Prop} {ρ : List Addr} {H : Hp} {st : Store} {Q : VK} {a b : Int} (q : PostE B Wx ρ H (mkRg false a b st) Q) (hs : StR B ρ H st) : RgOk a b ∧ ∀ p, H p = none → Q (.ref p) (upd H p (.lst (rgV a b))) := by
  unfold mkRg at q
  split at q
  · rename_i h
    rw [if_neg Bool.false_ne_true] at q
    exact ⟨rgOk_ok h, end_lst q hs (rgW_r a b)⟩
  · exact q.elim
theorem mk_tup {Wx : Value → Option Addr → Hp → Prop} {ρ : List Addr} {H : Hp} {st : Store} {Q : VK} {a b : Int} (q : PostE B Wx ρ H (mkRg true a b st) Q) (hs : StR B ρ H st) : RgOk a b ∧ ∀ p, H p = none → Q (.ref p) (upd H p (.tup (rgV a b))) := by
  unfold mkRg at q
  split at q
  · rename_i h
    rw [if_pos rfl] at q
    exact ⟨rgOk_ok h, end_tup q hs (rgW_r a b)⟩
  · exact q.elim
structure RgG (G : Glb) (sc : Scope) (x : Str) : Prop where
  h1 : glbB sc x = true
  h2 : x ∈ G.blt
  h3 : glbB sc "range" = true
  h4 : ("range" : Str) ∈ G.blt
theorem snd_lrg1 {a : Expr} {p p2 pos pos2 : Pos} {fa : SE} (h : RgG G sc "list") (hn : noStar a = true) (ha : Snd G B k N sc a fa) : Snd G B k N sc (.Call (.Name "list" p) [.Call (.Name "range" p2) [a] [] pos2] [] pos) (lrgF1 false fa) := by
  refine ⟨fun Φ Wx X g => PE.imp (pe_listRg g.calm (glbB_ok (by rw [g.sc]; exact h.h1)) (g.gk.blt _ h.h2) (prg_1 (glbB_ok (by rw [g.sc]; exact h.h3)) (g.gk.blt _ h.h4) (ha.pe Φ Wx X g) (noStar_ok hn _ _)) rfl) fun σ H Q ⟨ρ, env, st, he, hs, q⟩ => ?_⟩
  refine tX_imp (tX_bind he hs q) fun v H1 ⟨ρ1, st1, w, a1, a2, he1, hs1, r1, q1⟩ => ?_
  cases r1 with
  | int n => exact ⟨n, rfl, mk_list q1 hs1⟩
  | _ => exact q1.elim
theorem snd_trg1 {a : Expr} {p p2 pos pos2 : Pos} {fa : SE} (h : RgG G sc "tuple") (hn : noStar a = true) (ha : Snd G B k N sc a fa) : Snd G B k N sc (.Call (.Name "tuple" p) [.Call (.Name "range" p2) [a] [] pos2] [] pos) (lrgF1 true fa) := by
  refine ⟨fun Φ Wx X g => PE.imp (pe_tupRg g.calm (glbB_ok (by rw [g.sc]; exact h.h1)) (g.gk.blt _ h.h2) (prg_1 (glbB_ok (by rw [g.sc]; exact h.h3)) (g.gk.blt _ h.h4) (ha.pe Φ Wx X g) (noStar_ok hn _ _)) rfl) fun σ H Q ⟨ρ, env, st, he, hs, q⟩ => ?_⟩
  refine tX_imp (tX_bind he hs q) fun v H1 ⟨ρ1, st1, w, a1, a2, he1, hs1, r1, q1⟩ => ?_
  cases r1 with
  | int n => exact ⟨n, rfl, mk_tup q1 hs1⟩
  | _ => exact q1.elim
theorem snd_lrg2 {a b : Expr} {p p2 pos pos2 : Pos} {fa fb : SE} (h : RgG G sc "list") (hn : noStar a = true) (hn2 : noStar b = true) (ha : Snd G B k N sc a fa) (hb : Snd G B k N sc b fb) : Snd G B k N sc (.Call (.Name "list" p) [.Call (.Name "range" p2) [a, b] [] pos2] [] pos) (lrgF2 false fa fb) := by
  refine ⟨fun Φ Wx X g => PE.imp (pe_listRg g.calm (glbB_ok (by rw [g.sc]; exact h.h1)) (g.gk.blt _ h.h2) (prg_2 (glbB_ok (by rw [g.sc]; exact h.h3)) (g.gk.blt _ h.h4) (ha.pe Φ Wx X g) (hb.pe Φ Wx X g) (noStar_ok hn _ _) (noStar_ok hn2 _ _) (by rw [noStar1 hn2]; rfl)) rfl) fun σ H Q ⟨ρ, env, st, he, hs, q⟩ => ?_⟩
  refine tX_imp (tX_bind he hs q) fun v H1 ⟨ρ1, st1, w, a1, a2, he1, hs1, r1, q1⟩ => ?_
  refine tX_imp (tX_bind he1 hs1 q1) fun v2 H2 ⟨ρ2, st2, u, b1, b2, he2, hs2, r2, q2⟩ => ?_
  cases r1 with
  | int i => cases r2 with
    | int j => exact ⟨i, j, rfl, rfl, mk_list q2 hs2⟩
    | _ => exact q2.elim
  | _ => cases r2 <;> exact q2.elim
theorem snd_trg2 {a b : Expr} {p p2 pos pos2 : Pos} {fa fb : SE} (h : RgG G sc "tuple") (hn : noStar a = true) (hn2 : noStar b = true) (ha : Snd G B k N sc a fa) (hb : Snd G B k N sc b fb) : Snd G B k N sc (.Call (.Name "tuple" p) [.Call (.Name "range" p2) [a, b] [] pos2] [] pos) (lrgF2 true fa fb) := by
  refine ⟨fun Φ Wx X g => PE.imp (pe_tupRg g.calm (glbB_ok (by rw [g.sc]; exact h.h1)) (g.gk.blt _ h.h2) (prg_2 (glbB_ok (by rw [g.sc]; exact h.h3)) (g.gk.blt _ h.h4) (ha.pe Φ Wx X g) (hb.pe Φ Wx X g) (noStar_ok hn _ _) (noStar_ok hn2 _ _) (by rw [noStar1 hn2]; rfl)) rfl) fun σ H Q ⟨ρ, env, st, he, hs, q⟩ => ?_⟩
  refine tX_imp (tX_bind he hs q) fun v H1 ⟨ρ1, st1, w, a1, a2, he1, hs1, r1, q1⟩ => ?_
  refine tX_imp (tX_bind he1 hs1 q1) fun v2 H2 ⟨ρ2, st2, u, b1, b2, he2, hs2, r2, q2⟩ => ?_
  cases r1 with
  | int i => cases r2 with
    | int j => exact ⟨i, j, rfl, rfl, mk_tup q2 hs2⟩
    | _ => exact q2.elim
  | _ => cases r2 <;> exact q2.elim
end
end Zf
/-! more operations: pop, join, count, get, dict of pairs, sorted -/
namespace Zf
open PySem L2
open PyProof.Rows hiding St

/-! ### xs.pop(), xs.pop(i) -/
def popL : W → List W → Store → Opt := fun a as st => match a, as with
  | .ref n, [] => match lstAt (.ref n) st with
    | some ws => match ws[ws.length - 1]? with
      | some y => some (y, st.set n (.lst ws.dropLast))
      | none => none
    | none => none
  | .ref n, [.int i] => match lstAt (.ref n) st with
    | some ws => if -(2 ^ 63) ≤ i ∧ i < 2 ^ 63 then match ixN ws.length i with
        | some k => match ws[k]? with
          | some y => some (y, st.set n (.lst (ws.eraseIdx k)))
          | none => none
        | none => none
      else none
    | none => none
  | _, _ => none
def popM : WM := fun kd => match kd with
  | .list => some popL
  | _ => none
theorem RWs.dropLast {B : Bk} {ρ : List Addr} {H : Hp} {vs : List V} {ws : List W} (h : RWs B ρ H vs ws) : RWs B ρ H vs.dropLast ws.dropLast := by
  rw [List.dropLast_eq_take, List.dropLast_eq_take, h.length]
  exact h.take _
section
variable {B : Bk} {X : Cx}
theorem mw_pop (hK : X.K = B.K) : MethW B X "pop" popM := by
  refine ⟨fun kd f e => ?_⟩
  cases kd <;> simp only [popM, Option.some.injEq, reduceCtorEq] at e
  subst e
  refine ⟨"list.pop", PySem.F.plainAttrs_list, PySem.F.slot_list_pop, PySem.F.type_list_pop, fun pins s σ H x xs v us Q ρ st a as I rx rxs hs ra ras q => ?_⟩
  cases ra with
  | @ref p n e =>
    cases ras with
    | nil =>
      simp only [popL] at q
      split at q
      · rename_i ws e1
        split at q
        · rename_i y e3
          obtain ⟨_, _, vs, ew, ev, e2, _, h1, h2⟩ := lstAt_r hs (.ref e) e1
          cases ew; cases ev
          obtain ⟨z, e4, rz⟩ := h2.get e3
          exact mt_pop pins s σ H _ _ v us Q I rx rxs ⟨p, vs, z, rfl, rfl, h1, by rw [h2.length]; exact e4, end_set q hs e h2.dropLast rz h1⟩
        · exact q.elim
      · exact q.elim
    | @cons y ys w ws' r1 r2 =>
      cases r2 with
      | cons _ _ => cases r1 <;> exact q.elim
      | nil =>
        cases r1 with
        | int i =>
          simp only [popL] at q
          split at q
          · rename_i ws e1
            split at q
            · rename_i hz
              split at q
              · rename_i k ek
                split at q
                · rename_i y e3
                  obtain ⟨_, _, vs, ew, ev, e2, _, h1, h2⟩ := lstAt_r hs (.ref e) e1
                  cases ew; cases ev
                  obtain ⟨z, e4, rz⟩ := h2.get e3
                  have hx : seqIndex? i vs.length = some k := by
                    rw [h2.length]
                    unfold ixN at ek
                    by_cases h0 : 0 ≤ i
                    · rw [if_pos h0] at ek
                      split at ek
                      · rename_i hlt
                        cases ek
                        exact seqIndex_of h0 hlt
                      · cases ek
                    · rw [if_neg h0] at ek
                      split at ek
                      · rename_i hlt
                        cases ek
                        exact seqIndex_neg (by omega) hlt
                      · cases ek
                  exact mt_popAt pins s σ H _ _ v us Q I rx rxs ⟨p, vs, i, k, z, rfl, rfl, h1, hz.1, hz.2, hx, e4, end_set q hs e (h2.eraseIdx k) rz h1⟩
                · exact q.elim
              · exact q.elim
            · exact q.elim
          · exact q.elim
        | _ => exact q.elim
  | _ => exact q.elim

/-! ### a.join(xs), a.count(b) -/
def strsW : List W → Option (List Str)
  | [] => some []
  | .str s :: ws => (strsW ws).map fun ss => s :: ss
  | _ => none
theorem strsW_r {ρ : List Addr} {H : Hp} : ∀ {vs : List V} {ws : List W} {ss : List Str}, RWs B ρ H vs ws → strsW ws = some ss → vs = ss.map V.str
  | _, _, _, .nil, e => by cases e; rfl
  | _, _, _, .cons (w := w) a b, e => by
    cases w with
    | str s =>
      simp only [strsW, Option.map_eq_some_iff] at e
      obtain ⟨ss, e1, rfl⟩ := e
      cases a
      rw [strsW_r b e1]; rfl
    | _ => simp only [strsW] at e; cases e
def joinL : W → List W → Store → Opt := fun a as st => match a, as with
  | .str s, [w] => match (seqOf w st).bind strsW with
    | some ys => if (ys.map (·.length)).sum + ys.length * s.length ≤ slBound then some (.str (Txt.join s ys), st) else none
    | none => none
  | _, _ => none
def joinM : WM := fun kd => match kd with
  | .str => some joinL
  | _ => none
theorem mw_join (hK : X.K = B.K) : MethW B X "join" joinM := by
  refine ⟨fun kd f e => ?_⟩
  cases kd <;> simp only [joinM, Option.some.injEq, reduceCtorEq] at e
  subst e
  refine ⟨"str.join", PySem.F.plainAttrs_str, PySem.F.slot_str_join, PySem.F.type_str_join, fun pins s σ H x xs v us Q ρ st a as I rx rxs hs ra ras q => ?_⟩
  cases ra with
  | str z =>
    cases ras with
    | nil => exact q.elim
    | @cons y ys w ws' r1 r2 =>
      cases r2 with
      | cons _ _ => exact q.elim
      | nil =>
        simp only [joinL] at q
        split at q
        · rename_i ss e1
          split at q
          · rename_i hz
            obtain ⟨ws, e2, e3⟩ := Option.bind_eq_some_iff.mp e1
            obtain ⟨p, vs, rfl, h1, h2⟩ := seqOf_r hs r1 e2
            rw [strsW_r h2 e3, ← hK] at h1
            exact mt_join pins s σ H _ _ v us Q I rx rxs ⟨z, p, ss, rfl, rfl, h1, hz, post_here q hs (.str _)⟩
          · exact q.elim
        · exact q.elim
  | _ => exact q.elim
def countL : W → List W → Store → Opt := fun a as st => match a, as with
  | .str s, [.str z] => some (.int (Txt.count s z), st)
  | _, _ => none
def countM : WM := fun kd => match kd with
  | .str => some countL
  | _ => none
theorem mw_count : MethW B X "count" countM := by
  refine ⟨fun kd f e => ?_⟩
  cases kd <;> simp only [countM, Option.some.injEq, reduceCtorEq] at e
  subst e
  refine ⟨"str.count", PySem.F.plainAttrs_str, PySem.F.slot_str_count, PySem.F.type_str_count, fun pins s σ H x xs v us Q ρ st a as I rx rxs hs ra ras q => ?_⟩
  cases ra with
  | str z =>
    cases ras with
    | nil => exact q.elim
    | @cons y ys w ws' r1 r2 =>
      cases r2 with
      | cons _ _ => cases r1 <;> exact q.elim
      | nil =>
        cases r1 with
        | str b => exact mt_count pins s σ H _ _ v us Q I rx rxs ⟨z, b, rfl, rfl, post_here q hs (.int _)⟩
        | _ => exact q.elim
  | _ => exact q.elim

/-! ### d.get(k), d.get(k, x) -/
def isDctW (w : W) (st : Store) : Bool := match w with
  | .ref n => match st[n]? with
    | some (.dct _) => true
    | _ => false
  | _ => false
def getL : W → List W → Store → Opt := fun a as st => match as with
  | [key] => if isDctW a st = true then match dGet a key st with
      | some (some w) => some (w, st)
      | some none => some (.non, st)
      | none => none
    else none
  | [key, d] => if isDctW a st = true then match dGet a key st with
      | some (some w) => some (w, st)
      | some none => some (d, st)
      | none => none
    else none
  | _ => none
def getM : WM := fun kd => match kd with
  | .dict => some getL
  | _ => none
theorem dget_k {ρ : List Addr} {H : Hp} {st : Store} {v u : V} {w key : W} {o : Option W} (hs : StR B ρ H st) (r : RW B ρ H v w) (hd : isDctW w st = true) (rk : RW B ρ H u key) (h : dGet w key st = some o) :
    ∃ a o', v = .ref a ∧ DGet H a u o' ∧ (∀ w', o = some w' → ∃ v', o' = some v' ∧ RW B ρ H v' w') ∧ (o = none → o' = none) := by
  cases r with
  | @ref a n e =>
    simp only [isDctW] at hd
    split at hd
    · rename_i kvs es
      obtain ⟨vs, h1, h2⟩ := hs.at_ n a _ e es
      simp only [dGet, es, Option.map_eq_some_iff] at h
      obtain ⟨k, hk1, rfl⟩ := h
      rw [keyW_r rk hk1]
      obtain ⟨z1, z2⟩ := valW_r k h2
      exact ⟨a, _, rfl, DGet.k h1, z1, z2⟩
    · cases hd
  | _ => cases hd
theorem mw_get (hu : X.A.units + 1 < cLine) : MethW B X "get" getM := by
  refine ⟨fun kd f e => ?_⟩
  cases kd <;> simp only [getM, Option.some.injEq, reduceCtorEq] at e
  subst e
  refine ⟨"dict.get", PySem.F.plainAttrs_dict, PySem.F.slot_dict_get, PySem.F.type_dict_get, fun pins s σ H x xs v us Q ρ st a as I rx rxs hs ra ras q => ?_⟩
  cases ras with
  | nil => exact q.elim
  | @cons y ys w ws' r1 r2 =>
    cases r2 with
    | nil =>
      simp only [getL] at q
      split at q
      · rename_i hd
        obtain ⟨u, rfl, ru⟩ := rxs.one
        split at q
        · rename_i w' e1
          obtain ⟨p, o', rfl, g, g1, _⟩ := dget_k hs ra hd r1 e1
          obtain ⟨v', rfl, rv⟩ := g1 _ rfl
          cases rx
          exact d_get1 hu I g ru fun w'' s' J rr => ⟨v', H, J, rr, post_here q hs rv⟩
        · rename_i e1
          obtain ⟨p, o', rfl, g, _, g2⟩ := dget_k hs ra hd r1 e1
          rw [g2 rfl] at g
          cases rx
          exact d_get1 hu I g ru fun w'' s' J rr => ⟨.non, H, J, rr, post_here q hs .non⟩
        · exact q.elim
      · exact q.elim
    | @cons y2 ys2 w2 ws2 r3 r4 =>
      cases r4 with
      | cons _ _ => exact q.elim
      | nil =>
        simp only [getL] at q
        split at q
        · rename_i hd
          cases rxs with
          | @cons _ u _ us1 ru rxs1 =>
            obtain ⟨u2, rfl, ru2⟩ := (show Vals [y2] us1 from rxs1).one
            split at q
            · rename_i w' e1
              obtain ⟨p, o', rfl, g, g1, _⟩ := dget_k hs ra hd r1 e1
              obtain ⟨v', rfl, rv⟩ := g1 _ rfl
              cases rx
              exact d_get2 hu I g ru ru2 fun w'' s' J rr => ⟨v', H, J, rr, post_here q hs rv⟩
            · rename_i e1
              obtain ⟨p, o', rfl, g, _, g2⟩ := dget_k hs ra hd r1 e1
              rw [g2 rfl] at g
              cases rx
              exact d_get2 hu I g ru ru2 fun w'' s' J rr => ⟨y2, H, J, rr, post_here q hs r3⟩
            · exact q.elim
        · exact q.elim

/-! ### sorted(xs) of data -/
def d0 (w : W) : PyData := (toE (fun _ => none) w).getD .none
structure SortOk (ws : List W) : Prop where
  some : ∀ w ∈ ws, ∃ d, toE (fun _ => none) w = some d ∧ d.depth ≤ 60
  alike : PySem.W.AllAlike (ws.map d0)
  sortable : PySem.W.Sortable (ws.map d0)
def sortOkB (ws : List W) : Bool := (ws.all fun w => match toE (fun _ => none) w with
  | some d => decide (d.depth ≤ 60)
  | none => false) && ((ws.all fun w => ws.all fun w' => PySem.W.alike (d0 w) (d0 w')) &&
  ((ws.all fun w => match d0 w with
    | .tuple (_ :: _) => true
    | _ => false) || (ws.all fun w => match d0 w with
    | .none => false
    | .tuple _ => false
    | _ => true)))
theorem sortOk_of {ws : List W} (h : sortOkB ws = true) : SortOk ws := by
  unfold sortOkB at h
  rw [Bool.and_eq_true, Bool.and_eq_true, Bool.or_eq_true] at h
  obtain ⟨h1, h2, h3⟩ := h
  rw [List.all_eq_true] at h1 h2
  refine ⟨fun w hw => ?_, fun d hd d' hd' => ?_, ?_⟩
  · have := h1 w hw
    split at this
    · rename_i d e
      exact ⟨d, e, of_decide_eq_true this⟩
    · cases this
  · obtain ⟨w, hw, rfl⟩ := List.mem_map.mp hd
    obtain ⟨w', hw', rfl⟩ := List.mem_map.mp hd'
    exact List.all_eq_true.mp (h2 w hw) w' hw'
  · rcases h3 with h3 | h3
    · refine .inl fun d hd => ?_
      obtain ⟨w, hw, rfl⟩ := List.mem_map.mp hd
      have := List.all_eq_true.mp h3 w hw
      split at this
      · rename_i x r e
        exact ⟨x, r, e⟩
      · cases this
    · refine .inr fun d hd => ?_
      obtain ⟨w, hw, rfl⟩ := List.mem_map.mp hd
      have := List.all_eq_true.mp h3 w hw
      refine ⟨fun e => ?_, fun xs e => ?_⟩
      · rw [e] at this; cases this
      · rw [e] at this; cases this
def sortedW : W → Store → Opt := fun a st => match lstOf a st with
  | some ws => if sortOkB ws = true then some (.ref st.length, st ++ [.lst (ws.mergeSort (PySem.W.dataLe false d0))]) else none
  | none => none
theorem each_of {R : Value → W → Prop} {ρ : List Addr} {H : Hp} : ∀ {vs : List V} {us : List Value} {ws : List W}, Vals vs us → RWs B ρ H vs ws → (∀ v u w, w ∈ ws → RelV v u → RW B ρ H v w → R u w) → PySem.W.EachIs R us ws
  | _, _, _, .nil, .nil, _ => .nil
  | _, _, _, .cons a b, .cons c d, h => .cons (h _ _ _ (List.mem_cons_self ..) a c) (each_of b d fun v u w hw => h v u w (List.mem_cons_of_mem _ hw))
theorem each_to {ρ : List Addr} {H : Hp} : ∀ {us : List Value} {ws : List W}, PySem.W.EachIs (fun u w => ∃ v, RelV v u ∧ RW B ρ H v w) us ws → ∃ vs, Vals vs us ∧ RWs B ρ H vs ws
  | _, _, .nil => ⟨[], .nil, .nil⟩
  | _, _, .cons ⟨v, h1, h2⟩ t => by
    obtain ⟨vs, h3, h4⟩ := each_to t
    exact ⟨v :: vs, .cons h1 h3, .cons h2 h4⟩
theorem cw_sorted {k : Nat} {mm : Str → Option Value} (hK : X.K = B.K) (hr : Room k X.A) (sm : X.base.Ns sysModules mm) : CallW B X (.builtin "sorted") (un1 sortedW) := by
  refine cw_un1 fun pins s σ H x u Q ρ st a I ru hs ra q => ?_
  simp only [sortedW] at q
  split at q
  · rename_i ws e1
    split at q
    · rename_i hok
      have hok := sortOk_of hok
      obtain ⟨p, vs, rfl, h1, h2⟩ := lstOf_r hs ra e1
      obtain ⟨its, rv, pl, hz⟩ := I.list (by rw [hK]; exact h1)
      cases ru
      have hu := hr.units
      have hd : ∀ w ∈ ws, toE (fun _ => none) w = some (d0 w) := fun w hw => by
        obtain ⟨d, e, _⟩ := hok.some w hw
        unfold d0
        rw [e]; rfl
      refine PySem.W.sorted_data (bs := ws) (enc := d0) (R := fun u w => ∃ v, RelV v u ∧ RW B ρ H v w) pl.isList (each_of rv h2 fun v u w _ a b => ⟨v, a, b⟩) (each_of rv h2 fun v u w hw a b => ?_) hok.alike hok.sortable (by rw [← h2.length]; exact hz) (fun w hw => ?_) fun out hl he => ?_
      · obtain ⟨as, h3, _⟩ := toE_reads I sm hK hs (f := fun _ => none) (fun _ _ _ _ e => nomatch e) b a (hd w hw)
        exact ⟨as, h3⟩
      · obtain ⟨d, e, h3⟩ := hok.some w hw
        have : d0 w = d := by unfold d0; rw [e]; rfl
        rw [this]
        omega
      · obtain ⟨ys, h3, h4⟩ := each_to he
        obtain ⟨ep, he'⟩ := PyProof.Rows.sortedAll_at s.heap its out.toArray
        have hlen : ys.length ≤ sizeLine := by
          rw [h4.length, List.length_mergeSort, ← h2.length]
          exact hz
        exact ⟨.ref _, upd H (s.heap.objs.size + 1) (.lst ys), I.laid (t' := s.toks) (fun _ _ => PyProof.Rows.sortedAll_old) (Nat.le_succ _) ⟨hlen, out, ep, h3, he'⟩, rfl, end_lst q hs h4 _ (I.hok.fresh (Nat.le_succ _))⟩
    · exact q.elim
  · exact q.elim

/-! ### dict(xs) of pairs -/
def pairsW : List W → Option (List (Key × W))
  | [] => some []
  | .tup [k, v] :: r => match keyW k, pairsW r with
    | some key, some kvs => some ((key, v) :: kvs)
    | _, _ => none
  | _ => none
theorem pairsW_r {ρ : List Addr} {H : Hp} : ∀ {vs : List V} {ws : List W} {kws : List (Key × W)}, RWs B ρ H vs ws → pairsW ws = some kws → ∃ (ps : List Addr) (kvs : List (Key × V)), vs = ps.map V.ref ∧ PySem.Paired (fun p kv => SqT B.K H p [kV kv.1, kv.2]) ps kvs ∧ RKv B ρ H kvs kws
  | _, _, _, .nil, e => by cases e; exact ⟨[], [], rfl, .nil, .nil⟩
  | _, _, _, .cons (w := w) a b, e => by
    unfold pairsW at e
    split at e
    · rename_i h; cases h
    · rename_i k v r h
      cases h
      split at e
      · rename_i key kvs0 e1 e2
        cases e
        obtain ⟨ps, kvs, h1, h2, h3⟩ := pairsW_r b e2
        cases a with
        | @tup p ys _ q1 q2 =>
          cases q2 with
          | cons r1 q3 =>
            cases q3 with
            | cons r2 q4 =>
              cases q4
              have ek := keyW_r r1 e1
              subst ek
              exact ⟨p :: ps, (key, _) :: kvs, by rw [h1]; rfl, .cons q1.seq h2, .cons r2 h3⟩
      · cases e
    · cases e
def dictW : W → Store → Opt := fun a st => match (lstOf a st).bind pairsW with
  | some kvs => some (.ref st.length, st ++ [.dct (mergeW [] kvs)])
  | none => none
theorem cw_dict (hK : X.K = B.K) (hc : X.calm = true) : CallW B X (.type "dict") (un1 dictW) := by
  refine cw_un1 fun pins s σ H x u Q ρ st a I ru hs ra q => ?_
  simp only [dictW] at q
  split at q
  · rename_i kvs e
    obtain ⟨ws, e1, e2⟩ := Option.bind_eq_some_iff.mp e
    obtain ⟨p, vs, rfl, h1, h2⟩ := lstOf_r hs ra e1
    obtain ⟨ps, kvs', rfl, h3, h4⟩ := pairsW_r h2 e2
    rw [← hK] at h1 h3
    refine call_dictP hc pins s σ H _ _ Q I (v1 ru) ⟨p, ps, kvs', rfl, h1, h3, fun d hd => ?_⟩
    have hs' := hs.push (o := .dct (mergeW [] kvs)) (u := .dK (mergeK [] kvs')) hd ⟨_, upd_same, (merge_r h4 .nil).mono (List.prefix_append _ _) (.new hd)⟩
    exact q _ _ _ (List.prefix_append _ _) (.new hd) hs' (.ref (by rw [← hs.len]; simp))
  · exact q.elim
end
end Zf
/-! count, index, remove of a list, items of any data -/
namespace Zf
open PySem L2
open PyProof.Rows hiding St

/-- data that may be asked for, not too deep -/
def fitD (d : PyData) : Bool := d.plain && decide (d.depth ≤ 60)
def fitDs (ds : List PyData) : Bool := PyData.plainAll ds && decide (PyData.depthAll ds ≤ 60)
def itemsD (st : Store) (ws : List W) : Option (List PyData) := toDs (refD st 19) ws
def countLs : W → List W → Store → Opt := fun a as st => match as with
  | [x] => match (lstOf a st).bind (itemsD st), datum st x with
    | some ds, some d => if (fitD d && fitDs ds) = true then some (.int ((ds.countP fun y => PyData.eqv y d : Nat) : Int), st) else none
    | _, _ => none
  | _ => none
def removeLs : W → List W → Store → Opt := fun a as st => match a, as with
  | .ref n, [x] => match lstAt (.ref n) st with
    | some ws => match itemsD st ws, datum st x with
      | some ds, some d => if (fitD d && fitDs ds) = true then match PySem.SeqAt.dataPlace ds d with
          | some j => some (.non, st.set n (.lst (ws.eraseIdx j)))
          | none => none
        else none
      | _, _ => none
    | none => none
  | _, _ => none
def countM' : WM := fun kd => match kd with
  | .str => some countL
  | .list => some countLs
  | _ => none
def removeM : WM := fun kd => match kd with
  | .list => some removeLs
  | _ => none
section
variable {B : Bk} {X : Cx}
theorem fit_room {k : Nat} {A : Around} {d : PyData} {ds : List PyData} (hr : Room k A) (h : (fitD d && fitDs ds) = true) : PyData.plainAll ds = true ∧ d.plain = true ∧ A.units + 1 + min (PyData.depthAll ds) d.depth < cLine := by
  unfold fitD fitDs at h
  simp only [Bool.and_eq_true, decide_eq_true_eq] at h
  refine ⟨h.2.1, h.1.1, ?_⟩
  have := hr.units
  have : min (PyData.depthAll ds) d.depth ≤ PyData.depthAll ds := Nat.min_le_left _ _
  have := h.2.2
  omega
theorem mw_count' {k : Nat} (hK : X.K = B.K) (hr : Room k X.A) : MethW B X "count" countM' := by
  refine ⟨fun kd f e => ?_⟩
  cases kd with
  | str => exact mw_count.run .str f e
  | list =>
    simp only [countM', Option.some.injEq] at e
    subst e
    refine ⟨"list.count", PySem.F.plainAttrs_list, PySem.F.slot_list_count, PySem.F.type_list_count, fun pins s σ H x xs v us Q ρ st a as I rx rxs hs ra ras q => ?_⟩
    cases ras with
    | nil => exact q.elim
    | @cons y ys w ws' r1 r2 =>
      cases r2 with
      | cons _ _ => exact q.elim
      | nil =>
        simp only [countLs] at q
        split at q
        · rename_i ds d e1 e2
          split at q
          · rename_i hz
            obtain ⟨ws, e3, e4⟩ := Option.bind_eq_some_iff.mp e1
            obtain ⟨p, vs, rfl, h1, h2⟩ := lstOf_r hs ra e3
            obtain ⟨its, rv, pl, hl⟩ := I.list (by rw [hK]; exact h1)
            obtain ⟨u, rfl, ru⟩ := rxs.one
            cases rx
            obtain ⟨as, ra2⟩ := Dp.readsAll I ds _ its (by rw [hK]; exact toDs_dp hs (refD_dp hs 19) h2 e4) rv
            obtain ⟨bs, rb2⟩ := Dp.reads I d _ u (by rw [hK]; exact datum_dp hs r1 e2) ru
            obtain ⟨f1, f2, f3⟩ := fit_room hr hz
            exact PySem.SeqAt.count_list_data pl.isList ra2 rb2 f1 f2 f3 ⟨.int _, H, I.tok _, ⟨_, rfl⟩, post_here q hs (.int _)⟩
          · exact q.elim
        · exact q.elim
  | int => simp only [countM'] at e; cases e
  | dict => simp only [countM'] at e; cases e
theorem mw_remove {k : Nat} (hK : X.K = B.K) (hr : Room k X.A) : MethW B X "remove" removeM := by
  refine ⟨fun kd f e => ?_⟩
  cases kd <;> simp only [removeM, Option.some.injEq, reduceCtorEq] at e
  subst e
  refine ⟨"list.remove", PySem.F.plainAttrs_list, PySem.F.slot_list_remove, PySem.F.type_list_remove, fun pins s σ H x xs v us Q ρ st a as I rx rxs hs ra ras q => ?_⟩
  cases ra with
  | @ref p n en =>
    cases ras with
    | nil => exact q.elim
    | @cons y ys w ws' r1 r2 =>
      cases r2 with
      | cons _ _ => exact q.elim
      | nil =>
        simp only [removeLs] at q
        split at q
        · rename_i ws e0
          split at q
          · rename_i ds d e1 e2
            split at q
            · rename_i hz
              split at q
              · rename_i j ej
                obtain ⟨_, _, vs, ew, ev, e3, _, h1, h2⟩ := lstAt_r hs (.ref en) e0
                cases ew; cases ev
                obtain ⟨u, rfl, ru⟩ := rxs.one
                cases rx
                obtain ⟨hzl, its, nn, rv, hl, eo⟩ := I.lstM h1
                obtain ⟨as, ra2⟩ := Dp.readsAll I ds _ its (by rw [hK]; exact toDs_dp hs (refD_dp hs 19) h2 e1) rv
                obtain ⟨bs, rb2⟩ := Dp.reads I d _ u (by rw [hK]; exact datum_dp hs r1 e2) ru
                obtain ⟨f1, f2, f3⟩ := fit_room hr hz
                refine PySem.SeqAt.remove_list_data (vs := its.toArray) ⟨_, eo, rfl, nn, rfl⟩ ra2 rb2 f1 f2 f3 ej (by rw [List.size_toArray]; omega) ?_
                refine ⟨.non, _, I.lset (its' := its.eraseIdx j) (t' := s.toks) h1 eo ?_ (rv.eraseIdx j) ?_, rfl, end_set q hs en (h2.eraseIdx j) .non h1⟩
                · show its.toArray.eraseIdxIfInBounds j = _
                  rw [List.eraseIdxIfInBounds_toArray]
                · rw [List.length_eraseIdx]
                  split <;> omega
              · exact q.elim
            · exact q.elim
          · exact q.elim
        · exact q.elim
  | _ => exact q.elim
end
end Zf
/-! a dict is locked while a loop or a comprehension walks it -/
namespace Zf
open PySem L2
open PyProof.Rows hiding St

def unl (n : Nat) (st : Store) : Option Store := match st[n]? with
  | some (.ldct kvs) => some (st.set n (.dct kvs))
  | _ => none
def SOut.unl (n : Nat) : SOut → SOut
  | .nx env st => match Zf.unl n st with
    | some st' => .nx env st'
    | none => .bad
  | .rt w st => match Zf.unl n st with
    | some st' => .rt w st'
    | none => .bad
  | .bk env st => match Zf.unl n st with
    | some st' => .bk env st'
    | none => .bad
  | .ct env st => match Zf.unl n st with
    | some st' => .ct env st'
    | none => .bad
  | o => o
def Out.unl {α : Type} (n : Nat) : Out α → Out α
  | .ok w st => match Zf.unl n st with
    | some st' => .ok w st'
    | none => .bad
  | o => o
/-- the dict that is to be locked -/
def lockAt (o : Out W) (st : Store) : Option (Nat × List (Key × W)) := match o with
  | .ok (.ref n) _ => match st[n]? with
    | some (.dct kvs) => some (n, kvs)
    | _ => none
  | _ => none
def lockS (a : SE) (s : SS) : SS := fun Φ env st => match lockAt (a Φ env st) st with
  | some p => (s Φ env (st.set p.1 (.ldct p.2))).unl p.1
  | none => s Φ env st
def lockE (a : SE) (s : SE) : SE := fun Φ env st => match lockAt (a Φ env st) st with
  | some p => (s Φ env (st.set p.1 (.ldct p.2))).unl p.1
  | none => s Φ env st
theorem lockAt_ok {o : Out W} {st : Store} {p : Nat × List (Key × W)} (e : lockAt o st = some p) : st[p.1]? = some (.dct p.2) := by
  unfold lockAt at e
  split at e
  · split at e
    · rename_i h; cases e; exact h
    · cases e
  · cases e
section
variable {G : Glb} {B : Bk} {k : Nat} {N : List Str} {sc : Scope}
/-- the way in -/
theorem lock_in {ρ : List Addr} {H : Hp} {st : Store} {n : Nat} {kvs : List (Key × W)} (hs : StR B ρ H st) (e : st[n]? = some (.dct kvs)) :
    ∃ d kws, ρ[n]? = some d ∧ H d = some (.dK kws) ∧ ∀ od, Kp H (upd H d (.frz od (.dK kws))) ∧ StR B ρ (upd H d (.frz od (.dK kws))) (st.set n (.ldct kvs)) := by
  obtain ⟨d, e1, kws, h1, h2⟩ := hs.get e
  refine ⟨d, kws, e1, h1, fun od => ?_⟩
  have kp : Kp H (upd H d (.frz od (.dK kws))) := .wr h1 id
  exact ⟨kp, (hs.wr (u := .frz od (.dK kws)) (o := .ldct kvs) e1 ⟨od, kws, upd_same, h2.mono (List.prefix_refl _) kp⟩ ⟨_, h1, id⟩).1⟩
/-- .. and out -/
theorem lock_out {ρ0 ρ : List Addr} {H H' : Hp} {st st' : Store} {n : Nat} {d : Addr} {od : Obj} {kws : List (Key × V)} (hr : ρ0 <+: ρ) (e1 : ρ0[n]? = some d) (h1 : H d = some (.dK kws)) (k : Kp (upd H d (.frz od (.dK kws))) H') (hs : StR B ρ H' st) (e : unl n st = some st') :
    H' d = some (.frz od (.dK kws)) ∧ Kp H (upd H' d (.dK kws)) ∧ Kp0 H' (upd H' d (.dK kws)) ∧ StR B ρ (upd H' d (.dK kws)) st' := by
  have g1 : H' d = some (.frz od (.dK kws)) := k d _ upd_same trivial
  have g0 : ρ[n]? = some d := by
    obtain ⟨t, rfl⟩ := hr
    rw [List.getElem?_append_left (List.getElem?_eq_some_iff.mp e1).1]; exact e1
  have kp0 : Kp0 H' (upd H' d (.dK kws)) := fun b o eb s => by
    by_cases hb : b = d
    · subst hb; rw [g1] at eb; cases eb; exact s.elim
    · rw [upd_ne hb]; exact eb
  refine ⟨g1, fun b o eb s => ?_, kp0, ?_⟩
  · have hb : b ≠ d := by rintro rfl; rw [h1] at eb; cases eb; exact s.elim
    rw [upd_ne hb]
    exact k b o (by rw [upd_ne hb]; exact eb) s
  · unfold unl at e
    split at e
    · rename_i kvs e2
      cases e
      obtain ⟨o', kws', q1, q2⟩ := hs.at_ n d _ g0 e2
      rw [g1] at q1; cases q1
      refine ⟨by simp [hs.len], hs.nd, fun j b o' f1 f2 => ?_, tabs_wr hs.tb g1 (fun ps z => by cases z) id, B.Dm _ _ _ _ (List.prefix_refl _) kp0 hs.dd⟩
      by_cases hj : j = n
      · subst hj
        rw [g0] at f1; cases f1
        rw [List.getElem?_set_self (List.getElem?_eq_some_iff.mp e2).1] at f2; cases f2
        exact ⟨kws, upd_same, q2.mono0 (List.prefix_refl _) kp0⟩
      · rw [List.getElem?_set_ne (Ne.symm hj)] at f2
        refine (hs.at_ j b o' f1 f2).mono0 (List.prefix_refl _) kp0 ?_
        rw [upd_ne]
        rintro rfl
        obtain ⟨p1, q1⟩ := List.getElem?_eq_some_iff.mp f1
        obtain ⟨p2, q2⟩ := List.getElem?_eq_some_iff.mp g0
        exact hj ((List.getElem_inj hs.nd).mp (q1.trans q2.symm))
    · cases e
theorem ps_or {X : Cx} {s : Stmt} {t u : TS} (h1 : PS X s t) (h2 : PS X s u) : PS X s (fun D σ H => t D σ H ∨ u D σ H) :=
  ⟨fun pins s σ H D I q => q.elim (h1.run pins s σ H D I) (h2.run pins s σ H D I)⟩
theorem pe_or {X : Cx} {s : Expr} {t u : TE} (h1 : PE X s t) (h2 : PE X s u) : PE X s (fun σ H Q => t σ H Q ∨ u σ H Q) :=
  ⟨fun pins s σ H D I q => q.elim (h1.run pins s σ H D I) (h2.run pins s σ H D I)⟩
theorem sndS_lock {s : Stmt} {F : SS} (a : SE) (h : SndS G B k N sc s F) : SndS G B k N sc s (lockS a F) := by
  refine ⟨fun Φ Wx X g => PS.imp (ps_or (h.ps Φ Wx X g) (ps_lock (h.ps Φ Wx X g))) fun D σ H ⟨ρ, env, st, he, hs, q⟩ => ?_⟩
  unfold lockS at q
  split at q
  · rename_i p ep
    obtain ⟨d, kws, e1, h1, hin⟩ := lock_in hs (lockAt_ok ep)
    refine .inr ⟨d, _, h1, trivial, fun od => ⟨ρ, env, _, he.mono (List.prefix_refl _) (hin od).1, (hin od).2, ?_⟩⟩
    cases ef : F Φ env (st.set p.1 (.ldct p.2)) with
    | nx env' st' =>
      rw [ef] at q
      simp only [SOut.unl] at q
      split at q
      · rename_i st2 eu
        intro ρ' H' σ' hr kp he' hs'
        obtain ⟨g1, g2, g3, g4⟩ := lock_out hr e1 h1 kp hs' eu
        exact ⟨g1, q ρ' _ σ' hr g2 (he'.mono0 (List.prefix_refl _) g3) g4⟩
      · exact q.elim
    | rt w st' =>
      rw [ef] at q
      simp only [SOut.unl] at q
      split at q
      · rename_i st2 eu
        intro ρ' H' v hr kp hs' r'
        obtain ⟨g1, g2, g3, g4⟩ := lock_out hr e1 h1 kp hs' eu
        exact ⟨g1, q ρ' _ v hr g2 g4 (r'.mono0 (List.prefix_refl _) g3)⟩
      · exact q.elim
    | bk env' st' =>
      rw [ef] at q
      simp only [SOut.unl] at q
      split at q
      · rename_i st2 eu
        intro ρ' H' σ' hr kp he' hs'
        obtain ⟨g1, g2, g3, g4⟩ := lock_out hr e1 h1 kp hs' eu
        exact ⟨g1, q ρ' _ σ' hr g2 (he'.mono0 (List.prefix_refl _) g3) g4⟩
      · exact q.elim
    | ct env' st' =>
      rw [ef] at q
      simp only [SOut.unl] at q
      split at q
      · rename_i st2 eu
        intro ρ' H' σ' hr kp he' hs'
        obtain ⟨g1, g2, g3, g4⟩ := lock_out hr e1 h1 kp hs' eu
        exact ⟨g1, q ρ' _ σ' hr g2 (he'.mono0 (List.prefix_refl _) g3) g4⟩
      · exact q.elim
    | er x env' st' =>
      rw [ef] at q
      intro ρ' H' σ' cls dd hr kp
      exact q ρ' H' σ' cls dd hr ((hin od).1.trans kp)
    | bad => rw [ef] at q; exact q.elim
  · exact .inl ⟨ρ, env, st, he, hs, q⟩
theorem snd_lock {e : Expr} {F : SE} (a : SE) (h : Snd G B k N sc e F) : Snd G B k N sc e (lockE a F) := by
  refine ⟨fun Φ Wx X g => PE.imp (pe_or (h.pe Φ Wx X g) (pe_lock (h.pe Φ Wx X g))) fun σ H Q ⟨ρ, env, st, he, hs, q⟩ => ?_⟩
  unfold lockE at q
  split at q
  · rename_i p ep
    obtain ⟨d, kws, e1, h1, hin⟩ := lock_in hs (lockAt_ok ep)
    refine .inr ⟨d, _, h1, trivial, fun od => ⟨ρ, env, _, he.mono (List.prefix_refl _) (hin od).1, (hin od).2, ?_⟩⟩
    cases ef : F Φ env (st.set p.1 (.ldct p.2)) with
    | ok w st' =>
      rw [ef] at q
      simp only [Out.unl] at q
      split at q
      · rename_i st2 eu
        intro ρ' H' v hr kp hs' r'
        obtain ⟨g1, g2, g3, g4⟩ := lock_out hr e1 h1 kp hs' eu
        exact ⟨g1, q ρ' _ v hr g2 g4 (r'.mono0 (List.prefix_refl _) g3)⟩
      · exact q.elim
    | er x st' =>
      rw [ef] at q
      intro ρ' H' cls dd hr kp
      exact q ρ' H' cls dd hr ((hin od).1.trans kp)
    | bad => rw [ef] at q; exact q.elim
  · exact .inl ⟨ρ, env, st, he, hs, q⟩
end
end Zf
/-! methods of texts; reverse, clear, extend, insert, index of lists -/
namespace Zf
open PySem L2
open PyProof.Rows hiding St

section
variable {B : Bk} {X : Cx}
/-! ### of a text alone -/
def str0L (g : Str → Option W) : W → List W → Store → Opt := fun a as st => match a, as with
  | .str s, [] => (g s).map fun w => (w, st)
  | _, _ => none
def str0M (g : Str → Option W) : WM := fun kd => match kd with
  | .str => some (str0L g)
  | _ => none
theorem mw_str0 {name : Str} {id : String} {g : Str → Option W} {C : Str → Prop} {gv : Str → V} (h1 : Slot "str" name id) (h2 : typeOf (.builtin id) = pure (.type "method_descriptor"))
    (rule : MtR X id fun x xs H Q => ∃ a, x = .str a ∧ xs = [] ∧ C a ∧ Q (gv a) H) (hg : ∀ a w, g a = some w → C a ∧ ∀ ρ H, RW B ρ H (gv a) w) : MethW B X name (str0M g) := by
  refine ⟨fun kd f e => ?_⟩
  cases kd <;> simp only [str0M, Option.some.injEq, reduceCtorEq] at e
  subst e
  refine ⟨id, PySem.F.plainAttrs_str, h1, h2, fun pins s σ H x xs v us Q ρ st a as I rx rxs hs ra ras q => ?_⟩
  cases ra with
  | str z =>
    cases ras with
    | cons _ _ => exact q.elim
    | nil =>
      simp only [str0L] at q
      cases ew : g z with
      | none => rw [ew] at q; exact q.elim
      | some w =>
        rw [ew] at q
        obtain ⟨c, r⟩ := hg z w ew
        exact rule pins s σ H _ _ v us Q I rx rxs ⟨z, rfl, rfl, c, post_here q hs (r _ _)⟩
  | _ => exact q.elim
def okL (n : Nat) (g : Str → Str) : Str → Option W := fun a => if a.length ≤ n then some (.str (g a)) else none
theorem okL_r {n : Nat} {g : Str → Str} {a : Str} {w : W} (h : okL n g a = some w) : a.length ≤ n ∧ ∀ ρ H, RW B ρ H (.str (g a)) w := by
  unfold okL at h
  split at h
  · rename_i hl; cases h; exact ⟨hl, fun _ _ => .str _⟩
  · cases h
def stripM : WM := str0M (okL slBound Txt.strip)
def lstripM : WM := str0M (okL slBound Txt.lstrip)
def rstripM : WM := str0M (okL slBound Txt.rstrip)
def lowerM : WM := str0M (okL 5592405 Txt.lower)
def upperM : WM := str0M (okL 5592405 Txt.upper)
def isdigitM : WM := str0M fun a => some (.bl (Txt.isdigit a))
def isalphaM : WM := str0M fun a => some (.bl (Txt.isalpha a))
def isalnumM : WM := str0M fun a => some (.bl (Txt.isalnum a))
def isspaceM : WM := str0M fun a => some (.bl (Txt.isspace a))
theorem mw_strip : MethW B X "strip" stripM := mw_str0 PySem.F.slot_str_strip PySem.F.type_str_strip mt_strip fun a w h => by have := okL_r (B := B) h; rw [← slBound_eq]; exact this
theorem mw_lstrip : MethW B X "lstrip" lstripM := mw_str0 PySem.F.slot_str_lstrip PySem.F.type_str_lstrip mt_lstrip fun a w h => by have := okL_r (B := B) h; rw [← slBound_eq]; exact this
theorem mw_rstrip : MethW B X "rstrip" rstripM := mw_str0 PySem.F.slot_str_rstrip PySem.F.type_str_rstrip mt_rstrip fun a w h => by have := okL_r (B := B) h; rw [← slBound_eq]; exact this
theorem mw_lower : MethW B X "lower" lowerM := mw_str0 PySem.F.slot_str_lower PySem.F.type_str_lower mt_lower fun a w h => okL_r h
theorem mw_upper : MethW B X "upper" upperM := mw_str0 PySem.F.slot_str_upper PySem.F.type_str_upper mt_upper fun a w h => okL_r h
theorem mw_isdigit : MethW B X "isdigit" isdigitM := mw_str0 PySem.F.slot_str_isdigit PySem.F.type_str_isdigit mt_isdigit fun a w h => by cases h; exact ⟨trivial, fun _ _ => .bl _⟩
theorem mw_isalpha : MethW B X "isalpha" isalphaM := mw_str0 PySem.F.slot_str_isalpha PySem.F.type_str_isalpha mt_isalpha fun a w h => by cases h; exact ⟨trivial, fun _ _ => .bl _⟩
theorem mw_isalnum : MethW B X "isalnum" isalnumM := mw_str0 PySem.F.slot_str_isalnum PySem.F.type_str_isalnum mt_isalnum fun a w h => by cases h; exact ⟨trivial, fun _ _ => .bl _⟩
theorem mw_isspace : MethW B X "isspace" isspaceM := mw_str0 PySem.F.slot_str_isspace PySem.F.type_str_isspace mt_isspace fun a w h => by cases h; exact ⟨trivial, fun _ _ => .bl _⟩

/-! ### of two texts -/
def str1L (g : Str → Str → W) : W → List W → Store → Opt := fun a as st => match a, as with
  | .str s, [.str z] => some (g s z, st)
  | _, _ => none
def str1M (g : Str → Str → W) : WM := fun kd => match kd with
  | .str => some (str1L g)
  | _ => none
theorem mw_str1 {name : Str} {id : String} {g : Str → Str → W} {gv : Str → Str → V} (h1 : Slot "str" name id) (h2 : typeOf (.builtin id) = pure (.type "method_descriptor"))
    (rule : MtR X id fun x xs H Q => ∃ a b, x = .str a ∧ xs = [.str b] ∧ Q (gv a b) H) (hg : ∀ a b ρ H, RW B ρ H (gv a b) (g a b)) : MethW B X name (str1M g) := by
  refine ⟨fun kd f e => ?_⟩
  cases kd <;> simp only [str1M, Option.some.injEq, reduceCtorEq] at e
  subst e
  refine ⟨id, PySem.F.plainAttrs_str, h1, h2, fun pins s σ H x xs v us Q ρ st a as I rx rxs hs ra ras q => ?_⟩
  cases ra with
  | str z =>
    cases ras with
    | nil => exact q.elim
    | @cons y ys w ws' r1 r2 =>
      cases r2 with
      | cons _ _ => cases r1 <;> exact q.elim
      | nil =>
        cases r1 with
        | str b => exact rule pins s σ H _ _ v us Q I rx rxs ⟨z, b, rfl, rfl, post_here q hs (hg _ _ _ _)⟩
        | _ => exact q.elim
  | _ => exact q.elim
def startsM : WM := str1M fun a b => .bl (Txt.startswith a b)
def endsM : WM := str1M fun a b => .bl (Txt.endswith a b)
def findM : WM := str1M fun a b => .int (Txt.find a b)
theorem mw_starts : MethW B X "startswith" startsM := mw_str1 PySem.F.slot_str_startswith PySem.F.type_str_startswith mt_startswith fun _ _ _ _ => .bl _
theorem mw_ends : MethW B X "endswith" endsM := mw_str1 PySem.F.slot_str_endswith PySem.F.type_str_endswith mt_endswith fun _ _ _ _ => .bl _
theorem mw_find : MethW B X "find" findM := mw_str1 PySem.F.slot_str_find PySem.F.type_str_find mt_find fun _ _ _ _ => .int _

/-! ### split -/
def splitL : W → List W → Store → Opt := fun a as st => match a, as with
  | .str s, [] => if s.length + 2 ≤ slBound then some (.ref st.length, st ++ [.lst ((Txt.words s).map .str)]) else none
  | .str s, [.str z] => if (z.length == 0) = false ∧ s.length + 2 ≤ slBound then some (.ref st.length, st ++ [.lst ((Txt.split s z).map .str)]) else none
  | _, _ => none
def splitM : WM := fun kd => match kd with
  | .str => some splitL
  | _ => none
theorem rws_strs {ρ : List Addr} {H : Hp} : ∀ ss : List Str, RWs B ρ H (ss.map V.str) (ss.map W.str)
  | [] => .nil
  | _ :: r => .cons (.str _) (rws_strs r)
theorem mw_split : MethW B X "split" splitM := by
  refine ⟨fun kd f e => ?_⟩
  cases kd <;> simp only [splitM, Option.some.injEq, reduceCtorEq] at e
  subst e
  refine ⟨"str.split", PySem.F.plainAttrs_str, PySem.F.slot_str_split, PySem.F.type_str_split, fun pins s σ H x xs v us Q ρ st a as I rx rxs hs ra ras q => ?_⟩
  cases ra with
  | str z =>
    cases ras with
    | nil =>
      simp only [splitL] at q
      split at q
      · rename_i hl
        exact mt_words pins s σ H _ _ v us Q I rx rxs ⟨z, rfl, rfl, by rw [← slBound_eq]; exact hl, end_lst q hs (rws_strs _)⟩
      · exact q.elim
    | @cons y ys w ws' r1 r2 =>
      cases r2 with
      | cons _ _ => cases r1 <;> exact q.elim
      | nil =>
        cases r1 with
        | str b =>
          simp only [splitL] at q
          split at q
          · rename_i hl
            exact mt_split pins s σ H _ _ v us Q I rx rxs ⟨z, b, rfl, rfl, hl.1, by rw [← slBound_eq]; exact hl.2, end_lst q hs (rws_strs _)⟩
          · exact q.elim
        | _ => exact q.elim
  | _ => exact q.elim

/-! ### lists -/
def revL : W → List W → Store → Opt := fun a as st => match a, as with
  | .ref n, [] => (lstAt (.ref n) st).map fun ws => (.non, st.set n (.lst ws.reverse))
  | _, _ => none
def revM : WM := fun kd => match kd with
  | .list => some revL
  | _ => none
theorem mw_rev : MethW B X "reverse" revM := by
  refine ⟨fun kd f e => ?_⟩
  cases kd <;> simp only [revM, Option.some.injEq, reduceCtorEq] at e
  subst e
  refine ⟨"list.reverse", PySem.F.plainAttrs_list, PySem.F.slot_list_reverse, PySem.F.type_list_reverse, fun pins s σ H x xs v us Q ρ st a as I rx rxs hs ra ras q => ?_⟩
  cases ra with
  | @ref p n en =>
    cases ras with
    | cons _ _ => exact q.elim
    | nil =>
      simp only [revL] at q
      cases e0 : lstAt (.ref n) st with
      | none => rw [e0] at q; exact q.elim
      | some ws =>
        rw [e0] at q
        obtain ⟨_, _, vs, ew, ev, e3, _, h1, h2⟩ := lstAt_r hs (.ref en) e0
        cases ew; cases ev
        exact mt_reverse pins s σ H _ _ v us Q I rx rxs ⟨p, vs, rfl, rfl, h1, end_set q hs en h2.rev .non h1⟩
  | _ => exact q.elim
def clrL : W → List W → Store → Opt := fun a as st => match a, as with
  | .ref n, [] => (lstAt (.ref n) st).map fun _ => (.non, st.set n (.lst []))
  | _, _ => none
def clrM : WM := fun kd => match kd with
  | .list => some clrL
  | _ => none
theorem mw_clr : MethW B X "clear" clrM := by
  refine ⟨fun kd f e => ?_⟩
  cases kd <;> simp only [clrM, Option.some.injEq, reduceCtorEq] at e
  subst e
  refine ⟨"list.clear", PySem.F.plainAttrs_list, PySem.F.slot_list_clear, PySem.F.type_list_clear, fun pins s σ H x xs v us Q ρ st a as I rx rxs hs ra ras q => ?_⟩
  cases ra with
  | @ref p n en =>
    cases ras with
    | cons _ _ => exact q.elim
    | nil =>
      simp only [clrL] at q
      cases e0 : lstAt (.ref n) st with
      | none => rw [e0] at q; exact q.elim
      | some ws =>
        rw [e0] at q
        obtain ⟨_, _, vs, ew, ev, e3, _, h1, h2⟩ := lstAt_r hs (.ref en) e0
        cases ew; cases ev
        exact mt_clear pins s σ H _ _ v us Q I rx rxs ⟨p, vs, rfl, rfl, h1, end_set q hs en .nil .non h1⟩
  | _ => exact q.elim
def extL : W → List W → Store → Opt := fun a as st => match a, as with
  | .ref n, [.ref m] => match lstAt (.ref n) st, lstAt (.ref m) st with
    | some ws, some xs => if ws.length + xs.length ≤ slBound then some (.non, st.set n (.lst (ws ++ xs))) else none
    | _, _ => none
  | _, _ => none
def extM : WM := fun kd => match kd with
  | .list => some extL
  | _ => none
theorem mw_ext : MethW B X "extend" extM := by
  refine ⟨fun kd f e => ?_⟩
  cases kd <;> simp only [extM, Option.some.injEq, reduceCtorEq] at e
  subst e
  refine ⟨"list.extend", PySem.F.plainAttrs_list, PySem.F.slot_list_extend, PySem.F.type_list_extend, fun pins s σ H x xs v us Q ρ st a as I rx rxs hs ra ras q => ?_⟩
  cases ra with
  | @ref p n en =>
    cases ras with
    | nil => exact q.elim
    | @cons y ys w ws' r1 r2 =>
      cases r2 with
      | cons _ _ => cases r1 <;> exact q.elim
      | nil =>
        cases r1 with
        | @ref p2 m em =>
          simp only [extL] at q
          split at q
          · rename_i ws xs e0 e1
            split at q
            · rename_i hl
              obtain ⟨_, _, vs, ew, ev, e3, _, h1, h2⟩ := lstAt_r hs (.ref en) e0
              cases ew; cases ev
              obtain ⟨_, _, vs2, ew, ev, e4, _, h3, h4⟩ := lstAt_r hs (.ref em) e1
              cases ew; cases ev
              exact mt_extend pins s σ H _ _ v us Q I rx rxs ⟨p, p2, vs, vs2, rfl, rfl, h1, h3, by rw [h2.length, h4.length, ← slBound_eq]; exact hl, end_set q hs en (h2.app h4) .non h1⟩
            · exact q.elim
          · exact q.elim
        | _ => exact q.elim
  | _ => exact q.elim
def insL : W → List W → Store → Opt := fun a as st => match a, as with
  | .ref n, [.int i, y] => match lstAt (.ref n) st with
    | some ws => if ws.length < slBound ∧ 0 ≤ i ∧ i < 2 ^ 63 then some (.non, st.set n (.lst (ws.take i.toNat ++ [y] ++ ws.drop i.toNat))) else none
    | none => none
  | _, _ => none
def insM : WM := fun kd => match kd with
  | .list => some insL
  | _ => none
theorem mw_ins : MethW B X "insert" insM := by
  refine ⟨fun kd f e => ?_⟩
  cases kd <;> simp only [insM, Option.some.injEq, reduceCtorEq] at e
  subst e
  refine ⟨"list.insert", PySem.F.plainAttrs_list, PySem.F.slot_list_insert, PySem.F.type_list_insert, fun pins s σ H x xs v us Q ρ st a as I rx rxs hs ra ras q => ?_⟩
  cases ra with
  | @ref p n en =>
    cases ras with
    | nil => exact q.elim
    | @cons y ys w ws' r1 r2 =>
      cases r2 with
      | nil => cases r1 <;> exact q.elim
      | @cons y2 ys2 w2 ws2 r3 r4 =>
        cases r4 with
        | cons _ _ => cases r1 <;> exact q.elim
        | nil =>
          cases r1 with
          | int i =>
            simp only [insL] at q
            split at q
            · rename_i ws e0
              split at q
              · rename_i hl
                obtain ⟨_, _, vs, ew, ev, e3, _, h1, h2⟩ := lstAt_r hs (.ref en) e0
                cases ew; cases ev
                exact mt_insert pins s σ H _ _ v us Q I rx rxs ⟨p, vs, i, y2, rfl, rfl, h1, by rw [h2.length]; exact slb' hl.1, hl.2.1, hl.2.2, end_set q hs en (((h2.take _).app (.cons r3 .nil)).app (h2.drop _)) .non h1⟩
              · exact q.elim
            · exact q.elim
          | _ => exact q.elim
  | _ => exact q.elim
def idxL : W → List W → Store → Opt := fun a as st => match as with
  | [x] => match (lstOf a st).bind (itemsD st), datum st x with
    | some ds, some d => if SeqAt.shaped (.list ds) = true ∧ SeqAt.shaped d = true then (ds.findIdx? fun y => PyData.eqv y d).map fun (j : Nat) => (.int (j : Int), st) else none
    | _, _ => none
  | _ => none
def idxM : WM := fun kd => match kd with
  | .list => some idxL
  | _ => none
theorem mw_idx {k : Nat} (hK : X.K = B.K) (hr : Room k X.A) : MethW B X "index" idxM := by
  refine ⟨fun kd f e => ?_⟩
  cases kd <;> simp only [idxM, Option.some.injEq, reduceCtorEq] at e
  subst e
  refine ⟨"list.index", PySem.F.plainAttrs_list, PySem.F.slot_list_index, PySem.F.type_list_index, fun pins s σ H x xs v us Q ρ st a as I rx rxs hs ra ras q => ?_⟩
  cases ras with
  | nil => exact q.elim
  | @cons y ys w ws' r1 r2 =>
    cases r2 with
    | cons _ _ => exact q.elim
    | nil =>
      simp only [idxL] at q
      split at q
      · rename_i ds d e1 e2
        split at q
        · rename_i hz
          cases ej : ds.findIdx? fun y => PyData.eqv y d with
          | none => rw [ej] at q; exact q.elim
          | some j =>
            rw [ej] at q
            obtain ⟨ws, e3, e4⟩ := Option.bind_eq_some_iff.mp e1
            obtain ⟨p, vs, rfl, h1, h2⟩ := lstOf_r hs ra e3
            obtain ⟨hj, hit, hno⟩ := List.findIdx?_eq_some_iff_getElem.mp ej
            refine mt_indexD (by have := hr.un; omega) pins s σ H _ _ v us Q I rx rxs ⟨p, y, d, ds, j, ds[j], rfl, rfl, ?_, ?_, hz.1, hz.2, List.getElem?_eq_getElem hj, hit, fun m z' hm hz' => ?_, post_here q hs (.int _)⟩
            · rw [hK]; exact .lst h1 (toDs_dp hs (refD_dp hs 19) h2 e4)
            · rw [hK]; exact datum_dp hs r1 e2
            · obtain ⟨hl, e⟩ := List.getElem?_eq_some_iff.mp hz'
              subst e
              simpa using hno m hm
        · exact q.elim
      · exact q.elim
end
end Zf
namespace Zf
open PySem L2
open PyProof.Rows hiding St

/-! ### from text to what it does -/
section
variable (G : Glb) (N : List Str) (sc : Scope)
abbrev RE (e : Expr) := { F : SE // ∀ (B : Bk) (k : Nat), Snd G B k N sc e F }
abbrev RT (e : Expr) := { F : ST // ∀ (B : Bk) (k : Nat), SndT G B k N sc e F }
abbrev RL (es : List Expr) := { F : SL // ∀ (B : Bk) (k : Nat), SndL G B k N sc es F }
abbrev RK (es : List Keyword) := { F : SL // ∀ (B : Bk) (k : Nat), SndK G B k N sc es F }
abbrev RP (ks : List (Option Expr)) (vs : List Expr) := { F : SP' // ∀ (B : Bk) (k : Nat), SndP G B k N sc ks vs F }
abbrev RO (e : Option Expr) := { F : SO' // ∀ (B : Bk) (k : Nat), SndO G B k N sc e F }
abbrev RI (tg it : Expr) := { F : SI // ∀ (B : Bk) (k : Nat), SndI G B k N sc tg it F }
abbrev RG (t : Expr) := { F : SG // ∀ (B : Bk) (k : Nat), SndG G B k N sc true t F }
abbrev RGs (ts : List Expr) := { F : Phi → List W → Env → Store → SOut // ∀ (B : Bk) (k : Nat), SndGs G B k N sc true ts F }
abbrev RS (s : Stmt) := { F : SS // ∀ (B : Bk) (k : Nat), SndS G B k N sc s F }
abbrev RSs (s : List Stmt) := { F : SS // ∀ (B : Bk) (k : Nat), SndSs G B k N sc s F }
end
def badE : SE := fun _ _ _ => .bad
def badT : ST := fun _ _ _ => .bad
theorem snd_bad {G : Glb} {B : Bk} {k : Nat} {N : List Str} {sc : Scope} {e : Expr} : Snd G B k N sc e badE := ⟨fun Φ Wx X g => ⟨fun pins s σ H Q I ⟨_, _, _, _, _, q⟩ => q.elim⟩⟩
theorem sndT_bad {G : Glb} {B : Bk} {k : Nat} {N : List Str} {sc : Scope} {e : Expr} : SndT G B k N sc e badT := ⟨fun Φ Wx X g => ⟨fun pins s σ H Q I ⟨_, _, _, _, _, q⟩ => q.elim⟩⟩
def noE {G : Glb} {N : List Str} {sc : Scope} {e : Expr} : RE G N sc e := ⟨badE, fun _ _ => snd_bad⟩
def noT {G : Glb} {N : List Str} {sc : Scope} {e : Expr} : RT G N sc e := ⟨badT, fun _ _ => sndT_bad⟩
def noS {G : Glb} {N : List Str} {sc : Scope} {s : Stmt} : RS G N sc s := ⟨badS, fun _ _ => sndS_bad⟩
/-- a name's slot -/
def slot : (N : List Str) → (x : Str) → Option { i : Nat // N[i]? = some x }
  | [], _ => none
  | y :: r, x => if h : y = x then some ⟨0, by simp [h]⟩ else match slot r x with
    | some ⟨i, p⟩ => some ⟨i + 1, by simpa using p⟩
    | none => none
/-- a name's entry -/
def entry {α : Type} : (l : List (Str × α)) → (x : Str) → Option { a : α // (x, a) ∈ l }
  | [], _ => none
  | (y, a) :: r, x => if h : y = x then some ⟨a, by subst h; exact List.mem_cons_self⟩ else match entry r x with
    | some ⟨b, p⟩ => some ⟨b, List.mem_cons_of_mem _ p⟩
    | none => none
/-! ### tables -/
structure OpOk (op : Operator) (g : W2) : Prop where
  b : ∀ (B : Bk) (X : Cx), X.K = B.K → OpW B X (binaryOp op) g
def opOf : (op : Operator) → Option { g : W2 // OpOk op g }
  | .Add => some ⟨addW, ⟨fun _ _ h => ow_add h⟩⟩
  | .Sub => some ⟨subW, ⟨fun _ _ h => ow_sub h⟩⟩
  | .Mult => some ⟨mulW, ⟨fun _ _ h => ow_mul h⟩⟩
  | .Mod => some ⟨modW, ⟨fun _ _ h => ow_mod h⟩⟩
  | .FloorDiv => some ⟨divW, ⟨fun _ _ h => ow_div h⟩⟩
  | .Pow => some ⟨powW, ⟨fun _ _ h => ow_pow h⟩⟩
  | .LShift => some ⟨shlW, ⟨fun _ _ h => ow_shl h⟩⟩
  | .RShift => some ⟨shrW, ⟨fun _ _ h => ow_shr h⟩⟩
  | .BitAnd => some ⟨intW Builtin.bitAnd, ⟨fun _ _ h => ow_and h⟩⟩
  | .BitOr => some ⟨intW Builtin.bitOr, ⟨fun _ _ h => ow_or h⟩⟩
  | .BitXor => some ⟨intW Builtin.bitXor, ⟨fun _ _ h => ow_xor h⟩⟩
  | _ => none
structure CmOk (op : CmpOp) (g : W2) : Prop where
  b : ∀ (B : Bk) (k : Nat) (X : Cx), X.K = B.K → X.calm = true → Room k X.A → OpW B X (compareOp op) g
def cmOf : (op : CmpOp) → Option { g : W2 // CmOk op g }
  | .Eq => some ⟨eqW false, ⟨fun _ _ _ h c r => ow_eq h c r⟩⟩
  | .NotEq => some ⟨eqW true, ⟨fun _ _ _ h c r => ow_ne h c r⟩⟩
  | .Lt => some ⟨ltW, ⟨fun _ _ _ h c r => ow_lt h c r⟩⟩
  | .LtE => some ⟨leW, ⟨fun _ _ _ h c r => ow_le h c r⟩⟩
  | .Gt => some ⟨gtW, ⟨fun _ _ _ h c r => ow_gt h c r⟩⟩
  | .GtE => some ⟨geW, ⟨fun _ _ _ h c r => ow_ge h c r⟩⟩
  | .Is => some ⟨isNW false, ⟨fun _ _ _ h c r => ow_is h c r⟩⟩
  | .IsNot => some ⟨isNW true, ⟨fun _ _ _ h c r => ow_isNot h c r⟩⟩
  | .In => some ⟨inW false, ⟨fun _ _ _ h c r => ow_in h c r⟩⟩
  | .NotIn => some ⟨inW true, ⟨fun _ _ _ h c r => ow_notIn h c r⟩⟩
structure IpOk (op : Operator) (g : W2) : Prop where
  b : ∀ (B : Bk) (X : Cx), X.K = B.K → IpW B X op g
def ipOf : (op : Operator) → Option { g : W2 // IpOk op g }
  | .Add => some ⟨iaddW, ⟨fun _ _ h => ip_addW h⟩⟩
  | .Sub => some ⟨intW (· - ·), ⟨fun _ _ _ => ip_int iop_sub⟩⟩
  | .BitAnd => some ⟨intW Builtin.bitAnd, ⟨fun _ _ _ => ip_int iop_and⟩⟩
  | .BitOr => some ⟨intW Builtin.bitOr, ⟨fun _ _ _ => ip_int iop_or⟩⟩
  | .BitXor => some ⟨intW Builtin.bitXor, ⟨fun _ _ _ => ip_int iop_xor⟩⟩
  | _ => none
inductive BltOk (x : Str) (g : WL) : Prop
  | fn (id : String) (hv : bootBuiltins x = some (.builtin id)) (hc : ∀ (G : Glb) (B : Bk) (k : Nat) (N : List Str) (sc : Scope) (Φ : Phi) (Wx : WX) (X : Cx), GX G B Φ k N Wx sc X → CallW B X (.builtin id) g) : BltOk x g
  | ty (T : String) (hv : bootBuiltins x = some (.type T)) (hc : ∀ (G : Glb) (B : Bk) (k : Nat) (N : List Str) (sc : Scope) (Φ : Phi) (Wx : WX) (X : Cx), GX G B Φ k N Wx sc X → CallW B X (.type T) g) : BltOk x g
def bltTab : List (Str × WL) := [("len", un1 lenW), ("list", un1 listW), ("tuple", un1 tupleW), ("str", un1 strW), ("int", un1 intW1), ("abs", un1 absW), ("max", un2 max2W), ("min", un2 min2W), ("sum", un1 sumW), ("all", un1 allW), ("any", un1 anyW), ("repr", reprW), ("sorted", un1 sortedW), ("dict", un1 dictW)]
theorem bltTab_ok : ∀ p ∈ bltTab, BltOk p.1 p.2 := by
  intro p hp
  simp only [bltTab, List.mem_cons, List.not_mem_nil, or_false] at hp
  rcases hp with e | e | e | e | e | e | e | e | e | e | e | e | e | e <;> subst e
  · exact .fn "len" PySem.boot_len fun _ _ _ _ _ _ _ _ g => cw_len g.K
  · exact .ty "list" boot_list fun _ _ _ _ _ _ _ _ g => cw_list g.K
  · exact .ty "tuple" boot_tuple fun _ _ _ _ _ _ _ _ g => cw_tuple g.K
  · exact .ty "str" boot_str fun _ _ _ _ _ _ _ _ g => cw_str
  · exact .ty "int" boot_int fun _ _ _ _ _ _ _ _ g => cw_int
  · exact .fn "abs" boot_abs fun _ _ _ _ _ _ _ _ g => cw_abs
  · exact .fn "max" boot_max fun _ _ _ _ _ _ _ _ g => cw_max2 g.calm
  · exact .fn "min" boot_min fun _ _ _ _ _ _ _ _ g => cw_min2 g.calm
  · exact .fn "sum" boot_sum fun _ _ _ _ _ _ _ _ g => cw_sum g.K g.calm
  · exact .fn "all" boot_all fun _ _ _ _ _ _ _ _ g => cw_all g.K g.calm
  · exact .fn "any" boot_any fun _ _ _ _ _ _ _ _ g => cw_any g.K g.calm
  · exact .fn "repr" boot_repr fun _ _ _ _ _ _ _ _ g => let ⟨_, sm⟩ := g.gk.sm; cw_repr g.K g.room g.gd sm
  · exact .fn "sorted" boot_sorted fun _ _ _ _ _ _ _ _ g => let ⟨_, sm⟩ := g.gk.sm; cw_sorted g.K g.room sm
  · exact .ty "dict" boot_dict fun _ _ _ _ _ _ _ _ g => cw_dict g.K g.calm
structure MethOk (x : Str) (g : WM) : Prop where
  h : ∀ (G : Glb) (B : Bk) (k : Nat) (N : List Str) (sc : Scope) (Φ : Phi) (Wx : WX) (X : Cx), GX G B Φ k N Wx sc X → MethW B X x g
def methTab : List (Str × WM) := [("append", appendM), ("bit_length", bitsM), ("pop", popM), ("join", joinM), ("count", countM'), ("get", getM), ("remove", removeM), ("strip", stripM), ("lstrip", lstripM), ("rstrip", rstripM), ("lower", lowerM), ("upper", upperM), ("isdigit", isdigitM), ("isalpha", isalphaM), ("isalnum", isalnumM), ("isspace", isspaceM), ("startswith", startsM), ("endswith", endsM), ("find", findM), ("split", splitM), ("reverse", revM), ("clear", clrM), ("extend", extM), ("insert", insM), ("index", idxM)]
theorem methTab_ok : ∀ p ∈ methTab, MethOk p.1 p.2 := by
  intro p hp
  simp only [methTab, List.mem_cons, List.not_mem_nil, or_false] at hp
  rcases hp with e | e | e | e | e | e | e | e | e | e | e | e | e | e | e | e | e | e | e | e | e | e | e | e | e <;> subst e
  · exact ⟨fun _ _ _ _ _ _ _ _ g => mw_append g.K⟩
  · exact ⟨fun _ _ _ _ _ _ _ _ g => mw_bits⟩
  · exact ⟨fun _ _ _ _ _ _ _ _ g => mw_pop g.K⟩
  · exact ⟨fun _ _ _ _ _ _ _ _ g => mw_join g.K⟩
  · exact ⟨fun _ _ _ _ _ _ _ _ g => mw_count' g.K g.room⟩
  · exact ⟨fun _ _ _ _ _ _ _ _ g => mw_get (hu_room g.room)⟩
  · exact ⟨fun _ _ _ _ _ _ _ _ g => mw_remove g.K g.room⟩
  · exact ⟨fun _ _ _ _ _ _ _ _ g => mw_strip⟩
  · exact ⟨fun _ _ _ _ _ _ _ _ g => mw_lstrip⟩
  · exact ⟨fun _ _ _ _ _ _ _ _ g => mw_rstrip⟩
  · exact ⟨fun _ _ _ _ _ _ _ _ g => mw_lower⟩
  · exact ⟨fun _ _ _ _ _ _ _ _ g => mw_upper⟩
  · exact ⟨fun _ _ _ _ _ _ _ _ g => mw_isdigit⟩
  · exact ⟨fun _ _ _ _ _ _ _ _ g => mw_isalpha⟩
  · exact ⟨fun _ _ _ _ _ _ _ _ g => mw_isalnum⟩
  · exact ⟨fun _ _ _ _ _ _ _ _ g => mw_isspace⟩
  · exact ⟨fun _ _ _ _ _ _ _ _ g => mw_starts⟩
  · exact ⟨fun _ _ _ _ _ _ _ _ g => mw_ends⟩
  · exact ⟨fun _ _ _ _ _ _ _ _ g => mw_find⟩
  · exact ⟨fun _ _ _ _ _ _ _ _ g => mw_split⟩
  · exact ⟨fun _ _ _ _ _ _ _ _ g => mw_rev⟩
  · exact ⟨fun _ _ _ _ _ _ _ _ g => mw_clr⟩
  · exact ⟨fun _ _ _ _ _ _ _ _ g => mw_ext⟩
  · exact ⟨fun _ _ _ _ _ _ _ _ g => mw_ins⟩
  · exact ⟨fun _ _ _ _ _ _ _ _ g => mw_idx g.K g.room⟩
end Zf
namespace Zf
open PySem L2
open PyProof.Rows hiding St

/-- a place in the text -/
noncomputable def posN (p : Pos) : Nat := ((p.line * 4096 + p.col) * 4096 + p.endLine) * 4096 + p.endCol
noncomputable def fzE {G : Glb} {N : List Str} {sc : Scope} {e : Expr} (r : RE G N sc e) : RE G N sc e := if G.fz.contains (posN e.pos) = true then ⟨frzF r.1, fun B k => snd_frz (r.2 B k)⟩ else r
section
variable (G : Glb) (N : List Str)
structure Cmp where
  e : ∀ (sc : Scope) (x : Expr), RE G N sc x
  t : ∀ (sc : Scope) (x : Expr), RT G N sc x
  l : ∀ (sc : Scope) (x : Expr), RE (noMk G) N sc x
variable {G N}
section
variable (c : Cmp G N) (sc : Scope)
noncomputable def cL : (es : List Expr) → Option (RL G N sc es)
  | [] => some ⟨nilL, fun _ _ => sndL_nil⟩
  | a :: r => if h : noStar a = true then match cL r with
      | some ⟨fr, hr⟩ => some ⟨consL (c.e sc a).1 fr, fun B k => sndL_cons h ((c.e sc a).2 B k) (hr B k)⟩
      | none => none
    else none
noncomputable def cK : (es : List Keyword) → RK G N sc es
  | [] => ⟨nilL, fun _ _ => sndK_nil⟩
  | ⟨nm, a, p⟩ :: r => ⟨consL (c.e sc a).1 (cK r).1, fun B k => sndK_cons ((c.e sc a).2 B k) ((cK r).2 B k)⟩
noncomputable def cP : (ks : List (Option Expr)) → (vs : List Expr) → Option (RP G N sc ks vs)
  | [], [] => some ⟨nilP, fun _ _ => sndP_nil⟩
  | some a :: ks, v :: vs => match cP ks vs with
    | some ⟨fr, hr⟩ => some ⟨consP (c.e sc a).1 (c.e sc v).1 fr, fun B k => sndP_cons ((c.e sc a).2 B k) ((c.e sc v).2 B k) (hr B k)⟩
    | none => none
  | _, _ => none
noncomputable def cO : (e : Option Expr) → RO G N sc e
  | none => ⟨noPart, fun _ _ => sndO_none⟩
  | some a => ⟨somePart (c.e sc a).1, fun B k => sndO_some ((c.e sc a).2 B k)⟩
noncomputable def cAnd (pos : Pos) : (es : List Expr) → Option (RE G N sc (.BoolOp .And es pos))
  | [] => none
  | [a] => some ⟨(c.e sc a).1, fun B k => snd_one ((c.e sc a).2 B k)⟩
  | a :: b :: r => match cAnd pos (b :: r) with
    | some ⟨fr, hr⟩ => some ⟨andF (c.e sc a).1 fr, fun B k => snd_and ((c.e sc a).2 B k) (hr B k)⟩
    | none => none
noncomputable def cOr (pos : Pos) : (es : List Expr) → Option (RE G N sc (.BoolOp .Or es pos))
  | [] => none
  | [a] => some ⟨(c.e sc a).1, fun B k => snd_one ((c.e sc a).2 B k)⟩
  | a :: b :: r => match cOr pos (b :: r) with
    | some ⟨fr, hr⟩ => some ⟨orF (c.e sc a).1 fr, fun B k => snd_or ((c.e sc a).2 B k) (hr B k)⟩
    | none => none
abbrev RW' (e : Expr) := { F : ST // ∀ (B : Bk) (k : Nat), SndW G B k N sc e F }
noncomputable def cAndT (pos : Pos) : (es : List Expr) → Option (RW' (G := G) (N := N) sc (.BoolOp .And es pos))
  | [] => none
  | [a] => some ⟨(c.t sc a).1, fun B k => sndW_and1 ((c.t sc a).2 B k)⟩
  | a :: b :: r => match cAndT pos (b :: r) with
    | some ⟨fr, hr⟩ => some ⟨andT (c.t sc a).1 fr, fun B k => sndW_and ((c.t sc a).2 B k) (hr B k)⟩
    | none => none
noncomputable def cOrT (pos : Pos) : (es : List Expr) → Option (RW' (G := G) (N := N) sc (.BoolOp .Or es pos))
  | [] => none
  | [a] => some ⟨(c.t sc a).1, fun B k => sndW_or1 ((c.t sc a).2 B k)⟩
  | a :: b :: r => match cOrT pos (b :: r) with
    | some ⟨fr, hr⟩ => some ⟨orT (c.t sc a).1 fr, fun B k => sndW_or ((c.t sc a).2 B k) (hr B k)⟩
    | none => none
/-- a call's def and shape -/
noncomputable def findFn (fs : List FnI) (x : Str) : Option { p : Nat × FnI // fs[p.1]? = some p.2 ∧ p.2.name = x } := match fs with
  | [] => none
  | f :: r => if h : f.name = x then some ⟨(0, f), by simp [h]⟩ else match findFn r x with
    | some ⟨(i, g), p⟩ => some ⟨(i + 1, g), by simpa using p⟩
    | none => none
noncomputable def findSh (l : List Shape) (i n : Nat) (ks : List Str) : Option { c : Shape // c ∈ l ∧ c.fn = i ∧ c.ks = ks } := match l with
  | [] => none
  | s :: r => if h : s.fn = i ∧ s.npos = n ∧ s.ks = ks then some ⟨s, List.mem_cons_self, h.1, h.2.2⟩ else match findSh r i n ks with
    | some ⟨s', p⟩ => some ⟨s', List.mem_cons_of_mem _ p.1, p.2⟩
    | none => none
noncomputable def cCall (x : Str) (p : Pos) (es : List Expr) (kws : List Keyword) (pos : Pos) : Option (RE G N sc (.Call (.Name x p) es kws pos)) :=
  match findFn G.fns x with
  | none => none
  | some ⟨(i, f), hp⟩ => match hks : kwNm kws with
    | none => none
    | some ks => match findSh G.shapes i es.length ks with
      | none => none
      | some ⟨s, hs⟩ => if hc : s.src.length = f.ps.length ∧ glbB sc x = true ∧ notDbg x = true then
          have ok : CallOk G sc x i f s := ⟨hp.1, hp.2, hs.1, hs.2.1, hc.1, hc.2.1, hc.2.2⟩
          match es, kws, hks with
          | [], [], e => some ⟨callF i s nilL nilL, fun B k => snd_call0 ok (by rw [hs.2.2]; cases e; rfl)⟩
          | [], kw :: kr, e => some ⟨callF i s nilL (cK c sc (kw :: kr)).1, fun B k => snd_callK0 ok (by rw [hs.2.2]; exact e) ((cK c sc (kw :: kr)).2 B k)⟩
          | a :: r, [], e => if hn : (a :: r).all noStar = true then match cL c sc (a :: r) with
              | some ⟨fl, hl⟩ => some ⟨callF i s fl nilL, fun B k => snd_call ok (by rw [hs.2.2]; cases e; rfl) hn (hl B k)⟩
              | none => none
            else none
          | a :: r, kw :: kr, e => if hn : (a :: r).all noStar = true then match cL c sc (a :: r) with
              | some ⟨fl, hl⟩ => some ⟨callF i s fl (cK c sc (kw :: kr)).1, fun B k => snd_callK ok (by rw [hs.2.2]; exact e) hn (hl B k) ((cK c sc (kw :: kr)).2 B k)⟩
              | none => none
            else none
        else none
/-- a lambda's parameters -/
noncomputable def parOf : (a : Arguments) → Option { l : List (Str × Int) // ParD a l }
  | { posonlyargs := [], args := [], vararg := .none, kwonlyargs := [], kw_defaults := [], kwarg := .none, defaults := [] } => some ⟨[], .none⟩
  | { posonlyargs := [], args := [{ arg := a, annotation := .none, pos := p1 }], vararg := .none, kwonlyargs := [], kw_defaults := [], kwarg := .none, defaults := [.Constant (.int i) j p2] } => some ⟨[(a, i)], .one⟩
  | _ => none
noncomputable def cLam (x : Str) (p : Pos) (es : List Expr) (pos : Pos) : Option (RE G N sc (.Call (.Name x p) es [] pos)) := match es with
  | [.Lambda params body scope lpos] => match findFn G.fns x, parOf params with
    | some ⟨(i, f), hp⟩, some ⟨l, hl⟩ => match findSh G.shapes i 1 [] with
      | some ⟨s, hs⟩ => if h : (s.src.length = f.ps.length ∧ glbB sc x = true ∧ notDbg x = true) ∧ (s.npos = 1 ∧ s.src = [0]) ∧ N ∈ G.mks ∧ lamNB N sc scope l = true then
          some ⟨lamF i (c.l scope body).1, fun B k => snd_lam (c := s) ⟨⟨hp.1, hp.2, hs.1, hs.2.1, h.1.1, h.1.2.1, h.1.2.2⟩, h.2.1.1, hs.2.2, h.2.1.2, h.2.2.1, lamN_by h.2.2.2, hl⟩ fun k2 => (c.l scope body).2 B k2⟩ else none
      | none => none
    | _, _ => none
  | _ => none
/-- which class a name means -/
noncomputable def findCl (x : Str) : Option { cl : Cl // ClN G sc x cl } :=
  if h : glbB sc x = true ∧ notDbg x = true ∧ x ≠ ("__name__" : Str) then match entry tyNamed x with
    | some ⟨t, ht⟩ => if hb : x ∈ G.blt then some ⟨.ty t, h.1, h.2.1, h.2.2, ht, hb⟩ else none
    | none => match slot G.excs x with
      | some ⟨i, hi⟩ => some ⟨.own i, h.1, h.2.1, h.2.2, hi⟩
      | none => match findPy G.pys x with
        | some ⟨j, hj⟩ => some ⟨.py j, h.1, h.2.1, h.2.2, hj⟩
        | none => none
  else none
where findPy : (l : List (Str × String × List Bool)) → (x : Str) → Option { j : Nat // ∃ T b, l[j]? = some (x, T, b) }
  | [], _ => none
  | (y, T, b) :: r, x => if h : y = x then some ⟨0, T, b, by simp [h]⟩ else match findPy r x with
    | some ⟨j, hj⟩ => some ⟨j + 1, by simpa using hj⟩
    | none => none
noncomputable def findCls : (es : List Expr) → Option { cs : List Cl // ClNs G sc es cs }
  | [] => some ⟨[], .nil⟩
  | .Name x px :: r => match findCl (G := G) sc x, findCls r with
    | some ⟨a, ha⟩, some ⟨b, hb⟩ => some ⟨a :: b, .cons ha hb⟩
    | _, _ => none
  | _ => none
noncomputable def cIsi (x : Str) (p : Pos) (es : List Expr) (pos : Pos) : Option (RE G N sc (.Call (.Name x p) es [] pos)) :=
  if hx : x = "isinstance" then if hg : glbB sc "isinstance" = true ∧ ("isinstance" : Str) ∈ G.blt then
    match es with
    | [a, .Name y py] => if hn : noStar a = true then match findCl (G := G) sc y with
        | some ⟨cl, hcl⟩ => some ⟨isiF G cl (c.e sc a).1, fun B k => by subst hx; exact snd_isi hg.1 hg.2 hn hcl ((c.e sc a).2 B k)⟩
        | none => none
      else none
    | [a, .Tuple ts j pt] => if hn : noStar a = true ∧ ts.length ≤ 100 then match findCls (G := G) sc ts with
        | some ⟨cl, hcl⟩ => some ⟨isiFT G cl (c.e sc a).1, fun B k => by subst hx; exact snd_isiT hg.1 hg.2 hn.1 hcl (Nat.le_trans hn.2 (by decide)) ((c.e sc a).2 B k)⟩
        | none => none
      else none
    | _ => none
  else none else none
noncomputable def cLrg (x : Str) (p : Pos) (es : List Expr) (pos : Pos) : Option (RE G N sc (.Call (.Name x p) es [] pos)) := match es with
  | [.Call (.Name r p2) as [] pos2] => if hr : r = "range" then
      if hx : x = "list" then if h : (glbB sc "list" = true ∧ ("list" : Str) ∈ G.blt) ∧ glbB sc "range" = true ∧ ("range" : Str) ∈ G.blt then match as with
        | [a] => if hn : noStar a = true then some ⟨lrgF1 false (c.e sc a).1, fun B k => by subst hr hx; exact snd_lrg1 ⟨h.1.1, h.1.2, h.2.1, h.2.2⟩ hn ((c.e sc a).2 B k)⟩ else none
        | [a, b] => if hn : noStar a = true ∧ noStar b = true then some ⟨lrgF2 false (c.e sc a).1 (c.e sc b).1, fun B k => by subst hr hx; exact snd_lrg2 ⟨h.1.1, h.1.2, h.2.1, h.2.2⟩ hn.1 hn.2 ((c.e sc a).2 B k) ((c.e sc b).2 B k)⟩ else none
        | _ => none
      else none
      else if hx : x = "tuple" then if h : (glbB sc "tuple" = true ∧ ("tuple" : Str) ∈ G.blt) ∧ glbB sc "range" = true ∧ ("range" : Str) ∈ G.blt then match as with
        | [a] => if hn : noStar a = true then some ⟨lrgF1 true (c.e sc a).1, fun B k => by subst hr hx; exact snd_trg1 ⟨h.1.1, h.1.2, h.2.1, h.2.2⟩ hn ((c.e sc a).2 B k)⟩ else none
        | [a, b] => if hn : noStar a = true ∧ noStar b = true then some ⟨lrgF2 true (c.e sc a).1 (c.e sc b).1, fun B k => by subst hr hx; exact snd_trg2 ⟨h.1.1, h.1.2, h.2.1, h.2.2⟩ hn.1 hn.2 ((c.e sc a).2 B k) ((c.e sc b).2 B k)⟩ else none
        | _ => none
      else none
      else none
    else none
  | _ => none
noncomputable def cBlt (x : Str) (p : Pos) (es : List Expr) (pos : Pos) : Option (RE G N sc (.Call (.Name x p) es [] pos)) :=
  if h : glbB sc x = true ∧ x ∈ G.blt ∧ notDbg x = true ∧ x ≠ ("__name__" : Str) then match es with
    | [] => none
    | a :: r => if hn : (a :: r).all noStar = true then match entry bltTab x, cL c sc (a :: r) with
        | some ⟨g, hgm⟩, some ⟨fl, hl⟩ => some ⟨bltF g fl, fun B k => by
            rcases bltTab_ok _ hgm with ⟨id, hv, hc⟩ | ⟨T, hv, hc⟩
            · exact snd_blt (fun Φ Wx X g => hc G B k N sc Φ Wx X g) h.1 h.2.1 hv h.2.2.1 h.2.2.2 hn (hl B k)
            · exact snd_bltT (fun Φ Wx X g => hc G B k N sc Φ Wx X g) h.1 h.2.1 hv h.2.2.1 h.2.2.2 hn (hl B k)⟩
        | _, _ => none
      else none
  else none
noncomputable def cMeth (o : Expr) (name : Str) (apos : Pos) (es : List Expr) (pos : Pos) : Option (RE G N sc (.Call (.Attribute o name apos) es [] pos)) :=
  if h : baseOk o = true ∧ (apos.endLine == pos.line) = true then match entry methTab name with
    | none => none
    | some ⟨g, hg⟩ => match es with
      | [] => some ⟨methF g (c.e sc o).1 nilL, fun B k => snd_meth0 (fun Φ Wx X gx => (methTab_ok _ hg).h G B k N sc Φ Wx X gx) h.1 h.2 ((c.e sc o).2 B k)⟩
      | a :: r => if hn : (a :: r).all noStar = true ∧ (a :: r).length < 30 then match cL c sc (a :: r) with
          | some ⟨fl, hl⟩ => some ⟨methF g (c.e sc o).1 fl, fun B k => snd_meth (fun Φ Wx X gx => (methTab_ok _ hg).h G B k N sc Φ Wx X gx) h.1 h.2 hn.1 hn.2 ((c.e sc o).2 B k) (hl B k)⟩
          | none => none
        else none
  else none
/-- what a loop walks -/
noncomputable def cRng (tg : Expr) (p : Pos) (es : List Expr) (pos : Pos) : Option (RI G N sc tg (.Call (.Name "range" p) es [] pos)) :=
  if hg : glbB sc "range" = true ∧ ("range" : Str) ∈ G.blt then match es with
    | [a] => if hn : noStar a = true then match cL c sc [a] with
        | some ⟨fl, hl⟩ => some ⟨rngI rng1 fl, fun B k => sndI_rng1 hg.1 hg.2 hn (hl B k)⟩
        | none => none
      else none
    | [a, b] => if hn : noStar a = true ∧ noStar b = true then match cL c sc [a, b] with
        | some ⟨fl, hl⟩ => some ⟨rngI rng2 fl, fun B k => sndI_rng2 hg.1 hg.2 hn.1 hn.2 (hl B k)⟩
        | none => none
      else none
    | [a, b, d] => if hn : noStar a = true ∧ [b, d].all noStar = true then match cL c sc [a, b, d] with
        | some ⟨fl, hl⟩ => some ⟨rngI rng3 fl, fun B k => sndI_rng3 hg.1 hg.2 hn.1 hn.2 (hl B k)⟩
        | none => none
      else none
    | _ => none
  else none
noncomputable def cEnu (elts : List Expr) (kk : Nat) (tpos p : Pos) (es : List Expr) (pos : Pos) : Option (RI G N sc (.Tuple elts kk tpos) (.Call (.Name "enumerate" p) es [] pos)) :=
  if hg : glbB sc "enumerate" = true ∧ ("enumerate" : Str) ∈ G.blt then match es with
    | [a] => if hn : noStar a = true then match cL c sc [a] with
        | some ⟨fl, hl⟩ => some ⟨enuI fl, fun B k => sndI_enu hg.1 hg.2 hn (hl B k)⟩
        | none => none
      else none
    | _ => none
  else none
noncomputable def cZip (elts : List Expr) (kk : Nat) (tpos p : Pos) (es : List Expr) (pos : Pos) : Option (RI G N sc (.Tuple elts kk tpos) (.Call (.Name "zip" p) es [] pos)) :=
  if hg : glbB sc "zip" = true ∧ ("zip" : Str) ∈ G.blt then match es with
    | [a, b] => if hn : noStar a = true ∧ noStar b = true then match cL c sc [a, b] with
        | some ⟨fl, hl⟩ => some ⟨zipI fl, fun B k => sndI_zip hg.1 hg.2 hn.1 hn.2 (hl B k)⟩
        | none => none
      else none
    | _ => none
  else none
noncomputable def cVal (tg it : Expr) : Option (RI G N sc tg it) := if hn : notSet it = true then some ⟨valI (c.e sc it).1, fun B k => sndI_val hn ((c.e sc it).2 B k)⟩ else none
/-- an iterable of a known form -/
noncomputable def cIt (tg it : Expr) : Option (RI G N sc tg it) := match it with
  | .Call (.Name x p) es [] pos =>
    if h : x = "range" then match cRng c sc tg p es pos with
      | some ⟨F, hF⟩ => some ⟨F, by subst h; exact hF⟩
      | none => none
    else if h : x = "enumerate" then match tg with
      | .Tuple elts kk tpos => match cEnu c sc elts kk tpos p es pos with
        | some ⟨F, hF⟩ => some ⟨F, by subst h; exact hF⟩
        | none => none
      | _ => none
    else if h : x = "zip" then match tg with
      | .Tuple elts kk tpos => match cZip c sc elts kk tpos p es pos with
        | some ⟨F, hF⟩ => some ⟨F, by subst h; exact hF⟩
        | none => none
      | _ => none
    else cVal c sc tg (.Call (.Name x p) es [] pos)
  | .Name x p => if G.dn.contains x = true then some ⟨dctI .dky (c.e sc (.Name x p)).1, fun B k => sndI_key rfl ((c.e sc (.Name x p)).2 B k)⟩ else cVal c sc tg (.Name x p)
  | .Call (.Attribute o name apos) [] [] pos => if hb : baseOk o = true ∧ (apos.endLine == pos.line) = true then
      if h : name = "items" then match tg with
        | .Tuple elts kk tpos => some ⟨dctI .dit (c.e sc o).1, fun B k => by subst h; exact sndI_items hb.1 hb.2 ((c.e sc o).2 B k)⟩
        | _ => none
      else if h : name = "values" then some ⟨dctI .dvl (c.e sc o).1, fun B k => by subst h; exact sndI_values hb.1 hb.2 ((c.e sc o).2 B k)⟩
      else if h : name = "keys" then some ⟨dctI .dky (c.e sc o).1, fun B k => by subst h; exact sndI_keys hb.1 hb.2 ((c.e sc o).2 B k)⟩
      else cVal c sc tg (.Call (.Attribute o name apos) [] [] pos)
    else cVal c sc tg (.Call (.Attribute o name apos) [] [] pos)
  | it => cVal c sc tg it
/-- the dict that is walked -/
noncomputable def dctOf (G : Glb) : Expr → Option Expr
  | .Name x p => if G.dn.contains x = true then some (.Name x p) else none
  | .Call (.Attribute o name _) [] [] _ => if name = "items" ∨ name = "values" ∨ name = "keys" then some o else none
  | _ => none
noncomputable def cJs : (es : List Expr) → { Fs : List SE // ∀ (B : Bk) (k : Nat), SndPJ G B k N sc es Fs }
  | [] => ⟨[], fun _ _ => .nil⟩
  | e :: es => ⟨(c.e sc e).1 :: (cJs es).1, fun B k => .cons ((c.e sc e).2 B k) ((cJs es).2 B k)⟩
noncomputable def lkE (it : Expr) {e : Expr} (r : RE G N sc e) : RE G N sc e := match dctOf G it with
  | some o => ⟨lockE (c.e sc o).1 r.1, fun B k => snd_lock _ (r.2 B k)⟩
  | none => r
end
/-- a comprehension's target -/
abbrev RC (N : List Str) (sc : Scope) (own : List Nat) (t : Expr) := { F : TF // ∀ B : Bk, SndC B N sc own t F }
abbrev RCs (N : List Str) (sc : Scope) (own : List Nat) (ts : List Expr) := { F : TFs // ∀ B : Bk, SndCs B N sc own ts F }
/-- names alone -/
noncomputable def cNm (N : List Str) (sc : Scope) (own : List Nat) : (ts : List Expr) → Option (RCs N sc own ts)
  | [] => some ⟨nilC, fun _ => sndCs_nil⟩
  | .Name x p :: r => match slot N x, cNm N sc own r with
    | some ⟨i, hi⟩, some ⟨F, hF⟩ => if h : sc.names.lookup x = some .local ∧ i ∈ own then some ⟨consC i F, fun B => sndCs_cons hi h.1 h.2 (hF B)⟩ else none
    | _, _ => none
  | _ => none
noncomputable def cCs (N : List Str) (sc : Scope) (own : List Nat) : (ts : List Expr) → Option (RCs N sc own ts)
  | [] => some ⟨nilC, fun _ => sndCs_nil⟩
  | .Name x p :: r => match slot N x, cCs N sc own r with
    | some ⟨i, hi⟩, some ⟨F, hF⟩ => if h : sc.names.lookup x = some .local ∧ i ∈ own then some ⟨consC i F, fun B => sndCs_cons hi h.1 h.2 (hF B)⟩ else none
    | _, _ => none
  | .Tuple es j p :: r => match cNm N sc own es, cCs N sc own r with
    | some ⟨F, hF⟩, some ⟨F2, hF2⟩ => some ⟨consTC es.length F F2, fun B => sndCs_consT (hF B) (hF2 B)⟩
    | _, _ => none
  | _ => none
noncomputable def cC (N : List Str) (sc : Scope) (own : List Nat) : (t : Expr) → Option (RC N sc own t)
  | .Name x p => match slot N x with
    | some ⟨i, hi⟩ => if h : sc.names.lookup x = some .local ∧ i ∈ own then some ⟨nameC i, fun B => sndC_name hi h.1 h.2⟩ else none
    | none => none
  | .Tuple ts j p => match cCs N sc own ts with
    | some ⟨F, hF⟩ => some ⟨tupC ts.length F, fun B => sndC_tup (hF B)⟩
    | none => none
  | _ => none
/-- the block's own names with their slots -/
noncomputable def ownOf (N : List Str) (scope : Scope) : List (Str × Nat) := scope.names.filterMap fun y => match y.2 with
  | .local => (slot N y.1).map fun s => (y.1, s.1)
  | .cell => (slot N y.1).map fun s => (y.1, s.1)
  | _ => none
structure LcR (G : Glb) (N : List Str) (sc scope : Scope) (elt tg iter : Expr) (ifs : List Expr) where
  fi : SI
  ft : TF
  fc : ST
  fe : SE
  ok : ∀ (B : Bk) (k : Nat), LcOk G B k N sc scope (ownOf N scope) elt tg iter ifs fi ft fc fe
noncomputable def cLc (c : Cmp G N) (sc scope : Scope) (elt tg iter : Expr) (ifs : List Expr) : Option (LcR G N sc scope elt tg iter ifs) :=
  if hb : blkB N sc scope (ownOf N scope) = true then match cIt c sc tg iter, cC N (relS scope sc) ((ownOf N scope).map (·.2)) tg with
    | some ⟨fi, hi⟩, some ⟨ft, ht⟩ => match ifs with
      | [] => some ⟨fi, ft, yesT, (c.e (relS scope sc) elt).1, fun B k => ⟨hb, hi B k, ht B, sndTs_nil, (c.e (relS scope sc) elt).2 B k⟩⟩
      | [t] => some ⟨fi, ft, (c.t (relS scope sc) t).1, (c.e (relS scope sc) elt).1, fun B k => ⟨hb, hi B k, ht B, sndTs_one ((c.t (relS scope sc) t).2 B k), (c.e (relS scope sc) elt).2 B k⟩⟩
      | _ => none
    | _, _ => none
  else none
noncomputable def orNo {sc : Scope} {e : Expr} (o : Option (RE G N sc e)) : RE G N sc e := match o with
  | some r => r
  | none => noE
noncomputable def orNoT {sc : Scope} {e : Expr} (o : Option (RT G N sc e)) : RT G N sc e := match o with
  | some r => r
  | none => noT
noncomputable def cE (c : Cmp G N) (sc : Scope) (e : Expr) : RE G N sc e := match e with
  | .Constant (.int i) j pos => ⟨retE (.int i), fun _ _ => snd_int⟩
  | .Constant (.str x) j pos => ⟨retE (.str x), fun _ _ => snd_str⟩
  | .Constant (.bool b) j pos => ⟨retE (.bl b), fun _ _ => snd_bl⟩
  | .Constant .none j pos => ⟨retE .non, fun _ _ => snd_non⟩
  | .Name x pos => if h : visB sc x = true ∧ notDbg x = true then match slot N x with
      | some ⟨i, hi⟩ => ⟨varE i, fun B k => snd_var hi h.1 h.2⟩
      | none => noE
    else if h : glbB sc x = true ∧ notDbg x = true then match entry G.consts x with
      | some ⟨w, hw⟩ => ⟨retE w, fun B k => snd_glob h.1 h.2 hw⟩
      | none => noE
    else noE
  | .BinOp a op b pos => match opOf op with
    | some ⟨g, hg⟩ => ⟨binF g (c.e sc a).1 (c.e sc b).1, fun B k => snd_bin (hg.b B) ((c.e sc a).2 B k) ((c.e sc b).2 B k)⟩
    | none => noE
  | .UnaryOp .Not a pos => ⟨notF (c.e sc a).1, fun B k => snd_not ((c.e sc a).2 B k)⟩
  | .UnaryOp .USub a pos => ⟨negF (c.e sc a).1, fun B k => snd_neg ((c.e sc a).2 B k)⟩
  | .BoolOp .And es pos => orNo (cAnd c sc pos es)
  | .BoolOp .Or es pos => orNo (cOr c sc pos es)
  | .IfExp t a b pos => ⟨ifF (c.t sc t).1 (c.e sc a).1 (c.e sc b).1, fun B k => snd_if ((c.t sc t).2 B k) ((c.e sc a).2 B k) ((c.e sc b).2 B k)⟩
  | .Tuple es j pos => match cL c sc es with
    | some ⟨fl, hl⟩ => ⟨tupF fl, fun B k => snd_tup (hl B k)⟩
    | none => noE
  | .List es pos => match cL c sc es with
    | some ⟨fl, hl⟩ => ⟨lstF fl, fun B k => snd_lst (hl B k)⟩
    | none => noE
  | .Dict [] [] pos => ⟨ndctF, fun _ _ => snd_ndct⟩
  | .Dict (k0 :: ks) vs pos => match cP c sc (k0 :: ks) vs with
    | some ⟨fp, hp⟩ => if h : (k0 :: ks).all (·.isSome) = true ∧ (k0 :: ks).length = vs.length ∧ (k0 :: ks).length ≤ 15 then ⟨dispF (k0 :: ks).length fp, fun B k => snd_disp (hp B k) h.1 h.2.1 (by simp) h.2.2⟩ else noE
    | none => noE
  | .Compare a [op] [b] pos => match op, b with
    | .In, .Call (.Name x p) (e :: es) [] p2 => if hx : x = "range" then if h : glbB sc "range" = true ∧ ("range" : Str) ∈ G.blt ∧ (e :: es).all noStar = true then match cL c sc (e :: es) with
          | some ⟨fl, hl⟩ => ⟨inRngF (c.e sc a).1 fl, fun B k => by subst hx; exact snd_inRng ⟨h.1, h.2.1, h.2.2⟩ ((c.e sc a).2 B k) (hl B k)⟩
          | none => noE
        else noE
      else if hm : behindInMarks .In (.Call (.Name x p) (e :: es) [] p2) = false then ⟨binF (inW false) (c.e sc a).1 (c.e sc (.Call (.Name x p) (e :: es) [] p2)).1, fun B k => snd_cmp (fun X h1 h2 h3 => ow_in h1 h2 h3) hm ((c.e sc a).2 B k) ((c.e sc _).2 B k)⟩ else noE
    | op, b => match cmOf op with
      | some ⟨g, hg⟩ => if hm : behindInMarks op b = false then ⟨binF g (c.e sc a).1 (c.e sc b).1, fun B k => snd_cmp (hg.b B k) hm ((c.e sc a).2 B k) ((c.e sc b).2 B k)⟩ else noE
      | none => noE
  | .Compare a [op, op'] [b, d] pos => match cmOf op, cmOf op' with
    | some ⟨g, hg⟩, some ⟨g', hg'⟩ => if hm : lastMarks [op, op'] [b, d] = false then ⟨chainF g g' (c.e sc a).1 (c.e sc b).1 (c.e sc d).1, fun B k => snd_chain (hg.b B k) (hg'.b B k) hm ((c.e sc a).2 B k) ((c.e sc b).2 B k) ((c.e sc d).2 B k)⟩ else noE
    | _, _ => noE
  | .Subscript a (.Slice none none (some (.UnaryOp .USub (.Constant (.int 1) j p1) p2)) p3) pos => ⟨revF (c.e sc a).1, fun B k => snd_rev ((c.e sc a).2 B k)⟩
  | .Subscript a (.Slice lo hi none p2) pos => ⟨slF (c.e sc a).1 (cO c sc lo).1 (cO c sc hi).1, fun B k => snd_sl ((c.e sc a).2 B k) ((cO c sc lo).2 B k) ((cO c sc hi).2 B k)⟩
  | .Subscript a i pos => if hp : plainIxB i = true then ⟨binF subW' (c.e sc a).1 (c.e sc i).1, fun B k => snd_sub hp ((c.e sc a).2 B k) ((c.e sc i).2 B k)⟩ else noE
  | .Call (.Name x p) es [] pos => match cLrg c sc x p es pos with
    | some r => r
    | none => match cIsi c sc x p es pos with
      | some r => r
      | none => match cLam c sc x p es pos with
        | some r => r
        | none => match cCall c sc x p es [] pos with
          | some r => r
          | none => orNo (cBlt c sc x p es pos)
  | .Call (.Name x p) es (kw :: kws) pos => orNo (cCall c sc x p es (kw :: kws) pos)
  | .Call (.Attribute o name apos) es [] pos => orNo (cMeth c sc o name apos es pos)
  | .Attribute e n pos => if hb : baseOk e = true then ⟨fldF G n (c.e sc e).1, fun B k => snd_fld hb ((c.e sc e).2 B k)⟩ else noE
  | .JoinedStr [e] pos => ⟨(c.e sc e).1, fun B k => snd_joined1 ((c.e sc e).2 B k)⟩
  | .JoinedStr (a :: b :: r) pos => ⟨joinedF (cJs c sc (a :: b :: r)).1, fun B k => snd_joined ((cJs c sc (a :: b :: r)).2 B k)⟩
  | .FormattedValue e cv none pos => if h : cv = -1 then ⟨fmtF (c.e sc e).1, fun B k => by subst h; exact snd_fmt ((c.e sc e).2 B k)⟩ else noE
  | .ListComp elt [⟨tg, iter, ifs, 0⟩] scope pos => match cLc c sc scope elt tg iter ifs with
    | some r => lkE c sc iter ⟨lcF ((ownOf N scope).map (·.2)) r.fi r.ft r.fc r.fe, fun B k => snd_lc (r.ok B k)⟩
    | none => noE
  | _ => noE
noncomputable def plainT : Expr → Bool
  | .BoolOp _ _ _ => false
  | .UnaryOp .Not _ _ => false
  | .Compare _ _ _ _ => false
  | .IfExp _ _ _ _ => false
  | .NamedExpr _ _ _ => false
  | .Constant _ _ _ => false
  | _ => true
theorem plainT_ok {e : Expr} (h : plainT e = true) (env : PySem.Env) (whole : Sem Value) : isTrue e env whole = (do let v ← whole; standAt e.pos; holding [v] (truthy v)) := by
  cases e <;> first | rfl | cases h | (rename_i op _ _; cases op <;> first | rfl | cases h)
noncomputable def cT (c : Cmp G N) (sc : Scope) (e : Expr) : RT G N sc e := match e with
  | .BoolOp .And es pos => match cAndT c sc pos es with
    | some ⟨F, h⟩ => ⟨F, fun B k => (h B k).t⟩
    | none => noT
  | .BoolOp .Or es pos => match cOrT c sc pos es with
    | some ⟨F, h⟩ => ⟨F, fun B k => (h B k).t⟩
    | none => noT
  | .UnaryOp .Not a pos => ⟨notT (c.t sc a).1, fun B k => sndT_not ((c.t sc a).2 B k)⟩
  | .Compare a [op] [b] pos => match op, b with
    | .In, .Call (.Name x p) (e :: es) [] p2 => if hx : x = "range" then if h : glbB sc "range" = true ∧ ("range" : Str) ∈ G.blt ∧ (e :: es).all noStar = true then match cL c sc (e :: es) with
          | some ⟨fl, hl⟩ => ⟨asB (inRngF (c.e sc a).1 fl), fun B k => by subst hx; exact sndT_inRng ⟨h.1, h.2.1, h.2.2⟩ ((c.e sc a).2 B k) (hl B k)⟩
          | none => noT
        else noT
      else if hm : behindInMarks .In (.Call (.Name x p) (e :: es) [] p2) = false then ⟨asB (binF (inW false) (c.e sc a).1 (c.e sc (.Call (.Name x p) (e :: es) [] p2)).1), fun B k => sndT_cmp (fun X h1 h2 h3 => ow_in h1 h2 h3) hm ((c.e sc a).2 B k) ((c.e sc _).2 B k)⟩ else noT
    | op, b => match cmOf op with
      | some ⟨g, hg⟩ => if hm : behindInMarks op b = false then ⟨asB (binF g (c.e sc a).1 (c.e sc b).1), fun B k => sndT_cmp (hg.b B k) hm ((c.e sc a).2 B k) ((c.e sc b).2 B k)⟩ else noT
      | none => noT
  | .Compare a [op, op'] [b, d] pos => match cmOf op, cmOf op' with
    | some ⟨g, hg⟩, some ⟨g', hg'⟩ => if hm : lastMarks [op, op'] [b, d] = false then ⟨asB (chainF g g' (c.e sc a).1 (c.e sc b).1 (c.e sc d).1), fun B k => sndT_chain (hg.b B k) (hg'.b B k) hm ((c.e sc a).2 B k) ((c.e sc b).2 B k) ((c.e sc d).2 B k)⟩ else noT
    | _, _ => noT
  | e => if h : plainT e = true then ⟨truF (c.e sc e).1, fun B k => sndT_tru (plainT_ok h) ((c.e sc e).2 B k)⟩ else noT
end
end Zf
namespace Zf
open PySem L2
open PyProof.Rows hiding St

section
variable (N : List Str)
noncomputable def cmp : Nat → (G : Glb) → Cmp G N
  | 0, _ => ⟨fun _ _ => noE, fun _ _ => noT, fun _ _ => noE⟩
  | n + 1, G => ⟨fun sc e => fzE (cE (cmp n G) sc e), fun sc e => cT (cmp n G) sc e, fun sc e => (cmp n (noMk G)).e sc e⟩
variable {G : Glb} {N}
variable (c : Cmp G N) (sc : Scope)
/-- targets: names, places, tuples of those -/
noncomputable def cG1 (t : Expr) : Option (RG G N sc t) := match t with
  | .Name x p => match slot N x with
    | some ⟨i, hi⟩ => if h : locB sc true x = true then some ⟨nameT i, fun B k => sndG_name hi h⟩ else none
    | none => none
  | .Subscript a i p => if hp : plainIxB i = true then some ⟨subT (c.e sc a).1 (c.e sc i).1, fun B k => sndG_sub hp ((c.e sc a).2 B k) ((c.e sc i).2 B k)⟩ else none
  | _ => none
noncomputable def cGs (f : (t : Expr) → Option (RG G N sc t)) : (ts : List Expr) → Option (RGs G N sc ts)
  | [] => some ⟨nilG, fun _ _ => sndGs_nil⟩
  | t :: r => if hn : noStar t = true then match f t, cGs f r with
      | some ⟨a, ha⟩, some ⟨b, hb⟩ => some ⟨consG a b, fun B k => sndGs_cons hn (ha B k) (hb B k)⟩
      | _, _ => none
    else none
noncomputable def cG2 (t : Expr) : Option (RG G N sc t) := match t with
  | .Tuple ts j p => match cGs sc (cG1 c sc) ts with
    | some ⟨F, hF⟩ => some ⟨tupT ts.length F, fun B k => sndG_tup (hF B k)⟩
    | none => none
  | t => cG1 c sc t
noncomputable def cG (t : Expr) : Option (RG G N sc t) := match t with
  | .Tuple ts j p => match cGs sc (cG2 c sc) ts with
    | some ⟨F, hF⟩ => some ⟨tupT ts.length F, fun B k => sndG_tup (hF B k)⟩
    | none => none
  | t => cG1 c sc t
noncomputable def orNoS {s : Stmt} (o : Option (RS G N sc s)) : RS G N sc s := match o with
  | some r => r
  | none => noS
noncomputable def cSs (f : (s : Stmt) → RS G N sc s) : (l : List Stmt) → RSs G N sc l
  | [] => ⟨skipS, fun _ _ => sndSs_nil⟩
  | [s] => ⟨(f s).1, fun B k => sndSs_one ((f s).2 B k)⟩
  | s :: r => ⟨seqS (f s).1 (cSs f r).1, fun B k => sndSs_cons ((f s).2 B k) ((cSs f r).2 B k)⟩
/-- tg = e -/
noncomputable def cAsg (tg e : Expr) (pos : Pos) : Option (RS G N sc (.Assign [tg] e pos)) :=
  if hn : noStar tg = true then if h1 : swB tg e sc = false then match h2 : swpB tg e sc with
      | some none => match cG c sc tg with
        | some ⟨F, hF⟩ => some ⟨asgS (c.e sc e).1 F, fun B k => sndS_asg hn h1 h2 ((c.e sc e).2 B k) (hF B k)⟩
        | none => none
      | _ => none
    else none
  else none
noncomputable def cPar (ts es : List Expr) (kt k2 : Nat) (pt p2 pos : Pos) : Option (RS G N sc (.Assign [.Tuple ts kt pt] (.Tuple es k2 p2) pos)) := match ts, es with
  | [.Name x px, .Name y py], [a, b] => match slot N x, slot N y, cL c sc [a, b] with
    | some ⟨i, hi⟩, some ⟨j, hj⟩, some ⟨fl, hl⟩ => if h : i ≠ j ∧ sc.names.lookup x = some .local ∧ sc.names.lookup y = some .local ∧ swpB (.Tuple [.Name x px, .Name y py] kt pt) (.Tuple [a, b] k2 p2) sc = some (some [x, y]) then
        some ⟨parS2 i j fl, fun B k => sndS_par2 hi hj h.1 h.2.1 h.2.2.1 h.2.2.2 (hl B k)⟩ else none
    | _, _, _ => none
  | [.Name x px, .Name y py, .Name z pz], [a, b, d] => match slot N x, slot N y, slot N z, cL c sc [a, b, d] with
    | some ⟨i, hi⟩, some ⟨j, hj⟩, some ⟨m, hm⟩, some ⟨fl, hl⟩ => if h : (i ≠ j ∧ i ≠ m ∧ j ≠ m) ∧ (sc.names.lookup x = some .local ∧ sc.names.lookup y = some .local ∧ sc.names.lookup z = some .local) ∧ swpB (.Tuple [.Name x px, .Name y py, .Name z pz] kt pt) (.Tuple [a, b, d] k2 p2) sc = some (some [x, y, z]) then
        some ⟨parS3 i j m fl, fun B k => sndS_par3 hi hj hm h.1.1 h.1.2.1 h.1.2.2 h.2.1.1 h.2.1.2.1 h.2.1.2.2 h.2.2 (hl B k)⟩ else none
    | _, _, _, _ => none
  | _, _ => none
noncomputable def lkS (it : Expr) {s : Stmt} (r : RS G N sc s) : RS G N sc s := match dctOf G it with
  | some o => ⟨lockS (c.e sc o).1 r.1, fun B k => sndS_lock _ (r.2 B k)⟩
  | none => r
noncomputable def cAsgLc (x : Str) (px : Pos) (elt tg iter : Expr) (ifs : List Expr) (scope : Scope) (p pos : Pos) : Option (RS G N sc (.Assign [.Name x px] (.ListComp elt [⟨tg, iter, ifs, 0⟩] scope p) pos)) :=
  match slot N x, cLc c sc scope elt tg iter ifs with
  | some ⟨i, hi⟩, some r => if h : sc.names.lookup x = some .local ∧ swB (.Name x px) (.ListComp elt [⟨tg, iter, ifs, 0⟩] scope p) sc = true then
      some (lkS c sc iter (if G.fz.contains (posN p) = true then ⟨asgS (frzF (lcF ((ownOf N scope).map (·.2)) r.fi r.ft r.fc r.fe)) (nameT i), fun B k => sndS_asgLcF hi h.1 h.2 (r.ok B k)⟩ else ⟨asgS (lcF ((ownOf N scope).map (·.2)) r.fi r.ft r.fc r.fe) (nameT i), fun B k => sndS_asgLc hi h.1 h.2 (r.ok B k)⟩)) else none
  | _, _ => none
noncomputable def cAug (t : Expr) (op : Operator) (e : Expr) (pos : Pos) : Option (RS G N sc (.AugAssign t op e pos)) := match t with
  | .Name x p => match slot N x, ipOf op with
    | some ⟨i, hi⟩, some ⟨g, hg⟩ => if h : locB sc true x = true then some ⟨augS i g (c.e sc e).1, fun B k => sndS_aug hi h (hg.b B) ((c.e sc e).2 B k)⟩ else none
    | _, _ => none
  | .Subscript o i p => match ipOf op with
    | some ⟨g, hg⟩ => if hp : plainIxB i = true then some ⟨augSubS g (c.e sc o).1 (c.e sc i).1 (c.e sc e).1, fun B k => sndS_augSub hp (hg.b B) ((c.e sc o).2 B k) ((c.e sc i).2 B k) ((c.e sc e).2 B k)⟩ else none
    | none => none
  | _ => none
noncomputable def exNm (x : Str) : Option { c : Nat // glbB sc x = true ∧ notDbg x = true ∧ G.excs[c]? = some x } :=
  if h : glbB sc x = true ∧ notDbg x = true then match slot G.excs x with
    | some ⟨c, hc⟩ => some ⟨c, h.1, h.2, hc⟩
    | none => none
  else none
noncomputable def cCls : (te : Expr) → Option { cs : List Nat // ClsT G sc te cs }
  | .Name x p => match exNm (G := G) sc x with
    | some ⟨c, h⟩ => some ⟨[c], .one h⟩
    | none => none
  | .Tuple [.Name x p, .Name y p'] kk t => match exNm (G := G) sc x, exNm (G := G) sc y with
    | some ⟨c, h⟩, some ⟨c', h'⟩ => some ⟨[c, c'], .two h h'⟩
    | _, _ => none
  | .Tuple [.Name x p, .Name y p', .Name z p2] kk t => match exNm (G := G) sc x, exNm (G := G) sc y, exNm (G := G) sc z with
    | some ⟨c, h⟩, some ⟨c', h'⟩, some ⟨c2, h2⟩ => some ⟨[c, c', c2], .three h h' h2⟩
    | _, _, _ => none
  | _ => none
noncomputable def cTry (b : List Stmt) (F : RSs G N sc b) (hd : ExceptHandler) (pos : Pos) : Option (RS G N sc (.Try b [hd] [] [] pos)) := match hd with
  | .ExceptHandler (some te) (some x) [.Assign [.Name y p1] (.Name x' p2) p3] pos' => if he : x' = x then match cCls (G := G) sc te, slot N x, slot N y with
      | some ⟨cs, hc⟩, some ⟨i, hi⟩, some ⟨j, hj⟩ => if h : sc.names.lookup x = some .local ∧ sc.names.lookup y = some .local ∧ notDbg x = true then
          some ⟨tryK G cs i j F.1, fun B k => by subst he; exact sndS_tryK hc hi hj h.1 h.2.1 h.2.2 (F.2 B k)⟩ else none
      | _, _, _ => none
    else none
  | .ExceptHandler (some (.Name x p0)) none [.Assign [.Name y p1] (.Constant .none jj p2) p3] pos' => match exNm (G := G) sc x, slot N y with
    | some ⟨c, hc⟩, some ⟨j, hj⟩ => if h : sc.names.lookup y = some .local then some ⟨tryN G [c] j F.1, fun B k => sndS_tryN hc hj h (F.2 B k)⟩ else none
    | _, _ => none
  | _ => none
noncomputable def cDeed (x : Str) (p1 p2 pos : Pos) : Option (RS G N sc (.Expr (.Call (.Name x p1) [] [] p2) pos)) := match slot N x with
  | some ⟨i, hi⟩ => if h : visB sc x = true ∧ notDbg x = true then some ⟨exprS (deedF i), fun B k => sndS_deed hi h.1 h.2⟩ else none
  | none => none
noncomputable def cAsgDeed (tg : Expr) (x : Str) (p1 p2 pos : Pos) : Option (RS G N sc (.Assign [tg] (.Call (.Name x p1) [] [] p2) pos)) := match slot N x with
  | some ⟨i, hi⟩ => if hv : visB sc x = true ∧ notDbg x = true then if hn : noStar tg = true then if h1 : swB tg (.Call (.Name x p1) [] [] p2) sc = false then match h2 : swpB tg (.Call (.Name x p1) [] [] p2) sc with
        | some none => match cG c sc tg with
          | some ⟨F, hF⟩ => some ⟨asgS (deedF i) F, fun B k => sndS_asgDeed hi hv.1 hv.2 hn h1 h2 (hF B k)⟩
          | none => none
        | _ => none
      else none
    else none
    else none
  | none => none
noncomputable def cS : Nat → (s : Stmt) → RS G N sc s
  | 0, _ => noS
  | n + 1, s => match s with
    | .Return none pos => ⟨retN, fun _ _ => sndS_retN⟩
    | .Return (some e) pos => ⟨retS (c.e sc e).1, fun B k => sndS_ret ((c.e sc e).2 B k)⟩
    | .Assign [.Tuple ts kt pt] (.Tuple es k2 p2) pos => match cPar c sc ts es kt k2 pt p2 pos with
      | some r => r
      | none => orNoS sc (cAsg c sc (.Tuple ts kt pt) (.Tuple es k2 p2) pos)
    | .Assign [.Name x px] (.ListComp elt [⟨tg, iter, ifs, 0⟩] scope p) pos => match cAsgLc c sc x px elt tg iter ifs scope p pos with
      | some r => r
      | none => orNoS sc (cAsg c sc (.Name x px) (.ListComp elt [⟨tg, iter, ifs, 0⟩] scope p) pos)
    | .Assign [tg] (.Call (.Name x p1) [] [] p2) pos => match cAsgDeed c sc tg x p1 p2 pos with
      | some r => r
      | none => orNoS sc (cAsg c sc tg (.Call (.Name x p1) [] [] p2) pos)
    | .Assign [tg] e pos => orNoS sc (cAsg c sc tg e pos)
    | .AugAssign t op e pos => orNoS sc (cAug c sc t op e pos)
    | .Expr (.Constant (.str x) j p) pos => ⟨skipS, fun _ _ => sndS_doc⟩
    | .Expr (.Call (.Name x p1) [] [] p2) pos => match cDeed sc x p1 p2 pos with
      | some r => r
      | none => ⟨exprS (c.e sc (.Call (.Name x p1) [] [] p2)).1, fun B k => sndS_expr rfl ((c.e sc _).2 B k)⟩
    | .Expr e pos => if h : noComp e = true then ⟨exprS (c.e sc e).1, fun B k => sndS_expr h ((c.e sc e).2 B k)⟩ else noS
    | .If t a b pos => ⟨ifS (c.t sc t).1 (cSs sc (cS n) a).1 (cSs sc (cS n) b).1, fun B k => sndS_if ((c.t sc t).2 B k) ((cSs sc (cS n) a).2 B k) ((cSs sc (cS n) b).2 B k)⟩
    | .While t a [] pos => ⟨whileS (c.t sc t).1 (cSs sc (cS n) a).1, fun B k => sndS_while ((c.t sc t).2 B k) ((cSs sc (cS n) a).2 B k)⟩
    | .For tg it a [] pos => match cIt c sc tg it, cG c sc tg with
      | some ⟨fi, hi⟩, some ⟨ft, ht⟩ => lkS c sc it ⟨forS fi ft (cSs sc (cS n) a).1, fun B k => sndS_for (hi B k) (ht B k) ((cSs sc (cS n) a).2 B k)⟩
      | _, _ => noS
    | .Raise (some (.Call (.Name x p) [e] [] pos)) none pos' => match exNm (G := G) sc x with
      | some ⟨c0, h⟩ => if hr : c0 ∈ G.rz ∧ noStar e = true then ⟨raiseS c0 (c.e sc e).1, fun B k => sndS_raise h hr.1 hr.2 ((c.e sc e).2 B k)⟩ else noS
      | none => noS
    | .Try b [hd] [] [] pos => orNoS sc (cTry sc b (cSs sc (cS n) b) hd pos)
    | .Pass pos => ⟨skipS, fun _ _ => sndS_pass⟩
    | .Break pos => ⟨brkS, fun _ _ => sndS_brk⟩
    | .Continue pos => ⟨cntS, fun _ _ => sndS_cnt⟩
    | _ => noS
end
/-- a def's body -/
noncomputable def cDef (G : Glb) (N : List Str) (st : Stmt) : RSs G N (defScope st) (defBody st) := cSs (defScope st) (cS (cmp N 30 G) (defScope st) 12) (defBody st)
/-- a def by its text; F is what the text says -/
theorem defDo_of {G : Glb} {d : FnD} (h : scC' d.N d.ps (defScope d.st) = true) (e : (cDef G d.N d.st).1 = d.F) : DefDo G d := ⟨h, fun B k => by rw [← e]; exact (cDef G d.N d.st).2 B k⟩
end Zf
namespace Zf
open PySem L2
open PyProof.Rows hiding St

/-! ### reckoning with what the text says -/
section
variable {Φ : Phi} {env : Env} {st : Store}
@[simp] theorem Out.bind_ok' {α β : Type} (a : α) (st : Store) (k : α → Store → Out β) : (Out.ok a st).bind k = k a st := rfl
@[simp] theorem Out.bind_er' {α β : Type} (x : W) (st : Store) (k : α → Store → Out β) : (Out.er x st : Out α).bind k = .er x st := rfl
@[simp] theorem Out.bind_bad' {α β : Type} (k : α → Store → Out β) : (Out.bad : Out α).bind k = .bad := rfl
@[simp] theorem Out.toS_ok {α : Type} (a : α) (st : Store) (env : Env) (f : α → Store → SOut) : (Out.ok a st).toS env f = f a st := rfl
@[simp] theorem Out.toS_er {α : Type} (x : W) (st : Store) (env : Env) (f : α → Store → SOut) : (Out.er x st : Out α).toS env f = .er x env st := rfl
@[simp] theorem Out.toS_bad {α : Type} (env : Env) (f : α → Store → SOut) : (Out.bad : Out α).toS env f = .bad := rfl
@[simp] theorem Out.noEr_ok {α : Type} (a : α) (st : Store) : (Out.ok a st).noEr = .ok a st := rfl
@[simp] theorem SOut.seq_nx (env : Env) (st : Store) (f : Env → Store → SOut) : (SOut.nx env st).seq f = f env st := rfl
@[simp] theorem SOut.seq_rt (w : W) (st : Store) (f : Env → Store → SOut) : (SOut.rt w st).seq f = .rt w st := rfl
@[simp] theorem SOut.seq_er (w : W) (env : Env) (st : Store) (f : Env → Store → SOut) : (SOut.er w env st).seq f = .er w env st := rfl
@[simp] theorem SOut.seq_bk (env : Env) (st : Store) (f : Env → Store → SOut) : (SOut.bk env st).seq f = .bk env st := rfl
@[simp] theorem SOut.seq_ct (env : Env) (st : Store) (f : Env → Store → SOut) : (SOut.ct env st).seq f = .ct env st := rfl
@[simp] theorem SOut.go_nx (env : Env) (st : Store) : (SOut.nx env st).go = .nx env st := rfl
@[simp] theorem SOut.go_er (w : W) (env : Env) (st : Store) : (SOut.er w env st).go = .er w env st := rfl
@[simp] theorem endO_nx (env : Env) (st : Store) : endO (.nx env st) = .ok .non st := rfl
@[simp] theorem endO_rt (w : W) (st : Store) : endO (.rt w st) = .ok w st := rfl
@[simp] theorem endO_er (w : W) (env : Env) (st : Store) : endO (.er w env st) = .er w st := rfl
@[simp] theorem liftO_some (w : W) (st : Store) : liftO (some (w, st)) = .ok w st := rfl
@[simp] theorem pureO_some (w : W) (st : Store) : pureO (some w) st = some (w, st) := rfl
@[simp] theorem isBl_bl (b : Bool) : isBl (.bl b) = some b := rfl
@[simp] theorem retE_ (w : W) : retE w Φ env st = .ok w st := rfl
@[simp] theorem varE_ (i : Nat) : varE i Φ env st = match env[i]? with
  | some (some w) => .ok w st
  | _ => .bad := rfl
@[simp] theorem binF_ (g : W2) (a b : SE) : binF g a b Φ env st = (a Φ env st).bind fun x st1 => (b Φ env st1).bind fun y st2 => liftO (g x y st2) := rfl
@[simp] theorem asB_ (F : SE) : asB F Φ env st = (F Φ env st).bind fun w st1 => match isBl w with
  | some b => .ok b st1
  | none => .bad := rfl
@[simp] theorem truF_ (a : SE) : truF a Φ env st = (a Φ env st).bind fun x st1 => match truW x st1 with
  | some b => .ok b st1
  | none => .bad := rfl
@[simp] theorem andF_ (a b : SE) : andF a b Φ env st = (a Φ env st).bind fun x st1 => match truW x st1 with
  | some true => b Φ env st1
  | some false => .ok x st1
  | none => .bad := rfl
@[simp] theorem orF_ (a b : SE) : orF a b Φ env st = (a Φ env st).bind fun x st1 => match truW x st1 with
  | some true => .ok x st1
  | some false => b Φ env st1
  | none => .bad := rfl
@[simp] theorem notF_ (a : SE) : notF a Φ env st = (a Φ env st).bind fun x st1 => match truW x st1 with
  | some b => .ok (.bl (!b)) st1
  | none => .bad := rfl
@[simp] theorem andT_ (a b : ST) : andT a b Φ env st = (a Φ env st).bind fun x st1 => if x = true then b Φ env st1 else .ok false st1 := rfl
@[simp] theorem orT_ (a b : ST) : orT a b Φ env st = (a Φ env st).bind fun x st1 => if x = true then .ok true st1 else b Φ env st1 := rfl
@[simp] theorem notT_ (a : ST) : notT a Φ env st = (a Φ env st).bind fun x st1 => .ok (!x) st1 := rfl
@[simp] theorem ifF_ (t : ST) (a b : SE) : ifF t a b Φ env st = (t Φ env st).bind fun x st1 => if x = true then a Φ env st1 else b Φ env st1 := rfl
@[simp] theorem negF_ (a : SE) : negF a Φ env st = (a Φ env st).bind fun x st1 => liftO (pureO (negW x) st1) := rfl
@[simp] theorem nilL_ : nilL Φ env st = .ok [] st := rfl
@[simp] theorem consL_ (a : SE) (b : SL) : consL a b Φ env st = (a Φ env st).bind fun x st1 => (b Φ env st1).bind fun xs st2 => .ok (x :: xs) st2 := rfl
@[simp] theorem tupF_ (a : SL) : tupF a Φ env st = (a Φ env st).bind fun xs st1 => if xs.length ≤ slBound then .ok (.tup xs) st1 else .bad := rfl
@[simp] theorem lstF_ (a : SL) : lstF a Φ env st = (a Φ env st).bind fun xs st1 => if xs.length ≤ slBound then .ok (.ref st1.length) (st1 ++ [.lst xs]) else .bad := rfl
@[simp] theorem bltF_ (g : WL) (a : SL) : bltF g a Φ env st = (a Φ env st).bind fun xs st1 => liftO (g xs st1) := rfl
@[simp] theorem callF_ (i : Nat) (c : Shape) (l lk : SL) : callF i c l lk Φ env st = (l Φ env st).bind fun xs st1 => (lk Φ env st1).bind fun ys st2 => if xs.length = c.npos ∧ ys.length = c.ks.length then Φ i (pick .non c.src (xs ++ ys)) st2 else .bad := rfl
@[simp] theorem methF_ (g : WM) (a : SE) (l : SL) : methF g a l Φ env st = (a Φ env st).bind fun x st1 => match (kdOf x st1).bind g with
  | some f => (l Φ env st1).bind fun xs st2 => liftO (f x xs st2)
  | none => .bad := rfl
@[simp] theorem isiF_ (G : Glb) (c : Cl) (a : SE) : isiF G c a Φ env st = (a Φ env st).bind fun x st1 => liftO (pureO ((isiW G x st1 c).map .bl) st1) := rfl
@[simp] theorem chainF_ (g g' : W2) (a b c : SE) : chainF g g' a b c Φ env st = (a Φ env st).bind fun x st1 => (b Φ env st1).bind fun y st2 => (liftO (g x y st2)).bind fun z st3 => match isBl z with
  | some true => (c Φ env st3).bind fun w st4 => liftO (g' y w st4)
  | some false => .ok (.bl false) st3
  | none => .bad := rfl
@[simp] theorem slF_ (a : SE) (lo hi : SO') : slF a lo hi Φ env st = (a Φ env st).bind fun x st1 => (lo Φ env st1).bind fun l st2 => (hi Φ env st2).bind fun h st3 => liftO (slW x l h st3) := rfl
@[simp] theorem noPart_ : noPart Φ env st = .ok none st := rfl
@[simp] theorem somePart_ (a : SE) : somePart a Φ env st = (a Φ env st).bind fun x st1 => match x with
  | .int i => .ok (some i) st1
  | _ => .bad := rfl
@[simp] theorem revF_ (a : SE) : revF a Φ env st = (a Φ env st).bind fun x st1 => liftO (revW x st1) := rfl
@[simp] theorem inRngF_ (a : SE) (l : SL) : inRngF a l Φ env st = (a Φ env st).bind fun x st1 => (l Φ env st1).bind fun ys st2 => liftO (pureO (inRng x (rngW ys)) st2) := rfl
@[simp] theorem ndctF_ : ndctF Φ env st = .ok (.ref st.length) (st ++ [.dct []]) := rfl
@[simp] theorem nilP_ : nilP Φ env st = .ok [] st := rfl
@[simp] theorem consP_ (a b : SE) (r : SP') : consP a b r Φ env st = (a Φ env st).bind fun x st1 => (b Φ env st1).bind fun y st2 => (r Φ env st2).bind fun ps st3 => .ok ((x, y) :: ps) st3 := rfl
@[simp] theorem dispF_ (n : Nat) (p : SP') : dispF n p Φ env st = (p Φ env (st ++ [.dct []])).bind fun ps st1 => match dpairs ps, st1[st.length]? with
  | some kvs, some (.dct []) => if kvs.length ≤ 15 then .ok (.ref st.length) (st1.set st.length (.dct (mergeW [] kvs))) else .bad
  | _, _ => .bad := rfl
@[simp] theorem skipS_ : skipS Φ env st = .nx env st := rfl
@[simp] theorem seqS_ (a b : SS) : seqS a b Φ env st = (a Φ env st).seq (b Φ) := rfl
@[simp] theorem retS_ (a : SE) : retS a Φ env st = (a Φ env st).toS env fun w st1 => .rt w st1 := rfl
@[simp] theorem retN_ : retN Φ env st = .rt .non st := rfl
@[simp] theorem exprS_ (a : SE) : exprS a Φ env st = (a Φ env st).toS env fun _ st1 => .nx env st1 := rfl
@[simp] theorem ifS_ (t : ST) (a b : SS) : ifS t a b Φ env st = (t Φ env st).toS env fun c st1 => if c = true then a Φ env st1 else b Φ env st1 := rfl
@[simp] theorem asgS_ (a : SE) (t : SG) : asgS a t Φ env st = (a Φ env st).toS env fun w st1 => (t Φ w env st1).go := rfl
@[simp] theorem nameT_ (i : Nat) (w : W) : nameT i Φ w env st = .nx (env.set i (some w)) st := rfl
@[simp] theorem subT_ (a i : SE) (w : W) : subT a i Φ w env st = (a Φ env st).toS env fun o st1 => (i Φ env st1).toS env fun j st2 => match setW o j w st2 with
  | some st3 => .nx env st3
  | none => .bad := rfl
@[simp] theorem tupT_ (n : Nat) (l : Phi → List W → Env → Store → SOut) (w : W) : tupT n l Φ w env st = match seqOf w st with
  | some ws => if ws.length = n then l Φ ws env st else .bad
  | none => .bad := rfl
@[simp] theorem nilG_ : nilG Φ [] env st = .nx env st := rfl
@[simp] theorem consG_ (a : SG) (b : Phi → List W → Env → Store → SOut) (w : W) (r : List W) : consG a b Φ (w :: r) env st = (a Φ w env st).seq (b Φ r) := rfl
@[simp] theorem parS2_ (i j : Nat) (l : SL) : parS2 i j l Φ env st = (l Φ env st).toS env fun ws st1 => match ws with
  | [a, b] => .nx ((env.set i (some a)).set j (some b)) st1
  | _ => .bad := rfl
@[simp] theorem parS3_ (i j m : Nat) (l : SL) : parS3 i j m l Φ env st = (l Φ env st).toS env fun ws st1 => match ws with
  | [a, b, c] => .nx (((env.set i (some a)).set j (some b)).set m (some c)) st1
  | _ => .bad := rfl
@[simp] theorem augS_ (i : Nat) (g : W2) (a : SE) : augS i g a Φ env st = match env[i]? with
  | some (some w) => (a Φ env st).toS env fun y st1 => match g w y st1 with
    | some (z, st2) => .nx (env.set i (some z)) st2
    | none => .bad
  | _ => .bad := rfl
@[simp] theorem forS_ (it : SI) (t : SG) (b : SS) : forS it t b Φ env st = (it Φ env st).toS env fun I st1 => forL I (t Φ) (b Φ) (cntW I) env st1 := rfl
@[simp] theorem whileS_ (c : ST) (b : SS) : whileS c b Φ env st = whileL (c Φ) (b Φ) turns env st := rfl
@[simp] theorem valI_ (a : SE) : valI a Φ env st = (a Φ env st).bind fun w st1 => match w with
  | .str z => .ok (.chr z) st1
  | w => match seqOf w st1 with
    | some ws => .ok (.seq w ws.length) st1
    | none => .bad := rfl
@[simp] theorem rngI_ (f : List W → Option ItW) (l : SL) : rngI f l Φ env st = (l Φ env st).bind fun ws st1 => match f ws with
  | some it => .ok it st1
  | none => .bad := rfl
@[simp] theorem lcF_ (own : List Nat) (it : SI) (t : TF) (c : ST) (e : SE) : lcF own it t c e Φ env st = (it Φ env st).bind fun I st1 => lcL st1.length I t (c Φ) (e Φ) (wipeE env own) (cntW I) (st1 ++ [.lst []]) := rfl
@[simp] theorem yesT_ : yesT Φ env st = .ok true st := rfl
@[simp] theorem nameC_ (i : Nat) (w : W) : nameC i w env st = some (env.set i (some w)) := rfl
end
/-! ### operations -/
section
variable {st : Store}
@[simp] theorem addW_int (i j : Int) : addW (.int i) (.int j) st = some (.int (i + j), st) := rfl
@[simp] theorem subW_int (i j : Int) : subW (.int i) (.int j) st = some (.int (i - j), st) := rfl
theorem mulW_int {i j : Int} (h : i.natAbs.log2 + j.natAbs.log2 < 1000000) : mulW (.int i) (.int j) st = some (.int (i * j), st) := by simp only [mulW]; rw [if_pos h]
theorem modW_int {i j : Int} (h : 0 < j) : modW (.int i) (.int j) st = some (.int (i % j), st) := by simp only [modW]; rw [if_pos h]
theorem divW_int {i j : Int} (h : 0 < j) (h2 : j < 18446744073709551616) : divW (.int i) (.int j) st = some (.int (i / j), st) := by
  simp only [divW]
  rw [if_pos ⟨h, Int.lt_trans h2 (by decide +kernel)⟩]
theorem powW_10_18 : powW (.int 10) (.int 18) st = some (.int 1000000000000000000, st) := by
  simp only [powW]; rw [if_pos (by decide)]; rfl
theorem powW_2_61 : powW (.int 2) (.int 61) st = some (.int 2305843009213693952, st) := by
  simp only [powW]; rw [if_pos (by decide)]; rfl
theorem powW_2_31 : powW (.int 2) (.int 31) st = some (.int 2147483648, st) := by
  simp only [powW]; rw [if_pos (by decide)]; rfl
@[simp] theorem ordW_int (f : Int → Int → Bool) (g : List Nat → List Nat → Bool) (i j : Int) : ordW f g (.int i) (.int j) st = some (.bl (f i j), st) := rfl
@[simp] theorem truW_bl (b : Bool) : truW (.bl b) st = some b := rfl
@[simp] theorem truW_int (i : Int) : truW (.int i) st = some (i != 0) := rfl
@[simp] theorem truW_non : truW .non st = some false := rfl
@[simp] theorem truW_tup (ws : List W) : truW (.tup ws) st = some (!ws.isEmpty) := rfl
@[simp] theorem negW_int (i : Int) : negW (.int i) = some (.int (-i)) := rfl
end
theorem log2_mul {i j : Int} {n m : Nat} (h1 : i.natAbs < 2 ^ n) (h2 : j.natAbs < 2 ^ m) (h : n + m ≤ 1000000) (hn : 0 < n) (hm : 0 < m) : i.natAbs.log2 + j.natAbs.log2 < 1000000 := by
  have k1 : i.natAbs.log2 < n := by
    by_cases h0 : i.natAbs = 0
    · rw [h0]; simpa using hn
    · exact (Nat.log2_lt h0).mpr h1
  have k2 : j.natAbs.log2 < m := by
    by_cases h0 : j.natAbs = 0
    · rw [h0]; simpa using hm
    · exact (Nat.log2_lt h0).mpr h2
  omega
/-! ### the trimming -/
theorem trimO_same (st : Store) (w : W) : trimO st (.ok w st) = .ok w st := by
  unfold trimO
  dsimp only
  split
  · rw [List.take_length]
  · rfl
theorem trimO_app (st st' g : Store) (w : W) (hl : st'.length = st.length) (hw : refsLt st.length w = true) (ho : ∀ (i : Nat) (o : SO), st'[i]? = some o → st[i]? = some o ∨ refsLtO st.length o = true) : trimO st (.ok w (st' ++ g)) = .ok w st' := by
  unfold trimO
  dsimp only
  rw [if_pos ⟨hw, fun i o hi e => ho i o (by rwa [List.getElem?_append_left (by omega)] at e)⟩, ← hl, List.take_left]
theorem trimO_app0 (st g : Store) (w : W) (hw : refsLt st.length w = true) : trimO st (.ok w (st ++ g)) = .ok w st := trimO_app st st g w rfl hw fun _ _ e => .inl e
theorem trimO_of (st st' g : Store) (w : W) (hl : st'.length = st.length) (hw : refsLt st.length w = true) (ho : ∀ (i : Nat) (o : SO), st'[i]? = some o → st[i]? = some o ∨ refsLtO st.length o = true) : trimO st (.ok w st') = .ok w st' := by
  have := trimO_app st st' [] w hl hw ho
  rwa [List.append_nil] at this
end Zf
namespace Zf
open PySem L2
open PyProof.Rows hiding St

/-! ### the draws -/
/-- the state: the great cells, the small ones folded, how many were drawn -/
structure DS where
  g : List Int
  s : Int
  k : Nat
def stD (d : DS) (r : Store) : Store := .dct [(.inr "great", .ref 1), (.inr "small", .int d.s), (.inr "at", .int (d.k : Int))] :: .lst (d.g.map .int) :: r
def begunF : SS := (seqS (asgS (dispF 3 (consP (retE (.str ("great" : Str))) (lcF [2] (valI (varE 0)) (nameC 2) (asB (binF geW (varE 2) (binF powW (retE (.int 10)) (retE (.int 18))))) (varE 2)) (consP (retE (.str ("small" : Str))) (retE (.int 0)) (consP (retE (.str ("at" : Str))) (retE (.int 0)) nilP)))) (nameT 1)) (seqS (forS (valI (varE 0)) (nameT 2) (ifS (asB (binF ltW (varE 2) (binF powW (retE (.int 10)) (retE (.int 18))))) (seqS (asgS (binF addW (binF addW (binF mulW (binF subW' (varE 1) (retE (.str ("small" : Str)))) (binF powW (retE (.int 10)) (retE (.int 18)))) (binF modW (varE 2) (binF powW (retE (.int 10)) (retE (.int 18))))) (retE (.int 1))) (subT (varE 1) (retE (.str ("small" : Str))))) (asgS (binF modW (binF subW' (varE 1) (retE (.str ("small" : Str)))) (binF mulW (binF subW (binF powW (retE (.int 2)) (retE (.int 61))) (retE (.int 1))) (binF subW (binF powW (retE (.int 2)) (retE (.int 31))) (retE (.int 1))))) (subT (varE 1) (retE (.str ("small" : Str)))))) skipS)) (retS (varE 1))))
/-- the draw from the small cells -/
def drawT : SS := (seqS (asgS (lstF (consL (retE (.int 2147483647)) (consL (retE (.int 2147483629)) (consL (retE (.int 2147483587)) (consL (retE (.int 2147483579)) (consL (retE (.int 2147483563)) (consL (retE (.int 2147483549)) (consL (retE (.int 2147483543)) (consL (retE (.int 2147483497)) nilL))))))))) (nameT 5)) (seqS (asgS (binF modW (binF addW (binF addW (binF subW' (varE 0) (retE (.str ("small" : Str)))) (binF mulW (retE (.int 7919)) (varE 2))) (retE (.int 17))) (binF subW' (varE 5) (binF modW (varE 2) (retE (.int 8))))) (nameT 6)) (seqS (asgS (binF modW (binF addW (binF mulW (varE 6) (binF addW (retE (.int 48271)) (binF mulW (retE (.int 2)) (varE 2)))) (binF mulW (retE (.int 104729)) (varE 2))) (binF subW' (varE 5) (binF modW (varE 2) (retE (.int 8))))) (nameT 6)) (retS (binF modW (binF divW (binF modW (binF mulW (binF mulW (varE 6) (varE 6)) (varE 6)) (binF subW' (varE 5) (binF modW (varE 2) (retE (.int 8))))) (retE (.int 7))) (varE 1))))))
def drawF : SS := (seqS (asgS (binF subW' (varE 0) (retE (.str ("at" : Str)))) (nameT 2)) (seqS (asgS (binF addW (varE 2) (retE (.int 1))) (subT (varE 0) (retE (.str ("at" : Str))))) (seqS (ifS (asB (binF (eqW true) (binF subW' (varE 0) (retE (.str ("great" : Str)))) (lstF nilL))) (seqS (asgS (binF modW (varE 2) (bltF (un1 lenW) (consL (binF subW' (varE 0) (retE (.str ("great" : Str)))) nilL))) (nameT 3)) (seqS (asgS (binF subW' (binF subW' (varE 0) (retE (.str ("great" : Str)))) (varE 3)) (nameT 4)) (ifS (asB (binF gtW (varE 4) (retE (.int 0)))) (seqS (asgS (binF divW (varE 4) (varE 1)) (subT (binF subW' (varE 0) (retE (.str ("great" : Str)))) (varE 3))) (retS (binF modW (varE 4) (varE 1)))) skipS))) skipS) drawT)))
theorem ne_gs : ¬ (("great" : Str) = "small") := by decide +kernel
theorem ne_ga : ¬ (("great" : Str) = "at") := by decide +kernel
theorem ne_sa : ¬ (("small" : Str) = "at") := by decide +kernel
theorem ne_sg : ¬ (("small" : Str) = "great") := by decide +kernel
theorem ne_ag : ¬ (("at" : Str) = "great") := by decide +kernel
theorem ne_as : ¬ (("at" : Str) = "small") := by decide +kernel
section
variable {d : DS} {r : Store}
theorem dsub_at : subW' (.ref 0) (.str "at") (stD d r) = some (.int (d.k : Int), stD d r) := by
  simp [stD, subW', dGet, keyW, valW, ne_ga, ne_sa]
theorem dsub_small : subW' (.ref 0) (.str "small") (stD d r) = some (.int d.s, stD d r) := by
  simp [stD, subW', dGet, keyW, valW, ne_gs]
theorem dsub_great : subW' (.ref 0) (.str "great") (stD d r) = some (.ref 1, stD d r) := by
  simp [stD, subW', dGet, keyW, valW]
theorem dset_at {k : Nat} {i : Int} (h : i = (k : Int)) : setW (.ref 0) (.str "at") (.int i) (stD d r) = some (stD { d with k := k } r) := by
  subst h
  simp [stD, setW, keyW, putW, ne_ga, ne_sa, slBound]
theorem dset_small {i : Int} : setW (.ref 0) (.str "small") (.int i) (stD d r) = some (stD { d with s := i } r) := by
  simp [stD, setW, keyW, putW, ne_gs, ne_as, slBound]
theorem dlen : un1 lenW [.ref 1] (stD d r) = some (.int (d.g.length : Int), stD d r) := by
  simp [un1, lenW, seqOf, stD]
end
def drawE (m : Int) : Env := [some (.ref 0), some (.int m), none, none, none, none, none]
def primes : List W := [.int 2147483647, .int 2147483629, .int 2147483587, .int 2147483579, .int 2147483563, .int 2147483549, .int 2147483543, .int 2147483497]
theorem primes_eq : [W.int 2147483647, .int 2147483629, .int 2147483587, .int 2147483579, .int 2147483563, .int 2147483549, .int 2147483543, .int 2147483497] = primes := rfl
theorem atI_nat {ws : List W} {n : Nat} (h : n < ws.length) : atI ws (n : Int) = ws[n]? := by
  unfold atI ixN
  simp [h]
@[simp] theorem stD_app {d : DS} {r j : Store} : stD d r ++ j = stD d (r ++ j) := rfl
@[simp] theorem stD_length {d : DS} {r : Store} : (stD d r).length = r.length + 2 := rfl
theorem stD_at {d : DS} {r : Store} {n : Nat} : (stD d r)[n + 2]? = r[n]? := rfl
theorem dgreat_empty {d : DS} {r : Store} : eqW true (.ref 1) (.ref (r.length + 2)) (stD d (r ++ [.lst []])) = some (.bl (!d.g.isEmpty), stD d (r ++ [.lst []])) := by
  have h : (stD d (r ++ [.lst []]))[r.length + 2]? = some (.lst []) := by rw [stD_at]; simp
  have h1 : (stD d (r ++ [.lst []]))[1]? = some (.lst (d.g.map .int)) := rfl
  rw [eqW_nil h1 h]
  cases d.g <;> rfl
theorem prime_at (k : Nat) : ∃ p : Int, 0 < p ∧ p < 2147483648 ∧ ∀ (n : Nat) (st : Store), st[n]? = some (.lst primes) → subW' (.ref n) (.int ((k : Int) % 8)) st = some (.int p, st) := by
  have h8 : k % 8 < primes.length := by show k % 8 < 8; omega
  have hz : ∀ w ∈ primes, ∃ p : Int, w = .int p ∧ 0 < p ∧ p < 2147483648 := by
    intro w hw
    simp only [primes, List.mem_cons, List.not_mem_nil, or_false] at hw
    rcases hw with e | e | e | e | e | e | e | e <;> exact ⟨_, e, by decide, by decide⟩
  obtain ⟨p, e, h1, h2⟩ := hz primes[k % 8] (List.getElem_mem h8)
  refine ⟨p, h1, h2, fun n st hst => ?_⟩
  have e3 : ((k : Int) % 8) = ((k % 8 : Nat) : Int) := by omega
  simp only [subW', hst]
  rw [e3, atI_nat h8, List.getElem?_eq_getElem h8, e]
  rfl
theorem natAbs_lt {i : Int} {n : Nat} (h0 : 0 ≤ i) (h : i < 2 ^ n) : i.natAbs < 2 ^ n := by
  have : ((i.natAbs : Nat) : Int) < ((2 ^ n : Nat) : Int) := by
    rw [Int.natAbs_of_nonneg h0]; push_cast; exact h
  exact_mod_cast this
theorem drawT_go (Φ : Phi) (d : DS) (r : Store) (m : Int) (k : Nat) (e3 e4 : Option W) (hm : 0 < m) (hk : k < 1000000000) (hs : 0 ≤ d.s) (hs2 : d.s < 2 ^ 92) :
    ∃ x : Int, 0 ≤ x ∧ x < m ∧ drawT Φ [some (.ref 0), some (.int m), some (.int (k : Int)), e3, e4, none, none] (stD d r) = .rt (.int x) (stD d (r ++ [.lst primes])) := by
  obtain ⟨p, p0, p1, hp⟩ := prime_at k
  have hp := hp (r.length + 2) (stD d (r ++ [.lst primes])) (by rw [stD_at]; simp)
  have hk0 : (0 : Int) ≤ (k : Int) := by omega
  have hk1 : (k : Int) < 1000000000 := by omega
  have a1 : ∀ {st : Store}, mulW (.int 7919) (.int (k : Int)) st = some (.int (7919 * (k : Int)), st) := fun {st} => mulW_int (log2_mul (n := 13) (m := 30) (by decide) (natAbs_lt hk0 (by omega)) (by decide) (by decide) (by decide))
  have a2 : ∀ {st : Store}, mulW (.int 2) (.int (k : Int)) st = some (.int (2 * (k : Int)), st) := fun {st} => mulW_int (log2_mul (n := 13) (m := 30) (by decide) (natAbs_lt hk0 (by omega)) (by decide) (by decide) (by decide))
  have a3 : ∀ {st : Store}, mulW (.int 104729) (.int (k : Int)) st = some (.int (104729 * (k : Int)), st) := fun {st} => mulW_int (log2_mul (n := 17) (m := 30) (by decide) (natAbs_lt hk0 (by omega)) (by decide) (by decide) (by decide))
  have a4 : ∀ {st : Store}, modW (.int (k : Int)) (.int 8) st = some (.int ((k : Int) % 8), st) := fun {st} => modW_int (by decide)
  have a5 : ∀ (y : Int) {st : Store}, modW (.int y) (.int p) st = some (.int (y % p), st) := fun y {st} => modW_int p0
  have a6 : ∀ (y : Int) {st : Store}, modW (.int y) (.int m) st = some (.int (y % m), st) := fun y {st} => modW_int hm
  have a7 : ∀ (y : Int) {st : Store}, divW (.int y) (.int 7) st = some (.int (y / 7), st) := fun y {st} => divW_int (by decide) (by decide)
  have b0 : ∀ y : Int, 0 ≤ y % p := fun y => Int.emod_nonneg _ (by omega)
  have b1 : ∀ y : Int, y % p < 2 ^ 31 := fun y => Int.lt_trans (Int.emod_lt_of_pos _ p0) p1
  have a8 : ∀ (y : Int) {st : Store}, mulW (.int (y % p)) (.int (48271 + 2 * (k : Int))) st = some (.int (y % p * (48271 + 2 * (k : Int))), st) := fun y {st} => mulW_int (log2_mul (n := 31) (m := 40) (natAbs_lt (b0 y) (b1 y)) (natAbs_lt (by omega) (by omega)) (by decide) (by decide) (by decide))
  have a9 : ∀ (y : Int) {st : Store}, mulW (.int (y % p)) (.int (y % p)) st = some (.int (y % p * (y % p)), st) := fun y {st} => mulW_int (log2_mul (n := 31) (m := 31) (natAbs_lt (b0 y) (b1 y)) (natAbs_lt (b0 y) (b1 y)) (by decide) (by decide) (by decide))
  have c1 : ∀ y : Int, y % p * (y % p) < 2 ^ 62 := fun y => by
    have h1 := b0 y
    have h2 := b1 y
    have h3 : y % p * (y % p) ≤ y % p * (2 ^ 31) := Int.mul_le_mul_of_nonneg_left (by omega) h1
    omega
  have a10 : ∀ (y : Int) {st : Store}, mulW (.int (y % p * (y % p))) (.int (y % p)) st = some (.int (y % p * (y % p) * (y % p)), st) := fun y {st} => mulW_int (log2_mul (n := 62) (m := 31) (natAbs_lt (Int.mul_nonneg (b0 y) (b0 y)) (c1 y)) (natAbs_lt (b0 y) (b1 y)) (by decide) (by decide) (by decide))
  have go : ∃ y : Int, y = (d.s + 7919 * (k : Int) + 17) % p ∧ ∃ z : Int, z = (y * (48271 + 2 * (k : Int)) + 104729 * (k : Int)) % p ∧ drawT Φ [some (.ref 0), some (.int m), some (.int (k : Int)), e3, e4, none, none] (stD d r) = .rt (.int (z * z * z % p / 7 % m)) (stD d (r ++ [.lst primes])) := by
    refine ⟨_, rfl, _, rfl, ?_⟩
    unfold drawT
    simp [slBound, dsub_small, a1, a2, a3, a4]
    simp [primes_eq, hp, dsub_small, a1, a2, a3, a4, a5, a6, a7, a8, a9, a10]
  obtain ⟨y, _, z, _, e⟩ := go
  exact ⟨_, Int.emod_nonneg _ (by omega), Int.emod_lt_of_pos _ hm, e⟩
theorem dcell {d : DS} {r : Store} {i : Nat} {c : Int} (h : d.g[i]? = some c) : subW' (.ref 1) (.int (i : Int)) (stD d r) = some (.int c, stD d r) := by
  have hl : i < (d.g.map W.int).length := by rw [List.length_map]; exact (List.getElem?_eq_some_iff.mp h).1
  have e : (stD d r)[1]? = some (.lst (d.g.map .int)) := rfl
  simp only [subW', e]
  rw [atI_nat hl, List.getElem?_map, h]
  rfl
theorem dset_cell {d : DS} {r : Store} {i : Nat} {c : Int} (h : i < d.g.length) : setW (.ref 1) (.int (i : Int)) (.int c) (stD d r) = some (stD { d with g := d.g.set i c } r) := by
  have e : (stD d r)[1]? = some (.lst (d.g.map .int)) := rfl
  simp only [setW, e, ixN]
  simp [h, stD, List.map_set]
theorem draw_go (Φ : Phi) (d : DS) (r : Store) (m : Int) (hm : 0 < m) (hm2 : m < 18446744073709551616) (hk : d.k < 1000000000) (hs : 0 ≤ d.s) (hs2 : d.s < 2 ^ 92) :
    ∃ (x : Int) (d' : DS) (j : Store), 0 ≤ x ∧ x < m ∧ d'.k = d.k + 1 ∧ d'.s = d.s ∧ drawF Φ (drawE m) (stD d r) = .rt (.int x) (stD d' (r ++ j)) := by
  obtain ⟨x, x0, x1, hx⟩ := drawT_go Φ { d with k := d.k + 1 } (r ++ [.lst []]) m d.k none none hm hk hs hs2
  have hd : ∀ {r : Store}, eqW true (.ref 1) (.ref (r.length + 2)) (stD { d with k := d.k + 1 } (r ++ [.lst []])) = some (.bl (!d.g.isEmpty), stD { d with k := d.k + 1 } (r ++ [.lst []])) := fun {r} => dgreat_empty (d := { d with k := d.k + 1 })
  by_cases hg : d.g = []
  · refine ⟨x, { d with k := d.k + 1 }, [.lst []] ++ [.lst primes], x0, x1, rfl, rfl, ?_⟩
    unfold drawF drawE
    simp [dsub_at, dset_at (k := d.k + 1) (i := (d.k : Int) + 1) (by omega), dsub_great, slBound, hd]
    simp [hg] at hx ⊢
    exact hx
  · have hl : 0 < d.g.length := by cases h : d.g with
      | nil => exact absurd h hg
      | cons _ _ => simp
    have hi : d.k % d.g.length < d.g.length := Nat.mod_lt _ hl
    have hc : d.g[d.k % d.g.length]? = some d.g[d.k % d.g.length] := List.getElem?_eq_getElem hi
    generalize hcell : d.g[d.k % d.g.length] = c at hc
    have a1 : ∀ {st : Store}, modW (.int (d.k : Int)) (.int (d.g.length : Int)) st = some (.int ((d.k % d.g.length : Nat) : Int), st) := fun {st} => by
      rw [modW_int (by omega)]; congr 3
    have a2 : ∀ {st : Store}, modW (.int c) (.int m) st = some (.int (c % m), st) := fun {st} => modW_int hm
    have a3 : ∀ {st : Store}, divW (.int c) (.int m) st = some (.int (c / m), st) := fun {st} => divW_int hm hm2
    have b1 : ∀ {r : Store}, subW' (.ref 1) (.int ((d.k % d.g.length : Nat) : Int)) (stD { d with k := d.k + 1 } r) = some (.int c, stD { d with k := d.k + 1 } r) := fun {r} => dcell (d := { d with k := d.k + 1 }) hc
    have b2 : ∀ {r : Store}, setW (.ref 1) (.int ((d.k % d.g.length : Nat) : Int)) (.int (c / m)) (stD { d with k := d.k + 1 } r) = some (stD { d with k := d.k + 1, g := d.g.set (d.k % d.g.length) (c / m) } r) := fun {r} => dset_cell (d := { d with k := d.k + 1 }) hi
    have b3 : ∀ {r : Store}, un1 lenW [.ref 1] (stD { d with k := d.k + 1 } r) = some (.int (d.g.length : Int), stD { d with k := d.k + 1 } r) := fun {r} => dlen (d := { d with k := d.k + 1 })
    by_cases h0 : 0 < c
    · refine ⟨c % m, { d with k := d.k + 1, g := d.g.set (d.k % d.g.length) (c / m) }, [.lst []], Int.emod_nonneg _ (by omega), Int.emod_lt_of_pos _ hm, rfl, rfl, ?_⟩
      unfold drawF drawE
      simp [dsub_at, dset_at (k := d.k + 1) (i := (d.k : Int) + 1) (by omega), dsub_great, slBound, hd, hg, b3, -Int.natCast_emod, a1, b1, h0, a3, b2, a2]
    · obtain ⟨x, x0, x1, hx⟩ := drawT_go Φ { d with k := d.k + 1 } (r ++ [.lst []]) m d.k (some (.int ((d.k % d.g.length : Nat) : Int))) (some (.int c)) hm hk hs hs2
      refine ⟨x, { d with k := d.k + 1 }, [.lst []] ++ [.lst primes], x0, x1, rfl, rfl, ?_⟩
      unfold drawF drawE
      simp [dsub_at, dset_at (k := d.k + 1) (i := (d.k : Int) + 1) (by omega), dsub_great, slBound, hd, hg, b3, -Int.natCast_emod, a1, b1, h0]
      simpa using hx
/-- n draws may follow -/
structure DOk (n : Nat) (d : DS) : Prop where
  k : d.k + n ≤ 1000000000
  s : 0 ≤ d.s
  s2 : d.s < 2 ^ 92
theorem DOk.mono {n m : Nat} {d : DS} (h : DOk n d) (e : m ≤ n) : DOk m d := ⟨by have := h.k; omega, h.s, h.s2⟩
theorem refsLtL_ints (n : Nat) (g : List Int) : refsLtL n (g.map W.int) = true := by
  induction g with
  | nil => rfl
  | cons a l ih => simp only [List.map_cons, refsLtL, refsLt, ih, Bool.and_self]
theorem trim_D {d d' : DS} {r j : Store} {w : W} (hw : refsLt (r.length + 2) w = true) : trimO (stD d r) (.ok w (stD d' (r ++ j))) = .ok w (stD d' r) := by
  rw [← stD_app]
  refine trimO_app _ _ _ _ rfl hw fun i o e => ?_
  match i, e with
  | 0, e =>
    cases e
    exact .inr (by simp [refsLtO, refsLtL, refsLt])
  | 1, e =>
    cases e
    exact .inr (refsLtL_ints _ _)
  | i + 2, e => exact .inl e
/-- what a def of the draws' kind is -/
structure IsDraw (dd : FnD) : Prop where
  F : dd.F = drawF
  N : dd.N.length = 7
  ps : dd.ps.length = 2
theorem draw_call {dd : FnD} (hd : IsDraw dd) {Φ : Phi} {d : DS} {r : Store} {m : Int} {n : Nat} (hm : 0 < m) (hm2 : m < 18446744073709551616) (h : DOk (n + 1) d) :
    ∃ (x : Int) (d' : DS), 0 ≤ x ∧ x < m ∧ DOk n d' ∧ callD dd Φ [.ref 0, .int m] (stD d r) = .ok (.int x) (stD d' r) := by
  have hk := h.k
  obtain ⟨x, d', j, x0, x1, e1, e2, e3⟩ := draw_go Φ d r m hm hm2 (by omega) h.s h.s2
  refine ⟨x, d', x0, x1, ⟨by rw [e1]; omega, by rw [e2]; exact h.s, by rw [e2]; exact h.s2⟩, ?_⟩
  have en : env0 dd.N [.ref 0, .int m] = drawE m := by
    simp [env0, hd.N, drawE, List.replicate]
  unfold callD
  rw [if_pos (by rw [hd.ps]; rfl), hd.F, en, e3, endO_rt]
  exact trim_D rfl
end Zf
namespace Zf
open PySem L2
open PyProof.Rows hiding St

/-! ### loops by a word -/
theorem forL_word {it : ItW} {t : W → Env → Store → SOut} {b : Env → Store → SOut} (I : Nat → Env → Store → Prop) (hend : ∀ env st, I (cntW it) env st → endW it st = true)
    (step : ∀ (i : Nat) (env : Env) (st : Store), i < cntW it → I i env st → ∃ w env1 st1, yldW it i st = some w ∧ t w env st = .nx env1 st1 ∧ ∃ env2 st2, (b env1 st1 = .nx env2 st2 ∨ b env1 st1 = .ct env2 st2) ∧ I (i + 1) env2 st2) :
    ∀ {env : Env} {st : Store}, I 0 env st → ∃ env' st', forL it t b (cntW it) env st = .nx env' st' ∧ I (cntW it) env' st' := by
  have main : ∀ (m i : Nat), i + m = cntW it → ∀ (env : Env) (st : Store), I i env st → ∃ env' st', forL it t b m env st = .nx env' st' ∧ I (cntW it) env' st' := fun m => by
    induction m with
    | zero =>
      intro i hi env st h
      have e : i = cntW it := by omega
      subst e
      exact ⟨env, st, by simp only [forL]; rw [if_pos (hend env st h)], h⟩
    | succ m ih =>
      intro i hi env st h
      obtain ⟨w, env1, st1, e1, e2, env2, st2, e3, h2⟩ := step i env st (by omega) h
      obtain ⟨env', st', e4, h3⟩ := ih (i + 1) (by omega) env2 st2 h2
      refine ⟨env', st', ?_, h3⟩
      have ei : cntW it - (m + 1) = i := by omega
      simp only [forL]
      rw [ei, e1]
      simp only [e2, SOut.go]
      rcases e3 with e3 | e3 <;> · rw [e3]; exact e4
  exact fun {env st} h => main (cntW it) 0 (by omega) env st h
/-- a comprehension: before the new list pre, behind it g -/
theorem lcL_word {n0 : Nat} {it : ItW} {t : TF} {c : Env → Store → Out Bool} {e : Env → Store → Out W} {env : Env} (P : Nat → Store → List W → Store → Prop) (hlen : ∀ i pre acc g, P i pre acc g → pre.length = n0 ∧ acc.length ≤ i) (hcnt : cntW it ≤ slBound)
    (hend : ∀ pre acc g, P (cntW it) pre acc g → endW it (pre ++ .lst acc :: g) = true)
    (step : ∀ (i : Nat) (pre : Store) (acc : List W) (g : Store), i < cntW it → P i pre acc g → ∃ w env1, yldW it i (pre ++ .lst acc :: g) = some w ∧ t w env (pre ++ .lst acc :: g) = some env1 ∧
      ((∃ pre1 g1, c env1 (pre ++ .lst acc :: g) = .ok false (pre1 ++ .lst acc :: g1) ∧ P (i + 1) pre1 acc g1) ∨
        ∃ st1 y pre2 g2, c env1 (pre ++ .lst acc :: g) = .ok true st1 ∧ e env1 st1 = .ok y (pre2 ++ .lst acc :: g2) ∧ pre2.length = n0 ∧ P (i + 1) pre2 (acc ++ [y]) g2)) :
    ∀ {pre g : Store}, P 0 pre [] g → ∃ pre' acc' g', lcL n0 it t c e env (cntW it) (pre ++ .lst [] :: g) = .ok (.ref n0) (pre' ++ .lst acc' :: g') ∧ P (cntW it) pre' acc' g' := by
  have at_n : ∀ {pre g : Store} {acc : List W}, pre.length = n0 → (pre ++ .lst acc :: g)[n0]? = some (.lst acc) := fun {pre g acc} h => by
    rw [List.getElem?_append_right (by omega), h, Nat.sub_self]; rfl
  have set_n : ∀ {pre g : Store} {acc acc' : List W}, pre.length = n0 → (pre ++ .lst acc :: g).set n0 (.lst acc') = pre ++ .lst acc' :: g := fun {pre g acc acc'} h => by
    rw [List.set_append_right _ _ (by omega), h, Nat.sub_self]; rfl
  have main : ∀ (m i : Nat), i + m = cntW it → ∀ (pre : Store) (acc : List W) (g : Store), P i pre acc g → ∃ pre' acc' g', lcL n0 it t c e env m (pre ++ .lst acc :: g) = .ok (.ref n0) (pre' ++ .lst acc' :: g') ∧ P (cntW it) pre' acc' g' := fun m => by
    induction m with
    | zero =>
      intro i hi pre acc g h
      have ei : i = cntW it := by omega
      subst ei
      exact ⟨pre, acc, g, by simp only [lcL]; rw [if_pos (hend _ _ _ h)], h⟩
    | succ m ih =>
      intro i hi pre acc g h
      obtain ⟨w, env1, e1, e2, h2⟩ := step i pre acc g (by omega) h
      have ei : cntW it - (m + 1) = i := by omega
      obtain ⟨hl, hl2⟩ := hlen i pre acc g h
      simp only [lcL]
      rw [ei, e1]
      simp only [e2]
      rcases h2 with ⟨pre1, g1, e3, h3⟩ | ⟨st1, y, pre2, g2, e3, e4, hl3, h3⟩
      · obtain ⟨pre', acc', g', e5, h5⟩ := ih (i + 1) (by omega) pre1 acc g1 h3
        refine ⟨pre', acc', g', ?_, h5⟩
        rw [e3]
        simpa using e5
      · obtain ⟨pre', acc', g', e5, h5⟩ := ih (i + 1) (by omega) pre2 (acc ++ [y]) g2 h3
        refine ⟨pre', acc', g', ?_, h5⟩
        rw [e3]
        simp only [Out.noEr_ok, Out.bind_ok', if_true]
        rw [e4]
        simp only [Out.noEr_ok, Out.bind_ok', lstAt, at_n hl3]
        rw [if_pos (by omega), set_n hl3]
        exact e5
  exact fun {pre g} h => main (cntW it) 0 (by omega) pre [] g h
/-- .. where nothing but the new list changes -/
theorem lcL_pure {st g : Store} {it : ItW} {t : TF} {c : Env → Store → Out Bool} {e : Env → Store → Out W} {env : Env} (f : Nat → Option W) (hcnt : cntW it ≤ slBound) (hend : ∀ acc, endW it (st ++ .lst acc :: g) = true)
    (step : ∀ (i : Nat) (acc : List W), i < cntW it → ∃ w env1, yldW it i (st ++ .lst acc :: g) = some w ∧ t w env (st ++ .lst acc :: g) = some env1 ∧
      match f i with
      | none => c env1 (st ++ .lst acc :: g) = .ok false (st ++ .lst acc :: g)
      | some y => c env1 (st ++ .lst acc :: g) = .ok true (st ++ .lst acc :: g) ∧ e env1 (st ++ .lst acc :: g) = .ok y (st ++ .lst acc :: g)) :
    lcL st.length it t c e env (cntW it) (st ++ .lst [] :: g) = .ok (.ref st.length) (st ++ .lst ((List.range (cntW it)).filterMap f) :: g) := by
  have := lcL_word (n0 := st.length) (it := it) (t := t) (c := c) (e := e) (env := env) (fun i pre acc g' => pre = st ∧ g' = g ∧ acc = (List.range i).filterMap f) (fun i pre acc g' ⟨h1, _, h3⟩ => ⟨by rw [h1], by
    rw [h3]; exact Nat.le_trans (List.length_filterMap_le _ _) (by simp)⟩) hcnt (fun pre acc g' ⟨h1, h2, _⟩ => by rw [h1, h2]; exact hend acc) (fun i pre acc g' hi ⟨h1, h2, h3⟩ => ?_) (pre := st) (g := g) ⟨rfl, rfl, rfl⟩
  · obtain ⟨pre', acc', g', e1, h1, h2, h3⟩ := this
    rw [e1, h1, h2, h3]
  · subst h1 h2
    obtain ⟨w, env1, e1, e2, e3⟩ := step i acc hi
    refine ⟨w, env1, e1, e2, ?_⟩
    cases ef : f i with
    | none =>
      rw [ef] at e3
      exact .inl ⟨pre, g', e3, rfl, rfl, by rw [List.range_succ, List.filterMap_append, ← h3]; simp [ef]⟩
    | some y =>
      rw [ef] at e3
      exact .inr ⟨_, y, pre, g', e3.1, e3.2, rfl, rfl, rfl, by rw [List.range_succ, List.filterMap_append, ← h3]; simp [ef]⟩
theorem range_filterMap {α β : Type} (l : List α) (f : α → Option β) : (List.range l.length).filterMap (fun i => (l[i]?).bind f) = l.filterMap f := by
  induction l with
  | nil => rfl
  | cons a r ih =>
    rw [List.length_cons, List.range_succ_eq_map, List.filterMap_cons]
    simp only [List.getElem?_cons_zero, Option.bind_some, List.filterMap_map]
    have : (List.range r.length).filterMap ((fun i => ((a :: r)[i]?).bind f) ∘ Nat.succ) = r.filterMap f := ih
    rw [this, List.filterMap_cons]
theorem nowW_klst (ws : List W) (st : Store) : nowW (.klst ws) ws.length st = some ws := by simp [nowW, seqOf]
theorem nowW_tup (ws : List W) (st : Store) : nowW (.tup ws) ws.length st = some ws := by simp [nowW, seqOf]
theorem nowW_ref {n : Nat} {ws : List W} {st : Store} (h : st[n]? = some (.lst ws)) : nowW (.ref n) ws.length st = some ws := by simp [nowW, seqOf, h]
end Zf
namespace Zf
open PySem L2
open PyProof.Rows hiding St

/-! ### the draws begin -/
def greatOf (ns : List Int) : List Int := ns.filter fun c => decide (1000000000000000000 ≤ c)
theorem nowW_ints (ns : List Int) (st : Store) : nowW (.klst (ns.map W.int)) ns.length st = some (ns.map W.int) := by simp [nowW, seqOf]
theorem klst_len (ns : List Int) : (ns.map W.int).length = ns.length := List.length_map _
theorem mulW_lit {i j : Int} {st : Store} (h : decide (i.natAbs.log2 + j.natAbs.log2 < 1000000) = true) : mulW (.int i) (.int j) st = some (.int (i * j), st) := mulW_int (of_decide_eq_true h)
theorem filterMap_if {α β : Type} (l : List α) (p : α → Bool) (g : α → β) : l.filterMap (fun c => if p c = true then some (g c) else none) = (l.filter p).map g := by
  induction l with
  | nil => rfl
  | cons a r ih =>
    rw [List.filterMap_cons, List.filter_cons]
    by_cases h : p a = true
    · rw [if_pos h, if_pos h, List.map_cons, ih]
    · rw [if_neg h, if_neg h, ih]
theorem begun_go (Φ : Phi) (ns : List Int) (hn : ns.length ≤ 63) :
    ∃ (d : DS) (env : Env), d.k = 0 ∧ 0 ≤ d.s ∧ d.s < 2 ^ 92 ∧ begunF Φ [some (.klst (ns.map .int)), none, none] [] = .rt (.ref 0) (stD d []) := by
  have hsl : ns.length ≤ slBound := by exact Nat.le_trans hn (by decide)
  have hat : ∀ i, i < ns.length → ∃ c : Int, ns[i]? = some c ∧ (ns.map W.int)[i]? = some (.int c) := fun i hi => by
    exact ⟨ns[i], List.getElem?_eq_getElem hi, by rw [List.getElem?_map, List.getElem?_eq_getElem hi]; rfl⟩
  -- the great cells
  have lc := lcL_pure (st := [SO.dct []]) (g := []) (it := .seq (.klst (ns.map W.int)) ns.length) (t := nameC 2) (c := asB (binF geW (varE 2) (binF powW (retE (.int 10)) (retE (.int 18)))) Φ) (e := varE 2 Φ) (env := [some (.klst (ns.map .int)), none, none])
    (fun i => (ns[i]?).bind fun c => if decide (1000000000000000000 ≤ c) = true then some (.int c) else none) hsl (fun acc => by simp [endW, nowW_ints]) (fun i acc hi => by
      obtain ⟨c, h1, h2⟩ := hat i hi
      refine ⟨.int c, [some (.klst (ns.map .int)), none, some (.int c)], by simp only [yldW, nowW_ints, Option.bind_some, h2], rfl, ?_⟩
      rw [h1, Option.bind_some]
      by_cases hc : (1000000000000000000 : Int) ≤ c
      · simp [powW_10_18, hc]
      · simp [powW_10_18, hc])
  have hf : (List.range (cntW (.seq (.klst (ns.map W.int)) ns.length))).filterMap (fun i => (ns[i]?).bind fun c => if decide (1000000000000000000 ≤ c) = true then some (W.int c) else none) = (greatOf ns).map .int := by
    show (List.range ns.length).filterMap _ = _
    rw [range_filterMap, filterMap_if]
    rfl
  rw [hf] at lc
  -- the small ones
  have fl := forL_word (it := .seq (.klst (ns.map W.int)) ns.length) (t := nameT 2 Φ) (b := ifS (asB (binF ltW (varE 2) (binF powW (retE (.int 10)) (retE (.int 18))))) (seqS (asgS (binF addW (binF addW (binF mulW (binF subW' (varE 1) (retE (.str ("small" : Str)))) (binF powW (retE (.int 10)) (retE (.int 18)))) (binF modW (varE 2) (binF powW (retE (.int 10)) (retE (.int 18))))) (retE (.int 1))) (subT (varE 1) (retE (.str ("small" : Str))))) (asgS (binF modW (binF subW' (varE 1) (retE (.str ("small" : Str)))) (binF mulW (binF subW (binF powW (retE (.int 2)) (retE (.int 61))) (retE (.int 1))) (binF subW (binF powW (retE (.int 2)) (retE (.int 31))) (retE (.int 1))))) (subT (varE 1) (retE (.str ("small" : Str)))))) skipS Φ)
    (fun i env st => ∃ (s : Int) (o : Option W), 0 ≤ s ∧ s < 2 ^ 92 ∧ env = [some (.klst (ns.map .int)), some (.ref 0), o] ∧ st = stD ⟨greatOf ns, s, 0⟩ []) (fun env st _ => by simp [endW, nowW_ints]) (fun i env st hi ⟨s, o, s0, s1, e1, e2⟩ => by
      subst e1 e2
      obtain ⟨c, h1, h2⟩ := hat i hi
      refine ⟨.int c, [some (.klst (ns.map .int)), some (.ref 0), some (.int c)], _, by simp only [yldW, nowW_ints, Option.bind_some, h2], rfl, ?_⟩
      by_cases hc : c < (1000000000000000000 : Int)
      · have m1 : ∀ {st : Store}, mulW (.int s) (.int 1000000000000000000) st = some (.int (s * 1000000000000000000), st) := fun {st} => mulW_int (log2_mul (n := 92) (m := 60) (natAbs_lt s0 s1) (by decide) (by decide) (by decide) (by decide))
        have m2 : ∀ {st : Store}, modW (.int c) (.int 1000000000000000000) st = some (.int (c % 1000000000000000000), st) := fun {st} => modW_int (by decide)
        have m3 : ∀ {st : Store}, mulW (.int 2305843009213693951) (.int 2147483647) st = some (.int 4951760154835678088235319297, st) := fun {st} => mulW_lit (by decide +kernel)
        have m4 : ∀ (y : Int) {st : Store}, modW (.int y) (.int 4951760154835678088235319297) st = some (.int (y % 4951760154835678088235319297), st) := fun y {st} => modW_int (by decide)
        refine ⟨[some (.klst (ns.map .int)), some (.ref 0), some (.int c)], stD ⟨greatOf ns, (s * 1000000000000000000 + c % 1000000000000000000 + 1) % 4951760154835678088235319297, 0⟩ [], .inl ?_, _, _, Int.emod_nonneg _ (by decide), Int.lt_trans (Int.emod_lt_of_pos _ (by decide)) (by decide), rfl, rfl⟩
        simp [powW_10_18, powW_2_61, powW_2_31, hc, dsub_small, m1, m2, dset_small, m3, m4]
      · refine ⟨[some (.klst (ns.map .int)), some (.ref 0), some (.int c)], _, .inl ?_, s, _, s0, s1, rfl, rfl⟩
        simp [powW_10_18, hc])
    (env := [some (.klst (ns.map .int)), some (.ref 0), none]) (st := stD ⟨greatOf ns, 0, 0⟩ []) ⟨0, none, by decide, by decide, rfl, rfl⟩
  obtain ⟨env', st', f1, s, o, s0, s1, f2, f3⟩ := fl
  refine ⟨⟨greatOf ns, s, 0⟩, env', rfl, s0, s1, ?_⟩
  unfold begunF
  have fl1 : (cntW (.seq (.klst (ns.map W.int)) ns.length)) = ns.length := rfl
  rw [fl1] at lc f1
  have lc : lcL 1 (ItW.seq (W.klst (List.map W.int ns)) ns.length) (nameC 2) (asB (binF geW (varE 2) (binF powW (retE (W.int 10)) (retE (W.int 18)))) Φ) (varE 2 Φ) [some (W.klst (List.map W.int ns)), none, none] ns.length [SO.dct [], SO.lst []] = Out.ok (W.ref 1) [SO.dct [], SO.lst (List.map W.int (greatOf ns))] := lc
  have hp : ∀ x : W, dpairs [(W.str "great", x), (W.str "small", W.int 0), (W.str "at", W.int 0)] = some [(.inr "great", x), (.inr "small", W.int 0), (.inr "at", W.int 0)] := fun x => rfl
  have hm : ∀ x : W, mergeW [] [(.inr ("great" : Str), x), (.inr "small", W.int 0), (.inr "at", W.int 0)] = [(.inr "great", x), (.inr "small", W.int 0), (.inr "at", W.int 0)] := fun x => by
    simp [mergeW, putW, ne_gs, ne_ga, ne_sa]
  have hst : ∀ l : List Int, [SO.dct [(.inr ("great" : Str), W.ref 1), (.inr "small", W.int 0), (.inr "at", W.int 0)], SO.lst (l.map W.int)] = stD ⟨l, 0, 0⟩ [] := fun l => rfl
  rw [f2, f3] at f1
  simp [seqOf, wipeE, fl1, lc, hp, hm, hst, f1]
/-- what a def of the beginning's kind is -/
structure IsBegun (dd : FnD) : Prop where
  F : dd.F = begunF
  N : dd.N.length = 3
  ps : dd.ps.length = 1
theorem trimO_big (st st' : Store) (w : W) (h : refsLt st.length w = false) : trimO st (.ok w st') = .ok w st' := by
  unfold trimO
  dsimp only
  rw [if_neg fun c => by rw [c.1] at h; cases h]
theorem begun_call {dd : FnD} (hd : IsBegun dd) {Φ : Phi} {ns : List Int} (hn : ns.length ≤ 63) : ∃ d : DS, DOk 1000000000 d ∧ callD dd Φ [.klst (ns.map .int)] [] = .ok (.ref 0) (stD d []) := by
  obtain ⟨d, _, k0, s0, s1, e⟩ := begun_go Φ ns hn
  refine ⟨d, ⟨by rw [k0]; omega, s0, s1⟩, ?_⟩
  have en : env0 dd.N [.klst (ns.map .int)] = [some (.klst (ns.map .int)), none, none] := by simp [env0, hd.N, List.replicate]
  unfold callD
  rw [if_pos (by rw [hd.ps]; rfl), hd.F, en, e, endO_rt]
  exact trimO_big _ _ _ rfl
end Zf
namespace Zf
open PySem L2
open PyProof.Rows hiding St

/-! ### values as data -/
mutual
def massD : PyData → Nat
  | .none => 4
  | .bool _ => 5
  | .int _ => 1921
  | .str x => (reprText x).length
  | .list xs => massDs xs + 2
  | .tuple xs => massDs xs + 3
  | .dict kvs => (PyData.dict kvs).shown.length
def massDs : List PyData → Nat
  | [] => 0
  | x :: xs => massD x + 2 + massDs xs
end
theorem listText_len (ts : List Str) : (listText ts).length ≤ piled ts + 2 := by
  unfold listText
  cases ts with
  | nil => decide +kernel
  | cons t r =>
    have e : textFrom 0 ("[" : Str) (t :: r) = textFrom 1 (("[" : Str) ++ (if 0 > 0 then ", " else "" : String) ++ t) r := rfl
    rw [e, strLen_append, textFrom_length_pos _ _ _ (by omega), strLen_append, strLen_append, piled_cons]
    have : (("[" : Str)).length = 1 := rfl
    have : (("]" : Str)).length = 1 := rfl
    have : (((if 0 > 0 then ", " else "" : String) : Str)).length = 0 := rfl
    omega
theorem tupleText_len (ts : List Str) : (tupleText ts).length ≤ piled ts + 3 := by
  unfold tupleText
  rw [strLen_append, strLen_append]
  have h1 : (("(" : Str)).length = 1 := rfl
  have h2 : (((if ts.length == 1 then ",)" else ")" : String) : Str)).length ≤ 2 := by
    split <;> decide +kernel
  cases ts with
  | nil => decide +kernel
  | cons t r =>
    have := join_length_add (t :: r) (by simp)
    omega
mutual
theorem shown_len : ∀ d : PyData, d.showable = true → d.shown.length ≤ massD d
  | .none, _ => by simp only [PyData.shown, massD]; decide +kernel
  | .bool b, _ => by simp only [PyData.shown, massD]; cases b <;> decide +kernel
  | .int i, h => by
    simp only [PyData.shown, massD]
    exact int_text_len_1921 (by simpa [PyData.showable] using h)
  | .str x, _ => by simp only [PyData.shown, massD]; exact Nat.le_refl _
  | .list xs, h => by
    simp only [PyData.shown, massD]
    have h1 := listText_len (PyData.shownAll xs)
    have h2 := shownAll_len xs (by simpa [PyData.showable] using h)
    omega
  | .tuple xs, h => by
    simp only [PyData.shown, massD]
    have h1 := tupleText_len (PyData.shownAll xs)
    have h2 := shownAll_len xs (by simpa [PyData.showable] using h)
    omega
  | .dict kvs, _ => by simp only [massD]; exact Nat.le_refl _
theorem shownAll_len : ∀ ds : List PyData, PyData.showableAll ds = true → piled (PyData.shownAll ds) ≤ massDs ds
  | [], _ => by simp only [PyData.shownAll, massDs, piled_nil]; exact Nat.le_refl _
  | d :: ds, h => by
    have h : d.showable = true ∧ PyData.showableAll ds = true := by simpa [PyData.showableAll] using h
    simp only [PyData.shownAll, massDs, piled_cons]
    have h1 := shown_len d h.1
    have h2 := shownAll_len ds h.2
    omega
end
/-- fit to be shown -/
structure Fd (M e : Nat) (d : PyData) : Prop where
  s : d.showable = true
  m : massD d ≤ M
  e : d.depth ≤ e
theorem Fd.mono {M e M' e' : Nat} {d : PyData} (h : Fd M e d) (h1 : M ≤ M') (h2 : e ≤ e') : Fd M' e' d := ⟨h.s, Nat.le_trans h.m h1, Nat.le_trans h.e h2⟩
theorem Fd.all {M e : Nat} : ∀ {ds : List PyData}, (∀ d ∈ ds, Fd M e d) → PyData.showableAll ds = true ∧ massDs ds ≤ ds.length * (M + 2) ∧ PyData.depthAll ds ≤ e
  | [], _ => ⟨rfl, by simp [massDs], by simp [PyData.depthAll]⟩
  | d :: ds, h => by
    obtain ⟨h1, h2, h3⟩ := Fd.all (ds := ds) fun x hx => h x (List.mem_cons_of_mem _ hx)
    have h0 := h d (List.mem_cons_self ..)
    refine ⟨by simp only [PyData.showableAll, h0.s, h1, Bool.and_self], ?_, ?_⟩
    · simp only [massDs, List.length_cons, Nat.succ_mul]
      have := h0.m
      omega
    · simp only [PyData.depthAll]
      exact Nat.max_le.mpr ⟨h0.e, h3⟩
theorem Fd.tuple {M e n : Nat} {ds : List PyData} (h : ∀ d ∈ ds, Fd M e d) (hn : ds.length ≤ n) : Fd (n * (M + 2) + 3) (e + 1) (.tuple ds) := by
  obtain ⟨h1, h2, h3⟩ := Fd.all h
  refine ⟨by simpa only [PyData.showable] using h1, ?_, by simp only [PyData.depth]; omega⟩
  simp only [massD]
  have := Nat.mul_le_mul_right (M + 2) hn
  omega
theorem Fd.list {M e n : Nat} {ds : List PyData} (h : ∀ d ∈ ds, Fd M e d) (hn : ds.length ≤ n) : Fd (n * (M + 2) + 3) (e + 1) (.list ds) := by
  obtain ⟨h1, h2, h3⟩ := Fd.all h
  refine ⟨by simpa only [PyData.showable] using h1, ?_, by simp only [PyData.depth]; omega⟩
  simp only [massD]
  have := Nat.mul_le_mul_right (M + 2) hn
  omega
theorem Fd.non {M e : Nat} (h : 4 ≤ M) : Fd M e .none := ⟨rfl, h, Nat.zero_le _⟩
theorem Fd.bool {M e : Nat} {b : Bool} (h : 5 ≤ M) : Fd M e (.bool b) := ⟨rfl, h, Nat.zero_le _⟩
theorem Fd.int {M e : Nat} {i : Int} (h : 1921 ≤ M) (hi : i.natAbs.log2 < 1920) : Fd M e (.int i) := ⟨by simpa [PyData.showable] using hi, h, Nat.zero_le _⟩
theorem Fd.str {M e : Nat} {x : Str} (h : (reprText x).length ≤ M) : Fd M e (.str x) := ⟨rfl, h, Nat.zero_le _⟩
theorem Fd.ndct {M e : Nat} (h : 2 ≤ M) (he : 1 ≤ e) : Fd M e (.dict []) := ⟨rfl, by simp only [massD]; exact Nat.le_trans (by decide +kernel) h, by simpa [PyData.depth, PyData.depthKv] using he⟩
/-- the value, as data, nested so many lists deep -/
def Dk (st : Store) (k : Nat) (w : W) (d : PyData) : Prop := toE (refE st k) w = some d
def Dks (st : Store) (k : Nat) (ws : List W) (ds : List PyData) : Prop := toEs (refE st k) ws = some ds
section
variable {st st' g : Store} {k : Nat}
theorem Dk.non : Dk st k .non .none := rfl
theorem Dk.bl {b : Bool} : Dk st k (.bl b) (.bool b) := rfl
theorem Dk.int {i : Int} : Dk st k (.int i) (.int i) := rfl
theorem Dk.str {x : Str} : Dk st k (.str x) (.str x) := rfl
theorem Dks.nil : Dks st k [] [] := rfl
theorem Dks.cons {w : W} {ws : List W} {d : PyData} {ds : List PyData} (h : Dk st k w d) (h2 : Dks st k ws ds) : Dks st k (w :: ws) (d :: ds) := by
  unfold Dks Dk at *
  simp only [toEs, h, h2]
theorem Dk.tup {ws : List W} {ds : List PyData} (h : Dks st k ws ds) : Dk st k (.tup ws) (.tuple ds) := by
  unfold Dks Dk at *
  simp only [toE, h, Option.map_some]
theorem Dk.lst {n : Nat} {ws : List W} {ds : List PyData} (hn : st[n]? = some (.lst ws)) (h : Dks st k ws ds) : Dk st (k + 1) (.ref n) (.list ds) := by
  unfold Dks Dk at *
  simp only [toE, refE, hn, h, Option.map_some]
theorem Dk.ndct {n : Nat} (hn : st[n]? = some (.dct [])) : Dk st (k + 1) (.ref n) (.dict []) := by
  unfold Dk
  simp only [toE, refE, hn]
theorem Dks.cases {ws : List W} {ds : List PyData} (h : Dks st k ws ds) : (ws = [] ∧ ds = []) ∨ ∃ w r d e, ws = w :: r ∧ ds = d :: e ∧ Dk st k w d ∧ Dks st k r e := by
  unfold Dks at h
  cases ws with
  | nil => simp only [toEs] at h; cases h; exact .inl ⟨rfl, rfl⟩
  | cons w r =>
    simp only [toEs] at h
    split at h
    · rename_i d e h1 h2
      cases h
      exact .inr ⟨w, r, d, e, rfl, rfl, h1, h2⟩
    · cases h
theorem Dks.length {ws : List W} : ∀ {ds : List PyData}, Dks st k ws ds → ws.length = ds.length := by
  induction ws with
  | nil => intro ds h; rcases h.cases with ⟨_, rfl⟩ | ⟨_, _, _, _, e, _⟩
           · rfl
           · cases e
  | cons w r ih =>
    intro ds h
    rcases h.cases with ⟨e, _⟩ | ⟨w', r', d, e, e1, rfl, h1, h2⟩
    · cases e
    · cases e1; simp [ih h2]
theorem Dks.of_all {P : PyData → Prop} {ws : List W} (h : ∀ w ∈ ws, ∃ d, Dk st k w d ∧ P d) : ∃ ds, Dks st k ws ds ∧ ∀ d ∈ ds, P d := by
  induction ws with
  | nil => exact ⟨[], .nil, fun _ h => nomatch h⟩
  | cons w r ih =>
    obtain ⟨ds, h1, h2⟩ := ih fun x hx => h x (List.mem_cons_of_mem _ hx)
    obtain ⟨d, h3, h4⟩ := h w (List.mem_cons_self ..)
    exact ⟨d :: ds, Dks.cons h3 h1, fun x hx => by
      rcases List.mem_cons.mp hx with rfl | hx
      · exact h4
      · exact h2 x hx⟩
theorem Dks.all_of {ws : List W} : ∀ {ds : List PyData}, Dks st k ws ds → ∀ w ∈ ws, ∃ d ∈ ds, Dk st k w d := by
  induction ws with
  | nil => intro ds _ w hw; cases hw
  | cons w r ih =>
    intro ds h x hx
    rcases h.cases with ⟨e, _⟩ | ⟨w', r', d, e, e1, rfl, h1, h2⟩
    · cases e
    · cases e1
      rcases List.mem_cons.mp hx with rfl | hx
      · exact ⟨d, List.mem_cons_self .., h1⟩
      · obtain ⟨y, hy, hz⟩ := ih h2 x hx
        exact ⟨y, List.mem_cons_of_mem _ hy, hz⟩
mutual
theorem toE_le {f g : Nat → Option PyData} (h : ∀ n d, f n = some d → g n = some d) : ∀ {w : W} {d : PyData}, toE f w = some d → toE g w = some d
  | .non, _, e => e
  | .bl _, _, e => e
  | .int _, _, e => e
  | .str _, _, e => e
  | .tup ws, d, e => by
    simp only [toE, Option.map_eq_some_iff] at e ⊢
    obtain ⟨ds, e1, e2⟩ := e
    exact ⟨ds, toEs_le h e1, e2⟩
  | .klst ws, d, e => by
    simp only [toE, Option.map_eq_some_iff] at e ⊢
    obtain ⟨ds, e1, e2⟩ := e
    exact ⟨ds, toEs_le h e1, e2⟩
  | .ref n, d, e => by simp only [toE] at e ⊢; exact h _ _ e
  | .exc _ _, _, e => by simp only [toE] at e; cases e
  | .clo _, _, e => by simp only [toE] at e; cases e
theorem toEs_le {f g : Nat → Option PyData} (h : ∀ n d, f n = some d → g n = some d) : ∀ {ws : List W} {ds : List PyData}, toEs f ws = some ds → toEs g ws = some ds
  | [], _, e => e
  | w :: ws, ds, e => by
    simp only [toEs] at e ⊢
    split at e
    · rename_i d ds' e1 e2
      rw [toE_le h e1, toEs_le h e2]
      exact e
    · cases e
end
theorem refE_step : ∀ (k n : Nat) (d : PyData), refE st k n = some d → refE st (k + 1) n = some d
  | 0, _, _, e => by simp only [refE] at e; cases e
  | k + 1, n, d, e => by
    have e : (match st[n]? with
      | some (.lst ws) => (toEs (refE st k) ws).map .list
      | some (.dct []) => some (.dict [])
      | _ => none) = some d := e
    show (match st[n]? with
      | some (.lst ws) => (toEs (refE st (k + 1)) ws).map .list
      | some (.dct []) => some (.dict [])
      | _ => none) = some d
    split at e
    · rename_i ws hn
      obtain ⟨ds, e1, e2⟩ := Option.map_eq_some_iff.mp e
      exact Option.map_eq_some_iff.mpr ⟨ds, toEs_le (refE_step k) e1, e2⟩
    · exact e
    · cases e
theorem refE_mono {k k' : Nat} (h : k ≤ k') : ∀ (n : Nat) (d : PyData), refE st k n = some d → refE st k' n = some d := by
  induction h with
  | refl => exact fun _ _ e => e
  | step h ih => exact fun n d e => refE_step _ n d (ih n d e)
theorem Dk.mono {k' : Nat} {w : W} {d : PyData} (h : Dk st k w d) (hk : k ≤ k') : Dk st k' w d := toE_le (refE_mono hk) h
theorem Dks.mono {k' : Nat} {w : List W} {d : List PyData} (h : Dks st k w d) (hk : k ≤ k') : Dks st k' w d := toEs_le (refE_mono hk) h
theorem refE_ext (hx : ∀ (n : Nat) (o : SO), st[n]? = some o → st'[n]? = some o) : ∀ (k n : Nat) (d : PyData), refE st k n = some d → refE st' k n = some d
  | 0, _, _, e => by simp only [refE] at e; cases e
  | k + 1, n, d, e => by
    rw [refE] at e ⊢
    split at e
    · rename_i ws hn
      simp only [hx _ _ hn, Option.map_eq_some_iff] at e ⊢
      obtain ⟨ds, e1, e2⟩ := e
      exact ⟨ds, toEs_le (refE_ext hx k) e1, e2⟩
    · rename_i hn
      simp only [hx _ _ hn]
      exact e
    · cases e
theorem app_ext {st g : Store} (n : Nat) (o : SO) (e : st[n]? = some o) : (st ++ g)[n]? = some o := by
  rw [List.getElem?_append_left (List.getElem?_eq_some_iff.mp e).1]; exact e
theorem Dk.app {w : W} {d : PyData} (h : Dk st k w d) : Dk (st ++ g) k w d := toE_le (refE_ext app_ext k) h
theorem Dks.app {w : List W} {d : List PyData} (h : Dks st k w d) : Dks (st ++ g) k w d := toEs_le (refE_ext app_ext k) h
/-- what lies below N tells of nothing above -/
def ClosedN (N : Nat) (st : Store) : Prop := ∀ (i : Nat) (o : SO), i < N → st[i]? = some o → refsLtO N o = true
mutual
theorem toE_below {N : Nat} {f g : Nat → Option PyData} (h : ∀ n d, n < N → f n = some d → g n = some d) : ∀ {w : W} {d : PyData}, refsLt N w = true → toE f w = some d → toE g w = some d
  | .non, _, _, e => e
  | .bl _, _, _, e => e
  | .int _, _, _, e => e
  | .str _, _, _, e => e
  | .tup ws, d, hr, e => by
    simp only [toE, Option.map_eq_some_iff] at e ⊢
    obtain ⟨ds, e1, e2⟩ := e
    exact ⟨ds, toEs_below h (by simpa only [refsLt] using hr) e1, e2⟩
  | .klst ws, d, hr, e => by
    simp only [toE, Option.map_eq_some_iff] at e ⊢
    obtain ⟨ds, e1, e2⟩ := e
    exact ⟨ds, toEs_below h (by simpa only [refsLt] using hr) e1, e2⟩
  | .ref n, d, hr, e => by simp only [toE] at e ⊢; exact h _ _ (by simpa [refsLt] using hr) e
  | .exc _ _, _, _, e => by simp only [toE] at e; cases e
  | .clo _, _, _, e => by simp only [toE] at e; cases e
theorem toEs_below {N : Nat} {f g : Nat → Option PyData} (h : ∀ n d, n < N → f n = some d → g n = some d) : ∀ {ws : List W} {ds : List PyData}, refsLtL N ws = true → toEs f ws = some ds → toEs g ws = some ds
  | [], _, _, e => e
  | w :: ws, ds, hr, e => by
    have hr : refsLt N w = true ∧ refsLtL N ws = true := by simpa [refsLtL] using hr
    simp only [toEs] at e ⊢
    split at e
    · rename_i d ds' e1 e2
      rw [toE_below h hr.1 e1, toEs_below h hr.2 e2]
      exact e
    · cases e
end
theorem refE_below {N : Nat} (hc : ClosedN N st) (ha : ∀ (i : Nat) (o : SO), i < N → st[i]? = some o → st'[i]? = some o) : ∀ (k n : Nat) (d : PyData), n < N → refE st k n = some d → refE st' k n = some d
  | 0, _, _, _, e => by simp only [refE] at e; cases e
  | k + 1, n, d, hn, e => by
    rw [refE] at e ⊢
    split at e
    · rename_i ws he
      simp only [ha _ _ hn he, Option.map_eq_some_iff] at e ⊢
      obtain ⟨ds, e1, e2⟩ := e
      exact ⟨ds, toEs_below (refE_below hc ha k) (by simpa only [refsLtO] using hc _ _ hn he) e1, e2⟩
    · rename_i he
      simp only [ha _ _ hn he]
      exact e
    · cases e
theorem Dk.below {N : Nat} {w : W} {d : PyData} (h : Dk st k w d) (hw : refsLt N w = true) (hc : ClosedN N st) (ha : ∀ (i : Nat) (o : SO), i < N → st[i]? = some o → st'[i]? = some o) : Dk st' k w d := toE_below (refE_below hc ha k) hw h
/-- its type -/
def tyD : PyData → Ty
  | .none => .none
  | .bool _ => .bool
  | .int _ => .int
  | .str _ => .str
  | .list _ => .list
  | .tuple _ => .tuple
  | .dict _ => .dict
theorem Dk.ty {w : W} {d : PyData} (h : Dk st k w d) : tyW w st = some (.inl (tyD d)) := by
  unfold Dk at h
  cases w with
  | non => cases h; rfl
  | bl b => cases h; rfl
  | int i => cases h; rfl
  | str x => cases h; rfl
  | tup ws => simp only [toE, Option.map_eq_some_iff] at h; obtain ⟨_, _, rfl⟩ := h; rfl
  | klst ws => simp only [toE, Option.map_eq_some_iff] at h; obtain ⟨_, _, rfl⟩ := h; rfl
  | ref n =>
    simp only [toE] at h
    cases k with
    | zero => simp only [refE] at h; cases h
    | succ k =>
      rw [refE] at h
      split at h
      · rename_i ws e
        simp only [Option.map_eq_some_iff] at h
        obtain ⟨_, _, rfl⟩ := h
        simp only [tyW, e, tyD]
      · rename_i e
        cases h
        simp only [tyW, e, tyD]
      · cases h
  | exc _ _ => simp only [toE] at h; cases h
  | clo _ => simp only [toE] at h; cases h
theorem Dk.tup_inv {w : W} {ds : List PyData} (h : Dk st k w (.tuple ds)) : ∃ ws, w = .tup ws ∧ Dks st k ws ds := by
  unfold Dk at h
  cases w with
  | tup ws => simp only [toE, Option.map_eq_some_iff] at h; obtain ⟨_, e, h⟩ := h; cases h; exact ⟨ws, rfl, e⟩
  | klst ws => simp only [toE, Option.map_eq_some_iff] at h; obtain ⟨_, _, h⟩ := h; cases h
  | ref n =>
    simp only [toE] at h
    cases k with
    | zero => simp only [refE] at h; cases h
    | succ k =>
      rw [refE] at h
      split at h
      · simp only [Option.map_eq_some_iff] at h
        obtain ⟨_, _, h⟩ := h
        cases h
      · cases h
      · cases h
  | _ => simp only [toE] at h; cases h
theorem Dk.int_inv {w : W} {i : Int} (h : Dk st k w (.int i)) : w = .int i := by
  unfold Dk at h
  cases w with
  | int j => simp only [toE] at h; cases h; rfl
  | tup ws => simp only [toE, Option.map_eq_some_iff] at h; obtain ⟨_, e, h⟩ := h; cases h
  | klst ws => simp only [toE, Option.map_eq_some_iff] at h; obtain ⟨_, _, h⟩ := h; cases h
  | ref n =>
    simp only [toE] at h
    cases k with
    | zero => simp only [refE] at h; cases h
    | succ k =>
      rw [refE] at h
      split at h
      · simp only [Option.map_eq_some_iff] at h
        obtain ⟨_, _, h⟩ := h
        cases h
      · cases h
      · cases h
  | _ => simp only [toE] at h; cases h
theorem Dk.none_inv {w : W} (h : Dk st k w .none) : w = .non := by
  unfold Dk at h
  cases w with
  | non => rfl
  | tup ws => simp only [toE, Option.map_eq_some_iff] at h; obtain ⟨_, e, h⟩ := h; cases h
  | klst ws => simp only [toE, Option.map_eq_some_iff] at h; obtain ⟨_, _, h⟩ := h; cases h
  | ref n =>
    simp only [toE] at h
    cases k with
    | zero => simp only [refE] at h; cases h
    | succ k =>
      rw [refE] at h
      split at h
      · simp only [Option.map_eq_some_iff] at h
        obtain ⟨_, _, h⟩ := h
        cases h
      · cases h
      · cases h
  | _ => simp only [toE] at h; cases h
theorem reprW_of {w : W} {d : PyData} (h : Dk st k w d) (hk : k ≤ 20) {M : Nat} (hd : Fd M 40 d) (hM : M ≤ slBound) : reprW [w] st = some (.str d.shown, st) := by
  have e : shownD st w = some d := h.mono hk
  simp only [reprW, e]
  rw [if_pos ⟨hd.s, Nat.le_trans (shown_len d hd.s) (Nat.le_trans hd.m hM), hd.e⟩]
end
@[simp] theorem eqW_str {neg : Bool} {x y : Str} {st : Store} : eqW neg (.str x) (.str y) st = some (.bl ((x == y) != neg), st) := rfl
/-- the item at a place within the list -/
theorem sub_mem {st : Store} {n : Nat} {ws : List W} {i : Int} (hn : st[n]? = some (.lst ws)) (h0 : 0 ≤ i) (h1 : i < ws.length) : ∃ w ∈ ws, subW' (.ref n) (.int i) st = some (w, st) := by
  obtain ⟨m, rfl⟩ := Int.eq_ofNat_of_zero_le h0
  have h1 : m < ws.length := by exact_mod_cast h1
  refine ⟨ws[m], List.getElem_mem h1, ?_⟩
  simp only [subW', hn]
  show (atI ws (m : Int)).map _ = _
  rw [atI_nat h1, List.getElem?_eq_getElem h1]
  rfl
end Zf
namespace Zf
open PySem L2
open PyProof.Rows hiding St

/-! ### parities -/
theorem bitAnd_par (x y : Int) : Builtin.bitAnd x y % 2 = 1 ↔ x % 2 = 1 ∧ y % 2 = 1 := by
  have key : ∀ a b : Nat, ((a &&& b : Nat) : Int) % 2 = 1 ↔ (a : Int) % 2 = 1 ∧ (b : Int) % 2 = 1 := fun a b => by
    have := Nat.and_mod_two_eq_one (a := a) (b := b)
    omega
  have key2 : ∀ a b : Nat, ((a ||| b : Nat) : Int) % 2 = 1 ↔ (a : Int) % 2 = 1 ∨ (b : Int) % 2 = 1 := fun a b => by
    have := Nat.or_mod_two_eq_one (a := a) (b := b)
    omega
  by_cases hx : 0 ≤ x <;> by_cases hy : 0 ≤ y
  · rw [bitAnd_pp hx hy, key]; omega
  · rw [bitAnd_pn hx hy]
    have := key x.toNat (Builtin.bitNot y).toNat
    have e : ((Builtin.bitNot y).toNat : Int) = - y - 1 := by unfold Builtin.bitNot; omega
    rw [e] at this
    omega
  · rw [bitAnd_np hx hy]
    have := key y.toNat (Builtin.bitNot x).toNat
    have e : ((Builtin.bitNot x).toNat : Int) = - x - 1 := by unfold Builtin.bitNot; omega
    rw [e] at this
    omega
  · rw [bitAnd_nn hx hy]
    have := key2 (Builtin.bitNot x).toNat (Builtin.bitNot y).toNat
    have e : ((Builtin.bitNot y).toNat : Int) = - y - 1 := by unfold Builtin.bitNot; omega
    have e2 : ((Builtin.bitNot x).toNat : Int) = - x - 1 := by unfold Builtin.bitNot; omega
    rw [e, e2] at this
    unfold Builtin.bitNot at this ⊢
    omega
theorem bitOr_par (x y : Int) : Builtin.bitOr x y % 2 = 1 ↔ x % 2 = 1 ∨ y % 2 = 1 := by
  have := bitAnd_par x y
  rw [bitOr_and]
  omega
/-! ### more of reckoning -/
section
variable {st : Store}
@[simp] theorem eqW_int {neg : Bool} {i j : Int} : eqW neg (.int i) (.int j) st = some (.bl ((i == j) != neg), st) := by
  refine eqW_D rfl ?_
  simp only [eqD, datum, toD]
  rw [if_pos (by simp [SeqAt.shaped, PyData.canLay0, PyData.depth])]
  simp only [PyData.eqv]
@[simp] theorem addW_refs {m n : Nat} : addW (.ref m) (.ref n) st = match lstAt (.ref m) st, lstAt (.ref n) st with
    | some x, some y => if x.length + y.length ≤ slBound then some (.ref st.length, st ++ [.lst (x ++ y)]) else none
    | _, _ => none := rfl
@[simp] theorem mulW_refs {n : Nat} {k : Int} : mulW (.ref n) (.int k) st = match lstAt (.ref n) st with
    | some x => if -(2 ^ 63) ≤ k ∧ k < 2 ^ 63 ∧ x.length * k.toNat ≤ slBound then some (.ref st.length, st ++ [.lst (List.replicate k.toNat x).flatten]) else none
    | none => none := rfl
@[simp] theorem lstAt_refs {n : Nat} : lstAt (.ref n) st = match st[n]? with
    | some (.lst ws) => some ws
    | _ => none := rfl
theorem addW_tup {x y : List W} (h : x.length + y.length ≤ slBound) : addW (.tup x) (.tup y) st = some (.tup (x ++ y), st) := by
  simp only [addW]
  rw [if_pos h]
@[simp] theorem datum_int {i : Int} : datum st (.int i) = some (.int i) := rfl
@[simp] theorem isNW_non {neg : Bool} {w : W} : isNW neg w .non st = some (.bl (isNonB w != neg), st) := rfl
theorem lstAt_ref {n : Nat} {ws : List W} (h : st[n]? = some (.lst ws)) : lstAt (.ref n) st = some ws := by simp [lstAt, h]
@[simp] theorem intW_int {g : Int → Int → Int} {i j : Int} : intW g (.int i) (.int j) st = some (.int (g i j), st) := rfl
end
section
variable {G : Glb} {st : Store} {u : Ty}
theorem isiW_of {w : W} {t : Ty} (h : tyW w st = some (.inl t)) : isiW G w st (.ty u) = some (t.sub u) := by simp only [isiW, h]
@[simp] theorem isiW_tup {ws : List W} : isiW G (.tup ws) st (.ty u) = some (Ty.sub .tuple u) := rfl
@[simp] theorem isiW_int {i : Int} : isiW G (.int i) st (.ty u) = some (Ty.sub .int u) := rfl
@[simp] theorem isiW_bl {i : Bool} : isiW G (.bl i) st (.ty u) = some (Ty.sub .bool u) := rfl
@[simp] theorem isiW_str {i : Str} : isiW G (.str i) st (.ty u) = some (Ty.sub .str u) := rfl
@[simp] theorem isiW_non : isiW G .non st (.ty u) = some (Ty.sub .none u) := rfl
@[simp] theorem seqOf_tup {ws : List W} : seqOf (.tup ws) st = some ws := rfl
@[simp] theorem lenW_tup {ws : List W} : lenW (.tup ws) st = some (.int ws.length, st) := rfl
@[simp] theorem un1_ {f : W → Store → Opt} {w : W} : un1 f [w] st = f w st := rfl
@[simp] theorem tyW_tup {ws : List W} : tyW (.tup ws) st = some (.inl .tuple) := rfl
@[simp] theorem cntW_seq {w : W} {n : Nat} : cntW (.seq w n) = n := rfl
@[simp] theorem cntW_rng {a b : Int} {n : Nat} : cntW (.rng a b n) = n := rfl
end
/-- [g(x) for x in w if p(x)], where nothing else changes -/
theorem lcL_map {st g : Store} {w : W} {ws : List W} {i : Nat} {c : Env → Store → Out Bool} {e : Env → Store → Out W} {env : Env} (f : W → W) (p : W → Bool)
    (hnow : ∀ acc, nowW w ws.length (st ++ .lst acc :: g) = some ws) (hlen : ws.length ≤ slBound)
    (hc : ∀ x ∈ ws, ∀ acc, c (env.set i (some x)) (st ++ .lst acc :: g) = .ok (p x) (st ++ .lst acc :: g))
    (he : ∀ x ∈ ws, p x = true → ∀ acc, e (env.set i (some x)) (st ++ .lst acc :: g) = .ok (f x) (st ++ .lst acc :: g)) :
    lcL st.length (.seq w ws.length) (nameC i) c e env ws.length (st ++ .lst [] :: g) = .ok (.ref st.length) (st ++ .lst ((ws.filter p).map f) :: g) := by
  have := lcL_pure (st := st) (g := g) (it := .seq w ws.length) (t := nameC i) (c := c) (e := e) (env := env) (fun i => (ws[i]?).bind fun x => if p x = true then some (f x) else none) hlen (fun acc => by simp only [endW, hnow acc, Option.isSome_some]) (fun j acc hj => by
    have hj : j < ws.length := hj
    have hm : ws[j] ∈ ws := List.getElem_mem hj
    refine ⟨ws[j], env.set i (some ws[j]), by simp only [yldW, hnow acc, Option.bind_some, List.getElem?_eq_getElem hj], rfl, ?_⟩
    simp only [List.getElem?_eq_getElem hj, Option.bind_some]
    by_cases hp : p ws[j] = true
    · simp only [hp, if_true]
      exact ⟨by rw [hc _ hm, hp], he _ hm hp acc⟩
    · simp only [hp, Bool.false_eq_true, if_false]
      rw [hc _ hm]
      simp only [Bool.not_eq_true] at hp
      rw [hp])
  have hf : (List.range (cntW (.seq w ws.length))).filterMap (fun i => (ws[i]?).bind fun x => if p x = true then some (f x) else none) = (ws.filter p).map f := by
    show (List.range ws.length).filterMap _ = _
    rw [range_filterMap, filterMap_if]
  rw [hf] at this
  exact this
/-! ### what is fit to be shown, whatever the draws and what is new -/
def Gw (r : Store) (k M e : Nat) (w : W) : Prop := ∀ d j, ∃ x, Dk (stD d (r ++ j)) k w x ∧ Fd M e x
section
variable {r g : Store} {k M e : Nat}
theorem Gw.mono {k' M' e' : Nat} {w : W} (h : Gw r k M e w) (hk : k ≤ k') (hM : M ≤ M') (he : e ≤ e') : Gw r k' M' e' w := fun d j => by
  obtain ⟨x, h1, h2⟩ := h d j
  exact ⟨x, h1.mono hk, h2.mono hM he⟩
theorem Gw.app {w : W} (h : Gw r k M e w) : Gw (r ++ g) k M e w := fun d j => by
  rw [List.append_assoc]; exact h d (g ++ j)
theorem Gw.non (h : 4 ≤ M) : Gw r k M e .non := fun _ _ => ⟨_, .non, .non h⟩
theorem Gw.bl {b : Bool} (h : 5 ≤ M) : Gw r k M e (.bl b) := fun _ _ => ⟨_, .bl, .bool h⟩
theorem Gw.int {i : Int} (h : 1921 ≤ M) (hi : i.natAbs.log2 < 1920) : Gw r k M e (.int i) := fun _ _ => ⟨_, .int, .int h hi⟩
theorem Gw.str {x : Str} (h : (reprText x).length ≤ M) : Gw r k M e (.str x) := fun _ _ => ⟨_, .str, .str h⟩
theorem Gw.tup {ws : List W} {n M' e' : Nat} (h : ∀ w ∈ ws, Gw r k M e w) (hn : ws.length ≤ n) (hM : n * (M + 2) + 3 ≤ M') (he : e + 1 ≤ e') : Gw r k M' e' (.tup ws) := fun d j => by
  obtain ⟨ds, h1, h2⟩ := Dks.of_all (P := Fd M e) fun w hw => h w hw d j
  exact ⟨_, Dk.tup h1, (Fd.tuple h2 (by rw [← h1.length]; exact hn)).mono hM he⟩
theorem Gw.lst {m : Nat} {ws : List W} {n M' e' : Nat} (hm : r[m]? = some (.lst ws)) (h : ∀ w ∈ ws, Gw r k M e w) (hn : ws.length ≤ n) (hM : n * (M + 2) + 3 ≤ M') (he : e + 1 ≤ e') : Gw r (k + 1) M' e' (.ref (m + 2)) := fun d j => by
  obtain ⟨ds, h1, h2⟩ := Dks.of_all (P := Fd M e) fun w hw => h w hw d j
  exact ⟨_, Dk.lst (by rw [stD_at]; exact app_ext _ _ hm) h1, (Fd.list h2 (by rw [← h1.length]; exact hn)).mono hM he⟩
theorem Gw.ndct {m : Nat} (hm : r[m]? = some (.dct [])) (hM : 2 ≤ M) (he : 1 ≤ e) : Gw r (k + 1) M e (.ref (m + 2)) := fun d j => ⟨_, Dk.ndct (by rw [stD_at]; exact app_ext _ _ hm), .ndct hM he⟩
end
/-- of no place at all, it is the same wherever it is read -/
theorem Gw.any {r r' : Store} {k M e : Nat} {w : W} (h : Gw r k M e w) (hw : refsLt 0 w = true) : Gw r' k M e w := fun d j => by
  obtain ⟨x, h1, h2⟩ := h d j
  exact ⟨x, h1.below hw (fun _ _ h => absurd h (Nat.not_lt_zero _)) (fun _ _ h => absurd h (Nat.not_lt_zero _)), h2⟩
/-- no place at all, or a new one -/
def Fresh (r : Store) (w : W) : Prop := refsLt 0 w = true ∨ refsLt (r.length + 2) w = false
theorem refsLtL_app {n : Nat} : ∀ {a b : List W}, refsLtL n (a ++ b) = (refsLtL n a && refsLtL n b)
  | [], b => by simp [refsLtL]
  | w :: a, b => by simp [refsLtL, refsLtL_app (a := a), Bool.and_assoc]
theorem refsLtL_all {n : Nat} : ∀ {a : List W}, (∀ w ∈ a, refsLt n w = true) → refsLtL n a = true
  | [], _ => rfl
  | w :: a, h => by
    simp only [refsLtL, h w (List.mem_cons_self ..), refsLtL_all fun x hx => h x (List.mem_cons_of_mem _ hx), Bool.and_self]
theorem cutW_mem {ws : List W} {lo hi : Option Int} {w : W} (h : w ∈ cutW ws lo hi) : w ∈ ws := by
  unfold cutW at h
  exact List.mem_of_mem_drop (List.mem_of_mem_take h)
theorem cutW_len {ws : List W} {lo hi : Option Int} : (cutW ws lo hi).length ≤ ws.length := by
  unfold cutW
  rw [List.length_take, List.length_drop]
  omega
/-- the end of a def, after draws -/
theorem trim_fresh {d d' : DS} {r g : Store} {w : W} (hw : Fresh r w) : ∃ g', trimO (stD d r) (.ok w (stD d' (r ++ g))) = .ok w (stD d' (r ++ g')) ∧ (g' = g ∨ (g' = [] ∧ refsLt 0 w = true)) := by
  rcases hw with h | h
  · exact ⟨[], by rw [List.append_nil]; exact trim_D (refsLt_mono (Nat.zero_le _) w h), .inr ⟨rfl, h⟩⟩
  · exact ⟨g, trimO_big _ _ _ h, .inl rfl⟩
theorem stD_get {d : DS} {r l : Store} {k : Nat} : (stD d (r ++ l))[r.length + (k + 2)]? = l[k]? := by
  show (r ++ l)[r.length + k]? = _
  rw [List.getElem?_append_right (by omega)]
  congr 1
  omega
section
variable {d : DS} {l : Store}
@[simp high] theorem stD_lit0 : (stD d l)[2]? = l[0]? := rfl
@[simp high] theorem stD_lit1 : (stD d l)[3]? = l[1]? := rfl
@[simp high] theorem stD_lit2 : (stD d l)[4]? = l[2]? := rfl
@[simp high] theorem stD_lit3 : (stD d l)[5]? = l[3]? := rfl
@[simp high] theorem stD_lit4 : (stD d l)[6]? = l[4]? := rfl
@[simp high] theorem stD_lit5 : (stD d l)[7]? = l[5]? := rfl
@[simp high] theorem stD_lit6 : (stD d l)[8]? = l[6]? := rfl
@[simp high] theorem stD_lit7 : (stD d l)[9]? = l[7]? := rfl
@[simp high] theorem stD_lit8 : (stD d l)[10]? = l[8]? := rfl
@[simp high] theorem stD_lit9 : (stD d l)[11]? = l[9]? := rfl
@[simp high] theorem stD_lit10 : (stD d l)[12]? = l[10]? := rfl
@[simp high] theorem stD_lit11 : (stD d l)[13]? = l[11]? := rfl
end
theorem trim_ex (st st' : Store) (w : W) : ∃ st2, trimO st (.ok w st') = .ok w st2 := by
  simp only [trimO]
  split
  · exact ⟨_, rfl⟩
  · exact ⟨_, rfl⟩
section
variable {d : DS} {r l : Store}
@[simp high] theorem stD_get0 : (stD d (r ++ l))[r.length + 2]? = l[0]? := stD_get (k := 0)
@[simp high] theorem stD_get1 : (stD d (r ++ l))[r.length + 3]? = l[1]? := stD_get (k := 1)
@[simp high] theorem stD_get2 : (stD d (r ++ l))[r.length + 4]? = l[2]? := stD_get (k := 2)
@[simp high] theorem stD_get3 : (stD d (r ++ l))[r.length + 5]? = l[3]? := stD_get (k := 3)
@[simp high] theorem stD_get4 : (stD d (r ++ l))[r.length + 6]? = l[4]? := stD_get (k := 4)
@[simp high] theorem stD_get5 : (stD d (r ++ l))[r.length + 7]? = l[5]? := stD_get (k := 5)
@[simp high] theorem stD_get6 : (stD d (r ++ l))[r.length + 8]? = l[6]? := stD_get (k := 6)
@[simp high] theorem stD_get7 : (stD d (r ++ l))[r.length + 9]? = l[7]? := stD_get (k := 7)
@[simp high] theorem stD_get8 : (stD d (r ++ l))[r.length + 10]? = l[8]? := stD_get (k := 8)
@[simp high] theorem stD_get9 : (stD d (r ++ l))[r.length + 11]? = l[9]? := stD_get (k := 9)
@[simp high] theorem stD_get10 : (stD d (r ++ l))[r.length + 12]? = l[10]? := stD_get (k := 10)
@[simp high] theorem stD_get11 : (stD d (r ++ l))[r.length + 13]? = l[11]? := stD_get (k := 11)
end
end Zf
/-! what a head says of the exception classes -/
namespace Zf
open PySem L2
open PyProof.Rows hiding St

structure ClF (K : PySem.W.Frag) (C : Addr) : Prop where
  mk :: (ga : PySem.W.findIn K (.ref C) "__getattribute__" = some (some (.builtin "BaseException.__getattribute__"))) (gg : PySem.W.findIn K (.ref C) "__getattr__" = some none) (eC : PySem.W.subIn K (.ref C) (.type "BaseException") = some true) (hC : PySem.W.hasDictIn K C = true) (ha : PySem.W.findIn K (.ref C) "__class__" = some (some (.builtin "object.__class__"))) (hm : PySem.W.mroIn K C (.type "object") = some true) (tC : PySem.W.typeIn K (.ref C) = some (.type "type")) (sl : PySem.W.subIn K (.ref C) (.ref C) = some true) (ic : PySem.W.isClsIn K C = true)
section
variable {K : PySem.W.Frag} {C C' : Addr} {b : Bool}
theorem ClF.ec (F : ClF K C) (hn : PySem.W.specialIn K (.builtin "object.__class__") "__get__" = some (some (.builtin "getset_descriptor.__get__"))) (ht : PySem.W.takesIn K (.builtin "object.__class__") = some true) : ExcC K C :=
  ⟨F.ga, F.gg, F.eC, F.hC, F.ha, hn, ht, F.hm⟩
theorem ClF.cls (F : ClF K C) (t : Value) : PySem.W.kitCls K t (.ref C) = PySem.W.subIn K t (.ref C) := by
  have h2 : (PySem.W.clsIn K C).isSome = true := F.ic
  have e : ((PySem.W.clsIn K C).isSome && PySem.W.typeIn K (.ref C) == some (.type "type")) = true := by rw [h2, F.tC] <;> rfl
  show (if ((PySem.W.clsIn K C).isSome && PySem.W.typeIn K (.ref C) == some (.type "type")) = true then PySem.W.subIn K t (.ref C) else none) = _
  rw [if_pos e]
theorem ClF.kit (F : ClF K C) (F' : ClF K C') (h : PySem.W.subIn K (.ref C) (.ref C') = some b) : PySem.W.kitOne K (.ref C) (.ref C') = some b := by
  unfold PySem.W.kitOne
  by_cases e : (Value.ref C == Value.ref C') = true
  · rw [if_pos e]
    have ec : C = C' := Value.ref.inj (beq_iff_eq.mp e)
    subst ec
    rw [F.sl] at h
    exact h
  · rw [if_neg e, F'.cls]
    exact h
theorem ClF.exm (F' : ClF K C') (h : PySem.W.subIn K (.ref C) (.ref C') = some b) : PySem.W.exmOne K (.ref C) (.ref C') = some b := PySem.W.exm_ref F'.eC F'.hC F'.tC h
theorem ClF.en (F : ClF K C) (t : Ty) : PySem.W.kitOne K (.type t.nm) (.ref C) = some false := by
  unfold PySem.W.kitOne
  rw [if_neg (by cases t <;> exact fun z => nomatch (beq_iff_eq.mp z)), F.cls]
  cases t <;> rfl
end
/-- the text of an exception's own __init__ -/
theorem initAt_of {K : PySem.W.Frag} {C fI : Addr} {f x y qual : Str} {nm q : Str} {N : Addr} {bs bm : List Value} {sn : List Str} {sub : List Value} {ab : Bool} {col : Option Bool} {dd : Option Addr} {m0 m1 m2 m3 m5 : Option Value} {oc : Value} {od : Option Addr} {osl : Array (Option Value)} {params : Arguments} {scope : Scope} {kV doc pm cdv ct : Value} {an : Option Addr} {p1 p2 p3 pos : Pos}
    (F : ClF K C) (xL : K.lookup C = some (excClassObj nm q C N bs bm true sn sub ab col dd m0 m1 m2 m3 m5 "ValueError.__new__")) (hv : PySem.HandSPX.refsVE bm = true) (sa : PySem.W.findIn K (.ref C) "__setattr__" = some (some (.builtin "object.__setattr__"))) (kC : PySem.W.keepIn K (.ref C) = true)
    (no : PySem.W.findIn K (.ref C) f = some none) (h1 : PySem.W.findIn K (.ref C) "__init__" = some (some (.ref fI))) (h2 : PySem.W.typeIn K (.ref fI) = some (.type "function"))
    (l : K.lookup fI = some ⟨oc, od, .func (PySem.W.fnOf "__init__" qual params [.Assign [.Attribute (.Name x p1) f p2] (.Name y p3) pos] scope .none kV doc pm an cdv ct), osl⟩) (hcd : PySem.W.codeIn K cdv qual = true) (S : scC' [x, y] [x, y] scope = true)
    (v : (visB scope x && visB scope y && notDbg x && notDbg y) = true) (hb : ∀ us : List Value, us.length = [x, y].length → bindArgs (PySem.W.fnOf "__init__" qual params [.Assign [.Attribute (.Name x p1) f p2] (.Name y p3) pos] scope .none kV doc pm an cdv ct) ⟨us, []⟩ = pure ([x, y].zip us)) : InitAt K C f := by
  simp only [Bool.and_eq_true] at v
  exact ⟨⟨⟨nm, q, N, bs, bm, sn, sub, ab, col, dd, m0, m1, m2, m3, m5, xL, hv⟩, sa, F.eC, F.tC, kC⟩, no, fI, oc, od, osl, x, y, qual, params, scope, .none, kV, doc, pm, cdv, ct, an, p1, p2, p3, pos, h1, h2, l, hcd, scC'_ok S, ⟨v.1.1.1, v.1.1.2, v.1.2, v.2⟩, .all hb⟩
end Zf
/-! numbers over 1, w, w^2, w^3 with halvings -/
namespace Ar
structure Q4 where
  a : Int
  b : Int
  c : Int
  d : Int
theorem Q4.ext' {x y : Q4} (h1 : x.a = y.a) (h2 : x.b = y.b) (h3 : x.c = y.c) (h4 : x.d = y.d) : x = y := by
  cases x; cases y; simp_all
def Q4.add (x y : Q4) : Q4 := ⟨x.a + y.a, x.b + y.b, x.c + y.c, x.d + y.d⟩
def Q4.mul (x y : Q4) : Q4 := ⟨x.a * y.a - x.b * y.d - x.c * y.c - x.d * y.b, x.a * y.b + x.b * y.a - x.c * y.d - x.d * y.c, x.a * y.c + x.b * y.b + x.c * y.a - x.d * y.d, x.a * y.d + x.b * y.c + x.c * y.b + x.d * y.a⟩
def Q4.sc (n : Int) (x : Q4) : Q4 := ⟨n * x.a, n * x.b, n * x.c, n * x.d⟩
def Q4.cj (x : Q4) : Q4 := ⟨x.a, -x.d, -x.c, -x.b⟩
def Q4.ev (x : Q4) : Bool := decide (x.a % 2 = 0) && decide (x.b % 2 = 0) && decide (x.c % 2 = 0) && decide (x.d % 2 = 0)
def Q4.half (x : Q4) : Q4 := ⟨x.a / 2, x.b / 2, x.c / 2, x.d / 2⟩
theorem Q4.ev_iff {x : Q4} : x.ev = true ↔ x.a % 2 = 0 ∧ x.b % 2 = 0 ∧ x.c % 2 = 0 ∧ x.d % 2 = 0 := by
  simp [Q4.ev, and_assoc]
theorem Q4.half_sc {x : Q4} (h : x.ev = true) : x.half.sc 2 = x := by
  rw [Q4.ev_iff] at h
  obtain ⟨h1, h2, h3, h4⟩ := h
  apply Q4.ext' <;> simp only [Q4.sc, Q4.half] <;> omega
theorem Q4.sc_sc (m n : Int) (x : Q4) : (x.sc n).sc m = x.sc (m * n) := by
  apply Q4.ext' <;> simp only [Q4.sc] <;> rw [Int.mul_assoc]
theorem Q4.sc_one (x : Q4) : x.sc 1 = x := by apply Q4.ext' <;> simp [Q4.sc]
theorem Q4.sc_add (m : Int) (x y : Q4) : (x.add y).sc m = (x.sc m).add (y.sc m) := by
  apply Q4.ext' <;> simp only [Q4.sc, Q4.add] <;> rw [Int.mul_add]
theorem Q4.sc_mul (m n : Int) (x y : Q4) : (x.mul y).sc (m * n) = (x.sc m).mul (y.sc n) := by
  apply Q4.ext' <;> simp only [Q4.sc, Q4.mul] <;> grind
theorem Q4.sc_cj (m : Int) (x : Q4) : x.cj.sc m = (x.sc m).cj := by
  apply Q4.ext' <;> simp only [Q4.sc, Q4.cj] <;> grind
theorem Q4.add_comm (x y : Q4) : x.add y = y.add x := by
  apply Q4.ext' <;> simp only [Q4.add] <;> grind
theorem Q4.add_assoc (x y z : Q4) : (x.add y).add z = x.add (y.add z) := by
  apply Q4.ext' <;> simp only [Q4.add] <;> grind
theorem Q4.mul_comm (x y : Q4) : x.mul y = y.mul x := by
  apply Q4.ext' <;> simp only [Q4.mul] <;> grind
theorem Q4.mul_assoc (x y z : Q4) : (x.mul y).mul z = x.mul (y.mul z) := by
  apply Q4.ext' <;> simp only [Q4.mul] <;> grind
theorem Q4.mul_add (x y z : Q4) : x.mul (y.add z) = (x.mul y).add (x.mul z) := by
  apply Q4.ext' <;> simp only [Q4.mul, Q4.add] <;> grind
theorem Q4.cj_add (x y : Q4) : (x.add y).cj = x.cj.add y.cj := by
  apply Q4.ext' <;> simp only [Q4.cj, Q4.add] <;> grind
theorem Q4.cj_mul (x y : Q4) : (x.mul y).cj = x.cj.mul y.cj := by
  apply Q4.ext' <;> simp only [Q4.cj, Q4.mul] <;> grind
theorem Q4.cj_cj (x : Q4) : x.cj.cj = x := by
  apply Q4.ext' <;> simp [Q4.cj]
theorem Q4.sc_inj {m : Int} (hm : m ≠ 0) {x y : Q4} (h : x.sc m = y.sc m) : x = y := by
  have h1 := congrArg Q4.a h
  have h2 := congrArg Q4.b h
  have h3 := congrArg Q4.c h
  have h4 := congrArg Q4.d h
  simp only [Q4.sc] at h1 h2 h3 h4
  exact Q4.ext' (Int.eq_of_mul_eq_mul_left hm h1) (Int.eq_of_mul_eq_mul_left hm h2) (Int.eq_of_mul_eq_mul_left hm h3) (Int.eq_of_mul_eq_mul_left hm h4)
structure Nm where
  q : Q4
  k : Nat
def low : Q4 → Nat → Nm
  | q, 0 => ⟨q, 0⟩
  | q, k + 1 => if q.ev = true then low q.half k else ⟨q, k + 1⟩
def Nm.Ok (n : Nm) : Prop := n.k = 0 ∨ n.q.ev = false
def P2 (n : Nat) : Int := 2 ^ n
theorem P2_add (m n : Nat) : P2 (m + n) = P2 m * P2 n := Int.pow_add 2 m n
theorem P2_pos (n : Nat) : 0 < P2 n := Int.pow_pos (by decide)
theorem P2_ne (n : Nat) : P2 n ≠ 0 := Int.ne_of_gt (P2_pos n)
theorem P2_zero : P2 0 = 1 := rfl
theorem P2_one : P2 1 = 2 := rfl
theorem P2_succ (n : Nat) : P2 (n + 1) = 2 * P2 n := by rw [P2_add, P2_one, Int.mul_comm]
/-- the value over 2^K -/
def V (K : Nat) (n : Nm) : Q4 := n.q.sc (P2 (K - n.k))
theorem low_ok : ∀ (k : Nat) (q : Q4), (low q k).Ok ∧ (low q k).k ≤ k
  | 0, q => ⟨.inl rfl, Nat.le_refl _⟩
  | k + 1, q => by
    simp only [low]
    split
    · obtain ⟨h1, h2⟩ := low_ok k q.half
      exact ⟨h1, by omega⟩
    · rename_i h
      exact ⟨.inr (by simpa using h), Nat.le_refl _⟩
theorem low_V : ∀ (k : Nat) (q : Q4) {K : Nat}, k ≤ K → V K (low q k) = q.sc (P2 (K - k))
  | 0, q, K, h => rfl
  | k + 1, q, K, h => by
    simp only [low]
    split
    · rename_i he
      rw [low_V k q.half (by omega)]
      have e : K - k = (K - (k + 1)) + 1 := by omega
      rw [e, P2_succ, Int.mul_comm, ← Q4.sc_sc, Q4.half_sc he]
    · rfl
theorem V_inj {m n : Nm} {K : Nat} (hm : m.Ok) (hn : n.Ok) (h1 : m.k ≤ K) (h2 : n.k ≤ K) (h : V K m = V K n) : m = n := by
  have main : ∀ {m n : Nm}, n.Ok → n.k ≤ K → m.k < n.k → V K m = V K n → False := fun {m n} hn h2 hlt h => by
    unfold V at h
    have e : K - m.k = (K - n.k) + (n.k - m.k) := by omega
    rw [e, P2_add, ← Q4.sc_sc] at h
    have h := Q4.sc_inj (P2_ne _) h
    rcases hn with h0 | h0
    · omega
    · have e2 : n.k - m.k = (n.k - m.k - 1) + 1 := by omega
      rw [e2, P2_succ, ← Q4.sc_sc] at h
      have : n.q.ev = true := by
        rw [← h, Q4.ev_iff]
        simp only [Q4.sc]
        refine ⟨?_, ?_, ?_, ?_⟩ <;> omega
      rw [h0] at this
      cases this
  rcases Nat.lt_trichotomy m.k n.k with hlt | he | hlt
  · exact (main hn h2 hlt h).elim
  · unfold V at h
    rw [he] at h
    have := Q4.sc_inj (P2_ne _) h
    cases m; cases n; simp_all
  · exact (main hm h1 hlt h.symm).elim
def nadd (m n : Nm) : Nm := low ((m.q.sc (P2 (max m.k n.k - m.k))).add (n.q.sc (P2 (max m.k n.k - n.k)))) (max m.k n.k)
def nmul (m n : Nm) : Nm := low (m.q.mul n.q) (m.k + n.k)
def ncj (n : Nm) : Nm := ⟨n.q.cj, n.k⟩
theorem nadd_ok (m n : Nm) : (nadd m n).Ok := (low_ok _ _).1
theorem nmul_ok (m n : Nm) : (nmul m n).Ok := (low_ok _ _).1
theorem cj_ev (q : Q4) : q.cj.ev = q.ev := by
  rw [Bool.eq_iff_iff, Q4.ev_iff, Q4.ev_iff]
  simp only [Q4.cj]
  omega
theorem ncj_ok {n : Nm} (h : n.Ok) : (ncj n).Ok := by
  rcases h with h | h
  · exact .inl h
  · exact .inr (by simp only [ncj, cj_ev, h])
theorem nadd_k {m n : Nm} {K : Nat} (h1 : m.k ≤ K) (h2 : n.k ≤ K) : (nadd m n).k ≤ K := Nat.le_trans (low_ok _ _).2 (by omega)
theorem nmul_k {m n : Nm} {K L : Nat} (h1 : m.k ≤ K) (h2 : n.k ≤ L) : (nmul m n).k ≤ K + L := Nat.le_trans (low_ok _ _).2 (by omega)
theorem V_add {m n : Nm} {K : Nat} (h1 : m.k ≤ K) (h2 : n.k ≤ K) : V K (nadd m n) = (V K m).add (V K n) := by
  unfold nadd
  rw [low_V _ _ (by omega), Q4.sc_add, Q4.sc_sc, Q4.sc_sc, ← P2_add, ← P2_add]
  unfold V
  congr 3 <;> omega
theorem V_mul {m n : Nm} {K L : Nat} (h1 : m.k ≤ K) (h2 : n.k ≤ L) : V (K + L) (nmul m n) = (V K m).mul (V L n) := by
  unfold nmul
  rw [low_V _ _ (by omega)]
  have e : K + L - (m.k + n.k) = (K - m.k) + (L - n.k) := by omega
  rw [e, P2_add, Q4.sc_mul]
  rfl
theorem V_cj {n : Nm} {K : Nat} : V K (ncj n) = (V K n).cj := by
  unfold V ncj
  rw [Q4.sc_cj]
section
variable {u v t : Nm} {K : Nat}
theorem nadd_comm : nadd u v = nadd v u := by
  have h1 : u.k ≤ max u.k v.k := by omega
  have h2 : v.k ≤ max u.k v.k := by omega
  exact V_inj (nadd_ok _ _) (nadd_ok _ _) (nadd_k h1 h2) (nadd_k h2 h1) (by rw [V_add h1 h2, V_add h2 h1, Q4.add_comm])
theorem nmul_comm : nmul u v = nmul v u := by
  unfold nmul
  rw [Q4.mul_comm, Nat.add_comm]
theorem nadd_assoc : nadd (nadd u v) t = nadd u (nadd v t) := by
  obtain ⟨K, h1, h2, h3⟩ : ∃ K, u.k ≤ K ∧ v.k ≤ K ∧ t.k ≤ K := ⟨u.k + v.k + t.k, by omega, by omega, by omega⟩
  refine V_inj (K := K) (nadd_ok _ _) (nadd_ok _ _) (nadd_k (nadd_k h1 h2) h3) (nadd_k h1 (nadd_k h2 h3)) ?_
  rw [V_add (nadd_k h1 h2) h3, V_add h1 h2, V_add h1 (nadd_k h2 h3), V_add h2 h3, Q4.add_assoc]
theorem nmul_assoc : nmul (nmul u v) t = nmul u (nmul v t) := by
  obtain ⟨K, h1, h2, h3⟩ : ∃ K, u.k ≤ K ∧ v.k ≤ K ∧ t.k ≤ K := ⟨u.k + v.k + t.k, by omega, by omega, by omega⟩
  refine V_inj (K := K + K + K) (nmul_ok _ _) (nmul_ok _ _) (nmul_k (nmul_k h1 h2) h3) (by have := nmul_k h1 (nmul_k h2 h3); omega) ?_
  rw [V_mul (nmul_k h1 h2) h3, V_mul h1 h2, Nat.add_assoc, V_mul h1 (nmul_k h2 h3), V_mul h2 h3, Q4.mul_assoc]
theorem nmul_add : nmul u (nadd v t) = nadd (nmul u v) (nmul u t) := by
  obtain ⟨K, h1, h2, h3⟩ : ∃ K, u.k ≤ K ∧ v.k ≤ K ∧ t.k ≤ K := ⟨u.k + v.k + t.k, by omega, by omega, by omega⟩
  refine V_inj (K := K + K) (nmul_ok _ _) (nadd_ok _ _) (nmul_k h1 (nadd_k h2 h3)) (nadd_k (nmul_k h1 h2) (nmul_k h1 h3)) ?_
  rw [V_mul h1 (nadd_k h2 h3), V_add h2 h3, V_add (nmul_k h1 h2) (nmul_k h1 h3), V_mul h1 h2, V_mul h1 h3, Q4.mul_add]
theorem ncj_add (hu : u.Ok) (hv : v.Ok) : ncj (nadd u v) = nadd (ncj u) (ncj v) := by
  obtain ⟨K, h1, h2⟩ : ∃ K, u.k ≤ K ∧ v.k ≤ K := ⟨u.k + v.k, by omega, by omega⟩
  refine V_inj (K := K) (ncj_ok (nadd_ok _ _)) (nadd_ok _ _) (nadd_k h1 h2) (nadd_k (m := ncj u) (n := ncj v) h1 h2) ?_
  rw [V_cj, V_add h1 h2, V_add (m := ncj u) (n := ncj v) h1 h2, V_cj, V_cj, Q4.cj_add]
theorem ncj_mul : ncj (nmul u v) = nmul (ncj u) (ncj v) := by
  obtain ⟨K, h1, h2⟩ : ∃ K, u.k ≤ K ∧ v.k ≤ K := ⟨u.k + v.k, by omega, by omega⟩
  refine V_inj (K := K + K) (ncj_ok (nmul_ok _ _)) (nmul_ok _ _) (nmul_k h1 h2) (nmul_k (m := ncj u) (n := ncj v) h1 h2) ?_
  rw [V_cj, V_mul h1 h2, V_mul (m := ncj u) (n := ncj v) h1 h2, V_cj, V_cj, Q4.cj_mul]
theorem ncj_ncj : ncj (ncj u) = u := by
  unfold ncj
  rw [Q4.cj_cj]
theorem ok_eq (h : u.Ok) (hk : u.k ≤ K) {q : Q4} {k : Nat} (hk2 : k ≤ K) (e : q.sc (P2 (K - k)) = V K u) : low q k = u := V_inj (low_ok _ _).1 h (Nat.le_trans (low_ok _ _).2 hk2) hk (by rw [low_V _ _ hk2, e])
theorem low_same (h : u.Ok) : low u.q u.k = u := ok_eq h (Nat.le_refl _) (Nat.le_refl _) rfl
theorem nadd_zero (h : u.Ok) : nadd u ⟨⟨0, 0, 0, 0⟩, 0⟩ = u := by
  refine V_inj (K := u.k) (nadd_ok _ _) h (nadd_k (Nat.le_refl _) (Nat.zero_le _)) (Nat.le_refl _) ?_
  rw [V_add (Nat.le_refl _) (Nat.zero_le _)]
  apply Q4.ext' <;> simp [V, Q4.add, Q4.sc]
theorem nmul_one (h : u.Ok) : nmul u ⟨⟨1, 0, 0, 0⟩, 0⟩ = u := by
  unfold nmul
  have : u.q.mul ⟨1, 0, 0, 0⟩ = u.q := by apply Q4.ext' <;> simp [Q4.mul]
  rw [this]
  exact low_same h
theorem nadd_neg : nadd u (nmul ⟨⟨-1, 0, 0, 0⟩, 0⟩ u) = ⟨⟨0, 0, 0, 0⟩, 0⟩ := by
  have hk : (nmul ⟨⟨-1, 0, 0, 0⟩, 0⟩ u).k ≤ 0 + u.k := nmul_k (K := 0) (L := u.k) (Nat.le_refl _) (Nat.le_refl _)
  rw [Nat.zero_add] at hk
  refine V_inj (K := u.k) (nadd_ok _ _) (.inl rfl) (nadd_k (Nat.le_refl _) hk) (Nat.zero_le _) ?_
  rw [V_add (Nat.le_refl _) hk]
  have := V_mul (m := ⟨⟨-1, 0, 0, 0⟩, 0⟩) (n := u) (K := 0) (L := u.k) (Nat.le_refl _) (Nat.le_refl _)
  rw [Nat.zero_add] at this
  rw [this]
  apply Q4.ext' <;> simp [V, Q4.add, Q4.sc, Q4.mul, P2] <;> omega
end
/-- how often all can be halved -/
theorem low_char : ∀ (h k : Nat) (q : Q4), h ≤ k → (P2 h ∣ q.a ∧ P2 h ∣ q.b ∧ P2 h ∣ q.c ∧ P2 h ∣ q.d) → (h = k ∨ ¬ (P2 (h + 1) ∣ q.a ∧ P2 (h + 1) ∣ q.b ∧ P2 (h + 1) ∣ q.c ∧ P2 (h + 1) ∣ q.d)) → low q k = ⟨⟨q.a / P2 h, q.b / P2 h, q.c / P2 h, q.d / P2 h⟩, k - h⟩ := by
  intro h k q hk hd hn
  obtain ⟨⟨a, ha⟩, ⟨b, hb⟩, ⟨c, hc⟩, ⟨d, hd⟩⟩ := hd
  have eq : q = (Q4.mk a b c d).sc (P2 h) := by
    apply Q4.ext' <;> simp only [Q4.sc] <;> assumption
  have e2 : (⟨⟨q.a / P2 h, q.b / P2 h, q.c / P2 h, q.d / P2 h⟩, k - h⟩ : Nm) = ⟨⟨a, b, c, d⟩, k - h⟩ := by
    rw [ha, hb, hc, hd, Int.mul_ediv_cancel_left _ (P2_ne h), Int.mul_ediv_cancel_left _ (P2_ne h), Int.mul_ediv_cancel_left _ (P2_ne h), Int.mul_ediv_cancel_left _ (P2_ne h)]
  rw [e2]
  refine ok_eq (K := k) ?_ (by simp) (Nat.le_refl _) ?_
  · rcases hn with hn | hn
    · exact .inl (by simp [hn])
    · refine .inr ?_
      rw [← Bool.not_eq_true]
      intro he
      apply hn
      rw [Q4.ev_iff] at he
      obtain ⟨h1, h2, h3, h4⟩ := he
      simp only at h1 h2 h3 h4
      have key : ∀ {x y : Int}, x = P2 h * y → y % 2 = 0 → P2 (h + 1) ∣ x := fun {x y} e1 e2 => ⟨y / 2, by
        rw [e1, P2_add, P2_one, Int.mul_assoc]; congr 1; omega⟩
      exact ⟨key ha h1, key hb h2, key hc h3, key hd h4⟩
  · unfold V
    simp only [Nat.sub_self, P2_zero, Q4.sc_one]
    rw [eq]
    congr 2
    omega
/-! ### sizes -/
def Q4.Lt (x : Q4) (n : Nat) : Prop := x.a.natAbs < 2 ^ n ∧ x.b.natAbs < 2 ^ n ∧ x.c.natAbs < 2 ^ n ∧ x.d.natAbs < 2 ^ n
theorem Q4.Lt.mono {x : Q4} {m n : Nat} (h : x.Lt m) (e : m ≤ n) : x.Lt n := by
  have := Nat.pow_le_pow_right (n := 2) (by decide) e
  exact ⟨Nat.lt_of_lt_of_le h.1 this, Nat.lt_of_lt_of_le h.2.1 this, Nat.lt_of_lt_of_le h.2.2.1 this, Nat.lt_of_lt_of_le h.2.2.2 this⟩
theorem half_lt {x : Int} {n : Nat} (h : x.natAbs < n) (e : x % 2 = 0) : (x / 2).natAbs < n := by omega
theorem low_lt {n : Nat} : ∀ (k : Nat) {q : Q4}, q.Lt n → (low q k).q.Lt n
  | 0, q, h => h
  | k + 1, q, h => by
    simp only [low]
    split
    · rename_i he
      rw [Q4.ev_iff] at he
      exact low_lt k ⟨half_lt h.1 he.1, half_lt h.2.1 he.2.1, half_lt h.2.2.1 he.2.2.1, half_lt h.2.2.2 he.2.2.2⟩
    · exact h
theorem sc_lt {x : Q4} {n m : Nat} (h : x.Lt n) : (x.sc (P2 m)).Lt (n + m) := by
  have key : ∀ {y : Int}, y.natAbs < 2 ^ n → (P2 m * y).natAbs < 2 ^ (n + m) := fun {y} hy => by
    rw [Int.natAbs_mul]
    have : (P2 m).natAbs = 2 ^ m := by
      unfold P2
      rw [Int.natAbs_pow]
      rfl
    rw [this, Nat.pow_add, Nat.mul_comm]
    exact Nat.mul_lt_mul_of_pos_right hy (Nat.pow_pos (by decide))
  exact ⟨key h.1, key h.2.1, key h.2.2.1, key h.2.2.2⟩
theorem add_lt {x y : Q4} {n : Nat} (h : x.Lt n) (g : y.Lt n) : (x.add y).Lt (n + 1) := by
  have e : 2 ^ (n + 1) = 2 ^ n + 2 ^ n := by rw [Nat.pow_succ]; omega
  obtain ⟨h1, h2, h3, h4⟩ := h
  obtain ⟨g1, g2, g3, g4⟩ := g
  unfold Q4.Lt
  rw [e]
  simp only [Q4.add]
  refine ⟨?_, ?_, ?_, ?_⟩ <;> omega
theorem four1 {p q r s : Int} {N : Nat} (h1 : p.natAbs < N) (h2 : q.natAbs < N) (h3 : r.natAbs < N) (h4 : s.natAbs < N) : (p - q - r - s).natAbs < N + N + N + N := by omega
theorem four2 {p q r s : Int} {N : Nat} (h1 : p.natAbs < N) (h2 : q.natAbs < N) (h3 : r.natAbs < N) (h4 : s.natAbs < N) : (p + q - r - s).natAbs < N + N + N + N := by omega
theorem four3 {p q r s : Int} {N : Nat} (h1 : p.natAbs < N) (h2 : q.natAbs < N) (h3 : r.natAbs < N) (h4 : s.natAbs < N) : (p + q + r - s).natAbs < N + N + N + N := by omega
theorem four4 {p q r s : Int} {N : Nat} (h1 : p.natAbs < N) (h2 : q.natAbs < N) (h3 : r.natAbs < N) (h4 : s.natAbs < N) : (p + q + r + s).natAbs < N + N + N + N := by omega
theorem prod_lt {x y : Int} {n m : Nat} (hx : x.natAbs < 2 ^ n) (hy : y.natAbs < 2 ^ m) : (x * y).natAbs < 2 ^ (n + m) := by
  rw [Int.natAbs_mul, Nat.pow_add]
  exact Nat.mul_lt_mul_of_lt_of_le hx (Nat.le_of_lt hy) (Nat.pow_pos (by decide))
theorem mul_lt {x y : Q4} {n m : Nat} (h : x.Lt n) (g : y.Lt m) : (x.mul y).Lt (n + m + 2) := by
  have e : 2 ^ (n + m + 2) = 2 ^ (n + m) + 2 ^ (n + m) + 2 ^ (n + m) + 2 ^ (n + m) := by rw [Nat.pow_succ, Nat.pow_succ]; omega
  obtain ⟨h1, h2, h3, h4⟩ := h
  obtain ⟨g1, g2, g3, g4⟩ := g
  unfold Q4.Lt
  rw [e]
  exact ⟨four1 (prod_lt h1 g1) (prod_lt h2 g4) (prod_lt h3 g3) (prod_lt h4 g2), four2 (prod_lt h1 g2) (prod_lt h2 g1) (prod_lt h3 g4) (prod_lt h4 g3), four3 (prod_lt h1 g3) (prod_lt h2 g2) (prod_lt h3 g1) (prod_lt h4 g4), four4 (prod_lt h1 g4) (prod_lt h2 g3) (prod_lt h3 g2) (prod_lt h4 g1)⟩
theorem cj_lt {x : Q4} {n : Nat} (h : x.Lt n) : x.cj.Lt n := by
  obtain ⟨h1, h2, h3, h4⟩ := h
  simp only [Q4.Lt, Q4.cj, Int.natAbs_neg]
  exact ⟨h1, h4, h3, h2⟩
/-- a number within bounds -/
structure Nm.In (n : Nm) (B K : Nat) : Prop where
  ok : n.Ok
  lt : n.q.Lt B
  k : n.k ≤ K
theorem In.mono {n : Nm} {B K B' K' : Nat} (h : n.In B K) (h1 : B ≤ B') (h2 : K ≤ K') : n.In B' K' := ⟨h.ok, h.lt.mono h1, Nat.le_trans h.k h2⟩
theorem In.add {m n : Nm} {B K : Nat} (h : m.In B K) (g : n.In B K) : (nadd m n).In (B + K + 1) K := ⟨nadd_ok _ _, low_lt _ (add_lt ((sc_lt h.lt).mono (by have := h.k; have := g.k; omega)) ((sc_lt g.lt).mono (by have := h.k; have := g.k; omega))), nadd_k h.k g.k⟩
theorem In.mul {m n : Nm} {B K B' K' : Nat} (h : m.In B K) (g : n.In B' K') : (nmul m n).In (B + B' + 2) (K + K') := ⟨nmul_ok _ _, low_lt _ (mul_lt h.lt g.lt), nmul_k h.k g.k⟩
theorem In.cj {n : Nm} {B K : Nat} (h : n.In B K) : (ncj n).In B K := ⟨ncj_ok h.ok, cj_lt h.lt, h.k⟩
end Ar
/-! the lowest bit -/
namespace Ar
open PySem PyProof.Rows
theorem and_half (x y : Int) : Builtin.bitAnd x y / 2 = Builtin.bitAnd (x / 2) (y / 2) := by
  by_cases hx : 0 ≤ x <;> by_cases hy : 0 ≤ y
  · rw [bitAnd_pp hx hy, bitAnd_pp (by omega) (by omega)]
    have h := Nat.and_div_two (a := x.toNat) (b := y.toNat)
    have e1 : (x / 2).toNat = x.toNat / 2 := by omega
    have e2 : (y / 2).toNat = y.toNat / 2 := by omega
    rw [e1, e2, ← h]
    omega
  · rw [bitAnd_pn hx hy, bitAnd_pn (by omega) (by omega)]
    have h := Nat.and_div_two (a := x.toNat) (b := (Builtin.bitNot y).toNat)
    have e1 : (x / 2).toNat = x.toNat / 2 := by omega
    have e2 : (Builtin.bitNot (y / 2)).toNat = (Builtin.bitNot y).toNat / 2 := by unfold Builtin.bitNot; omega
    have p := Nat.and_mod_two_eq_one (a := x.toNat) (b := (Builtin.bitNot y).toNat)
    rw [e1, e2, ← h]
    omega
  · rw [bitAnd_np hx hy, bitAnd_np (by omega) (by omega)]
    have h := Nat.and_div_two (a := y.toNat) (b := (Builtin.bitNot x).toNat)
    have e1 : (y / 2).toNat = y.toNat / 2 := by omega
    have e2 : (Builtin.bitNot (x / 2)).toNat = (Builtin.bitNot x).toNat / 2 := by unfold Builtin.bitNot; omega
    have p := Nat.and_mod_two_eq_one (a := y.toNat) (b := (Builtin.bitNot x).toNat)
    rw [e1, e2, ← h]
    omega
  · rw [bitAnd_nn hx hy, bitAnd_nn (by omega) (by omega)]
    have h := Nat.or_div_two (a := (Builtin.bitNot x).toNat) (b := (Builtin.bitNot y).toNat)
    have e1 : (Builtin.bitNot (y / 2)).toNat = (Builtin.bitNot y).toNat / 2 := by unfold Builtin.bitNot; omega
    have e2 : (Builtin.bitNot (x / 2)).toNat = (Builtin.bitNot x).toNat / 2 := by unfold Builtin.bitNot; omega
    rw [e1, e2, ← h]
    unfold Builtin.bitNot
    omega
theorem and_par (x y : Int) : Builtin.bitAnd x y % 2 = 1 ↔ x % 2 = 1 ∧ y % 2 = 1 := by
  have key : ∀ a b : Nat, ((a &&& b : Nat) : Int) % 2 = 1 ↔ (a : Int) % 2 = 1 ∧ (b : Int) % 2 = 1 := fun a b => by
    have := Nat.and_mod_two_eq_one (a := a) (b := b)
    omega
  have key2 : ∀ a b : Nat, ((a ||| b : Nat) : Int) % 2 = 1 ↔ (a : Int) % 2 = 1 ∨ (b : Int) % 2 = 1 := fun a b => by
    have := Nat.or_mod_two_eq_one (a := a) (b := b)
    omega
  by_cases hx : 0 ≤ x <;> by_cases hy : 0 ≤ y
  · rw [bitAnd_pp hx hy, key]; omega
  · rw [bitAnd_pn hx hy]
    have := key x.toNat (Builtin.bitNot y).toNat
    have e : ((Builtin.bitNot y).toNat : Int) = - y - 1 := by unfold Builtin.bitNot; omega
    rw [e] at this
    omega
  · rw [bitAnd_np hx hy]
    have := key y.toNat (Builtin.bitNot x).toNat
    have e : ((Builtin.bitNot x).toNat : Int) = - x - 1 := by unfold Builtin.bitNot; omega
    rw [e] at this
    omega
  · rw [bitAnd_nn hx hy]
    have := key2 (Builtin.bitNot x).toNat (Builtin.bitNot y).toNat
    have e : ((Builtin.bitNot y).toNat : Int) = - y - 1 := by unfold Builtin.bitNot; omega
    have e2 : ((Builtin.bitNot x).toNat : Int) = - x - 1 := by unfold Builtin.bitNot; omega
    rw [e, e2] at this
    unfold Builtin.bitNot at this ⊢
    omega
theorem or_par (x y : Int) : Builtin.bitOr x y % 2 = 1 ↔ x % 2 = 1 ∨ y % 2 = 1 := by
  have := and_par x y
  rw [bitOr_and]
  omega
theorem or_half (x y : Int) : Builtin.bitOr x y / 2 = Builtin.bitOr (x / 2) (y / 2) := by
  have := and_par x y
  have h := and_half x y
  rw [bitOr_and, bitOr_and, ← h]
  omega
theorem or_dvd : ∀ (n : Nat) (x y : Int), P2 n ∣ Builtin.bitOr x y ↔ P2 n ∣ x ∧ P2 n ∣ y
  | 0, x, y => by simp [P2]
  | n + 1, x, y => by
    have key : ∀ z : Int, P2 (n + 1) ∣ z ↔ z % 2 = 0 ∧ P2 n ∣ z / 2 := fun z => by
      rw [P2_succ]
      constructor
      · rintro ⟨m, rfl⟩
        refine ⟨by rw [Int.mul_assoc]; omega, m, ?_⟩
        rw [Int.mul_assoc]; omega
      · rintro ⟨h1, m, h2⟩
        refine ⟨m, ?_⟩
        rw [Int.mul_assoc, ← h2]; omega
    rw [key, key, key, or_half, or_dvd n]
    have := or_par x y
    constructor
    · rintro ⟨h1, h2, h3⟩; exact ⟨⟨by omega, h2⟩, by omega, h3⟩
    · rintro ⟨⟨h1, h2⟩, h3, h4⟩; exact ⟨by omega, h2, h4⟩
theorem or_zero {x y : Int} (h : Builtin.bitOr x y = 0) : x = 0 ∧ y = 0 := by
  have key : ∀ z : Int, (∀ n, P2 n ∣ z) → z = 0 := fun z hz => by
    have h1 := hz z.natAbs
    have h2 : z.natAbs < 2 ^ z.natAbs := Nat.lt_two_pow_self
    have h3 := Int.natAbs_dvd_natAbs.mpr h1
    have h4 : (P2 z.natAbs).natAbs = 2 ^ z.natAbs := by unfold P2; rw [Int.natAbs_pow]; rfl
    rw [h4] at h3
    by_cases h0 : z.natAbs = 0
    · omega
    · have := Nat.le_of_dvd (by omega) h3
      omega
  have h2 : ∀ n, P2 n ∣ x ∧ P2 n ∣ y := fun n => (or_dvd n x y).mp (by rw [h]; exact Int.dvd_zero _)
  exact ⟨key x fun n => (h2 n).1, key y fun n => (h2 n).2⟩
/-- an odd number's lowest bit -/
theorem low_odd {m : Int} (h : m % 2 = 1) : Builtin.bitAnd m (-m) = 1 := by
  have e : -m = Builtin.bitNot (m - 1) := by unfold Builtin.bitNot; omega
  rw [e, bitAnd_not]
  have h1 := and_half m (m - 1)
  have h2 : m / 2 = (m - 1) / 2 := by omega
  rw [← h2] at h1
  have h3 : Builtin.bitAnd (m / 2) (m / 2) = m / 2 := by
    have h4 := bitAnd_not (m / 2) (Builtin.bitNot (m / 2))
    have h5 : Builtin.bitNot (Builtin.bitNot (m / 2)) = m / 2 := by unfold Builtin.bitNot; omega
    rw [h5] at h4
    rw [h4]
    have h6 := bitAnd_not (m / 2) (m / 2)
    by_cases h0 : 0 ≤ m / 2
    · rw [bitAnd_pp h0 h0, Nat.and_self] at h6
      rw [h6]; omega
    · rw [bitAnd_nn h0 h0, Nat.or_self] at h6
      rw [h6]; unfold Builtin.bitNot; omega
  rw [h3] at h1
  have h4 := and_par m (m - 1)
  omega
theorem low_bit : ∀ (t : Nat) {m : Int}, m % 2 = 1 → Builtin.bitAnd (P2 t * m) (-(P2 t * m)) = P2 t
  | 0, m, h => by
    simp only [P2_zero, Int.one_mul]
    exact low_odd h
  | t + 1, m, h => by
    have ih := low_bit t h
    have h1 := and_half (P2 (t + 1) * m) (-(P2 (t + 1) * m))
    have h2 := and_par (P2 (t + 1) * m) (-(P2 (t + 1) * m))
    rw [P2_succ, Int.mul_assoc] at h1 h2 ⊢
    have e1 : 2 * (P2 t * m) / 2 = P2 t * m := by omega
    have e2 : -(2 * (P2 t * m)) / 2 = -(P2 t * m) := by omega
    rw [e1, e2, ih] at h1
    omega
theorem bits_pow (t : Nat) : Builtin.Int.intBits (P2 t) = t + 1 := by
  have h4 : (P2 t).natAbs = 2 ^ t := by unfold P2; rw [Int.natAbs_pow]; rfl
  have h1 : Builtin.Int.intBits (P2 t) ≤ t + 1 := PySem.intBits_le_iff.mpr (by rw [h4]; exact Nat.pow_lt_pow_right (by decide) (by omega))
  have h2 : ¬ Builtin.Int.intBits (P2 t) ≤ t := fun h => by
    have := PySem.intBits_le_iff.mp h
    rw [h4] at this
    omega
  omega
/-- an int is a power of two times an odd one -/
theorem odd_part (u : Int) (h : u ≠ 0) : ∃ (t : Nat) (m : Int), m % 2 = 1 ∧ u = P2 t * m := by
  have main : ∀ (n : Nat) (u : Int), u.natAbs ≤ n → u ≠ 0 → ∃ (t : Nat) (m : Int), m % 2 = 1 ∧ u = P2 t * m := fun n => by
    induction n with
    | zero => intro u h1 h2; omega
    | succ n ih =>
      intro u h1 h2
      by_cases h : u % 2 = 1
      · exact ⟨0, u, h, by rw [P2_zero, Int.one_mul]⟩
      · obtain ⟨t, m, h3, h4⟩ := ih (u / 2) (by omega) (by omega)
        refine ⟨t + 1, m, h3, ?_⟩
        rw [P2_succ, Int.mul_assoc, ← h4]
        omega
  exact main u.natAbs u (Nat.le_refl _) h
def un (q : Q4) : Int := Builtin.bitOr (Builtin.bitOr (Builtin.bitOr q.a q.b) q.c) q.d
theorem un_dvd (n : Nat) (q : Q4) : P2 n ∣ un q ↔ P2 n ∣ q.a ∧ P2 n ∣ q.b ∧ P2 n ∣ q.c ∧ P2 n ∣ q.d := by
  unfold un
  rw [or_dvd, or_dvd, or_dvd, and_assoc, and_assoc]
theorem un_zero {q : Q4} (h : un q = 0) : q = ⟨0, 0, 0, 0⟩ := by
  unfold un at h
  obtain ⟨h1, h4⟩ := or_zero h
  obtain ⟨h2, h3⟩ := or_zero h1
  obtain ⟨h1, h2⟩ := or_zero h2
  exact Q4.ext' h1 h2 h3 h4
theorem low_zero : ∀ k : Nat, low ⟨0, 0, 0, 0⟩ k = ⟨⟨0, 0, 0, 0⟩, 0⟩
  | 0 => rfl
  | k + 1 => by
    rw [low]
    rw [show (Q4.mk 0 0 0 0).ev = true from rfl, if_pos rfl]
    exact low_zero k
/-- what the lowest bit tells -/
theorem low_un {q : Q4} (h : un q ≠ 0) (k : Nat) : ∃ t : Nat, (Builtin.Int.intBits (Builtin.bitAnd (un q) (-(un q))) : Nat) = t + 1 ∧ low q k = ⟨⟨q.a / P2 (min k t), q.b / P2 (min k t), q.c / P2 (min k t), q.d / P2 (min k t)⟩, k - min k t⟩ := by
  obtain ⟨t, m, hm, e⟩ := odd_part _ h
  refine ⟨t, by rw [e, low_bit t hm, bits_pow], ?_⟩
  have d1 : ∀ n, n ≤ t → P2 n ∣ un q := fun n hn => ⟨P2 (t - n) * m, by rw [e, ← Int.mul_assoc, ← P2_add]; congr 2; omega⟩
  have d2 : ¬ P2 (t + 1) ∣ un q := by
    rintro ⟨z, hz⟩
    rw [e, P2_add, P2_one, Int.mul_assoc] at hz
    have := Int.eq_of_mul_eq_mul_left (P2_ne t) hz
    omega
  refine low_char _ _ _ (Nat.min_le_left _ _) ((un_dvd _ _).mp (d1 _ (Nat.min_le_right _ _))) ?_
  by_cases hk : k ≤ t
  · exact .inl (by omega)
  · refine .inr fun hd => d2 ((un_dvd _ _).mpr ?_)
    have e : min k t = t := by omega
    rw [e] at hd
    exact hd
end Ar
/-! the program's exact numbers, whatever places its defs have -/
namespace Ex
open PySem L2 Zf Ar
def nv (n : Nm) : W := .tup [.int n.q.a, .int n.q.b, .int n.q.c, .int n.q.d, .int (n.k : Int)]
def qv (q : Q4) : List W := [.int q.a, .int q.b, .int q.c, .int q.d]
def c1 (i : Nat) : Shape := ⟨i, 1, [], [0]⟩
def c2 (i : Nat) : Shape := ⟨i, 2, [], [0, 1]⟩
def wholeF (G : Glb) : SS := (retS (andF (isiF G (.ty .int) (varE 0)) (notF (isiF G (.ty .bool) (varE 0)))))
def numberF (G : Glb) (i : Nat) : SS := (seqS (ifS (orT (notT (truF (isiF G (.ty .tuple) (varE 0)))) (asB (binF (eqW true) (bltF (un1 lenW) (consL (varE 0) nilL)) (retE (.int 5))))) (retS (retE (.bl false))) skipS) (seqS (ifS (notT (truF (bltF (un1 allW) (consL (lcF [6] (valI (varE 0)) (nameC 6) yesT (callF i (c1 i) (consL (varE 6) nilL) nilL)) nilL)))) (retS (retE (.bl false))) skipS) (seqS (asgS (varE 0) (tupT 5 (consG (nameT 1) (consG (nameT 2) (consG (nameT 3) (consG (nameT 4) (consG (nameT 5) nilG))))))) (seqS (ifS (orT (asB (binF ltW (varE 5) (retE (.int 0)))) (asB (binF gtW (varE 5) (retE (.int 4000))))) (retS (retE (.bl false))) skipS) (retS (orF (binF (eqW false) (varE 5) (retE (.int 0))) (binF (eqW false) (binF (intW Builtin.bitAnd) (binF (intW Builtin.bitOr) (binF (intW Builtin.bitOr) (binF (intW Builtin.bitOr) (varE 1) (varE 2)) (varE 3)) (varE 4)) (retE (.int 1))) (retE (.int 1)))))))))
def needF (i : Nat) (R : SS) : SS := (ifS (notT (truF (callF i (c1 i) (consL (varE 0) nilL) nilL))) R skipS)
def lowestF : SS := (seqS (asgS (varE 0) (tupT 4 (consG (nameT 2) (consG (nameT 3) (consG (nameT 4) (consG (nameT 5) nilG)))))) (seqS (asgS (binF (intW Builtin.bitOr) (binF (intW Builtin.bitOr) (binF (intW Builtin.bitOr) (varE 2) (varE 3)) (varE 4)) (varE 5)) (nameT 6)) (seqS (ifS (asB (binF (eqW false) (varE 6) (retE (.int 0)))) (retS (retE (.tup [(.int 0), (.int 0), (.int 0), (.int 0), (.int 0)]))) skipS) (seqS (asgS (bltF (un2 min2W) (consL (varE 1) (consL (binF subW (methF bitsM (binF (intW Builtin.bitAnd) (varE 6) (negF (varE 6))) nilL) (retE (.int 1))) nilL))) (nameT 7)) (retS (tupF (consL (binF shrW (varE 2) (varE 7)) (consL (binF shrW (varE 3) (varE 7)) (consL (binF shrW (varE 4) (varE 7)) (consL (binF shrW (varE 5) (varE 7)) (consL (binF subW (varE 1) (varE 7)) nilL)))))))))))
def addF (i j : Nat) : SS := (seqS (exprS (callF i (c2 i) (consL (varE 0) (consL (retE (.str ("x" : Str))) nilL)) nilL)) (seqS (exprS (callF i (c2 i) (consL (varE 1) (consL (retE (.str ("y" : Str))) nilL)) nilL)) (seqS (asgS (bltF (un2 max2W) (consL (binF subW' (varE 0) (retE (.int 4))) (consL (binF subW' (varE 1) (retE (.int 4))) nilL))) (nameT 2)) (seqS (asgS (binF subW (varE 2) (binF subW' (varE 0) (retE (.int 4)))) (nameT 3)) (seqS (asgS (binF subW (varE 2) (binF subW' (varE 1) (retE (.int 4)))) (nameT 4)) (retS (callF j (c2 j) (consL (lcF [5] (rngI rng1 (consL (retE (.int 4)) nilL)) (nameC 5) yesT (binF addW (binF shlW (binF subW' (varE 0) (varE 5)) (varE 3)) (binF shlW (binF subW' (varE 1) (varE 5)) (varE 4)))) (consL (varE 2) nilL)) nilL)))))))
def mulB : SS := (ifS (asB (binF ltW (binF addW (varE 3) (varE 4)) (retE (.int 4)))) (augSubS iaddW (varE 2) (binF addW (varE 3) (varE 4)) (binF mulW (binF subW' (varE 0) (varE 3)) (binF subW' (varE 1) (varE 4)))) (augSubS (intW (· - ·)) (varE 2) (binF subW (binF addW (varE 3) (varE 4)) (retE (.int 4))) (binF mulW (binF subW' (varE 0) (varE 3)) (binF subW' (varE 1) (varE 4)))))
def multiplyF (i j : Nat) : SS := (seqS (exprS (callF i (c2 i) (consL (varE 0) (consL (retE (.str ("x" : Str))) nilL)) nilL)) (seqS (exprS (callF i (c2 i) (consL (varE 1) (consL (retE (.str ("y" : Str))) nilL)) nilL)) (seqS (asgS (lstF (consL (retE (.int 0)) (consL (retE (.int 0)) (consL (retE (.int 0)) (consL (retE (.int 0)) nilL))))) (nameT 2)) (seqS (forS (rngI rng1 (consL (retE (.int 4)) nilL)) (nameT 3) (forS (rngI rng1 (consL (retE (.int 4)) nilL)) (nameT 4) mulB)) (retS (callF j (c2 j) (consL (varE 2) (consL (binF addW (binF subW' (varE 0) (retE (.int 4))) (binF subW' (varE 1) (retE (.int 4)))) nilL)) nilL))))))
def conjugatedF (i : Nat) : SS := (seqS (exprS (callF i (c2 i) (consL (varE 0) (consL (retE (.str ("x" : Str))) nilL)) nilL)) (seqS (asgS (varE 0) (tupT 5 (consG (nameT 1) (consG (nameT 2) (consG (nameT 3) (consG (nameT 4) (consG (nameT 5) nilG))))))) (retS (tupF (consL (varE 1) (consL (negF (varE 4)) (consL (negF (varE 3)) (consL (negF (varE 2)) (consL (varE 5) nilL)))))))))
/-! ### a def by what it does -/
structure IsFn (d : FnD) (F : SS) (n p : Nat) : Prop where
  F : d.F = F
  N : d.N.length = n
  p : d.ps.length = p
theorem callD_of {d : FnD} {F : SS} {n p : Nat} (h : IsFn d F n p) {Φ : Phi} {args : List W} {st : Store} (hl : args.length = p) : callD d Φ args st = trimO st (endO (F Φ (args.map some ++ List.replicate (n - p) none) st)) := by
  unfold callD
  rw [if_pos (by rw [h.p]; exact hl), h.F]
  congr 3
  unfold env0
  rw [h.N, hl]
/-- .. where a plain value comes back and the store has only grown -/
theorem callD_rt {d : FnD} {F : SS} {n p : Nat} (h : IsFn d F n p) {Φ : Phi} {args : List W} {st g : Store} {w : W} (hl : args.length = p) (hw : refsLt 0 w = true) (e : F Φ (args.map some ++ List.replicate (n - p) none) st = .rt w (st ++ g)) : callD d Φ args st = .ok w st := by
  rw [callD_of h hl, e, endO_rt]
  exact trimO_app0 _ _ _ (refsLt_mono (Nat.zero_le _) w hw)
theorem callD_nx {d : FnD} {F : SS} {n p : Nat} (h : IsFn d F n p) {Φ : Phi} {args : List W} {st g : Store} {env : Zf.Env} (hl : args.length = p) (e : F Φ (args.map some ++ List.replicate (n - p) none) st = .nx env (st ++ g)) : callD d Φ args st = .ok .non st := by
  rw [callD_of h hl, e, endO_nx]
  exact trimO_app0 _ _ _ rfl
abbrev Fu := List W → Store → Out W
abbrev SpWhole (f : Fu) : Prop := ∀ (z : Int) (st : Store), f [.int z] st = .ok (.bl true) st
abbrev SpNumber (f : Fu) : Prop := ∀ (n : Nm) (st : Store), n.Ok → n.k ≤ 4000 → f [nv n] st = .ok (.bl true) st
abbrev SpNeed (f : Fu) : Prop := ∀ (n : Nm) (x : Str) (st : Store), n.Ok → n.k ≤ 4000 → f [nv n, .str x] st = .ok .non st
abbrev SpLow (f : Fu) : Prop := ∀ (q : Q4) (k n : Nat) (st : Store), st[n]? = some (.lst (qv q)) → f [.ref n, .int (k : Int)] st = .ok (nv (low q k)) st
abbrev SpAdd (f : Fu) : Prop := ∀ (m n : Nm) (B K : Nat) (st : Store), m.In B K → n.In B K → K ≤ 4000 → B ≤ 900000 → f [nv m, nv n] st = .ok (nv (nadd m n)) st
abbrev SpMul (f : Fu) : Prop := ∀ (m n : Nm) (B K : Nat) (st : Store), m.In B K → n.In B K → K ≤ 4000 → B ≤ 400000 → f [nv m, nv n] st = .ok (nv (nmul m n)) st
abbrev SpCj (f : Fu) : Prop := ∀ (n : Nm) (st : Store), n.Ok → n.k ≤ 4000 → f [nv n] st = .ok (nv (ncj n)) st
theorem nv_lt (n : Nm) : refsLt 0 (nv n) = true := rfl
section
variable {d : FnD} {Φ : Phi}
theorem whole_sp {G : Glb} (h : IsFn d (wholeF G) 1 1) : SpWhole (callD d Φ) := fun z st => by
  refine callD_rt h rfl rfl (g := []) ?_
  rw [List.append_nil]
  unfold wholeF
  simp [Ty.sub]
theorem par4 (a b c d : Int) : (Builtin.bitAnd (Builtin.bitOr (Builtin.bitOr (Builtin.bitOr a b) c) d) 1 == 1) = (a % 2 == 1 || b % 2 == 1 || c % 2 == 1 || d % 2 == 1) := by
  rw [PyProof.Rows.bitAnd_m1, Bool.eq_iff_iff]
  simp only [beq_iff_eq, Bool.or_eq_true]
  rw [or_par, or_par, or_par]
theorem ok_odd {n : Nm} (h : n.Ok) (hk : n.k ≠ 0) : (n.q.a % 2 == 1 || n.q.b % 2 == 1 || n.q.c % 2 == 1 || n.q.d % 2 == 1) = true := by
  rcases h with h | h
  · exact absurd h hk
  · rw [← Bool.not_eq_true, Q4.ev_iff] at h
    simp only [Bool.or_eq_true, beq_iff_eq]
    omega
theorem number_sp {G : Glb} {i : Nat} (h : IsFn d (numberF G i) 7 1) (hw : SpWhole (Φ i)) : SpNumber (callD d Φ) := fun n st hn hk => by
  refine callD_rt h rfl rfl (g := [.lst [.bl true, .bl true, .bl true, .bl true, .bl true]]) ?_
  have lc := lcL_map (st := st) (g := []) (w := nv n) (ws := [.int n.q.a, .int n.q.b, .int n.q.c, .int n.q.d, .int (n.k : Int)]) (i := 6) (c := yesT Φ) (e := callF i (c1 i) (consL (varE 6) nilL) nilL Φ) (env := [some (nv n), none, none, none, none, none, none]) (fun w => .bl true) (fun _ => true) (fun acc => nowW_tup _ _) (by show 5 ≤ slBound; decide) (fun x hx acc => rfl) (fun x hx _ acc => by
    simp only [List.mem_cons, List.not_mem_nil, or_false] at hx
    rcases hx with rfl | rfl | rfl | rfl | rfl <;> simp [c1, pick, hw])
  simp at lc
  have hall : allW (.ref st.length) (st ++ [.lst [.bl true, .bl true, .bl true, .bl true, .bl true]]) = some (.bl true, st ++ [.lst [.bl true, .bl true, .bl true, .bl true, .bl true]]) := by
    simp [allW, lstOf, blsW]
  have h0 : ¬ ((n.k : Int) < 0) := by omega
  have h1 : ¬ ((4000 : Int) < (n.k : Int)) := by omega
  have e0 : nv n = .tup [.int n.q.a, .int n.q.b, .int n.q.c, .int n.q.d, .int (n.k : Int)] := rfl
  rw [e0] at lc ⊢
  unfold numberF
  by_cases h2 : n.k = 0
  · have h2' : ((n.k : Int) == 0) = true := by simp; omega
    simp [List.replicate, Ty.sub, wipeE, lc, hall, h0, h1, h2']
  · have h2' : ((n.k : Int) == 0) = false := by simp; omega
    have hp := ok_odd hn h2
    simp [List.replicate, Ty.sub, wipeE, lc, hall, h0, h1, h2', par4, hp]
theorem need_sp {i : Nat} {R : SS} (h : IsFn d (needF i R) 2 2) (hn : SpNumber (Φ i)) : SpNeed (callD d Φ) := fun n x st ho hk => by
  refine callD_nx h rfl (g := []) (env := [some (nv n), some (.str x)]) ?_
  rw [List.append_nil]
  unfold needF
  simp [c1, pick, hn n st ho hk]
theorem shrW_nat {a : Int} {h : Nat} {st : Store} : shrW (.int a) (.int (h : Int)) st = some (.int (a / P2 h), st) := by
  simp only [shrW]
  rw [if_pos (by omega)]
  rfl
theorem low_sp (h : IsFn d lowestF 8 2) : SpLow (callD d Φ) := fun q k n st hs => by
  refine callD_rt h rfl rfl (g := []) ?_
  rw [List.append_nil]
  have hq : seqOf (.ref n) st = some (qv q) := by simp [seqOf, hs]
  have hu : Builtin.bitOr (Builtin.bitOr (Builtin.bitOr q.a q.b) q.c) q.d = un q := rfl
  unfold lowestF
  by_cases h0 : un q = 0
  · have e := un_zero h0
    have e2 : nv (low q k) = .tup [.int 0, .int 0, .int 0, .int 0, .int 0] := by rw [e, low_zero]; rfl
    rw [e2]
    simp [List.replicate, hq, qv, hu, h0]
  · obtain ⟨t, h1, h2⟩ := low_un h0 k
    have h0' : (un q == 0) = false := by simpa using h0
    have hm : (if (t : Int) < (k : Int) then (t : Int) else (k : Int)) = ((min k t : Nat) : Int) := by
      by_cases hh : t < k
      · rw [if_pos (by omega)]; congr 1; omega
      · rw [if_neg (by omega)]; congr 1; omega
    have hb : ∀ {st : Store}, (kdOf (.int (Builtin.bitAnd (un q) (-un q))) st).bind bitsM = some bitsL := fun {st} => rfl
    have hb2 : ∀ {st : Store}, bitsL (.int (Builtin.bitAnd (un q) (-un q))) [] st = some (.int ((t : Int) + 1), st) := fun {st} => by
      simp only [bitsL, h1]
      rfl
    have hmin : ∀ {st : Store}, un2 min2W [.int (k : Int), .int (t : Int)] st = some (.int ((min k t : Nat) : Int), st) := fun {st} => by
      simp only [un2, min2W, hm]
    have hk : (k : Int) - ((min k t : Nat) : Int) = ((k - min k t : Nat) : Int) := by omega
    rw [h2]
    simp only [nv]
    rw [← hk]
    generalize ((min k t : Nat)) = m at hmin
    simp [List.replicate, hq, qv, hu, h0', hb, hb2, hmin, shrW_nat, slBound]
theorem cj_sp {i : Nat} (h : IsFn d (conjugatedF i) 6 1) (hn : SpNeed (Φ i)) : SpCj (callD d Φ) := fun n st ho hk => by
  refine callD_rt h rfl rfl (g := []) ?_
  rw [List.append_nil]
  have hn := fun x => hn n x st ho hk
  unfold conjugatedF
  simp only [nv] at hn ⊢
  simp [List.replicate, c2, pick, hn, slBound, ncj, Q4.cj]
end
end Ex
namespace Ex
open PySem L2 Zf Ar
/-- the i-th coefficient -/
def cf (q : Q4) : Nat → Int
  | 0 => q.a
  | 1 => q.b
  | 2 => q.c
  | _ => q.d
theorem nv_at {n : Nm} {i : Nat} {st : Store} (h : i < 4) : subW' (nv n) (.int (i : Int)) st = some (.int (cf n.q i), st) := by
  simp only [nv, subW']
  rw [Zf.atI_nat (by show i < 5; omega)]
  match i, h with
  | 0, _ => rfl
  | 1, _ => rfl
  | 2, _ => rfl
  | 3, _ => rfl
theorem nv_at4 {n : Nm} {st : Store} : subW' (nv n) (.int 4) st = some (.int (n.k : Int), st) := rfl
theorem cf_lt {q : Q4} {B : Nat} (h : q.Lt B) (i : Nat) : (cf q i).natAbs < 2 ^ B := by
  match i with
  | 0 => exact h.1
  | 1 => exact h.2.1
  | 2 => exact h.2.2.1
  | i + 3 => exact h.2.2.2
theorem shlW_ok {i : Int} {m B : Nat} {st : Store} (h : i.natAbs < 2 ^ B) (hB : B ≤ 1000000) (hm : m ≤ 1000000) : shlW (.int i) (.int (m : Int)) st = some (.int (P2 m * i), st) := by
  simp only [shlW]
  rw [if_pos ⟨by omega, by omega, Nat.lt_of_lt_of_le h (Nat.pow_le_pow_right (by decide) hB)⟩]
  congr 3
  rw [Int.mul_comm]
  rfl
theorem max2_nat {a b : Nat} {st : Store} : un2 max2W [.int (a : Int), .int (b : Int)] st = some (.int ((max a b : Nat) : Int), st) := by
  simp only [un2, max2W]
  congr 3
  by_cases h : (b : Int) > (a : Int)
  · rw [if_pos h]; congr 1; omega
  · rw [if_neg h]; congr 1; omega
theorem rng_4 : rng1 [.int 4] = some (.rng 0 1 4) := rfl
section
variable {d : FnD} {Φ : Phi}
theorem add_sp {i j : Nat} (h : IsFn d (addF i j) 6 2) (hn : SpNeed (Φ i)) (hl : SpLow (Φ j)) : SpAdd (callD d Φ) := fun m n B K st hm hn' hK hB => by
  obtain ⟨M, hM⟩ : ∃ M, M = max m.k n.k := ⟨_, rfl⟩
  let q : Q4 := (m.q.sc (P2 (M - m.k))).add (n.q.sc (P2 (M - n.k)))
  have hMk : M ≤ K := by have := hm.k; have := hn'.k; omega
  have e1 : (M : Int) - (m.k : Int) = ((M - m.k : Nat) : Int) := by omega
  have e2 : (M : Int) - (n.k : Int) = ((M - n.k : Nat) : Int) := by omega
  have x1 := fun x => hn m x st hm.ok (by have := hm.k; omega)
  have x2 := fun x => hn n x st hn'.ok (by have := hn'.k; omega)
  refine callD_rt h rfl rfl (g := [.lst (qv q)]) ?_
  have s1 : ∀ {i : Nat} {st : Store}, shlW (.int (cf m.q i)) (.int ((M - m.k : Nat) : Int)) st = some (.int (P2 (M - m.k) * cf m.q i), st) := fun {i st} => shlW_ok (cf_lt hm.lt i) (by omega) (by omega)
  have s2 : ∀ {i : Nat} {st : Store}, shlW (.int (cf n.q i)) (.int ((M - n.k : Nat) : Int)) st = some (.int (P2 (M - n.k) * cf n.q i), st) := fun {i st} => shlW_ok (cf_lt hn'.lt i) (by omega) (by omega)
  have lc := lcL_pure (st := st) (g := []) (it := .rng 0 1 4) (t := nameC 5) (c := yesT Φ) (e := binF addW (binF shlW (binF subW' (varE 0) (varE 5)) (varE 3)) (binF shlW (binF subW' (varE 1) (varE 5)) (varE 4)) Φ) (env := [some (nv m), some (nv n), some (.int (M : Int)), some (.int ((M - m.k : Nat) : Int)), some (.int ((M - n.k : Nat) : Int)), none])
    (fun i => some (.int (cf q i))) (by show 4 ≤ slBound; decide) (fun _ => rfl) (fun i acc hi => by
      have hi : i < 4 := hi
      refine ⟨.int (i : Int), _, by simp [yldW], rfl, rfl, ?_⟩
      simp [nv_at hi, s1, s2]
      match i, hi with
      | 0, _ => rfl
      | 1, _ => rfl
      | 2, _ => rfl
      | 3, _ => rfl)
  have el : (List.range (cntW (.rng 0 1 4))).filterMap (fun i => some (W.int (cf q i))) = qv q := rfl
  rw [el] at lc
  simp only [cntW_rng] at lc
  have hlow := hl q M st.length (st ++ [.lst (qv q)]) (by simp)
  have er : nadd m n = low q M := by subst hM; rfl
  rw [er]
  unfold addF
  simp [List.replicate, c2, pick, x1, x2, nv_at4, max2_nat, ← hM, e1, e2, rng_4, wipeE, lc, hlow]
/-- one product goes to its place -/
def updP (x y : Q4) (i j : Nat) (P : List Int) : List Int := if i + j < 4 then P.set (i + j) (P.getD (i + j) 0 + cf x i * cf y j) else P.set (i + j - 4) (P.getD (i + j - 4) 0 - cf x i * cf y j)
theorem updP_len {x y : Q4} {i j : Nat} {P : List Int} (h : P.length = 4) : (updP x y i j P).length = 4 := by
  unfold updP
  split <;> simp [h]
theorem mulB_go {x y : Nm} {i j p : Nat} {P : List Int} {st : Store} (hi : i < 4) (hj : j < 4) (hP : P.length = 4) (hp : st[p]? = some (.lst (P.map .int))) (hz : (cf x.q i).natAbs.log2 + (cf y.q j).natAbs.log2 < 1000000) {o4 : Option W} :
    mulB Φ [some (nv x), some (nv y), some (.ref p), some (.int (i : Int)), some (.int (j : Int))] st = .nx [some (nv x), some (nv y), some (.ref p), some (.int (i : Int)), some (.int (j : Int))] (st.set p (.lst ((updP x.q y.q i j P).map .int))) := by
  have m1 : ∀ {st : Store}, mulW (.int (cf x.q i)) (.int (cf y.q j)) st = some (.int (cf x.q i * cf y.q j), st) := fun {st} => mulW_int hz
  have hlen : (P.map W.int).length = 4 := by rw [List.length_map, hP]
  have key : ∀ k : Nat, k < 4 → getW (.ref p) (.int (k : Int)) st = some (.int (P.getD k 0)) := fun k hk => by
    simp only [getW, hp]
    rw [Zf.atI_nat (by rw [hlen]; exact hk), List.getElem?_map]
    have : k < P.length := by omega
    simp [this]
  have key2 : ∀ (k : Nat) (z : Int), k < 4 → setW (.ref p) (.int (k : Int)) (.int z) st = some (st.set p (.lst ((P.set k z).map .int))) := fun k z hk => by
    simp only [setW, hp, ixN, hlen]
    have hk' : (k : Int) < 4 := by omega
    simp [hk', List.map_set]
  unfold mulB updP
  by_cases h : i + j < 4
  · have h1 : (i : Int) + (j : Int) < 4 := by omega
    have h2 : (i : Int) + (j : Int) = ((i + j : Nat) : Int) := by omega
    have a1 : ∀ (u v : Int) {st : Store}, iaddW (.int u) (.int v) st = some (.int (u + v), st) := fun _ _ => rfl
    rw [if_pos h]
    simp [h1, augSubS]
    rw [h2, key _ h]
    simp [nv_at hi, nv_at hj, m1, a1]
    rw [h2, key2 _ _ h]
    simp [List.map_set]
  · have h1 : ¬ (i : Int) + (j : Int) < 4 := by omega
    have h2 : (i : Int) + (j : Int) - 4 = ((i + j - 4 : Nat) : Int) := by omega
    have h3 : i + j - 4 < 4 := by omega
    rw [if_neg h]
    simp [h1, augSubS]
    rw [h2, key _ h3]
    simp [nv_at hi, nv_at hj, m1]
    rw [key2 _ _ h3]
    simp [List.map_set]
def rowP (x y : Q4) (i n : Nat) (P : List Int) : List Int := (List.range n).foldl (fun P j => updP x y i j P) P
def allP (x y : Q4) (n : Nat) : List Int := (List.range n).foldl (fun P i => rowP x y i 4 P) [0, 0, 0, 0]
theorem rowP_len {x y : Q4} {i : Nat} : ∀ {n : Nat} {P : List Int}, P.length = 4 → (rowP x y i n P).length = 4
  | 0, P, h => h
  | n + 1, P, h => by
    unfold rowP
    rw [List.range_succ, List.foldl_append]
    exact updP_len (rowP_len (n := n) h)
theorem allP_len {x y : Q4} : ∀ {n : Nat}, (allP x y n).length = 4
  | 0 => rfl
  | n + 1 => by
    unfold allP
    rw [List.range_succ, List.foldl_append]
    exact rowP_len (allP_len (n := n))
theorem allP_4 (x y : Q4) : (allP x y 4).map .int = qv (x.mul y) := by
  simp [allP, rowP, List.range, List.range.loop, updP, cf, qv, Q4.mul]
theorem mul_sp {i j : Nat} (h : IsFn d (multiplyF i j) 5 2) (hn : SpNeed (Φ i)) (hl : SpLow (Φ j)) : SpMul (callD d Φ) := fun m n B K st hm hn' hK hB => by
  have x1 := fun x => hn m x st hm.ok (by have := hm.k; omega)
  have x2 := fun x => hn n x st hn'.ok (by have := hn'.k; omega)
  have hz : ∀ i j, (cf m.q i).natAbs.log2 + (cf n.q j).natAbs.log2 < 1000000 := fun i j => log2_mul (n := B + 1) (m := B + 1) (Nat.lt_of_lt_of_le (cf_lt hm.lt i) (Nat.pow_le_pow_right (by decide) (by omega))) (Nat.lt_of_lt_of_le (cf_lt hn'.lt j) (Nat.pow_le_pow_right (by decide) (by omega))) (by omega) (by omega) (by omega)
  refine callD_rt h rfl rfl (g := [.lst (qv (m.q.mul n.q))]) ?_
  -- one row
  have row : ∀ (i : Nat) (P : List Int) (o4 : Option W), i < 4 → P.length = 4 → ∃ o4', forL (.rng 0 1 4) (nameT 4 Φ) (mulB Φ) 4 [some (nv m), some (nv n), some (.ref st.length), some (.int (i : Int)), o4] (st ++ [.lst (P.map .int)]) = .nx [some (nv m), some (nv n), some (.ref st.length), some (.int (i : Int)), o4'] (st ++ [.lst ((rowP m.q n.q i 4 P).map .int)]) := fun i P o4 hi hP => by
    obtain ⟨env', st', e1, o4', e2, e3⟩ := forL_word (it := .rng 0 1 4) (t := nameT 4 Φ) (b := mulB Φ) (fun j env s => ∃ o4, env = [some (nv m), some (nv n), some (.ref st.length), some (.int (i : Int)), o4] ∧ s = st ++ [.lst ((rowP m.q n.q i j P).map .int)]) (fun _ _ _ => rfl) (fun j env s hj ⟨o, e1, e2⟩ => by
      have hj : j < 4 := hj
      subst e1 e2
      refine ⟨.int (j : Int), _, _, by simp [yldW], rfl, _, _, .inl (mulB_go (P := rowP m.q n.q i j P) hi hj (rowP_len hP) (by simp) (hz i j) (o4 := none)), some (.int (j : Int)), rfl, ?_⟩
      rw [List.set_append_right _ _ (Nat.le_refl _), Nat.sub_self]
      simp [rowP, List.range_succ])
      (env := [some (nv m), some (nv n), some (.ref st.length), some (.int (i : Int)), o4]) (st := st ++ [.lst (P.map .int)]) ⟨o4, rfl, rfl⟩
    subst e2 e3
    exact ⟨o4', e1⟩
  obtain ⟨env', st', f1, o3, o4, f2, f3⟩ := forL_word (it := .rng 0 1 4) (t := nameT 3 Φ) (b := forS (rngI rng1 (consL (retE (.int 4)) nilL)) (nameT 4) mulB Φ) (fun i env s => ∃ o3 o4, env = [some (nv m), some (nv n), some (.ref st.length), o3, o4] ∧ s = st ++ [.lst ((allP m.q n.q i).map .int)]) (fun _ _ _ => rfl) (fun i env s hi ⟨o3, o4, e1, e2⟩ => by
      have hi : i < 4 := hi
      subst e1 e2
      obtain ⟨o4', e⟩ := row i (allP m.q n.q i) o4 hi allP_len
      refine ⟨.int (i : Int), _, _, by simp [yldW], rfl, [some (nv m), some (nv n), some (.ref st.length), some (.int (i : Int)), o4'], _, .inl ?_, some (.int (i : Int)), o4', rfl, rfl⟩
      simp [rng_4, e]
      simp [allP, List.range_succ])
      (env := [some (nv m), some (nv n), some (.ref st.length), none, none]) (st := st ++ [.lst [.int 0, .int 0, .int 0, .int 0]]) ⟨none, none, rfl, rfl⟩
  subst f2 f3
  simp only [cntW_rng, allP_4] at f1
  have hlow := hl (m.q.mul n.q) (m.k + n.k) st.length (st ++ [.lst (qv (m.q.mul n.q))]) (by simp)
  have er : nmul m n = low (m.q.mul n.q) (m.k + n.k) := rfl
  have ek : (m.k : Int) + (n.k : Int) = ((m.k + n.k : Nat) : Int) := by omega
  have hf : forS (rngI rng1 (consL (retE (.int 4)) nilL)) (nameT 3) (forS (rngI rng1 (consL (retE (.int 4)) nilL)) (nameT 4) mulB) Φ [some (nv m), some (nv n), some (.ref st.length), none, none] (st ++ [.lst [.int 0, .int 0, .int 0, .int 0]]) = .nx [some (nv m), some (nv n), some (.ref st.length), o3, o4] (st ++ [.lst (qv (m.q.mul n.q))]) := by
    rw [forS_]
    simp only [rngI_, consL_, retE_, nilL_, Out.bind_ok', rng_4, Out.toS_ok, cntW_rng]
    exact f1
  rw [← ek] at hlow
  rw [er]
  unfold multiplyF
  generalize forS (rngI rng1 (consL (retE (.int 4)) nilL)) (nameT 3) (forS (rngI rng1 (consL (retE (.int 4)) nilL)) (nameT 4) mulB) = F at hf
  simp [List.replicate, c2, pick, x1, x2, slBound, hf, nv_at4, hlow]
end
end Ex
/-! the law's own arithmetic -/
namespace Ex
open PySem L2 Zf Ar
def oddW : W → Bool
  | .int i => i % 2 == 1
  | _ => false
def halfW : W → W
  | .int i => .int (i / 2)
  | w => w
theorem odd_empty (q : Q4) : ((qv q).filter oddW).isEmpty = q.ev := by
  have e : q.ev = !(q.a % 2 == 1 || q.b % 2 == 1 || q.c % 2 == 1 || q.d % 2 == 1) := by
    rw [Bool.eq_iff_iff, Q4.ev_iff]
    simp only [Bool.not_eq_true', Bool.or_eq_false_iff, beq_eq_false_iff_ne]
    omega
  rw [e]
  unfold qv
  cases ha : (q.a % 2 == 1) <;> cases hb : (q.b % 2 == 1) <;> cases hc : (q.c % 2 == 1) <;> cases hd : (q.d % 2 == 1) <;> simp [List.filter_cons, oddW, ha, hb, hc, hd]
def llowC : ST := (andT (asB (binF gtW (varE 1) (retE (.int 0)))) (asB (binF (eqW false) (lcF [2] (valI (varE 0)) (nameC 2) (asB (binF (eqW false) (binF modW (varE 2) (retE (.int 2))) (retE (.int 1)))) (varE 2)) (lstF nilL))))
def llowB : SS := (parS2 0 1 (consL (lcF [2] (valI (varE 0)) (nameC 2) yesT (binF divW (varE 2) (retE (.int 2)))) (consL (binF subW (varE 1) (retE (.int 1))) nilL)))
def llowF : SS := (seqS (whileS llowC llowB) (retS (binF addW (bltF (un1 tupleW) (consL (varE 0) nilL)) (tupF (consL (varE 1) nilL)))))
section
variable {d : FnD} {Φ : Phi}
theorem qv_len (q : Q4) : (qv q).length = 4 := rfl
theorem qv_mem {q : Q4} {x : W} (h : x ∈ qv q) : ∃ i : Int, x = .int i := by
  simp only [qv, List.mem_cons, List.not_mem_nil, or_false] at h
  rcases h with rfl | rfl | rfl | rfl <;> exact ⟨_, rfl⟩
theorem nowW_ref4 {n : Nat} {q : Q4} {st : Store} (h : st[n]? = some (.lst (qv q))) : nowW (.ref n) 4 st = some (qv q) := nowW_ref (ws := qv q) h
theorem llow_c {q : Q4} {k n : Nat} {st : Store} {o : Option W} (h : st[n]? = some (.lst (qv q))) : llowC Φ [some (.ref n), some (.int ((k + 1 : Nat) : Int)), o] st = .ok q.ev (st ++ [.lst ((qv q).filter oddW), .lst []]) := by
  have lc := lcL_map (st := st) (g := []) (w := .ref n) (ws := qv q) (i := 2) (c := asB (binF (eqW false) (binF modW (varE 2) (retE (.int 2))) (retE (.int 1))) Φ) (e := varE 2 Φ) (env := [some (.ref n), some (.int ((k + 1 : Nat) : Int)), none]) id oddW (fun acc => nowW_ref (app_ext _ _ h)) (show 4 ≤ slBound by decide) (fun x hx acc => by
    obtain ⟨i, rfl⟩ := qv_mem hx
    have hm : ∀ {st : Store}, modW (.int i) (.int 2) st = some (.int (i % 2), st) := modW_int (by decide)
    simp [hm, oddW]) (fun x hx _ acc => by simp)
  rw [List.map_id, qv_len] at lc
  have he := eqW_nil (neg := false) (n := st.length) (m := st.length + 1) (ws := (qv q).filter oddW) (st := st ++ [.lst ((qv q).filter oddW), .lst []]) (by simp) (by simp)
  rw [odd_empty] at he
  have hs : seqOf (.ref n) st = some (qv q) := by simp [seqOf, h]
  have hk : (0 : Int) < ((k + 1 : Nat) : Int) := by omega
  unfold llowC
  generalize (((k + 1 : Nat)) : Int) = K at *
  simp [hk, hs, qv_len, wipeE, lc, slBound, he]
theorem llow_b {q : Q4} {k n : Nat} {st : Store} {o : Option W} (h : st[n]? = some (.lst (qv q))) : llowB Φ [some (.ref n), some (.int ((k + 1 : Nat) : Int)), o] st = .nx [some (.ref st.length), some (.int (k : Int)), o] (st ++ [.lst (qv q.half)]) := by
  have lc := lcL_map (st := st) (g := []) (w := .ref n) (ws := qv q) (i := 2) (c := yesT Φ) (e := binF divW (varE 2) (retE (.int 2)) Φ) (env := [some (.ref n), some (.int ((k + 1 : Nat) : Int)), none]) halfW (fun _ => true) (fun acc => nowW_ref (app_ext _ _ h)) (show 4 ≤ slBound by decide) (fun x hx acc => rfl) (fun x hx _ acc => by
    obtain ⟨i, rfl⟩ := qv_mem hx
    have hm : ∀ {st : Store}, divW (.int i) (.int 2) st = some (.int (i / 2), st) := divW_int (by decide) (by decide)
    simp [hm, halfW])
  rw [List.filter_eq_self.mpr fun _ _ => rfl, qv_len] at lc
  have e1 : (qv q).map halfW = qv q.half := rfl
  rw [e1] at lc
  have hs : seqOf (.ref n) st = some (qv q) := by simp [seqOf, h]
  have hk : ((k + 1 : Nat) : Int) - 1 = (k : Int) := by omega
  unfold llowB
  generalize (((k + 1 : Nat)) : Int) = K at *
  simp [hk, hs, qv_len, wipeE, lc]
theorem llow_w : ∀ (k fuel : Nat) (q : Q4) (n : Nat) (o : Option W) (st : Store), k < fuel → st[n]? = some (.lst (qv q)) → ∃ (n' : Nat) (o' : Option W) (g : Store), whileL (llowC Φ) (llowB Φ) fuel [some (.ref n), some (.int (k : Int)), o] st = .nx [some (.ref n'), some (.int ((low q k).k : Int)), o'] (st ++ g) ∧ (st ++ g)[n']? = some (.lst (qv (low q k).q))
  | 0, fuel + 1, q, n, o, st, _, h => by
    refine ⟨n, o, [], ?_, by rw [List.append_nil]; exact h⟩
    rw [List.append_nil]
    simp only [whileL, llowC, andT_, asB_, binF_, varE_]
    simp [low]
  | k + 1, fuel + 1, q, n, o, st, hf, h => by
    have c := llow_c (Φ := Φ) (k := k) (o := o) h
    simp only [whileL]
    rw [c]
    by_cases he : q.ev = true
    · have h2 : (st ++ [.lst ((qv q).filter oddW), .lst []])[n]? = some (.lst (qv q)) := app_ext _ _ h
      have b := llow_b (Φ := Φ) (k := k) (o := o) h2
      obtain ⟨n', o', g, e1, e2⟩ := llow_w k fuel q.half (st ++ [SO.lst ((qv q).filter oddW), .lst []]).length o ((st ++ [SO.lst ((qv q).filter oddW), .lst []]) ++ [SO.lst (qv q.half)]) (by omega) (by simp)
      refine ⟨n', o', ([SO.lst ((qv q).filter oddW), .lst [], .lst (qv q.half)] ++ g : List SO), ?_, ?_⟩
      · simp only [he, Out.toS_ok, if_true]
        rw [b]
        dsimp only
        rw [e1]
        simp only [low, he, if_true]
        simp
      · simp only [low, he, if_true]
        rw [← e2]
        simp
    · refine ⟨n, o, [.lst ((qv q).filter oddW), .lst []], ?_, ?_⟩
      · have he : q.ev = false := by simpa using he
        simp [he, low]
      · simp only [low, if_neg he]
        exact app_ext _ _ h
theorem llow_sp (h : IsFn d llowF 3 2) {q : Q4} {k n : Nat} {st : Store} (hk : k < 1000000000) (hs : st[n]? = some (.lst (qv q))) : callD d Φ [.ref n, .int (k : Int)] st = .ok (nv (low q k)) st := by
  obtain ⟨n', o', g, e1, e2⟩ := llow_w (Φ := Φ) k turns q n none st (by unfold turns; omega) hs
  refine callD_rt h rfl rfl (g := g) ?_
  have hs2 : seqOf (.ref n') (st ++ g) = some (qv (low q k).q) := by simp [seqOf, e2]
  have ht : tupleW (.ref n') (st ++ g) = some (.tup (qv (low q k).q), st ++ g) := by simp only [tupleW, hs2]
  have hw : whileS llowC llowB Φ [some (.ref n), some (.int (k : Int)), none] st = .nx [some (.ref n'), some (.int ((low q k).k : Int)), o'] (st ++ g) := e1
  have ha : ∀ {st : Store}, addW (.tup (qv (low q k).q)) (.tup [.int ((low q k).k : Int)]) st = some (nv (low q k), st) := addW_tup (show 5 ≤ slBound by decide)
  unfold llowF
  simp [-whileS_, List.replicate, hw, ht, slBound, ha]
/-! ### equal numbers -/
theorem datum_nv {n : Nm} {st : Store} : datum st (nv n) = some (.tuple [.int n.q.a, .int n.q.b, .int n.q.c, .int n.q.d, .int (n.k : Int)]) := by
  simp [datum, nv, toD, toDs]
theorem eqW_nv {neg : Bool} {m n : Nm} {st : Store} (h : m = n) : eqW neg (nv m) (nv n) st = some (.bl (true != neg), st) := by
  subst h
  refine eqW_D rfl ?_
  simp only [eqD, datum_nv]
  rw [if_pos (by simp [SeqAt.shaped, PyData.canLay0, PyData.canLayAll0, PyData.depth, PyData.depthAll])]
  simp [PyData.eqv, PyData.eqvAll]
theorem Dk_nv {n : Nm} {st : Store} {k : Nat} : Dk st k (nv n) (.tuple [.int n.q.a, .int n.q.b, .int n.q.c, .int n.q.d, .int (n.k : Int)]) := Dk.tup (.cons .int (.cons .int (.cons .int (.cons .int (.cons .int .nil)))))
theorem Fd_nv {n : Nm} {B K : Nat} (h : n.In B K) (hB : B ≤ 1919) (hK : K ≤ 4000) : Fd 10000 1 (.tuple [.int n.q.a, .int n.q.b, .int n.q.c, .int n.q.d, .int (n.k : Int)]) := by
  refine (Fd.tuple (M := 1921) (e := 0) (n := 5) (fun d hd => ?_) (by simp)).mono (by omega) (by omega)
  have key : ∀ i : Int, i.natAbs < 2 ^ B → i.natAbs.log2 < 1920 := fun i hi => by
    by_cases h0 : i.natAbs = 0
    · rw [h0]; decide
    · have := (Nat.log2_lt h0).mpr hi
      omega
  simp only [List.mem_cons, List.not_mem_nil, or_false] at hd
  rcases hd with rfl | rfl | rfl | rfl | rfl
  · exact .int (by decide) (key _ h.lt.1)
  · exact .int (by decide) (key _ h.lt.2.1)
  · exact .int (by decide) (key _ h.lt.2.2.1)
  · exact .int (by decide) (key _ h.lt.2.2.2)
  · refine .int (by decide) ?_
    have hk := h.k
    have : ((n.k : Int)).natAbs < 2 ^ 12 := by
      rw [Int.natAbs_natCast]; omega
    by_cases h0 : ((n.k : Int)).natAbs = 0
    · rw [h0]; decide
    · have := (Nat.log2_lt h0).mpr this
      omega
end
end Ex
/-! scalars -/
namespace Ar
def Q4.rot (q : Q4) : Q4 := ⟨-q.d, q.a, q.b, q.c⟩
def rotN : Nat → Q4 → Q4
  | 0, q => q
  | n + 1, q => (rotN n q).rot
theorem rotN_add (m n : Nat) (q : Q4) : rotN m (rotN n q) = rotN (m + n) q := by
  induction m with
  | zero => rw [Nat.zero_add]; rfl
  | succ m ih => rw [Nat.succ_add]; simp only [rotN, ih]
theorem rot4 (q : Q4) : rotN 4 q = q.sc (-1) := by
  apply Q4.ext' <;> simp [rotN, Q4.rot, Q4.sc]
theorem rot8 (q : Q4) : rotN 8 q = q := by
  apply Q4.ext' <;> simp [rotN, Q4.rot]
theorem rot_mod : ∀ (n : Nat) (q : Q4), rotN (n % 8) q = rotN n q := by
  intro n
  induction n using Nat.strongRecOn with
  | _ n ih =>
    intro q
    by_cases h : n < 8
    · rw [Nat.mod_eq_of_lt h]
    · have e : n = (n - 8) + 8 := by omega
      have h1 := ih (n - 8) (by omega) q
      have h2 : n % 8 = (n - 8) % 8 := by omega
      rw [h2, h1]
      have h3 := rotN_add (n - 8) 8 q
      rw [rot8] at h3
      rw [h3]
      congr 1
      omega
theorem rot_sc (m : Int) (q : Q4) : (q.sc m).rot = q.rot.sc m := by
  apply Q4.ext' <;> simp [Q4.rot, Q4.sc, Int.mul_neg]
theorem rotN_sc (m : Int) (q : Q4) : ∀ n, rotN n (q.sc m) = (rotN n q).sc m
  | 0 => rfl
  | n + 1 => by simp only [rotN, rotN_sc m q n, rot_sc]
theorem rot_mul (x y : Q4) : x.rot.mul y = (x.mul y).rot := by
  apply Q4.ext' <;> simp only [Q4.rot, Q4.mul] <;> grind
theorem rotN_mul (x y : Q4) : ∀ n, (rotN n x).mul y = rotN n (x.mul y)
  | 0 => rfl
  | n + 1 => by simp only [rotN, rot_mul, rotN_mul x y n]
theorem rotN_mul2 (x y : Q4) (m n : Nat) : (rotN m x).mul (rotN n y) = rotN (m + n) (x.mul y) := by
  rw [rotN_mul, Q4.mul_comm, rotN_mul, rotN_add, Q4.mul_comm]
/-- 1 or sqrt 2 -/
def q0 (k : Int) : Q4 := if k % 2 = 1 then ⟨0, 1, 0, -1⟩ else ⟨1, 0, 0, 0⟩
theorem q0_mul (k l : Int) : (q0 k).mul (q0 l) = if k % 2 = 1 ∧ l % 2 = 1 then (Q4.mk 1 0 0 0).sc 2 else q0 (k + l) := by
  unfold q0
  by_cases h1 : k % 2 = 1 <;> by_cases h2 : l % 2 = 1
  · rw [if_pos h1, if_pos h2, if_pos ⟨h1, h2⟩]; rfl
  · rw [if_pos h1, if_neg h2, if_neg (fun c => h2 c.2), if_pos (by omega)]; rfl
  · rw [if_neg h1, if_pos h2, if_neg (fun c => h1 c.1), if_pos (by omega)]; rfl
  · rw [if_neg h1, if_neg h2, if_neg (fun c => h1 c.1), if_neg (by omega)]; rfl
/-- the value of a scalar -/
def sv (k : Int) (j : Nat) : Nm := if k / 2 < 0 then ⟨rotN j (q0 k), (-(k / 2)).toNat⟩ else ⟨(rotN j (q0 k)).sc (P2 (k / 2).toNat), 0⟩
theorem rot_ev (q : Q4) : q.rot.ev = q.ev := by
  rw [Bool.eq_iff_iff, Q4.ev_iff, Q4.ev_iff]
  simp only [Q4.rot]
  omega
theorem rotN_ev (q : Q4) : ∀ n, (rotN n q).ev = q.ev
  | 0 => rfl
  | n + 1 => by simp only [rotN, rot_ev, rotN_ev q n]
theorem q0_ev (k : Int) : (q0 k).ev = false := by
  unfold q0; split <;> rfl
theorem sv_ok (k : Int) (j : Nat) : (sv k j).Ok := by
  unfold sv
  split
  · exact .inr (by rw [rotN_ev, q0_ev])
  · exact .inl rfl
theorem rot_lt {q : Q4} {n : Nat} (h : q.Lt n) : q.rot.Lt n := by
  obtain ⟨h1, h2, h3, h4⟩ := h
  exact ⟨by simp only [Q4.rot, Int.natAbs_neg]; exact h4, h1, h2, h3⟩
theorem rotN_lt {q : Q4} {n : Nat} (h : q.Lt n) : ∀ m, (rotN m q).Lt n
  | 0 => h
  | m + 1 => rot_lt (rotN_lt h m)
theorem q0_lt (k : Int) : (q0 k).Lt 1 := by
  unfold q0; split <;> (unfold Q4.Lt; decide)
theorem sv_in {k : Int} {j : Nat} (h1 : -2000 ≤ k) (h2 : k ≤ 2000) : (sv k j).In 1001 1000 := by
  refine ⟨sv_ok k j, ?_, ?_⟩
  · unfold sv
    split
    · exact (rotN_lt (q0_lt k) j).mono (by omega)
    · exact (sc_lt (rotN_lt (q0_lt k) j)).mono (by omega)
  · unfold sv
    split
    · dsimp only; omega
    · exact Nat.zero_le _
/-- its value over 2^K -/
theorem V_sv {k : Int} {j K : Nat} (h : -(K : Int) ≤ k / 2) : V K (sv k j) = (rotN j (q0 k)).sc (P2 ((K : Int) + k / 2).toNat) := by
  unfold V sv
  split
  · dsimp only
    congr 2
    omega
  · dsimp only
    rw [Q4.sc_sc, ← P2_add]
    congr 2
    omega
theorem sv_k {k : Int} {j K : Nat} (h : -(K : Int) ≤ k / 2) : (sv k j).k ≤ K := by
  unfold sv
  split
  · dsimp only; omega
  · exact Nat.zero_le _
theorem sv_mul (k l : Int) (i j : Nat) : nmul (sv k i) (sv l j) = sv (k + l) ((i + j) % 8) := by
  obtain ⟨K, h1, h2⟩ : ∃ K : Nat, -(K : Int) ≤ k / 2 ∧ -(K : Int) ≤ l / 2 := ⟨k.natAbs + l.natAbs + 1, by omega, by omega⟩
  have h3 : -((K + K : Nat) : Int) ≤ (k + l) / 2 := by omega
  refine V_inj (K := K + K) (nmul_ok _ _) (sv_ok _ _) (nmul_k (sv_k h1) (sv_k h2)) (sv_k h3) ?_
  rw [V_mul (sv_k h1) (sv_k h2), V_sv h1, V_sv h2, V_sv h3, ← Q4.sc_mul, rotN_mul2, q0_mul, ← P2_add, rot_mod]
  by_cases hc : k % 2 = 1 ∧ l % 2 = 1
  · rw [if_pos hc, rotN_sc, Q4.sc_sc]
    have e1 : q0 (k + l) = ⟨1, 0, 0, 0⟩ := by unfold q0; rw [if_neg (by omega)]
    rw [e1, Int.mul_comm _ 2, ← P2_succ]
    congr 2
    omega
  · rw [if_neg hc]
    congr 2
    omega
theorem cj_rot (q : Q4) : q.rot.cj = rotN 7 q.cj := by
  apply Q4.ext' <;> simp [rotN, Q4.rot, Q4.cj]
theorem cj_q0 (k : Int) : (q0 k).cj = q0 k := by
  unfold q0; split <;> rfl
theorem cj_rotN (q : Q4) : ∀ n, (rotN n q).cj = rotN (7 * n) q.cj
  | 0 => rfl
  | n + 1 => by
    simp only [rotN, cj_rot, cj_rotN q n]
    rw [show rotN (7 * (n + 1)) q.cj = rotN (7 + 7 * n) q.cj by congr 1; omega, ← rotN_add]
    rfl
theorem sv_cj (k : Int) (j : Nat) (hj : j ≤ 7) : ncj (sv k j) = sv k ((8 - j) % 8) := by
  have e : (rotN j (q0 k)).cj = rotN ((8 - j) % 8) (q0 k) := by
    rw [cj_rotN, cj_q0, ← rot_mod]
    congr 1
    omega
  unfold sv ncj
  split
  · simp only [e]
  · simp only [← Q4.sc_cj, e]
/-- a power of two -/
def pw2 (h : Int) : Nm := if 0 ≤ h then ⟨⟨P2 h.toNat, 0, 0, 0⟩, 0⟩ else ⟨⟨1, 0, 0, 0⟩, (-h).toNat⟩
theorem pw2_sv (h : Int) : pw2 h = sv (2 * h) 0 := by
  have e1 : (2 * h) / 2 = h := by omega
  have e2 : q0 (2 * h) = ⟨1, 0, 0, 0⟩ := by unfold q0; rw [if_neg (by omega)]
  unfold pw2 sv
  rw [e1, e2]
  by_cases h0 : 0 ≤ h
  · rw [if_pos h0, if_neg (by omega)]
    simp [rotN, Q4.sc]
  · rw [if_neg h0, if_pos (by omega)]
    rfl
theorem sv_turn (k : Int) (j : Nat) (hj : j ≤ 7) : nmul (sv k j) (sv k ((8 - j) % 8)) = pw2 k := by
  rw [sv_mul, pw2_sv]
  have e : (j + (8 - j) % 8) % 8 = 0 := by omega
  rw [e]
  congr 1
  omega
/-- how the law makes it -/
theorem sv_law (k : Int) (j : Nat) : (sv k j).q = rotN j (if k % 2 = 1 then ⟨0, (pw2 (k / 2)).q.a, 0, 0 - (pw2 (k / 2)).q.a⟩ else (pw2 (k / 2)).q) ∧ (sv k j).k = (pw2 (k / 2)).k := by
  unfold sv pw2
  by_cases h : k / 2 < 0
  · have h' : ¬ 0 ≤ k / 2 := by omega
    simp only [if_pos h, if_neg h']
    refine ⟨?_, trivial⟩
    unfold q0
    rfl
  · have h' : 0 ≤ k / 2 := by omega
    simp only [if_neg h, if_pos h']
    refine ⟨?_, trivial⟩
    rw [← rotN_sc]
    congr 1
    unfold q0
    split <;> simp [Q4.sc]
end Ar
/-! the program's scalars -/
namespace Ex
open PySem L2 Zf Ar
theorem rng_nat {k : Nat} (h : k < 1000000000) : rng1 [.int (k : Int)] = some (.rng 0 1 k) := by
  simp only [rng1]
  rw [if_pos (by unfold inR; simp; omega)]
  simp
theorem rngI_nat {Φ : Phi} {l : SL} {env : Zf.Env} {st st1 : Store} {k : Nat} (h : l Φ env st = .ok [.int (k : Int)] st1) (hk : k < 1000000000) : rngI rng1 l Φ env st = .ok (.rng 0 1 k) st1 := by
  rw [rngI_, h, Out.bind_ok', rng_nat hk]
theorem forS_rng {Φ : Phi} {l : SL} {t : SG} {b : SS} {env : Zf.Env} {st st1 : Store} {k : Nat} (h : l Φ env st = .ok [.int (k : Int)] st1) (hk : k < 1000000000) : forS (rngI rng1 l) t b Φ env st = forL (.rng 0 1 k) (t Φ) (b Φ) k env st1 := by
  rw [forS_, rngI_nat h hk, Out.toS_ok, cntW_rng]
def kj (k : Int) (j : Nat) : W := .tup [.int k, .int (j : Int)]
def scalarF (G : Glb) (i : Nat) : SS := (seqS (ifS (asB (binF (isNW false) (varE 0) (retE .non))) (retS (retE (.bl true))) skipS) (seqS (ifS (orT (notT (truF (isiF G (.ty .tuple) (varE 0)))) (asB (binF (eqW true) (bltF (un1 lenW) (consL (varE 0) nilL)) (retE (.int 2))))) (retS (retE (.bl false))) skipS) (seqS (asgS (varE 0) (tupT 2 (consG (nameT 1) (consG (nameT 2) nilG)))) (seqS (ifS (orT (notT (truF (callF i (c1 i) (consL (varE 1) nilL) nilL))) (notT (truF (callF i (c1 i) (consL (varE 2) nilL) nilL)))) (retS (retE (.bl false))) skipS) (retS (andF (chainF leW leW (negF (retE (.int 2000))) (varE 1) (retE (.int 2000))) (chainF leW leW (retE (.int 0)) (varE 2) (retE (.int 7)))))))))
def svB : SS := (asgS (tupF (consL (negF (varE 7)) (consL (varE 4) (consL (varE 5) (consL (varE 6) nilL))))) (tupT 4 (consG (nameT 4) (consG (nameT 5) (consG (nameT 6) (consG (nameT 7) nilG))))))
def svFS : SS := (forS (rngI rng1 (consL (varE 2) nilL)) (nameT 8) svB)
def svG (i : Nat) (R FS : SS) : SS := (seqS (ifS (notT (truF (callF i (c1 i) (consL (varE 0) nilL) nilL))) R skipS) (seqS (ifS (asB (binF (isNW false) (varE 0) (retE .non))) (retS (retE (.tup [(.int 0), (.int 0), (.int 0), (.int 0), (.int 0)]))) skipS) (seqS (asgS (varE 0) (tupT 2 (consG (nameT 1) (consG (nameT 2) nilG)))) (seqS (asgS (binF shrW (varE 1) (retE (.int 1))) (nameT 3)) (seqS (asgS (ifF (truF (binF (intW Builtin.bitAnd) (varE 1) (retE (.int 1)))) (tupF (consL (retE (.int 0)) (consL (retE (.int 1)) (consL (retE (.int 0)) (consL (negF (retE (.int 1))) nilL))))) (tupF (consL (retE (.int 1)) (consL (retE (.int 0)) (consL (retE (.int 0)) (consL (retE (.int 0)) nilL)))))) (tupT 4 (consG (nameT 4) (consG (nameT 5) (consG (nameT 6) (consG (nameT 7) nilG)))))) (seqS FS (seqS (ifS (asB (binF ltW (varE 3) (retE (.int 0)))) (retS (tupF (consL (varE 4) (consL (varE 5) (consL (varE 6) (consL (varE 7) (consL (negF (varE 3)) nilL))))))) skipS) (retS (tupF (consL (binF shlW (varE 4) (varE 3)) (consL (binF shlW (varE 5) (varE 3)) (consL (binF shlW (varE 6) (varE 3)) (consL (binF shlW (varE 7) (varE 3)) (consL (retE (.int 0)) nilL))))))))))))))
def svF (i : Nat) (R : SS) : SS := svG i R svFS
abbrev SpScalar (f : Fu) : Prop := (∀ (k : Int) (j : Nat) (st : Store), -2000 ≤ k → k ≤ 2000 → j ≤ 7 → f [kj k j] st = .ok (.bl true) st) ∧ ∀ st : Store, f [.non] st = .ok (.bl true) st
abbrev SpSv (f : Fu) : Prop := (∀ (k : Int) (j : Nat) (st : Store), -2000 ≤ k → k ≤ 2000 → j ≤ 7 → f [kj k j] st = .ok (nv (sv k j)) st) ∧ ∀ st : Store, f [.non] st = .ok (nv ⟨⟨0, 0, 0, 0⟩, 0⟩) st
section
variable {d : FnD} {Φ : Phi}
theorem scalar_sp {G : Glb} {i : Nat} (h : IsFn d (scalarF G i) 3 1) (hw : SpWhole (Φ i)) : SpScalar (callD d Φ) := by
  refine ⟨fun k j st h1 h2 h3 => ?_, fun st => ?_⟩
  · refine callD_rt h rfl rfl (g := []) ?_
    rw [List.append_nil]
    have a1 : (0 : Int) ≤ (j : Int) := by omega
    have a2 : (j : Int) ≤ 7 := by omega
    unfold scalarF kj
    generalize (j : Int) = J at *
    simp [List.replicate, isNonB, Ty.sub, c1, pick, hw, h1, h2, a1, a2]
  · refine callD_rt h rfl rfl (g := []) ?_
    rw [List.append_nil]
    unfold scalarF
    simp [List.replicate, isNonB]
theorem shrW_1 {k : Int} {st : Store} : shrW (.int k) (.int 1) st = some (.int (k / 2), st) := by
  simp [shrW]
theorem svFS_go {k : Int} {j : Nat} {e : Int} {q : Q4} {st : Store} (hj : j ≤ 7) : ∃ o, svFS Φ [some (kj k j), some (.int k), some (.int (j : Int)), some (.int e), some (.int q.a), some (.int q.b), some (.int q.c), some (.int q.d), none] st = .nx [some (kj k j), some (.int k), some (.int (j : Int)), some (.int e), some (.int (rotN j q).a), some (.int (rotN j q).b), some (.int (rotN j q).c), some (.int (rotN j q).d), o] st := by
  have fl := forL_word (it := .rng 0 1 j) (t := nameT 8 Φ) (b := svB Φ) (fun i env s => ∃ o, env = [some (kj k j), some (.int k), some (.int (j : Int)), some (.int e), some (.int (rotN i q).a), some (.int (rotN i q).b), some (.int (rotN i q).c), some (.int (rotN i q).d), o] ∧ s = st) (fun _ _ _ => rfl) (fun i env s hi ⟨o, f1, f2⟩ => by
      subst f1 f2
      refine ⟨.int (i : Int), _, _, by simp [yldW], rfl, [some (kj k j), some (.int k), some (.int (j : Int)), some (.int e), some (.int (rotN (i + 1) q).a), some (.int (rotN (i + 1) q).b), some (.int (rotN (i + 1) q).c), some (.int (rotN (i + 1) q).d), some (.int (i : Int))], s, .inl ?_, some (.int (i : Int)), rfl, rfl⟩
      unfold svB
      simp [slBound, rotN, Q4.rot])
    (env := [some (kj k j), some (.int k), some (.int (j : Int)), some (.int e), some (.int q.a), some (.int q.b), some (.int q.c), some (.int q.d), none]) (st := st) ⟨none, rfl, rfl⟩
  obtain ⟨env, st', f1, o, f2, f3⟩ := fl
  subst f2 f3
  refine ⟨o, ?_⟩
  unfold svFS
  rw [forS_rng (k := j) rfl (by omega)]
  exact f1
theorem svG_go {i : Nat} {R FS : SS} {k : Int} {j : Nat} {st : Store} {o : Option W} (hs : Φ i [kj k j] st = .ok (.bl true) st) (h1 : -2000 ≤ k) (h2 : k ≤ 2000)
    (hf : FS Φ [some (kj k j), some (.int k), some (.int (j : Int)), some (.int (k / 2)), some (.int (q0 k).a), some (.int (q0 k).b), some (.int (q0 k).c), some (.int (q0 k).d), none] st = .nx [some (kj k j), some (.int k), some (.int (j : Int)), some (.int (k / 2)), some (.int (rotN j (q0 k)).a), some (.int (rotN j (q0 k)).b), some (.int (rotN j (q0 k)).c), some (.int (rotN j (q0 k)).d), o] st) :
    svG i R FS Φ [some (kj k j), none, none, none, none, none, none, none, none] st = .rt (nv (sv k j)) st := by
  have hb : Builtin.bitAnd k 1 = k % 2 := PyProof.Rows.bitAnd_m1 k
  have hq : seqOf (kj k j) st = some [.int k, .int (j : Int)] := rfl
  have hN : isNonB (kj k j) = false := rfl
  have tail : ((seqS (ifS (asB (binF ltW (varE 3) (retE (.int 0)))) (retS (tupF (consL (varE 4) (consL (varE 5) (consL (varE 6) (consL (varE 7) (consL (negF (varE 3)) nilL))))))) skipS) (retS (tupF (consL (binF shlW (varE 4) (varE 3)) (consL (binF shlW (varE 5) (varE 3)) (consL (binF shlW (varE 6) (varE 3)) (consL (binF shlW (varE 7) (varE 3)) (consL (retE (.int 0)) nilL)))))))) Φ [some (kj k j), some (.int k), some (.int (j : Int)), some (.int (k / 2)), some (.int (rotN j (q0 k)).a), some (.int (rotN j (q0 k)).b), some (.int (rotN j (q0 k)).c), some (.int (rotN j (q0 k)).d), o] st) = .rt (nv (sv k j)) st := by
    have hl := rotN_lt (q0_lt k) j
    unfold sv
    generalize rotN j (q0 k) = q at hl
    by_cases h : k / 2 < 0
    · have e : -(k / 2) = (((-(k / 2)).toNat : Nat) : Int) := by omega
      simp only [if_pos h, nv]
      rw [← e]
      simp [h, slBound]
    · have e : k / 2 = (((k / 2).toNat : Nat) : Int) := by omega
      have hm : (k / 2).toNat ≤ 1000 := by omega
      simp only [if_neg h, nv, Q4.sc]
      have s : ∀ {z : Int}, z.natAbs < 2 ^ 1 → ∀ {st : Store}, shlW (.int z) (.int (k / 2)) st = some (.int (P2 (k / 2).toNat * z), st) := fun {z} hz {st} => by
        have := shlW_ok (i := z) (m := (k / 2).toNat) (B := 1) (st := st) hz (by omega) (by omega)
        rw [← e] at this
        exact this
      simp [h, slBound, s hl.1, s hl.2.1, s hl.2.2.1, s hl.2.2.2]
  unfold svG
  generalize (seqS (ifS (asB (binF ltW (varE 3) (retE (.int 0)))) (retS (tupF (consL (varE 4) (consL (varE 5) (consL (varE 6) (consL (varE 7) (consL (negF (varE 3)) nilL))))))) skipS) (retS (tupF (consL (binF shlW (varE 4) (varE 3)) (consL (binF shlW (varE 5) (varE 3)) (consL (binF shlW (varE 6) (varE 3)) (consL (binF shlW (varE 7) (varE 3)) (consL (retE (.int 0)) nilL)))))))) = T at tail ⊢
  by_cases h : k % 2 = 1
  · have hq0 : q0 k = ⟨0, 1, 0, -1⟩ := by unfold q0; rw [if_pos h]
    rw [hq0] at hf tail
    simp only at hf
    simp [c1, pick, hs, hN, hq, shrW_1, hb, h, slBound, hf, tail]
  · have hq0 : q0 k = ⟨1, 0, 0, 0⟩ := by unfold q0; rw [if_neg h]
    have h' : k % 2 = 0 := by omega
    rw [hq0] at hf tail
    simp only at hf
    simp [c1, pick, hs, hN, hq, shrW_1, hb, h', slBound, hf, tail]
theorem sv_sp {i : Nat} {R : SS} (h : IsFn d (svF i R) 9 1) (hs : SpScalar (Φ i)) : SpSv (callD d Φ) := by
  refine ⟨fun k j st h1 h2 h3 => ?_, fun st => ?_⟩
  · obtain ⟨o, hf⟩ := svFS_go (Φ := Φ) (k := k) (e := k / 2) (q := q0 k) (st := st) h3
    refine callD_rt h rfl rfl (g := []) ?_
    rw [List.append_nil]
    exact svG_go (hs.1 k j st h1 h2 h3) h1 h2 hf
  · refine callD_rt h rfl rfl (g := []) ?_
    rw [List.append_nil]
    have := hs.2 st
    unfold svF svG
    simp [List.replicate, c1, pick, this, isNonB, nv]
end
end Ex
/-! is_whole, is_number, is_scalar, need_number of any data -/
namespace Ex
open PySem L2 Zf Ar
/-- is it an integer -/
def isI : PyData → Bool
  | .int _ => true
  | _ => false
def wI : W → Bool
  | .int _ => true
  | _ => false
theorem wI_of {st : Store} {k : Nat} {w : W} {d : PyData} (h : Dk st k w d) : wI w = isI d := by
  cases d with
  | int i => rw [h.int_inv]; rfl
  | _ =>
    cases w with
    | int j => cases h
    | _ => rfl
theorem ints_of : ∀ {ws : List W}, ws.all wI = true → ∃ is : List Int, ws = is.map .int
  | [], _ => ⟨[], rfl⟩
  | w :: ws, h => by
    simp only [List.all_cons, Bool.and_eq_true] at h
    obtain ⟨is, e⟩ := ints_of h.2
    cases w with
    | int i => exact ⟨i :: is, by rw [e]; rfl⟩
    | _ => exact absurd h.1 (by simp [wI])
def numW : W → Bool
  | .tup [.int a, .int b, .int c, .int d, .int k] => decide (0 ≤ k) && decide (k ≤ 4000) && (k == 0 || (a % 2 == 1 || b % 2 == 1 || c % 2 == 1 || d % 2 == 1))
  | _ => false
def scalW : W → Bool
  | .non => true
  | .tup [.int k, .int j] => decide (-2000 ≤ k) && decide (k ≤ 2000) && (decide (0 ≤ j) && decide (j ≤ 7))
  | _ => false
theorem numW_tup {ws : List W} (h : ¬ (ws.length = 5 ∧ ws.all wI = true)) : numW (.tup ws) = false := by
  unfold numW
  split
  · rename_i e
    cases e
    exact absurd ⟨rfl, rfl⟩ h
  · rfl
theorem scalW_tup {ws : List W} (h : ¬ (ws.length = 2 ∧ ws.all wI = true)) : scalW (.tup ws) = false := by
  unfold scalW
  split
  · rename_i e; cases e
  · rename_i e
    cases e
    exact absurd ⟨rfl, rfl⟩ h
  · rfl
theorem numW_not {w : W} {st : Store} (h : ∀ ws, w ≠ .tup ws) : numW w = false := by
  unfold numW
  split
  · exact absurd rfl (h _)
  · rfl
theorem five {α : Type} {l : List α} (h : l.length = 5) : ∃ a b c d e, l = [a, b, c, d, e] := by
  match l, h with
  | [a, b, c, d, e], _ => exact ⟨a, b, c, d, e, rfl⟩
theorem two {α : Type} {l : List α} (h : l.length = 2) : ∃ a b, l = [a, b] := by
  match l, h with
  | [a, b], _ => exact ⟨a, b, rfl⟩
theorem ty_tup {st : Store} {k : Nat} {w : W} {d : PyData} (h : Dk st k w d) : (∃ ws ds, w = .tup ws ∧ d = .tuple ds ∧ Dks st k ws ds) ∨ ((∀ ws, w ≠ .tup ws) ∧ Ty.sub (tyD d) .tuple = false) := by
  cases d with
  | tuple ds =>
    obtain ⟨ws, e, h⟩ := h.tup_inv
    exact .inl ⟨ws, ds, e, rfl, h⟩
  | _ =>
    refine .inr ⟨fun ws e => ?_, rfl⟩
    subst e
    unfold Dk at h
    simp only [toE, Option.map_eq_some_iff] at h
    obtain ⟨_, _, h⟩ := h
    cases h

abbrev SpWholeD (f : Fu) : Prop := ∀ (w : W) (st : Store) (k : Nat) (d : PyData), Dk st k w d → f [w] st = .ok (.bl (wI w)) st
abbrev SpNumD (f : Fu) : Prop := ∀ (w : W) (st : Store) (k : Nat) (d : PyData), Dk st k w d → f [w] st = .ok (.bl (numW w)) st
abbrev SpScalD (f : Fu) : Prop := ∀ (w : W) (st : Store) (k : Nat) (d : PyData), Dk st k w d → f [w] st = .ok (.bl (scalW w)) st
section
variable {dd : FnD} {Φ : Phi}
theorem whole_any {G : Glb} (hf : IsFn dd (wholeF G) 1 1) : SpWholeD (callD dd Φ) := fun w st k d h => by
  refine callD_rt hf rfl rfl (g := []) ?_
  rw [List.append_nil, wI_of h]
  have ht := h.ty
  show wholeF G Φ [some w] st = _
  unfold wholeF
  simp [isiW, ht]
  cases d <;> simp [Ty.sub, tyD, isI]
/-- is_number -/
theorem number_any {G : Glb} {i : Nat} (hf : IsFn dd (numberF G i) 7 1) (hw0 : SpWholeD (Φ i)) : SpNumD (callD dd Φ) := fun w st k d h => by
  have ht := h.ty
  rcases ty_tup h with ⟨ws, ds, rfl, rfl, hw⟩ | ⟨hn, hs⟩
  · have key : ∃ st', numberF G i Φ [some (.tup ws), none, none, none, none, none, none] st = .rt (.bl (numW (.tup ws))) (st ++ st') := by
      by_cases h5 : ws.length = 5
      · have lc := lcL_map (st := st) (g := []) (w := .tup ws) (ws := ws) (i := 6) (c := yesT Φ) (e := callF i (c1 i) (consL (varE 6) nilL) nilL Φ) (env := [some (.tup ws), none, none, none, none, none, none]) (fun w => .bl (wI w)) (fun _ => true) (fun acc => nowW_tup ws _) (by rw [h5]; decide) (fun x hx acc => rfl) (fun x hx _ acc => by
          obtain ⟨y, _, hy⟩ := hw.all_of x hx
          have hy : Dk (st ++ .lst acc :: []) k x y := hy.app
          simp [c1, pick, hw0 _ _ _ _ hy])
        rw [List.filter_eq_self.mpr fun _ _ => rfl] at lc
        have ha : ∀ ws : List W, (ws.map fun w => W.bl (wI w)).length = ws.length := fun ws => List.length_map _
        have hb : blsW (ws.map fun w => W.bl (wI w)) = some (ws.map wI) := by
          clear lc hw ht h h5 ha
          induction ws with
          | nil => rfl
          | cons a r ih => simp [blsW, ih]
        have hall : allW (.ref st.length) (st ++ .lst (ws.map fun w => W.bl (wI w)) :: []) = some (.bl (ws.all wI), st ++ .lst (ws.map fun w => W.bl (wI w)) :: []) := by
          simp [allW, lstOf, hb]
        by_cases hi : ws.all wI = true
        · obtain ⟨is, e⟩ := ints_of hi
          obtain ⟨a, b, c, d, e5, rfl⟩ : ∃ a b c d e, is = [a, b, c, d, e] := five (by rw [e, List.length_map] at h5; exact h5)
          subst e
          refine ⟨[.lst [.bl true, .bl true, .bl true, .bl true, .bl true]], ?_⟩
          unfold numberF
          simp [wI] at lc hall
          simp [Ty.sub, lc, hall, wipeE]
          by_cases h0 : e5 < 0
          · have q : ¬ 0 ≤ e5 := by omega
            simp [h0, q, numW]
          · by_cases h1 : 4000 < e5
            · have q : ¬ e5 ≤ 4000 := by omega
              simp [h0, h1, q, numW]
            · have q0 : 0 ≤ e5 := by omega
              have q1 : e5 ≤ 4000 := by omega
              by_cases h2 : e5 = 0
              · simp [h0, h1, h2, numW]
              · have h2' : (e5 == 0) = false := by simpa using h2
                simp [h0, h1, h2', q0, q1, numW, par4]
        · refine ⟨[.lst (ws.map fun w => W.bl (wI w))], ?_⟩
          rw [numW_tup fun c => hi c.2]
          unfold numberF
          rw [h5] at lc
          simp [Ty.sub, wipeE, h5, lc, hall, hi]
      · refine ⟨[], ?_⟩
        rw [numW_tup fun c => h5 c.1]
        unfold numberF
        have hz : ((ws.length : Int) == 5) = false := by simp; omega
        simp [Ty.sub, hz]
    obtain ⟨st', e⟩ := key
    exact callD_rt hf rfl rfl (g := st') e
  · have e : numberF G i Φ [some w, none, none, none, none, none, none] st = .rt (.bl (numW w)) st := by
      rw [numW_not (st := st) hn]
      unfold numberF
      simp [isiW_of ht, hs]
    exact callD_rt hf rfl rfl (g := []) (by rw [List.append_nil]; exact e)
theorem scalW_not {w : W} (h : ∀ ws, w ≠ .tup ws) (hn : isNonB w = false) : scalW w = false := by
  unfold scalW
  split
  · cases hn
  · exact absurd rfl (h _)
  · rfl
/-- is_scalar -/
theorem scalar_any {G : Glb} {i : Nat} (hf : IsFn dd (scalarF G i) 3 1) (hw0 : SpWholeD (Φ i)) : SpScalD (callD dd Φ) := fun w st k d h => by
  have ht := h.ty
  have e : scalarF G i Φ [some w, none, none] st = .rt (.bl (scalW w)) st := by
    rcases ty_tup h with ⟨ws, ds, rfl, rfl, hw⟩ | ⟨hn, hs⟩
    · by_cases h2 : ws.length = 2
      · obtain ⟨a, b, rfl⟩ := two h2
        obtain ⟨y1, _, hy1⟩ := hw.all_of a (by simp)
        obtain ⟨y2, _, hy2⟩ := hw.all_of b (by simp)
        by_cases hi : [a, b].all wI = true
        · obtain ⟨is, e⟩ := ints_of hi
          obtain ⟨i, j, rfl⟩ : ∃ i j, is = [i, j] := two (by rw [← List.length_map (f := W.int), ← e]; rfl)
          cases e
          unfold scalarF
          simp [isNonB, Ty.sub, c1, pick, hw0 _ _ _ _ hy1, hw0 _ _ _ _ hy2, wI]
          by_cases q1 : -2000 ≤ i
          · by_cases q2 : i ≤ 2000
            · by_cases q3 : 0 ≤ j
              · simp [q1, q2, q3, scalW]
              · simp [q1, q2, q3, scalW]
            · simp [q1, q2, scalW]
          · simp [q1, scalW]
        · rw [scalW_tup fun c => hi c.2]
          unfold scalarF
          simp [isNonB, Ty.sub, c1, pick, hw0 _ _ _ _ hy1, hw0 _ _ _ _ hy2]
          by_cases hj : wI a = true
          · have hj2 : wI b = false := by simpa [hj] using hi
            simp [hj, hj2]
          · simp [hj]
      · rw [scalW_tup fun c => h2 c.1]
        unfold scalarF
        have hz : ((ws.length : Int) == 2) = false := by simp; omega
        simp [isNonB, Ty.sub, hz]
    · cases hN : isNonB w with
      | true =>
        have : w = .non := by
          cases w <;> first | rfl | cases hN
        subst this
        unfold scalarF
        simp [isNonB, scalW]
      | false =>
        rw [scalW_not hn hN]
        unfold scalarF
        simp [hN, isiW_of ht, hs]
  exact callD_rt hf rfl rfl (g := []) (by rw [List.append_nil]; exact e)

theorem empty_app (x : Str) : Str.empty ++ x = x := by
  show Str.mk (#[] ++ x.cps) = x
  rw [Array.empty_append]
theorem trimO_er (st : Store) (w : W) : trimO st (.er w st) = .er w st := by
  unfold trimO
  dsimp only
  split
  · rw [List.take_length]
  · rfl
/-- what is not a number is refused -/
theorem need_bad {i c : Nat} {x s : Str} {w : W} {st : Store} {k : Nat} {d : PyData} (hf : IsFn dd (needF i (raiseS c (joinedF [fmtF (varE 1), retE (.str s)]))) 2 2) (hn : SpNumD (Φ i)) (h : Dk st k w d) (hx : x.length ≤ 1000) (hx2 : (x ++ s).length ≤ 1000) (hw : numW w = false) : ∃ m, callD dd Φ [w, .str x] st = .er (.exc c m) st := by
  refine ⟨.str (x ++ s), ?_⟩
  rw [callD_of hf rfl]
  have e : needF i (raiseS c (joinedF [fmtF (varE 1), retE (.str s)])) Φ [some w, some (.str x)] st = .er (.exc c (.str (x ++ s))) [some w, some (.str x)] st := by
    have e1 : Str.empty ++ x = x := empty_app x
    unfold needF
    simp [c1, pick, hn _ _ _ _ h, hw, raiseS, joinedF, jsF, fmtF, fmtW, slBound, e1, Nat.le_trans hx (by decide : 1000 ≤ 16777216), Nat.le_trans hx2 (by decide : 1000 ≤ 16777216)]
  show trimO st (endO (needF i (raiseS c (joinedF [fmtF (varE 1), retE (.str s)])) Φ [some w, some (.str x)] st)) = _
  rw [e, endO_er]
  exact trimO_er _ _
theorem need_good {i : Nat} {R : SS} {x : Str} {w : W} {st : Store} {k : Nat} {d : PyData} (hf : IsFn dd (needF i R) 2 2) (hn : SpNumD (Φ i)) (h : Dk st k w d) (hw : numW w = true) : callD dd Φ [w, .str x] st = .ok .non st := by
  refine callD_nx hf rfl (g := []) (env := [some w, some (.str x)]) ?_
  rw [List.append_nil]
  unfold needF
  simp [c1, pick, hn _ _ _ _ h, hw]
end
end Ex
/-! draws and lists that never change -/
namespace Zf
open PySem L2
open PyProof.Rows hiding St

theorem stD_old {d d' : DS} {r j : Store} (i : Nat) (o : SO) (hi : i < (stD d r).length) (e : (stD d' (r ++ j))[i]? = some o) : (stD d r)[i]? = some o ∨ refsLtO (stD d r).length o = true := by
  match i, e with
  | 0, e => cases e; exact .inr (by simp [refsLtO, refsLtL, refsLt])
  | 1, e => cases e; exact .inr (refsLtL_ints _ _)
  | i + 2, e =>
    refine .inl ?_
    rw [stD_at] at e ⊢
    rw [stD_length] at hi
    rwa [List.getElem?_append_left (by omega)] at e
theorem frzO_D {d d' : DS} {r g : Store} {ws : List W} {n : Nat} (hn : n = r.length + 2) (hw : refsLtL (r.length + 2) ws = true) : frzO (stD d r) (.ok (.ref n) (stD d' (r ++ .lst ws :: g))) = .ok (.klst ws) (stD d' r) := by
  subst hn
  unfold frzO
  have e : (stD d' (r ++ .lst ws :: g))[r.length + 2]? = some (SO.lst ws) := by rw [stD_at]; simp
  simp only [e]
  rw [if_pos ⟨by rw [stD_length]; omega, by rw [stD_length]; exact hw, fun i o hi z => stD_old i o hi z⟩]
  have e2 : (stD d' (r ++ .lst ws :: g)).take (stD d r).length = stD d' r := by
    rw [stD_length, ← stD_app, show r.length + 2 = (stD d' r).length from rfl, List.take_left]
  rw [e2]
/-- .. one new dict before it -/
theorem frzO_first {d : DS} {r : Store} {ws : List W} (h0 : refsLtL (r.length + 2) ws = false) (h : refsLtL (r.length + 1 + 2) ws = true) : frzO (stD d r) (.ok (.ref (r.length + 1 + 2)) (stD d (r ++ [.dct [], .lst ws]))) = .ok (.klst ws) (stD d (r ++ [.dct []])) := by
  have := frzO_new2 (st := stD d r) (g := [.dct []]) (ws := ws) (n := r.length + 1 + 2) (by simp) h0 h (fun o ho => by simp at ho; subst ho; rfl)
  simpa using this
theorem frzO_one {d d' : DS} {r : Store} {o : SO} {ws : List W} (h : refsLtL (r.length + 1 + 2) ws = true) : frzO (stD d (r ++ [o])) (.ok (.ref (r.length + 1 + 2)) (stD d' (r ++ [o, .lst ws]))) = .ok (.klst ws) (stD d' (r ++ [o])) := by
  have := frzO_D (d := d) (d' := d') (r := r ++ [o]) (g := []) (ws := ws) (n := r.length + 1 + 2) (by simp) (by simpa using h)
  simpa using this
theorem frzO_none {d d' : DS} {r : Store} {ws : List W} (h : refsLtL (r.length + 2) ws = true) : frzO (stD d r) (.ok (.ref (r.length + 2)) (stD d' (r ++ [.lst ws]))) = .ok (.klst ws) (stD d' r) := frzO_D (g := []) rfl h
@[simp] theorem frzO_int (st st1 : Store) (i : Int) : frzO st (.ok (.int i) st1) = .ok (.int i) st1 := rfl
@[simp] theorem frzO_str (st st1 : Store) (i : Str) : frzO st (.ok (.str i) st1) = .ok (.str i) st1 := rfl
@[simp] theorem frzO_tup (st st1 : Store) (i : List W) : frzO st (.ok (.tup i) st1) = .ok (.tup i) st1 := rfl
@[simp] theorem frzO_klst (st st1 : Store) (i : List W) : frzO st (.ok (.klst i) st1) = .ok (.klst i) st1 := rfl
/-- a new list of values -/
@[simp] theorem frzO_app {st : Store} {ws : List W} : frzO st (.ok (.ref st.length) (st ++ [.lst ws])) = if refsLtL st.length ws = true then .ok (.klst ws) st else frzO st (.ok (.ref st.length) (st ++ [.lst ws])) := by
  split
  · rename_i h; exact frzO_new h
  · rfl
theorem Dk.klst {st : Store} {k : Nat} {ws : List W} {ds : List PyData} (h : Dks st k ws ds) : Dk st k (.klst ws) (.list ds) := by
  unfold Dk Dks at *
  simp only [toE, h, Option.map_some]
theorem Gw.klst {r : Store} {k M e : Nat} {ws : List W} {n M' e' : Nat} (h : ∀ w ∈ ws, Gw r k M e w) (hn : ws.length ≤ n) (hM : n * (M + 2) + 3 ≤ M') (he : e + 1 ≤ e') : Gw r k M' e' (.klst ws) := fun d j => by
  obtain ⟨ds, h1, h2⟩ := Dks.of_all (P := Fd M e) fun w hw => h w hw d j
  exact ⟨_, .klst h1, (Fd.list h2 (by rw [← h1.length]; exact hn)).mono hM he⟩
theorem frzO_at {d d' : DS} {r j : Store} {ws : List W} {n : Nat} (e : (stD d' (r ++ j))[n]? = some (.lst ws)) (hn : r.length + 2 ≤ n) (hw : refsLtL (r.length + 2) ws = true) : frzO (stD d r) (.ok (.ref n) (stD d' (r ++ j))) = .ok (.klst ws) (stD d' r) := by
  unfold frzO
  simp only [e]
  rw [if_pos ⟨by rw [stD_length]; exact hn, by rw [stD_length]; exact hw, fun i o hi z => stD_old i o hi z⟩]
  have e2 : (stD d' (r ++ j)).take (stD d r).length = stD d' r := by
    rw [stD_length, ← stD_app, show r.length + 2 = (stD d' r).length from rfl, List.take_left]
  rw [e2]
/-- [x] * k, kept -/
theorem frzO_two {d d' : DS} {r : Store} {o : SO} {ws : List W} (h : refsLtL (r.length + 2) ws = true) : frzO (stD d r) (.ok (.ref (r.length + 1 + 2)) (stD d' (r ++ [o, .lst ws]))) = .ok (.klst ws) (stD d' r) := by
  refine frzO_at ?_ (by omega) h
  rw [show r.length + 1 + 2 = (r.length + 1) + 2 from rfl, stD_at, List.getElem?_append_right (by omega)]
  simp
theorem frzO_three {d d' : DS} {r : Store} {o1 o2 : SO} {ws : List W} (h : refsLtL (r.length + 1 + 2) ws = true) : frzO (stD d (r ++ [o1])) (.ok (.ref (r.length + 2 + 2)) (stD d' (r ++ [o1, o2, .lst ws]))) = .ok (.klst ws) (stD d' (r ++ [o1])) := by
  have := frzO_two (d := d) (d' := d') (r := r ++ [o1]) (o := o2) (ws := ws) (by simpa using h)
  simpa using this
theorem eqW_data {neg : Bool} {a b : W} {st : Store} {d e : PyData} (h1 : datum st a = some d) (h2 : datum st b = some e) (hs : strs2 a b = none) (h3 : SeqAt.shaped d = true ∧ SeqAt.shaped e = true) : eqW neg a b st = some (.bl (PyData.eqv d e != neg), st) := by
  refine eqW_D hs ?_
  simp only [eqD, h1, h2]
  rw [if_pos h3]
theorem datum_lst {st : Store} {n : Nat} {ws : List W} {ds : List PyData} (h : st[n]? = some (.lst ws)) (h2 : toDs (refD st 19) ws = some ds) : datum st (.ref n) = some (.list ds) := by
  have e : datum st (.ref n) = match st[n]? with
    | some (.lst ws) => (toDs (refD st 19) ws).map PyData.list
    | _ => none := rfl
  rw [e, h]
  show (toDs (refD st 19) ws).map PyData.list = _
  rw [h2]; rfl
theorem datum_klst {st : Store} {ws : List W} {ds : List PyData} (h2 : toDs (refD st 20) ws = some ds) : datum st (.klst ws) = some (.list ds) := by
  show (toDs (refD st 20) ws).map PyData.list = _
  rw [h2]; rfl
mutual
theorem toE_lt {N : Nat} {f : Nat → Option PyData} (h : ∀ n d, f n = some d → n < N) : ∀ {w : W} {d : PyData}, toE f w = some d → refsLt N w = true
  | .non, _, _ => rfl
  | .bl _, _, _ => rfl
  | .int _, _, _ => rfl
  | .str _, _, _ => rfl
  | .tup ws, _, e => by
    simp only [toE, Option.map_eq_some_iff] at e
    obtain ⟨ds, e1, _⟩ := e
    simpa [refsLt] using toEs_lt h e1
  | .klst ws, _, e => by
    simp only [toE, Option.map_eq_some_iff] at e
    obtain ⟨ds, e1, _⟩ := e
    simpa [refsLt] using toEs_lt h e1
  | .ref n, d, e => by
    simp only [toE] at e
    simpa [refsLt] using h n d e
  | .exc _ _, _, e => by simp only [toE] at e; cases e
  | .clo _, _, _ => rfl
theorem toEs_lt {N : Nat} {f : Nat → Option PyData} (h : ∀ n d, f n = some d → n < N) : ∀ {ws : List W} {ds : List PyData}, toEs f ws = some ds → refsLtL N ws = true
  | [], _, _ => rfl
  | w :: ws, _, e => by
    simp only [toEs] at e
    split at e
    · rename_i d ds e1 e2
      simp only [refsLtL, Bool.and_eq_true]
      exact ⟨toE_lt h e1, toEs_lt h e2⟩
    · cases e
end
theorem Dk.lt {st : Store} {k : Nat} {w : W} {d : PyData} (h : Dk st k w d) : refsLt st.length w = true := by
  refine toE_lt (f := refE st k) (fun n d e => ?_) h
  cases k with
  | zero => cases e
  | succ k =>
    cases e2 : st[n]? with
    | none => simp only [refE, e2] at e; cases e
    | some o => exact (List.getElem?_eq_some_iff.mp e2).1
theorem kd_app {d : DS} {r : Store} {ws : List W} : (kdOf (.ref (r.length + 2)) (stD d (r ++ [.lst ws]))).bind appendM = some appendL := by
  have e : (stD d (r ++ [.lst ws]))[r.length + 2]? = some (.lst ws) := by rw [stD_at]; simp
  simp only [kdOf, e]
  rfl
theorem set_app {d : DS} {r : Store} {o o' : SO} : (stD d (r ++ [o])).set (r.length + 2) o' = stD d (r ++ [o']) := by
  simp [stD]
theorem app_app {d : DS} {r : Store} {ws : List W} {x : W} (h : ws.length < slBound) : appendL (.ref (r.length + 2)) [x] (stD d (r ++ [.lst ws])) = some (.non, stD d (r ++ [.lst (ws ++ [x])])) := by
  have e : (stD d (r ++ [.lst ws]))[r.length + 2]? = some (.lst ws) := by rw [stD_at]; simp
  simp only [appendL, lstAt, e]
  rw [if_pos h, set_app]
/-- a comprehension whose items are drawn -/
theorem lcD {count c m : Nat} {it : ItW} {t : TF} {cn : Env → Store → Out Bool} {e : Env → Store → Out W} {env : Env} {d : DS} {r : Store} (P : Nat → W → Prop) (hcnt : cntW it = count) (hc : count ≤ slBound) (hend : ∀ st, endW it st = true) (hP : ∀ i w, P i w → refsLt (r.length + 2) w = true)
    (step : ∀ (i : Nat) (d : DS) (r' : Store), i < count → DOk (m + c * (count - i)) d → ∃ w env1, yldW it i (stD d (r ++ r')) = some w ∧ t w env (stD d (r ++ r')) = some env1 ∧ cn env1 (stD d (r ++ r')) = .ok true (stD d (r ++ r')) ∧ ∃ y d', P i y ∧ DOk (m + c * (count - (i + 1))) d' ∧ e env1 (stD d (r ++ r')) = .ok y (stD d' (r ++ r')))
    (hd : DOk (m + c * count) d) :
    ∃ ys d', ys.length = count ∧ (∀ i y, ys[i]? = some y → P i y) ∧ DOk m d' ∧ lcL (r.length + 2) it t cn e env count (stD d (r ++ [.lst []])) = .ok (.ref (r.length + 2)) (stD d' (r ++ [.lst ys])) ∧ frzO (stD d r) (lcL (r.length + 2) it t cn e env count (stD d (r ++ [.lst []]))) = .ok (.klst ys) (stD d' r) := by
  subst hcnt
  obtain ⟨pre, acc, g, e4, d4, h4, rfl, rfl, hl, ha⟩ := lcL_word (n0 := r.length + 2) (it := it) (t := t) (c := cn) (e := e) (env := env)
    (fun i pre acc g => ∃ d', DOk (m + c * (cntW it - i)) d' ∧ pre = stD d' r ∧ g = [] ∧ acc.length = i ∧ ∀ j y, acc[j]? = some y → P j y)
    (fun i pre acc g ⟨d', _, e1, _, e2, _⟩ => ⟨by rw [e1]; simp, by omega⟩) hc (fun _ _ _ _ => hend _)
    (fun i pre acc g hi ⟨d', hd, e1, e2, hl, ha⟩ => by
      subst e1 e2
      obtain ⟨w, env1, e1, e2, e3, y, d2, hy, hd2, e4⟩ := step i d' [.lst acc] hi hd
      refine ⟨w, env1, e1, e2, .inr ⟨_, y, stD d2 r, [], e3, e4, by simp, d2, hd2, rfl, rfl, by simp [hl], fun j y' ej => ?_⟩⟩
      by_cases hj : j < acc.length
      · rw [List.getElem?_append_left hj] at ej
        exact ha j y' ej
      · rw [List.getElem?_append_right (by omega)] at ej
        obtain ⟨h1, h2⟩ := List.getElem?_eq_some_iff.mp ej
        simp at h1
        have : j = i := by omega
        subst this
        simp [hl] at h2
        rw [← h2]; exact hy)
    (pre := stD d r) (g := []) ⟨d, hd, rfl, rfl, rfl, fun _ _ h => by simp at h⟩
  rw [Nat.sub_self, Nat.mul_zero, Nat.add_zero] at h4
  have e5 : lcL (r.length + 2) it t cn e env (cntW it) (stD d (r ++ [.lst []])) = .ok (.ref (r.length + 2)) (stD d4 (r ++ [.lst acc])) := by
    rw [← stD_app, e4, stD_app]
  refine ⟨acc, d4, hl, ha, h4, e5, ?_⟩
  rw [e5]
  refine frzO_D rfl (refsLtL_all fun w hw => ?_)
  obtain ⟨j, hj, ej⟩ := List.getElem_of_mem hw
  exact hP j w (ha j w (by rw [List.getElem?_eq_getElem hj, ej]))
end Zf
/-! the program by parts: spiderwires_k05_invalid_numbers -/
namespace K05
open PySem L2 Zf
noncomputable section
def top (i : Nat) : Stmt := PySem.Challenge.pw_spiderwires_k05_invalid_numbers.main.body.getD i (.Pass ⟨0, 0, 0, 0⟩)
def sh0 : Shape := ⟨0, 1, [], [0]⟩
def sh1 : Shape := ⟨1, 1, [], [0]⟩
def sh2 : Shape := ⟨4, 2, [], [0, 1]⟩
def sh3 : Shape := ⟨3, 2, [], [0, 1]⟩
def sh4 : Shape := ⟨2, 1, [], [0]⟩
def sh5 : Shape := ⟨10, 2, [], [0, 1]⟩
def sh6 : Shape := ⟨14, 1, [], [0]⟩
def sh7 : Shape := ⟨8, 0, [("scalar" : Str)], [0]⟩
def sh8 : Shape := ⟨8, 1, [], [0]⟩
def sh9 : Shape := ⟨6, 2, [], [0, 1]⟩
def sh10 : Shape := ⟨7, 0, [("x" : Str)], [0]⟩
def sh11 : Shape := ⟨7, 1, [], [0]⟩
def sh12 : Shape := ⟨5, 0, [("y" : Str), ("x" : Str)], [1, 0]⟩
def sh13 : Shape := ⟨5, 2, [], [0, 1]⟩
def sh14 : Shape := ⟨13, 1, [], [0]⟩
def sh15 : Shape := ⟨12, 2, [], [0, 1]⟩
def sh16 : Shape := ⟨11, 1, [], [0]⟩
def sh17 : Shape := ⟨9, 1, [], [0]⟩
def N0 : List Str := [("value" : Str)]
def N1 : List Str := [("value" : Str), ("a" : Str), ("b" : Str), ("c" : Str), ("d" : Str), ("k" : Str), ("item" : Str)]
def N2 : List Str := [("value" : Str), ("k" : Str), ("j" : Str)]
def N3 : List Str := [("value" : Str), ("name" : Str)]
def N4 : List Str := [("coefficients" : Str), ("k" : Str), ("a" : Str), ("b" : Str), ("c" : Str), ("d" : Str), ("union" : Str), ("halvings" : Str)]
def N5 : List Str := [("x" : Str), ("y" : Str), ("k" : Str), ("up" : Str), ("also_up" : Str), ("i" : Str)]
def N6 : List Str := [("x" : Str), ("y" : Str), ("parts" : Str), ("i" : Str), ("j" : Str)]
def N7 : List Str := [("x" : Str), ("a" : Str), ("b" : Str), ("c" : Str), ("d" : Str), ("k" : Str)]
def N8 : List Str := [("scalar" : Str), ("k" : Str), ("j" : Str), ("doublings" : Str), ("a" : Str), ("b" : Str), ("c" : Str), ("d" : Str), ("_" : Str)]
def N9 : List Str := [("_law_script" : Str), ("_law_m" : Str), ("_law_cell" : Str)]
def N10 : List Str := [("_law_m" : Str), ("_law_many" : Str), ("_law_k" : Str), ("_law_at" : Str), ("_law_cell" : Str), ("_law_primes" : Str), ("_law_mixed" : Str)]
def N11 : List Str := [("_law_m" : Str), ("_law_some" : Str), ("_law_k" : Str)]
def N12 : List Str := [("_law_m" : Str), ("_law_good" : Str), ("_law_some" : Str)]
def N13 : List Str := [("_law_m" : Str), ("_law_k" : Str), ("_law_j" : Str), ("_law_some" : Str)]
def N14 : List Str := [("_law_deed" : Str), ("_law_caught" : Str), ("error" : Str)]
def N15 : List Str := [("_law_script" : Str), ("_law_m" : Str), ("_law_turn" : Str), ("_law_good" : Str), ("_law_bad" : Str), ("_law_worse" : Str), ("_law_pair" : Str), ("_law_shown" : Str), ("_law_told" : Str)]
def G : Glb where
  fns := [⟨("is_whole" : Str), [("value" : Str)]⟩, ⟨("is_number" : Str), [("value" : Str)]⟩, ⟨("is_scalar" : Str), [("value" : Str)]⟩, ⟨("need_number" : Str), [("value" : Str), ("name" : Str)]⟩, ⟨("lowest" : Str), [("coefficients" : Str), ("k" : Str)]⟩, ⟨("add" : Str), [("x" : Str), ("y" : Str)]⟩, ⟨("multiply" : Str), [("x" : Str), ("y" : Str)]⟩, ⟨("conjugated" : Str), [("x" : Str)]⟩, ⟨("scalar_value" : Str), [("scalar" : Str)]⟩, ⟨("_law_begun" : Str), [("_law_script" : Str)]⟩, ⟨("_law_draw" : Str), [("_law_m" : Str), ("_law_many" : Str)]⟩, ⟨("_law_valid" : Str), [("_law_m" : Str)]⟩, ⟨("_law_not_a_number" : Str), [("_law_m" : Str), ("_law_good" : Str)]⟩, ⟨("_law_not_a_scalar" : Str), [("_law_m" : Str)]⟩, ⟨("_law_said" : Str), [("_law_deed" : Str)]⟩, ⟨("law" : Str), [("_law_script" : Str)]⟩]
  blt := [("isinstance" : Str), ("bool" : Str), ("int" : Str), ("all" : Str), ("len" : Str), ("tuple" : Str), ("min" : Str), ("range" : Str), ("max" : Str), ("list" : Str), ("repr" : Str)]
  consts := [(("MAX_HALVINGS" : Str), (.int 4000)), (("MAX_POWER" : Str), (.int 2000)), (("ZERO" : Str), (.tup [(.int 0), (.int 0), (.int 0), (.int 0), (.int 0)]))]
  shapes := [sh0, sh1, sh2, sh3, sh4, sh5, sh6, sh7, sh8, sh9, sh10, sh11, sh12, sh13, sh14, sh15, sh16, sh17]
  excs := [("InvalidInput" : Str), ("Conflict" : Str), ("OutOfRange" : Str), ("BadNumber" : Str), ("BadScalar" : Str)]
  sub := [[true, false, false, false, false], [false, true, false, false, false], [false, false, true, false, false], [true, false, false, true, false], [true, false, false, false, true]]
  pys := []
  fs := [("?" : Str), ("?" : Str), ("?" : Str), ("reason" : Str), ("reason" : Str)]
  rz := [3, 4]
  mks := [N15]
  fz := [7353252884547, 7559411327121, 7628130807952, 7696850288785, 7560501846112, 7561089048694, 7628332134544, 7697051615377, 7971728212126, 8040447692974, 7972718067803, 8040649019566, 9277566120006, 9964509270131, 9966321209477, 9827288412198, 10102032117820]
/-- is_whole -/
def F0 : SS := (retS (andF (isiF G (.ty .int) (varE 0)) (notF (isiF G (.ty .bool) (varE 0)))))
def d0 : FnD := ⟨("is_whole" : Str), top 10, N0, [("value" : Str)], F0⟩
/-- is_number -/
def F1 : SS := (seqS (ifS (orT (notT (truF (isiF G (.ty .tuple) (varE 0)))) (asB (binF (eqW true) (bltF (un1 lenW) (consL (varE 0) nilL)) (retE (.int 5))))) (retS (retE (.bl false))) skipS) (seqS (ifS (notT (truF (bltF (un1 allW) (consL (lcF [6] (valI (varE 0)) (nameC 6) yesT (callF 0 sh0 (consL (varE 6) nilL) nilL)) nilL)))) (retS (retE (.bl false))) skipS) (seqS (asgS (varE 0) (tupT 5 (consG (nameT 1) (consG (nameT 2) (consG (nameT 3) (consG (nameT 4) (consG (nameT 5) nilG))))))) (seqS (ifS (orT (asB (binF ltW (varE 5) (retE (.int 0)))) (asB (binF gtW (varE 5) (retE (.int 4000))))) (retS (retE (.bl false))) skipS) (retS (orF (binF (eqW false) (varE 5) (retE (.int 0))) (binF (eqW false) (binF (intW Builtin.bitAnd) (binF (intW Builtin.bitOr) (binF (intW Builtin.bitOr) (binF (intW Builtin.bitOr) (varE 1) (varE 2)) (varE 3)) (varE 4)) (retE (.int 1))) (retE (.int 1)))))))))
def d1 : FnD := ⟨("is_number" : Str), top 11, N1, [("value" : Str)], F1⟩
/-- is_scalar -/
def F2 : SS := (seqS (ifS (asB (binF (isNW false) (varE 0) (retE .non))) (retS (retE (.bl true))) skipS) (seqS (ifS (orT (notT (truF (isiF G (.ty .tuple) (varE 0)))) (asB (binF (eqW true) (bltF (un1 lenW) (consL (varE 0) nilL)) (retE (.int 2))))) (retS (retE (.bl false))) skipS) (seqS (asgS (varE 0) (tupT 2 (consG (nameT 1) (consG (nameT 2) nilG)))) (seqS (ifS (orT (notT (truF (callF 0 sh0 (consL (varE 1) nilL) nilL))) (notT (truF (callF 0 sh0 (consL (varE 2) nilL) nilL)))) (retS (retE (.bl false))) skipS) (retS (andF (chainF leW leW (negF (retE (.int 2000))) (varE 1) (retE (.int 2000))) (chainF leW leW (retE (.int 0)) (varE 2) (retE (.int 7)))))))))
def d2 : FnD := ⟨("is_scalar" : Str), top 12, N2, [("value" : Str)], F2⟩
/-- need_number -/
def F3 : SS := (ifS (notT (truF (callF 1 sh1 (consL (varE 0) nilL) nilL))) (raiseS 3 (joinedF [(fmtF (varE 1)), (retE (.str (" is not a number" : Str)))])) skipS)
def d3 : FnD := ⟨("need_number" : Str), top 13, N3, [("value" : Str), ("name" : Str)], F3⟩
/-- lowest -/
def F4 : SS := (seqS (asgS (varE 0) (tupT 4 (consG (nameT 2) (consG (nameT 3) (consG (nameT 4) (consG (nameT 5) nilG)))))) (seqS (asgS (binF (intW Builtin.bitOr) (binF (intW Builtin.bitOr) (binF (intW Builtin.bitOr) (varE 2) (varE 3)) (varE 4)) (varE 5)) (nameT 6)) (seqS (ifS (asB (binF (eqW false) (varE 6) (retE (.int 0)))) (retS (retE (.tup [(.int 0), (.int 0), (.int 0), (.int 0), (.int 0)]))) skipS) (seqS (asgS (bltF (un2 min2W) (consL (varE 1) (consL (binF subW (methF bitsM (binF (intW Builtin.bitAnd) (varE 6) (negF (varE 6))) nilL) (retE (.int 1))) nilL))) (nameT 7)) (retS (tupF (consL (binF shrW (varE 2) (varE 7)) (consL (binF shrW (varE 3) (varE 7)) (consL (binF shrW (varE 4) (varE 7)) (consL (binF shrW (varE 5) (varE 7)) (consL (binF subW (varE 1) (varE 7)) nilL)))))))))))
def d4 : FnD := ⟨("lowest" : Str), top 14, N4, [("coefficients" : Str), ("k" : Str)], F4⟩
/-- add -/
def F5 : SS := (seqS (exprS (callF 3 sh3 (consL (varE 0) (consL (retE (.str ("x" : Str))) nilL)) nilL)) (seqS (exprS (callF 3 sh3 (consL (varE 1) (consL (retE (.str ("y" : Str))) nilL)) nilL)) (seqS (asgS (bltF (un2 max2W) (consL (binF subW' (varE 0) (retE (.int 4))) (consL (binF subW' (varE 1) (retE (.int 4))) nilL))) (nameT 2)) (seqS (asgS (binF subW (varE 2) (binF subW' (varE 0) (retE (.int 4)))) (nameT 3)) (seqS (asgS (binF subW (varE 2) (binF subW' (varE 1) (retE (.int 4)))) (nameT 4)) (retS (callF 4 sh2 (consL (lcF [5] (rngI rng1 (consL (retE (.int 4)) nilL)) (nameC 5) yesT (binF addW (binF shlW (binF subW' (varE 0) (varE 5)) (varE 3)) (binF shlW (binF subW' (varE 1) (varE 5)) (varE 4)))) (consL (varE 2) nilL)) nilL)))))))
def d5 : FnD := ⟨("add" : Str), top 15, N5, [("x" : Str), ("y" : Str)], F5⟩
/-- multiply -/
def F6 : SS := (seqS (exprS (callF 3 sh3 (consL (varE 0) (consL (retE (.str ("x" : Str))) nilL)) nilL)) (seqS (exprS (callF 3 sh3 (consL (varE 1) (consL (retE (.str ("y" : Str))) nilL)) nilL)) (seqS (asgS (lstF (consL (retE (.int 0)) (consL (retE (.int 0)) (consL (retE (.int 0)) (consL (retE (.int 0)) nilL))))) (nameT 2)) (seqS (forS (rngI rng1 (consL (retE (.int 4)) nilL)) (nameT 3) (forS (rngI rng1 (consL (retE (.int 4)) nilL)) (nameT 4) (ifS (asB (binF ltW (binF addW (varE 3) (varE 4)) (retE (.int 4)))) (augSubS iaddW (varE 2) (binF addW (varE 3) (varE 4)) (binF mulW (binF subW' (varE 0) (varE 3)) (binF subW' (varE 1) (varE 4)))) (augSubS (intW (· - ·)) (varE 2) (binF subW (binF addW (varE 3) (varE 4)) (retE (.int 4))) (binF mulW (binF subW' (varE 0) (varE 3)) (binF subW' (varE 1) (varE 4))))))) (retS (callF 4 sh2 (consL (varE 2) (consL (binF addW (binF subW' (varE 0) (retE (.int 4))) (binF subW' (varE 1) (retE (.int 4)))) nilL)) nilL))))))
def d6 : FnD := ⟨("multiply" : Str), top 16, N6, [("x" : Str), ("y" : Str)], F6⟩
/-- conjugated -/
def F7 : SS := (seqS (exprS (callF 3 sh3 (consL (varE 0) (consL (retE (.str ("x" : Str))) nilL)) nilL)) (seqS (asgS (varE 0) (tupT 5 (consG (nameT 1) (consG (nameT 2) (consG (nameT 3) (consG (nameT 4) (consG (nameT 5) nilG))))))) (retS (tupF (consL (varE 1) (consL (negF (varE 4)) (consL (negF (varE 3)) (consL (negF (varE 2)) (consL (varE 5) nilL)))))))))
def d7 : FnD := ⟨("conjugated" : Str), top 17, N7, [("x" : Str)], F7⟩
/-- scalar_value -/
def F8 : SS := (seqS (ifS (notT (truF (callF 2 sh4 (consL (varE 0) nilL) nilL))) (raiseS 4 (retE (.str ("scalar is neither None nor a pair (k, j) within its bounds" : Str)))) skipS) (seqS (ifS (asB (binF (isNW false) (varE 0) (retE .non))) (retS (retE (.tup [(.int 0), (.int 0), (.int 0), (.int 0), (.int 0)]))) skipS) (seqS (asgS (varE 0) (tupT 2 (consG (nameT 1) (consG (nameT 2) nilG)))) (seqS (asgS (binF shrW (varE 1) (retE (.int 1))) (nameT 3)) (seqS (asgS (ifF (truF (binF (intW Builtin.bitAnd) (varE 1) (retE (.int 1)))) (tupF (consL (retE (.int 0)) (consL (retE (.int 1)) (consL (retE (.int 0)) (consL (negF (retE (.int 1))) nilL))))) (tupF (consL (retE (.int 1)) (consL (retE (.int 0)) (consL (retE (.int 0)) (consL (retE (.int 0)) nilL)))))) (tupT 4 (consG (nameT 4) (consG (nameT 5) (consG (nameT 6) (consG (nameT 7) nilG)))))) (seqS (forS (rngI rng1 (consL (varE 2) nilL)) (nameT 8) (asgS (tupF (consL (negF (varE 7)) (consL (varE 4) (consL (varE 5) (consL (varE 6) nilL))))) (tupT 4 (consG (nameT 4) (consG (nameT 5) (consG (nameT 6) (consG (nameT 7) nilG))))))) (seqS (ifS (asB (binF ltW (varE 3) (retE (.int 0)))) (retS (tupF (consL (varE 4) (consL (varE 5) (consL (varE 6) (consL (varE 7) (consL (negF (varE 3)) nilL))))))) skipS) (retS (tupF (consL (binF shlW (varE 4) (varE 3)) (consL (binF shlW (varE 5) (varE 3)) (consL (binF shlW (varE 6) (varE 3)) (consL (binF shlW (varE 7) (varE 3)) (consL (retE (.int 0)) nilL))))))))))))))
def d8 : FnD := ⟨("scalar_value" : Str), top 18, N8, [("scalar" : Str)], F8⟩
/-- _law_begun -/
def F9 : SS := (seqS (asgS (dispF 3 (consP (retE (.str ("great" : Str))) (lcF [2] (valI (varE 0)) (nameC 2) (asB (binF geW (varE 2) (binF powW (retE (.int 10)) (retE (.int 18))))) (varE 2)) (consP (retE (.str ("small" : Str))) (retE (.int 0)) (consP (retE (.str ("at" : Str))) (retE (.int 0)) nilP)))) (nameT 1)) (seqS (forS (valI (varE 0)) (nameT 2) (ifS (asB (binF ltW (varE 2) (binF powW (retE (.int 10)) (retE (.int 18))))) (seqS (asgS (binF addW (binF addW (binF mulW (binF subW' (varE 1) (retE (.str ("small" : Str)))) (binF powW (retE (.int 10)) (retE (.int 18)))) (binF modW (varE 2) (binF powW (retE (.int 10)) (retE (.int 18))))) (retE (.int 1))) (subT (varE 1) (retE (.str ("small" : Str))))) (asgS (binF modW (binF subW' (varE 1) (retE (.str ("small" : Str)))) (binF mulW (binF subW (binF powW (retE (.int 2)) (retE (.int 61))) (retE (.int 1))) (binF subW (binF powW (retE (.int 2)) (retE (.int 31))) (retE (.int 1))))) (subT (varE 1) (retE (.str ("small" : Str)))))) skipS)) (retS (varE 1))))
def d9 : FnD := ⟨("_law_begun" : Str), top 20, N9, [("_law_script" : Str)], F9⟩
/-- _law_draw -/
def F10 : SS := (seqS (asgS (binF subW' (varE 0) (retE (.str ("at" : Str)))) (nameT 2)) (seqS (asgS (binF addW (varE 2) (retE (.int 1))) (subT (varE 0) (retE (.str ("at" : Str))))) (seqS (ifS (asB (binF (eqW true) (binF subW' (varE 0) (retE (.str ("great" : Str)))) (lstF nilL))) (seqS (asgS (binF modW (varE 2) (bltF (un1 lenW) (consL (binF subW' (varE 0) (retE (.str ("great" : Str)))) nilL))) (nameT 3)) (seqS (asgS (binF subW' (binF subW' (varE 0) (retE (.str ("great" : Str)))) (varE 3)) (nameT 4)) (ifS (asB (binF gtW (varE 4) (retE (.int 0)))) (seqS (asgS (binF divW (varE 4) (varE 1)) (subT (binF subW' (varE 0) (retE (.str ("great" : Str)))) (varE 3))) (retS (binF modW (varE 4) (varE 1)))) skipS))) skipS) (seqS (asgS (lstF (consL (retE (.int 2147483647)) (consL (retE (.int 2147483629)) (consL (retE (.int 2147483587)) (consL (retE (.int 2147483579)) (consL (retE (.int 2147483563)) (consL (retE (.int 2147483549)) (consL (retE (.int 2147483543)) (consL (retE (.int 2147483497)) nilL))))))))) (nameT 5)) (seqS (asgS (binF modW (binF addW (binF addW (binF subW' (varE 0) (retE (.str ("small" : Str)))) (binF mulW (retE (.int 7919)) (varE 2))) (retE (.int 17))) (binF subW' (varE 5) (binF modW (varE 2) (retE (.int 8))))) (nameT 6)) (seqS (asgS (binF modW (binF addW (binF mulW (varE 6) (binF addW (retE (.int 48271)) (binF mulW (retE (.int 2)) (varE 2)))) (binF mulW (retE (.int 104729)) (varE 2))) (binF subW' (varE 5) (binF modW (varE 2) (retE (.int 8))))) (nameT 6)) (retS (binF modW (binF divW (binF modW (binF mulW (binF mulW (varE 6) (varE 6)) (varE 6)) (binF subW' (varE 5) (binF modW (varE 2) (retE (.int 8))))) (retE (.int 7))) (varE 1)))))))))
def d10 : FnD := ⟨("_law_draw" : Str), top 21, N10, [("_law_m" : Str), ("_law_many" : Str)], F10⟩
/-- _law_valid -/
def F11 : SS := (seqS (asgS (frzF (lcF [2] (rngI rng1 (consL (retE (.int 3)) nilL)) (nameC 2) yesT (binF subW (callF 10 sh5 (consL (varE 0) (consL (retE (.int 40)) nilL)) nilL) (retE (.int 20))))) (nameT 1)) (retS (tupF (consL (binF addW (binF mulW (retE (.int 2)) (binF subW' (varE 1) (retE (.int 0)))) (retE (.int 1))) (consL (binF subW' (varE 1) (retE (.int 1))) (consL (binF subW' (varE 1) (retE (.int 2))) (consL (binF subW (retE (.int 0)) (binF subW' (varE 1) (retE (.int 1)))) (consL (callF 10 sh5 (consL (varE 0) (consL (retE (.int 30)) nilL)) nilL) nilL))))))))
def d11 : FnD := ⟨("_law_valid" : Str), top 22, N11, [("_law_m" : Str)], F11⟩
/-- _law_not_a_number -/
def F12 : SS := (seqS (asgS (frzF (lstF (consL (retE .non) (consL (retE (.bl true)) (consL (retE (.int 0)) (consL (retE (.int 1)) (consL (retE (.str ("1" : Str))) (consL (retE (.str ("" : Str))) (consL (tupF nilL) (consL (slF (varE 1) noPart (somePart (retE (.int 4)))) (consL (binF addW (varE 1) (tupF (consL (retE (.int 0)) nilL))) (consL (frzF (bltF (un1 listW) (consL (varE 1) nilL))) (consL (tupF (consL (varE 1) nilL)) (consL ndctF (consL (frzF (lstF nilL)) (consL (binF addW (slF (varE 1) noPart (somePart (retE (.int 4)))) (tupF (consL (binF subW (retE (.int 0)) (retE (.int 1))) nilL))) nilL)))))))))))))))) (nameT 2)) (seqS (asgS (frzF (binF addW (varE 2) (frzF (lstF (consL (binF addW (slF (varE 1) noPart (somePart (retE (.int 4)))) (tupF (consL (retE (.int 4001)) nilL))) (consL (binF addW (slF (varE 1) noPart (somePart (retE (.int 4)))) (tupF (consL (retE (.bl true)) nilL))) (consL (binF addW (slF (varE 1) noPart (somePart (retE (.int 4)))) (tupF (consL (retE (.str ("0" : Str))) nilL))) (consL (binF addW (tupF (consL (retE .non) nilL)) (slF (varE 1) (somePart (retE (.int 1))) noPart)) (consL (tupF (consL (retE (.int 0)) (consL (retE (.int 0)) (consL (retE (.int 0)) (consL (retE (.int 0)) (consL (retE (.int 1)) nilL)))))) nilL))))))))) (nameT 2)) (seqS (asgS (frzF (binF addW (varE 2) (frzF (lstF (consL (tupF (consL (retE (.int 2)) (consL (retE (.int 4)) (consL (retE (.int 0)) (consL (retE (.int 6)) (consL (retE (.int 1)) nilL)))))) (consL (tupF (consL (retE (.int 0)) (consL (retE (.int 0)) (consL (retE (.int 0)) (consL (retE (.int 8)) (consL (retE (.int 3)) nilL)))))) (consL (binF addW (tupF (consL (retE (.bl false)) nilL)) (slF (varE 1) (somePart (retE (.int 1))) noPart)) (consL (binF addW (tupF (consL (retE (.str ("1" : Str))) nilL)) (slF (varE 1) (somePart (retE (.int 1))) noPart)) (consL (binF addW (slF (varE 1) noPart (somePart (retE (.int 2)))) (tupF (consL (binF subW' (varE 1) (retE (.int 2))) nilL))) nilL))))))))) (nameT 2)) (retS (binF subW' (varE 2) (callF 10 sh5 (consL (varE 0) (consL (bltF (un1 lenW) (consL (varE 2) nilL)) nilL)) nilL))))))
def d12 : FnD := ⟨("_law_not_a_number" : Str), top 23, N12, [("_law_m" : Str), ("_law_good" : Str)], F12⟩
/-- _law_not_a_scalar -/
def F13 : SS := (seqS (parS2 1 2 (consL (binF subW (callF 10 sh5 (consL (varE 0) (consL (retE (.int 4001)) nilL)) nilL) (retE (.int 2000))) (consL (callF 10 sh5 (consL (varE 0) (consL (retE (.int 8)) nilL)) nilL) nilL))) (seqS (asgS (frzF (lstF (consL (retE (.bl false)) (consL (retE (.int 0)) (consL (retE (.str ("" : Str))) (consL (retE (.str ("zero" : Str))) (consL (tupF nilL) (consL (tupF (consL (varE 1) nilL)) (consL (tupF (consL (varE 1) (consL (varE 2) (consL (retE (.int 0)) nilL)))) (consL (frzF (lstF (consL (varE 1) (consL (varE 2) nilL)))) (consL (tupF (consL (varE 1) (consL (retE (.int 8)) nilL))) (consL (tupF (consL (varE 1) (consL (binF subW (retE (.int 0)) (retE (.int 1))) nilL))) (consL (tupF (consL (retE (.int 2001)) (consL (varE 2) nilL))) (consL (tupF (consL (binF subW (retE (.int 0)) (retE (.int 2001))) (consL (varE 2) nilL))) nilL)))))))))))))) (nameT 3)) (seqS (asgS (frzF (binF addW (varE 3) (frzF (lstF (consL (tupF (consL (binF powW (retE (.int 10)) (retE (.int 30))) (consL (varE 2) nilL))) (consL (tupF (consL (retE (.bl true)) (consL (varE 2) nilL))) (consL (tupF (consL (varE 1) (consL (retE (.bl true)) nilL))) (consL (tupF (consL (retE .non) (consL (varE 2) nilL))) (consL (tupF (consL (varE 1) (consL (retE .non) nilL))) (consL (tupF (consL (retE (.str ("0" : Str))) (consL (varE 2) nilL))) (consL ndctF (consL (tupF (consL (varE 1) (consL (retE (.int 0)) (consL (retE (.int 0)) (consL (retE (.int 0)) (consL (retE (.int 0)) nilL)))))) (consL (tupF (consL (tupF (consL (varE 1) (consL (varE 2) nilL))) nilL)) nilL))))))))))))) (nameT 3)) (retS (binF subW' (varE 3) (callF 10 sh5 (consL (varE 0) (consL (bltF (un1 lenW) (consL (varE 3) nilL)) nilL)) nilL))))))
def d13 : FnD := ⟨("_law_not_a_scalar" : Str), top 24, N13, [("_law_m" : Str)], F13⟩
/-- _law_said -/
def F14 : SS := (seqS (asgS (retE .non) (nameT 1)) (seqS (tryK G [0, 1, 2] 2 1 (exprS (deedF 0))) (seqS (ifS (asB (binF (isNW false) (varE 1) (retE .non))) (retS (retE (.str ("" : Str)))) skipS) (seqS (ifS (orT (truF (isiFT G [(.own 1), (.own 2)] (varE 1))) (asB (binF (eqW false) (isiF G (.own 3) (varE 1)) (isiF G (.own 4) (varE 1))))) (retS (retE (.str ("other" : Str)))) skipS) (retS (ifF (truF (isiF G (.own 3) (varE 1))) (retE (.str ("number" : Str))) (retE (.str ("scalar" : Str)))))))))
def d14 : FnD := ⟨("_law_said" : Str), top 25, N14, [("_law_deed" : Str)], F14⟩
/-- law -/
def F15 : SS := (seqS (asgS (callF 9 sh17 (consL (varE 0) nilL) nilL) (nameT 1)) (seqS (forS (rngI rng1 (consL (retE (.int 20)) nilL)) (nameT 2) (seqS (asgS (callF 11 sh16 (consL (varE 1) nilL) nilL) (nameT 3)) (seqS (asgS (tupF (consL (callF 12 sh15 (consL (varE 1) (consL (varE 3) nilL)) nilL) (consL (callF 12 sh15 (consL (varE 1) (consL (varE 3) nilL)) nilL) (consL (callF 13 sh14 (consL (varE 1) nilL) nilL) nilL)))) (tupT 3 (consG (nameT 4) (consG (nameT 5) (consG (nameT 6) nilG))))) (seqS (asgS (bltF (reprW) (consL (frzF (lstF (consL (varE 3) (consL (varE 4) (consL (varE 5) (consL (varE 6) nilL)))))) nilL)) (nameT 7)) (seqS (asgS (lstF (consL (lamF 14 (callF 5 sh13 (consL (varE 4) (consL (varE 3) nilL)) nilL)) nilL)) (nameT 8)) (seqS (exprS (methF appendM (varE 8) (consL (lamF 14 (callF 5 sh13 (consL (varE 3) (consL (varE 4) nilL)) nilL)) nilL))) (seqS (exprS (methF appendM (varE 8) (consL (lamF 14 (callF 5 sh12 nilL (consL (varE 5) (consL (varE 4) nilL)))) nilL))) (seqS (exprS (methF appendM (varE 8) (consL (lamF 14 (callF 6 sh9 (consL (varE 4) (consL (varE 3) nilL)) nilL)) nilL))) (seqS (exprS (methF appendM (varE 8) (consL (lamF 14 (callF 6 sh9 (consL (varE 3) (consL (varE 4) nilL)) nilL)) nilL))) (seqS (exprS (methF appendM (varE 8) (consL (lamF 14 (callF 7 sh11 (consL (varE 4) nilL) nilL)) nilL))) (seqS (exprS (methF appendM (varE 8) (consL (lamF 14 (callF 7 sh10 nilL (consL (varE 5) nilL))) nilL))) (seqS (ifS (orT (asB (binF (eqW true) (varE 8) (frzF (binF mulW (lstF (consL (retE (.str ("number" : Str))) nilL)) (retE (.int 7)))))) (asB (binF (eqW true) (lamF 14 (callF 6 sh9 (consL (varE 3) (consL (varE 3) nilL)) nilL)) (retE (.str ("" : Str)))))) (retS (retE (.bl false))) skipS) (seqS (ifS (asB (binF (eqW true) (frzF (lstF (consL (lamF 14 (callF 8 sh8 (consL (varE 6) nilL) nilL)) (consL (lamF 14 (callF 8 sh7 nilL (consL (varE 6) nilL))) nilL)))) (frzF (binF mulW (lstF (consL (retE (.str ("scalar" : Str))) nilL)) (retE (.int 2)))))) (retS (retE (.bl false))) skipS) (ifS (asB (binF (eqW true) (bltF (reprW) (consL (frzF (lstF (consL (varE 3) (consL (varE 4) (consL (varE 5) (consL (varE 6) nilL)))))) nilL)) (varE 7))) (retS (retE (.bl false))) skipS)))))))))))))) (retS (retE (.bl true)))))
def d15 : FnD := ⟨("law" : Str), top 26, N15, [("_law_script" : Str)], F15⟩
def Ds : List FnD := [d0, d1, d2, d3, d4, d5, d6, d7, d8, d9, d10, d11, d12, d13, d14, d15]
theorem do0 : DefDo G d0 := defDo_of (by decide +kernel) (by kernel_rfl)
theorem do1 : DefDo G d1 := defDo_of (by decide +kernel) (by kernel_rfl)
theorem do2 : DefDo G d2 := defDo_of (by decide +kernel) (by kernel_rfl)
theorem do3 : DefDo G d3 := defDo_of (by decide +kernel) (by kernel_rfl)
theorem do4 : DefDo G d4 := defDo_of (by decide +kernel) (by kernel_rfl)
theorem do5 : DefDo G d5 := defDo_of (by decide +kernel) (by kernel_rfl)
theorem do6 : DefDo G d6 := defDo_of (by decide +kernel) (by kernel_rfl)
theorem do7 : DefDo G d7 := defDo_of (by decide +kernel) (by kernel_rfl)
theorem do8 : DefDo G d8 := defDo_of (by decide +kernel) (by kernel_rfl)
theorem do9 : DefDo G d9 := defDo_of (by decide +kernel) (by kernel_rfl)
theorem do10 : DefDo G d10 := defDo_of (by decide +kernel) (by kernel_rfl)
theorem do11 : DefDo G d11 := defDo_of (by decide +kernel) (by kernel_rfl)
theorem do12 : DefDo G d12 := defDo_of (by decide +kernel) (by kernel_rfl)
theorem do13 : DefDo G d13 := defDo_of (by decide +kernel) (by kernel_rfl)
theorem do14 : DefDo G d14 := defDo_of (by decide +kernel) (by kernel_rfl)
theorem do15 : DefDo G d15 := defDo_of (by decide +kernel) (by kernel_rfl)
end
end K05
namespace K05
open PySem L2 Zf Ex Ar
theorem isDraw : IsDraw d10 := ⟨rfl, rfl, rfl⟩
theorem isBegun : IsBegun d9 := ⟨rfl, rfl, rfl⟩
theorem phi {k i : Nat} {a : List W} {st : Store} {d : FnD} (h : Ds[i]? = some d) : PhiOf Ds (k + 1) i a st = callD d (PhiOf Ds k) a st := by
  simp only [PhiOf, h]
theorem dr {n : Nat} {a : List W} {st : Store} : PhiOf Ds (n + 1) 10 a st = callD d10 (PhiOf Ds n) a st := phi rfl
theorem whole_c {n : Nat} : SpWholeD (PhiOf Ds (n + 1) 0) := fun w st k d h => by rw [phi (d := d0) rfl]; exact whole_any (G := G) ⟨rfl, rfl, rfl⟩ w st k d h
theorem num_c {n : Nat} : SpNumD (PhiOf Ds (n + 2) 1) := fun w st k d h => by rw [phi (d := d1) rfl]; exact number_any (G := G) (i := 0) ⟨rfl, rfl, rfl⟩ whole_c w st k d h
theorem scal_c {n : Nat} : SpScalD (PhiOf Ds (n + 2) 2) := fun w st k d h => by rw [phi (d := d2) rfl]; exact scalar_any (G := G) (i := 0) ⟨rfl, rfl, rfl⟩ whole_c w st k d h
theorem need_no {n : Nat} {x : Str} {w : W} {st : Store} {k : Nat} {d : PyData} (h : Dk st k w d) (hw : numW w = false) (hx : x = "x" ∨ x = "y") : ∃ m, PhiOf Ds (n + 3) 3 [w, .str x] st = .er (.exc 3 m) st := by
  rw [phi (d := d3) rfl]
  refine need_bad (i := 1) (c := 3) (s := " is not a number") ⟨rfl, rfl, rfl⟩ num_c h ?_ ?_ hw <;> rcases hx with rfl | rfl <;> decide +kernel
theorem need_yes {n : Nat} {x : Str} {w : W} {st : Store} {k : Nat} {d : PyData} (h : Dk st k w d) (hw : numW w = true) : PhiOf Ds (n + 3) 3 [w, .str x] st = .ok .non st := by
  rw [phi (d := d3) rfl]
  exact need_good (i := 1) ⟨rfl, rfl, rfl⟩ num_c h hw
/-- a def that asks for two numbers -/
theorem two_bad1 {n : Nat} {dd : FnD} {R : SS} {p : Nat} (hf : IsFn dd (seqS (exprS (callF 3 sh3 (consL (varE 0) (consL (retE (.str "x")) nilL)) nilL)) R) p 2) {w v : W} {st : Store} {k : Nat} {d : PyData} (h : Dk st k w d) (hw : numW w = false) : ∃ m, callD dd (PhiOf Ds (n + 3)) [w, v] st = .er (.exc 3 m) st := by
  obtain ⟨m, e⟩ := need_no (n := n) h hw (.inl rfl)
  refine ⟨m, ?_⟩
  rw [callD_of hf rfl]
  simp [sh3, pick, e]
  exact trimO_er _ _
theorem one_bad {n : Nat} {dd : FnD} {R : SS} {p : Nat} (hf : IsFn dd (seqS (exprS (callF 3 sh3 (consL (varE 0) (consL (retE (.str "x")) nilL)) nilL)) R) p 1) {w : W} {st : Store} {k : Nat} {d : PyData} (h : Dk st k w d) (hw : numW w = false) : ∃ m, callD dd (PhiOf Ds (n + 3)) [w] st = .er (.exc 3 m) st := by
  obtain ⟨m, e⟩ := need_no (n := n) h hw (.inl rfl)
  refine ⟨m, ?_⟩
  rw [callD_of hf rfl]
  simp [sh3, pick, e]
  exact trimO_er _ _
theorem two_bad2 {n : Nat} {dd : FnD} {R : SS} {p : Nat} (hp : 2 ≤ p) (hf : IsFn dd (seqS (exprS (callF 3 sh3 (consL (varE 0) (consL (retE (.str "x")) nilL)) nilL)) (seqS (exprS (callF 3 sh3 (consL (varE 1) (consL (retE (.str "y")) nilL)) nilL)) R)) p 2) {w v : W} {st : Store} {k k' : Nat} {d d' : PyData} (h : Dk st k w d) (hw : numW w = true) (h' : Dk st k' v d') (hv : numW v = false) :
    ∃ m, callD dd (PhiOf Ds (n + 3)) [w, v] st = .er (.exc 3 m) st := by
  obtain ⟨m, e⟩ := need_no (n := n) h' hv (.inr rfl)
  have e0 := need_yes (n := n) (x := "x") h hw
  refine ⟨m, ?_⟩
  rw [callD_of hf rfl]
  simp [sh3, pick, e, e0]
  exact trimO_er _ _
theorem scal_bad {n : Nat} {w : W} {st : Store} {k : Nat} {d : PyData} (h : Dk st k w d) (hw : scalW w = false) : ∃ m, PhiOf Ds (n + 3) 8 [w] st = .er (.exc 4 m) st := by
  refine ⟨.str "scalar is neither None nor a pair (k, j) within its bounds", ?_⟩
  rw [phi (d := d8) rfl]
  have e := scal_c (n := n) w st k d h
  rw [hw] at e
  simp only [callD, d8, env0, N8]
  unfold F8
  simp [sh4, pick, e, raiseS]
  exact trimO_er _ _
/-- what _law_said answers -/
theorem said_er {n c : Nat} {Θ : (Nat → List W → Store → Out W) → Store → Out W} {st : Store} {m : W} (hc : c = 3 ∨ c = 4) (h : Θ (PhiOf Ds n).fn st = .er (.exc c m) st) : (PhiOf Ds (n + 2)).lam 14 Θ st = .ok (.str (if c = 3 then "number" else "scalar")) st := by
  have e : (PhiOf Ds (n + 2)).lam 14 Θ st = allF fun f => callD d14 ⟨(PhiOf Ds (n + 1)).fn, (PhiOf Ds (n + 1)).lo, fun _ _ _ => .bad, fun g st' => if g = f then Θ (PhiOf Ds (n + 1)).lo st' else .bad⟩ [.clo f] st := by
    show (if n + 1 = 0 then Out.bad else _) = _
    rw [if_neg (by omega)]
    rfl
  have h : Θ (PhiOf Ds (n + 1)).lo st = .er (.exc c m) st := h
  rw [e]
  refine allF_eq fun f => ?_
  simp only [callD, d14, env0, N14]
  unfold F14
  have n1 : ∀ {c : Nat}, isNonB (.exc c m) = false := rfl
  have x1 : ∀ {st : Store}, isiAny G (.exc 3 m) st [.own 1, .own 2] = some false := rfl
  have x2 : ∀ {st : Store}, isiAny G (.exc 4 m) st [.own 1, .own 2] = some false := rfl
  have y1 : ∀ {st : Store}, isiW G (.exc 3 m) st (.own 3) = some true := rfl
  have y2 : ∀ {st : Store}, isiW G (.exc 3 m) st (.own 4) = some false := rfl
  have y3 : ∀ {st : Store}, isiW G (.exc 4 m) st (.own 3) = some false := rfl
  have y4 : ∀ {st : Store}, isiW G (.exc 4 m) st (.own 4) = some true := rfl
  have e1 : excIn G 3 [0, 1, 2] = some true := rfl
  have e2 : excIn G 4 [0, 1, 2] = some true := rfl
  have q1 : ∀ {st : Store}, eqW false (.bl true) (.bl false) st = some (.bl false, st) := rfl
  have q2 : ∀ {st : Store}, eqW false (.bl false) (.bl true) st = some (.bl false, st) := rfl
  rcases hc with rfl | rfl
  · simp [tryK, deedF, h, List.replicate, e1, n1, isiFT, x1, y1, y2, q1, trimO_same]
  · simp [tryK, deedF, h, List.replicate, e2, n1, isiFT, x2, y3, y4, q2, trimO_same]
end K05
namespace K05
open PySem L2 Zf Ex Ar
/-- _law_valid -/
structure Vd (q : Nm) : Prop where
  a : q.q.a % 2 = 1 ∧ -40 ≤ q.q.a ∧ q.q.a ≤ 40
  b : -20 ≤ q.q.b ∧ q.q.b < 20
  c : -20 ≤ q.q.c ∧ q.q.c < 20
  d : -20 ≤ q.q.d ∧ q.q.d ≤ 20
  k : q.k < 30
theorem Vd.in {q : Nm} (h : Vd q) : q.In 6 30 := by
  obtain ⟨h1, h2, h3, h4, h5⟩ := h
  refine ⟨.inr ?_, ⟨by omega, by omega, by omega, by omega⟩, by omega⟩
  rw [← Bool.not_eq_true, Q4.ev_iff]
  omega
theorem Vd.num {q : Nm} (h : Vd q) : numW (nv q) = true := by
  obtain ⟨h1, h2, h3, h4, h5⟩ := h
  have k0 : (0 : Int) ≤ (q.k : Int) := by omega
  have k1 : (q.k : Int) ≤ 4000 := by omega
  simp [numW, nv, k0, k1, h1.1]
theorem valid_call {n m : Nat} {d : DS} {r : Store} (h : DOk (m + 4) d) : ∃ (q : Nm) (d' : DS), Vd q ∧ DOk m d' ∧ PhiOf Ds (n + 2) 11 [.ref 0] (stD d r) = .ok (nv q) (stD d' r) := by
  obtain ⟨ys, d1, hl, hy, h1, _, e1⟩ := lcD (count := 3) (c := 1) (m := m + 1) (it := .rng 0 1 3) (t := nameC 2) (cn := yesT (PhiOf Ds (n + 1))) (e := binF subW (callF 10 sh5 (consL (varE 0) (consL (retE (.int 40)) nilL)) nilL) (retE (.int 20)) (PhiOf Ds (n + 1))) (env := [some (.ref 0), none, none]) (d := d) (r := r)
    (fun _ w => ∃ x : Int, w = .int x ∧ -20 ≤ x ∧ x < 20) rfl (by decide) (fun _ => rfl) (fun _ w ⟨x, e, _⟩ => by subst e; rfl) (fun i d r' hi hd => by
      obtain ⟨x, d', p, q, h', e⟩ := draw_call isDraw (Φ := PhiOf Ds n) (r := r ++ r') (m := 40) (by decide) (by decide) (hd.mono (m := m + 1 + 1 * (3 - (i + 1)) + 1) (by omega))
      refine ⟨.int (0 + (i : Nat) * 1), _, rfl, rfl, rfl, .int (x - 20), d', ⟨_, rfl, by omega, by omega⟩, h', ?_⟩
      simp [sh5, pick, dr, e]) (h.mono (by omega))
  obtain ⟨x, d2, p, q, h2, e2⟩ := draw_call isDraw (Φ := PhiOf Ds n) (r := r) (m := 30) (by decide) (by decide) h1
  match ys, hl with
  | [y0, y1, y2], _ =>
    obtain ⟨a, rfl, a0, a1⟩ := hy 0 y0 rfl
    obtain ⟨b, rfl, b0, b1⟩ := hy 1 y1 rfl
    obtain ⟨c, rfl, c0, c1⟩ := hy 2 y2 rfl
    obtain ⟨k, rfl⟩ := Int.eq_ofNat_of_zero_le p
    refine ⟨⟨⟨2 * a + 1, b, c, 0 - b⟩, k⟩, d2, ⟨⟨?_, ?_, ?_⟩, ⟨b0, b1⟩, ⟨c0, c1⟩, ⟨?_, ?_⟩, ?_⟩, h2, ?_⟩
    · dsimp only; omega
    · dsimp only; omega
    · dsimp only; omega
    · dsimp only; omega
    · dsimp only; omega
    · dsimp only; omega
    · rw [phi (d := d11) rfl]
      have hr : rng1 [.int 3] = some (.rng 0 1 3) := rfl
      have hm : ∀ {st : Store}, mulW (.int 2) (.int a) st = some (.int (2 * a), st) := fun {st} => mulW_int (log2_mul (n := 2) (m := 10) (by decide) (by omega) (by decide) (by decide) (by decide))
      have i0 : ∀ {st : Store}, subW' (.klst [W.int a, .int b, .int c]) (.int 0) st = some (.int a, st) := rfl
      have i1 : ∀ {st : Store}, subW' (.klst [W.int a, .int b, .int c]) (.int 1) st = some (.int b, st) := rfl
      have i2 : ∀ {st : Store}, subW' (.klst [W.int a, .int b, .int c]) (.int 2) st = some (.int c, st) := rfl
      have e : F11 (PhiOf Ds (n + 1)) [some (.ref 0), none, none] (stD d r) = .rt (nv ⟨⟨2 * a + 1, b, c, 0 - b⟩, k⟩) (stD d2 r) := by
        unfold F11
        simp [hr, wipeE, e1, i0, i1, i2, hm, slBound]
        simp [i0, i1, i2, hm, sh5, pick, dr, e2, slBound, nv]
      simp only [callD, d11, env0, N11]
      simp [e]
      have := trim_D (d := d) (d' := d2) (r := r) (j := []) (w := nv ⟨⟨2 * a + 1, b, c, 0 - b⟩, k⟩) rfl
      simpa using this
def notNum (q : Nm) (z : W) : List W :=
  let a : W := .int q.q.a; let b : W := .int q.q.b; let c : W := .int q.q.c; let d : W := .int q.q.d; let k : W := .int (q.k : Int)
  [.non, .bl true, .int 0, .int 1, .str "1", .str "", .tup [], .tup [a, b, c, d], .tup [a, b, c, d, k, .int 0], .klst [a, b, c, d, k], .tup [nv q], z, .klst [], .tup [a, b, c, d, .int (-1)],
   .tup [a, b, c, d, .int 4001], .tup [a, b, c, d, .bl true], .tup [a, b, c, d, .str "0"], .tup [.non, b, c, d, k], .tup [.int 0, .int 0, .int 0, .int 0, .int 1],
   .tup [.int 2, .int 4, .int 0, .int 6, .int 1], .tup [.int 0, .int 0, .int 0, .int 8, .int 3], .tup [.bl false, b, c, d, k], .tup [.str "1", b, c, d, k], .tup [a, b, c]]
structure Odd (r : Store) (w : W) : Prop where
  fit : Gw r 2 40000 3 w
  num : numW w = false
theorem notNum_odd {q : Nm} (h : Vd q) {r : Store} {n : Nat} (hn : r[n]? = some (.dct [])) : ∀ w ∈ notNum q (.ref (n + 2)), Odd r w := by
  obtain ⟨h1, h2, h3, h4, h5⟩ := h
  have gi : ∀ {i : Int}, -5000 ≤ i → i ≤ 5000 → Gw r 1 2000 1 (.int i) := fun {i} a b => .int (by decide) (by
    by_cases h0 : i.natAbs = 0
    · rw [h0]; decide
    · exact Nat.lt_trans ((Nat.log2_lt h0).mpr (show i.natAbs < 2 ^ 13 by omega)) (by decide))
  have five : ∀ {ws : List W}, ws.length ≤ 6 → (∀ w ∈ ws, Gw r 1 2000 1 w) → Gw r 2 40000 3 (.tup ws) := fun {ws} hl hw => (Gw.tup (n := 6) hw hl (Nat.le_refl _) (Nat.le_refl _)).mono (by omega) (by omega) (by omega)
  have gs : ∀ {s : Str}, (reprText s).length ≤ 2000 → Gw r 1 2000 1 (.str s) := fun hs => .str hs
  have gb : ∀ {b : Bool}, Gw r 1 2000 1 (.bl b) := .bl (by decide)
  have gn : Gw r 1 2000 1 .non := .non (by decide)
  have ia := gi (i := q.q.a) (by omega) (by omega)
  have ib := gi (i := q.q.b) (by omega) (by omega)
  have ic := gi (i := q.q.c) (by omega) (by omega)
  have id := gi (i := q.q.d) (by omega) (by omega)
  have ik := gi (i := (q.k : Int)) (by omega) (by omega)
  intro w hw
  simp only [notNum, List.mem_cons, List.not_mem_nil, or_false] at hw
  rcases hw with rfl | rfl | rfl | rfl | rfl | rfl | rfl | rfl | rfl | rfl | rfl | rfl | rfl | rfl | rfl | rfl | rfl | rfl | rfl | rfl | rfl | rfl | rfl | rfl
  · exact ⟨gn.mono (by omega) (by omega) (by omega), rfl⟩
  · exact ⟨gb.mono (by omega) (by omega) (by omega), rfl⟩
  · exact ⟨(gi (by decide) (by decide)).mono (by omega) (by omega) (by omega), rfl⟩
  · exact ⟨(gi (by decide) (by decide)).mono (by omega) (by omega) (by omega), rfl⟩
  · exact ⟨(gs (by decide +kernel)).mono (by omega) (by omega) (by omega), rfl⟩
  · exact ⟨(gs (by decide +kernel)).mono (by omega) (by omega) (by omega), rfl⟩
  · exact ⟨five (by simp) (by simp), rfl⟩
  · exact ⟨five (by simp) (by simp [ia, ib, ic, id]), rfl⟩
  · exact ⟨five (by simp) (by simp [ia, ib, ic, id, ik, gi]), rfl⟩
  · exact ⟨(Gw.klst (n := 6) (k := 1) (M := 2000) (e := 1) (by simp [ia, ib, ic, id, ik]) (by simp) (Nat.le_refl _) (Nat.le_refl _)).mono (by omega) (by omega) (by omega), rfl⟩
  · exact ⟨(Gw.tup (n := 1) (k := 1) (M := 12020) (e := 2) (by simp only [List.mem_singleton]; rintro w rfl; exact Gw.tup (n := 6) (k := 1) (M := 2000) (e := 1) (by simp [ia, ib, ic, id, ik]) (by simp) (by decide) (by decide)) (by simp) (Nat.le_refl _) (Nat.le_refl _)).mono (by omega) (by omega) (by omega), rfl⟩
  · exact ⟨(Gw.ndct (k := 0) hn (M := 2000) (e := 1) (by decide) (by decide)).mono (by omega) (by omega) (by omega), rfl⟩
  · exact ⟨(Gw.klst (n := 6) (k := 1) (M := 2000) (e := 1) (by simp) (by simp) (Nat.le_refl _) (Nat.le_refl _)).mono (by omega) (by omega) (by omega), rfl⟩
  · exact ⟨five (by simp) (by simp [ia, ib, ic, id, gi]), rfl⟩
  · exact ⟨five (by simp) (by simp [ia, ib, ic, id, gi]), rfl⟩
  · exact ⟨five (by simp) (by simp [ia, ib, ic, id, gb]), rfl⟩
  · exact ⟨five (by simp) (by simp [ia, ib, ic, id]; exact gs (by decide +kernel)), rfl⟩
  · exact ⟨five (by simp) (by simp [ib, ic, id, ik, gn]), rfl⟩
  · exact ⟨five (by simp) (by simp [gi]), rfl⟩
  · exact ⟨five (by simp) (by simp [gi]), rfl⟩
  · exact ⟨five (by simp) (by simp [gi]), rfl⟩
  · exact ⟨five (by simp) (by simp [ib, ic, id, ik, gb]), rfl⟩
  · exact ⟨five (by simp) (by simp [ib, ic, id, ik]; exact gs (by decide +kernel)), rfl⟩
  · exact ⟨five (by simp) (by simp [ia, ib, ic]), rfl⟩
theorem notNum_fresh {q : Nm} {r : Store} : ∀ w ∈ notNum q (.ref (r.length + 2)), Fresh r w := by
  intro w hw
  simp only [notNum, List.mem_cons, List.not_mem_nil, or_false] at hw
  rcases hw with rfl | rfl | rfl | rfl | rfl | rfl | rfl | rfl | rfl | rfl | rfl | rfl | rfl | rfl | rfl | rfl | rfl | rfl | rfl | rfl | rfl | rfl | rfl | rfl
  all_goals first
    | exact .inl rfl
    | exact .inr (by simp [refsLt])
theorem notNumber_call {n m : Nat} {d : DS} {r : Store} {q : Nm} (hq : Vd q) (h : DOk (m + 1) d) : ∃ (w : W) (d' : DS) (g : Store), Odd (r ++ g) w ∧ DOk m d' ∧ PhiOf Ds (n + 2) 12 [.ref 0, nv q] (stD d r) = .ok w (stD d' (r ++ g)) := by
  obtain ⟨x, d1, p, hx, h1, e1⟩ := draw_call isDraw (Φ := PhiOf Ds n) (r := r ++ [.dct []]) (m := 24) (by decide) (by decide) h
  obtain ⟨i, rfl⟩ := Int.eq_ofNat_of_zero_le p
  have hi : i < 24 := by omega
  have hL : (notNum q (.ref (r.length + 2))).length = 24 := rfl
  have hi' : i < (notNum q (.ref (r.length + 2))).length := by rw [hL]; exact hi
  have e4 : ∀ {st : Store}, subW' (.klst (notNum q (.ref (r.length + 2)))) (.int (i : Int)) st = some ((notNum q (.ref (r.length + 2)))[i], st) := fun {st} => by
    simp only [subW']
    rw [atI_nat hi', List.getElem?_eq_getElem hi']
    rfl
  have hw := List.getElem_mem hi'
  generalize (notNum q (.ref (r.length + 2)))[i] = w at e4 hw
  have ho : Odd (r ++ [.dct []]) w := notNum_odd hq (n := r.length) (by simp) w hw
  obtain ⟨g2, e5, hg2⟩ := trim_fresh (d := d) (d' := d1) (r := r) (g := [.dct []]) (notNum_fresh w hw)
  refine ⟨w, d1, g2, ?_, h1, ?_⟩
  · rcases hg2 with rfl | ⟨rfl, hn⟩
    · exact ho
    · exact ⟨ho.fit.any hn, ho.num⟩
  obtain ⟨⟨a, b, c, dd⟩, k⟩ := q
  have c4 : cutW [W.int a, .int b, .int c, .int dd, .int (k : Int)] none (some 4) = [.int a, .int b, .int c, .int dd] := rfl
  have c1' : cutW [W.int a, .int b, .int c, .int dd, .int (k : Int)] (some 1) none = [.int b, .int c, .int dd, .int (k : Int)] := rfl
  have c2' : cutW [W.int a, .int b, .int c, .int dd, .int (k : Int)] none (some 2) = [.int a, .int b] := rfl
  have e : F12 (PhiOf Ds (n + 1)) [some (.ref 0), some (nv ⟨⟨a, b, c, dd⟩, k⟩), none] (stD d r) = .rt w (stD d1 (r ++ [.dct []])) := by
    unfold F12
    simp only [nv]
    have e4 : ∀ {st : Store}, subW' (.klst (notNum ⟨⟨a, b, c, dd⟩, k⟩ (.ref (r.length + 2)))) (.int (i : Int)) st = some (w, st) := fun {st} => e4
    simp only [notNum, nv] at e4
    have i2 : ∀ {st : Store}, subW' (.tup [W.int a, .int b, .int c, .int dd, .int (k : Int)]) (.int 2) st = some (.int c, st) := rfl
    simp [slW, c4, c1', c2', slBound, addW, listW, seqOf, lstOf, refsLtL, refsLt, frzO_first, frzO_one, frzO_none, i2, sh5, pick, dr, lenW, e1, e4]
  rw [phi (d := d12) rfl]
  simp only [callD, d12, env0, N12]
  simp only [List.length_cons, List.length_nil, if_true, List.map_cons, List.map_nil, List.replicate, List.cons_append, List.nil_append]
  rw [e]
  exact e5
end K05
namespace K05
open PySem L2 Zf Ex Ar
def notSc (k j : Int) (z : W) : List W :=
  [.bl false, .int 0, .str "", .str "zero", .tup [], .tup [.int k], .tup [.int k, .int j, .int 0], .klst [.int k, .int j], .tup [.int k, .int 8], .tup [.int k, .int (-1)], .tup [.int 2001, .int j], .tup [.int (-2001), .int j],
   .tup [.int 1000000000000000000000000000000, .int j], .tup [.bl true, .int j], .tup [.int k, .bl true], .tup [.non, .int j], .tup [.int k, .non], .tup [.str "0", .int j], z, .tup [.int k, .int 0, .int 0, .int 0, .int 0], .tup [.tup [.int k, .int j]]]
structure OddS (r : Store) (w : W) : Prop where
  fit : Gw r 2 40000 3 w
  num : scalW w = false
theorem notSc_odd {k j : Int} (hk : -2000 ≤ k ∧ k ≤ 2000) (hj : 0 ≤ j ∧ j < 8) {r : Store} {n : Nat} (hn : r[n]? = some (.dct [])) : ∀ w ∈ notSc k j (.ref (n + 2)), OddS r w := by
  have gi : ∀ {i : Int}, i.natAbs < 2 ^ 120 → Gw r 1 2000 1 (.int i) := fun {i} a => .int (by decide) (by
    by_cases h0 : i.natAbs = 0
    · rw [h0]; decide
    · exact Nat.lt_trans ((Nat.log2_lt h0).mpr a) (by decide))
  have five : ∀ {ws : List W}, ws.length ≤ 6 → (∀ w ∈ ws, Gw r 1 2000 1 w) → Gw r 2 40000 3 (.tup ws) := fun {ws} hl hw => (Gw.tup (n := 6) hw hl (Nat.le_refl _) (Nat.le_refl _)).mono (by omega) (by omega) (by omega)
  have gs : ∀ {s : Str}, (reprText s).length ≤ 2000 → Gw r 1 2000 1 (.str s) := fun hs => .str hs
  have gb : ∀ {b : Bool}, Gw r 1 2000 1 (.bl b) := .bl (by decide)
  have gn : Gw r 1 2000 1 .non := .non (by decide)
  have ik := gi (i := k) (by omega)
  have ij := gi (i := j) (by omega)
  have c0 : Gw r 1 2000 1 (.int 0) := gi (by decide)
  have c8 : Gw r 1 2000 1 (.int 8) := gi (by decide)
  have cm : Gw r 1 2000 1 (.int (-1)) := gi (by decide)
  have c2 : Gw r 1 2000 1 (.int 2001) := gi (by decide)
  have c3 : Gw r 1 2000 1 (.int (-2001)) := gi (by decide)
  have c4 : Gw r 1 2000 1 (.int 1000000000000000000000000000000) := gi (by decide)
  intro w hw
  simp only [notSc, List.mem_cons, List.not_mem_nil, or_false] at hw
  rcases hw with rfl | rfl | rfl | rfl | rfl | rfl | rfl | rfl | rfl | rfl | rfl | rfl | rfl | rfl | rfl | rfl | rfl | rfl | rfl | rfl | rfl
  · exact ⟨gb.mono (by omega) (by omega) (by omega), rfl⟩
  · exact ⟨c0.mono (by omega) (by omega) (by omega), rfl⟩
  · exact ⟨(gs (by decide +kernel)).mono (by omega) (by omega) (by omega), rfl⟩
  · exact ⟨(gs (by decide +kernel)).mono (by omega) (by omega) (by omega), rfl⟩
  · exact ⟨five (by simp) (by simp), rfl⟩
  · exact ⟨five (by simp) (by simp [ik]), rfl⟩
  · exact ⟨five (by simp) (by simp [ik, ij, c0]), rfl⟩
  · exact ⟨(Gw.klst (n := 6) (k := 1) (M := 2000) (e := 1) (by simp [ik, ij]) (by simp) (Nat.le_refl _) (Nat.le_refl _)).mono (by omega) (by omega) (by omega), rfl⟩
  · exact ⟨five (by simp) (by simp [ik, c8]), by simp [scalW]⟩
  · exact ⟨five (by simp) (by simp [ik, cm]), by simp [scalW]⟩
  · exact ⟨five (by simp) (by simp [ij, c2]), by simp [scalW]⟩
  · exact ⟨five (by simp) (by simp [ij, c3]), by simp [scalW]⟩
  · exact ⟨five (by simp) (by simp [ij, c4]), by simp [scalW]⟩
  · exact ⟨five (by simp) (by simp [ij, gb]), rfl⟩
  · exact ⟨five (by simp) (by simp [ik, gb]), rfl⟩
  · exact ⟨five (by simp) (by simp [ij, gn]), rfl⟩
  · exact ⟨five (by simp) (by simp [ik, gn]), rfl⟩
  · exact ⟨five (by simp) (by simp [ij]; exact gs (by decide +kernel)), rfl⟩
  · exact ⟨(Gw.ndct (k := 0) hn (M := 2000) (e := 1) (by decide) (by decide)).mono (by omega) (by omega) (by omega), rfl⟩
  · exact ⟨five (by simp) (by simp [ik, c0]), rfl⟩
  · exact ⟨(Gw.tup (n := 1) (k := 1) (M := 12020) (e := 2) (by simp only [List.mem_singleton]; rintro w rfl; exact Gw.tup (n := 6) (k := 1) (M := 2000) (e := 1) (by simp [ik, ij]) (by simp) (by decide) (by decide)) (by simp) (Nat.le_refl _) (Nat.le_refl _)).mono (by omega) (by omega) (by omega), rfl⟩
theorem notSc_fresh {k j : Int} {r : Store} : ∀ w ∈ notSc k j (.ref (r.length + 2)), Fresh r w := by
  intro w hw
  simp only [notSc, List.mem_cons, List.not_mem_nil, or_false] at hw
  rcases hw with rfl | rfl | rfl | rfl | rfl | rfl | rfl | rfl | rfl | rfl | rfl | rfl | rfl | rfl | rfl | rfl | rfl | rfl | rfl | rfl | rfl
  all_goals first
    | exact .inl rfl
    | exact .inr (by simp [refsLt])
theorem powW_10_30 {st : Store} : powW (.int 10) (.int 30) st = some (.int 1000000000000000000000000000000, st) := by
  simp only [powW]; rw [if_pos (by decide)]; rfl
theorem notScalar_call {n m : Nat} {d : DS} {r : Store} (h : DOk (m + 3) d) : ∃ (w : W) (d' : DS) (g : Store), OddS (r ++ g) w ∧ DOk m d' ∧ PhiOf Ds (n + 2) 13 [.ref 0] (stD d r) = .ok w (stD d' (r ++ g)) := by
  obtain ⟨k, dk, k0, k1, hk, ek⟩ := draw_call isDraw (Φ := PhiOf Ds n) (r := r) (m := 4001) (by decide) (by decide) (h.mono (m := m + 2 + 1) (by omega))
  obtain ⟨j, dj, j0, j1, hj, ej⟩ := draw_call isDraw (Φ := PhiOf Ds n) (r := r) (m := 8) (by decide) (by decide) (hk.mono (m := m + 1 + 1) (by omega))
  obtain ⟨x, d1, p, hx, h1, e1⟩ := draw_call isDraw (Φ := PhiOf Ds n) (r := r ++ [.dct []]) (m := 21) (by decide) (by decide) hj
  obtain ⟨i, rfl⟩ := Int.eq_ofNat_of_zero_le p
  have hi : i < 21 := by omega
  obtain ⟨kk, hkk⟩ : ∃ kk, kk = k - 2000 := ⟨_, rfl⟩
  have hL : (notSc kk j (.ref (r.length + 2))).length = 21 := rfl
  have hi' : i < (notSc kk j (.ref (r.length + 2))).length := by rw [hL]; exact hi
  have e4 : ∀ {st : Store}, subW' (.klst (notSc kk j (.ref (r.length + 2)))) (.int (i : Int)) st = some ((notSc kk j (.ref (r.length + 2)))[i], st) := fun {st} => by
    simp only [subW']
    rw [atI_nat hi', List.getElem?_eq_getElem hi']
    rfl
  have hw := List.getElem_mem hi'
  generalize (notSc kk j (.ref (r.length + 2)))[i] = w at e4 hw
  have ho : OddS (r ++ [.dct []]) w := notSc_odd (k := kk) (j := j) (by omega) (by omega) (n := r.length) (by simp) w hw
  obtain ⟨g2, e5, hg2⟩ := trim_fresh (d := d) (d' := d1) (r := r) (g := [.dct []]) (notSc_fresh w hw)
  refine ⟨w, d1, g2, ?_, h1, ?_⟩
  · rcases hg2 with rfl | ⟨rfl, hn⟩
    · exact ho
    · exact ⟨ho.fit.any hn, ho.num⟩
  have e : F13 (PhiOf Ds (n + 1)) [some (.ref 0), none, none, none] (stD d r) = .rt w (stD d1 (r ++ [.dct []])) := by
    unfold F13
    simp only [notSc] at e4
    simp [sh5, pick, dr, ek, ej, ← hkk, slBound, addW, lstOf, refsLtL, refsLt, frzO_first, frzO_one, frzO_none, powW_10_30, lenW, seqOf, e1, e4]
  rw [phi (d := d13) rfl]
  simp only [callD, d13, env0, N13]
  simp only [List.length_cons, List.length_nil, if_true, List.map_cons, List.map_nil, List.replicate, List.cons_append, List.nil_append]
  rw [e]
  exact e5
end K05
namespace K05
open PySem L2 Zf Ex Ar
theorem said_ok {n : Nat} {Θ : (Nat → List W → Store → Out W) → Store → Out W} {st : Store} {w : W} (h : Θ (PhiOf Ds n).fn st = .ok w st) : (PhiOf Ds (n + 2)).lam 14 Θ st = .ok (.str "") st := by
  have e : (PhiOf Ds (n + 2)).lam 14 Θ st = allF fun f => callD d14 ⟨(PhiOf Ds (n + 1)).fn, (PhiOf Ds (n + 1)).lo, fun _ _ _ => .bad, fun g st' => if g = f then Θ (PhiOf Ds (n + 1)).lo st' else .bad⟩ [.clo f] st := by
    show (if n + 1 = 0 then Out.bad else _) = _
    rw [if_neg (by omega)]
    rfl
  have h : Θ (PhiOf Ds (n + 1)).lo st = .ok w st := h
  rw [e]
  refine allF_eq fun f => ?_
  simp only [callD, d14, env0, N14]
  unfold F14
  have n1 : isNonB .non = true := rfl
  simp [tryK, deedF, h, List.replicate, n1, trimO_same]
/-- the turn's checks -/
structure Cks (st : Store) (g : Nm) (ba wo pa : W) : Prop where
  good : Vd g
  bad : ∃ k x, k ≤ 3 ∧ Dk st k ba x ∧ Fd 50000 5 x
  nbad : numW ba = false
  worse : ∃ k x, k ≤ 3 ∧ Dk st k wo x ∧ Fd 50000 5 x
  nworse : numW wo = false
  pair : ∃ k x, k ≤ 3 ∧ Dk st k pa x ∧ Fd 50000 5 x
  npair : scalW pa = false
theorem Cks.app {st g : Store} {q : Nm} {a b c : W} (h : Cks st q a b c) : Cks (st ++ g) q a b c := by
  obtain ⟨h1, ⟨k1, x1, a1, a2, a3⟩, h3, ⟨k2, x2, b1, b2, b3⟩, h5, ⟨k3, x3, c1, c2, c3⟩, h7⟩ := h
  exact ⟨h1, ⟨k1, x1, a1, a2.app, a3⟩, h3, ⟨k2, x2, b1, b2.app, b3⟩, h5, ⟨k3, x3, c1, c2.app, c3⟩, h7⟩
theorem dkGood {st : Store} {k : Nat} (q : Nm) : Dk st k (nv q) (.tuple [.int q.q.a, .int q.q.b, .int q.q.c, .int q.q.d, .int (q.k : Int)]) := .tup (.cons .int (.cons .int (.cons .int (.cons .int (.cons .int .nil)))))
section
variable {n : Nat} {st : Store} {g : Nm} {a b c : W} (h : Cks st g a b c)
include h
theorem add_bg : ∃ m, PhiOf Ds (n + 4) 5 [a, nv g] st = .er (.exc 3 m) st := by
  obtain ⟨k, x, _, hx, _⟩ := h.bad
  rw [phi (d := d5) rfl]
  exact two_bad1 (n := n) (p := 6) ⟨rfl, rfl, rfl⟩ hx h.nbad
theorem add_bw : ∃ m, PhiOf Ds (n + 4) 5 [a, b] st = .er (.exc 3 m) st := by
  obtain ⟨k, x, _, hx, _⟩ := h.bad
  rw [phi (d := d5) rfl]
  exact two_bad1 (n := n) (p := 6) ⟨rfl, rfl, rfl⟩ hx h.nbad
theorem add_gb : ∃ m, PhiOf Ds (n + 4) 5 [nv g, a] st = .er (.exc 3 m) st := by
  obtain ⟨k, x, _, hx, _⟩ := h.bad
  rw [phi (d := d5) rfl]
  exact two_bad2 (n := n) (p := 6) (by decide) ⟨rfl, rfl, rfl⟩ (dkGood (k := 0) g) h.good.num hx h.nbad
theorem mul_bg : ∃ m, PhiOf Ds (n + 4) 6 [a, nv g] st = .er (.exc 3 m) st := by
  obtain ⟨k, x, _, hx, _⟩ := h.bad
  rw [phi (d := d6) rfl]
  exact two_bad1 (n := n) (p := 5) ⟨rfl, rfl, rfl⟩ hx h.nbad
theorem mul_gb : ∃ m, PhiOf Ds (n + 4) 6 [nv g, a] st = .er (.exc 3 m) st := by
  obtain ⟨k, x, _, hx, _⟩ := h.bad
  rw [phi (d := d6) rfl]
  exact two_bad2 (n := n) (p := 5) (by decide) ⟨rfl, rfl, rfl⟩ (dkGood (k := 0) g) h.good.num hx h.nbad
theorem cj_b : ∃ m, PhiOf Ds (n + 4) 7 [a] st = .er (.exc 3 m) st := by
  obtain ⟨k, x, _, hx, _⟩ := h.bad
  rw [phi (d := d7) rfl]
  exact one_bad (n := n) (p := 6) ⟨rfl, rfl, rfl⟩ hx h.nbad
theorem cj_w : ∃ m, PhiOf Ds (n + 4) 7 [b] st = .er (.exc 3 m) st := by
  obtain ⟨k, x, _, hx, _⟩ := h.worse
  rw [phi (d := d7) rfl]
  exact one_bad (n := n) (p := 6) ⟨rfl, rfl, rfl⟩ hx h.nworse
theorem sv_p : ∃ m, PhiOf Ds (n + 4) 8 [c] st = .er (.exc 4 m) st := by
  obtain ⟨k, x, _, hx, _⟩ := h.pair
  exact scal_bad (n := n + 1) hx h.npair
theorem mul_gg : ∃ w, PhiOf Ds (n + 4) 6 [nv g, nv g] st = .ok w st := by
  have hn : SpNeed (PhiOf Ds (n + 3) 3) := fun q x st ho hk => by
    refine need_yes (n := n) (dkGood (k := 0) q) ?_
    have k0 : (0 : Int) ≤ (q.k : Int) := by omega
    have k1 : (q.k : Int) ≤ 4000 := by omega
    by_cases h2 : q.k = 0
    · simp [numW, nv, h2]
    · have hp := ok_odd ho h2
      simp only [numW, nv, k0, k1, decide_true, Bool.true_and]
      rw [hp, Bool.or_true]
  have hl : SpLow (PhiOf Ds (n + 3) 4) := fun q k i st hs => by
    rw [phi (d := d4) rfl]
    exact low_sp ⟨rfl, rfl, rfl⟩ q k i st hs
  rw [phi (d := d6) rfl]
  exact ⟨_, mul_sp (i := 3) (j := 4) ⟨rfl, rfl, rfl⟩ hn hl g g 6 30 st h.good.in h.good.in (by decide) (by decide)⟩
/-- what _law_said answers to each -/
theorem say {i : Nat} {F : SE} {env : Zf.Env} {as : List W} {cc : Nat} (hc : cc = 3 ∨ cc = 4) (hF : ∀ φ : Nat → List W → Store → Out W, F (noPhi φ) env st = φ i as st) (he : ∃ m, PhiOf Ds (n + 4) i as st = .er (.exc cc m) st) : lamF 14 F (PhiOf Ds (n + 6)) env st = .ok (.str (if cc = 3 then "number" else "scalar")) st := by
  obtain ⟨m, e⟩ := he
  exact said_er (n := n + 4) hc (by rw [hF]; exact e)
end

def bodyA : SS := (seqS (asgS (callF 11 sh16 (consL (varE 1) nilL) nilL) (nameT 3)) (asgS (tupF (consL (callF 12 sh15 (consL (varE 1) (consL (varE 3) nilL)) nilL) (consL (callF 12 sh15 (consL (varE 1) (consL (varE 3) nilL)) nilL) (consL (callF 13 sh14 (consL (varE 1) nilL) nilL) nilL)))) (tupT 3 (consG (nameT 4) (consG (nameT 5) (consG (nameT 6) nilG))))))
theorem fitC {r : Store} {d : DS} {w : W} (h : Gw r 2 40000 3 w) (j : Store) : ∃ k x, k ≤ 3 ∧ Dk (stD d (r ++ j)) k w x ∧ Fd 50000 5 x := by
  obtain ⟨x, h1, h2⟩ := h d j
  exact ⟨2, x, by decide, h1, h2.mono (by decide) (by decide)⟩
theorem turn_draw {n m : Nat} {d : DS} {r : Store} {s : W} {t : W} {o3 o4 o5 o6 o7 o8 : Option W} (h : DOk (m + 9) d) : ∃ (g : Nm) (a b c : W) (d' : DS) (R : Store), DOk m d' ∧ Cks (stD d' R) g a b c ∧
    bodyA (PhiOf Ds (n + 2)) [some s, some (.ref 0), some t, o3, o4, o5, o6, o7, o8] (stD d r) = .nx [some s, some (.ref 0), some t, some (nv g), some a, some b, some c, o7, o8] (stD d' R) := by
  obtain ⟨g, d1, hg, h1, e1⟩ := valid_call (n := n) (r := r) (h.mono (m := m + 5 + 4) (by omega))
  obtain ⟨a, d2, g1, ha, h2, e2⟩ := notNumber_call (n := n) (r := r) hg (h1.mono (m := m + 4 + 1) (by omega))
  obtain ⟨b, d3, g2, hb, h3, e3⟩ := notNumber_call (n := n) (r := r ++ g1) hg (h2.mono (m := m + 3 + 1) (by omega))
  obtain ⟨c, d4, g3, hc, h4, e4⟩ := notScalar_call (n := n) (r := r ++ g1 ++ g2) h3
  refine ⟨g, a, b, c, d4, r ++ g1 ++ g2 ++ g3, h4, ⟨hg, ?_, ha.num, ?_, hb.num, ?_, hc.num⟩, ?_⟩
  · rw [List.append_assoc (r ++ g1)]; exact fitC ha.fit _
  · exact fitC hb.fit _
  · have := fitC (d := d4) hc.fit []
    rwa [List.append_nil] at this
  · unfold bodyA
    simp only [List.append_assoc] at e2 e3 e4 ⊢
    simp [sh16, sh15, sh14, pick, e1, e2, e3, e4, slBound, seqOf]
def seven (x : Str) (k : Nat) : List W := List.replicate k (.str x)
noncomputable def bodyB : SS := (seqS (asgS (bltF (reprW) (consL (frzF (lstF (consL (varE 3) (consL (varE 4) (consL (varE 5) (consL (varE 6) nilL)))))) nilL)) (nameT 7)) (seqS (asgS (lstF (consL (lamF 14 (callF 5 sh13 (consL (varE 4) (consL (varE 3) nilL)) nilL)) nilL)) (nameT 8)) (seqS (exprS (methF appendM (varE 8) (consL (lamF 14 (callF 5 sh13 (consL (varE 3) (consL (varE 4) nilL)) nilL)) nilL))) (seqS (exprS (methF appendM (varE 8) (consL (lamF 14 (callF 5 sh12 nilL (consL (varE 5) (consL (varE 4) nilL)))) nilL))) (seqS (exprS (methF appendM (varE 8) (consL (lamF 14 (callF 6 sh9 (consL (varE 4) (consL (varE 3) nilL)) nilL)) nilL))) (seqS (exprS (methF appendM (varE 8) (consL (lamF 14 (callF 6 sh9 (consL (varE 3) (consL (varE 4) nilL)) nilL)) nilL))) (seqS (exprS (methF appendM (varE 8) (consL (lamF 14 (callF 7 sh11 (consL (varE 4) nilL) nilL)) nilL))) (seqS (exprS (methF appendM (varE 8) (consL (lamF 14 (callF 7 sh10 nilL (consL (varE 5) nilL))) nilL))) (seqS (ifS (orT (asB (binF (eqW true) (varE 8) (frzF (binF mulW (lstF (consL (retE (.str ("number" : Str))) nilL)) (retE (.int 7)))))) (asB (binF (eqW true) (lamF 14 (callF 6 sh9 (consL (varE 3) (consL (varE 3) nilL)) nilL)) (retE (.str ("" : Str)))))) (retS (retE (.bl false))) skipS) (seqS (ifS (asB (binF (eqW true) (frzF (lstF (consL (lamF 14 (callF 8 sh8 (consL (varE 6) nilL) nilL)) (consL (lamF 14 (callF 8 sh7 nilL (consL (varE 6) nilL))) nilL)))) (frzF (binF mulW (lstF (consL (retE (.str ("scalar" : Str))) nilL)) (retE (.int 2)))))) (retS (retE (.bl false))) skipS) (ifS (asB (binF (eqW true) (bltF (reprW) (consL (frzF (lstF (consL (varE 3) (consL (varE 4) (consL (varE 5) (consL (varE 6) nilL)))))) nilL)) (varE 7))) (retS (retE (.bl false))) skipS)))))))))))
theorem turn_check {n : Nat} {d : DS} {R : Store} {s t a b c : W} {g : Nm} {o7 o8 : Option W} (h : Cks (stD d R) g a b c) : ∃ o7' o8' : Option W, bodyB (PhiOf Ds (n + 6)) [some s, some (.ref 0), some t, some (nv g), some a, some b, some c, o7, o8] (stD d R) = .nx [some s, some (.ref 0), some t, some (nv g), some a, some b, some c, o7', o8'] (stD d (R ++ [.lst (seven "number" 7)])) := by
  obtain ⟨k1, x1, z1, a1, f1⟩ := h.bad
  obtain ⟨k2, x2, z2, a2, f2⟩ := h.worse
  obtain ⟨k3, x3, z3, a3, f3⟩ := h.pair
  have fg : Fd 50000 5 (.tuple [.int g.q.a, .int g.q.b, .int g.q.c, .int g.q.d, .int (g.k : Int)]) := by
    obtain ⟨q1, q2, q3, q4, q5⟩ := h.good
    have gi : ∀ {i : Int}, i.natAbs < 2 ^ 10 → Fd 1921 1 (.int i) := fun {i} a => .int (by decide) (by
      by_cases h0 : i.natAbs = 0
      · rw [h0]; decide
      · exact Nat.lt_trans ((Nat.log2_lt h0).mpr a) (by decide))
    refine (Fd.tuple (M := 1921) (e := 1) (n := 5) (fun x hx => ?_) (by simp)).mono (by decide) (by decide)
    simp only [List.mem_cons, List.not_mem_nil, or_false] at hx
    rcases hx with rfl | rfl | rfl | rfl | rfl <;> exact gi (by omega)
  let DD : PyData := .list [.tuple [.int g.q.a, .int g.q.b, .int g.q.c, .int g.q.d, .int (g.k : Int)], x1, x2, x3]
  have hD : Fd 300000 40 DD := (Fd.list (M := 50000) (e := 5) (n := 4) (fun x hx => by
    simp only [List.mem_cons, List.not_mem_nil, or_false] at hx
    rcases hx with rfl | rfl | rfl | rfl <;> assumption) (by simp)).mono (by decide) (by decide)
  have hk : ∀ j : Store, Dk (stD d (R ++ j)) 3 (.klst [nv g, a, b, c]) DD := fun j => by
    rw [← stD_app]
    exact .klst (.cons (dkGood g) (.cons (a1.mono z1).app (.cons (a2.mono z2).app (.cons (a3.mono z3).app .nil))))
  have hr : ∀ j : Store, reprW [.klst [nv g, a, b, c]] (stD d (R ++ j)) = some (.str DD.shown, stD d (R ++ j)) := fun j => reprW_of (hk j) (by decide) hD (by decide)
  have hr0 := hr []
  rw [List.append_nil] at hr0
  have hlt : ∀ j : Store, refsLtL (R.length + j.length + 2) [nv g, a, b, c] = true := fun j => by
    have := (hk j).lt
    simpa [refsLt, Nat.add_assoc] using this
  have hj : ∀ j : Store, Cks (stD d (R ++ j)) g a b c := fun j => by rw [← stD_app]; exact h.app
  let E := fun o7 o8 : Option W => [some s, some (.ref 0), some t, some (nv g), some a, some b, some c, o7, o8]
  have s1 : ∀ j o7 o8, lamF 14 (callF 5 sh13 (consL (varE 4) (consL (varE 3) nilL)) nilL) (PhiOf Ds (n + 6)) (E o7 o8) (stD d (R ++ j)) = .ok (.str "number") (stD d (R ++ j)) := fun j o7 o8 => say (hj j) (cc := 3) (.inl rfl) (fun φ => by simp [E, sh13, pick, noPhi]) (add_bg (hj j))
  have s2 : ∀ j o7 o8, lamF 14 (callF 5 sh13 (consL (varE 3) (consL (varE 4) nilL)) nilL) (PhiOf Ds (n + 6)) (E o7 o8) (stD d (R ++ j)) = .ok (.str "number") (stD d (R ++ j)) := fun j o7 o8 => say (hj j) (cc := 3) (.inl rfl) (fun φ => by simp [E, sh13, pick, noPhi]) (add_gb (hj j))
  have s3 : ∀ j o7 o8, lamF 14 (callF 5 sh12 nilL (consL (varE 5) (consL (varE 4) nilL))) (PhiOf Ds (n + 6)) (E o7 o8) (stD d (R ++ j)) = .ok (.str "number") (stD d (R ++ j)) := fun j o7 o8 => say (hj j) (cc := 3) (.inl rfl) (fun φ => by simp [E, sh12, pick, noPhi]) (add_bw (hj j))
  have s4 : ∀ j o7 o8, lamF 14 (callF 6 sh9 (consL (varE 4) (consL (varE 3) nilL)) nilL) (PhiOf Ds (n + 6)) (E o7 o8) (stD d (R ++ j)) = .ok (.str "number") (stD d (R ++ j)) := fun j o7 o8 => say (hj j) (cc := 3) (.inl rfl) (fun φ => by simp [E, sh9, pick, noPhi]) (mul_bg (hj j))
  have s5 : ∀ j o7 o8, lamF 14 (callF 6 sh9 (consL (varE 3) (consL (varE 4) nilL)) nilL) (PhiOf Ds (n + 6)) (E o7 o8) (stD d (R ++ j)) = .ok (.str "number") (stD d (R ++ j)) := fun j o7 o8 => say (hj j) (cc := 3) (.inl rfl) (fun φ => by simp [E, sh9, pick, noPhi]) (mul_gb (hj j))
  have s6 : ∀ j o7 o8, lamF 14 (callF 7 sh11 (consL (varE 4) nilL) nilL) (PhiOf Ds (n + 6)) (E o7 o8) (stD d (R ++ j)) = .ok (.str "number") (stD d (R ++ j)) := fun j o7 o8 => say (hj j) (cc := 3) (.inl rfl) (fun φ => by simp [E, sh11, pick, noPhi]) (cj_b (hj j))
  have s7 : ∀ j o7 o8, lamF 14 (callF 7 sh10 nilL (consL (varE 5) nilL)) (PhiOf Ds (n + 6)) (E o7 o8) (stD d (R ++ j)) = .ok (.str "number") (stD d (R ++ j)) := fun j o7 o8 => say (hj j) (cc := 3) (.inl rfl) (fun φ => by simp [E, sh10, pick, noPhi]) (cj_w (hj j))
  have s8 : ∀ j o7 o8, lamF 14 (callF 6 sh9 (consL (varE 3) (consL (varE 3) nilL)) nilL) (PhiOf Ds (n + 6)) (E o7 o8) (stD d (R ++ j)) = .ok (.str "") (stD d (R ++ j)) := fun j o7 o8 => by
    obtain ⟨w, e⟩ := mul_gg (n := n) (hj j)
    exact said_ok (n := n + 4) (w := w) (by
      have : ∀ φ : Nat → List W → Store → Out W, callF 6 sh9 (consL (varE 3) (consL (varE 3) nilL)) nilL (noPhi φ) (E o7 o8) (stD d (R ++ j)) = φ 6 [nv g, nv g] (stD d (R ++ j)) := fun φ => by simp [E, sh9, pick, noPhi]
      rw [this]; exact e)
  have s9 : ∀ j o7 o8, lamF 14 (callF 8 sh8 (consL (varE 6) nilL) nilL) (PhiOf Ds (n + 6)) (E o7 o8) (stD d (R ++ j)) = .ok (.str "scalar") (stD d (R ++ j)) := fun j o7 o8 => say (hj j) (cc := 4) (.inr rfl) (fun φ => by simp [E, sh8, pick, noPhi]) (sv_p (hj j))
  have s10 : ∀ j o7 o8, lamF 14 (callF 8 sh7 nilL (consL (varE 6) nilL)) (PhiOf Ds (n + 6)) (E o7 o8) (stD d (R ++ j)) = .ok (.str "scalar") (stD d (R ++ j)) := fun j o7 o8 => say (hj j) (cc := 4) (.inr rfl) (fun φ => by simp [E, sh7, pick, noPhi]) (sv_p (hj j))
  simp only [E] at s1 s2 s3 s4 s5 s6 s7 s8 s9 s10
  have s10' := fun o7 o8 => s1 [] o7 o8
  simp only [List.append_nil] at s10'
  have p1 : ∀ ws : List W, ws.length ≤ 20 → ws.length < slBound := fun ws h => Nat.lt_of_le_of_lt h (by decide)
  have m7 : ∀ {st : Store} {i : Nat}, st[i]? = some (.lst [.str "number"]) → mulW (.ref i) (.int 7) st = some (.ref st.length, st ++ [.lst (seven "number" 7)]) := fun {st i} e => by
    simp only [mulW, lstAt, e]
    rw [if_pos (by simp [slBound])]
    rfl
  have m2 : ∀ {st : Store} {i : Nat}, st[i]? = some (.lst [.str "scalar"]) → mulW (.ref i) (.int 2) st = some (.ref st.length, st ++ [.lst (seven "scalar" 2)]) := fun {st i} e => by
    simp only [mulW, lstAt, e]
    rw [if_pos (by simp [slBound])]
    rfl
  have q7 : ∀ {st : Store} {i : Nat}, st[i]? = some (.lst (seven "number" 7)) → eqW true (.ref i) (.klst (seven "number" 7)) st = some (.bl false, st) := fun {st i} e =>
    eqW_data (d := .list (List.replicate 7 (.str "number"))) (e := .list (List.replicate 7 (.str "number"))) (datum_lst e rfl) (datum_klst rfl) rfl ⟨by decide +kernel, by decide +kernel⟩
  have q2 : ∀ {st : Store}, eqW true (.klst (seven "scalar" 2)) (.klst (seven "scalar" 2)) st = some (.bl false, st) := fun {st} =>
    eqW_data (d := .list (List.replicate 2 (.str "scalar"))) (e := .list (List.replicate 2 (.str "scalar"))) (datum_klst rfl) (datum_klst rfl) rfl ⟨by decide +kernel, by decide +kernel⟩
  refine ⟨some (.str DD.shown), some (.ref (R.length + 2)), ?_⟩
  generalize DD.shown = sh at hr hr0
  have h0 : refsLtL (R.length + 2) [nv g, a, b, c] = true := by simpa using hlt []
  have h1 : refsLtL (R.length + 1 + 2) [nv g, a, b, c] = true := by simpa using hlt [.lst []]
  have ap : ∀ (ws : List W) (x : W), ws.length < 16777216 → appendL (.ref (R.length + 2)) [x] (stD d (R ++ [.lst ws])) = some (.non, stD d (R ++ [.lst (ws ++ [x])])) := fun ws x h => app_app h
  have f3 : ∀ (o1 o2 : SO) (ws : List W), refsLtL (R.length + 1 + 2) ws = true → frzO (stD d (R ++ [o1])) (.ok (.ref (R.length + 1 + 2 + 1)) (stD d (R ++ [o1, o2, .lst ws]))) = .ok (.klst ws) (stD d (R ++ [o1])) := fun o1 o2 ws h => frzO_three h
  have f1 : ∀ (o1 : SO) (ws : List W), refsLtL (R.length + 1 + 2) ws = true → frzO (stD d (R ++ [o1])) (.ok (.ref (R.length + 1 + 2)) (stD d (R ++ [o1, .lst ws]))) = .ok (.klst ws) (stD d (R ++ [o1])) := fun o1 ws h => frzO_one h
  have r7 : eqW true (.ref (R.length + 2)) (.klst [.str "number", .str "number", .str "number", .str "number", .str "number", .str "number", .str "number"]) (stD d (R ++ [.lst [.str "number", .str "number", .str "number", .str "number", .str "number", .str "number", .str "number"]])) = some (.bl false, stD d (R ++ [.lst [.str "number", .str "number", .str "number", .str "number", .str "number", .str "number", .str "number"]])) := q7 (by rw [stD_at]; simp [seven, List.replicate])
  have r2 : ∀ st, eqW true (.klst [.str "scalar", .str "scalar"]) (.klst [.str "scalar", .str "scalar"]) st = some (.bl false, st) := fun st => q2
  have e0 : ∀ st, eqW true (.str "") (.str "") st = some (.bl false, st) := fun st => by simp [eqW, strs2]
  have es : ∀ st, eqW true (.str sh) (.str sh) st = some (.bl false, st) := fun st => by simp [eqW, strs2]
  unfold bodyB
  simp [slBound, frzO_none h0, hr0, hr, s10', kd_app, ap, s1, s2, s3, s4, s5, s6, s7, s8, s9, s10, f3, f1, r7, r2, e0, es, frzO_one h1, refsLtL, refsLt]
  rfl
end K05
namespace K05
open PySem L2 Zf Ex Ar
theorem seqS_as {a b c : SS} {Φ : Phi} {env : Zf.Env} {st : Store} : seqS a (seqS b c) Φ env st = seqS (seqS a b) c Φ env st := by
  simp only [seqS]
  cases a Φ env st <;> rfl
noncomputable def bodyL : SS := seqS (asgS (callF 11 sh16 (consL (varE 1) nilL) nilL) (nameT 3)) (seqS (asgS (tupF (consL (callF 12 sh15 (consL (varE 1) (consL (varE 3) nilL)) nilL) (consL (callF 12 sh15 (consL (varE 1) (consL (varE 3) nilL)) nilL) (consL (callF 13 sh14 (consL (varE 1) nilL) nilL) nilL)))) (tupT 3 (consG (nameT 4) (consG (nameT 5) (consG (nameT 6) nilG))))) bodyB)
theorem turn_go {n m : Nat} {d : DS} {r : Store} {s : W} {t : W} {o3 o4 o5 o6 o7 o8 : Option W} (h : DOk (m + 9) d) : ∃ (d' : DS) (R : Store) (o3' o4' o5' o6' o7' o8' : Option W), DOk m d' ∧
    bodyL (PhiOf Ds (n + 6)) [some s, some (.ref 0), some t, o3, o4, o5, o6, o7, o8] (stD d r) = .nx [some s, some (.ref 0), some t, o3', o4', o5', o6', o7', o8'] (stD d' R) := by
  obtain ⟨g, a, b, c, d', R, h1, h2, e1⟩ := turn_draw (n := n + 4) (r := r) (s := s) (t := t) (o3 := o3) (o4 := o4) (o5 := o5) (o6 := o6) (o7 := o7) (o8 := o8) h
  obtain ⟨o7', o8', e2⟩ := turn_check (n := n) (s := s) (t := t) (o7 := o7) (o8 := o8) h2
  refine ⟨d', R ++ [.lst (seven "number" 7)], some (nv g), some a, some b, some c, o7', o8', h1, ?_⟩
  have e3 : bodyL (PhiOf Ds (n + 6)) [some s, some (.ref 0), some t, o3, o4, o5, o6, o7, o8] (stD d r) = (bodyA (PhiOf Ds (n + 6)) [some s, some (.ref 0), some t, o3, o4, o5, o6, o7, o8] (stD d r)).seq (bodyB (PhiOf Ds (n + 6))) := by
    unfold bodyL
    rw [seqS_as]
    rfl
  rw [e3, e1]
  exact e2
theorem law_go {n : Nat} {ns : List Int} (hn : ns.length ≤ 63) : ∃ st, F15 (PhiOf Ds (n + 6)) [some (.klst (ns.map .int)), none, none, none, none, none, none, none, none] [] = .rt (.bl true) st := by
  obtain ⟨d, hd, e1⟩ := begun_call isBegun (Φ := PhiOf Ds (n + 5)) hn
  have e1 : PhiOf Ds (n + 6) 9 [.klst (ns.map .int)] [] = .ok (.ref 0) (stD d []) := by rw [phi (d := d9) rfl]; exact e1
  obtain ⟨env, st, f1, o2, o3, o4, o5, o6, o7, o8, d2, r, e2, e3⟩ := forL_word (it := .rng 0 1 20) (t := nameT 2 (PhiOf Ds (n + 6))) (b := bodyL (PhiOf Ds (n + 6)))
    (fun i env st => ∃ (o2 o3 o4 o5 o6 o7 o8 : Option W) (d : DS) (r : Store), env = [some (.klst (ns.map .int)), some (.ref 0), o2, o3, o4, o5, o6, o7, o8] ∧ st = stD d r ∧ DOk (9 * (20 - i)) d)
    (fun _ _ _ => rfl) (fun i env st hi ⟨o2, o3, o4, o5, o6, o7, o8, d, r, e1, e2, hd⟩ => by
      subst e1 e2
      have hi : i < 20 := hi
      obtain ⟨d', R, o3', o4', o5', o6', o7', o8', h1, h2⟩ := turn_go (n := n) (m := 9 * (20 - (i + 1))) (r := r) (s := .klst (ns.map .int)) (t := .int (0 + (i : Nat) * 1)) (o3 := o3) (o4 := o4) (o5 := o5) (o6 := o6) (o7 := o7) (o8 := o8) (hd.mono (by omega))
      exact ⟨.int (0 + (i : Nat) * 1), _, _, rfl, rfl, _, _, .inl h2, _, _, _, _, _, _, _, _, _, rfl, rfl, h1⟩)
    (env := [some (.klst (ns.map .int)), some (.ref 0), none, none, none, none, none, none, none]) (st := stD d []) ⟨none, none, none, none, none, none, none, d, [], rfl, rfl, hd.mono (by omega)⟩
  subst e2
  obtain ⟨rfl, _⟩ := e3
  have hr : rng1 [.int 20] = some (.rng 0 1 20) := rfl
  refine ⟨stD d2 r, ?_⟩
  unfold bodyL bodyB at f1
  simp only [cntW_rng] at f1
  unfold F15
  simp [sh17, pick, e1, slBound, hr, f1, seqOf]
theorem pure (ns : List Int) (hn : ns.length ≤ 63) (_ : ∀ z ∈ ns, Builtin.Int.intBits z ≤ 1048576) : ∃ st', PhiOf Ds 12 15 [.klst (ns.map W.int)] [] = .ok (.bl true) st' := by
  obtain ⟨st, e⟩ := law_go (n := 5) hn
  obtain ⟨st2, e2⟩ := trim_ex [] st (.bl true)
  refine ⟨st2, ?_⟩
  rw [phi (d := d15) rfl]
  simp only [callD, d15, env0, N15]
  simp only [List.length_cons, List.length_nil, if_true, List.map_cons, List.map_nil, List.replicate, List.cons_append, List.nil_append]
  rw [e]
  exact e2
end K05
namespace K05
open PySem L2 Zf
theorem bd0 (kV dc pm : Value) (an : Option Addr) (cd ct : Value) (s : Shared) (us ws : List Value) (h1 : us.length = 1) (h2 : ws.length = 0) : BindsTo s (PySem.W.fnOf ("is_whole" : Str) ("is_whole" : Str) (defArgs (top 10)) (defBody (top 10)) (defScope (top 10)) .none kV dc pm an cd ct) ⟨us, sh0.ks.zip ws⟩ (d0.ps.zip (pick .none sh0.src (us ++ ws))) :=
  .of_eq (match us, ws, h1, h2 with | [_], [], _, _ => rfl)
theorem bd1 (kV dc pm : Value) (an : Option Addr) (cd ct : Value) (s : Shared) (us ws : List Value) (h1 : us.length = 1) (h2 : ws.length = 0) : BindsTo s (PySem.W.fnOf ("is_number" : Str) ("is_number" : Str) (defArgs (top 11)) (defBody (top 11)) (defScope (top 11)) .none kV dc pm an cd ct) ⟨us, sh1.ks.zip ws⟩ (d1.ps.zip (pick .none sh1.src (us ++ ws))) :=
  .of_eq (match us, ws, h1, h2 with | [_], [], _, _ => rfl)
theorem bd2 (kV dc pm : Value) (an : Option Addr) (cd ct : Value) (s : Shared) (us ws : List Value) (h1 : us.length = 2) (h2 : ws.length = 0) : BindsTo s (PySem.W.fnOf ("lowest" : Str) ("lowest" : Str) (defArgs (top 14)) (defBody (top 14)) (defScope (top 14)) .none kV dc pm an cd ct) ⟨us, sh2.ks.zip ws⟩ (d4.ps.zip (pick .none sh2.src (us ++ ws))) :=
  .of_eq (match us, ws, h1, h2 with | [_, _], [], _, _ => rfl)
theorem bd3 (kV dc pm : Value) (an : Option Addr) (cd ct : Value) (s : Shared) (us ws : List Value) (h1 : us.length = 2) (h2 : ws.length = 0) : BindsTo s (PySem.W.fnOf ("need_number" : Str) ("need_number" : Str) (defArgs (top 13)) (defBody (top 13)) (defScope (top 13)) .none kV dc pm an cd ct) ⟨us, sh3.ks.zip ws⟩ (d3.ps.zip (pick .none sh3.src (us ++ ws))) :=
  .of_eq (match us, ws, h1, h2 with | [_, _], [], _, _ => rfl)
theorem bd4 (kV dc pm : Value) (an : Option Addr) (cd ct : Value) (s : Shared) (us ws : List Value) (h1 : us.length = 1) (h2 : ws.length = 0) : BindsTo s (PySem.W.fnOf ("is_scalar" : Str) ("is_scalar" : Str) (defArgs (top 12)) (defBody (top 12)) (defScope (top 12)) .none kV dc pm an cd ct) ⟨us, sh4.ks.zip ws⟩ (d2.ps.zip (pick .none sh4.src (us ++ ws))) :=
  .of_eq (match us, ws, h1, h2 with | [_], [], _, _ => rfl)
theorem bd5 (kV dc pm : Value) (an : Option Addr) (cd ct : Value) (s : Shared) (us ws : List Value) (h1 : us.length = 2) (h2 : ws.length = 0) : BindsTo s (PySem.W.fnOf ("_law_draw" : Str) ("_law_draw" : Str) (defArgs (top 21)) (defBody (top 21)) (defScope (top 21)) .none kV dc pm an cd ct) ⟨us, sh5.ks.zip ws⟩ (d10.ps.zip (pick .none sh5.src (us ++ ws))) :=
  .of_eq (match us, ws, h1, h2 with | [_, _], [], _, _ => rfl)
theorem bd6 (kV dc pm : Value) (an : Option Addr) (cd ct : Value) (s : Shared) (us ws : List Value) (h1 : us.length = 1) (h2 : ws.length = 0) : BindsTo s (PySem.W.fnOf ("_law_said" : Str) ("_law_said" : Str) (defArgs (top 25)) (defBody (top 25)) (defScope (top 25)) .none kV dc pm an cd ct) ⟨us, sh6.ks.zip ws⟩ (d14.ps.zip (pick .none sh6.src (us ++ ws))) :=
  .of_eq (match us, ws, h1, h2 with | [_], [], _, _ => rfl)
theorem bd7 (kV dc pm : Value) (an : Option Addr) (cd ct : Value) (s : Shared) (us ws : List Value) (h1 : us.length = 0) (h2 : ws.length = 1) : BindsTo s (PySem.W.fnOf ("scalar_value" : Str) ("scalar_value" : Str) (defArgs (top 18)) (defBody (top 18)) (defScope (top 18)) .none kV dc pm an cd ct) ⟨us, sh7.ks.zip ws⟩ (d8.ps.zip (pick .none sh7.src (us ++ ws))) :=
  .of_eq (match us, ws, h1, h2 with | [], [_], _, _ => rfl)
theorem bd8 (kV dc pm : Value) (an : Option Addr) (cd ct : Value) (s : Shared) (us ws : List Value) (h1 : us.length = 1) (h2 : ws.length = 0) : BindsTo s (PySem.W.fnOf ("scalar_value" : Str) ("scalar_value" : Str) (defArgs (top 18)) (defBody (top 18)) (defScope (top 18)) .none kV dc pm an cd ct) ⟨us, sh8.ks.zip ws⟩ (d8.ps.zip (pick .none sh8.src (us ++ ws))) :=
  .of_eq (match us, ws, h1, h2 with | [_], [], _, _ => rfl)
theorem bd9 (kV dc pm : Value) (an : Option Addr) (cd ct : Value) (s : Shared) (us ws : List Value) (h1 : us.length = 2) (h2 : ws.length = 0) : BindsTo s (PySem.W.fnOf ("multiply" : Str) ("multiply" : Str) (defArgs (top 16)) (defBody (top 16)) (defScope (top 16)) .none kV dc pm an cd ct) ⟨us, sh9.ks.zip ws⟩ (d6.ps.zip (pick .none sh9.src (us ++ ws))) :=
  .of_eq (match us, ws, h1, h2 with | [_, _], [], _, _ => rfl)
theorem bd10 (kV dc pm : Value) (an : Option Addr) (cd ct : Value) (s : Shared) (us ws : List Value) (h1 : us.length = 0) (h2 : ws.length = 1) : BindsTo s (PySem.W.fnOf ("conjugated" : Str) ("conjugated" : Str) (defArgs (top 17)) (defBody (top 17)) (defScope (top 17)) .none kV dc pm an cd ct) ⟨us, sh10.ks.zip ws⟩ (d7.ps.zip (pick .none sh10.src (us ++ ws))) :=
  .of_eq (match us, ws, h1, h2 with | [], [_], _, _ => rfl)
theorem bd11 (kV dc pm : Value) (an : Option Addr) (cd ct : Value) (s : Shared) (us ws : List Value) (h1 : us.length = 1) (h2 : ws.length = 0) : BindsTo s (PySem.W.fnOf ("conjugated" : Str) ("conjugated" : Str) (defArgs (top 17)) (defBody (top 17)) (defScope (top 17)) .none kV dc pm an cd ct) ⟨us, sh11.ks.zip ws⟩ (d7.ps.zip (pick .none sh11.src (us ++ ws))) :=
  .of_eq (match us, ws, h1, h2 with | [_], [], _, _ => rfl)
theorem bd12 (kV dc pm : Value) (an : Option Addr) (cd ct : Value) (s : Shared) (us ws : List Value) (h1 : us.length = 0) (h2 : ws.length = 2) : BindsTo s (PySem.W.fnOf ("add" : Str) ("add" : Str) (defArgs (top 15)) (defBody (top 15)) (defScope (top 15)) .none kV dc pm an cd ct) ⟨us, sh12.ks.zip ws⟩ (d5.ps.zip (pick .none sh12.src (us ++ ws))) :=
  .of_eq (match us, ws, h1, h2 with | [], [_, _], _, _ => rfl)
theorem bd13 (kV dc pm : Value) (an : Option Addr) (cd ct : Value) (s : Shared) (us ws : List Value) (h1 : us.length = 2) (h2 : ws.length = 0) : BindsTo s (PySem.W.fnOf ("add" : Str) ("add" : Str) (defArgs (top 15)) (defBody (top 15)) (defScope (top 15)) .none kV dc pm an cd ct) ⟨us, sh13.ks.zip ws⟩ (d5.ps.zip (pick .none sh13.src (us ++ ws))) :=
  .of_eq (match us, ws, h1, h2 with | [_, _], [], _, _ => rfl)
theorem bd14 (kV dc pm : Value) (an : Option Addr) (cd ct : Value) (s : Shared) (us ws : List Value) (h1 : us.length = 1) (h2 : ws.length = 0) : BindsTo s (PySem.W.fnOf ("_law_not_a_scalar" : Str) ("_law_not_a_scalar" : Str) (defArgs (top 24)) (defBody (top 24)) (defScope (top 24)) .none kV dc pm an cd ct) ⟨us, sh14.ks.zip ws⟩ (d13.ps.zip (pick .none sh14.src (us ++ ws))) :=
  .of_eq (match us, ws, h1, h2 with | [_], [], _, _ => rfl)
theorem bd15 (kV dc pm : Value) (an : Option Addr) (cd ct : Value) (s : Shared) (us ws : List Value) (h1 : us.length = 2) (h2 : ws.length = 0) : BindsTo s (PySem.W.fnOf ("_law_not_a_number" : Str) ("_law_not_a_number" : Str) (defArgs (top 23)) (defBody (top 23)) (defScope (top 23)) .none kV dc pm an cd ct) ⟨us, sh15.ks.zip ws⟩ (d12.ps.zip (pick .none sh15.src (us ++ ws))) :=
  .of_eq (match us, ws, h1, h2 with | [_, _], [], _, _ => rfl)
theorem bd16 (kV dc pm : Value) (an : Option Addr) (cd ct : Value) (s : Shared) (us ws : List Value) (h1 : us.length = 1) (h2 : ws.length = 0) : BindsTo s (PySem.W.fnOf ("_law_valid" : Str) ("_law_valid" : Str) (defArgs (top 22)) (defBody (top 22)) (defScope (top 22)) .none kV dc pm an cd ct) ⟨us, sh16.ks.zip ws⟩ (d11.ps.zip (pick .none sh16.src (us ++ ws))) :=
  .of_eq (match us, ws, h1, h2 with | [_], [], _, _ => rfl)
theorem bd17 (kV dc pm : Value) (an : Option Addr) (cd ct : Value) (s : Shared) (us ws : List Value) (h1 : us.length = 1) (h2 : ws.length = 0) : BindsTo s (PySem.W.fnOf ("_law_begun" : Str) ("_law_begun" : Str) (defArgs (top 20)) (defBody (top 20)) (defScope (top 20)) .none kV dc pm an cd ct) ⟨us, sh17.ks.zip ws⟩ (d9.ps.zip (pick .none sh17.src (us ++ ws))) :=
  .of_eq (match us, ws, h1, h2 with | [_], [], _, _ => rfl)
theorem at0 {K : PySem.W.Frag} {cs : List (Addr × Str)} {h : Heap} {mg : Str → Option Value} {f : Addr} {od an : Option Addr} {sl : Array (Option Value)} {oc kV dc pm cd ct : Value} (X : K.In h) (Gn : h.Ns mainGlobals mg) (a : PySem.W.nsIn K mainGlobals ("is_whole" : Str) = some (some (.ref f))) (l : K.lookup f = some ⟨oc, od, .func (PySem.W.fnOf ("is_whole" : Str) ("is_whole" : Str) (defArgs (top 10)) (defBody (top 10)) (defScope (top 10)) .none kV dc pm an cd ct), sl⟩) (c : PySem.W.codeIn K cd ("is_whole" : Str) = true) (k : PySem.W.keepIn K (.ref f) = true) {T : List (Addr × Str)} : DefAt G (Bk.of K cs T) mg 0 d0 := by
  refine ⟨⟨f, _, PySem.W.mg_of X Gn a, fun_mk (st := top 10) l c k, fun c hc hi s us ws _ h1 h2 => ?_⟩, ?_⟩
  · skip
    simp only [G, List.mem_cons, List.not_mem_nil, or_false] at hc
    rcases hc with hc | hc | hc | hc | hc | hc | hc | hc | hc | hc | hc | hc | hc | hc | hc | hc | hc | hc
    · subst hc; exact bd0 _ _ _ _ _ _ s us ws h1 h2
    · subst hc; exact absurd hi (by decide)
    · subst hc; exact absurd hi (by decide)
    · subst hc; exact absurd hi (by decide)
    · subst hc; exact absurd hi (by decide)
    · subst hc; exact absurd hi (by decide)
    · subst hc; exact absurd hi (by decide)
    · subst hc; exact absurd hi (by decide)
    · subst hc; exact absurd hi (by decide)
    · subst hc; exact absurd hi (by decide)
    · subst hc; exact absurd hi (by decide)
    · subst hc; exact absurd hi (by decide)
    · subst hc; exact absurd hi (by decide)
    · subst hc; exact absurd hi (by decide)
    · subst hc; exact absurd hi (by decide)
    · subst hc; exact absurd hi (by decide)
    · subst hc; exact absurd hi (by decide)
    · subst hc; exact absurd hi (by decide)
  · exact fun h => absurd h (by decide)
theorem at1 {K : PySem.W.Frag} {cs : List (Addr × Str)} {h : Heap} {mg : Str → Option Value} {f : Addr} {od an : Option Addr} {sl : Array (Option Value)} {oc kV dc pm cd ct : Value} (X : K.In h) (Gn : h.Ns mainGlobals mg) (a : PySem.W.nsIn K mainGlobals ("is_number" : Str) = some (some (.ref f))) (l : K.lookup f = some ⟨oc, od, .func (PySem.W.fnOf ("is_number" : Str) ("is_number" : Str) (defArgs (top 11)) (defBody (top 11)) (defScope (top 11)) .none kV dc pm an cd ct), sl⟩) (c : PySem.W.codeIn K cd ("is_number" : Str) = true) (k : PySem.W.keepIn K (.ref f) = true) {T : List (Addr × Str)} : DefAt G (Bk.of K cs T) mg 1 d1 := by
  refine ⟨⟨f, _, PySem.W.mg_of X Gn a, fun_mk (st := top 11) l c k, fun c hc hi s us ws _ h1 h2 => ?_⟩, ?_⟩
  · skip
    simp only [G, List.mem_cons, List.not_mem_nil, or_false] at hc
    rcases hc with hc | hc | hc | hc | hc | hc | hc | hc | hc | hc | hc | hc | hc | hc | hc | hc | hc | hc
    · subst hc; exact absurd hi (by decide)
    · subst hc; exact bd1 _ _ _ _ _ _ s us ws h1 h2
    · subst hc; exact absurd hi (by decide)
    · subst hc; exact absurd hi (by decide)
    · subst hc; exact absurd hi (by decide)
    · subst hc; exact absurd hi (by decide)
    · subst hc; exact absurd hi (by decide)
    · subst hc; exact absurd hi (by decide)
    · subst hc; exact absurd hi (by decide)
    · subst hc; exact absurd hi (by decide)
    · subst hc; exact absurd hi (by decide)
    · subst hc; exact absurd hi (by decide)
    · subst hc; exact absurd hi (by decide)
    · subst hc; exact absurd hi (by decide)
    · subst hc; exact absurd hi (by decide)
    · subst hc; exact absurd hi (by decide)
    · subst hc; exact absurd hi (by decide)
    · subst hc; exact absurd hi (by decide)
  · exact fun h => absurd h (by decide)
theorem at2 {K : PySem.W.Frag} {cs : List (Addr × Str)} {h : Heap} {mg : Str → Option Value} {f : Addr} {od an : Option Addr} {sl : Array (Option Value)} {oc kV dc pm cd ct : Value} (X : K.In h) (Gn : h.Ns mainGlobals mg) (a : PySem.W.nsIn K mainGlobals ("is_scalar" : Str) = some (some (.ref f))) (l : K.lookup f = some ⟨oc, od, .func (PySem.W.fnOf ("is_scalar" : Str) ("is_scalar" : Str) (defArgs (top 12)) (defBody (top 12)) (defScope (top 12)) .none kV dc pm an cd ct), sl⟩) (c : PySem.W.codeIn K cd ("is_scalar" : Str) = true) (k : PySem.W.keepIn K (.ref f) = true) {T : List (Addr × Str)} : DefAt G (Bk.of K cs T) mg 2 d2 := by
  refine ⟨⟨f, _, PySem.W.mg_of X Gn a, fun_mk (st := top 12) l c k, fun c hc hi s us ws _ h1 h2 => ?_⟩, ?_⟩
  · skip
    simp only [G, List.mem_cons, List.not_mem_nil, or_false] at hc
    rcases hc with hc | hc | hc | hc | hc | hc | hc | hc | hc | hc | hc | hc | hc | hc | hc | hc | hc | hc
    · subst hc; exact absurd hi (by decide)
    · subst hc; exact absurd hi (by decide)
    · subst hc; exact absurd hi (by decide)
    · subst hc; exact absurd hi (by decide)
    · subst hc; exact bd4 _ _ _ _ _ _ s us ws h1 h2
    · subst hc; exact absurd hi (by decide)
    · subst hc; exact absurd hi (by decide)
    · subst hc; exact absurd hi (by decide)
    · subst hc; exact absurd hi (by decide)
    · subst hc; exact absurd hi (by decide)
    · subst hc; exact absurd hi (by decide)
    · subst hc; exact absurd hi (by decide)
    · subst hc; exact absurd hi (by decide)
    · subst hc; exact absurd hi (by decide)
    · subst hc; exact absurd hi (by decide)
    · subst hc; exact absurd hi (by decide)
    · subst hc; exact absurd hi (by decide)
    · subst hc; exact absurd hi (by decide)
  · exact fun h => absurd h (by decide)
theorem at3 {K : PySem.W.Frag} {cs : List (Addr × Str)} {h : Heap} {mg : Str → Option Value} {f : Addr} {od an : Option Addr} {sl : Array (Option Value)} {oc kV dc pm cd ct : Value} (X : K.In h) (Gn : h.Ns mainGlobals mg) (a : PySem.W.nsIn K mainGlobals ("need_number" : Str) = some (some (.ref f))) (l : K.lookup f = some ⟨oc, od, .func (PySem.W.fnOf ("need_number" : Str) ("need_number" : Str) (defArgs (top 13)) (defBody (top 13)) (defScope (top 13)) .none kV dc pm an cd ct), sl⟩) (c : PySem.W.codeIn K cd ("need_number" : Str) = true) (k : PySem.W.keepIn K (.ref f) = true) {T : List (Addr × Str)} : DefAt G (Bk.of K cs T) mg 3 d3 := by
  refine ⟨⟨f, _, PySem.W.mg_of X Gn a, fun_mk (st := top 13) l c k, fun c hc hi s us ws _ h1 h2 => ?_⟩, ?_⟩
  · skip
    simp only [G, List.mem_cons, List.not_mem_nil, or_false] at hc
    rcases hc with hc | hc | hc | hc | hc | hc | hc | hc | hc | hc | hc | hc | hc | hc | hc | hc | hc | hc
    · subst hc; exact absurd hi (by decide)
    · subst hc; exact absurd hi (by decide)
    · subst hc; exact absurd hi (by decide)
    · subst hc; exact bd3 _ _ _ _ _ _ s us ws h1 h2
    · subst hc; exact absurd hi (by decide)
    · subst hc; exact absurd hi (by decide)
    · subst hc; exact absurd hi (by decide)
    · subst hc; exact absurd hi (by decide)
    · subst hc; exact absurd hi (by decide)
    · subst hc; exact absurd hi (by decide)
    · subst hc; exact absurd hi (by decide)
    · subst hc; exact absurd hi (by decide)
    · subst hc; exact absurd hi (by decide)
    · subst hc; exact absurd hi (by decide)
    · subst hc; exact absurd hi (by decide)
    · subst hc; exact absurd hi (by decide)
    · subst hc; exact absurd hi (by decide)
    · subst hc; exact absurd hi (by decide)
  · exact fun h => absurd h (by decide)
theorem at4 {K : PySem.W.Frag} {cs : List (Addr × Str)} {h : Heap} {mg : Str → Option Value} {f : Addr} {od an : Option Addr} {sl : Array (Option Value)} {oc kV dc pm cd ct : Value} (X : K.In h) (Gn : h.Ns mainGlobals mg) (a : PySem.W.nsIn K mainGlobals ("lowest" : Str) = some (some (.ref f))) (l : K.lookup f = some ⟨oc, od, .func (PySem.W.fnOf ("lowest" : Str) ("lowest" : Str) (defArgs (top 14)) (defBody (top 14)) (defScope (top 14)) .none kV dc pm an cd ct), sl⟩) (c : PySem.W.codeIn K cd ("lowest" : Str) = true) (k : PySem.W.keepIn K (.ref f) = true) {T : List (Addr × Str)} : DefAt G (Bk.of K cs T) mg 4 d4 := by
  refine ⟨⟨f, _, PySem.W.mg_of X Gn a, fun_mk (st := top 14) l c k, fun c hc hi s us ws _ h1 h2 => ?_⟩, ?_⟩
  · skip
    simp only [G, List.mem_cons, List.not_mem_nil, or_false] at hc
    rcases hc with hc | hc | hc | hc | hc | hc | hc | hc | hc | hc | hc | hc | hc | hc | hc | hc | hc | hc
    · subst hc; exact absurd hi (by decide)
    · subst hc; exact absurd hi (by decide)
    · subst hc; exact bd2 _ _ _ _ _ _ s us ws h1 h2
    · subst hc; exact absurd hi (by decide)
    · subst hc; exact absurd hi (by decide)
    · subst hc; exact absurd hi (by decide)
    · subst hc; exact absurd hi (by decide)
    · subst hc; exact absurd hi (by decide)
    · subst hc; exact absurd hi (by decide)
    · subst hc; exact absurd hi (by decide)
    · subst hc; exact absurd hi (by decide)
    · subst hc; exact absurd hi (by decide)
    · subst hc; exact absurd hi (by decide)
    · subst hc; exact absurd hi (by decide)
    · subst hc; exact absurd hi (by decide)
    · subst hc; exact absurd hi (by decide)
    · subst hc; exact absurd hi (by decide)
    · subst hc; exact absurd hi (by decide)
  · exact fun h => absurd h (by decide)
theorem at5 {K : PySem.W.Frag} {cs : List (Addr × Str)} {h : Heap} {mg : Str → Option Value} {f : Addr} {od an : Option Addr} {sl : Array (Option Value)} {oc kV dc pm cd ct : Value} (X : K.In h) (Gn : h.Ns mainGlobals mg) (a : PySem.W.nsIn K mainGlobals ("add" : Str) = some (some (.ref f))) (l : K.lookup f = some ⟨oc, od, .func (PySem.W.fnOf ("add" : Str) ("add" : Str) (defArgs (top 15)) (defBody (top 15)) (defScope (top 15)) .none kV dc pm an cd ct), sl⟩) (c : PySem.W.codeIn K cd ("add" : Str) = true) (k : PySem.W.keepIn K (.ref f) = true) {T : List (Addr × Str)} : DefAt G (Bk.of K cs T) mg 5 d5 := by
  refine ⟨⟨f, _, PySem.W.mg_of X Gn a, fun_mk (st := top 15) l c k, fun c hc hi s us ws _ h1 h2 => ?_⟩, ?_⟩
  · skip
    simp only [G, List.mem_cons, List.not_mem_nil, or_false] at hc
    rcases hc with hc | hc | hc | hc | hc | hc | hc | hc | hc | hc | hc | hc | hc | hc | hc | hc | hc | hc
    · subst hc; exact absurd hi (by decide)
    · subst hc; exact absurd hi (by decide)
    · subst hc; exact absurd hi (by decide)
    · subst hc; exact absurd hi (by decide)
    · subst hc; exact absurd hi (by decide)
    · subst hc; exact absurd hi (by decide)
    · subst hc; exact absurd hi (by decide)
    · subst hc; exact absurd hi (by decide)
    · subst hc; exact absurd hi (by decide)
    · subst hc; exact absurd hi (by decide)
    · subst hc; exact absurd hi (by decide)
    · subst hc; exact absurd hi (by decide)
    · subst hc; exact bd12 _ _ _ _ _ _ s us ws h1 h2
    · subst hc; exact bd13 _ _ _ _ _ _ s us ws h1 h2
    · subst hc; exact absurd hi (by decide)
    · subst hc; exact absurd hi (by decide)
    · subst hc; exact absurd hi (by decide)
    · subst hc; exact absurd hi (by decide)
  · exact fun h => absurd h (by decide)
theorem at6 {K : PySem.W.Frag} {cs : List (Addr × Str)} {h : Heap} {mg : Str → Option Value} {f : Addr} {od an : Option Addr} {sl : Array (Option Value)} {oc kV dc pm cd ct : Value} (X : K.In h) (Gn : h.Ns mainGlobals mg) (a : PySem.W.nsIn K mainGlobals ("multiply" : Str) = some (some (.ref f))) (l : K.lookup f = some ⟨oc, od, .func (PySem.W.fnOf ("multiply" : Str) ("multiply" : Str) (defArgs (top 16)) (defBody (top 16)) (defScope (top 16)) .none kV dc pm an cd ct), sl⟩) (c : PySem.W.codeIn K cd ("multiply" : Str) = true) (k : PySem.W.keepIn K (.ref f) = true) {T : List (Addr × Str)} : DefAt G (Bk.of K cs T) mg 6 d6 := by
  refine ⟨⟨f, _, PySem.W.mg_of X Gn a, fun_mk (st := top 16) l c k, fun c hc hi s us ws _ h1 h2 => ?_⟩, ?_⟩
  · skip
    simp only [G, List.mem_cons, List.not_mem_nil, or_false] at hc
    rcases hc with hc | hc | hc | hc | hc | hc | hc | hc | hc | hc | hc | hc | hc | hc | hc | hc | hc | hc
    · subst hc; exact absurd hi (by decide)
    · subst hc; exact absurd hi (by decide)
    · subst hc; exact absurd hi (by decide)
    · subst hc; exact absurd hi (by decide)
    · subst hc; exact absurd hi (by decide)
    · subst hc; exact absurd hi (by decide)
    · subst hc; exact absurd hi (by decide)
    · subst hc; exact absurd hi (by decide)
    · subst hc; exact absurd hi (by decide)
    · subst hc; exact bd9 _ _ _ _ _ _ s us ws h1 h2
    · subst hc; exact absurd hi (by decide)
    · subst hc; exact absurd hi (by decide)
    · subst hc; exact absurd hi (by decide)
    · subst hc; exact absurd hi (by decide)
    · subst hc; exact absurd hi (by decide)
    · subst hc; exact absurd hi (by decide)
    · subst hc; exact absurd hi (by decide)
    · subst hc; exact absurd hi (by decide)
  · exact fun h => absurd h (by decide)
theorem at7 {K : PySem.W.Frag} {cs : List (Addr × Str)} {h : Heap} {mg : Str → Option Value} {f : Addr} {od an : Option Addr} {sl : Array (Option Value)} {oc kV dc pm cd ct : Value} (X : K.In h) (Gn : h.Ns mainGlobals mg) (a : PySem.W.nsIn K mainGlobals ("conjugated" : Str) = some (some (.ref f))) (l : K.lookup f = some ⟨oc, od, .func (PySem.W.fnOf ("conjugated" : Str) ("conjugated" : Str) (defArgs (top 17)) (defBody (top 17)) (defScope (top 17)) .none kV dc pm an cd ct), sl⟩) (c : PySem.W.codeIn K cd ("conjugated" : Str) = true) (k : PySem.W.keepIn K (.ref f) = true) {T : List (Addr × Str)} : DefAt G (Bk.of K cs T) mg 7 d7 := by
  refine ⟨⟨f, _, PySem.W.mg_of X Gn a, fun_mk (st := top 17) l c k, fun c hc hi s us ws _ h1 h2 => ?_⟩, ?_⟩
  · skip
    simp only [G, List.mem_cons, List.not_mem_nil, or_false] at hc
    rcases hc with hc | hc | hc | hc | hc | hc | hc | hc | hc | hc | hc | hc | hc | hc | hc | hc | hc | hc
    · subst hc; exact absurd hi (by decide)
    · subst hc; exact absurd hi (by decide)
    · subst hc; exact absurd hi (by decide)
    · subst hc; exact absurd hi (by decide)
    · subst hc; exact absurd hi (by decide)
    · subst hc; exact absurd hi (by decide)
    · subst hc; exact absurd hi (by decide)
    · subst hc; exact absurd hi (by decide)
    · subst hc; exact absurd hi (by decide)
    · subst hc; exact absurd hi (by decide)
    · subst hc; exact bd10 _ _ _ _ _ _ s us ws h1 h2
    · subst hc; exact bd11 _ _ _ _ _ _ s us ws h1 h2
    · subst hc; exact absurd hi (by decide)
    · subst hc; exact absurd hi (by decide)
    · subst hc; exact absurd hi (by decide)
    · subst hc; exact absurd hi (by decide)
    · subst hc; exact absurd hi (by decide)
    · subst hc; exact absurd hi (by decide)
  · exact fun h => absurd h (by decide)
theorem at8 {K : PySem.W.Frag} {cs : List (Addr × Str)} {h : Heap} {mg : Str → Option Value} {f : Addr} {od an : Option Addr} {sl : Array (Option Value)} {oc kV dc pm cd ct : Value} (X : K.In h) (Gn : h.Ns mainGlobals mg) (a : PySem.W.nsIn K mainGlobals ("scalar_value" : Str) = some (some (.ref f))) (l : K.lookup f = some ⟨oc, od, .func (PySem.W.fnOf ("scalar_value" : Str) ("scalar_value" : Str) (defArgs (top 18)) (defBody (top 18)) (defScope (top 18)) .none kV dc pm an cd ct), sl⟩) (c : PySem.W.codeIn K cd ("scalar_value" : Str) = true) (k : PySem.W.keepIn K (.ref f) = true) {T : List (Addr × Str)} : DefAt G (Bk.of K cs T) mg 8 d8 := by
  refine ⟨⟨f, _, PySem.W.mg_of X Gn a, fun_mk (st := top 18) l c k, fun c hc hi s us ws _ h1 h2 => ?_⟩, ?_⟩
  · skip
    simp only [G, List.mem_cons, List.not_mem_nil, or_false] at hc
    rcases hc with hc | hc | hc | hc | hc | hc | hc | hc | hc | hc | hc | hc | hc | hc | hc | hc | hc | hc
    · subst hc; exact absurd hi (by decide)
    · subst hc; exact absurd hi (by decide)
    · subst hc; exact absurd hi (by decide)
    · subst hc; exact absurd hi (by decide)
    · subst hc; exact absurd hi (by decide)
    · subst hc; exact absurd hi (by decide)
    · subst hc; exact absurd hi (by decide)
    · subst hc; exact bd7 _ _ _ _ _ _ s us ws h1 h2
    · subst hc; exact bd8 _ _ _ _ _ _ s us ws h1 h2
    · subst hc; exact absurd hi (by decide)
    · subst hc; exact absurd hi (by decide)
    · subst hc; exact absurd hi (by decide)
    · subst hc; exact absurd hi (by decide)
    · subst hc; exact absurd hi (by decide)
    · subst hc; exact absurd hi (by decide)
    · subst hc; exact absurd hi (by decide)
    · subst hc; exact absurd hi (by decide)
    · subst hc; exact absurd hi (by decide)
  · exact fun h => absurd h (by decide)
theorem at9 {K : PySem.W.Frag} {cs : List (Addr × Str)} {h : Heap} {mg : Str → Option Value} {f : Addr} {od an : Option Addr} {sl : Array (Option Value)} {oc kV dc pm cd ct : Value} (X : K.In h) (Gn : h.Ns mainGlobals mg) (a : PySem.W.nsIn K mainGlobals ("_law_begun" : Str) = some (some (.ref f))) (l : K.lookup f = some ⟨oc, od, .func (PySem.W.fnOf ("_law_begun" : Str) ("_law_begun" : Str) (defArgs (top 20)) (defBody (top 20)) (defScope (top 20)) .none kV dc pm an cd ct), sl⟩) (c : PySem.W.codeIn K cd ("_law_begun" : Str) = true) (k : PySem.W.keepIn K (.ref f) = true) {T : List (Addr × Str)} : DefAt G (Bk.of K cs T) mg 9 d9 := by
  refine ⟨⟨f, _, PySem.W.mg_of X Gn a, fun_mk (st := top 20) l c k, fun c hc hi s us ws _ h1 h2 => ?_⟩, ?_⟩
  · skip
    simp only [G, List.mem_cons, List.not_mem_nil, or_false] at hc
    rcases hc with hc | hc | hc | hc | hc | hc | hc | hc | hc | hc | hc | hc | hc | hc | hc | hc | hc | hc
    · subst hc; exact absurd hi (by decide)
    · subst hc; exact absurd hi (by decide)
    · subst hc; exact absurd hi (by decide)
    · subst hc; exact absurd hi (by decide)
    · subst hc; exact absurd hi (by decide)
    · subst hc; exact absurd hi (by decide)
    · subst hc; exact absurd hi (by decide)
    · subst hc; exact absurd hi (by decide)
    · subst hc; exact absurd hi (by decide)
    · subst hc; exact absurd hi (by decide)
    · subst hc; exact absurd hi (by decide)
    · subst hc; exact absurd hi (by decide)
    · subst hc; exact absurd hi (by decide)
    · subst hc; exact absurd hi (by decide)
    · subst hc; exact absurd hi (by decide)
    · subst hc; exact absurd hi (by decide)
    · subst hc; exact absurd hi (by decide)
    · subst hc; exact bd17 _ _ _ _ _ _ s us ws h1 h2
  · exact fun h => absurd h (by decide)
theorem at10 {K : PySem.W.Frag} {cs : List (Addr × Str)} {h : Heap} {mg : Str → Option Value} {f : Addr} {od an : Option Addr} {sl : Array (Option Value)} {oc kV dc pm cd ct : Value} (X : K.In h) (Gn : h.Ns mainGlobals mg) (a : PySem.W.nsIn K mainGlobals ("_law_draw" : Str) = some (some (.ref f))) (l : K.lookup f = some ⟨oc, od, .func (PySem.W.fnOf ("_law_draw" : Str) ("_law_draw" : Str) (defArgs (top 21)) (defBody (top 21)) (defScope (top 21)) .none kV dc pm an cd ct), sl⟩) (c : PySem.W.codeIn K cd ("_law_draw" : Str) = true) (k : PySem.W.keepIn K (.ref f) = true) {T : List (Addr × Str)} : DefAt G (Bk.of K cs T) mg 10 d10 := by
  refine ⟨⟨f, _, PySem.W.mg_of X Gn a, fun_mk (st := top 21) l c k, fun c hc hi s us ws _ h1 h2 => ?_⟩, ?_⟩
  · skip
    simp only [G, List.mem_cons, List.not_mem_nil, or_false] at hc
    rcases hc with hc | hc | hc | hc | hc | hc | hc | hc | hc | hc | hc | hc | hc | hc | hc | hc | hc | hc
    · subst hc; exact absurd hi (by decide)
    · subst hc; exact absurd hi (by decide)
    · subst hc; exact absurd hi (by decide)
    · subst hc; exact absurd hi (by decide)
    · subst hc; exact absurd hi (by decide)
    · subst hc; exact bd5 _ _ _ _ _ _ s us ws h1 h2
    · subst hc; exact absurd hi (by decide)
    · subst hc; exact absurd hi (by decide)
    · subst hc; exact absurd hi (by decide)
    · subst hc; exact absurd hi (by decide)
    · subst hc; exact absurd hi (by decide)
    · subst hc; exact absurd hi (by decide)
    · subst hc; exact absurd hi (by decide)
    · subst hc; exact absurd hi (by decide)
    · subst hc; exact absurd hi (by decide)
    · subst hc; exact absurd hi (by decide)
    · subst hc; exact absurd hi (by decide)
    · subst hc; exact absurd hi (by decide)
  · exact fun h => absurd h (by decide)
theorem at11 {K : PySem.W.Frag} {cs : List (Addr × Str)} {h : Heap} {mg : Str → Option Value} {f : Addr} {od an : Option Addr} {sl : Array (Option Value)} {oc kV dc pm cd ct : Value} (X : K.In h) (Gn : h.Ns mainGlobals mg) (a : PySem.W.nsIn K mainGlobals ("_law_valid" : Str) = some (some (.ref f))) (l : K.lookup f = some ⟨oc, od, .func (PySem.W.fnOf ("_law_valid" : Str) ("_law_valid" : Str) (defArgs (top 22)) (defBody (top 22)) (defScope (top 22)) .none kV dc pm an cd ct), sl⟩) (c : PySem.W.codeIn K cd ("_law_valid" : Str) = true) (k : PySem.W.keepIn K (.ref f) = true) {T : List (Addr × Str)} : DefAt G (Bk.of K cs T) mg 11 d11 := by
  refine ⟨⟨f, _, PySem.W.mg_of X Gn a, fun_mk (st := top 22) l c k, fun c hc hi s us ws _ h1 h2 => ?_⟩, ?_⟩
  · skip
    simp only [G, List.mem_cons, List.not_mem_nil, or_false] at hc
    rcases hc with hc | hc | hc | hc | hc | hc | hc | hc | hc | hc | hc | hc | hc | hc | hc | hc | hc | hc
    · subst hc; exact absurd hi (by decide)
    · subst hc; exact absurd hi (by decide)
    · subst hc; exact absurd hi (by decide)
    · subst hc; exact absurd hi (by decide)
    · subst hc; exact absurd hi (by decide)
    · subst hc; exact absurd hi (by decide)
    · subst hc; exact absurd hi (by decide)
    · subst hc; exact absurd hi (by decide)
    · subst hc; exact absurd hi (by decide)
    · subst hc; exact absurd hi (by decide)
    · subst hc; exact absurd hi (by decide)
    · subst hc; exact absurd hi (by decide)
    · subst hc; exact absurd hi (by decide)
    · subst hc; exact absurd hi (by decide)
    · subst hc; exact absurd hi (by decide)
    · subst hc; exact absurd hi (by decide)
    · subst hc; exact bd16 _ _ _ _ _ _ s us ws h1 h2
    · subst hc; exact absurd hi (by decide)
  · exact fun h => absurd h (by decide)
theorem at12 {K : PySem.W.Frag} {cs : List (Addr × Str)} {h : Heap} {mg : Str → Option Value} {f : Addr} {od an : Option Addr} {sl : Array (Option Value)} {oc kV dc pm cd ct : Value} (X : K.In h) (Gn : h.Ns mainGlobals mg) (a : PySem.W.nsIn K mainGlobals ("_law_not_a_number" : Str) = some (some (.ref f))) (l : K.lookup f = some ⟨oc, od, .func (PySem.W.fnOf ("_law_not_a_number" : Str) ("_law_not_a_number" : Str) (defArgs (top 23)) (defBody (top 23)) (defScope (top 23)) .none kV dc pm an cd ct), sl⟩) (c : PySem.W.codeIn K cd ("_law_not_a_number" : Str) = true) (k : PySem.W.keepIn K (.ref f) = true) {T : List (Addr × Str)} : DefAt G (Bk.of K cs T) mg 12 d12 := by
  refine ⟨⟨f, _, PySem.W.mg_of X Gn a, fun_mk (st := top 23) l c k, fun c hc hi s us ws _ h1 h2 => ?_⟩, ?_⟩
  · skip
    simp only [G, List.mem_cons, List.not_mem_nil, or_false] at hc
    rcases hc with hc | hc | hc | hc | hc | hc | hc | hc | hc | hc | hc | hc | hc | hc | hc | hc | hc | hc
    · subst hc; exact absurd hi (by decide)
    · subst hc; exact absurd hi (by decide)
    · subst hc; exact absurd hi (by decide)
    · subst hc; exact absurd hi (by decide)
    · subst hc; exact absurd hi (by decide)
    · subst hc; exact absurd hi (by decide)
    · subst hc; exact absurd hi (by decide)
    · subst hc; exact absurd hi (by decide)
    · subst hc; exact absurd hi (by decide)
    · subst hc; exact absurd hi (by decide)
    · subst hc; exact absurd hi (by decide)
    · subst hc; exact absurd hi (by decide)
    · subst hc; exact absurd hi (by decide)
    · subst hc; exact absurd hi (by decide)
    · subst hc; exact absurd hi (by decide)
    · subst hc; exact bd15 _ _ _ _ _ _ s us ws h1 h2
    · subst hc; exact absurd hi (by decide)
    · subst hc; exact absurd hi (by decide)
  · exact fun h => absurd h (by decide)
theorem at13 {K : PySem.W.Frag} {cs : List (Addr × Str)} {h : Heap} {mg : Str → Option Value} {f : Addr} {od an : Option Addr} {sl : Array (Option Value)} {oc kV dc pm cd ct : Value} (X : K.In h) (Gn : h.Ns mainGlobals mg) (a : PySem.W.nsIn K mainGlobals ("_law_not_a_scalar" : Str) = some (some (.ref f))) (l : K.lookup f = some ⟨oc, od, .func (PySem.W.fnOf ("_law_not_a_scalar" : Str) ("_law_not_a_scalar" : Str) (defArgs (top 24)) (defBody (top 24)) (defScope (top 24)) .none kV dc pm an cd ct), sl⟩) (c : PySem.W.codeIn K cd ("_law_not_a_scalar" : Str) = true) (k : PySem.W.keepIn K (.ref f) = true) {T : List (Addr × Str)} : DefAt G (Bk.of K cs T) mg 13 d13 := by
  refine ⟨⟨f, _, PySem.W.mg_of X Gn a, fun_mk (st := top 24) l c k, fun c hc hi s us ws _ h1 h2 => ?_⟩, ?_⟩
  · skip
    simp only [G, List.mem_cons, List.not_mem_nil, or_false] at hc
    rcases hc with hc | hc | hc | hc | hc | hc | hc | hc | hc | hc | hc | hc | hc | hc | hc | hc | hc | hc
    · subst hc; exact absurd hi (by decide)
    · subst hc; exact absurd hi (by decide)
    · subst hc; exact absurd hi (by decide)
    · subst hc; exact absurd hi (by decide)
    · subst hc; exact absurd hi (by decide)
    · subst hc; exact absurd hi (by decide)
    · subst hc; exact absurd hi (by decide)
    · subst hc; exact absurd hi (by decide)
    · subst hc; exact absurd hi (by decide)
    · subst hc; exact absurd hi (by decide)
    · subst hc; exact absurd hi (by decide)
    · subst hc; exact absurd hi (by decide)
    · subst hc; exact absurd hi (by decide)
    · subst hc; exact absurd hi (by decide)
    · subst hc; exact bd14 _ _ _ _ _ _ s us ws h1 h2
    · subst hc; exact absurd hi (by decide)
    · subst hc; exact absurd hi (by decide)
    · subst hc; exact absurd hi (by decide)
  · exact fun h => absurd h (by decide)
theorem at14 {K : PySem.W.Frag} {cs : List (Addr × Str)} {h : Heap} {mg : Str → Option Value} {f : Addr} {od an : Option Addr} {sl : Array (Option Value)} {oc kV dc pm cd ct : Value} (X : K.In h) (Gn : h.Ns mainGlobals mg) (a : PySem.W.nsIn K mainGlobals ("_law_said" : Str) = some (some (.ref f))) (l : K.lookup f = some ⟨oc, od, .func (PySem.W.fnOf ("_law_said" : Str) ("_law_said" : Str) (defArgs (top 25)) (defBody (top 25)) (defScope (top 25)) .none kV dc pm an cd ct), sl⟩) (c : PySem.W.codeIn K cd ("_law_said" : Str) = true) (k : PySem.W.keepIn K (.ref f) = true) {T : List (Addr × Str)} : DefAt G (Bk.of K cs T) mg 14 d14 := by
  refine ⟨⟨f, _, PySem.W.mg_of X Gn a, fun_mk (st := top 25) l c k, fun c hc hi s us ws _ h1 h2 => ?_⟩, ?_⟩
  · skip
    simp only [G, List.mem_cons, List.not_mem_nil, or_false] at hc
    rcases hc with hc | hc | hc | hc | hc | hc | hc | hc | hc | hc | hc | hc | hc | hc | hc | hc | hc | hc
    · subst hc; exact absurd hi (by decide)
    · subst hc; exact absurd hi (by decide)
    · subst hc; exact absurd hi (by decide)
    · subst hc; exact absurd hi (by decide)
    · subst hc; exact absurd hi (by decide)
    · subst hc; exact absurd hi (by decide)
    · subst hc; exact bd6 _ _ _ _ _ _ s us ws h1 h2
    · subst hc; exact absurd hi (by decide)
    · subst hc; exact absurd hi (by decide)
    · subst hc; exact absurd hi (by decide)
    · subst hc; exact absurd hi (by decide)
    · subst hc; exact absurd hi (by decide)
    · subst hc; exact absurd hi (by decide)
    · subst hc; exact absurd hi (by decide)
    · subst hc; exact absurd hi (by decide)
    · subst hc; exact absurd hi (by decide)
    · subst hc; exact absurd hi (by decide)
    · subst hc; exact absurd hi (by decide)
  · exact fun h => absurd h (by decide)
theorem at15 {K : PySem.W.Frag} {cs : List (Addr × Str)} {h : Heap} {mg : Str → Option Value} {f : Addr} {od an : Option Addr} {sl : Array (Option Value)} {oc kV dc pm cd ct : Value} (X : K.In h) (Gn : h.Ns mainGlobals mg) (a : PySem.W.nsIn K mainGlobals ("law" : Str) = some (some (.ref f))) (l : K.lookup f = some ⟨oc, od, .func (PySem.W.fnOf ("law" : Str) ("law" : Str) (defArgs (top 26)) (defBody (top 26)) (defScope (top 26)) .none kV dc pm an cd ct), sl⟩) (c : PySem.W.codeIn K cd ("law" : Str) = true) (k : PySem.W.keepIn K (.ref f) = true) {T : List (Addr × Str)} (mk : ∃ (a : Addr) (fd : FuncData), mg d15.name = some (.ref a) ∧ Fun K d15.name d15.name d15.st a fd ∧ MkK (Bk.of K cs T) fd.code (d15.name ++ (".<locals>." : Str))) : DefAt G (Bk.of K cs T) mg 15 d15 := by
  refine ⟨⟨f, _, PySem.W.mg_of X Gn a, fun_mk (st := top 26) l c k, fun c hc hi s us ws _ h1 h2 => ?_⟩, ?_⟩
  · skip
    simp only [G, List.mem_cons, List.not_mem_nil, or_false] at hc
    rcases hc with hc | hc | hc | hc | hc | hc | hc | hc | hc | hc | hc | hc | hc | hc | hc | hc | hc | hc
    · subst hc; exact absurd hi (by decide)
    · subst hc; exact absurd hi (by decide)
    · subst hc; exact absurd hi (by decide)
    · subst hc; exact absurd hi (by decide)
    · subst hc; exact absurd hi (by decide)
    · subst hc; exact absurd hi (by decide)
    · subst hc; exact absurd hi (by decide)
    · subst hc; exact absurd hi (by decide)
    · subst hc; exact absurd hi (by decide)
    · subst hc; exact absurd hi (by decide)
    · subst hc; exact absurd hi (by decide)
    · subst hc; exact absurd hi (by decide)
    · subst hc; exact absurd hi (by decide)
    · subst hc; exact absurd hi (by decide)
    · subst hc; exact absurd hi (by decide)
    · subst hc; exact absurd hi (by decide)
    · subst hc; exact absurd hi (by decide)
    · subst hc; exact absurd hi (by decide)
  · exact fun _ => mk
theorem all_do : ∀ d ∈ Ds, DefDo G d := by
  intro d hd
  simp only [Ds, List.mem_cons, List.not_mem_nil, or_false] at hd
  rcases hd with hd | hd | hd | hd | hd | hd | hd | hd | hd | hd | hd | hd | hd | hd | hd | hd <;> subst hd
  · exact do0
  · exact do1
  · exact do2
  · exact do3
  · exact do4
  · exact do5
  · exact do6
  · exact do7
  · exact do8
  · exact do9
  · exact do10
  · exact do11
  · exact do12
  · exact do13
  · exact do14
  · exact do15
def iA3 : Arguments := { posonlyargs := [], args := [{ arg := "self", annotation := none, pos := ⟨10, 17, 10, 21⟩ }, { arg := "reason", annotation := none, pos := ⟨10, 23, 10, 29⟩ }], vararg := none, kwonlyargs := [], kw_defaults := [], kwarg := none, defaults := [] }
def iB3 : List Stmt := [.Assign [.Attribute (.Name "self" ⟨11, 8, 11, 12⟩) "reason" ⟨11, 8, 11, 19⟩] (.Name "reason" ⟨11, 22, 11, 28⟩) ⟨11, 8, 11, 28⟩]
def iS3 : Scope := { kind := .function, names := [(("self" : Str), .local), (("reason" : Str), .local)], isGenerator := false, isCoroutine := false, more := [] }
def iA4 : Arguments := { posonlyargs := [], args := [{ arg := "self", annotation := none, pos := ⟨14, 17, 14, 21⟩ }, { arg := "reason", annotation := none, pos := ⟨14, 23, 14, 29⟩ }], vararg := none, kwonlyargs := [], kw_defaults := [], kwarg := none, defaults := [] }
def iB4 : List Stmt := [.Assign [.Attribute (.Name "self" ⟨15, 8, 15, 12⟩) "reason" ⟨15, 8, 15, 19⟩] (.Name "reason" ⟨15, 22, 15, 28⟩) ⟨15, 8, 15, 28⟩]
def iS4 : Scope := { kind := .function, names := [(("self" : Str), .local), (("reason" : Str), .local)], isGenerator := false, isCoroutine := false, more := [] }
theorem all_mk {K : PySem.W.Frag} {h : Heap} {mg : Str → Option Value} (X : K.In h) (Gn : h.Ns mainGlobals mg) {f0 f1 f2 f3 f4 f5 f6 f7 f8 f9 f10 f11 f12 f13 f14 f15 : Addr} {od0 an0 od1 an1 od2 an2 od3 an3 od4 an4 od5 an5 od6 an6 od7 an7 od8 an8 od9 an9 od10 an10 od11 an11 od12 an12 od13 an13 od14 an14 od15 an15 : Option Addr} {sl0 sl1 sl2 sl3 sl4 sl5 sl6 sl7 sl8 sl9 sl10 sl11 sl12 sl13 sl14 sl15 : Array (Option Value)} {oc0 kV0 dc0 pm0 cd0 ct0 oc1 kV1 dc1 pm1 cd1 ct1 oc2 kV2 dc2 pm2 cd2 ct2 oc3 kV3 dc3 pm3 cd3 ct3 oc4 kV4 dc4 pm4 cd4 ct4 oc5 kV5 dc5 pm5 cd5 ct5 oc6 kV6 dc6 pm6 cd6 ct6 oc7 kV7 dc7 pm7 cd7 ct7 oc8 kV8 dc8 pm8 cd8 ct8 oc9 kV9 dc9 pm9 cd9 ct9 oc10 kV10 dc10 pm10 cd10 ct10 oc11 kV11 dc11 pm11 cd11 ct11 oc12 kV12 dc12 pm12 cd12 ct12 oc13 kV13 dc13 pm13 cd13 ct13 oc14 kV14 dc14 pm14 cd14 ct14 oc15 kV15 dc15 pm15 ct15 : Value}{C0 C1 C2 C3 C4 : Addr} 
    (a0 : PySem.W.nsIn K mainGlobals ("is_whole" : Str) = some (some (.ref f0))) (l0 : K.lookup f0 = some ⟨oc0, od0, .func (PySem.W.fnOf ("is_whole" : Str) ("is_whole" : Str) (defArgs (top 10)) (defBody (top 10)) (defScope (top 10)) .none kV0 dc0 pm0 an0 cd0 ct0), sl0⟩) (c0 : PySem.W.codeIn K cd0 ("is_whole" : Str) = true) (k0 : PySem.W.keepIn K (.ref f0) = true)
    (a1 : PySem.W.nsIn K mainGlobals ("is_number" : Str) = some (some (.ref f1))) (l1 : K.lookup f1 = some ⟨oc1, od1, .func (PySem.W.fnOf ("is_number" : Str) ("is_number" : Str) (defArgs (top 11)) (defBody (top 11)) (defScope (top 11)) .none kV1 dc1 pm1 an1 cd1 ct1), sl1⟩) (c1 : PySem.W.codeIn K cd1 ("is_number" : Str) = true) (k1 : PySem.W.keepIn K (.ref f1) = true)
    (a2 : PySem.W.nsIn K mainGlobals ("is_scalar" : Str) = some (some (.ref f2))) (l2 : K.lookup f2 = some ⟨oc2, od2, .func (PySem.W.fnOf ("is_scalar" : Str) ("is_scalar" : Str) (defArgs (top 12)) (defBody (top 12)) (defScope (top 12)) .none kV2 dc2 pm2 an2 cd2 ct2), sl2⟩) (c2 : PySem.W.codeIn K cd2 ("is_scalar" : Str) = true) (k2 : PySem.W.keepIn K (.ref f2) = true)
    (a3 : PySem.W.nsIn K mainGlobals ("need_number" : Str) = some (some (.ref f3))) (l3 : K.lookup f3 = some ⟨oc3, od3, .func (PySem.W.fnOf ("need_number" : Str) ("need_number" : Str) (defArgs (top 13)) (defBody (top 13)) (defScope (top 13)) .none kV3 dc3 pm3 an3 cd3 ct3), sl3⟩) (c3 : PySem.W.codeIn K cd3 ("need_number" : Str) = true) (k3 : PySem.W.keepIn K (.ref f3) = true)
    (a4 : PySem.W.nsIn K mainGlobals ("lowest" : Str) = some (some (.ref f4))) (l4 : K.lookup f4 = some ⟨oc4, od4, .func (PySem.W.fnOf ("lowest" : Str) ("lowest" : Str) (defArgs (top 14)) (defBody (top 14)) (defScope (top 14)) .none kV4 dc4 pm4 an4 cd4 ct4), sl4⟩) (c4 : PySem.W.codeIn K cd4 ("lowest" : Str) = true) (k4 : PySem.W.keepIn K (.ref f4) = true)
    (a5 : PySem.W.nsIn K mainGlobals ("add" : Str) = some (some (.ref f5))) (l5 : K.lookup f5 = some ⟨oc5, od5, .func (PySem.W.fnOf ("add" : Str) ("add" : Str) (defArgs (top 15)) (defBody (top 15)) (defScope (top 15)) .none kV5 dc5 pm5 an5 cd5 ct5), sl5⟩) (c5 : PySem.W.codeIn K cd5 ("add" : Str) = true) (k5 : PySem.W.keepIn K (.ref f5) = true)
    (a6 : PySem.W.nsIn K mainGlobals ("multiply" : Str) = some (some (.ref f6))) (l6 : K.lookup f6 = some ⟨oc6, od6, .func (PySem.W.fnOf ("multiply" : Str) ("multiply" : Str) (defArgs (top 16)) (defBody (top 16)) (defScope (top 16)) .none kV6 dc6 pm6 an6 cd6 ct6), sl6⟩) (c6 : PySem.W.codeIn K cd6 ("multiply" : Str) = true) (k6 : PySem.W.keepIn K (.ref f6) = true)
    (a7 : PySem.W.nsIn K mainGlobals ("conjugated" : Str) = some (some (.ref f7))) (l7 : K.lookup f7 = some ⟨oc7, od7, .func (PySem.W.fnOf ("conjugated" : Str) ("conjugated" : Str) (defArgs (top 17)) (defBody (top 17)) (defScope (top 17)) .none kV7 dc7 pm7 an7 cd7 ct7), sl7⟩) (c7 : PySem.W.codeIn K cd7 ("conjugated" : Str) = true) (k7 : PySem.W.keepIn K (.ref f7) = true)
    (a8 : PySem.W.nsIn K mainGlobals ("scalar_value" : Str) = some (some (.ref f8))) (l8 : K.lookup f8 = some ⟨oc8, od8, .func (PySem.W.fnOf ("scalar_value" : Str) ("scalar_value" : Str) (defArgs (top 18)) (defBody (top 18)) (defScope (top 18)) .none kV8 dc8 pm8 an8 cd8 ct8), sl8⟩) (c8 : PySem.W.codeIn K cd8 ("scalar_value" : Str) = true) (k8 : PySem.W.keepIn K (.ref f8) = true)
    (a9 : PySem.W.nsIn K mainGlobals ("_law_begun" : Str) = some (some (.ref f9))) (l9 : K.lookup f9 = some ⟨oc9, od9, .func (PySem.W.fnOf ("_law_begun" : Str) ("_law_begun" : Str) (defArgs (top 20)) (defBody (top 20)) (defScope (top 20)) .none kV9 dc9 pm9 an9 cd9 ct9), sl9⟩) (c9 : PySem.W.codeIn K cd9 ("_law_begun" : Str) = true) (k9 : PySem.W.keepIn K (.ref f9) = true)
    (a10 : PySem.W.nsIn K mainGlobals ("_law_draw" : Str) = some (some (.ref f10))) (l10 : K.lookup f10 = some ⟨oc10, od10, .func (PySem.W.fnOf ("_law_draw" : Str) ("_law_draw" : Str) (defArgs (top 21)) (defBody (top 21)) (defScope (top 21)) .none kV10 dc10 pm10 an10 cd10 ct10), sl10⟩) (c10 : PySem.W.codeIn K cd10 ("_law_draw" : Str) = true) (k10 : PySem.W.keepIn K (.ref f10) = true)
    (a11 : PySem.W.nsIn K mainGlobals ("_law_valid" : Str) = some (some (.ref f11))) (l11 : K.lookup f11 = some ⟨oc11, od11, .func (PySem.W.fnOf ("_law_valid" : Str) ("_law_valid" : Str) (defArgs (top 22)) (defBody (top 22)) (defScope (top 22)) .none kV11 dc11 pm11 an11 cd11 ct11), sl11⟩) (c11 : PySem.W.codeIn K cd11 ("_law_valid" : Str) = true) (k11 : PySem.W.keepIn K (.ref f11) = true)
    (a12 : PySem.W.nsIn K mainGlobals ("_law_not_a_number" : Str) = some (some (.ref f12))) (l12 : K.lookup f12 = some ⟨oc12, od12, .func (PySem.W.fnOf ("_law_not_a_number" : Str) ("_law_not_a_number" : Str) (defArgs (top 23)) (defBody (top 23)) (defScope (top 23)) .none kV12 dc12 pm12 an12 cd12 ct12), sl12⟩) (c12 : PySem.W.codeIn K cd12 ("_law_not_a_number" : Str) = true) (k12 : PySem.W.keepIn K (.ref f12) = true)
    (a13 : PySem.W.nsIn K mainGlobals ("_law_not_a_scalar" : Str) = some (some (.ref f13))) (l13 : K.lookup f13 = some ⟨oc13, od13, .func (PySem.W.fnOf ("_law_not_a_scalar" : Str) ("_law_not_a_scalar" : Str) (defArgs (top 24)) (defBody (top 24)) (defScope (top 24)) .none kV13 dc13 pm13 an13 cd13 ct13), sl13⟩) (c13 : PySem.W.codeIn K cd13 ("_law_not_a_scalar" : Str) = true) (k13 : PySem.W.keepIn K (.ref f13) = true)
    (a14 : PySem.W.nsIn K mainGlobals ("_law_said" : Str) = some (some (.ref f14))) (l14 : K.lookup f14 = some ⟨oc14, od14, .func (PySem.W.fnOf ("_law_said" : Str) ("_law_said" : Str) (defArgs (top 25)) (defBody (top 25)) (defScope (top 25)) .none kV14 dc14 pm14 an14 cd14 ct14), sl14⟩) (c14 : PySem.W.codeIn K cd14 ("_law_said" : Str) = true) (k14 : PySem.W.keepIn K (.ref f14) = true)
    {cc15 PP15 : Addr} (a15 : PySem.W.nsIn K mainGlobals ("law" : Str) = some (some (.ref f15))) (l15 : K.lookup f15 = some ⟨oc15, od15, .func (PySem.W.fnOf ("law" : Str) ("law" : Str) (defArgs (top 26)) (defBody (top 26)) (defScope (top 26)) .none kV15 dc15 pm15 an15 (.ref cc15) ct15), sl15⟩) (c15 : PySem.W.codeIn K (.ref cc15) ("law" : Str) = true) (k15 : PySem.W.keepIn K (.ref f15) = true) (lc15 : PySem.W.codeHdIn K cc15 PP15 = true) (ln15 : K.lookup PP15 = none) (lg15 : mainGlobals ≠ PP15)
    (z_isinstance : PySem.W.nsIn K mainGlobals ("isinstance" : Str) = some none)
    (z_bool : PySem.W.nsIn K mainGlobals ("bool" : Str) = some none)
    (z_int : PySem.W.nsIn K mainGlobals ("int" : Str) = some none)
    (z_all : PySem.W.nsIn K mainGlobals ("all" : Str) = some none)
    (z_len : PySem.W.nsIn K mainGlobals ("len" : Str) = some none)
    (z_tuple : PySem.W.nsIn K mainGlobals ("tuple" : Str) = some none)
    (z_min : PySem.W.nsIn K mainGlobals ("min" : Str) = some none)
    (z_range : PySem.W.nsIn K mainGlobals ("range" : Str) = some none)
    (z_max : PySem.W.nsIn K mainGlobals ("max" : Str) = some none)
    (z_list : PySem.W.nsIn K mainGlobals ("list" : Str) = some none)
    (z_repr : PySem.W.nsIn K mainGlobals ("repr" : Str) = some none)
    {t_MAX_HALVINGS : Tok} (y_MAX_HALVINGS : PySem.W.nsIn K mainGlobals ("MAX_HALVINGS" : Str) = some (some (.int 4000 t_MAX_HALVINGS)))
    {t_MAX_POWER : Tok} (y_MAX_POWER : PySem.W.nsIn K mainGlobals ("MAX_POWER" : Str) = some (some (.int 2000 t_MAX_POWER)))
    {b_ZERO : Addr} {u_ZERO : Option Addr} {n_ZERO : Nat} {s_ZERO : Array (Option Value)} {t_ZERO_0 t_ZERO_1 t_ZERO_2 t_ZERO_3 t_ZERO_4 : Tok} (y_ZERO : PySem.W.nsIn K mainGlobals ("ZERO" : Str) = some (some (.ref b_ZERO))) (w_ZERO : K.lookup b_ZERO = some ⟨.type "tuple", u_ZERO, .seq #[.int 0 t_ZERO_0, .int 0 t_ZERO_1, .int 0 t_ZERO_2, .int 0 t_ZERO_3, .int 0 t_ZERO_4] n_ZERO, s_ZERO⟩)
    (yn : PySem.W.specialIn K (.builtin "object.__class__") "__get__" = some (some (.builtin "getset_descriptor.__get__"))) (yt : PySem.W.takesIn K (.builtin "object.__class__") = some true)
    (xa0 : PySem.W.nsIn K mainGlobals ("InvalidInput" : Str) = some (some (.ref C0)))
    (xa1 : PySem.W.nsIn K mainGlobals ("Conflict" : Str) = some (some (.ref C1)))
    (xa2 : PySem.W.nsIn K mainGlobals ("OutOfRange" : Str) = some (some (.ref C2)))
    (xa3 : PySem.W.nsIn K mainGlobals ("BadNumber" : Str) = some (some (.ref C3)))
    (xa4 : PySem.W.nsIn K mainGlobals ("BadScalar" : Str) = some (some (.ref C4)))
    (ga0 : PySem.W.findIn K (.ref C0) "__getattribute__" = some (some (.builtin "BaseException.__getattribute__")))
    (gg0 : PySem.W.findIn K (.ref C0) "__getattr__" = some none)
    (eC0 : PySem.W.subIn K (.ref C0) (.type "BaseException") = some true)
    (hC0 : PySem.W.hasDictIn K C0 = true)
    (ha0 : PySem.W.findIn K (.ref C0) "__class__" = some (some (.builtin "object.__class__")))
    (hm0 : PySem.W.mroIn K C0 (.type "object") = some true)
    (tC0 : PySem.W.typeIn K (.ref C0) = some (.type "type"))
    (ic0 : PySem.W.isClsIn K C0 = true)
    (s0_0 : PySem.W.subIn K (.ref C0) (.ref C0) = some true)
    (s0_1 : PySem.W.subIn K (.ref C0) (.ref C1) = some false)
    (s0_2 : PySem.W.subIn K (.ref C0) (.ref C2) = some false)
    (s0_3 : PySem.W.subIn K (.ref C0) (.ref C3) = some false)
    (s0_4 : PySem.W.subIn K (.ref C0) (.ref C4) = some false)
    (no0 : PySem.W.findIn K (.ref C0) ("?" : Str) = some none)
    (ga1 : PySem.W.findIn K (.ref C1) "__getattribute__" = some (some (.builtin "BaseException.__getattribute__")))
    (gg1 : PySem.W.findIn K (.ref C1) "__getattr__" = some none)
    (eC1 : PySem.W.subIn K (.ref C1) (.type "BaseException") = some true)
    (hC1 : PySem.W.hasDictIn K C1 = true)
    (ha1 : PySem.W.findIn K (.ref C1) "__class__" = some (some (.builtin "object.__class__")))
    (hm1 : PySem.W.mroIn K C1 (.type "object") = some true)
    (tC1 : PySem.W.typeIn K (.ref C1) = some (.type "type"))
    (ic1 : PySem.W.isClsIn K C1 = true)
    (s1_0 : PySem.W.subIn K (.ref C1) (.ref C0) = some false)
    (s1_1 : PySem.W.subIn K (.ref C1) (.ref C1) = some true)
    (s1_2 : PySem.W.subIn K (.ref C1) (.ref C2) = some false)
    (s1_3 : PySem.W.subIn K (.ref C1) (.ref C3) = some false)
    (s1_4 : PySem.W.subIn K (.ref C1) (.ref C4) = some false)
    (no1 : PySem.W.findIn K (.ref C1) ("?" : Str) = some none)
    (ga2 : PySem.W.findIn K (.ref C2) "__getattribute__" = some (some (.builtin "BaseException.__getattribute__")))
    (gg2 : PySem.W.findIn K (.ref C2) "__getattr__" = some none)
    (eC2 : PySem.W.subIn K (.ref C2) (.type "BaseException") = some true)
    (hC2 : PySem.W.hasDictIn K C2 = true)
    (ha2 : PySem.W.findIn K (.ref C2) "__class__" = some (some (.builtin "object.__class__")))
    (hm2 : PySem.W.mroIn K C2 (.type "object") = some true)
    (tC2 : PySem.W.typeIn K (.ref C2) = some (.type "type"))
    (ic2 : PySem.W.isClsIn K C2 = true)
    (s2_0 : PySem.W.subIn K (.ref C2) (.ref C0) = some false)
    (s2_1 : PySem.W.subIn K (.ref C2) (.ref C1) = some false)
    (s2_2 : PySem.W.subIn K (.ref C2) (.ref C2) = some true)
    (s2_3 : PySem.W.subIn K (.ref C2) (.ref C3) = some false)
    (s2_4 : PySem.W.subIn K (.ref C2) (.ref C4) = some false)
    (no2 : PySem.W.findIn K (.ref C2) ("?" : Str) = some none)
    (ga3 : PySem.W.findIn K (.ref C3) "__getattribute__" = some (some (.builtin "BaseException.__getattribute__")))
    (gg3 : PySem.W.findIn K (.ref C3) "__getattr__" = some none)
    (eC3 : PySem.W.subIn K (.ref C3) (.type "BaseException") = some true)
    (hC3 : PySem.W.hasDictIn K C3 = true)
    (ha3 : PySem.W.findIn K (.ref C3) "__class__" = some (some (.builtin "object.__class__")))
    (hm3 : PySem.W.mroIn K C3 (.type "object") = some true)
    (tC3 : PySem.W.typeIn K (.ref C3) = some (.type "type"))
    (ic3 : PySem.W.isClsIn K C3 = true)
    (s3_0 : PySem.W.subIn K (.ref C3) (.ref C0) = some true)
    (s3_1 : PySem.W.subIn K (.ref C3) (.ref C1) = some false)
    (s3_2 : PySem.W.subIn K (.ref C3) (.ref C2) = some false)
    (s3_3 : PySem.W.subIn K (.ref C3) (.ref C3) = some true)
    (s3_4 : PySem.W.subIn K (.ref C3) (.ref C4) = some false)
    (no3 : PySem.W.findIn K (.ref C3) ("reason" : Str) = some none)
    (ga4 : PySem.W.findIn K (.ref C4) "__getattribute__" = some (some (.builtin "BaseException.__getattribute__")))
    (gg4 : PySem.W.findIn K (.ref C4) "__getattr__" = some none)
    (eC4 : PySem.W.subIn K (.ref C4) (.type "BaseException") = some true)
    (hC4 : PySem.W.hasDictIn K C4 = true)
    (ha4 : PySem.W.findIn K (.ref C4) "__class__" = some (some (.builtin "object.__class__")))
    (hm4 : PySem.W.mroIn K C4 (.type "object") = some true)
    (tC4 : PySem.W.typeIn K (.ref C4) = some (.type "type"))
    (ic4 : PySem.W.isClsIn K C4 = true)
    (s4_0 : PySem.W.subIn K (.ref C4) (.ref C0) = some true)
    (s4_1 : PySem.W.subIn K (.ref C4) (.ref C1) = some false)
    (s4_2 : PySem.W.subIn K (.ref C4) (.ref C2) = some false)
    (s4_3 : PySem.W.subIn K (.ref C4) (.ref C3) = some false)
    (s4_4 : PySem.W.subIn K (.ref C4) (.ref C4) = some true)
    (no4 : PySem.W.findIn K (.ref C4) ("reason" : Str) = some none)
    {nm3 qq3 : Str} {N3 fi3 : Addr} {bs3 : List Value} {sn3 : List Str} {sub3 : List Value} {ab3 : Bool} {col3 : Option Bool} {dd3 : Option Addr} {m0_3 m1_3 m2_3 m3_3 m5_3 : Option Value} (xL3 : K.lookup C3 = some (excClassObj nm3 qq3 C3 N3 bs3 [.ref C0, .type "ValueError", .type "Exception", .type "BaseException", .type "object"] true sn3 sub3 ab3 col3 dd3 m0_3 m1_3 m2_3 m3_3 m5_3 "ValueError.__new__"))
    (sa3 : PySem.W.findIn K (.ref C3) "__setattr__" = some (some (.builtin "object.__setattr__"))) (kC3 : PySem.W.keepIn K (.ref C3) = true) (iC3 : PySem.W.findIn K (.ref C3) "__init__" = some (some (.ref fi3))) (tI3 : PySem.W.typeIn K (.ref fi3) = some (.type "function"))
    {ioc3 ikV3 idc3 ipm3 icd3 ict3 : Value} {iod3 ian3 : Option Addr} {isl3 : Array (Option Value)} (il3 : K.lookup fi3 = some ⟨ioc3, iod3, .func (PySem.W.fnOf "__init__" "BadNumber.__init__" iA3 iB3 iS3 .none ikV3 idc3 ipm3 ian3 icd3 ict3), isl3⟩) (icc3 : PySem.W.codeIn K icd3 "BadNumber.__init__" = true)
    {nm4 qq4 : Str} {N4 fi4 : Addr} {bs4 : List Value} {sn4 : List Str} {sub4 : List Value} {ab4 : Bool} {col4 : Option Bool} {dd4 : Option Addr} {m0_4 m1_4 m2_4 m3_4 m5_4 : Option Value} (xL4 : K.lookup C4 = some (excClassObj nm4 qq4 C4 N4 bs4 [.ref C0, .type "ValueError", .type "Exception", .type "BaseException", .type "object"] true sn4 sub4 ab4 col4 dd4 m0_4 m1_4 m2_4 m3_4 m5_4 "ValueError.__new__"))
    (sa4 : PySem.W.findIn K (.ref C4) "__setattr__" = some (some (.builtin "object.__setattr__"))) (kC4 : PySem.W.keepIn K (.ref C4) = true) (iC4 : PySem.W.findIn K (.ref C4) "__init__" = some (some (.ref fi4))) (tI4 : PySem.W.typeIn K (.ref fi4) = some (.type "function"))
    {ioc4 ikV4 idc4 ipm4 icd4 ict4 : Value} {iod4 ian4 : Option Addr} {isl4 : Array (Option Value)} (il4 : K.lookup fi4 = some ⟨ioc4, iod4, .func (PySem.W.fnOf "__init__" "BadScalar.__init__" iA4 iB4 iS4 .none ikV4 idc4 ipm4 ian4 icd4 ict4), isl4⟩) (icc4 : PySem.W.codeIn K icd4 "BadScalar.__init__" = true)
    : ∃ cs : List (Addr × Str), (∀ base : Heap, K.In base → base.Ns mainGlobals mg → (∃ mm, base.Ns sysModules mm) → (∀ p ∈ ([(PP15, ("law.<locals>.<lambda>" : Str))] : List (Addr × Str)), base.BuiltinsAt mg p.1) → GS G (Bk.of K cs [(PP15, ("law.<locals>.<lambda>" : Str))]) mg base) ∧ (∀ (i : Nat) (d : FnD), Ds[i]? = some d → DefAt G (Bk.of K cs [(PP15, ("law.<locals>.<lambda>" : Str))]) mg i d) ∧ (∀ (fd : FuncData) (a : Addr), Fun K d15.name d15.name d15.st a fd → ∀ (s : Shared) (u : Value), BindsTo s fd ⟨[u], []⟩ [(("_law_script" : Str), u)]) ∧ ∀ p ∈ ([(PP15, ("law.<locals>.<lambda>" : Str))] : List (Addr × Str)), K.lookup p.1 = none ∧ ∃ c, PySem.W.codeHdIn K c p.1 = true := by
  have F0 : ClF K C0 := ⟨ga0, gg0, eC0, hC0, ha0, hm0, tC0, s0_0, ic0⟩
  have F1 : ClF K C1 := ⟨ga1, gg1, eC1, hC1, ha1, hm1, tC1, s1_1, ic1⟩
  have F2 : ClF K C2 := ⟨ga2, gg2, eC2, hC2, ha2, hm2, tC2, s2_2, ic2⟩
  have F3 : ClF K C3 := ⟨ga3, gg3, eC3, hC3, ha3, hm3, tC3, s3_3, ic3⟩
  have F4 : ClF K C4 := ⟨ga4, gg4, eC4, hC4, ha4, hm4, tC4, s4_4, ic4⟩
  refine ⟨[(C0, (("?" : Str))), (C1, (("?" : Str))), (C2, (("?" : Str))), (C3, (("reason" : Str))), (C4, (("reason" : Str)))], fun base _ _ sm bm => ⟨fun x hx => ?_, fun x w hx => ?_, ?cn, ?ec, ?es, fun _ _ _ _ _ _ _ _ _ e _ => (by simp [G] at e), fun _ _ _ _ e => (by simp [G] at e), ?en, sm, ?em, ?rz, ?fd, bm⟩, fun i d e => ?_, fun fd a F s u => ?_, ?ln⟩
  case cn => exact fun c x e => match c, e with | 0, e => by cases e; exact ⟨C0, _, rfl, PySem.W.mg_of X Gn xa0⟩ | 1, e => by cases e; exact ⟨C1, _, rfl, PySem.W.mg_of X Gn xa1⟩ | 2, e => by cases e; exact ⟨C2, _, rfl, PySem.W.mg_of X Gn xa2⟩ | 3, e => by cases e; exact ⟨C3, _, rfl, PySem.W.mg_of X Gn xa3⟩ | 4, e => by cases e; exact ⟨C4, _, rfl, PySem.W.mg_of X Gn xa4⟩ | c + 5, e => by cases e
  case ec => exact fun c C f e => match c, e with | 0, e => by cases e; exact F0.ec yn yt | 1, e => by cases e; exact F1.ec yn yt | 2, e => by cases e; exact F2.ec yn yt | 3, e => by cases e; exact F3.ec yn yt | 4, e => by cases e; exact F4.ec yn yt | c + 5, e => by cases e
  case es => exact fun c c' C f C' f' b e e' h => match c, c', e, e', h with | 0, 0, e, e', h => by cases e; cases e'; obtain rfl : true = b := Option.some.inj h; exact F0.kit F0 s0_0 | 0, 1, e, e', h => by cases e; cases e'; obtain rfl : false = b := Option.some.inj h; exact F0.kit F1 s0_1 | 0, 2, e, e', h => by cases e; cases e'; obtain rfl : false = b := Option.some.inj h; exact F0.kit F2 s0_2 | 0, 3, e, e', h => by cases e; cases e'; obtain rfl : false = b := Option.some.inj h; exact F0.kit F3 s0_3 | 0, 4, e, e', h => by cases e; cases e'; obtain rfl : false = b := Option.some.inj h; exact F0.kit F4 s0_4 | 1, 0, e, e', h => by cases e; cases e'; obtain rfl : false = b := Option.some.inj h; exact F1.kit F0 s1_0 | 1, 1, e, e', h => by cases e; cases e'; obtain rfl : true = b := Option.some.inj h; exact F1.kit F1 s1_1 | 1, 2, e, e', h => by cases e; cases e'; obtain rfl : false = b := Option.some.inj h; exact F1.kit F2 s1_2 | 1, 3, e, e', h => by cases e; cases e'; obtain rfl : false = b := Option.some.inj h; exact F1.kit F3 s1_3 | 1, 4, e, e', h => by cases e; cases e'; obtain rfl : false = b := Option.some.inj h; exact F1.kit F4 s1_4 | 2, 0, e, e', h => by cases e; cases e'; obtain rfl : false = b := Option.some.inj h; exact F2.kit F0 s2_0 | 2, 1, e, e', h => by cases e; cases e'; obtain rfl : false = b := Option.some.inj h; exact F2.kit F1 s2_1 | 2, 2, e, e', h => by cases e; cases e'; obtain rfl : true = b := Option.some.inj h; exact F2.kit F2 s2_2 | 2, 3, e, e', h => by cases e; cases e'; obtain rfl : false = b := Option.some.inj h; exact F2.kit F3 s2_3 | 2, 4, e, e', h => by cases e; cases e'; obtain rfl : false = b := Option.some.inj h; exact F2.kit F4 s2_4 | 3, 0, e, e', h => by cases e; cases e'; obtain rfl : true = b := Option.some.inj h; exact F3.kit F0 s3_0 | 3, 1, e, e', h => by cases e; cases e'; obtain rfl : false = b := Option.some.inj h; exact F3.kit F1 s3_1 | 3, 2, e, e', h => by cases e; cases e'; obtain rfl : false = b := Option.some.inj h; exact F3.kit F2 s3_2 | 3, 3, e, e', h => by cases e; cases e'; obtain rfl : true = b := Option.some.inj h; exact F3.kit F3 s3_3 | 3, 4, e, e', h => by cases e; cases e'; obtain rfl : false = b := Option.some.inj h; exact F3.kit F4 s3_4 | 4, 0, e, e', h => by cases e; cases e'; obtain rfl : true = b := Option.some.inj h; exact F4.kit F0 s4_0 | 4, 1, e, e', h => by cases e; cases e'; obtain rfl : false = b := Option.some.inj h; exact F4.kit F1 s4_1 | 4, 2, e, e', h => by cases e; cases e'; obtain rfl : false = b := Option.some.inj h; exact F4.kit F2 s4_2 | 4, 3, e, e', h => by cases e; cases e'; obtain rfl : false = b := Option.some.inj h; exact F4.kit F3 s4_3 | 4, 4, e, e', h => by cases e; cases e'; obtain rfl : true = b := Option.some.inj h; exact F4.kit F4 s4_4 | 0, c' + 5, e, e', h => by cases e' | 1, c' + 5, e, e', h => by cases e' | 2, c' + 5, e, e', h => by cases e' | 3, c' + 5, e, e', h => by cases e' | 4, c' + 5, e, e', h => by cases e' | c + 5, c', e, e', h => by cases e
  case en => exact fun t c C f e => match c, e with | 0, e => by cases e; exact F0.en t | 1, e => by cases e; exact F1.en t | 2, e => by cases e; exact F2.en t | 3, e => by cases e; exact F3.en t | 4, e => by cases e; exact F4.en t | c + 5, e => by cases e
  case em => exact fun c c' C f C' f' b e e' h => match c, c', e, e', h with | 0, 0, e, e', h => by cases e; cases e'; obtain rfl : true = b := Option.some.inj h; exact F0.exm s0_0 | 0, 1, e, e', h => by cases e; cases e'; obtain rfl : false = b := Option.some.inj h; exact F1.exm s0_1 | 0, 2, e, e', h => by cases e; cases e'; obtain rfl : false = b := Option.some.inj h; exact F2.exm s0_2 | 0, 3, e, e', h => by cases e; cases e'; obtain rfl : false = b := Option.some.inj h; exact F3.exm s0_3 | 0, 4, e, e', h => by cases e; cases e'; obtain rfl : false = b := Option.some.inj h; exact F4.exm s0_4 | 1, 0, e, e', h => by cases e; cases e'; obtain rfl : false = b := Option.some.inj h; exact F0.exm s1_0 | 1, 1, e, e', h => by cases e; cases e'; obtain rfl : true = b := Option.some.inj h; exact F1.exm s1_1 | 1, 2, e, e', h => by cases e; cases e'; obtain rfl : false = b := Option.some.inj h; exact F2.exm s1_2 | 1, 3, e, e', h => by cases e; cases e'; obtain rfl : false = b := Option.some.inj h; exact F3.exm s1_3 | 1, 4, e, e', h => by cases e; cases e'; obtain rfl : false = b := Option.some.inj h; exact F4.exm s1_4 | 2, 0, e, e', h => by cases e; cases e'; obtain rfl : false = b := Option.some.inj h; exact F0.exm s2_0 | 2, 1, e, e', h => by cases e; cases e'; obtain rfl : false = b := Option.some.inj h; exact F1.exm s2_1 | 2, 2, e, e', h => by cases e; cases e'; obtain rfl : true = b := Option.some.inj h; exact F2.exm s2_2 | 2, 3, e, e', h => by cases e; cases e'; obtain rfl : false = b := Option.some.inj h; exact F3.exm s2_3 | 2, 4, e, e', h => by cases e; cases e'; obtain rfl : false = b := Option.some.inj h; exact F4.exm s2_4 | 3, 0, e, e', h => by cases e; cases e'; obtain rfl : true = b := Option.some.inj h; exact F0.exm s3_0 | 3, 1, e, e', h => by cases e; cases e'; obtain rfl : false = b := Option.some.inj h; exact F1.exm s3_1 | 3, 2, e, e', h => by cases e; cases e'; obtain rfl : false = b := Option.some.inj h; exact F2.exm s3_2 | 3, 3, e, e', h => by cases e; cases e'; obtain rfl : true = b := Option.some.inj h; exact F3.exm s3_3 | 3, 4, e, e', h => by cases e; cases e'; obtain rfl : false = b := Option.some.inj h; exact F4.exm s3_4 | 4, 0, e, e', h => by cases e; cases e'; obtain rfl : true = b := Option.some.inj h; exact F0.exm s4_0 | 4, 1, e, e', h => by cases e; cases e'; obtain rfl : false = b := Option.some.inj h; exact F1.exm s4_1 | 4, 2, e, e', h => by cases e; cases e'; obtain rfl : false = b := Option.some.inj h; exact F2.exm s4_2 | 4, 3, e, e', h => by cases e; cases e'; obtain rfl : false = b := Option.some.inj h; exact F3.exm s4_3 | 4, 4, e, e', h => by cases e; cases e'; obtain rfl : true = b := Option.some.inj h; exact F4.exm s4_4 | 0, c' + 5, e, e', h => by cases e' | 1, c' + 5, e, e', h => by cases e' | 2, c' + 5, e, e', h => by cases e' | 3, c' + 5, e, e', h => by cases e' | 4, c' + 5, e, e', h => by cases e' | c + 5, c', e, e', h => by cases e
  case rz => exact fun c hc => by simp only [G, List.mem_cons, List.not_mem_nil, or_false] at hc; rcases hc with rfl | rfl; (· exact ⟨C3, _, rfl, initAt_of F3 xL3 rfl sa3 kC3 no3 iC3 tI3 il3 icc3 (by decide +kernel) (by decide +kernel) fun us hl => match us, hl with | [_, _], _ => rfl⟩); (· exact ⟨C4, _, rfl, initAt_of F4 xL4 rfl sa4 kC4 no4 iC4 tI4 il4 icc4 (by decide +kernel) (by decide +kernel) fun us hl => match us, hl with | [_, _], _ => rfl⟩)
  case fd => exact fun c n e => match c, e with | 0, e => by cases e; exact ⟨C0, rfl, no0⟩ | 1, e => by cases e; exact ⟨C1, rfl, no1⟩ | 2, e => by cases e; exact ⟨C2, rfl, no2⟩ | 3, e => by cases e; exact ⟨C3, rfl, no3⟩ | 4, e => by cases e; exact ⟨C4, rfl, no4⟩ | c + 5, e => by cases e
  case ln =>
    intro p hp
    simp only [List.mem_cons, List.not_mem_nil, or_false] at hp
    rcases hp with hp <;> subst hp
    · exact ⟨ln15, cc15, lc15⟩
  · simp only [G, List.mem_cons, List.not_mem_nil, or_false] at hx
    rcases hx with e | e | e | e | e | e | e | e | e | e | e
    · subst e; exact PySem.W.mg_none_of X Gn z_isinstance
    · subst e; exact PySem.W.mg_none_of X Gn z_bool
    · subst e; exact PySem.W.mg_none_of X Gn z_int
    · subst e; exact PySem.W.mg_none_of X Gn z_all
    · subst e; exact PySem.W.mg_none_of X Gn z_len
    · subst e; exact PySem.W.mg_none_of X Gn z_tuple
    · subst e; exact PySem.W.mg_none_of X Gn z_min
    · subst e; exact PySem.W.mg_none_of X Gn z_range
    · subst e; exact PySem.W.mg_none_of X Gn z_max
    · subst e; exact PySem.W.mg_none_of X Gn z_list
    · subst e; exact PySem.W.mg_none_of X Gn z_repr
  · simp only [G, List.mem_cons, List.not_mem_nil, or_false, Prod.mk.injEq] at hx
    rcases hx with ⟨e, e2⟩ | ⟨e, e2⟩ | ⟨e, e2⟩
    · subst e e2; exact ⟨.int 4000, _, PySem.W.mg_of X Gn y_MAX_HALVINGS, ⟨_, rfl⟩, fun _ _ => .int _⟩
    · subst e e2; exact ⟨.int 2000, _, PySem.W.mg_of X Gn y_MAX_POWER, ⟨_, rfl⟩, fun _ _ => .int _⟩
    · subst e e2; exact ⟨.ref b_ZERO, _, PySem.W.mg_of X Gn y_ZERO, rfl, fun _ _ => .tup (.inr ⟨_, _, _, w_ZERO, rfl, rfl, (show 5 ≤ sizeLine by rw [sizeLine_eq]; decide), show Vals [V.int 0, V.int 0, V.int 0, V.int 0, V.int 0] _ from .cons ⟨_, rfl⟩ (.cons ⟨_, rfl⟩ (.cons ⟨_, rfl⟩ (.cons ⟨_, rfl⟩ (.cons ⟨_, rfl⟩ (.nil)))))⟩) (.cons (.int _) (.cons (.int _) (.cons (.int _) (.cons (.int _) (.cons (.int _) (.nil))))))⟩
  · match i, e with
    | 0, e => cases e; exact at0 X Gn a0 l0 c0 k0
    | 1, e => cases e; exact at1 X Gn a1 l1 c1 k1
    | 2, e => cases e; exact at2 X Gn a2 l2 c2 k2
    | 3, e => cases e; exact at3 X Gn a3 l3 c3 k3
    | 4, e => cases e; exact at4 X Gn a4 l4 c4 k4
    | 5, e => cases e; exact at5 X Gn a5 l5 c5 k5
    | 6, e => cases e; exact at6 X Gn a6 l6 c6 k6
    | 7, e => cases e; exact at7 X Gn a7 l7 c7 k7
    | 8, e => cases e; exact at8 X Gn a8 l8 c8 k8
    | 9, e => cases e; exact at9 X Gn a9 l9 c9 k9
    | 10, e => cases e; exact at10 X Gn a10 l10 c10 k10
    | 11, e => cases e; exact at11 X Gn a11 l11 c11 k11
    | 12, e => cases e; exact at12 X Gn a12 l12 c12 k12
    | 13, e => cases e; exact at13 X Gn a13 l13 c13 k13
    | 14, e => cases e; exact at14 X Gn a14 l14 c14 k14
    | 15, e => cases e; exact at15 X Gn a15 l15 c15 k15 (cs := _) ⟨_, _, PySem.W.mg_of X Gn a15, fun_mk (st := top 26) l15 c15 k15, _, _, rfl, lc15, lg15, by (rw [show d15.name ++ (".<locals>." : Str) ++ ("<lambda>" : Str) = ("law.<locals>.<lambda>" : Str) from by decide +kernel]; simp [Bk.of]), fun p hp e => by simp only [Bk.of, List.mem_cons, List.not_mem_nil, or_false] at hp; rcases hp with hp <;> subst hp; (· first | rfl | exact absurd e (by first | assumption | exact Ne.symm (by assumption)))⟩
    | i + 16, e => simp [Ds] at e
  · obtain ⟨oc, od, kV, dc, pm, an, cd, ct, sl, e, _, _⟩ := F.ex
    subst e
    exact .of_eq rfl
end K05

open PySem PySem.W PyProof.Rows in
set_option maxRecDepth 100000 in
set_option maxHeartbeats 0 in
theorem PySem.Challenge.cw_spiderwires_k05_invalid_numbers_holds : PySem.Challenge.rw_spiderwires_k05_invalid_numbers.Holds := by
  w_on; o_law; k_head; (case hw => w_witness2)
  k_fill
  refine Zf.walk_zf (l := PySem.Challenge.rw_spiderwires_k05_invalid_numbers) (x := ("_law_script" : Str)) (G := K05.G) (Ds := K05.Ds) (k := 12) (iL := 15) (dL := K05.d15) [(191, ("law.<locals>.<lambda>" : Str))] rfl (by decide +kernel) rfl ⟨rfl, by decide, by decide⟩ (fun w h Y => by first | exact PySem.W.kIn_of Y | exact PySem.W.km_in_of Y) (fun w h Y p hp => PySem.W.km_tabs_of Y p.1 (by simp only [List.mem_cons, List.not_mem_nil, or_false] at hp; rcases hp with hp <;> subst hp <;> decide)) rfl K05.all_do rfl rfl rfl ?F K05.pure
  case F =>
    intro w mg h KX G
    refine' K05.all_mk KX G ?a0 ?l0 ?c0 ?k0 ?a1 ?l1 ?c1 ?k1 ?a2 ?l2 ?c2 ?k2 ?a3 ?l3 ?c3 ?k3 ?a4 ?l4 ?c4 ?k4 ?a5 ?l5 ?c5 ?k5 ?a6 ?l6 ?c6 ?k6 ?a7 ?l7 ?c7 ?k7 ?a8 ?l8 ?c8 ?k8 ?a9 ?l9 ?c9 ?k9 ?a10 ?l10 ?c10 ?k10 ?a11 ?l11 ?c11 ?k11 ?a12 ?l12 ?c12 ?k12 ?a13 ?l13 ?c13 ?k13 ?a14 ?l14 ?c14 ?k14 ?a15 ?l15 ?c15 ?k15 ?lc15 ?ln15 ?lg15 ?z_isinstance ?z_bool ?z_int ?z_all ?z_len ?z_tuple ?z_min ?z_range ?z_max ?z_list ?z_repr ?y_MAX_HALVINGS ?y_MAX_POWER ?y_ZERO ?w_ZERO ?yn ?yt ?xa0 ?xa1 ?xa2 ?xa3 ?xa4 ?ga0 ?gg0 ?eC0 ?hC0 ?ha0 ?hm0 ?tC0 ?ic0 ?s0_0 ?s0_1 ?s0_2 ?s0_3 ?s0_4 ?no0 ?ga1 ?gg1 ?eC1 ?hC1 ?ha1 ?hm1 ?tC1 ?ic1 ?s1_0 ?s1_1 ?s1_2 ?s1_3 ?s1_4 ?no1 ?ga2 ?gg2 ?eC2 ?hC2 ?ha2 ?hm2 ?tC2 ?ic2 ?s2_0 ?s2_1 ?s2_2 ?s2_3 ?s2_4 ?no2 ?ga3 ?gg3 ?eC3 ?hC3 ?ha3 ?hm3 ?tC3 ?ic3 ?s3_0 ?s3_1 ?s3_2 ?s3_3 ?s3_4 ?no3 ?ga4 ?gg4 ?eC4 ?hC4 ?ha4 ?hm4 ?tC4 ?ic4 ?s4_0 ?s4_1 ?s4_2 ?s4_3 ?s4_4 ?no4 ?xL3 ?sa3 ?kC3 ?iC3 ?tI3 ?il3 ?icc3 ?xL4 ?sa4 ?kC4 ?iC4 ?tI4 ?il4 ?icc4
    (case a0 => k_is)
    (case l0 => k_is)
    (case c0 => k_is)
    (case k0 => k_is)
    (case a1 => k_is)
    (case l1 => k_is)
    (case c1 => k_is)
    (case k1 => k_is)
    (case a2 => k_is)
    (case l2 => k_is)
    (case c2 => k_is)
    (case k2 => k_is)
    (case a3 => k_is)
    (case l3 => k_is)
    (case c3 => k_is)
    (case k3 => k_is)
    (case a4 => k_is)
    (case l4 => k_is)
    (case c4 => k_is)
    (case k4 => k_is)
    (case a5 => k_is)
    (case l5 => k_is)
    (case c5 => k_is)
    (case k5 => k_is)
    (case a6 => k_is)
    (case l6 => k_is)
    (case c6 => k_is)
    (case k6 => k_is)
    (case a7 => k_is)
    (case l7 => k_is)
    (case c7 => k_is)
    (case k7 => k_is)
    (case a8 => k_is)
    (case l8 => k_is)
    (case c8 => k_is)
    (case k8 => k_is)
    (case a9 => k_is)
    (case l9 => k_is)
    (case c9 => k_is)
    (case k9 => k_is)
    (case a10 => k_is)
    (case l10 => k_is)
    (case c10 => k_is)
    (case k10 => k_is)
    (case a11 => k_is)
    (case l11 => k_is)
    (case c11 => k_is)
    (case k11 => k_is)
    (case a12 => k_is)
    (case l12 => k_is)
    (case c12 => k_is)
    (case k12 => k_is)
    (case a13 => k_is)
    (case l13 => k_is)
    (case c13 => k_is)
    (case k13 => k_is)
    (case a14 => k_is)
    (case l14 => k_is)
    (case c14 => k_is)
    (case k14 => k_is)
    (case a15 => k_is)
    (case l15 => k_is)
    (case c15 => k_is)
    (case k15 => k_is)
    (case lc15 => first | k_is | kernel_rfl | decide +kernel)
    (case ln15 => first | k_is | kernel_rfl | decide +kernel)
    (case lg15 => first | k_is | kernel_rfl | decide +kernel)
    (case z_isinstance => k_is)
    (case z_bool => k_is)
    (case z_int => k_is)
    (case z_all => k_is)
    (case z_len => k_is)
    (case z_tuple => k_is)
    (case z_min => k_is)
    (case z_range => k_is)
    (case z_max => k_is)
    (case z_list => k_is)
    (case z_repr => k_is)
    (case y_MAX_HALVINGS => k_is)
    (case y_MAX_POWER => k_is)
    (case y_ZERO => k_is)
    (case w_ZERO => k_is)
    (case yn => k_is)
    (case yt => k_is)
    (case xa0 => k_is)
    (case xa1 => k_is)
    (case xa2 => k_is)
    (case xa3 => k_is)
    (case xa4 => k_is)
    (case ga0 => k_is)
    (case gg0 => k_is)
    (case eC0 => k_is)
    (case hC0 => k_is)
    (case ha0 => k_is)
    (case hm0 => k_is)
    (case tC0 => k_is)
    (case ic0 => k_is)
    (case s0_0 => k_is)
    (case s0_1 => k_is)
    (case s0_2 => k_is)
    (case s0_3 => k_is)
    (case s0_4 => k_is)
    (case no0 => k_is)
    (case ga1 => k_is)
    (case gg1 => k_is)
    (case eC1 => k_is)
    (case hC1 => k_is)
    (case ha1 => k_is)
    (case hm1 => k_is)
    (case tC1 => k_is)
    (case ic1 => k_is)
    (case s1_0 => k_is)
    (case s1_1 => k_is)
    (case s1_2 => k_is)
    (case s1_3 => k_is)
    (case s1_4 => k_is)
    (case no1 => k_is)
    (case ga2 => k_is)
    (case gg2 => k_is)
    (case eC2 => k_is)
    (case hC2 => k_is)
    (case ha2 => k_is)
    (case hm2 => k_is)
    (case tC2 => k_is)
    (case ic2 => k_is)
    (case s2_0 => k_is)
    (case s2_1 => k_is)
    (case s2_2 => k_is)
    (case s2_3 => k_is)
    (case s2_4 => k_is)
    (case no2 => k_is)
    (case ga3 => k_is)
    (case gg3 => k_is)
    (case eC3 => k_is)
    (case hC3 => k_is)
    (case ha3 => k_is)
    (case hm3 => k_is)
    (case tC3 => k_is)
    (case ic3 => k_is)
    (case s3_0 => k_is)
    (case s3_1 => k_is)
    (case s3_2 => k_is)
    (case s3_3 => k_is)
    (case s3_4 => k_is)
    (case no3 => k_is)
    (case ga4 => k_is)
    (case gg4 => k_is)
    (case eC4 => k_is)
    (case hC4 => k_is)
    (case ha4 => k_is)
    (case hm4 => k_is)
    (case tC4 => k_is)
    (case ic4 => k_is)
    (case s4_0 => k_is)
    (case s4_1 => k_is)
    (case s4_2 => k_is)
    (case s4_3 => k_is)
    (case s4_4 => k_is)
    (case no4 => k_is)
    (case xL3 => k_is)
    (case sa3 => k_is)
    (case kC3 => k_is)
    (case iC3 => k_is)
    (case tI3 => k_is)
    (case il3 => k_is)
    (case icc3 => k_is)
    (case xL4 => k_is)
    (case sa4 => k_is)
    (case kC4 => k_is)
    (case iC4 => k_is)
    (case tI4 => k_is)
    (case il4 => k_is)
    (case icc4 => k_is)
