import PyProof.Rows.All
import HandS.ForExc
import HandS.ForMost
import HandS.Walk
import HandS.Wide
import HandS.WideMore
import HandS.IsInst
import HandS.Zip
import HandS.Gcd
import HandS.Deep
import HandS.Star
import HandS.TryMany
import HandS.CallSlots
import HandS.TupAny
import HandS.ExcOwn
import HandS.Style
import HandS.ExcIs
import HandS.SortInts
import HandS.RaiseMore
import KE.KDictKeyed
import KE.KeyNested
import KE.KDictWalk
import HandS.Defaults
import PyProof.LongRange
import HandS.Flt
import HandS.SortKw
import HandS.SortOrd
import PyProof.EnumMake
import PyProof.Draws
import KE.GoesMore
import KE.GoesEnum
import HandS.Flow
import HandS.Dict
import HandS.Conv
import KE.KDictZip
import HandS.WideBits
import PyProof.EqKinds
import HandS.SetFor
import HandS.Strs
import KE.KRevSl
import HandS.TryOnly
import HandS.TupMul
import PySem.Challenge.RW_stagedplans_k28_behaviours_judged
import PyProof.Rows.All
import Wide.All
import OpenK.AllK
import Wide.FinOn
set_option Elab.async false
set_option linter.all false
set_option maxRecDepth 100000
set_option maxHeartbeats 2000000
set_option autoImplicit false
/-! # A layer of plain functions over the hand layer: what a def gives, as a function of data -/
namespace Lw
open PySem PySem.Spec PyProof.Rows L2

abbrev D := PyData
abbrev Own := Addr → Prop
abbrev Well := Int × Int × Int
def wellVs (w : Well) : List V := [.int w.1, .int w.2.1, .int w.2.2]

/-- the written part, once for all -/
class FragI where
  fk : PySem.W.Frag
  pr : Program
  wo : World
abbrev fK [KI : FragI] : PySem.W.Frag := KI.fk
variable [KI : FragI]
/-- a list of the written part -/
def KList (a : Addr) (xs : List V) : Prop := ∃ o its n, List.lookup a fK = some o ∧ o.cls = Value.type "list" ∧ o.dict = none ∧ o.data = Data.seq its n ∧ its.size ≤ sizeLine ∧ Vals xs its.toList
/-- a tuple of the written part -/
def KTup (a : Addr) (xs : List V) : Prop := ∃ o its n, List.lookup a fK = some o ∧ o.cls = Value.type "tuple" ∧ o.data = Data.seq its n ∧ its.size ≤ sizeLine ∧ Vals xs its.toList
def TpR (O : Own) (H : Hp) (a : Addr) (xs : List V) : Prop := (¬ O a ∧ Rd H a (.tup xs)) ∨ KTup a xs
def LsR (O : Own) (H : Hp) (a : Addr) (xs : List V) : Prop := (¬ O a ∧ Rd H a (.lst xs)) ∨ KList a xs
def keyD : L2.Key → D
  | .inl i => .int i
  | .inr x => .str x
mutual
/-- the value v is the data d in the heap H, beside what is owned -/
inductive Rp (O : Own) (H : Hp) : V → D → Prop
  | non : Rp O H .non .none
  | bl (b : Bool) : Rp O H (.bl b) (.bool b)
  | int (i : Int) : Rp O H (.int i) (.int i)
  | str (x : Str) : Rp O H (.str x) (.str x)
  | lst {a : Addr} {xs : List V} {ds : List D} : LsR O H a xs → RpA O H xs ds → Rp O H (.ref a) (.list ds)
  | tup {a : Addr} {xs : List V} {ds : List D} : TpR O H a xs → RpA O H xs ds → Rp O H (.ref a) (.tuple ds)
  | dct {a : Addr} : ¬ O a → H a = some (.dK []) → Rp O H (.ref a) (.dict [])
  | dki {a : Addr} {kvs : List (L2.Key × Int)} {ds : List (D × D)} : ¬ O a → H a = some (.dK (kvs.map fun p => (p.1, V.int p.2))) → ds = kvs.map (fun p => (keyD p.1, PyData.int p.2)) → kvs ≠ [] → Rp O H (.ref a) (.dict ds)
  /-- a dict of which nothing is told -/
  | dko {a : Addr} {kvs : List (L2.Key × V)} {ds : List (D × D)} : ¬ O a → H a = some (.dK kvs) → ds = [(.none, .none)] → Rp O H (.ref a) (.dict ds)
inductive RpA (O : Own) (H : Hp) : List V → List D → Prop
  | nil : RpA O H [] []
  | cons {v : V} {vs : List V} {d : D} {ds : List D} : Rp O H v d → RpA O H vs ds → RpA O H (v :: vs) (d :: ds)
end

def Stp (O : Own) (H : Hp) (O' : Own) (H' : Hp) : Prop := ∀ a o, ¬ O a → H a = some o → ¬ O' a ∧ H' a = some o
theorem Stp.refl {O : Own} {H : Hp} : Stp O H O H := fun _ _ n e => ⟨n, e⟩
theorem Stp.trans {O O1 O2 : Own} {H H1 H2 : Hp} (a : Stp O H O1 H1) (b : Stp O1 H1 O2 H2) : Stp O H O2 H2 := fun x o n e => by
  obtain ⟨n1, e1⟩ := a x o n e
  exact b x o n1 e1
theorem Stp.same {O : Own} {H H' : Hp} (s : Same H H') : Stp O H O H' := fun a o n e => ⟨n, s a o e⟩
theorem Stp.less {O O' : Own} {H : Hp} (s : ∀ a, O' a → O a) : Stp O H O' H := fun a o n e => ⟨fun z => n (s a z), e⟩
theorem Rd.stp {O O' : Own} {H H' : Hp} {a : Addr} {u : HO} (st : Stp O H O' H') (n : ¬ O a) (r : Rd H a u) : ¬ O' a ∧ Rd H' a u := by
  rcases r with e | ⟨o, e⟩
  · exact ⟨(st _ _ n e).1, .inl (st _ _ n e).2⟩
  · exact ⟨(st _ _ n e).1, .inr ⟨o, (st _ _ n e).2⟩⟩
theorem LsR.stp {O O' : Own} {H H' : Hp} {a : Addr} {xs : List V} (st : Stp O H O' H') (r : LsR O H a xs) : LsR O' H' a xs := by
  rcases r with ⟨n, r⟩ | r
  · exact .inl (Rd.stp st n r)
  · exact .inr r
theorem LsR.sq {O : Own} {H : Hp} {a : Addr} {xs : List V} (r : LsR O H a xs) : SqL fK H a xs := by
  rcases r with ⟨_, r⟩ | r
  · exact .inl r
  · exact .inr r
theorem TpR.stp {O O' : Own} {H H' : Hp} {a : Addr} {xs : List V} (st : Stp O H O' H') (r : TpR O H a xs) : TpR O' H' a xs := by
  rcases r with ⟨n, r⟩ | r
  · exact .inl (Rd.stp st n r)
  · exact .inr r
theorem TpR.sq {O : Own} {H : Hp} {a : Addr} {xs : List V} (r : TpR O H a xs) : SqT fK H a xs := by
  rcases r with ⟨_, r⟩ | r
  · exact .inl r
  · exact .inr r
theorem TpR.new {O : Own} {H : Hp} {a : Addr} {xs : List V} (n : ¬ O a) (r : H a = some (.tup xs)) : TpR O H a xs := .inl ⟨n, .inl r⟩
mutual
theorem Rp.stp {O O' : Own} {H H' : Hp} (st : Stp O H O' H') : ∀ {v : V} {d : D}, Rp O H v d → Rp O' H' v d
  | _, _, .non => .non
  | _, _, .bl b => .bl b
  | _, _, .int i => .int i
  | _, _, .str x => .str x
  | _, _, .lst r al => .lst (r.stp st) (RpA.stp st al)
  | _, _, .tup r al => .tup (r.stp st) (RpA.stp st al)
  | _, _, .dct n e => .dct (st _ _ n e).1 (st _ _ n e).2
  | _, _, .dki n e hd hk => .dki (st _ _ n e).1 (st _ _ n e).2 hd hk
  | _, _, .dko n e hd => .dko (st _ _ n e).1 (st _ _ n e).2 hd
theorem RpA.stp {O O' : Own} {H H' : Hp} (st : Stp O H O' H') : ∀ {vs : List V} {ds : List D}, RpA O H vs ds → RpA O' H' vs ds
  | _, _, .nil => .nil
  | _, _, .cons r al => .cons (Rp.stp st r) (RpA.stp st al)
end
theorem RpA.length {O : Own} {H : Hp} : ∀ {vs : List V} {ds : List D}, RpA O H vs ds → vs.length = ds.length
  | _, _, .nil => rfl
  | _, _, .cons _ al => by rw [List.length_cons, List.length_cons, RpA.length al]
theorem RpA.append {O : Own} {H : Hp} : ∀ {vs ws : List V} {ds es : List D}, RpA O H vs ds → RpA O H ws es → RpA O H (vs ++ ws) (ds ++ es)
  | _, _, _, _, .nil, b => b
  | _, _, _, _, .cons r al, b => .cons r (RpA.append al b)
theorem RpA.get {O : Own} {H : Hp} : ∀ {vs : List V} {ds : List D} {i : Nat} {d : D}, RpA O H vs ds → ds[i]? = some d → ∃ v, vs[i]? = some v ∧ Rp O H v d
  | _, _, _, _, .nil, e => by simp at e
  | _, _, 0, d, .cons r _, e => by simp at e; subst e; exact ⟨_, rfl, r⟩
  | _, _, i + 1, d, .cons _ al, e => by
    obtain ⟨v, h1, h2⟩ := RpA.get (i := i) (d := d) al (by simpa using e)
    exact ⟨v, by simpa using h1, h2⟩
theorem RpA.getV {O : Own} {H : Hp} : ∀ {vs : List V} {ds : List D} {i : Nat} {v : V}, RpA O H vs ds → vs[i]? = some v → ∃ d, ds[i]? = some d ∧ Rp O H v d
  | _, _, _, _, .nil, e => by simp at e
  | _, _, 0, d, .cons r _, e => by simp at e; subst e; exact ⟨_, rfl, r⟩
  | _, _, i + 1, d, .cons _ al, e => by
    obtain ⟨v, h1, h2⟩ := RpA.getV (i := i) (v := d) al (by simpa using e)
    exact ⟨v, by simpa using h1, h2⟩
theorem RpA.set {O : Own} {H : Hp} {v : V} {d : D} (r : Rp O H v d) : ∀ {vs : List V} {ds : List D} (i : Nat), RpA O H vs ds → RpA O H (vs.set i v) (ds.set i d)
  | _, _, _, .nil => .nil
  | _, _, 0, .cons _ al => .cons r al
  | _, _, i + 1, .cons q al => .cons q (RpA.set r i al)
theorem RpA.take {O : Own} {H : Hp} : ∀ {vs : List V} {ds : List D} (n : Nat), RpA O H vs ds → RpA O H (vs.take n) (ds.take n)
  | _, _, 0, _ => .nil
  | _, _, n + 1, .nil => .nil
  | _, _, n + 1, .cons q al => .cons q (RpA.take n al)
theorem RpA.drop {O : Own} {H : Hp} : ∀ {vs : List V} {ds : List D} (n : Nat), RpA O H vs ds → RpA O H (vs.drop n) (ds.drop n)
  | _, _, 0, al => al
  | _, _, n + 1, .nil => .nil
  | _, _, n + 1, .cons q al => RpA.drop n al
mutual
theorem Rp.dp {O : Own} {H : Hp} : ∀ {v : V} {d : D}, Rp O H v d → d.canLay0 = true → Dp fK H v d
  | _, _, .non, _ => .non
  | _, _, .bl b, _ => .bl b
  | _, _, .int i, _ => .int i
  | _, _, .str x, _ => .str x
  | _, _, .lst r al, h => .lst r.sq (RpA.dp al (by simpa only [PyData.canLay0] using h))
  | _, _, .tup r al, h => .tup r.sq (RpA.dp al (by simpa only [PyData.canLay0] using h))
  | _, _, .dct _ _, h => by simp [PyData.canLay0] at h
  | _, _, .dki _ _ _ _, h => by simp [PyData.canLay0] at h
  | _, _, .dko _ _ _, h => by simp [PyData.canLay0] at h
theorem RpA.dp {O : Own} {H : Hp} : ∀ {vs : List V} {ds : List D}, RpA O H vs ds → PyData.canLayAll0 ds = true → DpAll fK H vs ds
  | _, _, .nil, _ => .nil
  | _, _, .cons r al, h => by
    rw [PyData.canLayAll0, Bool.and_eq_true] at h
    exact .cons (Rp.dp r h.1) (RpA.dp al h.2)
end
theorem RpA.ints {O : Own} {H : Hp} : ∀ (ns : List Int), RpA O H (ns.map V.int) (ns.map PyData.int)
  | [] => .nil
  | n :: r => .cons (.int n) (RpA.ints r)
theorem RpA.of_ints {O : Own} {H : Hp} : ∀ {ns : List Int} {vs : List V}, RpA O H vs (ns.map PyData.int) → vs = ns.map V.int
  | [], _, .nil => rfl
  | n :: r, _, .cons (.int _) al => by rw [RpA.of_ints al]; rfl
theorem RpA.of_bools {O : Own} {H : Hp} : ∀ {ns : List Bool} {vs : List V}, RpA O H vs (ns.map PyData.bool) → vs = ns.map V.bl
  | [], _, .nil => rfl
  | n :: r, _, .cons (.bl _) al => by rw [RpA.of_bools al]; rfl

/-! ### slots, states -/
inductive Sl where
  | no
  | dt (d : D)
  | wel
  /-- the exception that is handled, its class -/
  | ex (p : Addr) (c : Nat)
  /-- an own list (true), an own dict (false: keys and values in turn) -/
  | cn (c : Bool) (l : List D)
/-! the key that data is, to depth n -/
mutual
def nkD : Nat → D → Option NestedKey
  | _, .none => some .none
  | _, .bool b => some (.num (if b = true then 1 else 0))
  | _, .int i => some (.num i)
  | _, .str x => some (.text x)
  | n + 1, .tuple l => (nkDs n l).map .tup
  | _, _ => none
def nkDs : Nat → List D → Option (List NestedKey)
  | _, [] => some []
  | n, d :: r => match nkD n d, nkDs n r with | some k, some ks => some (k :: ks) | _, _ => none
end
/-- a key of a dict: a tuple -/
def nkT : D → Option NestedKey
  | .tuple l => nkD 8 (.tuple l)
  | _ => none
/-- the entries of a dict: keys and values in turn -/
inductive Ent : List V → List D → List (NestedKey × Addr × Value) → Prop
  | nil : Ent [] [] []
  | cons {ka : Addr} {v : V} {vs : List V} {dk dv : D} {ds : List D} {k : NestedKey} {u : Value} {xs : List (NestedKey × Addr × Value)} : nkT dk = some k → RelV v u → Ent vs ds xs → Ent (.ref ka :: v :: vs) (dk :: dv :: ds) ((k, ka, u) :: xs)
/-- a dict's own object -/
def DRaw (a : Addr) (ob : Obj) (vs : List V) (ds : List D) : Prop := (a == sysModules) = false ∧ ∃ xs es ep, Ent vs ds xs ∧ xs.length ≤ sizeLine ∧ ob.ExactDict ∧ ob.data = .dict es ep ∧ es.toList = xs.map (entryOfKey (nestedKind KI.pr KI.wo)) ∧ (xs.map (·.1)).Nodup
/-- it is known to its object -/
def dO (a : Addr) (ob : Obj) : HO := .ext fun h => h.get? a = some ob
/-- what is owned at a -/
abbrev CnR (H : Hp) (a : Addr) (c : Bool) (vs : List V) (l : List D) : Prop := match c with
  | true => H a = some (.lst vs)
  | false => ∃ ob, H a = some (dO a ob) ∧ DRaw a ob vs l
theorem CnR.to {H H' : Hp} {a : Addr} {c : Bool} {vs : List V} {l : List D} (r : CnR H a c vs l) (h : ∀ u, H a = some u → H' a = some u) : CnR H' a c vs l := by
  cases c with
  | true => exact h _ r
  | false =>
    obtain ⟨ob, e, z⟩ := r
    exact ⟨ob, h _ e, z⟩
theorem CnR.some {H : Hp} {a : Addr} {c : Bool} {vs : List V} {l : List D} (r : CnR H a c vs l) : ∃ u, H a = some u := by
  cases c with
  | true => exact ⟨_, r⟩
  | false =>
    obtain ⟨ob, e, z⟩ := r
    exact ⟨_, e⟩

def SlR (O : Own) (wa xa : Addr) (H H0 : Hp) : Sl → Option V → Prop
  | .no, _ => True
  | .dt d, some v => Rp O H v d
  | .wel, some v => v = .ref wa
  | .ex p _, some v => v = .ref p
  | .cn c l, some v => ∃ a vs, v = .ref a ∧ O a ∧ CnR H a c vs l ∧ RpA O H vs l ∧ H0 a = none
  | _, none => False

/-- what stood at the entry -/
structure Bs where
  O : Own
  H : Hp
  wa : Addr
  W : Option Well
  mkw : Bool
  bo : ∀ a, O a → H a ≠ none
  xa : Addr

structure ER (b : Bs) (O : Own) (wa : Addr) (W : Option Well) (ρ : List Sl) (σ : L2.St) (H : Hp) : Prop where
  len : σ.length = ρ.length
  al : ∀ a, O a → H a ≠ none
  sl : ∀ (i : Nat) (s : Sl), ρ[i]? = some s → ∃ o, σ[i]? = some o ∧ SlR O wa b.xa H b.H s o
  inj : ∀ {c c' : Bool} (i j : Nat) (l l' : List D) (a : Addr), i ≠ j → ρ[i]? = some (.cn c l) → ρ[j]? = some (.cn c' l') → σ[i]? = some (some (.ref a)) → σ[j]? = some (some (.ref a)) → False
  nw : ∀ {c : Bool} (i : Nat) (l : List D) (a : Addr), ρ[i]? = some (.cn c l) → σ[i]? = some (some (.ref a)) → W.isSome = true → a ≠ wa
  wl : ∀ w, W = some w → O wa ∧ H wa = some (.lst (wellVs w))
  keep : ∀ a o, (b.W.isSome = true → a ≠ b.wa) → b.H a = some o → H a = some o
  sub : ∀ a, b.O a → O a
  new : ∀ a, O a → b.O a ∨ b.H a = none
  wm : b.mkw = false → W.isSome = b.W.isSome ∧ wa = b.wa
  wn : b.mkw = true → b.W = none ∧ (W.isSome = true → b.H wa = none)

def OU (O : Own) (p : Addr) : Own := fun a => O a ∨ a = p

section
variable {b : Bs} {O : Own} {wa : Addr} {W : Option Well} {ρ : List Sl} {σ : L2.St} {H H' : Hp}
theorem SlR.stp {xa : Addr} {O' : Own} {H0 : Hp} {s : Sl} {o : Option V} (st : Stp O H O' H') (hown : ∀ a u, O a → H a = some u → H0 a = none → (∃ c l, s = .cn c l) → o = some (.ref a) → O' a ∧ H' a = some u) (h : SlR O wa xa H H0 s o) : SlR O' wa xa H' H0 s o := by
  cases s with
  | no => trivial
  | dt d => cases o with
    | none => exact h
    | some v => exact Rp.stp st h
  | wel => cases o with
    | none => exact h
    | some v => exact h
  | ex p c => cases o with
    | none => exact h
    | some v => exact h
  | cn c l => cases o with
    | none => exact h
    | some v =>
      obtain ⟨a, vs, rfl, oa, ha, r, h0⟩ := h
      obtain ⟨u, hu⟩ := ha.some
      exact ⟨a, vs, rfl, (hown a u oa hu h0 ⟨c, l, rfl⟩ rfl).1, ha.to fun u hu => (hown a u oa hu h0 ⟨c, l, rfl⟩ rfl).2, RpA.stp st r, h0⟩
/-- more objects -/
theorem ER.same (e : ER b O wa W ρ σ H) (s : Same H H') : ER b O wa W ρ σ H' where
  len := e.len
  al := fun a oa => by
    cases q : H a with
    | none => exact absurd q (e.al a oa)
    | some o => rw [s a o q]; exact fun z => nomatch z
  sl := fun i x hx => by
    obtain ⟨o, h1, h2⟩ := e.sl i x hx
    exact ⟨o, h1, h2.stp (Stp.same s) fun a vs oa ha _ _ _ => ⟨oa, s _ _ ha⟩⟩
  inj := e.inj
  nw := e.nw
  wl := fun w hw => ⟨(e.wl w hw).1, s _ _ (e.wl w hw).2⟩
  keep := fun a o h1 h2 => s _ _ (e.keep a o h1 h2)
  sub := e.sub
  new := e.new
  wm := e.wm
  wn := e.wn
theorem ER.base_none (e : ER b O wa W ρ σ H) {p : Addr} (hp : H p = none) : b.H p = none := by
  cases q : b.H p with
  | none => rfl
  | some o =>
    by_cases hw : b.W.isSome = true ∧ p = b.wa
    · obtain ⟨h1, h2⟩ := hw
      have hmk : b.mkw = false := by
        cases hm : b.mkw with
        | false => rfl
        | true => rw [(e.wn hm).1] at h1; cases h1
      obtain ⟨h3, h4⟩ := e.wm hmk
      rw [h1] at h3
      obtain ⟨w, hw⟩ := Option.isSome_iff_exists.mp h3
      have h5 := (e.wl w hw).2
      rw [h4, ← h2, hp] at h5
      cases h5
    · have := e.keep p o (fun h1 h2 => hw ⟨h1, h2⟩) q
      rw [hp] at this
      cases this
/-- a new owned list -/
theorem ER.own (e : ER b O wa W ρ σ H) (s : Same H H') {p : Addr} {o : HO} (hp : H p = none) (hp' : H' p = some o) : ER b (OU O p) wa W ρ σ H' := by
  have e' := e.same s
  have st : Stp O H (OU O p) H' := fun a u n q => ⟨fun z => z.elim n (fun z => by rw [z, hp] at q; exact nomatch q), s a u q⟩
  refine ⟨e.len, fun a oa => ?_, fun i x hx => ?_, e.inj, e.nw, fun w hw => ⟨.inl (e'.wl w hw).1, (e'.wl w hw).2⟩, e'.keep, fun a q => .inl (e.sub a q), fun a q => ?_, e.wm, e.wn⟩
  · rcases oa with oa | rfl
    · exact e'.al a oa
    · rw [hp']; exact fun z => nomatch z
  · obtain ⟨u, h1, h2⟩ := e.sl i x hx
    exact ⟨u, h1, h2.stp st fun a vs oa ha _ _ _ => ⟨.inl oa, s _ _ ha⟩⟩
  · rcases q with q | rfl
    · exact e.new a q
    · exact .inr (e.base_none hp)
/-- less owned -/
theorem ER.rel {wp : Addr} (e : ER b (OU O wp) wa W ρ σ H) (hno : ¬ O wp) (hb : ∀ {c : Bool} (i : Nat) (l : List D) (a : Addr), ρ[i]? = some (.cn c l) → σ[i]? = some (some (.ref a)) → a ≠ wp) (hw : W.isSome = true → wa ≠ wp) (hs : ¬ b.O wp) : ER b O wa W ρ σ H := by
  have st : Stp (OU O wp) H O H := fun a u n q => ⟨fun z => n (.inl z), q⟩
  refine ⟨e.len, fun a oa => e.al a (.inl oa), fun i x hx => ?_, e.inj, e.nw, fun w hq => ⟨(e.wl w hq).1.elim id fun z => absurd z (hw (by rw [hq]; rfl)), (e.wl w hq).2⟩, e.keep, fun a q => (e.sub a q).elim id fun z => absurd (z ▸ q) hs, fun a q => e.new a (.inl q), e.wm, e.wn⟩
  obtain ⟨u, h1, h2⟩ := e.sl i x hx
  refine ⟨u, h1, h2.stp st fun a vs oa ha _ hl hu => ⟨oa.elim id fun z => ?_, ha⟩⟩
  obtain ⟨c, l, rfl⟩ := hl
  subst hu
  exact absurd z (hb i l a hx h1)
end
end Lw
set_option Elab.async false
set_option linter.all false
set_option maxRecDepth 100000
set_option maxHeartbeats 2000000
set_option autoImplicit false
namespace Lw
open PySem PySem.Spec PyProof.Rows L2
variable [KI : FragI]

/-- what an expression gives: data, or a list that is new -/
inductive Ev where
  | d (x : D)
  | f (l : List D)
def Ev.D : Ev → D
  | .d x => x
  | .f l => .list l
inductive Res where
  | ok (e : Ev) (W : Option Well)
  | exc (c : Nat) (W : Option Well)
  | bad
inductive RA where
  | ok (as : List Sl) (W : Option Well)
  | exc (c : Nat) (W : Option Well)
  | bad
inductive RT where
  | ok (k : Bool) (W : Option Well)
  | exc (c : Nat) (W : Option Well)
  | bad
abbrev FE := List Sl → Option Well → Res
abbrev FA := List Sl → Option Well → RA
abbrev FT := List Sl → Option Well → RT

def ArR (O : Own) (wa : Addr) (H : Hp) : Sl → V → Prop
  | .dt d, v => Rp O H v d
  | .wel, v => v = .ref wa
  | .ex p _, v => v = .ref p
  | _, _ => False
inductive ArRs (O : Own) (wa : Addr) (H : Hp) : List Sl → List V → Prop
  | nil : ArRs O wa H [] []
  | cons {s : Sl} {v : V} {ss : List Sl} {vs : List V} : ArR O wa H s v → ArRs O wa H ss vs → ArRs O wa H (s :: ss) (v :: vs)

/-- where one stands: the slots, the heap, what is owned -/
structure At where
  b : Bs
  O : Own
  wa : Addr
  ρ : List Sl
  σ : L2.St
  H : Hp
  hw : Bool
abbrev At.Er (a : At) (W : Option Well) : Prop := ER a.b a.O a.wa W a.ρ a.σ a.H ∧ W.isSome = a.hw
abbrev At.to (a : At) (H : Hp) : At := { a with H := H }
/-- all but the well stands -/
def Est (wa : Addr) (hw : Bool) (H H' : Hp) : Prop := ∀ x o, (hw = true → x ≠ wa) → H x = some o → H' x = some o
theorem Est.refl {wa : Addr} {hw : Bool} {H : Hp} : Est wa hw H H := fun _ _ _ e => e
theorem Est.trans {wa : Addr} {hw : Bool} {H H1 H2 : Hp} (a : Est wa hw H H1) (b : Est wa hw H1 H2) : Est wa hw H H2 := fun x o n e => b x o n (a x o n e)
theorem Est.same {wa : Addr} {hw : Bool} {H H' : Hp} (s : Same H H') : Est wa hw H H' := fun x o _ e => s x o e
theorem Est.stp {a : At} {W : Option Well} {H' : Hp} (e : Est a.wa a.hw a.H H') (I : a.Er W) : Stp a.O a.H a.O H' := fun x o n q => ⟨n, e x o (fun h z => by
  obtain ⟨w, hw⟩ := Option.isSome_iff_exists.mp (I.2.trans h)
  exact n (z ▸ (I.1.wl w hw).1)) q⟩
theorem Est.stpO {a : At} {W : Option Well} {H' : Hp} {p : Addr} (e : Est a.wa a.hw a.H H') (I : a.Er W) (hp : a.H p = none) : Stp a.O a.H (OU a.O p) H' := fun x o n q => ⟨fun z => z.elim n (fun z => by rw [z, hp] at q; exact nomatch q), (e.stp I x o n q).2⟩

theorem Est.no {a : At} {W W1 : Option Well} {H1 : Hp} {p : Addr} (I : a.Er W) (st : Est a.wa a.hw a.H H1) (I1 : (a.to H1).Er W1) (hn : H1 p = none) : a.H p = none := by
  cases q : a.H p with
  | none => rfl
  | some o =>
    have e := st p o (fun h z => by
      obtain ⟨w, hw⟩ := Option.isSome_iff_exists.mp (I1.2.trans h)
      have := (I1.1.wl w hw).2
      rw [← z] at this
      have hn' : (a.to H1).H p = none := hn
      rw [hn'] at this
      cases this) q
    rw [hn] at e
    cases e
def wE (Wx : WX) (ca : Nat → Addr) (a : At) (Q : VK) : Res → Prop
  | .ok (.d x) W' => ∀ v H', (a.to H').Er W' → Est a.wa a.hw a.H H' → Rp a.O H' v x → Q v H'
  | .ok (.f l) W' => ∀ p vs H', ER a.b (OU a.O p) a.wa W' a.ρ a.σ H' → Est a.wa a.hw a.H H' → a.H p = none → (a.to H').Er W' → ¬ a.O p → p ≠ a.wa ∨ W' = none → (∀ {c : Bool} (i : Nat) (l : List D), a.ρ[i]? = some (.cn c l) → a.σ[i]? ≠ some (some (.ref p))) → H' p = some (.lst vs) → RpA (OU a.O p) H' vs l → a.b.H p = none → Q (.ref p) H'
  | .exc c W' => ∀ H', (a.to H').Er W' → Est a.wa a.hw a.H H' → Wx (.ref (ca c)) none a.σ H'
  | .bad => False
def wA (Wx : WX) (ca : Nat → Addr) (a : At) (Q : List V → Hp → Prop) : RA → Prop
  | .ok as W' => ∀ vs H', (a.to H').Er W' → Est a.wa a.hw a.H H' → ArRs a.O a.wa H' as vs → Q vs H'
  | .exc c W' => ∀ H', (a.to H').Er W' → Est a.wa a.hw a.H H' → Wx (.ref (ca c)) none a.σ H'
  | .bad => False
def wT (Wx : WX) (ca : Nat → Addr) (a : At) (Q : Bool → Hp → Prop) : RT → Prop
  | .ok k W' => ∀ H', (a.to H').Er W' → Est a.wa a.hw a.H H' → Q k H'
  | .exc c W' => ∀ H', (a.to H').Er W' → Est a.wa a.hw a.H H' → Wx (.ref (ca c)) none a.σ H'
  | .bad => False

def SndE (Wx : WX) (ca : Nat → Addr) (t : TE) (f : FE) : Prop := ∀ (a : At) (W : Option Well) (Q : VK), a.Er W → wE Wx ca a Q (f a.ρ W) → t a.σ a.H Q
def SndA (Wx : WX) (ca : Nat → Addr) (t : TA) (f : FA) : Prop := ∀ (a : At) (W : Option Well) (Q : List V → Hp → Prop), a.Er W → wA Wx ca a Q (f a.ρ W) → t a.σ a.H Q
def SndT (Wx : WX) (ca : Nat → Addr) (t : TT) (f : FT) : Prop := ∀ (a : At) (W : Option Well) (Q : Bool → Hp → Prop), a.Er W → wT Wx ca a Q (f a.ρ W) → t a.σ a.H Q
/-- where code stands: the contexts P, all alike in what is told here -/
structure Cd where
  P : Cx → Prop
  prog : Program
  w : World
  mg : Str → Option Value
  base : Heap
  N : List Str
  sc : Scope
  k : Nat
  Wx : WX
  ca : Nat → Addr
  mkw : Bool
  hprog : ∀ X, P X → X.prog = prog
  hw : ∀ X, P X → X.w = w
  hK : ∀ X, P X → X.K = fK
  hmg : ∀ X, P X → X.mg = mg
  hbase : ∀ X, P X → X.base = base
  hN : ∀ X, P X → X.N = N
  hsc : ∀ X, P X → X.env.scope = sc
  cm : Bool
  calmC : cm = true → ∀ X, P X → X.calm = true
  roomC : cm = true → ∀ X, P X → Room k X.A
  unX : ∀ X, P X → X.A.units + 16 * k + 200 < cLine
  pass : ∀ X, P X → ∀ σ, PassesAt (L2.CX X.prog X.w) X σ (WE Wx σ)
  nd : N.Nodup
  fn : Str → Bool
  hfn : ∀ X, P X → X.fn = fn
theorem Cd.units (C : Cd) {X : Cx} (h : C.P X) : X.A.units + 64 < cLine := by have := C.unX X h; omega
abbrev Cd.K (_ : Cd) : PySem.W.Frag := fK
abbrev Cd.G (C : Cd) (x : Str) : Prop := C.sc.names.lookup x = some .globalImplicit
/-- e gives what f says -/
def SE (C : Cd) (e : Expr) (f : FE) : Prop := ∃ t, (∀ X, C.P X → PE X e t) ∧ SndE C.Wx C.ca t f
def SA (C : Cd) (es : List Expr) (f : FA) : Prop := ∃ t, (∀ X, C.P X → PA X es t) ∧ SndA C.Wx C.ca t f
def ST (C : Cd) (e : Expr) (f : FT) : Prop := ∃ t, (∀ X, C.P X → PT X e t) ∧ SndT C.Wx C.ca t f
def SW (C : Cd) (e : Expr) (f : FT) : Prop := ∃ t, (∀ X, C.P X → PW X e t) ∧ SndT C.Wx C.ca t f

section
variable {Wx : WX} {ca : Nat → Addr} {a : At} {W : Option Well} {Q Q' : VK}
/-- the weak end of an expression: data alone -/
theorem wE.weak {e : Ev} (h : ∀ v H', (a.to H').Er W → Est a.wa a.hw a.H H' → Rp a.O H' v e.D → Q v H') : wE Wx ca a Q (.ok e W) := by
  cases e with
  | d x => exact h
  | f l =>
    intro p vs H' e1 st _ e2 np _ _ hp al _
    exact h (.ref p) H' e2 st (.lst (.inl ⟨np, .inl hp⟩) (RpA.stp (Stp.less fun x z => .inl z) al))
/-- later in the heap -/
theorem wE.later {H1 : Hp} {r : Res} {W1 : Option Well} (I : a.Er W) (I1 : (a.to H1).Er W1) (st : Est a.wa a.hw a.H H1) (h : wE Wx ca a Q r) : wE Wx ca { a with H := H1 } Q r := by
  have hl := fun p (hn : H1 p = none) => Est.no I st I1 hn
  cases r with
  | bad => exact h
  | exc c W2 => exact fun H' e2 st2 => h H' e2 (st.trans st2)
  | ok e2 W2 =>
    cases e2 with
    | d x => exact fun v H' e3 st2 r => h v H' e3 (st.trans st2) r
    | f l => exact fun p vs H' e3 st2 hn e4 np nw no hp al hb => h p vs H' e3 (st.trans st2) (hl p hn) e4 np nw no hp al hb
theorem wA.later {H1 : Hp} {r : RA} {Q : List V → Hp → Prop} (st : Est a.wa a.hw a.H H1) (h : wA Wx ca a Q r) : wA Wx ca { a with H := H1 } Q r := by
  cases r with
  | bad => exact h
  | exc c W2 => exact fun H' e2 st2 => h H' e2 (st.trans st2)
  | ok e2 W2 => exact fun v H' e3 st2 r => h v H' e3 (st.trans st2) r
theorem wT.later {H1 : Hp} {r : RT} {Q : Bool → Hp → Prop} (st : Est a.wa a.hw a.H H1) (h : wT Wx ca a Q r) : wT Wx ca { a with H := H1 } Q r := by
  cases r with
  | bad => exact h
  | exc c W2 => exact fun H' e2 st2 => h H' e2 (st.trans st2)
  | ok e2 W2 => exact fun H' e3 st2 => h H' e3 (st.trans st2)
end

def Res.bind (r : Res) (k : D → Option Well → Res) : Res := match r with | .ok e W1 => k e.D W1 | .exc c W1 => .exc c W1 | .bad => .bad
def Res.bindA (r : Res) (k : D → Option Well → RA) : RA := match r with | .ok e W1 => k e.D W1 | .exc c W1 => .exc c W1 | .bad => .bad
def Res.bindT (r : Res) (k : D → Option Well → RT) : RT := match r with | .ok e W1 => k e.D W1 | .exc c W1 => .exc c W1 | .bad => .bad
def RA.bind (r : RA) (k : List Sl → Option Well → Res) : Res := match r with | .ok e W1 => k e W1 | .exc c W1 => .exc c W1 | .bad => .bad
def RA.bindA (r : RA) (k : List Sl → Option Well → RA) : RA := match r with | .ok e W1 => k e W1 | .exc c W1 => .exc c W1 | .bad => .bad
def RT.bind (r : RT) (k : Bool → Option Well → Res) : Res := match r with | .ok e W1 => k e W1 | .exc c W1 => .exc c W1 | .bad => .bad
def RT.bindT (r : RT) (k : Bool → Option Well → RT) : RT := match r with | .ok e W1 => k e W1 | .exc c W1 => .exc c W1 | .bad => .bad

section
variable {C : Cd} {Wx : WX} {ca : Nat → Addr}
/-- run a part, then go on -/
theorem SndE.run {t : TE} {f : FE} (s : SndE Wx ca t f) {a : At} {W : Option Well} (I : a.Er W) {Q' : VK} {r : Res} (e : f a.ρ W = r) {Z : Res → Prop} (hz : Z r)
    (hbad : ¬ Z .bad) (hexc : ∀ c W1, Z (.exc c W1) → ∀ H', (a.to H').Er W1 → Est a.wa a.hw a.H H' → Wx (.ref (ca c)) none a.σ H')
    (hok : ∀ (x : D) (ev : Ev) (W1 : Option Well) v H1, x = ev.D → Z (.ok ev W1) → (a.to H1).Er W1 → Est a.wa a.hw a.H H1 → Rp a.O H1 v x → Q' v H1) : t a.σ a.H Q' := by
  refine s a W Q' I ?_
  rw [e]
  cases r with
  | bad => exact absurd hz hbad
  | exc c W1 => exact hexc c W1 hz
  | ok ev W1 => exact wE.weak fun v H1 e1 st r1 => hok ev.D ev W1 v H1 rfl hz e1 st r1
theorem SndE.then {t : TE} {f : FE} (s : SndE Wx ca t f) {a : At} {W : Option Well} (I : a.Er W) {Q Q' : VK} {k : D → Option Well → Res} (h : wE Wx ca a Q ((f a.ρ W).bind k))
    (hok : ∀ (x : D) (W1 : Option Well) v H1, (a.to H1).Er W1 → Est a.wa a.hw a.H H1 → Rp a.O H1 v x → wE Wx ca { a with H := H1 } Q (k x W1) → Q' v H1) : t a.σ a.H Q' :=
  s.run I rfl (Z := fun r => wE Wx ca a Q (r.bind k)) h id (fun c W1 z => z) fun x ev W1 v H1 hx z e1 st r1 => hok x W1 v H1 e1 st r1 (by subst hx; exact wE.later (r := k ev.D W1) I e1 st z)
theorem SndE.thenA {t : TE} {f : FE} (s : SndE Wx ca t f) {a : At} {W : Option Well} (I : a.Er W) {Q : List V → Hp → Prop} {Q' : VK} {k : D → Option Well → RA} (h : wA Wx ca a Q ((f a.ρ W).bindA k))
    (hok : ∀ (x : D) (W1 : Option Well) v H1, (a.to H1).Er W1 → Est a.wa a.hw a.H H1 → Rp a.O H1 v x → wA Wx ca { a with H := H1 } Q (k x W1) → Q' v H1) : t a.σ a.H Q' :=
  s.run I rfl (Z := fun r => wA Wx ca a Q (r.bindA k)) h id (fun c W1 z => z) fun x ev W1 v H1 hx z e1 st r1 => hok x W1 v H1 e1 st r1 (by subst hx; exact wA.later (r := k ev.D W1) st z)
theorem SndE.thenT {t : TE} {f : FE} (s : SndE Wx ca t f) {a : At} {W : Option Well} (I : a.Er W) {Q : Bool → Hp → Prop} {Q' : VK} {k : D → Option Well → RT} (h : wT Wx ca a Q ((f a.ρ W).bindT k))
    (hok : ∀ (x : D) (W1 : Option Well) v H1, (a.to H1).Er W1 → Est a.wa a.hw a.H H1 → Rp a.O H1 v x → wT Wx ca { a with H := H1 } Q (k x W1) → Q' v H1) : t a.σ a.H Q' :=
  s.run I rfl (Z := fun r => wT Wx ca a Q (r.bindT k)) h id (fun c W1 z => z) fun x ev W1 v H1 hx z e1 st r1 => hok x W1 v H1 e1 st r1 (by subst hx; exact wT.later (r := k ev.D W1) st z)
theorem SndA.then {t : TA} {f : FA} (s : SndA Wx ca t f) {a : At} {W : Option Well} (I : a.Er W) {Q : VK} {Q' : List V → Hp → Prop} {k : List Sl → Option Well → Res} (h : wE Wx ca a Q ((f a.ρ W).bind k))
    (hok : ∀ (x : List Sl) (W1 : Option Well) vs H1, (a.to H1).Er W1 → Est a.wa a.hw a.H H1 → ArRs a.O a.wa H1 x vs → wE Wx ca { a with H := H1 } Q (k x W1) → Q' vs H1) : t a.σ a.H Q' := by
  refine s a W Q' I ?_
  revert h
  cases f a.ρ W with
  | bad => exact id
  | exc c W1 => exact id
  | ok as W1 => exact fun h vs H1 e1 st r1 => hok as W1 vs H1 e1 st r1 (wE.later (r := k as W1) I e1 st h)
theorem SndA.thenA {t : TA} {f : FA} (s : SndA Wx ca t f) {a : At} {W : Option Well} (I : a.Er W) {Q : List V → Hp → Prop} {Q' : List V → Hp → Prop} {k : List Sl → Option Well → RA} (h : wA Wx ca a Q ((f a.ρ W).bindA k))
    (hok : ∀ (x : List Sl) (W1 : Option Well) vs H1, (a.to H1).Er W1 → Est a.wa a.hw a.H H1 → ArRs a.O a.wa H1 x vs → wA Wx ca { a with H := H1 } Q (k x W1) → Q' vs H1) : t a.σ a.H Q' := by
  refine s a W Q' I ?_
  revert h
  cases f a.ρ W with
  | bad => exact id
  | exc c W1 => exact id
  | ok as W1 => exact fun h vs H1 e1 st r1 => hok as W1 vs H1 e1 st r1 (wA.later (r := k as W1) st h)
theorem SndT.then {t : TT} {f : FT} (s : SndT Wx ca t f) {a : At} {W : Option Well} (I : a.Er W) {Q : VK} {Q' : Bool → Hp → Prop} {k : Bool → Option Well → Res} (h : wE Wx ca a Q ((f a.ρ W).bind k))
    (hok : ∀ (x : Bool) (W1 : Option Well) H1, (a.to H1).Er W1 → Est a.wa a.hw a.H H1 → wE Wx ca { a with H := H1 } Q (k x W1) → Q' x H1) : t a.σ a.H Q' := by
  refine s a W Q' I ?_
  revert h
  cases f a.ρ W with
  | bad => exact id
  | exc c W1 => exact id
  | ok as W1 => exact fun h H1 e1 st => hok as W1 H1 e1 st (wE.later (r := k as W1) I e1 st h)
theorem SndT.thenT {t : TT} {f : FT} (s : SndT Wx ca t f) {a : At} {W : Option Well} (I : a.Er W) {Q : Bool → Hp → Prop} {Q' : Bool → Hp → Prop} {k : Bool → Option Well → RT} (h : wT Wx ca a Q ((f a.ρ W).bindT k))
    (hok : ∀ (x : Bool) (W1 : Option Well) H1, (a.to H1).Er W1 → Est a.wa a.hw a.H H1 → wT Wx ca { a with H := H1 } Q (k x W1) → Q' x H1) : t a.σ a.H Q' := by
  refine s a W Q' I ?_
  revert h
  cases f a.ρ W with
  | bad => exact id
  | exc c W1 => exact id
  | ok as W1 => exact fun h H1 e1 st => hok as W1 H1 e1 st (wT.later (r := k as W1) st h)

/-! ### names, constants, arguments, displays -/
theorem Cd.gl (C : Cd) {X : Cx} {x : Str} (h : C.P X) (hg : C.G x) : Gl X x := by
  show X.env.scope.names.lookup x = _
  rw [C.hsc X h]
  exact hg
def eVar (i : Nat) : FE := fun ρ W => match ρ[i]? with | some (.dt d) => .ok (.d d) W | _ => .bad
def eC (d : D) : FE := fun _ W => .ok (.d d) W
theorem wE.now {a : At} {W : Option Well} {Q : VK} {d : D} {v : V} (I : a.Er W) (r : Rp a.O a.H v d) (h : wE Wx ca a Q (.ok (.d d) W)) : Q v a.H := h v a.H I Est.refl r
theorem se_var {i : Nat} {x : Str} {pos : Pos} (hN : C.N[i]? = some x) (hv : Vis C.sc x) (hd : (x == ("__debug__" : Str)) = false := by decide) (hcd : (x == ("__classdict__" : Str)) = false := by decide) : SE C (.Name x pos) (eVar i) := by
  refine ⟨_, fun X h => pe_var (by rw [C.hN X h]; exact hN) (by rw [C.hsc X h]; exact hv) hd hcd, fun a W Q I h => ?_⟩
  unfold eVar at h
  split at h
  · rename_i d e
    obtain ⟨o, h1, h2⟩ := I.1.sl i _ e
    cases o with
    | none => exact absurd h2 id
    | some v => exact ⟨v, h1, wE.now I h2 h⟩
  · exact absurd h id
theorem se_int {i : Int} {j pos} : SE C (.Constant (.int i) j pos) (eC (.int i)) := ⟨_, fun _ _ => pe_int, fun a W Q I h => wE.now I (.int i) h⟩
theorem se_bl {b : Bool} {j pos} : SE C (.Constant (.bool b) j pos) (eC (.bool b)) := ⟨_, fun _ _ => pe_bl, fun a W Q I h => wE.now I (.bl b) h⟩
theorem se_non {j pos} : SE C (.Constant .none j pos) (eC .none) := ⟨_, fun _ _ => pe_non, fun a W Q I h => wE.now I .non h⟩
theorem se_str {x : Str} {j pos} : SE C (.Constant (.str x) j pos) (eC (.str x)) := ⟨_, fun _ _ => pe_str, fun a W Q I h => wE.now I (.str x) h⟩
theorem se_globI {x : Str} {i : Int} {u : Value} {pos : Pos} (hg : C.G x) (hm : C.mg x = some u) (r : RelV (.int i) u) (hd : (x == ("__debug__" : Str)) = false := by decide) : SE C (.Name x pos) (eC (.int i)) :=
  ⟨_, fun X h => pe_glob (C.gl h hg) (by rw [C.hmg X h]; exact hm) r hd, fun a W Q I h => wE.now I (.int i) h⟩

def aNil : FA := fun _ W => .ok [] W
def aCons (f : FE) (g : FA) : FA := fun ρ W => (f ρ W).bindA fun x W1 => (g ρ W1).bindA fun as W2 => .ok (.dt x :: as) W2
def aWel (i : Nat) (g : FA) : FA := fun ρ W => match ρ[i]? with | some .wel => (g ρ W).bindA fun as W2 => .ok (.wel :: as) W2 | _ => .bad
theorem sa_nil : SA C [] aNil := ⟨_, fun _ _ => pa_nil, fun a W Q I h => h [] a.H I Est.refl .nil⟩
theorem sa_cons {e : Expr} {es : List Expr} {f : FE} {g : FA} (he : SE C e f) (hs : SA C es g) (hst : ∀ env, starEach (e :: es) env = (false, eval e env) :: starEach es env := by intro _; rfl) : SA C (e :: es) (aCons f g) := by
  obtain ⟨t, p, s⟩ := he
  obtain ⟨u, q, z⟩ := hs
  refine ⟨_, fun X h => pa_cons (p X h) (q X h) (hst _), fun a W Q I h => ?_⟩
  refine s.thenA I h fun x W1 v H1 e1 st r1 h1 => ?_
  refine z.thenA (a := { a with H := H1 }) e1 h1 fun as W2 vs H2 e2 st2 r2 h2 => ?_
  exact h2 (v :: vs) H2 e2 Est.refl (.cons (r1.stp (st2.stp e1)) r2)
theorem sa_wel {i : Nat} {x : Str} {pos : Pos} {es : List Expr} {g : FA} (hN : C.N[i]? = some x) (hv : Vis C.sc x) (hs : SA C es g) (hd : (x == ("__debug__" : Str)) = false := by decide) (hcd : (x == ("__classdict__" : Str)) = false := by decide)
    (hst : ∀ env, starEach (.Name x pos :: es) env = (false, eval (.Name x pos) env) :: starEach es env := by intro _; rfl) : SA C (.Name x pos :: es) (aWel i g) := by
  obtain ⟨u, q, z⟩ := hs
  refine ⟨_, fun X h => pa_cons (pe_var (by rw [C.hN X h]; exact hN) (by rw [C.hsc X h]; exact hv) hd hcd) (q X h) (hst _), fun a W Q I h => ?_⟩
  unfold aWel at h
  split at h
  · rename_i e
    obtain ⟨o, h1, h2⟩ := I.1.sl i _ e
    cases o with
    | none => exact absurd h2 id
    | some v =>
      refine ⟨v, h1, ?_⟩
      refine z.thenA I h fun as W2 vs H2 e2 st2 r2 h3 => ?_
      exact h3 (v :: vs) H2 e2 Est.refl (.cons h2 r2)
  · exact absurd h id

/-- the data among arguments -/
def datas : List Sl → Option (List D)
  | [] => some []
  | .dt d :: r => (datas r).map (d :: ·)
  | _ :: _ => none
theorem ArRs.datas {O : Own} {wa : Addr} {H : Hp} : ∀ {as : List Sl} {vs : List V} {ds : List D}, ArRs O wa H as vs → Lw.datas as = some ds → RpA O H vs ds
  | _, _, ds, .nil, e => by cases e; exact .nil
  | .dt d :: r, _, ds, .cons h t, e => by
    unfold Lw.datas at e
    cases q : Lw.datas r with
    | none => rw [q] at e; cases e
    | some es =>
      rw [q] at e
      cases e
      exact .cons h (ArRs.datas t q)
  | .no :: r, _, ds, .cons h t, e => by cases e
  | .wel :: r, _, ds, .cons h t, e => by cases e
  | .ex _ _ :: r, _, ds, .cons h t, e => by cases e
  | .cn c l :: r, _, ds, .cons h t, e => by cases e

/-- what a builtin that only makes new things gives, by data -/
def wP (O : Own) (H : Hp) (Q : VK) : Option Ev → Prop
  | some (.d z) => ∀ v H', Same H H' → Rp O H' v z → Q v H'
  | some (.f l) => ∀ p vs H', Same H H' → H p = none → H' p = some (.lst vs) → RpA (OU O p) H' vs l → Q (.ref p) H'
  | none => False
def Pure (r : List V → Hp → VK → Prop) (g : List D → Option Ev) : Prop := ∀ (O : Own) (H : Hp) (vs : List V) (ds : List D) (Q : VK), (∀ a, O a → H a ≠ none) → RpA O H vs ds → wP O H Q (g ds) → r vs H Q
def ofP (o : Option Ev) (W : Option Well) : Res := match o with | some e => .ok e W | none => .bad
theorem wE.pure {a : At} {W : Option Well} {Q : VK} {o : Option Ev} (I : a.Er W) (h : wE Wx ca a Q (ofP o W)) : wP a.O a.H Q o := by
  cases o with
  | none => exact h
  | some e =>
    cases e with
    | d x => exact fun v H' s r => h v H' ⟨I.1.same s, I.2⟩ (Est.same s) r
    | f l =>
      intro p vs H' s hn hp al
      have np : ¬ a.O p := fun z => I.1.al p z hn
      refine h p vs H' (I.1.own s hn hp) (Est.same s) hn ⟨I.1.same s, I.2⟩ np ?_ (fun i l hi hs => ?_) hp ?_ (I.1.base_none hn)
      · cases hw : W with
        | none => exact .inr rfl
        | some w => exact .inl fun z => by rw [z, (I.1.wl w hw).2] at hn; cases hn
      · obtain ⟨o, h1, h2⟩ := I.1.sl i _ hi
        rw [hs] at h1
        cases h1
        obtain ⟨x, ws, hx, _, hw, _⟩ := h2
        cases hx
        obtain ⟨_, hw⟩ := hw.some
        rw [hn] at hw
        cases hw
      · exact al
end
end Lw
set_option Elab.async false
set_option linter.all false
set_option maxRecDepth 100000
set_option maxHeartbeats 2000000
set_option autoImplicit false
namespace Lw
open PySem PySem.Spec PyProof.Rows L2
variable [KI : FragI]
theorem shaped_can {d : PyData} (h : SeqAt.shaped d = true) : d.canLay0 = true := by
  unfold SeqAt.shaped at h
  rw [Bool.and_eq_true] at h
  exact h.1

theorem same_upd {H : Hp} {p : Addr} {o : HO} (h : H p = none) : Same H (upd H p o) := fun b x e => by
  rw [upd_ne (ne_of_none e h)]
  exact e
section
variable {O : Own} {H : Hp} {Q : VK}
theorem wP.val {z : D} {v : V} (h : wP O H Q (some (.d z))) (r : Rp O H v z) : Q v H := h v H (fun _ _ e => e) r
theorem stp_ou {p : Addr} {o : HO} (hp : H p = none) : Stp O H (OU O p) (upd H p o) := fun a u n q => ⟨fun z => z.elim n (fun z => by rw [z, hp] at q; exact nomatch q), same_upd hp a u q⟩
theorem wP.new {l : List D} {vs : List V} (h : wP O H Q (some (.f l))) (al : RpA O H vs l) : ∀ p, H p = none → Q (.ref p) (upd H p (.lst vs)) := fun p hp =>
  h p vs _ (same_upd hp) hp upd_same (al.stp (stp_ou hp))
theorem wP.newT {l : List D} {vs : List V} (ho : ∀ a, O a → H a ≠ none) (h : wP O H Q (some (.d (.tuple l)))) (al : RpA O H vs l) : ∀ p, H p = none → Q (.ref p) (upd H p (.tup vs)) := fun p hp =>
  h _ _ (same_upd hp) (.tup (.new (fun z => ho p z hp) upd_same) (al.stp (Stp.same (same_upd hp))))
end

/-! ### two values -/
abbrev G2 := D → D → Option Ev
def Pure2 (r : R2) (g : G2) : Prop := ∀ (O : Own) (H : Hp) (x y : V) (dx dy : D) (Q : VK), (∀ a, O a → H a ≠ none) → Rp O H x dx → Rp O H y dy → wP O H Q (g dx dy) → r x y H Q
def g2or (g g' : G2) : G2 := fun x y => match g x y with | some e => some e | none => g' x y
theorem Pure2.or {r r' : R2} {g g' : G2} (h : Pure2 r g) (h' : Pure2 r' g') : Pure2 (fun x y H Q => r x y H Q ∨ r' x y H Q) (g2or g g') := fun O H x y dx dy Q ho rx ry w => by
  unfold g2or at w
  split at w
  · rename_i e q
    exact .inl (h O H x y dx dy Q ho rx ry (by rw [q]; exact w))
  · exact .inr (h' O H x y dx dy Q ho rx ry w)
def eBin (g : G2) (f f' : FE) : FE := fun ρ W => (f ρ W).bind fun x W1 => (f' ρ W1).bind fun y W2 => ofP (g x y) W2
section
variable {C : Cd} {X : Cx} {Wx : WX} {ca : Nat → Addr}
theorem snd_op {r : R2} {g : G2} {ta tb : TE} {fa fb : FE} (hp : Pure2 r g) (sa : SndE Wx ca ta fa) (sb : SndE Wx ca tb fb) : SndE Wx ca (tOp r ta tb) (eBin g fa fb) := fun a W Q I h => by
  refine sa.then I h fun x W1 v H1 e1 st r1 h1 => ?_
  refine sb.then (a := { a with H := H1 }) e1 h1 fun y W2 u H2 e2 st2 r2 h2 => ?_
  exact hp a.O H2 v u x y Q e2.1.al (r1.stp (st2.stp e1)) r2 (wE.pure (a := { a with H := H2 }) e2 h2)
theorem se_op {a b : Expr} {pos : Pos} {op : Operator} {r : R2} {g : G2} {fa fb : FE} (ho : ∀ X, C.P X → OpR X (binaryOp op) r) (hp : Pure2 r g) (ha : SE C a fa) (hb : SE C b fb) : SE C (.BinOp a op b pos) (eBin g fa fb) := by
  obtain ⟨t, p, s⟩ := ha
  obtain ⟨u, q, z⟩ := hb
  exact ⟨_, fun X h => pe_op (ho X h) (p X h) (q X h), snd_op hp s z⟩
/-- a comparison: as a value and as a test -/
def SC (C : Cd) (e : Expr) (f : FE) : Prop := ∃ t, (∀ X, C.P X → PE X e t ∧ PT X e (tTest t)) ∧ SndE C.Wx C.ca t f
theorem sc_e {e : Expr} {f : FE} (h : SC C e f) : SE C e f := by
  obtain ⟨t, p, s⟩ := h
  exact ⟨t, fun X h => (p X h).1, s⟩
def tOfB (f : FE) : FT := fun ρ W => (f ρ W).bindT fun x W1 => match x with | .bool k => .ok k W1 | _ => .bad
theorem sc_t {e : Expr} {f : FE} (h : SC C e f) : ST C e (tOfB f) := by
  obtain ⟨t, p, s⟩ := h
  refine ⟨tTest t, fun X h => (p X h).2, fun a W Q I h => ?_⟩
  refine s.thenT I h fun x W1 v H1 e1 st r1 h1 => ?_
  split at h1
  · cases r1
    exact ⟨_, rfl, h1 H1 e1 Est.refl⟩
  · exact absurd h1 id
theorem sc_cmp {a b : Expr} {pos : Pos} {op : CmpOp} {r : R2} {g : G2} {fa fb : FE} (ho : ∀ X, C.P X → OpR X (compareOp op) r) (hp : Pure2 r g) (ha : SE C a fa) (hb : SE C b fb) (hm : behindInMarks op b = false) : SC C (.Compare a [op] [b] pos) (eBin g fa fb) := by
  obtain ⟨t, p, s⟩ := ha
  obtain ⟨u, q, z⟩ := hb
  exact ⟨_, fun X h => ⟨pe_cmpR (ho X h) (p X h) (q X h) hm, pt_cmpR (ho X h) (p X h) (q X h) hm⟩, snd_op hp s z⟩
theorem se_ix {a b : Expr} {pos : Pos} {r : R2} {g : G2} {fa fb : FE} (ho : ∀ X, C.P X → IxR X r) (hp : Pure2 r g) (ha : SE C a fa) (hb : SE C b fb) (hm : PlainIx b) : SE C (.Subscript a b pos) (eBin g fa fb) := by
  obtain ⟨t, p, s⟩ := ha
  obtain ⟨u, q, z⟩ := hb
  exact ⟨_, fun X h => pe_ix (ho X h) (p X h) (q X h) hm, snd_op hp s z⟩
/-- a chain of two comparisons -/
def eChain (g g' : G2) (f f' f'' : FE) : FE := fun ρ W => (f ρ W).bind fun x W1 => (f' ρ W1).bind fun y W2 => match g x y with
  | some (.d (.bool true)) => (f'' ρ W2).bind fun z W3 => ofP (g' y z) W3
  | some (.d (.bool false)) => .ok (.d (.bool false)) W2
  | _ => .bad
theorem sc_chain {a b c : Expr} {pos : Pos} {op op' : CmpOp} {r r' : R2} {g g' : G2} {fa fb fc : FE} (ho : ∀ X, C.P X → OpR X (compareOp op) r) (ho' : ∀ X, C.P X → OpR X (compareOp op') r') (hp : Pure2 r g) (hp' : Pure2 r' g') (ha : SE C a fa) (hb : SE C b fb)
    (hc : SE C c fc) (hl : lastMarks [op, op'] [b, c] = false := by rfl) : SC C (.Compare a [op, op'] [b, c] pos) (eChain g g' fa fb fc) := by
  obtain ⟨t, p, s⟩ := ha
  obtain ⟨u, q, z⟩ := hb
  obtain ⟨u2, q2, z2⟩ := hc
  refine ⟨_, fun X h => ⟨pe_chain (ho X h) (ho' X h) (p X h) (q X h) (q2 X h) hl, pt_chain (ho X h) (ho' X h) (p X h) (q X h) (q2 X h) hl⟩, fun a W Q I h => ?_⟩
  refine s.then I h fun x W1 v H1 e1 st r1 h1 => ?_
  refine z.then (a := { a with H := H1 }) e1 h1 fun y W2 u H2 e2 st2 r2 h2 => ?_
  refine hp a.O H2 v u x y _ e2.1.al (r1.stp (st2.stp e1)) r2 ?_
  split at h2
  · rename_i eg
    rw [eg]
    intro w H3 sm rw'
    cases rw'
    refine ⟨true, rfl, ?_⟩
    rw [if_pos rfl]
    refine z2.then (a := { a with H := H3 }) ⟨ER.same e2.1 sm, e2.2⟩ (wE.later (a := { a with H := H2 }) e2 (W1 := W2) ⟨ER.same e2.1 sm, e2.2⟩ (Est.same sm) h2) fun y3 W3 u3 H4 e4 st4 r4 h4 => ?_
    exact hp' a.O H4 u u3 y y3 Q e4.1.al ((r2.stp (Stp.same sm)).stp (st4.stp (a := { a with H := H3 }) (W := W2) ⟨ER.same e2.1 sm, e2.2⟩)) r4 (wE.pure (a := { a with H := H4 }) e4 h4)
  · rename_i eg
    rw [eg]
    intro w H3 sm rw'
    cases rw'
    refine ⟨false, rfl, ?_⟩
    rw [if_neg (by decide)]
    exact h2 _ H3 ⟨ER.same e2.1 sm, e2.2⟩ (Est.same sm) (.bl false)
  · exact absurd h2 id
end

/-! ### the operators -/
def gI (C : Int → Int → Bool) (g : Int → Int → D) : G2 := fun x y => match x, y with | .int i, .int j => if C i j then some (.d (g i j)) else none | _, _ => none
def gI0 (g : Int → Int → D) : G2 := fun x y => match x, y with | .int i, .int j => some (.d (g i j)) | _, _ => none
theorem pure_I {C : Int → Int → Prop} {c : Int → Int → Bool} {g : Int → Int → V} {g' : Int → Int → D} (hc : ∀ i j, c i j = true → C i j) (hg : ∀ O H i j, Rp O H (g i j) (g' i j)) : Pure2 (rI C g) (gI c g') := fun O H x y dx dy Q ho rx ry w => by
  cases rx with
  | int i => cases ry with
    | int j =>
      unfold gI at w
      dsimp only at w
      by_cases z : c i j = true
      · rw [if_pos z] at w
        exact ⟨i, j, rfl, rfl, hc i j z, w.val (hg O H i j)⟩
      · rw [if_neg z] at w
        exact absurd w id
    | _ => exact absurd w id
  | _ => cases ry <;> exact absurd w id
theorem pure_I0 {g : Int → Int → V} {g' : Int → Int → D} (hg : ∀ O H i j, Rp O H (g i j) (g' i j)) : Pure2 (rI0 g) (gI0 g') := fun O H x y dx dy Q ho rx ry w => by
  cases rx with
  | int i => cases ry with
    | int j => exact ⟨i, j, rfl, rfl, w.val (hg O H i j)⟩
    | _ => exact absurd w id
  | _ => cases ry <;> exact absurd w id

/-- list + list, also of a list that is locked -/
def rCatL : R2 := fun x y H Q => ∃ l b xs zs, x = .ref l ∧ y = .ref b ∧ SqL fK H l xs ∧ SqL fK H b zs ∧ xs.length + zs.length ≤ sizeLine ∧ ∀ p, H p = none → Q (.ref p) (upd H p (.lst (xs ++ zs)))
theorem op_catL {X : Cx} (hK : X.K = fK) : OpR X (binaryOp .Add) rCatL := by
  intro pins s σ H x y v u Q I rx ry h
  obtain ⟨l, b, xs, zs, rfl, rfl, hH, hB, hz, q⟩ := h
  cases rx
  cases ry
  rw [← hK] at hH hB
  obtain ⟨its, r, p, _⟩ := I.list hH
  obtain ⟨its2, r2, p2, _⟩ := I.list hB
  obtain ⟨⟨cls, dd, data, sl⟩, ho, hc, m, hd⟩ := p.isList
  obtain ⟨⟨cls2, dd2, data2, sl2⟩, ho2, hc2, m2, hd2⟩ := p2.isList
  simp only at hc hd hc2 hd2
  subst hc hd hc2 hd2
  have hl := r.length
  have hl2 := r2.length
  have ea : its.toArray ++ its2.toArray = (its ++ its2).toArray := by simp
  refine concat_meets ⟨_, ho, rfl⟩ ⟨_, ho2, rfl⟩ noFill_list_add seq_list_add PySem.F.slot_list_add PySem.F.entry_list_add (PySem.F.args_list_add_2 _ _) (list_addW l b its.toArray its2.toArray m m2 dd dd2 sl sl2 (by rw [List.size_toArray, List.size_toArray]; omega)) ⟨ho, ho2, ?_⟩
  rw [ea]
  exact ⟨.ref _, _, I.lnew (t' := s.toks) (r.append r2) (by rw [List.length_append]; omega), rfl, q _ I.fresh⟩
@[irreducible] def lineN : Nat := 16777216
theorem line_le {n : Nat} (h : n ≤ lineN) : n ≤ sizeLine := by rw [sizeLine_eq]; unfold lineN at h; exact h
theorem line_ok {n : Nat} (h : n ≤ 1000000) : n ≤ lineN := by unfold lineN; omega
def gCatL : G2 := fun x y => match x, y with | .list a, .list b => if a.length + b.length ≤ lineN then some (.f (a ++ b)) else none | _, _ => none
def gCatT : G2 := fun x y => match x, y with | .tuple a, .tuple b => if a.length + b.length ≤ lineN then some (.d (.tuple (a ++ b))) else none | _, _ => none
theorem pure_catL : Pure2 rCatL gCatL := fun O H x y dx dy Q ho rx ry w => by
  cases rx with
  | lst h1 a1 => cases ry with
    | lst h2 a2 =>
      unfold gCatL at w
      dsimp only at w
      split at w
      · rename_i z
        exact ⟨_, _, _, _, rfl, rfl, h1.sq, h2.sq, line_le (by rw [a1.length, a2.length]; exact z), w.new (a1.append a2)⟩
      · exact absurd w id
    | _ => exact absurd w id
  | _ => cases ry <;> exact absurd w id
theorem pure_catT : Pure2 (rCatA fK) gCatT := fun O H x y dx dy Q ho rx ry w => by
  cases rx with
  | @tup a xs ds h1 a1 => cases ry with
    | @tup b ys es h2 a2 =>
      unfold gCatT at w
      dsimp only at w
      split at w
      · rename_i z
        refine ⟨a, b, xs, ys, rfl, rfl, h1.sq, h2.sq, line_le (by rw [a1.length, a2.length]; exact z), fun e => ?_, fun _ e => ?_, fun _ _ => wP.newT ho w (a1.append a2)⟩
        · subst e
          cases a1
          exact w.val (.tup h2 a2)
        · subst e
          cases a2
          rw [List.append_nil] at w
          exact w.val (.tup h1 a1)
      · exact absurd w id
    | _ => exact absurd w id
  | _ => cases ry <;> exact absurd w id
theorem pure_catS : Pure2 (fun x y H Q => ∃ i j, x = .str i ∧ y = .str j ∧ i.length + j.length ≤ sizeLine ∧ Q (.str (i ++ j)) H) (fun x y => match x, y with | .str a, .str b => if a.length + b.length ≤ lineN then some (.d (.str (a ++ b))) else none | _, _ => none) := fun O H x y dx dy Q ho rx ry w => by
  cases rx with
  | str i => cases ry with
    | str j =>
      dsimp only at w
      split at w
      · rename_i z
        exact ⟨i, j, rfl, rfl, line_le z, w.val (.str _)⟩
      · exact absurd w id
    | _ => exact absurd w id
  | _ => cases ry <;> exact absurd w id
def gAdd : G2 := g2or (gI0 fun i j => .int (i + j)) (g2or gCatL gCatT)
def gSub : G2 := gI0 fun i j => .int (i - j)
def cMul (i j : Int) : Bool := decide (i.natAbs.log2 + j.natAbs.log2 < 1000000)
def gMul : G2 := gI cMul fun i j => .int (i * j)
def cDiv (_ j : Int) : Bool := decide (0 < j ∧ j.natAbs.log2 < 9000)
def gDiv : G2 := gI cDiv fun i j => .int (i / j)
def cPos (_ j : Int) : Bool := decide (0 < j)
def gMod : G2 := gI cPos fun i j => .int (i % j)
def cPow (i j : Int) : Bool := decide (0 ≤ j ∧ j ≤ 1000 ∧ (i.natAbs.log2 + 1 : Nat) * j.toNat ≤ 100000)
def gPow : G2 := gI cPow fun i j => .int (i ^ j.toNat)
theorem cMul_ok {i j : Int} (h : cMul i j = true) : CMulW i j := by
  unfold cMul at h
  have z := of_decide_eq_true h
  exact z
theorem cDiv_ok {i j : Int} (h : cDiv i j = true) : CDivW i j := by
  unfold cDiv at h
  have z := of_decide_eq_true h
  exact z
def CPowW (i j : Int) : Prop := 0 ≤ j ∧ (Builtin.Int.intBits i : Int) * j ≤ 2 ^ 27
theorem cPow_ok {i j : Int} (h : cPow i j = true) : CPowW i j := by
  unfold cPow at h
  obtain ⟨h0, h1, h2⟩ := of_decide_eq_true h
  refine ⟨h0, ?_⟩
  have b : Builtin.Int.intBits i ≤ i.natAbs.log2 + 1 := by
    unfold Builtin.Int.intBits
    split <;> omega
  have c : Builtin.Int.intBits i * j.toNat ≤ (i.natAbs.log2 + 1) * j.toNat := Nat.mul_le_mul_right _ b
  have d : Builtin.Int.intBits i * j.toNat ≤ 2 ^ 27 := Nat.le_trans c (Nat.le_trans h2 (by decide))
  have e : ((Builtin.Int.intBits i * j.toNat : Nat) : Int) ≤ ((2 ^ 27 : Nat) : Int) := Int.ofNat_le.mpr d
  rw [Int.natCast_mul, Int.toNat_of_nonneg h0] at e
  exact e
section
variable {C : Cd} {X : Cx} {Wx : WX} {ca : Nat → Addr}
theorem op_powW : OpR X (binaryOp .Pow) (rI CPowW fun i j => .int (i ^ j.toNat)) := opI fun _ _ _ _ _ _ _ hc q => pow_int hc.1 hc.2 q
variable {a b : Expr} {pos : Pos} {fa fb : FE}
theorem se_add (ha : SE C a fa) (hb : SE C b fb) : SE C (.BinOp a .Add b pos) (eBin gAdd fa fb) :=
  se_op (fun X h => by rw [← C.hK X h]; exact op_add.or ((op_catL (C.hK X h)).or op_catA)) ((pure_I0 fun _ _ _ _ => .int _).or (pure_catL.or pure_catT)) ha hb
theorem se_sub (ha : SE C a fa) (hb : SE C b fb) : SE C (.BinOp a .Sub b pos) (eBin gSub fa fb) := se_op (fun _ _ => op_sub) (pure_I0 fun _ _ _ _ => .int _) ha hb
theorem se_mul (ha : SE C a fa) (hb : SE C b fb) : SE C (.BinOp a .Mult b pos) (eBin gMul fa fb) := se_op (fun _ _ => op_mulW) (pure_I (fun _ _ h => cMul_ok h) fun _ _ _ _ => .int _) ha hb
theorem se_div (ha : SE C a fa) (hb : SE C b fb) : SE C (.BinOp a .FloorDiv b pos) (eBin gDiv fa fb) := se_op (fun _ _ => op_fdivW) (pure_I (fun _ _ h => cDiv_ok h) fun _ _ _ _ => .int _) ha hb
theorem se_mod (ha : SE C a fa) (hb : SE C b fb) : SE C (.BinOp a .Mod b pos) (eBin gMod fa fb) := se_op (fun _ _ => op_mod) (pure_I (fun _ _ h => of_decide_eq_true h) fun _ _ _ _ => .int _) ha hb
theorem se_pow (ha : SE C a fa) (hb : SE C b fb) : SE C (.BinOp a .Pow b pos) (eBin gPow fa fb) := se_op (fun _ _ => op_powW) (pure_I (fun _ _ h => cPow_ok h) fun _ _ _ _ => .int _) ha hb
def gLt : G2 := gI0 fun i j => .bool (decide (i < j))
def gLe : G2 := gI0 fun i j => .bool (decide (i ≤ j))
def gGt : G2 := gI0 fun i j => .bool (decide (j < i))
def gGe : G2 := gI0 fun i j => .bool (decide (j ≤ i))
theorem pure_lt : Pure2 (rI0 fun i j => .bl (decide (i < j))) gLt := pure_I0 fun _ _ _ _ => .bl _
theorem pure_le : Pure2 (rI0 fun i j => .bl (decide (i ≤ j))) gLe := pure_I0 fun _ _ _ _ => .bl _
theorem pure_gt : Pure2 (rI0 fun i j => .bl (decide (j < i))) gGt := pure_I0 fun _ _ _ _ => .bl _
theorem pure_ge : Pure2 (rI0 fun i j => .bl (decide (j ≤ i))) gGe := pure_I0 fun _ _ _ _ => .bl _
theorem sc_lt (ha : SE C a fa) (hb : SE C b fb) : SC C (.Compare a [.Lt] [b] pos) (eBin gLt fa fb) := sc_cmp (fun _ _ => op_lt) pure_lt ha hb (nomark _)
theorem sc_le (ha : SE C a fa) (hb : SE C b fb) : SC C (.Compare a [.LtE] [b] pos) (eBin gLe fa fb) := sc_cmp (fun _ _ => op_le) pure_le ha hb (nomark _)
theorem sc_gt (ha : SE C a fa) (hb : SE C b fb) : SC C (.Compare a [.Gt] [b] pos) (eBin gGt fa fb) := sc_cmp (fun _ _ => op_gt) pure_gt ha hb (nomark _)
theorem sc_ge (ha : SE C a fa) (hb : SE C b fb) : SC C (.Compare a [.GtE] [b] pos) (eBin gGe fa fb) := sc_cmp (fun _ _ => op_ge) pure_ge ha hb (nomark _)
theorem sc_lele {c : Expr} {fc : FE} (ha : SE C a fa) (hb : SE C b fb) (hc : SE C c fc) (hl : lastMarks [.LtE, .LtE] [b, c] = false := by rfl) : SC C (.Compare a [.LtE, .LtE] [b, c] pos) (eChain gLe gLe fa fb fc) := sc_chain (fun _ _ => op_le) (fun _ _ => op_le) pure_le pure_le ha hb hc hl
theorem sc_lelt {c : Expr} {fc : FE} (ha : SE C a fa) (hb : SE C b fb) (hc : SE C c fc) (hl : lastMarks [.LtE, .Lt] [b, c] = false := by rfl) : SC C (.Compare a [.LtE, .Lt] [b, c] pos) (eChain gLe gLt fa fb fc) := sc_chain (fun _ _ => op_le) (fun _ _ => op_lt) pure_le pure_lt ha hb hc hl
/-- == at any depth -/
def gEq : G2 := fun x y => if SeqAt.shaped x = true ∧ SeqAt.shaped y = true then some (.d (.bool (PyData.eqv x y))) else none
def gNe : G2 := fun x y => if SeqAt.shaped x = true ∧ SeqAt.shaped y = true then some (.d (.bool (!PyData.eqv x y))) else none
theorem pure_eq : Pure2 (rEqD fK) gEq := fun O H x y dx dy Q ho rx ry w => by
  unfold gEq at w
  split at w
  · rename_i z
    exact ⟨dx, dy, rx.dp (shaped_can z.1), ry.dp (shaped_can z.2), z.1, z.2, w.val (.bl _)⟩
  · exact absurd w id
theorem pure_ne : Pure2 (rNeD fK) gNe := fun O H x y dx dy Q ho rx ry w => by
  unfold gNe at w
  split at w
  · rename_i z
    exact ⟨dx, dy, rx.dp (shaped_can z.1), ry.dp (shaped_can z.2), z.1, z.2, w.val (.bl _)⟩
  · exact absurd w id
theorem sc_eq (ha : SE C a fa) (hb : SE C b fb) : SC C (.Compare a [.Eq] [b] pos) (eBin gEq fa fb) := sc_cmp (fun X h => by rw [← C.hK X h]; exact op_eqD (C.units h)) pure_eq ha hb (nomark _)
theorem sc_ne (ha : SE C a fa) (hb : SE C b fb) : SC C (.Compare a [.NotEq] [b] pos) (eBin gNe fa fb) := sc_cmp (fun X h => by rw [← C.hK X h]; exact op_neD (C.units h)) pure_ne ha hb (nomark _)
/-- is None, is True, is False -/
def gIs : G2 := fun x y => match x, y with | .bool a, .bool b => some (.d (.bool (decide (a = b)))) | _, _ => none
def gIsn : G2 := fun x y => match x, y with | .bool a, .bool b => some (.d (.bool (!decide (a = b)))) | _, _ => none
theorem pure_is : Pure2 rIsB gIs := fun O H x y dx dy Q ho rx ry w => by
  cases rx with
  | bl i => cases ry with
    | bl j => exact ⟨i, j, rfl, rfl, w.val (.bl _)⟩
    | _ => exact absurd w id
  | _ => cases ry <;> exact absurd w id
theorem pure_isn : Pure2 rNotB gIsn := fun O H x y dx dy Q ho rx ry w => by
  cases rx with
  | bl i => cases ry with
    | bl j => exact ⟨i, j, rfl, rfl, w.val (.bl _)⟩
    | _ => exact absurd w id
  | _ => cases ry <;> exact absurd w id
theorem sc_isB (ha : SE C a fa) (hb : SE C b fb) : SC C (.Compare a [.Is] [b] pos) (eBin gIs fa fb) := sc_cmp (fun _ _ => op_isBl) pure_is ha hb (nomark _)
theorem sc_isnB (ha : SE C a fa) (hb : SE C b fb) : SC C (.Compare a [.IsNot] [b] pos) (eBin gIsn fa fb) := sc_cmp (fun _ _ => op_notBl) pure_isn ha hb (nomark _)
def isNone : D → Bool
  | .none => true
  | _ => false
theorem Rp.isNone {O : Own} {H : Hp} {v : V} {d : D} (r : Rp O H v d) : decide (v = .non) = Lw.isNone d := by cases r <;> simp [Lw.isNone]
def eIsN (f : FE) : FE := fun ρ W => (f ρ W).bind fun x W1 => .ok (.d (.bool (isNone x))) W1
def eNotN (f : FE) : FE := fun ρ W => (f ρ W).bind fun x W1 => .ok (.d (.bool (!isNone x))) W1
theorem sc_isN {j pos'} (ha : SE C a fa) (h1 : behindInMarks .Is (.Constant .none j pos') = false := by rfl) : SC C (.Compare a [.Is] [.Constant .none j pos'] pos) (eIsN fa) := by
  obtain ⟨t, p, s⟩ := ha
  refine ⟨_, fun X h => ⟨pe_cmp (pc_isN (p X h)) h1, pt_cmp (pc_isN (p X h)) h1⟩, fun a W Q I h => ?_⟩
  refine s.then I h fun x W1 v H1 e1 st r1 h1 => ?_
  rw [r1.isNone]
  exact wE.now (a := { a with H := H1 }) e1 (.bl _) h1
theorem sc_notN {j pos'} (ha : SE C a fa) (h1 : behindInMarks .IsNot (.Constant .none j pos') = false := by rfl) : SC C (.Compare a [.IsNot] [.Constant .none j pos'] pos) (eNotN fa) := by
  obtain ⟨t, p, s⟩ := ha
  refine ⟨_, fun X h => ⟨pe_cmp (pc_notN (p X h)) h1, pt_cmp (pc_notN (p X h)) h1⟩, fun a W Q I h => ?_⟩
  refine s.then I h fun x W1 v H1 e1 st r1 h1 => ?_
  rw [r1.isNone]
  exact wE.now (a := { a with H := H1 }) e1 (.bl _) h1
/-- in a list -/
def gIn : G2 := fun x y => match y with | .list ds => if SeqAt.shaped x = true ∧ SeqAt.shaped (.list ds) = true then some (.d (.bool (ds.any fun z => PyData.eqv z x))) else none | _ => none
def gNotIn : G2 := fun x y => match y with | .list ds => if SeqAt.shaped x = true ∧ SeqAt.shaped (.list ds) = true then some (.d (.bool (!ds.any fun z => PyData.eqv z x))) else none | _ => none
theorem pure_in : Pure2 (rInD fK) gIn := fun O H x y dx dy Q ho rx ry w => by
  cases ry with
  | lst h1 a1 =>
    unfold gIn at w
    dsimp only at w
    split at w
    · rename_i z
      exact ⟨dx, _, rx.dp (shaped_can z.1), (Rp.lst h1 a1).dp (shaped_can z.2), z.1, z.2, w.val (.bl _)⟩
    · exact absurd w id
  | _ => exact absurd w id
theorem pure_notIn : Pure2 (rNotInD fK) gNotIn := fun O H x y dx dy Q ho rx ry w => by
  cases ry with
  | lst h1 a1 =>
    unfold gNotIn at w
    dsimp only at w
    split at w
    · rename_i z
      exact ⟨dx, _, rx.dp (shaped_can z.1), (Rp.lst h1 a1).dp (shaped_can z.2), z.1, z.2, w.val (.bl _)⟩
    · exact absurd w id
  | _ => exact absurd w id
theorem sc_in (ha : SE C a fa) (hb : SE C b fb) (hm : behindInMarks .In b = false := by rfl) : SC C (.Compare a [.In] [b] pos) (eBin gIn fa fb) := sc_cmp (fun X h => by rw [← C.hK X h]; exact op_inD (by have := C.unX X h; omega)) pure_in ha hb hm
theorem sc_notIn (ha : SE C a fa) (hb : SE C b fb) (hm : behindInMarks .NotIn b = false := by rfl) : SC C (.Compare a [.NotIn] [b] pos) (eBin gNotIn fa fb) := sc_cmp (fun X h => by rw [← C.hK X h]; exact op_notInD (by have := C.unX X h; omega)) pure_notIn ha hb hm
/-- items -/
def gIx : G2 := fun x y => match x, y with
  | .list l, .int i => (atI l i).map .d
  | .tuple l, .int i => (atI l i).map .d
  | _, _ => none
theorem RpA.atI {O : Own} {H : Hp} {vs : List V} {ds : List D} {i : Int} {d : D} (al : RpA O H vs ds) (h : L2.atI ds i = some d) : ∃ v, L2.atI vs i = some v ∧ Rp O H v d := by
  unfold L2.atI at h ⊢
  rw [al.length]
  cases e : ixN ds.length i with
  | none => rw [e] at h; cases h
  | some j =>
    rw [e] at h
    exact al.get h
theorem pure_ix : Pure2 (rIx fK) gIx := fun O H x y dx dy Q ho rx ry w => by
  cases ry with
  | int i =>
    cases rx with
    | @lst a xs ds h1 a1 =>
      unfold gIx at w
      dsimp only at w
      cases e : L2.atI ds i with
      | none => rw [e] at w; exact absurd w id
      | some d =>
        rw [e] at w
        obtain ⟨v, hv, r⟩ := a1.atI e
        exact .inl ⟨a, xs, i, v, rfl, rfl, h1.sq, hv, wP.val w r⟩
    | @tup a xs ds h1 a1 =>
      unfold gIx at w
      dsimp only at w
      cases e : L2.atI ds i with
      | none => rw [e] at w; exact absurd w id
      | some d =>
        rw [e] at w
        obtain ⟨v, hv, r⟩ := a1.atI e
        exact .inr (.inl ⟨a, xs, i, v, rfl, rfl, h1.sq, hv, wP.val w r⟩)
    | _ => exact absurd w id
  | _ => cases rx <;> exact absurd w id
theorem se_item (ha : SE C a fa) (hb : SE C b fb) (hm : PlainIx b) : SE C (.Subscript a b pos) (eBin gIx fa fb) := se_ix (fun X h => by rw [← C.hK X h]; exact ix_seq) pure_ix ha hb hm
end
end Lw
set_option Elab.async false
set_option linter.all false
set_option maxRecDepth 100000
set_option maxHeartbeats 2000000
set_option autoImplicit false
namespace Lw
open PySem PySem.Spec PyProof.Rows L2
variable [KI : FragI]

/-! ### tests -/
def tru : D → Option Bool
  | .none => some false
  | .bool b => some b
  | .int i => some (i != 0)
  | .str s => if s.length ≤ lineN then some ((s.length : Int) != 0) else none
  | .list l => some (!l.isEmpty)
  | .tuple l => some (!l.isEmpty)
  | _ => none
theorem RpA.isEmpty {O : Own} {H : Hp} {vs : List V} {ds : List D} (al : RpA O H vs ds) : vs.isEmpty = ds.isEmpty := by cases al <;> rfl
theorem tru_ok {O : Own} {H : Hp} {v : V} {d : D} {k : Bool} (r : Rp O H v d) (h : tru d = some k) : TruV fK v H k := by
  cases r with
  | non => cases h; rfl
  | bl b => cases h; rfl
  | int i => cases h; rfl
  | str s =>
    have h : (if s.length ≤ lineN then some ((s.length : Int) != 0) else none) = some k := h
    split at h
    · rename_i z
      cases h
      exact ⟨line_le z, rfl⟩
    · cases h
  | lst h1 al => cases h; exact .inl ⟨_, h1.sq, by rw [al.isEmpty]⟩
  | tup h1 al => cases h; exact .inr (.inl ⟨_, h1.sq, by rw [al.isEmpty]⟩)
  | dct n e => cases h
  | dki n e _ _ => cases h
  | dko n e _ => cases h
def tOfE (f : FE) : FT := fun ρ W => (f ρ W).bindT fun x W1 => match tru x with | some k => .ok k W1 | none => .bad
def tAndF (f g : FT) : FT := fun ρ W => (f ρ W).bindT fun k W1 => if k = true then g ρ W1 else .ok false W1
def tOrF (f g : FT) : FT := fun ρ W => (f ρ W).bindT fun k W1 => if k = true then .ok true W1 else g ρ W1
def tNotF (f : FT) : FT := fun ρ W => (f ρ W).bindT fun k W1 => .ok (!k) W1
def eAnd (f g : FE) : FE := fun ρ W => (f ρ W).bind fun x W1 => match x with | .bool true => g ρ W1 | .bool false => .ok (.d (.bool false)) W1 | _ => .bad
def eOr (f g : FE) : FE := fun ρ W => (f ρ W).bind fun x W1 => match x with | .bool true => .ok (.d (.bool true)) W1 | .bool false => g ρ W1 | _ => .bad
def eNot (f : FE) : FE := fun ρ W => (f ρ W).bind fun x W1 => match x with | .bool k => .ok (.d (.bool !k)) W1 | _ => .bad
def eIf (t : FT) (f g : FE) : FE := fun ρ W => (t ρ W).bind fun k W1 => if k = true then f ρ W1 else g ρ W1
section
variable {C : Cd} {a b : Expr} {rest : List Expr} {pos : Pos} {fa fb : FE} {ta tb : FT}
theorem wT.now {Wx : WX} {ca : Nat → Addr} {a : At} {W : Option Well} {Q : Bool → Hp → Prop} {k : Bool} (I : a.Er W) (h : wT Wx ca a Q (.ok k W)) : Q k a.H := h a.H I Est.refl
theorem st_of (ha : SE C a fa) (he : ∀ env whole, isTrue a env whole = (do let v ← whole; standAt a.pos; holding [v] (truthy v)) := by intro _ _; rfl) : ST C a (tOfE fa) := by
  obtain ⟨t, p, s⟩ := ha
  refine ⟨fun σ H Q => t σ H fun x H' => ∃ k, TruV fK x H' k ∧ Q k H', fun X h => by rw [← C.hK X h]; exact pt_truth (p X h) (he _), fun a W Q I h => ?_⟩
  refine s.thenT I h fun x W1 v H1 e1 st r1 h1 => ?_
  split at h1
  · rename_i k e
    exact ⟨k, tru_ok r1 e, wT.now (a := { a with H := H1 }) e1 h1⟩
  · exact absurd h1 id
theorem sw_and1 (ha : ST C a ta) : SW C (.BoolOp .And [a] pos) ta := by
  obtain ⟨t, p, s⟩ := ha
  exact ⟨t, fun X h => pw_and1 (p X h), s⟩
theorem sw_or1 (ha : ST C a ta) : SW C (.BoolOp .Or [a] pos) ta := by
  obtain ⟨t, p, s⟩ := ha
  exact ⟨t, fun X h => pw_or1 (p X h), s⟩
theorem sw_and (ha : ST C a ta) (hb : SW C (.BoolOp .And (b :: rest) pos) tb) : SW C (.BoolOp .And (a :: b :: rest) pos) (tAndF ta tb) := by
  obtain ⟨t, p, s⟩ := ha
  obtain ⟨u, q, z⟩ := hb
  refine ⟨_, fun X h => pw_and (p X h) (q X h), fun a W Q I h => ?_⟩
  refine s.thenT I h fun k W1 H1 e1 st h1 => ?_
  cases k with
  | true => exact z { a with H := H1 } W1 Q e1 h1
  | false => exact wT.now (a := { a with H := H1 }) e1 h1
theorem sw_or (ha : ST C a ta) (hb : SW C (.BoolOp .Or (b :: rest) pos) tb) : SW C (.BoolOp .Or (a :: b :: rest) pos) (tOrF ta tb) := by
  obtain ⟨t, p, s⟩ := ha
  obtain ⟨u, q, z⟩ := hb
  refine ⟨_, fun X h => pw_or (p X h) (q X h), fun a W Q I h => ?_⟩
  refine s.thenT I h fun k W1 H1 e1 st h1 => ?_
  cases k with
  | true => exact wT.now (a := { a with H := H1 }) e1 h1
  | false => exact z { a with H := H1 } W1 Q e1 h1
theorem sw_pt (h : SW C a ta) : ST C a ta := by
  obtain ⟨t, p, s⟩ := h
  exact ⟨t, fun X h => (p X h).pt, s⟩
theorem st_not (ha : ST C a ta) : ST C (.UnaryOp .Not a pos) (tNotF ta) := by
  obtain ⟨t, p, s⟩ := ha
  refine ⟨_, fun X h => pt_not (p X h), fun a W Q I h => ?_⟩
  refine s.thenT I h fun k W1 H1 e1 st h1 => ?_
  exact wT.now (a := { a with H := H1 }) e1 h1
theorem se_one {op} (ha : SE C a fa) : SE C (.BoolOp op [a] pos) fa := by
  obtain ⟨t, p, s⟩ := ha
  exact ⟨t, fun X h => pe_one (p X h), s⟩
theorem se_and (ha : SE C a fa) (hb : SE C (.BoolOp .And (b :: rest) pos) fb) : SE C (.BoolOp .And (a :: b :: rest) pos) (eAnd fa fb) := by
  obtain ⟨t, p, s⟩ := ha
  obtain ⟨u, q, z⟩ := hb
  refine ⟨_, fun X h => pe_and (p X h) (q X h), fun a W Q I h => ?_⟩
  refine s.then I h fun x W1 v H1 e1 st r1 h1 => ?_
  split at h1
  · cases r1
    exact ⟨true, rfl, by rw [if_pos rfl]; exact z { a with H := H1 } W1 Q e1 h1⟩
  · cases r1
    exact ⟨false, rfl, by rw [if_neg (by decide)]; exact wE.now (a := { a with H := H1 }) e1 (.bl _) h1⟩
  · exact absurd h1 id
theorem se_or (ha : SE C a fa) (hb : SE C (.BoolOp .Or (b :: rest) pos) fb) : SE C (.BoolOp .Or (a :: b :: rest) pos) (eOr fa fb) := by
  obtain ⟨t, p, s⟩ := ha
  obtain ⟨u, q, z⟩ := hb
  refine ⟨_, fun X h => pe_or (p X h) (q X h), fun a W Q I h => ?_⟩
  refine s.then I h fun x W1 v H1 e1 st r1 h1 => ?_
  split at h1
  · cases r1
    exact ⟨true, rfl, by rw [if_pos rfl]; exact wE.now (a := { a with H := H1 }) e1 (.bl _) h1⟩
  · cases r1
    exact ⟨false, rfl, by rw [if_neg (by decide)]; exact z { a with H := H1 } W1 Q e1 h1⟩
  · exact absurd h1 id
theorem se_not (ha : SE C a fa) : SE C (.UnaryOp .Not a pos) (eNot fa) := by
  obtain ⟨t, p, s⟩ := ha
  refine ⟨_, fun X h => pe_not (p X h), fun a W Q I h => ?_⟩
  refine s.then I h fun x W1 v H1 e1 st r1 h1 => ?_
  split at h1
  · cases r1
    exact ⟨_, rfl, wE.now (a := { a with H := H1 }) e1 (.bl _) h1⟩
  · exact absurd h1 id
theorem se_if {c : Expr} (hc : ST C c ta) (ha : SE C a fa) (hb : SE C b fb) : SE C (.IfExp c a b pos) (eIf ta fa fb) := by
  obtain ⟨t, p, s⟩ := hc
  obtain ⟨u, q, z⟩ := ha
  obtain ⟨u2, q2, z2⟩ := hb
  refine ⟨_, fun X h => pe_ifExp (p X h) (q X h) (q2 X h), fun a W Q I h => ?_⟩
  refine s.then I h fun k W1 H1 e1 st h1 => ?_
  cases k with
  | true => exact z { a with H := H1 } W1 Q e1 h1
  | false => exact z2 { a with H := H1 } W1 Q e1 h1
def eNeg (f : FE) : FE := fun ρ W => (f ρ W).bind fun x W1 => match x with | .int i => .ok (.d (.int (-i))) W1 | _ => .bad
theorem se_neg (ha : SE C a fa) : SE C (.UnaryOp .USub a pos) (eNeg fa) := by
  obtain ⟨t, p, s⟩ := ha
  refine ⟨_, fun X h => pe_un un_neg (p X h), fun a W Q I h => ?_⟩
  refine s.then I h fun x W1 v H1 e1 st r1 h1 => ?_
  split at h1
  · cases r1
    exact ⟨_, rfl, wE.now (a := { a with H := H1 }) e1 (.int _) h1⟩
  · exact absurd h1 id
end

/-! ### displays -/
def eTup (g : FA) : FE := fun ρ W => (g ρ W).bind fun as W1 => match datas as with | some ds => if ds.length ≤ lineN then .ok (.d (.tuple ds)) W1 else .bad | none => .bad
def eLst (g : FA) : FE := fun ρ W => (g ρ W).bind fun as W1 => match datas as with | some ds => if ds.length ≤ lineN then .ok (.f ds) W1 else .bad | none => .bad
section
variable {C : Cd} {es : List Expr} {pos : Pos} {x1 : Nat} {g : FA}
theorem wE.wp {Wx : WX} {ca : Nat → Addr} {a : At} {W : Option Well} {Q : VK} {e : Ev} (I : a.Er W) (h : wE Wx ca a Q (.ok e W)) : wP a.O a.H Q (some e) := wE.pure (o := some e) I h
theorem se_tup (hs : SA C es g) : SE C (.Tuple es x1 pos) (eTup g) := by
  obtain ⟨t, p, s⟩ := hs
  refine ⟨_, fun X h => pe_tup (p X h), fun a W Q I h => ?_⟩
  refine s.then I h fun as W1 vs H1 e1 st r1 h1 => ?_
  split at h1
  · rename_i ds e
    split at h1
    · rename_i z
      have al := r1.datas e
      exact ⟨line_le (by rw [al.length]; exact z), wP.newT e1.1.al (wE.wp (a := { a with H := H1 }) e1 h1) al⟩
    · exact absurd h1 id
  · exact absurd h1 id
theorem se_lst (hs : SA C es g) : SE C (.List es pos) (eLst g) := by
  obtain ⟨t, p, s⟩ := hs
  refine ⟨_, fun X h => pe_lst (p X h), fun a W Q I h => ?_⟩
  refine s.then I h fun as W1 vs H1 e1 st r1 h1 => ?_
  split at h1
  · rename_i ds e
    split at h1
    · rename_i z
      have al := r1.datas e
      exact ⟨line_le (by rw [al.length]; exact z), wP.new (wE.wp (a := { a with H := H1 }) e1 h1) al⟩
    · exact absurd h1 id
  · exact absurd h1 id
/-- *e among the parts of a display or a call -/
def aStar (f : FE) (g : FA) : FA := fun ρ W => (f ρ W).bindA fun x W1 => match x with
  | .list l => (g ρ W1).bindA fun as W2 => .ok (l.map .dt ++ as) W2
  | .tuple l => (g ρ W1).bindA fun as W2 => .ok (l.map .dt ++ as) W2
  | _ => .bad
theorem ArRs.app {O : Own} {wa : Addr} {H : Hp} : ∀ {vs : List V} {ds : List D} {ws : List V} {as : List Sl}, RpA O H vs ds → ArRs O wa H as ws → ArRs O wa H (ds.map .dt ++ as) (vs ++ ws)
  | _, _, _, _, .nil, h => h
  | _, _, _, _, .cons r al, h => .cons r (ArRs.app al h)
end

/-! ### builtins by their names -/
def eCall (g : List D → Option Ev) (fa : FA) : FE := fun ρ W => (fa ρ W).bind fun as W1 => match datas as with | some ds => ofP (g ds) W1 | none => .bad
section
variable {C : Cd} {e : Expr} {es : List Expr} {pos p : Pos} {x : Str} {fa : FA} {g : List D → Option Ev} {r : List V → Hp → VK → Prop}
theorem snd_call {t : TA} (hp : Pure r g) (s : SndA C.Wx C.ca t fa) : SndE C.Wx C.ca (tCB r t) (eCall g fa) := fun a W Q I h => by
  refine s.then I h fun as W1 vs H1 e1 st r1 h1 => ?_
  split at h1
  · rename_i ds e
    exact hp a.O H1 vs ds Q e1.1.al (r1.datas e) (wE.pure (a := { a with H := H1 }) e1 h1)
  · exact absurd h1 id
theorem se_callB {id : String} (hc : ∀ X, C.P X → CallR X (.builtin id) r) (hp : Pure r g) (hg : C.G x) (hm : C.mg x = none) (hb : bootBuiltins x = some (.builtin id)) (ha : SA C (e :: es) fa)
    (hn : x ≠ ("__name__" : Str) := by decide) (hd : (x == ("__debug__" : Str)) = false := by decide) (he : ∀ env, starEach (e :: es) env = (false, eval e env) :: starEach es env := by intro _; rfl) (hpl : ∀ env, (backTo pos (starEach es env)).any (·.1) = false := by intro _; rfl) :
    SE C (.Call (.Name x p) (e :: es) [] pos) (eCall g fa) := by
  obtain ⟨t, q, s⟩ := ha
  exact ⟨_, fun X h => pe_callB (hc X h) (C.gl h hg) (by rw [C.hmg X h]; exact hm) hb (q X h) hn hd (he _) (hpl _), snd_call hp s⟩
theorem se_callTy {T : String} (hc : ∀ X, C.P X → CallR X (.type T) r) (hp : Pure r g) (hg : C.G x) (hm : C.mg x = none) (hb : bootBuiltins x = some (.type T)) (ha : SA C (e :: es) fa)
    (hn : x ≠ ("__name__" : Str) := by decide) (hd : (x == ("__debug__" : Str)) = false := by decide) (he : ∀ env, starEach (e :: es) env = (false, eval e env) :: starEach es env := by intro _; rfl) (hpl : ∀ env, (backTo pos (starEach es env)).any (·.1) = false := by intro _; rfl) :
    SE C (.Call (.Name x p) (e :: es) [] pos) (eCall g fa) := by
  obtain ⟨t, q, s⟩ := ha
  exact ⟨_, fun X h => pe_callTy (hc X h) (C.gl h hg) (by rw [C.hmg X h]; exact hm) hb (q X h) hn hd (he _) (hpl _), snd_call hp s⟩
theorem se_callM {id : String} (hc : ∀ X, C.P X → CallR X (.builtin id) r) (hp : Pure r g) (hg : C.G x) (hm : C.mg x = some (.builtin id)) (ha : SA C (e :: es) fa)
    (hd : (x == ("__debug__" : Str)) = false := by decide) (he : ∀ env, starEach (e :: es) env = (false, eval e env) :: starEach es env := by intro _; rfl) (hpl : ∀ env, (backTo pos (starEach es env)).any (·.1) = false := by intro _; rfl) :
    SE C (.Call (.Name x p) (e :: es) [] pos) (eCall g fa) := by
  obtain ⟨t, q, s⟩ := ha
  exact ⟨_, fun X h => pe_callBfun (hc X h) (C.gl h hg) (by rw [C.hmg X h]; exact hm) (q X h) hd (he _) (hpl _), snd_call hp s⟩
end
/-- what each gives -/
def gLen : List D → Option Ev
  | [.list l] => some (.d (.int l.length))
  | [.tuple l] => some (.d (.int l.length))
  | _ => none
def gAbs : List D → Option Ev
  | [.int i] => some (.d (.int (if i < 0 then -i else i)))
  | _ => none
def gMax2 : List D → Option Ev
  | [.int i, .int j] => some (.d (.int (if j > i then j else i)))
  | _ => none
def gMin2 : List D → Option Ev
  | [.int i, .int j] => some (.d (.int (if j < i then j else i)))
  | _ => none
def gInt : List D → Option Ev
  | [.int i] => some (.d (.int i))
  | [.bool b] => some (.d (.int (if b = true then 1 else 0)))
  | _ => none
def gList : List D → Option Ev
  | [.list l] => some (.f l)
  | [.tuple l] => some (.f l)
  | _ => none
def gTuple : List D → Option Ev
  | [.list l] => some (.d (.tuple l))
  | [.tuple l] => some (.d (.tuple l))
  | _ => none
def allI : List D → Option (List Int)
  | [] => some []
  | .int i :: r => (allI r).map (i :: ·)
  | _ => none
def allB : List D → Option (List Bool)
  | [] => some []
  | .bool i :: r => (allB r).map (i :: ·)
  | _ => none
theorem allI_eq : ∀ {ds : List D} {ns : List Int}, allI ds = some ns → ds = ns.map PyData.int
  | [], _, h => by cases h; rfl
  | .int i :: r, ns, h => by
    unfold allI at h
    cases q : allI r with
    | none => rw [q] at h; cases h
    | some l => rw [q] at h; cases h; rw [allI_eq q]; rfl
  | .none :: _, _, h => nomatch h
  | .bool _ :: _, _, h => nomatch h
  | .str _ :: _, _, h => nomatch h
  | .list _ :: _, _, h => nomatch h
  | .tuple _ :: _, _, h => nomatch h
  | .dict _ :: _, _, h => nomatch h
theorem allB_eq : ∀ {ds : List D} {ns : List Bool}, allB ds = some ns → ds = ns.map PyData.bool
  | [], _, h => by cases h; rfl
  | .bool i :: r, ns, h => by
    unfold allB at h
    cases q : allB r with
    | none => rw [q] at h; cases h
    | some l => rw [q] at h; cases h; rw [allB_eq q]; rfl
  | .none :: _, _, h => nomatch h
  | .int _ :: _, _, h => nomatch h
  | .str _ :: _, _, h => nomatch h
  | .list _ :: _, _, h => nomatch h
  | .tuple _ :: _, _, h => nomatch h
  | .dict _ :: _, _, h => nomatch h
theorem allI_ints : ∀ ns : List Int, allI (ns.map PyData.int) = some ns
  | [] => rfl
  | n :: r => by
    show (allI (r.map PyData.int)).map (n :: ·) = _
    rw [allI_ints r]
    rfl
theorem allB_bools : ∀ ns : List Bool, allB (ns.map PyData.bool) = some ns
  | [] => rfl
  | n :: r => by
    show (allB (r.map PyData.bool)).map (n :: ·) = _
    rw [allB_bools r]
    rfl
def gAll : List D → Option Ev
  | [.list l] => (allB l).map fun bs => .d (.bool (bs.all id))
  | _ => none
def gSum : List D → Option Ev
  | [.list l] => (allI l).map fun bs => .d (.int bs.sum)
  | _ => none
/-- the one ascending arrangement -/
def insI (n : Int) : List Int → List Int
  | [] => [n]
  | m :: r => if n ≤ m then n :: m :: r else m :: insI n r
def sortI : List Int → List Int
  | [] => []
  | n :: r => insI n (sortI r)
def gSorted : List D → Option Ev
  | [.list l] => (allI l).map fun bs => .f ((sortI bs).map PyData.int)
  | _ => none
def gGcd : List D → Option Ev
  | [.int a, .int b] => some (.d (.int ((Nat.gcd a.natAbs b.natAbs : Nat) : Int)))
  | _ => none
theorem perm_insI (n : Int) : ∀ l : List Int, (insI n l).Perm (n :: l)
  | [] => List.Perm.refl _
  | m :: r => by
    unfold insI
    split
    · exact List.Perm.refl _
    · exact ((perm_insI n r).cons m).trans (List.Perm.swap n m r)
theorem perm_sortI : ∀ l : List Int, (sortI l).Perm l
  | [] => List.Perm.refl _
  | n :: r => (perm_insI n (sortI r)).trans ((perm_sortI r).cons n)
theorem pw_insI (n : Int) : ∀ l : List Int, l.Pairwise (· ≤ ·) → (insI n l).Pairwise (· ≤ ·)
  | [], _ => List.pairwise_singleton _ _
  | m :: r, h => by
    unfold insI
    obtain ⟨h1, h2⟩ := List.pairwise_cons.mp h
    split
    · rename_i z
      exact List.pairwise_cons.mpr ⟨fun x hx => by
        rcases List.mem_cons.mp hx with rfl | hx
        · exact z
        · exact Int.le_trans z (h1 x hx), h⟩
    · rename_i z
      refine List.pairwise_cons.mpr ⟨fun x hx => ?_, pw_insI n r h2⟩
      have := (perm_insI n r).mem_iff.mp hx
      rcases List.mem_cons.mp this with rfl | hx
      · omega
      · exact h1 x hx
theorem pw_sortI : ∀ l : List Int, (sortI l).Pairwise (· ≤ ·)
  | [] => List.Pairwise.nil
  | n :: r => pw_insI n _ (pw_sortI r)
theorem sort_one {a b : List Int} (h : a.Perm b) (ha : a.Pairwise (· ≤ ·)) (hb : b.Pairwise (· ≤ ·)) : a = b := h.eq_of_pairwise (fun _ _ _ _ x y => Int.le_antisymm x y) ha hb
section
variable {X : Cx}
theorem pure_len : Pure (fun xs H Q => ∃ p ys, xs = [.ref p] ∧ (SqL fK H p ys ∨ SqT fK H p ys) ∧ Q (.int ys.length) H) gLen := fun O H vs ds Q ho al w => by
  cases al with
  | nil => exact absurd w id
  | cons r al =>
    cases al with
    | cons _ _ => cases r <;> exact absurd w id
    | nil =>
      cases r with
      | lst h1 a1 => exact ⟨_, _, rfl, .inl h1.sq, by rw [a1.length]; exact wP.val w (.int _)⟩
      | tup h1 a1 => exact ⟨_, _, rfl, .inr h1.sq, by rw [a1.length]; exact wP.val w (.int _)⟩
      | _ => exact absurd w id
theorem pure_abs : Pure (fun xs H Q => ∃ i, xs = [.int i] ∧ Q (.int (if i < 0 then -i else i)) H) gAbs := fun O H vs ds Q ho al w => by
  cases al with
  | nil => exact absurd w id
  | cons r al =>
    cases al with
    | cons _ _ => cases r <;> exact absurd w id
    | nil =>
      cases r with
      | int i => exact ⟨i, rfl, wP.val w (.int _)⟩
      | _ => exact absurd w id
theorem pure_ii {g : Int → Int → Int} {G : List D → Option Ev} (hG : ∀ i j, G [.int i, .int j] = some (.d (.int (g i j)))) (hn : ∀ ds, (¬ ∃ i j, ds = [PyData.int i, .int j]) → G ds = none) : Pure (fun xs H Q => ∃ i j, xs = [.int i, .int j] ∧ Q (.int (g i j)) H) G := fun O H vs ds Q ho al w => by
  by_cases z : ∃ i j, ds = [PyData.int i, .int j]
  · obtain ⟨i, j, rfl⟩ := z
    rw [hG] at w
    cases al with
    | cons r al => cases al with
      | cons r2 al => cases al with
        | nil =>
          cases r
          cases r2
          exact ⟨i, j, rfl, wP.val w (.int _)⟩
  · rw [hn ds z] at w
    exact absurd w id
theorem no_ii {ds : List D} (h : ¬ ∃ i j, ds = [PyData.int i, .int j]) : gMax2 ds = none ∧ gMin2 ds = none ∧ gGcd ds = none := by
  match ds, h with
  | [.int i, .int j], h => exact absurd ⟨i, j, rfl⟩ h
  | [], _ => exact ⟨rfl, rfl, rfl⟩
  | [_], _ => refine ⟨?_, ?_, ?_⟩ <;> rename_i x _ <;> cases x <;> rfl
  | x :: y :: z :: r, _ => refine ⟨?_, ?_, ?_⟩ <;> cases x <;> cases y <;> rfl
  | [x, y], h => refine ⟨?_, ?_, ?_⟩ <;> cases x <;> cases y <;> first | rfl | exact absurd ⟨_, _, rfl⟩ h
theorem pure_max2 : Pure (fun xs H Q => ∃ i j, xs = [.int i, .int j] ∧ Q (.int (if j > i then j else i)) H) gMax2 := pure_ii (fun _ _ => rfl) fun _ h => (no_ii h).1
theorem pure_min2 : Pure (fun xs H Q => ∃ i j, xs = [.int i, .int j] ∧ Q (.int (if j < i then j else i)) H) gMin2 := pure_ii (fun _ _ => rfl) fun _ h => (no_ii h).2.1
theorem pure_gcd : Pure rGcd gGcd := pure_ii (fun _ _ => rfl) fun _ h => (no_ii h).2.2
theorem pure_int : Pure (fun xs H Q => (∃ i, xs = [V.int i] ∧ Q (.int i) H) ∨ (∃ b, xs = [V.bl b] ∧ Q (.int (if b = true then 1 else 0)) H)) gInt := fun O H vs ds Q ho al w => by
  cases al with
  | nil => exact absurd w id
  | cons r al =>
    cases al with
    | cons _ _ => cases r <;> exact absurd w id
    | nil =>
      cases r with
      | int i => exact .inl ⟨i, rfl, wP.val w (.int _)⟩
      | bl b => exact .inr ⟨b, rfl, wP.val w (.int _)⟩
      | _ => exact absurd w id
theorem pure_list : Pure (fun xs H Q => ∃ p ys, xs = [.ref p] ∧ (SqL fK H p ys ∨ SqT fK H p ys) ∧ ∀ l, H l = none → Q (.ref l) (upd H l (.lst ys))) gList := fun O H vs ds Q ho al w => by
  cases al with
  | nil => exact absurd w id
  | cons r al =>
    cases al with
    | cons _ _ => cases r <;> exact absurd w id
    | nil =>
      cases r with
      | lst h1 a1 => exact ⟨_, _, rfl, .inl h1.sq, wP.new w a1⟩
      | tup h1 a1 => exact ⟨_, _, rfl, .inr h1.sq, wP.new w a1⟩
      | _ => exact absurd w id
theorem pure_tuple : Pure (fun xs H Q => ∃ p ys, xs = [.ref p] ∧ ((SqL fK H p ys ∧ ∀ l, H l = none → Q (.ref l) (upd H l (.tup ys))) ∨ (SqT fK H p ys ∧ Q (.ref p) H))) gTuple := fun O H vs ds Q ho al w => by
  cases al with
  | nil => exact absurd w id
  | cons r al =>
    cases al with
    | cons _ _ => cases r <;> exact absurd w id
    | nil =>
      cases r with
      | lst h1 a1 => exact ⟨_, _, rfl, .inl ⟨h1.sq, wP.newT ho w a1⟩⟩
      | tup h1 a1 => exact ⟨_, _, rfl, .inr ⟨h1.sq, wP.val w (.tup h1 a1)⟩⟩
      | _ => exact absurd w id
theorem pure_all : Pure (rAll fK) gAll := fun O H vs ds Q ho al w => by
  cases al with
  | nil => exact absurd w id
  | cons r al =>
    cases al with
    | cons _ _ => cases r <;> exact absurd w id
    | nil =>
      cases r with
      | @lst a xs l h1 a1 =>
        unfold gAll at w
        dsimp only at w
        cases q : allB l with
        | none => rw [q] at w; exact absurd w id
        | some bs =>
          rw [q] at w
          have e := allB_eq q
          subst e
          have e2 := a1.of_bools
          subst e2
          exact ⟨a, bs, rfl, h1.sq, wP.val w (.bl _)⟩
      | _ => exact absurd w id
theorem pure_sum : Pure (rSum fK) gSum := fun O H vs ds Q ho al w => by
  cases al with
  | nil => exact absurd w id
  | cons r al =>
    cases al with
    | cons _ _ => cases r <;> exact absurd w id
    | nil =>
      cases r with
      | @lst a xs l h1 a1 =>
        unfold gSum at w
        dsimp only at w
        cases q : allI l with
        | none => rw [q] at w; exact absurd w id
        | some bs =>
          rw [q] at w
          have e := allI_eq q
          subst e
          have e2 := a1.of_ints
          subst e2
          exact ⟨a, bs, rfl, h1.sq, wP.val w (.int _)⟩
      | _ => exact absurd w id
theorem pure_sorted : Pure (rSortedI fK) gSorted := fun O H vs ds Q ho al w => by
  cases al with
  | nil => exact absurd w id
  | cons r al =>
    cases al with
    | cons _ _ => cases r <;> exact absurd w id
    | nil =>
      cases r with
      | @lst a xs l h1 a1 =>
        unfold gSorted at w
        dsimp only at w
        cases q : allI l with
        | none => rw [q] at w; exact absurd w id
        | some bs =>
          rw [q] at w
          have e := allI_eq q
          subst e
          have e2 := a1.of_ints
          subst e2
          refine ⟨a, bs, rfl, h1.sq, fun ns' p hp hpw hn => ?_⟩
          have es : ns' = sortI bs := sort_one (hp.trans (perm_sortI bs).symm) hpw (pw_sortI bs)
          rw [es]
          exact wP.new w (RpA.ints _) p hn
      | _ => exact absurd w id
end
end Lw
set_option Elab.async false
set_option linter.all false
set_option maxRecDepth 100000
set_option maxHeartbeats 2000000
set_option autoImplicit false
namespace Lw
open PySem PySem.Spec PyProof.Rows L2
variable [KI : FragI]

/-! ### isinstance -/
def tyN : D → String
  | .none => "NoneType"
  | .bool _ => "bool"
  | .int _ => "int"
  | .str _ => "str"
  | .list _ => "list"
  | .tuple _ => "tuple"
  | .dict _ => "dict"
def isT (T : String) (d : D) : Bool := (kitB (tyN d) T).getD false
theorem Rp.ty {O : Own} {H : Hp} {v : V} {d : D} (r : Rp O H v d) : TyX fK H v (.type (tyN d)) := by
  cases r with
  | non => exact .base .non
  | bl b => exact .base (.bl b)
  | int i => exact .base (.int i)
  | str s => exact .base (.str s)
  | lst h al =>
    rcases h with ⟨_, h | ⟨o, h⟩⟩ | ⟨o, its, n, h1, h2, _⟩
    · exact .base (.lst h)
    · exact .base (.frz h)
    · exact .kList h1 h2
  | tup h al =>
    rcases h with ⟨_, h | ⟨o, h⟩⟩ | ⟨o, its, n, h1, h2, _⟩
    · exact .base (.tup h)
    · exact .fTuple h
    · exact .kTuple h1 h2
  | dct n e => exact .base (.dK e)
  | dki n e _ _ => exact .base (.dK e)
  | dko n e _ => exact .base (.dK e)
def kT (T : String) : Bool := (["NoneType", "bool", "int", "str", "list", "tuple", "dict"] : List String).all fun a => (kitB a T).isSome
theorem kT_ok {T : String} (h : kT T = true) (d : D) {K : PySem.W.Frag} : PySem.W.kitOne K (.type (tyN d)) (.type T) = some (isT T d) := by
  have z : (kitB (tyN d) T).isSome = true := List.all_eq_true.mp h (tyN d) (by cases d <;> simp [tyN])
  refine kit_ty ?_
  unfold isT
  cases q : kitB (tyN d) T with
  | none => rw [q] at z; cases z
  | some b => rfl
def eIs (T : String) (f : FE) : FE := fun ρ W => (f ρ W).bind fun x W1 => .ok (.d (.bool (isT T x))) W1
def eIsA (Ts : List String) (f : FE) : FE := fun ρ W => (f ρ W).bind fun x W1 => .ok (.d (.bool (Ts.any fun T => isT T x))) W1
theorem kAny_ok {K : PySem.W.Frag} (d : D) : ∀ {Ts : List String}, Ts.all kT = true → PySem.W.kitAny K (.type (tyN d)) (Ts.map Value.type) = some (Ts.any fun T => isT T d)
  | [], _ => rfl
  | T :: r, h => by
    rw [List.all_cons, Bool.and_eq_true] at h
    refine kitAny_cons (kT_ok h.1 d) (fun e => ?_) fun e => ?_
    · rw [List.any_cons, e, Bool.false_or]
      exact kAny_ok d h.2
    · rw [List.any_cons, e, Bool.true_or]
section
variable {C : Cd} {e : Expr} {pos p p2 p3 : Pos} {f : FE}
theorem se_isinst {T : String} (hk : kT T = true) (hg : C.G "isinstance") (hm : C.mg "isinstance" = none) {x : Str} (hg2 : C.G x) (hm2 : C.mg x = none) (hb : bootBuiltins x = some (.type T)) (ha : SE C e f)
    (hn : x ≠ ("__name__" : Str) := by decide) (hd : (x == ("__debug__" : Str)) = false := by decide) (he : ∀ env, starEach [e, .Name x p2] env = (false, eval e env) :: starEach [.Name x p2] env := by intro _; rfl) :
    SE C (.Call (.Name "isinstance" p) [e, .Name x p2] [] pos) (eIs T f) := by
  obtain ⟨t, q, s⟩ := ha
  refine ⟨_, fun X h => pe_callB (r := rIsi fK) (by rw [← C.hK X h]; exact call_isi) (C.gl h hg) (by rw [C.hmg X h]; exact hm) (by decide +kernel) (pa_cons (q X h) (pa_cons (pe_bltn (v := .ty T) (C.gl h hg2) (by rw [C.hmg X h]; exact hm2) hb rfl hn hd) pa_nil) (he _)) (by decide) (by decide) (he _), fun a W Q I h => ?_⟩
  refine s.then I h fun x W1 v H1 e1 st r1 h1 => ?_
  exact ⟨v, .ty T, _, _, _, rfl, .ty T, r1.ty, kT_ok hk x, wE.now (a := { a with H := H1 }) e1 (.bl _) h1⟩
end
/-- names of built-in types, as values -/
inductive STy (C : Cd) : List Expr → List String → Prop
  | nil : STy C [] []
  | cons {x : Str} {T : String} {p : Pos} {es : List Expr} {Ts : List String} : C.G x → C.mg x = none → bootBuiltins x = some (.type T) → x ≠ ("__name__" : Str) → (x == ("__debug__" : Str)) = false → STy C es Ts → STy C (.Name x p :: es) (T :: Ts)
theorem STy.pa {C : Cd} : ∀ {es : List Expr} {Ts : List String}, STy C es Ts → ∃ t, (∀ X, C.P X → PA X es t) ∧ ∀ σ H Q, Q (Ts.map V.ty) H → t σ H Q
  | _, _, .nil => ⟨_, fun _ _ => pa_nil, fun _ _ _ h => h⟩
  | _, _, .cons (T := T) hg hm hb hn hd r => by
    obtain ⟨t, q, s⟩ := STy.pa r
    exact ⟨_, fun X h => pa_cons (pe_bltn (v := .ty T) (C.gl h hg) (by rw [C.hmg X h]; exact hm) hb rfl hn hd) (q X h), fun σ H Q h => s σ H _ h⟩
theorem cls_tys : ∀ Ts : List String, Paired ClsV (Ts.map V.ty) (Ts.map Value.type)
  | [] => .nil
  | T :: r => .cons (.ty T) (cls_tys r)
section
variable {C : Cd} {e : Expr} {pos p p2 p3 : Pos} {f : FE}
theorem se_isinstA {Ts : List String} {es : List Expr} {x1 : Nat} (hk : Ts.all kT = true) (hl : Ts.length ≤ lineN) (hg : C.G "isinstance") (hm : C.mg "isinstance" = none) (ht : STy C es Ts) (ha : SE C e f)
    (he : ∀ env, starEach [e, .Tuple es x1 p2] env = (false, eval e env) :: starEach [.Tuple es x1 p2] env := by intro _; rfl) :
    SE C (.Call (.Name "isinstance" p) [e, .Tuple es x1 p2] [] pos) (eIsA Ts f) := by
  obtain ⟨t, q, s⟩ := ha
  obtain ⟨u, q2, s2⟩ := ht.pa
  refine ⟨_, fun X h => pe_callB (r := rIsiT fK) (by rw [← C.hK X h]; exact call_isiT) (C.gl h hg) (by rw [C.hmg X h]; exact hm) (by decide +kernel) (pa_cons (q X h) (pa_cons (pe_tup (q2 X h)) pa_nil) (he _)) (by decide) (by decide) (he _), fun a W Q I h => ?_⟩
  refine s.then I h fun x W1 v H1 e1 st r1 h1 => ?_
  refine s2 _ _ _ ⟨line_le (by rw [List.length_map]; exact hl), fun tp hp => ?_⟩
  have sm := same_upd (o := .tup (Ts.map V.ty)) hp
  refine ⟨v, tp, _, _, _, _, rfl, upd_same, cls_tys Ts, (r1.stp (Stp.same sm)).ty, kAny_ok x hk, ?_⟩
  exact h1 _ _ ⟨e1.1.same sm, e1.2⟩ (Est.same sm) (.bl _)
end

/-! ### calls of defs -/
def Cal (wa : Addr) (W W' : Option Well) (H H' : Hp) : Prop := Est wa W.isSome H H' ∧ (∀ w, W' = some w → H' wa = some (.lst (wellVs w))) ∧ W'.isSome = W.isSome
def wF (ca : Nat → Addr) (O : Own) (wa : Addr) (W : Option Well) (H : Hp) (Q : VK) (E : XK) : Res → Prop
  | .ok (.d x) W' => ∀ v H', Cal wa W W' H H' → Rp O H' v x → Q v H'
  | .ok (.f l) W' => ∀ p vs H', Cal wa W W' H H' → H p = none → H' p = some (.lst vs) → RpA (OU O p) H' vs l → Q (.ref p) H'
  | .exc c W' => ∀ H', Cal wa W W' H H' → E (.ref (ca c)) none H'
  | .bad => False
abbrev FF := List Sl → Option Well → Res
/-- the promise: what F says -/
def spF (ca : Nat → Addr) (n : Nat) (F : FF) : Sp := fun vs H Q E => ∃ (O : Own) (wa : Addr) (W : Option Well) (as : List Sl), vs.length = n ∧ (∀ a, O a → H a ≠ none) ∧ ArRs O wa H as vs ∧ (∀ w, W = some w → O wa ∧ H wa = some (.lst (wellVs w))) ∧ wF ca O wa W H Q E (F as W)
theorem ArRs.length {O : Own} {wa : Addr} {H : Hp} : ∀ {as : List Sl} {vs : List V}, ArRs O wa H as vs → as.length = vs.length
  | _, _, .nil => rfl
  | _, _, .cons _ t => by rw [List.length_cons, List.length_cons, ArRs.length t]
section
variable {b : Bs} {O : Own} {wa : Addr} {W W' : Option Well} {ρ : List Sl} {σ : L2.St} {H H' : Hp}
/-- behind a call -/
theorem ER.call (e : ER b O wa W ρ σ H) (c : Cal wa W W' H H') : ER b O wa W' ρ σ H' := by
  obtain ⟨st, wl, iw⟩ := c
  have old : ∀ a, O a → H' a ≠ none := fun a oa z => by
    cases q : H a with
    | none => exact e.al a oa q
    | some o =>
      by_cases hw : W.isSome = true ∧ a = wa
      · obtain ⟨w, hw'⟩ := Option.isSome_iff_exists.mp (iw.trans hw.1)
        have := wl w hw'
        rw [← hw.2, z] at this
        cases this
      · have := st a o (fun h1 h2 => hw ⟨h1, h2⟩) q
        rw [z] at this
        cases this
  have stp : Stp O H O H' := fun a o n q => ⟨n, st a o (fun h1 h2 => by
    obtain ⟨w, hw⟩ := Option.isSome_iff_exists.mp h1
    exact n (h2 ▸ (e.wl w hw).1)) q⟩
  refine ⟨e.len, old, fun i x hx => ?_, e.inj, fun i l a h1 h2 h3 => e.nw i l a h1 h2 (iw.symm.trans h3), fun w hw => ⟨?_, wl w hw⟩, fun a o h1 h2 => st a o (fun h3 h4 => ?_) (e.keep a o h1 h2), e.sub, e.new, fun hm => ⟨iw.trans (e.wm hm).1, (e.wm hm).2⟩, fun hm => ⟨(e.wn hm).1, fun h => (e.wn hm).2 (iw.symm.trans h)⟩⟩
  · obtain ⟨o, h1, h2⟩ := e.sl i x hx
    refine ⟨o, h1, h2.stp stp fun a vs oa ha h0 hl ho => ⟨oa, st a _ (fun h3 => ?_) ha⟩⟩
    obtain ⟨c, l, rfl⟩ := hl
    subst ho
    exact e.nw i l a hx h1 h3
  · have : W.isSome = true := iw.symm.trans (by rw [hw]; rfl)
    obtain ⟨w', hw'⟩ := Option.isSome_iff_exists.mp this
    exact (e.wl w' hw').1
  · cases hmk : b.mkw with
    | false =>
      obtain ⟨m1, m2⟩ := e.wm hmk
      exact h1 (m1.symm.trans h3) (h4.trans m2)
    | true =>
      have := (e.wn hmk).2 h3
      rw [← h4, h2] at this
      cases this
end
theorem ER.callOwn {b : Bs} {O : Own} {wa : Addr} {W W' : Option Well} {ρ : List Sl} {σ : L2.St} {H H' : Hp} (I : ER b O wa W ρ σ H) (cc : Cal wa W W' H H') {q : Addr} {o : HO} (hn : H q = none) (hq : H' q = some o) : ER b (OU O q) wa W' ρ σ H' := by
  have e' := I.call cc
  have st : Stp O H (OU O q) H' := fun x o n qq => ⟨fun z => z.elim n (fun z => by rw [z, hn] at qq; exact nomatch qq), cc.1 x o (fun h1 h2 => by
    obtain ⟨w, hw⟩ := Option.isSome_iff_exists.mp h1
    exact n (h2 ▸ (I.wl w hw).1)) qq⟩
  refine ⟨e'.len, fun x oa => ?_, fun i s hs => ?_, e'.inj, e'.nw, fun w hw => ⟨.inl (e'.wl w hw).1, (e'.wl w hw).2⟩, e'.keep, fun x z => .inl (e'.sub x z), fun x z => ?_, e'.wm, e'.wn⟩
  · rcases oa with oa | rfl
    · exact e'.al x oa
    · rw [hq]; exact fun z => nomatch z
  · obtain ⟨o, h1, h2⟩ := I.sl i s hs
    refine ⟨o, h1, h2.stp st fun x ws oa ha h0 hl ho => ⟨.inl oa, ?_⟩⟩
    obtain ⟨c, l', rfl⟩ := hl
    subst ho
    exact cc.1 x _ (fun h3 => I.nw i l' x hs h1 h3) ha
  · rcases z with z | rfl
    · exact I.new x z
    · exact .inr (I.base_none hn)
def eFun (F : FF) (fa : FA) : FE := fun ρ W => (fa ρ W).bind fun as W1 => F as W1
section
variable {C : Cd} {e : Expr} {es : List Expr} {pos p : Pos} {x : Str} {fa : FA} {n : Nat} {F : FF}
theorem wE.call {a : At} {W : Option Well} {Q : VK} {r : Res} {Wx : WX} {ca : Nat → Addr} (I : a.Er W) (h : wE Wx ca a Q r) : wF ca a.O a.wa W a.H Q (WE Wx a.σ) r := by
  cases r with
  | bad => exact h
  | exc c W1 => exact fun H' cc => h H' ⟨I.1.call cc, cc.2.2.trans I.2⟩ (by rw [← I.2]; exact cc.1)
  | ok ev W1 =>
    cases ev with
    | d x => exact fun v H' cc r => h v H' ⟨I.1.call cc, cc.2.2.trans I.2⟩ (by rw [← I.2]; exact cc.1) r
    | f l =>
      intro q vs H' cc hn hq al
      have e' := I.1.call cc
      have np : ¬ a.O q := fun z => I.1.al q z hn
      refine h q vs H' (I.1.callOwn cc hn hq) (by rw [← I.2]; exact cc.1) hn ⟨e', cc.2.2.trans I.2⟩ np ?_ (fun i l hi hs => ?_) hq al (I.1.base_none hn)
      · cases hw : W1 with
        | none => exact .inr rfl
        | some w =>
          refine .inl fun z => ?_
          have hs : W.isSome = true := by rw [← cc.2.2, hw]; rfl
          obtain ⟨w', hw'⟩ := Option.isSome_iff_exists.mp hs
          rw [z, (I.1.wl w' hw').2] at hn
          cases hn
      · obtain ⟨o, h1, h2⟩ := I.1.sl i _ hi
        rw [hs] at h1
        cases h1
        obtain ⟨x, ws, hx, _, hw, _⟩ := h2
        cases hx
        obtain ⟨_, hw⟩ := hw.some
        rw [hn] at hw
        cases hw
/-- how many arguments -/
def ArN (fa : FA) (n : Nat) : Prop := ∀ ρ W as W1, fa ρ W = .ok as W1 → as.length = n
theorem ar_nil : ArN aNil 0 := fun _ _ _ _ h => by cases h; rfl
theorem ar_cons {f : FE} {g : FA} {n : Nat} (h : ArN g n) : ArN (aCons f g) (n + 1) := fun ρ W as W1 e => by
  unfold aCons Res.bindA at e
  split at e
  · rename_i ev W2 _
    unfold RA.bindA at e
    dsimp only at e
    split at e
    · rename_i as2 W3 e3
      cases e
      rw [List.length_cons, h _ _ _ _ e3]
    · cases e
    · cases e
  · cases e
  · cases e
theorem ar_wel {i : Nat} {g : FA} {n : Nat} (h : ArN g n) : ArN (aWel i g) (n + 1) := fun ρ W as W1 e => by
  unfold aWel at e
  split at e
  · unfold RA.bindA at e
    dsimp only at e
    split at e
    · rename_i as2 W3 e3
      cases e
      rw [List.length_cons, h _ _ _ _ e3]
    · cases e
    · cases e
  · cases e
/-- what a caller needs of a def -/
structure Df (C : Cd) (x : Str) (ps : List Str) (F : FF) : Prop where
  at_ : ∃ (f : Addr) (fd : FuncData), FnOk C.prog C.w fK C.mg C.base (L2.CX C.prog C.w) C.k f fd ps (spF C.ca ps.length F) ∧ C.mg x = some (.ref f) ∧ PySem.W.keepIn fK (.ref f) = true ∧ Binds fK fd ps []
theorem se_call {ps : List Str} (DF : Df C x ps F) (hg : C.G x) (ha : SA C (e :: es) fa) (hn : ArN fa ps.length := by repeat (first | exact ar_nil | apply ar_cons | apply ar_wel))
    (hd : (x == ("__debug__" : Str)) = false := by decide) (he : ∀ env, starEach (e :: es) env = (false, eval e env) :: starEach es env := by intro _; rfl) (hpl : ∀ env, (backTo pos (starEach es env)).any (·.1) = false := by intro _; rfl) (hcm : C.cm = true := by rfl) :
    SE C (.Call (.Name x p) (e :: es) [] pos) (eFun F fa) := by
  obtain ⟨t, q, s⟩ := ha
  obtain ⟨f, fd, ok, mf, kf, bf⟩ := DF.at_
  refine ⟨tCallS (spF C.ca ps.length F) (WE C.Wx) t, fun X h => ?_, fun a W Q I h => ?_⟩
  · have ok' : FnOk X.prog X.w X.K X.mg X.base (L2.CX X.prog X.w) C.k f fd ps (spF C.ca ps.length F) := by
      rw [C.hprog X h, C.hw X h, C.hK X h, C.hmg X h, C.hbase X h]
      exact ok
    exact pe_callS ok' (C.roomC hcm X h) (C.gl h hg) (by rw [C.hmg X h]; exact mf) (by rw [C.hK X h]; exact kf) (by rw [C.hK X h]; exact bf) (C.pass X h) (q X h) hd (he _) (hpl _)
  · refine s a W _ I ?_
    have h' : wE C.Wx C.ca a Q ((fa a.ρ W).bind fun as W1 => F as W1) := h
    revert h'
    cases e2 : fa a.ρ W with
    | bad => exact id
    | exc c W1 => exact id
    | ok as W1 =>
      intro h' vs H1 e1 st r1
      exact ⟨a.O, a.wa, W1, as, by rw [← r1.length]; exact hn _ _ _ _ e2, e1.1.al, r1, e1.1.wl, wE.call (a := { a with H := H1 }) e1 (wE.later (r := F as W1) I e1 st h')⟩
end
end Lw
set_option Elab.async false
set_option linter.all false
set_option maxRecDepth 100000
set_option maxHeartbeats 2000000
set_option autoImplicit false
namespace Lw
open PySem PySem.Spec PyProof.Rows L2
variable [KI : FragI]

/-! ### targets -/
abbrev FG := D → List Sl → Option (List Sl)
abbrev FGs := List D → List Sl → Option (List Sl)
def SndG (g : TG) (fg : FG) (ix : List Nat) : Prop := ∀ (a : At) (W : Option Well) (x : V) (d : D) (ρ' : List Sl) (k : L2.St → Hp → Prop), a.Er W → Rp a.O a.H x d → fg d a.ρ = some ρ' →
  (∀ σ', ({ a with ρ := ρ', σ := σ' } : At).Er W → (∀ j, j ∉ ix → σ'[j]? = a.σ[j]?) → σ'.length = a.σ.length → k σ' a.H) → g x a.σ a.H k
def SndGs (g : TGs) (fg : FGs) (ix : List Nat) : Prop := ∀ (a : At) (W : Option Well) (xs : List V) (ds : List D) (ρ' : List Sl) (k : L2.St → Hp → Prop), a.Er W → RpA a.O a.H xs ds → fg ds a.ρ = some ρ' →
  (∀ σ', ({ a with ρ := ρ', σ := σ' } : At).Er W → (∀ j, j ∉ ix → σ'[j]? = a.σ[j]?) → σ'.length = a.σ.length → k σ' a.H) → g xs a.σ a.H k
def SG (C : Cd) (tg : Expr) (fg : FG) (ix : List Nat) : Prop := ∃ g, (∀ X, C.P X → PG X tg g) ∧ SndG g fg ix
def SGs (C : Cd) (tgs : List Expr) (fg : FGs) (n : Nat) (ix : List Nat) : Prop := ∃ g, (∀ X, C.P X → PGs X tgs g) ∧ SndGs g fg ix ∧ (∀ ds ρ ρ', fg ds ρ = some ρ' → ds.length = n)
def fgName (i : Nat) : FG := fun d ρ => some (ρ.set i (.dt d))
def fgNil : FGs := fun ds ρ => match ds with | [] => some ρ | _ => none
def fgCons (f : FG) (g : FGs) : FGs := fun ds ρ => match ds with | d :: r => (match f d ρ with | some ρ1 => g r ρ1 | none => none) | [] => none
def fgTup (g : FGs) : FG := fun d ρ => match d with | .tuple ds => g ds ρ | _ => none
theorem ER.set {b : Bs} {O : Own} {wa : Addr} {W : Option Well} {ρ : List Sl} {σ : L2.St} {H : Hp} (I : ER b O wa W ρ σ H) (i : Nat) {s : Sl} {o : Option V} (hs : SlR O wa b.xa H b.H s o) (ho : ∀ c l, s ≠ .cn c l) : ER b O wa W (ρ.set i s) (σ.set i o) H := by
  by_cases hi : i < ρ.length
  · have his : i < σ.length := by rw [I.len]; exact hi
    have get : ∀ {c : Bool} j l, (ρ.set i s)[j]? = some (.cn c l) → j ≠ i ∧ ρ[j]? = some (.cn c l) := fun {c} j l e => by
      by_cases h : i = j
      · subst h
        rw [List.getElem?_set_self hi] at e
        exact absurd (Option.some.inj e) (ho c l)
      · rw [List.getElem?_set_ne h] at e
        exact ⟨Ne.symm h, e⟩
    refine ⟨by rw [List.length_set, List.length_set, I.len], I.al, fun j t e => ?_, fun j j' l l' x hne h1 h2 h3 h4 => ?_, fun j l x h1 h2 h3 => ?_, I.wl, I.keep, I.sub, I.new, I.wm, I.wn⟩
    · by_cases h : i = j
      · subst h
        rw [List.getElem?_set_self hi] at e
        cases e
        exact ⟨o, List.getElem?_set_self his, hs⟩
      · rw [List.getElem?_set_ne h] at e
        obtain ⟨u, h1, h2⟩ := I.sl j t e
        exact ⟨u, by rw [List.getElem?_set_ne h]; exact h1, h2⟩
    · obtain ⟨n1, e1⟩ := get j l h1
      obtain ⟨n2, e2⟩ := get j' l' h2
      rw [List.getElem?_set_ne n1.symm] at h3
      rw [List.getElem?_set_ne n2.symm] at h4
      exact I.inj j j' l l' x hne e1 e2 h3 h4
    · obtain ⟨n1, e1⟩ := get j l h1
      rw [List.getElem?_set_ne n1.symm] at h2
      exact I.nw j l x e1 h2 h3
  · have h1 : ρ.set i s = ρ := List.set_eq_of_length_le (by omega)
    have h2 : σ.set i o = σ := List.set_eq_of_length_le (by rw [I.len]; omega)
    rw [h1, h2]
    exact I
section
variable {C : Cd}
theorem sg_name {i : Nat} {x : Str} {pos : Pos} (hi : C.N[i]? = some x) (hx : Loc C.sc x) (hf : C.fn x = true ∨ C.sc.names.lookup x = some .local) : SG C (.Name x pos) (fgName i) [i] := by
  refine ⟨_, fun X h => pg_name (i := i) (by rw [C.hN X h]; exact C.nd) (by rw [C.hN X h]; exact hi) (by rw [C.hsc X h]; exact hx) (by rw [C.hfn X h, C.hsc X h]; exact hf), fun a W x d ρ' k I r e h => ?_⟩
  cases e
  refine h _ ⟨I.1.set i r (fun _ _ z => nomatch z), I.2⟩ (fun j hj => ?_) (by rw [List.length_set])
  exact List.getElem?_set_ne fun z => hj (by simp [z])
theorem sgs_nil : SGs C [] fgNil 0 [] := by
  refine ⟨_, fun _ _ => pgs_nil, fun a W xs ds ρ' k I r e h => ?_, fun ds ρ ρ' e => ?_⟩
  · cases r with
    | nil => cases e; exact ⟨rfl, h a.σ I (fun _ _ => rfl) rfl⟩
    | cons _ _ => cases e
  · cases ds with
    | nil => rfl
    | cons _ _ => cases e
theorem sgs_cons {e : Expr} {es : List Expr} {f : FG} {g : FGs} {n : Nat} {ix jx : List Nat} (h1 : SG C e f ix) (h2 : SGs C es g n jx)
    (ht : ∀ env, (assignEach (e :: es) env).map (·.2) = assign e env :: (assignEach es env).map (·.2) := by intro _; rfl) : SGs C (e :: es) (fgCons f g) (n + 1) (ix ++ jx) := by
  obtain ⟨t, p, s⟩ := h1
  obtain ⟨u, q, z, ln⟩ := h2
  refine ⟨_, fun X h => pgs_cons (p X h) (q X h) (ht _), fun a W xs ds ρ' k I r e h => ?_, fun ds ρ ρ' e => ?_⟩
  · cases r with
    | nil => cases e
    | @cons v vs d ds r al =>
      unfold fgCons at e
      dsimp only at e
      split at e
      · rename_i ρ1 e1
        refine ⟨v, vs, rfl, s a W v d ρ1 _ I r e1 fun σ1 I1 k1 l1 => ?_⟩
        exact z { a with ρ := ρ1, σ := σ1 } W vs ds ρ' k I1 al e fun σ2 I2 k2 l2 => h σ2 I2 (fun j hj => (k2 j fun m => hj (List.mem_append_right _ m)).trans (k1 j fun m => hj (List.mem_append_left _ m))) (l2.trans l1)
      · cases e
  · cases ds with
    | nil => cases e
    | cons d r =>
      unfold fgCons at e
      dsimp only at e
      split at e
      · rw [List.length_cons, ln _ _ _ e]
      · cases e
theorem sg_tup {es : List Expr} {k : Nat} {pos : Pos} {g : FGs} {n : Nat} {ix : List Nat} (h : SGs C es g n ix) (hn : ∀ env, (assignEach es env).length = n := by intro _; rfl) (hst : ∀ env, (assignEach es env).findIdx? (·.1) = none := by intro _; rfl) (hcm : C.cm = true := by rfl) : SG C (.Tuple es k pos) (fgTup g) ix := by
  obtain ⟨u, q, z, ln⟩ := h
  refine ⟨gTup fK n u, fun X h => by rw [← C.hK X h]; exact pg_tup (C.calmC hcm X h) (q X h) (hn _) (hst _), fun a W x d ρ' k I r e h => ?_⟩
  unfold fgTup at e
  split at e
  · cases r with
    | tup h1 al => exact ⟨_, _, rfl, h1.sq, by rw [al.length]; exact ln _ _ _ e, z a W _ _ ρ' k I al e h⟩
  · cases e
end

/-! ### what is walked -/
inductive RI where
  | ok (l : List D) (W : Option Well)
  | exc (c : Nat) (W : Option Well)
  | bad
abbrev FI := List Sl → Option Well → RI
def WkD (O : Own) (H1 : Hp) (items : List D) (J : It) : Prop := ∃ (G : Hp → Prop) (Y : Nat → Hp → V → Hp → Prop), Walk J items.length G Y ∧ (∀ O' H', Stp O H1 O' H' → G H') ∧
  ∀ (i : Nat) (H' : Hp) (x : V) (H'' : Hp) (O' : Own), i < items.length → Stp O H1 O' H' → (∀ z, O' z → H' z ≠ none) → Y i H' x H'' → Same H' H'' ∧ ∃ d, items[i]? = some d ∧ Rp O' H'' x d
def wI (Wx : WX) (ca : Nat → Addr) (a : At) (R : It → Hp → Prop) : RI → Prop
  | .ok l W' => ∀ J H1, (a.to H1).Er W' → Est a.wa a.hw a.H H1 → WkD a.O H1 l J → R J H1
  | .exc c W' => ∀ H', (a.to H').Er W' → Est a.wa a.hw a.H H' → Wx (.ref (ca c)) none a.σ H'
  | .bad => False
def SndI (Wx : WX) (ca : Nat → Addr) (t : TI) (f : FI) : Prop := ∀ (a : At) (W : Option Well) (R : It → Hp → Prop), a.Er W → wI Wx ca a R (f a.ρ W) → t a.σ a.H R
def SI (C : Cd) (tg it : Expr) (f : FI) : Prop := ∃ t, (∀ X, C.P X → PI X tg it t) ∧ SndI C.Wx C.ca t f
def Res.bindI (r : Res) (k : D → Option Well → RI) : RI := match r with | .ok e W1 => k e.D W1 | .exc c W1 => .exc c W1 | .bad => .bad
def RA.bindI (r : RA) (k : List Sl → Option Well → RI) : RI := match r with | .ok e W1 => k e W1 | .exc c W1 => .exc c W1 | .bad => .bad
section
variable {C : Cd} {Wx : WX} {ca : Nat → Addr}
theorem wI.later {a : At} {H1 : Hp} {r : RI} {R : It → Hp → Prop} (st : Est a.wa a.hw a.H H1) (h : wI Wx ca a R r) : wI Wx ca { a with H := H1 } R r := by
  cases r with
  | bad => exact h
  | exc c W2 => exact fun H' e2 st2 => h H' e2 (st.trans st2)
  | ok l W2 => exact fun J H' e2 st2 w => h J H' e2 (st.trans st2) w
theorem SndE.thenI {t : TE} {f : FE} (s : SndE Wx ca t f) {a : At} {W : Option Well} (I : a.Er W) {R : It → Hp → Prop} {Q' : VK} {k : D → Option Well → RI} (h : wI Wx ca a R ((f a.ρ W).bindI k))
    (hok : ∀ (x : D) (W1 : Option Well) v H1, (a.to H1).Er W1 → Est a.wa a.hw a.H H1 → Rp a.O H1 v x → wI Wx ca { a with H := H1 } R (k x W1) → Q' v H1) : t a.σ a.H Q' :=
  s.run I rfl (Z := fun r => wI Wx ca a R (r.bindI k)) h id (fun c W1 z => z) fun x ev W1 v H1 hx z e1 st r1 => hok x W1 v H1 e1 st r1 (by subst hx; exact wI.later (r := k ev.D W1) st z)
theorem SndA.thenI {t : TA} {f : FA} (s : SndA Wx ca t f) {a : At} {W : Option Well} (I : a.Er W) {R : It → Hp → Prop} {Q' : List V → Hp → Prop} {k : List Sl → Option Well → RI} (h : wI Wx ca a R ((f a.ρ W).bindI k))
    (hok : ∀ (x : List Sl) (W1 : Option Well) vs H1, (a.to H1).Er W1 → Est a.wa a.hw a.H H1 → ArRs a.O a.wa H1 x vs → wI Wx ca { a with H := H1 } R (k x W1) → Q' vs H1) : t a.σ a.H Q' := by
  refine s a W Q' I ?_
  revert h
  cases f a.ρ W with
  | bad => exact id
  | exc c W1 => exact id
  | ok as W1 => exact fun h vs H1 e1 st r1 => hok as W1 vs H1 e1 st r1 (wI.later (r := k as W1) st h)
theorem wkd_list {O : Own} {H1 : Hp} {a : Addr} {xs : List V} {ds : List D} (h : LsR O H1 a xs) (al : RpA O H1 xs ds) : WkD O H1 ds (Itl fK a) := by
  refine ⟨fun H => SqL fK H a xs, YAt xs, by rw [← al.length]; exact walk_list (xs := xs), fun O' H' st => (h.stp st).sq, fun i H' x H'' O' hi st ho y => ?_⟩
  obtain ⟨rfl, hx⟩ := y
  obtain ⟨d, h1, h2⟩ := al.getV hx
  exact ⟨fun _ _ e => e, d, h1, h2.stp st⟩
theorem wkd_tup {O : Own} {H1 : Hp} {a : Addr} {xs : List V} {ds : List D} (h : TpR O H1 a xs) (al : RpA O H1 xs ds) : WkD O H1 ds (Itt fK a) := by
  refine ⟨fun H => SqT fK H a xs, YAt xs, by rw [← al.length]; exact walk_tup (xs := xs), fun O' H' st => (h.stp st).sq, fun i H' x H'' O' hi st ho y => ?_⟩
  obtain ⟨rfl, hx⟩ := y
  obtain ⟨d, h1, h2⟩ := al.getV hx
  exact ⟨fun _ _ e => e, d, h1, h2.stp st⟩
/-- a list or a tuple -/
def iSeq (K : PySem.W.Frag) (tl : TE) : TI := fun σ H R => tl σ H fun x H1 => ∃ a, x = .ref a ∧ (((∃ xs, SqL K H1 a xs) ∧ R (Itl K a) H1) ∨ ((∃ xs, SqT K H1 a xs) ∧ R (Itt K a) H1))
theorem pi_seq {X : Cx} {tg : Expr} {l : Expr} {tl : TE} (hl : PE X l tl) : PI X tg l (iSeq X.K tl) := by
  refine ⟨fun pins s σ H R I h => ?_⟩
  refine thn (hl.run pins s σ H _ I h) fun v s1 ⟨x, H1, I1, r1, q1⟩ => ?_
  obtain ⟨a, e, q1⟩ := q1
  subst e
  cases r1
  rcases q1 with ⟨⟨xs, hq⟩, q⟩ | ⟨⟨xs, hq⟩, q⟩
  · obtain ⟨its, rv, p, hz⟩ := I1.list hq
    refine wpAny_pyIter_list p.isList ?_
    refine ⟨s1.heap.objs.size, [s1.heap.objs.size], _, _, H1, rfl, I1.kept (t' := s1.toks) fun b o e => Heap.get?_push_of_some _ e, turn_list a _, ⟨_, Heap.get?_push_size _ rfl, rfl, rfl⟩, fun b hb => ?_, q⟩
    have e : b = s1.heap.objs.size := by simpa using hb
    subst e
    exact I1.fpOk (Nat.le_refl _) (I1.hok.fresh (Nat.le_refl _))
  · obtain ⟨its, rv, p, hz⟩ := I1.tuple hq
    refine wpAny_pyIter_tuple (show s1.heap.IsTuple a its.toArray from p) ?_
    refine ⟨s1.heap.objs.size, [s1.heap.objs.size], _, _, H1, rfl, I1.kept (t' := s1.toks) fun b o e => Heap.get?_push_of_some _ e, turn_tuple a _, ⟨_, Heap.get?_push_size _ rfl, rfl, rfl⟩, fun b hb => ?_, q⟩
    have e : b = s1.heap.objs.size := by simpa using hb
    subst e
    exact I1.fpOk (Nat.le_refl _) (I1.hok.fresh (Nat.le_refl _))
def fiSeq (f : FE) : FI := fun ρ W => (f ρ W).bindI fun x W1 => match x with | .list l => .ok l W1 | .tuple l => .ok l W1 | _ => .bad
theorem si_seq {tg e : Expr} {f : FE} (he : SE C e f) : SI C tg e (fiSeq f) := by
  obtain ⟨t, p, s⟩ := he
  refine ⟨iSeq fK t, fun X h => by rw [← C.hK X h]; exact pi_seq (p X h), fun a W R I h => ?_⟩
  refine s.thenI I h fun x W1 v H1 e1 st r1 h1 => ?_
  split at h1
  · cases r1 with
    | lst hh al => exact ⟨_, rfl, .inl ⟨⟨_, hh.sq⟩, h1 _ H1 e1 Est.refl (wkd_list hh al)⟩⟩
  · cases r1 with
    | tup hh al => exact ⟨_, rfl, .inr ⟨⟨_, hh.sq⟩, h1 _ H1 e1 Est.refl (wkd_tup hh al)⟩⟩
  · exact absurd h1 id
def rangeD (lo : Int) (n : Nat) : List D := (List.range n).map fun i => .int (lo + (i : Nat))
theorem rangeD_length (lo : Int) (n : Nat) : (rangeD lo n).length = n := by unfold rangeD; rw [List.length_map, List.length_range]
theorem wkd_range {O : Own} {H1 : Hp} {lo : Int} {n : Nat} : WkD O H1 (rangeD lo n) (Itr lo n) := by
  refine ⟨_, _, by rw [rangeD_length]; exact walk_range, fun _ _ _ => trivial, fun i H' x H'' O' hi st ho y => ?_⟩
  obtain ⟨rfl, rfl⟩ := y
  rw [rangeD_length] at hi
  refine ⟨fun _ _ e => e, _, ?_, .int _⟩
  unfold rangeD
  rw [List.getElem?_map, List.getElem?_range hi]
  rfl
@[irreducible] def inR (j : Int) : Bool := decide (-(2 ^ 62) ≤ j ∧ j < 2 ^ 62)
theorem inR_ok {j : Int} (h : inR j = true) : -(2 ^ 62) ≤ j ∧ j < 2 ^ 62 := by
  unfold inR at h
  exact of_decide_eq_true h
theorem inR_of {j : Int} (h : -1000000000 ≤ j ∧ j ≤ 1000000000) : inR j = true := by
  unfold inR
  exact decide_eq_true (by omega)
def fiRange1 (g : FA) : FI := fun ρ W => (g ρ W).bindI fun as W1 => match datas as with | some [.int j] => if inR j = true then .ok (rangeD 0 j.toNat) W1 else .bad | _ => .bad
theorem si_range1 {tg e : Expr} {p pos : Pos} {g : FA} (hg : C.G "range") (hm : C.mg "range" = none) (ha : SA C [e] g) (hs : ∀ env, starEach [e] env = [(false, eval e env)] := by intro _; rfl) : SI C tg (.Call (.Name "range" p) [e] [] pos) (fiRange1 g) := by
  obtain ⟨t, q, s⟩ := ha
  refine ⟨_, fun X h => pi_range1 (C.gl h hg) (by rw [C.hmg X h]; exact hm) (q X h) (hs _), fun a W R I h => ?_⟩
  refine s.thenI I h fun as W1 vs H1 e1 st r1 h1 => ?_
  split at h1
  · rename_i j ej
    split at h1
    · rename_i z
      have al := r1.datas ej
      cases al with
      | cons r al =>
        cases al
        cases r
        exact ⟨j, rfl, (inR_ok z).1, (inR_ok z).2, h1 _ H1 e1 Est.refl wkd_range⟩
    · exact absurd h1 id
  · exact absurd h1 id
def fiRange2 (g : FA) : FI := fun ρ W => (g ρ W).bindI fun as W1 => match datas as with | some [.int i, .int j] => if inR i = true ∧ inR j = true then .ok (rangeD i (j - i).toNat) W1 else .bad | _ => .bad
def fiZip (g : FA) : FI := fun ρ W => (g ρ W).bindI fun as W1 => match datas as with
  | some [.list l, .list m] => .ok ((l.zip m).map fun p => .tuple [p.1, p.2]) W1
  | some [.tuple l, .tuple m] => .ok ((l.zip m).map fun p => .tuple [p.1, p.2]) W1
  | _ => .bad
def fiEnum (g : FA) : FI := fun ρ W => (g ρ W).bindI fun as W1 => match datas as with
  | some [.list l] => .ok (l.mapIdx fun i d => .tuple [.int i, d]) W1
  | _ => .bad
theorem si_range2 {tg e e2 : Expr} {p pos : Pos} {g : FA} (hg : C.G "range") (hm : C.mg "range" = none) (ha : SA C [e, e2] g) (hs : ∀ env, starEach [e, e2] env = [(false, eval e env), (false, eval e2 env)] := by intro _; rfl)
    (hs2 : ∀ env, starEach [e2] env = [(false, eval e2 env)] := by intro _; rfl) : SI C tg (.Call (.Name "range" p) [e, e2] [] pos) (fiRange2 g) := by
  obtain ⟨t, q, s⟩ := ha
  refine ⟨_, fun X h => pi_range2 (C.gl h hg) (by rw [C.hmg X h]; exact hm) (q X h) (hs _) (hs2 _), fun a W R I h => ?_⟩
  refine s.thenI I h fun as W1 vs H1 e1 st r1 h1 => ?_
  split at h1
  · rename_i i j ej
    split at h1
    · rename_i z
      have al := r1.datas ej
      cases al with
      | cons r al =>
        cases al with
        | cons r2 al =>
          cases al
          cases r
          cases r2
          exact ⟨i, j, rfl, ⟨(inR_ok z.1).1, (inR_ok z.1).2, inR_ok z.2⟩, h1 _ H1 e1 Est.refl wkd_range⟩
    · exact absurd h1 id
  · exact absurd h1 id
theorem pair_new {O' : Own} {H' : Hp} {T : Addr} {x y : V} {d e : D} (hT : H' T = none) (ho : ∀ z, O' z → H' z ≠ none) (rx : Rp O' H' x d) (ry : Rp O' H' y e) : Rp O' (upd H' T (.tup [x, y])) (.ref T) (.tuple [d, e]) :=
  .tup (.new (fun z => ho T z hT) upd_same) (.cons (rx.stp (Stp.same (same_upd hT))) (.cons (ry.stp (Stp.same (same_upd hT))) .nil))
theorem wkd_pairs {O : Own} {H1 : Hp} {J : It} {xs ys : List V} {ds es : List D} {G : Hp → Prop} (w : Walk J (min xs.length ys.length) G (YPair (fun i => xs[i]?) (fun i => ys[i]?))) (hG : ∀ O' H', Stp O H1 O' H' → G H') (ax : RpA O H1 xs ds) (ay : RpA O H1 ys es) :
    WkD O H1 ((ds.zip es).map fun p => .tuple [p.1, p.2]) J := by
  refine ⟨G, _, by rw [List.length_map, List.length_zip, ← ax.length, ← ay.length]; exact w, hG, fun i H' x H'' O' hi st ho y => ?_⟩
  obtain ⟨T, u, v, rfl, hT, rfl, hu, hv⟩ := y
  obtain ⟨d, d1, d2⟩ := ax.getV hu
  obtain ⟨e, e1, e2⟩ := ay.getV hv
  refine ⟨same_upd hT, _, ?_, pair_new hT ho (d2.stp st) (e2.stp st)⟩
  have hz : (ds.zip es)[i]? = some (d, e) := List.getElem?_zip_eq_some.mpr ⟨d1, e1⟩
  rw [List.getElem?_map, hz]
  rfl
theorem walk_zipT {K : PySem.W.Frag} {a b : Addr} {xs ys : List V} {n : Nat} (hn : n = min xs.length ys.length) : Walk (RZ.ItzT K a b) n (fun H => SqT K H a xs ∧ SqT K H b ys) (YPair (fun i => xs[i]?) (fun i => ys[i]?)) := by
  subst hn
  refine ⟨fun i _ hi q => ?_, fun _ q => ⟨xs, ys, q.1, q.2, by omega⟩, fun i H v H' _ q y => ?_⟩
  · have h1 : i < xs.length := by omega
    have h2 : i < ys.length := by omega
    exact ⟨xs, ys, xs[i], ys[i], q.1, q.2, by simp [h1], by simp [h2]⟩
  · obtain ⟨T, x, z, h1, h2, h3, h4, h5⟩ := y
    exact ⟨T, x, z, h1, h2, h3, h4 xs q.1, h5 ys q.2⟩
theorem si_zip {e e2 : Expr} {p pos tpos : Pos} {elts : List Expr} {kk : Nat} {g : FA} (hg : C.G "zip") (hm : C.mg "zip" = none) (ha : SA C [e, e2] g) (hs : ∀ env, starEach [e, e2] env = (false, eval e env) :: starEach [e2] env := by intro _; rfl)
    (hpl : ∀ env, (backTo pos (starEach [e2] env)).any (·.1) = false := by intro _; rfl) : SI C (.Tuple elts kk tpos) (.Call (.Name "zip" p) [e, e2] [] pos) (fiZip g) := by
  obtain ⟨t, q, s⟩ := ha
  refine ⟨RZ.iZipA fK t, fun X h => by rw [← C.hK X h]; exact RZ.pi_zipA (C.gl h hg) (by rw [C.hmg X h]; exact hm) (q X h) (hs _) (hpl _), fun a W R I h => ?_⟩
  refine s.thenI I h fun as W1 vs H1 e1 st r1 h1 => ?_
  split at h1
  · rename_i l m ej
    have al := r1.datas ej
    cases al with
    | cons r al =>
      cases al with
      | cons r2 al =>
        cases al
        cases r with
        | lst hh1 a1 => cases r2 with
          | lst hh2 a2 => exact ⟨_, _, _, _, rfl, .inl ⟨hh1.sq, hh2.sq, h1 _ H1 e1 Est.refl (wkd_pairs (walk_zip rfl) (fun O' H' st => ⟨(hh1.stp st).sq, (hh2.stp st).sq⟩) a1 a2)⟩⟩
  · rename_i l m ej
    have al := r1.datas ej
    cases al with
    | cons r al =>
      cases al with
      | cons r2 al =>
        cases al
        cases r with
        | tup hh1 a1 => cases r2 with
          | tup hh2 a2 => exact ⟨_, _, _, _, rfl, .inr ⟨hh1.sq, hh2.sq, h1 _ H1 e1 Est.refl (wkd_pairs (walk_zipT rfl) (fun O' H' st => ⟨(hh1.stp st).sq, (hh2.stp st).sq⟩) a1 a2)⟩⟩
  · exact absurd h1 id
theorem si_enum {e : Expr} {p pos tpos : Pos} {elts : List Expr} {kk : Nat} {g : FA} (hg : C.G "enumerate") (hm : C.mg "enumerate" = none) (ha : SA C [e] g) (hs : ∀ env, starEach [e] env = [(false, eval e env)] := by intro _; rfl) :
    SI C (.Tuple elts kk tpos) (.Call (.Name "enumerate" p) [e] [] pos) (fiEnum g) := by
  obtain ⟨t, q, s⟩ := ha
  refine ⟨iEnum fK t, fun X h => by rw [← C.hK X h]; exact pi_enum (C.gl h hg) (by rw [C.hmg X h]; exact hm) (q X h) (hs _), fun a W R I h => ?_⟩
  refine s.thenI I h fun as W1 vs H1 e1 st r1 h1 => ?_
  split at h1
  · rename_i l ej
    have al := r1.datas ej
    cases al with
    | cons r al =>
      cases al
      cases r with
      | @lst ad xs _ hh1 a1 =>
        refine ⟨_, xs, rfl, hh1.sq, h1 _ H1 e1 Est.refl ⟨fun H => SqL fK H ad xs, _, by rw [List.length_mapIdx, ← a1.length]; exact walk_enum, fun O' H' st => (hh1.stp st).sq, fun i H' x H'' O' hi st ho y => ?_⟩⟩
        obtain ⟨T, u, v, rfl, hT, rfl, hu, hv⟩ := y
        cases hu
        obtain ⟨d, d1, d2⟩ := a1.getV hv
        refine ⟨same_upd hT, _, ?_, pair_new hT ho (.int _) (d2.stp st)⟩
        rw [List.getElem?_mapIdx, d1]
        rfl
  · exact absurd h1 id
end

/-! ### comprehensions -/
/-- a comprehension's block -/
def Cd.blk (C : Cd) (scope : Scope) : Cd where
  P := fun X' => ∃ X s H cc cl fp, C.P X ∧ X' = X.blk s H scope (compEnvC scope cl cc X.env) fp
  prog := C.prog
  w := C.w
  mg := C.mg
  base := C.base
  N := C.N
  sc := relS scope C.sc
  k := C.k
  Wx := fun _ _ _ _ => False
  ca := C.ca
  mkw := C.mkw
  hprog := by rintro _ ⟨X, s, H, cc, cl, fp, h, rfl⟩; exact C.hprog X h
  hw := by rintro _ ⟨X, s, H, cc, cl, fp, h, rfl⟩; exact C.hw X h
  hK := by rintro _ ⟨X, s, H, cc, cl, fp, h, rfl⟩; exact C.hK X h
  hmg := by rintro _ ⟨X, s, H, cc, cl, fp, h, rfl⟩; exact C.hmg X h
  hbase := by rintro _ ⟨X, s, H, cc, cl, fp, h, rfl⟩; exact C.hbase X h
  hN := by rintro _ ⟨X, s, H, cc, cl, fp, h, rfl⟩; exact C.hN X h
  hsc := by rintro _ ⟨X, s, H, cc, cl, fp, h, rfl⟩; rw [← C.hsc X h]; rfl
  cm := C.cm
  calmC := by rintro hcm _ ⟨X, s, H, cc, cl, fp, h, rfl⟩; exact C.calmC hcm X h
  roomC := by rintro hcm _ ⟨X, s, H, cc, cl, fp, h, rfl⟩; exact C.roomC hcm X h
  unX := by rintro _ ⟨X, s, H, cc, cl, fp, h, rfl⟩; exact C.unX X h
  pass := by
    rintro _ ⟨X, s, H, cc, cl, fp, h, rfl⟩ σ
    intro pins H s e s' I c
    obtain ⟨_, _, _, _, _, _, _, _, _, _, _, _, z⟩ := c
    exact z.elim
  nd := C.nd
  fn := fun x => scope.names.lookup x == some .cell
  hfn := by rintro _ ⟨X, s, H, cc, cl, fp, h, rfl⟩; rfl
inductive RL where
  | ok (l : List D) (W : Option Well)
  | bad
def lcGo (fg : FG) (ft : FT) (fe : FE) (ρ : List Sl) : List D → Option Well → RL
  | [], W => .ok [] W
  | d :: r, W => match fg d ρ with
    | none => .bad
    | some ρ2 => match ft ρ2 W with
      | .ok true W1 => (match fe ρ2 W1 with
        | .ok e W2 => (match lcGo fg ft fe ρ r W2 with | .ok l W3 => .ok (e.D :: l) W3 | .bad => .bad)
        | _ => .bad)
      | .ok false W1 => lcGo fg ft fe ρ r W1
      | _ => .bad
def wipeS (ρ : List Sl) : List Nat → List Sl
  | [] => ρ
  | v :: vs => (wipeS ρ vs).set v .no
def eLc (fi : FI) (fg : FG) (ft : FT) (fe : FE) (vs : List Nat) : FE := fun ρ W => match fi ρ W with
  | .ok l W1 => if l.length ≤ lineN then (match lcGo fg ft fe (wipeS ρ vs) l W1 with | .ok r W2 => .ok (.f r) W2 | .bad => .bad) else .bad
  | .exc c W1 => .exc c W1
  | .bad => .bad
def ftYes : FT := fun _ W => .ok true W
theorem ER.wipe {b : Bs} {O : Own} {wa : Addr} {W : Option Well} {ρ : List Sl} {σ : L2.St} {H : Hp} (I : ER b O wa W ρ σ H) : ∀ vs : List Nat, ER b O wa W (wipeS ρ vs) (wipe σ vs) H
  | [] => I
  | v :: vs => (ER.wipe I vs).set v (o := none) trivial fun _ _ z => nomatch z
theorem wipe_get {σ : L2.St} {j : Nat} : ∀ {vs : List Nat}, j ∈ vs → j < σ.length → (wipe σ vs)[j]? = some none
  | v :: vs, h, hj => by
    unfold wipe
    by_cases e : v = j
    · subst e
      exact List.getElem?_set_self (by rw [wipe_length]; exact hj)
    · rw [List.getElem?_set_ne e]
      rcases List.mem_cons.mp h with h | h
      · exact absurd h.symm e
      · exact wipe_get h hj
theorem wipe_out' {σ : L2.St} {j : Nat} : ∀ {vs : List Nat}, j ∉ vs → (wipe σ vs)[j]? = σ[j]?
  | [], _ => rfl
  | v :: vs, h => by
    unfold wipe
    rw [List.getElem?_set_ne (fun z => h (by simp [z])), wipe_out' fun z => h (List.mem_cons_of_mem _ z)]
theorem wipe_eq {σ τ : L2.St} {vs : List Nat} (hl : τ.length = σ.length) (h : ∀ j, j ∉ vs → τ[j]? = σ[j]?) : wipe τ vs = wipe σ vs := by
  refine List.ext_getElem? fun j => ?_
  by_cases hj : j < σ.length
  · by_cases hm : j ∈ vs
    · rw [wipe_get hm hj, wipe_get hm (by omega)]
    · rw [wipe_out' hm, wipe_out' hm, h j hm]
  · rw [List.getElem?_eq_none (by rw [wipe_length]; omega), List.getElem?_eq_none (by rw [wipe_length]; omega)]
theorem wipe_idem {σ : L2.St} {vs : List Nat} : wipe (wipe σ vs) vs = wipe σ vs := wipe_eq (wipe_length σ vs) fun _ hj => wipe_out' hj
theorem Cal.refl {wa : Addr} {W : Option Well} {H : Hp} (h : ∀ w, W = some w → H wa = some (.lst (wellVs w))) : Cal wa W W H H := ⟨Est.refl, h, rfl⟩
section
variable {C : Cd}
theorem snd_lc {wi : TI} {g : TG} {tt : TT} {te : TE} {fi : FI} {fg : FG} {ft : FT} {fe : FE} {ix vs : List Nat} (si : SndI C.Wx C.ca wi fi) (sg : SndG g fg ix) (st : SndT (fun _ _ _ _ => False) C.ca tt ft) (se : SndE (fun _ _ _ _ => False) C.ca te fe) (hix : ∀ j ∈ ix, j ∈ vs) :
    SndE C.Wx C.ca (tLc wi g tt te vs) (eLc fi fg ft fe vs) := fun a W Q I h => by
  refine si a W _ I ?_
  unfold eLc at h
  cases ei : fi a.ρ W with
  | bad => rw [ei] at h; exact h
  | exc c W1 => rw [ei] at h; exact h
  | ok items W1 =>
    rw [ei] at h
    dsimp only at h
    split at h
    · rename_i hlen
      cases er : lcGo fg ft fe (wipeS a.ρ vs) items W1 with
      | bad => rw [er] at h; exact absurd h id
      | ok res W2 =>
        rw [er] at h
        dsimp only at h
        intro J H1 I1 st1 wk D hD
        obtain ⟨G, Y, wlk, hG, hY⟩ := wk
        have fin := wE.call (ca := C.ca) (a := a.to H1) (r := .ok (.f res) W2) I1 (wE.later (r := .ok (.f res) W2) I I1 st1 h)
        refine lc_it wlk (fun i H => ∃ dn rest Wi vs', dn ++ rest = res ∧ lcGo fg ft fe (wipeS a.ρ vs) (items.drop i) Wi = .ok rest W2 ∧ Cal a.wa W1 Wi H1 H ∧ H D = some (.lst vs') ∧ RpA (OU a.O D) H vs' dn ∧ dn.length ≤ i) ?_ ?_ ?_ ?_
        · refine ⟨[], res, W1, [], rfl, er, ⟨fun z o _ q => same_upd hD z o q, fun w hw => same_upd hD _ _ (I1.1.wl w hw).2, rfl⟩, upd_same, .nil, Nat.le_refl _⟩
        · rintro i H _ ⟨dn, rest, Wi, vs', _, _, cc, hv, _, _⟩
          exact hG (OU a.O D) H (stpD I1 hD cc)
        · rintro i x H H' hi ⟨dn, rest, Wi, vs', hres, hgo, cc, hv, hal, hle⟩ hy
          have stp : Stp a.O H1 (OU a.O D) H := stpD I1 hD cc
          have eb : ER a.b (OU a.O D) a.wa Wi a.ρ a.σ H := I1.1.callOwn cc hD hv
          obtain ⟨sm, d, hd, rd⟩ := hY i H x H' (OU a.O D) hi stp eb.al hy
          have hdrop : items.drop i = d :: items.drop (i + 1) := by
            obtain ⟨hlt, e⟩ := List.getElem?_eq_some_iff.mp hd
            rw [List.drop_eq_getElem_cons hlt, e]
          rw [hdrop] at hgo
          unfold lcGo at hgo
          split at hgo
          · cases hgo
          · rename_i ρ2 eg
            have iw : Wi.isSome = a.hw := cc.2.2.trans I1.2
            have ew : (⟨a.b, OU a.O D, a.wa, wipeS a.ρ vs, wipe a.σ vs, H', a.hw⟩ : At).Er Wi := ⟨(eb.same sm).wipe vs, iw⟩
            refine sg ⟨a.b, OU a.O D, a.wa, wipeS a.ρ vs, wipe a.σ vs, H', a.hw⟩ Wi x d ρ2 _ ew rd eg fun σ2 e2 k2 l2 => ?_
            have cc1 : Cal a.wa W1 Wi H1 H' := ⟨cc.1.trans (Est.same sm), fun w hw => sm _ _ (cc.2.1 w hw), cc.2.2⟩
            refine ⟨?_, ?_⟩
            · rw [← wipe_idem (σ := a.σ) (vs := vs)]
              exact wipe_eq l2 fun j hj => k2 j fun m => hj (hix j m)
            · refine st _ Wi _ e2 ?_
              split at hgo
              · rename_i Wa et
                rw [et]
                intro H3 e3 st3
                rw [if_pos rfl]
                refine se ⟨a.b, OU a.O D, a.wa, ρ2, σ2, H3, a.hw⟩ Wa _ e3 ?_
                split at hgo
                · rename_i ev Wb ee
                  rw [ee]
                  refine wE.weak fun v H4 e4 st4 r4 => ?_
                  split at hgo
                  · rename_i l Wc eg2
                    cases hgo
                    have hv4 : H4 D = some (.lst vs') := st4 D _ (fun hw z => absurd (z ▸ hD) (wne I1 hw)) (st3 D _ (fun hw z => absurd (z ▸ hD) (wne I1 hw)) (sm _ _ hv))
                    refine ⟨vs', hv4, ?_, ?_⟩
                    · rw [hal.length]
                      exact Nat.lt_of_le_of_lt hle (Nat.lt_of_lt_of_le hi (line_le hlen))
                    · have hall : RpA (OU a.O D) H4 (vs' ++ [v]) (dn ++ [ev.D]) := ((((hal.stp (Stp.same sm)).stp (st3.stp e2)).stp (st4.stp e3))).append (.cons r4 .nil)
                      have hown : ∀ z o, ¬ OU a.O D z → H4 z = some o → ¬ OU a.O D z ∧ upd H4 D (.lst (vs' ++ [v])) z = some o := fun z o n q => ⟨n, by rw [upd_ne (fun y => n (.inr y))]; exact q⟩
                      refine ⟨dn ++ [ev.D], l, Wb, vs' ++ [v], by rw [List.append_assoc]; exact hres, eg2, ⟨fun z o n q => ?_, fun w hw => ?_, e4.2.trans I1.2.symm⟩, upd_same, hall.stp hown, by rw [List.length_append]; exact Nat.succ_le_succ hle⟩
                      · have zD : z ≠ D := fun y => by rw [y, hD] at q; exact nomatch q
                        rw [upd_ne zD]
                        have n' : a.hw = true → z ≠ a.wa := fun h => n (I1.2.trans h)
                        exact st4 z o n' (st3 z o n' (cc1.1 z o n q))
                      · have nD : a.wa ≠ D := fun y => wne I1 (by rw [← e4.2, hw]; rfl) (by rw [y]; exact hD)
                        rw [upd_ne nD]
                        exact (e4.1.wl w hw).2
                  · cases hgo
                · cases hgo
              · rename_i Wa et
                rw [et]
                intro H3 e3 st3
                rw [if_neg (by decide)]
                have hv3 : H3 D = some (.lst vs') := st3 D _ (fun hw z => absurd (z ▸ hD) (wne I1 hw)) (sm _ _ hv)
                exact ⟨dn, rest, Wa, vs', hres, hgo, ⟨cc1.1.trans (by rw [I1.2]; exact st3), fun w hw => (e3.1.wl w hw).2, e3.2.trans I1.2.symm⟩, hv3, (hal.stp (Stp.same sm)).stp (st3.stp e2), Nat.le_succ_of_le hle⟩
              · cases hgo
        · rintro H ⟨dn, rest, Wi, vs', hres, hgo, cc, hv, hal, hle⟩
          rw [List.drop_length] at hgo
          cases hgo
          rw [List.append_nil] at hres
          subst hres
          exact fin D vs' H cc hD hv hal
    · exact absurd h id
where
  wne {a : At} {W1 : Option Well} {H1 : Hp} (I1 : (a.to H1).Er W1) (hw : a.hw = true) : H1 a.wa ≠ none := by
    obtain ⟨w, e⟩ := Option.isSome_iff_exists.mp (I1.2.trans hw)
    exact fun z => by
      have := (I1.1.wl w e).2
      have z' : (a.to H1).H a.wa = none := z
      rw [z'] at this
      cases this
  stpD {a : At} {W1 Wi : Option Well} {H1 H : Hp} {D : Addr} (I1 : (a.to H1).Er W1) (hD : H1 D = none) (cc : Cal a.wa W1 Wi H1 H) : Stp a.O H1 (OU a.O D) H := fun z o n q =>
    ⟨fun y => y.elim n (fun y => by rw [y, hD] at q; exact nomatch q), cc.1 z o (fun h1 h2 => by
      obtain ⟨w, hw⟩ := Option.isSome_iff_exists.mp h1
      exact n (h2 ▸ (I1.1.wl w hw).1)) q⟩
end
end Lw
set_option Elab.async false
set_option linter.all false
set_option maxRecDepth 100000
set_option maxHeartbeats 2000000
set_option autoImplicit false
namespace Lw
open PySem PySem.Spec PyProof.Rows L2
variable [KI : FragI]

abbrev Dt := PyData
/-! ### statements -/
inductive Out where
  | nx (ρ : List Sl) (W : Option Well)
  | rt (e : Ev) (W : Option Well)
  | exc (c : Nat) (ρ : List Sl) (W : Option Well)
  /-- behind break, continue: in loops that know them alone -/
  | bk (ρ : List Sl) (W : Option Well)
  | ct (ρ : List Sl) (W : Option Well)
  | bad
abbrev FS := List Sl → Option Well → Out
/-- a later state of the same def -/
structure Aft (a a' : At) : Prop where
  b : a'.b = a.b
  st : Stp a.O a.H a'.O a'.H
theorem Aft.refl {a : At} : Aft a a := ⟨rfl, Stp.refl⟩
theorem Aft.trans {a a' a'' : At} (x : Aft a a') (y : Aft a' a'') : Aft a a'' := ⟨y.b.trans x.b, x.st.trans y.st⟩
theorem Aft.est {a : At} {W : Option Well} {H' : Hp} (I : a.Er W) (e : Est a.wa a.hw a.H H') : Aft a (a.to H') := ⟨rfl, e.stp I⟩
def wS (Wx : WX) (ca : Nat → Addr) (a : At) (D : Ends) : Out → Prop
  | .nx ρ' W' => ∀ a' : At, Aft a a' → a'.ρ = ρ' → a'.Er W' → D.nx a'.σ a'.H
  | .rt (.d x) W' => ∀ (a' : At) v, Aft a a' → a'.Er W' → Rp a'.O a'.H v x → D.rt v a'.H
  | .rt (.f l) W' => ∀ (a' : At) p vs, Aft a a' → a'.Er W' → ¬ a'.O p → a'.b.H p = none → a'.H p = some (.lst vs) → RpA (OU a'.O p) a'.H vs l → D.rt (.ref p) a'.H
  | .exc c ρ' W' => ∀ a' : At, Aft a a' → a'.ρ = ρ' → a'.Er W' → Wx (.ref (ca c)) none a'.σ a'.H
  | .bk _ _ => False
  | .ct _ _ => False
  | .bad => False
def SndS (Wx : WX) (ca : Nat → Addr) (mk : Bool) (t : TS) (f : FS) : Prop := ∀ (a : At) (W : Option Well) (D : Ends), a.b.mkw = mk → a.Er W → wS Wx ca a D (f a.ρ W) → t D a.σ a.H
def SS (C : Cd) (st : Stmt) (f : FS) : Prop := ∃ t, (∀ X, C.P X → PS X st t) ∧ SndS C.Wx C.ca C.mkw t f
def SB (C : Cd) (sts : List Stmt) (f : FS) : Prop := ∃ t, (∀ X, C.P X → PSs X sts t) ∧ SndS C.Wx C.ca C.mkw t f
def Out.seq (o : Out) (k : FS) : Out := match o with | .nx ρ W => k ρ W | .rt e W => .rt e W | .exc c ρ W => .exc c ρ W | _ => .bad
def sSkip : FS := fun ρ W => .nx ρ W
def sSeq (f g : FS) : FS := fun ρ W => (f ρ W).seq g
def Res.toS (r : Res) (ρ : List Sl) (k : Ev → Option Well → Out) : Out := match r with | .ok e W => k e W | .exc c W => .exc c ρ W | .bad => .bad
def RT.toS (r : RT) (ρ : List Sl) (k : Bool → Option Well → Out) : Out := match r with | .ok e W => k e W | .exc c W => .exc c ρ W | .bad => .bad
section
variable {C : Cd} {Wx : WX} {ca : Nat → Addr}
theorem wS.later {a a' : At} {D : Ends} {o : Out} (x : Aft a a') (h : wS Wx ca a D o) : wS Wx ca a' D o := by
  cases o with
  | bad => exact h
  | bk ρ W => exact h
  | ct ρ W => exact h
  | nx ρ W => exact fun b y => h b (x.trans y)
  | exc c ρ W => exact fun b y => h b (x.trans y)
  | rt e W =>
    cases e with
    | d z => exact fun b v y => h b v (x.trans y)
    | f l => exact fun b p vs y => h b p vs (x.trans y)
theorem wS.nxEnd {a : At} {D D' : Ends} {o : Out} {k : FS} (h : wS Wx ca a D (o.seq k)) (hr : D'.rt = D.rt) (hn : ∀ (a' : At) (W' : Option Well), Aft a a' → a'.Er W' → wS Wx ca a' D (k a'.ρ W') → D'.nx a'.σ a'.H) : wS Wx ca a D' o := by
  cases o with
  | bad => exact h
  | bk ρ W => exact absurd h id
  | ct ρ W => exact absurd h id
  | nx ρ W =>
    intro a' x e i
    subst e
    exact hn a' W x i (wS.later (o := k a'.ρ W) x h)
  | exc c ρ W => exact h
  | rt e W =>
    cases e with
    | d z => intro b v x i r; rw [hr]; exact h b v x i r
    | f l => intro b p vs x i n1 n2 n3 n4; rw [hr]; exact h b p vs x i n1 n2 n3 n4
/-- an expression within a statement, its value as data -/
theorem SndE.thenS {t : TE} {f : FE} (s : SndE Wx ca t f) {a : At} {W : Option Well} (I : a.Er W) {D : Ends} {Q' : VK} {k : Ev → Option Well → Out} (h : wS Wx ca a D ((f a.ρ W).toS a.ρ k))
    (hok : ∀ (e : Ev) (W1 : Option Well) v H1, (a.to H1).Er W1 → Est a.wa a.hw a.H H1 → Rp a.O H1 v e.D → wS Wx ca (a.to H1) D (k e W1) → Q' v H1) : t a.σ a.H Q' := by
  refine s a W Q' I ?_
  revert h
  cases f a.ρ W with
  | bad => exact id
  | exc c W1 => exact fun h H' e1 st => h (a.to H') (Aft.est I st) rfl e1
  | ok e W1 => exact fun h => wE.weak fun v H1 e1 st r => hok e W1 v H1 e1 st r (wS.later (o := k e W1) (Aft.est I st) h)
/-- .. with all that is known of a new list -/
theorem SndE.thenF {t : TE} {f : FE} (s : SndE Wx ca t f) {a : At} {W : Option Well} (I : a.Er W) {D : Ends} {Q' : VK} {k : Ev → Option Well → Out} (h : wS Wx ca a D ((f a.ρ W).toS a.ρ k))
    (hd : ∀ (x : Dt) (W1 : Option Well) v H1, (a.to H1).Er W1 → Est a.wa a.hw a.H H1 → Rp a.O H1 v x → wS Wx ca (a.to H1) D (k (.d x) W1) → Q' v H1)
    (hf : ∀ (l : List Dt) (W1 : Option Well) p vs H1, ER a.b (OU a.O p) a.wa W1 a.ρ a.σ H1 → (a.to H1).Er W1 → Est a.wa a.hw a.H H1 → a.H p = none → ¬ a.O p → (p ≠ a.wa ∨ W1 = none) → (∀ {c : Bool} (i : Nat) (l : List Dt), a.ρ[i]? = some (.cn c l) → a.σ[i]? ≠ some (some (.ref p))) → H1 p = some (.lst vs) → RpA (OU a.O p) H1 vs l → a.b.H p = none → wS Wx ca (a.to H1) D (k (.f l) W1) → Q' (.ref p) H1) : t a.σ a.H Q' := by
  refine s a W Q' I ?_
  revert h
  cases f a.ρ W with
  | bad => exact id
  | exc c W1 => exact fun h H' e1 st => h (a.to H') (Aft.est I st) rfl e1
  | ok e W1 =>
    cases e with
    | d x => exact fun h v H1 e1 st r => hd x W1 v H1 e1 st r (wS.later (o := k (.d x) W1) (Aft.est I st) h)
    | f l => exact fun h p vs H1 e1 st hn e2 np nw no hp al hb => hf l W1 p vs H1 e1 e2 st hn np nw no hp al hb (wS.later (o := k (.f l) W1) (Aft.est I st) h)
theorem SndT.thenS {t : TT} {f : FT} (s : SndT Wx ca t f) {a : At} {W : Option Well} (I : a.Er W) {D : Ends} {Q' : Bool → Hp → Prop} {k : Bool → Option Well → Out} (h : wS Wx ca a D ((f a.ρ W).toS a.ρ k))
    (hok : ∀ (c : Bool) (W1 : Option Well) H1, (a.to H1).Er W1 → Est a.wa a.hw a.H H1 → wS Wx ca (a.to H1) D (k c W1) → Q' c H1) : t a.σ a.H Q' := by
  refine s a W Q' I ?_
  revert h
  cases f a.ρ W with
  | bad => exact id
  | exc c W1 => exact fun h H' e1 st => h (a.to H') (Aft.est I st) rfl e1
  | ok e W1 => exact fun h H1 e1 st => hok e W1 H1 e1 st (wS.later (o := k e W1) (Aft.est I st) h)
theorem wS.nxt {a : At} {D : Ends} {ρ' : List Sl} {W' : Option Well} (h : wS Wx ca a D (.nx ρ' W')) {σ' : L2.St} {O' : Own} (st : Stp a.O a.H O' a.H) (I : (⟨a.b, O', a.wa, ρ', σ', a.H, a.hw⟩ : At).Er W') : D.nx σ' a.H := h ⟨a.b, O', a.wa, ρ', σ', a.H, a.hw⟩ ⟨rfl, st⟩ rfl I

theorem sb_nil : SB C [] sSkip := ⟨_, fun _ _ => pss_nil, fun a W D hm I h => h a Aft.refl rfl I⟩
theorem sb_cons {st : Stmt} {rest : List Stmt} {f g : FS} (h1 : SS C st f) (h2 : SB C rest g) : SB C (st :: rest) (sSeq f g) := by
  obtain ⟨t, p, s⟩ := h1
  obtain ⟨u, q, z⟩ := h2
  refine ⟨_, fun X h => pss_cons (p X h) (q X h), fun a W D hm I h => ?_⟩
  exact s a W _ hm I (wS.nxEnd (D' := { D with nx := u D }) h rfl fun a' W' x i h' => z a' W' D (by rw [x.b]; exact hm) i h')
theorem sb_one {st : Stmt} {f : FS} (h1 : SS C st f) : SB C [st] f := by
  obtain ⟨t, p, s⟩ := h1
  exact ⟨_, fun X h => pss_one (p X h), s⟩
theorem ss_pass {pos : Pos} : SS C (.Pass pos) sSkip := ⟨_, fun _ _ => ps_pass, fun a W D hm I h => h a Aft.refl rfl I⟩
def sRet (f : FE) : FS := fun ρ W => (f ρ W).toS ρ fun e W1 => .rt e W1
theorem ss_ret {e : Expr} {pos : Pos} {f : FE} (he : SE C e f) : SS C (.Return (some e) pos) (sRet f) := by
  obtain ⟨t, p, s⟩ := he
  refine ⟨_, fun X h => ps_ret (p X h), fun a W D hm I h => ?_⟩
  refine s.thenF I h (fun x W1 v H1 e1 st r h1 => h1 (a.to H1) v Aft.refl e1 r) fun l W1 p vs H1 e1 e2 st hn np nw no hp al hb h1 => h1 (a.to H1) p vs Aft.refl e2 np hb hp al
def sRetN : FS := fun _ W => .rt (.d .none) W
theorem ss_retN {pos : Pos} : SS C (.Return none pos) sRetN := ⟨_, fun _ _ => ps_retN, fun a W D hm I h => h a .non Aft.refl I .non⟩
def sIf (t : FT) (f g : FS) : FS := fun ρ W => (t ρ W).toS ρ fun k W1 => if k = true then f ρ W1 else g ρ W1
theorem ss_if {c : Expr} {x y : List Stmt} {pos : Pos} {t : FT} {f g : FS} (hc : ST C c t) (hx : SB C x f) (hy : SB C y g) : SS C (.If c x y pos) (sIf t f g) := by
  obtain ⟨t1, p, s⟩ := hc
  obtain ⟨t2, p2, s2⟩ := hx
  obtain ⟨t3, p3, s3⟩ := hy
  refine ⟨_, fun X h => ps_if (p X h) (p2 X h) (p3 X h), fun a W D hm I h => ?_⟩
  refine s.thenS I h fun c W1 H1 e1 st h1 => ?_
  cases c with
  | true => exact s2 (a.to H1) W1 D hm e1 h1
  | false => exact s3 (a.to H1) W1 D hm e1 h1
/-! x = e -/
def sSet (i : Nat) (f : FE) : FS := fun ρ W => (f ρ W).toS ρ fun e W1 => .nx (ρ.set i (.dt e.D)) W1
def sOwn (i : Nat) (f : FE) : FS := fun ρ W => (f ρ W).toS ρ fun e W1 => match e with | .f l => if i < ρ.length then .nx (ρ.set i (.cn true l)) W1 else .bad | _ => .bad
theorem ER.setOw {b : Bs} {O : Own} {wa : Addr} {W : Option Well} {ρ : List Sl} {σ : L2.St} {H : Hp} {p : Addr} {vs : List V} {l : List Dt} (I : ER b (OU O p) wa W ρ σ H) (i : Nat) (hi : i < ρ.length) (np : ¬ O p) (nw : p ≠ wa ∨ W = none)
    (no : ∀ {c : Bool} (j : Nat) (l : List Dt), ρ[j]? = some (.cn c l) → σ[j]? ≠ some (some (.ref p))) (hp : H p = some (.lst vs)) (al : RpA (OU O p) H vs l) (hb : b.H p = none) : ER b (OU O p) wa W (ρ.set i (.cn true l)) (σ.set i (some (.ref p))) H := by
  have his : i < σ.length := by rw [I.len]; exact hi
  have get : ∀ {c : Bool} j l', (ρ.set i (.cn true l))[j]? = some (.cn c l') → j = i ∨ (j ≠ i ∧ ρ[j]? = some (.cn c l')) := fun j l' e => by
    by_cases h : i = j
    · exact .inl h.symm
    · rw [List.getElem?_set_ne h] at e
      exact .inr ⟨Ne.symm h, e⟩
  refine ⟨by rw [List.length_set, List.length_set, I.len], I.al, fun j t e => ?_, fun j j' l1 l2 x hne h1 h2 h3 h4 => ?_, fun j l1 x h1 h2 h3 => ?_, I.wl, I.keep, I.sub, I.new, I.wm, I.wn⟩
  · by_cases h : i = j
    · subst h
      rw [List.getElem?_set_self hi] at e
      cases e
      exact ⟨_, List.getElem?_set_self his, p, vs, rfl, .inr rfl, hp, al, hb⟩
    · rw [List.getElem?_set_ne h] at e
      obtain ⟨u, h1, h2⟩ := I.sl j t e
      exact ⟨u, by rw [List.getElem?_set_ne h]; exact h1, h2⟩
  · rcases get j l1 h1 with rfl | ⟨n1, e1⟩
    · rcases get j' l2 h2 with rfl | ⟨n2, e2⟩
      · exact hne rfl
      · rw [List.getElem?_set_self his] at h3
        cases h3
        rw [List.getElem?_set_ne n2.symm] at h4
        exact no j' l2 e2 h4
    · rcases get j' l2 h2 with rfl | ⟨n2, e2⟩
      · rw [List.getElem?_set_self his] at h4
        cases h4
        rw [List.getElem?_set_ne n1.symm] at h3
        exact no j l1 e1 h3
      · rw [List.getElem?_set_ne n1.symm] at h3
        rw [List.getElem?_set_ne n2.symm] at h4
        exact I.inj j j' l1 l2 x hne e1 e2 h3 h4
  · rcases get j l1 h1 with rfl | ⟨n1, e1⟩
    · rw [List.getElem?_set_self his] at h2
      cases h2
      rcases nw with nw | nw
      · exact nw
      · rw [nw] at h3; cases h3
    · rw [List.getElem?_set_ne n1.symm] at h2
      exact I.nw j l1 x e1 h2 h3
theorem stp_OU {O : Own} {H : Hp} {p : Addr} {vs : List V} (I : ∀ u, H p = some u → u = .lst vs) (hs : ∀ a o, ¬ O a → H a = some o → a ≠ p) : Stp O H (OU O p) H := fun a o n q => ⟨fun z => z.elim n (hs a o n q), q⟩
end
end Lw
set_option Elab.async false
set_option linter.all false
set_option maxRecDepth 100000
set_option maxHeartbeats 2000000
set_option autoImplicit false
namespace Lw
open PySem PySem.Spec PyProof.Rows L2
variable [KI : FragI]

section
variable {C : Cd} {Wx : WX} {ca : Nat → Addr}
/-- where the target of a new own list stands: the owned set grows -/
theorem ou_stp {a : At} {W : Option Well} {H1 : Hp} {p : Addr} (I : a.Er W) (I1 : (a.to H1).Er W) : True := trivial
theorem SndE.set {t : TE} {f : FE} (s : SndE Wx ca t f) (i : Nat) {mk : Bool} : SndS Wx ca mk (tAsg t (gName i)) (sSet i f) := fun a W Dn hm I h => by
  refine s.thenS I h fun e W1 v H1 e1 st r h1 => ?_
  exact h1.nxt (σ' := a.σ.set i (some v)) (O' := a.O) Stp.refl ⟨e1.1.set i r (fun _ _ z => nomatch z), e1.2⟩
theorem SndE.own {t : TE} {f : FE} (s : SndE Wx ca t f) (i : Nat) {mk : Bool} : SndS Wx ca mk (tAsg t (gName i)) (sOwn i f) := fun a W Dn hm I h => by
  refine s a W _ I ?_
  have h' : wS Wx ca a Dn ((f a.ρ W).toS a.ρ fun e W1 => match e with | .f l => if i < a.ρ.length then .nx (a.ρ.set i (.cn true l)) W1 else .bad | _ => .bad) := h
  revert h'
  cases f a.ρ W with
  | bad => exact id
  | exc c W1 => exact fun h H' e1 st => h (a.to H') (Aft.est I st) rfl e1
  | ok e W1 =>
    cases e with
    | d x => exact fun h => absurd h id
    | f l =>
      intro h p vs H1 e1 st hn e2 np nw no hp al hb
      have h2 : wS Wx ca a Dn (if i < a.ρ.length then .nx (a.ρ.set i (.cn true l)) W1 else .bad) := h
      split at h2
      · rename_i hi
        have I2 : (⟨a.b, OU a.O p, a.wa, a.ρ.set i (.cn true l), a.σ.set i (some (.ref p)), H1, a.hw⟩ : At).Er W1 := ⟨e1.setOw i hi np nw no hp al hb, e2.2⟩
        exact h2 ⟨a.b, OU a.O p, a.wa, a.ρ.set i (.cn true l), a.σ.set i (some (.ref p)), H1, a.hw⟩ ⟨rfl, st.stpO I hn⟩ rfl I2
      · exact absurd h2 id
theorem swaps_of {e : Expr} {tg : Option Expr} {l : Nat} : True := trivial
theorem ss_set {i : Nat} {x : Str} {e : Expr} {f : FE} {pos pos' : Pos} (hi : C.N[i]? = some x) (hx : Loc C.sc x) (hf : C.fn x = true ∨ C.sc.names.lookup x = some .local) (he : SE C e f)
    (hs : ∀ X, C.P X → swapsWith e (some (.Name x pos')) pos.line X.env = pure false := by intro _ _; rfl) : SS C (.Assign [.Name x pos'] e pos) (sSet i f) := by
  obtain ⟨t, p, s⟩ := he
  exact ⟨_, fun X h => ps_set (by rw [C.hN X h]; exact C.nd) (by rw [C.hN X h]; exact hi) (by rw [C.hsc X h]; exact hx) (p X h) (hs X h) (by rw [C.hfn X h, C.hsc X h]; exact hf), s.set i⟩
theorem ss_own {i : Nat} {x : Str} {e : Expr} {f : FE} {pos pos' : Pos} (hi : C.N[i]? = some x) (hx : Loc C.sc x) (hf : C.fn x = true ∨ C.sc.names.lookup x = some .local) (he : SE C e f)
    (hs : ∀ X, C.P X → swapsWith e (some (.Name x pos')) pos.line X.env = pure false := by intro _ _; rfl) : SS C (.Assign [.Name x pos'] e pos) (sOwn i f) := by
  obtain ⟨t, p, s⟩ := he
  exact ⟨_, fun X h => ps_set (by rw [C.hN X h]; exact C.nd) (by rw [C.hN X h]; exact hi) (by rw [C.hsc X h]; exact hx) (p X h) (hs X h) (by rw [C.hfn X h, C.hsc X h]; exact hf), s.own i⟩
/-- x = [..] of a comprehension, x the def's own name -/
theorem ss_setLc {i : Nat} {y : Str} {py : Pos} {elt tg iter : Expr} {ifs : List Expr} {scope : Scope} {own : List (Str × Nat)} {pos spos : Pos} {fi : FI} {fg : FG} {ft : FT} {fe : FE} {ix : List Nat} (hy : C.N[i]? = some y) (hyl : C.sc.names.lookup y = some .local)
    (hsw : ∀ X, C.P X → swapsWith (.ListComp elt [⟨tg, iter, ifs, 0⟩] scope pos) (some (.Name y py)) spos.line X.env = pure true) (hi : SI C tg iter fi) (ok : blkC C.N C.sc scope own = true) (hg : SG (C.blk scope) tg fg ix)
    (ht : ∃ tt, (∀ X, (C.blk scope).P X → PTs X ifs tt) ∧ SndT (fun _ _ _ _ => False) C.ca tt ft) (he : SE (C.blk scope) elt fe) (hix : ∀ j ∈ ix, j ∈ own.map (·.2)) (hs : ∀ env x, foldedSetIterable iter env x = pure x := by intro _ _; rfl) (hcm : C.cm = true := by rfl) :
    SS C (.Assign [.Name y py] (.ListComp elt [⟨tg, iter, ifs, 0⟩] scope pos) spos) (sSet i (eLc fi fg ft fe (own.map (·.2)))) := by
  obtain ⟨t1, p1, s1⟩ := hi
  obtain ⟨t2, p2, s2⟩ := hg
  obtain ⟨t3, p3, s3⟩ := ht
  obtain ⟨t4, p4, s4⟩ := he
  refine ⟨tAsg (tLc t1 t2 t3 t4 (own.map (·.2))) (gName i), fun X h => ?_, (snd_lc s1 s2 s3 s4 hix).set i⟩
  exact ps_setLc (C.calmC hcm X h) (by rw [C.hN X h]; exact C.nd) (by rw [C.hN X h]; exact hy) (by rw [C.hsc X h]; exact hyl) (hsw X h) (p1 X h) (by rw [C.hN X h, C.hsc X h]; exact blkOk_by ok)
    (fun s H cc cl fp => p2 _ ⟨X, s, H, cc, cl, fp, h, rfl⟩) (fun s H cc cl fp => p3 _ ⟨X, s, H, cc, cl, fp, h, rfl⟩) (fun s H cc cl fp => p4 _ ⟨X, s, H, cc, cl, fp, h, rfl⟩) (hs _)
theorem ss_ownLc {i : Nat} {y : Str} {py : Pos} {elt tg iter : Expr} {ifs : List Expr} {scope : Scope} {own : List (Str × Nat)} {pos spos : Pos} {fi : FI} {fg : FG} {ft : FT} {fe : FE} {ix : List Nat} (hy : C.N[i]? = some y) (hyl : C.sc.names.lookup y = some .local)
    (hsw : ∀ X, C.P X → swapsWith (.ListComp elt [⟨tg, iter, ifs, 0⟩] scope pos) (some (.Name y py)) spos.line X.env = pure true) (hi : SI C tg iter fi) (ok : blkC C.N C.sc scope own = true) (hg : SG (C.blk scope) tg fg ix)
    (ht : ∃ tt, (∀ X, (C.blk scope).P X → PTs X ifs tt) ∧ SndT (fun _ _ _ _ => False) C.ca tt ft) (he : SE (C.blk scope) elt fe) (hix : ∀ j ∈ ix, j ∈ own.map (·.2)) (hs : ∀ env x, foldedSetIterable iter env x = pure x := by intro _ _; rfl) (hcm : C.cm = true := by rfl) :
    SS C (.Assign [.Name y py] (.ListComp elt [⟨tg, iter, ifs, 0⟩] scope pos) spos) (sOwn i (eLc fi fg ft fe (own.map (·.2)))) := by
  obtain ⟨t1, p1, s1⟩ := hi
  obtain ⟨t2, p2, s2⟩ := hg
  obtain ⟨t3, p3, s3⟩ := ht
  obtain ⟨t4, p4, s4⟩ := he
  refine ⟨tAsg (tLc t1 t2 t3 t4 (own.map (·.2))) (gName i), fun X h => ?_, (snd_lc s1 s2 s3 s4 hix).own i⟩
  exact ps_setLc (C.calmC hcm X h) (by rw [C.hN X h]; exact C.nd) (by rw [C.hN X h]; exact hy) (by rw [C.hsc X h]; exact hyl) (hsw X h) (p1 X h) (by rw [C.hN X h, C.hsc X h]; exact blkOk_by ok)
    (fun s H cc cl fp => p2 _ ⟨X, s, H, cc, cl, fp, h, rfl⟩) (fun s H cc cl fp => p3 _ ⟨X, s, H, cc, cl, fp, h, rfl⟩) (fun s H cc cl fp => p4 _ ⟨X, s, H, cc, cl, fp, h, rfl⟩) (hs _)
theorem se_lc {elt tg iter : Expr} {ifs : List Expr} {scope : Scope} {own : List (Str × Nat)} {pos : Pos} {fi : FI} {fg : FG} {ft : FT} {fe : FE} {ix : List Nat} (hi : SI C tg iter fi) (ok : blkC C.N C.sc scope own = true) (hg : SG (C.blk scope) tg fg ix)
    (ht : ∃ tt, (∀ X, (C.blk scope).P X → PTs X ifs tt) ∧ SndT (fun _ _ _ _ => False) C.ca tt ft) (he : SE (C.blk scope) elt fe) (hix : ∀ j ∈ ix, j ∈ own.map (·.2)) (hs : ∀ env x, foldedSetIterable iter env x = pure x := by intro _ _; rfl) (hcm : C.cm = true := by rfl) :
    SE C (.ListComp elt [⟨tg, iter, ifs, 0⟩] scope pos) (eLc fi fg ft fe (own.map (·.2))) := by
  obtain ⟨t1, p1, s1⟩ := hi
  obtain ⟨t2, p2, s2⟩ := hg
  obtain ⟨t3, p3, s3⟩ := ht
  obtain ⟨t4, p4, s4⟩ := he
  refine ⟨tLc t1 t2 t3 t4 (own.map (·.2)), fun X h => ?_, snd_lc s1 s2 s3 s4 hix⟩
  exact pe_lc (C.calmC hcm X h) (by rw [C.hN X h]; exact C.nd) (p1 X h) (by rw [C.hN X h, C.hsc X h]; exact blkOk_by ok)
    (fun s H cc cl fp => p2 _ ⟨X, s, H, cc, cl, fp, h, rfl⟩) (fun s H cc cl fp => p3 _ ⟨X, s, H, cc, cl, fp, h, rfl⟩) (fun s H cc cl fp => p4 _ ⟨X, s, H, cc, cl, fp, h, rfl⟩) (hs _)
theorem ts_yes {P : Cx → Prop} {ca : Nat → Addr} : ∃ tt, (∀ X, P X → PTs X [] tt) ∧ SndT (fun _ _ _ _ => False) ca tt ftYes := ⟨tYes, fun _ _ => pts_nil, fun a W Q I h => h a.H I Est.refl⟩
theorem ts_one {C : Cd} {c : Expr} {f : FT} (h : ST C c f) : ∃ tt, (∀ X, C.P X → PTs X [c] tt) ∧ SndT C.Wx C.ca tt f := by
  obtain ⟨t, p, s⟩ := h
  exact ⟨t, fun X h => pts_one (p X h), s⟩
/-- a, b = e -/
def sAsg (f : FE) (g : FG) : FS := fun ρ W => (f ρ W).toS ρ fun e W1 => match g e.D ρ with | some ρ1 => .nx ρ1 W1 | none => .bad
theorem ss_asg {tg e : Expr} {f : FE} {g : FG} {ix : List Nat} {pos : Pos} (he : SE C e f) (hg : SG C tg g ix) (hs : ∀ X, C.P X → swapsWithSole [tg] e pos.line X.env = pure false := by intro _ _; rfl) (hw : ∀ X, C.P X → swappedStores [tg] e X.env = pure none := by intro _ _; rfl)
    (h1 : ∀ env, (assignEach [tg] env).map (·.2) = [assign tg env] := by intro _; rfl) : SS C (.Assign [tg] e pos) (sAsg f g) := by
  obtain ⟨t, p, s⟩ := he
  obtain ⟨u, q, z⟩ := hg
  refine ⟨_, fun X h => ps_asg (p X h) (q X h) (hs X h) (hw X h) (h1 _), fun a W Dn hm I h => ?_⟩
  refine s.thenS I h fun e W1 v H1 e1 st r h1 => ?_
  split at h1
  · rename_i ρ1 eg
    exact z (a.to H1) W1 v e.D ρ1 Dn.nx e1 r eg fun σ' e2 _ _ => h1.nxt (σ' := σ') (O' := a.O) Stp.refl e2
  · exact absurd h1 id
def sPar (i j : Nat) (g : FA) : FS := fun ρ W => match g ρ W with
  | .ok [.dt x, .dt y] W1 => .nx ((ρ.set i (.dt x)).set j (.dt y)) W1
  | .exc c W1 => .exc c ρ W1
  | _ => .bad
theorem ss_par {i j : Nat} {x y : Str} {a b : Expr} {g : FA} {px py pt pos : Pos} {kt k2 pt2} (hi : C.N[i]? = some x) (hj : C.N[j]? = some y) (hij : i ≠ j) (hx : C.sc.names.lookup x = some .local) (hy : C.sc.names.lookup y = some .local) (ha : SA C [a, b] g)
    (hw : ∀ X, C.P X → swappedStores [.Tuple [.Name x px, .Name y py] kt pt] (.Tuple [a, b] k2 pt2) X.env = pure (some [x, y])) (hs : ∀ X, C.P X → swapsWithSole [.Tuple [.Name x px, .Name y py] kt pt] (.Tuple [a, b] k2 pt2) pos.line X.env = pure false := by intro _ _; rfl) (hcm : C.cm = true := by rfl) :
    SS C (.Assign [.Tuple [.Name x px, .Name y py] kt pt] (.Tuple [a, b] k2 pt2) pos) (sPar i j g) := by
  obtain ⟨t, p, s⟩ := ha
  refine ⟨_, fun X h => ps_par (C.calmC hcm X h) (by rw [C.hN X h]; exact C.nd) (by rw [C.hN X h]; exact hi) (by rw [C.hN X h]; exact hj) hij (by rw [C.hsc X h]; exact hx) (by rw [C.hsc X h]; exact hy) (p X h) (hw X h) (hs X h), fun a W Dn hm I h => ?_⟩
  refine s a W _ I ?_
  unfold sPar at h
  revert h
  cases eg : g a.ρ W with
  | bad => exact id
  | exc c W1 => exact fun h H' e1 st => h (a.to H') (Aft.est I st) rfl e1
  | ok as W1 =>
    intro h vs H1 e1 st r
    cases r with
    | nil => exact absurd h id
    | @cons s1 v1 ss vs r1 rr =>
      cases rr with
      | nil => cases s1 <;> exact absurd h id
      | @cons s2 v2 ss2 vs2 r2 rr =>
        cases rr with
        | cons _ _ => cases s1 <;> cases s2 <;> exact absurd h id
        | nil =>
          cases s1 with
          | dt x =>
            cases s2 with
            | dt y =>
              refine ⟨v1, v2, rfl, ?_⟩
              have h2 : wS C.Wx C.ca (a.to H1) Dn (.nx ((a.ρ.set i (.dt x)).set j (.dt y)) W1) := wS.later (o := .nx ((a.ρ.set i (.dt x)).set j (.dt y)) W1) (Aft.est I st) h
              exact h2.nxt (O' := a.O) Stp.refl ⟨(e1.1.set i (s := .dt x) (o := some v1) r1 (fun _ _ z => nomatch z)).set j (s := .dt y) (o := some v2) r2 (fun _ _ z => nomatch z), e1.2⟩
            | _ => exact absurd h id
          | _ => exact absurd h id
/-- e; -/
def sDrop (f : FE) : FS := fun ρ W => (f ρ W).toS ρ fun _ W1 => .nx ρ W1
theorem ss_expr {e : Expr} {pos : Pos} {f : FE} (he : SE C e f) (hs : ∀ X, C.P X → swapsWith e none pos.line X.env = pure false := by intro _ _; rfl) : SS C (.Expr e pos) (sDrop f) := by
  obtain ⟨t, p, s⟩ := he
  refine ⟨_, fun X h => ps_expr (p X h) (hs X h), fun a W D hm I h => ?_⟩
  exact s.thenS I h fun e W1 v H1 e1 st r h1 => h1.nxt (σ' := a.σ) (O' := a.O) Stp.refl e1
/-! xs.append(e), xs[k] = e of an own list -/
/-- an own list changed -/
theorem ER.putC {b : Bs} {O : Own} {wa : Addr} {W : Option Well} {ρ : List Sl} {σ : L2.St} {H : Hp} {p : Addr} {c : Bool} {ws : List V} {l m : List Dt} {u : HO} (I : ER b O wa W ρ σ H) {i : Nat} (hi : ρ[i]? = some (.cn c l)) (hs : σ[i]? = some (some (.ref p))) (hu : ∀ H : Hp, H p = some u → CnR H p c ws m) (al : RpA O H ws m) :
    ER b O wa W (ρ.set i (.cn c m)) σ (upd H p u) ∧ Stp O H O (upd H p u) := by
  have hil : i < ρ.length := (List.getElem?_eq_some_iff.mp hi).1
  have op : O p ∧ b.H p = none := by
    obtain ⟨o, h1, h2⟩ := I.sl i _ hi
    rw [hs] at h1
    cases h1
    obtain ⟨q, us, e, oa, _, _, h0⟩ := h2
    cases e
    exact ⟨oa, h0⟩
  have st : Stp O H O (upd H p u) := fun a o n q => ⟨n, by
    have ap : a ≠ p := fun z => n (by rw [z]; exact op.1)
    rw [upd_ne ap]; exact q⟩
  have get : ∀ {c' : Bool} (j : Nat) (l' : List Dt), (ρ.set i (.cn c m))[j]? = some (.cn c' l') → ∃ c'' l'', ρ[j]? = some (.cn c'' l'') := fun j l' e => by
    by_cases h : i = j
    · subst h; exact ⟨_, _, hi⟩
    · rw [List.getElem?_set_ne h] at e; exact ⟨_, _, e⟩
  refine ⟨⟨by rw [List.length_set]; exact I.len, fun a oa => ?_, fun j t e => ?_, fun j j' l1 l2 x hne h1 h2 h3 h4 => ?_, fun j l1 x h1 h2 h3 => ?_, fun w hw => ⟨(I.wl w hw).1, ?_⟩, fun a o h1 h2 => ?_, I.sub, I.new, I.wm, I.wn⟩, st⟩
  · by_cases h : a = p
    · subst h; rw [upd_same]; exact fun z => nomatch z
    · rw [upd_ne h]; exact I.al a oa
  · by_cases h : i = j
    · subst h
      rw [List.getElem?_set_self hil] at e
      cases e
      exact ⟨_, hs, p, ws, rfl, op.1, hu _ upd_same, al.stp st, op.2⟩
    · rw [List.getElem?_set_ne h] at e
      obtain ⟨u, h1, h2⟩ := I.sl j t e
      refine ⟨u, h1, h2.stp st fun x us oa hx h0 hl hu => ⟨oa, ?_⟩⟩
      obtain ⟨c', l', rfl⟩ := hl
      subst hu
      have xp : x ≠ p := fun z => by subst z; exact I.inj i j l l' x h hi e hs h1
      rw [upd_ne xp]
      exact hx
  · obtain ⟨c1, l1', e1⟩ := get j l1 h1
    obtain ⟨c2, l2', e2⟩ := get j' l2 h2
    exact I.inj j j' l1' l2' x hne e1 e2 h3 h4
  · obtain ⟨c1, l1', e1⟩ := get j l1 h1
    exact I.nw j l1' x e1 h2 h3
  · rw [upd_ne (fun z => I.nw i l p hi hs (by rw [hw]; rfl) z.symm)]
    exact (I.wl w hw).2
  · have ap : a ≠ p := fun z => by subst z; rw [op.2] at h2; cases h2
    rw [upd_ne ap]
    exact I.keep a o h1 h2
theorem ER.put {b : Bs} {O : Own} {wa : Addr} {W : Option Well} {ρ : List Sl} {σ : L2.St} {H : Hp} {p : Addr} {vs ws : List V} {l m : List Dt} (I : ER b O wa W ρ σ H) {i : Nat} (hi : ρ[i]? = some (.cn true l)) (hs : σ[i]? = some (some (.ref p))) (hp : H p = some (.lst vs)) (al : RpA O H ws m) :
    ER b O wa W (ρ.set i (.cn true m)) σ (upd H p (.lst ws)) ∧ Stp O H O (upd H p (.lst ws)) := I.putC hi hs (fun _ e => e) al
def sApp (i : Nat) (f : FE) : FS := fun ρ W => match ρ[i]? with
  | some (.cn true l) => (f ρ W).toS ρ fun e W1 => if l.length < lineN then .nx (ρ.set i (.cn true (l ++ [e.D]))) W1 else .bad
  | _ => .bad
theorem ss_append {i : Nat} {x : Str} {e : Expr} {f : FE} {px apos cpos pos : Pos} (hi : C.N[i]? = some x) (hv : Vis C.sc x) (he : SE C e f) (hb : ∀ env, attributeBase (.Name x px) "append" env (eval (.Name x px) env) = eval (.Name x px) env := by intro _; rfl)
    (hk : ∀ env, ((backTo cpos (starEach [e] env)).all (!·.1) && (backToKw cpos (keywordEach [] env)).all (·.1.isSome) && decide ([e].length + ([] : List Keyword).length + (if ([] : List Keyword).isEmpty = true then 0 else 1) < 30)) = true := by intro _; rfl)
    (hl : (apos.endLine == cpos.line) = true := by rfl) (hst : ∀ env, starEach [e] env = (false, eval e env) :: starEach [] env := by intro _; rfl) (hp : ∀ env, (backTo cpos (starEach [] env)).any (·.1) = false := by intro _; rfl)
    (hs : ∀ X, C.P X → swapsWith (.Call (.Attribute (.Name x px) "append" apos) [e] [] cpos) none pos.line X.env = pure false := by intro _ _; rfl) (hd : (x == ("__debug__" : Str)) = false := by decide) (hcd : (x == ("__classdict__" : Str)) = false := by decide) :
    SS C (.Expr (.Call (.Attribute (.Name x px) "append" apos) [e] [] cpos) pos) (sApp i f) := by
  obtain ⟨t, p, s⟩ := he
  refine ⟨tDrop (tBM fK "list" rAppend (tVar i) (tCons t tNil)), fun X h => by rw [← C.hK X h]; exact ps_expr (pe_bm PySem.F.plainAttrs_list PySem.F.slot_list_append PySem.F.type_list_append mt_append (pe_var (i := i) (by rw [C.hN X h]; exact hi) (by rw [C.hsc X h]; exact hv) hd hcd) (pa_cons (p X h) pa_nil (hst _)) (hb _) (hk _) hl (hst _) (hp _)) (hs X h), fun a W Dn hm I h => ?_⟩
  unfold sApp at h
  split at h
  · rename_i l hl
    obtain ⟨o, h1, h2⟩ := I.1.sl i _ hl
    cases o with
    | none => exact absurd h2 id
    | some v =>
      obtain ⟨q, vs, rfl, oq, hq, al, h0⟩ := h2
      refine ⟨.ref q, h1, .inl ⟨rfl, vs, .inl (.inl hq)⟩, ?_⟩
      refine s.thenS I h fun e W1 v H1 e1 st r h3 => ?_
      split at h3
      · rename_i hlen
        have hq1 : H1 q = some (.lst vs) := st q _ (fun hw => I.1.nw i l q hl h1 (I.2.trans hw)) hq
        refine ⟨q, vs, v, rfl, rfl, hq1, ?_, ?_⟩
        · rw [al.length]; exact Nat.lt_of_lt_of_le hlen (line_le (Nat.le_refl _))
        · obtain ⟨e2, st2⟩ := e1.1.put (ws := vs ++ [v]) (m := l ++ [e.D]) hl h1 hq1 ((al.stp (st.stp I)).append (.cons r .nil))
          exact h3 ⟨a.b, a.O, a.wa, a.ρ.set i (.cn true (l ++ [e.D])), a.σ, upd H1 q (.lst (vs ++ [v])), a.hw⟩ ⟨rfl, st2⟩ rfl ⟨e2, e1.2⟩
      · exact absurd h3 id
  · exact absurd h id
/-- xs[k] = e of an own list -/
def sPut (i : Nat) (f g : FE) : FS := fun ρ W => match ρ[i]? with
  | some (.cn true l) => (f ρ W).toS ρ fun e W1 => (g ρ W1).toS ρ fun k W2 => match k.D with
    | .int z => (match ixN l.length z with | some j => .nx (ρ.set i (.cn true (l.set j e.D))) W2 | none => .bad)
    | _ => .bad
  | _ => .bad
theorem ss_put {i : Nat} {x : Str} {e k : Expr} {f g : FE} {px tpos pos : Pos} (hi : C.N[i]? = some x) (hv : Vis C.sc x) (he : SE C e f) (hk : SE C k g)
    (ha : ∀ env v, assign (.Subscript (.Name x px) k tpos) env v = (do let ov ← holding [v] (eval (.Name x px) env); let iv ← holding [v, ov] (eval k env); standAt tpos; holding [v, ov, iv] (setItem ov iv v); release [v, ov, iv] []) := by intro _ _; rfl)
    (hs : ∀ X, C.P X → swapsWithSole [.Subscript (.Name x px) k tpos] e pos.line X.env = pure false := by intro _ _; rfl) (hw : ∀ X, C.P X → swappedStores [.Subscript (.Name x px) k tpos] e X.env = pure none := by intro _ _; rfl)
    (h1 : ∀ env, (assignEach [.Subscript (.Name x px) k tpos] env).map (·.2) = [assign (.Subscript (.Name x px) k tpos) env] := by intro _; rfl) (hd : (x == ("__debug__" : Str)) = false := by decide) (hcd : (x == ("__classdict__" : Str)) = false := by decide) :
    SS C (.Assign [.Subscript (.Name x px) k tpos] e pos) (sPut i f g) := by
  obtain ⟨t, p, s⟩ := he
  obtain ⟨u, q, z⟩ := hk
  refine ⟨_, fun X h => ps_asg (p X h) (pg_sub (pe_var (i := i) (by rw [C.hN X h]; exact hi) (by rw [C.hsc X h]; exact hv) hd hcd) (q X h) set_list (ha _)) (hs X h) (hw X h) (h1 _), fun a W Dn hm I h => ?_⟩
  unfold sPut at h
  split at h
  · rename_i l hl
    refine s.thenS I h fun e W1 v H1 e1 st r h3 => ?_
    obtain ⟨o, h1, h2⟩ := I.1.sl i _ hl
    cases o with
    | none => exact absurd h2 id
    | some v0 =>
      obtain ⟨p0, vs, rfl, oq, hq, al, h0⟩ := h2
      refine ⟨.ref p0, h1, ?_⟩
      refine z.thenS (a := a.to H1) e1 h3 fun k W2 v2 H2 e2 st2 r2 h4 => ?_
      split at h4
      · rename_i zi hz
        rw [hz] at r2
        cases r2
        split at h4
        · rename_i j hj
          have hq1 : H1 p0 = some (.lst vs) := st p0 _ (fun hw => I.1.nw i l p0 hl h1 (I.2.trans hw)) hq
          have hq2 : H2 p0 = some (.lst vs) := st2 p0 _ (fun hw => I.1.nw i l p0 hl h1 (I.2.trans hw)) hq1
          refine ⟨p0, vs, zi, j, rfl, rfl, hq2, by rw [al.length]; exact hj, ?_⟩
          obtain ⟨e3, st3⟩ := e2.1.put (ws := vs.set j v) (m := l.set j e.D) hl h1 hq2 (RpA.set (r.stp (st2.stp e1)) j ((al.stp (st.stp I)).stp (st2.stp e1)))
          exact h4 ⟨a.b, a.O, a.wa, a.ρ.set i (.cn true (l.set j e.D)), a.σ, upd H2 p0 (.lst (vs.set j v)), a.hw⟩ ⟨rfl, st3⟩ rfl ⟨e3, e2.2⟩
        · exact absurd h4 id
      · exact absurd h4 id
  · exact absurd h id
/-! the well -/
def Well.get (w : Well) : Nat → Option Int
  | 0 => some w.1
  | 1 => some w.2.1
  | 2 => some w.2.2
  | _ => none
def Well.put (w : Well) (n : Int) : Nat → Option Well
  | 0 => some (n, w.2.1, w.2.2)
  | 1 => some (w.1, n, w.2.2)
  | 2 => some (w.1, w.2.1, n)
  | _ => none
def eWell (i k : Nat) : FE := fun ρ W => match ρ[i]?, W with
  | some .wel, some w => (match w.get k with | some n => .ok (.d (.int n)) W | none => .bad)
  | _, _ => .bad
theorem Well.get_at {w : Well} {k : Nat} {n : Int} (h : w.get k = some n) : atI (wellVs w) (k : Int) = some (.int n) := by
  match k, h with
  | 0, h => cases h; rfl
  | 1, h => cases h; rfl
  | 2, h => cases h; rfl
theorem Well.put_at {w w' : Well} {k : Nat} {n : Int} (h : w.put n k = some w') : ixN (wellVs w).length (k : Int) = some k ∧ (wellVs w).set k (.int n) = wellVs w' := by
  match k, h with
  | 0, h => cases h; exact ⟨rfl, rfl⟩
  | 1, h => cases h; exact ⟨rfl, rfl⟩
  | 2, h => cases h; exact ⟨rfl, rfl⟩
theorem se_well {i k : Nat} {x : Str} {j : Nat} {px kp pos : Pos} (hi : C.N[i]? = some x) (hv : Vis C.sc x) (hd : (x == ("__debug__" : Str)) = false := by decide) (hcd : (x == ("__classdict__" : Str)) = false := by decide) :
    SE C (.Subscript (.Name x px) (.Constant (.int (k : Int)) j kp) pos) (eWell i k) := by
  refine ⟨tOp (rIx fK) (tVar i) (tC (.int (k : Int))), fun X h => by rw [← C.hK X h]; exact pe_ix ix_seq (pe_var (i := i) (by rw [C.hN X h]; exact hi) (by rw [C.hsc X h]; exact hv) hd hcd) pe_int (fun _ _ => rfl), fun a W Q I h => ?_⟩
  unfold eWell at h
  split at h
  · rename_i w hw
    obtain ⟨o, h1, h2⟩ := I.1.sl i _ hw
    cases o with
    | none => exact absurd h2 id
    | some v =>
      have h2' : v = .ref a.wa := h2
      subst h2'
      split at h
      · rename_i n hn
        exact ⟨_, h1, .inl ⟨a.wa, wellVs w, (k : Int), _, rfl, rfl, .inl (.inl (I.1.wl w rfl).2), Well.get_at hn, wE.now I (.int n) h⟩⟩
      · exact absurd h id
  · exact absurd h id
def sWell (i k : Nat) (f : FE) : FS := fun ρ W => (f ρ W).toS ρ fun e W1 => match ρ[i]?, W1, e.D with
  | some .wel, some w, .int n => (match w.put n k with | some w' => .nx ρ (some w') | none => .bad)
  | _, _, _ => .bad
theorem ER.well {b : Bs} {O : Own} {wa : Addr} {w w' : Well} {ρ : List Sl} {σ : L2.St} {H : Hp} (I : ER b O wa (some w) ρ σ H) : ER b O wa (some w') ρ σ (upd H wa (.lst (wellVs w'))) ∧ Stp O H O (upd H wa (.lst (wellVs w'))) := by
  have ow := (I.wl w rfl).1
  have hw := (I.wl w rfl).2
  have st : Stp O H O (upd H wa (.lst (wellVs w'))) := fun a o n q => ⟨n, by
    have ap : a ≠ wa := fun z => n (by rw [z]; exact ow)
    rw [upd_ne ap]; exact q⟩
  refine ⟨⟨I.len, fun a oa => ?_, fun i x hx => ?_, I.inj, fun i l a h1 h2 _ => I.nw i l a h1 h2 rfl, fun v hv => ?_, fun a o h1 h2 => ?_, I.sub, I.new, I.wm, I.wn⟩, st⟩
  · by_cases h : a = wa
    · subst h; rw [upd_same]; exact fun z => nomatch z
    · rw [upd_ne h]; exact I.al a oa
  · obtain ⟨o, h1, h2⟩ := I.sl i x hx
    refine ⟨o, h1, h2.stp st fun a vs oa ha h0 hl ho => ⟨oa, ?_⟩⟩
    obtain ⟨c, l, rfl⟩ := hl
    subst ho
    rw [upd_ne (I.nw i l a hx h1 rfl)]
    exact ha
  · cases hv
    exact ⟨ow, upd_same⟩
  · have ap : a ≠ wa := fun z => by
      subst z
      cases hm : b.mkw with
      | false =>
        obtain ⟨m1, m2⟩ := I.wm hm
        exact h1 (m1 ▸ rfl) m2
      | true =>
        have := (I.wn hm).2 rfl
        rw [h2] at this
        cases this
    rw [upd_ne ap]
    exact I.keep a o h1 h2
theorem ss_well {i k : Nat} {x : Str} {j : Nat} {e : Expr} {f : FE} {px kp tpos pos : Pos} (hi : C.N[i]? = some x) (hv : Vis C.sc x) (he : SE C e f)
    (ha : ∀ env v, assign (.Subscript (.Name x px) (.Constant (.int (k : Int)) j kp) tpos) env v = (do let ov ← holding [v] (eval (.Name x px) env); let iv ← holding [v, ov] (eval (.Constant (.int (k : Int)) j kp) env); standAt tpos; holding [v, ov, iv] (setItem ov iv v); release [v, ov, iv] []) := by intro _ _; rfl)
    (hs : ∀ X, C.P X → swapsWithSole [.Subscript (.Name x px) (.Constant (.int (k : Int)) j kp) tpos] e pos.line X.env = pure false := by intro _ _; rfl) (hw : ∀ X, C.P X → swappedStores [.Subscript (.Name x px) (.Constant (.int (k : Int)) j kp) tpos] e X.env = pure none := by intro _ _; rfl)
    (h1 : ∀ env, (assignEach [.Subscript (.Name x px) (.Constant (.int (k : Int)) j kp) tpos] env).map (·.2) = [assign (.Subscript (.Name x px) (.Constant (.int (k : Int)) j kp) tpos) env] := by intro _; rfl) (hd : (x == ("__debug__" : Str)) = false := by decide) (hcd : (x == ("__classdict__" : Str)) = false := by decide) :
    SS C (.Assign [.Subscript (.Name x px) (.Constant (.int (k : Int)) j kp) tpos] e pos) (sWell i k f) := by
  obtain ⟨t, p, s⟩ := he
  refine ⟨_, fun X h => ps_asg (p X h) (pg_sub (pe_var (i := i) (by rw [C.hN X h]; exact hi) (by rw [C.hsc X h]; exact hv) hd hcd) pe_int set_list (ha _)) (hs X h) (hw X h) (h1 _), fun a W Dn hm I h => ?_⟩
  refine s.thenS I h fun e W1 v H1 e1 st r h3 => ?_
  split at h3
  · rename_i w n hwl hn
    obtain ⟨o, h1, h2⟩ := I.1.sl i _ hwl
    cases o with
    | none => exact absurd h2 id
    | some v0 =>
      have h2' : v0 = .ref a.wa := h2
      subst h2'
      rw [hn] at r
      cases r
      split at h3
      · rename_i w' hp
        obtain ⟨p1, p2⟩ := Well.put_at hp
        refine ⟨_, h1, a.wa, wellVs w, (k : Int), k, rfl, rfl, (e1.1.wl w rfl).2, p1, ?_⟩
        rw [p2]
        obtain ⟨e2, st2⟩ := ER.well (w' := w') e1.1
        exact h3 ⟨a.b, a.O, a.wa, a.ρ, a.σ, upd H1 a.wa (.lst (wellVs w')), a.hw⟩ ⟨rfl, st2⟩ rfl ⟨e2, e1.2⟩
      · exact absurd h3 id
  · exact absurd h3 id
end
end Lw
set_option Elab.async false
set_option linter.all false
set_option maxRecDepth 100000
set_option maxHeartbeats 2000000
set_option autoImplicit false
namespace Lw
open PySem PySem.Spec PyProof.Rows L2
variable [KI : FragI]

section
variable {C : Cd} {Wx : WX} {ca : Nat → Addr}
def unwel : Sl → Sl
  | .wel => .no
  | s => s
/-- x = a new list of three ints, which is the well from here on -/
def mkW (mk : Bool) (i : Nat) (ρ : List Sl) : Ev → Out
  | .f [.int x, .int y, .int z] => if mk = true ∧ i < ρ.length then .nx ((ρ.map unwel).set i .wel) (some (x, y, z)) else .bad
  | _ => .bad
def sMkW (mk : Bool) (i : Nat) (f : FE) : FS := fun ρ W => (f ρ W).toS ρ fun e W1 => mkW mk i ρ e
theorem ER.mkW {b : Bs} {O : Own} {wa p : Addr} {W : Option Well} {ρ : List Sl} {σ : L2.St} {H : Hp} {w : Well} (I : ER b (OU O p) wa W ρ σ H) (hm : b.mkw = true) (i : Nat) (hi : i < ρ.length) (no : ∀ {c : Bool} (j : Nat) (l : List Dt), ρ[j]? = some (.cn c l) → σ[j]? ≠ some (some (.ref p)))
    (hp : H p = some (.lst (wellVs w))) (hb : b.H p = none) : ER b (OU O p) p (some w) ((ρ.map unwel).set i .wel) (σ.set i (some (.ref p))) H := by
  have his : i < σ.length := by rw [I.len]; exact hi
  have hil : i < (ρ.map unwel).length := by rw [List.length_map]; exact hi
  have old : ∀ (j : Nat) (s : Sl), j ≠ i → ((ρ.map unwel).set i .wel)[j]? = some s → ∃ s', ρ[j]? = some s' ∧ s = unwel s' := fun j s hj e => by
    rw [List.getElem?_set_ne (Ne.symm hj), List.getElem?_map] at e
    cases q : ρ[j]? with
    | none => rw [q] at e; cases e
    | some s' => rw [q] at e; cases e; exact ⟨s', rfl, rfl⟩
  have get : ∀ {c : Bool} (j : Nat) (l : List Dt), ((ρ.map unwel).set i .wel)[j]? = some (.cn c l) → j ≠ i ∧ ρ[j]? = some (.cn c l) := fun j l e => by
    by_cases h : j = i
    · subst h
      rw [List.getElem?_set_self hil] at e
      cases e
    · obtain ⟨s', h1, h2⟩ := old j _ h e
      cases s' <;> first | cases h2 | skip
      exact ⟨h, h1⟩
  refine ⟨by rw [List.length_set, List.length_set, List.length_map, I.len], I.al, fun j t e => ?_, fun j j' l1 l2 x hne h1 h2 h3 h4 => ?_, fun j l1 x h1 h2 h3 => ?_, fun v hv => ?_, I.keep, I.sub, I.new, fun h => ?_, fun h => ⟨(I.wn h).1, fun _ => hb⟩⟩
  · by_cases h : j = i
    · subst h
      rw [List.getElem?_set_self hil] at e
      cases e
      exact ⟨_, List.getElem?_set_self his, rfl⟩
    · obtain ⟨s', h1, h2⟩ := old j _ h e
      obtain ⟨u, u1, u2⟩ := I.sl j s' h1
      refine ⟨u, by rw [List.getElem?_set_ne (Ne.symm h)]; exact u1, ?_⟩
      subst h2
      cases s' with
      | wel => trivial
      | no => trivial
      | ex => cases u <;> exact u2
      | dt d => cases u <;> exact u2
      | cn c l => cases u <;> exact u2
  · obtain ⟨n1, e1⟩ := get j l1 h1
    obtain ⟨n2, e2⟩ := get j' l2 h2
    rw [List.getElem?_set_ne n1.symm] at h3
    rw [List.getElem?_set_ne n2.symm] at h4
    exact I.inj j j' l1 l2 x hne e1 e2 h3 h4
  · obtain ⟨n1, e1⟩ := get j l1 h1
    rw [List.getElem?_set_ne n1.symm] at h2
    exact fun z => no j l1 e1 (z ▸ h2)
  · cases hv
    exact ⟨.inr rfl, hp⟩
  · rw [hm] at h; cases h
theorem ss_mkW {i : Nat} {x : Str} {e : Expr} {f : FE} {pos pos' : Pos} (hi : C.N[i]? = some x) (hx : Loc C.sc x) (hf : C.fn x = true ∨ C.sc.names.lookup x = some .local) (he : SE C e f)
    (hs : ∀ X, C.P X → swapsWith e (some (.Name x pos')) pos.line X.env = pure false := by intro _ _; rfl) : SS C (.Assign [.Name x pos'] e pos) (sMkW C.mkw i f) := by
  obtain ⟨t, p, s⟩ := he
  refine ⟨_, fun X h => ps_set (by rw [C.hN X h]; exact C.nd) (by rw [C.hN X h]; exact hi) (by rw [C.hsc X h]; exact hx) (p X h) (hs X h) (by rw [C.hfn X h, C.hsc X h]; exact hf), fun a W Dn hm I h => ?_⟩
  refine s a W _ I ?_
  unfold sMkW at h
  revert h
  cases f a.ρ W with
  | bad => exact id
  | exc c W1 => exact fun h H' e1 st => h (a.to H') (Aft.est I st) rfl e1
  | ok e W1 =>
    intro h
    have h2 : wS C.Wx C.ca a Dn (mkW C.mkw i a.ρ e) := h
    clear h
    unfold mkW at h2
    split at h2
    · rename_i x y z
      split at h2
      · rename_i hil
        intro p vs H1 e1 st hn e2 np nw no hp al hb
        cases al with
        | cons r1 al => cases al with
          | cons r2 al => cases al with
            | cons r3 al =>
              cases al
              cases r1
              cases r2
              cases r3
              have I2 := ER.mkW (w := (x, y, z)) e1 (hm.trans hil.1) i hil.2 no hp hb
              exact h2 ⟨a.b, OU a.O p, p, (a.ρ.map unwel).set i .wel, a.σ.set i (some (.ref p)), H1, true⟩ ⟨rfl, st.stpO I hn⟩ rfl ⟨I2, rfl⟩
      · exact absurd h2 id
    · exact absurd h2 id

/-! ### loops -/
def forGo (g : FG) (f : FS) : List Dt → FS
  | [] => fun ρ W => .nx ρ W
  | d :: r => fun ρ W => match g d ρ with
    | some ρ1 => (f ρ1 W).seq (forGo g f r)
    | none => .bad
def sFor (fi : FI) (g : FG) (f : FS) : FS := fun ρ W => match fi ρ W with
  | .ok l W1 => forGo g f l ρ W1
  | .exc c W1 => .exc c ρ W1
  | .bad => .bad
theorem snd_for {mk : Bool} {wi : TI} {g : TG} {tb : TS} {fi : FI} {fg : FG} {f : FS} {ix : List Nat} (si : SndI Wx ca wi fi) (sg : SndG g fg ix) (sb : SndS Wx ca mk tb f) : SndS Wx ca mk (tFor wi g tb) (sFor fi fg f) := fun a W Dn hm I h => by
  refine si a W _ I ?_
  unfold sFor at h
  cases ei : fi a.ρ W with
  | bad => rw [ei] at h; exact h
  | exc c W1 => rw [ei] at h; exact fun H' e1 st => h (a.to H') (Aft.est I st) rfl e1
  | ok items W1 =>
    rw [ei] at h
    dsimp only at h
    intro J H1 I1 st1 wk
    obtain ⟨G, Y, wlk, hG, hY⟩ := wk
    refine for_it wlk (fun i σ H => ∃ (a' : At) (Wi : Option Well), Aft (a.to H1) a' ∧ a'.σ = σ ∧ a'.H = H ∧ a'.Er Wi ∧ wS Wx ca a' Dn (forGo fg f (items.drop i) a'.ρ Wi)) ?_ ?_ ?_ ?_
    · exact ⟨a.to H1, W1, Aft.refl, rfl, rfl, I1, wS.later (a' := a.to H1) (o := forGo fg f items a.ρ W1) (Aft.est I st1) h⟩
    · rintro i σ H _ ⟨a', Wi, x, rfl, rfl, _, _⟩
      exact hG a'.O a'.H x.st
    · rintro i x σ H H' hi ⟨a', Wi, af, rfl, rfl, I', hg⟩ hy
      obtain ⟨sm, d, hd, rd⟩ := hY i a'.H x H' a'.O hi af.st I'.1.al hy
      have hdrop : items.drop i = d :: items.drop (i + 1) := by
        obtain ⟨hlt, e⟩ := List.getElem?_eq_some_iff.mp hd
        rw [List.drop_eq_getElem_cons hlt, e]
      rw [hdrop] at hg
      unfold forGo at hg
      split at hg
      · rename_i ρ1 eg
        have I2 : (a'.to H').Er Wi := ⟨I'.1.same sm, I'.2⟩
        have af2 : Aft a' (a'.to H') := ⟨rfl, Stp.same sm⟩
        refine sg (a'.to H') Wi x d ρ1 _ I2 rd eg fun σ2 e2 _ _ => ?_
        have af3 : Aft a' ⟨a'.b, a'.O, a'.wa, ρ1, σ2, H', a'.hw⟩ := ⟨rfl, Stp.same sm⟩
        have hg2 := wS.later (a' := ⟨a'.b, a'.O, a'.wa, ρ1, σ2, H', a'.hw⟩) af3 hg
        refine sb ⟨a'.b, a'.O, a'.wa, ρ1, σ2, H', a'.hw⟩ Wi _ (by show a'.b.mkw = mk; rw [af.b]; exact hm) e2 (wS.nxEnd hg2 rfl fun a'' W'' x'' i'' h'' => ?_)
        exact ⟨a'', W'', (af.trans af3).trans x'', rfl, rfl, i'', h''⟩
      · exact absurd hg id
    · rintro σ H ⟨a', Wi, af, rfl, rfl, I', hg⟩
      rw [List.drop_length] at hg
      exact hg a' Aft.refl rfl I'
theorem ss_for {tg iter : Expr} {body : List Stmt} {fi : FI} {fg : FG} {f : FS} {ix : List Nat} {pos : Pos} (hp : ∀ X, C.P X → PassesOwn (model X.prog X.w) X.A X.env X.xe) (hi : SI C tg iter fi) (hg : SG C tg fg ix) (hb : SB C body f) (hs : ∀ env x, foldedSetIterable iter env x = pure x := by intro _ _; rfl) (hcm : C.cm = true := by rfl) :
    SS C (.For tg iter body [] pos) (sFor fi fg f) := by
  obtain ⟨t1, p1, s1⟩ := hi
  obtain ⟨t2, p2, s2⟩ := hg
  obtain ⟨t3, p3, s3⟩ := hb
  exact ⟨_, fun X h => ps_for (hp X h) (C.calmC hcm X h) (p1 X h) (p2 X h) (p3 X h) (hs _), snd_for s1 s2 s3⟩
/-- turns of a while, at most n -/
def whGo (t : FT) (f : FS) : Nat → FS
  | 0 => fun _ _ => .bad
  | n + 1 => fun ρ W => (t ρ W).toS ρ fun k W1 => if k = true then (f ρ W1).seq (whGo t f n) else .nx ρ W1
theorem snd_while {mk : Bool} {tc : TT} {tb : TS} {ft : FT} {f : FS} (st : SndT Wx ca tc ft) (sb : SndS Wx ca mk tb f) (n : Nat) : SndS Wx ca mk (tWhile tc tb) (whGo ft f n) := fun a W Dn hm I h => by
  refine ⟨fun m σ H => ∃ (a' : At) (Wi : Option Well), Aft a a' ∧ a'.σ = σ ∧ a'.H = H ∧ a'.Er Wi ∧ wS Wx ca a' Dn (whGo ft f m a'.ρ Wi), ⟨n, a, W, Aft.refl, rfl, rfl, I, h⟩, ?_⟩
  rintro m σ H ⟨a', Wi, af, rfl, rfl, I', hg⟩
  cases m with
  | zero => exact absurd hg id
  | succ m =>
    refine st.thenS I' hg fun c W1 H1 e1 st1 h1 => ?_
    cases c with
    | true =>
      refine ⟨fun σ H => ∃ (a' : At) (Wi : Option Well), Aft a a' ∧ a'.σ = σ ∧ a'.H = H ∧ a'.Er Wi ∧ wS Wx ca a' Dn (whGo ft f m a'.ρ Wi), fun σ' H' q => ⟨m, Nat.lt_succ_self m, q⟩, ?_⟩
      refine sb (a'.to H1) W1 _ (by show a'.b.mkw = mk; rw [af.b]; exact hm) e1 (wS.nxEnd (k := whGo ft f m) h1 rfl fun a'' W'' x'' i'' h'' => ?_)
      exact ⟨a'', W'', (af.trans (Aft.est I' st1)).trans x'', rfl, rfl, i'', h''⟩
    | false => exact h1 (a'.to H1) Aft.refl rfl e1
theorem ss_while {c : Expr} {body : List Stmt} {ft : FT} {f : FS} {pos : Pos} (n : Nat) (hp : ∀ X, C.P X → PassesOwn (model X.prog X.w) X.A X.env X.xe) (hc : ST C c ft) (hb : SB C body f) : SS C (.While c body [] pos) (whGo ft f n) := by
  obtain ⟨t1, p1, s1⟩ := hc
  obtain ⟨t3, p3, s3⟩ := hb
  exact ⟨_, fun X h => ps_while (hp X h) (p1 X h) (p3 X h), snd_while s1 s3 n⟩

/-! ### an own list is let go -/
def relS1 (i : Nat) (ρ : List Sl) : List Sl := match ρ[i]? with | some (.cn true l) => ρ.set i (.dt (.list l)) | _ => ρ
theorem ER.let {b : Bs} {O : Own} {wa : Addr} {W : Option Well} {ρ : List Sl} {σ : L2.St} {H : Hp} {i : Nat} {l : List Dt} (I : ER b O wa W ρ σ H) (hi : ρ[i]? = some (.cn true l)) : ∃ O', ER b O' wa W (ρ.set i (.dt (.list l))) σ H ∧ Stp O H O' H := by
  have hil : i < ρ.length := (List.getElem?_eq_some_iff.mp hi).1
  obtain ⟨o, h1, h2⟩ := I.sl i _ hi
  cases o with
  | none => exact absurd h2 id
  | some v =>
    obtain ⟨p, vs, rfl, op, hp, al, h0⟩ := h2
    have st : Stp O H (fun a => O a ∧ a ≠ p) H := fun a o n q => ⟨fun z => n z.1, q⟩
    have np : ¬ (fun a => O a ∧ a ≠ p) p := fun z => z.2 rfl
    refine ⟨fun a => O a ∧ a ≠ p, ⟨by rw [List.length_set]; exact I.len, fun a oa => I.al a oa.1, fun j t e => ?_, fun j j' l1 l2 x hne h1' h2' h3 h4 => ?_, fun j l1 x h1' h2' h3 => ?_, fun w hw => ⟨⟨(I.wl w hw).1, fun z => I.nw i l p hi h1 (by rw [hw]; rfl) z.symm⟩, (I.wl w hw).2⟩, I.keep, fun a q => ⟨I.sub a q, fun z => b.bo a q (z ▸ h0)⟩, fun a q => I.new a q.1, I.wm, I.wn⟩, st⟩
    · by_cases h : i = j
      · subst h
        rw [List.getElem?_set_self hil] at e
        cases e
        exact ⟨_, h1, Rp.lst (.inl ⟨np, .inl hp⟩) (al.stp st)⟩
      · rw [List.getElem?_set_ne h] at e
        obtain ⟨u, u1, u2⟩ := I.sl j t e
        refine ⟨u, u1, u2.stp st fun x us oa hx h0' hl hu => ⟨⟨oa, ?_⟩, hx⟩⟩
        obtain ⟨c', l', rfl⟩ := hl
        subst hu
        intro z
        subst z
        exact I.inj i j l l' x h hi e h1 u1
    · have g : ∀ {c : Bool} (j : Nat) (l1 : List Dt), (ρ.set i (.dt (.list l)))[j]? = some (.cn c l1) → ρ[j]? = some (.cn c l1) := fun j l1 e => by
        by_cases h : i = j
        · subst h; rw [List.getElem?_set_self hil] at e; cases e
        · rw [List.getElem?_set_ne h] at e; exact e
      exact I.inj j j' l1 l2 x hne (g j l1 h1') (g j' l2 h2') h3 h4
    · by_cases h : i = j
      · subst h; rw [List.getElem?_set_self hil] at h1'; cases h1'
      · rw [List.getElem?_set_ne h] at h1'; exact I.nw j l1 x h1' h2' h3
def sRel (i : Nat) (f : FS) : FS := fun ρ W => f (relS1 i ρ) W
theorem snd_rel {mk : Bool} {t : TS} {f : FS} (s : SndS Wx ca mk t f) (i : Nat) : SndS Wx ca mk t (sRel i f) := fun a W Dn hm I h => by
  unfold sRel relS1 at h
  split at h
  · rename_i l hl
    obtain ⟨O', I', st⟩ := I.1.let hl
    exact s ⟨a.b, O', a.wa, a.ρ.set i (.dt (.list l)), a.σ, a.H, a.hw⟩ W Dn hm ⟨I', I.2⟩ (wS.later (a := a) (a' := ⟨a.b, O', a.wa, a.ρ.set i (.dt (.list l)), a.σ, a.H, a.hw⟩) ⟨rfl, st⟩ h)
  · exact s a W Dn hm I h
theorem sb_rel {sts : List Stmt} {f : FS} (i : Nat) (h : SB C sts f) : SB C sts (sRel i f) := by
  obtain ⟨t, p, s⟩ := h
  exact ⟨t, p, snd_rel s i⟩
theorem ss_rel {st : Stmt} {f : FS} (i : Nat) (h : SS C st f) : SS C st (sRel i f) := by
  obtain ⟨t, p, s⟩ := h
  exact ⟨t, p, snd_rel s i⟩

/-! ### own lists read, the answer flat -/
def flat : Dt → Bool
  | .list _ => false
  | .tuple _ => false
  | .dict _ => false
  | _ => true
theorem Rp.flat {O O' : Own} {H : Hp} {v : V} {d : Dt} (r : Rp O H v d) (h : Lw.flat d = true) : Rp O' H v d := by
  cases r with
  | non => exact .non
  | bl b => exact .bl b
  | int i => exact .int i
  | str s => exact .str s
  | lst _ _ => cases h
  | tup _ _ => cases h
  | dct _ _ => cases h
  | dki _ _ _ _ => cases h
  | dko _ _ _ => cases h
/-- arguments, own lists among them -/
def ArO (wa : Addr) (hw : Bool) (O : Own) (H : Hp) : Sl → V → Prop
  | .dt d, v => Rp O H v d
  | .cn true l, v => ∃ a vs, v = .ref a ∧ (hw = true → a ≠ wa) ∧ H a = some (.lst vs) ∧ RpA O H vs l
  | _, _ => False
inductive ArOs (wa : Addr) (hw : Bool) (O : Own) (H : Hp) : List Sl → List V → Prop
  | nil : ArOs wa hw O H [] []
  | cons {s : Sl} {v : V} {ss : List Sl} {vs : List V} : ArO wa hw O H s v → ArOs wa hw O H ss vs → ArOs wa hw O H (s :: ss) (v :: vs)
def datasO : List Sl → Option (List Dt)
  | [] => some []
  | .dt d :: r => (datasO r).map (d :: ·)
  | .cn true l :: r => (datasO r).map (.list l :: ·)
  | _ :: _ => none
theorem ArOs.datas {wa : Addr} {hw : Bool} {O : Own} {H : Hp} : ∀ {as : List Sl} {vs : List V} {ds : List Dt}, ArOs wa hw O H as vs → datasO as = some ds → RpA (fun _ => False) H vs ds
  | _, _, ds, .nil, e => by cases e; exact .nil
  | .dt d :: r, _, ds, .cons h t, e => by
    unfold datasO at e
    cases q : datasO r with
    | none => rw [q] at e; cases e
    | some es =>
      rw [q] at e
      cases e
      exact .cons (Rp.stp (Stp.less fun _ z => z.elim) h) (ArOs.datas t q)
  | .cn true l :: r, _, ds, .cons h t, e => by
    unfold datasO at e
    cases q : datasO r with
    | none => rw [q] at e; cases e
    | some es =>
      rw [q] at e
      cases e
      obtain ⟨a, vs, rfl, _, ha, al⟩ := h
      exact .cons (.lst (.inl ⟨id, .inl ha⟩) (RpA.stp (Stp.less fun _ z => z.elim) al)) (ArOs.datas t q)
  | .no :: r, _, ds, .cons h t, e => by cases e
  | .wel :: r, _, ds, .cons h t, e => by cases e
  | .ex _ _ :: r, _, ds, .cons h t, e => by cases e
def wO (Wx : WX) (ca : Nat → Addr) (a : At) (Q : List V → Hp → Prop) : RA → Prop
  | .ok as W' => ∀ vs H', (a.to H').Er W' → Est a.wa a.hw a.H H' → ArOs a.wa a.hw a.O H' as vs → Q vs H'
  | .exc c W' => ∀ H', (a.to H').Er W' → Est a.wa a.hw a.H H' → Wx (.ref (ca c)) none a.σ H'
  | .bad => False
theorem wO.later {a : At} {H1 : Hp} {r : RA} {Q : List V → Hp → Prop} (st : Est a.wa a.hw a.H H1) (h : wO Wx ca a Q r) : wO Wx ca (a.to H1) Q r := by
  cases r with
  | bad => exact h
  | exc c W2 => exact fun H' e2 st2 => h H' e2 (st.trans st2)
  | ok e2 W2 => exact fun v H' e3 st2 r => h v H' e3 (st.trans st2) r
def SndO (Wx : WX) (ca : Nat → Addr) (t : TA) (f : FA) : Prop := ∀ (a : At) (W : Option Well) (Q : List V → Hp → Prop), a.Er W → wO Wx ca a Q (f a.ρ W) → t a.σ a.H Q
theorem SndO.go {t : TA} {f : FA} (s : SndO Wx ca t f) {a : At} {W : Option Well} (I : a.Er W) {Q Q' : List V → Hp → Prop} {k : List Sl → List Sl} (h : wO Wx ca a Q ((f a.ρ W).bindA fun as W2 => .ok (k as) W2))
    (hok : ∀ (as : List Sl) (W1 : Option Well) vs H1, (a.to H1).Er W1 → Est a.wa a.hw a.H H1 → ArOs a.wa a.hw a.O H1 as vs → wO Wx ca (a.to H1) Q (.ok (k as) W1) → Q' vs H1) : t a.σ a.H Q' := by
  refine s a W Q' I ?_
  revert h
  cases f a.ρ W with
  | bad => exact id
  | exc c W1 => exact id
  | ok as W1 => exact fun h vs H1 e1 st r1 => hok as W1 vs H1 e1 st r1 (wO.later (r := .ok (k as) W1) st h)
/-- arguments, own lists among them (read only) -/
def SO (C : Cd) (es : List Expr) (f : FA) : Prop := ∃ t, (∀ X, C.P X → PA X es t) ∧ SndO C.Wx C.ca t f
def aOw (i : Nat) (g : FA) : FA := fun ρ W => match ρ[i]? with | some (.cn true l) => (g ρ W).bindA fun as W2 => .ok (.cn true l :: as) W2 | _ => .bad
theorem so_nil : SO C [] aNil := ⟨_, fun _ _ => pa_nil, fun a W Q I h => h [] a.H I Est.refl .nil⟩
theorem so_cons {e : Expr} {es : List Expr} {f : FE} {g : FA} (he : SE C e f) (hs : SO C es g) (hst : ∀ env, starEach (e :: es) env = (false, eval e env) :: starEach es env := by intro _; rfl) : SO C (e :: es) (aCons f g) := by
  obtain ⟨t, p, s⟩ := he
  obtain ⟨u, q, z⟩ := hs
  refine ⟨_, fun X h => pa_cons (p X h) (q X h) (hst _), fun a W Q I h => ?_⟩
  refine s.run I rfl (Z := fun r => wO C.Wx C.ca a Q (r.bindA fun x W1 => (g a.ρ W1).bindA fun as W2 => .ok (.dt x :: as) W2)) h id (fun c W1 z => z) fun x ev W1 v H1 hx h1 e1 st r1 => ?_
  subst hx
  refine z.go (a := a.to H1) (k := fun as => .dt ev.D :: as) e1 (wO.later (r := (g a.ρ W1).bindA fun as W2 => .ok (.dt ev.D :: as) W2) st h1) fun as W2 vs H2 e2 st2 r2 h2 => ?_
  exact h2 (v :: vs) H2 e2 Est.refl (.cons (Rp.stp (st2.stp (a := a.to H1) e1) r1) r2)
theorem so_own {i : Nat} {x : Str} {pos : Pos} {es : List Expr} {g : FA} (hN : C.N[i]? = some x) (hv : Vis C.sc x) (hs : SO C es g) (hd : (x == ("__debug__" : Str)) = false := by decide) (hcd : (x == ("__classdict__" : Str)) = false := by decide)
    (hst : ∀ env, starEach (.Name x pos :: es) env = (false, eval (.Name x pos) env) :: starEach es env := by intro _; rfl) : SO C (.Name x pos :: es) (aOw i g) := by
  obtain ⟨u, q, z⟩ := hs
  refine ⟨_, fun X h => pa_cons (pe_var (i := i) (by rw [C.hN X h]; exact hN) (by rw [C.hsc X h]; exact hv) hd hcd) (q X h) (hst _), fun a W Q I h => ?_⟩
  unfold aOw at h
  split at h
  · rename_i l e
    obtain ⟨o, h1, h2⟩ := I.1.sl i _ e
    cases o with
    | none => exact absurd h2 id
    | some v =>
      obtain ⟨p, vs, rfl, op, hp, al, h0⟩ := h2
      refine ⟨_, h1, ?_⟩
      refine z.go I (k := fun as => .cn true l :: as) h fun as W2 ws H2 e2 st2 r2 h3 => ?_
      exact h3 (_ :: ws) H2 e2 Est.refl (.cons ⟨p, vs, rfl, fun hw => I.1.nw i l p e h1 (I.2.trans hw), st2 p _ (fun hw => I.1.nw i l p e h1 (I.2.trans hw)) hp, al.stp (st2.stp I)⟩ r2)
  · exact absurd h id
/-- a builtin of own lists, its answer flat -/
def flatE : Option Ev → Option Ev
  | some (.d z) => if flat z = true then some (.d z) else none
  | _ => none
def eCallO (g : List Dt → Option Ev) (fa : FA) : FE := fun ρ W => (fa ρ W).bind fun as W1 => match datasO as with | some ds => ofP (flatE (g ds)) W1 | none => .bad
theorem SndO.thenE {t : TA} {f : FA} (s : SndO Wx ca t f) {a : At} {W : Option Well} (I : a.Er W) {Q : VK} {Q' : List V → Hp → Prop} {k : List Sl → Option Well → Res} (h : wE Wx ca a Q ((f a.ρ W).bind k))
    (hok : ∀ (x : List Sl) (W1 : Option Well) vs H1, (a.to H1).Er W1 → Est a.wa a.hw a.H H1 → ArOs a.wa a.hw a.O H1 x vs → wE Wx ca { a with H := H1 } Q (k x W1) → Q' vs H1) : t a.σ a.H Q' := by
  refine s a W Q' I ?_
  revert h
  cases f a.ρ W with
  | bad => exact id
  | exc c W1 => exact id
  | ok as W1 => exact fun h vs H1 e1 st r1 => hok as W1 vs H1 e1 st r1 (wE.later (r := k as W1) I e1 st h)
theorem flat_wP {a : At} {W : Option Well} {Q : VK} {o : Option Ev} (I : a.Er W) (h : wE Wx ca a Q (ofP (flatE o) W)) : wP (fun _ => False) a.H Q o := by
  cases o with
  | none => exact h
  | some e =>
    cases e with
    | f l => exact absurd h id
    | d z =>
      have h2 : wE Wx ca a Q (ofP (if flat z = true then some (.d z) else none) W) := h
      split at h2
      · rename_i hz
        exact fun v H' sm r => h2 v H' ⟨I.1.same sm, I.2⟩ (Est.same sm) (r.flat hz)
      · exact absurd h2 id
theorem snd_callO {t : TA} {fa : FA} {g : List Dt → Option Ev} {r : List V → Hp → VK → Prop} (hp : Pure r g) (s : SndO Wx ca t fa) : SndE Wx ca (tCB r t) (eCallO g fa) := fun a W Q I h => by
  refine s.thenE I h fun as W1 vs H1 e1 st r1 h1 => ?_
  split at h1
  · rename_i ds e
    exact hp (fun _ => False) H1 vs ds Q (fun _ z => z.elim) (r1.datas e) (flat_wP (a := { a with H := H1 }) e1 h1)
  · exact absurd h1 id
theorem se_callBO {id : String} {e : Expr} {es : List Expr} {pos p : Pos} {x : Str} {fa : FA} {g : List Dt → Option Ev} {r : List V → Hp → VK → Prop} (hc : ∀ X, C.P X → CallR X (.builtin id) r) (hp : Pure r g) (hg : C.G x) (hm : C.mg x = none) (hb : bootBuiltins x = some (.builtin id)) (ha : SO C (e :: es) fa)
    (hn : x ≠ ("__name__" : Str) := by decide) (hd : (x == ("__debug__" : Str)) = false := by decide) (he : ∀ env, starEach (e :: es) env = (false, eval e env) :: starEach es env := by intro _; rfl) (hpl : ∀ env, (backTo pos (starEach es env)).any (·.1) = false := by intro _; rfl) :
    SE C (.Call (.Name x p) (e :: es) [] pos) (eCallO g fa) := by
  obtain ⟨t, q, s⟩ := ha
  exact ⟨_, fun X h => pe_callB (hc X h) (C.gl h hg) (by rw [C.hmg X h]; exact hm) hb (q X h) hn hd (he _) (hpl _), snd_callO hp s⟩
/-- an operand: data, or an own list read -/
def SQ (C : Cd) (e : Expr) (f : FA) : Prop := ∃ t, (∀ X, C.P X → PE X e t) ∧ ∀ (a : At) (W : Option Well) (Q : VK), a.Er W → wO C.Wx C.ca a (fun vs H => ∃ v, vs = [v] ∧ Q v H) (f a.ρ W) → t a.σ a.H Q
def qE (f : FE) : FA := fun ρ W => (f ρ W).bindA fun x W1 => .ok [.dt x] W1
def qO (i : Nat) : FA := fun ρ W => match ρ[i]? with | some (.cn true l) => .ok [.cn true l] W | _ => .bad
theorem sq_e {e : Expr} {f : FE} (he : SE C e f) : SQ C e (qE f) := by
  obtain ⟨t, p, s⟩ := he
  refine ⟨t, p, fun a W Q I h => ?_⟩
  refine s.run I rfl (Z := fun r => wO C.Wx C.ca a (fun vs H => ∃ v, vs = [v] ∧ Q v H) (r.bindA fun x W1 => .ok [.dt x] W1)) h id (fun c W1 z => z) fun x ev W1 v H1 hx h1 e1 st r1 => ?_
  subst hx
  obtain ⟨v', e, q⟩ := h1 [v] H1 e1 st (.cons r1 .nil)
  cases e
  exact q
theorem sq_o {i : Nat} {x : Str} {pos : Pos} (hN : C.N[i]? = some x) (hv : Vis C.sc x) (hd : (x == ("__debug__" : Str)) = false := by decide) (hcd : (x == ("__classdict__" : Str)) = false := by decide) : SQ C (.Name x pos) (qO i) := by
  refine ⟨_, fun X h => pe_var (i := i) (by rw [C.hN X h]; exact hN) (by rw [C.hsc X h]; exact hv) hd hcd, fun a W Q I h => ?_⟩
  unfold qO at h
  split at h
  · rename_i l e
    obtain ⟨o, h1, h2⟩ := I.1.sl i _ e
    cases o with
    | none => exact absurd h2 id
    | some v =>
      obtain ⟨p, vs, rfl, op, hp, al, h0⟩ := h2
      obtain ⟨v', e, q⟩ := h [.ref p] a.H I Est.refl (.cons ⟨p, vs, rfl, fun hw => I.1.nw i l p e h1 (I.2.trans hw), hp, al⟩ .nil)
      cases e
      exact ⟨_, h1, q⟩
  · exact absurd h id
def eBinO (g : G2) (f f' : FA) : FE := fun ρ W => (f ρ W).bind fun as W1 => match datasO as with
  | some [x] => (f' ρ W1).bind fun bs W2 => match datasO bs with | some [y] => ofP (flatE (g x y)) W2 | _ => .bad
  | _ => .bad
theorem sc_cmpO {a b : Expr} {pos : Pos} {op : CmpOp} {r : R2} {g : G2} {fa fb : FA} (ho : ∀ X, C.P X → OpR X (compareOp op) r) (hp : Pure2 r g) (ha : SQ C a fa) (hb : SQ C b fb) (hm : behindInMarks op b = false) : SC C (.Compare a [op] [b] pos) (eBinO g fa fb) := by
  obtain ⟨t, p, s⟩ := ha
  obtain ⟨u, q, z⟩ := hb
  refine ⟨_, fun X h => ⟨pe_cmpR (ho X h) (p X h) (q X h) hm, pt_cmpR (ho X h) (p X h) (q X h) hm⟩, fun a W Q I h => ?_⟩
  refine s a W _ I ?_
  unfold eBinO RA.bind at h
  revert h
  cases fa a.ρ W with
  | bad => exact id
  | exc c W1 => exact id
  | ok as W1 =>
    intro h vs H1 e1 st r1
    dsimp only at h
    split at h
    · rename_i x hx
      have al := r1.datas hx
      cases al with
      | cons rx al =>
        cases al
        rename_i v
        refine ⟨v, rfl, ?_⟩
        refine z (a.to H1) W1 _ e1 ?_
        revert h
        show wE C.Wx C.ca a Q (match fb a.ρ W1 with | .ok bs W2 => (match datasO bs with | some [y] => ofP (flatE (g x y)) W2 | _ => .bad) | .exc c W2 => .exc c W2 | .bad => .bad) → wO C.Wx C.ca (a.to H1) _ (fb a.ρ W1)
        cases fb a.ρ W1 with
        | bad => exact id
        | exc c W2 => exact fun h H2 e2 st2 => h H2 e2 (st.trans st2)
        | ok bs W2 =>
          intro h ws H2 e2 st2 r2
          dsimp only at h
          split at h
          · rename_i y hy
            have al := r2.datas hy
            cases al with
            | cons ry al =>
              cases al
              rename_i w
              refine ⟨w, rfl, ?_⟩
              have rx2 : Rp (fun _ => False) H2 v x := by
                have := ArOs.datas (keepO (a := a.to H1) e1 st2 r1) hx
                cases this with
                | cons r _ => exact r
              exact hp (fun _ => False) H2 v w x y Q (fun _ z => z.elim) rx2 ry (flat_wP (a := a.to H2) e2 (wE.later (r := ofP (flatE (g x y)) W2) I e2 (st.trans st2) h))
          · exact absurd h id
    · exact absurd h id
where
  keepO {a : At} {W : Option Well} {H' : Hp} (I : a.Er W) (st : Est a.wa a.hw a.H H') : ∀ {as : List Sl} {vs : List V}, ArOs a.wa a.hw a.O a.H as vs → ArOs a.wa a.hw a.O H' as vs
    | _, _, .nil => .nil
    | .dt d :: _, _, .cons r t => .cons (s := .dt d) (Rp.stp (st.stp I) r) (keepO I st t)
    | .cn true l :: _, _, .cons ⟨p, vs, e, hn, hp, al⟩ t => .cons (s := .cn true l) ⟨p, vs, e, hn, st p _ hn hp, al.stp (st.stp I)⟩ (keepO I st t)
    | .no :: _, _, .cons h _ => absurd h id
    | .wel :: _, _, .cons h _ => absurd h id
    | .ex _ _ :: _, _, .cons h _ => absurd h id
end
end Lw
set_option Elab.async false
set_option linter.all false
set_option maxRecDepth 100000
set_option maxHeartbeats 2000000
set_option autoImplicit false
namespace Lw
open PySem PySem.Spec PyProof.Rows L2
variable [KI : FragI]

/-! ### defs -/
section
variable {P : Program} {w : World} {mg : Str → Option Value} {base : Heap}
/-- where a def's body stands -/
def cdOf (P : Program) (w : World) (mg : Str → Option Value) (base : Heap) (N ps : List Str) (qual : Str) (scope : Scope) (f : Addr) (k : Nat) (ca : Nat → Addr) (mk : Bool) (S : FnScope N ps scope) (cdv : Value) (A : Around) (outer : List Env) (s : Shared) (H : Hp) (E : XK)
    (hr : Room k (A.deeper (envOfC qual scope s.heap.objs.size f cdv))) : Cd where
  P := fun X => X = cxOf (L2.CX P w) P w fK mg base N qual scope f cdv A outer s H E
  prog := P
  w := w
  mg := mg
  base := base
  N := N
  sc := scope
  k := k
  Wx := fun cls d _ H => E cls d H
  ca := ca
  mkw := mk
  hprog := by rintro X rfl; rfl
  hw := by rintro X rfl; rfl
  hK := by rintro X rfl; rfl
  hmg := by rintro X rfl; rfl
  hbase := by rintro X rfl; rfl
  hN := by rintro X rfl; rfl
  hsc := by rintro X rfl; rfl
  cm := true
  calmC := by rintro _ X rfl; rfl
  roomC := by rintro _ X rfl; exact hr
  unX := by rintro X rfl; exact hr.un
  pass := by rintro X rfl σ; exact passAt (takes_of rfl rfl rfl rfl) σ
  nd := S.nd
  fn := fun _ => true
  hfn := by rintro X rfl; rfl
/-- the body's answer as the call's -/
def Out.res : Out → Res
  | .nx _ W => .ok (.d .none) W
  | .rt e W => .ok e W
  | .exc c _ W => .exc c W
  | _ => .bad
def runF (n : Nat) (f : FS) : FF := fun as W => (f (as ++ List.replicate (n - as.length) .no) W).res
theorem ArRs.get {O : Own} {wa : Addr} {H : Hp} : ∀ {as : List Sl} {vs : List V} {i : Nat} {s : Sl}, ArRs O wa H as vs → as[i]? = some s → ∃ v, vs[i]? = some v ∧ ArR O wa H s v
  | _, _, _, _, .nil, e => by simp at e
  | _, _, 0, s, .cons r _, e => by simp at e; subst e; exact ⟨_, rfl, r⟩
  | _, _, i + 1, s, .cons _ t, e => by
    obtain ⟨v, h1, h2⟩ := ArRs.get (i := i) (s := s) t (by simpa using e)
    exact ⟨v, by simpa using h1, h2⟩
theorem er_start {b : Bs} {O : Own} {wa : Addr} {W : Option Well} {as : List Sl} {vs : List V} {H : Hp} {n : Nat} (N : List Str) (hn : N.length = n) (ho : ∀ a, O a → H a ≠ none) (har : ArRs O wa H as vs) (hwl : ∀ w, W = some w → O wa ∧ H wa = some (.lst (wellVs w)))
    (hb : b.O = O) (hH : b.H = H) (hwm : b.mkw = false → W.isSome = b.W.isSome ∧ wa = b.wa) (hwn : b.mkw = true → b.W = none ∧ W = none) : ER b O wa W (as ++ List.replicate (n - as.length) .no) (L2.start N vs) H := by
  have hl := har.length
  have no : ∀ {c : Bool} (i : Nat) (l : List Dt), (as ++ List.replicate (n - as.length) Sl.no)[i]? ≠ some (.cn c l) := fun i l e => by
    by_cases h : i < as.length
    · rw [List.getElem?_append_left h] at e
      obtain ⟨v, _, r⟩ := har.get e
      exact r
    · rw [List.getElem?_append_right (by omega), List.getElem?_replicate] at e
      split at e <;> cases e
  refine ⟨?_, ho, fun i s e => ?_, fun i j l l' a _ h1 _ _ _ => absurd h1 (no i l), fun i l a h1 _ _ => absurd h1 (no i l), hwl, fun a o _ h => by rw [← hH]; exact h, fun a h => by rw [← hb]; exact h, fun a h => .inl (by rw [hb]; exact h), hwm, fun h => ⟨(hwn h).1, fun z => by rw [(hwn h).2] at z; cases z⟩⟩
  · unfold L2.start
    rw [List.length_append, List.length_append, List.length_map, List.length_replicate, List.length_replicate, ← hn, hl]
  · unfold L2.start
    by_cases h : i < as.length
    · rw [List.getElem?_append_left h] at e
      obtain ⟨v, hv, r⟩ := har.get e
      refine ⟨some v, ?_, ?_⟩
      · rw [List.getElem?_append_left (by rw [List.length_map]; omega), List.getElem?_map, hv]
        rfl
      · cases s with
        | no => exact absurd r id
        | dt d => exact r
        | wel => exact r
        | ex => exact r
        | cn c l => exact absurd r id
    · rw [List.getElem?_append_right (by omega), List.getElem?_replicate] at e
      split at e
      · rename_i hi
        cases e
        refine ⟨none, ?_, trivial⟩
        rw [List.getElem?_append_right (by rw [List.length_map]; omega), List.length_map, List.getElem?_replicate, if_pos (by omega)]
      · cases e
theorem fn_ok {x qual : Str} {st : Stmt} {f : Addr} {fd : FuncData} {N ps : List Str} {k : Nat} {ca : Nat → Addr} {g : FS} {n m : Nat} (F : L2.Fun fK x qual st f fd) (S : FnScope N ps (defScope st)) (hm : ps.length = m) (hn : N.length = n)
    (hb : ∀ cdv A outer s H E hr, SB (cdOf P w mg base N ps qual (defScope st) f k ca false S cdv A outer s H E hr) (defBody st) g) : FnOk P w fK mg base (L2.CX P w) (k + 1) f fd ps (spF ca m (runF n g)) := by
  refine F.okX S (fun vs H Q E h => ?_) (fun cdv A outer s H vs Q E hr h => ?_)
  · obtain ⟨_, _, _, _, hl, _⟩ := h
    rw [hl, hm]
  · obtain ⟨O, wa, W, as, hl, ho, har, hwl, hw⟩ := h
    obtain ⟨t, p, snd⟩ := hb cdv A outer s H E hr
    refine ⟨t, p _ rfl, ?_⟩
    have hnb : (false : Bool) = true → W = none ∧ W = none := fun h => Bool.noConfusion h
    refine snd ⟨⟨O, H, wa, W, false, ho, 0⟩, O, wa, as ++ List.replicate (n - as.length) .no, L2.start N vs, H, W.isSome⟩ W _ rfl ⟨er_start N hn ho har hwl rfl rfl (fun _ => ⟨rfl, rfl⟩) hnb, rfl⟩ ?_
    unfold runF at hw
    have cal : ∀ (a' : At) (W' : Option Well), a'.b = ⟨O, H, wa, W, false, ho, 0⟩ → a'.Er W' → Cal wa W W' H a'.H := fun a' W' e I => by
      have I1 := I.1
      rw [e] at I1
      obtain ⟨m1, m2⟩ := I1.wm rfl
      refine ⟨fun z o hz q => I1.keep z o hz q, fun v hv => ?_, m1⟩
      have := (I1.wl v hv).2
      rw [m2] at this
      exact this
    revert hw
    show wF ca O wa W H Q E (g (as ++ List.replicate (n - as.length) .no) W).res → wS _ _ _ _ (g (as ++ List.replicate (n - as.length) .no) W)
    cases g (as ++ List.replicate (n - as.length) .no) W with
    | bad => exact id
    | bk ρ' W' => exact id
    | ct ρ' W' => exact id
    | nx ρ' W' => exact fun hw a' x e i => hw .non a'.H (cal a' W' x.b i) .non
    | exc c ρ' W' => exact fun hw a' x e i => hw a'.H (cal a' W' x.b i)
    | rt ev W' =>
      cases ev with
      | d z =>
        intro hw a' v x i r
        refine hw v a'.H (cal a' W' x.b i) (r.stp (Stp.less fun q hq => ?_))
        have I1 := i.1
        rw [x.b] at I1
        exact I1.sub q hq
      | f l =>
        intro hw a' q vs' x i n1 n2 n3 n4
        rw [x.b] at n2
        have n2' : H q = none := n2
        refine hw q vs' a'.H (cal a' W' x.b i) n2' n3 (n4.stp (Stp.less fun z hz => ?_))
        have I1 := i.1
        rw [x.b] at I1
        exact hz.elim (fun y => .inl (I1.sub z y)) .inr
/-- what a caller gets -/
theorem df_of {C : Cd} {x : Str} {ps : List Str} {F : FF} {j : Nat} {f : Addr} {fd : FuncData} (h : FnOk C.prog C.w fK C.mg C.base (L2.CX C.prog C.w) j f fd ps (spF C.ca ps.length F)) (hj : j ≤ C.k) (m : C.mg x = some (.ref f)) (k : PySem.W.keepIn fK (.ref f) = true) (b : L2.Binds fK fd ps []) : Df C x ps F :=
  ⟨f, fd, h.mono hj, m, k, b⟩
/-- the law's own promise -/
def spLaw (good : List Int → Prop) : Sp := fun vs H Q _ => ∃ (a : Addr) (ns : List Int), vs = [.ref a] ∧ LsR (fun _ => False) H a (ns.map V.int) ∧ good ns ∧ ∀ H', Q (.bl true) H'
theorem law_ok {x qual : Str} {st : Stmt} {f : Addr} {fd : FuncData} {N ps : List Str} {k : Nat} {ca : Nat → Addr} {g : FS} {n : Nat} {good : List Int → Prop} (F : L2.Fun fK x qual st f fd) (S : FnScope N ps (defScope st)) (hm : ps.length = 1) (hn : N.length = n)
    (hb : ∀ cdv A outer s H E hr, SB (cdOf P w mg base N ps qual (defScope st) f k ca true S cdv A outer s H E hr) (defBody st) g)
    (hg : ∀ ns, good ns → ∃ W', runF n g [.dt (.list (ns.map PyData.int))] none = .ok (.d (.bool true)) W') : FnOk P w fK mg base (L2.CX P w) (k + 1) f fd ps (spLaw good) := by
  refine F.okX S (fun vs H Q E h => ?_) (fun cdv A outer s H vs Q E hr h => ?_)
  · obtain ⟨_, _, rfl, _⟩ := h
    rw [hm]
    rfl
  · obtain ⟨a, ns, rfl, hs, hgood, q⟩ := h
    obtain ⟨W', hres⟩ := hg ns hgood
    obtain ⟨t, p, snd⟩ := hb cdv A outer s H E hr
    refine ⟨t, p _ rfl, ?_⟩
    have har : ArRs (fun _ => False) 0 H [.dt (.list (ns.map PyData.int))] [.ref a] := .cons (.lst hs (RpA.ints ns)) .nil
    have hf : (true : Bool) = false → (none : Option Well).isSome = (none : Option Well).isSome ∧ (0 : Addr) = 0 := fun h => Bool.noConfusion h
    refine snd ⟨⟨fun _ => False, H, 0, none, true, fun _ z => z.elim, 0⟩, fun _ => False, 0, [.dt (.list (ns.map PyData.int))] ++ List.replicate (n - 1) .no, L2.start N [.ref a], H, false⟩ none _ rfl ⟨er_start N hn (fun _ z => z.elim) har (fun w z => by cases z) rfl rfl hf (fun _ => ⟨rfl, rfl⟩), rfl⟩ ?_
    unfold runF at hres
    revert hres
    show (g ([.dt (.list (ns.map PyData.int))] ++ List.replicate (n - 1) .no) none).res = _ → wS _ _ _ _ (g ([.dt (.list (ns.map PyData.int))] ++ List.replicate (n - 1) .no) none)
    cases g ([.dt (.list (ns.map PyData.int))] ++ List.replicate (n - 1) .no) none with
    | bad => exact fun h => nomatch h
    | bk ρ' W' => exact fun h => nomatch h
    | ct ρ' W' => exact fun h => nomatch h
    | nx ρ' W' => exact fun h => nomatch h
    | exc c ρ' W' => exact fun h => nomatch h
    | rt ev W2 =>
      intro h
      cases h
      intro a' v x i r
      cases r
      exact q a'.H
end
end Lw
set_option Elab.async false
set_option linter.all false
set_option maxRecDepth 100000
set_option maxHeartbeats 2000000
set_option autoImplicit false
namespace Lw
open PySem PySem.Spec PyProof.Rows L2
variable [KI : FragI]

/-! ### f(k = v, ..) -/
theorem pe_callSK0 {X : Cx} {CX : CXT} {k : Nat} {f : Addr} {fd : FuncData} {ps ks : List Str} {sp : Sp} {E : L2.St → XK} {x : Str} {p pos : Pos} {kws : List Keyword} {tk : TA} {g : List Value → List Value → List Value} {gV : List V → List V → List V}
    (F : FnOk X.prog X.w X.K X.mg X.base CX k f fd ps sp) (hr : Room k X.A) (hg : Gl X x) (hm : X.mg x = some (.ref f)) (hk : PySem.W.keepIn X.K (.ref f) = true) (hb : KBn X.K fd ps 0 ks g gV) (hx : ∀ σ, PassesAt CX X σ (E σ))
    (hkw : PK X kws tk) (hall : (backToKw pos (keywordEach kws X.env)).all (·.1.isSome) = true) (hks : (backToKw pos (keywordEach kws X.env)).filterMap (·.1) = ks) (hdb : (x == ("__debug__" : Str)) = false) (hpl : ((backTo pos (starEach [] X.env)).any (·.1) || (backToKw pos (keywordEach kws X.env)).any (·.1.isNone)) = false) :
    PE X (.Call (.Name x p) [] kws pos) (fun σ H Q => tk σ H fun zs H2 => zs.length = ks.length ∧ sp (gV [] zs) H2 Q (E σ)) := by
  refine ⟨fun pins s σ H Q I h => ?_⟩
  refine wpAny_Call_Name_kw (ld_glob I hg hm ?_ hdb)
  refine PySem.W.callWith_KW0 (h₀ := X.base) I.ok.mod.kin hk hall (thn (hkw.run pos pins s σ H _ I h) fun ws s2 ⟨zs, H2, I2, rz, l2, q2⟩ => ⟨I2.kIn, ?_⟩) hpl
  rw [hks]
  have r2 := hb.rel (vs := []) (us := []) .nil rz
  refine wpAny_call (codeAny_mono (F.run X.A X.stack s2 H2 ⟨[], ks.zip ws⟩ (g [] ws) (gV [] zs) Q (E σ) hr I2.env0 (hb.to s2 [] ws I2.kIn rfl (rz.length.symm.trans l2)) r2 q2) fun r s' hq => ?_)
  cases r with
  | error e => exact hx σ pins H2 s2 e s' I2 hq
  | ok fl =>
    cases fl with
    | ret u => exact I2.after hq
    | next => exact False.elim hq
    | brk => exact False.elim hq
    | cont => exact False.elim hq
/-- the values of keywords -/
def SK (C : Cd) (kws : List Keyword) (f : FA) : Prop := ∃ t, (∀ X, C.P X → PK X kws t) ∧ SndA C.Wx C.ca t f
section
variable {C : Cd}
theorem sk_nil : SK C [] aNil := ⟨_, fun _ _ => pk_nil, fun a W Q I h => h [] a.H I Est.refl .nil⟩
theorem sk_cons {e : Expr} {nm : Option Str} {kpos : Pos} {kws : List Keyword} {f : FE} {g : FA} (he : SE C e f) (hs : SK C kws g) : SK C (⟨nm, e, kpos⟩ :: kws) (aCons f g) := by
  obtain ⟨t, p, s⟩ := he
  obtain ⟨u, q, z⟩ := hs
  refine ⟨_, fun X h => pk_cons (p X h) (q X h), fun a W Q I h => ?_⟩
  refine s.thenA I h fun x W1 v H1 e1 st r1 h1 => ?_
  refine z.thenA (a := { a with H := H1 }) e1 h1 fun as W2 vs H2 e2 st2 r2 h2 => ?_
  exact h2 (v :: vs) H2 e2 Est.refl (.cons (r1.stp (st2.stp e1)) r2)
theorem sk_wel {i : Nat} {x : Str} {pos : Pos} {nm : Option Str} {kpos : Pos} {kws : List Keyword} {g : FA} (hN : C.N[i]? = some x) (hv : Vis C.sc x) (hs : SK C kws g) (hd : (x == ("__debug__" : Str)) = false := by decide) (hcd : (x == ("__classdict__" : Str)) = false := by decide) :
    SK C (⟨nm, .Name x pos, kpos⟩ :: kws) (aWel i g) := by
  obtain ⟨u, q, z⟩ := hs
  refine ⟨_, fun X h => pk_cons (pe_var (by rw [C.hN X h]; exact hN) (by rw [C.hsc X h]; exact hv) hd hcd) (q X h), fun a W Q I h => ?_⟩
  unfold aWel at h
  split at h
  · rename_i e
    obtain ⟨o, h1, h2⟩ := I.1.sl i _ e
    cases o with
    | none => exact absurd h2 id
    | some v =>
      refine ⟨v, h1, ?_⟩
      refine z.thenA I h fun as W2 vs H2 e2 st2 r2 h3 => ?_
      exact h3 (v :: vs) H2 e2 Est.refl (.cons h2 r2)
  · exact absurd h id
/-- the i-th, j-th .. of a list -/
def pick {α : Type} (is : List Nat) (l : List α) : List α := is.filterMap fun i => l[i]?
theorem ArRs.pick {O : Own} {wa : Addr} {H : Hp} {as : List Sl} {vs : List V} (h : ArRs O wa H as vs) : ∀ is : List Nat, ArRs O wa H (Lw.pick is as) (Lw.pick is vs)
  | [] => .nil
  | i :: is => by
    have ih := ArRs.pick h is
    unfold Lw.pick at ih ⊢
    rw [List.filterMap_cons, List.filterMap_cons]
    cases e : as[i]? with
    | none =>
      have : vs[i]? = none := List.getElem?_eq_none_iff.mpr (by rw [← h.length]; exact List.getElem?_eq_none_iff.mp e)
      rw [this]
      exact ih
    | some s =>
      obtain ⟨v, hv, r⟩ := h.get e
      rw [hv]
      exact .cons r ih
theorem vals_pick {vs : List V} {us : List Value} (h : Vals vs us) : ∀ is : List Nat, Vals (pick is vs) (pick is us)
  | [] => .nil
  | i :: is => by
    have ih := vals_pick h is
    unfold pick at ih ⊢
    rw [List.filterMap_cons, List.filterMap_cons]
    cases e : vs[i]? with
    | none =>
      have : us[i]? = none := List.getElem?_eq_none_iff.mpr (by rw [← h.length]; exact List.getElem?_eq_none_iff.mp e)
      rw [this]
      exact ih
    | some v =>
      obtain ⟨u, hu, r⟩ := Vals.get h e
      rw [hu]
      exact .cons r ih
/-- how a def's keywords come to its parameters -/
def KwB (fd : FuncData) (ps ks : List Str) (is : List Nat) : Prop := ∀ (s : Shared) (ws : List Value), ws.length = ks.length → BindsTo s fd ⟨[], ks.zip ws⟩ (ps.zip (pick is ws))
/-- what a caller by keywords needs of a def -/
structure Dk (C : Cd) (x : Str) (ks : List Str) (is : List Nat) (F : FF) : Prop where
  at_ : ∃ (f : Addr) (fd : FuncData) (ps : List Str), FnOk C.prog C.w fK C.mg C.base (L2.CX C.prog C.w) C.k f fd ps (spF C.ca ps.length F) ∧ C.mg x = some (.ref f) ∧ PySem.W.keepIn fK (.ref f) = true ∧ KwB fd ps ks is ∧ (∀ l : List Sl, l.length = ks.length → (pick is l).length = ps.length)
def eFunK (is : List Nat) (F : FF) (fa : FA) : FE := fun ρ W => (fa ρ W).bind fun as W1 => F (pick is as) W1
theorem se_callK {kws : List Keyword} {ks : List Str} {is : List Nat} {F : FF} {fa : FA} {x : Str} {p pos : Pos} (DF : Dk C x ks is F) (hg : C.G x) (ha : SK C kws fa) (hn : ArN fa ks.length := by repeat (first | exact ar_nil | apply ar_cons | apply ar_wel))
    (hall : ∀ env, (backToKw pos (keywordEach kws env)).all (·.1.isSome) = true := by intro _; rfl) (hks : ∀ env, (backToKw pos (keywordEach kws env)).filterMap (·.1) = ks := by intro _; rfl) (hd : (x == ("__debug__" : Str)) = false := by decide)
    (hpl : ∀ env, ((backTo pos (starEach [] env)).any (·.1) || (backToKw pos (keywordEach kws env)).any (·.1.isNone)) = false := by intro _; rfl) (hcm : C.cm = true := by rfl) :
    SE C (.Call (.Name x p) [] kws pos) (eFunK is F fa) := by
  obtain ⟨t, q, s⟩ := ha
  obtain ⟨f, fd, ps, ok, mf, kf, bf, hl⟩ := DF.at_
  refine ⟨fun σ H Q => t σ H fun zs H2 => zs.length = ks.length ∧ spF C.ca ps.length F (pick is zs) H2 Q (WE C.Wx σ), fun X h => ?_, fun a W Q I h => ?_⟩
  · have ok' : FnOk X.prog X.w X.K X.mg X.base (L2.CX X.prog X.w) C.k f fd ps (spF C.ca ps.length F) := by
      rw [C.hprog X h, C.hw X h, C.hK X h, C.hmg X h, C.hbase X h]
      exact ok
    have hb : KBn X.K fd ps 0 ks (fun _ ws => pick is ws) (fun _ zs => pick is zs) := ⟨fun s us ws _ h1 h2 => by
      have e : us = [] := List.eq_nil_of_length_eq_zero h1
      subst e
      exact bf s ws h2, fun _ rz => vals_pick rz is⟩
    exact pe_callSK0 ok' (C.roomC hcm X h) (C.gl h hg) (by rw [C.hmg X h]; exact mf) (by rw [C.hK X h]; exact kf) hb (C.pass X h) (q X h) (hall _) (hks _) hd (hpl _)
  · refine s a W _ I ?_
    have h' : wE C.Wx C.ca a Q ((fa a.ρ W).bind fun as W1 => F (pick is as) W1) := h
    revert h'
    cases e2 : fa a.ρ W with
    | bad => exact id
    | exc c W1 => exact id
    | ok as W1 =>
      intro h' vs H1 e1 st r1
      have hlen := hn _ _ _ _ e2
      refine ⟨by rw [← r1.length]; exact hlen, a.O, a.wa, W1, pick is as, ?_, e1.1.al, r1.pick is, e1.1.wl, wE.call (a := { a with H := H1 }) e1 (wE.later (r := F (pick is as) W1) I e1 st h')⟩
      rw [← (r1.pick is).length]
      exact hl as hlen
theorem dk_of {C : Cd} {x : Str} {ps ks : List Str} {is : List Nat} {F : FF} {j : Nat} {f : Addr} {fd : FuncData} (h : FnOk C.prog C.w fK C.mg C.base (L2.CX C.prog C.w) j f fd ps (spF C.ca ps.length F)) (hj : j ≤ C.k) (m : C.mg x = some (.ref f)) (k : PySem.W.keepIn fK (.ref f) = true) (b : KwB fd ps ks is)
    (hl : ∀ l : List Sl, l.length = ks.length → (pick is l).length = ps.length) : Dk C x ks is F :=
  ⟨f, fd, ps, h.mono hj, m, k, b, hl⟩
/-- the binding, from the def's own form -/
theorem kwb_of {x qual : Str} {st : Stmt} {f : Addr} {fd : FuncData} {ps ks : List Str} {is : List Nat} (F : L2.Fun fK x qual st f fd)
    (h : ∀ (kV doc pm : Value) (an : Option Addr) (cdv ct : Value) (ws : List Value), ws.length = ks.length → bindArgs (PySem.W.fnOf x qual (defArgs st) (defBody st) (defScope st) .none kV doc pm an cdv ct) ⟨[], ks.zip ws⟩ = pure (ps.zip (pick is ws))) : KwB fd ps ks is := by
  obtain ⟨oc, od, kV, doc, pm, an, cdv, ct, osl, rfl, lk, hcd⟩ := F.ex
  exact fun s ws hl => .of_eq (h kV doc pm an cdv ct ws hl)
end
end Lw
set_option Elab.async false
set_option linter.all false
set_option maxRecDepth 100000
set_option maxHeartbeats 2000000
set_option autoImplicit false
namespace Lw
open PySem PySem.Spec PyProof.Rows L2
variable [KI : FragI]

/-- more turns than any while here takes -/
@[irreducible] def N0 : Nat := 2 ^ 8388608
/-! ### what a caller is given of a def -/
def Is (P : Program) (w : World) (mg : Str → Option Value) (base : Heap) (ca : Nat → Addr) (x : Str) (ps : List Str) (j : Nat) (F : FF) : Prop := ∃ (f : Addr) (fd : FuncData), FnOk P w fK mg base (L2.CX P w) j f fd ps (spF ca ps.length F) ∧ mg x = some (.ref f) ∧ PySem.W.keepIn fK (.ref f) = true ∧ L2.Binds fK fd ps [] ∧ ∃ oc od osl, fK.lookup f = some ⟨oc, od, .func fd, osl⟩
def IsK (P : Program) (w : World) (mg : Str → Option Value) (base : Heap) (ca : Nat → Addr) (x : Str) (ps ks : List Str) (is : List Nat) (j : Nat) (F : FF) : Prop := ∃ (f : Addr) (fd : FuncData), FnOk P w fK mg base (L2.CX P w) j f fd ps (spF ca ps.length F) ∧ mg x = some (.ref f) ∧ PySem.W.keepIn fK (.ref f) = true ∧ KwB fd ps ks is ∧ (∀ l : List Sl, l.length = ks.length → (pick is l).length = ps.length)
section
variable {P : Program} {w : World} {mg : Str → Option Value} {base : Heap} {ca : Nat → Addr} {x : Str} {ps ks : List Str} {is : List Nat} {j : Nat} {F : FF}
theorem is_of {st : Stmt} {f : Addr} {fd : FuncData} {qual : Str} (U : L2.Fun fK x qual st f fd) (m : mg x = some (.ref f)) (h : FnOk P w fK mg base (L2.CX P w) j f fd ps (spF ca ps.length F)) (b : L2.Binds fK fd ps []) : Is P w mg base ca x ps j F := ⟨f, fd, h, m, U.kp, b, let ⟨oc, od, _, _, _, _, _, _, osl, _, lk, _⟩ := U.ex; ⟨oc, od, osl, lk⟩⟩
theorem is_bad {st : Stmt} {f : Addr} {fd : FuncData} {qual : Str} (U : L2.Fun fK x qual st f fd) (m : mg x = some (.ref f)) (b : L2.Binds fK fd ps []) : Is P w mg base ca x ps j (fun _ _ => .bad) :=
  ⟨f, fd, ⟨fun vs H Q E h => let ⟨_, _, _, _, l, _⟩ := h; l, fun A outer s H args us vs Q E _ _ _ _ h => let ⟨_, _, _, _, _, _, _, _, z⟩ := h; z.elim⟩, m, U.kp, b, let ⟨oc, od, _, _, _, _, _, _, osl, _, lk, _⟩ := U.ex; ⟨oc, od, osl, lk⟩⟩
theorem isk_of {st : Stmt} {f : Addr} {fd : FuncData} {qual : Str} (U : L2.Fun fK x qual st f fd) (m : mg x = some (.ref f)) (h : Is P w mg base ca x ps j F) (b : KwB fd ps ks is) (hl : ∀ l : List Sl, l.length = ks.length → (pick is l).length = ps.length) : IsK P w mg base ca x ps ks is j F := by
  obtain ⟨f', fd', ok, m', k', _, oc', od', osl', lk'⟩ := h
  rw [m] at m'
  cases m'
  obtain ⟨oc, od, kV, doc, pm, an, cdv, ct, osl, e, lk, hcd⟩ := U.ex
  rw [lk] at lk'
  cases lk'
  exact ⟨f, fd, ok, m, k', b, hl⟩
theorem Is.df {C : Cd} (h : Is C.prog C.w C.mg C.base C.ca x ps j F) (hj : j ≤ C.k) : Df C x ps F := by
  obtain ⟨f, fd, ok, m, k, b, _⟩ := h
  exact ⟨f, fd, ok.mono hj, m, k, b⟩
theorem IsK.dk {C : Cd} (h : IsK C.prog C.w C.mg C.base C.ca x ps ks is j F) (hj : j ≤ C.k) : Dk C x ks is F := by
  obtain ⟨f, fd, ok, m, k, b, hl⟩ := h
  exact ⟨f, fd, ps, ok.mono hj, m, k, b, hl⟩
end
/-! ### f() -/
def eFun0 (F : FF) : FE := fun _ W => F [] W
section
variable {C : Cd}
theorem se_call0 {x : Str} {F : FF} {p pos : Pos} (DF : Df C x [] F) (hg : C.G x) (hd : (x == ("__debug__" : Str)) = false := by decide) (hcm : C.cm = true := by rfl) : SE C (.Call (.Name x p) [] [] pos) (eFun0 F) := by
  obtain ⟨f, fd, ok, mf, kf, bf⟩ := DF.at_
  refine ⟨tCallS (spF C.ca 0 F) (WE C.Wx) tNil, fun X h => ?_, fun a W Q I h => ?_⟩
  · have ok' : FnOk X.prog X.w X.K X.mg X.base (L2.CX X.prog X.w) C.k f fd [] (spF C.ca 0 F) := by
      rw [C.hprog X h, C.hw X h, C.hK X h, C.hmg X h, C.hbase X h]
      exact ok
    refine ⟨fun pins s σ H Q I h2 => ?_⟩
    refine wpAny_Call_Name_kw (ld_glob I (C.gl h hg) (by rw [C.hmg X h]; exact mf) ?_ hd)
    exact PySem.W.callWith_K0 I.kIn (by rw [C.hK X h]; exact kf) (run_fnS (us := []) ok' (C.roomC hcm X h) (by rw [C.hK X h]; exact bf) (C.pass X h σ) I .nil h2)
  · exact ⟨a.O, a.wa, W, [], rfl, I.1.al, .nil, I.1.wl, wE.call (a := a) I h⟩

/-! ### slices -/
def SP1 (C : Cd) (e : Option Expr) (f : Option FE) : Prop := ∃ t, (∀ X, C.P X → PO X e t) ∧ ∀ (a : At) (W : Option Well) (Q : Option Int → Hp → Prop) (Z : Option Int → Option Well → Res) (R : VK), a.Er W →
  wE C.Wx C.ca a R (match f with | none => Z none W | some g => (g a.ρ W).bind fun x W1 => match x with | .int i => Z (some i) W1 | _ => .bad) →
  (∀ o W1 H1, (a.to H1).Er W1 → Est a.wa a.hw a.H H1 → wE C.Wx C.ca (a.to H1) R (Z o W1) → Q o H1) → t a.σ a.H Q
theorem so0 : SP1 C none none := ⟨_, fun _ _ => po_none, fun a W Q Z R I h k => k none W a.H I Est.refl h⟩
theorem so1 {e : Expr} {f : FE} (he : SE C e f) : SP1 C (some e) (some f) := by
  obtain ⟨t, p, s⟩ := he
  refine ⟨_, fun X h => po_some (p X h), fun a W Q Z R I h k => ?_⟩
  refine s.then I h fun x W1 v H1 e1 st r1 h1 => ?_
  split at h1
  · cases r1
    exact ⟨_, rfl, k _ W1 H1 e1 st h1⟩
  · exact absurd h1 id
def gSl (x : D) (lo hi : Option Int) : Option Ev := match x with
  | .list l => some (.f ((l.drop (HT.sIx l.length 0 lo)).take (HT.sIx l.length l.length hi - HT.sIx l.length 0 lo)))
  | .tuple l => some (.d (.tuple ((l.drop (HT.sIx l.length 0 lo)).take (HT.sIx l.length l.length hi - HT.sIx l.length 0 lo))))
  | _ => none
def slP (f : Option FE) (ρ : List Sl) (W : Option Well) (k : Option Int → Option Well → Res) : Res := match f with
  | none => k none W
  | some g => (g ρ W).bind fun x W1 => match x with | .int i => k (some i) W1 | _ => .bad
def eSlice (f : FE) (lo hi : Option FE) : FE := fun ρ W => (f ρ W).bind fun x W1 => slP lo ρ W1 fun l W2 => slP hi ρ W2 fun u W3 => ofP (gSl x l u) W3
theorem sIx_full {n : Nat} {hi : Option Int} (h : HT.sIx n n hi = n) {lo : Option Int} (h0 : HT.sIx n 0 lo = 0) {α : Type} (l : List α) (hl : l.length = n) : (l.drop (HT.sIx n 0 lo)).take (HT.sIx n n hi - HT.sIx n 0 lo) = l := by
  rw [h0, h, List.drop_zero, Nat.sub_zero, ← hl]
  exact List.take_length
theorem se_slice {e : Expr} {lo hi : Option Expr} {f : FE} {fl fh : Option FE} {pos p2 : Pos} (he : SE C e f) (hl : SP1 C lo fl) (hh : SP1 C hi fh) : SE C (.Subscript e (.Slice lo hi none p2) pos) (eSlice f fl fh) := by
  obtain ⟨t, p, s⟩ := he
  obtain ⟨tl, pl, sl⟩ := hl
  obtain ⟨th, ph, sh⟩ := hh
  refine ⟨tSl (fun x lo hi H Q => rSlL fK x lo hi H Q ∨ rSlA fK x lo hi H Q) t tl th, fun X h => by rw [← C.hK X h]; exact pe_slice (sl_list.or sl_tupA) (p X h) (pl X h) (ph X h), fun a W Q I h => ?_⟩
  refine s.then I h fun x W1 v H1 e1 st r1 h1 => ?_
  refine sl (a.to H1) W1 _ (fun l W2 => slP fh a.ρ W2 fun u W3 => ofP (gSl x l u) W3) Q e1 h1 fun l W2 H2 e2 st2 h2 => ?_
  refine sh (a.to H2) W2 _ (fun u W3 => ofP (gSl x l u) W3) Q e2 h2 fun u W3 H3 e3 st3 h3 => ?_
  have r3 : Rp a.O H3 v x := (r1.stp (st2.stp (a := a.to H1) e1)).stp (st3.stp (a := a.to H2) e2)
  have wp := wE.pure (a := a.to H3) e3 h3
  cases r3 with
  | @lst ad xs ds hs al =>
    refine .inl ⟨ad, xs, rfl, hs.sq, ?_⟩
    have al2 : RpA a.O H3 (cutV xs l u) ((ds.drop (HT.sIx ds.length 0 l)).take (HT.sIx ds.length ds.length u - HT.sIx ds.length 0 l)) := by
      unfold cutV
      rw [al.length]
      exact (al.drop _).take _
    exact wP.new wp al2
  | @tup ad xs ds hs al =>
    refine .inr ⟨ad, xs, rfl, hs.sq, fun hz => ?_, fun _ => ?_⟩
    · rw [al.length] at hz
      have e : (ds.drop (HT.sIx ds.length 0 l)).take (HT.sIx ds.length ds.length u - HT.sIx ds.length 0 l) = ds := sIx_full hz.2 hz.1 ds rfl
      have wp' : wP a.O H3 Q (some (.d (.tuple ds))) := by
        have w2 : wP a.O H3 Q (some (.d (.tuple ((ds.drop (HT.sIx ds.length 0 l)).take (HT.sIx ds.length ds.length u - HT.sIx ds.length 0 l))))) := wp
        rw [e] at w2
        exact w2
      exact wP.val wp' (.tup hs al)
    · have al2 : RpA a.O H3 (cutV xs l u) ((ds.drop (HT.sIx ds.length 0 l)).take (HT.sIx ds.length ds.length u - HT.sIx ds.length 0 l)) := by
        unfold cutV
        rw [al.length]
        exact (al.drop _).take _
      exact wP.newT e3.1.al wp al2
  | _ => exact absurd wp id
theorem se_const {x : Str} {i : Int} {pos : Pos} (hg : C.G x) (h : ∃ t, C.mg x = some (Value.int i t)) (hd : (x == ("__debug__" : Str)) = false := by decide) : SE C (.Name x pos) (eC (.int i)) := by
  obtain ⟨t, h⟩ := h
  exact se_globI hg h ⟨t, rfl⟩ hd
/-! *e in a display or a call -/
theorem sa_star {e : Expr} {es : List Expr} {f : FE} {g : FA} {p : Pos} (he : SE C e f) (hs : SA C es g) (hst : ∀ env, starEach (.Starred e p :: es) env = (true, eval e env) :: starEach es env := by intro _; rfl) : SA C (.Starred e p :: es) (aStar f g) := by
  obtain ⟨t, q, s⟩ := he
  obtain ⟨u, q2, z⟩ := hs
  refine ⟨StX.tStar fK t u, fun X h => by rw [← C.hK X h]; exact StX.pa_star (q X h) (q2 X h) (hst _), fun a W Q I h => ?_⟩
  refine s.thenA I h fun x W1 v H1 e1 st r1 h1 => ?_
  split at h1
  · cases r1 with
    | lst hh al =>
      refine ⟨_, _, rfl, .inr hh.sq, ?_⟩
      refine z.thenA (a := { a with H := H1 }) e1 h1 fun as W2 vs H2 e2 st2 r2 h2 => ?_
      exact h2 _ H2 e2 Est.refl (ArRs.app (al.stp (st2.stp e1)) r2)
  · cases r1 with
    | tup hh al =>
      refine ⟨_, _, rfl, .inl hh.sq, ?_⟩
      refine z.thenA (a := { a with H := H1 }) e1 h1 fun as W2 vs H2 e2 st2 r2 h2 => ?_
      exact h2 _ H2 e2 Est.refl (ArRs.app (al.stp (st2.stp e1)) r2)
  · exact absurd h1 id
/-! an item of an own list -/
def eItemO (i : Nat) (g : FE) : FE := fun ρ W => match ρ[i]? with
  | some (.cn true l) => (g ρ W).bind fun y W1 => match y with | .int k => ofP ((atI l k).map .d) W1 | _ => .bad
  | _ => .bad
theorem se_itemO {i : Nat} {x : Str} {b : Expr} {g : FE} {px pos : Pos} (hN : C.N[i]? = some x) (hv : Vis C.sc x) (hb : SE C b g) (hm : PlainIx b) (hd : (x == ("__debug__" : Str)) = false := by decide) (hcd : (x == ("__classdict__" : Str)) = false := by decide) : SE C (.Subscript (.Name x px) b pos) (eItemO i g) := by
  obtain ⟨t, p, s⟩ := hb
  refine ⟨tOp (rIx fK) (tVar i) t, fun X h => by rw [← C.hK X h]; exact pe_ix ix_seq (pe_var (i := i) (by rw [C.hN X h]; exact hN) (by rw [C.hsc X h]; exact hv) hd hcd) (p X h) hm, fun a W Q I h => ?_⟩
  unfold eItemO at h
  split at h
  · rename_i l e
    obtain ⟨o, h1, h2⟩ := I.1.sl i _ e
    cases o with
    | none => exact absurd h2 id
    | some v =>
      obtain ⟨q, vs, rfl, oq, hq, al, h0⟩ := h2
      refine ⟨_, h1, ?_⟩
      refine s.then I h fun y W1 u H1 e1 st r1 h3 => ?_
      split at h3
      · rename_i k
        cases r1
        cases ek : atI l k with
        | none => rw [ek] at h3; exact absurd h3 id
        | some d =>
          rw [ek] at h3
          obtain ⟨w, hw, rw'⟩ := al.atI ek
          have hq1 : H1 q = some (.lst vs) := st q _ (fun hw => I.1.nw i l q e h1 (I.2.trans hw)) hq
          exact .inl ⟨q, vs, k, w, rfl, rfl, .inl (.inl hq1), hw, wE.now (a := a.to H1) e1 (rw'.stp (st.stp I)) h3⟩
      · exact absurd h3 id
  · exact absurd h id
theorem sc_eqO {a b : Expr} {fa fb : FA} {pos : Pos} (ha : SQ C a fa) (hb : SQ C b fb) : SC C (.Compare a [.Eq] [b] pos) (eBinO gEq fa fb) := sc_cmpO (fun X h => by rw [← C.hK X h]; exact op_eqD (C.units h)) pure_eq ha hb (nomark _)
theorem sc_neO {a b : Expr} {fa fb : FA} {pos : Pos} (ha : SQ C a fa) (hb : SQ C b fb) : SC C (.Compare a [.NotEq] [b] pos) (eBinO gNe fa fb) := sc_cmpO (fun X h => by rw [← C.hK X h]; exact op_neD (C.units h)) pure_ne ha hb (nomark _)
theorem sc_inO {a b : Expr} {fa fb : FA} {pos : Pos} (ha : SQ C a fa) (hb : SQ C b fb) (hm : behindInMarks .In b = false := by rfl) : SC C (.Compare a [.In] [b] pos) (eBinO gIn fa fb) := sc_cmpO (fun X h => by rw [← C.hK X h]; exact op_inD (by have := C.unX X h; omega)) pure_in ha hb hm
theorem sc_notInO {a b : Expr} {fa fb : FA} {pos : Pos} (ha : SQ C a fa) (hb : SQ C b fb) (hm : behindInMarks .NotIn b = false := by rfl) : SC C (.Compare a [.NotIn] [b] pos) (eBinO gNotIn fa fb) := sc_cmpO (fun X h => by rw [← C.hK X h]; exact op_notInD (by have := C.unX X h; omega)) pure_notIn ha hb hm

/-! ### raise X() -/
/-- X: an exception class of the module's own, over ValueError -/
structure XcOf (mg : Str → Option Value) (x : Str) (c : Addr) : Prop where
  g : mg x = some (.ref c)
  q : PySem.W.excIn fK c [.type "ValueError", .type "Exception", .type "BaseException", .type "object"] "ValueError.__new__" = true
  k : PySem.W.keepIn fK (.ref c) = true
  b : PySem.W.subIn fK (.ref c) (.type "BaseException") = some true
  t : PySem.W.typeIn fK (.ref c) = some (.type "type")
theorem pmk_own0 {X : Cx} {c : Addr} {bmB : List Value} {B newId initId : String} {x : Str} {p pos : Pos} (F : ExcBaseFacts B newId initId bmB) (q : PySem.W.excIn X.K c bmB newId = true) (gC : X.mg x = some (.ref c)) (kC : PySem.W.keepIn X.K (.ref c) = true) (r : Raises X (.ref c)) (hg : Gl X x)
    (hdb : (x == ("__debug__" : Str)) = false) : PMk X (.Call (.Name x p) [] [] pos) (fun _ H Q => Q (.ref c) none H) := by
  intro pins s σ H Q I h
  refine wpAny_Call_Name_kw (ld_glob I hg gC ?_ hdb)
  refine PySem.W.callWith_K0 I.kIn kC ?_
  show wpAny _ _ (call (.ref c) []) _ _ _
  obtain ⟨bm, N, nm, qn, bs, hdct, sn, sub, ab, col, dd, k0, k1, k2, k3, k5, mN, hC, hN, hni, T⟩ := exc_obj I.kIn q
  refine wpAny_call_exc_subT F T hC hN hni (fun h' e hm => ?_) (Nat.zero_le _)
  exact mk_of I hm r h (I.hok.gone hm.new)
def sRaise (c : Nat) : FS := fun ρ W => .exc c ρ W
theorem ss_raise {x : Str} {c : Nat} {p pos pos2 : Pos} (T : XcOf C.mg x (C.ca c)) (hg : C.G x) (ht : ∀ X, C.P X → Takes X C.Wx := by rintro _ rfl; exact takes_of rfl rfl rfl rfl) (hd : (x == ("__debug__" : Str)) = false := by decide) (hcm : C.cm = true := by rfl) : SS C (.Raise (some (.Call (.Name x p) [] [] pos)) none pos2) (sRaise c) := by
  refine ⟨_, fun X h => ps_raise (C.calmC hcm X h) (ht X h) (pmk_own0 (c := C.ca c) PySem.F.excBase_ValueError (by rw [C.hK X h]; exact T.q) (by rw [C.hmg X h]; exact T.g) (by rw [C.hK X h]; exact T.k) (raises_own (by rw [C.hK X h]; exact T.b) (by rw [C.hK X h]; exact T.t)) (C.gl h hg) hd), fun a W D hm I h => ?_⟩
  exact h a Aft.refl rfl I
end
end Lw
set_option Elab.async false
set_option linter.all false
set_option maxRecDepth 100000
set_option maxHeartbeats 2000000
set_option autoImplicit false
namespace Lw
open PySem PySem.Spec PyProof.Rows L2
variable [KI : FragI]

/-! ### what the functions give: rows for simp -/
def abI (a : Int) : Int := if a < 0 then -a else a
def mxI (a b : Int) : Int := if b > a then b else a
def mnI (a b : Int) : Int := if b < a then b else a
theorem abI_is (a : Int) : (0 ≤ abI a) ∧ (abI a = a ∨ abI a = -a) := by unfold abI; split <;> omega
theorem mxI_is (a b : Int) : a ≤ mxI a b ∧ b ≤ mxI a b ∧ (mxI a b = a ∨ mxI a b = b) := by unfold mxI; split <;> omega
theorem mnI_is (a b : Int) : mnI a b ≤ a ∧ mnI a b ≤ b ∧ (mnI a b = a ∨ mnI a b = b) := by unfold mnI; split <;> omega
/-- a row that simp keeps as a step of its own -/
theorem nr {α : Sort _} {a b : α} (h : a = b) : a = b := h
section
variable {ρ : List Sl} {W W1 : Option Well} {i j k : Nat} {d x y : Dt} {f f' f'' : FE} {g : G2} {t t' : FT} {fa fb : FA} {s s' : FS}
@[simp] theorem v_var (h : ρ[i]? = some (.dt d)) : eVar i ρ W = .ok (.d d) W := by unfold eVar; rw [h] <;> rfl
@[simp] theorem v_C : eC d ρ W = .ok (.d d) W := nr rfl
@[simp] theorem v_bin : eBin g f f' ρ W = (f ρ W).bind fun x W1 => (f' ρ W1).bind fun y W2 => ofP (g x y) W2 := nr rfl
@[simp] theorem v_bind {e : Ev} {c : Dt → Option Well → Res} : (Res.ok e W).bind c = c e.D W := nr rfl
@[simp] theorem v_bindA {e : Ev} {c : Dt → Option Well → RA} : (Res.ok e W).bindA c = c e.D W := nr rfl
@[simp] theorem v_bindT {e : Ev} {c : Dt → Option Well → RT} : (Res.ok e W).bindT c = c e.D W := nr rfl
@[simp] theorem v_bindI {e : Ev} {c : Dt → Option Well → RI} : (Res.ok e W).bindI c = c e.D W := nr rfl
@[simp] theorem v_abind {as : List Sl} {c : List Sl → Option Well → Res} : (RA.ok as W).bind c = c as W := nr rfl
@[simp] theorem v_abindA {as : List Sl} {c : List Sl → Option Well → RA} : (RA.ok as W).bindA c = c as W := nr rfl
@[simp] theorem v_abindI {as : List Sl} {c : List Sl → Option Well → RI} : (RA.ok as W).bindI c = c as W := nr rfl
@[simp] theorem v_tbind {b : Bool} {c : Bool → Option Well → Res} : (RT.ok b W).bind c = c b W := nr rfl
@[simp] theorem v_tbindT {b : Bool} {c : Bool → Option Well → RT} : (RT.ok b W).bindT c = c b W := nr rfl
@[simp] theorem v_xbind {c : Nat} {h : Dt → Option Well → Res} : (Res.exc c W).bind h = .exc c W := nr rfl
@[simp] theorem v_xtoS {c : Nat} {h : Ev → Option Well → Out} : (Res.exc c W).toS ρ h = .exc c ρ W := nr rfl
@[simp] theorem v_toS {e : Ev} {h : Ev → Option Well → Out} : (Res.ok e W).toS ρ h = h e W := nr rfl
@[simp] theorem v_ttoS {b : Bool} {h : Bool → Option Well → Out} : (RT.ok b W).toS ρ h = h b W := nr rfl
@[simp] theorem v_Dd : (Ev.d x).D = x := nr rfl
@[simp] theorem v_Df {l : List Dt} : (Ev.f l).D = .list l := nr rfl
@[simp] theorem v_ofP {e : Ev} : ofP (some e) W = .ok e W := nr rfl
@[simp] theorem v_aNil : aNil ρ W = .ok [] W := nr rfl
@[simp] theorem v_aCons : aCons f fa ρ W = (f ρ W).bindA fun x W1 => (fa ρ W1).bindA fun as W2 => .ok (.dt x :: as) W2 := nr rfl
@[simp] theorem v_aWel (h : ρ[i]? = some .wel) : aWel i fa ρ W = (fa ρ W).bindA fun as W2 => .ok (.wel :: as) W2 := by unfold aWel; rw [h] <;> rfl
@[simp] theorem v_datas0 : datas [] = some [] := nr rfl
@[simp] theorem v_datas1 {r : List Sl} : datas (.dt d :: r) = (datas r).map (d :: ·) := nr rfl
@[simp] theorem v_call {G : List Dt → Option Ev} : eCall G fa ρ W = (fa ρ W).bind fun as W1 => match datas as with | some ds => ofP (G ds) W1 | none => .bad := nr rfl
@[simp] theorem v_fun {F : FF} : eFun F fa ρ W = (fa ρ W).bind fun as W1 => F as W1 := nr rfl
@[simp] theorem v_fun0 {F : FF} : eFun0 F ρ W = F [] W := nr rfl
@[simp] theorem v_funK {F : FF} {is : List Nat} : eFunK is F fa ρ W = (fa ρ W).bind fun as W1 => F (pick is as) W1 := nr rfl
@[simp] theorem v_tup : eTup fa ρ W = (fa ρ W).bind fun as W1 => match datas as with | some ds => if ds.length ≤ lineN then .ok (.d (.tuple ds)) W1 else .bad | none => .bad := nr rfl
@[simp] theorem v_lst : eLst fa ρ W = (fa ρ W).bind fun as W1 => match datas as with | some ds => if ds.length ≤ lineN then .ok (.f ds) W1 else .bad | none => .bad := nr rfl
@[simp] theorem v_if : eIf t f f' ρ W = (t ρ W).bind fun k W1 => if k = true then f ρ W1 else f' ρ W1 := nr rfl
@[simp] theorem v_tOfE : tOfE f ρ W = (f ρ W).bindT fun x W1 => match tru x with | some k => .ok k W1 | none => .bad := nr rfl
@[simp] theorem v_tOfB : tOfB f ρ W = (f ρ W).bindT fun x W1 => match x with | .bool k => .ok k W1 | _ => .bad := nr rfl
@[simp] theorem v_tAnd : tAndF t t' ρ W = (t ρ W).bindT fun k W1 => if k = true then t' ρ W1 else .ok false W1 := nr rfl
@[simp] theorem v_tOr : tOrF t t' ρ W = (t ρ W).bindT fun k W1 => if k = true then .ok true W1 else t' ρ W1 := nr rfl
@[simp] theorem v_tNot : tNotF t ρ W = (t ρ W).bindT fun k W1 => .ok (!k) W1 := nr rfl
@[simp] theorem v_and : eAnd f f' ρ W = (f ρ W).bind fun x W1 => match x with | .bool true => f' ρ W1 | .bool false => .ok (.d (.bool false)) W1 | _ => .bad := nr rfl
@[simp] theorem v_or : eOr f f' ρ W = (f ρ W).bind fun x W1 => match x with | .bool true => .ok (.d (.bool true)) W1 | .bool false => f' ρ W1 | _ => .bad := nr rfl
@[simp] theorem v_not : eNot f ρ W = (f ρ W).bind fun x W1 => match x with | .bool k => .ok (.d (.bool !k)) W1 | _ => .bad := nr rfl
@[simp] theorem v_neg : eNeg f ρ W = (f ρ W).bind fun x W1 => match x with | .int i => .ok (.d (.int (-i))) W1 | _ => .bad := nr rfl
@[simp] theorem v_isN : eIsN f ρ W = (f ρ W).bind fun x W1 => .ok (.d (.bool (isNone x))) W1 := nr rfl
@[simp] theorem v_notN : eNotN f ρ W = (f ρ W).bind fun x W1 => .ok (.d (.bool (!isNone x))) W1 := nr rfl
@[simp] theorem v_is {T : String} : eIs T f ρ W = (f ρ W).bind fun x W1 => .ok (.d (.bool (isT T x))) W1 := nr rfl
@[simp] theorem v_isA {Ts : List String} : eIsA Ts f ρ W = (f ρ W).bind fun x W1 => .ok (.d (.bool (Ts.any fun T => isT T x))) W1 := nr rfl
@[simp] theorem v_chain {g' : G2} : eChain g g' f f' f'' ρ W = (f ρ W).bind fun x W1 => (f' ρ W1).bind fun y W2 => match g x y with
  | some (.d (.bool true)) => (f'' ρ W2).bind fun z W3 => ofP (g' y z) W3
  | some (.d (.bool false)) => .ok (.d (.bool false)) W2
  | _ => .bad := nr rfl
@[simp] theorem v_well (h : ρ[i]? = some .wel) {w : Well} : eWell i k ρ (some w) = (match w.get k with | some n => .ok (.d (.int n)) (some w) | none => .bad) := by unfold eWell; rw [h] <;> rfl
@[simp] theorem v_get0 {w : Well} : w.get 0 = some w.1 := nr rfl
@[simp] theorem v_get1 {w : Well} : w.get 1 = some w.2.1 := nr rfl
@[simp] theorem v_get2 {w : Well} : w.get 2 = some w.2.2 := nr rfl
@[simp] theorem v_put0 {w : Well} {n : Int} : w.put n 0 = some (n, w.2.1, w.2.2) := nr rfl
@[simp] theorem v_put1 {w : Well} {n : Int} : w.put n 1 = some (w.1, n, w.2.2) := nr rfl
@[simp] theorem v_put2 {w : Well} {n : Int} : w.put n 2 = some (w.1, w.2.1, n) := nr rfl
@[simp] theorem v_slice {lo hi : Option FE} : eSlice f lo hi ρ W = (f ρ W).bind fun x W1 => slP lo ρ W1 fun l W2 => slP hi ρ W2 fun u W3 => ofP (gSl x l u) W3 := nr rfl
@[simp] theorem v_slP0 {h : Option Int → Option Well → Res} : slP none ρ W h = h none W := nr rfl
@[simp] theorem v_slP1 {h : Option Int → Option Well → Res} : slP (some f) ρ W h = (f ρ W).bind fun x W1 => match x with | .int i => h (some i) W1 | _ => .bad := nr rfl
@[simp] theorem v_itemO {l : List Dt} (h : ρ[i]? = some (.cn true l)) : eItemO i f ρ W = (f ρ W).bind fun y W1 => match y with | .int k => ofP ((atI l k).map .d) W1 | _ => .bad := by unfold eItemO; rw [h] <;> rfl
@[simp] theorem v_aOw {l : List Dt} (h : ρ[i]? = some (.cn true l)) : aOw i fa ρ W = (fa ρ W).bindA fun as W2 => .ok (.cn true l :: as) W2 := by unfold aOw; rw [h] <;> rfl
@[simp] theorem v_qO {l : List Dt} (h : ρ[i]? = some (.cn true l)) : qO i ρ W = .ok [.cn true l] W := by unfold qO; rw [h] <;> rfl
@[simp] theorem v_qE : qE f ρ W = (f ρ W).bindA fun x W1 => .ok [.dt x] W1 := nr rfl
@[simp] theorem v_datasO0 : datasO [] = some [] := nr rfl
@[simp] theorem v_datasO1 {r : List Sl} : datasO (.dt d :: r) = (datasO r).map (d :: ·) := nr rfl
@[simp] theorem v_datasO2 {r : List Sl} {l : List Dt} : datasO (.cn true l :: r) = (datasO r).map (.list l :: ·) := nr rfl
@[simp] theorem v_callO {G : List Dt → Option Ev} : eCallO G fa ρ W = (fa ρ W).bind fun as W1 => match datasO as with | some ds => ofP (flatE (G ds)) W1 | none => .bad := nr rfl
@[simp] theorem v_binO : eBinO g fa fb ρ W = (fa ρ W).bind fun as W1 => match datasO as with
  | some [x] => (fb ρ W1).bind fun bs W2 => match datasO bs with | some [y] => ofP (flatE (g x y)) W2 | _ => .bad
  | _ => .bad := nr rfl
@[simp] theorem v_flatE (h : flat x = true) : flatE (some (.d x)) = some (.d x) := by
  show (if flat x = true then some (Ev.d x) else none) = _
  rw [if_pos h]
/-! operators on data -/
@[simp] theorem v_add {a b : Int} : gAdd (.int a) (.int b) = some (.d (.int (a + b))) := nr rfl
@[simp] theorem v_addL {a b : List Dt} (h : a.length + b.length ≤ lineN) : gAdd (.list a) (.list b) = some (.f (a ++ b)) := by
  show (if a.length + b.length ≤ lineN then some (Ev.f (a ++ b)) else none) |> fun z => (match z with | some e => some e | none => gCatT (.list a) (.list b)) = some (.f (a ++ b))
  rw [if_pos h]
@[simp] theorem v_addT {a b : List Dt} (h : a.length + b.length ≤ lineN) : gAdd (.tuple a) (.tuple b) = some (.d (.tuple (a ++ b))) := by
  show (if a.length + b.length ≤ lineN then some (Ev.d (.tuple (a ++ b))) else none) = _
  rw [if_pos h]
@[simp] theorem v_sub {a b : Int} : gSub (.int a) (.int b) = some (.d (.int (a - b))) := nr rfl
@[simp] theorem v_mul {a b : Int} (h : cMul a b = true) : gMul (.int a) (.int b) = some (.d (.int (a * b))) := by
  show (if cMul a b = true then _ else _) = _
  rw [if_pos h]
@[simp] theorem v_div {a b : Int} (h : cDiv a b = true) : gDiv (.int a) (.int b) = some (.d (.int (a / b))) := by
  show (if cDiv a b = true then _ else _) = _
  rw [if_pos h]
@[simp] theorem v_mod {a b : Int} (h : 0 < b) : gMod (.int a) (.int b) = some (.d (.int (a % b))) := by
  show (if cPos a b = true then _ else _) = _
  have hc : cPos a b = true := decide_eq_true h
  rw [if_pos hc]
@[simp] theorem v_pow {a b : Int} (h : cPow a b = true) : gPow (.int a) (.int b) = some (.d (.int (a ^ b.toNat))) := by
  show (if cPow a b = true then _ else _) = _
  rw [if_pos h]
@[simp] theorem v_lt {a b : Int} : gLt (.int a) (.int b) = some (.d (.bool (decide (a < b)))) := nr rfl
@[simp] theorem v_le {a b : Int} : gLe (.int a) (.int b) = some (.d (.bool (decide (a ≤ b)))) := nr rfl
@[simp] theorem v_gt {a b : Int} : gGt (.int a) (.int b) = some (.d (.bool (decide (b < a)))) := nr rfl
@[simp] theorem v_ge {a b : Int} : gGe (.int a) (.int b) = some (.d (.bool (decide (b ≤ a)))) := nr rfl
@[simp] theorem v_isB {a b : Bool} : gIs (.bool a) (.bool b) = some (.d (.bool (decide (a = b)))) := nr rfl
@[simp] theorem v_isnB {a b : Bool} : gIsn (.bool a) (.bool b) = some (.d (.bool (!decide (a = b)))) := nr rfl
@[simp] theorem v_eqI {a b : Int} : gEq (.int a) (.int b) = some (.d (.bool (decide (a = b)))) := by
  unfold gEq
  rw [if_pos ⟨by simp [SeqAt.shaped, PyData.canLay0, PyData.depth], by simp [SeqAt.shaped, PyData.canLay0, PyData.depth]⟩]
  simp [PyData.eqv, Bool.beq_eq_decide_eq]
@[simp] theorem v_neI {a b : Int} : gNe (.int a) (.int b) = some (.d (.bool (!decide (a = b)))) := by
  unfold gNe
  rw [if_pos ⟨by simp [SeqAt.shaped, PyData.canLay0, PyData.depth], by simp [SeqAt.shaped, PyData.canLay0, PyData.depth]⟩]
  simp [PyData.eqv, Bool.beq_eq_decide_eq]
@[simp] theorem v_eqB {a b : Bool} : gEq (.bool a) (.bool b) = some (.d (.bool (decide (a = b)))) := by
  unfold gEq
  rw [if_pos ⟨by simp [SeqAt.shaped, PyData.canLay0, PyData.depth], by simp [SeqAt.shaped, PyData.canLay0, PyData.depth]⟩]
  cases a <;> cases b <;> simp [PyData.eqv]
@[simp] theorem v_neB {a b : Bool} : gNe (.bool a) (.bool b) = some (.d (.bool (!decide (a = b)))) := by
  unfold gNe
  rw [if_pos ⟨by simp [SeqAt.shaped, PyData.canLay0, PyData.depth], by simp [SeqAt.shaped, PyData.canLay0, PyData.depth]⟩]
  cases a <;> cases b <;> simp [PyData.eqv]
@[simp] theorem v_len {l : List Dt} : gLen [.list l] = some (.d (.int l.length)) := nr rfl
@[simp] theorem v_lenT {l : List Dt} : gLen [.tuple l] = some (.d (.int l.length)) := nr rfl
@[simp] theorem v_int {a : Int} : gInt [.int a] = some (.d (.int a)) := nr rfl
@[simp] theorem v_abs {a : Int} : gAbs [.int a] = some (.d (.int (abI a))) := nr rfl
@[simp] theorem v_max {a b : Int} : gMax2 [.int a, .int b] = some (.d (.int (mxI a b))) := nr rfl
@[simp] theorem v_min {a b : Int} : gMin2 [.int a, .int b] = some (.d (.int (mnI a b))) := nr rfl
@[simp] theorem v_gcd {a b : Int} : gGcd [.int a, .int b] = some (.d (.int ((Nat.gcd a.natAbs b.natAbs : Nat) : Int))) := nr rfl
@[simp] theorem v_all {l : List Dt} : gAll [.list l] = (allB l).map fun bs => .d (.bool (bs.all id)) := nr rfl
@[simp] theorem v_ixL {l : List Dt} {a : Int} : gIx (.list l) (.int a) = (atI l a).map .d := nr rfl
@[simp] theorem v_ixT {l : List Dt} {a : Int} : gIx (.tuple l) (.int a) = (atI l a).map .d := nr rfl
@[simp] theorem v_slL {l : List Dt} {lo hi : Option Int} : gSl (.list l) lo hi = some (.f ((l.drop (HT.sIx l.length 0 lo)).take (HT.sIx l.length l.length hi - HT.sIx l.length 0 lo))) := nr rfl
@[simp] theorem v_slT {l : List Dt} {lo hi : Option Int} : gSl (.tuple l) lo hi = some (.d (.tuple ((l.drop (HT.sIx l.length 0 lo)).take (HT.sIx l.length l.length hi - HT.sIx l.length 0 lo)))) := nr rfl
/-! statements -/
@[simp] theorem v_skip : sSkip ρ W = .nx ρ W := nr rfl
@[simp] theorem v_seq : sSeq s s' ρ W = (s ρ W).seq s' := nr rfl
@[simp] theorem v_seqN : (Out.nx ρ W).seq s = s ρ W := nr rfl
@[simp] theorem v_seqR {e : Ev} : (Out.rt e W).seq s = .rt e W := nr rfl
@[simp] theorem v_seqX {c : Nat} : (Out.exc c ρ W).seq s = .exc c ρ W := nr rfl
@[simp] theorem v_ret : sRet f ρ W = (f ρ W).toS ρ fun e W1 => .rt e W1 := nr rfl
@[simp] theorem v_retN : sRetN ρ W = .rt (.d .none) W := nr rfl
@[simp] theorem v_sif : sIf t s s' ρ W = (t ρ W).toS ρ fun k W1 => if k = true then s ρ W1 else s' ρ W1 := nr rfl
@[simp] theorem v_set : sSet i f ρ W = (f ρ W).toS ρ fun e W1 => .nx (ρ.set i (.dt e.D)) W1 := nr rfl
@[simp] theorem v_own : sOwn i f ρ W = (f ρ W).toS ρ fun e W1 => match e with | .f l => if i < ρ.length then .nx (ρ.set i (.cn true l)) W1 else .bad | _ => .bad := nr rfl
@[simp] theorem v_asg {h : FG} : sAsg f h ρ W = (f ρ W).toS ρ fun e W1 => match h e.D ρ with | some ρ1 => .nx ρ1 W1 | none => .bad := nr rfl
@[simp] theorem v_par : sPar i j fa ρ W = (match fa ρ W with
  | .ok [.dt x, .dt y] W1 => .nx ((ρ.set i (.dt x)).set j (.dt y)) W1
  | .exc c W1 => .exc c ρ W1
  | _ => .bad) := nr rfl
@[simp] theorem v_drop : sDrop f ρ W = (f ρ W).toS ρ fun _ W1 => .nx ρ W1 := nr rfl
@[simp] theorem v_app {l : List Dt} (h : ρ[i]? = some (.cn true l)) : sApp i f ρ W = (f ρ W).toS ρ fun e W1 => if l.length < lineN then .nx (ρ.set i (.cn true (l ++ [e.D]))) W1 else .bad := by unfold sApp; rw [h] <;> rfl
@[simp] theorem v_swell (h : ρ[i]? = some .wel) {w : Well} : sWell i k f ρ (some w) = (f ρ (some w)).toS ρ fun e W1 => match ρ[i]?, W1, e.D with
  | some .wel, some w, .int n => (match w.put n k with | some w' => .nx ρ (some w') | none => .bad)
  | _, _, _ => .bad := nr rfl
@[simp] theorem v_mkW {mk : Bool} : sMkW mk i f ρ W = (f ρ W).toS ρ fun e W1 => mkW mk i ρ e := nr rfl
@[simp] theorem v_for {fi : FI} {h : FG} : sFor fi h s ρ W = (match fi ρ W with | .ok l W1 => forGo h s l ρ W1 | .exc c W1 => .exc c ρ W1 | .bad => .bad) := nr rfl
@[simp] theorem v_rel : sRel i s ρ W = s (relS1 i ρ) W := nr rfl
@[simp] theorem v_raise {c : Nat} : sRaise c ρ W = .exc c ρ W := nr rfl
@[simp] theorem v_name {i : Nat} : fgName i d ρ = some (ρ.set i (.dt d)) := nr rfl
@[simp] theorem v_gtup {h : FGs} {ds : List Dt} : fgTup h (.tuple ds) ρ = h ds ρ := nr rfl
@[simp] theorem v_gcons {h : FG} {h' : FGs} {ds : List Dt} : fgCons h h' (d :: ds) ρ = (match h d ρ with | some ρ1 => h' ds ρ1 | none => none) := nr rfl
@[simp] theorem v_gnil : fgNil [] ρ = some ρ := nr rfl
@[simp] theorem v_iseq : fiSeq f ρ W = (f ρ W).bindI fun x W1 => match x with | .list l => .ok l W1 | .tuple l => .ok l W1 | _ => .bad := nr rfl
@[simp] theorem v_ir1 : fiRange1 fa ρ W = (fa ρ W).bindI fun as W1 => match datas as with | some [.int j] => if inR j = true then .ok (rangeD 0 j.toNat) W1 else .bad | _ => .bad := nr rfl
@[simp] theorem v_ir2 : fiRange2 fa ρ W = (fa ρ W).bindI fun as W1 => match datas as with | some [.int i, .int j] => if inR i = true ∧ inR j = true then .ok (rangeD i (j - i).toNat) W1 else .bad | _ => .bad := nr rfl
@[simp] theorem v_lc {fi : FI} {h : FG} {vs : List Nat} : eLc fi h t f vs ρ W = (match fi ρ W with
  | .ok l W1 => if l.length ≤ lineN then (match lcGo h t f (wipeS ρ vs) l W1 with | .ok r W2 => .ok (.f r) W2 | .bad => .bad) else .bad
  | .exc c W1 => .exc c W1
  | .bad => .bad) := nr rfl
@[simp] theorem v_wipe0 : wipeS ρ [] = ρ := nr rfl
@[simp] theorem v_wipe1 {vs : List Nat} : wipeS ρ (i :: vs) = (wipeS ρ vs).set i .no := nr rfl
@[simp] theorem v_yes : ftYes ρ W = .ok true W := nr rfl
@[simp] theorem v_resR {e : Ev} : (Out.rt e W).res = .ok e W := nr rfl
@[simp] theorem v_resN : (Out.nx ρ W).res = .ok (.d .none) W := nr rfl
@[simp] theorem v_resX {c : Nat} : (Out.exc c ρ W).res = .exc c W := nr rfl
@[simp] theorem v_run {n : Nat} {as : List Sl} : runF n s as W = (s (as ++ List.replicate (n - as.length) .no) W).res := nr rfl
end
@[simp] theorem tru_none : tru .none = some false := nr rfl
@[simp] theorem tru_bool {b : Bool} : tru (.bool b) = some b := nr rfl
@[simp] theorem tru_int {i : Int} : tru (.int i) = some (i != 0) := nr rfl
@[simp] theorem tru_list {l : List Dt} : tru (.list l) = some (!l.isEmpty) := nr rfl
@[simp] theorem tru_tuple {l : List Dt} : tru (.tuple l) = some (!l.isEmpty) := nr rfl
@[simp] theorem v_line {n : Nat} (h : n ≤ 1000) : n ≤ lineN := line_ok (by omega)
@[simp] theorem v_line' {n : Nat} (h : n < 1000) : n < lineN := Nat.lt_of_lt_of_le h (line_ok (by omega))
/-! kinds -/
theorem k_bool_none : kitB "NoneType" "bool" = some false := by decide +kernel
@[simp] theorem is_bool_none : isT "bool" (.none) = false := by
  show (kitB "NoneType" "bool").getD false = _
  rw [k_bool_none] <;> rfl
theorem k_bool_bool : kitB "bool" "bool" = some true := by decide +kernel
@[simp] theorem is_bool_bool {b : Bool} : isT "bool" (.bool b) = true := by
  show (kitB "bool" "bool").getD false = _
  rw [k_bool_bool] <;> rfl
theorem k_bool_int : kitB "int" "bool" = some false := by decide +kernel
@[simp] theorem is_bool_int {i : Int} : isT "bool" (.int i) = false := by
  show (kitB "int" "bool").getD false = _
  rw [k_bool_int] <;> rfl
theorem k_bool_str : kitB "str" "bool" = some false := by decide +kernel
@[simp] theorem is_bool_str {s : Str} : isT "bool" (.str s) = false := by
  show (kitB "str" "bool").getD false = _
  rw [k_bool_str] <;> rfl
theorem k_bool_list : kitB "list" "bool" = some false := by decide +kernel
@[simp] theorem is_bool_list {l : List Dt} : isT "bool" (.list l) = false := by
  show (kitB "list" "bool").getD false = _
  rw [k_bool_list] <;> rfl
theorem k_bool_tuple : kitB "tuple" "bool" = some false := by decide +kernel
@[simp] theorem is_bool_tuple {l : List Dt} : isT "bool" (.tuple l) = false := by
  show (kitB "tuple" "bool").getD false = _
  rw [k_bool_tuple] <;> rfl
theorem k_int_none : kitB "NoneType" "int" = some false := by decide +kernel
@[simp] theorem is_int_none : isT "int" (.none) = false := by
  show (kitB "NoneType" "int").getD false = _
  rw [k_int_none] <;> rfl
theorem k_int_bool : kitB "bool" "int" = some true := by decide +kernel
@[simp] theorem is_int_bool {b : Bool} : isT "int" (.bool b) = true := by
  show (kitB "bool" "int").getD false = _
  rw [k_int_bool] <;> rfl
theorem k_int_int : kitB "int" "int" = some true := by decide +kernel
@[simp] theorem is_int_int {i : Int} : isT "int" (.int i) = true := by
  show (kitB "int" "int").getD false = _
  rw [k_int_int] <;> rfl
theorem k_int_str : kitB "str" "int" = some false := by decide +kernel
@[simp] theorem is_int_str {s : Str} : isT "int" (.str s) = false := by
  show (kitB "str" "int").getD false = _
  rw [k_int_str] <;> rfl
theorem k_int_list : kitB "list" "int" = some false := by decide +kernel
@[simp] theorem is_int_list {l : List Dt} : isT "int" (.list l) = false := by
  show (kitB "list" "int").getD false = _
  rw [k_int_list] <;> rfl
theorem k_int_tuple : kitB "tuple" "int" = some false := by decide +kernel
@[simp] theorem is_int_tuple {l : List Dt} : isT "int" (.tuple l) = false := by
  show (kitB "tuple" "int").getD false = _
  rw [k_int_tuple] <;> rfl
theorem k_str_none : kitB "NoneType" "str" = some false := by decide +kernel
@[simp] theorem is_str_none : isT "str" (.none) = false := by
  show (kitB "NoneType" "str").getD false = _
  rw [k_str_none] <;> rfl
theorem k_str_bool : kitB "bool" "str" = some false := by decide +kernel
@[simp] theorem is_str_bool {b : Bool} : isT "str" (.bool b) = false := by
  show (kitB "bool" "str").getD false = _
  rw [k_str_bool] <;> rfl
theorem k_str_int : kitB "int" "str" = some false := by decide +kernel
@[simp] theorem is_str_int {i : Int} : isT "str" (.int i) = false := by
  show (kitB "int" "str").getD false = _
  rw [k_str_int] <;> rfl
theorem k_str_str : kitB "str" "str" = some true := by decide +kernel
@[simp] theorem is_str_str {s : Str} : isT "str" (.str s) = true := by
  show (kitB "str" "str").getD false = _
  rw [k_str_str] <;> rfl
theorem k_str_list : kitB "list" "str" = some false := by decide +kernel
@[simp] theorem is_str_list {l : List Dt} : isT "str" (.list l) = false := by
  show (kitB "list" "str").getD false = _
  rw [k_str_list] <;> rfl
theorem k_str_tuple : kitB "tuple" "str" = some false := by decide +kernel
@[simp] theorem is_str_tuple {l : List Dt} : isT "str" (.tuple l) = false := by
  show (kitB "tuple" "str").getD false = _
  rw [k_str_tuple] <;> rfl
theorem k_list_none : kitB "NoneType" "list" = some false := by decide +kernel
@[simp] theorem is_list_none : isT "list" (.none) = false := by
  show (kitB "NoneType" "list").getD false = _
  rw [k_list_none] <;> rfl
theorem k_list_bool : kitB "bool" "list" = some false := by decide +kernel
@[simp] theorem is_list_bool {b : Bool} : isT "list" (.bool b) = false := by
  show (kitB "bool" "list").getD false = _
  rw [k_list_bool] <;> rfl
theorem k_list_int : kitB "int" "list" = some false := by decide +kernel
@[simp] theorem is_list_int {i : Int} : isT "list" (.int i) = false := by
  show (kitB "int" "list").getD false = _
  rw [k_list_int] <;> rfl
theorem k_list_str : kitB "str" "list" = some false := by decide +kernel
@[simp] theorem is_list_str {s : Str} : isT "list" (.str s) = false := by
  show (kitB "str" "list").getD false = _
  rw [k_list_str] <;> rfl
theorem k_list_list : kitB "list" "list" = some true := by decide +kernel
@[simp] theorem is_list_list {l : List Dt} : isT "list" (.list l) = true := by
  show (kitB "list" "list").getD false = _
  rw [k_list_list] <;> rfl
theorem k_list_tuple : kitB "tuple" "list" = some false := by decide +kernel
@[simp] theorem is_list_tuple {l : List Dt} : isT "list" (.tuple l) = false := by
  show (kitB "tuple" "list").getD false = _
  rw [k_list_tuple] <;> rfl
theorem k_tuple_none : kitB "NoneType" "tuple" = some false := by decide +kernel
@[simp] theorem is_tuple_none : isT "tuple" (.none) = false := by
  show (kitB "NoneType" "tuple").getD false = _
  rw [k_tuple_none] <;> rfl
theorem k_tuple_bool : kitB "bool" "tuple" = some false := by decide +kernel
@[simp] theorem is_tuple_bool {b : Bool} : isT "tuple" (.bool b) = false := by
  show (kitB "bool" "tuple").getD false = _
  rw [k_tuple_bool] <;> rfl
theorem k_tuple_int : kitB "int" "tuple" = some false := by decide +kernel
@[simp] theorem is_tuple_int {i : Int} : isT "tuple" (.int i) = false := by
  show (kitB "int" "tuple").getD false = _
  rw [k_tuple_int] <;> rfl
theorem k_tuple_str : kitB "str" "tuple" = some false := by decide +kernel
@[simp] theorem is_tuple_str {s : Str} : isT "tuple" (.str s) = false := by
  show (kitB "str" "tuple").getD false = _
  rw [k_tuple_str] <;> rfl
theorem k_tuple_list : kitB "list" "tuple" = some false := by decide +kernel
@[simp] theorem is_tuple_list {l : List Dt} : isT "tuple" (.list l) = false := by
  show (kitB "list" "tuple").getD false = _
  rw [k_tuple_list] <;> rfl
theorem k_tuple_tuple : kitB "tuple" "tuple" = some true := by decide +kernel
@[simp] theorem is_tuple_tuple {l : List Dt} : isT "tuple" (.tuple l) = true := by
  show (kitB "tuple" "tuple").getD false = _
  rw [k_tuple_tuple] <;> rfl
theorem k_dict_none : kitB "NoneType" "dict" = some false := by decide +kernel
@[simp] theorem is_dict_none : isT "dict" (.none) = false := by
  show (kitB "NoneType" "dict").getD false = _
  rw [k_dict_none] <;> rfl
theorem k_dict_bool : kitB "bool" "dict" = some false := by decide +kernel
@[simp] theorem is_dict_bool {b : Bool} : isT "dict" (.bool b) = false := by
  show (kitB "bool" "dict").getD false = _
  rw [k_dict_bool] <;> rfl
theorem k_dict_int : kitB "int" "dict" = some false := by decide +kernel
@[simp] theorem is_dict_int {i : Int} : isT "dict" (.int i) = false := by
  show (kitB "int" "dict").getD false = _
  rw [k_dict_int] <;> rfl
theorem k_dict_str : kitB "str" "dict" = some false := by decide +kernel
@[simp] theorem is_dict_str {s : Str} : isT "dict" (.str s) = false := by
  show (kitB "str" "dict").getD false = _
  rw [k_dict_str] <;> rfl
theorem k_dict_list : kitB "list" "dict" = some false := by decide +kernel
@[simp] theorem is_dict_list {l : List Dt} : isT "dict" (.list l) = false := by
  show (kitB "list" "dict").getD false = _
  rw [k_dict_list] <;> rfl
theorem k_dict_tuple : kitB "tuple" "dict" = some false := by decide +kernel
@[simp] theorem is_dict_tuple {l : List Dt} : isT "dict" (.tuple l) = false := by
  show (kitB "tuple" "dict").getD false = _
  rw [k_dict_tuple] <;> rfl
/-! ### loops -/
theorem forGo_inv {g : FG} {f : FS} (I : Nat → List Sl → Option Well → Prop) : ∀ (items : List Dt) (n : Nat) (ρ : List Sl) (W : Option Well),
    (∀ (i : Nat) (d : Dt) (ρ : List Sl) (W : Option Well), items[i]? = some d → I (n + i) ρ W → ∃ ρ1, g d ρ = some ρ1 ∧ ∃ ρ2 W2, f ρ1 W = .nx ρ2 W2 ∧ I (n + i + 1) ρ2 W2) → I n ρ W → ∃ ρ' W', forGo g f items ρ W = .nx ρ' W' ∧ I (n + items.length) ρ' W'
  | [], n, ρ, W, _, h => ⟨ρ, W, rfl, h⟩
  | d :: r, n, ρ, W, hs, h => by
    obtain ⟨ρ1, e1, ρ2, W2, e2, h2⟩ := hs 0 d ρ W rfl h
    obtain ⟨ρ', W', e3, h3⟩ := forGo_inv I r (n + 1) ρ2 W2 (fun i d ρ W hd hi => by
      have := hs (i + 1) d ρ W hd (by rw [← Nat.add_assoc, Nat.add_right_comm]; exact hi)
      rw [← Nat.add_assoc, Nat.add_right_comm n i 1] at this
      exact this) h2
    refine ⟨ρ', W', ?_, ?_⟩
    · show (match g d ρ with | some ρ1 => (f ρ1 W).seq (forGo g f r) | none => .bad) = _
      rw [e1]
      show (f ρ1 W).seq (forGo g f r) = _
      rw [e2]
      exact e3
    · rw [List.length_cons, Nat.add_comm r.length 1, ← Nat.add_assoc]
      exact h3
theorem rangeD_get {lo : Int} {n i : Nat} {d : Dt} (h : (rangeD lo n)[i]? = some d) : d = .int (lo + i) ∧ i < n := by
  unfold rangeD at h
  rw [List.getElem?_map] at h
  by_cases hi : i < n
  · rw [List.getElem?_range hi] at h
    cases h
    exact ⟨rfl, hi⟩
  · rw [List.getElem?_eq_none (by rw [List.length_range]; omega)] at h
    cases h
theorem rangeD_mem {lo : Int} {n : Nat} {d : Dt} (h : d ∈ rangeD lo n) : ∃ i : Nat, d = .int (lo + i) ∧ i < n := by
  obtain ⟨i, hi⟩ := List.getElem?_of_mem h
  exact ⟨i, rangeD_get hi⟩
/-- a comprehension that takes what p says and gives g of it -/
theorem lcGo_is {fg : FG} {ft : FT} {fe : FE} {ρ : List Sl} {W : Option Well} (p : Dt → Bool) (g : Dt → Dt) : ∀ items : List Dt,
    (∀ d ∈ items, ∃ ρ2, fg d ρ = some ρ2 ∧ ft ρ2 W = .ok (p d) W ∧ (p d = true → ∃ e, fe ρ2 W = .ok e W ∧ e.D = g d)) → lcGo fg ft fe ρ items W = .ok ((items.filter p).map g) W
  | [], _ => rfl
  | d :: r, h => by
    obtain ⟨ρ2, e1, e2, e3⟩ := h d (List.mem_cons_self)
    have ih := lcGo_is p g r fun x hx => h x (List.mem_cons_of_mem _ hx)
    unfold lcGo
    rw [e1]
    dsimp only
    rw [e2]
    cases hp : p d with
    | true =>
      obtain ⟨e, e4, e5⟩ := e3 hp
      dsimp only
      rw [e4]
      dsimp only
      rw [ih]
      dsimp only
      rw [List.filter_cons_of_pos hp, List.map_cons, e5]
    | false =>
      dsimp only
      rw [ih, List.filter_cons_of_neg (by rw [hp]; decide)]
theorem atI_get {α : Type} {l : List α} {i : Int} (h0 : 0 ≤ i) (h : i < l.length) : ∃ d, atI l i = some d ∧ l[i.toNat]? = some d := by
  obtain ⟨j, rfl⟩ := Int.eq_ofNat_of_zero_le h0
  have hi : j < l.length := by omega
  exact ⟨l[j], atI_nat (List.getElem?_eq_getElem hi), by rw [Int.toNat_natCast]; exact List.getElem?_eq_getElem hi⟩
theorem atI_mem {α : Type} {l : List α} {i : Int} (h0 : 0 ≤ i) (h : i < l.length) : ∃ d, atI l i = some d ∧ d ∈ l := by
  obtain ⟨d, h1, h2⟩ := atI_get h0 h
  exact ⟨d, h1, List.mem_of_getElem? h2⟩
end Lw
set_option Elab.async false
set_option linter.all false
set_option maxRecDepth 100000
set_option maxHeartbeats 2000000
set_option autoImplicit false
namespace Lw
open PySem PySem.Spec PyProof.Rows L2
theorem cx_false {P : Program} {w : World} {outer : List Env} {H : Hp} {s s' : Shared} {e : Value} (h : L2.CX P w outer H s (fun _ _ _ => False) e s') : False := by
  obtain ⟨_, _, _, _, _, _, _, _, _, _, _, _, z⟩ := h
  exact z
variable [KI : FragI]
theorem lsR_of {H : Hp} {a : Addr} {xs : List V} (h : SqL fK H a xs) : LsR (fun _ => False) H a xs := by
  rcases h with h | ⟨o, its, n, h1, h2, h3, h4, h5, h6⟩
  · exact .inl ⟨id, h⟩
  · exact .inr ⟨o, its, n, h1, h2, h3, h4, h5, h6⟩
/-! ### a display, k times -/
section
variable {C : Cd}
theorem RpA.app {O : Own} {H : Hp} : ∀ {vs ws : List V} {ds es : List Dt}, RpA O H vs ds → RpA O H ws es → RpA O H (vs ++ ws) (ds ++ es)
  | _, _, _, _, .nil, h => h
  | _, _, _, _, .cons r al, h => .cons r (RpA.app al h)
theorem RpA.rep {O : Own} {H : Hp} {vs : List V} {ds : List Dt} (h : RpA O H vs ds) : ∀ n : Nat, RpA O H (List.replicate n vs).flatten (List.replicate n ds).flatten
  | 0 => .nil
  | n + 1 => by
    rw [List.replicate_succ, List.replicate_succ, List.flatten_cons, List.flatten_cons]
    exact h.app (RpA.rep h n)
def eRep (n : Nat) (g : FA) : FE := fun ρ W => (g ρ W).bind fun as W1 => match datas as with | some ds => if ds.length ≤ lineN ∧ ds.length * n ≤ lineN then .ok (.f (List.replicate n ds).flatten) W1 else .bad | none => .bad
theorem se_rep {es : List Expr} {g : FA} {n : Nat} {kc : Nat} {lpos npos pos : Pos} (hs : SA C es g) (hn : (n : Int) < 2 ^ 63 := by decide) : SE C (.BinOp (.List es lpos) .Mult (.Constant (.int n) kc npos) pos) (eRep n g) := by
  obtain ⟨t, p, s⟩ := hs
  refine ⟨_, fun X h => pe_op op_rep (pe_lst (p X h)) pe_int, fun a W Q I h => ?_⟩
  refine s.then I h fun as W1 vs H1 e1 st r1 h1 => ?_
  split at h1
  · rename_i ds e
    split at h1
    · rename_i z
      have al := r1.datas e
      have hP := wE.pure (a := { a with H := H1 }) (o := some (.f (List.replicate n ds).flatten)) e1 h1
      refine ⟨line_le (by rw [al.length]; exact z.1), fun q hq => ?_⟩
      refine ⟨q, (n : Int), vs, rfl, rfl, upd_same, by omega, hn, line_le (by rw [al.length]; exact z.2), fun q' hq' => ?_⟩
      have s1 : Same H1 (upd H1 q (.lst vs)) := fun b o hb => by rw [upd_ne (ne_of_none hb hq)]; exact hb
      have s2 : Same (upd H1 q (.lst vs)) (upd (upd H1 q (.lst vs)) q' (.lst (List.replicate (n : Int).toNat vs).flatten)) := fun b o hb => by rw [upd_ne (ne_of_none hb hq')]; exact hb
      have hq1 : H1 q' = none := by
        cases hx : H1 q' with
        | none => rfl
        | some o => rw [s1 _ _ hx] at hq'; cases hq'
      refine hP q' _ _ (s1.trans s2) hq1 upd_same ?_
      have hrep := al.rep n
      rw [show ((n : Int).toNat) = n from Int.toNat_natCast n]
      refine hrep.stp fun b o nb hb => ⟨fun z => ?_, ?_⟩
      · rcases z with z | z
        · exact nb z
        · subst z
          have hb' : H1 b = some o := hb
          rw [hq1] at hb'
          cases hb'
      · have := (s1.trans s2) b o hb
        rw [show ((n : Int).toNat) = n from Int.toNat_natCast n] at this
        exact this
    · exact absurd h1 id
  · exact absurd h1 id
end
@[simp] theorem v_rep {n : Nat} {fa : FA} {ρ : List Sl} {W : Option Well} : eRep n fa ρ W = (fa ρ W).bind fun as W1 => match datas as with | some ds => if ds.length ≤ lineN ∧ ds.length * n ≤ lineN then .ok (.f (List.replicate n ds).flatten) W1 else .bad | none => .bad := nr rfl
/-! ### three names at once -/
section
variable {C : Cd}
def sPar3 (i j l : Nat) (g : FA) : FS := fun ρ W => match g ρ W with
  | .ok [.dt x, .dt y, .dt z] W1 => .nx (((ρ.set i (.dt x)).set j (.dt y)).set l (.dt z)) W1
  | .exc c W1 => .exc c ρ W1
  | _ => .bad
theorem ss_par3 {i j l : Nat} {x y z : Str} {a b c : Expr} {g : FA} {px py pz pt pos : Pos} {kt k2 pt2} (hi : C.N[i]? = some x) (hj : C.N[j]? = some y) (hl : C.N[l]? = some z) (hij : i ≠ j) (hil : i ≠ l) (hjl : j ≠ l)
    (hx : C.sc.names.lookup x = some .local) (hy : C.sc.names.lookup y = some .local) (hz : C.sc.names.lookup z = some .local) (ha : SA C [a, b, c] g)
    (hw : ∀ X, C.P X → swappedStores [.Tuple [.Name x px, .Name y py, .Name z pz] kt pt] (.Tuple [a, b, c] k2 pt2) X.env = pure (some [x, y, z])) (hs : ∀ X, C.P X → swapsWithSole [.Tuple [.Name x px, .Name y py, .Name z pz] kt pt] (.Tuple [a, b, c] k2 pt2) pos.line X.env = pure false := by intro _ _; rfl) (hcm : C.cm = true := by rfl) :
    SS C (.Assign [.Tuple [.Name x px, .Name y py, .Name z pz] kt pt] (.Tuple [a, b, c] k2 pt2) pos) (sPar3 i j l g) := by
  obtain ⟨t, p, s⟩ := ha
  refine ⟨_, fun X h => ps_par3 (C.calmC hcm X h) (by rw [C.hN X h]; exact C.nd) (by rw [C.hN X h]; exact hi) (by rw [C.hN X h]; exact hj) (by rw [C.hN X h]; exact hl) hij hil hjl (by rw [C.hsc X h]; exact hx) (by rw [C.hsc X h]; exact hy) (by rw [C.hsc X h]; exact hz) (p X h) (hw X h) (hs X h), fun a W Dn hm I h => ?_⟩
  refine s a W _ I ?_
  unfold sPar3 at h
  revert h
  cases eg : g a.ρ W with
  | bad => exact id
  | exc c W1 => exact fun h H' e1 st => h (a.to H') (Aft.est I st) rfl e1
  | ok as W1 =>
    intro h vs H1 e1 st r
    cases r with
    | nil => exact absurd h id
    | @cons s1 v1 ss vs r1 rr =>
      cases rr with
      | nil => cases s1 <;> exact absurd h id
      | @cons s2 v2 ss2 vs2 r2 rr =>
        cases rr with
        | nil => cases s1 <;> cases s2 <;> exact absurd h id
        | @cons s3 v3 ss3 vs3 r3 rr =>
          cases rr with
          | cons _ _ => cases s1 <;> cases s2 <;> cases s3 <;> exact absurd h id
          | nil =>
            cases s1 with
            | dt x =>
              cases s2 with
              | dt y =>
                cases s3 with
                | dt z =>
                  refine ⟨v1, v2, v3, rfl, ?_⟩
                  have h2 : wS C.Wx C.ca (a.to H1) Dn (.nx (((a.ρ.set i (.dt x)).set j (.dt y)).set l (.dt z)) W1) := wS.later (o := .nx (((a.ρ.set i (.dt x)).set j (.dt y)).set l (.dt z)) W1) (Aft.est I st) h
                  exact h2.nxt (O' := a.O) Stp.refl ⟨((e1.1.set i (s := .dt x) (o := some v1) r1 (fun _ _ z => nomatch z)).set j (s := .dt y) (o := some v2) r2 (fun _ _ z => nomatch z)).set l (s := .dt z) (o := some v3) r3 (fun _ _ z => nomatch z), e1.2⟩
                | _ => exact absurd h id
              | _ => exact absurd h id
            | _ => exact absurd h id
end
@[simp] theorem v_par3 {i j l : Nat} {fa : FA} {ρ : List Sl} {W : Option Well} : sPar3 i j l fa ρ W = (match fa ρ W with
  | .ok [.dt x, .dt y, .dt z] W1 => .nx (((ρ.set i (.dt x)).set j (.dt y)).set l (.dt z)) W1
  | .exc c W1 => .exc c ρ W1
  | _ => .bad) := nr rfl
end Lw
set_option Elab.async false
set_option linter.all false
set_option maxRecDepth 100000
set_option maxHeartbeats 400000
set_option autoImplicit false
/-! # range(a, b) of ints of any size -/
namespace Lw
open PySem PySem.Spec PyProof.Rows L2
theorem turn_long {P : Program} {w : World} {K : PySem.W.Frag} {tg : Expr} (p : Addr) (lo : Int) (n : Nat) : Turn P w K tg (Itr lo n) [p] p (fun i h => IsLongIter h p (lo + (i : Nat) * 1) ((n : Int) - (i : Nat)) 1) where
  mem := List.mem_singleton.mpr rfl
  obj := fun i h hi b hb => by
    obtain rfl := List.mem_singleton.mp hb
    exact ⟨_, hi, fun v z => by cases (show Data.fields _ = Data.cell v from z)⟩
  keep := fun i h g hi k => k p (List.mem_singleton.mpr rfl) _ hi
  item := by
    intro Y hP hw hK hc i ps s σ H E J hf hi hg
    subst hP
    subst hw
    subst hK
    obtain ⟨a0, a1, a2, a3, a4, a5⟩ := hf p (List.mem_singleton.mpr rfl)
    refine (Walks.longrange (prog := Y.prog) (w := Y.w) (J.ok.hd hc) p lo 1 n).item i s _ _ hg hi fun v g tk hv hi' kk => ?_
    obtain ⟨t, rfl⟩ := hv
    have J1 : Inv Y ps σ H { s with heap := g, toks := tk } := J.turned (fun b o hb e => kk b o (by rwa [List.mem_singleton]) e) a0 a1 a3 a4 a5
    refine ⟨_, rfl, go_of (s := { s with heap := g, toks := tk }) (n := "longrange_iterator") hi' rfl rfl (by decide) ⟨.int (lo + i), H, J1, ⟨t, by rw [Int.mul_one]⟩, ⟨rfl, rfl⟩, hi', fun b hb => (hf b hb).1⟩⟩
  done := by
    intro Y hP hw hK hc i ps s σ H E J hf hi hg
    subst hP
    subst hw
    subst hK
    obtain ⟨a0, a1, a2, a3, a4, a5⟩ := hf p (List.mem_singleton.mpr rfl)
    have hg' : n ≤ i := hg
    exact wpAny_pyNext_long_end (J.ok.hd hc) hi (by omega) fun g eb => ⟨rfl, J.turned (t' := s.toks) (fun b o hb e => eb b o hb e) a0 a1 a3 a4 a5⟩
  self := fun _ _ _ _ _ hi z => wpAny_pyIter_longiter hi z
section
variable {X : Cx} {tg : Expr}
theorem range_any {pins : List (Addr × Obj)} {σ : L2.St} {H : Hp} {s : Shared} {R : It → Hp → Prop} {E : Value → Shared → Prop} {lo hi : Int} {t u v : Tok} {tk : Nat} (I : Inv X pins σ H s) (q : R (Itr lo (hi - lo).toNat) H) :
    wpAny (model X.prog X.w) X.A (pyIter (.ref s.heap.objs.size)) (PIE X pins σ tg R) E { s with heap := s.heap.push { cls := .type "range", data := .fields #[.int lo t, .int hi u, .int 1 v] }, toks := tk } := by
  have I1 : Inv X pins σ H { s with heap := s.heap.push { cls := .type "range", data := .fields #[.int lo t, .int hi u, .int 1 v] }, toks := tk } := I.kept fun b o e => Heap.get?_push_of_some _ e
  have e1 : lo + ((0 : Nat) : Int) * 1 = lo := by simp
  have e2 : (((hi - lo).toNat : Nat) : Int) - ((0 : Nat) : Int) = Builtin.Range.rangeSize lo hi 1 := by
    rw [rangeSize_one]
    split <;> omega
  have fp : ∀ b ∈ [(s.heap.push { cls := .type "range", data := .fields #[.int lo t, .int hi u, .int 1 v] }).objs.size], FpOk X pins H b := fun b hb => by
    obtain rfl := List.mem_singleton.mp hb
    exact I1.fpOk (Nat.le_refl _) (I1.hok.fresh (Nat.le_refl _))
  cases hs : Builtin.Range.small lo hi 1 with
  | true =>
    refine wpAny_pyIter_range (IsRange.new ..) hs ⟨_, [_], _, _, H, rfl, I1.kept (t' := tk) fun b o e => Heap.get?_push_of_some _ e, turn_range _ lo (hi - lo).toNat, ?_, fp, q⟩
    show IsRangeIter _ _ (lo + ((0 : Nat) : Int) * 1) ((((hi - lo).toNat : Nat) : Int) - ((0 : Nat) : Int)) 1
    rw [e1, e2]
    exact Heap.get?_push_size _ rfl
  | false =>
    refine wpAny_pyIter_longrange (IsRange.new ..) hs ⟨_, [_], _, _, H, rfl, I1.kept (t' := tk) fun b o e => Heap.get?_push_of_some _ e, turn_long _ lo (hi - lo).toNat, ?_, fp, q⟩
    show IsLongIter _ _ (lo + ((0 : Nat) : Int) * 1) ((((hi - lo).toNat : Nat) : Int) - ((0 : Nat) : Int)) 1
    rw [e1, e2]
    exact Heap.get?_push_size _ rfl
def iRngW (ta : TA) : TI := fun σ H R => ta σ H fun vs H1 => ∃ i j : Int, vs = [.int i, .int j] ∧ R (Itr i (j - i).toNat) H1
theorem pi_rangeW {a b : Expr} {ta : TA} {p pos : Pos} (hg : Gl X "range") (hm : X.mg "range" = none) (ha : PA X [a, b] ta) (hs : starEach [a, b] X.env = [(false, eval a X.env), (false, eval b X.env)]) (hs2 : starEach [b] X.env = [(false, eval b X.env)]) :
    PI X tg (.Call (.Name "range" p) [a, b] [] pos) (iRngW ta) := by
  constructor
  intro ps s σ H R I h
  refine Call_ (ld_blt I hg hm boot_range (callWith_type1 (thn (ha.run pos ps s σ H _ I h) fun us s1 ⟨vs, H1, I1, r1, q1⟩ => ?_) (by rw [hs, hs2]) (by rw [hs2]; rfl)))
  obtain ⟨i, j, ev, q⟩ := q1
  rw [ev] at r1
  cases r1 with
  | cons r r2 =>
    cases r2 with
    | cons r' r3 =>
      cases r3
      obtain ⟨t, rfl⟩ := r
      obtain ⟨t', rfl⟩ := r'
      exact call_range_2 (range_any I1 q)
end
variable [KI : FragI] {C : Cd}
def fiRangeW (g : FA) : FI := fun ρ W => (g ρ W).bindI fun as W1 => match datas as with | some [.int i, .int j] => .ok (rangeD i (j - i).toNat) W1 | _ => .bad
theorem si_rangeW {tg e e2 : Expr} {p pos : Pos} {g : FA} (hg : C.G "range") (hm : C.mg "range" = none) (ha : SA C [e, e2] g) (hs : ∀ env, starEach [e, e2] env = [(false, eval e env), (false, eval e2 env)] := by intro _; rfl)
    (hs2 : ∀ env, starEach [e2] env = [(false, eval e2 env)] := by intro _; rfl) : SI C tg (.Call (.Name "range" p) [e, e2] [] pos) (fiRangeW g) := by
  obtain ⟨t, q, s⟩ := ha
  refine ⟨_, fun X h => pi_rangeW (C.gl h hg) (by rw [C.hmg X h]; exact hm) (q X h) (hs _) (hs2 _), fun a W R I h => ?_⟩
  refine s.thenI I h fun as W1 vs H1 e1 st r1 h1 => ?_
  split at h1
  · rename_i i j ej
    have al := r1.datas ej
    cases al with
    | cons r al =>
      cases al with
      | cons r2 al =>
        cases al
        cases r
        cases r2
        exact ⟨_, _, rfl, h1 _ H1 e1 Est.refl wkd_range⟩
  · exact absurd h1 id
@[simp] theorem v_irW {fa : FA} {ρ : List Sl} {W : Option Well} : fiRangeW fa ρ W = (fa ρ W).bindI fun as W1 => match datas as with | some [.int i, .int j] => .ok (rangeD i (j - i).toNat) W1 | _ => .bad := nr rfl
end Lw
set_option Elab.async false
set_option linter.all false
set_option maxRecDepth 100000
set_option maxHeartbeats 8000000
set_option autoImplicit false
namespace Lw
open PySem PySem.Spec PyProof.Rows L2
variable [KI : FragI]
/-! ### numbers -/
theorem log_lt {i : Int} {a : Nat} (h : i.natAbs < 2 ^ a) (h0 : 0 < a) : i.natAbs.log2 < a := PySem.Flt.log2_lt_of h0 h
theorem cMul_of {i j : Int} {a b : Nat} (hi : i.natAbs < 2 ^ a) (hj : j.natAbs < 2 ^ b) (h : a + b ≤ 1000000 ∧ 0 < a ∧ 0 < b := by decide) : cMul i j = true := by
  have h1 := log_lt hi h.2.1
  have h2 := log_lt hj h.2.2
  exact decide_eq_true (by omega)
theorem cPow_of {i : Int} {n : Nat} {a : Nat} (hi : i.natAbs < 2 ^ a) (hn : 0 < a ∧ n ≤ 1000 ∧ (a + 1) * n ≤ 100000 := by decide) : cPow i n = true := by
  have h1 := log_lt hi hn.1
  refine decide_eq_true ⟨by omega, by omega, ?_⟩
  have e : ((n : Int)).toNat = n := by omega
  rw [e]
  exact Nat.le_trans (Nat.mul_le_mul_right n (by omega : i.natAbs.log2 + 1 ≤ a + 1)) hn.2.2
theorem cDiv_of {i j : Int} {a : Nat} (h : 0 < j) (hj : j.natAbs < 2 ^ a) (ha : 0 < a ∧ a ≤ 9000 := by decide) : cDiv i j = true := by
  have h1 := log_lt hj ha.1
  exact decide_eq_true ⟨h, by omega⟩
/-! ### the well -/
def wOk (k : Nat) (w : Well) : Prop := 0 ≤ w.1 ∧ 0 ≤ w.2.1 ∧ w.2.1 < 2 ^ 200 ∧ 0 ≤ w.2.2 ∧ w.2.2 + k < 2 ^ 200
theorem wOk.mono {j k : Nat} {w : Well} (h : wOk k w) (hj : j ≤ k) : wOk j w := ⟨h.1, h.2.1, h.2.2.1, h.2.2.2.1, by have := h.2.2.2.2; omega⟩
/-! ### the same -/
theorem sh_int (i : Int) : SeqAt.shaped (.int i) = true := by simp [SeqAt.shaped, PyData.canLay0, PyData.depth]
theorem v_nilNil : gEq (.list []) (.list []) = some (.d (.bool true)) := by
  have h0 : SeqAt.shaped (.list []) = true := by simp [SeqAt.shaped, PyData.canLay0, PyData.canLayAll0, PyData.depth, PyData.depthAll]
  unfold gEq
  rw [if_pos ⟨h0, h0⟩]
  simp [PyData.eqv, PyData.eqvAll]
theorem v_eqNil (l : List Dt) (h : SeqAt.shaped (.list l) = true) : gEq (.list l) (.list []) = some (.d (.bool (decide (l = [])))) := by
  have h0 : SeqAt.shaped (.list []) = true := by simp [SeqAt.shaped, PyData.canLay0, PyData.canLayAll0, PyData.depth, PyData.depthAll]
  unfold gEq
  rw [if_pos ⟨h, h0⟩]
  cases l with
  | nil => simp [PyData.eqv, PyData.eqvAll]
  | cons x r => simp [PyData.eqv, PyData.eqvAll]
theorem atI_int {ns : List Int} {i : Int} (h0 : 0 ≤ i) (h : i < ns.length) : ∃ v, atI (ns.map PyData.int) i = some (.int v) ∧ v ∈ ns := by
  obtain ⟨d, h1, h2⟩ := atI_mem (l := ns.map PyData.int) h0 (by rw [List.length_map]; exact h)
  obtain ⟨v, hv, rfl⟩ := List.mem_map.mp h2
  exact ⟨v, h1, hv⟩
/-- a comprehension, its turns in order, the well along -/
theorem lcGo_inv {fg : FG} {ft : FT} {fe : FE} {ρ : List Sl} (I : Nat → Option Well → List Dt → Prop) : ∀ (items : List Dt) (n : Nat) (W : Option Well) (acc : List Dt),
    (∀ (i : Nat) (d : Dt) (W : Option Well) (acc : List Dt), items[i]? = some d → I (n + i) W acc → ∃ ρ2 W1 b, fg d ρ = some ρ2 ∧ ft ρ2 W = .ok b W1 ∧ (b = false → I (n + i + 1) W1 acc) ∧ (b = true → ∃ e W2, fe ρ2 W1 = .ok e W2 ∧ I (n + i + 1) W2 (acc ++ [e.D]))) → I n W acc → ∃ r W', lcGo fg ft fe ρ items W = .ok r W' ∧ I (n + items.length) W' (acc ++ r)
  | [], n, W, acc, _, h => ⟨[], W, rfl, by rw [List.append_nil]; exact h⟩
  | d :: r, n, W, acc, hs, h => by
    obtain ⟨ρ2, W1, b, e1, e2, h1, h2⟩ := hs 0 d W acc rfl h
    have next : ∀ (i : Nat) (d : Dt) (W : Option Well) (acc : List Dt), r[i]? = some d → I (n + 1 + i) W acc → ∃ ρ2 W1 b, fg d ρ = some ρ2 ∧ ft ρ2 W = .ok b W1 ∧ (b = false → I (n + 1 + i + 1) W1 acc) ∧ (b = true → ∃ e W2, fe ρ2 W1 = .ok e W2 ∧ I (n + 1 + i + 1) W2 (acc ++ [e.D])) := fun i d W acc hd hi => by
      have := hs (i + 1) d W acc hd (by rw [← Nat.add_assoc, Nat.add_right_comm]; exact hi)
      rw [← Nat.add_assoc, Nat.add_right_comm n i 1] at this
      exact this
    unfold lcGo
    rw [e1]
    dsimp only
    rw [e2]
    cases b with
    | false =>
      obtain ⟨r', W', e3, h3⟩ := lcGo_inv I r (n + 1) W1 acc next (h1 rfl)
      refine ⟨r', W', e3, ?_⟩
      rw [List.length_cons, Nat.add_comm r.length 1, ← Nat.add_assoc]
      exact h3
    | true =>
      obtain ⟨e, W2, e4, h4⟩ := h2 rfl
      obtain ⟨r', W', e3, h3⟩ := lcGo_inv I r (n + 1) W2 (acc ++ [e.D]) next h4
      refine ⟨e.D :: r', W', ?_, ?_⟩
      · dsimp only
        rw [e4]
        dsimp only
        rw [e3]
      · rw [List.length_cons, Nat.add_comm r.length 1, ← Nat.add_assoc]
        rw [List.append_assoc] at h3
        exact h3
/-- a while that ends: its measure goes down -/
theorem whGo_inv {t : FT} {f : FS} (I : Nat → List Sl → Option Well → Prop) (J : List Sl → Option Well → Prop)
    (step : ∀ (m : Nat) (ρ : List Sl) (W : Option Well), I m ρ W → ∃ b W1, t ρ W = .ok b W1 ∧ (b = false → J ρ W1) ∧ (b = true → ∃ ρ2 W2, f ρ W1 = .nx ρ2 W2 ∧ ∃ m', m' < m ∧ I m' ρ2 W2)) :
    ∀ (m n : Nat) (ρ : List Sl) (W : Option Well), m < n → I m ρ W → ∃ ρ' W', whGo t f n ρ W = .nx ρ' W' ∧ J ρ' W'
  | m, 0, ρ, W, h, _ => absurd h (Nat.not_lt_zero _)
  | m, n + 1, ρ, W, h, hi => by
    obtain ⟨b, W1, e1, h1, h2⟩ := step m ρ W hi
    show ∃ ρ' W', (t ρ W).toS ρ (fun k W1 => if k = true then (f ρ W1).seq (whGo t f n) else .nx ρ W1) = .nx ρ' W' ∧ J ρ' W'
    rw [e1]
    cases b with
    | false => exact ⟨ρ, W1, rfl, h1 rfl⟩
    | true =>
      obtain ⟨ρ2, W2, e2, m', hm, hi2⟩ := h2 rfl
      obtain ⟨ρ', W', e3, hJ⟩ := whGo_inv I J step m' n ρ2 W2 (by omega) hi2
      refine ⟨ρ', W', ?_, hJ⟩
      show (f ρ W1).seq (whGo t f n) = _
      rw [e2]
      exact e3
theorem N0_big {m : Nat} (h : m < 2 ^ 1000) : m < N0 := by
  unfold N0
  exact Nat.lt_of_lt_of_le h (Nat.pow_le_pow_right (by decide) (by decide))
end Lw
set_option Elab.async false
set_option linter.all false
set_option maxRecDepth 100000
set_option maxHeartbeats 4000000
set_option autoImplicit false
/-! # Sums of quotients, counts below an edge -/
namespace Lw
/-- the sum of (a * i + b) / m over i < n -/
def fsum (m a b : Nat) : Nat → Nat
  | 0 => 0
  | n + 1 => fsum m a b n + (a * n + b) / m
theorem fsum_first (m a b : Nat) : ∀ n : Nat, fsum m a b (n + 1) = b / m + fsum m a (a + b) n
  | 0 => by simp [fsum]
  | n + 1 => by
    have ih := fsum_first m a b n
    show fsum m a b (n + 1) + (a * (n + 1) + b) / m = b / m + (fsum m a (a + b) n + (a * n + (a + b)) / m)
    rw [ih, show a * (n + 1) + b = a * n + (a + b) by rw [Nat.mul_succ]; omega]
    omega
/-- the sum of (t - m * k) / a over k of 1 .. y -/
def gsum (m a t : Nat) : Nat → Nat
  | 0 => 0
  | k + 1 => gsum m a t k + (t - m * (k + 1)) / a
theorem gsum_is (m a t : Nat) : ∀ y : Nat, m * y ≤ t → fsum a m (t - m * y) y = gsum m a t y
  | 0, _ => rfl
  | y + 1, h => by
    have hm : m * (y + 1) = m * y + m := Nat.mul_succ m y
    rw [fsum_first]
    have ih := gsum_is m a t y (by omega)
    rw [show m + (t - m * (y + 1)) = t - m * y by omega, ih]
    show _ = gsum m a t y + (t - m * (y + 1)) / a
    omega
theorem gsum_add (m a t : Nat) (ha : 0 < a) : ∀ y : Nat, m * y ≤ t → gsum m a (t + a) y = gsum m a t y + y
  | 0, _ => rfl
  | y + 1, h => by
    have hm : m * (y + 1) = m * y + m := Nat.mul_succ m y
    have ih := gsum_add m a t ha y (by omega)
    show gsum m a (t + a) y + (t + a - m * (y + 1)) / a = gsum m a t y + (t - m * (y + 1)) / a + (y + 1)
    rw [ih, show t + a - m * (y + 1) = (t - m * (y + 1)) + a by omega, Nat.add_div_right _ ha]
    omega
theorem fsum_turn {m a b : Nat} (ha : 0 < a) (ham : a < m) (hb : b < m) : ∀ n : Nat, fsum m a b n = gsum m a (a * n + b) ((a * n + b) / m)
  | 0 => by
    rw [Nat.mul_zero, Nat.zero_add, Nat.div_eq_of_lt hb]
    rfl
  | n + 1 => by
    have ih := fsum_turn ha ham hb n
    show fsum m a b n + (a * n + b) / m = _
    rw [ih, show a * (n + 1) + b = (a * n + b) + a by rw [Nat.mul_succ]; omega]
    generalize a * n + b = t
    have hmp : 0 < m := by omega
    have h1 : m * (t / m) ≤ t := Nat.mul_div_le t m
    have h2 : t < m * (t / m) + m := Nat.lt_mul_div_succ t hmp |> fun h => by rw [Nat.mul_succ] at h; exact h
    rw [← gsum_add m a t ha _ h1]
    by_cases h : t + a < m * (t / m) + m
    · have : (t + a) / m = t / m := by
        refine Nat.div_eq_of_lt_le ?_ ?_
        · rw [Nat.mul_comm]; omega
        · rw [Nat.mul_comm, Nat.mul_succ]; omega
      rw [this]
    · have : (t + a) / m = t / m + 1 := by
        refine Nat.div_eq_of_lt_le ?_ ?_
        · rw [Nat.mul_comm, Nat.mul_succ]; omega
        · rw [Nat.mul_comm, Nat.mul_succ, Nat.mul_succ]; omega
      rw [this]
      show _ = gsum m a (t + a) (t / m) + (t + a - m * (t / m + 1)) / a
      rw [Nat.mul_succ, Nat.div_eq_of_lt (by omega : t + a - (m * (t / m) + m) < a)]
      rfl
/-- 0 + 1 + .. -/
def tri (n : Nat) : Nat := n * (n - 1) / 2
theorem tri_succ (n : Nat) : tri (n + 1) = tri n + n := by
  unfold tri
  rw [Nat.add_sub_cancel]
  cases n with
  | zero => rfl
  | succ k =>
    rw [Nat.add_sub_cancel]
    have : (k + 1 + 1) * (k + 1) = (k + 1) * k + (k + 1) * 2 := by rw [← Nat.mul_add, Nat.mul_comm]
    rw [this, Nat.add_mul_div_right _ _ (by decide)]
theorem fsum_mod {m a b : Nat} (hm : 0 < m) : ∀ n : Nat, fsum m a b n = (a / m) * tri n + (b / m) * n + fsum m (a % m) (b % m) n
  | 0 => by simp [fsum, tri]
  | n + 1 => by
    have ih := fsum_mod (a := a) (b := b) hm n
    show fsum m a b n + (a * n + b) / m = _ + (fsum m (a % m) (b % m) n + ((a % m) * n + b % m) / m)
    rw [ih, tri_succ]
    have e : a * n + b = ((a % m) * n + b % m) + m * ((a / m) * n + b / m) := by
      have h1 := Nat.div_add_mod a m
      have h2 := Nat.div_add_mod b m
      have h3 : a * n = (m * (a / m)) * n + (a % m) * n := by rw [← Nat.add_mul, h1]
      rw [h3, Nat.mul_add, Nat.mul_assoc]
      omega
    rw [e, Nat.add_mul_div_left _ _ hm, Nat.mul_add, Nat.mul_add, Nat.mul_one]
    omega
/-- one turn of Euclid -/
theorem fsum_step {m a b : Nat} (hm : 0 < m) (n : Nat) : fsum m a b n = (a / m) * tri n + (b / m) * n + fsum (a % m) m (((a % m) * n + b % m) % m) (((a % m) * n + b % m) / m) := by
  rw [fsum_mod hm]
  by_cases ha : a % m = 0
  · rw [ha, Nat.zero_mul, Nat.zero_add, Nat.div_eq_of_lt (Nat.mod_lt _ hm)]
    have z : ∀ k : Nat, fsum m 0 (b % m) k = 0 := fun k => by
      induction k with
      | zero => rfl
      | succ k ih =>
        show fsum m 0 (b % m) k + (0 * k + b % m) / m = 0
        rw [ih, Nat.zero_mul, Nat.zero_add, Nat.zero_add, Nat.div_eq_of_lt (Nat.mod_lt _ hm)]
    rw [z]
    rfl
  · rw [fsum_turn (by omega) (Nat.mod_lt _ hm) (Nat.mod_lt _ hm)]
    have h1 := Nat.div_add_mod ((a % m) * n + b % m) m
    rw [← gsum_is _ _ _ _ (Nat.mul_div_le _ _)]
    rw [show (a % m) * n + b % m - m * (((a % m) * n + b % m) / m) = ((a % m) * n + b % m) % m by omega]
/-- how many u < n have (f * u + h) % s below e -/
def cnt (s f h e : Nat) : Nat → Nat
  | 0 => 0
  | n + 1 => cnt s f h e n + if (f * n + h) % s < e then 1 else 0
theorem cnt_fsum {s f h e : Nat} (hs : 0 < s) (he : e ≤ s) : ∀ n : Nat, fsum s f h n + n = fsum s f (h + s - e) n + cnt s f h e n
  | 0 => rfl
  | n + 1 => by
    have ih := cnt_fsum (f := f) (h := h) hs he n
    show fsum s f h n + (f * n + h) / s + (n + 1) = fsum s f (h + s - e) n + (f * n + (h + s - e)) / s + (cnt s f h e n + if (f * n + h) % s < e then 1 else 0)
    have e1 : f * n + (h + s - e) = (f * n + h) + (s - e) := by omega
    rw [e1]
    generalize f * n + h = x at *
    have h1 := Nat.div_add_mod x s
    have h2 := Nat.mod_lt x hs
    have e2 : x + (s - e) = (x % s + (s - e)) + s * (x / s) := by omega
    rw [e2, Nat.add_mul_div_left _ _ hs]
    by_cases g : x % s < e
    · rw [if_pos g, Nat.div_eq_of_lt (by omega : x % s + (s - e) < s)]
      omega
    · rw [if_neg g]
      have : (x % s + (s - e)) / s = 1 := Nat.div_eq_of_lt_le (by omega) (by omega)
      rw [this]
      omega
/-- how many have just e -/
def eqc (g : Nat → Nat) (e : Nat) : Nat → Nat
  | 0 => 0
  | n + 1 => eqc g e n + if g n = e then 1 else 0
theorem eqc_zero {g : Nat → Nat} {e : Nat} : ∀ n : Nat, (∀ u, u < n → g u ≠ e) → eqc g e n = 0
  | 0, _ => rfl
  | n + 1, h => by
    show eqc g e n + (if g n = e then 1 else 0) = 0
    rw [eqc_zero n fun u hu => h u (by omega), if_neg (h n (by omega))]
theorem eqc_one {g : Nat → Nat} {e : Nat} : ∀ n : Nat, (∀ u v, u < n → v < n → g u = g v → u = v) → eqc g e n ≤ 1
  | 0, _ => Nat.zero_le _
  | n + 1, h => by
    show eqc g e n + (if g n = e then 1 else 0) ≤ 1
    by_cases q : g n = e
    · rw [if_pos q, eqc_zero n fun u hu z => by
        have := h u n (by omega) (by omega) (z.trans q.symm)
        omega]
      decide
    · rw [if_neg q]
      exact eqc_one n fun u v hu hv => h u v (by omega) (by omega)
theorem cnt_succ (s f h e : Nat) : ∀ n : Nat, cnt s f h (e + 1) n = cnt s f h e n + eqc (fun u => (f * u + h) % s) e n
  | 0 => rfl
  | n + 1 => by
    have ih := cnt_succ s f h e n
    show cnt s f h (e + 1) n + (if (f * n + h) % s < e + 1 then 1 else 0) = cnt s f h e n + (if (f * n + h) % s < e then 1 else 0) + (eqc (fun u => (f * u + h) % s) e n + if (f * n + h) % s = e then 1 else 0)
    rw [ih]
    by_cases h1 : (f * n + h) % s < e
    · rw [if_pos (by omega), if_pos h1, if_neg (by omega)]; omega
    · by_cases h2 : (f * n + h) % s = e
      · rw [if_pos (by omega), if_neg h1, if_pos h2]; omega
      · rw [if_neg (by omega), if_neg h1, if_neg h2]; omega
theorem cnt_zero (s f h : Nat) : ∀ n : Nat, cnt s f h 0 n = 0
  | 0 => rfl
  | n + 1 => by
    show cnt s f h 0 n + (if (f * n + h) % s < 0 then 1 else 0) = 0
    rw [cnt_zero s f h n, if_neg (by omega)]
theorem cnt_all {s f h : Nat} (hs : 0 < s) : ∀ n : Nat, cnt s f h s n = n
  | 0 => rfl
  | n + 1 => by
    show cnt s f h s n + (if (f * n + h) % s < s then 1 else 0) = n + 1
    rw [cnt_all hs n, if_pos (Nat.mod_lt _ hs)]
theorem inj {s f h : Nat} (g : Nat.gcd f s = 1) (u v : Nat) (hu : u < s) (hv : v < s) (e : (f * u + h) % s = (f * v + h) % s) : u = v := by
  have key : ∀ a b : Nat, a < s → b < s → a ≤ b → (f * a + h) % s = (f * b + h) % s → a = b := fun a b ha hb hab q => by
    have h1 := Nat.sub_mod_eq_zero_of_mod_eq q.symm
    have h2 : f * b + h - (f * a + h) = f * (b - a) := by rw [Nat.mul_sub]; omega
    rw [h2] at h1
    have h3 : s ∣ f * (b - a) := Nat.dvd_of_mod_eq_zero h1
    have h4 : s ∣ b - a := Nat.Coprime.dvd_of_dvd_mul_left (by rw [Nat.Coprime, Nat.gcd_comm]; exact g) h3
    have h5 : b - a = 0 := Nat.eq_zero_of_dvd_of_lt h4 (by omega)
    omega
  rcases Nat.le_total u v with q | q
  · exact key u v hu hv q e
  · exact (key v u hv hu q e.symm).symm
/-- over all users just e are below e -/
theorem cnt_whole {s f h e : Nat} (hs : 0 < s) (g : Nat.gcd f s = 1) (he : e ≤ s) : cnt s f h e s = e := by
  have up : ∀ k e : Nat, cnt s f h (e + k) s ≤ cnt s f h e s + k := fun k => by
    induction k with
    | zero => exact fun e => Nat.le_refl _
    | succ k ih =>
      intro e
      rw [← Nat.add_assoc, cnt_succ]
      have h1 := ih e
      have h2 := eqc_one (g := fun u => (f * u + h) % s) (e := e + k) s (inj g)
      omega
  have a1 := up e 0
  have a2 := up (s - e) e
  rw [Nat.zero_add, cnt_zero] at a1
  rw [show e + (s - e) = s by omega, cnt_all hs] at a2
  omega
end Lw
set_option Elab.async false
set_option linter.all false
set_option maxRecDepth 100000
set_option maxHeartbeats 400000
set_option autoImplicit false
/-! # max of a list, max of three -/
namespace Lw
open PySem PySem.Spec PyProof.Rows L2
variable [KI : FragI]
def mxL (x : Int) : List Int → Int
  | [] => x
  | y :: r => mxI x (mxL y r)
theorem mxL_is : ∀ (x : Int) (r : List Int), mxL x r ∈ x :: r ∧ ∀ y, y ∈ x :: r → y ≤ mxL x r
  | x, [] => ⟨List.mem_cons_self, fun y hy => by rw [List.mem_singleton.mp hy]; exact Int.le_refl _⟩
  | x, z :: r => by
    obtain ⟨h1, h2⟩ := mxL_is z r
    obtain ⟨m1, m2, m3⟩ := mxI_is x (mxL z r)
    refine ⟨?_, fun y hy => ?_⟩
    · show mxI x (mxL z r) ∈ x :: z :: r
      rcases m3 with e | e
      · rw [e]; exact List.mem_cons_self
      · rw [e]; exact List.mem_cons_of_mem _ h1
    · show y ≤ mxI x (mxL z r)
      rcases List.mem_cons.mp hy with rfl | q
      · exact m1
      · exact Int.le_trans (h2 y q) m2
def gMaxL : List Dt → Option Ev
  | [.list l] => match allI l with | some (x :: r) => some (.d (.int (mxL x r))) | _ => none
  | _ => none
def gMax3 : List Dt → Option Ev
  | [.int a, .int b, .int c] => some (.d (.int (mxI (mxI a b) c)))
  | _ => none
theorem nu_two (a b : Int) : nuMax2 (.int a) (.int b) = some (.int (mxI a b)) := by
  have l : nuLt (.int a) (.int b) = some (decide (a < b)) := rfl
  unfold nuMax2 mxI
  rw [l]
  by_cases h : a < b
  · simp [h]
  · simp [h]
theorem pure_max3 : Pure (rNuC3 nuMax3) gMax3 := fun O H vs ds Q ho al w => by
  match ds, w with
  | [.int a, .int b, .int c], w =>
    cases al with
    | cons r1 al =>
      cases al with
      | cons r2 al =>
        cases al with
        | cons r3 al =>
          cases al
          cases r1
          cases r2
          cases r3
          refine ⟨.int a, .int b, .int c, .int (mxI (mxI a b) c), rfl, ?_, wP.val w (.int _)⟩
          show (nuMax2 (.int a) (.int b)).bind (fun m => nuMax2 m (.int c)) = _
          rw [nu_two]
          exact nu_two _ _
theorem pure_maxL : Pure (rMax fK) gMaxL := fun O H vs ds Q ho al w => by
  match ds, w with
  | [.list l], w =>
    cases al with
    | cons r al =>
      cases al
      cases r with
      | lst h1 a1 =>
        have w' : wP O H Q (match allI l with | some (x :: r) => some (.d (.int (mxL x r))) | _ => none) := w
        cases e : allI l with
        | none => rw [e] at w'; exact absurd w' id
        | some ns =>
          cases ns with
          | nil => rw [e] at w'; exact absurd w' id
          | cons x r =>
            rw [e] at w'
            have el := allI_eq e
            subst el
            obtain ⟨m1, m2⟩ := mxL_is x r
            refine ⟨_, x :: r, rfl, ?_, by rw [List.length_cons]; omega, fun m hm hy => ?_⟩
            · have e2 := a1.of_ints
              subst e2
              exact h1.sq
            · have : m = mxL x r := Int.le_antisymm (m2 m hm) (hy _ m1)
              rw [this]
              exact wP.val w' (.int _)
@[simp] theorem v_max3 {a b c : Int} : gMax3 [.int a, .int b, .int c] = some (.d (.int (mxI (mxI a b) c))) := nr rfl
theorem v_maxL {x : Int} {r : List Int} : gMaxL [.list ((x :: r).map PyData.int)] = some (.d (.int (mxL x r))) := by
  show (match allI ((x :: r).map PyData.int) with | some (x :: r) => some (Ev.d (.int (mxL x r))) | _ => none) = _
  rw [allI_ints]
end Lw
set_option Elab.async false
set_option linter.all false
set_option maxRecDepth 100000
set_option maxHeartbeats 1000000
set_option autoImplicit false
/-! # max of a list, with a default -/
namespace LwMx
open PySem
section
variable {prog : Program} {w : World} {A : Around} {R : Result → Shared → Prop} {I : Addr} {fp wr : List Addr} {n : Nat} {P : Nat → Value → Prop} {St : Nat → Heap → Prop} {d : Value}
theorem mxd_loop (W : Walks prog w A.in1 I fp wr n P St) (bt : Nat → Nat → Bool) (hcmp : CmpOf prog w A.in1 .Gt P bt) (S : Addr) (hSf : S ∉ fp) :
    ∀ (k j : Nat) (s : Shared) (vb : Value) (c : Nat), n - (j + 1) = k → j + 1 ≤ n → St (j + 1) s.heap → P (argBest bt j) vb →
    s.heap.get? S = some { cls := .type "list", dict := none, data := .seq #[vb, vb] c, slots := #[] } →
    (∀ v h' tk, P (argBest bt (n - 1)) v → (∀ b o, b ∉ wr → b ≠ S → s.heap.get? b = some o → h'.get? b = some o) → R (.ok (.ret v)) { s with heap := h', toks := tk }) →
    codeAny (model prog w) A (.builtin "max.loop" ⟨[.ref I, .none, .ref S], [(Str.ofString "default", d)]⟩) R s := by
  have hSw : S ∉ wr := fun h => hSf (W.sub _ h)
  have hname : (toString "max" ++ toString ".loop" : String) = "max.loop" := by decide
  intro k
  induction k with
  | zero =>
    intro j s vb c hk hj hst hPb hS hR
    have hin : j + 1 = n := by omega
    refine codeAny_builtin F.entry_max_loop ?_
    rw [Around.under_plainId F.plain_max_loop _]
    show wpAny _ A.in1 (seqItems? (.ref S) >>= _) _ _ s
    refine wpAny_bind (wpAny_seqItems hS rfl ?_)
    show wpAny _ A.in1 (tryCatch (pyNext (.ref I)) _ >>= _) _ _ s
    refine wpAny_bind (wpAny_tryCatch (W.done s _ _ (hin ▸ hst) fun h' tk hk' => ?_))
    have hS' := hk' S _ hSw hS
    show wpAny _ A.in1 (updateSeq S (fun _ => #[]) >>= _) _ _ _
    refine wpAny_bind ?_
    refine wpAny_updateSeq hS' rfl (wpAny_bind (wpAny_letGo (wpAny_pure ?_)))
    refine hR vb _ tk (by rw [← hin]; exact hPb) fun b o hbw hbS e => (Heap.get?_update_other _ _ (Ne.symm hbS)).trans (hk' b o hbw e)
  | succ k ih =>
    intro j s vb c hk hj hst hPb hS hR
    have hlt : j + 1 < n := by omega
    refine codeAny_builtin F.entry_max_loop ?_
    rw [Around.under_plainId F.plain_max_loop _]
    show wpAny _ A.in1 (seqItems? (.ref S) >>= _) _ _ s
    refine wpAny_bind (wpAny_seqItems hS rfl ?_)
    show wpAny _ A.in1 (tryCatch (pyNext (.ref I)) _ >>= _) _ _ s
    refine wpAny_bind (wpAny_tryCatch (W.item (j + 1) s _ _ hlt hst fun v h' tk hP hst' hk' => ?_))
    have hS' := hk' S _ hSw hS
    show wpAny _ A.in1 (tryCatch (holding [v, v] (richCompare .Gt v vb >>= _)) _ >>= _) _ _ _
    refine wpAny_bind (wpAny_tryCatch (wpAny_holding (wpAny_bind (hcmp (j + 1) (argBest bt j) v vb _ _ _ hP hPb ?_))))
    refine wpAny_bind (wpAny_holding (wpAny_truthy_bool ?_))
    refine wpAny_bind (wpAny_letGo (wpAny_pure ?_))
    cases hb : bt (j + 1) (argBest bt j) with
    | true =>
      simp only [if_true]
      refine wpAny_bind ?_
      refine wpAny_updateSeq hS' rfl (wpAny_bind (wpAny_letGo ?_))
      rw [hname]
      refine wpAny_pure ⟨plainId_quiet F.plain_max_loop _, ih (j + 1) _ v _ (by omega) hlt (W.frame _ _ _ hst' fun b hbf o e => ?_) (by simp only [argBest, hb, if_true]; exact hP) (Heap.get?_update_self _ hS' rfl)
        fun v' h'' tk'' hP' hk'' => ?_⟩
      · exact (Heap.get?_update_other _ _ (fun h : S = b => hSf (by rw [h]; exact hbf))).trans e
      · exact hR v' h'' tk'' hP' fun b o hbw hbS e => hk'' b o hbw hbS ((Heap.get?_update_other _ _ (Ne.symm hbS)).trans (hk' b o hbw e))
    | false =>
      simp only [Bool.false_eq_true, if_false]
      refine wpAny_bind (wpAny_letGo ?_)
      rw [hname]
      refine wpAny_pure ⟨plainId_quiet F.plain_max_loop _, ih (j + 1) _ vb c (by omega) hlt hst' (by simp only [argBest, hb, Bool.false_eq_true, if_false]; exact hPb) hS' fun v' h'' tk'' hP' hk'' => ?_⟩
      exact hR v' h'' tk'' hP' fun b o hbw hbS e => hk'' b o hbw hbS (hk' b o hbw e)
theorem mxd_first (W : Walks prog w A.in1 I fp wr n P St) (bt : Nat → Nat → Bool) (hcmp : CmpOf prog w A.in1 .Gt P bt) (S : Addr) (hSf : S ∉ fp) (hn : 0 < n) {s : Shared} {c : Nat} (hst : St 0 s.heap)
    (hS : s.heap.get? S = some { cls := .type "list", dict := none, data := .seq #[] c, slots := #[] })
    (hR : ∀ v h' tk, P (argBest bt (n - 1)) v → (∀ b o, b ∉ wr → b ≠ S → s.heap.get? b = some o → h'.get? b = some o) → R (.ok (.ret v)) { s with heap := h', toks := tk }) :
    codeAny (model prog w) A (.builtin "max.loop" ⟨[.ref I, .none, .ref S], [(Str.ofString "default", d)]⟩) R s := by
  have hSw : S ∉ wr := fun h => hSf (W.sub _ h)
  have hname : (toString "max" ++ toString ".loop" : String) = "max.loop" := by decide
  refine codeAny_builtin F.entry_max_loop ?_
  rw [Around.under_plainId F.plain_max_loop _]
  show wpAny _ A.in1 (seqItems? (.ref S) >>= _) _ _ s
  refine wpAny_bind (wpAny_seqItems hS rfl ?_)
  show wpAny _ A.in1 (tryCatch (pyNext (.ref I)) _ >>= _) _ _ s
  refine wpAny_bind (wpAny_tryCatch (W.item 0 s _ _ hn hst fun v h' tk hP hst' hk' => ?_))
  have hS' := hk' S _ hSw hS
  show wpAny _ A.in1 (updateSeq S (fun _ => #[v, v]) >>= _) _ _ _
  refine wpAny_bind ?_
  refine wpAny_updateSeq hS' rfl ?_
  rw [hname]
  refine wpAny_pure ⟨plainId_quiet F.plain_max_loop _, mxd_loop W bt hcmp S hSf _ 0 _ v _ rfl hn (W.frame _ _ _ hst' fun b hbf o e => ?_) hP (Heap.get?_update_self _ hS' rfl) fun v' h'' tk'' hP' hk'' => ?_⟩
  · exact (Heap.get?_update_other _ _ (fun h : S = b => hSf (by rw [h]; exact hbf))).trans e
  · exact hR v' h'' tk'' hP' fun b o hbw hbS e => hk'' b o hbw hbS ((Heap.get?_update_other _ _ (Ne.symm hbS)).trans (hk' b o hbw e))
theorem mxd_none (W : Walks prog w A.in1 I fp wr n P St) (S : Addr) (hSf : S ∉ fp) (hn : n = 0) {s : Shared} {c : Nat} (hst : St 0 s.heap)
    (hS : s.heap.get? S = some { cls := .type "list", dict := none, data := .seq #[] c, slots := #[] })
    (hR : ∀ h' tk, (∀ b o, b ∉ wr → b ≠ S → s.heap.get? b = some o → h'.get? b = some o) → R (.ok (.ret d)) { s with heap := h', toks := tk }) :
    codeAny (model prog w) A (.builtin "max.loop" ⟨[.ref I, .none, .ref S], [(Str.ofString "default", d)]⟩) R s := by
  have hSw : S ∉ wr := fun h => hSf (W.sub _ h)
  refine codeAny_builtin F.entry_max_loop ?_
  rw [Around.under_plainId F.plain_max_loop _]
  show wpAny _ A.in1 (seqItems? (.ref S) >>= _) _ _ s
  refine wpAny_bind (wpAny_seqItems hS rfl ?_)
  show wpAny _ A.in1 (tryCatch (pyNext (.ref I)) _ >>= _) _ _ s
  refine wpAny_bind (wpAny_tryCatch (W.done s _ _ (hn ▸ hst) fun h' tk hk' => ?_))
  show wpAny _ A.in1 (rule _ >>= _) _ _ _
  refine wpAny_bind (wpAny_rule ?_)
  exact wpAny_pure (hR _ tk fun b o hbw hbS e => hk' b o hbw e)
end
theorem args_maxD (a d : Value) : argsOk "max" ⟨[a], [(Str.ofString "default", d)]⟩ := by unfold argsOk; kernel_rfl
section
variable {prog : Program} {w : World} {A : Around} {E : Value → Shared → Prop} {s : Shared} {l : Addr} {xs : Array (Int × Tok)} {d : Value}
theorem tree_kw {id : String} {b : Builtin} {args : List Value} {kw : List (Str × Value)} {Q : Value → Shared → Prop} (hk : builtinKind id = none) (hp : plainId id = true)
    (hb : entryFor table id = some b) (ha : argsOk id ⟨args, kw⟩)
    (hc : wpAny (model prog w) A.in1 (b ⟨args, kw⟩) (fun fin s' => match fin with
      | .done f => (match (Except.ok f : Result) with | .ok (.ret v) => Q v s' | .ok _ => False | .error e => E e s')
      | .again c' => c'.quiet = true ∧ codeAny (model prog w) A c' (fun r s' => match r with | .ok (.ret v) => Q v s' | .ok _ => False | .error e => E e s') s') E s) :
    wpAny (model prog w) A (call (.builtin id) args kw) Q E s := by
  refine wpAny_call (codeAny_call_builtin hp hb ?_)
  simp only [checkBuiltinCall, hk]
  cases hsig : Manifest.signature? id with
  | none => exact wpAny_pure hc
  | some sig =>
    simp only [argsOk, hsig] at ha
    have h2 : Bind.checkArgs id sig ⟨args, kw⟩ = pure () := ha
    show wpAny _ A.in1 (Bind.checkArgs id sig ⟨args, kw⟩) _ _ s
    rw [h2]; exact wpAny_pure hc
theorem call_maxD {Q : Value → Shared → Prop} (hh : A.handled = none) (hl : s.heap.IsList l (intItems xs))
    (h : 0 < xs.size → ∀ v h' tk, (intItems xs)[argBest (fun i j => decide (numAt xs i > numAt xs j)) (xs.size - 1)]? = some v → (∀ b o, s.heap.get? b = some o → h'.get? b = some o) → Q v { s with heap := h', toks := tk })
    (h0 : xs.size = 0 → ∀ h' tk, (∀ b o, s.heap.get? b = some o → h'.get? b = some o) → Q d { s with heap := h', toks := tk }) :
    wpAny (model prog w) A (call (.builtin "max") [.ref l] [(Str.ofString "default", d)]) Q E s := by
  have hname : (toString "max" ++ toString ".loop" : String) = "max.loop" := by decide
  refine tree_kw F.kind_max F.plain_max F.entry_max (args_maxD _ _) ?_
  show wpAny _ A.in1 (Builtin.Builtins.bindParams "max" ["key", "default"] 0 ⟨[], [(Str.ofString "default", d)]⟩ >>= _) _ _ s
  refine wpAny_bind (wpAny_of_eq (show Builtin.Builtins.bindParams "max" ["key", "default"] 0 ⟨[], [(Str.ofString "default", d)]⟩ = pure [none, some d] from rfl) ?_)
  refine wpAny_bind (wpAny_pure ?_)
  refine wpAny_bind (iter_intList hl fun s₂ e st hfp hlI => ?_)
  subst e
  refine wpAny_bind (wpAny_newObj_type ?_)
  have hSf : (s.heap.push { cls := .type "list_iterator", data := .fields #[.ref l, .int 0 0] }).objs.size ∉ [s.heap.objs.size, l] := fun hm => Nat.lt_irrefl _ (hfp _ hm)
  rw [hname]
  have W := Walks.list (prog := prog) (w := w) (A := A.in1) hh _ l hlI (intItems xs)
  have fr : ∀ b o, (s.heap.push { cls := .type "list_iterator", data := .fields #[.ref l, .int 0 0] }).get? b = some o → ((s.heap.push { cls := .type "list_iterator", data := .fields #[.ref l, .int 0 0] }).push { cls := .type "list", dict := none, data := .seq #[] 0, slots := #[] }).get? b = some o := fun b o e => Heap.get?_push_of_some _ e
  have keep : ∀ h' : Heap, (∀ b o, b ∉ [s.heap.objs.size] → b ≠ (s.heap.push { cls := .type "list_iterator", data := .fields #[.ref l, .int 0 0] }).objs.size → ((s.heap.push { cls := .type "list_iterator", data := .fields #[.ref l, .int 0 0] }).push { cls := .type "list", dict := none, data := .seq #[] 0, slots := #[] }).get? b = some o → h'.get? b = some o) → ∀ b o, s.heap.get? b = some o → h'.get? b = some o := fun h' hk =>
    old_kept fun b o hb e => hk b o hb (Nat.ne_of_lt (Heap.lt_size e)) (fr b o e)
  by_cases hn : 0 < xs.size
  · refine wpAny_pure ⟨plainId_quiet F.plain_max_loop _, mxd_first W _ (CmpOf.ints_gt (numAt xs) (fun _ _ => intItems_at)) _ hSf (by simpa [intItems] using hn) (W.frame _ _ _ st fun b _ o e => fr b o e) (Heap.get?_push_size _ rfl) fun v h' tk hP hk => ?_⟩
    exact h hn v h' tk (by simpa [intItems] using hP) (keep h' hk)
  · refine wpAny_pure ⟨plainId_quiet F.plain_max_loop _, mxd_none W _ hSf (by simpa [intItems] using hn) (W.frame _ _ _ st fun b _ o e => fr b o e) (Heap.get?_push_size _ rfl) fun h' tk hk => ?_⟩
    exact h0 (by omega) h' tk (keep h' hk)
end
end LwMx
namespace L2
open PySem PySem.Spec PyProof.Rows
theorem maxD_raw {prog : Program} {w : World} {A : Around} {E : Value → Shared → Prop} {s : Shared} {l : Addr} {its : List Value} {ns : List Int} {Q : Value → Shared → Prop} {d : Value} (hh : A.handled = none) (hl : s.heap.IsList l its.toArray) (hi : IntsAre its ns)
    (h : 0 < ns.length → ∀ h' tk M t', (∀ b o, s.heap.get? b = some o → h'.get? b = some o) → M ∈ ns → (∀ a, a ∈ ns → a ≤ M) → Q (.int M t') { s with heap := h', toks := tk })
    (h0 : ns = [] → ∀ h' tk, (∀ b o, s.heap.get? b = some o → h'.get? b = some o) → Q d { s with heap := h', toks := tk }) : wpAny (model prog w) A (call (.builtin "max") [.ref l] [(Str.ofString "default", d)]) Q E s := by
  obtain ⟨xs, e⟩ := hi.allInts.items
  have hn : numsOf (intItems xs).toList = ns := by rw [← e]; exact hi.numsOf
  rw [nums_intItems] at hn
  subst hn
  rw [e] at hl
  refine LwMx.call_maxD hh hl (fun hsz v h' tk hv hk => ?_) (fun hsz h' tk hk => h0 (List.length_eq_zero_iff.mp (by simpa using hsz)) h' tk hk)
  obtain ⟨t, rfl⟩ := intItems_at hv
  obtain ⟨h1, h2⟩ := argBest_gt (numAt xs) (xs.size - 1)
  refine h (by simpa using hsz) h' tk _ t hk ?_ fun a ha => ?_
  · rw [numAt_eq]; exact PySem.getD_mem (by rw [List.length_map, Array.length_toList]; omega)
  · obtain ⟨j, hj, rfl⟩ := mem_getD ha
    rw [List.length_map, Array.length_toList] at hj
    rw [← numAt_eq]; exact h2 j (by omega)
def rMaxDf (K : PySem.W.Frag) : List V → List V → Hp → VK → Prop := fun vs zs H Q => ∃ (a : Addr) (ns : List Int) (d : Int), vs = [V.ref a] ∧ zs = [V.int d] ∧ SqL K H a (ns.map V.int) ∧ (0 < ns.length → ∀ m, m ∈ ns → (∀ y, y ∈ ns → y ≤ m) → Q (.int m) H) ∧ (ns = [] → Q (.int d) H)
theorem cr_maxDf {X : Cx} (hc : X.calm = true) : CallRK X (.builtin "max") [Str.ofString "default"] (rMaxDf X.K) := by
  intro pins s σ H xs zs us ws Q I r r2 h
  obtain ⟨a, ns, d, rfl, rfl, hs, q, q0⟩ := h
  obtain ⟨its, rv, hl, _⟩ := I.list hs
  rw [Vals.ref1 r]
  cases r2 with
  | cons rd t2 =>
    cases t2
    obtain ⟨t, rfl⟩ := rd
    exact maxD_raw (I.ok.hd hc) hl.isList rv.ints (fun hne h' tk m t' hk h1 h2 => ⟨.int _, H, I.kept hk, ⟨_, rfl⟩, q hne m h1 h2⟩) (fun he h' tk hk => ⟨.int _, H, I.kept hk, ⟨_, rfl⟩, q0 he⟩)
end L2
namespace Lw
open PySem PySem.Spec PyProof.Rows L2
variable [KI : FragI]
def gMaxD (d : Int) : List Dt → Option Ev
  | [.list l] => match allI l with | some (x :: r) => some (.d (.int (mxL x r))) | some [] => some (.d (.int d)) | none => none
  | _ => none
section
variable {C : Cd} {e : Expr} {pos p kp kpos : Pos} {f : FE} {d : Int} {j : Nat}
/-- max(e, default=d) -/
def eMaxD (d : Int) (f : FE) : FE := fun ρ W => (f ρ W).bind fun x W1 => ofP (gMaxD d [x]) W1
theorem se_maxD (hg : C.G "max") (hm : C.mg "max" = none) (ha : SE C e f)
    (he : ∀ env, backTo pos (starEach [e] env) = (false, eval e env) :: backTo pos (starEach [] env) := by intro _; rfl) (hpl : ∀ env, (backTo pos (starEach [e] env)).any (·.1) = false := by intro _; rfl)
    (he1 : ∀ env, starEach [e] env = (false, eval e env) :: starEach [] env := by intro _; rfl)
    (hall : ∀ env, (backToKw pos (keywordEach [⟨some (Str.ofString "default"), .Constant (.int d) j kp, kpos⟩] env)).all (·.1.isSome) = true := by intro _; rfl) (hnone : ∀ env, (backToKw pos (keywordEach [⟨some (Str.ofString "default"), .Constant (.int d) j kp, kpos⟩] env)).any (·.1.isNone) = false := by intro _; rfl) (hks : ∀ env, (backToKw pos (keywordEach [⟨some (Str.ofString "default"), .Constant (.int d) j kp, kpos⟩] env)).filterMap (·.1) = [Str.ofString "default"] := by intro _; rfl) (hcm : C.cm = true := by rfl) :
    SE C (.Call (.Name "max" p) [e] [⟨some (Str.ofString "default"), .Constant (.int d) j kp, kpos⟩] pos) (eMaxD d f) := by
  obtain ⟨t, q, s⟩ := ha
  refine ⟨_, fun X h => pe_callBK (r := rMaxDf fK) (by rw [← C.hK X h]; exact cr_maxDf (C.calmC hcm X h)) (C.gl h hg) (by rw [C.hmg X h]; exact hm) (by decide +kernel) (pa_cons (q X h) pa_nil (he1 _)) (pk_cons pe_int pk_nil) (by decide) (by decide) (he _) (hpl _) (hall _) (hnone _) (hks _), fun a W Q I h => ?_⟩
  refine s.then I h fun x W1 v H1 e1 st r1 h1 => ?_
  match x, h1, r1 with
  | .list l, h1, r1 =>
    unfold gMaxD at h1
    dsimp only at h1
    cases q : allI l with
    | none => rw [q] at h1; exact absurd h1 id
    | some ns =>
      rw [q] at h1
      have e := allI_eq q
      subst e
      cases r1 with
      | @lst ad xs _ hh a1 =>
        have e2 := a1.of_ints
        subst e2
        cases ns with
        | nil => exact ⟨ad, [], d, rfl, rfl, hh.sq, fun z => absurd z (by decide), fun _ => wE.now (a := { a with H := H1 }) e1 (.int _) h1⟩
        | cons n r =>
          refine ⟨ad, n :: r, d, rfl, rfl, hh.sq, fun _ m hm hmax => ?_, fun z => nomatch z⟩
          obtain ⟨m1, m2⟩ := mxL_is n r
          have : m = mxL n r := Int.le_antisymm (m2 _ hm) (hmax _ m1)
          rw [this]
          exact wE.now (a := { a with H := H1 }) e1 (.int _) h1
  | .none, h1, _ => exact absurd h1 id
  | .bool _, h1, _ => exact absurd h1 id
  | .int _, h1, _ => exact absurd h1 id
  | .str _, h1, _ => exact absurd h1 id
  | .tuple _, h1, _ => exact absurd h1 id
  | .dict _, h1, _ => exact absurd h1 id
end
end Lw
set_option Elab.async false
set_option linter.all false
set_option maxRecDepth 100000
set_option maxHeartbeats 2000000
set_option autoImplicit false
/-! # sorted of a tuple of ints, `in` a tuple of ints -/
namespace LwSt
open PySem PyProof.Rows Srt SrtO
section
variable {prog : Program} {w : World} {A : Around} {E : Value → Shared → Prop} {s : Shared}
theorem collect_tup {l : Addr} {vs : List Value} {Q : List Value → Shared → Prop} (hl : s.heap.IsTuple l vs.toArray)
    (h : Q vs { s with heap := (s.heap.push (seqObj "list" #[] 0)).update s.heap.objs.size (Obj.mapSeq (· ++ vs.toArray)) }) (hsz : vs.length ≤ sizeLine) :
    wpAny (model prog w) A (collect (.ref l)) Q E s := by
  obtain ⟨o, ho, hc, n, hd⟩ := id hl
  unfold collect
  refine wpAny_bind (wpAny_runValue (codeAny_builtin entry_proto_collect' ?_))
  show wpAny _ _ (do again (.builtin "list.__iadd__" ⟨[← newList [], .ref l], []⟩)) _ _ s
  refine wpAny_bind (wpAny_newList (wpAny_pure ⟨Code.quiet_builtin _ (by decide +kernel), codeAny_builtin entry_list_iadd' ?_⟩))
  show wpAny _ _ (Builtin.List.listExtendWith (.ref s.heap.objs.size) (.ref l) (.ref s.heap.objs.size)) _ _ { s with heap := s.heap.push (seqObj "list" #[] 0) }
  unfold Builtin.List.listExtendWith
  have ho' : (s.heap.push (seqObj "list" #[] 0)).get? l = some o := Heap.get?_push_of_some _ ho
  refine wpAny_bind (wpAny_typeOf (T := "tuple") ⟨o, ho', hc⟩ ?_)
  rw [if_pos (by simp)]
  refine wpAny_bind (listItems_at ho' hd ?_)
  refine wpAny_bind (listItems_at (xs := #[]) (n := 0) (Heap.get?_push_size _ rfl) rfl ?_)
  rw [if_neg (by simp)]
  refine wpAny_bind (listUpdate_at (xs := #[]) (n := 0) (Heap.get?_push_size _ rfl) rfl ?_ (Nat.zero_le _) (by show (#[] ++ vs.toArray).size ≤ sizeLine + 1; simp only [Array.size_append, List.size_toArray, List.length_nil]; omega))
  refine wpAny_pure ?_
  show wpAny (model prog w) A (do
      let o ← load s.heap.objs.size
      match o.data with
      | .seq xs _ => pure xs.toList
      | _ => unsupported "internal:collect") Q E { s with heap := (s.heap.push (seqObj "list" #[] 0)).update s.heap.objs.size (Obj.mapSeq (· ++ vs.toArray)) }
  refine wpAny_bind (wpAny_load (get?_update_seq (Heap.get?_push_size _ rfl) _) ?_)
  show wpAny _ _ (pure ((#[] : Array Value) ++ vs.toArray).toList) Q E _
  rw [show ((#[] : Array Value) ++ vs.toArray).toList = vs by simp]
  exact wpAny_pure h
theorem sorted_tup {l : Addr} {vs : List Value} {ltv : Value → Value → Bool} {Q : Value → Shared → Prop} (O : Swo ltv) (hl : s.heap.IsTuple l vs.toArray) (hz : vs.length ≤ sizeLine)
    (hS : 2 ≤ vs.length → ∀ (h₁ : Heap) (a : Addr), h₁.get? a = some (seqObj "list" vs.toArray 0) → (∀ b o, s.heap.get? b = some o → b ≠ a ∧ h₁.get? b = some o) → SortableO prog w A.in1.in1 { s with heap := h₁ } a vs ltv)
    (h : ∀ out : List Value, Srtd ltv out → Stb ltv out vs → Q (.ref (s.heap.objs.size + 1)) { s with heap := sortedAll s.heap vs out.toArray }) :
    wpAny (model prog w) A (call (.builtin "sorted") [.ref l]) Q E s := by
  refine Calls.call_function_entry kind_sorted plain_sorted entry_sorted (args_sorted1 _) ?_
  unfold Builtin.«sorted»
  refine wpAny_bind (m := checkCount "sorted" 1 1 _) (wpAny_pure ?_)
  refine wpAny_bind (collect_tup hl ?_ hz)
  refine wpAny_bind (wpAny_newList ?_ hz)
  have hsz : ((s.heap.push (seqObj "list" #[] 0)).update s.heap.objs.size (Obj.mapSeq (· ++ vs.toArray))).objs.size = s.heap.objs.size + 1 := by
    rw [Heap.size_update, size_push']
  have hoL : (((s.heap.push (seqObj "list" #[] 0)).update s.heap.objs.size (Obj.mapSeq (· ++ vs.toArray))).push (seqObj "list" vs.toArray 0)).get? (s.heap.objs.size + 1) = some (seqObj "list" vs.toArray 0) := by
    rw [← hsz]; exact Heap.get?_push_size _ rfl
  have keep : ∀ b o, s.heap.get? b = some o → b ≠ s.heap.objs.size + 1 ∧ (((s.heap.push (seqObj "list" #[] 0)).update s.heap.objs.size (Obj.mapSeq (· ++ vs.toArray))).push (seqObj "list" vs.toArray 0)).get? b = some o := fun b o q => by
    have hlt : b < s.heap.objs.size := Heap.lt_size q
    refine ⟨Nat.ne_of_lt (Nat.lt_succ_of_lt hlt), Heap.get?_push_of_some _ ?_⟩
    rw [Heap.get?_update_ne _ _ _ _ (Nat.ne_of_lt hlt)]
    exact Heap.get?_push_of_some _ q
  show wpAny _ _ _ _ _ { s with heap := ((s.heap.push (seqObj "list" #[] 0)).update s.heap.objs.size (Obj.mapSeq (· ++ vs.toArray))).push (seqObj "list" vs.toArray 0) }
  rw [hsz]
  refine wpAny_bind (wpAny_holding (wpAny_call_entry slot_list_sort ⟨_, hoL, rfl⟩ entry_list_sort (list_sort_ord O hoL hz (fun h2 => hS h2 _ _ hoL keep) fun out hs hb => ⟨_, rfl, ?_⟩) (args_list_sort _)))
  exact wpAny_pure ⟨_, rfl, h out hs hb⟩
end
end LwSt
namespace L2
open PySem PySem.Spec PyProof.Rows
def rSortedT (K : PySem.W.Frag) : List V → Hp → VK → Prop := fun vs H Q => ∃ (a : Addr) (ns : List Int), vs = [V.ref a] ∧ (SqL K H a (ns.map V.int) ∨ SqT K H a (ns.map V.int)) ∧
  ∀ (ns' : List Int) (p : Addr), ns'.Perm ns → ns'.Pairwise (· ≤ ·) → H p = none → Q (.ref p) (upd H p (.lst (ns'.map V.int)))
theorem cr_sortedT {X : Cx} : CallR X (.builtin "sorted") (rSortedT X.K) := by
  intro pins s σ H vs us Q I r h
  obtain ⟨a, ns, rfl, hs | hs, q⟩ := h
  · exact cr_sortedI pins s σ H _ us Q I r ⟨a, ns, rfl, hs, q⟩
  obtain ⟨its, rv, hl, hz⟩ := I.tuple hs
  rw [Vals.ref1 r]
  have hi := rv.ints
  refine LwSt.sorted_tup SrtO.swo_int hl (by rw [← rv.length]; exact hz) (fun h2 h₁ a' _ _ => SrtO.ints_sortable hi h2) fun out h1 h2 => ?_
  obtain ⟨k1, k2, k3⟩ := SrtO.ints_out hi h1 h2
  obtain ⟨ep, he'⟩ := PyProof.Rows.sortedAll_at s.heap its out.toArray
  have hlen : ((out.map SrtO.iv).map V.int).length ≤ sizeLine := by
    rw [List.length_map, k2.length_eq]
    rw [List.length_map] at hz
    exact hz
  exact ⟨.ref _, upd H (s.heap.objs.size + 1) (.lst ((out.map SrtO.iv).map V.int)), I.laid (t' := s.toks) (fun _ _ => PyProof.Rows.sortedAll_old) (Nat.le_succ _) ⟨hlen, out, ep, vals_of_ints k1, he'⟩, rfl, q _ _ k2 k3 (I.hok.fresh (Nat.le_succ _))⟩
end L2
namespace Lw
open PySem PySem.Spec PyProof.Rows L2
variable [KI : FragI]
def gSortedX : List Dt → Option Ev
  | [.list l] => (allI l).map fun bs => .f ((sortI bs).map PyData.int)
  | [.tuple l] => (allI l).map fun bs => .f ((sortI bs).map PyData.int)
  | _ => none
theorem pure_sortedX : Pure (rSortedT fK) gSortedX := fun O H vs ds Q ho al w => by
  cases al with
  | nil => exact absurd w id
  | cons r al =>
    cases al with
    | cons _ _ => cases r <;> exact absurd w id
    | nil =>
      cases r with
      | @lst a xs l h1 a1 =>
        unfold gSortedX at w
        dsimp only at w
        cases q : allI l with
        | none => rw [q] at w; exact absurd w id
        | some bs =>
          rw [q] at w
          have e := allI_eq q
          subst e
          have e2 := a1.of_ints
          subst e2
          refine ⟨a, bs, rfl, .inl h1.sq, fun ns' p hp hpw hn => ?_⟩
          have es : ns' = sortI bs := sort_one (hp.trans (perm_sortI bs).symm) hpw (pw_sortI bs)
          rw [es]
          exact wP.new w (RpA.ints _) p hn
      | @tup a xs l h1 a1 =>
        unfold gSortedX at w
        dsimp only at w
        cases q : allI l with
        | none => rw [q] at w; exact absurd w id
        | some bs =>
          rw [q] at w
          have e := allI_eq q
          subst e
          have e2 := a1.of_ints
          subst e2
          refine ⟨a, bs, rfl, .inr h1.sq, fun ns' p hp hpw hn => ?_⟩
          have es : ns' = sortI bs := sort_one (hp.trans (perm_sortI bs).symm) hpw (pw_sortI bs)
          rw [es]
          exact wP.new w (RpA.ints _) p hn
      | _ => exact absurd w id
@[simp] theorem v_sortL {ns : List Int} : gSortedX [.list (ns.map .int)] = some (.f ((sortI ns).map PyData.int)) := by
  show (allI (ns.map PyData.int)).map _ = _
  rw [allI_ints]
  rfl
@[simp] theorem v_sortT {ns : List Int} : gSortedX [.tuple (ns.map .int)] = some (.f ((sortI ns).map PyData.int)) := by
  show (allI (ns.map PyData.int)).map _ = _
  rw [allI_ints]
  rfl
/-! x in a tuple of ints -/
def gInT (neg : Bool) : G2 := fun x y => match x, y with
  | .int i, .tuple l => (match allI l with | some ns => some (.d (.bool (if neg then !decide (i ∈ ns) else decide (i ∈ ns)))) | none => none)
  | _, _ => none
theorem inV_ints (i : Int) : ∀ ns : List Int, inV (.int i) (ns.map V.int) = decide (i ∈ ns)
  | [] => by simp [inV]
  | n :: r => by
    have ih := inV_ints i r
    unfold inV at ih ⊢
    rw [List.map_cons, List.any_cons, ih]
    show ((n == i) || _) = _
    by_cases h : n = i
    · subst h; simp
    · have h' : ¬ i = n := fun z => h z.symm
      simp [h, h']
theorem flat_ints : ∀ ns : List Int, (ns.map V.int).all flatV = true
  | [] => rfl
  | n :: r => by rw [List.map_cons, List.all_cons, flat_ints r]; rfl
theorem pure_inT (neg : Bool) : Pure2 (rIn fK neg) (gInT neg) := fun O H x y dx dy Q ho rx ry w => by
  cases rx with
  | int i => cases ry with
    | @tup a xs l h1 a1 =>
      unfold gInT at w
      dsimp only at w
      cases q : allI l with
      | none => rw [q] at w; exact absurd w id
      | some ns =>
        rw [q] at w
        have e := allI_eq q
        subst e
        have e2 := a1.of_ints
        subst e2
        refine ⟨a, ns.map V.int, rfl, .inr h1.sq, rfl, flat_ints ns, ?_⟩
        rw [inV_ints]
        exact w.val (.bl _)
    | _ => exact absurd w id
  | _ => cases ry <;> exact absurd w id
def gInX : G2 := g2or gIn (gInT false)
def gNotInX : G2 := g2or gNotIn (gInT true)
section
variable {C : Cd} {a b : Expr} {pos : Pos} {fa fb : FE}
theorem sc_inX (ha : SE C a fa) (hb : SE C b fb) (hm : behindInMarks .In b = false := by rfl) : SC C (.Compare a [.In] [b] pos) (eBin gInX fa fb) :=
  sc_cmp (fun X h => by rw [← C.hK X h]; exact (op_inD (by have := C.unX X h; omega)).or op_in_seq) (pure_in.or (pure_inT false)) ha hb hm
theorem sc_notInX (ha : SE C a fa) (hb : SE C b fb) (hm : behindInMarks .NotIn b = false := by rfl) : SC C (.Compare a [.NotIn] [b] pos) (eBin gNotInX fa fb) :=
  sc_cmp (fun X h => by rw [← C.hK X h]; exact (op_notInD (by have := C.unX X h; omega)).or op_notIn_seq) (pure_notIn.or (pure_inT true)) ha hb hm
end
@[simp] theorem v_inT {i : Int} {ns : List Int} : gInX (.int i) (.tuple (ns.map .int)) = some (.d (.bool (decide (i ∈ ns)))) := by
  show (match allI (ns.map PyData.int) with | some ns => some (Ev.d (.bool (if false = true then !decide (i ∈ ns) else decide (i ∈ ns)))) | none => none) = _
  rw [allI_ints]
  rfl
@[simp] theorem v_notInT {i : Int} {ns : List Int} : gNotInX (.int i) (.tuple (ns.map .int)) = some (.d (.bool (!decide (i ∈ ns)))) := by
  show (match allI (ns.map PyData.int) with | some ns => some (Ev.d (.bool (if true = true then !decide (i ∈ ns) else decide (i ∈ ns)))) | none => none) = _
  rw [allI_ints]
  rfl
end Lw
set_option Elab.async false
set_option linter.all false
set_option maxRecDepth 100000
set_option maxHeartbeats 2000000
set_option autoImplicit false
/-! # enumerate of a tuple -/
namespace LwEn
open PySem
open Sem (wp)
open AutoSeq1 (wpAny_loadPart')
theorem meets_newT (l : Addr) (items : Array Value) (n : Nat) (dct : Option Addr) (sl : Array (Option Value)) :
    Meets (Builtin.«enumerate.__new__» ⟨[.type "enumerate", .ref l], []⟩) (fun _ R s => s.heap.get? l = some { cls := .type "tuple", dict := dct, data := .seq items n, slots := sl } ∧
      R (.ok (.ret (.ref (s.heap.push { cls := .type "tuple_iterator", data := .fields #[.ref l, .int 0 0] }).objs.size)))
        { s with heap := (s.heap.push { cls := .type "tuple_iterator", data := .fields #[.ref l, .int 0 0] }).push { cls := .type "enumerate", data := .fields #[.none, .bool false, .ref s.heap.objs.size, rawInt 0, .none, .none] } }) :=
  .of_wp fun prog w A R s h => by
    obtain ⟨hp, g, d, tk, os⟩ := s; obtain ⟨hl, h⟩ := h
    have hsub := sub_enumerate
    have hL : Heap.IsTuple (Shared.heap ⟨hp, g, d, tk, os⟩) l items := ⟨_, hl, rfl, n, rfl⟩
    wp_walk using wpAny_loadPart' hl
    refine wpAny_stack_any fun st => wpAny_pure ?_
    split
    · rename_i c _ _ _ _ _
      cases (c == Value.type "enumerate")
      · wp_walk using wpAny_loadPart' hl, wpAny_pyIter_tuple hL
        exact ⟨_, rfl, h⟩
      · wp_walk using wpAny_loadPart' hl, wpAny_pyIter_tuple hL
        exact ⟨_, rfl, h⟩
    · wp_walk using wpAny_loadPart' hl, wpAny_pyIter_tuple hL
      exact ⟨_, rfl, h⟩
section
variable {prog : Program} {w : World} {A : Around} {E : Value → Shared → Prop} {s : Shared}
theorem call_enumT {l : Addr} {items : Array Value} {Q : Value → Shared → Prop} (hL : s.heap.IsTuple l items)
    (h : ∀ h', IsEnum h' (s.heap.objs.size + 1) s.heap.objs.size 0 .none → h'.IsTupleIter s.heap.objs.size l 0 → h'.objs.size = s.heap.objs.size + 2 →
      (∀ b o, s.heap.get? b = some o → h'.get? b = some o) → Q (.ref (s.heap.objs.size + 1)) { s with heap := h' }) :
    wpAny (model prog w) A (call (.type "enumerate") [.ref l]) Q E s := by
  obtain ⟨⟨c, dct, dt, sl⟩, hl, hc, n, hd⟩ := hL
  replace hc : c = .type "tuple" := hc
  replace hd : dt = .seq items n := hd
  subst hc hd
  refine callType_new F.called_enumerate (by decide) (F.typeCall_enumerate_1 _) (F.newCall_enumerate_1 _) (fun obj => F.args_object_init_2 obj _) F.entry_enumerate_new
    (meets_newT l items n dct sl) ⟨hl, ?_⟩
  have hz : (s.heap.push { cls := .type "tuple_iterator", data := .fields #[.ref l, .int 0 0] }).objs.size = s.heap.objs.size + 1 := Heap.size_push ..
  show _ ∧ _
  rw [hz]
  have he : IsEnum ((s.heap.push { cls := .type "tuple_iterator", data := .fields #[.ref l, .int 0 0] }).push
      { cls := .type "enumerate", data := .fields #[.none, .bool false, .ref s.heap.objs.size, rawInt 0, .none, .none] }) (s.heap.objs.size + 1) s.heap.objs.size 0 .none := by
    have := Heap.get?_push_size (s.heap.push { cls := .type "tuple_iterator", data := .fields #[.ref l, .int 0 0] })
      (o := { cls := .type "enumerate", data := .fields #[.none, .bool false, .ref s.heap.objs.size, rawInt 0, .none, .none] }) rfl
    rw [hz] at this; exact this
  refine ⟨⟨_, he, rfl⟩, h _ he ⟨_, Heap.get?_push_of_some _ (Heap.get?_push_size _ rfl), rfl, rfl⟩ (by rw [Heap.size_push, hz]) fun b o x => Heap.get?_push_of_some _ (Heap.get?_push_of_some _ x)⟩
end
end LwEn
namespace L2
open PySem PySem.Spec PyProof.Rows
def IteT (K : PySem.W.Frag) (a : Addr) : It :=
  ⟨fun i H => ∃ (xs : List V) (x : V), SqT K H a xs ∧ xs[i]? = some x, fun i H v H' => ∃ T x, v = .ref T ∧ H T = none ∧ H' = upd H T (.tup [.int (i : Nat), x]) ∧ ∀ xs, SqT K H a xs → xs[i]? = some x, fun i H => ∃ xs : List V, SqT K H a xs ∧ xs.length ≤ i⟩
theorem turn_enumT {P : Program} {w : World} {K : PySem.W.Frag} {elts : List Expr} {kk : Nat} {tpos : Pos} (a e it : Addr) :
    Turn P w K (.Tuple elts kk tpos) (IteT K a) [e, it] e (fun i h => (∃ old, IsEnum h e it ((i : Nat) : Int) old) ∧ h.IsTupleIter it a i ∧ e ≠ it ∧ a ≠ it ∧ a ≠ e) where
  mem := by simp
  obj := fun i h st b hb => by
    obtain ⟨⟨old, he⟩, ⟨o, ho, hc, hd⟩, _⟩ := st
    have e' : b = e ∨ b = it := by simpa using hb
    rcases e' with z | z
    · rw [z]; exact ⟨_, he, fun v q => nomatch q⟩
    · rw [z]; exact ⟨o, ho, fun v q => by rw [hd] at q; cases q⟩
  keep := fun i h h' st k => let ⟨⟨old, he⟩, hi, hne⟩ := st; ⟨⟨old, k e (by simp) _ he⟩, hi.at fun o q => k it (by simp) o q, hne⟩
  item := by
    intro X hP hw hK hc i pins s σ H E I hf st hg
    subst hP hw hK
    obtain ⟨⟨old, he⟩, hit, hne, hai, hae⟩ := st
    obtain ⟨xs, x, hq, hx⟩ := hg
    obtain ⟨its, rv, p, hz⟩ := I.tuple hq
    obtain ⟨u, hu, ru⟩ := rv.get hx
    have hel : e < s.heap.objs.size := Heap.lt_size he
    have hil : it < s.heap.objs.size := by obtain ⟨_, q, _⟩ := hit; exact Heap.lt_size q
    have hlt : i < its.toArray.size := by
      have := (List.getElem?_eq_some_iff.mp hu).1
      simpa using this
    refine wpAny_pyNext_enum_itemD (Draws.tuple (prog := X.prog) (w := X.w) (A := X.A.in1) (show X.A.in1.handled = none from I.ok.hd hc) it a hai its.toArray) he ⟨hit, p⟩ hlt hne (by simp only [List.mem_cons, List.not_mem_nil, or_false, not_or]; exact ⟨hne, fun z => hae z.symm⟩) fun v h' tk hv ho hst' hT hsz hk => ?_
    have hvu : v = u := by
      have h1 : its.toArray[i]? = some v := hv
      have h2 : its.toArray[i]? = some u := by simpa using hu
      rw [h1] at h2
      exact Option.some.inj h2
    subst hvu
    refine ⟨_, rfl, wpAny_letOwnedTupleGo_enum (s := { s with heap := h', toks := tk + 1 }) ho fun h'' he' sb => ?_⟩
    have hT2 : h''.get? s.heap.objs.size = some { cls := .type "tuple", data := .seq #[.int i tk, v] } := (sb.2 _ (Nat.ne_of_gt hel)).trans hT
    have new : ObjOk X.prog X.w (upd H s.heap.objs.size (.tup [.int (i : Nat), x])) h'' s.heap.objs.size (.tup [.int (i : Nat), x]) :=
      ⟨by show 2 ≤ sizeLine; decide, [.int i tk, v], .cons ⟨_, rfl⟩ (.cons ru .nil), ⟨_, hT2, rfl, _, rfl⟩⟩
    have I1 : Inv X pins σ (upd H s.heap.objs.size (.tup [.int (i : Nat), x])) { s with heap := h'', toks := tk + 1 } :=
      I.turnedNew (ch := [e, it]) (fun b ob hb q => (sb.2 b (fun z => hb (by simp [z]))).trans (hk b ob (fun z => hb (by simp [z])) (fun z => hb (by simp [z])) q)) hf (Nat.le_refl _) new
    refine ⟨.ref s.heap.objs.size, _, I1, rfl, ⟨_, x, rfl, I.hok.fresh (Nat.le_refl _), rfl, fun ys hy => by rw [I.tuple_inj hy hq]; exact hx⟩, ⟨⟨v, ?_⟩, hst'.1.at fun o q => (sb.2 it (Ne.symm hne)).trans q, hne, hai, hae⟩, fun b hb => ?_⟩
    · have e1 : ((i + 1 : Nat) : Int) = (i : Int) + 1 := by omega
      rw [e1]; exact he'
    · have hb' : b < s.heap.objs.size := by
        have e' : b = e ∨ b = it := by simpa using hb
        rcases e' with z | z
        · rw [z]; exact hel
        · rw [z]; exact hil
      rw [upd_ne (Nat.ne_of_lt hb')]
      exact (hf b hb).1
  done := by
    intro X hP hw hK hc i pins s σ H E I hf st hg
    subst hP hw hK
    obtain ⟨⟨old, he⟩, hit, hne, hai, hae⟩ := st
    obtain ⟨xs, hq, hx⟩ := hg
    obtain ⟨its, rv, p, hz⟩ := I.tuple hq
    obtain ⟨f0, f1, f2, f3, f4, f5⟩ := hf it (by simp)
    have hl := rv.length
    have hT : s.TypeIs (.ref e) "enumerate" := ⟨_, he, rfl⟩
    unfold pyNext
    refine wpAny_bind (wpAny_attempt (wpAny_callSpecial?_slot (name := Str.ofString "__next__") hT F.slot_enumerate_next
      (wpAny_call_entry F.slot_enumerate_next hT F.entry_enumerate_next ?_ (F.args_enumerate_next_1 _))))
    show wpAny _ _ (field (.ref e) 2 >>= _) _ _ _
    refine wpAny_bind (wpAny_field he rfl (x := .ref it) rfl ?_)
    refine wpAny_bind (wpAny_nextOf_tuple_end (I.ok.hd hc) hit p (by simp; omega) fun h' x eb hx' => ?_)
    obtain ⟨o, ho, hcl⟩ := hx'
    refine wpAny_bind (wpAny_isInstance (T := "StopIteration") (b := true) ⟨o, ho, hcl⟩ isSubtype_stop ?_)
    exact wpAny_pure ⟨rfl, I.turned (t' := s.toks) (fun b o hb q => eb b o hb q) f0 f1 f3 f4 f5⟩
  self := fun A i s Q E st h => let ⟨⟨_, he⟩, _⟩ := st; wpAny_pyIter_enum he h
def iEnumX (K : PySem.W.Frag) (ta : TA) : TI := fun σ H R => ta σ H fun vs H1 => ∃ a xs, vs = [.ref a] ∧ ((SqL K H1 a xs ∧ R (Ite K a) H1) ∨ (SqT K H1 a xs ∧ R (IteT K a) H1))
theorem pi_enumX {X : Cx} {e : Expr} {ta : TA} {p pos tpos : Pos} {elts : List Expr} {kk : Nat} (hg : Gl X "enumerate") (hm : X.mg "enumerate" = none) (ha : PA X [e] ta) (hs : starEach [e] X.env = [(false, eval e X.env)] := by rfl) :
    PI X (.Tuple elts kk tpos) (.Call (.Name "enumerate" p) [e] [] pos) (iEnumX X.K ta) := by
  refine ⟨fun pins s σ H R I h => ?_⟩
  refine Call_ (ld_blt I hg hm boot_enumerate (PyProof.Rows.callWith_type1 (thn (ha.run pos pins s σ H _ I h) fun us s1 ⟨vs, H1, I1, r1, q1⟩ => ?_) hs rfl))
  obtain ⟨a, xs, ex, q⟩ := q1
  subst ex
  cases r1 with
  | cons r rr =>
    cases rr
    cases r
    rcases q with ⟨hq, q⟩ | ⟨hq, q⟩
    · obtain ⟨its, rv, p', hz⟩ := I1.list hq
      refine call_enumerate_list p'.isList fun h' he hit hsz hk => wpAny_pyIter_enum he ?_
      have I2 : Inv X pins σ H1 { s1 with heap := h' } := I1.kept (t' := s1.toks) hk
      refine ⟨s1.heap.objs.size + 1, [s1.heap.objs.size + 1, s1.heap.objs.size], _, _, H1, rfl, I2, turn_enum a (s1.heap.objs.size + 1) s1.heap.objs.size, ⟨⟨.none, he⟩, hit, Nat.succ_ne_self _⟩, fun b hb => ?_, q⟩
      have e' : b = s1.heap.objs.size + 1 ∨ b = s1.heap.objs.size := by simpa using hb
      have hle : s1.heap.objs.size ≤ b := by
        rcases e' with z | z
        · rw [z]; exact Nat.le_add_right _ _
        · rw [z]; exact Nat.le_refl _
      exact I1.fpOk hle (I1.hok.fresh hle)
    · obtain ⟨its, rv, p', hz⟩ := I1.tuple hq
      have hal : a < s1.heap.objs.size := by obtain ⟨_, z, _⟩ := p'; exact Heap.lt_size z
      refine LwEn.call_enumT p' fun h' he hit hsz hk => wpAny_pyIter_enum he ?_
      have I2 : Inv X pins σ H1 { s1 with heap := h' } := I1.kept (t' := s1.toks) hk
      refine ⟨s1.heap.objs.size + 1, [s1.heap.objs.size + 1, s1.heap.objs.size], _, _, H1, rfl, I2, turn_enumT a (s1.heap.objs.size + 1) s1.heap.objs.size, ⟨⟨.none, he⟩, hit, Nat.succ_ne_self _, Nat.ne_of_lt hal, Nat.ne_of_lt (Nat.lt_succ_of_lt hal)⟩, fun b hb => ?_, q⟩
      have e' : b = s1.heap.objs.size + 1 ∨ b = s1.heap.objs.size := by simpa using hb
      have hle : s1.heap.objs.size ≤ b := by
        rcases e' with z | z
        · rw [z]; exact Nat.le_add_right _ _
        · rw [z]; exact Nat.le_refl _
      exact I1.fpOk hle (I1.hok.fresh hle)
theorem walk_enumT {K : PySem.W.Frag} {a : Addr} {xs : List V} : Walk (IteT K a) xs.length (fun H => SqT K H a xs) (YPair (fun i => some (.int (i : Nat))) (fun i => xs[i]?)) := by
  refine ⟨fun i _ hi q => ⟨xs, xs[i], q, by simp [hi]⟩, fun _ q => ⟨xs, q, Nat.le_refl _⟩, fun i H v H' _ q y => ?_⟩
  obtain ⟨T, x, h1, h2, h3, h4⟩ := y
  exact ⟨T, .int (i : Nat), x, h1, h2, h3, rfl, h4 xs q⟩
end L2
namespace Lw
open PySem PySem.Spec PyProof.Rows L2
variable [KI : FragI]
section
variable {C : Cd}
def fiEnumX (g : FA) : FI := fun ρ W => (g ρ W).bindI fun as W1 => match datas as with
  | some [.list l] => .ok (l.mapIdx fun i d => .tuple [.int i, d]) W1
  | some [.tuple l] => .ok (l.mapIdx fun i d => .tuple [.int i, d]) W1
  | _ => .bad
theorem si_enumX {e : Expr} {p pos tpos : Pos} {elts : List Expr} {kk : Nat} {g : FA} (hg : C.G "enumerate") (hm : C.mg "enumerate" = none) (ha : SA C [e] g) (hs : ∀ env, starEach [e] env = [(false, eval e env)] := by intro _; rfl) :
    SI C (.Tuple elts kk tpos) (.Call (.Name "enumerate" p) [e] [] pos) (fiEnumX g) := by
  obtain ⟨t, q, s⟩ := ha
  refine ⟨iEnumX fK t, fun X h => by rw [← C.hK X h]; exact pi_enumX (C.gl h hg) (by rw [C.hmg X h]; exact hm) (q X h) (hs _), fun a W R I h => ?_⟩
  refine s.thenI I h fun as W1 vs H1 e1 st r1 h1 => ?_
  split at h1
  · rename_i l ej
    have al := r1.datas ej
    cases al with
    | cons r al =>
      cases al
      cases r with
      | @lst ad xs _ hh1 a1 =>
        refine ⟨_, xs, rfl, .inl ⟨hh1.sq, h1 _ H1 e1 Est.refl ⟨fun H => SqL fK H ad xs, _, by rw [List.length_mapIdx, ← a1.length]; exact walk_enum, fun O' H' st => (hh1.stp st).sq, fun i H' x H'' O' hi st ho y => ?_⟩⟩⟩
        obtain ⟨T, u, v, rfl, hT, rfl, hu, hv⟩ := y
        cases hu
        obtain ⟨d, d1, d2⟩ := a1.getV hv
        refine ⟨same_upd hT, _, ?_, pair_new hT ho (.int _) (d2.stp st)⟩
        rw [List.getElem?_mapIdx, d1]
        rfl
  · rename_i l ej
    have al := r1.datas ej
    cases al with
    | cons r al =>
      cases al
      cases r with
      | @tup ad xs _ hh1 a1 =>
        refine ⟨_, xs, rfl, .inr ⟨hh1.sq, h1 _ H1 e1 Est.refl ⟨fun H => SqT fK H ad xs, _, by rw [List.length_mapIdx, ← a1.length]; exact walk_enumT, fun O' H' st => (hh1.stp st).sq, fun i H' x H'' O' hi st ho y => ?_⟩⟩⟩
        obtain ⟨T, u, v, rfl, hT, rfl, hu, hv⟩ := y
        cases hu
        obtain ⟨d, d1, d2⟩ := a1.getV hv
        refine ⟨same_upd hT, _, ?_, pair_new hT ho (.int _) (d2.stp st)⟩
        rw [List.getElem?_mapIdx, d1]
        rfl
  · exact absurd h1 id
end
@[simp] theorem v_ienX {fa : FA} {ρ : List Sl} {W : Option Well} : fiEnumX fa ρ W = (fa ρ W).bindI fun as W1 => match datas as with
  | some [.list l] => .ok (l.mapIdx fun i d => .tuple [.int i, d]) W1
  | some [.tuple l] => .ok (l.mapIdx fun i d => .tuple [.int i, d]) W1
  | _ => .bad := nr rfl
end Lw
set_option Elab.async false
set_option linter.all false
set_option maxRecDepth 100000
set_option maxHeartbeats 2000000
set_option autoImplicit false
/-! # a def called with a new list as its well, and more -/
namespace Lw
open PySem PySem.Spec PyProof.Rows L2
variable [KI : FragI]
def eFunW (F : FF) (f : FE) (g : FA) : FE := fun ρ W => match f ρ W with
  | .ok (.f [.int x, .int y, .int z]) W1 => (match g ρ W1 with
    | .ok as W2 => (match datas as with
      | some ds => if W2 = W then (match F (.wel :: ds.map .dt) (some (x, y, z)) with | .ok (.d r) _ => .ok (.d r) W | _ => .bad) else .bad
      | none => .bad)
    | _ => .bad)
  | _ => .bad
section
variable {C : Cd} {e : Expr} {es : List Expr} {pos p : Pos} {x : Str} {f : FE} {g : FA} {F : FF}
theorem datas_len : ∀ {as : List Sl} {ds : List Dt}, datas as = some ds → ds.length = as.length
  | [], _, h => by cases h; rfl
  | .dt d :: r, ds, h => by
    unfold datas at h
    cases q : datas r with
    | none => rw [q] at h; cases h
    | some l => rw [q] at h; cases h; rw [List.length_cons, List.length_cons, datas_len q]
  | .no :: _, _, h => nomatch h
  | .wel :: _, _, h => nomatch h
  | .cn _ _ :: _, _, h => nomatch h
theorem se_callW {ps : List Str} (DF : Df C x ps F) (hg : C.G x) (he : SE C e f) (ha : SA C es g) (hn : ∀ ρ W as W1, g ρ W = .ok as W1 → as.length + 1 = ps.length)
    (hd : (x == ("__debug__" : Str)) = false := by decide) (hst : ∀ env, starEach (e :: es) env = (false, eval e env) :: starEach es env := by intro _; rfl) (hpl : ∀ env, (backTo pos (starEach es env)).any (·.1) = false := by intro _; rfl) (hcm : C.cm = true := by rfl) :
    SE C (.Call (.Name x p) (e :: es) [] pos) (eFunW F f g) := by
  obtain ⟨t, q, s⟩ := he
  obtain ⟨u, q2, z⟩ := ha
  obtain ⟨fa, fd, ok, mf, kf, bf⟩ := DF.at_
  refine ⟨tCallS (spF C.ca ps.length F) (WE C.Wx) (tCons t u), fun X h => ?_, fun a W Q I h => ?_⟩
  · have ok' : FnOk X.prog X.w X.K X.mg X.base (L2.CX X.prog X.w) C.k fa fd ps (spF C.ca ps.length F) := by
      rw [C.hprog X h, C.hw X h, C.hK X h, C.hmg X h, C.hbase X h]
      exact ok
    exact pe_callS ok' (C.roomC hcm X h) (C.gl h hg) (by rw [C.hmg X h]; exact mf) (by rw [C.hK X h]; exact kf) (by rw [C.hK X h]; exact bf) (C.pass X h) (pa_cons (q X h) (q2 X h) (hst _)) hd (hst _) (hpl _)
  · refine s a W _ I ?_
    have h' : wE C.Wx C.ca a Q (eFunW F f g a.ρ W) := h
    unfold eFunW at h'
    split at h'
    · rename_i i j k W1 ef
      rw [ef]
      split at h'
      · rename_i as W2 eg
        split at h'
        · rename_i ds ed
          split at h'
          · rename_i eW
            intro P vs H1 e1 st hn0 e2 np nw no hp al hb
            have I1 : (⟨a.b, OU a.O P, a.wa, a.ρ, a.σ, H1, a.hw⟩ : At).Er W1 := ⟨e1, e2.2⟩
            refine z ⟨a.b, OU a.O P, a.wa, a.ρ, a.σ, H1, a.hw⟩ W1 _ I1 ?_
            show wA C.Wx C.ca _ _ (g a.ρ W1)
            rw [eg]
            intro vs' H2 e3 st2 r2
            have al2 := r2.datas ed
            have hvs : vs = wellVs (i, j, k) := RpA.of_ints (ns := [i, j, k]) al
            have nwa : a.hw = true → P ≠ a.wa := fun hw => by
              rcases nw with nw | nw
              · exact nw
              · have := e2.2
                rw [nw] at this
                rw [← this] at hw
                cases hw
            have hp2 : H2 P = some (.lst vs) := st2 P _ nwa hp
            refine ⟨OU a.O P, P, some (i, j, k), .wel :: ds.map .dt, ?_, e3.1.al, .cons rfl (by have := ArRs.app al2 (ArRs.nil (O := OU a.O P) (wa := P) (H := H2)); rw [List.append_nil, List.append_nil] at this; exact this), fun w hw => ?_, ?_⟩
            · rw [List.length_cons, ← al2.length.symm, datas_len ed]
              exact hn _ _ _ _ eg
            · cases hw
              exact ⟨.inr rfl, by rw [hp2, hvs]⟩
            · split at h'
              · rename_i r W3 er
                rw [er]
                intro v H3 cc rp
                subst eW
                have same : Same a.H H3 := fun y o hy => by
                  have yP : y ≠ P := fun z => by rw [z, hn0] at hy; cases hy
                  by_cases hw : a.hw = true ∧ y = a.wa
                  · obtain ⟨w, ew⟩ := Option.isSome_iff_exists.mp (I.2.trans hw.1)
                    have k1 := (I.1.wl w ew).2
                    have k2 := (e3.1.wl w ew).2
                    rw [hw.2] at hy
                    rw [k1] at hy
                    rw [hw.2]
                    refine cc.1 a.wa o (fun _ z => nwa hw.1 z.symm) ?_
                    rw [← hy]
                    exact k2
                  · have n1 : a.hw = true → y ≠ a.wa := fun h1 h2 => hw ⟨h1, h2⟩
                    exact cc.1 y o (fun _ => yP) (st2 y o n1 (st y o n1 hy))
                exact h' v H3 ⟨I.1.same same, I.2⟩ (Est.same same) (rp.stp (Stp.less fun _ z => .inl z))
              · exact absurd h' id
          · exact absurd h' id
        · exact absurd h' id
      · exact absurd h' id
    · exact absurd h' id
end
@[simp] theorem v_funW {F : FF} {f : FE} {g : FA} {ρ : List Sl} {W : Option Well} : eFunW F f g ρ W = (match f ρ W with
  | .ok (.f [.int x, .int y, .int z]) W1 => (match g ρ W1 with
    | .ok as W2 => (match datas as with
      | some ds => if W2 = W then (match F (.wel :: ds.map .dt) (some (x, y, z)) with | .ok (.d r) _ => .ok (.d r) W | _ => .bad) else .bad
      | none => .bad)
    | _ => .bad)
  | _ => .bad) := nr rfl
end Lw
set_option Elab.async false
set_option linter.all false
set_option maxRecDepth 100000
set_option maxHeartbeats 2000000
set_option autoImplicit false
/-! # a list turned round -/
namespace Lw
open PySem PySem.Spec PyProof.Rows L2
variable [KI : FragI]
theorem RpA.rev {O : Own} {H : Hp} : ∀ {vs : List V} {ds : List Dt}, RpA O H vs ds → RpA O H vs.reverse ds.reverse
  | _, _, .nil => .nil
  | _, _, .cons r al => by
    rw [List.reverse_cons, List.reverse_cons]
    exact (RpA.rev al).app (.cons r .nil)
def eRev (f : FE) : FE := fun ρ W => (f ρ W).bind fun x W1 => match x with | .list l => .ok (.f l.reverse) W1 | _ => .bad
theorem se_rev {C : Cd} {e : Expr} {f : FE} {k : Nat} {p1 p2 p3 pos : Pos} (he : SE C e f) : SE C (.Subscript e (.Slice none none (some (.UnaryOp .USub (.Constant (.int 1) k p1) p2)) p3) pos) (eRev f) := by
  obtain ⟨t, p, s⟩ := he
  refine ⟨tRevL fK t, fun X h => by rw [← C.hK X h]; exact pe_revL (p X h), fun a W Q I h => ?_⟩
  refine s.then I h fun x W1 v H1 e1 st r1 h1 => ?_
  split at h1
  · rename_i l
    cases r1 with
    | @lst ad xs _ hh a1 =>
      exact ⟨ad, xs, rfl, hh.sq, wP.new (wE.wp (a := { a with H := H1 }) e1 h1) a1.rev⟩
  · exact absurd h1 id
@[simp] theorem v_rev {f : FE} {ρ : List Sl} {W : Option Well} : eRev f ρ W = (f ρ W).bind fun x W1 => match x with | .list l => .ok (.f l.reverse) W1 | _ => .bad := nr rfl
end Lw
set_option Elab.async false
set_option linter.all false
set_option maxRecDepth 100000
set_option maxHeartbeats 2000000
set_option autoImplicit false
/-! # own lists lent to defs, own lists in pairs, list(own) -/
namespace Lw
open PySem PySem.Spec PyProof.Rows L2
variable [KI : FragI]
/-! ### lent -/
def ArB (a : At) (H : Hp) : Sl → V → Prop
  | .dt d, v => Rp a.O H v d ∨ ∃ (p : Addr) (l : List Dt) (i : Nat), v = .ref p ∧ d = .list l ∧ a.ρ[i]? = some (.cn true l) ∧ a.σ[i]? = some (some (.ref p))
  | .wel, v => v = .ref a.wa
  | .ex p _, v => v = .ref p
  | _, _ => False
inductive ArBs (a : At) (H : Hp) : List Sl → List V → Prop
  | nil : ArBs a H [] []
  | cons {s : Sl} {v : V} {ss : List Sl} {vs : List V} : ArB a H s v → ArBs a H ss vs → ArBs a H (s :: ss) (v :: vs)
def wB (Wx : WX) (ca : Nat → Addr) (a : At) (Q : List V → Hp → Prop) : RA → Prop
  | .ok as W1 => ∀ vs H1, (a.to H1).Er W1 → Est a.wa a.hw a.H H1 → ArBs a H1 as vs → Q vs H1
  | .exc c W1 => ∀ H', (a.to H').Er W1 → Est a.wa a.hw a.H H' → Wx (.ref (ca c)) none a.σ H'
  | .bad => False
def SAB (C : Cd) (es : List Expr) (f : FA) : Prop := ∃ t, (∀ X, C.P X → PA X es t) ∧ ∀ (a : At) (W : Option Well) (Q : List V → Hp → Prop), a.Er W → wB C.Wx C.ca a Q (f a.ρ W) → t a.σ a.H Q
theorem wB.later {Wx : WX} {ca : Nat → Addr} {a : At} {H1 : Hp} {r : RA} {Q : List V → Hp → Prop} (st : Est a.wa a.hw a.H H1) (h : wB Wx ca a Q r) : wB Wx ca (a.to H1) Q r := by
  cases r with
  | bad => exact h
  | exc c W2 => exact fun H' e2 st2 => h H' e2 (st.trans st2)
  | ok e2 W2 => exact fun v H' e3 st2 r => h v H' e3 (st.trans st2) (by
      clear e3 h
      induction r with
      | nil => exact .nil
      | @cons s v ss vs r1 rr ih =>
        refine .cons ?_ ih
        cases s with
        | dt d => exact r1
        | wel => exact r1
        | no => exact r1
        | ex => exact r1
        | cn c l => exact r1)
theorem ArBs.later {a : At} {H1 H2 : Hp} {W1 : Option Well} (I : (a.to H1).Er W1) (st : Est a.wa a.hw H1 H2) : ∀ {as : List Sl} {vs : List V}, ArBs a H1 as vs → ArBs a H2 as vs
  | _, _, .nil => .nil
  | .dt d :: _, _, .cons r rr => .cons (r.elim (fun r => .inl (r.stp (Est.stp (a := a.to H1) st I))) .inr) (ArBs.later I st rr)
  | .wel :: _, _, .cons r rr => .cons r (ArBs.later I st rr)
  | .no :: _, _, .cons r _ => absurd r id
  | .ex _ _ :: _, _, .cons r rr => .cons r (ArBs.later I st rr)
  | .cn _ _ :: _, _, .cons r _ => absurd r id
section
variable {C : Cd}
theorem sab_of {es : List Expr} {g : FA} (h : SA C es g) : SAB C es g := by
  obtain ⟨t, p, s⟩ := h
  refine ⟨t, p, fun a W Q I h => s a W Q I ?_⟩
  cases hr : g a.ρ W with
  | bad => rw [hr] at h; exact h
  | exc c W1 => rw [hr] at h; exact h
  | ok as W1 =>
    rw [hr] at h
    intro vs H1 e1 st r
    refine h vs H1 e1 st ?_
    clear h hr
    induction r with
    | nil => exact .nil
    | @cons s v ss vs r1 rr ih =>
      refine .cons ?_ ih
      cases s with
      | dt d => exact .inl r1
      | wel => exact r1
      | no => exact r1
      | ex => exact r1
      | cn c l => exact r1
theorem sab_cons {e : Expr} {es : List Expr} {f : FE} {g : FA} (he : SE C e f) (hs : SAB C es g) (hst : ∀ env, starEach (e :: es) env = (false, eval e env) :: starEach es env := by intro _; rfl) : SAB C (e :: es) (aCons f g) := by
  obtain ⟨t, p, s⟩ := he
  obtain ⟨u, q, z⟩ := hs
  refine ⟨_, fun X h => pa_cons (p X h) (q X h) (hst _), fun a W Q I h => ?_⟩
  refine s a W _ I ?_
  unfold aCons Res.bindA at h
  cases hr : f a.ρ W with
  | bad => rw [hr] at h; exact h
  | exc c W1 => rw [hr] at h; exact h
  | ok ev W1 =>
    rw [hr] at h
    dsimp only at h
    refine wE.weak fun v H1 e1 st r1 => ?_
    refine z (a.to H1) W1 _ e1 ?_
    unfold RA.bindA at h
    show wB C.Wx C.ca (a.to H1) _ (g a.ρ W1)
    cases hg : g a.ρ W1 with
    | bad => rw [hg] at h; exact h
    | exc c W2 => rw [hg] at h; exact fun H' e2 st2 => h H' e2 (st.trans st2)
    | ok as W2 =>
      rw [hg] at h
      intro vs H2 e2 st2 r2
      have r2' : ArBs a H2 as vs := by
        clear h hg
        induction r2 with
        | nil => exact .nil
        | @cons s v ss vs r1 rr ih =>
          refine .cons ?_ ih
          cases s with
          | dt d => exact r1
          | wel => exact r1
          | no => exact r1
          | ex => exact r1
          | cn c l => exact r1
      exact h (v :: vs) H2 e2 (st.trans st2) (.cons (.inl (r1.stp (Est.stp (a := a.to H1) st2 e1))) r2')
def aBor (i : Nat) (g : FA) : FA := fun ρ W => match ρ[i]? with | some (.cn true l) => (g ρ W).bindA fun as W2 => .ok (.dt (.list l) :: as) W2 | _ => .bad
theorem sab_bor {i : Nat} {x : Str} {pos : Pos} {es : List Expr} {g : FA} (hN : C.N[i]? = some x) (hv : Vis C.sc x) (hs : SAB C es g) (hd : (x == ("__debug__" : Str)) = false := by decide) (hcd : (x == ("__classdict__" : Str)) = false := by decide)
    (hst : ∀ env, starEach (.Name x pos :: es) env = (false, eval (.Name x pos) env) :: starEach es env := by intro _; rfl) : SAB C (.Name x pos :: es) (aBor i g) := by
  obtain ⟨u, q, z⟩ := hs
  refine ⟨_, fun X h => pa_cons (pe_var (by rw [C.hN X h]; exact hN) (by rw [C.hsc X h]; exact hv) hd hcd) (q X h) (hst _), fun a W Q I h => ?_⟩
  unfold aBor at h
  split at h
  · rename_i l e
    obtain ⟨o, h1, h2⟩ := I.1.sl i _ e
    cases o with
    | none => exact absurd h2 id
    | some v =>
      refine ⟨v, h1, ?_⟩
      obtain ⟨p, us, rfl, _⟩ := h2
      refine z a W _ I ?_
      unfold RA.bindA at h
      cases hg : g a.ρ W with
      | bad => rw [hg] at h; exact h
      | exc c W2 => rw [hg] at h; exact h
      | ok as W2 =>
        rw [hg] at h
        exact fun vs H2 e2 st2 r2 => h (.ref p :: vs) H2 e2 st2 (.cons (.inr ⟨p, l, i, rfl, rfl, e, h1⟩) r2)
  · exact absurd h id
def eFunB (F : FF) (fa : FA) : FE := fun ρ W => match fa ρ W with
  | .ok as W1 => (match F as W1 with
    | .ok (.d x) W2 => if flat x = true then .ok (.d x) W2 else .bad
    | .exc c W2 => .exc c W2
    | _ => .bad)
  | .exc c W1 => .exc c W1
  | .bad => .bad
theorem ArBs.lend {a : At} {H : Hp} {W : Option Well} (I : (a.to H).Er W) : ∀ {as : List Sl} {vs : List V}, ArBs a H as vs → ArRs (fun x => a.O x ∧ ¬ ∃ (j : Nat) (l : List Dt), a.ρ[j]? = some (.cn true l) ∧ a.σ[j]? = some (some (.ref x))) a.wa H as vs
  | _, _, .nil => .nil
  | .dt d :: _, _, .cons r rr => by
    refine .cons ?_ (ArBs.lend I rr)
    rcases r with r | ⟨p, l, i, rfl, rfl, h1, h2⟩
    · exact Rp.stp (Stp.less fun x z => z.1) r
    · obtain ⟨o, e1, e2⟩ := I.1.sl i _ h1
      have h2' : (a.to H).σ[i]? = some (some (.ref p)) := h2
      rw [h2'] at e1
      cases e1
      obtain ⟨q, us, e, oq, hq, al, _⟩ := e2
      cases e
      exact .lst (.inl ⟨fun z => z.2 ⟨i, l, h1, h2⟩, .inl hq⟩) (RpA.stp (Stp.less fun x z => z.1) al)
  | .wel :: _, _, .cons r rr => .cons r (ArBs.lend I rr)
  | .no :: _, _, .cons r _ => absurd r id
  | .ex _ _ :: _, _, .cons r rr => .cons r (ArBs.lend I rr)
  | .cn _ _ :: _, _, .cons r _ => absurd r id
theorem ArBs.length {a : At} {H : Hp} : ∀ {as : List Sl} {vs : List V}, ArBs a H as vs → as.length = vs.length
  | _, _, .nil => rfl
  | _, _, .cons _ t => by rw [List.length_cons, List.length_cons, ArBs.length t]
theorem ar_bor {i : Nat} {g : FA} {n : Nat} (h : ArN g n) : ArN (aBor i g) (n + 1) := fun ρ W as W1 e => by
  unfold aBor at e
  split at e
  · unfold RA.bindA at e
    dsimp only at e
    split at e
    · rename_i as2 W3 e3
      cases e
      rw [List.length_cons, h _ _ _ _ e3]
    · cases e
    · cases e
  · cases e
theorem se_callBor {e : Expr} {es : List Expr} {pos p : Pos} {x : Str} {fa : FA} {F : FF} {ps : List Str} (DF : Df C x ps F) (hg : C.G x) (ha : SAB C (e :: es) fa) (hn : ArN fa ps.length := by repeat (first | exact ar_nil | apply ar_cons | apply ar_wel | apply ar_bor))
    (hd : (x == ("__debug__" : Str)) = false := by decide) (he : ∀ env, starEach (e :: es) env = (false, eval e env) :: starEach es env := by intro _; rfl) (hpl : ∀ env, (backTo pos (starEach es env)).any (·.1) = false := by intro _; rfl) (hcm : C.cm = true := by rfl) :
    SE C (.Call (.Name x p) (e :: es) [] pos) (eFunB F fa) := by
  obtain ⟨t, q, s⟩ := ha
  obtain ⟨f, fd, ok, mf, kf, bf⟩ := DF.at_
  refine ⟨tCallS (spF C.ca ps.length F) (WE C.Wx) t, fun X h => ?_, fun a W Q I h => ?_⟩
  · have ok' : FnOk X.prog X.w X.K X.mg X.base (L2.CX X.prog X.w) C.k f fd ps (spF C.ca ps.length F) := by
      rw [C.hprog X h, C.hw X h, C.hK X h, C.hmg X h, C.hbase X h]
      exact ok
    exact pe_callS ok' (C.roomC hcm X h) (C.gl h hg) (by rw [C.hmg X h]; exact mf) (by rw [C.hK X h]; exact kf) (by rw [C.hK X h]; exact bf) (C.pass X h) (q X h) hd (he _) (hpl _)
  · refine s a W _ I ?_
    have h' : wE C.Wx C.ca a Q (eFunB F fa a.ρ W) := h
    unfold eFunB at h'
    cases e2 : fa a.ρ W with
    | bad => rw [e2] at h'; exact h'
    | exc c W1 => rw [e2] at h'; exact h'
    | ok as W1 =>
      rw [e2] at h'
      dsimp only at h'
      intro vs H1 e1 st r1
      refine ⟨_, a.wa, W1, as, by rw [← r1.length]; exact hn _ _ _ _ e2, fun x z => e1.1.al x z.1, r1.lend e1, fun w hw => ⟨⟨(e1.1.wl w hw).1, fun ⟨j, l, h1, h2⟩ => e1.1.nw j l a.wa h1 h2 (by rw [hw]; rfl) rfl⟩, (e1.1.wl w hw).2⟩, ?_⟩
      have hl := wE.later I e1 st h'
      cases hF : F as W1 with
      | bad => rw [hF] at hl; exact hl
      | exc c W2 =>
        rw [hF] at hl
        exact fun H' cc => hl H' ⟨e1.1.call cc, cc.2.2.trans e1.2⟩ (by rw [← e1.2]; exact cc.1)
      | ok ev W2 =>
        rw [hF] at hl
        cases ev with
        | f l => exact absurd hl id
        | d y =>
          dsimp only at hl
          by_cases hf : flat y = true
          · rw [if_pos hf] at hl
            exact fun v H' cc r => hl v H' ⟨e1.1.call cc, cc.2.2.trans e1.2⟩ (by rw [← e1.2]; exact cc.1) (r.flat hf)
          · rw [if_neg hf] at hl
            exact absurd hl id
end
section
variable {ρ : List Sl} {W : Option Well} {i : Nat} {fa : FA} {F : FF}
@[simp] theorem v_funB : eFunB F fa ρ W = (match fa ρ W with
  | .ok as W1 => (match F as W1 with
    | .ok (.d x) W2 => if flat x = true then .ok (.d x) W2 else .bad
    | .exc c W2 => .exc c W2
    | _ => .bad)
  | .exc c W1 => .exc c W1
  | .bad => .bad) := nr rfl
@[simp] theorem v_aBor {l : List Dt} (h : ρ[i]? = some (.cn true l)) : aBor i fa ρ W = (fa ρ W).bindA fun as W2 => .ok (.dt (.list l) :: as) W2 := by unfold aBor; rw [h] <;> rfl
end
end Lw
set_option Elab.async false
set_option linter.all false
set_option maxRecDepth 100000
set_option maxHeartbeats 2000000
set_option autoImplicit false
/-! # zip of a list or tuple and a list or tuple -/
namespace LwZ
open PySem PySem.Spec PyProof.Rows L2
open PySem.Sem (wp)
/-- k: a list; else a tuple -/
def Sq (k : Bool) (h : Heap) (l : Addr) (xs : Array Value) : Prop := match k with | true => h.IsList l xs | false => h.IsTuple l xs
def Ir (k : Bool) (h : Heap) (it l : Addr) (i : Nat) : Prop := match k with | true => h.IsListIter it l i | false => h.IsTupleIter it l i
def itN (k : Bool) : String := match k with | true => "list_iterator" | false => "tuple_iterator"
def itO (k : Bool) (l : Addr) : Obj := { cls := .type (itN k), data := .fields #[.ref l, .int 0 0] }
theorem Sq.mv {k : Bool} {h h' : Heap} {l : Addr} {xs : Array Value} (x : Sq k h l xs) (e : ∀ o, h.get? l = some o → h'.get? l = some o) : Sq k h' l xs := by
  cases k with
  | true => exact Heap.IsList.at x e
  | false => exact Heap.IsTuple.at x e
theorem Ir.mv {k : Bool} {h h' : Heap} {it l : Addr} {i : Nat} (x : Ir k h it l i) (e : ∀ o, h.get? it = some o → h'.get? it = some o) : Ir k h' it l i := by
  cases k with
  | true => exact Heap.IsListIter.at x e
  | false => exact Heap.IsTupleIter.at x e
theorem Ir.new {k : Bool} {h : Heap} {it l : Addr} (e : h.get? it = some (itO k l)) : Ir k h it l 0 := by
  cases k with
  | true => exact ⟨_, e, rfl, rfl⟩
  | false => exact ⟨_, e, rfl, rfl⟩
theorem Sq.lt {k : Bool} {h : Heap} {l : Addr} {xs : Array Value} (x : Sq k h l xs) : l < h.objs.size := by
  cases k with
  | true => obtain ⟨_, e, _⟩ := (show h.IsList l xs from x); exact Heap.lt_size e
  | false => obtain ⟨_, e, _⟩ := (show h.IsTuple l xs from x); exact Heap.lt_size e
theorem Ir.obj {k : Bool} {h : Heap} {it l : Addr} {i : Nat} (x : Ir k h it l i) : ∃ o, h.get? it = some o ∧ ∀ v, o.data ≠ Data.cell v := by
  cases k with
  | true => obtain ⟨o, e, _, d⟩ := (show h.IsListIter it l i from x); exact ⟨o, e, fun v q => by rw [d] at q; cases q⟩
  | false => obtain ⟨o, e, _, d⟩ := (show h.IsTupleIter it l i from x); exact ⟨o, e, fun v q => by rw [d] at q; cases q⟩
theorem draws {prog : Program} {w : World} {A : Around} (k : Bool) (hh : A.handled = none) (it l : Addr) (hne : l ≠ it) (items : Array Value) :
    Draws prog w A it [it, l] items.size (fun i v => items[i]? = some v) (fun i h => Ir k h it l i ∧ Sq k h l items) := by
  cases k with
  | true => exact Draws.list hh it l hne items
  | false => exact Draws.tuple hh it l hne items
theorem begins (k : Bool) (l : Addr) (items : Array Value) : Begins (.ref l) (itO k l) fun h => Sq k h l items := by
  cases k with
  | true => exact begins_list l items
  | false => exact begins_tuple l items
/-- the plain sequence of the kind -/
def SqK (K : PySem.W.Frag) (k : Bool) (H : Hp) (a : Addr) (xs : List V) : Prop := match k with | true => SqL K H a xs | false => SqT K H a xs
theorem SqK.val {X : Cx} {pins σ H s} {k : Bool} {a : Addr} {xs : List V} (I : Inv X pins σ H s) (q : SqK X.K k H a xs) : ∃ its : List Value, Vals xs its ∧ Sq k s.heap a its.toArray := by
  cases k with
  | true => obtain ⟨its, r, p, _⟩ := I.list (show SqL X.K H a xs from q); exact ⟨its, r, p.isList⟩
  | false => obtain ⟨its, r, p, _⟩ := I.tuple (show SqT X.K H a xs from q); exact ⟨its, r, p⟩
theorem SqK.inj {X : Cx} {pins σ H s} {k : Bool} {a : Addr} {xs ys : List V} (I : Inv X pins σ H s) (q : SqK X.K k H a xs) (r : SqK X.K k H a ys) : xs = ys := by
  cases k with
  | true => exact I.list_inj (show SqL X.K H a xs from q) r
  | false => exact I.tuple_inj (show SqT X.K H a xs from q) r
def ItzK (K : PySem.W.Frag) (k k2 : Bool) (a b : Addr) : It :=
  ⟨fun i H => ∃ (xs ys : List V) (x y : V), SqK K k H a xs ∧ SqK K k2 H b ys ∧ xs[i]? = some x ∧ ys[i]? = some y,
    fun i H v H' => ∃ T x y, v = .ref T ∧ H T = none ∧ H' = upd H T (.tup [x, y]) ∧ (∀ xs, SqK K k H a xs → xs[i]? = some x) ∧ ∀ ys, SqK K k2 H b ys → ys[i]? = some y,
    fun i H => ∃ xs ys : List V, SqK K k H a xs ∧ SqK K k2 H b ys ∧ ((i = xs.length ∧ i ≤ ys.length) ∨ (i = ys.length ∧ i ≤ xs.length))⟩
theorem turn_zipK {P : Program} {w : World} {K : PySem.W.Frag} {elts : List Expr} {kk : Nat} {tpos : Pos} {k k2 : Bool} {a b z TI TO i1 i2 : Addr} (D : ZipSep2 z TI TO i1 i2 [i1, a] [i2, b]) (ha : a ≠ i1) (hb : b ≠ i2) :
    Turn P w K (.Tuple elts kk tpos) (ItzK K k k2 a b) [z, TI, TO, i1, i2] z (fun i h => IsZip h z TI TO .none ∧ IsTupOf2 h TI (.ref i1) (.ref i2) ∧ (∃ x y, IsTupOf2 h TO x y) ∧ Ir k h i1 a i ∧ Ir k2 h i2 b i) where
  mem := by simp
  obj := fun i h st c hc => by
    obtain ⟨hz, hTI, ⟨x, y, hTO⟩, h1, h2⟩ := st
    have e' : c = z ∨ c = TI ∨ c = TO ∨ c = i1 ∨ c = i2 := by simpa using hc
    rcases e' with q | q | q | q | q
    · rw [q]; exact ⟨_, hz, fun v q => nomatch q⟩
    · rw [q]; exact ⟨_, hTI, fun v q => nomatch q⟩
    · rw [q]; exact ⟨_, hTO, fun v q => nomatch q⟩
    · rw [q]; exact h1.obj
    · rw [q]; exact h2.obj
  keep := fun i h h' st kp => by
    obtain ⟨hz, hTI, ⟨x, y, hTO⟩, h1, h2⟩ := st
    exact ⟨kp z (by simp) _ hz, kp TI (by simp) _ hTI, ⟨x, y, kp TO (by simp) _ hTO⟩, h1.mv fun o q => kp i1 (by simp) o q, h2.mv fun o q => kp i2 (by simp) o q⟩
  item := by
    intro X hP hw hK hc i pins s σ H E I hf st hg
    subst hP hw hK
    obtain ⟨hz, hTI, ⟨x0, y0, hTO⟩, h1, h2⟩ := st
    obtain ⟨xs, ys, x, y, hqx, hqy, hx, hy⟩ := hg
    obtain ⟨its, rv, p⟩ := SqK.val I hqx
    obtain ⟨its2, rv2, p2⟩ := SqK.val I hqy
    obtain ⟨u, hu, ru⟩ := rv.get hx
    obtain ⟨u2, hu2, ru2⟩ := rv2.get hy
    have hzl : z < s.heap.objs.size := Heap.lt_size hz
    have lt1 : i < its.toArray.size := by have := (List.getElem?_eq_some_iff.mp hu).1; simpa using this
    have lt2 : i < its2.toArray.size := by have := (List.getElem?_eq_some_iff.mp hu2).1; simpa using this
    have hh : X.A.in1.handled = none := I.ok.hd hc
    refine wpAny_pyNext_zipD2_item D (draws k hh i1 a ha its.toArray) (draws k2 hh i2 b hb its2.toArray) hz hTI hTO ⟨h1, p⟩ ⟨h2, p2⟩ lt1 lt2 fun x1 x2 h' tk hv1 hv2 z' TO' d1 d2 hT hsz hk => ?_
    have e1 : x1 = u := by
      have q : its.toArray[i]? = some x1 := hv1
      have r : its.toArray[i]? = some u := by simpa using hu
      rw [q] at r; exact Option.some.inj r
    have e2 : x2 = u2 := by
      have q : its2.toArray[i]? = some x2 := hv2
      have r : its2.toArray[i]? = some u2 := by simpa using hu2
      rw [q] at r; exact Option.some.inj r
    subst e1 e2
    refine ⟨_, rfl, wpAny_letOwnedTupleGo_zip (s := { s with heap := h', toks := tk }) z' fun h'' z'' sb => ?_⟩
    have hT2 : h''.get? s.heap.objs.size = some { cls := .type "tuple", data := .seq #[x1, x2] } := (sb.2 _ (Nat.ne_of_gt hzl)).trans hT
    have new : ObjOk X.prog X.w (upd H s.heap.objs.size (.tup [x, y])) h'' s.heap.objs.size (.tup [x, y]) :=
      ⟨by show 2 ≤ sizeLine; decide, [x1, x2], .cons ru (.cons ru2 .nil), ⟨_, hT2, rfl, _, rfl⟩⟩
    have I1 : Inv X pins σ (upd H s.heap.objs.size (.tup [x, y])) { s with heap := h'', toks := tk } :=
      I.turnedNew (t' := tk) (ch := [z, TI, TO, i1, i2]) (fun c o hb q => (sb.2 c (fun q' => hb (by simp [q']))).trans (hk c o (fun q' => hb (by simp [q'])) (fun q' => hb (by simp [q'])) (fun q' => hb (by simp [q'])) (fun q' => hb (by simp [q'])) q)) hf (Nat.le_refl _) new
    refine ⟨.ref s.heap.objs.size, _, I1, rfl, ⟨_, x, y, rfl, I.hok.fresh (Nat.le_refl _), rfl, fun l hl => by rw [SqK.inj I hl hqx]; exact hx, fun l hl => by rw [SqK.inj I hl hqy]; exact hy⟩, ⟨z'', ?_, ⟨x1, x2, ?_⟩, ?_, ?_⟩, fun c hcm => ?_⟩
    · exact (sb.2 _ D.TIz).trans (hk _ _ D.TIz D.TITO D.TIi1 D.TIi2 hTI)
    · exact (sb.2 _ D.TOz).trans TO'
    · exact d1.1.mv fun o q => (sb.2 _ (Ne.symm D.zi1)).trans q
    · exact d2.1.mv fun o q => (sb.2 _ (Ne.symm D.zi2)).trans q
    · have hlt : c < s.heap.objs.size := by
        have e' : c = z ∨ c = TI ∨ c = TO ∨ c = i1 ∨ c = i2 := by simpa using hcm
        rcases e' with q | q | q | q | q
        · rw [q]; exact hzl
        · rw [q]; exact Heap.lt_size hTI
        · rw [q]; exact Heap.lt_size hTO
        · rw [q]; obtain ⟨_, e1, _⟩ := h1.obj; exact Heap.lt_size e1
        · rw [q]; obtain ⟨_, e2, _⟩ := h2.obj; exact Heap.lt_size e2
      rw [upd_ne (Nat.ne_of_lt hlt)]
      exact (hf c hcm).1
  done := by
    intro X hP hw hK hc i pins s σ H E I hf st hg
    subst hP hw hK
    obtain ⟨hz, hTI, ⟨x0, y0, hTO⟩, h1, h2⟩ := st
    obtain ⟨xs, ys, hqx, hqy, hend⟩ := hg
    obtain ⟨its, rv, p⟩ := SqK.val I hqx
    obtain ⟨its2, rv2, p2⟩ := SqK.val I hqy
    have l1 := rv.length
    have l2 := rv2.length
    have s1 : its.toArray.size = its.length := by simp
    have s2 : its2.toArray.size = its2.length := by simp
    have hh : X.A.in1.handled = none := I.ok.hd hc
    exact wpAny_pyNext_zipD2_end D (draws k hh i1 a ha its.toArray) (draws k2 hh i2 b hb its2.toArray) hz hTI hTO ⟨h1, p⟩ ⟨h2, p2⟩ (by omega) (by omega) (by omega) fun h' tk hk => ⟨rfl, I.turnedL (t' := tk) (ch := [z, TI, TO, i1, i2]) (fun c o hb q =>
      hk c o (fun q' => hb (by simp [q'])) (fun q' => hb (by simp [q'])) (fun q' => hb (by simp [q'])) (fun q' => hb (by simp [q'])) q) hf⟩
  self := fun A i s Q E st h => wpAny_pyIter_zip st.1 h
def iZipK (K : PySem.W.Frag) (ta : TA) : TI := fun σ H R => ta σ H fun vs H1 => ∃ a b xs ys k k2, vs = [.ref a, .ref b] ∧ SqK K k H1 a xs ∧ SqK K k2 H1 b ys ∧ R (ItzK K k k2 a b) H1
theorem pi_zipK {X : Cx} {e e2 : Expr} {ta : TA} {p pos tpos : Pos} {elts : List Expr} {kk : Nat} (hg : Gl X "zip") (hm : X.mg "zip" = none) (ha : PA X [e, e2] ta)
    (hs : starEach [e, e2] X.env = (false, eval e X.env) :: starEach [e2] X.env := by rfl) (hpl : (backTo pos (starEach [e2] X.env)).any (·.1) = false := by rfl) :
    PI X (.Tuple elts kk tpos) (.Call (.Name "zip" p) [e, e2] [] pos) (iZipK X.K ta) := by
  refine ⟨fun pins s σ H R I h => ?_⟩
  refine Call_ (ld_blt I hg hm PyProof.Rows.boot_zip (PyProof.Rows.callWith_type1 (thn (ha.run pos pins s σ H _ I h) fun us s1 ⟨vs, H1, I1, r1, q1⟩ => ?_) hs hpl))
  obtain ⟨a, b, xs, ys, k, k2, ex, hqx, hqy, q⟩ := q1
  subst ex
  cases r1 with
  | cons r rr =>
    cases rr with
    | cons r' rr =>
      cases rr
      cases r
      cases r'
      have fresh5 : ∀ c, c ∈ [s1.heap.objs.size + 4, s1.heap.objs.size + 2, s1.heap.objs.size + 3, s1.heap.objs.size, s1.heap.objs.size + 1] → FpOk X pins H1 c := fun c hcm => by
        have e' : c = s1.heap.objs.size + 4 ∨ c = s1.heap.objs.size + 2 ∨ c = s1.heap.objs.size + 3 ∨ c = s1.heap.objs.size ∨ c = s1.heap.objs.size + 1 := by simpa using hcm
        have hle : s1.heap.objs.size ≤ c := by
          rcases e' with z | z | z | z | z
          · rw [z]; exact Nat.le_add_right _ _
          · rw [z]; exact Nat.le_add_right _ _
          · rw [z]; exact Nat.le_add_right _ _
          · rw [z]; exact Nat.le_refl _
          · rw [z]; exact Nat.le_add_right _ _
        exact I1.fpOk hle (I1.hok.fresh hle)
      obtain ⟨its, rv, p1⟩ := SqK.val I1 hqx
      obtain ⟨its2, rv2, p2⟩ := SqK.val I1 hqy
      have la := p1.lt
      have lb := p2.lt
      refine zip_begins2 (begins k a its.toArray) (begins k2 b its2.toArray) p1 p2 fun h' hz hTI hTO h1 h2 hsz hk => wpAny_pyIter_zip hz ?_
      have I2 : Inv X pins σ H1 { s1 with heap := h' } := I1.kept (t' := s1.toks) hk
      exact ⟨s1.heap.objs.size + 4, [s1.heap.objs.size + 4, s1.heap.objs.size + 2, s1.heap.objs.size + 3, s1.heap.objs.size, s1.heap.objs.size + 1], _, _, H1, rfl, I2,
        turn_zipK (zip_sep2 (N := s1.heap.objs.size) (fp1 := [a]) (fp2 := [b]) (fun c hc => by rw [List.mem_singleton.mp hc]; exact la) (fun c hc => by rw [List.mem_singleton.mp hc]; exact lb)) (Nat.ne_of_lt la) (Nat.ne_of_lt (Nat.lt_succ_of_lt lb)),
        ⟨hz, hTI, ⟨_, _, hTO⟩, Ir.new h1, Ir.new h2⟩, fresh5, q⟩
theorem walk_zipK {K : PySem.W.Frag} {k k2 : Bool} {a b : Addr} {xs ys : List V} {n : Nat} (hn : n = min xs.length ys.length) : Walk (ItzK K k k2 a b) n (fun H => SqK K k H a xs ∧ SqK K k2 H b ys) (YPair (fun i => xs[i]?) (fun i => ys[i]?)) := by
  subst hn
  refine ⟨fun i _ hi q => ?_, fun _ q => ⟨xs, ys, q.1, q.2, by omega⟩, fun i H v H' _ q y => ?_⟩
  · have h1 : i < xs.length := by omega
    have h2 : i < ys.length := by omega
    exact ⟨xs, ys, xs[i], ys[i], q.1, q.2, by simp [h1], by simp [h2]⟩
  · obtain ⟨T, x, z, h1, h2, h3, h4, h5⟩ := y
    exact ⟨T, x, z, h1, h2, h3, h4 xs q.1, h5 ys q.2⟩
end LwZ
namespace Lw
open PySem PySem.Spec PyProof.Rows L2 LwZ
variable [KI : FragI]
section
variable {C : Cd}
def seqD : D → Option (Bool × List D)
  | .list l => some (true, l)
  | .tuple l => some (false, l)
  | _ => none
def fiZipX (g : FA) : FI := fun ρ W => (g ρ W).bindI fun as W1 => match datas as with
  | some [.list l, .list m] => .ok ((l.zip m).map fun p => .tuple [p.1, p.2]) W1
  | some [.list l, .tuple m] => .ok ((l.zip m).map fun p => .tuple [p.1, p.2]) W1
  | some [.tuple l, .list m] => .ok ((l.zip m).map fun p => .tuple [p.1, p.2]) W1
  | some [.tuple l, .tuple m] => .ok ((l.zip m).map fun p => .tuple [p.1, p.2]) W1
  | _ => .bad
theorem si_zipX {e e2 : Expr} {p pos tpos : Pos} {elts : List Expr} {kk : Nat} {g : FA} (hg : C.G "zip") (hm : C.mg "zip" = none) (ha : SA C [e, e2] g) (hs : ∀ env, starEach [e, e2] env = (false, eval e env) :: starEach [e2] env := by intro _; rfl)
    (hpl : ∀ env, (backTo pos (starEach [e2] env)).any (·.1) = false := by intro _; rfl) : SI C (.Tuple elts kk tpos) (.Call (.Name "zip" p) [e, e2] [] pos) (fiZipX g) := by
  obtain ⟨t, q, s⟩ := ha
  refine ⟨iZipK fK t, fun X h => by rw [← C.hK X h]; exact pi_zipK (C.gl h hg) (by rw [C.hmg X h]; exact hm) (q X h) (hs _) (hpl _), fun a W R I h => ?_⟩
  refine s.thenI I h fun as W1 vs H1 e1 st r1 h1 => ?_
  split at h1
  · rename_i l m ej
    have al := r1.datas ej
    cases al with
    | cons r al =>
      cases al with
      | cons r2 al =>
        cases al
        cases r with
        | lst hh1 a1 => cases r2 with
          | lst hh2 a2 => exact ⟨_, _, _, _, true, true, rfl, hh1.sq, hh2.sq, h1 _ H1 e1 Est.refl (wkd_pairs (walk_zipK (k := true) (k2 := true) rfl) (fun O' H' st => ⟨(hh1.stp st).sq, (hh2.stp st).sq⟩) a1 a2)⟩
  · rename_i l m ej
    have al := r1.datas ej
    cases al with
    | cons r al =>
      cases al with
      | cons r2 al =>
        cases al
        cases r with
        | lst hh1 a1 => cases r2 with
          | tup hh2 a2 => exact ⟨_, _, _, _, true, false, rfl, hh1.sq, hh2.sq, h1 _ H1 e1 Est.refl (wkd_pairs (walk_zipK (k := true) (k2 := false) rfl) (fun O' H' st => ⟨(hh1.stp st).sq, (hh2.stp st).sq⟩) a1 a2)⟩
  · rename_i l m ej
    have al := r1.datas ej
    cases al with
    | cons r al =>
      cases al with
      | cons r2 al =>
        cases al
        cases r with
        | tup hh1 a1 => cases r2 with
          | lst hh2 a2 => exact ⟨_, _, _, _, false, true, rfl, hh1.sq, hh2.sq, h1 _ H1 e1 Est.refl (wkd_pairs (walk_zipK (k := false) (k2 := true) rfl) (fun O' H' st => ⟨(hh1.stp st).sq, (hh2.stp st).sq⟩) a1 a2)⟩
  · rename_i l m ej
    have al := r1.datas ej
    cases al with
    | cons r al =>
      cases al with
      | cons r2 al =>
        cases al
        cases r with
        | tup hh1 a1 => cases r2 with
          | tup hh2 a2 => exact ⟨_, _, _, _, false, false, rfl, hh1.sq, hh2.sq, h1 _ H1 e1 Est.refl (wkd_pairs (walk_zipK (k := false) (k2 := false) rfl) (fun O' H' st => ⟨(hh1.stp st).sq, (hh2.stp st).sq⟩) a1 a2)⟩
  · exact absurd h1 id
end
@[simp] theorem v_izpX {fa : FA} {ρ : List Sl} {W : Option Well} : fiZipX fa ρ W = (fa ρ W).bindI fun as W1 => match datas as with
  | some [.list l, .list m] => .ok ((l.zip m).map fun p => .tuple [p.1, p.2]) W1
  | some [.list l, .tuple m] => .ok ((l.zip m).map fun p => .tuple [p.1, p.2]) W1
  | some [.tuple l, .list m] => .ok ((l.zip m).map fun p => .tuple [p.1, p.2]) W1
  | some [.tuple l, .tuple m] => .ok ((l.zip m).map fun p => .tuple [p.1, p.2]) W1
  | _ => .bad := nr rfl
end Lw
set_option Elab.async false
set_option linter.all false
set_option maxRecDepth 100000
set_option maxHeartbeats 2000000
set_option autoImplicit false
/-! # a value and an own list, in one statement -/
namespace Lw
open PySem PySem.Spec PyProof.Rows L2
variable [KI : FragI]
section
variable {C : Cd}
/-- x, y = e, e2 where e2 is a new list, y an own name -/
def sParO (i j : Nat) (f g : FE) : FS := fun ρ W => match f ρ W with
  | .ok e W1 => (match g ρ W1 with
    | .ok (.f l) W2 => if j < ρ.length then .nx ((ρ.set i (.dt e.D)).set j (.cn true l)) W2 else .bad
    | .exc c W2 => .exc c ρ W2
    | _ => .bad)
  | .exc c W1 => .exc c ρ W1
  | .bad => .bad
theorem ss_parO {i j : Nat} {x y : Str} {a b : Expr} {f g : FE} {px py pt pos : Pos} {kt k2 pt2} (hi : C.N[i]? = some x) (hj : C.N[j]? = some y) (hij : i ≠ j) (hx : C.sc.names.lookup x = some .local) (hy : C.sc.names.lookup y = some .local) (ha : SE C a f) (hb : SE C b g)
    (hw : ∀ X, C.P X → swappedStores [.Tuple [.Name x px, .Name y py] kt pt] (.Tuple [a, b] k2 pt2) X.env = pure (some [x, y])) (hs : ∀ X, C.P X → swapsWithSole [.Tuple [.Name x px, .Name y py] kt pt] (.Tuple [a, b] k2 pt2) pos.line X.env = pure false := by intro _ _; rfl)
    (h1 : ∀ env, starEach [a, b] env = (false, eval a env) :: starEach [b] env := by intro _; rfl) (h2 : ∀ env, starEach [b] env = (false, eval b env) :: starEach [] env := by intro _; rfl) (hcm : C.cm = true := by rfl) :
    SS C (.Assign [.Tuple [.Name x px, .Name y py] kt pt] (.Tuple [a, b] k2 pt2) pos) (sParO i j f g) := by
  obtain ⟨t, p, s⟩ := ha
  obtain ⟨u, q, z⟩ := hb
  refine ⟨_, fun X h => ps_par (C.calmC hcm X h) (by rw [C.hN X h]; exact C.nd) (by rw [C.hN X h]; exact hi) (by rw [C.hN X h]; exact hj) hij (by rw [C.hsc X h]; exact hx) (by rw [C.hsc X h]; exact hy) (pa_cons (p X h) (pa_cons (q X h) pa_nil (h2 _)) (h1 _)) (hw X h) (hs X h), fun a W Dn hm I h => ?_⟩
  refine s a W _ I ?_
  unfold sParO at h
  revert h
  cases f a.ρ W with
  | bad => exact id
  | exc c W1 => exact fun h H' e1 st => h (a.to H') (Aft.est I st) rfl e1
  | ok e W1 =>
    intro h
    refine wE.weak fun v H1 e1 st r1 => ?_
    refine z (a.to H1) W1 _ e1 ?_
    show wE C.Wx C.ca (a.to H1) _ (g a.ρ W1)
    revert h
    dsimp only
    cases g a.ρ W1 with
    | bad => exact id
    | exc c W2 => exact fun h H' e2 st2 => h (a.to H') (Aft.est I (st.trans st2)) rfl e2
    | ok e' W2 =>
      cases e' with
      | d x => exact fun h => absurd h id
      | f l =>
        intro h p' vs H2 e2 st2 hn e2' np nw no hp al hb'
        refine ⟨v, .ref p', rfl, ?_⟩
        have h3 : wS C.Wx C.ca a Dn (if j < a.ρ.length then .nx ((a.ρ.set i (.dt e.D)).set j (.cn true l)) W2 else .bad) := h
        split at h3
        · rename_i hjl
          have stp : Stp a.O H1 (OU a.O p') H2 := Est.stpO (a := a.to H1) st2 e1 hn
          have r2 : Rp (OU a.O p') H2 v e.D := r1.stp stp
          have I2 := (e2.setOw j hjl np nw no hp al hb').set i (s := .dt e.D) (o := some v) r2 (fun _ _ z => nomatch z)
          rw [List.set_comm _ _ (Ne.symm hij), List.set_comm (l := a.σ) _ _ (Ne.symm hij)] at I2
          have I3 : (⟨a.b, OU a.O p', a.wa, (a.ρ.set i (.dt e.D)).set j (.cn true l), (a.σ.set i (some v)).set j (some (.ref p')), H2, a.hw⟩ : At).Er W2 := ⟨I2, e2'.2⟩
          exact h3 ⟨a.b, OU a.O p', a.wa, (a.ρ.set i (.dt e.D)).set j (.cn true l), (a.σ.set i (some v)).set j (some (.ref p')), H2, a.hw⟩ ⟨rfl, (st.stp I).trans stp⟩ rfl I3
        · exact absurd h3 id
/-- the same where a comprehension reads one of the names: by a tuple -/
theorem ss_asgO {i j : Nat} {x y : Str} {a b : Expr} {f g : FE} {px py pt pos : Pos} {kt k2 pt2} (hi : C.N[i]? = some x) (hj : C.N[j]? = some y) (hij : i ≠ j) (hx : Loc C.sc x) (hy : Loc C.sc y) (hfx : C.fn x = true ∨ C.sc.names.lookup x = some .local) (hfy : C.fn y = true ∨ C.sc.names.lookup y = some .local) (ha : SE C a f) (hb : SE C b g)
    (hw : ∀ X, C.P X → swappedStores [.Tuple [.Name x px, .Name y py] kt pt] (.Tuple [a, b] k2 pt2) X.env = pure none) (hs : ∀ X, C.P X → swapsWithSole [.Tuple [.Name x px, .Name y py] kt pt] (.Tuple [a, b] k2 pt2) pos.line X.env = pure false := by intro _ _; rfl)
    (h1 : ∀ env, starEach [a, b] env = (false, eval a env) :: starEach [b] env := by intro _; rfl) (h2 : ∀ env, starEach [b] env = (false, eval b env) :: starEach [] env := by intro _; rfl) (hcm : C.cm = true := by rfl) :
    SS C (.Assign [.Tuple [.Name x px, .Name y py] kt pt] (.Tuple [a, b] k2 pt2) pos) (sParO i j f g) := by
  obtain ⟨t, p, s⟩ := ha
  obtain ⟨u, q, z⟩ := hb
  refine ⟨tAsg (tTup (tCons t (tCons u tNil))) (gTup fK 2 (gCons (gName i) (gCons (gName j) gNil))), fun X h => ?_, fun a W Dn hm I h => ?_⟩
  · rw [← C.hK X h]
    exact ps_asg (pe_tup (pa_cons (p X h) (pa_cons (q X h) pa_nil (h2 _)) (h1 _)))
      (pg_tup (C.calmC hcm X h) (pgs_cons (pg_name (i := i) (by rw [C.hN X h]; exact C.nd) (by rw [C.hN X h]; exact hi) (by rw [C.hsc X h]; exact hx) (by rw [C.hfn X h, C.hsc X h]; exact hfx)) (pgs_cons (pg_name (i := j) (by rw [C.hN X h]; exact C.nd) (by rw [C.hN X h]; exact hj) (by rw [C.hsc X h]; exact hy) (by rw [C.hfn X h, C.hsc X h]; exact hfy)) pgs_nil))) (hs X h) (hw X h)
  refine s a W _ I ?_
  unfold sParO at h
  revert h
  cases f a.ρ W with
  | bad => exact id
  | exc c W1 => exact fun h H' e1 st => h (a.to H') (Aft.est I st) rfl e1
  | ok e W1 =>
    intro h
    refine wE.weak fun v H1 e1 st r1 => ?_
    refine z (a.to H1) W1 _ e1 ?_
    show wE C.Wx C.ca (a.to H1) _ (g a.ρ W1)
    revert h
    dsimp only
    cases g a.ρ W1 with
    | bad => exact id
    | exc c W2 => exact fun h H' e2 st2 => h (a.to H') (Aft.est I (st.trans st2)) rfl e2
    | ok e' W2 =>
      cases e' with
      | d x => exact fun h => absurd h id
      | f l =>
        intro h p' vs H2 e2 st2 hn e2' np nw no hp al hb'
        refine ⟨by show 2 ≤ sizeLine; decide, fun qq hq => ⟨qq, _, rfl, .inl (.inl upd_same), rfl, v, _, rfl, .ref p', _, rfl, rfl, ?_⟩⟩
        have h3 : wS C.Wx C.ca a Dn (if j < a.ρ.length then .nx ((a.ρ.set i (.dt e.D)).set j (.cn true l)) W2 else .bad) := h
        split at h3
        · rename_i hjl
          have stp : Stp a.O H1 (OU a.O p') H2 := Est.stpO (a := a.to H1) st2 e1 hn
          have r2 : Rp (OU a.O p') H2 v e.D := r1.stp stp
          have I2 := (e2.setOw j hjl np nw no hp al hb').set i (s := .dt e.D) (o := some v) r2 (fun _ _ z => nomatch z)
          rw [List.set_comm _ _ (Ne.symm hij), List.set_comm (l := a.σ) _ _ (Ne.symm hij)] at I2
          have sm := same_upd (o := HO.tup [v, .ref p']) hq
          have I3 : (⟨a.b, OU a.O p', a.wa, (a.ρ.set i (.dt e.D)).set j (.cn true l), (a.σ.set i (some v)).set j (some (.ref p')), upd H2 qq (.tup [v, .ref p']), a.hw⟩ : At).Er W2 := ⟨I2.same sm, e2'.2⟩
          exact h3 ⟨a.b, OU a.O p', a.wa, (a.ρ.set i (.dt e.D)).set j (.cn true l), (a.σ.set i (some v)).set j (some (.ref p')), upd H2 qq (.tup [v, .ref p']), a.hw⟩ ⟨rfl, ((st.stp I).trans stp).trans (Stp.same sm)⟩ rfl I3
        · exact absurd h3 id
end
section
variable {i j : Nat} {f g : FE} {ρ : List Sl} {W : Option Well}
@[simp] theorem v_parO : sParO i j f g ρ W = (match f ρ W with
  | .ok e W1 => (match g ρ W1 with
    | .ok (.f l) W2 => if j < ρ.length then .nx ((ρ.set i (.dt e.D)).set j (.cn true l)) W2 else .bad
    | .exc c W2 => .exc c ρ W2
    | _ => .bad)
  | .exc c W1 => .exc c ρ W1
  | .bad => .bad) := nr rfl
end
theorem ER.letx {b : Bs} {O : Own} {wa : Addr} {W : Option Well} {ρ : List Sl} {σ : L2.St} {H : Hp} {i : Nat} {l : List Dt} (I : ER b O wa W ρ σ H) (hi : ρ[i]? = some (.cn true l)) : ∃ (O' : Own) (p : Addr) (vs : List V), σ[i]? = some (some (.ref p)) ∧ ¬ O' p ∧ H p = some (.lst vs) ∧ RpA (OU O' p) H vs l ∧ b.H p = none ∧ ER b O' wa W (ρ.set i (.dt (.list l))) σ H ∧ Stp O H O' H := by
  have hil : i < ρ.length := (List.getElem?_eq_some_iff.mp hi).1
  obtain ⟨o, h1, h2⟩ := I.sl i _ hi
  cases o with
  | none => exact absurd h2 id
  | some v =>
    obtain ⟨p, vs, rfl, op, hp, al, h0⟩ := h2
    have st : Stp O H (fun a => O a ∧ a ≠ p) H := fun a o n q => ⟨fun z => n z.1, q⟩
    have np : ¬ (fun a => O a ∧ a ≠ p) p := fun z => z.2 rfl
    refine ⟨fun a => O a ∧ a ≠ p, p, vs, h1, np, hp, RpA.stp (Stp.less fun x z => z.elim (fun z => z.1) fun z => by rw [z]; exact op) al, h0, ⟨by rw [List.length_set]; exact I.len, fun a oa => I.al a oa.1, fun j t e => ?_, fun j j' l1 l2 x hne h1' h2' h3 h4 => ?_, fun j l1 x h1' h2' h3 => ?_, fun w hw => ⟨⟨(I.wl w hw).1, fun z => I.nw i l p hi h1 (by rw [hw]; rfl) z.symm⟩, (I.wl w hw).2⟩, I.keep, fun a q => ⟨I.sub a q, fun z => b.bo a q (z ▸ h0)⟩, fun a q => I.new a q.1, I.wm, I.wn⟩, st⟩
    · by_cases h : i = j
      · subst h
        rw [List.getElem?_set_self hil] at e
        cases e
        exact ⟨_, h1, Rp.lst (.inl ⟨np, .inl hp⟩) (al.stp st)⟩
      · rw [List.getElem?_set_ne h] at e
        obtain ⟨u, u1, u2⟩ := I.sl j t e
        refine ⟨u, u1, u2.stp st fun x us oa hx h0' hl hu => ⟨⟨oa, ?_⟩, hx⟩⟩
        obtain ⟨c', l', rfl⟩ := hl
        subst hu
        intro z
        subst z
        exact I.inj i j l l' x h hi e h1 u1
    · have g : ∀ {c : Bool} (j : Nat) (l1 : List Dt), (ρ.set i (.dt (.list l)))[j]? = some (.cn c l1) → ρ[j]? = some (.cn c l1) := fun j l1 e => by
        by_cases h : i = j
        · subst h; rw [List.getElem?_set_self hil] at e; cases e
        · rw [List.getElem?_set_ne h] at e; exact e
      exact I.inj j j' l1 l2 x hne (g j l1 h1') (g j' l2 h2') h3 h4
    · by_cases h : i = j
      · subst h; rw [List.getElem?_set_self hil] at h1'; cases h1'
      · rw [List.getElem?_set_ne h] at h1'; exact I.nw j l1 x h1' h2' h3
/-- an own list is the answer, as a new list -/
def sRetO (i : Nat) : FS := fun ρ W => match ρ[i]? with | some (.cn true l) => .rt (.f l) W | _ => .bad
theorem ss_retO {C : Cd} {i : Nat} {x : Str} {p pos : Pos} (hN : C.N[i]? = some x) (hv : Vis C.sc x) (hd : (x == ("__debug__" : Str)) = false := by decide) (hcd : (x == ("__classdict__" : Str)) = false := by decide) : SS C (.Return (some (.Name x p)) pos) (sRetO i) := by
  refine ⟨_, fun X h => ps_ret (pe_var (by rw [C.hN X h]; exact hN) (by rw [C.hsc X h]; exact hv) hd hcd), fun a W D hm I h => ?_⟩
  unfold sRetO at h
  split at h
  · rename_i l hl
    obtain ⟨O', p, vs, h1, np, hp, al, h0, I', st⟩ := I.1.letx hl
    exact ⟨.ref p, h1, h ⟨a.b, O', a.wa, a.ρ.set i (.dt (.list l)), a.σ, a.H, a.hw⟩ p vs ⟨rfl, st⟩ ⟨I', I.2⟩ np h0 hp al⟩
  · exact absurd h id
@[simp] theorem v_retO {i : Nat} {ρ : List Sl} {W : Option Well} {l : List Dt} (h : ρ[i]? = some (.cn true l)) : sRetO i ρ W = .rt (.f l) W := by
  unfold sRetO
  rw [h] <;> rfl
end Lw
set_option Elab.async false
set_option linter.all false
set_option maxRecDepth 100000
set_option maxHeartbeats 2000000
set_option autoImplicit false
/-! # two values and an own list, in one statement -/
namespace Lw
open PySem PySem.Spec PyProof.Rows L2
variable [KI : FragI]
section
variable {C : Cd}
def sParO3 (i j m : Nat) (f g k : FE) : FS := fun ρ W => match f ρ W with
  | .ok e W1 => (match g ρ W1 with
    | .ok e2 W2 => (match k ρ W2 with
      | .ok (.f l) W3 => if m < ρ.length then .nx (((ρ.set i (.dt e.D)).set j (.dt e2.D)).set m (.cn true l)) W3 else .bad
      | .exc c W3 => .exc c ρ W3
      | _ => .bad)
    | .exc c W2 => .exc c ρ W2
    | .bad => .bad)
  | .exc c W1 => .exc c ρ W1
  | .bad => .bad
theorem ss_parO3 {i j m : Nat} {x y z : Str} {a b c : Expr} {f g k : FE} {px py pz pt pos : Pos} {kt k2 pt2} (hi : C.N[i]? = some x) (hj : C.N[j]? = some y) (hm : C.N[m]? = some z) (hij : i ≠ j) (him : i ≠ m) (hjm : j ≠ m)
    (hx : C.sc.names.lookup x = some .local) (hy : C.sc.names.lookup y = some .local) (hz : C.sc.names.lookup z = some .local) (ha : SE C a f) (hb : SE C b g) (hc : SE C c k)
    (hw : ∀ X, C.P X → swappedStores [.Tuple [.Name x px, .Name y py, .Name z pz] kt pt] (.Tuple [a, b, c] k2 pt2) X.env = pure (some [x, y, z])) (hs : ∀ X, C.P X → swapsWithSole [.Tuple [.Name x px, .Name y py, .Name z pz] kt pt] (.Tuple [a, b, c] k2 pt2) pos.line X.env = pure false := by intro _ _; rfl)
    (h1 : ∀ env, starEach [a, b, c] env = (false, eval a env) :: starEach [b, c] env := by intro _; rfl) (h2 : ∀ env, starEach [b, c] env = (false, eval b env) :: starEach [c] env := by intro _; rfl) (h3 : ∀ env, starEach [c] env = (false, eval c env) :: starEach [] env := by intro _; rfl) (hcm : C.cm = true := by rfl) :
    SS C (.Assign [.Tuple [.Name x px, .Name y py, .Name z pz] kt pt] (.Tuple [a, b, c] k2 pt2) pos) (sParO3 i j m f g k) := by
  obtain ⟨t, p, s⟩ := ha
  obtain ⟨u, q, zz⟩ := hb
  obtain ⟨t3, p3, s3⟩ := hc
  refine ⟨_, fun X h => ps_par3 (C.calmC hcm X h) (by rw [C.hN X h]; exact C.nd) (by rw [C.hN X h]; exact hi) (by rw [C.hN X h]; exact hj) (by rw [C.hN X h]; exact hm) hij him hjm (by rw [C.hsc X h]; exact hx) (by rw [C.hsc X h]; exact hy) (by rw [C.hsc X h]; exact hz) (pa_cons (p X h) (pa_cons (q X h) (pa_cons (p3 X h) pa_nil (h3 _)) (h2 _)) (h1 _)) (hw X h) (hs X h), fun a W Dn hmk I h => ?_⟩
  refine s a W _ I ?_
  unfold sParO3 at h
  revert h
  cases f a.ρ W with
  | bad => exact id
  | exc c W1 => exact fun h H' e1 st => h (a.to H') (Aft.est I st) rfl e1
  | ok e W1 =>
    intro h
    refine wE.weak fun v H1 e1 st r1 => ?_
    refine zz (a.to H1) W1 _ e1 ?_
    show wE C.Wx C.ca (a.to H1) _ (g a.ρ W1)
    revert h
    dsimp only
    cases g a.ρ W1 with
    | bad => exact id
    | exc c W2 => exact fun h H' e2 st2 => h (a.to H') (Aft.est I (st.trans st2)) rfl e2
    | ok eb W2 =>
      intro h
      refine wE.weak fun vb Hb eb1 stb rb => ?_
      refine s3 (a.to Hb) W2 _ eb1 ?_
      show wE C.Wx C.ca (a.to Hb) _ (k a.ρ W2)
      revert h
      dsimp only
      cases k a.ρ W2 with
      | bad => exact id
      | exc c W3 => exact fun h H' e2 st2 => h (a.to H') (Aft.est I ((st.trans stb).trans st2)) rfl e2
      | ok e' W3 =>
        cases e' with
        | d x => exact fun h => absurd h id
        | f l =>
          intro h p' vs H2 e2 st2 hn e2' np nw no hp al hb'
          refine ⟨v, vb, .ref p', rfl, ?_⟩
          have h3 : wS C.Wx C.ca a Dn (if m < a.ρ.length then .nx (((a.ρ.set i (.dt e.D)).set j (.dt eb.D)).set m (.cn true l)) W3 else .bad) := h
          split at h3
          · rename_i hjl
            have stp : Stp a.O Hb (OU a.O p') H2 := Est.stpO (a := a.to Hb) st2 eb1 hn
            have stb' : Stp a.O H1 a.O Hb := Est.stp (a := a.to H1) stb e1
            have r1' : Rp (OU a.O p') H2 v e.D := r1.stp (stb'.trans stp)
            have r2' : Rp (OU a.O p') H2 vb eb.D := rb.stp stp
            have I2 := ((e2.setOw m hjl np nw no hp al hb').set j (s := .dt eb.D) (o := some vb) r2' (fun _ _ z => nomatch z)).set i (s := .dt e.D) (o := some v) r1' (fun _ _ z => nomatch z)
            have er : (((a.ρ.set m (.cn true l)).set j (.dt eb.D)).set i (.dt e.D)) = ((a.ρ.set i (.dt e.D)).set j (.dt eb.D)).set m (.cn true l) := by
              rw [List.set_comm (l := (a.ρ.set m (.cn true l))) _ _ (Ne.symm hij), List.set_comm (l := a.ρ) _ _ (Ne.symm him), List.set_comm _ _ (Ne.symm hjm)]
            have es : (((a.σ.set m (some (.ref p'))).set j (some vb)).set i (some v)) = ((a.σ.set i (some v)).set j (some vb)).set m (some (.ref p')) := by
              rw [List.set_comm (l := (a.σ.set m (some (.ref p')))) _ _ (Ne.symm hij), List.set_comm (l := a.σ) _ _ (Ne.symm him), List.set_comm _ _ (Ne.symm hjm)]
            have I3 : (⟨a.b, OU a.O p', a.wa, ((a.ρ.set i (.dt e.D)).set j (.dt eb.D)).set m (.cn true l), ((a.σ.set i (some v)).set j (some vb)).set m (some (.ref p')), H2, a.hw⟩ : At).Er W3 := ⟨er ▸ es ▸ I2, e2'.2⟩
            exact h3 ⟨a.b, OU a.O p', a.wa, ((a.ρ.set i (.dt e.D)).set j (.dt eb.D)).set m (.cn true l), ((a.σ.set i (some v)).set j (some vb)).set m (some (.ref p')), H2, a.hw⟩ ⟨rfl, ((st.stp I).trans stb').trans stp⟩ rfl I3
          · exact absurd h3 id
end
section
variable {i j m : Nat} {f g k : FE} {ρ : List Sl} {W : Option Well}
@[simp] theorem v_parO3 : sParO3 i j m f g k ρ W = (match f ρ W with
  | .ok e W1 => (match g ρ W1 with
    | .ok e2 W2 => (match k ρ W2 with
      | .ok (.f l) W3 => if m < ρ.length then .nx (((ρ.set i (.dt e.D)).set j (.dt e2.D)).set m (.cn true l)) W3 else .bad
      | .exc c W3 => .exc c ρ W3
      | _ => .bad)
    | .exc c W2 => .exc c ρ W2
    | .bad => .bad)
  | .exc c W1 => .exc c ρ W1
  | .bad => .bad) := nr rfl
end
/-! ### list(x), x an own list -/
def eCopyO (i : Nat) : FE := fun ρ W => match ρ[i]? with | some (.cn true l) => .ok (.f l) W | _ => .bad
theorem se_copyO {C : Cd} {i : Nat} {x : Str} {p px pos : Pos} (hN : C.N[i]? = some x) (hv : Vis C.sc x) (hg : C.G "list") (hm : C.mg "list" = none) (hb : bootBuiltins "list" = some (.type "list") := by decide +kernel)
    (hd : (x == ("__debug__" : Str)) = false := by decide) (hcd : (x == ("__classdict__" : Str)) = false := by decide) (hn : ("list" : Str) ≠ ("__name__" : Str) := by decide) (hd2 : (("list" : Str) == ("__debug__" : Str)) = false := by decide)
    (he : ∀ env, starEach [.Name x px] env = (false, eval (.Name x px) env) :: starEach [] env := by intro _; rfl) (hpl : ∀ env, (backTo pos (starEach [] env)).any (·.1) = false := by intro _; rfl) : SE C (.Call (.Name "list" p) [.Name x px] [] pos) (eCopyO i) := by
  refine ⟨_, fun X h => pe_callTy (r := fun xs H Q => ∃ p ys, xs = [.ref p] ∧ (SqL fK H p ys ∨ SqT fK H p ys) ∧ ∀ l, H l = none → Q (.ref l) (upd H l (.lst ys))) (by rw [← C.hK X h]; exact call_list_of) (C.gl h hg) (by rw [C.hmg X h]; exact hm) hb
    (pa_cons (pe_var (by rw [C.hN X h]; exact hN) (by rw [C.hsc X h]; exact hv) hd hcd) pa_nil (he _)) hn hd2 (he _) (hpl _), fun a W Q I h => ?_⟩
  unfold eCopyO at h
  split at h
  · rename_i l e
    obtain ⟨o, h1, h2⟩ := I.1.sl i _ e
    cases o with
    | none => exact absurd h2 id
    | some v =>
      obtain ⟨p, us, rfl, op, hp, al, h0⟩ := h2
      exact ⟨.ref p, h1, p, us, rfl, .inl (.inl (.inl hp)), wP.new (wE.wp I h) al⟩
  · exact absurd h id
@[simp] theorem v_copyO {i : Nat} {ρ : List Sl} {W : Option Well} {l : List Dt} (h : ρ[i]? = some (.cn true l)) : eCopyO i ρ W = .ok (.f l) W := by
  unfold eCopyO
  rw [h] <;> rfl
end Lw
set_option Elab.async false
set_option linter.all false
set_option maxRecDepth 100000
set_option maxHeartbeats 2000000
set_option autoImplicit false
/-! # two own lists and a value, in one statement -/
namespace Lw
open PySem PySem.Spec PyProof.Rows L2
variable [KI : FragI]
section
variable {C : Cd}
/-- x, y, z = [], [], e -/
def sParOO (i j m : Nat) (k : FE) : FS := fun ρ W => if i < ρ.length ∧ j < ρ.length then match k ρ W with
    | .ok e W1 => .nx (((ρ.set i (.cn true [])).set j (.cn true [])).set m (.dt e.D)) W1
    | .exc c W1 => .exc c ρ W1
    | .bad => .bad
  else .bad
theorem ss_parOO {i j m : Nat} {x y z : Str} {c : Expr} {k : FE} {px py pz pt pos pa pb : Pos} {kt k2 pt2} (hi : C.N[i]? = some x) (hj : C.N[j]? = some y) (hm : C.N[m]? = some z) (hij : i ≠ j) (him : i ≠ m) (hjm : j ≠ m)
    (hx : C.sc.names.lookup x = some .local) (hy : C.sc.names.lookup y = some .local) (hz : C.sc.names.lookup z = some .local) (hc : SE C c k)
    (hw : ∀ X, C.P X → swappedStores [.Tuple [.Name x px, .Name y py, .Name z pz] kt pt] (.Tuple [.List [] pa, .List [] pb, c] k2 pt2) X.env = pure (some [x, y, z])) (hs : ∀ X, C.P X → swapsWithSole [.Tuple [.Name x px, .Name y py, .Name z pz] kt pt] (.Tuple [.List [] pa, .List [] pb, c] k2 pt2) pos.line X.env = pure false := by intro _ _; rfl)
    (h1 : ∀ env, starEach [.List [] pa, .List [] pb, c] env = (false, eval (.List [] pa) env) :: starEach [.List [] pb, c] env := by intro _; rfl) (h2 : ∀ env, starEach [.List [] pb, c] env = (false, eval (.List [] pb) env) :: starEach [c] env := by intro _; rfl) (h3 : ∀ env, starEach [c] env = (false, eval c env) :: starEach [] env := by intro _; rfl) (hcm : C.cm = true := by rfl) :
    SS C (.Assign [.Tuple [.Name x px, .Name y py, .Name z pz] kt pt] (.Tuple [.List [] pa, .List [] pb, c] k2 pt2) pos) (sParOO i j m k) := by
  obtain ⟨t3, p3, s3⟩ := hc
  refine ⟨_, fun X h => ps_par3 (C.calmC hcm X h) (by rw [C.hN X h]; exact C.nd) (by rw [C.hN X h]; exact hi) (by rw [C.hN X h]; exact hj) (by rw [C.hN X h]; exact hm) hij him hjm (by rw [C.hsc X h]; exact hx) (by rw [C.hsc X h]; exact hy) (by rw [C.hsc X h]; exact hz) (pa_cons (pe_lst pa_nil) (pa_cons (pe_lst pa_nil) (pa_cons (p3 X h) pa_nil (h3 _)) (h2 _)) (h1 _)) (hw X h) (hs X h), fun a W Dn hmk I h => ?_⟩
  refine ⟨Nat.zero_le _, fun p hp => ⟨Nat.zero_le _, fun p' hp' => ?_⟩⟩
  have hne : p ≠ p' := fun e => by rw [← e, upd_same] at hp'; cases hp'
  have sm1 := same_upd (o := HO.lst []) hp
  have sm2 := same_upd (o := HO.lst []) hp'
  have sm := sm1.trans sm2
  unfold sParOO at h
  split at h
  · rename_i hlt
    have np : ¬ a.O p := fun op => I.1.al p op hp
    have hp0 : a.H p' = none := by
      cases q : a.H p' with
      | none => rfl
      | some o => have := sm1 p' o q; rw [hp'] at this; cases this
    have np' : ¬ OU a.O p p' := fun z => z.elim (fun op => I.1.al p' op hp0) fun e => hne e.symm
    have npp : ¬ OU a.O p' p := fun z => z.elim np fun e => hne e
    have comm : OU (OU a.O p) p' = OU (OU a.O p') p := by
      funext x
      exact propext ⟨fun z => z.elim (fun z => z.elim (fun z => .inl (.inl z)) fun z => .inr z) fun z => .inl (.inr z), fun z => z.elim (fun z => z.elim (fun z => .inl (.inl z)) fun z => .inr z) fun z => .inl (.inr z)⟩
    have noW : ∀ q, a.H q = none → a.hw = true → q ≠ a.wa := fun q hq hw e => by
      obtain ⟨w, ew⟩ := Option.isSome_iff_exists.mp (I.2.trans hw)
      have := (I.1.wl w ew).2
      rw [← e, hq] at this
      cases this
    have hb : a.b.H p = none := I.1.base_none hp
    have hb' : a.b.H p' = none := I.1.base_none hp0
    have EA := (I.1.own sm1 hp upd_same).own sm2 hp' upd_same
    have nos : ∀ q, a.H q = none → ∀ {c : Bool} (j : Nat) (l : List Dt), a.ρ[j]? = some (.cn c l) → a.σ[j]? ≠ some (some (.ref q)) := fun q hq {c} j l e1 e2 => by
      obtain ⟨o, h1, h2⟩ := I.1.sl j _ e1
      rw [e2] at h1
      cases h1
      obtain ⟨r, us, er, _, hr, _⟩ := h2
      cases er
      obtain ⟨_, hr⟩ := hr.some
      rw [hq] at hr
      cases hr
    have st0 : Stp a.O a.H (OU (OU a.O p) p') (upd (upd a.H p (.lst [])) p' (.lst [])) := fun x o n e => ⟨fun z => z.elim (fun z => z.elim n (fun z => by rw [z, hp] at e; cases e)) (fun z => by rw [z, hp0] at e; cases e), sm2 x o (sm1 x o e)⟩
    refine s3 ⟨a.b, OU (OU a.O p) p', a.wa, a.ρ, a.σ, upd (upd a.H p (.lst [])) p' (.lst []), a.hw⟩ W _ ⟨EA, I.2⟩ ?_
    show wE C.Wx C.ca ⟨a.b, OU (OU a.O p) p', a.wa, a.ρ, a.σ, upd (upd a.H p (.lst [])) p' (.lst []), a.hw⟩ _ (k a.ρ W)
    have I2 : (⟨a.b, OU (OU a.O p) p', a.wa, a.ρ, a.σ, upd (upd a.H p (.lst [])) p' (.lst []), a.hw⟩ : At).Er W := ⟨EA, I.2⟩
    revert h
    cases k a.ρ W with
    | bad => exact id
    | exc c W1 => exact fun h H' e1 st => h ⟨a.b, OU (OU a.O p) p', a.wa, a.ρ, a.σ, H', a.hw⟩ ⟨rfl, st0.trans (Est.stp (a := ⟨a.b, OU (OU a.O p) p', a.wa, a.ρ, a.σ, upd (upd a.H p (.lst [])) p' (.lst []), a.hw⟩) st I2)⟩ rfl e1
    | ok e W1 =>
      intro h
      refine wE.weak fun v H3 e3 st3 r3 => ?_
      refine ⟨.ref p, .ref p', v, rfl, ?_⟩
      have h3 : wS C.Wx C.ca a Dn (.nx (((a.ρ.set i (.cn true [])).set j (.cn true [])).set m (.dt e.D)) W1) := h
      have hq2 : upd (upd a.H p (.lst [])) p' (.lst []) p = some (.lst []) := sm2 p _ upd_same
      have hq1 : H3 p = some (.lst []) := st3 p _ (fun hw => noW p hp hw) hq2
      have hq3 : H3 p' = some (.lst []) := st3 p' _ (fun hw => noW p' hp0 hw) upd_same
      have nw : ∀ q, a.H q = none → q ≠ a.wa ∨ W1 = none := fun q hq => by
        cases ew : W1 with
        | none => exact .inr rfl
        | some w => exact .inl (noW q hq (by have := e3.2; rw [ew] at this; exact this.symm))
      have E1 := ER.setOw (O := OU a.O p) (p := p') e3.1 j hlt.2 np' (nw p' hp0) (nos p' hp0) hq3 .nil hb'
      have E1' : ER a.b (OU (OU a.O p') p) a.wa W1 (a.ρ.set j (.cn true [])) (a.σ.set j (some (.ref p'))) H3 := comm ▸ E1
      have E2 := ER.setOw (O := OU a.O p') (p := p) E1' i (by rw [List.length_set]; exact hlt.1) npp (nw p hp) (fun jj l e1 e2 => by
        by_cases hj2 : j = jj
        · subst hj2
          have hlj : j < a.σ.length := by rw [I.1.len]; exact hlt.2
          rw [List.getElem?_set_self hlj] at e2
          cases e2
          exact hne rfl
        · rw [List.getElem?_set_ne hj2] at e1 e2
          exact nos p hp jj l e1 e2) hq1 .nil hb
      have r3' : Rp (OU (OU a.O p') p) H3 v e.D := comm ▸ r3
      have E3 := E2.set m (s := .dt e.D) (o := some v) r3' (fun _ _ z => nomatch z)
      rw [List.set_comm (l := a.ρ) _ _ (Ne.symm hij), List.set_comm (l := a.σ) _ _ (Ne.symm hij)] at E3
      exact h3 ⟨a.b, OU (OU a.O p') p, a.wa, _, _, H3, a.hw⟩ ⟨rfl, comm ▸ st0.trans (Est.stp (a := ⟨a.b, OU (OU a.O p) p', a.wa, a.ρ, a.σ, upd (upd a.H p (.lst [])) p' (.lst []), a.hw⟩) st3 I2)⟩ rfl ⟨E3, e3.2⟩
  · exact absurd h id
end
section
variable {i j m : Nat} {k : FE} {ρ : List Sl} {W : Option Well}
@[simp] theorem v_parOO : sParOO i j m k ρ W = (if i < ρ.length ∧ j < ρ.length then match k ρ W with
    | .ok e W1 => .nx (((ρ.set i (.cn true [])).set j (.cn true [])).set m (.dt e.D)) W1
    | .exc c W1 => .exc c ρ W1
    | .bad => .bad
  else .bad) := nr rfl
end
end Lw
set_option Elab.async false
set_option linter.all false
set_option maxRecDepth 100000
set_option maxHeartbeats 2000000
set_option autoImplicit false
/-! # is True of any data, x += e, constants that are tuples, break, continue and for .. else -/
namespace Lw
open PySem PySem.Spec PyProof.Rows L2
variable [KI : FragI]
/-! ### is True, is not False, of any data -/
def rIsX (neg : Bool) : R2 := fun x y H Q => ∃ b : Bool, y = .bl b ∧ (∀ c, x ≠ .ty c) ∧ Q (.bl (neg != decide (x = .bl b))) H
theorem neq {v : Value} {b : Bool} {x : V} (h : v ≠ Value.bool b) (h' : x ≠ .bl b) : (v == Value.bool b) = decide (x = .bl b) := by
  rw [beq_eq_false_iff_ne.mpr h, decide_eq_false h']
theorem relV_bl {x : V} {v : Value} {b : Bool} (r : RelV x v) (nt : ∀ c, x ≠ .ty c) : plainIs v (.bool b) = true ∧ ((v == Value.bool b) = decide (x = .bl b)) := by
  cases x with
  | non => cases (show v = Value.none from r); exact ⟨rfl, by simp⟩
  | bl a =>
    cases (show v = Value.bool a from r)
    refine ⟨rfl, ?_⟩
    by_cases e : a = b
    · subst e; simp
    · have : (Value.bool a == Value.bool b) = false := beq_eq_false_iff_ne.mpr fun z => e (Value.bool.inj z)
      rw [this]
      simp [e]
  | int i => obtain ⟨t, rfl⟩ := r; exact ⟨rfl, neq (fun z => by cases z) (fun z => by cases z)⟩
  | str i => obtain ⟨t, rfl⟩ := r; exact ⟨rfl, neq (fun z => by cases z) (fun z => by cases z)⟩
  | byt i => obtain ⟨t, rfl⟩ := r; exact ⟨rfl, neq (fun z => by cases z) (fun z => by cases z)⟩
  | flt i => obtain ⟨t, rfl⟩ := r; exact ⟨rfl, neq (fun z => by cases z) (fun z => by cases z)⟩
  | ref a => cases (show v = Value.ref a from r); exact ⟨rfl, neq (fun z => by cases z) (fun z => by cases z)⟩
  | ty n => exact absurd rfl (nt n)
theorem op_isX {X : Cx} : OpR X (compareOp .Is) (rIsX false) := by
  intro pins s σ H x y v u Q I rx ry h
  obtain ⟨b, rfl, nt, q⟩ := h
  cases (show u = Value.bool b from ry)
  obtain ⟨h1, h2⟩ := relV_bl (b := b) rx nt
  refine wpAny_is_plain h1 ⟨_, H, I, ?_, q⟩
  rw [h2]
  cases decide (x = .bl b) <;> rfl
theorem op_isnX {X : Cx} : OpR X (compareOp .IsNot) (rIsX true) := by
  intro pins s σ H x y v u Q I rx ry h
  obtain ⟨b, rfl, nt, q⟩ := h
  cases (show u = Value.bool b from ry)
  obtain ⟨h1, h2⟩ := relV_bl (b := b) rx nt
  refine wpAny_isNot_plain h1 ⟨_, H, I, ?_, q⟩
  rw [h2]
  cases decide (x = .bl b) <;> rfl
/-- is data this truth? -/
def isB (b : Bool) : D → Bool
  | .bool a => decide (a = b)
  | _ => false
theorem Rp.isB {O : Own} {H : Hp} {v : V} {d : D} {b : Bool} (r : Rp O H v d) : decide (v = .bl b) = Lw.isB b d ∧ ∀ c, v ≠ .ty c := by cases r <;> simp [Lw.isB]
def gIsX : G2 := fun x y => match y with | .bool b => some (.d (.bool (isB b x))) | _ => none
def gIsnX : G2 := fun x y => match y with | .bool b => some (.d (.bool (!isB b x))) | _ => none
theorem pure_isX : Pure2 (rIsX false) gIsX := fun O H x y dx dy Q ho rx ry w => by
  cases ry with
  | bl j =>
    obtain ⟨h1, h2⟩ := rx.isB (b := j)
    refine ⟨j, rfl, h2, ?_⟩
    rw [h1]
    have w' : wP O H Q (some (.d (.bool (isB j dx)))) := w
    have e : (false != isB j dx) = isB j dx := by cases isB j dx <;> rfl
    rw [e]
    exact w'.val (.bl _)
  | _ => exact absurd w id
theorem pure_isnX : Pure2 (rIsX true) gIsnX := fun O H x y dx dy Q ho rx ry w => by
  cases ry with
  | bl j =>
    obtain ⟨h1, h2⟩ := rx.isB (b := j)
    refine ⟨j, rfl, h2, ?_⟩
    rw [h1]
    have w' : wP O H Q (some (.d (.bool (!isB j dx)))) := w
    have e : (true != isB j dx) = !isB j dx := by cases isB j dx <;> rfl
    rw [e]
    exact w'.val (.bl _)
  | _ => exact absurd w id
section
variable {C : Cd} {a b : Expr} {pos : Pos} {fa fb : FE}
theorem sc_isX (ha : SE C a fa) (hb : SE C b fb) : SC C (.Compare a [.Is] [b] pos) (eBin gIsX fa fb) := sc_cmp (fun _ _ => op_isX) pure_isX ha hb (nomark _)
theorem sc_isnX (ha : SE C a fa) (hb : SE C b fb) : SC C (.Compare a [.IsNot] [b] pos) (eBin gIsnX fa fb) := sc_cmp (fun _ _ => op_isnX) pure_isnX ha hb (nomark _)
end
@[simp] theorem v_gisX {d : D} {b : Bool} : gIsX d (.bool b) = some (.d (.bool (isB b d))) := nr rfl
@[simp] theorem v_gisnX {d : D} {b : Bool} : gIsnX d (.bool b) = some (.d (.bool (!isB b d))) := nr rfl
@[simp] theorem isB_int {b : Bool} {i : Int} : isB b (.int i) = false := rfl
@[simp] theorem isB_none {b : Bool} : isB b .none = false := rfl
@[simp] theorem isB_str {b : Bool} {i : Str} : isB b (.str i) = false := rfl
@[simp] theorem isB_tup {b : Bool} {i : List D} : isB b (.tuple i) = false := rfl
@[simp] theorem isB_lst {b : Bool} {i : List D} : isB b (.list i) = false := rfl
@[simp] theorem isB_bool {a b : Bool} : isB b (.bool a) = decide (a = b) := rfl

/-! ### x += e, x -= e, of a local that is an int -/
def sAugI (g : Int → Int → Int) (i : Nat) (f : FE) : FS := fun ρ W => match ρ[i]? with
  | some (.dt (.int a)) => (f ρ W).toS ρ fun e W1 => match e.D with | .int b => .nx (ρ.set i (.dt (.int (g a b)))) W1 | _ => .bad
  | _ => .bad
section
variable {C : Cd}
theorem ss_augI {op : Operator} {g : Int → Int → Int} (ho : ∀ X : Cx, PIp X op (ipI g)) {i : Nat} {x : Str} {e : Expr} {f : FE} {pos pos' : Pos} (hi : C.N[i]? = some x) (hx : Loc C.sc x) (hf : C.fn x = true ∨ C.sc.names.lookup x = some .local) (he : SE C e f) :
    SS C (.AugAssign (.Name x pos') op e pos) (sAugI g i f) := by
  obtain ⟨t, p, s⟩ := he
  refine ⟨tAug i t (ipI g), fun X h => ps_aug (by rw [C.hN X h]; exact C.nd) (by rw [C.hN X h]; exact hi) (by rw [C.hsc X h]; exact hx) (p X h) (ho X) (by rw [C.hfn X h, C.hsc X h]; exact hf), fun a W D hm I h => ?_⟩
  unfold sAugI at h
  split at h
  · rename_i z ez
    obtain ⟨o, h1, h2⟩ := I.1.sl i _ ez
    cases o with
    | none => exact absurd h2 id
    | some v =>
      have h2' : Rp a.O a.H v (.int z) := h2
      cases h2'
      refine ⟨_, h1, ?_⟩
      refine s.thenS I h fun e W1 v H1 e1 st r h3 => ?_
      split at h3
      · rename_i zb eb
        rw [eb] at r
        cases r
        refine ⟨z, zb, rfl, rfl, ?_⟩
        exact h3.nxt (σ' := a.σ.set i (some (.int (g z zb)))) (O' := a.O) Stp.refl ⟨e1.1.set i (s := .dt (.int (g z zb))) (.int _) (fun _ _ z => nomatch z), e1.2⟩
      · exact absurd h3 id
  · exact absurd h id
end
@[simp] theorem v_aug {g : Int → Int → Int} {i : Nat} {f : FE} {ρ : List Sl} {W : Option Well} {a : Int} (h : ρ[i]? = some (.dt (.int a))) : sAugI g i f ρ W = (f ρ W).toS ρ fun e W1 => match e.D with | .int b => .nx (ρ.set i (.dt (.int (g a b)))) W1 | _ => .bad := by
  unfold sAugI; rw [h] <;> rfl

/-! ### constants that are tuples of texts and ints -/
inductive KFl : List V → List D → Prop
  | nil : KFl [] []
  | int {i : Int} {vs : List V} {ds : List D} : KFl vs ds → KFl (.int i :: vs) (.int i :: ds)
  | str {i : Str} {vs : List V} {ds : List D} : KFl vs ds → KFl (.str i :: vs) (.str i :: ds)
theorem KFl.rp {O : Own} {H : Hp} : ∀ {vs : List V} {ds : List D}, KFl vs ds → RpA O H vs ds
  | _, _, .nil => .nil
  | _, _, .int t => .cons (.int _) (KFl.rp t)
  | _, _, .str t => .cons (.str _) (KFl.rp t)
/-- what stands in the module under a name: a tuple of flat data -/
def KCon (mg : Str → Option Value) (x : Str) (ds : List D) : Prop := ∃ a vs, mg x = some (.ref a) ∧ KTup a vs ∧ KFl vs ds
theorem se_constT {C : Cd} {x : Str} {ds : List D} {pos : Pos} (hg : C.G x) (h : KCon C.mg x ds) (hd : (x == ("__debug__" : Str)) = false := by decide) : SE C (.Name x pos) (eC (.tuple ds)) := by
  obtain ⟨a, vs, hm, ht, hf⟩ := h
  exact ⟨_, fun X h => pe_glob (C.gl h hg) (by rw [C.hmg X h]; exact hm) (v := .ref a) rfl hd, fun _ W Q I h => wE.now I (.tup (.inr ht) hf.rp) h⟩

/-! ### blocks with break and continue -/
def wSb (Wx : WX) (ca : Nat → Addr) (a : At) (D : Ends) : Out → Prop
  | .bk ρ' W' => ∀ a' : At, Aft a a' → a'.ρ = ρ' → a'.Er W' → D.bk a'.σ a'.H
  | .ct ρ' W' => ∀ a' : At, Aft a a' → a'.ρ = ρ' → a'.Er W' → D.ct a'.σ a'.H
  | o => wS Wx ca a D o
def SndB (Wx : WX) (ca : Nat → Addr) (mk : Bool) (t : TS) (f : FS) : Prop := ∀ (a : At) (W : Option Well) (D : Ends), a.b.mkw = mk → a.Er W → wSb Wx ca a D (f a.ρ W) → t D a.σ a.H
def SSb (C : Cd) (st : Stmt) (f : FS) : Prop := ∃ t, (∀ X, C.P X → PS X st t) ∧ SndB C.Wx C.ca C.mkw t f
def SBb (C : Cd) (sts : List Stmt) (f : FS) : Prop := ∃ t, (∀ X, C.P X → PSs X sts t) ∧ SndB C.Wx C.ca C.mkw t f
def Out.nb (o : Out) : Out := match o with | .bk _ _ => .bad | .ct _ _ => .bad | o => o
def nbS (f : FS) : FS := fun ρ W => (f ρ W).nb
def Out.sq (o : Out) (k : FS) : Out := match o with | .nx ρ W => k ρ W | o => o
def sSeqB (f g : FS) : FS := fun ρ W => (f ρ W).sq g
def sBk : FS := fun ρ W => .bk ρ W
def sCt : FS := fun ρ W => .ct ρ W
section
variable {C : Cd} {Wx : WX} {ca : Nat → Addr}
theorem wSb.nb {a : At} {D : Ends} {o : Out} (h : wSb Wx ca a D o.nb) : wS Wx ca a D o := by
  cases o with
  | bk _ _ => exact absurd h id
  | ct _ _ => exact absurd h id
  | bad => exact h
  | nx _ _ => exact h
  | exc _ _ _ => exact h
  | rt _ _ => exact h
theorem wSb.later {a a' : At} {D : Ends} {o : Out} (x : Aft a a') (h : wSb Wx ca a D o) : wSb Wx ca a' D o := by
  cases o with
  | bk ρ W => exact fun b y => h b (x.trans y)
  | ct ρ W => exact fun b y => h b (x.trans y)
  | bad => exact h
  | nx ρ W => exact wS.later (Wx := Wx) (ca := ca) (D := D) (o := .nx ρ W) x h
  | exc c ρ W => exact wS.later (Wx := Wx) (ca := ca) (D := D) (o := .exc c ρ W) x h
  | rt e W => exact wS.later (Wx := Wx) (ca := ca) (D := D) (o := .rt e W) x h
theorem ssb_of {st : Stmt} {f : FS} (h : SS C st f) : SSb C st (nbS f) := by
  obtain ⟨t, p, s⟩ := h
  exact ⟨t, p, fun a W D hm I h => s a W D hm I (wSb.nb h)⟩
theorem ssb_break {pos : Pos} : SSb C (.Break pos) sBk := ⟨_, fun _ _ => ps_break, fun a W D hm I h => h a Aft.refl rfl I⟩
theorem ssb_cont {pos : Pos} : SSb C (.Continue pos) sCt := ⟨_, fun _ _ => ps_continue, fun a W D hm I h => h a Aft.refl rfl I⟩
theorem sbb_nil : SBb C [] sSkip := ⟨_, fun _ _ => pss_nil, fun a W D hm I h => h a Aft.refl rfl I⟩
theorem sbb_one {st : Stmt} {f : FS} (h1 : SSb C st f) : SBb C [st] f := by
  obtain ⟨t, p, s⟩ := h1
  exact ⟨_, fun X h => pss_one (p X h), s⟩
theorem sbb_cons {st : Stmt} {rest : List Stmt} {f g : FS} (h1 : SSb C st f) (h2 : SBb C rest g) : SBb C (st :: rest) (sSeqB f g) := by
  obtain ⟨t, p, s⟩ := h1
  obtain ⟨u, q, z⟩ := h2
  refine ⟨_, fun X h => pss_cons (p X h) (q X h), fun a W D hm I h => ?_⟩
  refine s a W { D with nx := u D } hm I ?_
  unfold sSeqB at h
  cases e : f a.ρ W with
  | bk ρ W => rw [e] at h; exact h
  | ct ρ W => rw [e] at h; exact h
  | bad => rw [e] at h; exact h
  | exc c ρ W => rw [e] at h; exact h
  | rt ev W =>
    rw [e] at h
    cases ev with
    | d x => exact h
    | f l => exact h
  | nx ρ W1 =>
    rw [e] at h
    intro a' x e' i
    subst e'
    exact z a' W1 D (by rw [x.b]; exact hm) i (wSb.later (o := g a'.ρ W1) x h)
theorem RT.toSb {t : TT} {f : FT} (s : SndT Wx ca t f) {a : At} {W : Option Well} (I : a.Er W) {D : Ends} {Q' : Bool → Hp → Prop} {k : Bool → Option Well → Out} (h : wSb Wx ca a D ((f a.ρ W).toS a.ρ k))
    (hx : ∀ c W1, f a.ρ W = .exc c W1 → wS Wx ca a D (.exc c a.ρ W1) → ∀ H', (a.to H').Er W1 → Est a.wa a.hw a.H H' → Wx (.ref (ca c)) none a.σ H')
    (hok : ∀ (c : Bool) (W1 : Option Well) H1, (a.to H1).Er W1 → Est a.wa a.hw a.H H1 → wSb Wx ca (a.to H1) D (k c W1) → Q' c H1) : t a.σ a.H Q' := by
  refine s a W Q' I ?_
  cases e : f a.ρ W with
  | bad => rw [e] at h; exact h
  | exc c W1 => rw [e] at h; exact hx c W1 e h
  | ok b W1 => rw [e] at h; exact fun H1 e1 st => hok b W1 H1 e1 st (wSb.later (o := k b W1) (Aft.est I st) h)
theorem ssb_if {c : Expr} {x y : List Stmt} {pos : Pos} {t : FT} {f g : FS} (hc : ST C c t) (hx : SBb C x f) (hy : SBb C y g) : SSb C (.If c x y pos) (sIf t f g) := by
  obtain ⟨t1, p, s⟩ := hc
  obtain ⟨t2, p2, s2⟩ := hx
  obtain ⟨t3, p3, s3⟩ := hy
  refine ⟨_, fun X h => ps_if (p X h) (p2 X h) (p3 X h), fun a W D hm I h => ?_⟩
  refine RT.toSb s I h (fun c W1 _ h H' e1 st => h (a.to H') (Aft.est I st) rfl e1) fun c W1 H1 e1 st h1 => ?_
  cases c with
  | true => exact s2 (a.to H1) W1 D hm e1 h1
  | false => exact s3 (a.to H1) W1 D hm e1 h1
theorem sbb_rel {sts : List Stmt} {f : FS} (i : Nat) (h : SBb C sts f) : SBb C sts (sRel i f) := by
  obtain ⟨t, p, s⟩ := h
  refine ⟨t, p, fun a W Dn hm I h => ?_⟩
  unfold sRel relS1 at h
  split at h
  · rename_i l hl
    obtain ⟨O', I', st⟩ := I.1.let hl
    exact s ⟨a.b, O', a.wa, a.ρ.set i (.dt (.list l)), a.σ, a.H, a.hw⟩ W Dn hm ⟨I', I.2⟩ (wSb.later (a := a) (a' := ⟨a.b, O', a.wa, a.ρ.set i (.dt (.list l)), a.σ, a.H, a.hw⟩) ⟨rfl, st⟩ h)
  · exact s a W Dn hm I h
/-- a loop: behind its end (nx), or broken out of (bk) -/
def forB (g : FG) (f : FS) : List Dt → FS
  | [] => fun ρ W => .nx ρ W
  | d :: r => fun ρ W => match g d ρ with
    | some ρ1 => (match f ρ1 W with | .nx ρ2 W2 => forB g f r ρ2 W2 | .ct ρ2 W2 => forB g f r ρ2 W2 | o => o)
    | none => .bad
/-- behind a loop -/
def Out.els (o : Out) (k : FS) : Out := match o with | .nx ρ W => k ρ W | .bk ρ W => .nx ρ W | .ct _ _ => .bad | o => o
def sForB (fi : FI) (g : FG) (f fe : FS) : FS := fun ρ W => match fi ρ W with
  | .ok l W1 => (forB g f l ρ W1).els fe
  | .exc c W1 => .exc c ρ W1
  | .bad => .bad
theorem snd_forB {mk : Bool} {wi : TI} {g : TG} {tb te : TS} {fi : FI} {fg : FG} {f fe : FS} {ix : List Nat} (si : SndI Wx ca wi fi) (sg : SndG g fg ix) (sb : SndB Wx ca mk tb f) (se : SndS Wx ca mk te fe) : SndS Wx ca mk (tForE wi g tb te) (sForB fi fg f fe) := fun a W Dn hm I h => by
  refine si a W _ I ?_
  unfold sForB at h
  cases ei : fi a.ρ W with
  | bad => rw [ei] at h; exact h
  | exc c W1 => rw [ei] at h; exact fun H' e1 st => h (a.to H') (Aft.est I st) rfl e1
  | ok items W1 =>
    rw [ei] at h
    dsimp only at h
    intro J H1 I1 st1 wk
    obtain ⟨G, Y, wlk, hG, hY⟩ := wk
    let Pv : Nat → L2.St → Hp → Prop := fun i σ H => i ≤ items.length ∧ ∃ (a' : At) (Wi : Option Well), Aft (a.to H1) a' ∧ a'.σ = σ ∧ a'.H = H ∧ a'.Er Wi ∧ wS Wx ca a' Dn ((forB fg f (items.drop i) a'.ρ Wi).els fe)
    refine ⟨fun i m σ H => m = items.length - i ∧ Pv i σ H, ⟨_, rfl, Nat.zero_le _, a.to H1, W1, Aft.refl, rfl, rfl, I1, wS.later (a' := a.to H1) (o := (forB fg f items a.ρ W1).els fe) (Aft.est I st1) h⟩, ?_⟩
    rintro i m σ H ⟨rfl, hle, a', Wi, af, rfl, rfl, I', hg⟩
    by_cases hi : i < items.length
    · refine .inr ⟨wlk.goes i a'.H hi (hG a'.O a'.H af.st), Pv (i + 1), fun σ' H' q => ⟨items.length - (i + 1), by omega, rfl, q⟩, fun x H' hy => ?_⟩
      obtain ⟨sm, d, hd, rd⟩ := hY i a'.H x H' a'.O hi af.st I'.1.al (wlk.yields i a'.H x H' hi (hG a'.O a'.H af.st) hy)
      have hdrop : items.drop i = d :: items.drop (i + 1) := by
        obtain ⟨hlt, e⟩ := List.getElem?_eq_some_iff.mp hd
        rw [List.drop_eq_getElem_cons hlt, e]
      rw [hdrop] at hg
      unfold forB at hg
      split at hg
      · rename_i ρ1 eg
        have I2 : (a'.to H').Er Wi := ⟨I'.1.same sm, I'.2⟩
        refine sg (a'.to H') Wi x d ρ1 _ I2 rd eg fun σ2 e2 _ _ => ?_
        have af3 : Aft a' ⟨a'.b, a'.O, a'.wa, ρ1, σ2, H', a'.hw⟩ := ⟨rfl, Stp.same sm⟩
        refine sb ⟨a'.b, a'.O, a'.wa, ρ1, σ2, H', a'.hw⟩ Wi _ (by show a'.b.mkw = mk; rw [af.b]; exact hm) e2 ?_
        have hg2 : wS Wx ca ⟨a'.b, a'.O, a'.wa, ρ1, σ2, H', a'.hw⟩ Dn (Out.els (match f ρ1 Wi with | .nx ρ2 W2 => forB fg f (items.drop (i + 1)) ρ2 W2 | .ct ρ2 W2 => forB fg f (items.drop (i + 1)) ρ2 W2 | o => o) fe) := wS.later (a := a') (a' := ⟨a'.b, a'.O, a'.wa, ρ1, σ2, H', a'.hw⟩) af3 hg
        show wSb Wx ca ⟨a'.b, a'.O, a'.wa, ρ1, σ2, H', a'.hw⟩ _ (f ρ1 Wi)
        cases eo : f ρ1 Wi with
        | bad => rw [eo] at hg2; exact hg2
        | exc c ρ2 W2 => rw [eo] at hg2; exact hg2
        | rt ev W2 =>
          rw [eo] at hg2
          cases ev with
          | d z => exact hg2
          | f l => exact hg2
        | bk ρ2 W2 => rw [eo] at hg2; exact hg2
        | nx ρ2 W2 =>
          rw [eo] at hg2
          intro a'' x'' e'' i''
          subst e''
          exact ⟨hi, a'', W2, (af.trans af3).trans x'', rfl, rfl, i'', wS.later (a' := a'') x'' hg2⟩
        | ct ρ2 W2 =>
          rw [eo] at hg2
          intro a'' x'' e'' i''
          subst e''
          exact ⟨hi, a'', W2, (af.trans af3).trans x'', rfl, rfl, i'', wS.later (a' := a'') x'' hg2⟩
      · exact absurd hg id
    · have hn : items.drop i = [] := List.drop_eq_nil_of_le (by omega)
      rw [hn] at hg
      have e : i = items.length := by omega
      refine .inl ⟨?_, se a' Wi Dn (by rw [af.b]; exact hm) I' hg⟩
      rw [e]
      exact wlk.stops a'.H (hG a'.O a'.H af.st)
theorem ss_forB {tg iter : Expr} {body orelse : List Stmt} {fi : FI} {fg : FG} {f fe : FS} {ix : List Nat} {pos : Pos} (hp : ∀ X, C.P X → PassesOwn (model X.prog X.w) X.A X.env X.xe) (hi : SI C tg iter fi) (hg : SG C tg fg ix) (hb : SBb C body f) (he : SB C orelse fe) (hs : ∀ env x, foldedSetIterable iter env x = pure x := by intro _ _; rfl) (hcm : C.cm = true := by rfl) :
    SS C (.For tg iter body orelse pos) (sForB fi fg f fe) := by
  obtain ⟨t1, p1, s1⟩ := hi
  obtain ⟨t2, p2, s2⟩ := hg
  obtain ⟨t3, p3, s3⟩ := hb
  obtain ⟨t4, p4, s4⟩ := he
  exact ⟨_, fun X h => ps_forE (hp X h) (C.calmC hcm X h) (p1 X h) (p2 X h) (p3 X h) (p4 X h) (hs _), snd_forB s1 s2 s3 s4⟩
/-- turns of a while, at most n, with break and continue -/
def whB (t : FT) (f : FS) : Nat → FS
  | 0 => fun _ _ => .bad
  | n + 1 => fun ρ W => (t ρ W).toS ρ fun k W1 => if k = true then (match f ρ W1 with | .nx ρ2 W2 => whB t f n ρ2 W2 | .ct ρ2 W2 => whB t f n ρ2 W2 | .bk ρ2 W2 => .nx ρ2 W2 | o => o) else .nx ρ W1
theorem snd_whB {mk : Bool} {tc : TT} {tb : TS} {ft : FT} {f : FS} (st : SndT Wx ca tc ft) (sb : SndB Wx ca mk tb f) (n : Nat) : SndS Wx ca mk (tWhile tc tb) (whB ft f n) := fun a W Dn hm I h => by
  refine ⟨fun m σ H => ∃ (a' : At) (Wi : Option Well), Aft a a' ∧ a'.σ = σ ∧ a'.H = H ∧ a'.Er Wi ∧ wS Wx ca a' Dn (whB ft f m a'.ρ Wi), ⟨n, a, W, Aft.refl, rfl, rfl, I, h⟩, ?_⟩
  rintro m σ H ⟨a', Wi, af, rfl, rfl, I', hg⟩
  cases m with
  | zero => exact absurd hg id
  | succ m =>
    refine st.thenS I' hg fun c W1 H1 e1 st1 h1 => ?_
    cases c with
    | true =>
      refine ⟨fun σ H => ∃ (a' : At) (Wi : Option Well), Aft a a' ∧ a'.σ = σ ∧ a'.H = H ∧ a'.Er Wi ∧ wS Wx ca a' Dn (whB ft f m a'.ρ Wi), fun σ' H' q => ⟨m, Nat.lt_succ_self m, q⟩, ?_⟩
      refine sb (a'.to H1) W1 _ (by show a'.b.mkw = mk; rw [af.b]; exact hm) e1 ?_
      have h2 : wS Wx ca (a'.to H1) Dn (match f a'.ρ W1 with | .nx ρ2 W2 => whB ft f m ρ2 W2 | .ct ρ2 W2 => whB ft f m ρ2 W2 | .bk ρ2 W2 => .nx ρ2 W2 | o => o) := h1
      show wSb Wx ca (a'.to H1) _ (f a'.ρ W1)
      cases eo : f a'.ρ W1 with
      | bad => rw [eo] at h2; exact h2
      | exc c ρ2 W2 => rw [eo] at h2; exact h2
      | rt ev W2 =>
        rw [eo] at h2
        cases ev with
        | d z => exact h2
        | f l => exact h2
      | bk ρ2 W2 => rw [eo] at h2; exact h2
      | nx ρ2 W2 =>
        rw [eo] at h2
        intro a'' x'' e'' i''
        subst e''
        exact ⟨a'', W2, (af.trans (Aft.est I' st1)).trans x'', rfl, rfl, i'', wS.later (a' := a'') x'' h2⟩
      | ct ρ2 W2 =>
        rw [eo] at h2
        intro a'' x'' e'' i''
        subst e''
        exact ⟨a'', W2, (af.trans (Aft.est I' st1)).trans x'', rfl, rfl, i'', wS.later (a' := a'') x'' h2⟩
    | false => exact h1 (a'.to H1) Aft.refl rfl e1
theorem ss_whileB {c : Expr} {body : List Stmt} {ft : FT} {f : FS} {pos : Pos} (n : Nat) (hp : ∀ X, C.P X → PassesOwn (model X.prog X.w) X.A X.env X.xe) (hc : ST C c ft) (hb : SBb C body f) : SS C (.While c body [] pos) (whB ft f n) := by
  obtain ⟨t1, p1, s1⟩ := hc
  obtain ⟨t3, p3, s3⟩ := hb
  exact ⟨_, fun X h => ps_while (hp X h) (p1 X h) (p3 X h), snd_whB s1 s3 n⟩
end
@[simp] theorem v_sbk {ρ : List Sl} {W : Option Well} : sBk ρ W = .bk ρ W := nr rfl
@[simp] theorem v_sct {ρ : List Sl} {W : Option Well} : sCt ρ W = .ct ρ W := nr rfl
@[simp] theorem v_seqB {f g : FS} {ρ : List Sl} {W : Option Well} : sSeqB f g ρ W = (f ρ W).sq g := nr rfl
@[simp] theorem v_nbS {f : FS} {ρ : List Sl} {W : Option Well} : nbS f ρ W = (f ρ W).nb := nr rfl
section
variable {ρ : List Sl} {W : Option Well} {e : Ev} {c : Nat} {k : FS}
@[simp] theorem v_nbN : (Out.nx ρ W).nb = .nx ρ W := nr rfl
@[simp] theorem v_nbR : (Out.rt e W).nb = .rt e W := nr rfl
@[simp] theorem v_nbX : (Out.exc c ρ W).nb = .exc c ρ W := nr rfl
@[simp] theorem v_sqN : (Out.nx ρ W).sq k = k ρ W := nr rfl
@[simp] theorem v_sqR : (Out.rt e W).sq k = .rt e W := nr rfl
@[simp] theorem v_sqX : (Out.exc c ρ W).sq k = .exc c ρ W := nr rfl
@[simp] theorem v_sqB : (Out.bk ρ W).sq k = .bk ρ W := nr rfl
@[simp] theorem v_sqC : (Out.ct ρ W).sq k = .ct ρ W := nr rfl
@[simp] theorem v_elN : (Out.nx ρ W).els k = k ρ W := nr rfl
@[simp] theorem v_elR : (Out.rt e W).els k = .rt e W := nr rfl
@[simp] theorem v_elX : (Out.exc c ρ W).els k = .exc c ρ W := nr rfl
@[simp] theorem v_elB : (Out.bk ρ W).els k = .nx ρ W := nr rfl
@[simp] theorem v_forB {fi : FI} {g : FG} {f fe : FS} : sForB fi g f fe ρ W = (match fi ρ W with | .ok l W1 => (forB g f l ρ W1).els fe | .exc c W1 => .exc c ρ W1 | .bad => .bad) := nr rfl
end
end Lw
set_option Elab.async false
set_option linter.all false
set_option maxRecDepth 100000
set_option maxHeartbeats 2000000
set_option autoImplicit false
/-! # own dicts, their keys tuples (nested): {}, k in d, d[k], d[k] = v, d.get(k, x), y = d.setdefault(k, x) -/
namespace Lw
open PySem PySem.Spec PyProof.Rows L2
variable [KI : FragI]
/-! ### keys -/
mutual
theorem nkD_depth : ∀ (n : Nat) (d : D) (k : NestedKey), nkD n d = some k → k.depth ≤ n
  | n, .none, k, h => by cases n <;> (unfold nkD at h; cases h; simp [NestedKey.depth])
  | n, .bool b, k, h => by cases n <;> (unfold nkD at h; cases h; simp [NestedKey.depth])
  | n, .int i, k, h => by cases n <;> (unfold nkD at h; cases h; simp [NestedKey.depth])
  | n, .str x, k, h => by cases n <;> (unfold nkD at h; cases h; simp [NestedKey.depth])
  | n, .list _, k, h => by cases n <;> (unfold nkD at h; cases h)
  | n, .dict _, k, h => by cases n <;> (unfold nkD at h; cases h)
  | 0, .tuple l, k, h => by unfold nkD at h; cases h
  | n + 1, .tuple l, k, h => by
    unfold nkD at h
    cases e : nkDs n l with
    | none => rw [e] at h; cases h
    | some ks =>
      rw [e] at h
      cases h
      have := nkDs_depth n l ks e
      simp only [NestedKey.depth]
      omega
theorem nkDs_depth : ∀ (n : Nat) (l : List D) (ks : List NestedKey), nkDs n l = some ks → NestedKey.depthAll ks ≤ n
  | n, [], ks, h => by unfold nkDs at h; cases h; simp [NestedKey.depthAll]
  | n, d :: r, ks, h => by
    unfold nkDs at h
    cases e1 : nkD n d with
    | none => rw [e1] at h; cases h
    | some k =>
      cases e2 : nkDs n r with
      | none => rw [e1, e2] at h; cases h
      | some ks2 =>
        rw [e1, e2] at h
        cases h
        have h1 := nkD_depth n d k e1
        have h2 := nkDs_depth n r ks2 e2
        simp only [NestedKey.depthAll]
        omega
end
section
variable {X : Cx} {pins : List (Addr × Obj)} {σ : L2.St} {H : Hp} {s : Shared} {O : Own}
mutual
theorem Rp.nested (I : Inv X pins σ H s) (hK : X.K = fK) : ∀ {v : V} {d : D} {u : Value} {n : Nat} {k : NestedKey}, Rp O H v d → RelV v u → nkD n d = some k → NestedIs s.heap k u
  | _, _, _, n, k, .non, r, h => by cases (show _ = Value.none from r); cases n <;> (unfold nkD at h; cases h; exact .none)
  | _, _, _, n, k, .bl b, r, h => by cases (show _ = Value.bool b from r); cases n <;> (unfold nkD at h; cases h; exact .bool rfl)
  | _, _, _, n, k, .int i, r, h => by obtain ⟨t, rfl⟩ := r; cases n <;> (unfold nkD at h; cases h; exact .int i t)
  | _, _, _, n, k, .str x, r, h => by obtain ⟨t, rfl⟩ := r; cases n <;> (unfold nkD at h; cases h; exact .text x t)
  | _, _, _, n, k, .lst _ _, r, h => by cases n <;> (unfold nkD at h; cases h)
  | _, _, _, 0, k, .tup _ _, r, h => by unfold nkD at h; cases h
  | _, _, _, n + 1, k, .tup (a := a) (ds := ds) ht al, r, h => by
    cases (show _ = Value.ref a from r)
    unfold nkD at h
    cases e : nkDs n ds with
    | none => rw [e] at h; cases h
    | some ks =>
      rw [e] at h
      cases h
      obtain ⟨its, rv, ⟨o, ho, hc, m, hd⟩, _⟩ := I.tuple (hK ▸ ht.sq)
      exact .tup ho hc hd (by simpa using RpA.nested I hK al rv e)
theorem RpA.nested (I : Inv X pins σ H s) (hK : X.K = fK) : ∀ {vs : List V} {ds : List D} {us : List Value} {n : Nat} {ks : List NestedKey}, RpA O H vs ds → Vals vs us → nkDs n ds = some ks → NestedAll s.heap ks us
  | _, _, _, n, ks, .nil, .nil, h => by unfold nkDs at h; cases h; exact .nil
  | _, _, _, n, ks, .cons (d := d) (ds := ds) r al, .cons r2 rr, h => by
    unfold nkDs at h
    cases e1 : nkD n d with
    | none => rw [e1] at h; cases h
    | some k =>
      cases e2 : nkDs n ds with
      | none => rw [e1, e2] at h; cases h
      | some ks2 =>
        rw [e1, e2] at h
        cases h
        exact .cons (Rp.nested I hK r r2 e1) (RpA.nested I hK al rr e2)
end
theorem Rp.key (I : Inv X pins σ H s) (hK : X.K = fK) {v : V} {d : D} {k : NestedKey} (r : Rp O H v d) (h : nkT d = some k) : ∃ a, v = .ref a ∧ (nestedKind X.prog X.w).is s.heap k a := by
  unfold nkT at h
  split at h
  · cases r with
    | tup ht al =>
      exact ⟨_, rfl, Rp.nested I hK (.tup ht al) rfl h, nkD_depth _ _ _ h⟩
  · cases h
theorem Rp.keyT {v : V} {d : D} {k : NestedKey} (r : Rp O H v d) (h : nkT d = some k) : ∃ a, v = .ref a := by
  unfold nkT at h
  split at h
  · cases r with
    | tup ht al => exact ⟨_, rfl⟩
  · cases h
end
/-! ### the entries -/
def dFind (k : NestedKey) : List D → Option D
  | dk :: dv :: r => if nkT dk = some k then some dv else dFind k r
  | _ => none
def dRepl (k : NestedKey) (x : D) : List D → List D
  | dk :: dv :: r => dk :: (if nkT dk = some k then x else dv) :: dRepl k x r
  | _ => []
def dPut (k : NestedKey) (dk x : D) (l : List D) : List D := if (dFind k l).isSome = true then dRepl k x l else l ++ [dk, x]
section
variable {O : Own} {H : Hp}
theorem Ent.find : ∀ {vs : List V} {ds : List D} {xs : List (NestedKey × Addr × Value)} (k : NestedKey), Ent vs ds xs → RpA O H vs ds →
    (∀ d, dFind k ds = some d → ∃ v p, atKey xs k = some p ∧ RelV v p.2 ∧ Rp O H v d) ∧ (dFind k ds = none → atKey xs k = none)
  | _, _, _, k, .nil, _ => ⟨fun d h => (by unfold dFind at h; cases h), fun _ => rfl⟩
  | _, _, _, k, .cons (dk := dk) (k := k') (u := u) (ka := ka) hk rv e, .cons _ (.cons r2 al) => by
    obtain ⟨h1, h2⟩ := Ent.find k e al
    by_cases q : k' = k
    · subst q
      refine ⟨fun d h => ?_, fun h => ?_⟩
      · unfold dFind at h
        rw [if_pos hk] at h
        cases h
        exact ⟨_, (ka, u), by unfold atKey; rw [List.find?_cons_of_pos (by simp)]; rfl, rv, r2⟩
      · unfold dFind at h
        rw [if_pos hk] at h
        cases h
    · have nk : ¬ nkT dk = some k := by rw [hk]; exact fun z => q (Option.some.inj z)
      have skip : ∀ xs : List (NestedKey × Addr × Value), atKey ((k', ka, u) :: xs) k = atKey xs k := fun xs => by
        unfold atKey
        rw [List.find?_cons_of_neg (by simpa using q)]
      refine ⟨fun d h => ?_, fun h => ?_⟩
      · unfold dFind at h
        rw [if_neg nk] at h
        obtain ⟨v, p, z1, z2, z3⟩ := h1 d h
        exact ⟨v, p, by rw [skip]; exact z1, z2, z3⟩
      · unfold dFind at h
        rw [if_neg nk] at h
        rw [skip]
        exact h2 h
theorem Ent.repl {x : D} {v : V} {u : Value} (rv : RelV v u) (r : Rp O H v x) : ∀ {vs : List V} {ds : List D} {xs : List (NestedKey × Addr × Value)} (k : NestedKey), Ent vs ds xs → RpA O H vs ds →
    ∃ vs', Ent vs' (dRepl k x ds) (xs.map (putAt k u)) ∧ RpA O H vs' (dRepl k x ds)
  | _, _, _, k, .nil, _ => ⟨[], .nil, .nil⟩
  | _, _, _, k, .cons (v := v2) (dk := dk) (k := k') (u := u') (ka := ka) hk rv' e, .cons r1 (.cons r2 al) => by
    obtain ⟨vs', h1, h2⟩ := Ent.repl rv r k e al
    by_cases q : k' = k
    · subst q
      refine ⟨.ref ka :: v :: vs', ?_, ?_⟩
      · unfold dRepl
        rw [if_pos hk, List.map_cons]
        have : putAt k' u (k', ka, u') = (k', ka, u) := by simp [putAt]
        rw [this]
        exact .cons hk rv h1
      · unfold dRepl
        rw [if_pos hk]
        exact .cons r1 (.cons r h2)
    · have nk : ¬ nkT dk = some k := by rw [hk]; exact fun z => q (Option.some.inj z)
      refine ⟨.ref ka :: v2 :: vs', ?_, ?_⟩
      · unfold dRepl
        rw [if_neg nk, List.map_cons]
        have : putAt k u (k', ka, u') = (k', ka, u') := by simp [putAt, q]
        rw [this]
        exact .cons hk rv' h1
      · unfold dRepl
        rw [if_neg nk]
        exact .cons r1 (.cons r2 h2)
theorem Ent.app {ka : Addr} {v : V} {dk x : D} {k : NestedKey} {u : Value} (hk : nkT dk = some k) (rv : RelV v u) : ∀ {vs : List V} {ds : List D} {xs : List (NestedKey × Addr × Value)}, Ent vs ds xs → Ent (vs ++ [.ref ka, v]) (ds ++ [dk, x]) (xs ++ [(k, ka, u)])
  | _, _, _, .nil => .cons hk rv .nil
  | _, _, _, .cons h r e => .cons h r (Ent.app hk rv e)
theorem Ent.len : ∀ {vs : List V} {ds : List D} {xs : List (NestedKey × Addr × Value)}, Ent vs ds xs → ds.length = 2 * xs.length
  | _, _, _, .nil => rfl
  | _, _, _, .cons _ _ e => by rw [List.length_cons, List.length_cons, List.length_cons, Ent.len e]; omega
theorem Ent.put {ka : Addr} {v : V} {dk x : D} {k : NestedKey} {u : Value} (hk : nkT dk = some k) (rk : Rp O H (.ref ka) dk) (rv : RelV v u) (r : Rp O H v x) {vs : List V} {ds : List D} {xs : List (NestedKey × Addr × Value)} (e : Ent vs ds xs) (al : RpA O H vs ds) :
    ∃ vs', Ent vs' (dPut k dk x ds) (storedH xs k ka u) ∧ RpA O H vs' (dPut k dk x ds) := by
  obtain ⟨h1, h2⟩ := e.find k al
  unfold dPut
  cases q : dFind k ds with
  | some d =>
    obtain ⟨v', p, z1, _, _⟩ := h1 d q
    rw [if_pos (show (some d).isSome = true from rfl), storedH_old z1]
    exact e.repl rv r k al
  | none =>
    rw [if_neg (by simp), storedH_new (h2 q)]
    exact ⟨_, e.app hk rv, al.append (.cons rk (.cons r .nil))⟩
theorem storedH_len {xs : List (NestedKey × Addr × Value)} {k : NestedKey} {a : Addr} {u : Value} : (storedH xs k a u).length ≤ xs.length + 1 := by
  unfold storedH
  split
  · rw [List.length_map]; omega
  · rw [List.length_append]; simp
end
/-! ### over the machine -/
section
variable {X : Cx} {pins : List (Addr × Obj)} {σ : L2.St} {H : Hp} {s : Shared} {O : Own} {p : Addr} {ob : Obj} {vs : List V} {l : List D}
/-- the program and the world are those of the class -/
def Own2 (X : Cx) : Prop := X.prog = KI.pr ∧ X.w = KI.wo ∧ X.K = fK
theorem dict_of (I : Inv X pins σ H s) (h2 : Own2 X) (e : H p = some (dO p ob)) (hr : DRaw p ob vs l) (al : RpA O H vs l) : ∃ xs, Ent vs l xs ∧ xs.length ≤ sizeLine ∧ s.heap.DictOfH (nestedKind X.prog X.w) p xs ∧ (p == sysModules) = false := by
  obtain ⟨hs, xs, es, ep, he, hl, hx, hd, hes, hn⟩ := hr
  obtain ⟨hp, hw, hK⟩ := h2
  have q : s.heap.get? p = some ob := (I.hok p _ e).1
  refine ⟨xs, he, hl, ⟨ob, es, ep, q, hx, hd, by rw [hp, hw]; exact hes, ?_, hn⟩, hs⟩
  clear hl hes hn
  induction he with
  | nil => intro x hx; cases hx
  | @cons ka v vs dk dv ds k u xs hk rv he ih =>
    cases al with
    | cons r1 al =>
      cases al with
      | cons r2 al =>
        intro x hx
        rcases List.mem_cons.mp hx with rfl | hx
        · obtain ⟨a, ea, z⟩ := r1.key I hK hk
          cases ea
          exact z
        · exact ih al x hx
theorem dict_new {h' : Heap} {xs : List (NestedKey × Addr × Value)} {vs' : List V} {l' : List D} (h2 : Own2 X) (hs : (p == sysModules) = false) (he : Ent vs' l' xs) (hl : xs.length ≤ sizeLine) (hd : h'.DictOfH (nestedKind X.prog X.w) p xs) : ∃ ob', h'.get? p = some ob' ∧ DRaw p ob' vs' l' := by
  obtain ⟨o, es, ep, q, hx, hdat, hes, _, hn⟩ := hd
  obtain ⟨hp, hw, hK⟩ := h2
  rw [hp, hw] at hes
  exact ⟨o, q, hs, xs, es, ep, he, hl, hx, hdat, hes, hn⟩
theorem dO_ok {h' : Heap} {ob : Obj} {H' : Hp} (e : h'.get? p = some ob) : ObjOk X.prog X.w H' h' p (dO p ob) := ⟨e, ⟨ob, e⟩, fun h1 h2 e1 k => k _ e1⟩
theorem dwrite {h' : Heap} {ob ob' : Obj} {t' : Nat} (I : Inv X pins σ H s) (e : H p = some (dO p ob)) (hs : Heap.SameBut p s.heap h') (e' : h'.get? p = some ob') : Inv X pins σ (upd H p (dO p ob')) { s with heap := h', toks := t' } :=
  I.write (by rw [e]; exact True.intro) (.inl rfl) (fun b u hb q => (hs.2 b hb).trans q) ⟨_, e'⟩ (dO_ok e')
/-- the reading of a dict at p -/
structure DAt (H : Hp) (p : Addr) (l : List D) (k : NestedKey) (y : V) (dk : D) : Prop where
  it : ∃ O vs ob, H p = some (dO p ob) ∧ DRaw p ob vs l ∧ RpA O H vs l ∧ Rp O H y dk
  nk : nkT dk = some k
def tDGetN (i : Nat) (ty : TE) : TE := fun σ H Q => ∃ p, σ[i]? = some (some (.ref p)) ∧ ty σ H fun y H1 => ∃ O vs l ob dk k dv, H1 p = some (dO p ob) ∧ DRaw p ob vs l ∧ RpA O H1 vs l ∧ Rp O H1 y dk ∧ nkT dk = some k ∧ dFind k l = some dv ∧ ∀ v, Rp O H1 v dv → Q v H1
theorem pe_dgetN {i : Nat} {x : Str} {k : Expr} {ty : TE} {px pos : Pos} (h2 : Own2 X) (hu : X.A.units + 20 < cLine) (hN : X.N[i]? = some x) (hv : Vis X.env.scope x) (hk : PE X k ty) (hs : NoSl k) (hd : (x == ("__debug__" : Str)) = false) (hcd : (x == ("__classdict__" : Str)) = false) : PE X (.Subscript (.Name x px) k pos) (tDGetN i ty) := by
  refine ⟨fun pins s σ H Q I h => ?_⟩
  obtain ⟨p, hp, h⟩ := h
  refine subD_of PySem.F.slot_dict_getitem.lookup hs (thn ((pe_var (i := i) hN hv hd hcd).run pins s σ H (fun x H1 => x = .ref p ∧ H1 = H) I ⟨.ref p, hp, rfl, rfl⟩) fun u s1 ⟨x, H1, I1, rx, q1⟩ => ?_)
  obtain ⟨rfl, rfl⟩ := q1
  obtain rfl : u = Value.ref p := rx
  refine thn (hk.run pins s1 σ H1 _ I1 h) fun iv s2 ⟨y, H2, I2, ry, O, vs, l, ob, dk, kk, dv, e, hr, al, rk, nk, hf, q⟩ => ?_
  obtain ⟨xs, he, hl, dd, hsm⟩ := dict_of I2 h2 e hr al
  obtain ⟨ka, rfl, his⟩ := rk.key I2 h2.2.2 nk
  obtain rfl : iv = Value.ref ka := ry
  obtain ⟨v, pp, z1, z2, z3⟩ := (he.find kk al).1 dv hf
  exact ⟨dd.typeIs, wpAny_getItem_heap (by show X.A.units + 1 + 8 < cLine; omega) his dd z1 ⟨v, H2, I2.tok _, z2, q v z3⟩⟩
def tDInN (neg : Bool) (i : Nat) (ty : TE) : TE := fun σ H Q => ty σ H fun y H1 => ∃ p, σ[i]? = some (some (.ref p)) ∧ ∃ O vs l ob dk k, H1 p = some (dO p ob) ∧ DRaw p ob vs l ∧ RpA O H1 vs l ∧ Rp O H1 y dk ∧ nkT dk = some k ∧ Q (.bl (neg != (dFind k l).isSome)) H1
theorem find_is {k : NestedKey} {xs : List (NestedKey × Addr × Value)} (he : Ent vs l xs) (al : RpA O H vs l) : (atKey xs k).isSome = (dFind k l).isSome := by
  obtain ⟨h1, h2⟩ := he.find k al
  cases q : dFind k l with
  | some d => obtain ⟨v, p, z, _, _⟩ := h1 d q; rw [z]; rfl
  | none => rw [h2 q]; rfl
theorem pc_dinN {i : Nat} {x : Str} {k : Expr} {ty : TE} {px : Pos} (h2 : Own2 X) (hu : X.A.units + 20 < cLine) (hN : X.N[i]? = some x) (hv : Vis X.env.scope x) (hk : PE X k ty) (hd : (x == ("__debug__" : Str)) = false) (hcd : (x == ("__classdict__" : Str)) = false) : PC X .In k (.Name x px) (tDInN false i ty) := by
  refine ⟨fun pins s σ H Q I h => ?_⟩
  refine thn (hk.run pins s σ H _ I h) fun iv s2 ⟨y, H2, I2, ry, p, hp, O, vs, l, ob, dk, kk, e, hr, al, rk, nk, q⟩ => ?_
  refine thn ((pe_var (i := i) hN hv hd hcd).run pins s2 σ H2 (fun x H1 => x = .ref p ∧ H1 = H2) I2 ⟨.ref p, hp, rfl, rfl⟩) fun u s1 ⟨x, H1, I1, rx, q1⟩ => ?_
  obtain ⟨rfl, rfl⟩ := q1
  obtain rfl : u = Value.ref p := rx
  obtain ⟨xs, he, hl, dd, hsm⟩ := dict_of I1 h2 e hr al
  obtain ⟨ka, rfl, his⟩ := rk.key I1 h2.2.2 nk
  obtain rfl : iv = Value.ref ka := ry
  exact wpAny_in_heap (by show X.A.units + 1 + 8 < cLine; omega) his hsm dd ⟨.bl (dFind kk l).isSome, H1, I1.tok _, by rw [find_is he al]; rfl, by rw [Bool.false_bne] at q; exact q⟩
theorem pc_dnotinN {i : Nat} {x : Str} {k : Expr} {ty : TE} {px : Pos} (h2 : Own2 X) (hu : X.A.units + 20 < cLine) (hN : X.N[i]? = some x) (hv : Vis X.env.scope x) (hk : PE X k ty) (hd : (x == ("__debug__" : Str)) = false) (hcd : (x == ("__classdict__" : Str)) = false) : PC X .NotIn k (.Name x px) (tDInN true i ty) := by
  refine ⟨fun pins s σ H Q I h => ?_⟩
  refine thn (hk.run pins s σ H _ I h) fun iv s2 ⟨y, H2, I2, ry, p, hp, O, vs, l, ob, dk, kk, e, hr, al, rk, nk, q⟩ => ?_
  refine thn ((pe_var (i := i) hN hv hd hcd).run pins s2 σ H2 (fun x H1 => x = .ref p ∧ H1 = H2) I2 ⟨.ref p, hp, rfl, rfl⟩) fun u s1 ⟨x, H1, I1, rx, q1⟩ => ?_
  obtain ⟨rfl, rfl⟩ := q1
  obtain rfl : u = Value.ref p := rx
  obtain ⟨xs, he, hl, dd, hsm⟩ := dict_of I1 h2 e hr al
  obtain ⟨ka, rfl, his⟩ := rk.key I1 h2.2.2 nk
  obtain rfl : iv = Value.ref ka := ry
  exact notIn_keyed (by show X.A.units + 1 + 8 < cLine; omega) his hsm ⟨xs, dd, rfl⟩ ⟨.bl (!(dFind kk l).isSome), H1, I1.tok _, by rw [valueAt_pairsH, Option.isSome_map, find_is he al]; rfl, by rw [Bool.true_bne] at q; exact q⟩
def rDSet : TSet := fun o i v H Q => ∃ p O vs l ob dk k dv, o = .ref p ∧ H p = some (dO p ob) ∧ DRaw p ob vs l ∧ RpA O H vs l ∧ Rp O H i dk ∧ nkT dk = some k ∧ Rp O H v dv ∧ l.length < lineN ∧
  ∀ ob' vs', DRaw p ob' vs' (dPut k dk dv l) → RpA O H vs' (dPut k dk dv l) → Q (upd H p (dO p ob'))
theorem set_dictN (h2 : Own2 X) (hu : X.A.units + 20 < cLine) : PSet X rDSet := by
  intro pins s σ H o i v ov iv u Q I ro ri rv h
  obtain ⟨p, O, vs, l, ob, dk, k, dv, rfl, e, hr, al, rk, nk, rd, hlen, q⟩ := h
  obtain rfl : ov = Value.ref p := ro
  obtain ⟨xs, he, hl, dd, hsm⟩ := dict_of I h2 e hr al
  obtain ⟨ka, rfl, his⟩ := rk.key I h2.2.2 nk
  obtain rfl : iv = Value.ref ka := ri
  refine wpAny_setItem_heap (hsz := hl) (by show X.A.units + 1 + 8 < cLine; omega) his dd fun h' hm' hsb => ?_
  obtain ⟨vs', he', al'⟩ := he.put (k := k) nk rk rv rd al
  have hl' : (storedH xs k ka u).length ≤ sizeLine := by
    have h1 := storedH_len (xs := xs) (k := k) (a := ka) (u := u)
    have h3 := he.len
    have h4 := line_le (n := l.length) (by omega)
    by_cases hz : xs.length = 0
    · rw [sizeLine_eq]; omega
    · omega
  obtain ⟨ob', e', hr'⟩ := dict_new h2 hsm he' hl' hm'
  exact ⟨_, dwrite I e hsb e', q ob' vs' hr' al'⟩
def tDNewN : TE := fun _ H Q => ∀ p ob, H p = none → DRaw p ob [] [] → Q (.ref p) (upd H p (dO p ob))
theorem pe_dnewN {pos : Pos} (h2 : Own2 X) : PE X (.Dict [] [] pos) tDNewN := ⟨fun pins s σ H Q I h => by
  have hn : H s.heap.objs.size = none := I.hok.fresh (Nat.le_refl _)
  have hs : (s.heap.objs.size == sysModules) = false := beq_eq_false_iff_ne.mpr (Ne.symm (Nat.ne_of_lt I.big))
  refine wpAny_Dict_empty ⟨.ref s.heap.objs.size, _, I.laid (a := s.heap.objs.size) (o := dO s.heap.objs.size { cls := .type "dict", data := .dict #[] }) (t' := s.toks) (fun _ _ q => Heap.get?_push_of_some _ q) (Nat.le_refl _) (dO_ok (Heap.get?_push_size _ rfl)), rfl, h _ _ hn ⟨hs, [], #[], 0, .nil, Nat.zero_le _, ⟨rfl, rfl, rfl⟩, rfl, rfl, List.nodup_nil⟩⟩⟩
/-- d.get(k, x), d.setdefault(k, x) -/
def tDMet (i : Nat) (t : TA) (R : Addr → V → V → Hp → VK → Prop) : TE := fun σ H Q => ∃ p, σ[i]? = some (some (.ref p)) ∧ (∃ ob vs l, H p = some (dO p ob) ∧ DRaw p ob vs l) ∧ t σ H fun xs H1 => ∃ y z, xs = [y, z] ∧ R p y z H1 Q
def MetD (X : Cx) (id : String) (R : Addr → V → V → Hp → VK → Prop) : Prop := ∀ (pins : List (Addr × Obj)) (s : Shared) (σ : L2.St) (H : Hp) (p : Addr) (y z : V) (u1 u2 : Value) (Q : VK), Inv X pins σ H s → RelV y u1 → RelV z u2 → R p y z H Q →
    wpAny (model X.prog X.w) X.A (call (.builtin id) [.ref p, u1, u2]) (EP X pins σ Q) X.xe s
theorem pe_dmet {i : Nat} {x : Str} {k d : Expr} {t : TA} {name : Str} {id : String} {R : Addr → V → V → Hp → VK → Prop} {px apos cpos : Pos} (pa : PlainAttrs "dict") (slot : Slot "dict" name id) (hty : typeOf (.builtin id) = pure (.type "method_descriptor")) (hm : MetD X id R)
    (hN : X.N[i]? = some x) (hv : Vis X.env.scope x) (ha : PA X [k, d] t) (hd : (x == ("__debug__" : Str)) = false) (hcd : (x == ("__classdict__" : Str)) = false)
    (hbase : attributeBase (.Name x px) name X.env (eval (.Name x px) X.env) = eval (.Name x px) X.env)
    (hfew : ((backTo cpos (starEach [k, d] X.env)).all (fun x => !x.1) && (backToKw cpos (keywordEach [] X.env)).all (fun x => x.1.isSome) && decide ([k, d].length + ([] : List Keyword).length + (if ([] : List Keyword).isEmpty then 0 else 1) < 30)) = true)
    (hline : (apos.endLine == cpos.line) = true) (hs : starEach [k, d] X.env = (false, eval k X.env) :: starEach [d] X.env) (hplain : (backTo cpos (starEach [d] X.env)).any (·.1) = false) :
    PE X (.Call (.Attribute (.Name x px) name apos) [k, d] [] cpos) (tDMet i t R) := by
  refine ⟨fun pins s σ H Q I h => ?_⟩
  obtain ⟨p, hp, ⟨ob, vs, l, e, hr⟩, h⟩ := h
  refine wpAny_Call_method_late hbase hfew hline rfl (thn ((pe_var (i := i) hN hv hd hcd).run pins s σ H (fun x H1 => x = .ref p ∧ H1 = H) I ⟨.ref p, hp, rfl, rfl⟩) fun u s1 ⟨x, H1, I1, rx, q1⟩ => ?_)
  obtain ⟨rfl, rfl⟩ := q1
  obtain rfl : u = Value.ref p := rx
  have q : s1.heap.get? p = some ob := (I1.hok p _ e).1
  obtain ⟨_, _, _, _, _, _, hx, _⟩ := hr
  refine ⟨"dict", id, pa, slot, hty, ⟨ob, q, hx.1⟩, fun a ea => ?_, ?_⟩
  · cases ea
    exact ⟨ob, q, hx.2.1⟩
  · have hA := ha.run cpos pins s1 σ H1 _ I1 h
    rw [hs] at hA ⊢
    refine Calls.callWith_builtin (by show (false || (backTo cpos (starEach [d] X.env)).any (·.1)) = false; rw [hplain] <;> rfl) (Calls.evalArgs_plain ?_)
    refine thn hA fun us s2 ⟨vs, H2, I2, r2, y, z, hvs, q2⟩ => ?_
    subst hvs
    obtain ⟨u1, u2, rfl, ru1, ru2⟩ := Vals.two r2
    exact hm pins s2 σ H2 p y z u1 u2 Q I2 ru1 ru2 q2
def rDGetD : Addr → V → V → Hp → VK → Prop := fun p y z H Q => ∃ O vs l ob dk k dz, H p = some (dO p ob) ∧ DRaw p ob vs l ∧ RpA O H vs l ∧ Rp O H y dk ∧ Rp O H z dz ∧ nkT dk = some k ∧ ∀ v, Rp O H v ((dFind k l).getD dz) → Q v H
theorem met_get (h2 : Own2 X) (hu : X.A.units + 20 < cLine) : MetD X "dict.get" rDGetD := by
  intro pins s σ H p y z u1 u2 Q I r1 r2 h
  obtain ⟨O, vs, l, ob, dk, k, dz, e, hr, al, rk, rz, nk, q⟩ := h
  obtain ⟨xs, he, hl, dd, hsm⟩ := dict_of I h2 e hr al
  obtain ⟨ka, rfl, his⟩ := rk.key I h2.2.2 nk
  obtain rfl : u1 = Value.ref ka := r1
  obtain ⟨h1, h3⟩ := he.find k al
  refine getOr_keyed (by show X.A.units + 1 + 8 < cLine; omega) his hsm ⟨xs, dd, rfl⟩ ?_
  rw [valueAt_pairsH]
  cases qf : dFind k l with
  | some d =>
    obtain ⟨v, pp, z1, z2, z3⟩ := h1 d qf
    rw [z1]
    exact ⟨v, H, I.tok _, z2, q v (by rw [qf]; exact z3)⟩
  | none =>
    rw [h3 qf]
    exact ⟨z, H, I.tok _, r2, q z (by rw [qf]; exact rz)⟩
def rDSetD : Addr → V → V → Hp → VK → Prop := fun p y z H Q => ∃ O vs l ob dk k dz, H p = some (dO p ob) ∧ DRaw p ob vs l ∧ RpA O H vs l ∧ Rp O H y dk ∧ Rp O H z dz ∧ nkT dk = some k ∧
  (∀ d v, dFind k l = some d → Rp O H v d → Q v H) ∧ (dFind k l = none → l.length < lineN ∧ ∀ ob' vs', DRaw p ob' vs' (dPut k dk dz l) → RpA O H vs' (dPut k dk dz l) → Q z (upd H p (dO p ob')))
theorem met_setdefault (h2 : Own2 X) (hu : X.A.units + 20 < cLine) : MetD X "dict.setdefault" rDSetD := by
  intro pins s σ H p y z u1 u2 Q I r1 r2 h
  obtain ⟨O, vs, l, ob, dk, k, dz, e, hr, al, rk, rz, nk, q1, q2⟩ := h
  obtain ⟨xs, he, hl, dd, hsm⟩ := dict_of I h2 e hr al
  obtain ⟨ka, rfl, his⟩ := rk.key I h2.2.2 nk
  obtain rfl : u1 = Value.ref ka := r1
  obtain ⟨h1, h3⟩ := he.find k al
  refine call_setdefault_heap (hsz := hl) (by show X.A.units + 1 + 8 < cLine; omega) his hsm dd (fun pp hpp => ?_) fun hn h' hm' hsb => ?_
  · cases qf : dFind k l with
    | none => rw [h3 qf] at hpp; cases hpp
    | some d =>
      obtain ⟨v, pp', z1, z2, z3⟩ := h1 d qf
      rw [hpp] at z1
      cases z1
      exact ⟨v, H, I.tok _, z2, q1 d v qf z3⟩
  · have qf : dFind k l = none := by
      cases qf : dFind k l with
      | none => rfl
      | some d => obtain ⟨v, pp', z1, _, _⟩ := h1 d qf; rw [hn] at z1; cases z1
    obtain ⟨hlen, q3⟩ := q2 qf
    obtain ⟨vs', he', al'⟩ := he.put (k := k) nk rk r2 rz al
    have hl' : (storedH xs k ka u2).length ≤ sizeLine := by
      have h1 := storedH_len (xs := xs) (k := k) (a := ka) (u := u2)
      have h3 := he.len
      have h4 := line_le (n := l.length) (by omega)
      by_cases hz : xs.length = 0
      · rw [sizeLine_eq]; omega
      · omega
    obtain ⟨ob', e', hr'⟩ := dict_new h2 hsm he' hl' hm'
    exact ⟨z, _, dwrite I e hsb e', r2, q3 ob' vs' hr' al'⟩
end
end Lw
set_option Elab.async false
set_option linter.all false
set_option maxRecDepth 100000
set_option maxHeartbeats 2000000
set_option autoImplicit false
/-! # own dicts in the layer -/
namespace Lw
open PySem PySem.Spec PyProof.Rows L2
variable [KI : FragI]
theorem ER.setCn {b : Bs} {O : Own} {wa : Addr} {W : Option Well} {ρ : List Sl} {σ : L2.St} {H : Hp} {p : Addr} {c0 : Bool} {vs : List V} {l : List Dt} (I : ER b (OU O p) wa W ρ σ H) (i : Nat) (hi : i < ρ.length) (nw : p ≠ wa ∨ W = none)
    (no : ∀ {c : Bool} (j : Nat) (l : List Dt), ρ[j]? = some (.cn c l) → σ[j]? ≠ some (some (.ref p))) (hp : CnR H p c0 vs l) (al : RpA (OU O p) H vs l) (hb : b.H p = none) : ER b (OU O p) wa W (ρ.set i (.cn c0 l)) (σ.set i (some (.ref p))) H := by
  have his : i < σ.length := by rw [I.len]; exact hi
  have get : ∀ {c : Bool} j l', (ρ.set i (.cn c0 l))[j]? = some (.cn c l') → j = i ∨ (j ≠ i ∧ ρ[j]? = some (.cn c l')) := fun j l' e => by
    by_cases h : i = j
    · exact .inl h.symm
    · rw [List.getElem?_set_ne h] at e
      exact .inr ⟨Ne.symm h, e⟩
  refine ⟨by rw [List.length_set, List.length_set, I.len], I.al, fun j t e => ?_, fun j j' l1 l2 x hne h1 h2 h3 h4 => ?_, fun j l1 x h1 h2 h3 => ?_, I.wl, I.keep, I.sub, I.new, I.wm, I.wn⟩
  · by_cases h : i = j
    · subst h
      rw [List.getElem?_set_self hi] at e
      cases e
      exact ⟨_, List.getElem?_set_self his, p, vs, rfl, .inr rfl, hp, al, hb⟩
    · rw [List.getElem?_set_ne h] at e
      obtain ⟨u, h1, h2⟩ := I.sl j t e
      exact ⟨u, by rw [List.getElem?_set_ne h]; exact h1, h2⟩
  · rcases get j l1 h1 with rfl | ⟨n1, e1⟩
    · rcases get j' l2 h2 with rfl | ⟨n2, e2⟩
      · exact hne rfl
      · rw [List.getElem?_set_self his] at h3
        cases h3
        rw [List.getElem?_set_ne n2.symm] at h4
        exact no j' l2 e2 h4
    · rcases get j' l2 h2 with rfl | ⟨n2, e2⟩
      · rw [List.getElem?_set_self his] at h4
        cases h4
        rw [List.getElem?_set_ne n1.symm] at h3
        exact no j l1 e1 h3
      · rw [List.getElem?_set_ne n1.symm] at h3
        rw [List.getElem?_set_ne n2.symm] at h4
        exact I.inj j j' l1 l2 x hne e1 e2 h3 h4
  · rcases get j l1 h1 with rfl | ⟨n1, e1⟩
    · rw [List.getElem?_set_self his] at h2
      cases h2
      rcases nw with nw | nw
      · exact nw
      · rw [nw] at h3; cases h3
    · rw [List.getElem?_set_ne n1.symm] at h2
      exact I.nw j l1 x e1 h2 h3
/-- a slot that holds no own thing, by its address -/
theorem ER.noOwn {b : Bs} {O : Own} {wa : Addr} {W : Option Well} {ρ : List Sl} {σ : L2.St} {H : Hp} {p : Addr} (I : ER b O wa W ρ σ H) (hp : H p = none) : ∀ {c : Bool} (j : Nat) (l : List Dt), ρ[j]? = some (.cn c l) → σ[j]? ≠ some (some (.ref p)) := fun {c} j l e1 e2 => by
  obtain ⟨o, h1, h2⟩ := I.sl j _ e1
  rw [e2] at h1
  cases h1
  obtain ⟨r, us, er, _, hr, _⟩ := h2
  cases er
  obtain ⟨_, hr⟩ := hr.some
  rw [hp] at hr
  cases hr
def sDNew (i : Nat) : FS := fun ρ W => if i < ρ.length then .nx (ρ.set i (.cn false [])) W else .bad
def eDGet (i : Nat) (g : FE) : FE := fun ρ W => match ρ[i]? with
  | some (.cn false l) => (g ρ W).bind fun y W1 => match nkT y with
    | some k => (match dFind k l with | some dv => .ok (.d dv) W1 | none => .bad)
    | none => .bad
  | _ => .bad
def eDIn (neg : Bool) (i : Nat) (g : FE) : FE := fun ρ W => match ρ[i]? with
  | some (.cn false l) => (g ρ W).bind fun y W1 => match nkT y with
    | some k => .ok (.d (.bool (neg != (dFind k l).isSome))) W1
    | none => .bad
  | _ => .bad
def eDGetOr (i : Nat) (g h : FE) : FE := fun ρ W => match ρ[i]? with
  | some (.cn false l) => (g ρ W).bind fun y W1 => (h ρ W1).bind fun z W2 => match nkT y with
    | some k => .ok (.d ((dFind k l).getD z)) W2
    | none => .bad
  | _ => .bad
def sDPut (i : Nat) (f g : FE) : FS := fun ρ W => match ρ[i]? with
  | some (.cn false l) => (f ρ W).toS ρ fun e W1 => (g ρ W1).toS ρ fun k W2 => match nkT k.D with
    | some kk => if l.length < lineN then .nx (ρ.set i (.cn false (dPut kk k.D e.D l))) W2 else .bad
    | none => .bad
  | _ => .bad
/-- y = d.setdefault(k, x) -/
def sDSetD (j i : Nat) (g h : FE) : FS := fun ρ W => match ρ[i]? with
  | some (.cn false l) => (g ρ W).toS ρ fun k W1 => (h ρ W1).toS ρ fun z W2 => match nkT k.D with
    | some kk => (match dFind kk l with
      | some dv => .nx (ρ.set j (.dt dv)) W2
      | none => if l.length < lineN then .nx ((ρ.set i (.cn false (dPut kk k.D z.D l))).set j (.dt z.D)) W2 else .bad)
    | none => .bad
  | _ => .bad
section
variable {C : Cd}
def Cd.own2 (C : Cd) : Prop := C.prog = KI.pr ∧ C.w = KI.wo
theorem Cd.o2 {C : Cd} (h : C.own2) {X : Cx} (hX : C.P X) : Own2 X := ⟨(C.hprog X hX).trans h.1, (C.hw X hX).trans h.2, C.hK X hX⟩
theorem Cd.un (C : Cd) {X : Cx} (hX : C.P X) : X.A.units + 20 < cLine := by have := C.unX X hX; omega
theorem ss_dnew {i : Nat} {x : Str} {pos pos' dpos : Pos} (h2 : C.own2) (hi : C.N[i]? = some x) (hx : Loc C.sc x) (hf : C.fn x = true ∨ C.sc.names.lookup x = some .local)
    (hs : ∀ X, C.P X → swapsWith (.Dict [] [] dpos) (some (.Name x pos')) pos.line X.env = pure false := by intro _ _; rfl) : SS C (.Assign [.Name x pos'] (.Dict [] [] dpos) pos) (sDNew i) := by
  refine ⟨_, fun X h => ps_set (by rw [C.hN X h]; exact C.nd) (by rw [C.hN X h]; exact hi) (by rw [C.hsc X h]; exact hx) (pe_dnewN (Cd.o2 h2 h)) (hs X h) (by rw [C.hfn X h, C.hsc X h]; exact hf), fun a W D hm I h p ob hp hr => ?_⟩
  unfold sDNew at h
  split at h
  · rename_i hil
    have sm : Same a.H (upd a.H p (dO p ob)) := same_upd hp
    have e1 := I.1.own sm hp (o := dO p ob) upd_same
    have nw : p ≠ a.wa ∨ W = none := by
      cases hw : W with
      | none => exact .inr rfl
      | some w => exact .inl fun z => by rw [z, (I.1.wl w hw).2] at hp; cases hp
    have e2 := e1.setCn (c0 := false) (vs := []) (l := []) i hil nw (fun j l => I.1.noOwn hp j l) ⟨ob, upd_same, hr⟩ .nil (I.1.base_none hp)
    exact h ⟨a.b, OU a.O p, a.wa, a.ρ.set i (.cn false []), a.σ.set i (some (.ref p)), upd a.H p (dO p ob), a.hw⟩ ⟨rfl, stp_ou hp⟩ rfl ⟨e2, I.2⟩
  · exact absurd h id
/-- what the slot of an own dict tells -/
theorem ER.dict {b : Bs} {O : Own} {wa : Addr} {W : Option Well} {ρ : List Sl} {σ : L2.St} {H : Hp} {i : Nat} {l : List Dt} (I : ER b O wa W ρ σ H) (e : ρ[i]? = some (.cn false l)) : ∃ p vs ob, σ[i]? = some (some (.ref p)) ∧ H p = some (dO p ob) ∧ DRaw p ob vs l ∧ RpA O H vs l := by
  obtain ⟨o, h1, h2⟩ := I.sl i _ e
  cases o with
  | none => exact absurd h2 id
  | some v =>
    obtain ⟨p, vs, rfl, op, ⟨ob, hp, hr⟩, al, h0⟩ := h2
    exact ⟨p, vs, ob, h1, hp, hr, al⟩
theorem se_dget {i : Nat} {x : Str} {k : Expr} {g : FE} {px pos : Pos} (h2 : C.own2) (hi : C.N[i]? = some x) (hv : Vis C.sc x) (hk : SE C k g) (hs : NoSl k) (hd : (x == ("__debug__" : Str)) = false := by decide) (hcd : (x == ("__classdict__" : Str)) = false := by decide) : SE C (.Subscript (.Name x px) k pos) (eDGet i g) := by
  obtain ⟨t, p, s⟩ := hk
  refine ⟨_, fun X h => pe_dgetN (Cd.o2 h2 h) (C.un h) (by rw [C.hN X h]; exact hi) (by rw [C.hsc X h]; exact hv) (p X h) hs hd hcd, fun a W Q I h => ?_⟩
  unfold eDGet at h
  split at h
  · rename_i l hl
    obtain ⟨p, vs, ob, h1, hp, hr, al⟩ := I.1.dict hl
    refine ⟨p, h1, s.then I h fun y W1 v H1 e1 st r h3 => ?_⟩
    split at h3
    · rename_i kk hkk
      split at h3
      · rename_i dv hdv
        exact ⟨a.O, vs, l, ob, y, kk, dv, st p _ (fun hw => I.1.nw i l p hl h1 (I.2.trans hw)) hp, hr, al.stp (st.stp I), r, hkk, hdv, fun v' r' => wE.now (a := a.to H1) e1 r' h3⟩
      · exact absurd h3 id
    · exact absurd h3 id
  · exact absurd h id
theorem snd_din {neg : Bool} {i : Nat} {t : TE} {g : FE} (s : SndE C.Wx C.ca t g) : SndE C.Wx C.ca (tDInN neg i t) (eDIn neg i g) := fun a W Q I h => by
  unfold eDIn at h
  split at h
  · rename_i l hl
    obtain ⟨p, vs, ob, h1, hp, hr, al⟩ := I.1.dict hl
    refine s.then I h fun y W1 v H1 e1 st r h3 => ?_
    split at h3
    · rename_i kk hkk
      exact ⟨p, h1, a.O, vs, l, ob, y, kk, st p _ (fun hw => I.1.nw i l p hl h1 (I.2.trans hw)) hp, hr, al.stp (st.stp I), r, hkk, wE.now (a := a.to H1) e1 (.bl _) h3⟩
    · exact absurd h3 id
  · exact absurd h id
theorem sc_din {i : Nat} {x : Str} {k : Expr} {g : FE} {px pos : Pos} (h2 : C.own2) (hi : C.N[i]? = some x) (hv : Vis C.sc x) (hk : SE C k g) (hm : behindInMarks .In (.Name x px) = false := by rfl) (hd : (x == ("__debug__" : Str)) = false := by decide) (hcd : (x == ("__classdict__" : Str)) = false := by decide) : SC C (.Compare k [.In] [.Name x px] pos) (eDIn false i g) := by
  obtain ⟨t, p, s⟩ := hk
  exact ⟨_, fun X h => ⟨pe_cmp (pc_dinN (Cd.o2 h2 h) (C.un h) (by rw [C.hN X h]; exact hi) (by rw [C.hsc X h]; exact hv) (p X h) hd hcd) hm, pt_cmp (pc_dinN (Cd.o2 h2 h) (C.un h) (by rw [C.hN X h]; exact hi) (by rw [C.hsc X h]; exact hv) (p X h) hd hcd) hm⟩, snd_din s⟩
theorem sc_dnotin {i : Nat} {x : Str} {k : Expr} {g : FE} {px pos : Pos} (h2 : C.own2) (hi : C.N[i]? = some x) (hv : Vis C.sc x) (hk : SE C k g) (hm : behindInMarks .NotIn (.Name x px) = false := by rfl) (hd : (x == ("__debug__" : Str)) = false := by decide) (hcd : (x == ("__classdict__" : Str)) = false := by decide) : SC C (.Compare k [.NotIn] [.Name x px] pos) (eDIn true i g) := by
  obtain ⟨t, p, s⟩ := hk
  exact ⟨_, fun X h => ⟨pe_cmp (pc_dnotinN (Cd.o2 h2 h) (C.un h) (by rw [C.hN X h]; exact hi) (by rw [C.hsc X h]; exact hv) (p X h) hd hcd) hm, pt_cmp (pc_dnotinN (Cd.o2 h2 h) (C.un h) (by rw [C.hN X h]; exact hi) (by rw [C.hsc X h]; exact hv) (p X h) hd hcd) hm⟩, snd_din s⟩
theorem ss_dput {i : Nat} {x : Str} {e k : Expr} {f g : FE} {px tpos pos : Pos} (h2 : C.own2) (hi : C.N[i]? = some x) (hv : Vis C.sc x) (he : SE C e f) (hk : SE C k g)
    (ha : ∀ env v, assign (.Subscript (.Name x px) k tpos) env v = (do let ov ← holding [v] (eval (.Name x px) env); let iv ← holding [v, ov] (eval k env); standAt tpos; holding [v, ov, iv] (setItem ov iv v); release [v, ov, iv] []) := by intro _ _; rfl)
    (hs : ∀ X, C.P X → swapsWithSole [.Subscript (.Name x px) k tpos] e pos.line X.env = pure false := by intro _ _; rfl) (hw : ∀ X, C.P X → swappedStores [.Subscript (.Name x px) k tpos] e X.env = pure none := by intro _ _; rfl)
    (h1 : ∀ env, (assignEach [.Subscript (.Name x px) k tpos] env).map (·.2) = [assign (.Subscript (.Name x px) k tpos) env] := by intro _; rfl) (hd : (x == ("__debug__" : Str)) = false := by decide) (hcd : (x == ("__classdict__" : Str)) = false := by decide) :
    SS C (.Assign [.Subscript (.Name x px) k tpos] e pos) (sDPut i f g) := by
  obtain ⟨t, p, s⟩ := he
  obtain ⟨u, q, z⟩ := hk
  refine ⟨_, fun X h => ps_asg (p X h) (pg_sub (pe_var (i := i) (by rw [C.hN X h]; exact hi) (by rw [C.hsc X h]; exact hv) hd hcd) (q X h) (set_dictN (Cd.o2 h2 h) (C.un h)) (ha _)) (hs X h) (hw X h) (h1 _), fun a W Dn hm I h => ?_⟩
  unfold sDPut at h
  split at h
  · rename_i l hl
    refine s.thenS I h fun e W1 v H1 e1 st r h3 => ?_
    obtain ⟨p0, vs, ob, h1, hp, hr, al⟩ := I.1.dict hl
    refine ⟨.ref p0, h1, ?_⟩
    refine z.thenS (a := a.to H1) e1 h3 fun k W2 v2 H2 e2 st2 r2 h4 => ?_
    split at h4
    · rename_i kk hkk
      split at h4
      · rename_i hlen
        have hp1 : H1 p0 = some (dO p0 ob) := st p0 _ (fun hw => I.1.nw i l p0 hl h1 (I.2.trans hw)) hp
        have hp2 : H2 p0 = some (dO p0 ob) := st2 p0 _ (fun hw => I.1.nw i l p0 hl h1 (I.2.trans hw)) hp1
        refine ⟨p0, a.O, vs, l, ob, k.D, kk, e.D, rfl, hp2, hr, (al.stp (st.stp I)).stp (st2.stp e1), r2, hkk, r.stp (st2.stp e1), hlen, fun ob' vs' hr' al' => ?_⟩
        obtain ⟨e3, st3⟩ := e2.1.putC (c := false) (u := dO p0 ob') hl h1 (fun H' e => ⟨ob', e, hr'⟩) al'
        exact h4 ⟨a.b, a.O, a.wa, a.ρ.set i (.cn false (dPut kk k.D e.D l)), a.σ, upd H2 p0 (dO p0 ob'), a.hw⟩ ⟨rfl, st3⟩ rfl ⟨e3, e2.2⟩
      · exact absurd h4 id
    · exact absurd h4 id
  · exact absurd h id
theorem se_dgetOr {i : Nat} {x : Str} {k d : Expr} {g h : FE} {px apos cpos : Pos} (h2 : C.own2) (hi : C.N[i]? = some x) (hv : Vis C.sc x) (hk : SE C k g) (hx : SE C d h) (hb : ∀ env, attributeBase (.Name x px) "get" env (eval (.Name x px) env) = eval (.Name x px) env := by intro _; rfl)
    (hfew : ∀ env, ((backTo cpos (starEach [k, d] env)).all (fun x => !x.1) && (backToKw cpos (keywordEach [] env)).all (fun x => x.1.isSome) && decide ([k, d].length + ([] : List Keyword).length + (if ([] : List Keyword).isEmpty then 0 else 1) < 30)) = true := by intro _; rfl)
    (hl : (apos.endLine == cpos.line) = true := by rfl) (hst : ∀ env, starEach [k, d] env = (false, eval k env) :: starEach [d] env := by intro _; rfl) (hst2 : ∀ env, starEach [d] env = (false, eval d env) :: starEach [] env := by intro _; rfl) (hp : ∀ env, (backTo cpos (starEach [d] env)).any (·.1) = false := by intro _; rfl) (hd : (x == ("__debug__" : Str)) = false := by decide) (hcd : (x == ("__classdict__" : Str)) = false := by decide) :
    SE C (.Call (.Attribute (.Name x px) "get" apos) [k, d] [] cpos) (eDGetOr i g h) := by
  obtain ⟨t, p, s⟩ := hk
  obtain ⟨u, q, z⟩ := hx
  refine ⟨_, fun X h => pe_dmet PySem.F.plainAttrs_dict PySem.F.slot_dict_get PySem.F.type_dict_get (met_get (Cd.o2 h2 h) (C.un h)) (by rw [C.hN X h]; exact hi) (by rw [C.hsc X h]; exact hv) (pa_cons (p X h) (pa_cons (q X h) pa_nil (hst2 _)) (hst _)) hd hcd (hb _) (hfew _) hl (hst _) (hp _), fun a W Q I h => ?_⟩
  unfold eDGetOr at h
  split at h
  · rename_i l hl
    obtain ⟨p, vs, ob, h1, hp, hr, al⟩ := I.1.dict hl
    refine ⟨p, h1, ⟨ob, vs, l, hp, hr⟩, s.then I h fun y W1 v H1 e1 st r h3 => ?_⟩
    refine z.then (a := a.to H1) e1 h3 fun zz W2 v2 H2 e2 st2 r2 h4 => ?_
    split at h4
    · rename_i kk hkk
      have hp1 : H1 p = some (dO p ob) := st p _ (fun hw => I.1.nw i l p hl h1 (I.2.trans hw)) hp
      have hp2 : H2 p = some (dO p ob) := st2 p _ (fun hw => I.1.nw i l p hl h1 (I.2.trans hw)) hp1
      exact ⟨v, v2, rfl, a.O, vs, l, ob, y, kk, zz, hp2, hr, (al.stp (st.stp I)).stp (st2.stp e1), r.stp (st2.stp e1), r2, hkk, fun v' r' => wE.now (a := a.to H2) e2 r' h4⟩
    · exact absurd h4 id
  · exact absurd h id
theorem ss_setD {j i : Nat} {y x : Str} {k d : Expr} {g h : FE} {px apos cpos pos pos' : Pos} (hij : i ≠ j) (h2 : C.own2) (hj : C.N[j]? = some y) (hy : Loc C.sc y) (hf : C.fn y = true ∨ C.sc.names.lookup y = some .local) (hi : C.N[i]? = some x) (hv : Vis C.sc x) (hk : SE C k g) (hx : SE C d h)
    (hsw : ∀ X, C.P X → swapsWith (.Call (.Attribute (.Name x px) "setdefault" apos) [k, d] [] cpos) (some (.Name y pos')) pos.line X.env = pure false := by intro _ _; rfl)
    (hb : ∀ env, attributeBase (.Name x px) "setdefault" env (eval (.Name x px) env) = eval (.Name x px) env := by intro _; rfl)
    (hfew : ∀ env, ((backTo cpos (starEach [k, d] env)).all (fun x => !x.1) && (backToKw cpos (keywordEach [] env)).all (fun x => x.1.isSome) && decide ([k, d].length + ([] : List Keyword).length + (if ([] : List Keyword).isEmpty then 0 else 1) < 30)) = true := by intro _; rfl)
    (hl : (apos.endLine == cpos.line) = true := by rfl) (hst : ∀ env, starEach [k, d] env = (false, eval k env) :: starEach [d] env := by intro _; rfl) (hst2 : ∀ env, starEach [d] env = (false, eval d env) :: starEach [] env := by intro _; rfl) (hp : ∀ env, (backTo cpos (starEach [d] env)).any (·.1) = false := by intro _; rfl) (hd : (x == ("__debug__" : Str)) = false := by decide) (hcd : (x == ("__classdict__" : Str)) = false := by decide) :
    SS C (.Assign [.Name y pos'] (.Call (.Attribute (.Name x px) "setdefault" apos) [k, d] [] cpos) pos) (sDSetD j i g h) := by
  obtain ⟨t, p, s⟩ := hk
  obtain ⟨u, q, z⟩ := hx
  refine ⟨_, fun X h => ps_set (by rw [C.hN X h]; exact C.nd) (by rw [C.hN X h]; exact hj) (by rw [C.hsc X h]; exact hy) (pe_dmet PySem.F.plainAttrs_dict PySem.F.slot_dict_setdefault PySem.F.type_dict_setdefault (met_setdefault (Cd.o2 h2 h) (C.un h)) (by rw [C.hN X h]; exact hi) (by rw [C.hsc X h]; exact hv) (pa_cons (p X h) (pa_cons (q X h) pa_nil (hst2 _)) (hst _)) hd hcd (hb _) (hfew _) hl (hst _) (hp _)) (hsw X h) (by rw [C.hfn X h, C.hsc X h]; exact hf), fun a W Dn hm I h => ?_⟩
  unfold sDSetD at h
  split at h
  · rename_i l hl
    obtain ⟨p, vs, ob, h1, hp, hr, al⟩ := I.1.dict hl
    refine ⟨p, h1, ⟨ob, vs, l, hp, hr⟩, s.thenS I h fun y W1 v H1 e1 st r h3 => ?_⟩
    refine z.thenS (a := a.to H1) e1 h3 fun zz W2 v2 H2 e2 st2 r2 h4 => ?_
    have hp1 : H1 p = some (dO p ob) := st p _ (fun hw => I.1.nw i l p hl h1 (I.2.trans hw)) hp
    have hp2 : H2 p = some (dO p ob) := st2 p _ (fun hw => I.1.nw i l p hl h1 (I.2.trans hw)) hp1
    split at h4
    · rename_i kk hkk
      refine ⟨v, v2, rfl, a.O, vs, l, ob, y.D, kk, zz.D, hp2, hr, (al.stp (st.stp I)).stp (st2.stp e1), r.stp (st2.stp e1), r2, hkk, fun d v' qf rd => ?_, fun qf => ?_⟩
      · rw [qf] at h4
        exact h4 ⟨a.b, a.O, a.wa, a.ρ.set j (.dt d), a.σ.set j (some v'), H2, a.hw⟩ ⟨rfl, Stp.refl⟩ rfl ⟨e2.1.set j (s := .dt d) rd (fun _ _ z => nomatch z), e2.2⟩
      · rw [qf] at h4
        dsimp only at h4
        split at h4
        · rename_i hlen
          refine ⟨hlen, fun ob' vs' hr' al' => ?_⟩
          obtain ⟨e3, st3⟩ := e2.1.putC (c := false) (u := dO p ob') hl h1 (fun H' e => ⟨ob', e, hr'⟩) al'
          exact h4 ⟨a.b, a.O, a.wa, (a.ρ.set i (.cn false (dPut kk y.D zz.D l))).set j (.dt zz.D), a.σ.set j (some v2), upd H2 p (dO p ob'), a.hw⟩ ⟨rfl, st3⟩ rfl ⟨e3.set j (s := .dt zz.D) (r2.stp st3) (fun _ _ z => nomatch z), e2.2⟩
        · exact absurd h4 id
    · exact absurd h4 id
  · exact absurd h id
end
section
variable {i j : Nat} {ρ : List Sl} {W : Option Well} {l : List Dt} {f g h : FE}
@[simp] theorem v_dnew : sDNew i ρ W = if i < ρ.length then .nx (ρ.set i (.cn false [])) W else .bad := nr rfl
@[simp] theorem v_dget (e : ρ[i]? = some (.cn false l)) : eDGet i g ρ W = (g ρ W).bind fun y W1 => match nkT y with | some k => (match dFind k l with | some dv => .ok (.d dv) W1 | none => .bad) | none => .bad := by unfold eDGet; rw [e] <;> rfl
@[simp] theorem v_din {neg : Bool} (e : ρ[i]? = some (.cn false l)) : eDIn neg i g ρ W = (g ρ W).bind fun y W1 => match nkT y with | some k => .ok (.d (.bool (neg != (dFind k l).isSome))) W1 | none => .bad := by unfold eDIn; rw [e] <;> rfl
@[simp] theorem v_dput (e : ρ[i]? = some (.cn false l)) : sDPut i f g ρ W = (f ρ W).toS ρ fun e W1 => (g ρ W1).toS ρ fun k W2 => match nkT k.D with
    | some kk => if l.length < lineN then .nx (ρ.set i (.cn false (dPut kk k.D e.D l))) W2 else .bad
    | none => .bad := by unfold sDPut; rw [e] <;> rfl
@[simp] theorem v_dsetd (e : ρ[i]? = some (.cn false l)) : sDSetD j i g h ρ W = (g ρ W).toS ρ fun k W1 => (h ρ W1).toS ρ fun z W2 => match nkT k.D with
    | some kk => (match dFind kk l with
      | some dv => .nx (ρ.set j (.dt dv)) W2
      | none => if l.length < lineN then .nx ((ρ.set i (.cn false (dPut kk k.D z.D l))).set j (.dt z.D)) W2 else .bad)
    | none => .bad := by unfold sDSetD; rw [e] <;> rfl
@[simp] theorem v_dgetOr (e : ρ[i]? = some (.cn false l)) : eDGetOr i g h ρ W = (g ρ W).bind fun y W1 => (h ρ W1).bind fun z W2 => match nkT y with
    | some k => .ok (.d ((dFind k l).getD z)) W2
    | none => .bad := by unfold eDGetOr; rw [e] <;> rfl
end
end Lw
set_option Elab.async false
set_option linter.all false
set_option maxRecDepth 100000
set_option maxHeartbeats 2000000
set_option autoImplicit false
/-! # [x, ..] * e -/
namespace Lw
open PySem PySem.Spec PyProof.Rows L2
variable [KI : FragI]
def eRepE (g : FA) (f : FE) : FE := fun ρ W => (g ρ W).bind fun as W1 => match datas as with
  | some ds => if ds.length ≤ lineN then (f ρ W1).bind fun y W2 => (match y with | .int k => if 0 ≤ k ∧ k ≤ 1000000 ∧ ds.length * k.toNat ≤ lineN then .ok (.f (List.replicate k.toNat ds).flatten) W2 else .bad | _ => .bad) else .bad
  | none => .bad
section
variable {C : Cd}
theorem se_repE {es : List Expr} {e : Expr} {g : FA} {f : FE} {lpos pos : Pos} (hs : SA C es g) (he : SE C e f) : SE C (.BinOp (.List es lpos) .Mult e pos) (eRepE g f) := by
  obtain ⟨t, p, s⟩ := hs
  obtain ⟨u, q, z⟩ := he
  refine ⟨_, fun X h => pe_op op_rep (pe_lst (p X h)) (q X h), fun a W Q I h => ?_⟩
  refine s.then I h fun as W1 vs H1 e1 st r1 h1 => ?_
  split at h1
  · rename_i ds e
    split at h1
    · rename_i hl
      have al := r1.datas e
      refine ⟨line_le (by rw [al.length]; exact hl), fun qq hq => ?_⟩
      have s1 : Same H1 (upd H1 qq (.lst vs)) := fun b o hb => by rw [upd_ne (ne_of_none hb hq)]; exact hb
      have I1 : (a.to (upd H1 qq (.lst vs))).Er W1 := ⟨e1.1.same s1, e1.2⟩
      have h1' := wE.later (a := a.to H1) (W := W1) (W1 := W1) e1 I1 (Est.same s1) h1
      have hqw : a.hw = true → qq ≠ a.wa := fun hw z => by
        obtain ⟨w, ew⟩ := Option.isSome_iff_exists.mp (e1.2.trans hw)
        have h3 : H1 a.wa = some (.lst (wellVs w)) := (e1.1.wl w ew).2
        rw [← z, hq] at h3
        cases h3
      refine z.then (a := a.to (upd H1 qq (.lst vs))) I1 h1' fun y W2 v2 H2 e2 st2 r2 h2 => ?_
      split at h2
      · rename_i k
        split at h2
        · rename_i hc
          cases r2
          have hP := wE.pure (a := a.to H2) (o := some (.f (List.replicate k.toNat ds).flatten)) e2 h2
          have hq2 : H2 qq = some (.lst vs) := st2 qq _ hqw upd_same
          refine ⟨qq, k, vs, rfl, rfl, hq2, by omega, by omega, line_le (by rw [al.length]; exact hc.2.2), fun q' hq' => ?_⟩
          have s2 : Same H2 (upd H2 q' (.lst (List.replicate k.toNat vs).flatten)) := fun b o hb => by rw [upd_ne (ne_of_none hb hq')]; exact hb
          refine hP q' _ _ s2 hq' upd_same ?_
          have al2 : RpA a.O H2 vs ds := (al.stp (Stp.same s1)).stp (st2.stp (a := a.to (upd H1 qq (.lst vs))) I1)
          exact (al2.rep k.toNat).stp (stp_ou hq')
        · exact absurd h2 id
      · exact absurd h2 id
    · exact absurd h1 id
  · exact absurd h1 id
end
@[simp] theorem v_repE {g : FA} {f : FE} {ρ : List Sl} {W : Option Well} : eRepE g f ρ W = (g ρ W).bind fun as W1 => match datas as with
  | some ds => if ds.length ≤ lineN then (f ρ W1).bind fun y W2 => (match y with | .int k => if 0 ≤ k ∧ k ≤ 1000000 ∧ ds.length * k.toNat ≤ lineN then .ok (.f (List.replicate k.toNat ds).flatten) W2 else .bad | _ => .bad) else .bad
  | none => .bad := nr rfl
end Lw
set_option Elab.async false
set_option linter.all false
set_option maxRecDepth 100000
set_option maxHeartbeats 2000000
set_option autoImplicit false
/-! # a name that holds an own list, or data -/
namespace Lw
open PySem PySem.Spec PyProof.Rows L2
variable [KI : FragI]
def eNoneM (neg : Bool) (i : Nat) : FE := fun ρ W => match ρ[i]? with
  | some (.cn _ _) => .ok (.d (.bool neg)) W
  | some (.dt d) => .ok (.d (.bool (isNone d != neg))) W
  | _ => .bad
def aBorM (i : Nat) (g : FA) : FA := fun ρ W => match ρ[i]? with
  | some (.cn true l) => (g ρ W).bindA fun as W2 => .ok (.dt (.list l) :: as) W2
  | some (.dt d) => (g ρ W).bindA fun as W2 => .ok (.dt d :: as) W2
  | _ => .bad
def sOwnM (i : Nat) (f : FE) : FS := fun ρ W => (f ρ W).toS ρ fun e W1 => match e with | .f l => if i < ρ.length then .nx (ρ.set i (.cn true l)) W1 else .bad | .d d => .nx (ρ.set i (.dt d)) W1
section
variable {C : Cd} {i : Nat} {x : Str} {pos pos' pos2 : Pos} {j : Option String}
theorem isN_snd {a : At} {W : Option Well} {Q : VK} {neg : Bool} (I : a.Er W) (h : wE C.Wx C.ca a Q (eNoneM neg i a.ρ W)) : ∃ v, a.σ[i]? = some (some v) ∧ Q (.bl (decide (v = .non) != neg)) a.H := by
  unfold eNoneM at h
  split at h
  · rename_i c l e
    obtain ⟨o, h1, h2⟩ := I.1.sl i _ e
    cases o with
    | none => exact absurd h2 id
    | some v =>
      obtain ⟨p, vs, rfl, _⟩ := h2
      refine ⟨_, h1, ?_⟩
      have : (decide (V.ref p = V.non) != neg) = neg := by
        rw [decide_eq_false (fun z => nomatch z)]
        cases neg <;> rfl
      rw [this]
      exact h _ a.H I Est.refl (.bl _)
  · rename_i d e
    obtain ⟨o, h1, h2⟩ := I.1.sl i _ e
    cases o with
    | none => exact absurd h2 id
    | some v =>
      refine ⟨v, h1, ?_⟩
      have r : Rp a.O a.H v d := h2
      rw [r.isNone]
      exact h _ a.H I Est.refl (.bl _)
  · exact absurd h id
theorem sc_isNM (hN : C.N[i]? = some x) (hv : Vis C.sc x) {k : Nat} (h1 : behindInMarks .Is (.Constant .none k pos') = false := by rfl) (hd : (x == ("__debug__" : Str)) = false := by decide) (hcd : (x == ("__classdict__" : Str)) = false := by decide) :
    SC C (.Compare (.Name x pos2) [.Is] [.Constant .none k pos'] pos) (eNoneM false i) := by
  have p := fun X (h : C.P X) => pe_var (X := X) (i := i) (pos := pos2) (by rw [C.hN X h]; exact hN) (by rw [C.hsc X h]; exact hv) hd hcd
  refine ⟨_, fun X h => ⟨pe_cmp (pc_isN (p X h)) h1, pt_cmp (pc_isN (p X h)) h1⟩, fun a W Q I h => ?_⟩
  obtain ⟨v, h1, h2⟩ := isN_snd (neg := false) I h
  refine ⟨v, h1, ?_⟩
  have e : (decide (v = .non) != false) = decide (v = .non) := by cases decide (v = V.non) <;> rfl
  rw [e] at h2
  exact h2
theorem sc_notNM (hN : C.N[i]? = some x) (hv : Vis C.sc x) {k : Nat} (h1 : behindInMarks .IsNot (.Constant .none k pos') = false := by rfl) (hd : (x == ("__debug__" : Str)) = false := by decide) (hcd : (x == ("__classdict__" : Str)) = false := by decide) :
    SC C (.Compare (.Name x pos2) [.IsNot] [.Constant .none k pos'] pos) (eNoneM true i) := by
  have p := fun X (h : C.P X) => pe_var (X := X) (i := i) (pos := pos2) (by rw [C.hN X h]; exact hN) (by rw [C.hsc X h]; exact hv) hd hcd
  refine ⟨_, fun X h => ⟨pe_cmp (pc_notN (p X h)) h1, pt_cmp (pc_notN (p X h)) h1⟩, fun a W Q I h => ?_⟩
  obtain ⟨v, h1, h2⟩ := isN_snd (neg := true) I h
  refine ⟨v, h1, ?_⟩
  have e : (decide (v = .non) != true) = !decide (v = .non) := by cases decide (v = V.non) <;> rfl
  rw [e] at h2
  exact h2
theorem sab_borM {es : List Expr} {g : FA} (hN : C.N[i]? = some x) (hv : Vis C.sc x) (hs : SAB C es g) (hd : (x == ("__debug__" : Str)) = false := by decide) (hcd : (x == ("__classdict__" : Str)) = false := by decide)
    (hst : ∀ env, starEach (.Name x pos :: es) env = (false, eval (.Name x pos) env) :: starEach es env := by intro _; rfl) : SAB C (.Name x pos :: es) (aBorM i g) := by
  obtain ⟨u, q, z⟩ := hs
  refine ⟨_, fun X h => pa_cons (pe_var (by rw [C.hN X h]; exact hN) (by rw [C.hsc X h]; exact hv) hd hcd) (q X h) (hst _), fun a W Q I h => ?_⟩
  unfold aBorM at h
  split at h
  · rename_i l e
    obtain ⟨o, h1, h2⟩ := I.1.sl i _ e
    cases o with
    | none => exact absurd h2 id
    | some v =>
      refine ⟨v, h1, ?_⟩
      obtain ⟨p, us, rfl, _⟩ := h2
      refine z a W _ I ?_
      unfold RA.bindA at h
      cases hg : g a.ρ W with
      | bad => rw [hg] at h; exact h
      | exc c W2 => rw [hg] at h; exact h
      | ok as W2 =>
        rw [hg] at h
        exact fun vs H2 e2 st2 r2 => h (.ref p :: vs) H2 e2 st2 (.cons (.inr ⟨p, l, i, rfl, rfl, e, h1⟩) r2)
  · rename_i d e
    obtain ⟨o, h1, h2⟩ := I.1.sl i _ e
    cases o with
    | none => exact absurd h2 id
    | some v =>
      refine ⟨v, h1, ?_⟩
      have r1 : Rp a.O a.H v d := h2
      refine z a W _ I ?_
      unfold RA.bindA at h
      cases hg : g a.ρ W with
      | bad => rw [hg] at h; exact h
      | exc c W2 => rw [hg] at h; exact h
      | ok as W2 =>
        rw [hg] at h
        exact fun vs H2 e2 st2 r2 => h (v :: vs) H2 e2 st2 (.cons (.inl (r1.stp (Est.stp st2 I))) r2)
  · exact absurd h id
theorem ar_borM {i : Nat} {g : FA} {n : Nat} (h : ArN g n) : ArN (aBorM i g) (n + 1) := fun ρ W as W1 e => by
  unfold aBorM at e
  split at e
  all_goals first
    | (unfold RA.bindA at e
       dsimp only at e
       split at e
       · rename_i as2 W3 e3
         cases e
         rw [List.length_cons, h _ _ _ _ e3]
       · cases e
       · cases e)
    | cases e
end
section
variable {Wx : WX} {ca : Nat → Addr}
theorem SndE.ownM {t : TE} {f : FE} (s : SndE Wx ca t f) (i : Nat) {mk : Bool} : SndS Wx ca mk (tAsg t (gName i)) (sOwnM i f) := fun a W Dn hm I h => by
  refine s a W _ I ?_
  have h' : wS Wx ca a Dn ((f a.ρ W).toS a.ρ fun e W1 => match e with | .f l => if i < a.ρ.length then .nx (a.ρ.set i (.cn true l)) W1 else .bad | .d d => .nx (a.ρ.set i (.dt d)) W1) := h
  revert h'
  cases f a.ρ W with
  | bad => exact id
  | exc c W1 => exact fun h H' e1 st => h (a.to H') (Aft.est I st) rfl e1
  | ok e W1 =>
    cases e with
    | d x =>
      intro h v H1 e1 st r
      have h2 : wS Wx ca a Dn (.nx (a.ρ.set i (.dt x)) W1) := h
      have I2 : (⟨a.b, a.O, a.wa, a.ρ.set i (.dt x), a.σ.set i (some v), H1, a.hw⟩ : At).Er W1 := ⟨e1.1.set i r (fun _ _ z => nomatch z), e1.2⟩
      exact h2 ⟨a.b, a.O, a.wa, a.ρ.set i (.dt x), a.σ.set i (some v), H1, a.hw⟩ ⟨rfl, st.stp I⟩ rfl I2
    | f l =>
      intro h p vs H1 e1 st hn e2 np nw no hp al hb
      have h2 : wS Wx ca a Dn (if i < a.ρ.length then .nx (a.ρ.set i (.cn true l)) W1 else .bad) := h
      split at h2
      · rename_i hi
        have I2 : (⟨a.b, OU a.O p, a.wa, a.ρ.set i (.cn true l), a.σ.set i (some (.ref p)), H1, a.hw⟩ : At).Er W1 := ⟨e1.setOw i hi np nw no hp al hb, e2.2⟩
        exact h2 ⟨a.b, OU a.O p, a.wa, a.ρ.set i (.cn true l), a.σ.set i (some (.ref p)), H1, a.hw⟩ ⟨rfl, st.stpO I hn⟩ rfl I2
      · exact absurd h2 id
end
section
variable {C : Cd}
theorem ss_ownM {i : Nat} {x : Str} {e : Expr} {f : FE} {pos pos' : Pos} (hi : C.N[i]? = some x) (hx : Loc C.sc x) (hf : C.fn x = true ∨ C.sc.names.lookup x = some .local) (he : SE C e f)
    (hs : ∀ X, C.P X → swapsWith e (some (.Name x pos')) pos.line X.env = pure false := by intro _ _; rfl) : SS C (.Assign [.Name x pos'] e pos) (sOwnM i f) := by
  obtain ⟨t, p, s⟩ := he
  exact ⟨_, fun X h => ps_set (by rw [C.hN X h]; exact C.nd) (by rw [C.hN X h]; exact hi) (by rw [C.hsc X h]; exact hx) (p X h) (hs X h) (by rw [C.hfn X h, C.hsc X h]; exact hf), s.ownM i⟩
end
section
variable {ρ : List Sl} {W : Option Well} {i : Nat} {fa : FA} {f : FE}
@[simp] theorem v_noneMc {neg c : Bool} {l : List Dt} (h : ρ[i]? = some (.cn c l)) : eNoneM neg i ρ W = .ok (.d (.bool neg)) W := by unfold eNoneM; rw [h] <;> rfl
@[simp] theorem v_noneMd {neg : Bool} {d : Dt} (h : ρ[i]? = some (.dt d)) : eNoneM neg i ρ W = .ok (.d (.bool (isNone d != neg))) W := by unfold eNoneM; rw [h] <;> rfl
@[simp] theorem v_borMc {l : List Dt} (h : ρ[i]? = some (.cn true l)) : aBorM i fa ρ W = (fa ρ W).bindA fun as W2 => .ok (.dt (.list l) :: as) W2 := by unfold aBorM; rw [h] <;> rfl
@[simp] theorem v_borMd {d : Dt} (h : ρ[i]? = some (.dt d)) : aBorM i fa ρ W = (fa ρ W).bindA fun as W2 => .ok (.dt d :: as) W2 := by unfold aBorM; rw [h] <;> rfl
@[simp] theorem v_ownM : sOwnM i f ρ W = (f ρ W).toS ρ fun e W1 => match e with | .f l => if i < ρ.length then .nx (ρ.set i (.cn true l)) W1 else .bad | .d d => .nx (ρ.set i (.dt d)) W1 := nr rfl
end
end Lw
set_option Elab.async false
set_option linter.all false
set_option maxRecDepth 100000
set_option maxHeartbeats 2000000
set_option autoImplicit false
/-! # a comprehension with two fors -/
namespace Lw
open PySem PySem.Spec PyProof.Rows L2
variable [KI : FragI]
/-- a walk within a walk, the list D under way -/
theorem lc_it1 {J : It} {n : Nat} {G : Hp → Prop} {Y : Nat → Hp → V → Hp → Prop} (w : Walk J n G Y) {g : TG} {tt : TT} {te : TE} {vs : List Nat} {σ : L2.St} {H1 : Hp} {D : Addr} {Qd : Hp → Prop} (Pv : Nat → Hp → Prop) (h0 : Pv 0 H1) (hG : ∀ i H, i ≤ n → Pv i H → G H)
    (hs : ∀ i x H H', i < n → Pv i H → Y i H x H' → g x (wipe σ vs) H' fun σ2 H2 => wipe σ2 vs = wipe σ vs ∧ tt σ2 H2 fun b H3 =>
      if b = true then te σ2 H3 fun y H4 => ∃ acc, H4 D = some (.lst acc) ∧ acc.length < sizeLine ∧ Pv (i + 1) (upd H4 D (.lst (acc ++ [y]))) else Pv (i + 1) H3) (hd : ∀ H, Pv n H → Qd H) :
    ∃ W : Nat → Nat → Hp → Prop, (∃ m, W 0 m H1) ∧ ∀ i m H, W i m H →
      (J.stop i H ∧ Qd H) ∨ (J.go i H ∧ ∃ Nx : Hp → Prop, (∀ H', Nx H' → ∃ m', m' < m ∧ W (i + 1) m' H') ∧ ∀ x H', J.yld i H x H' → g x (wipe σ vs) H' fun σ2 H2 => wipe σ2 vs = wipe σ vs ∧ tt σ2 H2 fun b H3 =>
        if b = true then te σ2 H3 fun y H4 => ∃ acc, H4 D = some (.lst acc) ∧ acc.length < sizeLine ∧ Nx (upd H4 D (.lst (acc ++ [y]))) else Nx H3) := by
  refine ⟨fun i m H => m = n - i ∧ i ≤ n ∧ Pv i H, ⟨n, by omega, Nat.zero_le _, h0⟩, fun i m H p => ?_⟩
  obtain ⟨e, hi, p⟩ := p
  have q := hG i H hi p
  by_cases z : i = n
  · subst z
    exact .inl ⟨w.stops H q, hd H p⟩
  · have hlt : i < n := by omega
    exact .inr ⟨w.goes i H hlt q, Pv (i + 1), fun H' p' => ⟨n - (i + 1), by omega, rfl, hlt, p'⟩, fun x H' y => hs i x H H' hlt p (w.yields i H x H' hlt q y)⟩
section
variable {b : Bs} {O : Own} {wa D : Addr} {W W' : Option Well} {ρ : List Sl} {σ : L2.St} {H H' : Hp} {u : HO}
/-- more objects, and the list D another -/
theorem ER.grow (I : ER b (OU O D) wa W ρ σ H) (hno : ∀ {c : Bool} (i : Nat) (l : List Dt), ρ[i]? = some (.cn c l) → σ[i]? ≠ some (some (.ref D))) (st : ∀ z o, z ≠ D → (W.isSome = true → z ≠ wa) → H z = some o → H' z = some o)
    (hD : H' D = some u) (hwl : ∀ w, W' = some w → H' wa = some (.lst (wellVs w))) (iw : W'.isSome = W.isSome) (hb : b.H D = none) : ER b (OU O D) wa W' ρ σ H' := by
  have ow : W.isSome = true → OU O D wa := fun h => by
    obtain ⟨w, hw⟩ := Option.isSome_iff_exists.mp h
    exact (I.wl w hw).1
  have stp : Stp (OU O D) H (OU O D) H' := fun z o n q => ⟨n, st z o (fun e => n (.inr e)) (fun h e => n (e ▸ ow h)) q⟩
  refine ⟨I.len, fun a oa => ?_, fun i x hx => ?_, I.inj, fun i l a h1 h2 h3 => I.nw i l a h1 h2 (iw.symm.trans h3), fun w hw => ⟨ow (by rw [← iw, hw]; rfl), hwl w hw⟩, fun a o h1 h2 => ?_, I.sub, I.new, fun hm => ⟨iw.trans (I.wm hm).1, (I.wm hm).2⟩, fun hm => ⟨(I.wn hm).1, fun h => (I.wn hm).2 (iw.symm.trans h)⟩⟩
  · by_cases e : a = D
    · rw [e, hD]; exact fun z => nomatch z
    · cases q : H a with
      | none => exact absurd q (I.al a oa)
      | some o =>
        by_cases hw : W.isSome = true ∧ a = wa
        · obtain ⟨w, hw'⟩ := Option.isSome_iff_exists.mp (iw.trans hw.1)
          rw [hw.2, hwl w hw']
          exact fun z => nomatch z
        · rw [st a o e (fun h1 h2 => hw ⟨h1, h2⟩) q]
          exact fun z => nomatch z
  · obtain ⟨o, h1, h2⟩ := I.sl i x hx
    refine ⟨o, h1, h2.stp stp fun a u oa ha h0 hl ho => ⟨oa, ?_⟩⟩
    obtain ⟨c, l, rfl⟩ := hl
    subst ho
    exact st a u (fun e => hno i l hx (e ▸ h1)) (fun h3 => I.nw i l a hx h1 h3) ha
  · refine st a o (fun e => ?_) (fun h3 e => ?_) (I.keep a o h1 h2)
    · rw [e, hb] at h2; cases h2
    · cases hm : b.mkw with
      | false =>
        obtain ⟨m1, m2⟩ := I.wm hm
        exact h1 (m1.symm.trans h3) (e.trans m2)
      | true =>
        have := (I.wn hm).2 h3
        rw [← e, h2] at this
        cases this
end
/-- a target makes no own list -/
def FgOk (fg : FG) (ix : List Nat) : Prop := ∀ d ρ ρ', fg d ρ = some ρ' → ∀ (j : Nat) (c : Bool) (l : List Dt), ρ'[j]? = some (.cn c l) → ρ[j]? = some (.cn c l) ∧ j ∉ ix
def FgsOk (fg : FGs) (ix : List Nat) : Prop := ∀ ds ρ ρ', fg ds ρ = some ρ' → ∀ (j : Nat) (c : Bool) (l : List Dt), ρ'[j]? = some (.cn c l) → ρ[j]? = some (.cn c l) ∧ j ∉ ix
theorem fgo_name {i : Nat} : FgOk (fgName i) [i] := fun d ρ ρ' e j c l h => by
  cases e
  by_cases z : i = j
  · subst z
    by_cases hl : i < ρ.length
    · rw [List.getElem?_set_self hl] at h; cases h
    · rw [List.getElem?_eq_none (by rw [List.length_set]; omega)] at h; cases h
  · rw [List.getElem?_set_ne z] at h
    exact ⟨h, fun m => z (List.mem_singleton.mp m).symm⟩
theorem fgo_nil : FgsOk fgNil [] := fun ds ρ ρ' e j c l h => by
  unfold fgNil at e
  split at e
  · cases e; exact ⟨h, fun z => nomatch z⟩
  · cases e
theorem fgo_cons {f : FG} {g : FGs} {ix iy : List Nat} (hf : FgOk f ix) (hg : FgsOk g iy) : FgsOk (fgCons f g) (ix ++ iy) := fun ds ρ ρ' e j c l h => by
  unfold fgCons at e
  split at e
  · split at e
    · rename_i ρ1 e1
      obtain ⟨h1, n1⟩ := hg _ _ _ e j c l h
      obtain ⟨h2, n2⟩ := hf _ _ _ e1 j c l h1
      exact ⟨h2, fun m => (List.mem_append.mp m).elim n2 n1⟩
    · cases e
  · cases e
theorem fgo_tup {g : FGs} {ix : List Nat} (hg : FgsOk g ix) : FgOk (fgTup g) ix := fun d ρ ρ' e => by
  unfold fgTup at e
  split at e
  · exact hg _ _ _ e
  · cases e
theorem wipeS_cn {ρ : List Sl} {j : Nat} {c : Bool} {l : List Dt} : ∀ {vs : List Nat}, (wipeS ρ vs)[j]? = some (.cn c l) → ρ[j]? = some (.cn c l) ∧ j ∉ vs
  | [], h => ⟨h, fun z => nomatch z⟩
  | v :: vs, h => by
    unfold wipeS at h
    by_cases z : v = j
    · subst z
      by_cases hl : v < (wipeS ρ vs).length
      · rw [List.getElem?_set_self hl] at h; cases h
      · rw [List.getElem?_eq_none (by rw [List.length_set]; omega)] at h; cases h
    · rw [List.getElem?_set_ne z] at h
      obtain ⟨h1, h2⟩ := wipeS_cn h
      exact ⟨h1, fun m => (List.mem_cons.mp m).elim (fun e => z e.symm) h2⟩
def lcGo2 (fg : FG) (ft : FT) (fi1 : FI) (vs1 : List Nat) (fg1 : FG) (ft1 : FT) (fe : FE) (ρ : List Sl) : List D → Option Well → RL
  | [], W => .ok [] W
  | d :: r, W => match fg d ρ with
    | none => .bad
    | some ρ2 => match ft ρ2 W with
      | .ok true W1 => (match fi1 ρ2 W1 with
        | .ok its W2 => (match lcGo fg1 ft1 fe (wipeS ρ2 vs1) its W2 with
          | .ok l W3 => (match lcGo2 fg ft fi1 vs1 fg1 ft1 fe ρ r W3 with | .ok l' W4 => .ok (l ++ l') W4 | .bad => .bad)
          | .bad => .bad)
        | _ => .bad)
      | .ok false W1 => lcGo2 fg ft fi1 vs1 fg1 ft1 fe ρ r W1
      | _ => .bad
def eLc2 (fi : FI) (fg : FG) (ft : FT) (fi1 : FI) (fg1 : FG) (ft1 : FT) (fe : FE) (vs vs1 : List Nat) : FE := fun ρ W => match fi ρ W with
  | .ok l W1 => (match lcGo2 fg ft fi1 vs1 fg1 ft1 fe (wipeS ρ vs) l W1 with | .ok r W2 => if r.length ≤ lineN then .ok (.f r) W2 else .bad | .bad => .bad)
  | .exc c W1 => .exc c W1
  | .bad => .bad
section
variable {C : Cd}
theorem snd_lc2 {wi wi1 : TI} {g g1 : TG} {tt tt1 : TT} {te : TE} {fi fi1 : FI} {fg fg1 : FG} {ft ft1 : FT} {fe : FE} {ix ix1 vs vs1 : List Nat} (si : SndI C.Wx C.ca wi fi) (sg : SndG g fg ix) (st : SndT (fun _ _ _ _ => False) C.ca tt ft)
    (si1 : SndI (fun _ _ _ _ => False) C.ca wi1 fi1) (sg1 : SndG g1 fg1 ix1) (st1 : SndT (fun _ _ _ _ => False) C.ca tt1 ft1) (se : SndE (fun _ _ _ _ => False) C.ca te fe) (hix : ∀ j ∈ ix, j ∈ vs) (hix1 : ∀ j ∈ ix1, j ∈ vs1) (hfo : FgOk fg ix) :
    SndE C.Wx C.ca (tLc2 wi g tt wi1 g1 tt1 te vs vs1) (eLc2 fi fg ft fi1 fg1 ft1 fe vs vs1) := fun a W Q I h => by
  refine si a W _ I ?_
  unfold eLc2 at h
  cases ei : fi a.ρ W with
  | bad => rw [ei] at h; exact h
  | exc c W1 => rw [ei] at h; exact h
  | ok items W1 =>
    rw [ei] at h
    dsimp only at h
    cases er : lcGo2 fg ft fi1 vs1 fg1 ft1 fe (wipeS a.ρ vs) items W1 with
    | bad => rw [er] at h; exact absurd h id
    | ok res W2 =>
      rw [er] at h
      dsimp only at h
      split at h
      · rename_i hlen
        intro J H1 I1 sto wk D hD
        obtain ⟨G, Y, wlk, hG, hY⟩ := wk
        have fin := wE.call (ca := C.ca) (a := a.to H1) (r := .ok (.f res) W2) I1 (wE.later (r := .ok (.f res) W2) I I1 sto h)
        have hbD : a.b.H D = none := I1.1.base_none hD
        have nwD : a.hw = true → D ≠ a.wa := fun hw e => snd_lc.wne I1 hw (e ▸ hD)
        refine ⟨fun i m H => m = items.length - i ∧ i ≤ items.length ∧ ∃ dn rest Wi vs', dn ++ rest = res ∧ lcGo2 fg ft fi1 vs1 fg1 ft1 fe (wipeS a.ρ vs) (items.drop i) Wi = .ok rest W2 ∧ Cal a.wa W1 Wi H1 H ∧ H D = some (.lst vs') ∧ RpA (OU a.O D) H vs' dn, ?_, ?_⟩
        · exact ⟨_, rfl, Nat.zero_le _, [], res, W1, [], rfl, er, ⟨fun z o _ q => same_upd hD z o q, fun w hw => same_upd hD _ _ (I1.1.wl w hw).2, rfl⟩, upd_same, .nil⟩
        · rintro i m H ⟨rfl, hi, dn, rest, Wi, vs', hres, hgo, cc, hv, hal⟩
          have hGH : G H := hG (OU a.O D) H (snd_lc.stpD I1 hD cc)
          by_cases hz : i = items.length
          · subst hz
            rw [List.drop_length] at hgo
            cases hgo
            rw [List.append_nil] at hres
            subst hres
            exact .inl ⟨wlk.stops H hGH, fin D vs' H cc hD hv hal⟩
          · have hlt : i < items.length := by omega
            refine .inr ⟨wlk.goes i H hlt hGH, fun H => ∃ dn rest Wi vs', dn ++ rest = res ∧ lcGo2 fg ft fi1 vs1 fg1 ft1 fe (wipeS a.ρ vs) (items.drop (i + 1)) Wi = .ok rest W2 ∧ Cal a.wa W1 Wi H1 H ∧ H D = some (.lst vs') ∧ RpA (OU a.O D) H vs' dn, fun H' p' => ⟨items.length - (i + 1), by omega, rfl, hlt, p'⟩, fun x H' hy0 => ?_⟩
            have hy := wlk.yields i H x H' hlt hGH hy0
            have stp : Stp a.O H1 (OU a.O D) H := snd_lc.stpD I1 hD cc
            have eb : ER a.b (OU a.O D) a.wa Wi a.ρ a.σ H := I1.1.callOwn cc hD hv
            obtain ⟨sm, d, hd, rd⟩ := hY i H x H' (OU a.O D) hlt stp eb.al hy
            have hdrop : items.drop i = d :: items.drop (i + 1) := by
              obtain ⟨hlt, e⟩ := List.getElem?_eq_some_iff.mp hd
              rw [List.drop_eq_getElem_cons hlt, e]
            rw [hdrop] at hgo
            unfold lcGo2 at hgo
            split at hgo
            · cases hgo
            · rename_i ρ2 eg
              have iw : Wi.isSome = a.hw := cc.2.2.trans I1.2
              have noD : ∀ {c : Bool} (j : Nat) (l : List Dt), a.ρ[j]? = some (.cn c l) → a.σ[j]? ≠ some (some (.ref D)) := fun j l hj hs => by
                obtain ⟨o, h1, h2⟩ := I1.1.sl j _ hj
                have hs' : (a.to H1).σ[j]? = some (some (.ref D)) := hs
                rw [hs'] at h1
                cases h1
                obtain ⟨q, ws, hx, _, hw, _⟩ := h2
                cases hx
                obtain ⟨_, hw⟩ := hw.some
                have hD' : (a.to H1).H D = none := hD
                rw [hD'] at hw
                cases hw
              have ew : (⟨a.b, OU a.O D, a.wa, wipeS a.ρ vs, wipe a.σ vs, H', a.hw⟩ : At).Er Wi := ⟨(eb.same sm).wipe vs, iw⟩
              refine sg ⟨a.b, OU a.O D, a.wa, wipeS a.ρ vs, wipe a.σ vs, H', a.hw⟩ Wi x d ρ2 _ ew rd eg fun σ2 e2 k2 l2 => ?_
              have noD2 : ∀ {c : Bool} (j : Nat) (l : List Dt), ρ2[j]? = some (.cn c l) → σ2[j]? ≠ some (some (.ref D)) := fun j l hj hs => by
                obtain ⟨h1, n1⟩ := hfo _ _ _ eg j _ l hj
                obtain ⟨h2, n2⟩ := wipeS_cn h1
                rw [k2 j n1] at hs
                have hs' : (wipe a.σ vs)[j]? = some (some (.ref D)) := hs
                rw [wipe_out' n2] at hs'
                exact noD j l h2 hs'
              refine ⟨?_, ?_⟩
              · rw [← wipe_idem (σ := a.σ) (vs := vs)]
                exact wipe_eq l2 fun j hj => k2 j fun m => hj (hix j m)
              · refine st _ Wi _ e2 ?_
                split at hgo
                · rename_i Wa et
                  rw [et]
                  intro H3 e3 st3
                  rw [if_pos rfl]
                  refine si1 ⟨a.b, OU a.O D, a.wa, ρ2, σ2, H3, a.hw⟩ Wa _ e3 ?_
                  split at hgo
                  · rename_i its Wb ef
                    rw [ef]
                    intro J1 H4 e4 st4 wk1
                    obtain ⟨G1, Y1, wlk1, hG1, hY1⟩ := wk1
                    split at hgo
                    · rename_i l Wc el
                      split at hgo
                      · rename_i rest' Wd er2
                        cases hgo
                        have hv4 : H4 D = some (.lst vs') := st4 D _ (fun hw => nwD hw) (st3 D _ (fun hw => nwD hw) (sm _ _ hv))
                        have hal4 : RpA (OU a.O D) H4 vs' dn := ((hal.stp (Stp.same sm)).stp (st3.stp e2)).stp (st4.stp e3)
                        have cal4 : Cal a.wa W1 Wb H1 H4 := ⟨fun z o n q => by
                          have n' : a.hw = true → z ≠ a.wa := fun h => n (I1.2.trans h)
                          exact st4 z o n' (st3 z o n' (sm z o (cc.1 z o n q))), fun w hw => (e4.1.wl w hw).2, e4.2.trans I1.2.symm⟩
                        have hlres : (dn ++ (l ++ rest')).length ≤ lineN := by rw [hres]; exact hlen
                        refine lc_it1 wlk1 (fun j H => ∃ dn1 rest1 Wj ws, dn1 ++ rest1 = l ∧ lcGo fg1 ft1 fe (wipeS ρ2 vs1) (its.drop j) Wj = .ok rest1 Wc ∧ (∀ z o, z ≠ D → (a.hw = true → z ≠ a.wa) → H4 z = some o → H z = some o) ∧ Cal a.wa W1 Wj H1 H ∧ H D = some (.lst ws) ∧ RpA (OU a.O D) H ws (dn ++ dn1)) ?_ ?_ ?_ ?_
                        · exact ⟨[], l, Wb, vs', rfl, el, fun z o _ _ q => q, cal4, hv4, by rw [List.append_nil]; exact hal4⟩
                        · rintro j Hj _ ⟨dn1, rest1, Wj, ws, _, _, kp, cj, _, _⟩
                          exact hG1 (OU a.O D) Hj fun z o n q => ⟨n, kp z o (fun e => n (.inr e)) (fun hw e => by
                            obtain ⟨w, hw'⟩ := Option.isSome_iff_exists.mp (e4.2.trans hw)
                            exact n (e ▸ (e4.1.wl w hw').1)) q⟩
                        · rintro j x1 Hj Hj' hj ⟨dn1, rest1, Wj, ws, hl1, hgo1, kp, cj, hvj, halj⟩ hy1
                          have iwj : Wj.isSome = a.hw := cj.2.2.trans I1.2
                          have egj : ER a.b (OU a.O D) a.wa Wj ρ2 σ2 Hj := e4.1.grow noD2 (fun z o n1 n2 q => kp z o n1 (fun h => n2 (e4.2.trans h)) q) hvj cj.2.1 (iwj.trans e4.2.symm) hbD
                          have stp4 : Stp (OU a.O D) H4 (OU a.O D) Hj := fun z o n q => ⟨n, kp z o (fun e => n (.inr e)) (fun hw e => by
                            obtain ⟨w, hw'⟩ := Option.isSome_iff_exists.mp (e4.2.trans hw)
                            exact n (e ▸ (e4.1.wl w hw').1)) q⟩
                          obtain ⟨sm1, d1, hd1, rd1⟩ := hY1 j Hj x1 Hj' (OU a.O D) hj stp4 egj.al hy1
                          have hdrop1 : its.drop j = d1 :: its.drop (j + 1) := by
                            obtain ⟨hlt, e⟩ := List.getElem?_eq_some_iff.mp hd1
                            rw [List.drop_eq_getElem_cons hlt, e]
                          rw [hdrop1] at hgo1
                          unfold lcGo at hgo1
                          split at hgo1
                          · cases hgo1
                          · rename_i ρ3 eg1
                            have ew1 : (⟨a.b, OU a.O D, a.wa, wipeS ρ2 vs1, wipe σ2 vs1, Hj', a.hw⟩ : At).Er Wj := ⟨(egj.same sm1).wipe vs1, iwj⟩
                            refine sg1 ⟨a.b, OU a.O D, a.wa, wipeS ρ2 vs1, wipe σ2 vs1, Hj', a.hw⟩ Wj x1 d1 ρ3 _ ew1 rd1 eg1 fun σ3 e5 k5 l5 => ?_
                            refine ⟨?_, ?_⟩
                            · rw [← wipe_idem (σ := σ2) (vs := vs1)]
                              exact wipe_eq l5 fun j hj => k5 j fun m => hj (hix1 j m)
                            · refine st1 _ Wj _ e5 ?_
                              split at hgo1
                              · rename_i Wa1 et1
                                rw [et1]
                                intro H6 e6 st6
                                rw [if_pos rfl]
                                refine se ⟨a.b, OU a.O D, a.wa, ρ3, σ3, H6, a.hw⟩ Wa1 _ e6 ?_
                                split at hgo1
                                · rename_i ev Wb1 ee
                                  rw [ee]
                                  refine wE.weak fun v H7 e7 st7 r7 => ?_
                                  split at hgo1
                                  · rename_i l1 Wc1 eg2
                                    cases hgo1
                                    have hv7 : H7 D = some (.lst ws) := st7 D _ (fun hw => nwD hw) (st6 D _ (fun hw => nwD hw) (sm1 _ _ hvj))
                                    refine ⟨ws, hv7, ?_, ?_⟩
                                    · rw [halj.length]
                                      refine Nat.lt_of_lt_of_le ?_ (line_le hlres)
                                      rw [← hl1]
                                      simp only [List.length_append, List.length_cons]
                                      omega
                                    · have hall : RpA (OU a.O D) H7 (ws ++ [v]) (dn ++ (dn1 ++ [ev.D])) := by
                                        rw [← List.append_assoc]
                                        exact ((((halj.stp (Stp.same sm1)).stp (st6.stp e5)).stp (st7.stp e6))).append (.cons r7 .nil)
                                      have hown : ∀ z o, ¬ OU a.O D z → H7 z = some o → ¬ OU a.O D z ∧ upd H7 D (.lst (ws ++ [v])) z = some o := fun z o n q => ⟨n, by rw [upd_ne (fun y => n (.inr y))]; exact q⟩
                                      refine ⟨dn1 ++ [ev.D], l1, Wb1, ws ++ [v], by rw [List.append_assoc]; exact hl1, eg2, fun z o n1 n2 q => ?_, ⟨fun z o n q => ?_, fun w hw => ?_, e7.2.trans I1.2.symm⟩, upd_same, hall.stp hown⟩
                                      · rw [upd_ne n1]
                                        exact st7 z o n2 (st6 z o n2 (sm1 z o (kp z o n1 n2 q)))
                                      · have zD : z ≠ D := fun y => by rw [y, hD] at q; exact nomatch q
                                        rw [upd_ne zD]
                                        have n' : a.hw = true → z ≠ a.wa := fun h => n (I1.2.trans h)
                                        exact st7 z o n' (st6 z o n' (sm1 z o (cj.1 z o n q)))
                                      · have nD : a.wa ≠ D := fun y => nwD (by rw [← e7.2, hw]; rfl) y.symm
                                        rw [upd_ne nD]
                                        exact (e7.1.wl w hw).2
                                  · cases hgo1
                                · cases hgo1
                              · rename_i Wa1 et1
                                rw [et1]
                                intro H6 e6 st6
                                rw [if_neg (by decide)]
                                have hv6 : H6 D = some (.lst ws) := st6 D _ (fun hw => nwD hw) (sm1 _ _ hvj)
                                refine ⟨dn1, rest1, Wa1, ws, hl1, hgo1, fun z o n1 n2 q => st6 z o n2 (sm1 z o (kp z o n1 n2 q)), ⟨fun z o n q => ?_, fun w hw => (e6.1.wl w hw).2, e6.2.trans I1.2.symm⟩, hv6, (halj.stp (Stp.same sm1)).stp (st6.stp e5)⟩
                                exact st6 z o (fun h => n (I1.2.trans h)) (sm1 z o (cj.1 z o n q))
                              · cases hgo1
                        · rintro Hn ⟨dn1, rest1, Wj, ws, hl1, hgo1, kp, cj, hvj, halj⟩
                          rw [List.drop_length] at hgo1
                          cases hgo1
                          rw [List.append_nil] at hl1
                          subst hl1
                          exact ⟨dn ++ dn1, rest', _, ws, by rw [List.append_assoc]; exact hres, er2, cj, hvj, halj⟩
                      · cases hgo
                    · cases hgo
                  · cases hgo
                · rename_i Wa et
                  rw [et]
                  intro H3 e3 st3
                  rw [if_neg (by decide)]
                  have hv3 : H3 D = some (.lst vs') := st3 D _ (fun hw => nwD hw) (sm _ _ hv)
                  refine ⟨dn, rest, Wa, vs', hres, hgo, ⟨fun z o n q => ?_, fun w hw => (e3.1.wl w hw).2, e3.2.trans I1.2.symm⟩, hv3, (hal.stp (Stp.same sm)).stp (st3.stp e2)⟩
                  exact st3 z o (fun h => n (I1.2.trans h)) (sm z o (cc.1 z o n q))
                · cases hgo
      · exact absurd h id
end
section
variable {C : Cd}
theorem se_lc2 {elt tg iter tg1 iter1 : Expr} {ifs ifs1 : List Expr} {scope : Scope} {own : List (Str × Nat)} {pos : Pos} {fi fi1 : FI} {fg fg1 : FG} {ft ft1 : FT} {fe : FE} {ix ix1 vs1 : List Nat} (hi : SI C tg iter fi) (ok : blkC C.N C.sc scope own = true) (hg : SG (C.blk scope) tg fg ix)
    (ht : ∃ tt, (∀ X, (C.blk scope).P X → PTs X ifs tt) ∧ SndT (fun _ _ _ _ => False) C.ca tt ft) (hi1 : SI (C.blk scope) tg1 iter1 fi1) (hg1 : SG (C.blk scope) tg1 fg1 ix1) (ht1 : ∃ tt, (∀ X, (C.blk scope).P X → PTs X ifs1 tt) ∧ SndT (fun _ _ _ _ => False) C.ca tt ft1) (he : SE (C.blk scope) elt fe)
    (hix : ∀ j ∈ ix, j ∈ own.map (·.2)) (hix1 : ∀ j ∈ ix1, j ∈ vs1) (hv : ∀ i ∈ vs1, i ∈ own.map (·.2)) (hfo : FgOk fg ix) (hs : ∀ env x, foldedSetIterable iter env x = pure x := by intro _ _; rfl) (hs1 : ∀ env x, foldedSetIterable iter1 env x = pure x := by intro _ _; rfl) (hcm : C.cm = true := by rfl) :
    SE C (.ListComp elt [⟨tg, iter, ifs, 0⟩, ⟨tg1, iter1, ifs1, 0⟩] scope pos) (eLc2 fi fg ft fi1 fg1 ft1 fe (own.map (·.2)) vs1) := by
  obtain ⟨t1, p1, s1⟩ := hi
  obtain ⟨t2, p2, s2⟩ := hg
  obtain ⟨t3, p3, s3⟩ := ht
  obtain ⟨u1, q1, z1⟩ := hi1
  obtain ⟨u2, q2, z2⟩ := hg1
  obtain ⟨u3, q3, z3⟩ := ht1
  obtain ⟨t4, p4, s4⟩ := he
  refine ⟨tLc2 t1 t2 t3 u1 u2 u3 t4 (own.map (·.2)) vs1, fun X h => ?_, snd_lc2 s1 s2 s3 z1 z2 z3 s4 hix hix1 hfo⟩
  exact pe_lc2 (C.calmC hcm X h) (by rw [C.hN X h]; exact C.nd) (p1 X h) (by rw [C.hN X h, C.hsc X h]; exact blkOk_by ok) hv
    (fun s H cc cl fp => p2 _ ⟨X, s, H, cc, cl, fp, h, rfl⟩) (fun s H cc cl fp => p3 _ ⟨X, s, H, cc, cl, fp, h, rfl⟩)
    (fun s H cc cl fp => q1 _ ⟨X, s, H, cc, cl, fp, h, rfl⟩) (fun s H cc cl fp => q2 _ ⟨X, s, H, cc, cl, fp, h, rfl⟩) (fun s H cc cl fp => q3 _ ⟨X, s, H, cc, cl, fp, h, rfl⟩)
    (fun s H cc cl fp => p4 _ ⟨X, s, H, cc, cl, fp, h, rfl⟩) (hs _) hs1
theorem ps_lc2 {i : Nat} {y : Str} {py : Pos} {elt tg iter tg1 iter1 : Expr} {ifs ifs1 : List Expr} {scope : Scope} {own : List (Str × Nat)} {pos spos : Pos} {fi fi1 : FI} {fg fg1 : FG} {ft ft1 : FT} {fe : FE} {ix ix1 vs1 : List Nat} (hy : C.N[i]? = some y) (hyl : C.sc.names.lookup y = some .local)
    (hsw : ∀ X, C.P X → swapsWith (.ListComp elt [⟨tg, iter, ifs, 0⟩, ⟨tg1, iter1, ifs1, 0⟩] scope pos) (some (.Name y py)) spos.line X.env = pure true) (hi : SI C tg iter fi) (ok : blkC C.N C.sc scope own = true) (hg : SG (C.blk scope) tg fg ix)
    (ht : ∃ tt, (∀ X, (C.blk scope).P X → PTs X ifs tt) ∧ SndT (fun _ _ _ _ => False) C.ca tt ft) (hi1 : SI (C.blk scope) tg1 iter1 fi1) (hg1 : SG (C.blk scope) tg1 fg1 ix1) (ht1 : ∃ tt, (∀ X, (C.blk scope).P X → PTs X ifs1 tt) ∧ SndT (fun _ _ _ _ => False) C.ca tt ft1) (he : SE (C.blk scope) elt fe)
    (hix : ∀ j ∈ ix, j ∈ own.map (·.2)) (hix1 : ∀ j ∈ ix1, j ∈ vs1) (hv : ∀ i ∈ vs1, i ∈ own.map (·.2)) (hfo : FgOk fg ix) (hs : ∀ env x, foldedSetIterable iter env x = pure x) (hs1 : ∀ env x, foldedSetIterable iter1 env x = pure x) (hcm : C.cm = true := by rfl) :
    ∃ t, (∀ X, C.P X → PS X (.Assign [.Name y py] (.ListComp elt [⟨tg, iter, ifs, 0⟩, ⟨tg1, iter1, ifs1, 0⟩] scope pos) spos) (tAsg t (gName i))) ∧ SndE C.Wx C.ca t (eLc2 fi fg ft fi1 fg1 ft1 fe (own.map (·.2)) vs1) := by
  obtain ⟨t1, p1, s1⟩ := hi
  obtain ⟨t2, p2, s2⟩ := hg
  obtain ⟨t3, p3, s3⟩ := ht
  obtain ⟨u1, q1, z1⟩ := hi1
  obtain ⟨u2, q2, z2⟩ := hg1
  obtain ⟨u3, q3, z3⟩ := ht1
  obtain ⟨t4, p4, s4⟩ := he
  refine ⟨tLc2 t1 t2 t3 u1 u2 u3 t4 (own.map (·.2)) vs1, fun X h => ?_, snd_lc2 s1 s2 s3 z1 z2 z3 s4 hix hix1 hfo⟩
  exact ps_setLc2 (C.calmC hcm X h) (by rw [C.hN X h]; exact C.nd) (by rw [C.hN X h]; exact hy) (by rw [C.hsc X h]; exact hyl) (hsw X h) (p1 X h) (by rw [C.hN X h, C.hsc X h]; exact blkOk_by ok) hv
    (fun s H cc cl fp => p2 _ ⟨X, s, H, cc, cl, fp, h, rfl⟩) (fun s H cc cl fp => p3 _ ⟨X, s, H, cc, cl, fp, h, rfl⟩)
    (fun s H cc cl fp => q1 _ ⟨X, s, H, cc, cl, fp, h, rfl⟩) (fun s H cc cl fp => q2 _ ⟨X, s, H, cc, cl, fp, h, rfl⟩) (fun s H cc cl fp => q3 _ ⟨X, s, H, cc, cl, fp, h, rfl⟩)
    (fun s H cc cl fp => p4 _ ⟨X, s, H, cc, cl, fp, h, rfl⟩) (hs _) hs1
theorem ss_setLc2 {i : Nat} {y : Str} {py : Pos} {elt tg iter tg1 iter1 : Expr} {ifs ifs1 : List Expr} {scope : Scope} {own : List (Str × Nat)} {pos spos : Pos} {fi fi1 : FI} {fg fg1 : FG} {ft ft1 : FT} {fe : FE} {ix ix1 vs1 : List Nat} (hy : C.N[i]? = some y) (hyl : C.sc.names.lookup y = some .local)
    (hsw : ∀ X, C.P X → swapsWith (.ListComp elt [⟨tg, iter, ifs, 0⟩, ⟨tg1, iter1, ifs1, 0⟩] scope pos) (some (.Name y py)) spos.line X.env = pure true) (hi : SI C tg iter fi) (ok : blkC C.N C.sc scope own = true) (hg : SG (C.blk scope) tg fg ix)
    (ht : ∃ tt, (∀ X, (C.blk scope).P X → PTs X ifs tt) ∧ SndT (fun _ _ _ _ => False) C.ca tt ft) (hi1 : SI (C.blk scope) tg1 iter1 fi1) (hg1 : SG (C.blk scope) tg1 fg1 ix1) (ht1 : ∃ tt, (∀ X, (C.blk scope).P X → PTs X ifs1 tt) ∧ SndT (fun _ _ _ _ => False) C.ca tt ft1) (he : SE (C.blk scope) elt fe)
    (hix : ∀ j ∈ ix, j ∈ own.map (·.2)) (hix1 : ∀ j ∈ ix1, j ∈ vs1) (hv : ∀ i ∈ vs1, i ∈ own.map (·.2)) (hfo : FgOk fg ix) (hs : ∀ env x, foldedSetIterable iter env x = pure x := by intro _ _; rfl) (hs1 : ∀ env x, foldedSetIterable iter1 env x = pure x := by intro _ _; rfl) (hcm : C.cm = true := by rfl) :
    SS C (.Assign [.Name y py] (.ListComp elt [⟨tg, iter, ifs, 0⟩, ⟨tg1, iter1, ifs1, 0⟩] scope pos) spos) (sSet i (eLc2 fi fg ft fi1 fg1 ft1 fe (own.map (·.2)) vs1)) := by
  obtain ⟨t, p, s⟩ := ps_lc2 hy hyl hsw hi ok hg ht hi1 hg1 ht1 he hix hix1 hv hfo hs hs1 hcm
  exact ⟨_, p, s.set i⟩
theorem ss_ownLc2 {i : Nat} {y : Str} {py : Pos} {elt tg iter tg1 iter1 : Expr} {ifs ifs1 : List Expr} {scope : Scope} {own : List (Str × Nat)} {pos spos : Pos} {fi fi1 : FI} {fg fg1 : FG} {ft ft1 : FT} {fe : FE} {ix ix1 vs1 : List Nat} (hy : C.N[i]? = some y) (hyl : C.sc.names.lookup y = some .local)
    (hsw : ∀ X, C.P X → swapsWith (.ListComp elt [⟨tg, iter, ifs, 0⟩, ⟨tg1, iter1, ifs1, 0⟩] scope pos) (some (.Name y py)) spos.line X.env = pure true) (hi : SI C tg iter fi) (ok : blkC C.N C.sc scope own = true) (hg : SG (C.blk scope) tg fg ix)
    (ht : ∃ tt, (∀ X, (C.blk scope).P X → PTs X ifs tt) ∧ SndT (fun _ _ _ _ => False) C.ca tt ft) (hi1 : SI (C.blk scope) tg1 iter1 fi1) (hg1 : SG (C.blk scope) tg1 fg1 ix1) (ht1 : ∃ tt, (∀ X, (C.blk scope).P X → PTs X ifs1 tt) ∧ SndT (fun _ _ _ _ => False) C.ca tt ft1) (he : SE (C.blk scope) elt fe)
    (hix : ∀ j ∈ ix, j ∈ own.map (·.2)) (hix1 : ∀ j ∈ ix1, j ∈ vs1) (hv : ∀ i ∈ vs1, i ∈ own.map (·.2)) (hfo : FgOk fg ix) (hs : ∀ env x, foldedSetIterable iter env x = pure x := by intro _ _; rfl) (hs1 : ∀ env x, foldedSetIterable iter1 env x = pure x := by intro _ _; rfl) (hcm : C.cm = true := by rfl) :
    SS C (.Assign [.Name y py] (.ListComp elt [⟨tg, iter, ifs, 0⟩, ⟨tg1, iter1, ifs1, 0⟩] scope pos) spos) (sOwn i (eLc2 fi fg ft fi1 fg1 ft1 fe (own.map (·.2)) vs1)) := by
  obtain ⟨t, p, s⟩ := ps_lc2 hy hyl hsw hi ok hg ht hi1 hg1 ht1 he hix hix1 hv hfo hs hs1 hcm
  exact ⟨_, p, s.own i⟩
end
@[simp] theorem v_lc2 {fi fi1 : FI} {fg fg1 : FG} {ft ft1 : FT} {fe : FE} {vs vs1 : List Nat} {ρ : List Sl} {W : Option Well} : eLc2 fi fg ft fi1 fg1 ft1 fe vs vs1 ρ W = match fi ρ W with
  | .ok l W1 => (match lcGo2 fg ft fi1 vs1 fg1 ft1 fe (wipeS ρ vs) l W1 with | .ok r W2 => if r.length ≤ lineN then .ok (.f r) W2 else .bad | .bad => .bad)
  | .exc c W1 => .exc c W1
  | .bad => .bad := nr rfl
end Lw
set_option Elab.async false
set_option linter.all false
set_option maxRecDepth 100000
set_option maxHeartbeats 2000000
set_option autoImplicit false
/-! # repr, where none is under way -/
namespace Lw
open PySem PySem.Spec PyProof.Rows L2
variable [KI : FragI]
/-! ### data read off the heap -/
mutual
/-- no dict in it but empty ones -/
def noKv : Dt → Bool
  | .list l => noKvs l
  | .tuple l => noKvs l
  | .dict [] => true
  | .dict (_ :: _) => false
  | _ => true
def noKvs : List Dt → Bool
  | [] => true
  | d :: r => noKv d && noKvs r
end
mutual
theorem noKv_of : ∀ d : Dt, d.hasDict = false → noKv d = true
  | .none, _ => by simp only [noKv]
  | .bool _, _ => by simp only [noKv]
  | .int _, _ => by simp only [noKv]
  | .str _, _ => by simp only [noKv]
  | .list l, h => by simp only [noKv]; exact noKvs_of l (by simpa only [PyData.hasDict] using h)
  | .tuple l, h => by simp only [noKv]; exact noKvs_of l (by simpa only [PyData.hasDict] using h)
  | .dict _, h => by simp only [PyData.hasDict] at h; cases h
theorem noKvs_of : ∀ l : List Dt, PyData.hasDictAll l = false → noKvs l = true
  | [], _ => by simp only [noKvs]
  | d :: r, h => by
    simp only [PyData.hasDictAll, Bool.or_eq_false_iff] at h
    simp only [noKvs, noKv_of d h.1, noKvs_of r h.2, Bool.and_self]
end
mutual
theorem reads_of {X : Cx} {pins : List (Addr × Obj)} {σ : L2.St} {H : Hp} {s : Shared} {O : Own} (I : Inv X pins σ H s) (hK : X.K = fK) : ∀ {v : V} {d : Dt}, Rp O H v d → noKv d = true → ∀ u : Value, RelV v u → ∃ as, Reads s.heap u d as
  | _, _, .non, _, u, r => ⟨[], by obtain rfl : u = Value.none := r; exact .none⟩
  | _, _, .bl b, _, u, r => ⟨[], by obtain rfl : u = Value.bool b := r; exact .bool b⟩
  | _, _, .int i, _, u, r => ⟨[], by obtain ⟨t, rfl⟩ := (r : ∃ t, u = Value.int i t); exact .int i t⟩
  | _, _, .str x, _, u, r => ⟨[], by obtain ⟨t, rfl⟩ := (r : ∃ t, u = Value.str x t); exact .str x t⟩
  | _, _, .lst q al, nk, u, r => by
    obtain rfl : u = Value.ref _ := r
    obtain ⟨its, rv, pl, _⟩ := I.list (by rw [hK]; exact q.sq)
    obtain ⟨o, ho, hc, n, hd⟩ := pl.isList
    obtain ⟨bs, hb⟩ := readsA_of I hK al (by simpa only [noKv] using nk) its rv
    exact ⟨_, .list ho hc hd hb⟩
  | _, _, .tup q al, nk, u, r => by
    obtain rfl : u = Value.ref _ := r
    obtain ⟨its, rv, pl, _⟩ := I.tuple (by rw [hK]; exact q.sq)
    obtain ⟨o, ho, hc, n, hd⟩ := pl
    obtain ⟨bs, hb⟩ := readsA_of I hK al (by simpa only [noKv] using nk) its rv
    exact ⟨_, .tuple ho hc hd hb⟩
  | _, _, (.dki (kvs := kvs) n e hd hk), nk, u, r => by
    subst hd
    cases kvs with
    | nil => exact absurd rfl hk
    | cons p l => simp [noKv] at nk
  | _, _, .dko n e hd, nk, u, r => by
    subst hd
    simp [noKv] at nk
  | _, _, .dct n e, _, u, r => by
    obtain rfl : u = Value.ref _ := r
    obtain ⟨_, _, vs, kv, o, es, ep, h1, h2, h3, h4, h5, h6⟩ := (show ObjOk X.prog X.w H s.heap _ (.dK []) from I.hok _ _ e)
    cases kv
    have hes : es.toList = [] := by
      generalize es.toList = l at h5
      cases h5
      rfl
    exact ⟨_, .dict (as := []) (bs := []) h1 h2.1 h3 (by rw [hes]; exact .nil) (by rw [hes]; exact .nil)⟩
theorem readsA_of {X : Cx} {pins : List (Addr × Obj)} {σ : L2.St} {H : Hp} {s : Shared} {O : Own} (I : Inv X pins σ H s) (hK : X.K = fK) : ∀ {vs : List V} {ds : List Dt}, RpA O H vs ds → noKvs ds = true → ∀ us : List Value, Vals vs us → ∃ as, ReadsAll s.heap us ds as
  | _, _, .nil, _, us, r => by cases r; exact ⟨[], .nil⟩
  | _, _, .cons q al, nk, us, r => by
    simp only [noKvs, Bool.and_eq_true] at nk
    cases r with
    | cons r1 rr =>
      obtain ⟨as, ha⟩ := reads_of I hK q nk.1 _ r1
      obtain ⟨bs, hb⟩ := readsA_of I hK al nk.2 _ rr
      exact ⟨_, .cons ha hb⟩
end
def isSq : Dt → Bool
  | .list _ => true
  | .tuple _ => true
  | _ => false
def showOk (d : Dt) : Bool := isSq d && (d.showable && (!d.hasDict && (decide (d.depth ≤ 100) && decide (d.shown.length ≤ sizeLine))))
theorem call_repr {X : Cx} (hg : X.A.guards = some []) (hu : X.A.units + 102 < cLine) (hK : X.K = fK) : CallR X (.builtin "repr") (fun xs H Q => ∃ (v : V) (d : Dt) (O : Own), xs = [v] ∧ Rp O H v d ∧ showOk d = true ∧ Q (.str d.shown) H) := by
  intro pins s σ H xs us Q I r h
  obtain ⟨v, d, O, rfl, rp, ok, q⟩ := h
  obtain ⟨u, rfl, rv⟩ := vals1 r
  unfold showOk at ok
  simp only [Bool.and_eq_true, decide_eq_true_eq] at ok
  obtain ⟨k1, k2, k3, k4, k5⟩ := ok
  obtain ⟨as, hr⟩ := reads_of I hK rp (noKv_of d (by simpa using k3)) u rv
  have hnd : d.hasDict = true → sysModules ∉ as := fun z => by rw [z] at k3; cases k3
  have fin : ∀ (h' : Heap) (t : Tok) (tk : Nat), (∀ b o, s.heap.get? b = some o → h'.get? b = some o) → EP X pins σ Q (.str d.shown t) { s with heap := h', toks := tk } := fun h' t tk hk => ⟨.str d.shown, H, I.kept (t' := tk) hk, ⟨t, rfl⟩, q⟩
  have hun : X.A.units + (d.depth + 1) < cLine := Nat.lt_of_le_of_lt (by omega) hu
  cases rp with
  | non => cases k1
  | bl b => cases k1
  | int i => cases k1
  | str x => cases k1
  | dct _ _ => cases k1
  | dki _ _ _ _ => cases k1
  | dko _ _ _ => cases k1
  | lst q2 al =>
    obtain rfl : u = Value.ref _ := rv
    exact repr_of_reads' hr k2 hnd hg hun (fun _ _ e => e) (fun h' t tk hk => fin h' t tk hk) k5
  | tup q2 al =>
    obtain rfl : u = Value.ref _ := rv
    exact repr_of_reads' hr k2 hnd hg hun (fun _ _ e => e) (fun h' t tk hk => fin h' t tk hk) k5
def eRepr (f : FE) : FE := fun ρ W => (f ρ W).bind fun x W1 => if showOk x = true then .ok (.d (.str x.shown)) W1 else .bad
section
variable {C : Cd}
theorem se_repr {e : Expr} {f : FE} {pos p : Pos} (hgd : ∀ X, C.P X → X.A.guards = some []) (hg : C.G "repr") (hm : C.mg "repr" = none) (ha : SE C e f) (he : ∀ env, starEach [e] env = [(false, eval e env)] := by intro _; rfl) : SE C (.Call (.Name "repr" p) [e] [] pos) (eRepr f) := by
  obtain ⟨t, q, s⟩ := ha
  refine ⟨_, fun X h => pe_callB (call_repr (hgd X h) (by have := C.unX X h; omega) (C.hK X h)) (C.gl h hg) (by rw [C.hmg X h]; exact hm) (by decide +kernel) (pa_cons (q X h) pa_nil (he _)) (by decide) (by decide) (he _) (by rfl), fun a W Q I h => ?_⟩
  refine s.then I h fun x W1 v H1 e1 st r1 h1 => ?_
  split at h1
  · rename_i ok
    exact ⟨v, x, a.O, rfl, r1, ok, h1 _ _ e1 Est.refl (.str _)⟩
  · exact absurd h1 id
end
section
variable {ρ : List Sl} {W : Option Well} {f : FE}
@[simp] theorem v_repr : eRepr f ρ W = (f ρ W).bind fun x W1 => if showOk x = true then .ok (.d (.str x.shown)) W1 else .bad := nr rfl
end
end Lw
set_option Elab.async false
set_option linter.all false
set_option maxRecDepth 100000
set_option maxHeartbeats 2000000
set_option autoImplicit false
/-! # the law's def, called where no repr is under way -/
namespace Lw
open PySem PySem.Spec PyProof.Rows L2
section
variable [KI : FragI] {P : Program} {w : World} {mg : Str → Option Value} {base : Heap}
/-- a def's call, its body told for this caller alone -/
theorem run_at {x qual : Str} {st : Stmt} {f : Addr} {fd : FuncData} {N ps : List Str} {k : Nat} {A : Around} {outer : List Env} {s : Shared} {H : Hp} {args : Args} {us : List Value} {vs : List V} {Q : VK} {E : XK} (F : L2.Fun fK x qual st f fd) (S : FnScope N ps (defScope st))
    (room : Room (k + 1) A) (en : Env0 P w fK mg base A outer s H) (bd : BindsTo s fd args (ps.zip us)) (rv : Vals vs us) (len : vs.length = ps.length)
    (body : ∀ cdv, Room k (A.deeper (envOfC qual (defScope st) s.heap.objs.size f cdv)) → ∃ t, PSs (cxOf (L2.CX P w) P w fK mg base N qual (defScope st) f cdv A outer s H E) (defBody st) t ∧ t { nx := fun _ H' => Q .non H', rt := Q } (L2.start N vs) H) :
    codeAny (model P w) A (.call (.ref f) args) (CR (L2.CX P w) outer P w H s Q E) s := by
  obtain ⟨oc, od, kV, doc, pm, an, cdv, ct, osl, rfl, lk, hcd⟩ := F.ex
  have inK : PySem.W.Frag.In fK s.heap := en.mod.kin.keeps fun b o e => (en.bs b o e).1
  have nolim : s.heap.NoLimit := en.mod.nolimit.keeps fun b o e => (en.bs b o e).1
  have kinds : ∀ y ∈ ps.zip us, (defScope st).names.lookup y.1 = some .local ∨ ((defScope st).names.lookup y.1 = some .cell ∧ ((cellsFrom (s.heap.objs.size + 1) (defScope st).names []).lookup y.1).isSome = true) := by
    rintro ⟨n, v⟩ hy
    exact (S.par n (List.of_mem_zip hy).1).imp id fun q => ⟨q, PySem.W.cellsFrom_some _ _ _ (.inl q)⟩
  refine codeAny_call_function room.depth (inK _ _ lk) rfl S.co S.gen rfl (PySem.W.codeRec_of inK hcd) (bd _ _ _ _ (wpAny_newFunctionEnv_cells S.kind kinds ?_))
  rintro _ rfl s1 ic
  obtain ⟨t, ht, hq⟩ := body cdv (room.deeper _)
  have I1 := inv_start (E := E) (CX := L2.CX P w) (qual := qual) (f := f) (cd := cdv) S room.hd en len rv ic
  refine ⟨nolim.keeps ic.toInCall.keep, codeAny_func (wpAny_mono (ht.run [] s1 _ H _ I1 hq) ?_ fun e s' hs => hs)⟩
  intro fl s' hs
  cases fl with
  | next =>
    obtain ⟨σ', H', J, q⟩ := hs
    exact ⟨V.non, H', J.os, J.bare, J.base, J.hok, rfl, q⟩
  | ret u =>
    obtain ⟨v, σ', H', J, r, q⟩ := hs
    exact ⟨v, H', J.os, J.bare, J.base, J.hok, r, q⟩
  | brk =>
    obtain ⟨_, _, _, q⟩ := hs
    exact q.elim
  | cont =>
    obtain ⟨_, _, _, q⟩ := hs
    exact q.elim
/-- the law's own promise, for callers with no repr under way -/
theorem law_at {x qual : Str} {st : Stmt} {f : Addr} {fd : FuncData} {N ps : List Str} {k : Nat} {ca : Nat → Addr} {g : FS} {n : Nat} {A : Around} {outer : List Env} {s : Shared} {H : Hp} {args : Args} {a : Addr} {ns : List Int} {Q : VK} {E : XK} (F : L2.Fun fK x qual st f fd) (S : FnScope N ps (defScope st)) (hm : ps.length = 1) (hn : N.length = n)
    (room : Room (k + 1) A) (en : Env0 P w fK mg base A outer s H) (bd : BindsTo s fd args (ps.zip [.ref a]))
    (hb : ∀ cdv hr, SB (cdOf P w mg base N ps qual (defScope st) f k ca true S cdv A outer s H E hr) (defBody st) g)
    (hs : SqL fK H a (ns.map V.int)) (hg : ∃ W', runF n g [.dt (.list (ns.map PyData.int))] none = .ok (.d (.bool true)) W') (q : ∀ H', Q (.bl true) H') :
    codeAny (model P w) A (.call (.ref f) args) (CR (L2.CX P w) outer P w H s Q E) s := by
  refine run_at (vs := [.ref a]) F S room en bd (.cons rfl .nil) (by rw [hm]; rfl) fun cdv hr => ?_
  obtain ⟨W', hres⟩ := hg
  obtain ⟨t, p, snd⟩ := hb cdv hr
  have har : ArRs (fun _ => False) 0 H [.dt (.list (ns.map PyData.int))] [.ref a] := .cons (.lst (lsR_of hs) (RpA.ints ns)) .nil
  refine ⟨t, p _ rfl, snd ⟨⟨fun _ => False, H, 0, none, true, fun _ z => z.elim, 0⟩, fun _ => False, 0, [.dt (.list (ns.map PyData.int))] ++ List.replicate (n - 1) .no, L2.start N [.ref a], H, false⟩ none _ rfl ⟨er_start N hn (fun _ z => z.elim) har (fun w z => by cases z) rfl rfl (fun h => Bool.noConfusion h) (fun _ => ⟨rfl, rfl⟩), rfl⟩ ?_⟩
  unfold runF at hres
  revert hres
  show (g ([.dt (.list (ns.map PyData.int))] ++ List.replicate (n - 1) .no) none).res = _ → wS _ _ _ _ (g ([.dt (.list (ns.map PyData.int))] ++ List.replicate (n - 1) .no) none)
  cases g ([.dt (.list (ns.map PyData.int))] ++ List.replicate (n - 1) .no) none with
  | rt ev W2 =>
    intro h
    cases h
    intro a' v x i r
    cases r
    exact q a'.H
  | bad => exact fun h => nomatch h
  | bk ρ' W' => exact fun h => nomatch h
  | ct ρ' W' => exact fun h => nomatch h
  | nx ρ' W' => exact fun h => nomatch h
  | exc c ρ' W' => exact fun h => nomatch h
end
/-- the claim's caller -/
theorem callerA_clear : callerA.guards = some [] := rfl
/-- the head of a law, its def told for the claim's caller alone -/
theorem walk_at {l : PySem.W.OpenLaw} {n : Nat} {q : Program} {loose : List Str} {XP : (Str → Option Value) → Heap → Prop} {YP : World → Heap → Prop} {d : DefRec} {K : Params → PySem.W.Frag} {CX : World → CXT}
    (hn : l.most = some n) (hn2 : n ≤ sizeLine) (hdf : d.params.defaults = []) (hY : ∀ (w : World) (h : Heap), YP w h → (K w.params).In h)
    (F : ∀ (w : World) (mg : Str → Option Value) (fa : Addr) (h : Heap), (K w.params).In h → h.Ns mainGlobals mg → mg d.name = some (.ref fa) →
      ∀ (base : Heap) (a : Addr) (ns : List Int) (s : Shared) (H : Hp), (K w.params).In base → base.Ns mainGlobals mg → ns.length ≤ n → Env0 l.prog w (K w.params) mg base callerA [] s H → SqL (K w.params) H a (ns.map V.int) →
        codeAny (model l.prog w) callerA (.call (.ref fa) ⟨[.ref a], []⟩) (CR (CX w) [] l.prog w H s (fun v _ => v = .bl true) fun _ _ _ => False) s)
    (hCX : ∀ (w : World) (H : Hp) (s : Shared) (e : Value) (s' : Shared), CX w [] H s (fun _ _ _ => False) e s' → False) :
    PySem.W.WalkO q loose XP YP l.row.toRowW d [] (fun f vs => PySem.call f vs) := by
  refine Att.attach_call hn hdf fun w s₀ s mg mb fa o pm cd doc a us ns G Y ho hd hcd hmg hobj hints hlen hg => ?_
  have inK := hY w _ Y
  have rv := vals_ints hints
  -- seen from a heap H in which at most the script is told
  have from_ : ∀ H : Hp, (∀ b, H b = none ∨ (b = a ∧ H b = some (.frz { cls := .type "list", data := .seq us.toArray } (.lst (ns.map V.int))))) → SqL (K w.params) H a (ns.map V.int) → HOk l.prog w H s.heap → (H a ≠ none → (K w.params).lookup a = none) →
      codeAny (model l.prog w) callerA (.call (.ref fa) ⟨[.ref a], []⟩) (fun r s' => r = .ok (.ret (.bool true)) ∧ OldK s.heap s'.heap ∧ s'.os = s.os ∧ AllBare s'.gens) s := by
    intro H only hS ok notK
    have there : ∀ {b : Addr} {o : Obj}, s.heap.get? b = some o → H b = none → (hidT s.heap H).get? b = some o := fun e z => hidT_get e z
    have isNs : ∀ {b : Addr} {m : Str → Option Value}, s.heap.Ns b m → (hidT s.heap H).Ns b m := by
      rintro b m ⟨o, es, ep, e, dd, r⟩
      refine ⟨o, es, ep, there e ?_, dd, r⟩
      rcases only b with z | ⟨rfl, _⟩
      · exact z
      · rw [hobj] at e
        cases e
        cases dd
    have bIn : (K w.params).In (hidT s.heap H) := fun b o e => there (inK b o e) (by
      rcases only b with z | ⟨rfl, z⟩
      · exact z
      · rw [notK (by rw [z]; exact fun y => nomatch y)] at e
        cases e)
    obtain ⟨mc, hc1, hc2⟩ := G.T.nolimit
    have en : Env0 l.prog w (K w.params) mg (hidT s.heap H) callerA [] s H := ⟨rfl, ⟨bIn, isNs G.T.g, ⟨mb, isNs G.T.b, G.T.builtins⟩, mc, isNs hc1, hc2⟩, fun b o e => of_hidT e, Nat.le_of_eq (hidT_size _ _), trivial, (fun b hb => nomatch hb), ok, .of_eq hg⟩
    refine codeAny_mono (F w mg fa _ inK G.T.g hmg _ a ns s H bIn (isNs G.T.g) hlen en hS) fun r s' h => ?_
    match r, h with
    | .error e, h => exact (hCX w H s e s' h).elim
    | .ok .next, h => exact h.elim
    | .ok .brk, h => exact h.elim
    | .ok .cont, h => exact h.elim
    | .ok (.ret u), ⟨v, H', os, bare, un, ok', r', hv⟩ =>
      obtain rfl : v = V.bl true := hv
      obtain rfl : u = Value.bool true := r'
      refine ⟨rfl, OldK.of_keep fun b o e => ?_, os, bare⟩
      rcases only b with z | ⟨rfl, z⟩
      · exact un.keep b o e z (fun y => nomatch y) (fun y => nomatch y)
      · obtain ⟨e1, _⟩ := ok b _ z
        obtain ⟨e2, _⟩ := ok' b _ (un.frzs b _ _ z)
        rw [e] at e1
        cases e1
        exact e2
  have hz : ns.length ≤ sizeLine := Nat.le_trans hlen hn2
  cases hk : (K w.params).lookup a with
  | none =>
    have self : (fun b => if b = a then some (HO.frz { cls := .type "list", data := .seq us.toArray } (.lst (ns.map V.int))) else none) a = some (.frz { cls := .type "list", data := .seq us.toArray } (.lst (ns.map V.int))) := if_pos rfl
    refine from_ (fun b => if b = a then some (.frz { cls := .type "list", data := .seq us.toArray } (.lst (ns.map V.int))) else none) (fun b => ?_) (.inl (.inr ⟨_, self⟩)) (fun b u e => ?_) fun _ => hk
    · by_cases y : b = a
      · exact .inr ⟨y, by rw [y]; exact self⟩
      · exact .inl (if_neg y)
    · by_cases y : b = a
      · subst y
        cases self.symm.trans e
        exact ⟨hobj, by rw [List.length_map]; exact hz, us, _, rv, hobj⟩
      · cases (if_neg y).symm.trans e
  | some o =>
    have e := inK a o hk
    rw [hobj] at e
    cases e
    exact from_ (fun _ => none) (fun _ => .inl rfl) (.inr ⟨_, us.toArray, _, hk, rfl, rfl, rfl, by rw [List.size_toArray, hints.length]; exact hz, by simpa using rv⟩) (fun b u z => nomatch z) fun z => absurd rfl z
end Lw
set_option Elab.async false
set_option linter.all false
set_option maxRecDepth 100000
set_option maxHeartbeats 2000000
set_option autoImplicit false
/-! # own lists lent within displays -/
namespace Lw
open PySem PySem.Spec PyProof.Rows L2
variable [KI : FragI]
/-- what is owned, but for the lists that names hold -/
def lentO (a : At) : Own := fun x => a.O x ∧ ¬ ∃ (j : Nat) (l : List Dt), a.ρ[j]? = some (.cn true l) ∧ a.σ[j]? = some (some (.ref x))
theorem lent_less {a : At} : ∀ x, lentO a x → a.O x := fun _ z => z.1
theorem lent_stp {a : At} {W1 : Option Well} {H1 H2 : Hp} (I : (a.to H1).Er W1) (st : Est a.wa a.hw H1 H2) : Stp (lentO a) H1 (lentO a) H2 := fun x o n q => ⟨n, st x o (fun hw e => n (by
  obtain ⟨w, hw'⟩ := Option.isSome_iff_exists.mp (I.2.trans hw)
  subst e
  exact ⟨(I.1.wl w hw').1, fun ⟨j, l, h1, h2⟩ => I.1.nw j l a.wa h1 h2 (by rw [hw']; rfl) rfl⟩)) q⟩
theorem ArRs.stpL {a : At} {W1 : Option Well} {H1 H2 : Hp} (I : (a.to H1).Er W1) (st : Est a.wa a.hw H1 H2) : ∀ {as : List Sl} {vs : List V}, ArRs (lentO a) a.wa H1 as vs → ArRs (lentO a) a.wa H2 as vs
  | _, _, .nil => .nil
  | .dt d :: _, _, .cons r rr => .cons (Rp.stp (lent_stp I st) r) (ArRs.stpL I st rr)
  | .wel :: _, _, .cons r rr => .cons r (ArRs.stpL I st rr)
  | .no :: _, _, .cons r _ => absurd r id
  | .ex _ _ :: _, _, .cons r rr => .cons r (ArRs.stpL I st rr)
  | .cn _ _ :: _, _, .cons r _ => absurd r id
theorem ArRs.weakL {a : At} {H : Hp} : ∀ {as : List Sl} {vs : List V}, ArRs a.O a.wa H as vs → ArRs (lentO a) a.wa H as vs
  | _, _, .nil => .nil
  | .dt d :: _, _, .cons r rr => .cons (Rp.stp (Stp.less lent_less) r) (ArRs.weakL rr)
  | .wel :: _, _, .cons r rr => .cons r (ArRs.weakL rr)
  | .no :: _, _, .cons r _ => absurd r id
  | .ex _ _ :: _, _, .cons r rr => .cons r (ArRs.weakL rr)
  | .cn _ _ :: _, _, .cons r _ => absurd r id
def wL (Wx : WX) (ca : Nat → Addr) (a : At) (Q : List V → Hp → Prop) : RA → Prop
  | .ok as W1 => ∀ vs H1, (a.to H1).Er W1 → Est a.wa a.hw a.H H1 → ArRs (lentO a) a.wa H1 as vs → Q vs H1
  | .exc c W1 => ∀ H', (a.to H').Er W1 → Est a.wa a.hw a.H H' → Wx (.ref (ca c)) none a.σ H'
  | .bad => False
/-- arguments, own lists lent among them and within displays -/
def SAL (C : Cd) (es : List Expr) (f : FA) : Prop := ∃ t, (∀ X, C.P X → PA X es t) ∧ ∀ (a : At) (W : Option Well) (Q : List V → Hp → Prop), a.Er W → wL C.Wx C.ca a Q (f a.ρ W) → t a.σ a.H Q
/-- a display among them -/
def aDsp (g1 g : FA) : FA := fun ρ W => (g1 ρ W).bindA fun as W1 => match datas as with
  | some ds => if ds.length ≤ lineN then (g ρ W1).bindA fun bs W2 => .ok (.dt (.list ds) :: bs) W2 else .bad
  | none => .bad
section
variable {C : Cd}
theorem sal_of {es : List Expr} {g : FA} (h : SA C es g) : SAL C es g := by
  obtain ⟨t, p, s⟩ := h
  refine ⟨t, p, fun a W Q I h => s a W Q I ?_⟩
  cases hr : g a.ρ W with
  | bad => rw [hr] at h; exact h
  | exc c W1 => rw [hr] at h; exact h
  | ok as W1 =>
    rw [hr] at h
    exact fun vs H1 e1 st r => h vs H1 e1 st r.weakL
theorem sal_cons {e : Expr} {es : List Expr} {f : FE} {g : FA} (he : SE C e f) (hs : SAL C es g) (hst : ∀ env, starEach (e :: es) env = (false, eval e env) :: starEach es env := by intro _; rfl) : SAL C (e :: es) (aCons f g) := by
  obtain ⟨t, p, s⟩ := he
  obtain ⟨u, q, z⟩ := hs
  refine ⟨_, fun X h => pa_cons (p X h) (q X h) (hst _), fun a W Q I h => ?_⟩
  refine s a W _ I ?_
  unfold aCons Res.bindA at h
  cases hr : f a.ρ W with
  | bad => rw [hr] at h; exact h
  | exc c W1 => rw [hr] at h; exact h
  | ok ev W1 =>
    rw [hr] at h
    dsimp only at h
    refine wE.weak fun v H1 e1 st r1 => ?_
    refine z (a.to H1) W1 _ e1 ?_
    unfold RA.bindA at h
    show wL C.Wx C.ca (a.to H1) _ (g a.ρ W1)
    cases hg : g a.ρ W1 with
    | bad => rw [hg] at h; exact h
    | exc c W2 => rw [hg] at h; exact fun H' e2 st2 => h H' e2 (st.trans st2)
    | ok as W2 =>
      rw [hg] at h
      intro vs H2 e2 st2 r2
      have r1' : Rp (lentO a) H1 v ev.D := Rp.stp (Stp.less lent_less) r1
      exact h (v :: vs) H2 e2 (st.trans st2) (.cons (Rp.stp (lent_stp e1 st2) r1') r2)
theorem sal_bor {i : Nat} {x : Str} {pos : Pos} {es : List Expr} {g : FA} (hN : C.N[i]? = some x) (hv : Vis C.sc x) (hs : SAL C es g) (hd : (x == ("__debug__" : Str)) = false := by decide) (hcd : (x == ("__classdict__" : Str)) = false := by decide)
    (hst : ∀ env, starEach (.Name x pos :: es) env = (false, eval (.Name x pos) env) :: starEach es env := by intro _; rfl) : SAL C (.Name x pos :: es) (aBor i g) := by
  obtain ⟨u, q, z⟩ := hs
  refine ⟨_, fun X h => pa_cons (pe_var (by rw [C.hN X h]; exact hN) (by rw [C.hsc X h]; exact hv) hd hcd) (q X h) (hst _), fun a W Q I h => ?_⟩
  unfold aBor at h
  split at h
  · rename_i l e
    obtain ⟨o, h1, h2⟩ := I.1.sl i _ e
    cases o with
    | none => exact absurd h2 id
    | some v =>
      refine ⟨v, h1, ?_⟩
      obtain ⟨p, us, rfl, _⟩ := h2
      refine z a W _ I ?_
      unfold RA.bindA at h
      cases hg : g a.ρ W with
      | bad => rw [hg] at h; exact h
      | exc c W2 => rw [hg] at h; exact h
      | ok as W2 =>
        rw [hg] at h
        intro vs H2 e2 st2 r2
        refine h (.ref p :: vs) H2 e2 st2 (.cons ?_ r2)
        obtain ⟨o, e3, e4⟩ := e2.1.sl i _ e
        have h1' : (a.to H2).σ[i]? = some (some (.ref p)) := h1
        rw [h1'] at e3
        cases e3
        obtain ⟨p', us', ex, _, hq, al, _⟩ := e4
        cases ex
        exact .lst (.inl ⟨fun y => y.2 ⟨i, l, e, h1⟩, .inl hq⟩) (RpA.stp (Stp.less lent_less) al)
  · exact absurd h id
theorem RpA.ofArRs {O : Own} {wa : Addr} {H : Hp} : ∀ {as : List Sl} {vs : List V} {ds : List Dt}, ArRs O wa H as vs → datas as = some ds → RpA O H vs ds := fun r e => r.datas e
theorem sal_dsp {es0 es : List Expr} {g0 g : FA} {lpos : Pos} (h0 : SAL C es0 g0) (hs : SAL C es g) (hst : ∀ env, starEach (.List es0 lpos :: es) env = (false, eval (.List es0 lpos) env) :: starEach es env := by intro _; rfl) : SAL C (.List es0 lpos :: es) (aDsp g0 g) := by
  obtain ⟨t, p, s⟩ := h0
  obtain ⟨u, q, z⟩ := hs
  refine ⟨_, fun X h => pa_cons (pe_lst (p X h)) (q X h) (hst _), fun a W Q I h => ?_⟩
  refine s a W _ I ?_
  unfold aDsp RA.bindA at h
  cases hr : g0 a.ρ W with
  | bad => rw [hr] at h; exact h
  | exc c W1 => rw [hr] at h; exact h
  | ok as W1 =>
    rw [hr] at h
    dsimp only at h
    intro vs H1 e1 st r1
    split at h
    · rename_i ds ed
      split at h
      · rename_i hl
        have al := r1.datas ed
        refine ⟨line_le (by rw [al.length]; exact hl), fun pp hp => ?_⟩
        have sm := same_upd (o := .lst vs) hp
        have e1' : (a.to (upd H1 pp (.lst vs))).Er W1 := ⟨e1.1.same sm, e1.2⟩
        have st1 : Est a.wa a.hw H1 (upd H1 pp (.lst vs)) := Est.same sm
        refine z (a.to (upd H1 pp (.lst vs))) W1 _ e1' ?_
        show wL C.Wx C.ca (a.to (upd H1 pp (.lst vs))) _ (g a.ρ W1)
        cases hg : g a.ρ W1 with
        | bad => rw [hg] at h; exact h
        | exc c W2 => rw [hg] at h; exact fun H' e2 st2 => h H' e2 ((st.trans st1).trans st2)
        | ok bs W2 =>
          rw [hg] at h
          intro ws H2 e2 st2 r2
          have np : ¬ lentO a pp := fun y => e1.1.al pp y.1 hp
          have rp : Rp (lentO a) (upd H1 pp (.lst vs)) (.ref pp) (.list ds) := .lst (.inl ⟨np, .inl upd_same⟩) (RpA.stp (Stp.same sm) al)
          exact h (.ref pp :: ws) H2 e2 ((st.trans st1).trans st2) (.cons (Rp.stp (lent_stp e1' st2) rp) r2)
      · exact absurd h id
    · exact absurd h id
theorem ar_dsp {g0 g : FA} {n : Nat} (h : ArN g n) : ArN (aDsp g0 g) (n + 1) := fun ρ W as W1 e => by
  unfold aDsp RA.bindA at e
  split at e
  · dsimp only at e
    split at e
    · split at e
      · split at e
        · rename_i e3
          cases e
          rw [List.length_cons, h _ _ _ _ e3]
        · cases e
        · cases e
      · cases e
    · cases e
  · cases e
  · cases e
theorem se_callL {e : Expr} {es : List Expr} {pos p : Pos} {x : Str} {fa : FA} {F : FF} {ps : List Str} (DF : Df C x ps F) (hg : C.G x) (ha : SAL C (e :: es) fa) (hn : ArN fa ps.length := by repeat (first | exact ar_nil | apply ar_cons | apply ar_wel | apply ar_bor | apply ar_dsp))
    (hd : (x == ("__debug__" : Str)) = false := by decide) (he : ∀ env, starEach (e :: es) env = (false, eval e env) :: starEach es env := by intro _; rfl) (hpl : ∀ env, (backTo pos (starEach es env)).any (·.1) = false := by intro _; rfl) (hcm : C.cm = true := by rfl) :
    SE C (.Call (.Name x p) (e :: es) [] pos) (eFunB F fa) := by
  obtain ⟨t, q, s⟩ := ha
  obtain ⟨f, fd, ok, mf, kf, bf⟩ := DF.at_
  refine ⟨tCallS (spF C.ca ps.length F) (WE C.Wx) t, fun X h => ?_, fun a W Q I h => ?_⟩
  · have ok' : FnOk X.prog X.w X.K X.mg X.base (L2.CX X.prog X.w) C.k f fd ps (spF C.ca ps.length F) := by
      rw [C.hprog X h, C.hw X h, C.hK X h, C.hmg X h, C.hbase X h]
      exact ok
    exact pe_callS ok' (C.roomC hcm X h) (C.gl h hg) (by rw [C.hmg X h]; exact mf) (by rw [C.hK X h]; exact kf) (by rw [C.hK X h]; exact bf) (C.pass X h) (q X h) hd (he _) (hpl _)
  · refine s a W _ I ?_
    have h' : wE C.Wx C.ca a Q (eFunB F fa a.ρ W) := h
    unfold eFunB at h'
    cases e2 : fa a.ρ W with
    | bad => rw [e2] at h'; exact h'
    | exc c W1 => rw [e2] at h'; exact h'
    | ok as W1 =>
      rw [e2] at h'
      dsimp only at h'
      intro vs H1 e1 st r1
      refine ⟨_, a.wa, W1, as, by rw [← r1.length]; exact hn _ _ _ _ e2, fun x z => e1.1.al x z.1, r1, fun w hw => ⟨⟨(e1.1.wl w hw).1, fun ⟨j, l, h1, h2⟩ => e1.1.nw j l a.wa h1 h2 (by rw [hw]; rfl) rfl⟩, (e1.1.wl w hw).2⟩, ?_⟩
      have hl := wE.later I e1 st h'
      cases hF : F as W1 with
      | bad => rw [hF] at hl; exact hl
      | exc c W2 =>
        rw [hF] at hl
        exact fun H' cc => hl H' ⟨e1.1.call cc, cc.2.2.trans e1.2⟩ (by rw [← e1.2]; exact cc.1)
      | ok ev W2 =>
        rw [hF] at hl
        cases ev with
        | f l => exact absurd hl id
        | d y =>
          dsimp only at hl
          by_cases hf : flat y = true
          · rw [if_pos hf] at hl
            exact fun v H' cc r => hl v H' ⟨e1.1.call cc, cc.2.2.trans e1.2⟩ (by rw [← e1.2]; exact cc.1) (r.flat hf)
          · rw [if_neg hf] at hl
            exact absurd hl id
end
@[simp] theorem v_aDsp {g1 g : FA} {ρ : List Sl} {W : Option Well} : aDsp g1 g ρ W = (g1 ρ W).bindA fun as W1 => match datas as with
  | some ds => if ds.length ≤ lineN then (g ρ W1).bindA fun bs W2 => .ok (.dt (.list ds) :: bs) W2 else .bad
  | none => .bad := nr rfl
end Lw
set_option Elab.async false
set_option linter.all false
set_option maxRecDepth 100000
set_option maxHeartbeats 2000000
set_option autoImplicit false
/-! # x, y = [], e -/
namespace Lw
open PySem PySem.Spec PyProof.Rows L2
variable [KI : FragI]
def sParOF (i j : Nat) (k : FE) : FS := fun ρ W => if i < ρ.length then match k ρ W with
    | .ok e W1 => .nx ((ρ.set i (.cn true [])).set j (.dt e.D)) W1
    | .exc c W1 => .exc c ρ W1
    | .bad => .bad
  else .bad
section
variable {C : Cd}
theorem ss_parOF {i j : Nat} {x y : Str} {c : Expr} {k : FE} {px py pt pos pa : Pos} {kt k2 pt2} (hi : C.N[i]? = some x) (hj : C.N[j]? = some y) (hij : i ≠ j) (hx : C.sc.names.lookup x = some .local) (hy : C.sc.names.lookup y = some .local) (hc : SE C c k)
    (hw : ∀ X, C.P X → swappedStores [.Tuple [.Name x px, .Name y py] kt pt] (.Tuple [.List [] pa, c] k2 pt2) X.env = pure (some [x, y])) (hs : ∀ X, C.P X → swapsWithSole [.Tuple [.Name x px, .Name y py] kt pt] (.Tuple [.List [] pa, c] k2 pt2) pos.line X.env = pure false := by intro _ _; rfl)
    (h1 : ∀ env, starEach [.List [] pa, c] env = (false, eval (.List [] pa) env) :: starEach [c] env := by intro _; rfl) (h3 : ∀ env, starEach [c] env = (false, eval c env) :: starEach [] env := by intro _; rfl) (hcm : C.cm = true := by rfl) :
    SS C (.Assign [.Tuple [.Name x px, .Name y py] kt pt] (.Tuple [.List [] pa, c] k2 pt2) pos) (sParOF i j k) := by
  obtain ⟨t3, p3, s3⟩ := hc
  refine ⟨_, fun X h => ps_par (C.calmC hcm X h) (by rw [C.hN X h]; exact C.nd) (by rw [C.hN X h]; exact hi) (by rw [C.hN X h]; exact hj) hij (by rw [C.hsc X h]; exact hx) (by rw [C.hsc X h]; exact hy) (pa_cons (pe_lst pa_nil) (pa_cons (p3 X h) pa_nil (h3 _)) (h1 _)) (hw X h) (hs X h), fun a W Dn hmk I h => ?_⟩
  refine ⟨Nat.zero_le _, fun p hp => ?_⟩
  have sm := same_upd (o := HO.lst []) hp
  unfold sParOF at h
  split at h
  · rename_i hlt
    have np : ¬ a.O p := fun op => I.1.al p op hp
    have noW : a.hw = true → p ≠ a.wa := fun hw e => by
      obtain ⟨w, ew⟩ := Option.isSome_iff_exists.mp (I.2.trans hw)
      have := (I.1.wl w ew).2
      rw [← e, hp] at this
      cases this
    have hb : a.b.H p = none := I.1.base_none hp
    have EA := I.1.own sm hp upd_same
    have nos : ∀ {c : Bool} (j : Nat) (l : List Dt), a.ρ[j]? = some (.cn c l) → a.σ[j]? ≠ some (some (.ref p)) := fun j l e1 e2 => by
      obtain ⟨o, h1, h2⟩ := I.1.sl j _ e1
      rw [e2] at h1
      cases h1
      obtain ⟨r, us, er, _, hr, _⟩ := h2
      cases er
      obtain ⟨_, hr⟩ := hr.some
      rw [hp] at hr
      cases hr
    have st0 : Stp a.O a.H (OU a.O p) (upd a.H p (.lst [])) := fun x o n e => ⟨fun z => z.elim n (fun z => by rw [z, hp] at e; cases e), sm x o e⟩
    have I2 : (⟨a.b, OU a.O p, a.wa, a.ρ, a.σ, upd a.H p (.lst []), a.hw⟩ : At).Er W := ⟨EA, I.2⟩
    refine s3 ⟨a.b, OU a.O p, a.wa, a.ρ, a.σ, upd a.H p (.lst []), a.hw⟩ W _ I2 ?_
    show wE C.Wx C.ca ⟨a.b, OU a.O p, a.wa, a.ρ, a.σ, upd a.H p (.lst []), a.hw⟩ _ (k a.ρ W)
    revert h
    cases k a.ρ W with
    | bad => exact id
    | exc c W1 => exact fun h H' e1 st => h ⟨a.b, OU a.O p, a.wa, a.ρ, a.σ, H', a.hw⟩ ⟨rfl, st0.trans (Est.stp (a := ⟨a.b, OU a.O p, a.wa, a.ρ, a.σ, upd a.H p (.lst []), a.hw⟩) st I2)⟩ rfl e1
    | ok e W1 =>
      intro h
      refine wE.weak fun v H3 e3 st3 r3 => ?_
      refine ⟨.ref p, v, rfl, ?_⟩
      have h3 : wS C.Wx C.ca a Dn (.nx ((a.ρ.set i (.cn true [])).set j (.dt e.D)) W1) := h
      have hq : H3 p = some (.lst []) := st3 p _ noW upd_same
      have nw : p ≠ a.wa ∨ W1 = none := by
        cases ew : W1 with
        | none => exact .inr rfl
        | some w => exact .inl (noW (by have := e3.2; rw [ew] at this; exact this.symm))
      have E1 := ER.setOw (O := a.O) (p := p) e3.1 i hlt np nw nos hq .nil hb
      have E3 := E1.set j (s := .dt e.D) (o := some v) r3 (fun _ _ z => nomatch z)
      exact h3 ⟨a.b, OU a.O p, a.wa, _, _, H3, a.hw⟩ ⟨rfl, st0.trans (Est.stp (a := ⟨a.b, OU a.O p, a.wa, a.ρ, a.σ, upd a.H p (.lst []), a.hw⟩) st3 I2)⟩ rfl ⟨E3, e3.2⟩
  · exact absurd h id
end
section
variable {i j : Nat} {k : FE} {ρ : List Sl} {W : Option Well}
@[simp] theorem v_parOF : sParOF i j k ρ W = (if i < ρ.length then match k ρ W with
    | .ok e W1 => .nx ((ρ.set i (.cn true [])).set j (.dt e.D)) W1
    | .exc c W1 => .exc c ρ W1
    | .bad => .bad
  else .bad) := nr rfl
end
/-! ### list(range(e)) -/
def eLstRg (f : FE) : FE := fun ρ W => (f ρ W).bind fun x W1 => match x with
  | .int n => if 0 ≤ n ∧ n ≤ 1000000 then .ok (.f (rangeD 0 n.toNat)) W1 else .bad
  | _ => .bad
theorem rpa_ints {O : Own} {H : Hp} (f : Nat → Int) : ∀ l : List Nat, RpA O H (l.map fun i => V.int (f i)) (l.map fun i => PyData.int (f i))
  | [] => .nil
  | i :: r => .cons (.int _) (rpa_ints f r)
section
variable {C : Cd}
theorem se_listRg {e : Expr} {f : FE} {p p2 pos pos2 : Pos} (hgl : C.G "list") (hml : C.mg "list" = none) (hg : C.G "range") (hm : C.mg "range" = none) (he : SE C e f) (hs : ∀ env, starEach [e] env = (false, eval e env) :: starEach [] env := by intro _; rfl)
    (hs2 : ∀ env, starEach [.Call (.Name "range" p2) [e] [] pos2] env = (false, eval (.Call (.Name "range" p2) [e] [] pos2) env) :: starEach [] env := by intro _; rfl) (hcm : C.cm = true := by rfl) :
    SE C (.Call (.Name "list" p) [.Call (.Name "range" p2) [e] [] pos2] [] pos) (eLstRg f) := by
  obtain ⟨t, q, s⟩ := he
  refine ⟨tLstRg (tRg1 t), fun X h => pe_listRg (C.calmC hcm X h) (C.gl h hgl) (by rw [C.hmg X h]; exact hml) (prg_1 (C.gl h hg) (by rw [C.hmg X h]; exact hm) (q X h) (hs _)) (hs2 _), fun a W Q I h => ?_⟩
  refine s.then I h fun x W1 v H1 e1 st r1 h1 => ?_
  split at h1
  · rename_i n
    split at h1
    · rename_i hn
      cases r1
      have al : RpA a.O H1 (rgV 0 n) (rangeD 0 n.toNat) := by
        have e : (n - 0).toNat = n.toNat := by omega
        unfold rgV rangeD
        rw [e]
        exact rpa_ints _ _
      have h2 : wE C.Wx C.ca { a with H := H1 } Q (ofP (some (.f (rangeD 0 n.toNat))) W1) := h1
      exact ⟨n, rfl, RgOk.of_le (Int.le_refl _) (by omega) (by omega) hn.1, wP.new (wE.wp (a := { a with H := H1 }) e1 h2) al⟩
    · exact absurd h1 id
  · exact absurd h1 id
end
@[simp] theorem v_lstRg {f : FE} {ρ : List Sl} {W : Option Well} : eLstRg f ρ W = (f ρ W).bind fun x W1 => match x with
  | .int n => if 0 ≤ n ∧ n ≤ 1000000 then .ok (.f (rangeD 0 n.toNat)) W1 else .bad
  | _ => .bad := nr rfl
end Lw
set_option Elab.async false
set_option linter.all false
set_option maxRecDepth 100000
set_option maxHeartbeats 4000000
/-! Lwm: enumerate(zip(a, b)) of two lists -/
namespace Lw
open PySem PySem.Spec PyProof.Rows L2
open Sem (wp)
abbrev IsZipO (h : Heap) (z TI TO : Addr) (o0 : Value) (f : Bool) : Prop :=
  h.get? z = some { cls := .type "zip", dict := none, data := .fields #[o0, .bool f, .bool false, .ref TI, .ref TO], slots := #[] }
def ZipSt (h : Heap) (z TI TO : Addr) : Prop := ∃ (o0 : Value) (f : Bool), IsZipO h z TI TO o0 f ∧ (o0 = .none ∨ ∃ T : Addr, o0 = rawInt T)
section
variable {prog : Program} {w : World} {A : Around} {E : Value → Shared → Prop} {s : Shared}
theorem zipf_item {z TI TO i1 i2 l1 l2 : Addr} {o0 : Value} {f : Bool} {k1 k2 : Nat} {xs ys : Array Value} {x y a b : Value} {Q : Value → Shared → Prop} (D : ZipApart z TI TO i1 i2 l1 l2)
    (hfree : ∀ (A : Around) (E : Value → Shared → Prop) (Q : Bool → Shared → Prop), Q true s → wpAny (model prog w) A (Builtin.SmallTypes.ownedTupleIsFree (.ref z)) Q E s)
    (hz : IsZipO s.heap z TI TO o0 f) (hTI : PySem.IsPair s.heap TI (.ref i1) (.ref i2)) (hTO : PySem.IsPair s.heap TO a b)
    (h1 : s.heap.IsListIter i1 l1 k1) (h2 : s.heap.IsListIter i2 l2 k2) (hl1 : s.heap.IsList l1 xs) (hl2 : s.heap.IsList l2 ys) (hx : xs[k1]? = some x) (hy : ys[k2]? = some y)
    (hQ : ∀ h', IsZipO h' z TI TO (rawInt s.heap.objs.size) false → PySem.IsPair h' TO x y → h'.IsListIter i1 l1 (k1 + 1) → h'.IsListIter i2 l2 (k2 + 1) → PySem.IsPair h' s.heap.objs.size x y → h'.objs.size = s.heap.objs.size + 1 →
      (∀ c o, c ≠ z → c ≠ TO → c ≠ i1 → c ≠ i2 → s.heap.get? c = some o → h'.get? c = some o) → Q (.ref s.heap.objs.size) { s with heap := h' }) :
    wpAny (model prog w) A (Builtin.«zip.__next__» ⟨[.ref z], []⟩) (fun fin s' => ∃ v, fin = .done (.ret v) ∧ Q v s') E s := by
  show wpAny _ _ (field (.ref z) 2 >>= _) _ _ _
  refine wpAny_bind (wpAny_field hz rfl (x := .bool false) rfl ?_)
  show wpAny _ _ (field (.ref z) 3 >>= _) _ _ _
  refine wpAny_bind (wpAny_field hz rfl (x := .ref TI) rfl ?_)
  refine wpAny_bind (wpAny_seqItems hTI rfl ?_)
  show wpAny _ _ (Builtin.SmallTypes.ownedTupleIsFree (.ref z) >>= _) _ _ _
  refine wpAny_bind (hfree _ _ _ ?_)
  simp only [if_true]
  refine wpAny_bind (wpAny_rule ?_)
  refine wpAny_bind (wpAny_field hz rfl (x := .ref TO) rfl ?_)
  refine wpAny_bind (wpAny_setField_rec hz (by simp) fun h₁ hz₁ hs₁ => ?_)
  replace hz₁ : IsZipO h₁ z TI TO .ellipsis f := hz₁
  refine wpAny_bind ?_
  simp only [List.zipIdx_cons, List.zipIdx_nil, List.forIn_cons, List.forIn_nil]
  refine wpAny_bind (wpAny_bind (wpAny_onRaise ?_))
  show wpAny _ _ (Builtin.SmallTypes.nextOf (.ref i1) >>= _) _ _ _
  refine wpAny_bind (wpAny_nextOf_list_item (h1.extBut hs₁.extBut D.i1z) (hl1.extBut hs₁.extBut D.l1z) hx fun h₂ h1₂ hs₂ => wpAny_pure ?_)
  have hTO₂ : PySem.IsPair h₂ TO a b := hs₂.extBut _ _ D.TOi1 (hs₁.extBut _ _ D.TOz hTO)
  refine wpAny_bind (wpAny_seqItems hTO₂ rfl ?_)
  refine wpAny_bind (wpAny_updateSeq_pair hTO₂ fun h₃ hTO₃ hs₃ => ?_)
  replace hTO₃ : PySem.IsPair h₃ TO x b := hTO₃
  refine wpAny_bind (wpAny_letGo (wpAny_pure ?_))
  refine wpAny_bind (wpAny_bind (wpAny_onRaise ?_))
  show wpAny _ _ (Builtin.SmallTypes.nextOf (.ref i2) >>= _) _ _ _
  refine wpAny_bind (wpAny_nextOf_list_item (((h2.extBut hs₁.extBut D.i2z).extBut hs₂.extBut D.i12.symm).extBut hs₃.extBut D.TOi2.symm)
    (((hl2.extBut hs₁.extBut D.l2z).extBut hs₂.extBut D.l2i1).extBut hs₃.extBut D.l2TO) hy fun h₄ h2₄ hs₄ => wpAny_pure ?_)
  have hTO₄ : PySem.IsPair h₄ TO x b := hs₄.extBut _ _ D.TOi2 hTO₃
  refine wpAny_bind (wpAny_seqItems hTO₄ rfl ?_)
  refine wpAny_bind (wpAny_updateSeq_pair hTO₄ fun h₅ hTO₅ hs₅ => ?_)
  replace hTO₅ : PySem.IsPair h₅ TO x y := hTO₅
  refine wpAny_bind (wpAny_letGo (wpAny_pure (wpAny_pure ?_)))
  refine wpAny_bind (wpAny_seqItems hTO₅ rfl ?_)
  refine wpAny_bind (wpAny_newTuple ?_)
  have hsz : h₅.objs.size = s.heap.objs.size := by rw [hs₅.1, hs₄.1, hs₃.1, hs₂.1, hs₁.1]
  have hz₅ : IsZipO h₅ z TI TO .ellipsis f := hs₅.extBut _ _ D.TOz.symm (hs₄.extBut _ _ D.i2z.symm (hs₃.extBut _ _ D.TOz.symm (hs₂.extBut _ _ D.i1z.symm hz₁)))
  have hk₅ : ∀ c o, c ≠ z → c ≠ TO → c ≠ i1 → c ≠ i2 → s.heap.get? c = some o → h₅.get? c = some o := fun c o c1 c2 c3 c4 e =>
    hs₅.extBut _ _ c2 (hs₄.extBut _ _ c4 (hs₃.extBut _ _ c2 (hs₂.extBut _ _ c3 (hs₁.extBut _ _ c1 e))))
  have h1₅ : h₅.IsListIter i1 l1 (k1 + 1) := ((h1₂.extBut hs₃.extBut D.TOi1.symm).extBut hs₄.extBut D.i12).extBut hs₅.extBut D.TOi1.symm
  have h2₅ : h₅.IsListIter i2 l2 (k2 + 1) := h2₄.extBut hs₅.extBut D.TOi2.symm
  have hzlt : z < h₅.objs.size := Heap.lt_size hz₅
  show wpAny _ _ (Builtin.SmallTypes.ownedTupleHandOut (.ref z) (.ref h₅.objs.size) >>= _) _ _ _
  refine wpAny_bind ?_
  unfold Builtin.SmallTypes.ownedTupleHandOut
  have hz₆ : IsZipO (h₅.push { cls := .type "tuple", data := .seq #[x, y] }) z TI TO .ellipsis f := Heap.get?_push_of_some _ hz₅
  refine wpAny_bind (wpAny_setField_rec hz₆ (by simp) fun h₇ hz₇ hs₇ => ?_)
  replace hz₇ : IsZipO h₇ z TI TO (rawInt h₅.objs.size) f := hz₇
  refine wpAny_setField_rec hz₇ (by simp) fun h₈ hz₈ hs₈ => ?_
  replace hz₈ : IsZipO h₈ z TI TO (rawInt h₅.objs.size) false := hz₈
  have up : ∀ c o, c ≠ z → h₅.get? c = some o → h₈.get? c = some o := fun c o c1 e => hs₈.extBut _ _ c1 (hs₇.extBut _ _ c1 (Heap.get?_push_of_some _ e))
  have hT₈ : PySem.IsPair h₈ h₅.objs.size x y := hs₈.extBut _ _ (Nat.ne_of_gt hzlt) (hs₇.extBut _ _ (Nat.ne_of_gt hzlt) (Heap.get?_push_size _ rfl))
  have hz8 : h₈.objs.size = h₅.objs.size + 1 := by rw [hs₈.1, hs₇.1, Heap.size_push]
  rw [hsz] at hz₈ hT₈ hz8
  refine wpAny_pure ⟨_, rfl, ?_⟩
  show Q (.ref h₅.objs.size) _
  rw [hsz]
  exact hQ h₈ hz₈ (up _ _ D.TOz hTO₅) (h1₅.at fun o e => up _ o D.i1z e) (h2₅.at fun o e => up _ o D.i2z e) hT₈ hz8 fun c o c1 c2 c3 c4 e => up c o c1 (hk₅ c o c1 c2 c3 c4 e)
theorem zipf_end {z TI TO i1 i2 l1 l2 : Addr} {o0 : Value} {f : Bool} {k1 k2 : Nat} {xs ys : Array Value} {a b : Value} {Q : Fin → Shared → Prop} (hh : A.handled = none) (D : ZipApart z TI TO i1 i2 l1 l2)
    (hfree : ∀ (A : Around) (E : Value → Shared → Prop) (Q : Bool → Shared → Prop), Q true s → wpAny (model prog w) A (Builtin.SmallTypes.ownedTupleIsFree (.ref z)) Q E s)
    (hz : IsZipO s.heap z TI TO o0 f) (hTI : PySem.IsPair s.heap TI (.ref i1) (.ref i2)) (hTO : PySem.IsPair s.heap TO a b)
    (h1 : s.heap.IsListIter i1 l1 k1) (h2 : s.heap.IsListIter i2 l2 k2) (hl1 : s.heap.IsList l1 xs) (hl2 : s.heap.IsList l2 ys) (hend : xs[k1]? = none ∨ ys[k2]? = none)
    (hE : ∀ h' e, (∀ c o, c ≠ z → c ≠ TO → c ≠ i1 → c ≠ i2 → s.heap.get? c = some o → h'.get? c = some o) → (∃ o, h'.get? e = some o ∧ o.cls = .type "StopIteration") → E (.ref e) { s with heap := h' }) :
    wpAny (model prog w) A (Builtin.«zip.__next__» ⟨[.ref z], []⟩) Q E s := by
  show wpAny _ _ (field (.ref z) 2 >>= _) _ _ _
  refine wpAny_bind (wpAny_field hz rfl (x := .bool false) rfl ?_)
  show wpAny _ _ (field (.ref z) 3 >>= _) _ _ _
  refine wpAny_bind (wpAny_field hz rfl (x := .ref TI) rfl ?_)
  refine wpAny_bind (wpAny_seqItems hTI rfl ?_)
  show wpAny _ _ (Builtin.SmallTypes.ownedTupleIsFree (.ref z) >>= _) _ _ _
  refine wpAny_bind (hfree _ _ _ ?_)
  simp only [if_true]
  refine wpAny_bind (wpAny_rule ?_)
  refine wpAny_bind (wpAny_field hz rfl (x := .ref TO) rfl ?_)
  refine wpAny_bind (wpAny_setField_rec hz (by simp) fun h₁ hz₁ hs₁ => ?_)
  replace hz₁ : IsZipO h₁ z TI TO .ellipsis f := hz₁
  refine wpAny_bind ?_
  simp only [List.zipIdx_cons, List.zipIdx_nil, List.forIn_cons, List.forIn_nil]
  refine wpAny_bind (wpAny_bind (wpAny_onRaise ?_))
  show wpAny _ _ (Builtin.SmallTypes.nextOf (.ref i1) >>= _) _ _ _
  cases hx : xs[k1]? with
  | none =>
    refine wpAny_bind (wpAny_nextOf_list_end hh (h1.extBut hs₁.extBut D.i1z) (hl1.extBut hs₁.extBut D.l1z) hx fun h₂ e hs₂ he => ?_)
    obtain ⟨oe, hoe, hce⟩ := he
    have hz₂ : IsZipO h₂ z TI TO .ellipsis f := hs₂ _ _ D.i1z.symm hz₁
    have hez : e ≠ z := fun x => by subst x; rw [hz₂] at hoe; cases hoe; simp at hce
    refine wpAny_setField_rec hz₂ (by simp) fun h₃ _ hs₃ => hE h₃ e (fun c o c1 _ c3 _ x => hs₃.extBut _ _ c1 (hs₂ _ _ c3 (hs₁.extBut _ _ c1 x))) ⟨oe, hs₃.extBut _ _ hez hoe, hce⟩
  | some x =>
    have hy : ys[k2]? = none := by rcases hend with h | h; rw [hx] at h; cases h; exact h
    refine wpAny_bind (wpAny_nextOf_list_item (h1.extBut hs₁.extBut D.i1z) (hl1.extBut hs₁.extBut D.l1z) hx fun h₂ h1₂ hs₂ => wpAny_pure ?_)
    have hTO₂ : PySem.IsPair h₂ TO a b := hs₂.extBut _ _ D.TOi1 (hs₁.extBut _ _ D.TOz hTO)
    refine wpAny_bind (wpAny_seqItems hTO₂ rfl ?_)
    refine wpAny_bind (wpAny_updateSeq_pair hTO₂ fun h₃ hTO₃ hs₃ => ?_)
    refine wpAny_bind (wpAny_letGo (wpAny_pure ?_))
    refine wpAny_bind (wpAny_bind (wpAny_onRaise ?_))
    show wpAny _ _ (Builtin.SmallTypes.nextOf (.ref i2) >>= _) _ _ _
    refine wpAny_bind (wpAny_nextOf_list_end hh (((h2.extBut hs₁.extBut D.i2z).extBut hs₂.extBut D.i12.symm).extBut hs₃.extBut D.TOi2.symm)
      (((hl2.extBut hs₁.extBut D.l2z).extBut hs₂.extBut D.l2i1).extBut hs₃.extBut D.l2TO) hy fun h₄ e hs₄ he => ?_)
    obtain ⟨oe, hoe, hce⟩ := he
    have hz₄ : IsZipO h₄ z TI TO .ellipsis f := hs₄ _ _ D.i2z.symm (hs₃.extBut _ _ D.TOz.symm (hs₂.extBut _ _ D.i1z.symm hz₁))
    have hez : e ≠ z := fun x => by subst x; rw [hz₄] at hoe; cases hoe; simp at hce
    refine wpAny_setField_rec hz₄ (by simp) fun h₅ _ hs₅ => hE h₅ e (fun c o c1 c2 c3 c4 x => hs₅.extBut _ _ c1 (hs₄ _ _ c4 (hs₃.extBut _ _ c2 (hs₂.extBut _ _ c3 (hs₁.extBut _ _ c1 x))))) ⟨oe, hs₅.extBut _ _ hez hoe, hce⟩
theorem free_none {z TI TO : Addr} {f : Bool} (hz : IsZipO s.heap z TI TO .none f) (A : Around) (E : Value → Shared → Prop) (Q : Bool → Shared → Prop) (h : Q true s) : wpAny (model prog w) A (Builtin.SmallTypes.ownedTupleIsFree (.ref z)) Q E s := by
  unfold Builtin.SmallTypes.ownedTupleIsFree
  exact wpAny_bind (wpAny_field hz rfl (x := .none) rfl (wpAny_pure h))
theorem free_dead {z TI TO T : Addr} {f : Bool} (hz : IsZipO s.heap z TI TO (rawInt T) f) (hT : s.heap.get? T = none) (A : Around) (E : Value → Shared → Prop) (Q : Bool → Shared → Prop) (h : Q true s) : wpAny (model prog w) A (Builtin.SmallTypes.ownedTupleIsFree (.ref z)) Q E s := by
  unfold Builtin.SmallTypes.ownedTupleIsFree
  refine wpAny_bind (wpAny_field hz rfl (x := rawInt T) rfl ?_)
  show wpAny _ _ (loadIfAlive ((T : Int).toNat) >>= _) _ _ _
  rw [Int.toNat_natCast]
  have al : ∀ {Q : Option Obj → Shared → Prop}, Q none s → wpAny (model prog w) A (loadIfAlive T) Q E s := fun {Q} q => by
    have h' : Q (s.heap.get? T) s := by rw [hT]; exact q
    exact fun _ _ _ => h'
  refine wpAny_bind (al ?_)
  simp only [Option.isNone_none, if_true]
  exact wpAny_pure h
theorem zipo_item {z TI TO i1 i2 l1 l2 : Addr} {k1 k2 : Nat} {xs ys : Array Value} {x y a b : Value} {Q : Value → Shared → Prop} (D : ZipApart z TI TO i1 i2 l1 l2)
    (hz : ZipSt s.heap z TI TO) (hTI : PySem.IsPair s.heap TI (.ref i1) (.ref i2)) (hTO : PySem.IsPair s.heap TO a b)
    (h1 : s.heap.IsListIter i1 l1 k1) (h2 : s.heap.IsListIter i2 l2 k2) (hl1 : s.heap.IsList l1 xs) (hl2 : s.heap.IsList l2 ys) (hx : xs[k1]? = some x) (hy : ys[k2]? = some y)
    (hQ : ∀ h', ZipSt h' z TI TO → (∃ a b, PySem.IsPair h' TO a b) → h'.IsListIter i1 l1 (k1 + 1) → h'.IsListIter i2 l2 (k2 + 1) → PySem.IsPair h' s.heap.objs.size x y → h'.objs.size = s.heap.objs.size + 1 →
      (∀ c o, c ≠ z → c ≠ TO → c ≠ i1 → c ≠ i2 → s.heap.get? c = some o → h'.get? c = some o) → Q (.ref s.heap.objs.size) { s with heap := h' }) :
    wpAny (model prog w) A (Builtin.«zip.__next__» ⟨[.ref z], []⟩) (fun fin s' => ∃ v, fin = .done (.ret v) ∧ Q v s') E s := by
  obtain ⟨o0, f, hz, rfl | ⟨T, rfl⟩⟩ := hz
  · exact zipf_item D (free_none hz) hz hTI hTO h1 h2 hl1 hl2 hx hy fun h' a1 a2 a3 a4 a5 a6 a7 => hQ h' ⟨_, _, a1, .inr ⟨_, rfl⟩⟩ ⟨_, _, a2⟩ a3 a4 a5 a6 a7
  · cases hT : s.heap.get? T with
    | none => exact zipf_item D (free_dead hz hT) hz hTI hTO h1 h2 hl1 hl2 hx hy fun h' a1 a2 a3 a4 a5 a6 a7 => hQ h' ⟨_, _, a1, .inr ⟨_, rfl⟩⟩ ⟨_, _, a2⟩ a3 a4 a5 a6 a7
    | some oT => exact zip_next_item_held D hz hT hTI h1 h2 hl1 hl2 hx hy fun h' a1 a3 a4 a5 a6 a7 => hQ h' ⟨_, _, a1, .inr ⟨_, rfl⟩⟩ ⟨_, _, a7 _ _ D.TOz D.TOi1 D.TOi2 hTO⟩ a3 a4 a5 a6 fun c o c1 _ c3 c4 e => a7 c o c1 c3 c4 e
theorem zipo_end {z TI TO i1 i2 l1 l2 : Addr} {k1 k2 : Nat} {xs ys : Array Value} {a b : Value} {Q : Fin → Shared → Prop} (hh : A.handled = none) (D : ZipApart z TI TO i1 i2 l1 l2)
    (hz : ZipSt s.heap z TI TO) (hTI : PySem.IsPair s.heap TI (.ref i1) (.ref i2)) (hTO : PySem.IsPair s.heap TO a b)
    (h1 : s.heap.IsListIter i1 l1 k1) (h2 : s.heap.IsListIter i2 l2 k2) (hl1 : s.heap.IsList l1 xs) (hl2 : s.heap.IsList l2 ys) (hend : xs[k1]? = none ∨ ys[k2]? = none)
    (hE : ∀ h' e, (∀ c o, c ≠ z → c ≠ TO → c ≠ i1 → c ≠ i2 → s.heap.get? c = some o → h'.get? c = some o) → (∃ o, h'.get? e = some o ∧ o.cls = .type "StopIteration") → E (.ref e) { s with heap := h' }) :
    wpAny (model prog w) A (Builtin.«zip.__next__» ⟨[.ref z], []⟩) Q E s := by
  obtain ⟨o0, f, hz, rfl | ⟨T, rfl⟩⟩ := hz
  · exact zipf_end hh D (free_none hz) hz hTI hTO h1 h2 hl1 hl2 hend hE
  · cases hT : s.heap.get? T with
    | none => exact zipf_end hh D (free_dead hz hT) hz hTI hTO h1 h2 hl1 hl2 hend hE
    | some oT => exact zip_next_end_held hh D hz hT hTI h1 h2 hl1 hl2 hend fun h' e hk he => hE h' e (fun c o c1 _ c3 c4 x => hk c o c1 c3 c4 x) he
/-! the zip within an enumerate -/
structure ZS (z TI TO i1 i2 l1 l2 : Addr) (i : Nat) (h : Heap) : Prop where
  z : ZipSt h z TI TO
  ti : PySem.IsPair h TI (.ref i1) (.ref i2)
  to : ∃ a b, PySem.IsPair h TO a b
  a : h.IsListIter i1 l1 i
  b : h.IsListIter i2 l2 i
theorem ZS.keep {z TI TO i1 i2 l1 l2 : Addr} {i : Nat} {h h' : Heap} (S : ZS z TI TO i1 i2 l1 l2 i h) (k : ∀ b, b = z ∨ b = TI ∨ b = TO ∨ b = i1 ∨ b = i2 → ∀ o, h.get? b = some o → h'.get? b = some o) : ZS z TI TO i1 i2 l1 l2 i h' := by
  obtain ⟨⟨o0, f, h1, h2⟩, h3, ⟨a, b, h4⟩, h5, h6⟩ := S
  exact ⟨⟨o0, f, k _ (.inl rfl) _ h1, h2⟩, k _ (.inr (.inl rfl)) _ h3, ⟨a, b, k _ (.inr (.inr (.inl rfl))) _ h4⟩, h5.at fun o q => k _ (.inr (.inr (.inr (.inl rfl)))) o q, h6.at fun o q => k _ (.inr (.inr (.inr (.inr rfl)))) o q⟩
theorem nextOf_zip_item {z TI TO i1 i2 l1 l2 : Addr} {i : Nat} {xs ys : Array Value} {x y : Value} {Q : Value → Shared → Prop} (D : ZipApart z TI TO i1 i2 l1 l2)
    (S : ZS z TI TO i1 i2 l1 l2 i s.heap) (hl1 : s.heap.IsList l1 xs) (hl2 : s.heap.IsList l2 ys) (hx : xs[i]? = some x) (hy : ys[i]? = some y)
    (hQ : ∀ h', ZS z TI TO i1 i2 l1 l2 (i + 1) h' → PySem.IsPair h' s.heap.objs.size x y → h'.objs.size = s.heap.objs.size + 1 →
      (∀ c o, c ≠ z → c ≠ TO → c ≠ i1 → c ≠ i2 → s.heap.get? c = some o → h'.get? c = some o) → Q (.ref s.heap.objs.size) { s with heap := h' }) :
    wpAny (model prog w) A (Builtin.SmallTypes.nextOf (.ref z)) Q E s := by
  obtain ⟨hz, hTI, ⟨a, b, hTO⟩, h1, h2⟩ := S
  obtain ⟨o0, f, hz', _⟩ := id hz
  have hT : s.TypeIs (.ref z) "zip" := ⟨_, hz', rfl⟩
  unfold Builtin.SmallTypes.nextOf
  exact wpAny_bind (wpAny_callSpecial?_slot (name := Str.ofString "__next__") hT F.slot_zip_next
    (wpAny_call_entry F.slot_zip_next hT F.entry_zip_next (zipo_item D hz hTI hTO h1 h2 hl1 hl2 hx hy fun h' a1 a2 a3 a4 a5 a6 a7 => wpAny_pure (hQ h' ⟨a1, a7 _ _ D.TIz D.TITO D.TIi1 D.TIi2 hTI, a2, a3, a4⟩ a5 a6 a7)) (F.args_zip_next_1 _)))
theorem nextOf_zip_end {z TI TO i1 i2 l1 l2 : Addr} {i : Nat} {xs ys : Array Value} {Q : Value → Shared → Prop} (hh : A.handled = none) (D : ZipApart z TI TO i1 i2 l1 l2)
    (S : ZS z TI TO i1 i2 l1 l2 i s.heap) (hl1 : s.heap.IsList l1 xs) (hl2 : s.heap.IsList l2 ys) (hend : xs[i]? = none ∨ ys[i]? = none)
    (hE : ∀ h' e, (∀ c o, c ≠ z → c ≠ TO → c ≠ i1 → c ≠ i2 → s.heap.get? c = some o → h'.get? c = some o) → (∃ o, h'.get? e = some o ∧ o.cls = .type "StopIteration") → E (.ref e) { s with heap := h' }) :
    wpAny (model prog w) A (Builtin.SmallTypes.nextOf (.ref z)) Q E s := by
  obtain ⟨hz, hTI, ⟨a, b, hTO⟩, h1, h2⟩ := S
  obtain ⟨o0, f, hz', _⟩ := id hz
  have hT : s.TypeIs (.ref z) "zip" := ⟨_, hz', rfl⟩
  unfold Builtin.SmallTypes.nextOf
  exact wpAny_bind (wpAny_callSpecial?_slot (name := Str.ofString "__next__") hT F.slot_zip_next
    (wpAny_call_entry F.slot_zip_next hT F.entry_zip_next (zipo_end hh D hz hTI hTO h1 h2 hl1 hl2 hend hE) (F.args_zip_next_1 _)))
end
end Lw
set_option Elab.async false
set_option linter.all false
set_option maxRecDepth 100000
set_option maxHeartbeats 4000000
/-! Lwn: enumerate(zip(a, b)): its turns -/
namespace Lw
open PySem PySem.Spec PyProof.Rows L2
open Sem (wp)
open AutoSeq1 (wpAny_loadPart')
theorem meets_enumerate_newZ (z TI TO : Addr) :
    Meets (Builtin.«enumerate.__new__» ⟨[.type "enumerate", .ref z], []⟩) (fun _ R s => IsZip s.heap z TI TO .none ∧
      R (.ok (.ret (.ref s.heap.objs.size)))
        { s with heap := s.heap.push { cls := .type "enumerate", data := .fields #[.none, .bool false, .ref z, rawInt 0, .none, .none] } }) :=
  .of_wp fun prog w A R s h => by
    obtain ⟨hp, g, d, tk, os⟩ := s; obtain ⟨hl, h⟩ := h
    have hsub := sub_enumerate
    have it : ∀ {A' : Around} {E : Value → Shared → Prop} {Q : Value → Shared → Prop}, Q (.ref z) ⟨hp, g, d, tk, os⟩ → wpAny (model prog w) A' (pyIter (.ref z)) Q E ⟨hp, g, d, tk, os⟩ := fun q => wpAny_pyIter_zip (s := ⟨hp, g, d, tk, os⟩) hl q
    wp_walk using wpAny_loadPart' hl
    refine wpAny_stack_any fun st => wpAny_pure ?_
    split
    · rename_i c _ _ _ _ _
      cases (c == Value.type "enumerate")
      · wp_walk using wpAny_loadPart' hl, it
        exact ⟨_, rfl, h⟩
      · wp_walk using wpAny_loadPart' hl, it
        exact ⟨_, rfl, h⟩
    · wp_walk using wpAny_loadPart' hl, it
      exact ⟨_, rfl, h⟩
section
variable {prog : Program} {w : World} {A : Around} {E : Value → Shared → Prop} {s : Shared}
theorem call_enumerate_zip {z TI TO : Addr} {Q : Value → Shared → Prop} (hz : IsZip s.heap z TI TO .none)
    (h : ∀ h', IsEnum h' s.heap.objs.size z 0 .none → h'.objs.size = s.heap.objs.size + 1 →
      (∀ b o, s.heap.get? b = some o → h'.get? b = some o) → Q (.ref s.heap.objs.size) { s with heap := h' }) :
    wpAny (model prog w) A (call (.type "enumerate") [.ref z]) Q E s := by
  refine callType_new F.called_enumerate (by decide) (F.typeCall_enumerate_1 _) (F.newCall_enumerate_1 _) (fun obj => F.args_object_init_2 obj _) F.entry_enumerate_new
    (meets_enumerate_newZ z TI TO) ⟨hz, ?_⟩
  have he : IsEnum (s.heap.push { cls := .type "enumerate", data := .fields #[.none, .bool false, .ref z, rawInt 0, .none, .none] }) s.heap.objs.size z 0 .none :=
    Heap.get?_push_size s.heap (o := { cls := .type "enumerate", data := .fields #[.none, .bool false, .ref z, rawInt 0, .none, .none] }) rfl
  exact ⟨⟨_, he, rfl⟩, h _ he (Heap.size_push ..) fun b o x => Heap.get?_push_of_some _ x⟩
theorem enumz_next_item {e z TI TO i1 i2 l1 l2 : Addr} {i : Nat} {xs ys : Array Value} {x y old : Value} {Q : Value → Shared → Prop} (D : ZipApart z TI TO i1 i2 l1 l2)
    (he : IsEnum s.heap e z (i : Int) old) (S : ZS z TI TO i1 i2 l1 l2 i s.heap) (hl1 : s.heap.IsList l1 xs) (hl2 : s.heap.IsList l2 ys) (hx : xs[i]? = some x) (hy : ys[i]? = some y)
    (ez : e ≠ z) (eTI : e ≠ TI) (eTO : e ≠ TO) (e1 : e ≠ i1) (e2 : e ≠ i2)
    (hQ : ∀ h₁ h' tk, PySem.IsPair h₁ s.heap.objs.size x y → h₁.objs.size = s.heap.objs.size + 1 → (∀ c o, c ≠ z → c ≠ TO → c ≠ i1 → c ≠ i2 → s.heap.get? c = some o → h₁.get? c = some o) →
      IsEnumOut h' e z ((i : Int) + 1) (.ref s.heap.objs.size) (s.heap.objs.size + 1) → ZS z TI TO i1 i2 l1 l2 (i + 1) h' →
      h'.get? (s.heap.objs.size + 1) = some { cls := .type "tuple", data := .seq #[.int i tk, .ref s.heap.objs.size] } → h'.objs.size = s.heap.objs.size + 2 →
      (∀ b o, b ≠ e → h₁.get? b = some o → h'.get? b = some o) → Q (.ref (s.heap.objs.size + 1)) { s with heap := h', toks := tk + 1 }) :
    wpAny (model prog w) A (Builtin.«enumerate.__next__» ⟨[.ref e], []⟩) (fun fin s' => ∃ v, fin = .done (.ret v) ∧ Q v s') E s := by
  obtain ⟨hp, g, d, tk, os⟩ := s
  show wpAny _ _ (field (.ref e) 2 >>= _) _ _ _
  refine wpAny_bind (wpAny_field he rfl (x := .ref z) rfl ?_)
  refine wpAny_bind (nextOf_zip_item D S hl1 hl2 hx hy fun h₁ S₁ hp₁ hz₁ hk₁ => ?_)
  replace hp₁ : PySem.IsPair h₁ hp.objs.size x y := hp₁
  replace hz₁ : h₁.objs.size = hp.objs.size + 1 := hz₁
  replace hk₁ : ∀ c o, c ≠ z → c ≠ TO → c ≠ i1 → c ≠ i2 → hp.get? c = some o → h₁.get? c = some o := hk₁
  have he₁ : IsEnum h₁ e z i old := hk₁ _ _ ez eTO e1 e2 he
  show wpAny _ _ (field (.ref e) 3 >>= _) _ _ ⟨h₁, g, d, tk, os⟩
  refine wpAny_bind (wpAny_field he₁ rfl (x := rawInt i) rfl ?_)
  show wpAny _ _ (field (.ref e) 4 >>= _) _ _ ⟨h₁, g, d, tk, os⟩
  refine wpAny_bind (wpAny_field he₁ rfl (x := .none) rfl ?_)
  show wpAny _ _ (mkInt i >>= _) _ _ ⟨h₁, g, d, tk, os⟩
  refine wpAny_bind (wpAny_mkInt ?_)
  show wpAny _ _ (setField (.ref e) 3 (rawInt ((i : Int) + 1)) >>= _) _ _ ⟨h₁, g, d, tk + 1, os⟩
  refine wpAny_bind (wpAny_setField_rec he₁ (by simp) fun h₂ he₂ hs₂ => ?_)
  replace hs₂ : Heap.SameBut e h₁ h₂ := hs₂
  replace he₂ : IsEnum h₂ e z ((i : Int) + 1) old := he₂
  show wpAny _ _ (setField (.ref e) 4 .none >>= _) _ _ ⟨h₂, g, d, tk + 1, os⟩
  refine wpAny_bind (wpAny_setField_rec he₂ (by simp) fun h₃ he₃ hs₃ => ?_)
  replace hs₃ : Heap.SameBut e h₂ h₃ := hs₃
  replace he₃ : IsEnum h₃ e z ((i : Int) + 1) old := he₃
  show wpAny _ _ (newTuple [.int i tk, .ref hp.objs.size] >>= _) _ _ ⟨h₃, g, d, tk + 1, os⟩
  refine wpAny_bind (wpAny_newTuple ?_)
  have he₄ : IsEnum (h₃.push { cls := .type "tuple", data := .seq #[.int i tk, .ref hp.objs.size] }) e z ((i : Int) + 1) old := Heap.get?_push_of_some _ he₃
  generalize hh₄ : h₃.push { cls := .type "tuple", data := .seq #[.int i tk, .ref hp.objs.size] } = h₄ at he₄
  have hsz : h₃.objs.size = hp.objs.size + 1 := by rw [hs₃.1, hs₂.1, hz₁]
  have hel : e < hp.objs.size := Heap.lt_size he
  have hel1 : e < hp.objs.size + 1 := Nat.lt_succ_of_lt hel
  have ht₄ : h₄.get? (hp.objs.size + 1) = some { cls := .type "tuple", data := .seq #[.int i tk, .ref hp.objs.size] } := by rw [← hh₄, ← hsz]; exact Heap.get?_push_size _ rfl
  have hz₄ : h₄.objs.size = hp.objs.size + 2 := by rw [← hh₄, Heap.size_push, hsz]
  have hk₄ : ∀ b o, b ≠ e → h₁.get? b = some o → h₄.get? b = some o := fun b o hbe hb => by
    rw [← hh₄]; exact Heap.get?_push_of_some _ (hs₃.extBut b o hbe (hs₂.extBut b o hbe hb))
  show wpAny _ _ (Builtin.SmallTypes.ownedTupleIsFree (.ref e) >>= _) _ _ ⟨h₄, g, d, tk + 1, os⟩
  rw [hsz]
  clear hh₄ he₃ hs₃ he₂ hs₂ he₁ hsz h₃ h₂
  refine wpAny_bind ?_
  · unfold Builtin.SmallTypes.ownedTupleIsFree
    refine wpAny_bind (wpAny_field he₄ rfl (x := .none) rfl (wpAny_pure ?_))
    simp only [if_true]
    refine wpAny_bind (wpAny_rule ?_)
    refine wpAny_bind (wpAny_field he₄ rfl (x := old) rfl ?_)
    refine wpAny_bind (wpAny_setField_rec he₄ (by simp) fun h₅ he₅ hs₅ => ?_)
    replace hs₅ : Heap.SameBut e h₄ h₅ := hs₅
    replace he₅ : IsEnum h₅ e z ((i : Int) + 1) (.ref hp.objs.size) := he₅
    show wpAny _ _ (Builtin.SmallTypes.ownedTupleHandOut (.ref e) (.ref (hp.objs.size + 1)) >>= _) _ _ ⟨h₅, g, d, tk + 1, os⟩
    refine wpAny_bind ?_
    · unfold Builtin.SmallTypes.ownedTupleHandOut
      refine wpAny_bind (wpAny_setField_rec he₅ (by simp) fun h₆ he₆ hs₆ => ?_)
      replace hs₆ : Heap.SameBut e h₅ h₆ := hs₆
      replace he₆ : IsEnumOut h₆ e z ((i : Int) + 1) (.ref hp.objs.size) (hp.objs.size + 1) := he₆
      refine wpAny_setField_rec he₆ (by simp) fun h₇ he₇ hs₇ => ?_
      replace hs₇ : Heap.SameBut e h₆ h₇ := hs₇
      replace he₇ : IsEnumOut h₇ e z ((i : Int) + 1) (.ref hp.objs.size) (hp.objs.size + 1) := he₇
      have up : ∀ b o, b ≠ e → h₄.get? b = some o → h₇.get? b = some o := fun b o hbe hb => hs₇.extBut b o hbe (hs₆.extBut b o hbe (hs₅.extBut b o hbe hb))
      refine wpAny_bind (wpAny_letGo (wpAny_pure ⟨_, rfl, hQ h₁ h₇ tk hp₁ hz₁ hk₁ he₇ ?_ ?_ ?_ ?_⟩))
      · refine S₁.keep fun b hb o q => up b o ?_ (hk₄ b o ?_ q)
        all_goals
          rcases hb with rfl | rfl | rfl | rfl | rfl
          · exact ez.symm
          · exact eTI.symm
          · exact eTO.symm
          · exact e1.symm
          · exact e2.symm
      · exact up _ _ (Nat.ne_of_gt hel1) ht₄
      · rw [hs₇.1, hs₆.1, hs₅.1, hz₄]
      · exact fun b o hbe hb => up b o hbe (hk₄ b o hbe hb)
theorem pyNext_enumz_item {e z TI TO i1 i2 l1 l2 : Addr} {i : Nat} {xs ys : Array Value} {x y old : Value} {Q : Option Value → Shared → Prop} (D : ZipApart z TI TO i1 i2 l1 l2)
    (he : IsEnum s.heap e z (i : Int) old) (S : ZS z TI TO i1 i2 l1 l2 i s.heap) (hl1 : s.heap.IsList l1 xs) (hl2 : s.heap.IsList l2 ys) (hx : xs[i]? = some x) (hy : ys[i]? = some y)
    (ez : e ≠ z) (eTI : e ≠ TI) (eTO : e ≠ TO) (e1 : e ≠ i1) (e2 : e ≠ i2)
    (hQ : ∀ h₁ h' tk, PySem.IsPair h₁ s.heap.objs.size x y → h₁.objs.size = s.heap.objs.size + 1 → (∀ c o, c ≠ z → c ≠ TO → c ≠ i1 → c ≠ i2 → s.heap.get? c = some o → h₁.get? c = some o) →
      IsEnumOut h' e z ((i : Int) + 1) (.ref s.heap.objs.size) (s.heap.objs.size + 1) → ZS z TI TO i1 i2 l1 l2 (i + 1) h' →
      h'.get? (s.heap.objs.size + 1) = some { cls := .type "tuple", data := .seq #[.int i tk, .ref s.heap.objs.size] } → h'.objs.size = s.heap.objs.size + 2 →
      (∀ b o, b ≠ e → h₁.get? b = some o → h'.get? b = some o) → Q (some (.ref (s.heap.objs.size + 1))) { s with heap := h', toks := tk + 1 }) :
    wpAny (model prog w) A (pyNext (.ref e)) Q E s := by
  have hT : s.TypeIs (.ref e) "enumerate" := ⟨_, he, rfl⟩
  unfold pyNext
  exact wpAny_bind (wpAny_attempt (wpAny_callSpecial?_slot (name := Str.ofString "__next__") hT F.slot_enumerate_next
    (wpAny_call_entry F.slot_enumerate_next hT F.entry_enumerate_next
      (enumz_next_item D he S hl1 hl2 hx hy ez eTI eTO e1 e2 fun h₁ h' tk a1 a2 a3 a4 a5 a6 a7 a8 => wpAny_pure (hQ h₁ h' tk a1 a2 a3 a4 a5 a6 a7 a8)) (F.args_enumerate_next_1 _))))
theorem pyNext_enumz_end {e z TI TO i1 i2 l1 l2 : Addr} {i : Nat} {xs ys : Array Value} {old : Value} {Q : Option Value → Shared → Prop} (hh : A.handled = none) (D : ZipApart z TI TO i1 i2 l1 l2)
    (he : IsEnum s.heap e z (i : Int) old) (S : ZS z TI TO i1 i2 l1 l2 i s.heap) (hl1 : s.heap.IsList l1 xs) (hl2 : s.heap.IsList l2 ys) (hend : xs[i]? = none ∨ ys[i]? = none)
    (hQ : ∀ h', (∀ c o, c ≠ z → c ≠ TO → c ≠ i1 → c ≠ i2 → s.heap.get? c = some o → h'.get? c = some o) → Q none { s with heap := h' }) :
    wpAny (model prog w) A (pyNext (.ref e)) Q E s := by
  have hT : s.TypeIs (.ref e) "enumerate" := ⟨_, he, rfl⟩
  unfold pyNext
  refine wpAny_bind (wpAny_attempt (wpAny_callSpecial?_slot (name := Str.ofString "__next__") hT F.slot_enumerate_next
    (wpAny_call_entry F.slot_enumerate_next hT F.entry_enumerate_next ?_ (F.args_enumerate_next_1 _))))
  show wpAny _ _ (field (.ref e) 2 >>= _) _ _ _
  refine wpAny_bind (wpAny_field he rfl (x := .ref z) rfl ?_)
  refine wpAny_bind (nextOf_zip_end hh D S hl1 hl2 hend fun h' x hk hx' => ?_)
  obtain ⟨o, ho, hc⟩ := hx'
  refine wpAny_bind (wpAny_isInstance (T := "StopIteration") (b := true) ⟨o, ho, hc⟩ isSubtype_stop ?_)
  exact wpAny_pure (hQ _ hk)
end
/-- the lists at a and b as they stand at each turn, the items in new pairs, counted -/
def ItEZ (K : PySem.W.Frag) (a b : Addr) : It :=
  ⟨fun i H => ∃ (xs ys : List V) (x y : V), SqL K H a xs ∧ SqL K H b ys ∧ xs[i]? = some x ∧ ys[i]? = some y,
    fun i H v H' => ∃ T U x y, v = .ref T ∧ H U = none ∧ upd H U (.tup [x, y]) T = none ∧ H' = upd (upd H U (.tup [x, y])) T (.tup [.int (i : Nat), .ref U]) ∧ (∀ xs, SqL K H a xs → xs[i]? = some x) ∧ ∀ ys, SqL K H b ys → ys[i]? = some y,
    fun i H => ∃ xs ys : List V, SqL K H a xs ∧ SqL K H b ys ∧ (xs.length ≤ i ∨ ys.length ≤ i)⟩
theorem turn_enumz {P : Program} {w : World} {K : PySem.W.Frag} {elts : List Expr} {kk : Nat} {tpos : Pos} {a b e z TI TO i1 i2 : Addr} (D : ZipApart z TI TO i1 i2 a b) (ez : e ≠ z) (eTI : e ≠ TI) (eTO : e ≠ TO) (e1 : e ≠ i1) (e2 : e ≠ i2) :
    Turn P w K (.Tuple elts kk tpos) (ItEZ K a b) [e, z, TI, TO, i1, i2] e (fun i h => (∃ old, IsEnum h e z ((i : Nat) : Int) old) ∧ ZS z TI TO i1 i2 a b i h) where
  mem := by simp
  obj := fun i h st c hc => by
    obtain ⟨⟨old, he⟩, ⟨o0, f, hz, _⟩, hTI, ⟨x, y, hTO⟩, ⟨o1, q1, _, d1⟩, ⟨o2, q2, _, d2⟩⟩ := st
    have e' : c = e ∨ c = z ∨ c = TI ∨ c = TO ∨ c = i1 ∨ c = i2 := by simpa using hc
    rcases e' with q | q | q | q | q | q
    · rw [q]; exact ⟨_, he, fun v q => nomatch q⟩
    · rw [q]; exact ⟨_, hz, fun v q => nomatch q⟩
    · rw [q]; exact ⟨_, hTI, fun v q => nomatch q⟩
    · rw [q]; exact ⟨_, hTO, fun v q => nomatch q⟩
    · rw [q]; exact ⟨o1, q1, fun v q => by rw [d1] at q; cases q⟩
    · rw [q]; exact ⟨o2, q2, fun v q => by rw [d2] at q; cases q⟩
  keep := fun i h h' st k => by
    obtain ⟨⟨old, he⟩, S⟩ := st
    exact ⟨⟨old, k e (by simp) _ he⟩, S.keep fun c hc o q => k c (by
      rcases hc with rfl | rfl | rfl | rfl | rfl <;> simp) o q⟩
  item := by
    intro X hP hw hK hc i pins s σ H E I hf st hg
    subst hP hw hK
    obtain ⟨⟨old, he⟩, S⟩ := st
    obtain ⟨xs, ys, x, y, hqx, hqy, hx, hy⟩ := hg
    obtain ⟨its, rv, p, _⟩ := I.list hqx
    obtain ⟨its2, rv2, p2, _⟩ := I.list hqy
    obtain ⟨u, hu, ru⟩ := rv.get hx
    obtain ⟨u2, hu2, ru2⟩ := rv2.get hy
    have hel : e < s.heap.objs.size := Heap.lt_size he
    refine pyNext_enumz_item D he S p.isList p2.isList (x := u) (y := u2) (by simpa using hu) (by simpa using hu2) ez eTI eTO e1 e2 fun h₁ h' tk hp₁ hz₁ hk₁ ho S' hT hsz hk => ?_
    refine ⟨_, rfl, wpAny_letOwnedTupleGo_enum (s := { s with heap := h', toks := tk + 1 }) ho fun h'' he' sb => ?_⟩
    have hT2 : h''.get? (s.heap.objs.size + 1) = some { cls := .type "tuple", data := .seq #[.int i tk, .ref s.heap.objs.size] } := (sb.2 _ (Nat.ne_of_gt (Nat.lt_succ_of_lt hel))).trans hT
    have I1 : Inv X pins σ (upd H s.heap.objs.size (.tup [x, y])) { s with heap := h₁ } :=
      I.turnedNew (t' := s.toks) (ch := [e, z, TI, TO, i1, i2]) (fun c o hb q => hk₁ c o (fun q' => hb (by simp [q'])) (fun q' => hb (by simp [q'])) (fun q' => hb (by simp [q'])) (fun q' => hb (by simp [q'])) q) hf (Nat.le_refl _)
        ⟨by show 2 ≤ sizeLine; decide, [u, u2], .cons ru (.cons ru2 .nil), ⟨_, hp₁, rfl, _, rfl⟩⟩
    have hlt : ∀ c ∈ [e, z, TI, TO, i1, i2], c < s.heap.objs.size := fun c hcm => by
      obtain ⟨⟨o0, f, hz, _⟩, hTI, ⟨x0, y0, hTO⟩, ⟨o1, q1, _⟩, ⟨o2, q2, _⟩⟩ := S
      have e' : c = e ∨ c = z ∨ c = TI ∨ c = TO ∨ c = i1 ∨ c = i2 := by simpa using hcm
      rcases e' with q | q | q | q | q | q
      · rw [q]; exact hel
      · rw [q]; exact Heap.lt_size hz
      · rw [q]; exact Heap.lt_size hTI
      · rw [q]; exact Heap.lt_size hTO
      · rw [q]; exact Heap.lt_size q1
      · rw [q]; exact Heap.lt_size q2
    have hf2 : ∀ c ∈ [e, z, TI, TO, i1, i2], FpOk X pins (upd H s.heap.objs.size (.tup [x, y])) c := fun c hcm => ⟨by rw [upd_ne (Nat.ne_of_lt (hlt c hcm))]; exact (hf c hcm).1, (hf c hcm).2⟩
    have hle : ({ s with heap := h₁ } : Shared).heap.objs.size ≤ s.heap.objs.size + 1 := by show h₁.objs.size ≤ _; rw [hz₁]; exact Nat.le_refl _
    have I2 : Inv X pins σ (upd (upd H s.heap.objs.size (.tup [x, y])) (s.heap.objs.size + 1) (.tup [.int (i : Nat), .ref s.heap.objs.size])) { s with heap := h'', toks := tk + 1 } :=
      I1.turnedNew (t' := tk + 1) (ch := [e, z, TI, TO, i1, i2]) (fun c o hb q => (sb.2 c (fun q' => hb (by simp [q']))).trans (hk c o (fun q' => hb (by simp [q'])) q)) hf2 hle
        ⟨by show 2 ≤ sizeLine; decide, [.int i tk, .ref s.heap.objs.size], .cons ⟨_, rfl⟩ (.cons rfl .nil), ⟨_, hT2, rfl, _, rfl⟩⟩
    refine ⟨.ref (s.heap.objs.size + 1), _, I2, rfl, ⟨_, _, x, y, rfl, I.hok.fresh (Nat.le_refl _), I1.hok.fresh hle, rfl, fun l hl => by rw [I.list_inj hl hqx]; exact hx, fun l hl => by rw [I.list_inj hl hqy]; exact hy⟩, ⟨⟨.ref s.heap.objs.size, ?_⟩, ?_⟩, fun c hcm => ?_⟩
    · have q1 : ((i + 1 : Nat) : Int) = (i : Int) + 1 := by omega
      rw [q1]; exact he'
    · exact S'.keep fun c hc o q => (sb.2 c (by
        rcases hc with rfl | rfl | rfl | rfl | rfl
        · exact ez.symm
        · exact eTI.symm
        · exact eTO.symm
        · exact e1.symm
        · exact e2.symm)).trans q
    · have hl := hlt c hcm
      rw [upd_ne (Nat.ne_of_lt (Nat.lt_succ_of_lt hl)), upd_ne (Nat.ne_of_lt hl)]
      exact (hf c hcm).1
  done := by
    intro X hP hw hK hc i pins s σ H E I hf st hg
    subst hP hw hK
    obtain ⟨⟨old, he⟩, S⟩ := st
    obtain ⟨xs, ys, hqx, hqy, hend⟩ := hg
    obtain ⟨its, rv, p, _⟩ := I.list hqx
    obtain ⟨its2, rv2, p2, _⟩ := I.list hqy
    have l1 := rv.length
    have l2 := rv2.length
    have he2 : its.toArray[i]? = none ∨ its2.toArray[i]? = none := by
      rcases hend with q | q
      · exact .inl (by simp; omega)
      · exact .inr (by simp; omega)
    exact pyNext_enumz_end (I.ok.hd hc) D he S p.isList p2.isList he2 fun h' hk => ⟨rfl, I.turnedL (t' := s.toks) (ch := [e, z, TI, TO, i1, i2]) (fun c o hb q =>
      hk c o (fun q' => hb (by simp [q'])) (fun q' => hb (by simp [q'])) (fun q' => hb (by simp [q'])) (fun q' => hb (by simp [q'])) q) hf⟩
  self := fun A i s Q E st h => let ⟨⟨_, he⟩, _⟩ := st; wpAny_pyIter_enum he h
end Lw
set_option Elab.async false
set_option linter.all false
set_option maxRecDepth 100000
set_option maxHeartbeats 4000000
/-! Lwo: for i, (x, y) in enumerate(zip(a, b)) -/
namespace Lw
open PySem PySem.Spec PyProof.Rows L2
open Sem (wp)
def iEnumZ (K : PySem.W.Frag) (ta : TA) : TI := fun σ H R => ta σ H fun vs H1 => ∃ (a b : Addr) (xs ys : List V), vs = [.ref a, .ref b] ∧ SqL K H1 a xs ∧ SqL K H1 b ys ∧ R (ItEZ K a b) H1
theorem pi_enumz {X : Cx} {e e2 : Expr} {ta : TA} {p p2 pos pos2 tpos : Pos} {elts : List Expr} {kk : Nat} (hg : Gl X "enumerate") (hm : X.mg "enumerate" = none) (hg2 : Gl X "zip") (hm2 : X.mg "zip" = none) (ha : PA X [e, e2] ta)
    (na : starEach [.Call (.Name "zip" p2) [e, e2] [] pos2] X.env = (false, eval (.Call (.Name "zip" p2) [e, e2] [] pos2) X.env) :: starEach [] X.env)
    (hs : starEach [e, e2] X.env = (false, eval e X.env) :: starEach [e2] X.env) (hpl : (backTo pos2 (starEach [e2] X.env)).any (·.1) = false) :
    PI X (.Tuple elts kk tpos) (.Call (.Name "enumerate" p) [.Call (.Name "zip" p2) [e, e2] [] pos2] [] pos) (iEnumZ X.K ta) := by
  refine ⟨fun pins s σ H R I h => ?_⟩
  refine Call_ (ld_blt I hg hm boot_enumerate (PyProof.Rows.callWith_type1 (args_cons ?_ na) na))
  refine Call_ (ld_blt I hg2 hm2 PyProof.Rows.boot_zip (PyProof.Rows.callWith_type1 (thn (ha.run pos2 pins s σ H _ I h) fun us s1 ⟨vs, H1, I1, r1, q1⟩ => ?_) hs hpl))
  obtain ⟨a, b, xs, ys, ex, hqx, hqy, q⟩ := q1
  subst ex
  cases r1 with
  | cons r rr =>
    cases rr with
    | cons r' rr =>
      cases rr
      cases r
      cases r'
      obtain ⟨its, rv, p1, _⟩ := I1.list hqx
      obtain ⟨its2, rv2, p2, _⟩ := I1.list hqy
      refine call_zip_2 p1.isList p2.isList fun h' hz hTI hTO h1 h2 hsz hk => args_nil ?_
      refine call_enumerate_zip (s := { s1 with heap := h' }) hz fun h'' he hsz2 hk2 => wpAny_pyIter_enum he ?_
      have I2 : Inv X pins σ H1 { s1 with heap := h'' } := I1.kept (t' := s1.toks) fun c o q => hk2 c o (hk c o q)
      have hN : ({ s1 with heap := h' } : Shared).heap.objs.size = s1.heap.objs.size + 5 := hsz
      rw [hN] at he ⊢
      have D := PySem.W.ktu_apart s1.heap.objs.size a b p1.lt p2.lt
      have n4 : s1.heap.objs.size + 5 ≠ s1.heap.objs.size + 4 := by omega
      have n2 : s1.heap.objs.size + 5 ≠ s1.heap.objs.size + 2 := by omega
      have n3 : s1.heap.objs.size + 5 ≠ s1.heap.objs.size + 3 := by omega
      have n0 : s1.heap.objs.size + 5 ≠ s1.heap.objs.size := by omega
      have n1 : s1.heap.objs.size + 5 ≠ s1.heap.objs.size + 1 := by omega
      refine ⟨s1.heap.objs.size + 5, [s1.heap.objs.size + 5, s1.heap.objs.size + 4, s1.heap.objs.size + 2, s1.heap.objs.size + 3, s1.heap.objs.size, s1.heap.objs.size + 1], _, _, H1, rfl, I2, turn_enumz (e := s1.heap.objs.size + 5) D n4 n2 n3 n0 n1, ⟨⟨.none, he⟩, ⟨.none, false, hk2 _ _ hz, .inl rfl⟩, hk2 _ _ hTI, ⟨_, _, hk2 _ _ hTO⟩, h1.at fun o q => hk2 _ o q, h2.at fun o q => hk2 _ o q⟩, fun c hcm => ?_, q⟩
      have hle : s1.heap.objs.size ≤ c := by
        have e' : c = s1.heap.objs.size + 5 ∨ c = s1.heap.objs.size + 4 ∨ c = s1.heap.objs.size + 2 ∨ c = s1.heap.objs.size + 3 ∨ c = s1.heap.objs.size ∨ c = s1.heap.objs.size + 1 := by simpa using hcm
        rcases e' with q | q | q | q | q | q
        · rw [q]; exact Nat.le_add_right _ _
        · rw [q]; exact Nat.le_add_right _ _
        · rw [q]; exact Nat.le_add_right _ _
        · rw [q]; exact Nat.le_add_right _ _
        · rw [q]; exact Nat.le_refl _
        · rw [q]; exact Nat.le_add_right _ _
      exact I1.fpOk hle (I1.hok.fresh hle)
variable [KI : FragI]
def YEP (f g : Nat → Option V) : Nat → Hp → V → Hp → Prop := fun i H v H' => ∃ T U x y, v = .ref T ∧ H U = none ∧ upd H U (.tup [x, y]) T = none ∧ H' = upd (upd H U (.tup [x, y])) T (.tup [.int (i : Nat), .ref U]) ∧ f i = some x ∧ g i = some y
omit KI in
theorem walk_enumz {K : PySem.W.Frag} {a b : Addr} {xs ys : List V} {n : Nat} (hn : n = min xs.length ys.length) : Walk (ItEZ K a b) n (fun H => SqL K H a xs ∧ SqL K H b ys) (YEP (fun i => xs[i]?) (fun i => ys[i]?)) := by
  subst hn
  refine ⟨fun i _ hi q => ?_, fun _ q => ⟨xs, ys, q.1, q.2, by omega⟩, fun i H v H' _ q y => ?_⟩
  · have h1 : i < xs.length := by omega
    have h2 : i < ys.length := by omega
    exact ⟨xs, ys, xs[i], ys[i], q.1, q.2, by simp [h1], by simp [h2]⟩
  · obtain ⟨T, U, x, z, h1, h2, h3, h4, h5, h6⟩ := y
    exact ⟨T, U, x, z, h1, h2, h3, h4, h5 xs q.1, h6 ys q.2⟩
theorem wkd_enumz {O : Own} {H1 : Hp} {J : It} {xs ys : List V} {ds es : List D} {G : Hp → Prop} (w : Walk J (min xs.length ys.length) G (YEP (fun i => xs[i]?) (fun i => ys[i]?))) (hG : ∀ O' H', Stp O H1 O' H' → G H') (ax : RpA O H1 xs ds) (ay : RpA O H1 ys es) :
    WkD O H1 ((ds.zip es).mapIdx fun i p => .tuple [.int (i : Nat), .tuple [p.1, p.2]]) J := by
  refine ⟨G, _, by rw [List.length_mapIdx, List.length_zip, ← ax.length, ← ay.length]; exact w, hG, fun i H' x H'' O' hi st ho y => ?_⟩
  obtain ⟨T, U, u, v, rfl, hU, hT, rfl, hu, hv⟩ := y
  obtain ⟨d, d1, d2⟩ := ax.getV hu
  obtain ⟨e, e1, e2⟩ := ay.getV hv
  have s1 : Same H' (upd H' U (.tup [u, v])) := same_upd hU
  have s2 : Same (upd H' U (.tup [u, v])) (upd (upd H' U (.tup [u, v])) T (.tup [.int (i : Nat), .ref U])) := same_upd hT
  have pr : Rp O' (upd H' U (.tup [u, v])) (.ref U) (.tuple [d, e]) := pair_new hU ho (d2.stp st) (e2.stp st)
  have ho2 : ∀ z, O' z → upd H' U (.tup [u, v]) z ≠ none := fun z oz hn => by
    by_cases q : z = U
    · subst q
      rw [upd_same] at hn
      cases hn
    · rw [upd_ne q] at hn
      exact ho z oz hn
  refine ⟨fun p o q => s2 p o (s1 p o q), _, ?_, pair_new hT ho2 (.int _) pr⟩
  have hz : (ds.zip es)[i]? = some (d, e) := List.getElem?_zip_eq_some.mpr ⟨d1, e1⟩
  rw [List.getElem?_mapIdx, hz]
  rfl
section
variable {C : Cd}
def fiEnumZ (g : FA) : FI := fun ρ W => (g ρ W).bindI fun as W1 => match datas as with
  | some [.list l, .list m] => .ok ((l.zip m).mapIdx fun i p => .tuple [.int (i : Nat), .tuple [p.1, p.2]]) W1
  | _ => .bad
theorem si_enumZ {e e2 : Expr} {p p2 pos pos2 tpos : Pos} {elts : List Expr} {kk : Nat} {g : FA} (hg : C.G "enumerate") (hm : C.mg "enumerate" = none) (hg2 : C.G "zip") (hm2 : C.mg "zip" = none) (ha : SA C [e, e2] g)
    (na : ∀ env, starEach [.Call (.Name "zip" p2) [e, e2] [] pos2] env = (false, eval (.Call (.Name "zip" p2) [e, e2] [] pos2) env) :: starEach [] env := by intro _; rfl)
    (hs : ∀ env, starEach [e, e2] env = (false, eval e env) :: starEach [e2] env := by intro _; rfl) (hpl : ∀ env, (backTo pos2 (starEach [e2] env)).any (·.1) = false := by intro _; rfl) :
    SI C (.Tuple elts kk tpos) (.Call (.Name "enumerate" p) [.Call (.Name "zip" p2) [e, e2] [] pos2] [] pos) (fiEnumZ g) := by
  obtain ⟨t, q, s⟩ := ha
  refine ⟨iEnumZ fK t, fun X h => by rw [← C.hK X h]; exact pi_enumz (C.gl h hg) (by rw [C.hmg X h]; exact hm) (C.gl h hg2) (by rw [C.hmg X h]; exact hm2) (q X h) (na _) (hs _) (hpl _), fun a W R I h => ?_⟩
  refine s.thenI I h fun as W1 vs H1 e1 st r1 h1 => ?_
  split at h1
  · rename_i l m ej
    have al := r1.datas ej
    cases al with
    | cons r al =>
      cases al with
      | cons r2 al =>
        cases al
        cases r with
        | lst hh1 a1 => cases r2 with
          | lst hh2 a2 => exact ⟨_, _, _, _, rfl, hh1.sq, hh2.sq, h1 _ H1 e1 Est.refl (wkd_enumz (walk_enumz rfl) (fun O' H' st => ⟨(hh1.stp st).sq, (hh2.stp st).sq⟩) a1 a2)⟩
  · exact absurd h1 id
end
section
variable {fa : FA} {ρ : List Sl} {W : Option Well}
@[simp] theorem v_ienZ : fiEnumZ fa ρ W = (fa ρ W).bindI fun as W1 => match datas as with
  | some [.list l, .list m] => .ok ((l.zip m).mapIdx fun i p => .tuple [.int (i : Nat), .tuple [p.1, p.2]]) W1
  | _ => .bad := nr rfl
end
end Lw
set_option Elab.async false
set_option linter.all false
set_option maxRecDepth 100000
set_option maxHeartbeats 2000000
set_option autoImplicit false
namespace Lw
open PySem PySem.Spec PyProof.Rows L2
variable [KI : FragI]
/-! ### divmod -/
def gDivmod : List Dt → Option Ev
  | [.int i, .int j] => if cDiv i j = true then some (.d (.tuple [.int (i / j), .int (i % j)])) else none
  | _ => none
theorem no_dm {ds : List Dt} (h : ¬ ∃ i j, ds = [PyData.int i, .int j]) : gDivmod ds = none := by
  match ds, h with
  | [.int i, .int j], h => exact absurd ⟨i, j, rfl⟩ h
  | [], _ => rfl
  | [_], _ => rename_i x _; cases x <;> rfl
  | x :: y :: z :: r, _ => cases x <;> cases y <;> rfl
  | [x, y], h => cases x <;> cases y <;> first | rfl | exact absurd ⟨_, _, rfl⟩ h
theorem pure_divmod : Pure (fun xs H Q => ∃ i j, xs = [V.int i, .int j] ∧ CDivP i j ∧ ∀ p, H p = none → Q (.ref p) (upd H p (.tup [.int (i / j), .int (i % j)]))) gDivmod := fun O H vs ds Q ho al w => by
  by_cases z : ∃ i j, ds = [PyData.int i, .int j]
  · obtain ⟨i, j, rfl⟩ := z
    cases al with
    | cons r al => cases al with
      | cons r2 al => cases al with
        | nil =>
          cases r
          cases r2
          by_cases c : cDiv i j = true
          · have e : gDivmod [.int i, .int j] = some (.d (.tuple [.int (i / j), .int (i % j)])) := by
              show (if cDiv i j = true then _ else _) = _
              rw [if_pos c]
            rw [e] at w
            have c' := cDiv_ok c
            refine ⟨i, j, rfl, ⟨c'.1, PyProof.noPylong_of_log2 c'.2⟩, fun p hp => ?_⟩
            exact w (.ref p) _ (same_upd hp) (.tup (.new (fun z => ho p z hp) upd_same) (.cons (.int _) (.cons (.int _) .nil)))
          · have e : gDivmod [.int i, .int j] = none := by
              show (if cDiv i j = true then _ else _) = _
              rw [if_neg c]
            rw [e] at w
            exact absurd w id
  · rw [no_dm z] at w
    exact absurd w id
@[simp] theorem v_divmod {a b : Int} (h : cDiv a b = true) : gDivmod [.int a, .int b] = some (.d (.tuple [.int (a / b), .int (a % b)])) := by
  show (if cDiv a b = true then _ else _) = _
  rw [if_pos h]
end Lw
set_option Elab.async false
set_option linter.all false
set_option maxRecDepth 100000
set_option maxHeartbeats 2000000
set_option autoImplicit false
/-! # an empty dict as data; try with except clauses that hold no name -/
namespace Lw
open PySem PySem.Spec PyProof.Rows L2
variable [KI : FragI]
section
variable {C : Cd}
/-! ### {} -/
def eDct : FE := fun _ W => .ok (.d (.dict [])) W
theorem se_dct {pos : Pos} : SE C (.Dict [] [] pos) eDct :=
  ⟨_, fun _ _ => pe_dnewK, fun a W Q I h p hp => h (.ref p) _ ⟨I.1.same (same_upd hp), I.2⟩ (Est.same (same_upd hp)) (.dct (fun z => I.1.al p z hp) upd_same)⟩
@[simp] theorem v_dct {ρ : List Sl} {W : Option Well} : eDct ρ W = .ok (.d (.dict [])) W := nr rfl
end
/-! ### the body of a try -/
def Cd.tr (C : Cd) (W : WX) : Cd where
  P := fun X' => ∃ (X : Cx) (pn : List (Addr × Obj)) (xe : Value → Shared → Prop), C.P X ∧ X' = X.tr pn xe ∧ Takes (X.tr pn xe) W
  prog := C.prog
  w := C.w
  mg := C.mg
  base := C.base
  N := C.N
  sc := C.sc
  k := C.k
  Wx := W
  ca := C.ca
  mkw := C.mkw
  hprog := by rintro _ ⟨X, pn, xe, h, rfl, _⟩; exact C.hprog X h
  hw := by rintro _ ⟨X, pn, xe, h, rfl, _⟩; exact C.hw X h
  hK := by rintro _ ⟨X, pn, xe, h, rfl, _⟩; exact C.hK X h
  hmg := by rintro _ ⟨X, pn, xe, h, rfl, _⟩; exact C.hmg X h
  hbase := by rintro _ ⟨X, pn, xe, h, rfl, _⟩; exact C.hbase X h
  hN := by rintro _ ⟨X, pn, xe, h, rfl, _⟩; exact C.hN X h
  hsc := by rintro _ ⟨X, pn, xe, h, rfl, _⟩; exact C.hsc X h
  cm := C.cm
  calmC := by rintro hcm _ ⟨X, pn, xe, h, rfl, _⟩; exact C.calmC hcm X h
  roomC := by rintro hcm _ ⟨X, pn, xe, h, rfl, _⟩; exact C.roomC hcm X h
  unX := by rintro _ ⟨X, pn, xe, h, rfl, _⟩; exact C.unX X h
  pass := by rintro _ ⟨X, pn, xe, h, rfl, tk⟩ σ; exact passAt tk σ
  nd := C.nd
  fn := C.fn
  hfn := by rintro _ ⟨X, pn, xe, h, rfl, _⟩; exact C.hfn X h
/-! ### an except suite, for an error of the class c at a0 -/
def Cd.su (C : Cd) (a0 : Addr) (c : Nat) : Cd where
  P := fun X' => ∃ (X : Cx) (oe : Obj) (pn : List (Addr × Obj)), C.P X ∧ X' = X.suite a0 ((a0, oe) :: pn) ∧ Zc (.ref (C.ca c)) none oe ∧ ∃ vs, oe.data = .fields vs
  prog := C.prog
  w := C.w
  mg := C.mg
  base := C.base
  N := C.N
  sc := C.sc
  k := C.k
  Wx := fun _ _ _ _ => False
  ca := C.ca
  mkw := C.mkw
  hprog := by rintro _ ⟨X, oe, pn, h, rfl, _⟩; exact C.hprog X h
  hw := by rintro _ ⟨X, oe, pn, h, rfl, _⟩; exact C.hw X h
  hK := by rintro _ ⟨X, oe, pn, h, rfl, _⟩; exact C.hK X h
  hmg := by rintro _ ⟨X, oe, pn, h, rfl, _⟩; exact C.hmg X h
  hbase := by rintro _ ⟨X, oe, pn, h, rfl, _⟩; exact C.hbase X h
  hN := by rintro _ ⟨X, oe, pn, h, rfl, _⟩; exact C.hN X h
  hsc := by rintro _ ⟨X, oe, pn, h, rfl, _⟩; exact C.hsc X h
  cm := false
  calmC := fun h => Bool.noConfusion h
  roomC := fun h => Bool.noConfusion h
  unX := by rintro _ ⟨X, oe, pn, h, rfl, _⟩; exact C.unX X h
  pass := by rintro _ ⟨X, oe, pn, h, rfl, _⟩ σ; exact passAt takes_none5 σ
  nd := C.nd
  fn := C.fn
  hfn := by rintro _ ⟨X, oe, pn, h, rfl, _⟩; exact C.hfn X h
/-- an except suite's end: it lets nothing out -/
def suO : Out → Out
  | .exc _ _ _ => .bad
  | o => o
/-- the clauses, one behind the other: mt c k tells whether class c is k or below it -/
def hGo (mt : Nat → Nat → Bool) (c : Nat) : List (Nat × FS) → FS
  | [], ρ, W => .exc c ρ W
  | (k, h) :: r, ρ, W => if mt c k = true then suO (h ρ W) else hGo mt c r ρ W
def sTry (ks : List Nat) (mt : Nat → Nat → Bool) (f : FS) (hs : List (Nat × FS)) : FS := fun ρ W => match f ρ W with
  | .exc c ρ' W' => if c ∈ ks then hGo mt c hs ρ' W' else .bad
  | o => o
inductive SH (C : Cd) : List ExceptHandler → List (Nat × FS) → Prop
  | nil : SH C [] []
  | cons {x : Str} {k : Nat} {b₀ : Stmt} {suite : List Stmt} {np pos : Pos} {h : FS} {r : List ExceptHandler} {l : List (Nat × FS)} : C.G x → (x == ("__debug__" : Str)) = false → C.mg x = some (.ref (C.ca k)) →
      (∀ a0 c, SB (C.su a0 c) (b₀ :: suite) h) → SH C r l → SH C (.ExceptHandler (some (.Name x np)) none (b₀ :: suite) pos :: r) ((k, h) :: l)
/-- what a suite wishes -/
def suT (C : Cd) (suite : List Stmt) (a0 : Addr) (cls : Value) (d : Option Addr) : TS := fun D σ H => ∃ (c : Nat) (t : TS), cls = .ref (C.ca c) ∧ d = none ∧ (∀ X, (C.su a0 c).P X → PSs X suite t) ∧ t D σ H
def hdT (C : Cd) : List ExceptHandler → List (Nat × FS) → List (Value × (Addr → Value → Option Addr → TS))
  | .ExceptHandler _ _ suite _ :: r, (k, _) :: l => (.ref (C.ca k), suT C suite) :: hdT C r l
  | _, _ => []
theorem suT_ok {C : Cd} {X : Cx} (h : C.P X) {suite : List Stmt} (a0 : Addr) (oe : Obj) (cls : Value) (d : Option Addr) (pn : List (Addr × Obj)) (hz : Zc cls d oe) (hf : ∃ vs, oe.data = .fields vs) : PSs (X.suite a0 ((a0, oe) :: pn)) suite (suT C suite a0 cls d) :=
  ⟨fun pins s σ H D I ⟨c, t, e1, e2, p, ht⟩ => by
    subst e1; subst e2
    exact (p _ ⟨X, oe, pn, h, rfl, hz, hf⟩).run pins s σ H D I ht⟩
theorem hds_ok {C : Cd} {X : Cx} (h : C.P X) : ∀ {hds : List ExceptHandler} {l : List (Nat × FS)}, SH C hds l → HdsOk X hds (hdT C hds l)
  | _, _, .nil => .nil
  | _, _, .cons hg hd hm hb r => .cons ⟨C.gl h hg, hd, .inl (by rw [C.hmg X h]; exact hm)⟩ (fun a oe cls d pn hz hf => suT_ok h a oe cls d pn hz hf) (hds_ok h r)
theorem ss_try {C : Cd} {ks : List Nat} {mt : Nat → Nat → Bool} {body : List Stmt} {h₀ : ExceptHandler} {hds : List ExceptHandler} {l : List (Nat × FS)} {f : FS} {pos : Pos}
    (hmt : ∀ c ∈ ks, ∀ p ∈ l, PySem.W.exmOne fK (.ref (C.ca c)) (.ref (C.ca p.1)) = some (mt c p.1)) (hb : ∀ W, SB (C.tr W) body f) (hh : SH C (h₀ :: hds) l)
    (hX : ∀ X, C.P X → X.stack = X.env :: X.outer ∧ X.env.frame = some X.env.locals ∧ Takes X C.Wx := by rintro _ rfl; exact ⟨rfl, rfl, takes_of rfl rfl rfl rfl⟩) :
    SS C (.Try body (h₀ :: hds) [] [] pos) (sTry ks mt f l) := by
  refine ⟨fun D σ H => ∃ t : TS, (∀ X, (C.tr (wMany fK C.Wx D (hdT C (h₀ :: hds) l))).P X → PSs X body t) ∧ t D σ H, fun X h => ?_, fun a W D hm I h => ?_⟩
  · obtain ⟨h1, h2, h3⟩ := hX X h
    have := ps_try_many (X := X) (body := body) (h₀ := h₀) (hds := hds) (l := hdT C (h₀ :: hds) l) (pos := pos) (tb := fun W D σ H => ∃ t : TS, (∀ X, (C.tr W).P X → PSs X body t) ∧ t D σ H) (Wout := C.Wx) h1 h2 h3
      (fun W pn xe tk _ => ⟨fun pins s σ H D I ⟨t, p, ht⟩ => (p _ ⟨X, pn, xe, h, rfl, tk⟩).run pins s σ H D I ht⟩) (hds_ok h hh)
    rw [C.hK X h] at this
    exact this
  · obtain ⟨t, p, snd⟩ := hb (wMany fK C.Wx D (hdT C (h₀ :: hds) l))
    refine ⟨t, p, snd a W D hm I ?_⟩
    unfold sTry at h
    show wS (wMany fK C.Wx D (hdT C (h₀ :: hds) l)) C.ca a D (f a.ρ W)
    revert h
    cases f a.ρ W with
    | bad => exact id
    | bk ρ' W' => exact id
    | ct ρ' W' => exact id
    | nx ρ' W' => exact id
    | rt e W' => cases e <;> exact id
    | exc c ρ' W1 =>
      intro h a' y e1 I'
      have h : wS C.Wx C.ca a D (if c ∈ ks then hGo mt c l ρ' W1 else .bad) := h
      by_cases hc : c ∈ ks
      · rw [if_pos hc] at h
        have go : ∀ {hds : List ExceptHandler} {l : List (Nat × FS)}, SH C hds l → (∀ p ∈ l, PySem.W.exmOne fK (.ref (C.ca c)) (.ref (C.ca p.1)) = some (mt c p.1)) → wS C.Wx C.ca a D (hGo mt c l ρ' W1) → wMany fK C.Wx D (hdT C hds l) (.ref (C.ca c)) none a'.σ a'.H := by
          intro hds l hs
          induction hs with
          | nil => exact fun _ h => h a' y e1 I'
          | @cons x k b₀ suite np pos g r l hg hd hm' hsu r' ih =>
            intro hq h
            refine ⟨mt c k, hq (k, g) List.mem_cons_self, fun z a0 hn => ?_, fun z => ?_⟩
            · have h : wS C.Wx C.ca a D (if mt c k = true then suO (g ρ' W1) else hGo mt c l ρ' W1) := h
              rw [if_pos z] at h
              obtain ⟨t2, p2, s2⟩ := hsu a0 c
              refine ⟨c, t2, rfl, rfl, p2, s2 a' W1 D (by rw [y.b]; exact hm) I' ?_⟩
              have h2 := wS.later y h
              rw [e1]
              show wS (fun _ _ _ _ => False) C.ca a' D (g ρ' W1)
              revert h2
              cases g ρ' W1 with
              | exc c ρ W => exact fun h => h.elim
              | bad => exact id
              | bk ρ W => exact id
              | ct ρ W => exact id
              | nx ρ W => exact id
              | rt e W => cases e <;> exact id
            · have h : wS C.Wx C.ca a D (if mt c k = true then suO (g ρ' W1) else hGo mt c l ρ' W1) := h
              rw [if_neg (by rw [z]; decide)] at h
              exact ih (fun p hp => hq p (List.mem_cons_of_mem _ hp)) h
        exact go hh (hmt c hc) h
      · rw [if_neg hc] at h
        exact h.elim
section
variable {ρ : List Sl} {W : Option Well} {mt : Nat → Nat → Bool} {c k : Nat} {h f : FS} {r : List (Nat × FS)}
@[simp] theorem v_hGo0 : hGo mt c [] ρ W = .exc c ρ W := nr rfl
@[simp] theorem v_hGo1 : hGo mt c ((k, h) :: r) ρ W = if mt c k = true then suO (h ρ W) else hGo mt c r ρ W := nr rfl
@[simp] theorem v_suN {W' : Option Well} : suO (.nx ρ W') = .nx ρ W' := nr rfl
@[simp] theorem v_try {ks : List Nat} : sTry ks mt f r ρ W = match f ρ W with
  | .exc c ρ' W' => if c ∈ ks then hGo mt c r ρ' W' else .bad
  | o => o := nr rfl
end
end Lw
set_option Elab.async false
set_option linter.all false
set_option maxRecDepth 100000
set_option maxHeartbeats 2000000
set_option autoImplicit false
/-! # truths and ints compared -/
namespace LwBI
open PySem PySem.Spec PyProof PyProof.Rows
section
variable {prog : Program} {w : World} {A : Around} {E : Value → Shared → Prop} {s : Shared} {Q : Value → Shared → Prop}
def b2n (b : Bool) : Int := if b = true then 1 else 0
theorem gives_ge_bi (a : Bool) (b : Int) (u : Tok) : Gives (Builtin.«int.__ge__» ⟨[.bool a, .int b u], []⟩) (.val (Value.bool (decide (b ≤ b2n a)))) :=
  .of_wp fun M A E s Q h => by obtain ⟨hp, g, d, tk, os⟩ := s; wp_walk; exact ⟨_, rfl, h⟩
theorem gives_le_bi (a : Bool) (b : Int) (u : Tok) : Gives (Builtin.«int.__le__» ⟨[.bool a, .int b u], []⟩) (.val (Value.bool (decide (b2n a ≤ b)))) :=
  .of_wp fun M A E s Q h => by obtain ⟨hp, g, d, tk, os⟩ := s; wp_walk; exact ⟨_, rfl, h⟩
theorem gives_lt_bi (a : Bool) (b : Int) (u : Tok) : Gives (Builtin.«int.__lt__» ⟨[.bool a, .int b u], []⟩) (.val (Value.bool (decide (b2n a < b)))) :=
  .of_wp fun M A E s Q h => by obtain ⟨hp, g, d, tk, os⟩ := s; wp_walk; exact ⟨_, rfl, h⟩
theorem le_bi {a : Bool} {b : Int} {u : Tok} (h : Q (.bool (decide (b2n a ≤ b))) s) : wpAny (model prog w) A (compareOp .LtE (.bool a) (.int b u)) Q E s := by
  show wpAny _ _ (richCompare .LtE (.bool a) (.int b u)) Q E s
  exact SeqAt.rc_left_or rfl (typeIs_int s b u) (by decide) F.sub_int_bool F.slot_bool_le (call_gives F.slot_bool_le rfl F.entry_int_le (F.args_int_le_2 _ _) (gives_le_bi a b u) ⟨nofun, h⟩) (.inl rfl)
theorem lt_bi {a : Bool} {b : Int} {u : Tok} (h : Q (.bool (decide (b2n a < b))) s) : wpAny (model prog w) A (compareOp .Lt (.bool a) (.int b u)) Q E s := by
  show wpAny _ _ (richCompare .Lt (.bool a) (.int b u)) Q E s
  exact SeqAt.rc_left_or rfl (typeIs_int s b u) (by decide) F.sub_int_bool F.slot_bool_lt (call_gives F.slot_bool_lt rfl F.entry_int_lt (F.args_int_lt_2 _ _) (gives_lt_bi a b u) ⟨nofun, h⟩) (.inl rfl)
theorem ge_bi {a : Bool} {b : Int} {u : Tok} (h : Q (.bool (decide (b ≤ b2n a))) s) : wpAny (model prog w) A (compareOp .GtE (.bool a) (.int b u)) Q E s := by
  show wpAny _ _ (richCompare .GtE (.bool a) (.int b u)) Q E s
  exact SeqAt.rc_left_or rfl (typeIs_int s b u) (by decide) F.sub_int_bool F.slot_bool_ge (call_gives F.slot_bool_ge rfl F.entry_int_ge (F.args_int_ge_2 _ _) (gives_ge_bi a b u) ⟨nofun, h⟩) (.inl rfl)
theorem le_ib {a : Int} {t : Tok} {b : Bool} (h : Q (.bool (decide (a ≤ b2n b))) s) : wpAny (model prog w) A (compareOp .LtE (.int a t) (.bool b)) Q E s := by
  show wpAny _ _ (richCompare .LtE (.int a t) (.bool b)) Q E s
  exact SeqAt.rc_sub_first_or (typeIs_int s a t) rfl (by decide) F.sub_bool_int F.slot_bool_ge (call_gives F.slot_bool_ge rfl F.entry_int_ge (F.args_int_ge_2 _ _) (gives_ge_bi b a t) ⟨nofun, h⟩) (.inl rfl)
end
end LwBI
namespace Lw
open PySem PySem.Spec PyProof.Rows L2 LwBI
variable [KI : FragI]
def rBI (p : Bool → Int → Bool) : R2 := fun x y H Q => ∃ b j, x = .bl b ∧ y = .int j ∧ Q (.bl (p b j)) H
def rIB (p : Int → Bool → Bool) : R2 := fun x y H Q => ∃ i b, x = .int i ∧ y = .bl b ∧ Q (.bl (p i b)) H
def gBI (p : Bool → Int → Bool) : G2 := fun x y => match x, y with | .bool b, .int j => some (.d (.bool (p b j))) | _, _ => none
def gIB (p : Int → Bool → Bool) : G2 := fun x y => match x, y with | .int i, .bool b => some (.d (.bool (p i b))) | _, _ => none
theorem pure_BI (p : Bool → Int → Bool) : Pure2 (rBI p) (gBI p) := fun O H x y dx dy Q ho rx ry w => by
  cases rx with
  | bl b => cases ry with
    | int j => exact ⟨b, j, rfl, rfl, wP.val w (.bl _)⟩
    | _ => exact absurd w id
  | _ => cases ry <;> exact absurd w id
theorem pure_IB (p : Int → Bool → Bool) : Pure2 (rIB p) (gIB p) := fun O H x y dx dy Q ho rx ry w => by
  cases rx with
  | int i => cases ry with
    | bl b => exact ⟨i, b, rfl, rfl, wP.val w (.bl _)⟩
    | _ => exact absurd w id
  | _ => cases ry <;> exact absurd w id
section
variable {X : Cx}
theorem op_leBI : OpR X (compareOp .LtE) (rBI fun b j => decide (b2n b ≤ j)) := by
  intro pins s σ H x y v u Q I rx ry h
  obtain ⟨b, j, rfl, rfl, q⟩ := h
  obtain rfl : v = Value.bool b := rx
  obtain ⟨t, rfl⟩ := (ry : ∃ t, u = Value.int j t)
  exact le_bi ⟨.bl _, H, I, rfl, q⟩
theorem op_ltBI : OpR X (compareOp .Lt) (rBI fun b j => decide (b2n b < j)) := by
  intro pins s σ H x y v u Q I rx ry h
  obtain ⟨b, j, rfl, rfl, q⟩ := h
  obtain rfl : v = Value.bool b := rx
  obtain ⟨t, rfl⟩ := (ry : ∃ t, u = Value.int j t)
  exact lt_bi ⟨.bl _, H, I, rfl, q⟩
theorem op_geBI : OpR X (compareOp .GtE) (rBI fun b j => decide (j ≤ b2n b)) := by
  intro pins s σ H x y v u Q I rx ry h
  obtain ⟨b, j, rfl, rfl, q⟩ := h
  obtain rfl : v = Value.bool b := rx
  obtain ⟨t, rfl⟩ := (ry : ∃ t, u = Value.int j t)
  exact ge_bi ⟨.bl _, H, I, rfl, q⟩
theorem op_leIB : OpR X (compareOp .LtE) (rIB fun i b => decide (i ≤ b2n b)) := by
  intro pins s σ H x y v u Q I rx ry h
  obtain ⟨i, b, rfl, rfl, q⟩ := h
  obtain ⟨t, rfl⟩ := (rx : ∃ t, v = Value.int i t)
  obtain rfl : u = Value.bool b := ry
  exact le_ib ⟨.bl _, H, I, rfl, q⟩
end
def gLeX : G2 := g2or gLe (g2or (gBI fun b j => decide (b2n b ≤ j)) (gIB fun i b => decide (i ≤ b2n b)))
def gLtX : G2 := g2or gLt (gBI fun b j => decide (b2n b < j))
def gGeX : G2 := g2or gGe (gBI fun b j => decide (j ≤ b2n b))
section
variable {C : Cd} {a b c : Expr} {pos : Pos} {fa fb fc : FE}
theorem sc_geX (ha : SE C a fa) (hb : SE C b fb) : SC C (.Compare a [.GtE] [b] pos) (eBin gGeX fa fb) := sc_cmp (fun _ _ => op_ge.or op_geBI) (pure_ge.or (pure_BI _)) ha hb (nomark _)
theorem sc_leleX (ha : SE C a fa) (hb : SE C b fb) (hc : SE C c fc) (hl : lastMarks [.LtE, .LtE] [b, c] = false := by rfl) : SC C (.Compare a [.LtE, .LtE] [b, c] pos) (eChain gLeX gLeX fa fb fc) :=
  sc_chain (fun _ _ => op_le.or (op_leBI.or op_leIB)) (fun _ _ => op_le.or (op_leBI.or op_leIB)) (pure_le.or ((pure_BI _).or (pure_IB _))) (pure_le.or ((pure_BI _).or (pure_IB _))) ha hb hc hl
theorem sc_leltX (ha : SE C a fa) (hb : SE C b fb) (hc : SE C c fc) (hl : lastMarks [.LtE, .Lt] [b, c] = false := by rfl) : SC C (.Compare a [.LtE, .Lt] [b, c] pos) (eChain gLeX gLtX fa fb fc) :=
  sc_chain (fun _ _ => op_le.or (op_leBI.or op_leIB)) (fun _ _ => op_lt.or op_ltBI) (pure_le.or ((pure_BI _).or (pure_IB _))) (pure_lt.or (pure_BI _)) ha hb hc hl
end
@[simp] theorem v_leX {a b : Int} : gLeX (.int a) (.int b) = some (.d (.bool (decide (a ≤ b)))) := nr rfl
@[simp] theorem v_ltX {a b : Int} : gLtX (.int a) (.int b) = some (.d (.bool (decide (a < b)))) := nr rfl
@[simp] theorem v_geX {a b : Int} : gGeX (.int a) (.int b) = some (.d (.bool (decide (b ≤ a)))) := nr rfl
@[simp] theorem v_leXb {a : Int} {b : Bool} : gLeX (.int a) (.bool b) = some (.d (.bool (decide (a ≤ b2n b)))) := nr rfl
@[simp] theorem v_leXc {a : Int} {b : Bool} : gLeX (.bool b) (.int a) = some (.d (.bool (decide (b2n b ≤ a)))) := nr rfl
@[simp] theorem v_ltXb {a : Int} {b : Bool} : gLtX (.bool b) (.int a) = some (.d (.bool (decide (b2n b < a)))) := nr rfl
@[simp] theorem v_geXb {a : Int} {b : Bool} : gGeX (.bool b) (.int a) = some (.d (.bool (decide (a ≤ b2n b)))) := nr rfl
end Lw
set_option Elab.async false
set_option linter.all false
set_option maxRecDepth 100000
set_option maxHeartbeats 2000000
set_option autoImplicit false
/-! # sorted(set(x)) of a tuple of ints -/
namespace L2
open PySem PySem.Spec PyProof.Rows
def rSetT (K : PySem.W.Frag) (w : World) : List V → Hp → VK → Prop := fun xs H Q => ∃ (p : Addr) (ns : List Int), xs = [V.ref p] ∧ SqT K H p (ns.map V.int) ∧ ns.length ≤ 1000 ∧
  ∀ (q : Addr) (n : Nat), n ≤ ns.length → H q = none → Q (.ref q) (upd H q (SetO w q (fun j => decide (j ∈ ns)) n))
theorem cr_setT {X : Cx} (hc : X.calm = true) : CallR X (.type "set") (rSetT X.K X.w) := by
  intro pins s σ H xs us Q I r h
  obtain ⟨p0, ns, rfl, hq, hl, q⟩ := h
  obtain ⟨its, rv, pt, hz⟩ := I.tuple hq
  rw [Vals.ref1 r]
  have hi : IntsAre its.toArray.toList ns := ints_of_vals rv
  refine call_set_tupI ns (I.ok.hd hc) (show s.heap.IsTuple p0 its.toArray from pt) hi (by unfold scanBound; omega) fun h' tk c R hcn k => ?_
  exact ⟨.ref _, upd H s.heap.objs.size (SetO X.w s.heap.objs.size (fun j => decide (j ∈ ns)) c), I.laid (t' := tk) k (Nat.le_refl _) (setO_new R), rfl, q _ c hcn (I.hok.fresh (Nat.le_refl _))⟩
end L2
namespace Lw
open PySem PySem.Spec PyProof.Rows L2
variable [KI : FragI]
/-- the members, ascending -/
def insS (k : Int) : List Int → List Int
  | [] => [k]
  | a :: r => if k < a then k :: a :: r else if k = a then a :: r else a :: insS k r
def setS : List Int → List Int
  | [] => []
  | a :: r => insS a (setS r)
theorem mem_insS {k j : Int} : ∀ {l : List Int}, j ∈ insS k l ↔ j = k ∨ j ∈ l
  | [] => by simp [insS]
  | a :: r => by
    unfold insS
    split
    · simp
    · split
      · rename_i h; subst h; simp
      · simp only [List.mem_cons, mem_insS (l := r)]
        constructor
        · rintro (h | h | h)
          · exact .inr (.inl h)
          · exact .inl h
          · exact .inr (.inr h)
        · rintro (h | h | h)
          · exact .inr (.inl h)
          · exact .inl h
          · exact .inr (.inr h)
theorem pw_insS {k : Int} : ∀ {l : List Int}, l.Pairwise (· < ·) → (insS k l).Pairwise (· < ·)
  | [], _ => by simp [insS]
  | a :: r, h => by
    obtain ⟨h1, h2⟩ := List.pairwise_cons.mp h
    unfold insS
    split
    · rename_i hk
      refine List.pairwise_cons.mpr ⟨fun j hj => ?_, h⟩
      rcases List.mem_cons.mp hj with e | e
      · subst e; exact hk
      · exact Int.lt_trans hk (h1 j e)
    · split
      · exact h
      · refine List.pairwise_cons.mpr ⟨fun j hj => ?_, pw_insS h2⟩
        rcases mem_insS.mp hj with e | e
        · subst e; omega
        · exact h1 j e
theorem mem_setS {j : Int} : ∀ {l : List Int}, j ∈ setS l ↔ j ∈ l
  | [] => by simp [setS]
  | a :: r => by simp [setS, mem_insS, mem_setS (l := r)]
theorem pw_setS : ∀ {l : List Int}, (setS l).Pairwise (· < ·)
  | [] => by simp [setS]
  | a :: r => pw_insS pw_setS
theorem set_one {a b : List Int} (ha : a.Pairwise (· < ·)) (hb : b.Pairwise (· < ·)) (h : ∀ k, k ∈ a ↔ k ∈ b) : a = b := by
  have na : a.Nodup := ha.imp (fun h => Int.ne_of_lt h)
  have nb : b.Nodup := hb.imp (fun h => Int.ne_of_lt h)
  exact sort_one ((List.perm_ext_iff_of_nodup na nb).mpr h) (ha.imp (fun h => Int.le_of_lt h)) (hb.imp (fun h => Int.le_of_lt h))
/-- ascending already: the same -/
theorem setS_id {l : List Int} (h : l.Pairwise (· < ·)) : setS l = l := set_one pw_setS h fun _ => mem_setS
def eSetSrt (f : FE) : FE := fun ρ W => (f ρ W).bind fun x W1 => match x with
  | .tuple l => (match allI l with
    | some ns => if ns.length < 64 then .ok (.f ((setS ns).map PyData.int)) W1 else .bad
    | none => .bad)
  | _ => .bad
theorem se_setsrt {C : Cd} {e : Expr} {f : FE} {p p2 pos pos2 : Pos} (hgl : C.G "sorted") (hml : C.mg "sorted" = none) (hg : C.G "set") (hm : C.mg "set" = none) (he : SE C e f) (hs : ∀ env, starEach [e] env = (false, eval e env) :: starEach [] env := by intro _; rfl)
    (hs2 : ∀ env, starEach [.Call (.Name "set" p2) [e] [] pos2] env = (false, eval (.Call (.Name "set" p2) [e] [] pos2) env) :: starEach [] env := by intro _; rfl) (hcm : C.cm = true := by rfl) :
    SE C (.Call (.Name "sorted" p) [.Call (.Name "set" p2) [e] [] pos2] [] pos) (eSetSrt f) := by
  obtain ⟨t, q, s⟩ := he
  refine ⟨tCB (rSortedSet C.w) (tCons (tCB (rSetT fK C.w) (tCons t tNil)) tNil), fun X h => ?_, fun a W Q I h => ?_⟩
  · have h1 := cr_setT (X := X) (C.calmC hcm X h)
    have h2 := cr_sortedSet (X := X) (C.calmC hcm X h)
    rw [C.hK X h, C.hw X h] at h1
    rw [C.hw X h] at h2
    exact pe_callB h2 (C.gl h hgl) (by rw [C.hmg X h]; exact hml) rfl (pa_cons (pe_callTy h1 (C.gl h hg) (by rw [C.hmg X h]; exact hm) rfl (pa_cons (q X h) pa_nil (hs _)) (he := hs _)) pa_nil (hs2 _)) (he := hs2 _)
  · refine s.then I h fun x W1 v H1 e1 st r1 h1 => ?_
    cases r1 with
    | @tup p xs l g al =>
      dsimp only at h1
      cases q1 : allI l with
      | none => rw [q1] at h1; exact absurd h1 id
      | some ns =>
        rw [q1] at h1
        dsimp only at h1
        split at h1
        · rename_i hn
          have e := allI_eq q1
          subst e
          have e2 := al.of_ints
          subst e2
          refine ⟨p, ns, rfl, g.sq, by omega, fun z n hz hf => ⟨z, _, n, rfl, upd_same, by omega, fun ns' p' hpw hmem hlen hp' => ?_⟩⟩
          have es : ns' = setS ns := set_one hpw pw_setS fun k => by rw [hmem k, decide_eq_true_eq, mem_setS]
          rw [es]
          have w := wE.wp (a := { a with H := H1 }) e1 h1
          have hpn : H1 p' = none := by
            by_cases ez : p' = z
            · rw [ez]; exact hf
            · rw [upd_ne ez] at hp'; exact hp'
          refine w p' _ _ ((same_upd hf).trans (same_upd hp')) hpn upd_same (RpA.ints _)
        · exact absurd h1 id
    | _ => exact absurd h1 id
@[simp] theorem v_setsrt {f : FE} {ρ : List Sl} {W : Option Well} : eSetSrt f ρ W = (f ρ W).bind fun x W1 => match x with
  | .tuple l => (match allI l with
    | some ns => if ns.length < 64 then .ok (.f ((setS ns).map PyData.int)) W1 else .bad
    | none => .bad)
  | _ => .bad := nr rfl
end Lw
set_option Elab.async false
set_option linter.all false
set_option maxRecDepth 100000
set_option maxHeartbeats 2000000
set_option autoImplicit false
/-! # a list against []: whatever lies in it -/
namespace L2
open PySem PySem.Spec PyProof.Rows
def rNil (K : PySem.W.Frag) (neg : Bool) : R2 := fun x y H Q => ∃ a b xs, x = V.ref a ∧ y = V.ref b ∧ SqL K H a xs ∧ SqL K H b [] ∧ Q (.bl (if neg = true then !xs.isEmpty else xs.isEmpty)) H
theorem op_nilEq {X : Cx} (hu : X.A.units + 64 < cLine) : OpR X (compareOp .Eq) (rNil X.K false) := by
  intro pins s σ H x y v u Q I rx ry h
  obtain ⟨a, b, xs, rfl, rfl, h1, h2, q⟩ := h
  cases rx
  cases ry
  obtain ⟨its, r1, p1, _⟩ := I.list h1
  obtain ⟨its2, r2, p2, _⟩ := I.list h2
  cases r2
  cases r1 with
  | nil => exact SeqAt.RcAt.lists (e := fun _ => true) p1.isList p2.isList rfl (by omega) (fun j h1 _ => absurd h1 (Nat.not_lt_zero j)) _ _ _ _ ⟨.bl _, H, I, rfl, q⟩
  | cons z zs => exact SeqAt.RcAt.lists_lengths p1.isList p2.isList (by simp) (by omega) _ _ _ _ ⟨.bl _, H, I, rfl, q⟩
theorem op_nilNe {X : Cx} (hu : X.A.units + 64 < cLine) : OpR X (compareOp .NotEq) (rNil X.K true) := by
  intro pins s σ H x y v u Q I rx ry h
  obtain ⟨a, b, xs, rfl, rfl, h1, h2, q⟩ := h
  cases rx
  cases ry
  obtain ⟨its, r1, p1, _⟩ := I.list h1
  obtain ⟨its2, r2, p2, _⟩ := I.list h2
  cases r2
  cases r1 with
  | nil => exact SeqAt.RcNeAt.lists (e := fun _ => true) p1.isList p2.isList rfl (by omega) (fun j h1 _ => absurd h1 (Nat.not_lt_zero j)) _ _ _ _ ⟨.bl _, H, I, rfl, q⟩
  | cons z zs => exact SeqAt.RcNeAt.lists_lengths p1.isList p2.isList (by simp) (by omega) _ _ _ _ ⟨.bl _, H, I, rfl, q⟩
end L2
namespace Lw
open PySem PySem.Spec PyProof.Rows L2
variable [KI : FragI]
def gNilE (neg : Bool) : G2 := fun x y => match x, y with | .list l, .list [] => some (.d (.bool (if neg = true then !l.isEmpty else l.isEmpty))) | _, _ => none
theorem pure_nil (neg : Bool) : Pure2 (rNil fK neg) (gNilE neg) := fun O H x y dx dy Q ho rx ry w => by
  cases rx with
  | @lst a xs l h1 a1 =>
    cases ry with
    | @lst b ys m h2 a2 =>
      cases m with
      | nil =>
        cases a2
        refine ⟨_, _, xs, rfl, rfl, h1.sq, h2.sq, ?_⟩
        have e : xs.isEmpty = l.isEmpty := by cases a1 <;> rfl
        rw [e]
        exact wP.val w (.bl _)
      | cons _ _ => exact absurd w id
    | _ => exact absurd w id
  | _ => cases ry <;> exact absurd w id
section
variable {C : Cd} {a b : Expr} {pos : Pos} {fa fb : FE}
theorem sc_eqNil (ha : SE C a fa) (hb : SE C b fb) : SC C (.Compare a [.Eq] [b] pos) (eBin (gNilE false) fa fb) := sc_cmp (fun X h => by rw [← C.hK X h]; exact op_nilEq (C.units h)) (pure_nil false) ha hb (nomark _)
theorem sc_neNil (ha : SE C a fa) (hb : SE C b fb) : SC C (.Compare a [.NotEq] [b] pos) (eBin (gNilE true) fa fb) := sc_cmp (fun X h => by rw [← C.hK X h]; exact op_nilNe (C.units h)) (pure_nil true) ha hb (nomark _)
end
@[simp] theorem v_nilE {l : List Dt} : gNilE false (.list l) (.list []) = some (.d (.bool l.isEmpty)) := nr rfl
@[simp] theorem v_nilN {l : List Dt} : gNilE true (.list l) (.list []) = some (.d (.bool (!l.isEmpty))) := nr rfl
end Lw
set_option Elab.async false
set_option linter.all false
set_option maxRecDepth 100000
set_option maxHeartbeats 2000000
set_option autoImplicit false
/-! # a tuple turned round -/
namespace LwRv
open PySem PySem.Spec PyProof PyProof.Rows HT
section
variable {prog : Program} {w : World} {A : Around} {E : Value → Shared → Prop} {s : Shared}
theorem adjust_rev (n : Nat) : Builtin.Slice.sliceAdjust none none (-1) (n : Int) = ((n : Int) - 1, -1) := by
  unfold Builtin.Slice.sliceAdjust
  simp
theorem places_rev (n : Nat) : Builtin.Slice.slicePlaces ((n : Int) - 1) (-1) (-1) = n := by
  unfold Builtin.Slice.slicePlaces
  have h1 : ¬ ((-1 : Int) > 0) := by omega
  simp only [h1, if_false]
  have e : (-(-1 : Int)) = 1 := by decide
  simp only [e, Int.ediv_one]
  split <;> omega
theorem pick_rev (xs : Array Value) : ((List.range xs.size).filterMap fun (m : Nat) => xs[(((xs.size : Int) - 1) + (m : Int) * (-1)).toNat]?).toArray = xs.toList.reverse.toArray := by
  have e : (List.range xs.size).filterMap (fun (m : Nat) => xs[(((xs.size : Int) - 1) + (m : Int) * (-1)).toNat]?) = ((List.range xs.size).map fun k => xs.size - 1 - k).filterMap (xs[·]?) := by
    have z : (List.range xs.size).map (fun (m : Nat) => xs[(((xs.size : Int) - 1) + (m : Int) * (-1)).toNat]?) = (List.range xs.size).map (fun m => xs[xs.size - 1 - m]?) := by
      apply List.map_congr_left
      intro m hm
      have := List.mem_range.mp hm
      rw [show (((xs.size : Int) - 1) + (m : Int) * (-1)).toNat = xs.size - 1 - m by omega]
    have z2 := congrArg (List.filterMap id) z
    rw [List.filterMap_map, List.filterMap_map] at z2
    rw [List.filterMap_map]
    exact z2
  rw [e, PySem.W.krv_range, List.filterMap_reverse, PySem.W.krv_all]
theorem sliceApplied_rev {sl : Addr} {vl vu vs : Value} {n : Nat} {Q : Int × Int × Nat → Shared → Prop} (hs : s.heap.IsSliceOf sl vl vu vs) (pl : IsPart vl none) (pu : IsPart vu none) (ps : IsPart vs (some (-1)))
    (h : Q ((n : Int) - 1, -1, n) s) : wpAny (model prog w) A (Builtin.Slice.sliceApplied (.ref sl) (pure (n : Int))) Q E s := by
  obtain ⟨os, hos, hcs, hds⟩ := id hs
  unfold Builtin.Slice.sliceApplied Builtin.Slice.sliceFields
  refine wpAny_bind (wpAny_bind (wpAny_field hos hds (x := vl) rfl (wpAny_bind (wpAny_field hos hds (x := vu) rfl (wpAny_bind (wpAny_field hos hds (x := vs) rfl (wpAny_pure ?_)))))))
  refine wpAny_bind (slicePart_ ps ?_)
  show wpAny _ _ (if ((-1 : Int) == 0) = true then _ else _) _ _ s
  rw [if_neg (by decide)]
  refine wpAny_bind (slicePart_ pl (wpAny_bind (slicePart_ pu (wpAny_bind (wpAny_pure ?_)))))
  show wpAny _ _ (match Builtin.Slice.sliceAdjust none none (-1) (n : Int) with | (lo, hi) => pure (lo, (-1 : Int), Builtin.Slice.slicePlaces lo hi (-1))) _ _ s
  rw [adjust_rev n]
  show wpAny _ _ (pure ((n : Int) - 1, (-1 : Int), Builtin.Slice.slicePlaces ((n : Int) - 1) (-1) (-1))) _ _ s
  rw [places_rev]
  exact wpAny_pure h
theorem getItem_tuple_rev {t sl : Addr} {items : Array Value} {vl vu vs : Value} {Q : Value → Shared → Prop} (ht : IsTup s.heap t items) (hs : s.heap.IsSliceOf sl vl vu vs) (pl : IsPart vl none) (pu : IsPart vu none) (ps : IsPart vs (some (-1)))
    (h : Q (.ref s.heap.objs.size) { s with heap := s.heap.push { cls := .type "tuple", data := .seq (items.toList.reverse).toArray } })
    (hsz : items.size ≤ sizeLine) : wpAny (model prog w) A (getItem (.ref t) (.ref sl)) Q E s := by
  have htake : sizeOk (.seq (items.toList.reverse).toArray) := by
    show (items.toList.reverse).toArray.size ≤ sizeLine
    rw [List.size_toArray, List.length_reverse, Array.length_toList]
    exact hsz
  obtain ⟨os, hos, hcs, hds⟩ := id hs
  have hTs : s.TypeIs (.ref sl) "slice" := ⟨os, hos, hcs⟩
  unfold getItem
  try with_reducible refine wpAny_holding ?_
  first | refine wpAny_bind (wpAny_pure ?_) | skip
  refine wpAny_bind (wpAny_sequenceKey ht.typeIs (by decide) ?_)
  refine wpAny_bind (wpAny_callSpecial?_slot (name := Str.ofString "__getitem__") ht.typeIs PyProof.Rows.slot_tuple_getitem
    (wpAny_call_entry PyProof.Rows.slot_tuple_getitem ht.typeIs entry_tuple_getitem ?_ (args_tuple_getitem _ _)))
  show wpAny _ _ (Builtin.Tuple.tupleItemsOf (.ref t) >>= _) _ _ s
  refine wpAny_bind (tupleItemsOf_ ht ?_)
  refine wpAny_bind (wpAny_typeOf hTs ?_)
  rw [if_pos (by decide)]
  refine wpAny_bind (sliceApplied_rev hs pl pu ps ?_)
  have hno : ¬ ((((items.size : Int) - 1) == 0 && (-1 : Int) == 1 && items.size == items.size) = true) := by
    intro q
    rw [Bool.and_eq_true, Bool.and_eq_true] at q
    exact absurd q.1.2 (by decide)
  show wpAny _ _ (if (((items.size : Int) - 1) == 0 && (-1 : Int) == 1 && items.size == items.size) = true then _ else _) _ _ s
  rw [if_neg hno, pick_rev]
  first
    | exact wpAny_bind (m := Builtin.Tuple.tupleExact _) (wpAny_newObj_type (wpAny_pure ⟨_, rfl, wpAny_pure h⟩) htake)
    | exact wpAny_bind (m := Builtin.Tuple.tupleExact _) (wpAny_newObj_type (wpAny_bind (wpAny_pure (wpAny_pure ⟨_, rfl, wpAny_pure h⟩))) htake)
    | exact wpAny_bind (wpAny_bind (m := Builtin.Tuple.tupleExact _) (wpAny_newObj_type (wpAny_pure (wpAny_pure ⟨_, rfl, wpAny_pure h⟩)) htake))
    | exact wpAny_bind (wpAny_bind (m := Builtin.Tuple.tupleExact _) (wpAny_newObj_type (wpAny_pure ⟨_, rfl, wpAny_pure h⟩) htake))
end
end LwRv
namespace L2
open PySem PySem.Spec PyProof.Rows
def tRevT (K : PySem.W.Frag) (te : TE) : TE := fun σ H Q => te σ H fun x H1 => ∃ a xs, x = .ref a ∧ SqT K H1 a xs ∧ ∀ p, H1 p = none → Q (.ref p) (upd H1 p (.tup xs.reverse))
theorem pe_revT {X : Cx} {e : Expr} {te : TE} {k : Nat} {p1 p2 p3 pos : Pos} (he : PE X e te) : PE X (.Subscript e (.Slice none none (some (.UnaryOp .USub (.Constant (.int 1) k p1) p2)) p3) pos) (tRevT X.K te) := by
  refine ⟨fun pins s σ H Q I h => ?_⟩
  refine Subscript_ (thn (he.run pins s σ H _ I h) fun v s1 ⟨x, H1, I1, r1, q1⟩ => ?_)
  obtain ⟨a, xs, ex, hx, q⟩ := q1
  subst ex
  cases r1
  have hst : PO X (some (.UnaryOp .USub (.Constant (.int 1) k p1) p2)) (tPart (tUn (rU fun i => .int (-i)) (tC (.int 1)))) := po_some (pe_un un_neg pe_int)
  refine wpAny_Slice (thn (po_none.run pins s1 σ H1 (fun o H2 => o = none ∧ H2 = H1) I1 ⟨rfl, rfl⟩) fun vl s2 ⟨l, H2, I2, pl, el, e2⟩ => ?_)
  subst el e2
  refine thn (po_none.run pins s2 σ H2 (fun o H3 => o = none ∧ H3 = H2) I2 ⟨rfl, rfl⟩) fun vu s3 ⟨u, H3, I3, pu, eu, e3⟩ => ?_
  subst eu e3
  refine thn (hst.run pins s3 σ H3 (fun o H4 => o = some (-1) ∧ H4 = H3) I3 ⟨1, rfl, -1, rfl, rfl, rfl⟩) fun vs s4 ⟨o, H4, I4, ps, eo, e4⟩ => ?_
  subst eo e4
  have I5 : Inv X pins σ H4 { s4 with heap := s4.heap.push { cls := .type "slice", data := .fields #[vl, vu, vs] } } := I4.kept (t' := s4.toks) fun b ob q => Heap.get?_push_of_some _ q
  obtain ⟨its, r, ht, hz⟩ := I5.tuple hx
  have hlen := r.length
  show wpAny (model X.prog X.w) X.A (subscriptTail e (.Slice none none (some (.UnaryOp .USub (.Constant (.int 1) k p1) p2)) p3) (.ref a) (.ref s4.heap.objs.size)) (EP X pins σ Q) X.xe { s4 with heap := s4.heap.push { cls := .type "slice", data := .fields #[vl, vu, vs] } }
  refine tail_any (ops := [.ref a, .ref s4.heap.objs.size]) ht.typeIs PyProof.Rows.slot_tuple_getitem.lookup ?_ (by with_unfolding_all rfl)
  refine LwRv.getItem_tuple_rev ht (Heap.IsSliceOf.new _ vl vu vs) pl pu ps ?_ (by rw [List.size_toArray]; omega)
  refine ⟨.ref _, _, I5.laid (t' := s4.toks) (o := .tup xs.reverse) (fun b ob q => Heap.get?_push_of_some _ q) (Nat.le_refl _) ?_, rfl, q _ (I5.hok.fresh (Nat.le_refl _))⟩
  exact ⟨by rw [List.length_reverse]; exact hz, _, r.reverse, IsTup.new _ _⟩
end L2
namespace Lw
open PySem PySem.Spec PyProof.Rows L2
variable [KI : FragI]
def eRevT (f : FE) : FE := fun ρ W => (f ρ W).bind fun x W1 => match x with | .tuple l => .ok (.d (.tuple l.reverse)) W1 | _ => .bad
theorem se_revT {C : Cd} {e : Expr} {f : FE} {k : Nat} {p1 p2 p3 pos : Pos} (he : SE C e f) : SE C (.Subscript e (.Slice none none (some (.UnaryOp .USub (.Constant (.int 1) k p1) p2)) p3) pos) (eRevT f) := by
  obtain ⟨t, p, s⟩ := he
  refine ⟨tRevT fK t, fun X h => by rw [← C.hK X h]; exact pe_revT (p X h), fun a W Q I h => ?_⟩
  refine s.then I h fun x W1 v H1 e1 st r1 h1 => ?_
  split at h1
  · rename_i l
    cases r1 with
    | @tup ad xs _ hh a1 =>
      exact ⟨ad, xs, rfl, hh.sq, wP.newT e1.1.al (wE.wp (a := { a with H := H1 }) e1 h1) a1.rev⟩
  · exact absurd h1 id
@[simp] theorem v_revT {f : FE} {ρ : List Sl} {W : Option Well} : eRevT f ρ W = (f ρ W).bind fun x W1 => match x with | .tuple l => .ok (.d (.tuple l.reverse)) W1 | _ => .bad := nr rfl
end Lw
set_option Elab.async false
set_option linter.all false
set_option maxRecDepth 100000
set_option maxHeartbeats 2000000
set_option autoImplicit false
/-! # try: .. except E as e: y = isinstance(e, ValueError) -/
namespace Lw
open PySem PySem.Spec PyProof.Rows L2
variable [KI : FragI]
def sKin (ks : List Nat) (i j : Nat) (f : FS) : FS := fun ρ W => match f ρ W with
  | .exc c ρ' W' => if c ∈ ks ∧ i < ρ'.length then .nx ((ρ'.set j (.dt (.bool true))).set i .no) W' else .bad
  | o => o
/-- what the one line wishes -/
def kinT (C : Cd) (ks : List Nat) (i j : Nat) (a : Addr) (cls : Value) (d : Option Addr) : TS := fun D σ H => ∃ c ∈ ks, cls = .ref (C.ca c) ∧ d = none ∧ σ[i]? = some (some (.ref a)) ∧ D.nx (σ.set j (some (.bl true))) H
theorem ss_kin {C : Cd} {ks : List Nat} {body : List Stmt} {xc n y : Str} {k i j : Nat} {f : FS} {np hp p1 p2 p3 p4 yp p5 pos : Pos}
    (hmt : ∀ c ∈ ks, PySem.W.exmOne fK (.ref (C.ca c)) (.ref (C.ca k)) = some true ∧ ExcC fK (C.ca c) ∧ PySem.W.kitOne fK (.ref (C.ca c)) (.type "ValueError") = some true)
    (hb : ∀ W, SB (C.tr W) body f) (hij : i ≠ j) (hg : C.G xc) (hd : (xc == ("__debug__" : Str)) = false) (hm : C.mg xc = some (.ref (C.ca k)))
    (hgi : C.G "isinstance") (hmi : C.mg "isinstance" = none) (hgv : C.G "ValueError") (hmv : C.mg "ValueError" = none)
    (hn : C.N[i]? = some n) (hy : C.N[j]? = some y) (hvn : Vis C.sc n) (hly : Loc C.sc y) (hfy : C.fn y = true ∨ C.sc.names.lookup y = some .local)
    (hX : ∀ X, C.P X → X.stack = X.env :: X.outer ∧ X.env.frame = some X.env.locals ∧ Takes X C.Wx ∧ X.env.kindOf n = some .local)
    (hs : ∀ X, C.P X → ∀ a pn, swapsWith (.Call (.Name "isinstance" p1) [.Name n p2, .Name "ValueError" p3] [] p4) (some (.Name y yp)) p5.line (X.suite a pn).env = pure false := by intro _ _ _ _; rfl)
    (hnd : (n == ("__debug__" : Str)) = false := by decide) (hcd : (n == ("__classdict__" : Str)) = false := by decide)
    (he : ∀ env, starEach [.Name n p2, .Name "ValueError" p3] env = (false, eval (.Name n p2) env) :: starEach [.Name "ValueError" p3] env := by intro _; rfl) :
    SS C (.Try body [.ExceptHandler (some (.Name xc np)) (some n) [.Assign [.Name y yp] (.Call (.Name "isinstance" p1) [.Name n p2, .Name "ValueError" p3] [] p4) p5] hp] [] [] pos) (sKin ks i j f) := by
  have suite : ∀ X, C.P X → ∀ (a : Addr) (oe : Obj) (cls : Value) (d : Option Addr) (pn : List (Addr × Obj)), Zc cls d oe → (∃ vs, oe.data = .fields vs) →
      PSs (X.suite a ((a, oe) :: pn)) [.Assign [.Name y yp] (.Call (.Name "isinstance" p1) [.Name n p2, .Name "ValueError" p3] [] p4) p5] (kinT C ks i j a cls d) := by
    intro X h a oe cls d pn hz hf
    refine ⟨fun pins s σ H D I ⟨c, hc, e1, e2, e3, hD⟩ => ?_⟩
    subst e1
    subst e2
    have h' : (C.su a c).P (X.suite a ((a, oe) :: pn)) := ⟨X, oe, pn, h, rfl, hz, hf⟩
    obtain ⟨m1, m2, m3⟩ := hmt c hc
    have hK : (X.suite a ((a, oe) :: pn)).K = fK := (C.su a c).hK _ h'
    have m2' : ExcC (X.suite a ((a, oe) :: pn)).K (C.ca c) := by rw [hK]; exact m2
    have call : CallR (X.suite a ((a, oe) :: pn)) (.builtin "isinstance") (rIsE fK (C.ca c) a) := by
      have z := call_isE (X := X) (pn := pn) (a := a) (oe := oe) (D := C.ca c) (by have e : (X.suite a ((a, oe) :: pn)).K = X.K := rfl; rw [← e]; exact m2') hz hf
      have e : X.K = fK := C.hK X h
      rw [e] at z
      exact z
    have pe := pe_callB (p := p1) (pos := p4) call ((C.su a c).gl h' hgi) (by rw [(C.su a c).hmg _ h']; exact hmi) (by decide +kernel)
      (pa_cons (pe_var (pos := p2) (by rw [(C.su a c).hN _ h']; exact hn) (by rw [(C.su a c).hsc _ h']; exact hvn) hnd hcd) (pa_cons (pe_bltn (v := .ty "ValueError") (pos := p3) ((C.su a c).gl h' hgv) (by rw [(C.su a c).hmg _ h']; exact hmv) (by decide +kernel) rfl (by decide) (by decide)) pa_nil) (he _)) (by decide) (by decide) (he _)
    have ps := pss_one (ps_set (pos := p5) (pos' := yp) (by rw [(C.su a c).hN _ h']; exact (C.su a c).nd) (by rw [(C.su a c).hN _ h']; exact hy) (by rw [(C.su a c).hsc _ h']; exact hly) pe (hs X h a _) (by rw [(C.su a c).hfn _ h', (C.su a c).hsc _ h']; exact hfy))
    refine ps.run pins s σ H D I ?_
    exact ⟨_, e3, .ty "ValueError", .type "ValueError", true, rfl, fun u hu => hu, m3, hD⟩
  refine ⟨fun D σ H => ∃ t : TS, (∀ X, (C.tr (wAs fK (.ref (C.ca k)) i (kinT C ks i j) C.Wx D)).P X → PSs X body t) ∧ t D σ H, fun X h => ?_, fun a W D hm' I h => ?_⟩
  · obtain ⟨h1, h2, h3, h4⟩ := hX X h
    have := ps_try_as (X := X) (x := xc) (n := n) (c := .ref (C.ca k)) (i := i) (body := body) (np := np) (pos := pos) (pos' := hp) (tb := fun W D σ H => ∃ t : TS, (∀ X, (C.tr W).P X → PSs X body t) ∧ t D σ H) (ts := kinT C ks i j) (Wout := C.Wx) h1 h2
      (by rw [C.hN X h]; exact C.nd) (by rw [C.hN X h]; exact hn) h4 ⟨C.gl h hg, hd, .inl (by rw [C.hmg X h]; exact hm)⟩ h3
      (fun W pn xe tk _ => ⟨fun pins s σ H D I ⟨t, p, ht⟩ => (p _ ⟨X, pn, xe, h, rfl, tk⟩).run pins s σ H D I ht⟩) (fun a oe cls d pn hz hf => suite X h a oe cls d pn hz hf)
    rw [C.hK X h] at this
    exact this
  · obtain ⟨t, p, snd⟩ := hb (wAs fK (.ref (C.ca k)) i (kinT C ks i j) C.Wx D)
    refine ⟨t, p, snd a W D hm' I ?_⟩
    unfold sKin at h
    show wS (wAs fK (.ref (C.ca k)) i (kinT C ks i j) C.Wx D) C.ca a D (f a.ρ W)
    revert h
    cases f a.ρ W with
    | bad => exact id
    | bk ρ' W' => exact id
    | ct ρ' W' => exact id
    | nx ρ' W' => exact id
    | rt e W' => cases e <;> exact id
    | exc c ρ' W1 =>
      intro h a' y' e1 I'
      have h : wS C.Wx C.ca a D (if c ∈ ks ∧ i < ρ'.length then .nx ((ρ'.set j (.dt (.bool true))).set i .no) W1 else .bad) := h
      by_cases hc' : c ∈ ks ∧ i < ρ'.length
      · rw [if_pos hc'] at h
        obtain ⟨hc, hi⟩ := hc'
        subst e1
        refine ⟨true, (hmt c hc).1, fun _ b hb' => ⟨c, hc, rfl, rfl, ?_, ?_⟩, fun z => Bool.noConfusion z⟩
        · have hs : i < a'.σ.length := by rw [I'.1.len]; exact hi
          rw [List.getElem?_set_self hs]
        · have e3 : ((a'.σ.set i (some (.ref b))).set j (some (.bl true))).set i none = (a'.σ.set j (some (.bl true))).set i none := by
            rw [List.set_comm _ _ hij, List.set_set]
          show D.nx (((a'.σ.set i (some (.ref b))).set j (some (.bl true))).set i none) a'.H
          rw [e3]
          have E1 := (I'.1.set j (s := .dt (.bool true)) (o := some (.bl true)) (.bl true) (fun _ _ z => nomatch z)).set i (s := .no) (o := none) True.intro (fun _ _ z => nomatch z)
          exact h ⟨a'.b, a'.O, a'.wa, (a'.ρ.set j (.dt (.bool true))).set i .no, (a'.σ.set j (some (.bl true))).set i none, a'.H, a'.hw⟩ ⟨y'.b, y'.2⟩ rfl ⟨E1, I'.2⟩
      · rw [if_neg hc'] at h
        exact h.elim
@[simp] theorem v_kin {ks : List Nat} {i j : Nat} {f : FS} {ρ : List Sl} {W : Option Well} : sKin ks i j f ρ W = match f ρ W with
  | .exc c ρ' W' => if c ∈ ks ∧ i < ρ'.length then .nx ((ρ'.set j (.dt (.bool true))).set i .no) W' else .bad
  | o => o := nr rfl
end Lw
set_option Elab.async false
set_option linter.all false
set_option maxRecDepth 100000
set_option maxHeartbeats 2000000
set_option autoImplicit false
/-! # a, b, c = a list -/
namespace Lw
open PySem PySem.Spec PyProof.Rows L2
variable [KI : FragI]
def fgLst (g : FGs) : FG := fun d ρ => match d with | .list ds => g ds ρ | _ => none
section
variable {C : Cd}
theorem sg_lst {es : List Expr} {k : Nat} {pos : Pos} {g : FGs} {n : Nat} {ix : List Nat} (h : SGs C es g n ix) (hn : ∀ env, (assignEach es env).length = n := by intro _; rfl) (hst : ∀ env, (assignEach es env).findIdx? (·.1) = none := by intro _; rfl) (hcm : C.cm = true := by rfl) : SG C (.Tuple es k pos) (fgLst g) ix := by
  obtain ⟨u, q, z, ln⟩ := h
  refine ⟨gLst fK n u, fun X h => by rw [← C.hK X h]; exact pg_lst (C.calmC hcm X h) (q X h) (hn _) (hst _), fun a W x d ρ' k I r e h => ?_⟩
  unfold fgLst at e
  split at e
  · cases r with
    | lst h1 al => exact ⟨_, _, rfl, h1.sq, by rw [al.length]; exact ln _ _ _ e, z a W _ _ ρ' k I al e h⟩
  · cases e
end
@[simp] theorem v_glst {h : FGs} {ds : List Dt} {ρ : List Sl} : fgLst h (.list ds) ρ = h ds ρ := nr rfl
end Lw
set_option Elab.async false
set_option linter.all false
set_option maxRecDepth 100000
set_option maxHeartbeats 2000000
set_option autoImplicit false
/-! # defs that are called where no repr is under way -/
namespace L2
open PySem PySem.Spec PyProof.Rows
/-- FnOk for callers with no repr under way -/
structure FnG (P : Program) (w : World) (K : PySem.W.Frag) (mg : Str → Option Value) (base : Heap) (CX : CXT) (k : Nat) (f : Addr) (fd : FuncData) (ps : List Str) (sp : Sp) : Prop where
  len : ∀ vs H Q E, sp vs H Q E → vs.length = ps.length
  run : ∀ (A : Around), A.guards = some [] → ∀ (outer : List Env) (s : Shared) (H : Hp) (args : Args) (us : List Value) (vs : List V) (Q : VK) (E : XK), Room k A → Env0 P w K mg base A outer s H → BindsTo s fd args (ps.zip us) → Vals vs us → sp vs H Q E →
    codeAny (model P w) A (.call (.ref f) args) (CR CX outer P w H s Q E) s
theorem FnG.mono {P : Program} {w : World} {K : PySem.W.Frag} {mg : Str → Option Value} {base : Heap} {CX : CXT} {j k : Nat} {f : Addr} {fd : FuncData} {ps : List Str} {sp : Sp} (F : FnG P w K mg base CX j f fd ps sp) (h : j ≤ k) : FnG P w K mg base CX k f fd ps sp :=
  ⟨F.len, fun A hA outer s H args us vs Q E hr => F.run A hA outer s H args us vs Q E (hr.mono h)⟩
section
variable {X : Cx} {CX : CXT} {k : Nat} {f : Addr} {fd : FuncData} {ps : List Str} {sp : Sp} {E : St → XK} {x : Str} {e : Expr} {es : List Expr} {t : TA} {p pos : Pos}
theorem run_fnG {pins : List (Addr × Obj)} {σ : St} {H : Hp} {s : Shared} {Q : VK} {us : List Value} {vs : List V} (F : FnG X.prog X.w X.K X.mg X.base CX k f fd ps sp) (hA : X.A.guards = some []) (hr : Room k X.A) (hb : Binds X.K fd ps []) (hx : PassesAt CX X σ (E σ))
    (I : Inv X pins σ H s) (r : Vals vs us) (h : sp vs H Q (E σ)) : wpAny (model X.prog X.w) X.A (call (.ref f) us) (EP X pins σ Q) X.xe s := by
  have hl : us.length = ps.length := by rw [← r.length]; exact F.len _ _ _ _ h
  have b := hb s us I.kIn (by rw [List.append_nil]; exact hl)
  rw [List.append_nil] at b
  refine wpAny_call (codeAny_mono (F.run X.A hA X.stack s H ⟨us, []⟩ us vs Q (E σ) hr I.env0 b r h) fun r s' hq => ?_)
  cases r with
  | error e => exact hx pins H s e s' I hq
  | ok fl =>
    cases fl with
    | ret u => exact I.after hq
    | next => exact False.elim hq
    | brk => exact False.elim hq
    | cont => exact False.elim hq
theorem pe_callG (F : FnG X.prog X.w X.K X.mg X.base CX k f fd ps sp) (hA : X.A.guards = some []) (hr : Room k X.A) (hg : Gl X x) (hm : X.mg x = some (.ref f)) (hk : PySem.W.keepIn X.K (.ref f) = true) (hb : Binds X.K fd ps []) (hx : ∀ σ, PassesAt CX X σ (E σ))
    (ha : PA X (e :: es) t) (hdb : (x == ("__debug__" : Str)) = false := by decide) (he : starEach (e :: es) X.env = (false, eval e X.env) :: starEach es X.env := by rfl) (hpl : (backTo pos (starEach es X.env)).any (·.1) = false := by rfl) :
    PE X (.Call (.Name x p) (e :: es) [] pos) (tCallS sp E t) := by
  refine ⟨fun pins s σ H Q I h => ?_⟩
  refine wpAny_Call_Name_kw (ld_glob I hg hm ?_ hdb)
  refine PySem.W.callWith_K (h₀ := X.base) I.ok.mod.kin hk (thn (ha.run pos pins s σ H _ I h) fun us s1 ⟨vs, H1, I1, r, q⟩ => ⟨I1.kIn, ?_⟩) he hpl
  exact run_fnG F hA hr hb (hx σ) I1 r q
end
end L2
namespace Lw
open PySem PySem.Spec PyProof.Rows L2
section
variable [KI : FragI] {C : Cd} {x : Str} {F : FF} {e : Expr} {es : List Expr} {fa : FA} {p pos : Pos}
structure DfG (C : Cd) (x : Str) (ps : List Str) (F : FF) : Prop where
  at_ : ∃ (f : Addr) (fd : FuncData), FnG C.prog C.w fK C.mg C.base (L2.CX C.prog C.w) C.k f fd ps (spF C.ca ps.length F) ∧ C.mg x = some (.ref f) ∧ PySem.W.keepIn fK (.ref f) = true ∧ Binds fK fd ps []
theorem se_callG {ps : List Str} (hgd : ∀ X, C.P X → X.A.guards = some []) (DF : DfG C x ps F) (hg : C.G x) (ha : SA C (e :: es) fa) (hn : ArN fa ps.length := by repeat (first | exact ar_nil | apply ar_cons | apply ar_wel))
    (hd : (x == ("__debug__" : Str)) = false := by decide) (he : ∀ env, starEach (e :: es) env = (false, eval e env) :: starEach es env := by intro _; rfl) (hpl : ∀ env, (backTo pos (starEach es env)).any (·.1) = false := by intro _; rfl) (hcm : C.cm = true := by rfl) :
    SE C (.Call (.Name x p) (e :: es) [] pos) (eFun F fa) := by
  obtain ⟨t, q, s⟩ := ha
  obtain ⟨f, fd, ok, mf, kf, bf⟩ := DF.at_
  refine ⟨tCallS (spF C.ca ps.length F) (WE C.Wx) t, fun X h => ?_, fun a W Q I h => ?_⟩
  · have ok' : FnG X.prog X.w X.K X.mg X.base (L2.CX X.prog X.w) C.k f fd ps (spF C.ca ps.length F) := by
      rw [C.hprog X h, C.hw X h, C.hK X h, C.hmg X h, C.hbase X h]
      exact ok
    exact pe_callG ok' (hgd X h) (C.roomC hcm X h) (C.gl h hg) (by rw [C.hmg X h]; exact mf) (by rw [C.hK X h]; exact kf) (by rw [C.hK X h]; exact bf) (C.pass X h) (q X h) hd (he _) (hpl _)
  · refine s a W _ I ?_
    have h' : wE C.Wx C.ca a Q ((fa a.ρ W).bind fun as W1 => F as W1) := h
    revert h'
    cases e2 : fa a.ρ W with
    | bad => exact id
    | exc c W1 => exact id
    | ok as W1 =>
      intro h' vs H1 e1 st r1
      exact ⟨a.O, a.wa, W1, as, by rw [← r1.length]; exact hn _ _ _ _ e2, e1.1.al, r1, e1.1.wl, wE.call (a := { a with H := H1 }) e1 (wE.later (r := F as W1) I e1 st h')⟩
end
section
variable [KI : FragI] {P : Program} {w : World} {mg : Str → Option Value} {base : Heap}
/-- fn_ok, its body told for callers with no repr under way -/
theorem fn_okG {x qual : Str} {st : Stmt} {f : Addr} {fd : FuncData} {N ps : List Str} {k : Nat} {ca : Nat → Addr} {g : FS} {n m : Nat} (F : L2.Fun fK x qual st f fd) (S : FnScope N ps (defScope st)) (hm : ps.length = m) (hn : N.length = n)
    (hb : ∀ cdv A outer s H E hr, A.guards = some [] → SB (cdOf P w mg base N ps qual (defScope st) f k ca false S cdv A outer s H E hr) (defBody st) g) : FnG P w fK mg base (L2.CX P w) (k + 1) f fd ps (spF ca m (runF n g)) := by
  have hlen : ∀ vs H Q E, spF ca m (runF n g) vs H Q E → vs.length = ps.length := fun vs H Q E h => by
    obtain ⟨_, _, _, _, hl, _⟩ := h
    rw [hl, hm]
  refine ⟨hlen, fun A hA outer s H args us vs Q E room en bd rv h => run_at F S room en bd rv (hlen _ _ _ _ h) fun cdv hr => ?_⟩
  obtain ⟨O, wa, W, as, hl, ho, har, hwl, hw⟩ := h
  obtain ⟨t, p, snd⟩ := hb cdv A outer s H E hr hA
  refine ⟨t, p _ rfl, ?_⟩
  have hnb : (false : Bool) = true → W = none ∧ W = none := fun h => Bool.noConfusion h
  refine snd ⟨⟨O, H, wa, W, false, ho, 0⟩, O, wa, as ++ List.replicate (n - as.length) .no, L2.start N vs, H, W.isSome⟩ W _ rfl ⟨er_start N hn ho har hwl rfl rfl (fun _ => ⟨rfl, rfl⟩) hnb, rfl⟩ ?_
  unfold runF at hw
  have cal : ∀ (a' : At) (W' : Option Well), a'.b = ⟨O, H, wa, W, false, ho, 0⟩ → a'.Er W' → Cal wa W W' H a'.H := fun a' W' e I => by
    have I1 := I.1
    rw [e] at I1
    obtain ⟨m1, m2⟩ := I1.wm rfl
    refine ⟨fun z o hz q => I1.keep z o hz q, fun v hv => ?_, m1⟩
    have := (I1.wl v hv).2
    rw [m2] at this
    exact this
  revert hw
  show wF ca O wa W H Q E (g (as ++ List.replicate (n - as.length) .no) W).res → wS _ _ _ _ (g (as ++ List.replicate (n - as.length) .no) W)
  cases g (as ++ List.replicate (n - as.length) .no) W with
  | bad => exact id
  | bk ρ' W' => exact id
  | ct ρ' W' => exact id
  | nx ρ' W' => exact fun hw a' x e i => hw .non a'.H (cal a' W' x.b i) .non
  | exc c ρ' W' => exact fun hw a' x e i => hw a'.H (cal a' W' x.b i)
  | rt ev W' =>
    cases ev with
    | d z =>
      intro hw a' v x i r
      refine hw v a'.H (cal a' W' x.b i) (r.stp (Stp.less fun q hq => ?_))
      have I1 := i.1
      rw [x.b] at I1
      exact I1.sub q hq
    | f l =>
      intro hw a' q vs' x i n1 n2 n3 n4
      rw [x.b] at n2
      have n2' : H q = none := n2
      refine hw q vs' a'.H (cal a' W' x.b i) n2' n3 (n4.stp (Stp.less fun z hz => ?_))
      have I1 := i.1
      rw [x.b] at I1
      exact hz.elim (fun y => .inl (I1.sub z y)) .inr
end
section
variable [KI : FragI] {P : Program} {w : World} {mg : Str → Option Value} {base : Heap} {ca : Nat → Addr} {x : Str} {ps : List Str} {j : Nat} {F : FF}
/-- what is known of a def for callers with no repr under way -/
def IsG (P : Program) (w : World) (mg : Str → Option Value) (base : Heap) (ca : Nat → Addr) (x : Str) (ps : List Str) (j : Nat) (F : FF) : Prop :=
  ∃ (f : Addr) (fd : FuncData), FnG P w fK mg base (L2.CX P w) j f fd ps (spF ca ps.length F) ∧ mg x = some (.ref f) ∧ PySem.W.keepIn fK (.ref f) = true ∧ L2.Binds fK fd ps []
theorem isg_of {st : Stmt} {f : Addr} {fd : FuncData} {qual : Str} (U : L2.Fun fK x qual st f fd) (m : mg x = some (.ref f)) (h : FnG P w fK mg base (L2.CX P w) j f fd ps (spF ca ps.length F)) (b : L2.Binds fK fd ps []) : IsG P w mg base ca x ps j F := ⟨f, fd, h, m, U.kp, b⟩
end
theorem IsG.df [KI : FragI] {C : Cd} {x : Str} {ps : List Str} {j : Nat} {F : FF} (h : IsG C.prog C.w C.mg C.base C.ca x ps j F) (hj : j ≤ C.k) : DfG C x ps F := by
  obtain ⟨f, fd, ok, m, k, b⟩ := h
  exact ⟨f, fd, ok.mono hj, m, k, b⟩
end Lw
set_option Elab.async false
set_option linter.all false
set_option maxRecDepth 100000
set_option maxHeartbeats 2000000
set_option autoImplicit false
/-! # repr of anything: scalars, things that hold {} -/
namespace Lw
open PySem PySem.Spec PyProof.Rows L2
variable [KI : FragI]
mutual
theorem showk_of {X : Cx} {pins : List (Addr × Obj)} {σ : L2.St} {H : Hp} {s : Shared} {O : Own} (I : Inv X pins σ H s) (hK : X.K = fK) : ∀ {v : V} {d : Dt}, Rp O H v d → noKv d = true → d.showable = true → d.shown.length ≤ sizeLine → ∀ u : Value, RelV v u → ∃ bs, ReadAtMost s.heap d.depth bs ∧ ReprK X.prog X.w bs s.heap d.depth u d.shown
  | _, _, .non, _, _, _, u, r => by
    obtain rfl : u = Value.none := r
    exact ⟨[], (fun _ h => nomatch h), by simp only [PyData.shown]; exact .of_is ReprIs.none _ _ _⟩
  | _, _, .bl b, _, _, _, u, r => by
    obtain rfl : u = Value.bool b := r
    exact ⟨[], (fun _ h => nomatch h), by simp only [PyData.shown]; exact .of_is (ReprIs.bool b) _ _ _⟩
  | _, _, .int i, _, hs, _, u, r => by
    obtain ⟨t, rfl⟩ := (r : ∃ t, u = Value.int i t)
    exact ⟨[], (fun _ h => nomatch h), by simp only [PyData.shown]; exact .of_is (ReprIs.int t (by simpa [PyData.showable] using hs)) _ _ _⟩
  | _, _, .str x, _, _, hz, u, r => by
    obtain ⟨t, rfl⟩ := (r : ∃ t, u = Value.str x t)
    exact ⟨[], (fun _ h => nomatch h), by simp only [PyData.shown]; exact .of_is (ReprIs.str x t (by simpa only [PyData.shown] using hz)) _ _ _⟩
  | _, _, .lst (a := a) (ds := ds) q al, nk, hs, hz, u, r => by
    obtain rfl : u = Value.ref _ := r
    obtain ⟨its, rv, pl, _⟩ := I.list (by rw [hK]; exact q.sq)
    obtain ⟨o, ho, hc, n, hd⟩ := pl.isList
    have hz' : (listText (PyData.shownAll ds)).length ≤ sizeLine := by simpa only [PyData.shown] using hz
    obtain ⟨bs, hb, hk⟩ := showka_of I hK al (by simpa only [noKv] using nk) (by simpa [PyData.showable] using hs) (fun t ht => Nat.le_trans (listText_mem_le ht) hz') its rv
    obtain ⟨as, h4⟩ := readsA_of I hK al (by simpa only [noKv] using nk) its rv
    have rd : Reads s.heap (.ref a) (.list ds) _ := .list ho hc hd h4
    have hna : a ∉ bs := not_mem_of_deeper rd (by simp only [PyData.depth]; omega) hb
    refine ⟨a :: bs, ReadAtMost.cons rd (by simp only [PyData.depth]; omega) hb, ?_⟩
    simp only [PyData.depth, PyData.shown]
    cases its with
    | nil =>
      cases rv
      cases al
      simp only [PyData.shownAll, listText_nil]
      exact ReprK.listEmpty ho hc hd
    | cons x l => exact ReprK.list ho hc hd hna (by simpa using hk.length_eq) (fun i y e => hk.item i y (by simpa using e))
  | _, _, .tup (a := a) (ds := ds) q al, nk, hs, hz, u, r => by
    obtain rfl : u = Value.ref _ := r
    obtain ⟨its, rv, pl, _⟩ := I.tuple (by rw [hK]; exact q.sq)
    obtain ⟨o, ho, hc, n, hd⟩ := pl
    have hz' : (tupleText (PyData.shownAll ds)).length ≤ sizeLine := by simpa only [PyData.shown] using hz
    obtain ⟨bs, hb, hk⟩ := showka_of I hK al (by simpa only [noKv] using nk) (by simpa [PyData.showable] using hs) (fun t ht => Nat.le_trans (tupleText_mem_le ht) hz') its rv
    obtain ⟨as, h4⟩ := readsA_of I hK al (by simpa only [noKv] using nk) its rv
    have rd : Reads s.heap (.ref a) (.tuple ds) _ := .tuple ho hc hd h4
    have hna : a ∉ bs := not_mem_of_deeper rd (by simp only [PyData.depth]; omega) hb
    refine ⟨a :: bs, ReadAtMost.cons rd (by simp only [PyData.depth]; omega) hb, ?_⟩
    simp only [PyData.depth, PyData.shown]
    exact ReprK.tuple ho hc hd hna hk
  | _, _, (.dki (kvs := kvs) n e hd hk), nk, _, _, u, r => by
    subst hd
    cases kvs with
    | nil => exact absurd rfl hk
    | cons p l => simp [noKv] at nk
  | _, _, .dko n e hd, nk, _, _, u, r => by
    subst hd
    simp [noKv] at nk
  | _, _, .dct (a := a) n e, _, hs, hz, u, r => by
    obtain rfl : u = Value.ref _ := r
    obtain ⟨_, hsy, vs, kv, o, es, ep, h1, h2, h3, h4, h5, h6⟩ := (show ObjOk X.prog X.w H s.heap _ (.dK []) from I.hok _ _ e)
    cases kv
    have hes : es.toList = [] := by
      generalize es.toList = l at h5
      cases h5
      rfl
    have rd : Reads s.heap (.ref a) (.dict []) _ := .dict (as := []) (bs := []) h1 h2.1 h3 (by rw [hes]; exact .nil) (by rw [hes]; exact .nil)
    refine ⟨[a], ReadAtMost.cons (n := 0) rd (Nat.zero_le _) (fun _ h => nomatch h), ?_⟩
    simp only [PyData.depth, PyData.shown, PyData.shownKv]
    exact ReprK.dict h1 h2.1 h3 hsy (List.not_mem_nil) (by rw [hes]; exact .nil)
theorem showka_of {X : Cx} {pins : List (Addr × Obj)} {σ : L2.St} {H : Hp} {s : Shared} {O : Own} (I : Inv X pins σ H s) (hK : X.K = fK) : ∀ {vs : List V} {ds : List Dt}, RpA O H vs ds → noKvs ds = true → PyData.showableAll ds = true → (∀ t ∈ PyData.shownAll ds, t.length ≤ sizeLine) → ∀ us : List Value, Vals vs us →
    ∃ bs, ReadAtMost s.heap (PyData.depthAll ds) bs ∧ ReprAllK X.prog X.w bs s.heap (PyData.depthAll ds) us (PyData.shownAll ds)
  | _, _, .nil, _, _, _, us, r => by
    cases r
    exact ⟨[], (fun _ h => nomatch h), by simp only [PyData.shownAll]; exact .nil⟩
  | _, _, .cons (d := d) (ds := ds) q al, nk, hs, hz, us, r => by
    simp only [noKvs, Bool.and_eq_true] at nk
    cases r with
    | cons r1 rr =>
      have hs' : d.showable = true ∧ PyData.showableAll ds = true := by simpa [PyData.showableAll] using hs
      obtain ⟨b1, hb1, k1⟩ := showk_of I hK q nk.1 hs'.1 (hz _ (by simp only [PyData.shownAll]; exact List.mem_cons_self ..)) _ r1
      obtain ⟨b2, hb2, k2⟩ := showka_of I hK al nk.2 hs'.2 (fun t ht => hz t (by simp only [PyData.shownAll]; exact List.mem_cons_of_mem _ ht)) _ rr
      refine ⟨b1 ++ b2, ?_, ?_⟩
      · intro b hm
        simp only [PyData.depthAll]
        rcases List.mem_append.mp hm with hm | hm
        · obtain ⟨d', as', r', hd'⟩ := hb1 b hm
          exact ⟨d', as', r', Nat.le_trans hd' (Nat.le_max_left _ _)⟩
        · obtain ⟨d', as', r', hd'⟩ := hb2 b hm
          exact ⟨d', as', r', Nat.le_trans hd' (Nat.le_max_right _ _)⟩
      · simp only [PyData.depthAll, PyData.shownAll]
        exact .cons ((k1.more fun b hb => List.mem_append_left _ hb).level_le (Nat.le_max_left _ _)) (k2.more_le (fun b hb => List.mem_append_right _ hb) (Nat.le_max_right _ _))
end
def showOkX (d : Dt) : Bool := noKv d && d.showable && (decide (d.depth ≤ 100) && decide (d.shown.length ≤ sizeLine))
theorem call_reprX {X : Cx} (hg : X.A.guards = some []) (hu : X.A.units + 102 < cLine) (hK : X.K = fK) : CallR X (.builtin "repr") (fun xs H Q => ∃ (v : V) (d : Dt) (O : Own), xs = [v] ∧ Rp O H v d ∧ showOkX d = true ∧ Q (.str d.shown) H) := by
  intro pins s σ H xs us Q I r h
  obtain ⟨v, d, O, rfl, rp, ok, q⟩ := h
  obtain ⟨u, rfl, rv⟩ := vals1 r
  unfold showOkX at ok
  simp only [Bool.and_eq_true, decide_eq_true_eq] at ok
  obtain ⟨⟨nk, k2⟩, k4, k5⟩ := ok
  have fin : ∀ (h' : Heap) (t : Tok) (tk : Nat), (∀ b o, s.heap.get? b = some o → h'.get? b = some o) → EP X pins σ Q (.str d.shown t) { s with heap := h', toks := tk } := fun h' t tk hk => ⟨.str d.shown, H, I.kept (t' := tk) hk, ⟨t, rfl⟩, q⟩
  have fin0 : EP X pins σ Q (.str d.shown s.toks) { s with toks := s.toks + 1 } := fin s.heap s.toks (s.toks + 1) fun _ _ e => e
  have hun : X.A.units + (d.depth + 1) < cLine := Nat.lt_of_le_of_lt (by omega) hu
  have hun' : X.A.in1.units + d.depth < cLine := by show X.A.units + 1 + d.depth < cLine; omega
  cases rp with
  | non =>
    obtain rfl : u = Value.none := rv
    exact P.repr_of_none (by simpa only [PyData.shown] using fin0)
  | bl b =>
    obtain rfl : u = Value.bool b := rv
    exact P.repr_of_bool (by simpa only [PyData.shown] using fin0)
  | int i =>
    obtain ⟨t, rfl⟩ := (rv : ∃ t, u = Value.int i t)
    exact P.repr_of_int (by simpa [PyData.showable] using k2) (by simpa only [PyData.shown] using fin0)
  | str x =>
    obtain ⟨t, rfl⟩ := (rv : ∃ t, u = Value.str x t)
    exact P.repr_of_str (by simpa only [PyData.shown] using fin0) (by simpa only [PyData.shown] using k5)
  | @dki a kvs ds n e hd hk =>
    subst hd
    cases kvs with
    | nil => exact absurd rfl hk
    | cons p l => simp [noKv] at nk
  | dko n e hd =>
    subst hd
    simp [noKv] at nk
  | dct n e =>
    obtain rfl : u = Value.ref _ := rv
    obtain ⟨_, hsy, vs, kv, o, es, ep, h1, h2, h3, h4, h5, h6⟩ := (show ObjOk X.prog X.w H s.heap _ (.dK []) from I.hok _ _ e)
    cases kv
    have hes : es.toList = [] := by
      generalize es.toList = l at h5
      cases h5
      rfl
    have hrow : ReprEntriesK X.prog X.w [] s.heap 0 es.toList [] := by rw [hes]; exact .nil
    refine call_repr_slot (by omega) ⟨_, h1, h2.1⟩ F.slot_dict_repr ?_
    refine call_dict_reprK h1 h2.1 h3 hsy (List.not_mem_nil) hrow hg (fun b _ => Clear.nil b) (by show X.A.units + 1 + _ < cLine; omega) (fun _ _ e => e) (fun h' t tk hk => ⟨_, _, rfl, ?_⟩) (by simpa only [PyData.shown, PyData.shownKv] using k5)
    have := fin h' t tk hk
    simp only [PyData.shown, PyData.shownKv] at this
    exact this
  | @lst a xs ds q2 al =>
    obtain rfl : u = Value.ref _ := rv
    obtain ⟨its, rv', pl, _⟩ := I.list (by rw [hK]; exact q2.sq)
    obtain ⟨o, ho, hc, n, hd⟩ := pl.isList
    have hz' : (listText (PyData.shownAll ds)).length ≤ sizeLine := by simpa only [PyData.shown] using k5
    obtain ⟨bs, hb, hk⟩ := showka_of I hK al (by simpa only [noKv] using nk) (by simpa [PyData.showable] using k2) (fun t ht => Nat.le_trans (listText_mem_le ht) hz') its rv'
    obtain ⟨as, h4⟩ := readsA_of I hK al (by simpa only [noKv] using nk) its rv'
    have rd : Reads s.heap (.ref a) (.list ds) _ := .list ho hc hd h4
    have hna : a ∉ bs := not_mem_of_deeper rd (by simp only [PyData.depth]; omega) hb
    simp only [PyData.depth] at hun'
    simp only [PyData.shown] at fin
    refine call_repr_slot (by omega) ⟨_, ho, hc⟩ F.slot_list_repr.toG ?_
    cases its with
    | nil =>
      cases rv'
      cases al
      simp only [PyData.shownAll, listText_nil] at fin
      exact call_list_repr_empty ⟨o, ho, hc⟩ ho hd ⟨_, _, rfl, fin _ _ _ fun _ _ e => e⟩
    | cons x l =>
      exact call_list_reprK ho hc hd hna (by simpa using hk.length_eq) (fun i y e => hk.item i y (by simpa using e)) hg (fun b _ => Clear.nil b) hun' (fun _ _ e => e) (fun h' t tk hk => ⟨_, _, rfl, fin h' t tk hk⟩) hz'
  | @tup a xs ds q2 al =>
    obtain rfl : u = Value.ref _ := rv
    obtain ⟨its, rv', pl, _⟩ := I.tuple (by rw [hK]; exact q2.sq)
    obtain ⟨o, ho, hc, n, hd⟩ := pl
    have hz' : (tupleText (PyData.shownAll ds)).length ≤ sizeLine := by simpa only [PyData.shown] using k5
    obtain ⟨bs, hb, hk⟩ := showka_of I hK al (by simpa only [noKv] using nk) (by simpa [PyData.showable] using k2) (fun t ht => Nat.le_trans (tupleText_mem_le ht) hz') its rv'
    obtain ⟨as, h4⟩ := readsA_of I hK al (by simpa only [noKv] using nk) its rv'
    have rd : Reads s.heap (.ref a) (.tuple ds) _ := .tuple ho hc hd h4
    have hna : a ∉ bs := not_mem_of_deeper rd (by simp only [PyData.depth]; omega) hb
    simp only [PyData.depth] at hun'
    simp only [PyData.shown] at fin
    refine call_repr_slot (by omega) ⟨_, ho, hc⟩ F.slot_tuple_repr ?_
    exact call_tuple_reprK ho hc hd hna hk hg (fun b _ => Clear.nil b) hun' (fun _ _ e => e) (fun h' t tk hk => ⟨_, _, rfl, fin h' t tk hk⟩) hz'
def eReprX (f : FE) : FE := fun ρ W => (f ρ W).bind fun x W1 => if showOkX x = true then .ok (.d (.str x.shown)) W1 else .bad
section
variable {C : Cd}
theorem se_reprX {e : Expr} {f : FE} {pos p : Pos} (hgd : ∀ X, C.P X → X.A.guards = some []) (hg : C.G "repr") (hm : C.mg "repr" = none) (ha : SE C e f) (he : ∀ env, starEach [e] env = [(false, eval e env)] := by intro _; rfl) : SE C (.Call (.Name "repr" p) [e] [] pos) (eReprX f) := by
  obtain ⟨t, q, s⟩ := ha
  refine ⟨_, fun X h => pe_callB (call_reprX (hgd X h) (by have := C.unX X h; omega) (C.hK X h)) (C.gl h hg) (by rw [C.hmg X h]; exact hm) (by decide +kernel) (pa_cons (q X h) pa_nil (he _)) (by decide) (by decide) (he _) (by rfl), fun a W Q I h => ?_⟩
  refine s.then I h fun x W1 v H1 e1 st r1 h1 => ?_
  split at h1
  · rename_i ok
    exact ⟨v, x, a.O, rfl, r1, ok, h1 _ _ e1 Est.refl (.str _)⟩
  · exact absurd h1 id
end
section
variable {ρ : List Sl} {W : Option Well} {f : FE}
@[simp] theorem v_reprX : eReprX f ρ W = (f ρ W).bind fun x W1 => if showOkX x = true then .ok (.d (.str x.shown)) W1 else .bad := nr rfl
end
end Lw
set_option Elab.async false
set_option linter.all false
set_option maxRecDepth 100000
set_option maxHeartbeats 2000000
set_option autoImplicit false
/-! # try: .. except E as e: a suite that asks isinstance(e, X); x.count(True), x.index(True); f(e, k = v); {"k": e, ..} -/
namespace L2
open PySem PySem.Spec PyProof.Rows
theorem pe_callSN {X : Cx} {CX : CXT} {k n : Nat} {f : Addr} {fd : FuncData} {ps ks : List Str} {sp : Sp} {E : St → XK} {x : Str} {p pos : Pos} {e : Expr} {es : List Expr} {kws : List Keyword} {t tk : TA} {g : List Value → List Value → List Value} {gV : List V → List V → List V}
    (F : FnOk X.prog X.w X.K X.mg X.base CX k f fd ps sp) (hr : Room k X.A) (hg : Gl X x) (hm : X.mg x = some (.ref f)) (hk : PySem.W.keepIn X.K (.ref f) = true) (hb : KBn X.K fd ps n ks g gV) (hx : ∀ σ, PassesAt CX X σ (E σ))
    (ha : PA X (e :: es) t) (hkw : PK X kws tk) (hall : (backToKw pos (keywordEach kws X.env)).all (·.1.isSome) = true) (hks : (backToKw pos (keywordEach kws X.env)).filterMap (·.1) = ks) (hdb : (x == ("__debug__" : Str)) = false)
    (he : starEach (e :: es) X.env = (false, eval e X.env) :: starEach es X.env) (hpl : ((backTo pos (starEach (e :: es) X.env)).any (·.1) || (backToKw pos (keywordEach kws X.env)).any (·.1.isNone)) = false) :
    PE X (.Call (.Name x p) (e :: es) kws pos) (fun σ H Q => t σ H fun vs H1 => tk σ H1 fun zs H2 => vs.length = n ∧ zs.length = ks.length ∧ sp (gV vs zs) H2 Q (E σ)) := by
  refine ⟨fun pins s σ H Q I h => ?_⟩
  refine wpAny_Call_Name_kw (ld_glob I hg hm ?_ hdb)
  refine PySem.W.callWith_KW (h₀ := X.base) I.ok.mod.kin hk hall (thn (ha.run pos pins s σ H _ I h) fun us s1 ⟨vs, H1, I1, r, q⟩ => ?_) hpl he
  refine thn (hkw.run pos pins s1 σ H1 _ I1 q) fun ws s2 ⟨zs, H2, I2, rz, l1, l2, q2⟩ => ⟨I2.kIn, ?_⟩
  rw [hks]
  have r2 := hb.rel r rz
  refine wpAny_call (codeAny_mono (F.run X.A X.stack s2 H2 ⟨us, ks.zip ws⟩ (g us ws) (gV vs zs) Q (E σ) hr I2.env0 (hb.to s2 us ws I2.kIn (r.length.symm.trans l1) (rz.length.symm.trans l2)) r2 q2) fun r s' hq => ?_)
  cases r with
  | error e => exact hx σ pins H2 s2 e s' I2 hq
  | ok fl =>
    cases fl with
    | ret u => exact I2.after hq
    | next => exact False.elim hq
    | brk => exact False.elim hq
    | cont => exact False.elim hq
theorem find_addR {α β : Type} : True := trivial
theorem mergeK_new : ∀ (more kvs : List (Key × V)), ((kvs ++ more).map (·.1)).Nodup → mergeK kvs more = kvs ++ more
  | [], kvs, _ => by rw [List.append_nil]; rfl
  | p :: r, kvs, h => by
    have hn : (kvs.any fun kv => decide (kv.1 = p.1)) = false := by
      rw [List.any_eq_false]
      intro q hq z
      rw [List.map_append, List.map_cons] at h
      have := (List.nodup_append.mp h).2.2 q.1 (List.mem_map.mpr ⟨q, hq, rfl⟩) p.1 List.mem_cons_self
      exact this (by simpa using z)
    have e : putK kvs p.1 p.2 = kvs ++ [p] := by
      unfold putK
      rw [if_neg (by rw [hn]; decide)]
    show mergeK (putK kvs p.1 p.2) r = _
    rw [e, mergeK_new r (kvs ++ [p]) (by rw [List.append_assoc]; exact h), List.append_assoc]
    rfl
end L2
namespace Lw
open PySem PySem.Spec PyProof.Rows L2
variable [KI : FragI]
/-! ### try .. except E as e -/
open Classical in
/-- ks: the classes that are caught; h: what the suite does, by the error's address and class -/
noncomputable def sTryAs (ks : List Nat) (i : Nat) (f : FS) (h : Addr → Nat → FS) : FS := fun ρ W => match f ρ W with
  | .exc c ρ' W' => if hx : c ∈ ks ∧ i < ρ'.length ∧ ∃ (ρ2 : List Sl) (W2 : Option Well), ∀ a0, ∃ ρ3, h a0 c (ρ'.set i (.ex a0 c)) W' = .nx ρ3 W2 ∧ ρ3.set i .no = ρ2 then .nx hx.2.2.choose hx.2.2.choose_spec.choose else .bad
  | o => o
open Classical in
theorem v_tryAs {ks : List Nat} {i c : Nat} {f : FS} {h : Addr → Nat → FS} {ρ ρ' ρ2 : List Sl} {W W' W2 : Option Well} (e : f ρ W = .exc c ρ' W') (hc : c ∈ ks) (hi : i < ρ'.length) (hh : ∀ a0, ∃ ρ3, h a0 c (ρ'.set i (.ex a0 c)) W' = .nx ρ3 W2 ∧ ρ3.set i .no = ρ2) :
    sTryAs ks i f h ρ W = .nx ρ2 W2 := by
  unfold sTryAs
  rw [e]
  have hx : c ∈ ks ∧ i < ρ'.length ∧ ∃ (ρ2 : List Sl) (W2 : Option Well), ∀ a0, ∃ ρ3, h a0 c (ρ'.set i (.ex a0 c)) W' = .nx ρ3 W2 ∧ ρ3.set i .no = ρ2 := ⟨hc, hi, ρ2, W2, hh⟩
  show (if hx : c ∈ ks ∧ i < ρ'.length ∧ ∃ (ρ2 : List Sl) (W2 : Option Well), ∀ a0, ∃ ρ3, h a0 c (ρ'.set i (.ex a0 c)) W' = .nx ρ3 W2 ∧ ρ3.set i .no = ρ2 then Out.nx hx.2.2.choose hx.2.2.choose_spec.choose else .bad) = _
  rw [dif_pos hx]
  obtain ⟨ρ3, e1, e2⟩ := hx.2.2.choose_spec.choose_spec 0
  obtain ⟨ρ4, e3, e4⟩ := hh 0
  rw [e1] at e3
  injection e3 with e5 e6
  exact congr (congrArg Out.nx (e2.symm.trans (by rw [e5]; exact e4))) e6
open Classical in
theorem v_tryN {ks : List Nat} {i : Nat} {f : FS} {h : Addr → Nat → FS} {ρ ρ' : List Sl} {W W' : Option Well} (e : f ρ W = .nx ρ' W') : sTryAs ks i f h ρ W = .nx ρ' W' := by
  unfold sTryAs
  rw [e]
/-- what the suite wishes -/
def asT (C : Cd) (ks : List Nat) (suite : List Stmt) (a : Addr) (cls : Value) (d : Option Addr) : TS := fun D σ H => ∃ c ∈ ks, cls = .ref (C.ca c) ∧ d = none ∧ ∃ t : TS, (∀ X, (C.su a c).P X → PSs X suite t) ∧ t D σ H
theorem ss_tryAs {C : Cd} {ks : List Nat} {body suite : List Stmt} {b₀ : Stmt} {xc n : Str} {k i : Nat} {f : FS} {h : Addr → Nat → FS} {np hp pos : Pos}
    (hmt : ∀ c ∈ ks, PySem.W.exmOne fK (.ref (C.ca c)) (.ref (C.ca k)) = some true) (hb : ∀ W, SB (C.tr W) body f) (hs : ∀ (a0 : Addr), ∀ c ∈ ks, SB (C.su a0 c) (b₀ :: suite) (h a0 c))
    (hg : C.G xc) (hd : (xc == ("__debug__" : Str)) = false) (hm : C.mg xc = some (.ref (C.ca k))) (hn : C.N[i]? = some n)
    (hX : ∀ X, C.P X → X.stack = X.env :: X.outer ∧ X.env.frame = some X.env.locals ∧ Takes X C.Wx ∧ X.env.kindOf n = some .local := by rintro _ rfl; exact ⟨rfl, rfl, takes_of rfl rfl rfl rfl, rfl⟩) :
    SS C (.Try body [.ExceptHandler (some (.Name xc np)) (some n) (b₀ :: suite) hp] [] [] pos) (sTryAs ks i f h) := by
  refine ⟨fun D σ H => ∃ t : TS, (∀ X, (C.tr (wAs fK (.ref (C.ca k)) i (asT C ks (b₀ :: suite)) C.Wx D)).P X → PSs X body t) ∧ t D σ H, fun X h => ?_, fun a W D hm' I h => ?_⟩
  · obtain ⟨h1, h2, h3, h4⟩ := hX X h
    have := ps_try_as (X := X) (x := xc) (n := n) (c := .ref (C.ca k)) (i := i) (body := body) (np := np) (pos := pos) (pos' := hp) (tb := fun W D σ H => ∃ t : TS, (∀ X, (C.tr W).P X → PSs X body t) ∧ t D σ H) (ts := asT C ks (b₀ :: suite)) (Wout := C.Wx) h1 h2
      (by rw [C.hN X h]; exact C.nd) (by rw [C.hN X h]; exact hn) h4 ⟨C.gl h hg, hd, .inl (by rw [C.hmg X h]; exact hm)⟩ h3
      (fun W pn xe tk _ => ⟨fun pins s σ H D I ⟨t, p, ht⟩ => (p _ ⟨X, pn, xe, h, rfl, tk⟩).run pins s σ H D I ht⟩)
      (fun a oe cls d pn hz hf => ⟨fun pins s σ H D I ⟨c, hc, e1, e2, t, p, ht⟩ => by
        subst e1; subst e2
        exact (p _ ⟨X, oe, pn, h, rfl, hz, hf⟩).run pins s σ H D I ht⟩)
    rw [C.hK X h] at this
    exact this
  · obtain ⟨t, p, snd⟩ := hb (wAs fK (.ref (C.ca k)) i (asT C ks (b₀ :: suite)) C.Wx D)
    refine ⟨t, p, snd a W D hm' I ?_⟩
    unfold sTryAs at h
    show wS (wAs fK (.ref (C.ca k)) i (asT C ks (b₀ :: suite)) C.Wx D) C.ca a D (f a.ρ W)
    revert h
    cases f a.ρ W with
    | bad => exact id
    | bk ρ' W' => exact id
    | ct ρ' W' => exact id
    | nx ρ' W' => exact id
    | rt e W' => cases e <;> exact id
    | exc c ρ' W1 =>
      intro hh a' y' e1 I'
      dsimp only at hh
      split at hh
      · rename_i hx
        have hh : wS C.Wx C.ca a D (.nx hx.2.2.choose hx.2.2.choose_spec.choose) := hh
        have sp := hx.2.2.choose_spec.choose_spec
        generalize hx.2.2.choose_spec.choose = W2 at *
        generalize hx.2.2.choose = ρ2 at *
        obtain ⟨hc, hi, _⟩ := hx
        subst e1
        refine ⟨true, hmt c hc, fun _ b hb' => ?_, fun z => Bool.noConfusion z⟩
        obtain ⟨t2, p2, s2⟩ := hs b c hc
        refine ⟨c, hc, rfl, rfl, t2, p2, ?_⟩
        have E1 := I'.1.set i (s := .ex b c) (o := some (.ref b)) rfl (fun _ _ z => nomatch z)
        obtain ⟨ρ3, e3, e4⟩ := sp b
        refine s2 ⟨a'.b, a'.O, a'.wa, a'.ρ.set i (.ex b c), a'.σ.set i (some (.ref b)), a'.H, a'.hw⟩ W1 _ (by show a'.b.mkw = _; rw [y'.b]; exact hm') ⟨E1, I'.2⟩ ?_
        show wS (fun _ _ _ _ => False) C.ca _ _ (h b c (a'.ρ.set i (.ex b c)) W1)
        rw [e3]
        intro a3 y3 e5 I3
        have E3 := I3.1.set i (s := .no) (o := none) True.intro (fun _ _ z => nomatch z)
        exact hh ⟨a3.b, a3.O, a3.wa, a3.ρ.set i .no, a3.σ.set i none, a3.H, a3.hw⟩ ⟨y3.b.trans y'.b, y'.2.trans y3.2⟩ (by show a3.ρ.set i .no = ρ2; rw [e5]; exact e4) ⟨E3, I3.2⟩
      · exact hh.elim
/-! ### isinstance(e, X) in the suite -/
def eIsX (a0 : Addr) (i : Nat) (b : Bool) : FE := fun ρ W => match ρ[i]? with | some (.ex p _) => if p = a0 then .ok (.d (.bool b)) W else .bad | _ => .bad
theorem isX_snd {C : Cd} {a0 : Addr} {c i : Nat} {b : Bool} {v : V} {cv : Value} (hcv : ∀ u, RelV v u → u = cv) (hk : PySem.W.kitOne fK (.ref (C.ca c)) cv = some b) : SndE (C.su a0 c).Wx C.ca (tCB (rIsE fK (C.ca c) a0) (fun σ H Q => ∃ x, σ[i]? = some (some x) ∧ Q [x, v] H)) (eIsX a0 i b) := by
  intro a W Q I h
  unfold eIsX at h
  split at h
  · rename_i p c' e
    split at h
    · rename_i ep
      subst ep
      obtain ⟨o, h1, h2⟩ := I.1.sl i _ e
      cases o with
      | none => exact absurd h2 id
      | some x =>
        have h2 : x = .ref p := h2
        subst h2
        exact ⟨.ref p, h1, v, cv, b, rfl, hcv, hk, h _ a.H I Est.refl (.bl b)⟩
    · exact absurd h id
  · exact absurd h id
section
variable {C : Cd} {a0 : Addr} {c i k : Nat} {b : Bool} {n xc : Str} {p1 p2 p3 p4 : Pos}
theorem se_isX (hE : ExcC fK (C.ca c)) (hk : PySem.W.kitOne fK (.ref (C.ca c)) (.ref (C.ca k)) = some b) (hgi : C.G "isinstance") (hmi : C.mg "isinstance" = none) (hg : C.G xc) (hm : C.mg xc = some (.ref (C.ca k))) (hn : C.N[i]? = some n) (hv : Vis C.sc n)
    (hdc : (xc == ("__debug__" : Str)) = false := by decide) (hnd : (n == ("__debug__" : Str)) = false := by decide) (hcd : (n == ("__classdict__" : Str)) = false := by decide)
    (he : ∀ env, starEach [.Name n p2, .Name xc p3] env = (false, eval (.Name n p2) env) :: starEach [.Name xc p3] env := by intro _; rfl)
    (he2 : ∀ env, starEach [.Name xc p3] env = (false, eval (.Name xc p3) env) :: starEach [] env := by intro _; rfl) (hpl : ∀ env, (backTo p4 (starEach [.Name xc p3] env)).any (·.1) = false := by intro _; rfl) :
    SE (C.su a0 c) (.Call (.Name "isinstance" p1) [.Name n p2, .Name xc p3] [] p4) (eIsX a0 i b) := by
  refine ⟨tCB (rIsE fK (C.ca c) a0) (fun σ H Q => ∃ x, σ[i]? = some (some x) ∧ Q [x, .ref (C.ca k)] H), fun X' h' => ?_, isX_snd (fun u hu => hu) hk⟩
  obtain ⟨X, oe, pn, h, rfl, hz, hf⟩ := id h'
  have hK : X.K = fK := C.hK X h
  have call : CallR (X.suite a0 ((a0, oe) :: pn)) (.builtin "isinstance") (rIsE fK (C.ca c) a0) := by
    have z := call_isE (X := X) (pn := pn) (a := a0) (oe := oe) (D := C.ca c) (by rw [hK]; exact hE) hz hf
    rw [hK] at z
    exact z
  exact pe_callB (p := p1) (pos := p4) call ((C.su a0 c).gl h' hgi) (by rw [(C.su a0 c).hmg _ h']; exact hmi) (by decide +kernel)
    (pa_cons (pe_var (pos := p2) (by rw [(C.su a0 c).hN _ h']; exact hn) (by rw [(C.su a0 c).hsc _ h']; exact hv) hnd hcd) (pa_cons (pe_glob (v := .ref (C.ca k)) (pos := p3) ((C.su a0 c).gl h' hg) (by rw [(C.su a0 c).hmg _ h']; exact hm) rfl hdc) pa_nil (he2 _)) (he _)) (by decide) (by decide) (he _) (hpl _)
theorem se_isV (hE : ExcC fK (C.ca c)) (hk : PySem.W.kitOne fK (.ref (C.ca c)) (.type "ValueError") = some b) (hgi : C.G "isinstance") (hmi : C.mg "isinstance" = none) (hg : C.G "ValueError") (hm : C.mg "ValueError" = none) (hn : C.N[i]? = some n) (hv : Vis C.sc n)
    (hnd : (n == ("__debug__" : Str)) = false := by decide) (hcd : (n == ("__classdict__" : Str)) = false := by decide)
    (he : ∀ env, starEach [.Name n p2, .Name "ValueError" p3] env = (false, eval (.Name n p2) env) :: starEach [.Name "ValueError" p3] env := by intro _; rfl)
    (he2 : ∀ env, starEach [.Name "ValueError" p3] env = (false, eval (.Name "ValueError" p3) env) :: starEach [] env := by intro _; rfl) (hpl : ∀ env, (backTo p4 (starEach [.Name "ValueError" p3] env)).any (·.1) = false := by intro _; rfl) :
    SE (C.su a0 c) (.Call (.Name "isinstance" p1) [.Name n p2, .Name "ValueError" p3] [] p4) (eIsX a0 i b) := by
  refine ⟨tCB (rIsE fK (C.ca c) a0) (fun σ H Q => ∃ x, σ[i]? = some (some x) ∧ Q [x, .ty "ValueError"] H), fun X' h' => ?_, isX_snd (fun u hu => hu) hk⟩
  obtain ⟨X, oe, pn, h, rfl, hz, hf⟩ := id h'
  have hK : X.K = fK := C.hK X h
  have call : CallR (X.suite a0 ((a0, oe) :: pn)) (.builtin "isinstance") (rIsE fK (C.ca c) a0) := by
    have z := call_isE (X := X) (pn := pn) (a := a0) (oe := oe) (D := C.ca c) (by rw [hK]; exact hE) hz hf
    rw [hK] at z
    exact z
  exact pe_callB (p := p1) (pos := p4) call ((C.su a0 c).gl h' hgi) (by rw [(C.su a0 c).hmg _ h']; exact hmi) (by decide +kernel)
    (pa_cons (pe_var (pos := p2) (by rw [(C.su a0 c).hN _ h']; exact hn) (by rw [(C.su a0 c).hsc _ h']; exact hv) hnd hcd) (pa_cons (pe_bltn (v := .ty "ValueError") (pos := p3) ((C.su a0 c).gl h' hg) (by rw [(C.su a0 c).hmg _ h']; exact hm) (by decide +kernel) rfl (by decide) (by decide)) pa_nil (he2 _)) (he _)) (by decide) (by decide) (he _) (hpl _)
end
@[simp] theorem v_isX {a0 : Addr} {i : Nat} {b : Bool} {ρ : List Sl} {W : Option Well} : eIsX a0 i b ρ W = match ρ[i]? with | some (.ex p _) => if p = a0 then .ok (.d (.bool b)) W else .bad | _ => .bad := nr rfl
/-! ### x.count(e), x.index(e): truths -/
def gCnt : G2 := fun x y => match x, y with | .list ds, .bool k => (allB ds).map fun bs => .d (.int (bs.count k : Nat)) | _, _ => none
def gIdx : G2 := fun x y => match x, y with | .list ds, .bool k => (match allB ds with | some bs => if k ∈ bs then some (.d (.int (bs.findIdx (· == k) : Nat))) else none | none => none) | _, _ => none
def eM1 (g : G2) (f f' : FE) : FE := fun ρ W => (f ρ W).bind fun x W1 => match x with | .list l => (f' ρ W1).bind fun y W2 => ofP (g (.list l) y) W2 | _ => .bad
def PureM (r : V → List V → Hp → VK → Prop) (g : G2) : Prop := ∀ (O : Own) (H : Hp) (x y : V) (dx dy : D) (Q : VK), (∀ a, O a → H a ≠ none) → Rp O H x dx → Rp O H y dy → wP O H Q (g dx dy) → r x [y] H Q
def rCntB : V → List V → Hp → VK → Prop := fun x xs H Q => ∃ (p : Addr) (bs : List Bool) (k : Bool), x = .ref p ∧ xs = [.bl k] ∧ SqL fK H p (bs.map V.bl) ∧ Q (.int (bs.count k : Nat)) H
theorem countP_bl {k : Bool} : ∀ {bs : List Bool} {us : List Value}, Vals (bs.map V.bl) us → us.countP (isBoolOf k) = bs.count k
  | [], _, r => by cases r; rfl
  | b :: bs, _, r => by
    rw [List.map_cons] at r
    cases r with
    | cons r1 rr =>
      obtain rfl := (r1 : _ = Value.bool b)
      rw [List.countP_cons, List.count_cons, countP_bl rr]
      rfl
theorem vals_bl : ∀ {bs : List Bool} {us : List Value}, Vals (bs.map V.bl) us → ∀ y ∈ us, ∃ b, y = Value.bool b
  | [], _, r, y, hy => by cases r; cases hy
  | b :: bs, _, r, y, hy => by
    rw [List.map_cons] at r
    cases r with
    | cons r1 rr =>
      rcases List.mem_cons.mp hy with rfl | hy
      · exact ⟨b, r1⟩
      · exact vals_bl rr y hy
theorem mt_countB {X : Cx} (hK : X.K = fK) : MtR X "list.count" rCntB := by
  intro pins s σ H x xs v us Q I rx rxs h
  obtain ⟨p, bs, k, rfl, rfl, hs, q⟩ := h
  cases rx
  obtain ⟨u, rfl, ru⟩ := rxs.one
  obtain rfl : u = Value.bool k := ru
  rw [← hK] at hs
  obtain ⟨its, rv, ⟨⟨cls, dd, data, sl⟩, n, ho, hc, hdn, hd⟩, hlen⟩ := I.list hs
  simp only at hc hd
  subst hc hd
  refine call_meets PySem.F.slot_list_count ⟨_, ho, rfl⟩ PySem.F.entry_list_count (PySem.F.args_list_count_2 _ _)
    (SeqAt.list_countAt p its.toArray n dd sl (.bool k) (isBoolOf k)) ⟨ho, fun y hy => ?_, ?_⟩
  · obtain ⟨b, rfl⟩ := vals_bl rv y (by simpa using hy)
    exact SeqAt.EqAt.bool_bool b k
  · refine ⟨.int (bs.count k : Nat), H, I.tok _, ⟨s.toks, ?_⟩, q⟩
    show Value.int ((its.toArray.toList.countP (isBoolOf k) : Nat) : Int) s.toks = Value.int ((bs.count k : Nat) : Int) s.toks
    rw [show its.toArray.toList = its from rfl, countP_bl rv]
theorem pure_count : PureM rCntB gCnt := fun O H x y dx dy Q ho rx ry w => by
  cases ry with
  | bl k =>
    cases rx with
    | lst h1 al =>
      unfold gCnt at w
      dsimp only at w
      cases e : allB _ with
      | none => rw [e] at w; exact absurd w id
      | some bs =>
        rw [e] at w
        have := allB_eq e
        subst this
        have hv := RpA.of_bools al
        subst hv
        exact ⟨_, bs, k, rfl, rfl, h1.sq, wP.val w (.int _)⟩
    | _ => exact absurd w id
  | _ => cases rx <;> exact absurd w id
theorem pure_index : PureM (rIndex fK) gIdx := fun O H x y dx dy Q ho rx ry w => by
  cases ry with
  | bl k =>
    cases rx with
    | lst h1 al =>
      unfold gIdx at w
      dsimp only at w
      cases e : allB _ with
      | none => rw [e] at w; exact absurd w id
      | some bs =>
        rw [e] at w
        dsimp only at w
        split at w
        · rename_i hk
          have := allB_eq e
          subst this
          have hv := RpA.of_bools al
          subst hv
          have hlt : bs.findIdx (· == k) < bs.length := List.findIdx_lt_length.mpr ⟨k, hk, by simp⟩
          have hat : (bs.map V.bl)[bs.findIdx (· == k)]? = some (.bl k) := by
            rw [List.getElem?_map, List.getElem?_eq_getElem hlt]
            have := List.findIdx_getElem (p := (· == k)) (w := hlt)
            simp only [beq_iff_eq] at this
            rw [this]
            rfl
          refine ⟨_, bs.map V.bl, .bl k, bs.findIdx (· == k), .bl k, rfl, rfl, h1.sq, rfl, ?_, hat, ?_, fun m z' hm hz => ?_, wP.val w (.int _)⟩
          · rw [List.all_map]
            exact List.all_eq_true.mpr fun _ _ => rfl
          · show (k == k) = true
            simp
          · have hml : m < bs.length := by omega
            rw [List.getElem?_map, List.getElem?_eq_getElem hml] at hz
            cases hz
            have := List.not_of_lt_findIdx hm
            show (bs[m] == k) = false
            simpa using this
        · exact absurd w id
    | _ => exact absurd w id
  | _ => cases rx <;> exact absurd w id
section
variable {C : Cd} {o e : Expr} {fo fe : FE} {apos cpos : Pos}
theorem se_meth {id : String} {name : Str} {r : V → List V → Hp → VK → Prop} {g : G2} (slot : Slot "list" name id) (hty : typeOf (.builtin id) = pure (.type "method_descriptor")) (hm : ∀ X, C.P X → MtR X id r) (hp : PureM r g) (ho : SE C o fo) (he : SE C e fe)
    (hbase : ∀ env, attributeBase o name env (eval o env) = eval o env := by intro _; rfl)
    (hfew : ∀ env, ((backTo cpos (starEach [e] env)).all (fun x => !x.1) && (backToKw cpos (keywordEach [] env)).all (fun x => x.1.isSome) && decide ([e].length + ([] : List Keyword).length + (if ([] : List Keyword).isEmpty then 0 else 1) < 30)) = true := by intro _; rfl)
    (hline : (apos.endLine == cpos.line) = true := by rfl) (hs : ∀ env, starEach [e] env = (false, eval e env) :: starEach [] env := by intro _; rfl) (hplain : ∀ env, (backTo cpos (starEach [] env)).any (·.1) = false := by intro _; rfl) :
    SE C (.Call (.Attribute o name apos) [e] [] cpos) (eM1 g fo fe) := by
  obtain ⟨t, p, s⟩ := ho
  obtain ⟨u, q, z⟩ := he
  refine ⟨tBM fK "list" r t (tCons u tNil), fun X h => by rw [← C.hK X h]; exact pe_bm PySem.F.plainAttrs_list slot hty (hm X h) (p X h) (pa_cons (q X h) pa_nil (hs _)) (hbase _) (hfew _) hline (hs _) (hplain _), fun a W Q I h => ?_⟩
  refine s.then I h fun x W1 v H1 e1 st r1 h1 => ?_
  split at h1
  · rename_i l
    cases r1 with
    | lst q1 al =>
      refine ⟨.inl ⟨rfl, _, q1.sq⟩, ?_⟩
      refine z.then (a := { a with H := H1 }) e1 h1 fun y W2 u2 H2 e2 st2 r2 h2 => ?_
      exact hp a.O H2 _ u2 _ y Q e2.1.al ((Rp.lst q1 al).stp (st2.stp e1)) r2 (wE.pure (a := { a with H := H2 }) e2 h2)
  · exact h1.elim
end
@[simp] theorem v_m1 {g : G2} {f f' : FE} {ρ : List Sl} {W : Option Well} : eM1 g f f' ρ W = (f ρ W).bind fun x W1 => match x with | .list l => (f' ρ W1).bind fun y W2 => ofP (g (.list l) y) W2 | _ => .bad := nr rfl
/-! ### f(e, .., k = v, ..) -/
def KwM (fd : FuncData) (n : Nat) (ps ks : List Str) (is : List Nat) : Prop := ∀ (s : Shared) (us ws : List Value), us.length = n → ws.length = ks.length → BindsTo s fd ⟨us, ks.zip ws⟩ (ps.zip (us ++ pick is ws))
structure DkM (C : Cd) (x : Str) (n : Nat) (ks : List Str) (is : List Nat) (F : FF) : Prop where
  at_ : ∃ (f : Addr) (fd : FuncData) (ps : List Str), FnOk C.prog C.w fK C.mg C.base (L2.CX C.prog C.w) C.k f fd ps (spF C.ca ps.length F) ∧ C.mg x = some (.ref f) ∧ PySem.W.keepIn fK (.ref f) = true ∧ KwM fd n ps ks is ∧ (∀ l : List Sl, l.length = ks.length → n + (pick is l).length = ps.length)
def eFunM (is : List Nat) (F : FF) (fa fk : FA) : FE := fun ρ W => (fa ρ W).bind fun as W1 => (fk ρ W1).bind fun bs W2 => F (as ++ pick is bs) W2
theorem ArRs.append {O : Own} {wa : Addr} {H : Hp} : ∀ {as bs : List Sl} {vs ws : List V}, ArRs O wa H as vs → ArRs O wa H bs ws → ArRs O wa H (as ++ bs) (vs ++ ws)
  | _, _, _, _, .nil, b => b
  | _, _, _, _, .cons r al, b => .cons r (ArRs.append al b)
theorem vals_app : ∀ {vs ws : List V} {us xs : List Value}, Vals vs us → Vals ws xs → Vals (vs ++ ws) (us ++ xs)
  | _, _, _, _, .nil, b => b
  | _, _, _, _, .cons r al, b => .cons r (vals_app al b)
section
variable {C : Cd}
theorem ArRs.est {a : At} {W : Option Well} {H' : Hp} (I : a.Er W) (st : Est a.wa a.hw a.H H') : ∀ {as : List Sl} {vs : List V}, ArRs a.O a.wa a.H as vs → ArRs a.O a.wa H' as vs
  | _, _, .nil => .nil
  | .dt d :: _, _, .cons r rr => .cons (Rp.stp (st.stp I) r) (ArRs.est I st rr)
  | .wel :: _, _, .cons r rr => .cons r (ArRs.est I st rr)
  | .no :: _, _, .cons r _ => absurd r id
  | .ex _ _ :: _, _, .cons r rr => .cons r (ArRs.est I st rr)
  | .cn _ _ :: _, _, .cons r _ => absurd r id
theorem se_callM2 {n : Nat} {e : Expr} {es : List Expr} {kws : List Keyword} {ks : List Str} {is : List Nat} {F : FF} {fa fk : FA} {x : Str} {p pos : Pos} (DF : DkM C x n ks is F) (hg : C.G x) (ha : SA C (e :: es) fa) (hk : SK C kws fk)
    (hn : ArN fa n := by repeat (first | exact ar_nil | apply ar_cons | apply ar_wel)) (hnk : ArN fk ks.length := by repeat (first | exact ar_nil | apply ar_cons | apply ar_wel))
    (hall : ∀ env, (backToKw pos (keywordEach kws env)).all (·.1.isSome) = true := by intro _; rfl) (hks : ∀ env, (backToKw pos (keywordEach kws env)).filterMap (·.1) = ks := by intro _; rfl) (hd : (x == ("__debug__" : Str)) = false := by decide)
    (he : ∀ env, starEach (e :: es) env = (false, eval e env) :: starEach es env := by intro _; rfl)
    (hpl : ∀ env, ((backTo pos (starEach (e :: es) env)).any (·.1) || (backToKw pos (keywordEach kws env)).any (·.1.isNone)) = false := by intro _; rfl) (hcm : C.cm = true := by rfl) :
    SE C (.Call (.Name x p) (e :: es) kws pos) (eFunM is F fa fk) := by
  obtain ⟨t, q, s⟩ := ha
  obtain ⟨u, q2, z⟩ := hk
  obtain ⟨f, fd, ps, ok, mf, kf, bf, hl⟩ := DF.at_
  refine ⟨fun σ H Q => t σ H fun vs H1 => u σ H1 fun zs H2 => vs.length = n ∧ zs.length = ks.length ∧ spF C.ca ps.length F (vs ++ pick is zs) H2 Q (WE C.Wx σ), fun X h => ?_, fun a W Q I h => ?_⟩
  · have ok' : FnOk X.prog X.w X.K X.mg X.base (L2.CX X.prog X.w) C.k f fd ps (spF C.ca ps.length F) := by
      rw [C.hprog X h, C.hw X h, C.hK X h, C.hmg X h, C.hbase X h]
      exact ok
    have hb : KBn X.K fd ps n ks (fun us ws => us ++ pick is ws) (fun vs zs => vs ++ pick is zs) := ⟨fun s us ws _ h1 h2 => bf s us ws h1 h2, fun r rz => vals_app r (vals_pick rz is)⟩
    exact pe_callSN ok' (C.roomC hcm X h) (C.gl h hg) (by rw [C.hmg X h]; exact mf) (by rw [C.hK X h]; exact kf) hb (C.pass X h) (q X h) (q2 X h) (hall _) (hks _) hd (he _) (hpl _)
  · refine s a W _ I ?_
    have h' : wE C.Wx C.ca a Q ((fa a.ρ W).bind fun as W1 => (fk a.ρ W1).bind fun bs W2 => F (as ++ pick is bs) W2) := h
    revert h'
    cases e2 : fa a.ρ W with
    | bad => exact id
    | exc c W1 => exact id
    | ok as W1 =>
      intro h' vs H1 e1 st r1
      have hlen := hn _ _ _ _ e2
      have h1 := wE.later (r := (fk a.ρ W1).bind fun bs W2 => F (as ++ pick is bs) W2) I e1 st h'
      refine z { a with H := H1 } W1 _ e1 ?_
      revert h1
      show wE C.Wx C.ca { a with H := H1 } Q ((fk a.ρ W1).bind fun bs W2 => F (as ++ pick is bs) W2) → wA C.Wx C.ca { a with H := H1 } _ (fk a.ρ W1)
      cases e3 : fk a.ρ W1 with
      | bad => exact id
      | exc c W2 => exact id
      | ok bs W2 =>
        intro h1 zs H2 e4 st2 r2
        have hlen2 := hnk _ _ _ _ e3
        have r1' := ArRs.est (a := { a with H := H1 }) e1 st2 r1
        have rr := ArRs.append r1' (r2.pick is)
        refine ⟨by rw [← r1.length]; exact hlen, by rw [← r2.length]; exact hlen2, a.O, a.wa, W2, as ++ pick is bs, ?_, e4.1.al, rr, e4.1.wl, wE.call (a := { a with H := H2 }) e4 (wE.later (a := { a with H := H1 }) (r := F (as ++ pick is bs) W2) e1 e4 st2 h1)⟩
        rw [← rr.length, List.length_append, hlen]
        exact hl bs hlen2
end
theorem dkm_of {C : Cd} {x : Str} {n : Nat} {ps ks : List Str} {is : List Nat} {F : FF} {j : Nat} {f : Addr} {fd : FuncData} (h : FnOk C.prog C.w fK C.mg C.base (L2.CX C.prog C.w) j f fd ps (spF C.ca ps.length F)) (hj : j ≤ C.k) (m : C.mg x = some (.ref f)) (k : PySem.W.keepIn fK (.ref f) = true) (b : KwM fd n ps ks is)
    (hl : ∀ l : List Sl, l.length = ks.length → n + (pick is l).length = ps.length) : DkM C x n ks is F :=
  ⟨f, fd, ps, h.mono hj, m, k, b, hl⟩
theorem kwm_of {x qual : Str} {st : Stmt} {f : Addr} {fd : FuncData} {n : Nat} {ps ks : List Str} {is : List Nat} (F : L2.Fun fK x qual st f fd)
    (h : ∀ (kV doc pm : Value) (an : Option Addr) (cdv ct : Value) (us ws : List Value), us.length = n → ws.length = ks.length → bindArgs (PySem.W.fnOf x qual (defArgs st) (defBody st) (defScope st) .none kV doc pm an cdv ct) ⟨us, ks.zip ws⟩ = pure (ps.zip (us ++ pick is ws))) : KwM fd n ps ks is := by
  obtain ⟨oc, od, kV, doc, pm, an, cdv, ct, osl, rfl, lk, hcd⟩ := F.ex
  exact fun s us ws h1 h2 => .of_eq (h kV doc pm an cdv ct us ws h1 h2)
section
variable {P : Program} {w : World} {mg : Str → Option Value} {base : Heap} {ca : Nat → Addr} {x : Str} {n : Nat} {ps ks : List Str} {is : List Nat} {j : Nat} {F : FF}
def IsM (P : Program) (w : World) (mg : Str → Option Value) (base : Heap) (ca : Nat → Addr) (x : Str) (n : Nat) (ps ks : List Str) (is : List Nat) (j : Nat) (F : FF) : Prop := ∃ (f : Addr) (fd : FuncData), FnOk P w fK mg base (L2.CX P w) j f fd ps (spF ca ps.length F) ∧ mg x = some (.ref f) ∧ PySem.W.keepIn fK (.ref f) = true ∧ KwM fd n ps ks is ∧ (∀ l : List Sl, l.length = ks.length → n + (pick is l).length = ps.length)
end
theorem IsM.dk {C : Cd} {x : Str} {n : Nat} {ps ks : List Str} {is : List Nat} {j : Nat} {F : FF} (h : IsM C.prog C.w C.mg C.base C.ca x n ps ks is j F) (hj : j ≤ C.k) : DkM C x n ks is F := by
  obtain ⟨f, fd, ok, m, k, b, hl⟩ := h
  exact dkm_of ok hj m k b hl
theorem ism_of {P : Program} {w : World} {mg : Str → Option Value} {base : Heap} {ca : Nat → Addr} {x : Str} {n : Nat} {ps ks : List Str} {is : List Nat} {j : Nat} {F : FF} {st : Stmt} {f : Addr} {fd : FuncData} {qual : Str} (U : L2.Fun fK x qual st f fd) (m : mg x = some (.ref f)) (h : Is P w mg base ca x ps j F) (b : KwM fd n ps ks is) (hl : ∀ l : List Sl, l.length = ks.length → n + (pick is l).length = ps.length) : IsM P w mg base ca x n ps ks is j F := by
  obtain ⟨f', fd', ok, m', k', _, oc', od', osl', lk'⟩ := h
  rw [m] at m'
  cases m'
  obtain ⟨oc, od, kV, doc, pm, an, cdv, ct, osl, e, lk, hcd⟩ := U.ex
  rw [lk] at lk'
  cases lk'
  exact ⟨f, fd, ok, m, k', b, hl⟩
/-- isinstance's answer for two own classes -/
theorem kit_ref {K : PySem.W.Frag} {A C : Addr} {b : Bool} (hd : PySem.W.hasDictIn K C = true) (ht : PySem.W.typeIn K (.ref C) = some (.type "type")) (h : PySem.W.subIn K (.ref A) (.ref C) = some b) (hn : b = false → A ≠ C) : PySem.W.kitOne K (.ref A) (.ref C) = some b := by
  obtain ⟨cd, hc, _⟩ := PySem.W.any_some hd
  have e2 : ((PySem.W.clsIn K C).isSome && PySem.W.typeIn K (.ref C) == some (.type "type")) = true := by rw [hc, ht] <;> rfl
  show (if ((Value.ref A) == (Value.ref C)) = true then some true else (if ((PySem.W.clsIn K C).isSome && PySem.W.typeIn K (.ref C) == some (.type "type")) = true then PySem.W.subIn K (.ref A) (.ref C) else none)) = some b
  by_cases e : ((Value.ref A) == (Value.ref C)) = true
  · rw [if_pos e]
    have : A = C := Value.ref.inj (beq_iff_eq.mp e)
    cases b with
    | true => rfl
    | false => exact absurd this (hn rfl)
  · rw [if_neg e, if_pos e2]
    exact h
@[simp] theorem v_funM {is : List Nat} {F : FF} {fa fk : FA} {ρ : List Sl} {W : Option Well} : eFunM is F fa fk ρ W = (fa ρ W).bind fun as W1 => (fk ρ W1).bind fun bs W2 => F (as ++ pick is bs) W2 := nr rfl
/-! ### {"k": e, ..}, whole numbers; d[k] -/
def SPs (C : Cd) (pos : Pos) (keys : List (Option Expr)) (vals : List Expr) (ks : List Str) (fa : FA) : Prop :=
  ∃ trs, (∀ X, C.P X → PPs X pos keys vals trs) ∧ ∀ (a : At) (W : Option Well) (Q : List (V × V) → Hp → Prop), a.Er W → wA C.Wx C.ca a (fun vs H => Q ((ks.zip vs).map fun p => (V.str p.1, p.2)) H) (fa a.ρ W) → tPairs trs a.σ a.H Q
section
variable {C : Cd} {pos : Pos}
theorem sp_nil : SPs C pos [] [] [] aNil := ⟨[], fun _ _ => pps_nil, fun a W Q I h => h [] a.H I Est.refl .nil⟩
theorem sp_cons {k : Str} {j : Nat} {kp : Pos} {v : Expr} {keys : List (Option Expr)} {vals : List Expr} {ks : List Str} {f : FE} {g : FA} (he : SE C v f) (hs : SPs C pos keys vals ks g) : SPs C pos (some (.Constant (.str k) j kp) :: keys) (v :: vals) (k :: ks) (aCons f g) := by
  obtain ⟨t, p, s⟩ := he
  obtain ⟨u, q, z⟩ := hs
  obtain ⟨t0, p0, s0⟩ := (se_str : SE C (.Constant (.str k) j kp) (eC (.str k)))
  refine ⟨(t0, t) :: u, fun X h => pps_cons (p0 X h) (p X h) (q X h), fun a W Q I h => ?_⟩
  refine s0 a W _ I fun kv H0 e0 st0 r0 => ?_
  cases r0
  refine s.thenA (a := { a with H := H0 }) e0 (wA.later st0 h) fun x W1 v H1 e1 st r1 h1 => ?_
  refine z { a with H := H1 } W1 _ e1 ?_
  revert h1
  show wA C.Wx C.ca { a with H := H1 } _ ((g a.ρ W1).bindA fun as W2 => .ok (.dt x :: as) W2) → wA C.Wx C.ca { a with H := H1 } _ (g a.ρ W1)
  cases g a.ρ W1 with
  | bad => exact id
  | exc c W2 => exact id
  | ok as W2 => exact fun h1 vs H2 e2 st2 r2 => h1 (v :: vs) H2 e2 st2 (.cons (r1.stp (st2.stp e1)) r2)
def eDisp (ks : List Str) (fa : FA) : FE := fun ρ W => (fa ρ W).bind fun as W1 => match datas as with
  | some ds => (match allI ds with | some is => if is.length = ks.length ∧ ks.length ≤ 15 ∧ ks.Nodup ∧ ks ≠ [] then .ok (.d (.dict ((ks.zip is).map fun p => (.str p.1, .int p.2)))) W1 else .bad | none => .bad)
  | none => .bad
theorem se_disp {keys : List (Option Expr)} {vals : List Expr} {ks : List Str} {fa : FA} (h : SPs C pos keys vals ks fa) (hall : keys.all (·.isSome) = true := by rfl) (hl : keys.length = vals.length := by rfl) (h0 : keys ≠ [] := by exact fun z => nomatch z) (h15 : keys.length ≤ 15 := by decide) :
    SE C (.Dict keys vals pos) (eDisp ks fa) := by
  obtain ⟨trs, p, snd⟩ := h
  refine ⟨tDisp trs, fun X h => pe_disp (p X h) hall hl h0 h15, fun a W Q I hq p hp => ?_⟩
  have I0 : (a.to (upd a.H p (.dK []))).Er W := ⟨I.1.same (same_upd hp), I.2⟩
  refine snd (a.to (upd a.H p (.dK []))) W _ I0 ?_
  unfold eDisp at hq
  show wA C.Wx C.ca (a.to (upd a.H p (.dK []))) _ (fa a.ρ W)
  revert hq
  cases fa a.ρ W with
  | bad => exact id
  | exc c W1 => exact fun h H' e1 st => h H' e1 ((Est.same (same_upd hp)).trans st)
  | ok as W1 =>
    intro h vs H2 e2 st2 r2
    have h : wE C.Wx C.ca a Q (match datas as with
      | some ds => (match allI ds with | some is => if is.length = ks.length ∧ ks.length ≤ 15 ∧ ks.Nodup ∧ ks ≠ [] then .ok (.d (.dict ((ks.zip is).map fun p => (.str p.1, .int p.2)))) W1 else .bad | none => .bad)
      | none => .bad) := h
    split at h
    · rename_i ds ed
      split at h
      · rename_i is ei
        split at h
        · rename_i hc
          obtain ⟨hl, h15', hnd, hne⟩ := hc
          have al := r2.datas ed
          have := allI_eq ei
          subst this
          have hv := RpA.of_ints al
          subst hv
          have pw : a.hw = true → p ≠ a.wa := fun hw z => by
            obtain ⟨w, hw'⟩ := Option.isSome_iff_exists.mp (I.2.trans hw)
            have := (I.1.wl w hw').2
            rw [← z, hp] at this
            cases this
          have hp2 : H2 p = some (.dK []) := st2 p _ pw upd_same
          let kvs : List (L2.Key × Int) := (ks.zip is).map fun q => (.inr q.1, q.2)
          have hk : (kvs.map fun q => (q.1, V.int q.2)) = (ks.zip is).map fun q => (Sum.inr q.1, V.int q.2) := by rw [List.map_map]; rfl
          have hz : (ks.zip (is.map V.int)).map (fun q => (V.str q.1, q.2)) = ((kvs.map fun q => (q.1, V.int q.2)).map fun kv => (kV kv.1, kv.2)) := by
            rw [hk, List.map_map, List.zip_map_right, List.map_map]
            rfl
          have hnk : (((kvs.map fun q => (q.1, V.int q.2))).map (·.1)).Nodup := by
            rw [hk, List.map_map]
            have : ((ks.zip is).map ((fun x => x.1) ∘ fun q => ((Sum.inr q.1 : L2.Key), V.int q.2))) = ks.map Sum.inr := by
              have e1 : ((fun (x : L2.Key × V) => x.1) ∘ fun (q : Str × Int) => ((Sum.inr q.1 : L2.Key), V.int q.2)) = (fun k => (Sum.inr k : L2.Key)) ∘ Prod.fst := rfl
              rw [e1, ← List.map_map, List.map_fst_zip (by omega)]
            rw [this]
            exact List.Pairwise.map _ (fun x y h z => h (Sum.inr.inj z)) hnd
          refine ⟨hp2, (kvs.map fun q => (q.1, V.int q.2)), hz, ?_, ?_⟩
          · rw [List.length_map, List.length_map, List.length_zip]
            omega
          · rw [mergeK_new _ [] (by rw [List.nil_append]; exact hnk), List.nil_append]
            have cal : Cal a.wa W W1 a.H (upd H2 p (.dK (kvs.map fun q => (q.1, V.int q.2)))) := ⟨fun z o n q => ?_, fun w hw => ?_, e2.2.trans I.2.symm⟩
            · have I3 : (a.to (upd H2 p (.dK (kvs.map fun q => (q.1, V.int q.2))))).Er W1 := ⟨I.1.call cal, e2.2⟩
              refine h (.ref p) _ I3 (fun z o n q => ?_) (.dki (fun z => I.1.al p z hp) upd_same ?_ ?_)
              · have zp : z ≠ p := fun y => by rw [y, hp] at q; cases q
                rw [upd_ne zp]
                exact st2 z o n (same_upd hp z o q)
              · show _ = ((ks.zip is).map fun q => ((Sum.inr q.1 : L2.Key), q.2)).map _
                rw [List.map_map]
                rfl
              · intro z
                have : kvs.length = 0 := by rw [z]; rfl
                rw [List.length_map, List.length_zip] at this
                cases ks with
                | nil => exact hne rfl
                | cons _ _ => simp only [List.length_cons] at this hl; omega
            · have zp : z ≠ p := fun y => by rw [y, hp] at q; cases q
              rw [upd_ne zp]
              exact st2 z o (fun hw => n (I.2.trans hw)) (same_upd hp z o q)
            · have zp : a.wa ≠ p := fun y => pw (by rw [← e2.2, hw]; rfl) y.symm
              rw [upd_ne zp]
              exact (e2.1.wl w hw).2
        · exact h.elim
      · exact h.elim
    · exact h.elim
def dkIs (k : Str) : D → Bool
  | .str z => decide (z = k)
  | _ => false
def gDKey : G2 := fun x y => match x, y with
  | .dict ds, .str k => (ds.find? fun p => dkIs k p.1).map fun p => .d p.2
  | _, _ => none
theorem se_dkey {d i : Expr} {fd fi : FE} (hd : SE C d fd) (hi : SE C i fi) (hs : NoSl i) : SE C (.Subscript d i pos) (eBin gDKey fd fi) := by
  obtain ⟨t, p, s⟩ := hd
  obtain ⟨u, q, z⟩ := hi
  refine ⟨tDGet t u, fun X h => pe_dget (by have := C.unX X h; omega) (p X h) (q X h) hs, fun a W Q I h => ?_⟩
  refine s.then I h fun x W1 v H1 e1 st r1 h1 => ?_
  refine z.then (a := { a with H := H1 }) e1 h1 fun y W2 u H2 e2 st2 r2 h2 => ?_
  have r1' := r1.stp (st2.stp e1)
  have h3 := wE.pure (a := { a with H := H2 }) e2 h2
  revert h3
  cases r2 with
  | str k =>
    cases r1' with
    | @dki b kvs ds n e hd hk =>
      subst hd
      intro h3
      have key : ∀ kvs : List (L2.Key × Int), ((kvs.map fun p => (keyD p.1, PyData.int p.2)).find? fun p => dkIs k p.1) = (kvs.find? fun kv => decide (kv.1 = Sum.inr k)).map fun p => (keyD p.1, PyData.int p.2) := by
        intro kvs
        induction kvs with
        | nil => rfl
        | cons p r ih =>
          rw [List.map_cons, List.find?_cons, List.find?_cons, ih]
          obtain ⟨k1, v1⟩ := p
          cases k1 with
          | inl j => simp [keyD, dkIs]
          | inr x => by_cases hx : x = k <;> simp [keyD, dkIs, hx]
      have e3 : gDKey (.dict (kvs.map fun p => (keyD p.1, PyData.int p.2))) (.str k) = (kvs.find? fun kv => decide (kv.1 = Sum.inr k)).map fun p => .d (.int p.2) := by
        show Option.map _ (List.find? _ _) = _
        rw [key, Option.map_map]
        rfl
      rw [e3] at h3
      cases ef : kvs.find? fun kv => decide (kv.1 = Sum.inr k) with
      | none => rw [ef] at h3; exact absurd h3 id
      | some kv =>
        rw [ef] at h3
        have h3 : wP a.O H2 Q (some (.d (.int kv.2))) := h3
        refine ⟨b, .int kv.2, rfl, ?_, wP.val h3 (.int _)⟩
        have g := DGet.k (k := Sum.inr k) e
        have ev : valV (kvs.map fun p => (p.1, V.int p.2)) (Sum.inr k) = some (.int kv.2) := by
          have key2 : ∀ kvs : List (L2.Key × Int), ((kvs.map fun p => (p.1, V.int p.2)).find? fun kv => decide (kv.1 = Sum.inr k)) = (kvs.find? fun kv => decide (kv.1 = Sum.inr k)).map fun p => (p.1, V.int p.2) := by
            intro kvs
            induction kvs with
            | nil => rfl
            | cons p r ih =>
              rw [List.map_cons, List.find?_cons, List.find?_cons, ih]
              by_cases hx : p.1 = Sum.inr k <;> simp [hx]
          unfold valV
          rw [key2, ef]
          rfl
        rw [ev] at g
        exact g
    | dct n e => intro h3; exact absurd h3 id
    | dko n e hd => subst hd; intro h3; exact absurd h3 id
    | _ => intro h3; exact absurd h3 id
  | _ => cases r1' <;> (intro h3; exact absurd h3 id)
end
@[simp] theorem v_disp {ks : List Str} {fa : FA} {ρ : List Sl} {W : Option Well} : eDisp ks fa ρ W = (fa ρ W).bind fun as W1 => match datas as with
  | some ds => (match allI ds with | some is => if is.length = ks.length ∧ ks.length ≤ 15 ∧ ks.Nodup ∧ ks ≠ [] then .ok (.d (.dict ((ks.zip is).map fun p => (.str p.1, .int p.2)))) W1 else .bad | none => .bad)
  | none => .bad := nr rfl
end Lw
set_option Elab.async false
set_option linter.all false
set_option maxRecDepth 100000
set_option maxHeartbeats 2000000
set_option autoImplicit false
/-! # len of a text, index of data, a dict of which nothing is told -/
namespace Lw
open PySem PySem.Spec PyProof.Rows L2
variable [KI : FragI]
def gLenS : List D → Option Ev
  | [.str s] => if s.length ≤ lineN then some (.d (.int s.length)) else none
  | _ => none
theorem pure_lenS : Pure (fun xs H Q => ∃ z : Str, xs = [.str z] ∧ z.length ≤ sizeLine ∧ Q (.int z.length) H) gLenS := fun O H vs ds Q ho al w => by
  cases al with
  | nil => exact absurd w id
  | cons r rr =>
    cases rr with
    | nil =>
      cases r with
      | str s =>
        unfold gLenS at w
        dsimp only at w
        split at w
        · rename_i z
          exact ⟨s, rfl, line_le z, wP.val w (.int _)⟩
        · exact absurd w id
      | _ => exact absurd w id
    | cons _ _ => cases r <;> exact absurd w id
@[simp] theorem v_lenS {s : Str} : gLenS [.str s] = if s.length ≤ lineN then some (.d (.int s.length)) else none := nr rfl
/-- the place of the first that is equal -/
def gIdxD : G2 := fun x y => match x with
  | .list ds => if SeqAt.shaped (.list ds) = true ∧ SeqAt.shaped y = true ∧ (ds.any fun z => PyData.eqv z y) = true then some (.d (.int (ds.findIdx (fun z => PyData.eqv z y) : Nat))) else none
  | _ => none
theorem pure_indexD : PureM (rIndexD fK) gIdxD := fun O H x y dx dy Q ho rx ry w => by
  cases rx with
  | @lst a xs ds h1 al =>
    unfold gIdxD at w
    dsimp only at w
    split at w
    · rename_i hz
      obtain ⟨s1, s2, hany⟩ := hz
      have hlt : ds.findIdx (fun z => PyData.eqv z dy) < ds.length := List.findIdx_lt_length.mpr (by
        obtain ⟨z, hz, hq⟩ := List.any_eq_true.mp hany
        exact ⟨z, hz, hq⟩)
      refine ⟨a, y, dy, ds, ds.findIdx (fun z => PyData.eqv z dy), ds[ds.findIdx (fun z => PyData.eqv z dy)], rfl, rfl, (Rp.lst h1 al).dp (shaped_can s1), ry.dp (shaped_can s2), s1, s2, List.getElem?_eq_getElem hlt, List.findIdx_getElem (p := fun z => PyData.eqv z dy) (w := hlt), fun m z' hm hz' => ?_, wP.val w (.int _)⟩
      have hml : m < ds.length := by omega
      rw [List.getElem?_eq_getElem hml] at hz'
      cases hz'
      have := List.not_of_lt_findIdx hm
      simpa using this
    · exact absurd w id
  | _ => exact absurd w id
/-- {k: e}, its key a whole number -/
def eDko (f : FE) : FE := fun ρ W => (f ρ W).bind fun _ W1 => .ok (.d (.dict [(.none, .none)])) W1
theorem se_dko {C : Cd} {k : Int} {j : Nat} {kp pos : Pos} {v : Expr} {f : FE} (he : SE C v f) : SE C (.Dict [some (.Constant (.int k) j kp)] [v] pos) (eDko f) := by
  obtain ⟨t, p, s⟩ := he
  obtain ⟨t0, p0, s0⟩ := (se_int : SE C (.Constant (.int k) j kp) (eC (.int k)))
  refine ⟨tDisp [(t0, t)], fun X h => pe_disp (pps_cons (p0 X h) (p X h) pps_nil) rfl rfl (fun z => nomatch z) (Nat.le_of_ble_eq_true rfl), fun a W Q I hq p hp => ?_⟩
  have I0 : (a.to (upd a.H p (.dK []))).Er W := ⟨I.1.same (same_upd hp), I.2⟩
  refine s0 (a.to (upd a.H p (.dK []))) W _ I0 fun kv H0 e0 st0 r0 => ?_
  cases r0
  have pw : a.hw = true → p ≠ a.wa := fun hw z => by
    obtain ⟨w, hw'⟩ := Option.isSome_iff_exists.mp (I.2.trans hw)
    have := (I.1.wl w hw').2
    rw [← z, hp] at this
    cases this
  have hp0 : H0 p = some (.dK []) := st0 p _ pw upd_same
  unfold eDko at hq
  refine s ((a.to (upd a.H p (.dK []))).to H0) W _ e0 ?_
  show wE C.Wx C.ca ((a.to (upd a.H p (.dK []))).to H0) _ (f a.ρ W)
  revert hq
  cases f a.ρ W with
  | bad => exact id
  | exc c W1 => exact fun h H' e1 st => h H' e1 ((Est.same (same_upd hp)).trans (st0.trans st))
  | ok ev W1 =>
    intro h
    refine wE.weak fun u H2 e2 st2 r2 => ?_
    have h : wE C.Wx C.ca a Q (.ok (.d (.dict [(.none, .none)])) W1) := h
    have hp2 : H2 p = some (.dK []) := st2 p _ pw hp0
    refine ⟨hp2, [(.inl k, u)], rfl, Nat.le_of_ble_eq_true rfl, ?_⟩
    have kept : ∀ z o, (a.hw = true → z ≠ a.wa) → a.H z = some o → H2 z = some o := fun z o hz q => st2 z o hz (st0 z o hz (same_upd hp z o q))
    have cal : Cal a.wa W W1 a.H (upd H2 p (.dK (mergeK [] [(Sum.inl k, u)]))) := ⟨fun z o n q => by
      have zp : z ≠ p := fun y => by rw [y, hp] at q; cases q
      rw [upd_ne zp]
      exact kept z o (fun hw => n (I.2.trans hw)) q, fun w hw => by
      have zp : a.wa ≠ p := fun y => pw (by rw [← e2.2, hw]; rfl) y.symm
      rw [upd_ne zp]
      exact (e2.1.wl w hw).2, e2.2.trans I.2.symm⟩
    have I3 : (a.to (upd H2 p (.dK (mergeK [] [(Sum.inl k, u)])))).Er W1 := ⟨I.1.call cal, e2.2⟩
    refine h (.ref p) _ I3 (fun z o n q => ?_) (.dko (fun z => I.1.al p z hp) upd_same rfl)
    have zp : z ≠ p := fun y => by rw [y, hp] at q; cases q
    rw [upd_ne zp]
    exact kept z o n q
@[simp] theorem v_dko {f : FE} {ρ : List Sl} {W : Option Well} : eDko f ρ W = (f ρ W).bind fun _ W1 => .ok (.d (.dict [(.none, .none)])) W1 := nr rfl
end Lw
set_option Elab.async false
set_option linter.all false
set_option maxRecDepth 100000
set_option maxHeartbeats 2000000
set_option autoImplicit false
/-! # told = [e]; told.append(e2); if not ..: return False; told[0].append(9): the first row is new, and no one else holds it -/
namespace Lw
open PySem PySem.Spec PyProof.Rows L2
variable [KI : FragI]
def sRows (i : Nat) (f1 f2 : FE) (t : FT) : FS := fun ρ W => if i < ρ.length then match f1 ρ W with
  | .ok (.f l) W1 => match f2 (ρ.set i .no) W1 with
    | .ok e W2 => match t (ρ.set i (.dt (.list [.list l, e.D]))) W2 with
      | .ok c W3 => if c = true then .rt (.d (.bool false)) W3 else if l.length < lineN then .nx (ρ.set i .no) W3 else .bad
      | _ => .bad
    | _ => .bad
  | _ => .bad
  else .bad
theorem snd_rows {Wx : WX} {ca : Nat → Addr} {mk : Bool} {i : Nat} {u1 u2 : TE} {tc : TT} {tb ur : TS} {f1 f2 : FE} {t : FT} {g : FS} (s1 : SndE Wx ca u1 f1) (s2 : SndE Wx ca u2 f2) (sc : SndT Wx ca tc t) (sb : SndS Wx ca mk tb (sRet (eC (.bool false)))) (sr : SndS Wx ca mk ur g) :
    SndS Wx ca mk (tSeq (tAsg (tLst (tCons u1 tNil)) (gName i)) (tSeq (tDrop (tBM fK "list" rAppend (tVar i) (tCons u2 tNil))) (tSeq (tIfS tc tb tNext) (tSeq (tDrop (tBM fK "list" rAppend (tOp (rIx fK) (tVar i) (fun _ H Q => Q (.int 0) H)) (tCons (fun _ H Q => Q (.int 9) H) tNil))) ur)))) (sSeq (sRows i f1 f2 t) g) := fun a W D hm I h => by
  unfold sSeq sRows at h
  split at h
  case isFalse => exact absurd h id
  rename_i hi
  have his : i < a.σ.length := by rw [I.1.len]; exact hi
  have hwell : ∀ {H : Hp} {W1 : Option Well} {O : Own} {ρ : List Sl} {σ : L2.St} {p : Addr}, ER a.b O a.wa W1 ρ σ H → W1.isSome = a.hw → H p = none → a.hw = true → p ≠ a.wa := fun {H W1 O ρ σ p} e e2 hp hw z => by
    obtain ⟨w, hw'⟩ := Option.isSome_iff_exists.mp (e2.trans hw)
    have := (e.wl w hw').2
    rw [← z, hp] at this
    cases this
  refine s1 a W _ I ?_
  revert h
  cases f1 a.ρ W with
  | bad => exact fun h => absurd h id
  | exc c W1 => exact fun h => absurd h id
  | ok ev W1 =>
  cases ev with
  | d x => exact fun h => absurd h id
  | f l =>
  intro h r0 vs H1 e1 st hn e2 np nw no hr al hb
  dsimp only at h
  refine ⟨Nat.le_of_ble_eq_true rfl, fun p hp => ?_⟩
  have rw0 : a.hw = true → r0 ≠ a.wa := hwell I.1 I.2 hn
  have pw : a.hw = true → p ≠ a.wa := hwell e2.1 e2.2 hp
  have rp : r0 ≠ p := fun z => by rw [z, hp] at hr; cases hr
  have hget : (a.σ.set i (some (.ref p)))[i]? = some (some (.ref p)) := by rw [List.getElem?_set_self his]
  have nOp : ¬ a.O p := fun z => e2.1.al p z hp
  have I1 : (⟨a.b, OU a.O p, a.wa, a.ρ.set i .no, a.σ.set i (some (.ref p)), upd H1 p (.lst [.ref r0]), a.hw⟩ : At).Er W1 := ⟨(e2.1.own (same_upd hp) hp upd_same).set i trivial (fun _ _ z => nomatch z), e2.2⟩
  refine ⟨.ref p, hget, .inl ⟨rfl, [.ref r0], .inl (.inl upd_same)⟩, ?_⟩
  refine s2 ⟨a.b, OU a.O p, a.wa, a.ρ.set i .no, a.σ.set i (some (.ref p)), upd H1 p (.lst [.ref r0]), a.hw⟩ W1 _ I1 ?_
  revert h
  show wS Wx ca a D (Out.seq (match f2 (a.ρ.set i .no) W1 with
    | .ok e W2 => match t (a.ρ.set i (.dt (.list [.list l, e.D]))) W2 with
      | .ok c W3 => if c = true then .rt (.d (.bool false)) W3 else if l.length < lineN then .nx (a.ρ.set i .no) W3 else .bad
      | _ => .bad
    | _ => .bad) g) → wE Wx ca _ _ (f2 (a.ρ.set i .no) W1)
  cases f2 (a.ρ.set i .no) W1 with
  | bad => exact fun h => absurd h id
  | exc c W2 => exact fun h => absurd h id
  | ok e W2 =>
  intro h
  dsimp only at h
  refine wE.weak fun v2 H2 e3 st2 r2 => ?_
  have st2 : Est a.wa a.hw (upd H1 p (.lst [.ref r0])) H2 := st2
  have hp2 : H2 p = some (.lst [.ref r0]) := st2 p _ pw upd_same
  have hr2 : H2 r0 = some (.lst vs) := st2 r0 _ rw0 (by rw [upd_ne rp]; exact hr)
  refine ⟨p, [.ref r0], v2, rfl, rfl, hp2, Nat.le_of_ble_eq_true rfl, ?_⟩
  -- from the entry on
  have old2 : ∀ z o, (a.hw = true → z ≠ a.wa) → a.H z = some o → (upd H2 p (.lst ([.ref r0] ++ [v2]))) z = some o := fun z o n q => by
    have q1 := st z o n q
    have zp : z ≠ p := fun y => by rw [y, hp] at q1; cases q1
    rw [upd_ne zp]
    exact st2 z o n (by rw [upd_ne zp]; exact q1)
  have well2 : ∀ w, W2 = some w → (upd H2 p (.lst ([.ref r0] ++ [v2]))) a.wa = some (.lst (wellVs w)) := fun w hw => by
    have zp : a.wa ≠ p := fun y => pw (by rw [← e3.2, hw]; rfl) y.symm
    rw [upd_ne zp]
    exact (e3.1.wl w hw).2
  have c2 : Cal a.wa W W2 a.H (upd H2 p (.lst ([.ref r0] ++ [v2]))) := ⟨fun z o n q => old2 z o (fun hw => n (I.2.trans hw)) q, well2, e3.2.trans I.2.symm⟩
  have rows : Rp a.O (upd H2 p (.lst ([.ref r0] ++ [v2]))) (.ref p) (.list [.list l, e.D]) := by
    refine .lst (.inl ⟨nOp, .inl upd_same⟩) (.cons (.lst (.inl ⟨np, .inl (by rw [upd_ne rp]; exact hr2)⟩) (al.stp fun x o n q => ⟨fun z => n (.inl z), ?_⟩)) (.cons (r2.stp fun x o n q => ⟨fun z => n (.inl z), ?_⟩) .nil))
    · have xp : x ≠ p := fun y => by rw [y, hp] at q; cases q
      rw [upd_ne xp]
      exact st2 x o (fun hw y => n (.inl (by
        obtain ⟨w, hw'⟩ := Option.isSome_iff_exists.mp (I.2.trans hw)
        rw [y]; exact (I.1.wl w hw').1))) (by rw [upd_ne xp]; exact q)
    · rw [upd_ne fun y => n (.inr y)]
      exact q
  have I2 : (⟨a.b, a.O, a.wa, a.ρ.set i (.dt (.list [.list l, e.D])), a.σ.set i (some (.ref p)), upd H2 p (.lst ([.ref r0] ++ [v2])), a.hw⟩ : At).Er W2 := ⟨(I.1.call c2).set i rows (fun _ _ z => nomatch z), e3.2⟩
  refine sc ⟨a.b, a.O, a.wa, a.ρ.set i (.dt (.list [.list l, e.D])), a.σ.set i (some (.ref p)), upd H2 p (.lst ([.ref r0] ++ [v2])), a.hw⟩ W2 _ I2 ?_
  revert h
  show wS Wx ca a D (Out.seq (match t (a.ρ.set i (.dt (.list [.list l, e.D]))) W2 with
      | .ok c W3 => if c = true then .rt (.d (.bool false)) W3 else if l.length < lineN then .nx (a.ρ.set i .no) W3 else .bad
      | _ => .bad) g) → wT Wx ca _ _ (t (a.ρ.set i (.dt (.list [.list l, e.D]))) W2)
  cases t (a.ρ.set i (.dt (.list [.list l, e.D]))) W2 with
  | bad => exact fun h => absurd h id
  | exc c W3 => exact fun h => absurd h id
  | ok c W3 =>
  intro h H3 e4 st3
  have st3 : Est a.wa a.hw (upd H2 p (.lst ([.ref r0] ++ [v2]))) H3 := st3
  dsimp only at h
  have hp3 : H3 p = some (.lst ([.ref r0] ++ [v2])) := st3 p _ pw upd_same
  have hr3 : H3 r0 = some (.lst vs) := st3 r0 _ rw0 (by rw [upd_ne rp]; exact hr2)
  have old3 : ∀ z o, (a.hw = true → z ≠ a.wa) → a.H z = some o → H3 z = some o := fun z o n q => st3 z o n (old2 z o n q)
  have aft : ∀ H', (∀ z o, (a.hw = true → z ≠ a.wa) → a.H z = some o → H' z = some o) → ∀ ρ' σ', Aft a ⟨a.b, a.O, a.wa, ρ', σ', H', a.hw⟩ := fun H' o' ρ' σ' => ⟨rfl, fun x o n q => ⟨n, o' x o (fun hw y => n (by
    obtain ⟨w, hw'⟩ := Option.isSome_iff_exists.mp (I.2.trans hw)
    rw [y]; exact (I.1.wl w hw').1)) q⟩⟩
  cases c with
  | true =>
    have c3 : Cal a.wa W W3 a.H H3 := ⟨fun z o n q => old3 z o (fun hw => n (I.2.trans hw)) q, fun w hw => (e4.1.wl w hw).2, e4.2.trans I.2.symm⟩
    have I3 : (⟨a.b, a.O, a.wa, a.ρ.set i .no, a.σ.set i (some (.ref p)), H3, a.hw⟩ : At).Er W3 := ⟨(I.1.call c3).set i trivial (fun _ _ z => nomatch z), e4.2⟩
    exact sb ⟨a.b, a.O, a.wa, a.ρ.set i .no, a.σ.set i (some (.ref p)), H3, a.hw⟩ W3 _ hm I3 fun a' v x i r => h a' v ((aft H3 old3 _ _).trans x) i r
  | false =>
    rw [if_neg (by decide)] at h
    split at h
    case isFalse => exact absurd h id
    rename_i hl
    refine ⟨.ref p, hget, .inl ⟨p, [.ref r0] ++ [v2], 0, .ref r0, rfl, rfl, .inl (.inl hp3), rfl, ?_⟩⟩
    refine ⟨.inl ⟨rfl, vs, .inl (.inl hr3)⟩, ?_⟩
    refine ⟨r0, vs, .int 9, rfl, rfl, hr3, by rw [al.length]; exact Nat.lt_of_lt_of_le hl (line_le (Nat.le_refl _)), ?_⟩
    have old4 : ∀ z o, (a.hw = true → z ≠ a.wa) → a.H z = some o → (upd H3 r0 (.lst (vs ++ [.int 9]))) z = some o := fun z o n q => by
      rw [upd_ne fun y => by rw [y, hn] at q; cases q]
      exact old3 z o n q
    have c4 : Cal a.wa W W3 a.H (upd H3 r0 (.lst (vs ++ [.int 9]))) := ⟨fun z o n q => old4 z o (fun hw => n (I.2.trans hw)) q, fun w hw => by
      rw [upd_ne fun y => rw0 (by rw [← e4.2, hw]; rfl) y.symm]
      exact (e4.1.wl w hw).2, e4.2.trans I.2.symm⟩
    have I4 : (⟨a.b, a.O, a.wa, a.ρ.set i .no, a.σ.set i (some (.ref p)), upd H3 r0 (.lst (vs ++ [.int 9])), a.hw⟩ : At).Er W3 := ⟨(I.1.call c4).set i trivial (fun _ _ z => nomatch z), e4.2⟩
    exact sr ⟨a.b, a.O, a.wa, a.ρ.set i .no, a.σ.set i (some (.ref p)), upd H3 r0 (.lst (vs ++ [.int 9])), a.hw⟩ W3 D hm I4 (wS.later (o := g (a.ρ.set i .no) W3) (aft _ old4 _ _) h)
theorem sb_rows {C : Cd} {i : Nat} {x : Str} {e1 e2 c : Expr} {rest : List Stmt} {f1 f2 : FE} {t : FT} {g : FS} {p1 p2 p3 q1 q2 q3 q4 b2 b3 b4 r1 r2 r3 r4 r5 r6 r7 : Pos} {bj zj nj : Nat}
    (hi : C.N[i]? = some x) (hx : Loc C.sc x) (hv : Vis C.sc x) (hf : C.fn x = true ∨ C.sc.names.lookup x = some .local) (h1 : SE C e1 f1) (h2 : SE C e2 f2) (hc : ST C c t) (hr : SB C rest g)
    (hs1 : ∀ X, C.P X → swapsWith (.List [e1] p2) (some (.Name x p1)) p3.line X.env = pure false := by intro _ _; rfl)
    (hst1 : ∀ env, starEach [e1] env = (false, eval e1 env) :: starEach [] env := by intro _; rfl)
    (hb : ∀ env, attributeBase (.Name x q1) "append" env (eval (.Name x q1) env) = eval (.Name x q1) env := by intro _; rfl)
    (hk : ∀ env, ((backTo q3 (starEach [e2] env)).all (!·.1) && (backToKw q3 (keywordEach [] env)).all (·.1.isSome) && decide ([e2].length + ([] : List Keyword).length + (if ([] : List Keyword).isEmpty = true then 0 else 1) < 30)) = true := by intro _; rfl)
    (hl : (q2.endLine == q3.line) = true := by rfl) (hst : ∀ env, starEach [e2] env = (false, eval e2 env) :: starEach [] env := by intro _; rfl) (hp : ∀ env, (backTo q3 (starEach [] env)).any (·.1) = false := by intro _; rfl)
    (hs : ∀ X, C.P X → swapsWith (.Call (.Attribute (.Name x q1) "append" q2) [e2] [] q3) none q4.line X.env = pure false := by intro _ _; rfl)
    (hb2 : ∀ env, attributeBase (.Subscript (.Name x r1) (.Constant (.int 0) zj r2) r3) "append" env (eval (.Subscript (.Name x r1) (.Constant (.int 0) zj r2) r3) env) = eval (.Subscript (.Name x r1) (.Constant (.int 0) zj r2) r3) env := by intro _; rfl)
    (hk2 : ∀ env, ((backTo r6 (starEach [.Constant (.int 9) nj r5] env)).all (!·.1) && (backToKw r6 (keywordEach [] env)).all (·.1.isSome) && decide ([Expr.Constant (.int 9) nj r5].length + ([] : List Keyword).length + (if ([] : List Keyword).isEmpty = true then 0 else 1) < 30)) = true := by intro _; rfl)
    (hl2 : (r4.endLine == r6.line) = true := by rfl) (hst2 : ∀ env, starEach [.Constant (.int 9) nj r5] env = (false, eval (.Constant (.int 9) nj r5) env) :: starEach [] env := by intro _; rfl) (hp2 : ∀ env, (backTo r6 (starEach [] env)).any (·.1) = false := by intro _; rfl)
    (hs2 : ∀ X, C.P X → swapsWith (.Call (.Attribute (.Subscript (.Name x r1) (.Constant (.int 0) zj r2) r3) "append" r4) [.Constant (.int 9) nj r5] [] r6) none r7.line X.env = pure false := by intro _ _; rfl)
    (hd : (x == ("__debug__" : Str)) = false := by decide) (hcd : (x == ("__classdict__" : Str)) = false := by decide) :
    SB C (.Assign [.Name x p1] (.List [e1] p2) p3 :: .Expr (.Call (.Attribute (.Name x q1) "append" q2) [e2] [] q3) q4 :: .If c [.Return (some (.Constant (.bool false) bj b2)) b3] [] b4 :: .Expr (.Call (.Attribute (.Subscript (.Name x r1) (.Constant (.int 0) zj r2) r3) "append" r4) [.Constant (.int 9) nj r5] [] r6) r7 :: rest) (sSeq (sRows i f1 f2 t) g) := by
  obtain ⟨u1, w1, s1⟩ := h1
  obtain ⟨u2, w2, s2⟩ := h2
  obtain ⟨tc, wc, sc⟩ := hc
  obtain ⟨ur, wr, sr⟩ := hr
  obtain ⟨tb, wb, sb⟩ := (sb_one (ss_ret (se_bl (b := false) (j := bj) (pos := b2)) (pos := b3)) : SB C _ _)
  refine ⟨_, fun X h => ?_, snd_rows s1 s2 sc sb sr⟩
  have vx : ∀ pos, PE X (.Name x pos) (tVar i) := fun pos => pe_var (i := i) (by rw [C.hN X h]; exact hi) (by rw [C.hsc X h]; exact hv) hd hcd
  refine pss_cons (ps_set (by rw [C.hN X h]; exact C.nd) (by rw [C.hN X h]; exact hi) (by rw [C.hsc X h]; exact hx) (pe_lst (pa_cons (w1 X h) pa_nil (hst1 _))) (hs1 X h) (by rw [C.hfn X h, C.hsc X h]; exact hf)) ?_
  refine pss_cons (by rw [← C.hK X h]; exact ps_expr (pe_bm PySem.F.plainAttrs_list PySem.F.slot_list_append PySem.F.type_list_append mt_append (vx _) (pa_cons (w2 X h) pa_nil (hst _)) (hb _) (hk _) hl (hst _) (hp _)) (hs X h)) ?_
  refine pss_cons (ps_if (wc X h) (wb X h) pss_nil) ?_
  refine pss_cons (by rw [← C.hK X h]; exact ps_expr (pe_bm PySem.F.plainAttrs_list PySem.F.slot_list_append PySem.F.type_list_append mt_append (pe_ix ix_seq (vx _) pe_int (fun _ _ => rfl)) (pa_cons pe_int pa_nil (hst2 _)) (hb2 _) (hk2 _) hl2 (hst2 _) (hp2 _)) (hs2 X h)) (wr X h)
@[simp] theorem v_rows {i : Nat} {f1 f2 : FE} {t : FT} {ρ : List Sl} {W : Option Well} : sRows i f1 f2 t ρ W = if i < ρ.length then match f1 ρ W with
  | .ok (.f l) W1 => match f2 (ρ.set i .no) W1 with
    | .ok e W2 => match t (ρ.set i (.dt (.list [.list l, e.D]))) W2 with
      | .ok c W3 => if c = true then .rt (.d (.bool false)) W3 else if l.length < lineN then .nx (ρ.set i .no) W3 else .bad
      | _ => .bad
    | _ => .bad
  | _ => .bad
  else .bad := nr rfl
end Lw
set_option Elab.async false
set_option linter.all false
set_option maxRecDepth 100000
set_option maxHeartbeats 2000000
set_option autoImplicit false
/-! # xs.extend([..]) of an own list -/
namespace Lw
open PySem PySem.Spec PyProof.Rows L2
variable [KI : FragI]
def sExt (i : Nat) (f : FE) : FS := fun ρ W => match ρ[i]? with
  | some (.cn true l) => (f ρ W).toS ρ fun e W1 => match e with
    | .f ds => if l.length + ds.length ≤ lineN then .nx (ρ.set i (.cn true (l ++ ds))) W1 else .bad
    | _ => .bad
  | _ => .bad
section
variable {C : Cd}
theorem ss_extend {i : Nat} {x : Str} {e : Expr} {f : FE} {px apos cpos pos : Pos} (hi : C.N[i]? = some x) (hv : Vis C.sc x) (he : SE C e f) (hb : ∀ env, attributeBase (.Name x px) "extend" env (eval (.Name x px) env) = eval (.Name x px) env := by intro _; rfl)
    (hk : ∀ env, ((backTo cpos (starEach [e] env)).all (!·.1) && (backToKw cpos (keywordEach [] env)).all (·.1.isSome) && decide ([e].length + ([] : List Keyword).length + (if ([] : List Keyword).isEmpty = true then 0 else 1) < 30)) = true := by intro _; rfl)
    (hl : (apos.endLine == cpos.line) = true := by rfl) (hst : ∀ env, starEach [e] env = (false, eval e env) :: starEach [] env := by intro _; rfl) (hp : ∀ env, (backTo cpos (starEach [] env)).any (·.1) = false := by intro _; rfl)
    (hs : ∀ X, C.P X → swapsWith (.Call (.Attribute (.Name x px) "extend" apos) [e] [] cpos) none pos.line X.env = pure false := by intro _ _; rfl) (hd : (x == ("__debug__" : Str)) = false := by decide) (hcd : (x == ("__classdict__" : Str)) = false := by decide) :
    SS C (.Expr (.Call (.Attribute (.Name x px) "extend" apos) [e] [] cpos) pos) (sExt i f) := by
  obtain ⟨t, p, s⟩ := he
  refine ⟨tDrop (tBM fK "list" rExtend (tVar i) (tCons t tNil)), fun X h => by rw [← C.hK X h]; exact ps_expr (pe_bm PySem.F.plainAttrs_list PySem.F.slot_list_extend PySem.F.type_list_extend mt_extend (pe_var (i := i) (by rw [C.hN X h]; exact hi) (by rw [C.hsc X h]; exact hv) hd hcd) (pa_cons (p X h) pa_nil (hst _)) (hb _) (hk _) hl (hst _) (hp _)) (hs X h), fun a W Dn hm I h => ?_⟩
  unfold sExt at h
  split at h
  · rename_i l hl
    obtain ⟨o, h1, h2⟩ := I.1.sl i _ hl
    cases o with
    | none => exact absurd h2 id
    | some v =>
      obtain ⟨q, vs, rfl, oq, hq, al, h0⟩ := h2
      refine ⟨.ref q, h1, .inl ⟨rfl, vs, .inl (.inl hq)⟩, ?_⟩
      refine s.thenF I h (fun x W1 v H1 e1 st r h3 => absurd h3 id) fun ds W1 r vs2 H1 e1 e2 st hn np nw no hr al2 hb h3 => ?_
      dsimp only at h3
      split at h3
      · rename_i hlen
        have hq1 : H1 q = some (.lst vs) := st q _ (fun hw => I.1.nw i l q hl h1 (I.2.trans hw)) hq
        refine ⟨q, r, vs, vs2, rfl, rfl, hq1, hr, ?_, ?_⟩
        · rw [al.length, al2.length]; exact line_le hlen
        · obtain ⟨e3, st2⟩ := e2.1.put (ws := vs ++ vs2) (m := l ++ ds) hl h1 hq1 ((al.stp (st.stp I)).append (al2.stp (Stp.less fun x z => .inl z)))
          exact h3 ⟨a.b, a.O, a.wa, a.ρ.set i (.cn true (l ++ ds)), a.σ, upd H1 q (.lst (vs ++ vs2)), a.hw⟩ ⟨rfl, st2⟩ rfl ⟨e3, e2.2⟩
      · exact absurd h3 id
  · exact absurd h id
end
@[simp] theorem v_ext {i : Nat} {f : FE} {ρ : List Sl} {W : Option Well} {l : List D} (h : ρ[i]? = some (.cn true l)) : sExt i f ρ W = (f ρ W).toS ρ fun e W1 => match e with
    | .f ds => if l.length + ds.length ≤ lineN then .nx (ρ.set i (.cn true (l ++ ds))) W1 else .bad
    | _ => .bad := by
  unfold sExt
  rw [h] <;> rfl
end Lw
set_option Elab.async false
set_option linter.all false
set_option maxRecDepth 100000
set_option maxHeartbeats 2000000
set_option autoImplicit false
/-! # (x, ..) * n -/
namespace L2
open PySem PySem.Spec PyProof.Rows
theorem tuple_mul1 (l : Addr) (items : Array Value) (n : Nat) (dd : Option Addr) (sl : Array (Option Value)) (u : Tok) :
    Meets (Builtin.«tuple.__mul__» ⟨[.ref l, .int 1 u], []⟩) (fun _ R s => s.heap.get? l = some { cls := .type "tuple", dict := dd, data := .seq items n, slots := sl } ∧
      R (.ok (.ret (Value.ref l))) s) :=
  .of_wp fun prog w A R s h => by
    obtain ⟨hp, g, d, tk, os⟩ := s
    obtain ⟨hl, h⟩ := h
    have f1 := AutoSeq1.idx_int
    have c1 : (items.isEmpty || (1 : Int) == 1) = true := by simp
    wp_walk using wpAny_loadPart' hl
    exact ⟨_, rfl, h⟩
def rRepT1 (K : PySem.W.Frag) : R2 := fun x y H Q => ∃ l xs, x = .ref l ∧ y = .int 1 ∧ SqT K H l xs ∧ Q (.ref l) H
theorem op_repT1 {X : Cx} : OpR X (binaryOp .Mult) (rRepT1 X.K) := by
  intro pins s σ H x y v u Q I rx ry h
  obtain ⟨l, xs, rfl, rfl, hT, q⟩ := h
  cases rx
  obtain ⟨t, rfl⟩ := ry
  obtain ⟨its, r, ⟨⟨cls, dd, data, sl⟩, ho, hc, n, hd⟩, hs⟩ := I.tuple hT
  simp only at hc hd
  subst hc hd
  refine wpAny_binaryOp_repeat_ref (T := "tuple") (U := "int") (by decide) ⟨_, ho, rfl⟩ (fun s' => typeIs_int s' 1 t) noFill_tuple_mul F.fills_int_mul F.slot_int_rmul repeat_tuple F.slot_int_index.lookup
    (call_meets F.slot_int_rmul (typeIs_int s 1 t) F.entry_int_rmul (F.args_int_rmul_2 _ _) (int_rmul_tuple 1 t l its.toArray n dd sl)
      ⟨ho, rfl, ⟨_, ho, rfl⟩, call_meets F.slot_tuple_mul ⟨_, ho, rfl⟩ F.entry_tuple_mul (F.args_tuple_mul_2 _ _) (tuple_mul1 l its.toArray n dd sl t) ⟨ho, ?_⟩⟩)
  exact ⟨.ref l, H, I, rfl, q⟩
def rRepTT (K : PySem.W.Frag) : R2 := fun x y H Q => rRepT K x y H Q ∨ rRepT1 K x y H Q
theorem op_repTT {X : Cx} : OpR X (binaryOp .Mult) (rRepTT X.K) := by
  intro pins s σ H x y v u Q I rx ry h
  rcases h with h | h
  · exact op_repT pins s σ H x y v u Q I rx ry h
  · exact op_repT1 pins s σ H x y v u Q I rx ry h
end L2
namespace Lw
open PySem PySem.Spec PyProof.Rows L2
variable [KI : FragI]
def gRepT : G2 := fun x y => match x, y with
  | .tuple ds, .int k => if ds ≠ [] ∧ 1 ≤ k ∧ k ≤ 1000 ∧ ds.length ≤ 1000 then some (.d (.tuple (List.replicate k.toNat ds).flatten)) else none
  | _, _ => none
theorem pure_repT : Pure2 (rRepTT fK) gRepT := fun O H x y dx dy Q ho rx ry w => by
  cases rx with
  | @tup a xs ds h1 al =>
    cases ry with
    | int k =>
      unfold gRepT at w
      dsimp only at w
      split at w
      · rename_i hc
        obtain ⟨c1, c2, c3, c4⟩ := hc
        by_cases h : k = 1
        · subst h
          have e : (List.replicate (1 : Int).toNat ds).flatten = ds := by simp
          rw [e] at w
          exact .inr ⟨_, _, rfl, rfl, h1.sq, wP.val w (.tup h1 al)⟩
        · refine .inl ⟨_, k, _, rfl, rfl, h1.sq, fun z => c1 ?_, by omega, by omega, by rw [al.length]; exact c4, wP.newT ho w (al.rep k.toNat)⟩
          have := al.length
          rw [z] at this
          exact List.eq_nil_of_length_eq_zero this.symm
      · exact absurd w id
    | _ => exact absurd w id
  | _ => cases ry <;> exact absurd w id
theorem se_repT {C : Cd} {a b : Expr} {fa fb : FE} {pos : Pos} (ha : SE C a fa) (hb : SE C b fb) : SE C (.BinOp a .Mult b pos) (eBin gRepT fa fb) := se_op (fun X h => by rw [← C.hK X h]; exact op_repTT) pure_repT ha hb
@[simp] theorem v_repT {ds : List D} {k : Int} (h : ds ≠ [] ∧ 1 ≤ k ∧ k ≤ 1000 ∧ ds.length ≤ 1000) : gRepT (.tuple ds) (.int k) = some (.d (.tuple (List.replicate k.toNat ds).flatten)) := by
  show (if ds ≠ [] ∧ 1 ≤ k ∧ k ≤ 1000 ∧ ds.length ≤ 1000 then _ else _) = _
  rw [if_pos h]
end Lw
set_option Elab.async false
set_option linter.all false
set_option maxRecDepth 100000
set_option maxHeartbeats 2000000
set_option autoImplicit false
/-! # try with several clauses, the first of which holds a name and takes all that comes -/
namespace Lw
open PySem PySem.Spec PyProof.Rows L2
variable [KI : FragI]
section
variable {X : Cx} {xc nm : Str} {cv : Value} {i : Nat} {bd su : List Stmt} {s0 : Stmt} {hs' : List ExceptHandler} {pa pb pc : Pos} {tb : WX → TS} {ts : Addr → Value → Option Addr → TS}
/-- the ends of the suite: the name is gone behind it -/
def dAs (i : Nat) (D : Ends) : Ends := ⟨fun z h => D.nx (z.set i none) h, D.rt, fun z h => D.bk (z.set i none) h, fun z h => D.ct (z.set i none) h⟩
/-- what the first clause wishes -/
def wFi (K : PySem.W.Frag) (cv : Value) (i : Nat) (ts : Addr → Value → Option Addr → TS) (D : Ends) : WX := fun k d z h => PySem.W.exmOne K k cv = some true ∧ ∀ a, h a = none → ts a k d (dAs i D) (z.set i (some (.ref a))) h
theorem ps_try_fi (g1 : X.stack = X.env :: X.outer) (g2 : X.env.frame = some X.env.locals) (g3 : X.N.Nodup) (g4 : X.N[i]? = some nm) (g5 : X.env.kindOf nm = some .local) (g6 : Names X xc cv)
    (g7 : ∀ (W : WX) (ps : List (Addr × Obj)) (xe : Value → Shared → Prop), Takes (X.tr ps xe) W → PSs (X.tr ps xe) bd (tb W))
    (g8 : ∀ (a : Addr) (ob : Obj) (k : Value) (d : Option Addr) (ps : List (Addr × Obj)), Zc k d ob → (∃ fs, ob.data = .fields fs) → PSs (X.suite a ((a, ob) :: ps)) (s0 :: su) (ts a k d)) :
    PS X (.Try bd (.ExceptHandler (some (.Name xc pa)) (some nm) (s0 :: su) pb :: hs') [] [] pc) (fun D z h => tb (wFi X.K cv i ts D) D z h) := by
  constructor
  intro pins s z h D I w0
  have io := I.ok
  have fr : X.A.frames = some (X.env :: X.outer) := io.frames.trans (congrArg some g1)
  apply wpAny_Try_except
  have body := (g7 (wFi X.K cv i ts D) (X.pn ++ pins) (fun e x1 => wpAny (model X.prog X.w) X.A (noteFrame e X.env) (fun _ x2 => wpAny (model X.prog X.w) X.A (setFlight e none) (fun _ x3 => wpAny (model X.prog X.w) X.A (handleBy e X.env (.ExceptHandler (some (.Name xc pa)) (some nm) (s0 :: su) pb :: hs')) (SP X pins D) X.xe x3) X.xe x2) X.xe x1) ?_).run [] s z h D (I.toTry _) w0
  · refine wpAny_mono body ?_ fun _ _ q => q
    intro f x1 q
    cases f with
    | next => exact (fun ⟨a1, a2, a3, a4⟩ => wpAny_execs_nil ⟨a1, a2, a3.ofTry io, a4⟩) q
    | brk => exact (fun ⟨a1, a2, a3, a4⟩ => ⟨a1, a2, a3.ofTry io, a4⟩) q
    | cont => exact (fun ⟨a1, a2, a3, a4⟩ => ⟨a1, a2, a3.ofTry io, a4⟩) q
    | ret u => exact (fun ⟨a0, a1, a2, a3, r, a4⟩ => ⟨a0, a1, a2, a3.ofTry io, r, a4⟩) q
  · rintro u x1 ⟨a, B, sI, p2, z2, h2, k, d, rfl, J', nb, up, sky, na, os, ag, tk, wy⟩
    have J : Inv X pins z2 h2 sI := J'.ofTry io
    rw [g1] at sky
    show wpAny (model X.prog X.w) X.A (noteFrame (.ref a) X.env) _ _ _
    refine Sky.land Zc.steady fr g2 sky fun h3 f3 u3 => ?_
    have J3 : Inv X pins z2 h2 { x1 with heap := h3 } := J.landed nb f3.1 (up.trans u3) os ag
    obtain ⟨ob3, fs3, e3, y3, w3⟩ := f3.there
    have out : a ∉ frs (X.env :: X.outer) := fun mem => by
      obtain ⟨_, ob', e', no⟩ := f3.2.2.1.mem mem
      exact no _ ((Option.some.inj (e3.symm.trans e')) ▸ w3)
    have out1 : a ≠ X.env.locals := fun q => out (List.mem_filterMap.mpr ⟨X.env, List.mem_cons_self, g2.trans (congrArg some q.symm)⟩)
    have out2 : a ∉ X.fs := fun mem => (fun ⟨e, m1, m2⟩ => out (List.mem_filterMap.mpr ⟨e, .tail _ m1, m2⟩)) (List.mem_filterMap.mp mem)
    have S3 := J3.suite e3 w3 na out1 out2
    refine wpAny_handleBy_cons (codeAny_handlers_test ?_) (by intro q; cases q)
    have lt : PySem.W.Looks (model X.prog X.w) h3 (typeOf (.ref a)) k := fun A Q E y m q => wpAny_typeOf_ref (m _ _ e3) (y3.1 ▸ q)
    have lm := PySem.W.exm_one (M := model X.prog X.w) J3.kIn lt tk
    have tst : ∀ {Q E : Value → Shared → Prop}, Q cv { x1 with heap := h3 } → wpAny (model X.prog X.w) (X.A.mark (some (.ref a))) (eval (.Name xc pa) X.env) Q E { x1 with heap := h3 } := fun q => by
      rcases g6 with ⟨m1, m2, m3 | ⟨m3, m4, m5⟩⟩
      · exact ld_glob (X := X.suite a ((a, ob3) :: (X.pn ++ pins))) S3 m1 m3 q m2
      · exact ld_blt (X := X.suite a ((a, ob3) :: (X.pn ++ pins))) S3 m1 m3 m4 q m5 m2
    apply tst
    apply lm.here
    apply codeAny_handlers_suite_as
    refine HandSPX.lands_againZ f3 fun h4 f4 u4 => ?_
    have J4 : Inv X pins z2 h2 { x1 with heap := h4 } := J.landed nb f4.1 ((up.trans u3).trans u4) os ag
    obtain ⟨ob4, fs4, e4, y4, w4⟩ := f4.there
    have S4 := J4.suite e4 w4 na out1 out2
    refine store_ok (X := X.suite a ((a, ob4) :: (X.pn ++ pins))) (v := .ref a) S4 g3 g4 (.inl g5) rfl (fun s5 S5 => ?_) (.inr g5)
    have gone : ∀ {z6 : L2.St} {h6 : Hp} {s6 : Shared} {Q : Shared → Prop}, Inv (X.suite a ((a, ob4) :: (X.pn ++ pins))) [] z6 h6 s6 → (∀ s7, Inv X pins (z6.set i none) h6 s7 → Q s7) → wpAny (model X.prog X.w) X.A (do bindName X.env nm .none; unbindBehindTheSuite X.env nm pb) (fun _ s7 => Q s7) X.xe s6 := fun S6 hq => gone_ok (S6.unsuite io) g3 g4 g5 hq
    refine wpAny_mono ((g8 a ob4 k d (X.pn ++ pins) y4 ⟨_, w4⟩).run [] s5 _ h2 _ S5 (wy a na)) ?_ fun _ _ q => q.elim
    intro f s6 q
    cases f with
    | next => exact (fun ⟨a1, a2, a3, a4⟩ => gone a3 fun s7 j => ⟨_, _, j, a4⟩) q
    | brk => exact (fun ⟨a1, a2, a3, a4⟩ => gone a3 fun s7 j => ⟨_, _, j, a4⟩) q
    | cont => exact (fun ⟨a1, a2, a3, a4⟩ => gone a3 fun s7 j => ⟨_, _, j, a4⟩) q
    | ret u => exact (fun ⟨a0, a1, a2, a3, r, a4⟩ => gone a3 fun s7 j => ⟨_, _, _, j, r, a4⟩) q
end
theorem ss_tryFi {C : Cd} {ks : List Nat} {body suite : List Stmt} {b₀ : Stmt} {hs' : List ExceptHandler} {xc n : Str} {k i : Nat} {f : FS} {h : Addr → Nat → FS} {np hp pos : Pos}
    (hmt : ∀ c ∈ ks, PySem.W.exmOne fK (.ref (C.ca c)) (.ref (C.ca k)) = some true) (hb : ∀ W, SB (C.tr W) body f) (hs : ∀ (a0 : Addr), ∀ c ∈ ks, SB (C.su a0 c) (b₀ :: suite) (h a0 c))
    (hg : C.G xc) (hd : (xc == ("__debug__" : Str)) = false) (hm : C.mg xc = some (.ref (C.ca k))) (hn : C.N[i]? = some n)
    (hX : ∀ X, C.P X → X.stack = X.env :: X.outer ∧ X.env.frame = some X.env.locals ∧ X.env.kindOf n = some .local := by rintro _ rfl; exact ⟨rfl, rfl, rfl⟩) :
    SS C (.Try body (.ExceptHandler (some (.Name xc np)) (some n) (b₀ :: suite) hp :: hs') [] [] pos) (sTryAs ks i f h) := by
  refine ⟨fun D σ H => ∃ t : TS, (∀ X, (C.tr (wFi fK (.ref (C.ca k)) i (asT C ks (b₀ :: suite)) D)).P X → PSs X body t) ∧ t D σ H, fun X h => ?_, fun a W D hm' I h => ?_⟩
  · obtain ⟨h1, h2, h4⟩ := hX X h
    have := ps_try_fi (X := X) (xc := xc) (nm := n) (cv := .ref (C.ca k)) (i := i) (bd := body) (hs' := hs') (pa := np) (pc := pos) (pb := hp) (tb := fun W D σ H => ∃ t : TS, (∀ X, (C.tr W).P X → PSs X body t) ∧ t D σ H) (ts := asT C ks (b₀ :: suite)) h1 h2
      (by rw [C.hN X h]; exact C.nd) (by rw [C.hN X h]; exact hn) h4 ⟨C.gl h hg, hd, .inl (by rw [C.hmg X h]; exact hm)⟩
      (fun W pn xe tk => ⟨fun pins s σ H D I ⟨t, p, ht⟩ => (p _ ⟨X, pn, xe, h, rfl, tk⟩).run pins s σ H D I ht⟩)
      (fun a oe cls d pn hz hf => ⟨fun pins s σ H D I ⟨c, hc, e1, e2, t, p, ht⟩ => by
        subst e1; subst e2
        exact (p _ ⟨X, oe, pn, h, rfl, hz, hf⟩).run pins s σ H D I ht⟩)
    rw [C.hK X h] at this
    exact this
  · obtain ⟨t, p, snd⟩ := hb (wFi fK (.ref (C.ca k)) i (asT C ks (b₀ :: suite)) D)
    refine ⟨t, p, snd a W D hm' I ?_⟩
    unfold sTryAs at h
    show wS (wFi fK (.ref (C.ca k)) i (asT C ks (b₀ :: suite)) D) C.ca a D (f a.ρ W)
    revert h
    cases f a.ρ W with
    | bad => exact id
    | bk ρ' W' => exact id
    | ct ρ' W' => exact id
    | nx ρ' W' => exact id
    | rt e W' => cases e <;> exact id
    | exc c ρ' W1 =>
      intro hh a' y' e1 I'
      dsimp only at hh
      split at hh
      · rename_i hx
        have hh : wS C.Wx C.ca a D (.nx hx.2.2.choose hx.2.2.choose_spec.choose) := hh
        have sp := hx.2.2.choose_spec.choose_spec
        generalize hx.2.2.choose_spec.choose = W2 at *
        generalize hx.2.2.choose = ρ2 at *
        obtain ⟨hc, hi, _⟩ := hx
        subst e1
        refine ⟨hmt c hc, fun b hb' => ?_⟩
        obtain ⟨t2, p2, s2⟩ := hs b c hc
        refine ⟨c, hc, rfl, rfl, t2, p2, ?_⟩
        have E1 := I'.1.set i (s := .ex b c) (o := some (.ref b)) rfl (fun _ _ z => nomatch z)
        obtain ⟨ρ3, e3, e4⟩ := sp b
        refine s2 ⟨a'.b, a'.O, a'.wa, a'.ρ.set i (.ex b c), a'.σ.set i (some (.ref b)), a'.H, a'.hw⟩ W1 _ (by show a'.b.mkw = _; rw [y'.b]; exact hm') ⟨E1, I'.2⟩ ?_
        show wS (fun _ _ _ _ => False) C.ca _ _ (h b c (a'.ρ.set i (.ex b c)) W1)
        rw [e3]
        intro a3 y3 e5 I3
        have E3 := I3.1.set i (s := .no) (o := none) True.intro (fun _ _ z => nomatch z)
        exact hh ⟨a3.b, a3.O, a3.wa, a3.ρ.set i .no, a3.σ.set i none, a3.H, a3.hw⟩ ⟨y3.b.trans y'.b, y'.2.trans y3.2⟩ (by show a3.ρ.set i .no = ρ2; rw [e5]; exact e4) ⟨E3, I3.2⟩
      · exact hh.elim
end Lw
set_option Elab.async false
set_option linter.all false
set_option maxRecDepth 100000
set_option maxHeartbeats 2000000
set_option autoImplicit false
/-! # a, b, xs = e1, e2, [..] by a tuple (where a comprehension reads one of the names) -/
namespace Lw
open PySem PySem.Spec PyProof.Rows L2
variable [KI : FragI]
section
variable {C : Cd}
theorem ss_asgO3 {i j m : Nat} {x y z : Str} {a b c : Expr} {f g k : FE} {px py pz pt pos : Pos} {kt k2 pt2} (hi : C.N[i]? = some x) (hj : C.N[j]? = some y) (hm : C.N[m]? = some z) (hij : i ≠ j) (him : i ≠ m) (hjm : j ≠ m)
    (hx : Loc C.sc x) (hy : Loc C.sc y) (hz : Loc C.sc z) (hfx : C.fn x = true ∨ C.sc.names.lookup x = some .local) (hfy : C.fn y = true ∨ C.sc.names.lookup y = some .local) (hfz : C.fn z = true ∨ C.sc.names.lookup z = some .local) (ha : SE C a f) (hb : SE C b g) (hc : SE C c k)
    (hw : ∀ X, C.P X → swappedStores [.Tuple [.Name x px, .Name y py, .Name z pz] kt pt] (.Tuple [a, b, c] k2 pt2) X.env = pure none) (hs : ∀ X, C.P X → swapsWithSole [.Tuple [.Name x px, .Name y py, .Name z pz] kt pt] (.Tuple [a, b, c] k2 pt2) pos.line X.env = pure false := by intro _ _; rfl)
    (h1 : ∀ env, starEach [a, b, c] env = (false, eval a env) :: starEach [b, c] env := by intro _; rfl) (h2 : ∀ env, starEach [b, c] env = (false, eval b env) :: starEach [c] env := by intro _; rfl) (h3 : ∀ env, starEach [c] env = (false, eval c env) :: starEach [] env := by intro _; rfl) (hcm : C.cm = true := by rfl) :
    SS C (.Assign [.Tuple [.Name x px, .Name y py, .Name z pz] kt pt] (.Tuple [a, b, c] k2 pt2) pos) (sParO3 i j m f g k) := by
  obtain ⟨t, p, s⟩ := ha
  obtain ⟨u, q, zz⟩ := hb
  obtain ⟨t3, p3, s3⟩ := hc
  refine ⟨tAsg (tTup (tCons t (tCons u (tCons t3 tNil)))) (gTup fK 3 (gCons (gName i) (gCons (gName j) (gCons (gName m) gNil)))), fun X h => ?_, fun a W Dn hmk I h => ?_⟩
  · rw [← C.hK X h]
    exact ps_asg (pe_tup (pa_cons (p X h) (pa_cons (q X h) (pa_cons (p3 X h) pa_nil (h3 _)) (h2 _)) (h1 _)))
      (pg_tup (C.calmC hcm X h) (pgs_cons (pg_name (i := i) (by rw [C.hN X h]; exact C.nd) (by rw [C.hN X h]; exact hi) (by rw [C.hsc X h]; exact hx) (by rw [C.hfn X h, C.hsc X h]; exact hfx)) (pgs_cons (pg_name (i := j) (by rw [C.hN X h]; exact C.nd) (by rw [C.hN X h]; exact hj) (by rw [C.hsc X h]; exact hy) (by rw [C.hfn X h, C.hsc X h]; exact hfy)) (pgs_cons (pg_name (i := m) (by rw [C.hN X h]; exact C.nd) (by rw [C.hN X h]; exact hm) (by rw [C.hsc X h]; exact hz) (by rw [C.hfn X h, C.hsc X h]; exact hfz)) pgs_nil)))) (hs X h) (hw X h)
  refine s a W _ I ?_
  unfold sParO3 at h
  revert h
  cases f a.ρ W with
  | bad => exact id
  | exc c W1 => exact fun h H' e1 st => h (a.to H') (Aft.est I st) rfl e1
  | ok e W1 =>
    intro h
    refine wE.weak fun v H1 e1 st r1 => ?_
    refine zz (a.to H1) W1 _ e1 ?_
    show wE C.Wx C.ca (a.to H1) _ (g a.ρ W1)
    revert h
    dsimp only
    cases g a.ρ W1 with
    | bad => exact id
    | exc c W2 => exact fun h H' e2 st2 => h (a.to H') (Aft.est I (st.trans st2)) rfl e2
    | ok eb W2 =>
      intro h
      refine wE.weak fun vb Hb eb1 stb rb => ?_
      refine s3 (a.to Hb) W2 _ eb1 ?_
      show wE C.Wx C.ca (a.to Hb) _ (k a.ρ W2)
      revert h
      dsimp only
      cases k a.ρ W2 with
      | bad => exact id
      | exc c W3 => exact fun h H' e2 st2 => h (a.to H') (Aft.est I ((st.trans stb).trans st2)) rfl e2
      | ok e' W3 =>
        cases e' with
        | d x => exact fun h => absurd h id
        | f l =>
          intro h p' vs H2 e2 st2 hn e2' np nw no hp al hb'
          refine ⟨by show 3 ≤ sizeLine; decide, fun qq hq => ⟨qq, _, rfl, .inl (.inl upd_same), rfl, v, _, rfl, vb, _, rfl, .ref p', _, rfl, rfl, ?_⟩⟩
          have h3 : wS C.Wx C.ca a Dn (if m < a.ρ.length then .nx (((a.ρ.set i (.dt e.D)).set j (.dt eb.D)).set m (.cn true l)) W3 else .bad) := h
          split at h3
          · rename_i hjl
            have stp : Stp a.O Hb (OU a.O p') H2 := Est.stpO (a := a.to Hb) st2 eb1 hn
            have stb' : Stp a.O H1 a.O Hb := Est.stp (a := a.to H1) stb e1
            have r1' : Rp (OU a.O p') H2 v e.D := r1.stp (stb'.trans stp)
            have r2' : Rp (OU a.O p') H2 vb eb.D := rb.stp stp
            have I2 := ((e2.setOw m hjl np nw no hp al hb').set j (s := .dt eb.D) (o := some vb) r2' (fun _ _ z => nomatch z)).set i (s := .dt e.D) (o := some v) r1' (fun _ _ z => nomatch z)
            have er : (((a.ρ.set m (.cn true l)).set j (.dt eb.D)).set i (.dt e.D)) = ((a.ρ.set i (.dt e.D)).set j (.dt eb.D)).set m (.cn true l) := by
              rw [List.set_comm (l := (a.ρ.set m (.cn true l))) _ _ (Ne.symm hij), List.set_comm (l := a.ρ) _ _ (Ne.symm him), List.set_comm _ _ (Ne.symm hjm)]
            have es : (((a.σ.set m (some (.ref p'))).set j (some vb)).set i (some v)) = ((a.σ.set i (some v)).set j (some vb)).set m (some (.ref p')) := by
              rw [List.set_comm (l := (a.σ.set m (some (.ref p')))) _ _ (Ne.symm hij), List.set_comm (l := a.σ) _ _ (Ne.symm him), List.set_comm _ _ (Ne.symm hjm)]
            have sm := same_upd (o := HO.tup [v, vb, .ref p']) hq
            have I3 : (⟨a.b, OU a.O p', a.wa, ((a.ρ.set i (.dt e.D)).set j (.dt eb.D)).set m (.cn true l), ((a.σ.set i (some v)).set j (some vb)).set m (some (.ref p')), upd H2 qq (.tup [v, vb, .ref p']), a.hw⟩ : At).Er W3 := ⟨(er ▸ es ▸ I2 : ER _ _ _ _ _ _ _).same sm, e2'.2⟩
            exact h3 ⟨a.b, OU a.O p', a.wa, ((a.ρ.set i (.dt e.D)).set j (.dt eb.D)).set m (.cn true l), ((a.σ.set i (some v)).set j (some vb)).set m (some (.ref p')), upd H2 qq (.tup [v, vb, .ref p']), a.hw⟩ ⟨rfl, (((st.stp I).trans stb').trans stp).trans (Stp.same sm)⟩ rfl I3
          · exact absurd h3 id
end
end Lw
set_option Elab.async false
set_option linter.all false
set_option maxRecDepth 100000
set_option maxHeartbeats 2000000
set_option autoImplicit false
/-! # return e, xs where xs is new: the caller owns it; return xs if t else e, xs an own list -/
namespace Lw
open PySem PySem.Spec PyProof.Rows L2
variable [KI : FragI]
abbrev RP := Option (Dt × List Dt × Option Well)
abbrev FP := List Sl → Option Well → RP
def wSP (a : At) (D : Ends) : RP → Prop
  | some (x, l, W') => ∀ (a' : At) q p vx vs, Aft a a' → a'.Er W' → ¬ a'.O p → a'.b.H p = none → a'.H p = some (.lst vs) → RpA (OU a'.O p) a'.H vs l → Rp (OU a'.O p) a'.H vx x → a'.H q = some (.tup [vx, .ref p]) → ¬ a'.O q → D.rt (.ref q) a'.H
  | none => False
theorem wSP.later {a a' : At} {D : Ends} {o : RP} (x : Aft a a') (h : wSP a D o) : wSP a' D o := by
  cases o with
  | none => exact h
  | some r => exact fun b q p vx vs y => h b q p vx vs (x.trans y)
def SndP (mk : Bool) (t : TS) (f : FP) : Prop := ∀ (a : At) (W : Option Well) (D : Ends), a.b.mkw = mk → a.Er W → wSP a D (f a.ρ W) → t D a.σ a.H
def SBP (C : Cd) (sts : List Stmt) (f : FP) : Prop := ∃ t, (∀ X, C.P X → PSs X sts t) ∧ SndP C.mkw t f
def seqP (f : FS) (g : FP) : FP := fun ρ W => match f ρ W with | .nx ρ1 W1 => g ρ1 W1 | _ => none
def retP (f g : FE) : FP := fun ρ W => match f ρ W with
  | .ok e W1 => (match g ρ W1 with | .ok (.f l) W2 => some (e.D, l, W2) | _ => none)
  | _ => none
section
variable {C : Cd}
theorem sbp_cons {st : Stmt} {rest : List Stmt} {f : FS} {g : FP} (h1 : SS C st f) (h2 : SBP C rest g) : SBP C (st :: rest) (seqP f g) := by
  obtain ⟨t, p, s⟩ := h1
  obtain ⟨u, q, z⟩ := h2
  refine ⟨_, fun X h => pss_cons (p X h) (q X h), fun a W D hm I h => ?_⟩
  refine s a W _ hm I ?_
  unfold seqP at h
  revert h
  cases f a.ρ W with
  | nx ρ1 W1 =>
    intro h a' x e i
    subst e
    exact z a' W1 D (by rw [x.b]; exact hm) i (wSP.later x h)
  | _ => exact fun h => h.elim
theorem sbp_ret {a b : Expr} {f g : FE} {pt pos : Pos} {kt} (ha : SE C a f) (hb : SE C b g)
    (h1 : ∀ env, starEach [a, b] env = (false, eval a env) :: starEach [b] env := by intro _; rfl) (h2 : ∀ env, starEach [b] env = (false, eval b env) :: starEach [] env := by intro _; rfl) :
    SBP C [.Return (some (.Tuple [a, b] kt pt)) pos] (retP f g) := by
  obtain ⟨t, p, s⟩ := ha
  obtain ⟨u, q, z⟩ := hb
  refine ⟨_, fun X h => pss_one (ps_ret (pe_tup (pa_cons (p X h) (pa_cons (q X h) pa_nil (h2 _)) (h1 _)))), fun a W D hm I h => ?_⟩
  refine s a W _ I ?_
  unfold retP at h
  revert h
  cases f a.ρ W with
  | bad => exact fun h => h.elim
  | exc c W1 => exact fun h => h.elim
  | ok e W1 =>
    intro h
    refine wE.weak fun v H1 e1 st r1 => ?_
    refine z (a.to H1) W1 _ e1 ?_
    show wE C.Wx C.ca (a.to H1) _ (g a.ρ W1)
    revert h
    dsimp only
    cases g a.ρ W1 with
    | bad => exact fun h => h.elim
    | exc c W2 => exact fun h => h.elim
    | ok e' W2 =>
      cases e' with
      | d x => exact fun h => h.elim
      | f l =>
        intro h p' vs H2 e2 st2 hn e2' np nw no hp al hb'
        refine ⟨by show 2 ≤ sizeLine; decide, fun qq hq => ?_⟩
        have stp : Stp a.O H1 (OU a.O p') H2 := Est.stpO (a := a.to H1) st2 e1 hn
        have r2 : Rp (OU a.O p') H2 v e.D := r1.stp stp
        have sm := same_upd (o := HO.tup [v, .ref p']) hq
        have I3 : (⟨a.b, a.O, a.wa, a.ρ, a.σ, upd H2 qq (.tup [v, .ref p']), a.hw⟩ : At).Er W2 := ⟨e2'.1.same sm, e2'.2⟩
        have st3 : Stp a.O a.H a.O (upd H2 qq (.tup [v, .ref p'])) := ((st.stp I).trans (Est.stp (a := a.to H1) st2 e1)).trans (Stp.same sm)
        exact h ⟨a.b, a.O, a.wa, a.ρ, a.σ, upd H2 qq (.tup [v, .ref p']), a.hw⟩ qq p' v vs ⟨rfl, st3⟩ I3 np hb' (sm _ _ hp) (al.stp (Stp.same sm)) (r2.stp (Stp.same sm)) upd_same fun zz => e2'.1.al qq zz hq
end
/-! ### the def -/
def wFP (O : Own) (wa : Addr) (W : Option Well) (H : Hp) (Q : VK) : RP → Prop
  | some (x, l, W') => ∀ q p vx vs H', Cal wa W W' H H' → H p = none → ¬ O q → H' q = some (.tup [vx, .ref p]) → H' p = some (.lst vs) → RpA (OU O p) H' vs l → Rp (OU O p) H' vx x → Q (.ref q) H'
  | none => False
def spP (n : Nat) (F : FP) : Sp := fun vs H Q _ => ∃ (O : Own) (wa : Addr) (W : Option Well) (as : List Sl), vs.length = n ∧ (∀ a, O a → H a ≠ none) ∧ ArRs O wa H as vs ∧ (∀ w, W = some w → O wa ∧ H wa = some (.lst (wellVs w))) ∧ wFP O wa W H Q (F as W)
def runP (n : Nat) (f : FP) : FP := fun as W => f (as ++ List.replicate (n - as.length) .no) W
section
variable {P : Program} {w : World} {mg : Str → Option Value} {base : Heap}
theorem fn_okP {x qual : Str} {st : Stmt} {f : Addr} {fd : FuncData} {N ps : List Str} {k : Nat} {ca : Nat → Addr} {g : FP} {n m : Nat} (F : L2.Fun fK x qual st f fd) (S : FnScope N ps (defScope st)) (hm : ps.length = m) (hn : N.length = n)
    (hb : ∀ cdv A outer s H E hr, SBP (cdOf P w mg base N ps qual (defScope st) f k ca false S cdv A outer s H E hr) (defBody st) g) : FnOk P w fK mg base (L2.CX P w) (k + 1) f fd ps (spP m (runP n g)) := by
  refine F.okX S (fun vs H Q E h => ?_) (fun cdv A outer s H vs Q E hr h => ?_)
  · obtain ⟨_, _, _, _, hl, _⟩ := h
    rw [hl, hm]
  · obtain ⟨O, wa, W, as, hl, ho, har, hwl, hw⟩ := h
    obtain ⟨t, p, snd⟩ := hb cdv A outer s H E hr
    refine ⟨t, p _ rfl, ?_⟩
    have hnb : (false : Bool) = true → W = none ∧ W = none := fun h => Bool.noConfusion h
    refine snd ⟨⟨O, H, wa, W, false, ho, 0⟩, O, wa, as ++ List.replicate (n - as.length) .no, L2.start N vs, H, W.isSome⟩ W _ rfl ⟨er_start N hn ho har hwl rfl rfl (fun _ => ⟨rfl, rfl⟩) hnb, rfl⟩ ?_
    unfold runP at hw
    have cal : ∀ (a' : At) (W' : Option Well), a'.b = ⟨O, H, wa, W, false, ho, 0⟩ → a'.Er W' → Cal wa W W' H a'.H := fun a' W' e I => by
      have I1 := I.1
      rw [e] at I1
      obtain ⟨m1, m2⟩ := I1.wm rfl
      refine ⟨fun z o hz q => I1.keep z o hz q, fun v hv => ?_, m1⟩
      have := (I1.wl v hv).2
      rw [m2] at this
      exact this
    revert hw
    show wFP O wa W H Q (g (as ++ List.replicate (n - as.length) .no) W) → wSP _ _ (g (as ++ List.replicate (n - as.length) .no) W)
    cases g (as ++ List.replicate (n - as.length) .no) W with
    | none => exact id
    | some r =>
      obtain ⟨x, l, W'⟩ := r
      intro hw a' q pp vx vs' xx i n1 n2 n3 n4 n5 n6 n7
      have I1 := i.1
      rw [xx.b] at I1 n2
      have n2' : H pp = none := n2
      refine hw q pp vx vs' a'.H (cal a' W' xx.b i) n2' (fun z => n7 (I1.sub q z)) n6 n3 (n4.stp (Stp.less fun z hz => hz.elim (fun y => .inl (I1.sub z y)) .inr)) (n5.stp (Stp.less fun z hz => hz.elim (fun y => .inl (I1.sub z y)) .inr))
def IsP (P : Program) (w : World) (mg : Str → Option Value) (base : Heap) (x : Str) (ps : List Str) (j : Nat) (F : FP) : Prop := ∃ (f : Addr) (fd : FuncData), FnOk P w fK mg base (L2.CX P w) j f fd ps (spP ps.length F) ∧ mg x = some (.ref f) ∧ PySem.W.keepIn fK (.ref f) = true ∧ L2.Binds fK fd ps []
theorem isp_of {x : Str} {ps : List Str} {j : Nat} {F : FP} {st : Stmt} {f : Addr} {fd : FuncData} {qual : Str} (U : L2.Fun fK x qual st f fd) (m : mg x = some (.ref f)) (h : FnOk P w fK mg base (L2.CX P w) j f fd ps (spP ps.length F)) (b : L2.Binds fK fd ps []) : IsP P w mg base x ps j F := ⟨f, fd, h, m, U.kp, b⟩
end
structure DfP (C : Cd) (x : Str) (ps : List Str) (F : FP) : Prop where
  at_ : ∃ (f : Addr) (fd : FuncData), FnOk C.prog C.w fK C.mg C.base (L2.CX C.prog C.w) C.k f fd ps (spP ps.length F) ∧ C.mg x = some (.ref f) ∧ PySem.W.keepIn fK (.ref f) = true ∧ Binds fK fd ps []
theorem IsP.df {C : Cd} {x : Str} {ps : List Str} {j : Nat} {F : FP} (h : IsP C.prog C.w C.mg C.base x ps j F) (hj : j ≤ C.k) : DfP C x ps F := by
  obtain ⟨f, fd, ok, m, k, b⟩ := h
  exact ⟨f, fd, ok.mono hj, m, k, b⟩
/-! ### x, y = f(..): y is the caller's own -/
def sAsgPr (i j : Nat) (F : FP) (fa : FA) : FS := fun ρ W => match fa ρ W with
  | .ok as W1 => (match F as W1 with | some (x, l, W2) => if j < ρ.length then .nx ((ρ.set i (.dt x)).set j (.cn true l)) W2 else .bad | none => .bad)
  | .exc c W1 => .exc c ρ W1
  | .bad => .bad
section
variable {C : Cd}
theorem ss_asgPr {i j : Nat} {x y fx : Str} {e : Expr} {es : List Expr} {ps : List Str} {fa : FA} {F : FP} {px py pt pf cpos pos : Pos} {kt} (hi : C.N[i]? = some x) (hj : C.N[j]? = some y) (hij : i ≠ j) (hx : Loc C.sc x) (hy : Loc C.sc y) (hfx : C.fn x = true ∨ C.sc.names.lookup x = some .local) (hfy : C.fn y = true ∨ C.sc.names.lookup y = some .local)
    (DF : DfP C fx ps F) (hg : C.G fx) (ha : SA C (e :: es) fa) (hn : ArN fa ps.length := by repeat (first | exact ar_nil | apply ar_cons | apply ar_wel))
    (hw : ∀ X, C.P X → swappedStores [.Tuple [.Name x px, .Name y py] kt pt] (.Call (.Name fx pf) (e :: es) [] cpos) X.env = pure none := by intro _ _; rfl) (hs : ∀ X, C.P X → swapsWithSole [.Tuple [.Name x px, .Name y py] kt pt] (.Call (.Name fx pf) (e :: es) [] cpos) pos.line X.env = pure false := by intro _ _; rfl)
    (hd : (fx == ("__debug__" : Str)) = false := by decide) (he : ∀ env, starEach (e :: es) env = (false, eval e env) :: starEach es env := by intro _; rfl) (hpl : ∀ env, (backTo cpos (starEach es env)).any (·.1) = false := by intro _; rfl) (hcm : C.cm = true := by rfl) :
    SS C (.Assign [.Tuple [.Name x px, .Name y py] kt pt] (.Call (.Name fx pf) (e :: es) [] cpos) pos) (sAsgPr i j F fa) := by
  obtain ⟨t, q, s⟩ := ha
  obtain ⟨f, fd, ok, mf, kf, bf⟩ := DF.at_
  refine ⟨tAsg (tCallS (spP ps.length F) (WE C.Wx) t) (gTup fK 2 (gCons (gName i) (gCons (gName j) gNil))), fun X h => ?_, fun a W Dn hm I h => ?_⟩
  · have ok' : FnOk X.prog X.w X.K X.mg X.base (L2.CX X.prog X.w) C.k f fd ps (spP ps.length F) := by
      rw [C.hprog X h, C.hw X h, C.hK X h, C.hmg X h, C.hbase X h]
      exact ok
    rw [← C.hK X h]
    exact ps_asg (pe_callS ok' (C.roomC hcm X h) (C.gl h hg) (by rw [C.hmg X h]; exact mf) (by rw [C.hK X h]; exact kf) (by rw [C.hK X h]; exact bf) (C.pass X h) (q X h) hd (he _) (hpl _))
      (pg_tup (C.calmC hcm X h) (pgs_cons (pg_name (i := i) (by rw [C.hN X h]; exact C.nd) (by rw [C.hN X h]; exact hi) (by rw [C.hsc X h]; exact hx) (by rw [C.hfn X h, C.hsc X h]; exact hfx)) (pgs_cons (pg_name (i := j) (by rw [C.hN X h]; exact C.nd) (by rw [C.hN X h]; exact hj) (by rw [C.hsc X h]; exact hy) (by rw [C.hfn X h, C.hsc X h]; exact hfy)) pgs_nil))) (hs X h) (hw X h)
  · refine s a W _ I ?_
    unfold sAsgPr at h
    revert h
    cases e2 : fa a.ρ W with
    | bad => exact id
    | exc c W1 => exact fun h H' e1 st => h (a.to H') (Aft.est I st) rfl e1
    | ok as W1 =>
      intro h vs H1 e1 st r1
      dsimp only at h
      refine ⟨a.O, a.wa, W1, as, by rw [← r1.length]; exact hn _ _ _ _ e2, e1.1.al, r1, e1.1.wl, ?_⟩
      revert h
      cases F as W1 with
      | none => exact fun h => h.elim
      | some r =>
        obtain ⟨x', l, W2⟩ := r
        intro h
        dsimp only at h
        split at h
        case isFalse => exact absurd h id
        rename_i hjl
        intro q' p vx vs2 H' cc hp nq hq hpl' al rx
        have key : wF C.ca a.O a.wa W1 H1 (fun v H'' => H'' = H' → v = .ref p → Dn.nx ((a.σ.set i (some vx)).set j (some (.ref p))) H') (WE C.Wx a.σ) (.ok (.f l) W2) := by
          refine wE.call (a := a.to H1) e1 ?_
          intro p' vs' H'' e3 st3 hn3 e3' np nw no hp3 al3 hb3 eH ep
          cases ep
          subst eH
          have stp : Stp a.O H1 (OU a.O p) H'' := Est.stpO (a := a.to H1) st3 e1 hn3
          have I2 := (e3.setOw j hjl np nw no hp3 al3 hb3).set i (s := .dt x') (o := some vx) rx (fun _ _ z => nomatch z)
          rw [List.set_comm _ _ (Ne.symm hij), List.set_comm (l := a.σ) _ _ (Ne.symm hij)] at I2
          have I3 : (⟨a.b, OU a.O p, a.wa, (a.ρ.set i (.dt x')).set j (.cn true l), (a.σ.set i (some vx)).set j (some (.ref p)), H'', a.hw⟩ : At).Er W2 := ⟨I2, e3'.2⟩
          exact h ⟨a.b, OU a.O p, a.wa, (a.ρ.set i (.dt x')).set j (.cn true l), (a.σ.set i (some vx)).set j (some (.ref p)), H'', a.hw⟩ ⟨rfl, (st.stp I).trans stp⟩ rfl I3
        refine ⟨q', _, rfl, .inl (.inl hq), rfl, vx, _, rfl, .ref p, _, rfl, rfl, ?_⟩
        exact key p vs2 H' cc hp hpl' al rfl rfl
/-! ### return xs if t else e -/
def sRetIfO (t : FT) (i : Nat) (g : FE) : FS := fun ρ W => (t ρ W).toS ρ fun k W1 => if k = true then sRetO i ρ W1 else sRet g ρ W1
theorem ss_retIfO {i : Nat} {x : Str} {c e : Expr} {t : FT} {g : FE} {p p2 pos : Pos} (hN : C.N[i]? = some x) (hv : Vis C.sc x) (hc : ST C c t) (he : SE C e g) (hd : (x == ("__debug__" : Str)) = false := by decide) (hcd : (x == ("__classdict__" : Str)) = false := by decide) :
    SS C (.Return (some (.IfExp c (.Name x p) e p2)) pos) (sRetIfO t i g) := by
  obtain ⟨tc, pc, sc⟩ := hc
  obtain ⟨te, pe, se⟩ := he
  refine ⟨_, fun X h => ps_ret (pe_ifExp (pc X h) (pe_var (by rw [C.hN X h]; exact hN) (by rw [C.hsc X h]; exact hv) hd hcd) (pe X h)), fun a W D hm I h => ?_⟩
  refine sc.thenS I h fun k W1 H1 e1 st h1 => ?_
  cases k with
  | true =>
    have h1 : wS C.Wx C.ca (a.to H1) D (sRetO i (a.to H1).ρ W1) := h1
    unfold sRetO at h1
    split at h1
    · rename_i l hl
      obtain ⟨O', p, vs, g1, np, hp, al, h0, I', st'⟩ := e1.1.letx hl
      exact ⟨.ref p, g1, h1 ⟨a.b, O', a.wa, a.ρ.set i (.dt (.list l)), a.σ, H1, a.hw⟩ p vs ⟨rfl, st'⟩ ⟨I', e1.2⟩ np h0 hp al⟩
    · exact absurd h1 id
  | false =>
    have h1 : wS C.Wx C.ca (a.to H1) D (sRet g (a.to H1).ρ W1) := h1
    exact se.thenF e1 h1 (fun x W1 v H1 e1 st r h1 => h1 ⟨a.b, a.O, a.wa, a.ρ, a.σ, H1, a.hw⟩ v Aft.refl e1 r) fun l W1 p vs H1 e1 e2 st hn np nw no hp al hb h1 => h1 ⟨a.b, a.O, a.wa, a.ρ, a.σ, H1, a.hw⟩ p vs Aft.refl e2 np hb hp al
end
section
variable {ρ : List Sl} {W : Option Well} {i j : Nat} {f : FS} {g : FP} {t : FT} {e e' : FE} {fa : FA}
@[simp] theorem v_seqP : seqP f g ρ W = (match f ρ W with | .nx ρ1 W1 => g ρ1 W1 | _ => none) := nr rfl
@[simp] theorem v_retP : retP e e' ρ W = (match e ρ W with | .ok x W1 => (match e' ρ W1 with | .ok (.f l) W2 => some (x.D, l, W2) | _ => none) | _ => none) := nr rfl
@[simp] theorem v_asgPr : sAsgPr i j g fa ρ W = (match fa ρ W with
  | .ok as W1 => (match g as W1 with | some (x, l, W2) => if j < ρ.length then .nx ((ρ.set i (.dt x)).set j (.cn true l)) W2 else .bad | none => .bad)
  | .exc c W1 => .exc c ρ W1
  | .bad => .bad) := nr rfl
@[simp] theorem v_retIfO : sRetIfO t i e ρ W = (t ρ W).toS ρ fun k W1 => if k = true then sRetO i ρ W1 else sRet e ρ W1 := nr rfl
end
end Lw
set_option Elab.async false
set_option linter.all false
set_option maxRecDepth 100000
set_option maxHeartbeats 4000000
namespace Cl
open PySem PySem.Spec PyProof.Rows L2 Lw
variable [KI : FragI]
def topS (i : Nat) : Stmt := PySem.Challenge.pw_stagedplans_k28_behaviours_judged.main.body.getD i (.Pass ⟨0, 0, 0, 0⟩)
abbrev s_is_from : Stmt := topS 1
theorem sc_is_from : FnScope ["value", "low"] ["value", "low"] (defScope s_is_from) := ⟨rfl, rfl, rfl, by decide +kernel, rfl, by decide +kernel, by decide +kernel⟩
abbrev s_check_signal_number : Stmt := topS 9
theorem sc_check_signal_number : FnScope ["number"] ["number"] (defScope s_check_signal_number) := ⟨rfl, rfl, rfl, by decide +kernel, rfl, by decide +kernel, by decide +kernel⟩
abbrev s_are_edges : Stmt := topS 11
theorem sc_are_edges : FnScope ["edges", "nodes", "number", "edge", "grade", "node", "partial", "target"] ["edges", "nodes", "number"] (defScope s_are_edges) := ⟨rfl, rfl, rfl, by decide +kernel, rfl, by decide +kernel, by decide +kernel⟩
abbrev s_is_behaviour_of : Stmt := topS 10
theorem sc_is_behaviour_of : FnScope ["value", "number", "nodes", "edges"] ["value", "number"] (defScope s_is_behaviour_of) := ⟨rfl, rfl, rfl, by decide +kernel, rfl, by decide +kernel, by decide +kernel⟩
abbrev s_is_behaviour : Stmt := topS 8
theorem sc_is_behaviour : FnScope ["number", "value"] ["number", "value"] (defScope s_is_behaviour) := ⟨rfl, rfl, rfl, by decide +kernel, rfl, by decide +kernel, by decide +kernel⟩
abbrev s_l_well : Stmt := topS 13
theorem sc_l_well : FnScope ["_law_script", "_law_at", "_law_cell"] ["_law_script", "_law_at"] (defScope s_l_well) := ⟨rfl, rfl, rfl, by decide +kernel, rfl, by decide +kernel, by decide +kernel⟩
abbrev s_l_draw : Stmt := topS 14
theorem sc_l_draw : FnScope ["_law_well_here", "_law_below", "_law_blend", "_law_digit"] ["_law_well_here", "_law_below"] (defScope s_l_draw) := ⟨rfl, rfl, rfl, by decide +kernel, rfl, by decide +kernel, by decide +kernel⟩
abbrev s_l_same : Stmt := topS 15
theorem sc_l_same : FnScope ["_law_found", "_law_due", "_law_k"] ["_law_found", "_law_due"] (defScope s_l_same) := ⟨rfl, rfl, rfl, by decide +kernel, rfl, by decide +kernel, by decide +kernel⟩
abbrev s_l_signs : Stmt := topS 16
theorem sc_l_signs : FnScope ["_law_count_here", "_law_found", "_law_k", "_law_longer", "_law_sign", "_law_grade"] ["_law_count_here"] (defScope s_l_signs) := ⟨rfl, rfl, rfl, by decide +kernel, rfl, by decide +kernel, by decide +kernel⟩
abbrev s_l_manner : Stmt := topS 17
theorem sc_l_manner : FnScope ["_law_well_here", "_law_width", "_law_most", "_law_k", "_law_kind", "_law_count_here", "_law_edges", "_law_node", "_law_partial", "_law_j", "_law_sign"] ["_law_well_here", "_law_width", "_law_most"] (defScope s_l_manner) := ⟨rfl, rfl, rfl, by decide +kernel, rfl, by decide +kernel, by decide +kernel⟩
abbrev s_l_odd : Stmt := topS 21
theorem sc_l_odd : FnScope ["_law_well_here", "_law_many", "_law_some"] ["_law_well_here", "_law_many"] (defScope s_l_odd) := ⟨rfl, rfl, rfl, by decide +kernel, rfl, by decide +kernel, by decide +kernel⟩
abbrev s_l_bent_tuple : Stmt := topS 22
theorem sc_l_bent_tuple : FnScope ["_law_well_here", "_law_row", "_law_many", "_law_way", "_law_spot"] ["_law_well_here", "_law_row", "_law_many"] (defScope s_l_bent_tuple) := ⟨rfl, rfl, rfl, by decide +kernel, rfl, by decide +kernel, by decide +kernel⟩
abbrev s_l_bent : Stmt := topS 23
theorem sc_l_bent : FnScope ["_law_well_here", "_law_manner_here", "_law_way", "_law_edges", "_law_spot", "_law_edge", "_law_other"] ["_law_well_here", "_law_manner_here"] (defScope s_l_bent) := ⟨rfl, rfl, rfl, by decide +kernel, rfl, by decide +kernel, by decide +kernel⟩
abbrev s_l_is_number : Stmt := topS 18
theorem sc_l_is_number : FnScope ["_law_thing", "_law_least", "_law_most"] ["_law_thing", "_law_least", "_law_most"] (defScope s_l_is_number) := ⟨rfl, rfl, rfl, by decide +kernel, rfl, by decide +kernel, by decide +kernel⟩
abbrev s_l_is_partial : Stmt := topS 19
theorem sc_l_is_partial : FnScope ["_law_width", "_law_thing", "_law_grade"] ["_law_width", "_law_thing"] (defScope s_l_is_partial) := ⟨rfl, rfl, rfl, by decide +kernel, rfl, by decide +kernel, by decide +kernel⟩
abbrev s_l_is_manner : Stmt := topS 20
theorem sc_l_is_manner : FnScope ["_law_width", "_law_thing", "_law_edge"] ["_law_width", "_law_thing"] (defScope s_l_is_manner) := ⟨rfl, rfl, rfl, by decide +kernel, rfl, by decide +kernel, by decide +kernel⟩
abbrev s_l_asked : Stmt := topS 24
theorem sc_l_asked : FnScope ["_law_thing", "_law_width", "_law_before", "_law_due", "_law_told"] ["_law_thing"] (defScope s_l_asked) := ⟨rfl, rfl, rfl, by decide +kernel, rfl, by decide +kernel, by decide +kernel⟩
abbrev s_l_refused : Stmt := topS 25
theorem sc_l_refused : FnScope ["_law_count_here", "_law_thing", "_law_told", "e"] ["_law_count_here", "_law_thing"] (defScope s_l_refused) := ⟨rfl, rfl, rfl, by decide +kernel, rfl, by decide +kernel, by decide +kernel⟩
abbrev s_law : Stmt := topS 26
theorem sc_law : FnScope ["_law_script", "_law_at", "_law_thing", "_law_well_here", "_law_turn", "_law_width", "_law_manner_here", "_law_great", "_law_count_here", "_law_k"] ["_law_script"] (defScope s_law) := ⟨rfl, rfl, rfl, by decide +kernel, rfl, by decide +kernel, by decide +kernel⟩
/-- is class c the class k, or below it? -/
def mtX : Nat → Nat → Bool
  | 1, 1 => true
  | 1, 0 => true
  | _, _ => false
theorem mt_nil {α : Type} {P : α → Prop} : ∀ c ∈ ([] : List α), P c := fun _ h => nomatch h
theorem mt_cons {α : Type} {P : α → Prop} {a : α} {l : List α} (h : P a) (t : ∀ c ∈ l, P c) : ∀ c ∈ a :: l, P c := fun c hc => (List.mem_cons.mp hc).elim (fun e => e ▸ h) (t c)
/-- what the top has left -/
structure Txt (mg : Str → Option Value) (ca : Nat → Addr) : Prop where
  z_ValueError : mg "ValueError" = none
  z_abs : mg "abs" = none
  z_bool : mg "bool" = none
  z_int : mg "int" = none
  z_isinstance : mg "isinstance" = none
  z_len : mg "len" = none
  z_list : mg "list" = none
  z_max : mg "max" = none
  z_min : mg "min" = none
  z_range : mg "range" = none
  z_repr : mg "repr" = none
  z_tuple : mg "tuple" = none
  c_BAD : ∃ t, mg "BAD" = some (.int 2 t)
  c_NONE : ∃ t, mg "NONE" = some (.int 0 t)
  d_is_from : ∃ f fd, Fun fK "is_from" "is_from" s_is_from f fd ∧ mg "is_from" = some (.ref f)
  d_check_signal_number : ∃ f fd, Fun fK "check_signal_number" "check_signal_number" s_check_signal_number f fd ∧ mg "check_signal_number" = some (.ref f)
  d_are_edges : ∃ f fd, Fun fK "are_edges" "are_edges" s_are_edges f fd ∧ mg "are_edges" = some (.ref f)
  d_is_behaviour_of : ∃ f fd, Fun fK "is_behaviour_of" "is_behaviour_of" s_is_behaviour_of f fd ∧ mg "is_behaviour_of" = some (.ref f)
  d_is_behaviour : ∃ f fd, Fun fK "is_behaviour" "is_behaviour" s_is_behaviour f fd ∧ mg "is_behaviour" = some (.ref f)
  d_l_well : ∃ f fd, Fun fK "_law_well" "_law_well" s_l_well f fd ∧ mg "_law_well" = some (.ref f)
  d_l_draw : ∃ f fd, Fun fK "_law_draw" "_law_draw" s_l_draw f fd ∧ mg "_law_draw" = some (.ref f)
  d_l_same : ∃ f fd, Fun fK "_law_same" "_law_same" s_l_same f fd ∧ mg "_law_same" = some (.ref f)
  d_l_signs : ∃ f fd, Fun fK "_law_signs" "_law_signs" s_l_signs f fd ∧ mg "_law_signs" = some (.ref f)
  d_l_manner : ∃ f fd, Fun fK "_law_manner" "_law_manner" s_l_manner f fd ∧ mg "_law_manner" = some (.ref f)
  d_l_odd : ∃ f fd, Fun fK "_law_odd" "_law_odd" s_l_odd f fd ∧ mg "_law_odd" = some (.ref f)
  d_l_bent_tuple : ∃ f fd, Fun fK "_law_bent_tuple" "_law_bent_tuple" s_l_bent_tuple f fd ∧ mg "_law_bent_tuple" = some (.ref f)
  d_l_bent : ∃ f fd, Fun fK "_law_bent" "_law_bent" s_l_bent f fd ∧ mg "_law_bent" = some (.ref f)
  d_l_is_number : ∃ f fd, Fun fK "_law_is_number" "_law_is_number" s_l_is_number f fd ∧ mg "_law_is_number" = some (.ref f)
  d_l_is_partial : ∃ f fd, Fun fK "_law_is_partial" "_law_is_partial" s_l_is_partial f fd ∧ mg "_law_is_partial" = some (.ref f)
  d_l_is_manner : ∃ f fd, Fun fK "_law_is_manner" "_law_is_manner" s_l_is_manner f fd ∧ mg "_law_is_manner" = some (.ref f)
  d_l_asked : ∃ f fd, Fun fK "_law_asked" "_law_asked" s_l_asked f fd ∧ mg "_law_asked" = some (.ref f)
  d_l_refused : ∃ f fd, Fun fK "_law_refused" "_law_refused" s_l_refused f fd ∧ mg "_law_refused" = some (.ref f)
  d_law : ∃ f fd, Fun fK "law" "law" s_law f fd ∧ mg "law" = some (.ref f)
  x_InvalidNumber : XcOf mg "InvalidNumber" (ca 1)
  x_PlanError : XcOf mg "PlanError" (ca 0)
  y_InvalidNumber_InvalidNumber : PySem.W.exmOne fK (.ref (ca 1)) (.ref (ca 1)) = some (mtX 1 1)
  w_InvalidNumber_PlanError : PySem.W.kitOne fK (.ref (ca 1)) (.ref (ca 0)) = some (mtX 1 0)
  q_InvalidNumber : L2.ExcC fK (ca 1)
  v_InvalidNumber : PySem.W.kitOne fK (.ref (ca 1)) (.type "ValueError") = some true
noncomputable def b_is_from : FS :=
  (sRet (eAnd (eIs "int" (eVar 0)) (eAnd (eBin gGeX (eVar 0) (eVar 1)) (eAnd (eBin gIsnX (eVar 0) (eC (.bool true))) (eBin gIsnX (eVar 0) (eC (.bool false)))))))
noncomputable def F_is_from : FF := runF 2 b_is_from
noncomputable def b_check_signal_number : FS :=
  (sIf (tNotF (tOfE (eFun F_is_from (aCons (eVar 0) (aCons (eC (.int 1)) aNil))))) (sRaise 1) sSkip)
noncomputable def F_check_signal_number : FF := runF 1 b_check_signal_number
noncomputable def b_are_edges_L1 : FS :=
  (sSeqB (sIf (tOfB (eIsN (eVar 4))) sCt sSkip)
  (nbS (sIf (tOrF (tNotF (tOfE (eIs "int" (eVar 4)))) (tOrF (tNotF (tOfB (eChain gLeX gLeX (eC (.int 0)) (eVar 4) (eC (.int 2))))) (tOrF (tOfB (eBin gIsX (eVar 4) (eC (.bool true)))) (tOfB (eBin gIsX (eVar 4) (eC (.bool false))))))) (sRet (eC (.bool false))) sSkip)))
noncomputable def b_are_edges_L2 : FS :=
  (sSeq (sIf (tOrF (tNotF (tOfE (eIs "tuple" (eVar 3)))) (tOfB (eBin gNe (eCall gLen (aCons (eVar 3) aNil)) (eC (.int 3))))) (sRet (eC (.bool false))) sSkip)
  (sSeq (sAsg (eVar 3) (fgTup (fgCons (fgName 5) (fgCons (fgName 6) (fgCons (fgName 7) fgNil)))))
  (sSeq (sIf (tOrF (tNotF (tOfE (eIs "int" (eVar 5)))) (tOrF (tNotF (tOfB (eChain gLeX gLtX (eC (.int 0)) (eVar 5) (eVar 1)))) (tOrF (tOfB (eBin gIsX (eVar 5) (eC (.bool true)))) (tOfB (eBin gIsX (eVar 5) (eC (.bool false))))))) (sRet (eC (.bool false))) sSkip)
  (sSeq (sIf (tOrF (tNotF (tOfE (eIs "int" (eVar 7)))) (tOrF (tNotF (tOfB (eChain gLeX gLtX (eC (.int 0)) (eVar 7) (eVar 1)))) (tOrF (tOfB (eBin gIsX (eVar 7) (eC (.bool true)))) (tOfB (eBin gIsX (eVar 7) (eC (.bool false))))))) (sRet (eC (.bool false))) sSkip)
  (sSeq (sIf (tOrF (tNotF (tOfE (eIs "tuple" (eVar 6)))) (tOfB (eBin gNe (eCall gLen (aCons (eVar 6) aNil)) (eVar 2)))) (sRet (eC (.bool false))) sSkip)
  (sForB (fiSeq (eVar 6)) (fgName 4) b_are_edges_L1 sSkip))))))
noncomputable def b_are_edges : FS :=
  (sSeq (sFor (fiSeq (eVar 0)) (fgName 3) b_are_edges_L2)
  (sRet (eC (.bool true))))
noncomputable def F_are_edges : FF := runF 8 b_are_edges
noncomputable def b_is_behaviour_of : FS :=
  (sSeq (sIf (tOrF (tNotF (tOfE (eIs "tuple" (eVar 0)))) (tOfB (eBin gNe (eCall gLen (aCons (eVar 0) aNil)) (eC (.int 2))))) (sRet (eC (.bool false))) sSkip)
  (sSeq (sAsg (eVar 0) (fgTup (fgCons (fgName 2) (fgCons (fgName 3) fgNil))))
  (sRet (eAnd (eFun F_is_from (aCons (eVar 2) (aCons (eC (.int 1)) aNil))) (eAnd (eIs "tuple" (eVar 3)) (eFun F_are_edges (aCons (eVar 3) (aCons (eVar 2) (aCons (eVar 1) aNil)))))))))
noncomputable def F_is_behaviour_of : FF := runF 4 b_is_behaviour_of
noncomputable def b_is_behaviour : FS :=
  (sSeq (sDrop (eFun F_check_signal_number (aCons (eVar 0) aNil)))
  (sRet (eFun F_is_behaviour_of (aCons (eVar 1) (aCons (eVar 0) aNil)))))
noncomputable def F_is_behaviour : FF := runF 2 b_is_behaviour
noncomputable def b_l_well : FS :=
  (sSeq (sSet 2 (eIf (tOfB (eBin gLt (eVar 1) (eCall gLen (aCons (eVar 0) aNil)))) (eBin gIx (eVar 0) (eVar 1)) (eC (.int 0))))
  (sRet (eLst (aCons (eCall gMax2 (aCons (eC (.int 0)) (aCons (eBin gSub (eCall gAbs (aCons (eVar 2) aNil)) (eBin gPow (eC (.int 10)) (eC (.int 18)))) aNil))) (aCons (eBin gAdd (eBin gAdd (eBin gMul (eBin gMod (eCall gInt (aCons (eVar 2) aNil)) (eBin gAdd (eBin gPow (eC (.int 10)) (eC (.int 38))) (eC (.int 133)))) (eC (.int 89))) (eBin gMul (eC (.int 67)) (eVar 1))) (eC (.int 29))) (aCons (eC (.int 0)) aNil))))))
noncomputable def F_l_well : FF := runF 3 b_l_well
noncomputable def b_l_draw : FS :=
  (sSeq (sIf (tOfB (eBin gGt (eWell 0 0) (eC (.int 0)))) (sSeq (sSet 3 (eBin gMod (eCall gInt (aCons (eWell 0 0) aNil)) (eVar 1)))
  (sSeq (sWell 0 0 (eBin gDiv (eWell 0 0) (eVar 1)))
  (sRet (eVar 3)))) sSkip)
  (sSeq (sWell 0 2 (eBin gAdd (eWell 0 2) (eC (.int 1))))
  (sSeq (sSet 2 (eBin gMod (eBin gPow (eCall gInt (aCons (eBin gAdd (eWell 0 1) (eBin gMul (eC (.int 858599509)) (eWell 0 2))) aNil)) (eC (.int 3))) (eBin gAdd (eBin gPow (eC (.int 10)) (eC (.int 41))) (eC (.int 109)))))
  (sSeq (sSet 2 (eBin gMod (eBin gPow (eCall gInt (aCons (eBin gAdd (eVar 2) (eBin gMul (eC (.int 413158523)) (eWell 0 2))) aNil)) (eC (.int 3))) (eBin gAdd (eBin gPow (eC (.int 10)) (eC (.int 39))) (eC (.int 3)))))
  (sRet (eBin gMod (eCall gInt (aCons (eBin gDiv (eVar 2) (eC (.int 1048576))) aNil)) (eVar 1)))))))
noncomputable def F_l_draw : FF := runF 4 b_l_draw
noncomputable def b_l_same_E1 (Frec : FF) : FE :=
  (eVar 2)
noncomputable def b_l_same_C1 (Frec : FF) : FE :=
  (eLc (fiRange1 (aCons (eCall gLen (aCons (eVar 1) aNil)) aNil)) (fgName 2) (tNotF (tOfE (eFun Frec (aCons (eBin gIx (eVar 0) (eVar 2)) (aCons (eBin gIx (eVar 1) (eVar 2)) aNil))))) (b_l_same_E1 Frec) [2])
noncomputable def b_l_same (Frec : FF) : FS :=
  (sSeq (sIf (tOrF (tOfE (eIs "bool" (eVar 0))) (tOfE (eIs "bool" (eVar 1)))) (sRet (eAnd (eIs "bool" (eVar 0)) (eAnd (eIs "bool" (eVar 1)) (eBin gEq (eVar 0) (eVar 1))))) sSkip)
  (sSeq (sIf (tOfB (eBin gNe (eIs "list" (eVar 0)) (eIs "list" (eVar 1)))) (sRet (eC (.bool false))) sSkip)
  (sSeq (sIf (tAndF (tOfE (eIsA ["list", "tuple"] (eVar 0))) (tOfE (eIsA ["list", "tuple"] (eVar 1)))) (sSeq (sIf (tOfB (eBin gNe (eCall gLen (aCons (eVar 0) aNil)) (eCall gLen (aCons (eVar 1) aNil)))) (sRet (eC (.bool false))) sSkip)
  (sRet (eBin gEq (b_l_same_C1 Frec) (eLst aNil)))) sSkip)
  (sRet (eAnd (eBin gEq (eVar 0) (eVar 1)) (eBin gEq (eIs "int" (eVar 0)) (eIs "int" (eVar 1))))))))
noncomputable def F_l_same : Nat → FF
  | 0 => fun _ _ => .bad
  | n + 1 => runF 3 (b_l_same (F_l_same n))
noncomputable def b_l_signs_E1 : FE :=
  (eBin gAdd (eVar 4) (eTup (aCons (eVar 5) aNil)))
noncomputable def b_l_signs_C1 : FE :=
  (eLc (fiRange1 (aCons (eC (.int 3)) aNil)) (fgName 5) ftYes b_l_signs_E1 [5])
noncomputable def b_l_signs_L1 : FS :=
  (sSet 3 (eBin gAdd (eVar 3) b_l_signs_C1))
noncomputable def b_l_signs_L2 : FS :=
  (sSeq (sSet 3 (eLst aNil))
  (sSeq (sFor (fiSeq (eVar 1)) (fgName 4) b_l_signs_L1)
  (sSet 1 (eVar 3))))
noncomputable def b_l_signs : FS :=
  (sSeq (sSet 1 (eLst (aCons (eTup aNil) aNil)))
  (sSeq (sFor (fiRange1 (aCons (eVar 0) aNil)) (fgName 2) b_l_signs_L2)
  (sRet (eVar 1))))
noncomputable def F_l_signs : FF := runF 6 b_l_signs
noncomputable def b_l_manner_E1 : FE :=
  (eTup (aCons (eVar 7) (aCons (eVar 10) (aCons (eFun F_l_draw (aWel 0 (aCons (eVar 5) aNil))) aNil))))
noncomputable def b_l_manner_C1 : FE :=
  (eLc (fiSeq (eFun F_l_signs (aCons (eVar 1) aNil))) (fgName 10) ftYes b_l_manner_E1 [10])
noncomputable def b_l_manner_L1 : FS :=
  (sExt 6 b_l_manner_C1)
noncomputable def b_l_manner_E2 : FE :=
  (eBin gIx (eLst (aCons (eC .none) (aCons (eC (.int 0)) (aCons (eC (.int 1)) (aCons (eC (.int 2)) (aCons (eC .none) (aCons (eC (.int 2)) aNil))))))) (eFun F_l_draw (aWel 0 (aCons (eC (.int 6)) aNil))))
noncomputable def b_l_manner_C2 : FE :=
  (eLc (fiRange1 (aCons (eVar 1) aNil)) (fgName 9) ftYes b_l_manner_E2 [9])
noncomputable def b_l_manner_L2 : FS :=
  (sSeq (sSet 8 (eCall gTuple (aCons b_l_manner_C2 aNil)))
  (sApp 6 (eTup (aCons (eFun F_l_draw (aWel 0 (aCons (eVar 5) aNil))) (aCons (eVar 8) (aCons (eFun F_l_draw (aWel 0 (aCons (eVar 5) aNil))) aNil))))))
noncomputable def b_l_manner : FS :=
  (sSeq (sParO3 4 5 6 (eFun F_l_draw (aWel 0 (aCons (eC (.int 5)) aNil))) (eBin gAdd (eC (.int 1)) (eFun F_l_draw (aWel 0 (aCons (eVar 2) aNil)))) (eLst aNil))
  (sSeq (sIf (tOfB (eBin gEq (eVar 4) (eC (.int 0)))) (sRet (eC .none)) sSkip)
  (sSeq (sIf (tOfB (eBin gEq (eVar 4) (eC (.int 1)))) (sSeq (sSet 5 (eCall gMin2 (aCons (eVar 5) (aCons (eBin gDiv (eC (.int 30)) (eCall gLen (aCons (eFun F_l_signs (aCons (eVar 1) aNil)) aNil))) aNil))))
  (sSeq (sFor (fiRange1 (aCons (eVar 5) aNil)) (fgName 7) b_l_manner_L1)
  (sRel 6 (sRet (eTup (aCons (eVar 5) (aCons (eCall gTuple (aCons (eVar 6) aNil)) aNil))))))) sSkip)
  (sSeq (sFor (fiRange1 (aCons (eFun F_l_draw (aWel 0 (aCons (eBin gIx (eLst (aCons (eBin gAdd (eBin gMul (eC (.int 2)) (eVar 2)) (eC (.int 2))) (aCons (eC (.int 29)) aNil))) (eCall gInt (aCons (eBin gEq (eVar 4) (eC (.int 2))) aNil))) aNil))) aNil)) (fgName 3) b_l_manner_L2)
  (sSeq (sIf (tOfB (eBin gEq (eFun F_l_draw (aWel 0 (aCons (eC (.int 2)) aNil))) (eC (.int 0)))) (sApp 6 (eTup (aCons (eC (.int 0)) (aCons (eBin gRepT (eTup (aCons (eC .none) aNil)) (eVar 1)) (aCons (eFun F_l_draw (aWel 0 (aCons (eVar 5) aNil))) aNil))))) sSkip)
  (sRel 6 (sRet (eTup (aCons (eVar 5) (aCons (eCall gTuple (aCons (eVar 6) aNil)) aNil))))))))))
noncomputable def F_l_manner : FF := runF 11 b_l_manner
noncomputable def b_l_odd : FS :=
  (sSeq (sSet 2 (eLst (aCons (eC (.bool true)) (aCons (eC (.bool false)) (aCons (eC .none) (aCons (eNeg (eC (.int 1))) (aCons (eC (.int 0)) (aCons (eC (.int 1)) (aCons (eC (.int 2)) (aCons (eC (.int 3)) (aCons (eBin gSub (eVar 1) (eC (.int 1))) (aCons (eVar 1) (aCons (eBin gAdd (eVar 1) (eC (.int 1))) (aCons (eC (.str (Str.ofString "0"))) (aCons (eTup aNil) (aCons (eTup (aCons (eC .none) aNil)) (aCons (eTup (aCons (eC (.int 0)) (aCons (eC (.int 1)) aNil))) (aCons (eLst (aCons (eC (.int 0)) aNil)) (aCons eDct aNil)))))))))))))))))))
  (sRet (eBin gIx (eVar 2) (eFun F_l_draw (aWel 0 (aCons (eCall gLen (aCons (eVar 2) aNil)) aNil))))))
noncomputable def F_l_odd : FF := runF 3 b_l_odd
noncomputable def b_l_bent_tuple : FS :=
  (sSeq (sPar 3 4 (aCons (eFun F_l_draw (aWel 0 (aCons (eC (.int 5)) aNil))) (aCons (eFun F_l_draw (aWel 0 (aCons (eCall gMax2 (aCons (eC (.int 1)) (aCons (eCall gLen (aCons (eVar 1) aNil)) aNil))) aNil))) aNil)))
  (sSeq (sIf (tOfB (eBin gEq (eVar 3) (eC (.int 0)))) (sRet (eBin gAdd (eSlice (eVar 1) none (some (eVar 4))) (eSlice (eVar 1) (some (eBin gAdd (eVar 4) (eC (.int 1)))) none))) sSkip)
  (sSeq (sIf (tOfB (eBin gEq (eVar 3) (eC (.int 1)))) (sRet (eBin gAdd (eBin gAdd (eSlice (eVar 1) none (some (eVar 4))) (eSlice (eVar 1) (some (eVar 4)) (some (eBin gAdd (eVar 4) (eC (.int 1)))))) (eSlice (eVar 1) (some (eVar 4)) none))) sSkip)
  (sSeq (sIf (tOfB (eBin gEq (eVar 3) (eC (.int 2)))) (sRet (eCall gList (aCons (eVar 1) aNil))) sSkip)
  (sRet (eBin gAdd (eBin gAdd (eSlice (eVar 1) none (some (eVar 4))) (eTup (aCons (eFun F_l_odd (aWel 0 (aCons (eVar 2) aNil))) aNil))) (eSlice (eVar 1) (some (eBin gAdd (eVar 4) (eC (.int 1)))) none)))))))
noncomputable def F_l_bent_tuple : FF := runF 5 b_l_bent_tuple
noncomputable def b_l_bent : FS :=
  (sSeq (sSet 2 (eFun F_l_draw (aWel 0 (aCons (eC (.int 4)) aNil))))
  (sSeq (sSet 3 (eBin gIx (eVar 1) (eC (.int 1))))
  (sSeq (sIf (tOrF (tOfB (eBin gEq (eVar 2) (eC (.int 0)))) (tOfB (eBin gEq (eVar 3) (eTup aNil)))) (sRet (eFun F_l_bent_tuple (aWel 0 (aCons (eVar 1) (aCons (eBin gIx (eVar 1) (eC (.int 0))) aNil))))) sSkip)
  (sSeq (sIf (tOfB (eBin gEq (eVar 2) (eC (.int 1)))) (sRet (eTup (aCons (eBin gIx (eVar 1) (eC (.int 0))) (aCons (eFun F_l_bent_tuple (aWel 0 (aCons (eVar 3) (aCons (eBin gIx (eVar 1) (eC (.int 0))) aNil)))) aNil)))) sSkip)
  (sSeq (sSet 4 (eFun F_l_draw (aWel 0 (aCons (eCall gLen (aCons (eVar 3) aNil)) aNil))))
  (sSeq (sSet 5 (eBin gIx (eVar 3) (eVar 4)))
  (sSeq (sSet 6 (eFun F_l_bent_tuple (aWel 0 (aCons (eVar 5) (aCons (eBin gIx (eVar 1) (eC (.int 0))) aNil)))))
  (sSeq (sIf (tOfB (eBin gEq (eVar 2) (eC (.int 2)))) (sSet 6 (eTup (aCons (eBin gIx (eVar 5) (eC (.int 0))) (aCons (eFun F_l_bent_tuple (aWel 0 (aCons (eBin gIx (eVar 5) (eC (.int 1))) (aCons (eBin gIx (eVar 1) (eC (.int 0))) aNil)))) (aCons (eBin gIx (eVar 5) (eC (.int 2))) aNil))))) sSkip)
  (sRet (eTup (aCons (eBin gIx (eVar 1) (eC (.int 0))) (aCons (eBin gAdd (eBin gAdd (eSlice (eVar 3) none (some (eVar 4))) (eTup (aCons (eVar 6) aNil))) (eSlice (eVar 3) (some (eBin gAdd (eVar 4) (eC (.int 1)))) none)) aNil))))))))))))
noncomputable def F_l_bent : FF := runF 7 b_l_bent
noncomputable def b_l_is_number : FS :=
  (sRet (eAnd (eIs "int" (eVar 0)) (eAnd (eNot (eIs "bool" (eVar 0))) (eChain gLe gLe (eVar 1) (eVar 0) (eVar 2)))))
noncomputable def F_l_is_number : FF := runF 3 b_l_is_number
noncomputable def b_l_is_partial_E1 : FE :=
  (eVar 2)
noncomputable def b_l_is_partial_C1 : FE :=
  (eLc (fiSeq (eVar 1)) (fgName 2) (tAndF (tOfB (eNotN (eVar 2))) (tNotF (tOfE (eFun F_l_is_number (aCons (eVar 2) (aCons (eC (.int 0)) (aCons (eC (.int 2)) aNil))))))) b_l_is_partial_E1 [2])
noncomputable def b_l_is_partial : FS :=
  (sSeq (sIf (tOrF (tNotF (tOfE (eIs "tuple" (eVar 1)))) (tOfB (eBin gNe (eCall gLen (aCons (eVar 1) aNil)) (eVar 0)))) (sRet (eC (.bool false))) sSkip)
  (sRet (eBin (gNilE false) b_l_is_partial_C1 (eLst aNil))))
noncomputable def F_l_is_partial : FF := runF 3 b_l_is_partial
noncomputable def b_l_is_manner_L1 : FS :=
  (sSeq (sIf (tOrF (tNotF (tOfE (eIs "tuple" (eVar 2)))) (tOrF (tOfB (eBin gNe (eCall gLen (aCons (eVar 2) aNil)) (eC (.int 3)))) (tNotF (tOfE (eFun F_l_is_partial (aCons (eVar 0) (aCons (eBin gIx (eVar 2) (eC (.int 1))) aNil))))))) (sRet (eC (.bool false))) sSkip)
  (sIf (tOrF (tNotF (tOfE (eFun F_l_is_number (aCons (eBin gIx (eVar 2) (eC (.int 0))) (aCons (eC (.int 0)) (aCons (eBin gSub (eBin gIx (eVar 1) (eC (.int 0))) (eC (.int 1))) aNil)))))) (tNotF (tOfE (eFun F_l_is_number (aCons (eBin gIx (eVar 2) (eC (.int 2))) (aCons (eC (.int 0)) (aCons (eBin gSub (eBin gIx (eVar 1) (eC (.int 0))) (eC (.int 1))) aNil))))))) (sRet (eC (.bool false))) sSkip))
noncomputable def b_l_is_manner : FS :=
  (sSeq (sIf (tOrF (tNotF (tOfE (eIs "tuple" (eVar 1)))) (tOrF (tOfB (eBin gNe (eCall gLen (aCons (eVar 1) aNil)) (eC (.int 2)))) (tNotF (tOfE (eFun F_l_is_number (aCons (eBin gIx (eVar 1) (eC (.int 0))) (aCons (eC (.int 1)) (aCons (eBin gPow (eC (.int 10)) (eC (.int 30))) aNil)))))))) (sRet (eC (.bool false))) sSkip)
  (sSeq (sIf (tNotF (tOfE (eIs "tuple" (eBin gIx (eVar 1) (eC (.int 1)))))) (sRet (eC (.bool false))) sSkip)
  (sSeq (sFor (fiSeq (eBin gIx (eVar 1) (eC (.int 1)))) (fgName 2) b_l_is_manner_L1)
  (sRet (eC (.bool true))))))
noncomputable def F_l_is_manner : FF := runF 3 b_l_is_manner
noncomputable def b_l_asked_L1 : FS :=
  (sSeq (sPar 2 3 (aCons (eReprX (eVar 0)) (aCons (eFun F_l_is_manner (aCons (eVar 1) (aCons (eVar 0) aNil))) aNil)))
  (sIf (tOrF (tOfB (eBin gLt (eVar 1) (eC (.int 4)))) (tNotF (tOfE (eVar 3)))) (sSeq (sSet 4 (eLst (aCons (eFun F_is_behaviour (aCons (eVar 1) (aCons (eVar 0) aNil))) (aCons (eFunK [0, 1] F_is_behaviour (aCons (eVar 1) (aCons (eVar 0) aNil))) aNil))))
  (sIf (tOrF (tNotF (tOfE (eFun (F_l_same 8) (aCons (eVar 4) (aCons (eLst (aCons (eVar 3) (aCons (eVar 3) aNil))) aNil))))) (tOfB (eBin gNe (eReprX (eVar 0)) (eVar 2)))) (sRet (eC (.bool false))) sSkip)) sSkip))
noncomputable def b_l_asked : FS :=
  (sSeq (sFor (fiSeq (eTup (aCons (eC (.int 1)) (aCons (eC (.int 2)) (aCons (eC (.int 3)) (aCons (eC (.int 5)) aNil)))))) (fgName 1) b_l_asked_L1)
  (sRet (eC (.bool true))))
noncomputable def F_l_asked : FF := runF 5 b_l_asked
noncomputable def b_l_refused : FS :=
  (sSeq (sSet 2 (eC (.int 0)))
  (sSeq (sTryAs [1] 3 (sDrop (eFun F_is_behaviour (aCons (eVar 0) (aCons (eVar 1) aNil)))) (fun a0 c => (sSet 2 (eBin gAdd (eC (.int 1)) (eCall gInt (aCons (eAnd (eIsX a0 3 (mtX c 0)) (eIsX a0 3 true)) aNil))))))
  (sRet (eBin gEq (eVar 2) (eC (.int 2))))))
noncomputable def F_l_refused : FF := runF 4 b_l_refused
noncomputable def b_law_L1 : FS :=
  (sIf (tNotF (tOfE (eFun F_l_asked (aCons (eFun F_l_bent (aWel 3 (aCons (eVar 6) aNil))) aNil)))) (sRet (eC (.bool false))) sSkip)
noncomputable def b_law_L2 : FS :=
  (sIf (tNotF (tOfE (eFun F_l_refused (aCons (eVar 8) (aCons (eBin gIx (eLst (aCons (eVar 6) (aCons (eC .none) (aCons (eVar 5) aNil)))) (eFun F_l_draw (aWel 3 (aCons (eC (.int 3)) aNil)))) aNil))))) (sRet (eC (.bool false))) sSkip)
noncomputable def b_law_L3 : FS :=
  (sSeq (sSet 5 (eBin gAdd (eC (.int 1)) (eFun F_l_draw (aWel 3 (aCons (eC (.int 3)) aNil)))))
  (sSeq (sSet 6 (eFun F_l_manner (aWel 3 (aCons (eVar 5) (aCons (eC (.int 5)) aNil)))))
  (sSeq (sIf (tOrF (tNotF (tOfE (eFun (F_l_same 8) (aCons (eFun F_is_behaviour (aCons (eVar 5) (aCons (eVar 6) aNil))) (aCons (eNotN (eVar 6)) aNil))))) (tNotF (tOfE (eFun F_l_asked (aCons (eVar 6) aNil))))) (sRet (eC (.bool false))) sSkip)
  (sSeq (sIf (tOfB (eNotN (eVar 6))) (sFor (fiRange1 (aCons (eC (.int 5)) aNil)) (fgName 9) b_law_L1) sSkip)
  (sSeq (sSet 7 (eBin gAdd (eC (.int 4)) (eFun F_l_draw (aWel 3 (aCons (eBin gPow (eC (.int 10)) (eC (.int 29))) aNil)))))
  (sSeq (sIf (tNotF (tOfE (eFun (F_l_same 8) (aCons (eLst (aCons (eFun F_is_behaviour (aCons (eVar 7) (aCons (eC .none) aNil))) (aCons (eFun F_is_behaviour (aCons (eVar 7) (aCons (eVar 5) aNil))) aNil))) (aCons (eLst (aCons (eC (.bool false)) (aCons (eC (.bool false)) aNil))) aNil))))) (sRet (eC (.bool false))) sSkip)
  (sFor (fiSeq (eTup (aCons (eC (.int 0)) (aCons (eNeg (eC (.int 1))) (aCons (eC (.bool true)) (aCons (eC (.bool false)) (aCons (eC .none) (aCons (eC (.str (Str.ofString "1"))) (aCons (eTup (aCons (eC (.int 1)) aNil)) (aCons (eLst (aCons (eC (.int 1)) aNil)) (aCons (eBin gAdd (eNeg (eBin gPow (eC (.int 10)) (eC (.int 29)))) (eVar 5)) aNil))))))))))) (fgName 8) b_law_L2)))))))
noncomputable def b_law_L4 : FS :=
  (sSeq (sMkW true 3 (eFun F_l_well (aCons (eVar 0) (aCons (eVar 1) aNil))))
  (sFor (fiRange1 (aCons (eC (.int 6)) aNil)) (fgName 4) b_law_L3))
noncomputable def b_law_L5 : FS :=
  (sIf (tNotF (tOfE (eFun F_l_asked (aCons (eVar 2) aNil)))) (sRet (eC (.bool false))) sSkip)
noncomputable def b_law : FS :=
  (sSeq (sFor (fiRange1 (aCons (eCall gMax2 (aCons (eC (.int 1)) (aCons (eCall gMin2 (aCons (eC (.int 10)) (aCons (eCall gLen (aCons (eVar 0) aNil)) aNil))) aNil))) aNil)) (fgName 1) b_law_L4)
  (sSeq (sFor (fiSeq (eTup (aCons (eC .none) (aCons (eC (.int 0)) (aCons (eC (.str (Str.ofString "none"))) (aCons (eTup aNil) (aCons (eLst aNil) (aCons (eTup (aCons (eC (.int 1)) aNil)) (aCons (eTup (aCons (eC (.int 1)) (aCons (eTup aNil) aNil))) (aCons (eTup (aCons (eC (.int 0)) (aCons (eTup aNil) aNil))) (aCons (eTup (aCons (eC (.int 1)) (aCons (eLst aNil) aNil))) (aCons (eTup (aCons (eC (.int 2)) (aCons (eTup (aCons (eTup (aCons (eC (.int 0)) (aCons (eTup (aCons (eC (.int 1)) aNil)) (aCons (eC (.int 1)) aNil)))) aNil)) aNil))) (aCons (eTup (aCons (eC (.int 1)) (aCons (eTup (aCons (eTup (aCons (eC (.int 0)) (aCons (eTup (aCons (eC (.int 1)) aNil)) (aCons (eC (.int 1)) aNil)))) aNil)) aNil))) aNil))))))))))))) (fgName 2) b_law_L5)
  (sRet (eC (.bool true)))))
noncomputable def F_law : FF := runF 10 b_law
section
variable {mg : Str → Option Value} {base : Heap} {ca : Nat → Addr}
theorem ok_is_from (T : Txt mg ca) : Is KI.pr KI.wo mg base ca "is_from" ["value", "low"] 1 F_is_from := by
  obtain ⟨f, fd, F, m⟩ := T.d_is_from
  exact is_of F m (fn_ok (k := 0) (g := b_is_from) F sc_is_from rfl rfl (fun cdv A outer s H E hr => (by unfold b_is_from; exact (sb_one (ss_ret (se_and (se_isinst (T := "int") (by decide +kernel) rfl T.z_isinstance rfl T.z_int (by decide +kernel) (se_var (i := 0) rfl (by first | exact .inl rfl | exact .inr (.inl rfl) | exact .inr (.inr rfl)))) (se_and (sc_e (sc_geX (se_var (i := 0) rfl (by first | exact .inl rfl | exact .inr (.inl rfl) | exact .inr (.inr rfl))) (se_var (i := 1) rfl (by first | exact .inl rfl | exact .inr (.inl rfl) | exact .inr (.inr rfl))))) (se_and (sc_e (sc_isnX (se_var (i := 0) rfl (by first | exact .inl rfl | exact .inr (.inl rfl) | exact .inr (.inr rfl))) se_bl)) (se_one (sc_e (sc_isnX (se_var (i := 0) rfl (by first | exact .inl rfl | exact .inr (.inl rfl) | exact .inr (.inr rfl))) se_bl))))))))))) (F.binds fun _ _ _ _ _ _ us hl => match us, hl with | [_, _], _ => rfl)
theorem ok_check_signal_number (T : Txt mg ca) : Is KI.pr KI.wo mg base ca "check_signal_number" ["number"] 2 F_check_signal_number := by
  obtain ⟨f, fd, F, m⟩ := T.d_check_signal_number
  exact is_of F m (fn_ok (k := 1) (g := b_check_signal_number) F sc_check_signal_number rfl rfl (fun cdv A outer s H E hr => (by unfold b_check_signal_number; exact (sb_one (ss_if (st_not (st_of (se_call ((ok_is_from T).df (by first | exact Nat.le_of_ble_eq_true rfl | exact Nat.le_refl _)) rfl (sa_cons (se_var (i := 0) rfl (by first | exact .inl rfl | exact .inr (.inl rfl) | exact .inr (.inr rfl))) (sa_cons se_int sa_nil))))) (sb_one (ss_raise T.x_InvalidNumber rfl)) sb_nil))))) (F.binds fun _ _ _ _ _ _ us hl => match us, hl with | [_], _ => rfl)
theorem ok_are_edges (T : Txt mg ca) : Is KI.pr KI.wo mg base ca "are_edges" ["edges", "nodes", "number"] 1 F_are_edges := by
  obtain ⟨f, fd, F, m⟩ := T.d_are_edges
  exact is_of F m (fn_ok (k := 0) (g := b_are_edges) F sc_are_edges rfl rfl (fun cdv A outer s H E hr => (by unfold b_are_edges; exact (sb_cons (ss_for (by rintro _ rfl; exact passes_of rfl) (si_seq (se_var (i := 0) rfl (by first | exact .inl rfl | exact .inr (.inl rfl) | exact .inr (.inr rfl)))) (sg_name (i := 3) rfl (by first | exact .inl rfl | exact .inr rfl) (by first | exact .inl rfl | exact .inr rfl)) (sb_cons (ss_if (sw_pt (sw_or (st_not (st_of (se_isinst (T := "tuple") (by decide +kernel) rfl T.z_isinstance rfl T.z_tuple (by decide +kernel) (se_var (i := 3) rfl (by first | exact .inl rfl | exact .inr (.inl rfl) | exact .inr (.inr rfl)))))) (sw_or1 (sc_t (sc_ne (se_callB (fun X h => by rw [← Cd.hK _ X h]; exact call_len_seq) pure_len rfl T.z_len (by decide +kernel) (sa_cons (se_var (i := 3) rfl (by first | exact .inl rfl | exact .inr (.inl rfl) | exact .inr (.inr rfl))) sa_nil)) se_int))))) (sb_one (ss_ret se_bl)) sb_nil)
  (sb_cons (ss_asg (se_var (i := 3) rfl (by first | exact .inl rfl | exact .inr (.inl rfl) | exact .inr (.inr rfl))) (sg_tup (sgs_cons (sg_name (i := 5) rfl (by first | exact .inl rfl | exact .inr rfl) (by first | exact .inl rfl | exact .inr rfl)) (sgs_cons (sg_name (i := 6) rfl (by first | exact .inl rfl | exact .inr rfl) (by first | exact .inl rfl | exact .inr rfl)) (sgs_cons (sg_name (i := 7) rfl (by first | exact .inl rfl | exact .inr rfl) (by first | exact .inl rfl | exact .inr rfl)) sgs_nil)))))
  (sb_cons (ss_if (sw_pt (sw_or (st_not (st_of (se_isinst (T := "int") (by decide +kernel) rfl T.z_isinstance rfl T.z_int (by decide +kernel) (se_var (i := 5) rfl (by first | exact .inl rfl | exact .inr (.inl rfl) | exact .inr (.inr rfl)))))) (sw_or (st_not (sc_t (sc_leltX se_int (se_var (i := 5) rfl (by first | exact .inl rfl | exact .inr (.inl rfl) | exact .inr (.inr rfl))) (se_var (i := 1) rfl (by first | exact .inl rfl | exact .inr (.inl rfl) | exact .inr (.inr rfl)))))) (sw_or (sc_t (sc_isX (se_var (i := 5) rfl (by first | exact .inl rfl | exact .inr (.inl rfl) | exact .inr (.inr rfl))) se_bl)) (sw_or1 (sc_t (sc_isX (se_var (i := 5) rfl (by first | exact .inl rfl | exact .inr (.inl rfl) | exact .inr (.inr rfl))) se_bl))))))) (sb_one (ss_ret se_bl)) sb_nil)
  (sb_cons (ss_if (sw_pt (sw_or (st_not (st_of (se_isinst (T := "int") (by decide +kernel) rfl T.z_isinstance rfl T.z_int (by decide +kernel) (se_var (i := 7) rfl (by first | exact .inl rfl | exact .inr (.inl rfl) | exact .inr (.inr rfl)))))) (sw_or (st_not (sc_t (sc_leltX se_int (se_var (i := 7) rfl (by first | exact .inl rfl | exact .inr (.inl rfl) | exact .inr (.inr rfl))) (se_var (i := 1) rfl (by first | exact .inl rfl | exact .inr (.inl rfl) | exact .inr (.inr rfl)))))) (sw_or (sc_t (sc_isX (se_var (i := 7) rfl (by first | exact .inl rfl | exact .inr (.inl rfl) | exact .inr (.inr rfl))) se_bl)) (sw_or1 (sc_t (sc_isX (se_var (i := 7) rfl (by first | exact .inl rfl | exact .inr (.inl rfl) | exact .inr (.inr rfl))) se_bl))))))) (sb_one (ss_ret se_bl)) sb_nil)
  (sb_cons (ss_if (sw_pt (sw_or (st_not (st_of (se_isinst (T := "tuple") (by decide +kernel) rfl T.z_isinstance rfl T.z_tuple (by decide +kernel) (se_var (i := 6) rfl (by first | exact .inl rfl | exact .inr (.inl rfl) | exact .inr (.inr rfl)))))) (sw_or1 (sc_t (sc_ne (se_callB (fun X h => by rw [← Cd.hK _ X h]; exact call_len_seq) pure_len rfl T.z_len (by decide +kernel) (sa_cons (se_var (i := 6) rfl (by first | exact .inl rfl | exact .inr (.inl rfl) | exact .inr (.inr rfl))) sa_nil)) (se_var (i := 2) rfl (by first | exact .inl rfl | exact .inr (.inl rfl) | exact .inr (.inr rfl)))))))) (sb_one (ss_ret se_bl)) sb_nil)
  (sb_one (ss_forB (by rintro _ rfl; exact passes_of rfl) (si_seq (se_var (i := 6) rfl (by first | exact .inl rfl | exact .inr (.inl rfl) | exact .inr (.inr rfl)))) (sg_name (i := 4) rfl (by first | exact .inl rfl | exact .inr rfl) (by first | exact .inl rfl | exact .inr rfl)) (sbb_cons (ssb_if (sc_t (sc_isN (se_var (i := 4) rfl (by first | exact .inl rfl | exact .inr (.inl rfl) | exact .inr (.inr rfl))))) (sbb_one ssb_cont) sbb_nil)
  (sbb_one (ssb_of (ss_if (sw_pt (sw_or (st_not (st_of (se_isinst (T := "int") (by decide +kernel) rfl T.z_isinstance rfl T.z_int (by decide +kernel) (se_var (i := 4) rfl (by first | exact .inl rfl | exact .inr (.inl rfl) | exact .inr (.inr rfl)))))) (sw_or (st_not (sc_t (sc_leleX (se_const rfl T.c_NONE) (se_var (i := 4) rfl (by first | exact .inl rfl | exact .inr (.inl rfl) | exact .inr (.inr rfl))) (se_const rfl T.c_BAD)))) (sw_or (sc_t (sc_isX (se_var (i := 4) rfl (by first | exact .inl rfl | exact .inr (.inl rfl) | exact .inr (.inr rfl))) se_bl)) (sw_or1 (sc_t (sc_isX (se_var (i := 4) rfl (by first | exact .inl rfl | exact .inr (.inl rfl) | exact .inr (.inr rfl))) se_bl))))))) (sb_one (ss_ret se_bl)) sb_nil)))) sb_nil))))))))
  (sb_one (ss_ret se_bl)))))) (F.binds fun _ _ _ _ _ _ us hl => match us, hl with | [_, _, _], _ => rfl)
theorem ok_is_behaviour_of (T : Txt mg ca) : Is KI.pr KI.wo mg base ca "is_behaviour_of" ["value", "number"] 2 F_is_behaviour_of := by
  obtain ⟨f, fd, F, m⟩ := T.d_is_behaviour_of
  exact is_of F m (fn_ok (k := 1) (g := b_is_behaviour_of) F sc_is_behaviour_of rfl rfl (fun cdv A outer s H E hr => (by unfold b_is_behaviour_of; exact (sb_cons (ss_if (sw_pt (sw_or (st_not (st_of (se_isinst (T := "tuple") (by decide +kernel) rfl T.z_isinstance rfl T.z_tuple (by decide +kernel) (se_var (i := 0) rfl (by first | exact .inl rfl | exact .inr (.inl rfl) | exact .inr (.inr rfl)))))) (sw_or1 (sc_t (sc_ne (se_callB (fun X h => by rw [← Cd.hK _ X h]; exact call_len_seq) pure_len rfl T.z_len (by decide +kernel) (sa_cons (se_var (i := 0) rfl (by first | exact .inl rfl | exact .inr (.inl rfl) | exact .inr (.inr rfl))) sa_nil)) se_int))))) (sb_one (ss_ret se_bl)) sb_nil)
  (sb_cons (ss_asg (se_var (i := 0) rfl (by first | exact .inl rfl | exact .inr (.inl rfl) | exact .inr (.inr rfl))) (sg_tup (sgs_cons (sg_name (i := 2) rfl (by first | exact .inl rfl | exact .inr rfl) (by first | exact .inl rfl | exact .inr rfl)) (sgs_cons (sg_name (i := 3) rfl (by first | exact .inl rfl | exact .inr rfl) (by first | exact .inl rfl | exact .inr rfl)) sgs_nil))))
  (sb_one (ss_ret (se_and (se_call ((ok_is_from T).df (by first | exact Nat.le_of_ble_eq_true rfl | exact Nat.le_refl _)) rfl (sa_cons (se_var (i := 2) rfl (by first | exact .inl rfl | exact .inr (.inl rfl) | exact .inr (.inr rfl))) (sa_cons se_int sa_nil))) (se_and (se_isinst (T := "tuple") (by decide +kernel) rfl T.z_isinstance rfl T.z_tuple (by decide +kernel) (se_var (i := 3) rfl (by first | exact .inl rfl | exact .inr (.inl rfl) | exact .inr (.inr rfl)))) (se_one (se_call ((ok_are_edges T).df (by first | exact Nat.le_of_ble_eq_true rfl | exact Nat.le_refl _)) rfl (sa_cons (se_var (i := 3) rfl (by first | exact .inl rfl | exact .inr (.inl rfl) | exact .inr (.inr rfl))) (sa_cons (se_var (i := 2) rfl (by first | exact .inl rfl | exact .inr (.inl rfl) | exact .inr (.inr rfl))) (sa_cons (se_var (i := 1) rfl (by first | exact .inl rfl | exact .inr (.inl rfl) | exact .inr (.inr rfl))) sa_nil)))))))))))))) (F.binds fun _ _ _ _ _ _ us hl => match us, hl with | [_, _], _ => rfl)
theorem ok_is_behaviour (T : Txt mg ca) : Is KI.pr KI.wo mg base ca "is_behaviour" ["number", "value"] 3 F_is_behaviour := by
  obtain ⟨f, fd, F, m⟩ := T.d_is_behaviour
  exact is_of F m (fn_ok (k := 2) (g := b_is_behaviour) F sc_is_behaviour rfl rfl (fun cdv A outer s H E hr => (by unfold b_is_behaviour; exact (sb_cons (ss_expr (se_call ((ok_check_signal_number T).df (by first | exact Nat.le_of_ble_eq_true rfl | exact Nat.le_refl _)) rfl (sa_cons (se_var (i := 0) rfl (by first | exact .inl rfl | exact .inr (.inl rfl) | exact .inr (.inr rfl))) sa_nil)))
  (sb_one (ss_ret (se_call ((ok_is_behaviour_of T).df (by first | exact Nat.le_of_ble_eq_true rfl | exact Nat.le_refl _)) rfl (sa_cons (se_var (i := 1) rfl (by first | exact .inl rfl | exact .inr (.inl rfl) | exact .inr (.inr rfl))) (sa_cons (se_var (i := 0) rfl (by first | exact .inl rfl | exact .inr (.inl rfl) | exact .inr (.inr rfl))) sa_nil))))))))) (F.binds fun _ _ _ _ _ _ us hl => match us, hl with | [_, _], _ => rfl)
theorem kw_is_behaviour_0 (T : Txt mg ca) : IsK KI.pr KI.wo mg base ca "is_behaviour" ["number", "value"] ["number", "value"] [0, 1] 3 F_is_behaviour := by
  obtain ⟨f, fd, F, m⟩ := T.d_is_behaviour
  exact isk_of (ps := ["number", "value"]) F m (ok_is_behaviour T) (kwb_of F fun _ _ _ _ _ _ ws hl => match ws, hl with | [_, _], _ => rfl) (fun l hl => match l, hl with | [_, _], _ => rfl)
theorem ok_l_well (T : Txt mg ca) : Is KI.pr KI.wo mg base ca "_law_well" ["_law_script", "_law_at"] 1 F_l_well := by
  obtain ⟨f, fd, F, m⟩ := T.d_l_well
  exact is_of F m (fn_ok (k := 0) (g := b_l_well) F sc_l_well rfl rfl (fun cdv A outer s H E hr => (by unfold b_l_well; exact (sb_cons (ss_set (i := 2) rfl (by first | exact .inl rfl | exact .inr rfl) (by first | exact .inl rfl | exact .inr rfl) (se_if (sc_t (sc_lt (se_var (i := 1) rfl (by first | exact .inl rfl | exact .inr (.inl rfl) | exact .inr (.inr rfl))) (se_callB (fun X h => by rw [← Cd.hK _ X h]; exact call_len_seq) pure_len rfl T.z_len (by decide +kernel) (sa_cons (se_var (i := 0) rfl (by first | exact .inl rfl | exact .inr (.inl rfl) | exact .inr (.inr rfl))) sa_nil)))) (se_item (se_var (i := 0) rfl (by first | exact .inl rfl | exact .inr (.inl rfl) | exact .inr (.inr rfl))) (se_var (i := 1) rfl (by first | exact .inl rfl | exact .inr (.inl rfl) | exact .inr (.inr rfl))) (fun _ _ => rfl)) se_int))
  (sb_one (ss_ret (se_lst (sa_cons (se_callB (fun X h => call_max2 (by exact (Cd.calmC _ rfl X) h)) pure_max2 rfl T.z_max (by decide +kernel) (sa_cons se_int (sa_cons (se_sub (se_callB (fun _ _ => call_abs) pure_abs rfl T.z_abs (by decide +kernel) (sa_cons (se_var (i := 2) rfl (by first | exact .inl rfl | exact .inr (.inl rfl) | exact .inr (.inr rfl))) sa_nil)) (se_pow se_int se_int)) sa_nil))) (sa_cons (se_add (se_add (se_mul (se_mod (se_callTy (fun _ _ => call_int1) pure_int rfl T.z_int (by decide +kernel) (sa_cons (se_var (i := 2) rfl (by first | exact .inl rfl | exact .inr (.inl rfl) | exact .inr (.inr rfl))) sa_nil)) (se_add (se_pow se_int se_int) se_int)) se_int) (se_mul se_int (se_var (i := 1) rfl (by first | exact .inl rfl | exact .inr (.inl rfl) | exact .inr (.inr rfl))))) se_int) (sa_cons se_int sa_nil)))))))))) (F.binds fun _ _ _ _ _ _ us hl => match us, hl with | [_, _], _ => rfl)
theorem ok_l_draw (T : Txt mg ca) : Is KI.pr KI.wo mg base ca "_law_draw" ["_law_well_here", "_law_below"] 1 F_l_draw := by
  obtain ⟨f, fd, F, m⟩ := T.d_l_draw
  exact is_of F m (fn_ok (k := 0) (g := b_l_draw) F sc_l_draw rfl rfl (fun cdv A outer s H E hr => (by unfold b_l_draw; exact (sb_cons (ss_if (sc_t (sc_gt (se_well (i := 0) (k := 0) rfl (by first | exact .inl rfl | exact .inr (.inl rfl) | exact .inr (.inr rfl))) se_int)) (sb_cons (ss_set (i := 3) rfl (by first | exact .inl rfl | exact .inr rfl) (by first | exact .inl rfl | exact .inr rfl) (se_mod (se_callTy (fun _ _ => call_int1) pure_int rfl T.z_int (by decide +kernel) (sa_cons (se_well (i := 0) (k := 0) rfl (by first | exact .inl rfl | exact .inr (.inl rfl) | exact .inr (.inr rfl))) sa_nil)) (se_var (i := 1) rfl (by first | exact .inl rfl | exact .inr (.inl rfl) | exact .inr (.inr rfl)))))
  (sb_cons (ss_well (i := 0) (k := 0) rfl (by first | exact .inl rfl | exact .inr (.inl rfl) | exact .inr (.inr rfl)) (se_div (se_well (i := 0) (k := 0) rfl (by first | exact .inl rfl | exact .inr (.inl rfl) | exact .inr (.inr rfl))) (se_var (i := 1) rfl (by first | exact .inl rfl | exact .inr (.inl rfl) | exact .inr (.inr rfl)))))
  (sb_one (ss_ret (se_var (i := 3) rfl (by first | exact .inl rfl | exact .inr (.inl rfl) | exact .inr (.inr rfl))))))) sb_nil)
  (sb_cons (ss_well (i := 0) (k := 2) rfl (by first | exact .inl rfl | exact .inr (.inl rfl) | exact .inr (.inr rfl)) (se_add (se_well (i := 0) (k := 2) rfl (by first | exact .inl rfl | exact .inr (.inl rfl) | exact .inr (.inr rfl))) se_int))
  (sb_cons (ss_set (i := 2) rfl (by first | exact .inl rfl | exact .inr rfl) (by first | exact .inl rfl | exact .inr rfl) (se_mod (se_pow (se_callTy (fun _ _ => call_int1) pure_int rfl T.z_int (by decide +kernel) (sa_cons (se_add (se_well (i := 0) (k := 1) rfl (by first | exact .inl rfl | exact .inr (.inl rfl) | exact .inr (.inr rfl))) (se_mul se_int (se_well (i := 0) (k := 2) rfl (by first | exact .inl rfl | exact .inr (.inl rfl) | exact .inr (.inr rfl))))) sa_nil)) se_int) (se_add (se_pow se_int se_int) se_int)))
  (sb_cons (ss_set (i := 2) rfl (by first | exact .inl rfl | exact .inr rfl) (by first | exact .inl rfl | exact .inr rfl) (se_mod (se_pow (se_callTy (fun _ _ => call_int1) pure_int rfl T.z_int (by decide +kernel) (sa_cons (se_add (se_var (i := 2) rfl (by first | exact .inl rfl | exact .inr (.inl rfl) | exact .inr (.inr rfl))) (se_mul se_int (se_well (i := 0) (k := 2) rfl (by first | exact .inl rfl | exact .inr (.inl rfl) | exact .inr (.inr rfl))))) sa_nil)) se_int) (se_add (se_pow se_int se_int) se_int)))
  (sb_one (ss_ret (se_mod (se_callTy (fun _ _ => call_int1) pure_int rfl T.z_int (by decide +kernel) (sa_cons (se_div (se_var (i := 2) rfl (by first | exact .inl rfl | exact .inr (.inl rfl) | exact .inr (.inr rfl))) se_int) sa_nil)) (se_var (i := 1) rfl (by first | exact .inl rfl | exact .inr (.inl rfl) | exact .inr (.inr rfl))))))))))))) (F.binds fun _ _ _ _ _ _ us hl => match us, hl with | [_, _], _ => rfl)
theorem ok_l_same (T : Txt mg ca) : ∀ d : Nat, Is KI.pr KI.wo mg base ca "_law_same" ["_law_found", "_law_due"] (1 + d) (F_l_same d)
  | 0 => by
    obtain ⟨f, fd, F, m⟩ := T.d_l_same
    exact is_bad F m (F.binds fun _ _ _ _ _ _ us hl => match us, hl with | [_, _], _ => rfl)
  | d + 1 => by
    obtain ⟨f, fd, F, m⟩ := T.d_l_same
    have IH := ok_l_same T d
    exact is_of F m (fn_ok (k := 1 + d) (g := b_l_same (F_l_same d)) F sc_l_same rfl rfl (fun cdv A outer s H E hr => (by unfold b_l_same; exact (sb_cons (ss_if (sw_pt (sw_or (st_of (se_isinst (T := "bool") (by decide +kernel) rfl T.z_isinstance rfl T.z_bool (by decide +kernel) (se_var (i := 0) rfl (by first | exact .inl rfl | exact .inr (.inl rfl) | exact .inr (.inr rfl))))) (sw_or1 (st_of (se_isinst (T := "bool") (by decide +kernel) rfl T.z_isinstance rfl T.z_bool (by decide +kernel) (se_var (i := 1) rfl (by first | exact .inl rfl | exact .inr (.inl rfl) | exact .inr (.inr rfl)))))))) (sb_one (ss_ret (se_and (se_isinst (T := "bool") (by decide +kernel) rfl T.z_isinstance rfl T.z_bool (by decide +kernel) (se_var (i := 0) rfl (by first | exact .inl rfl | exact .inr (.inl rfl) | exact .inr (.inr rfl)))) (se_and (se_isinst (T := "bool") (by decide +kernel) rfl T.z_isinstance rfl T.z_bool (by decide +kernel) (se_var (i := 1) rfl (by first | exact .inl rfl | exact .inr (.inl rfl) | exact .inr (.inr rfl)))) (se_one (sc_e (sc_eq (se_var (i := 0) rfl (by first | exact .inl rfl | exact .inr (.inl rfl) | exact .inr (.inr rfl))) (se_var (i := 1) rfl (by first | exact .inl rfl | exact .inr (.inl rfl) | exact .inr (.inr rfl)))))))))) sb_nil)
  (sb_cons (ss_if (sc_t (sc_ne (se_isinst (T := "list") (by decide +kernel) rfl T.z_isinstance rfl T.z_list (by decide +kernel) (se_var (i := 0) rfl (by first | exact .inl rfl | exact .inr (.inl rfl) | exact .inr (.inr rfl)))) (se_isinst (T := "list") (by decide +kernel) rfl T.z_isinstance rfl T.z_list (by decide +kernel) (se_var (i := 1) rfl (by first | exact .inl rfl | exact .inr (.inl rfl) | exact .inr (.inr rfl)))))) (sb_one (ss_ret se_bl)) sb_nil)
  (sb_cons (ss_if (sw_pt (sw_and (st_of (se_isinstA (Ts := ["list", "tuple"]) (by decide +kernel) (line_ok (by decide)) rfl T.z_isinstance (.cons rfl T.z_list (by decide +kernel) (by decide) (by decide) (.cons rfl T.z_tuple (by decide +kernel) (by decide) (by decide) .nil)) (se_var (i := 0) rfl (by first | exact .inl rfl | exact .inr (.inl rfl) | exact .inr (.inr rfl))))) (sw_and1 (st_of (se_isinstA (Ts := ["list", "tuple"]) (by decide +kernel) (line_ok (by decide)) rfl T.z_isinstance (.cons rfl T.z_list (by decide +kernel) (by decide) (by decide) (.cons rfl T.z_tuple (by decide +kernel) (by decide) (by decide) .nil)) (se_var (i := 1) rfl (by first | exact .inl rfl | exact .inr (.inl rfl) | exact .inr (.inr rfl)))))))) (sb_cons (ss_if (sc_t (sc_ne (se_callB (fun X h => by rw [← Cd.hK _ X h]; exact call_len_seq) pure_len rfl T.z_len (by decide +kernel) (sa_cons (se_var (i := 0) rfl (by first | exact .inl rfl | exact .inr (.inl rfl) | exact .inr (.inr rfl))) sa_nil)) (se_callB (fun X h => by rw [← Cd.hK _ X h]; exact call_len_seq) pure_len rfl T.z_len (by decide +kernel) (sa_cons (se_var (i := 1) rfl (by first | exact .inl rfl | exact .inr (.inl rfl) | exact .inr (.inr rfl))) sa_nil)))) (sb_one (ss_ret se_bl)) sb_nil)
  (sb_one (ss_ret (sc_e (sc_eq (se_lc (own := [("_law_k", 2)]) (si_range1 rfl T.z_range (sa_cons (se_callB (fun X h => by rw [← Cd.hK _ X h]; exact call_len_seq) pure_len rfl T.z_len (by decide +kernel) (sa_cons (se_var (i := 1) rfl (by first | exact .inl rfl | exact .inr (.inl rfl) | exact .inr (.inr rfl))) sa_nil)) sa_nil)) rfl (sg_name (i := 2) rfl (by first | exact .inl rfl | exact .inr rfl) (by first | exact .inl rfl | exact .inr rfl)) (ts_one (st_not (st_of (se_call (IH.df (by first | exact Nat.le_of_ble_eq_true rfl | exact Nat.le_refl _)) rfl (sa_cons (se_item (se_var (i := 0) rfl (by first | exact .inl rfl | exact .inr (.inl rfl) | exact .inr (.inr rfl))) (se_var (i := 2) rfl (by first | exact .inl rfl | exact .inr (.inl rfl) | exact .inr (.inr rfl))) (fun _ _ => rfl)) (sa_cons (se_item (se_var (i := 1) rfl (by first | exact .inl rfl | exact .inr (.inl rfl) | exact .inr (.inr rfl))) (se_var (i := 2) rfl (by first | exact .inl rfl | exact .inr (.inl rfl) | exact .inr (.inr rfl))) (fun _ _ => rfl)) sa_nil)))))) (se_var (i := 2) rfl (by first | exact .inl rfl | exact .inr (.inl rfl) | exact .inr (.inr rfl))) (by decide)) (se_lst sa_nil)))))) sb_nil)
  (sb_one (ss_ret (se_and (sc_e (sc_eq (se_var (i := 0) rfl (by first | exact .inl rfl | exact .inr (.inl rfl) | exact .inr (.inr rfl))) (se_var (i := 1) rfl (by first | exact .inl rfl | exact .inr (.inl rfl) | exact .inr (.inr rfl))))) (se_one (sc_e (sc_eq (se_isinst (T := "int") (by decide +kernel) rfl T.z_isinstance rfl T.z_int (by decide +kernel) (se_var (i := 0) rfl (by first | exact .inl rfl | exact .inr (.inl rfl) | exact .inr (.inr rfl)))) (se_isinst (T := "int") (by decide +kernel) rfl T.z_isinstance rfl T.z_int (by decide +kernel) (se_var (i := 1) rfl (by first | exact .inl rfl | exact .inr (.inl rfl) | exact .inr (.inr rfl)))))))))))))))) (F.binds fun _ _ _ _ _ _ us hl => match us, hl with | [_, _], _ => rfl)
theorem ok_l_signs (T : Txt mg ca) : Is KI.pr KI.wo mg base ca "_law_signs" ["_law_count_here"] 1 F_l_signs := by
  obtain ⟨f, fd, F, m⟩ := T.d_l_signs
  exact is_of F m (fn_ok (k := 0) (g := b_l_signs) F sc_l_signs rfl rfl (fun cdv A outer s H E hr => (by unfold b_l_signs; exact (sb_cons (ss_set (i := 1) rfl (by first | exact .inl rfl | exact .inr rfl) (by first | exact .inl rfl | exact .inr rfl) (se_lst (sa_cons (se_tup sa_nil) sa_nil)))
  (sb_cons (ss_for (by rintro _ rfl; exact passes_of rfl) (si_range1 rfl T.z_range (sa_cons (se_var (i := 0) rfl (by first | exact .inl rfl | exact .inr (.inl rfl) | exact .inr (.inr rfl))) sa_nil)) (sg_name (i := 2) rfl (by first | exact .inl rfl | exact .inr rfl) (by first | exact .inl rfl | exact .inr rfl)) (sb_cons (ss_set (i := 3) rfl (by first | exact .inl rfl | exact .inr rfl) (by first | exact .inl rfl | exact .inr rfl) (se_lst sa_nil))
  (sb_cons (ss_for (by rintro _ rfl; exact passes_of rfl) (si_seq (se_var (i := 1) rfl (by first | exact .inl rfl | exact .inr (.inl rfl) | exact .inr (.inr rfl)))) (sg_name (i := 4) rfl (by first | exact .inl rfl | exact .inr rfl) (by first | exact .inl rfl | exact .inr rfl)) (sb_one (ss_set (i := 3) rfl (by first | exact .inl rfl | exact .inr rfl) (by first | exact .inl rfl | exact .inr rfl) (se_add (se_var (i := 3) rfl (by first | exact .inl rfl | exact .inr (.inl rfl) | exact .inr (.inr rfl))) (se_lc (own := [("_law_grade", 5)]) (si_range1 rfl T.z_range (sa_cons se_int sa_nil)) rfl (sg_name (i := 5) rfl (by first | exact .inl rfl | exact .inr rfl) (by first | exact .inl rfl | exact .inr rfl)) ts_yes (se_add (se_var (i := 4) rfl (by first | exact .inl rfl | exact .inr (.inl rfl) | exact .inr (.inr rfl))) (se_tup (sa_cons (se_var (i := 5) rfl (by first | exact .inl rfl | exact .inr (.inl rfl) | exact .inr (.inr rfl))) sa_nil))) (by decide))))))
  (sb_one (ss_set (i := 1) rfl (by first | exact .inl rfl | exact .inr rfl) (by first | exact .inl rfl | exact .inr rfl) (se_var (i := 3) rfl (by first | exact .inl rfl | exact .inr (.inl rfl) | exact .inr (.inr rfl))))))))
  (sb_one (ss_ret (se_var (i := 1) rfl (by first | exact .inl rfl | exact .inr (.inl rfl) | exact .inr (.inr rfl)))))))))) (F.binds fun _ _ _ _ _ _ us hl => match us, hl with | [_], _ => rfl)
theorem ok_l_manner (T : Txt mg ca) : Is KI.pr KI.wo mg base ca "_law_manner" ["_law_well_here", "_law_width", "_law_most"] 2 F_l_manner := by
  obtain ⟨f, fd, F, m⟩ := T.d_l_manner
  exact is_of F m (fn_ok (k := 1) (g := b_l_manner) F sc_l_manner rfl rfl (fun cdv A outer s H E hr => (by unfold b_l_manner; exact (sb_cons (ss_asgO3 (i := 4) (j := 5) (m := 6) rfl rfl rfl (by decide) (by decide) (by decide) (by first | exact .inl rfl | exact .inr rfl) (by first | exact .inl rfl | exact .inr rfl) (by first | exact .inl rfl | exact .inr rfl) (by first | exact .inl rfl | exact .inr rfl) (by first | exact .inl rfl | exact .inr rfl) (by first | exact .inl rfl | exact .inr rfl) (se_call ((ok_l_draw T).df (by first | exact Nat.le_of_ble_eq_true rfl | exact Nat.le_refl _)) rfl (sa_wel (i := 0) rfl (by first | exact .inl rfl | exact .inr (.inl rfl) | exact .inr (.inr rfl)) (sa_cons se_int sa_nil))) (se_add se_int (se_call ((ok_l_draw T).df (by first | exact Nat.le_of_ble_eq_true rfl | exact Nat.le_refl _)) rfl (sa_wel (i := 0) rfl (by first | exact .inl rfl | exact .inr (.inl rfl) | exact .inr (.inr rfl)) (sa_cons (se_var (i := 2) rfl (by first | exact .inl rfl | exact .inr (.inl rfl) | exact .inr (.inr rfl))) sa_nil)))) (se_lst sa_nil) (by rintro _ rfl; rfl))
  (sb_cons (ss_if (sc_t (sc_eq (se_var (i := 4) rfl (by first | exact .inl rfl | exact .inr (.inl rfl) | exact .inr (.inr rfl))) se_int)) (sb_one (ss_ret se_non)) sb_nil)
  (sb_cons (ss_if (sc_t (sc_eq (se_var (i := 4) rfl (by first | exact .inl rfl | exact .inr (.inl rfl) | exact .inr (.inr rfl))) se_int)) (sb_cons (ss_set (i := 5) rfl (by first | exact .inl rfl | exact .inr rfl) (by first | exact .inl rfl | exact .inr rfl) (se_callB (fun X h => call_min2 (by exact (Cd.calmC _ rfl X) h)) pure_min2 rfl T.z_min (by decide +kernel) (sa_cons (se_var (i := 5) rfl (by first | exact .inl rfl | exact .inr (.inl rfl) | exact .inr (.inr rfl))) (sa_cons (se_div se_int (se_callB (fun X h => by rw [← Cd.hK _ X h]; exact call_len_seq) pure_len rfl T.z_len (by decide +kernel) (sa_cons (se_call ((ok_l_signs T).df (by first | exact Nat.le_of_ble_eq_true rfl | exact Nat.le_refl _)) rfl (sa_cons (se_var (i := 1) rfl (by first | exact .inl rfl | exact .inr (.inl rfl) | exact .inr (.inr rfl))) sa_nil)) sa_nil))) sa_nil))))
  (sb_cons (ss_for (by rintro _ rfl; exact passes_of rfl) (si_range1 rfl T.z_range (sa_cons (se_var (i := 5) rfl (by first | exact .inl rfl | exact .inr (.inl rfl) | exact .inr (.inr rfl))) sa_nil)) (sg_name (i := 7) rfl (by first | exact .inl rfl | exact .inr rfl) (by first | exact .inl rfl | exact .inr rfl)) (sb_one (ss_extend (i := 6) rfl (by first | exact .inl rfl | exact .inr (.inl rfl) | exact .inr (.inr rfl)) (se_lc (own := [("_law_sign", 10)]) (si_seq (se_call ((ok_l_signs T).df (by first | exact Nat.le_of_ble_eq_true rfl | exact Nat.le_refl _)) rfl (sa_cons (se_var (i := 1) rfl (by first | exact .inl rfl | exact .inr (.inl rfl) | exact .inr (.inr rfl))) sa_nil))) rfl (sg_name (i := 10) rfl (by first | exact .inl rfl | exact .inr rfl) (by first | exact .inl rfl | exact .inr rfl)) ts_yes (se_tup (sa_cons (se_var (i := 7) rfl (by first | exact .inl rfl | exact .inr (.inl rfl) | exact .inr (.inr rfl))) (sa_cons (se_var (i := 10) rfl (by first | exact .inl rfl | exact .inr (.inl rfl) | exact .inr (.inr rfl))) (sa_cons (se_call ((ok_l_draw T).df (by first | exact Nat.le_of_ble_eq_true rfl | exact Nat.le_refl _)) rfl (sa_wel (i := 0) rfl (by first | exact .inl rfl | exact .inr (.inl rfl) | exact .inr (.inr rfl)) (sa_cons (se_var (i := 5) rfl (by first | exact .inl rfl | exact .inr (.inl rfl) | exact .inr (.inr rfl))) sa_nil))) sa_nil)))) (by decide)))))
  (sb_rel 6 (sb_one (ss_ret (se_tup (sa_cons (se_var (i := 5) rfl (by first | exact .inl rfl | exact .inr (.inl rfl) | exact .inr (.inr rfl))) (sa_cons (se_callTy (fun X h => by rw [← Cd.hK _ X h]; exact call_tuple_of) pure_tuple rfl T.z_tuple (by decide +kernel) (sa_cons (se_var (i := 6) rfl (by first | exact .inl rfl | exact .inr (.inl rfl) | exact .inr (.inr rfl))) sa_nil)) sa_nil)))))))) sb_nil)
  (sb_cons (ss_for (by rintro _ rfl; exact passes_of rfl) (si_range1 rfl T.z_range (sa_cons (se_call ((ok_l_draw T).df (by first | exact Nat.le_of_ble_eq_true rfl | exact Nat.le_refl _)) rfl (sa_wel (i := 0) rfl (by first | exact .inl rfl | exact .inr (.inl rfl) | exact .inr (.inr rfl)) (sa_cons (se_item (se_lst (sa_cons (se_add (se_mul se_int (se_var (i := 2) rfl (by first | exact .inl rfl | exact .inr (.inl rfl) | exact .inr (.inr rfl)))) se_int) (sa_cons se_int sa_nil))) (se_callTy (fun _ _ => call_int1) pure_int rfl T.z_int (by decide +kernel) (sa_cons (sc_e (sc_eq (se_var (i := 4) rfl (by first | exact .inl rfl | exact .inr (.inl rfl) | exact .inr (.inr rfl))) se_int)) sa_nil)) (fun _ _ => rfl)) sa_nil))) sa_nil)) (sg_name (i := 3) rfl (by first | exact .inl rfl | exact .inr rfl) (by first | exact .inl rfl | exact .inr rfl)) (sb_cons (ss_set (i := 8) rfl (by first | exact .inl rfl | exact .inr rfl) (by first | exact .inl rfl | exact .inr rfl) (se_callTy (fun X h => by rw [← Cd.hK _ X h]; exact call_tuple_of) pure_tuple rfl T.z_tuple (by decide +kernel) (sa_cons (se_lc (own := [("_law_j", 9)]) (si_range1 rfl T.z_range (sa_cons (se_var (i := 1) rfl (by first | exact .inl rfl | exact .inr (.inl rfl) | exact .inr (.inr rfl))) sa_nil)) rfl (sg_name (i := 9) rfl (by first | exact .inl rfl | exact .inr rfl) (by first | exact .inl rfl | exact .inr rfl)) ts_yes (se_item (se_lst (sa_cons se_non (sa_cons se_int (sa_cons se_int (sa_cons se_int (sa_cons se_non (sa_cons se_int sa_nil))))))) (se_call ((ok_l_draw T).df (by first | exact Nat.le_of_ble_eq_true rfl | exact Nat.le_refl _)) rfl (sa_wel (i := 0) rfl (by first | exact .inl rfl | exact .inr (.inl rfl) | exact .inr (.inr rfl)) (sa_cons se_int sa_nil))) (fun _ _ => rfl)) (by decide)) sa_nil)))
  (sb_one (ss_append (i := 6) rfl (by first | exact .inl rfl | exact .inr (.inl rfl) | exact .inr (.inr rfl)) (se_tup (sa_cons (se_call ((ok_l_draw T).df (by first | exact Nat.le_of_ble_eq_true rfl | exact Nat.le_refl _)) rfl (sa_wel (i := 0) rfl (by first | exact .inl rfl | exact .inr (.inl rfl) | exact .inr (.inr rfl)) (sa_cons (se_var (i := 5) rfl (by first | exact .inl rfl | exact .inr (.inl rfl) | exact .inr (.inr rfl))) sa_nil))) (sa_cons (se_var (i := 8) rfl (by first | exact .inl rfl | exact .inr (.inl rfl) | exact .inr (.inr rfl))) (sa_cons (se_call ((ok_l_draw T).df (by first | exact Nat.le_of_ble_eq_true rfl | exact Nat.le_refl _)) rfl (sa_wel (i := 0) rfl (by first | exact .inl rfl | exact .inr (.inl rfl) | exact .inr (.inr rfl)) (sa_cons (se_var (i := 5) rfl (by first | exact .inl rfl | exact .inr (.inl rfl) | exact .inr (.inr rfl))) sa_nil))) sa_nil))))))))
  (sb_cons (ss_if (sc_t (sc_eq (se_call ((ok_l_draw T).df (by first | exact Nat.le_of_ble_eq_true rfl | exact Nat.le_refl _)) rfl (sa_wel (i := 0) rfl (by first | exact .inl rfl | exact .inr (.inl rfl) | exact .inr (.inr rfl)) (sa_cons se_int sa_nil))) se_int)) (sb_one (ss_append (i := 6) rfl (by first | exact .inl rfl | exact .inr (.inl rfl) | exact .inr (.inr rfl)) (se_tup (sa_cons se_int (sa_cons (se_repT (se_tup (sa_cons se_non sa_nil)) (se_var (i := 1) rfl (by first | exact .inl rfl | exact .inr (.inl rfl) | exact .inr (.inr rfl)))) (sa_cons (se_call ((ok_l_draw T).df (by first | exact Nat.le_of_ble_eq_true rfl | exact Nat.le_refl _)) rfl (sa_wel (i := 0) rfl (by first | exact .inl rfl | exact .inr (.inl rfl) | exact .inr (.inr rfl)) (sa_cons (se_var (i := 5) rfl (by first | exact .inl rfl | exact .inr (.inl rfl) | exact .inr (.inr rfl))) sa_nil))) sa_nil)))))) sb_nil)
  (sb_rel 6 (sb_one (ss_ret (se_tup (sa_cons (se_var (i := 5) rfl (by first | exact .inl rfl | exact .inr (.inl rfl) | exact .inr (.inr rfl))) (sa_cons (se_callTy (fun X h => by rw [← Cd.hK _ X h]; exact call_tuple_of) pure_tuple rfl T.z_tuple (by decide +kernel) (sa_cons (se_var (i := 6) rfl (by first | exact .inl rfl | exact .inr (.inl rfl) | exact .inr (.inr rfl))) sa_nil)) sa_nil)))))))))))))) (F.binds fun _ _ _ _ _ _ us hl => match us, hl with | [_, _, _], _ => rfl)
theorem ok_l_odd (T : Txt mg ca) : Is KI.pr KI.wo mg base ca "_law_odd" ["_law_well_here", "_law_many"] 2 F_l_odd := by
  obtain ⟨f, fd, F, m⟩ := T.d_l_odd
  exact is_of F m (fn_ok (k := 1) (g := b_l_odd) F sc_l_odd rfl rfl (fun cdv A outer s H E hr => (by unfold b_l_odd; exact (sb_cons (ss_set (i := 2) rfl (by first | exact .inl rfl | exact .inr rfl) (by first | exact .inl rfl | exact .inr rfl) (se_lst (sa_cons se_bl (sa_cons se_bl (sa_cons se_non (sa_cons (se_neg se_int) (sa_cons se_int (sa_cons se_int (sa_cons se_int (sa_cons se_int (sa_cons (se_sub (se_var (i := 1) rfl (by first | exact .inl rfl | exact .inr (.inl rfl) | exact .inr (.inr rfl))) se_int) (sa_cons (se_var (i := 1) rfl (by first | exact .inl rfl | exact .inr (.inl rfl) | exact .inr (.inr rfl))) (sa_cons (se_add (se_var (i := 1) rfl (by first | exact .inl rfl | exact .inr (.inl rfl) | exact .inr (.inr rfl))) se_int) (sa_cons se_str (sa_cons (se_tup sa_nil) (sa_cons (se_tup (sa_cons se_non sa_nil)) (sa_cons (se_tup (sa_cons se_int (sa_cons se_int sa_nil))) (sa_cons (se_lst (sa_cons se_int sa_nil)) (sa_cons se_dct sa_nil)))))))))))))))))))
  (sb_one (ss_ret (se_item (se_var (i := 2) rfl (by first | exact .inl rfl | exact .inr (.inl rfl) | exact .inr (.inr rfl))) (se_call ((ok_l_draw T).df (by first | exact Nat.le_of_ble_eq_true rfl | exact Nat.le_refl _)) rfl (sa_wel (i := 0) rfl (by first | exact .inl rfl | exact .inr (.inl rfl) | exact .inr (.inr rfl)) (sa_cons (se_callB (fun X h => by rw [← Cd.hK _ X h]; exact call_len_seq) pure_len rfl T.z_len (by decide +kernel) (sa_cons (se_var (i := 2) rfl (by first | exact .inl rfl | exact .inr (.inl rfl) | exact .inr (.inr rfl))) sa_nil)) sa_nil))) (fun _ _ => rfl)))))))) (F.binds fun _ _ _ _ _ _ us hl => match us, hl with | [_, _], _ => rfl)
theorem ok_l_bent_tuple (T : Txt mg ca) : Is KI.pr KI.wo mg base ca "_law_bent_tuple" ["_law_well_here", "_law_row", "_law_many"] 3 F_l_bent_tuple := by
  obtain ⟨f, fd, F, m⟩ := T.d_l_bent_tuple
  exact is_of F m (fn_ok (k := 2) (g := b_l_bent_tuple) F sc_l_bent_tuple rfl rfl (fun cdv A outer s H E hr => (by unfold b_l_bent_tuple; exact (sb_cons (ss_par (i := 3) (j := 4) rfl rfl (by decide) rfl rfl (sa_cons (se_call ((ok_l_draw T).df (by first | exact Nat.le_of_ble_eq_true rfl | exact Nat.le_refl _)) rfl (sa_wel (i := 0) rfl (by first | exact .inl rfl | exact .inr (.inl rfl) | exact .inr (.inr rfl)) (sa_cons se_int sa_nil))) (sa_cons (se_call ((ok_l_draw T).df (by first | exact Nat.le_of_ble_eq_true rfl | exact Nat.le_refl _)) rfl (sa_wel (i := 0) rfl (by first | exact .inl rfl | exact .inr (.inl rfl) | exact .inr (.inr rfl)) (sa_cons (se_callB (fun X h => call_max2 (by exact (Cd.calmC _ rfl X) h)) pure_max2 rfl T.z_max (by decide +kernel) (sa_cons se_int (sa_cons (se_callB (fun X h => by rw [← Cd.hK _ X h]; exact call_len_seq) pure_len rfl T.z_len (by decide +kernel) (sa_cons (se_var (i := 1) rfl (by first | exact .inl rfl | exact .inr (.inl rfl) | exact .inr (.inr rfl))) sa_nil)) sa_nil))) sa_nil))) sa_nil)) (by rintro _ rfl; rfl))
  (sb_cons (ss_if (sc_t (sc_eq (se_var (i := 3) rfl (by first | exact .inl rfl | exact .inr (.inl rfl) | exact .inr (.inr rfl))) se_int)) (sb_one (ss_ret (se_add (se_slice (se_var (i := 1) rfl (by first | exact .inl rfl | exact .inr (.inl rfl) | exact .inr (.inr rfl))) so0 (so1 (se_var (i := 4) rfl (by first | exact .inl rfl | exact .inr (.inl rfl) | exact .inr (.inr rfl))))) (se_slice (se_var (i := 1) rfl (by first | exact .inl rfl | exact .inr (.inl rfl) | exact .inr (.inr rfl))) (so1 (se_add (se_var (i := 4) rfl (by first | exact .inl rfl | exact .inr (.inl rfl) | exact .inr (.inr rfl))) se_int)) so0)))) sb_nil)
  (sb_cons (ss_if (sc_t (sc_eq (se_var (i := 3) rfl (by first | exact .inl rfl | exact .inr (.inl rfl) | exact .inr (.inr rfl))) se_int)) (sb_one (ss_ret (se_add (se_add (se_slice (se_var (i := 1) rfl (by first | exact .inl rfl | exact .inr (.inl rfl) | exact .inr (.inr rfl))) so0 (so1 (se_var (i := 4) rfl (by first | exact .inl rfl | exact .inr (.inl rfl) | exact .inr (.inr rfl))))) (se_slice (se_var (i := 1) rfl (by first | exact .inl rfl | exact .inr (.inl rfl) | exact .inr (.inr rfl))) (so1 (se_var (i := 4) rfl (by first | exact .inl rfl | exact .inr (.inl rfl) | exact .inr (.inr rfl)))) (so1 (se_add (se_var (i := 4) rfl (by first | exact .inl rfl | exact .inr (.inl rfl) | exact .inr (.inr rfl))) se_int)))) (se_slice (se_var (i := 1) rfl (by first | exact .inl rfl | exact .inr (.inl rfl) | exact .inr (.inr rfl))) (so1 (se_var (i := 4) rfl (by first | exact .inl rfl | exact .inr (.inl rfl) | exact .inr (.inr rfl)))) so0)))) sb_nil)
  (sb_cons (ss_if (sc_t (sc_eq (se_var (i := 3) rfl (by first | exact .inl rfl | exact .inr (.inl rfl) | exact .inr (.inr rfl))) se_int)) (sb_one (ss_ret (se_callTy (fun X h => by rw [← Cd.hK _ X h]; exact call_list_of) pure_list rfl T.z_list (by decide +kernel) (sa_cons (se_var (i := 1) rfl (by first | exact .inl rfl | exact .inr (.inl rfl) | exact .inr (.inr rfl))) sa_nil)))) sb_nil)
  (sb_one (ss_ret (se_add (se_add (se_slice (se_var (i := 1) rfl (by first | exact .inl rfl | exact .inr (.inl rfl) | exact .inr (.inr rfl))) so0 (so1 (se_var (i := 4) rfl (by first | exact .inl rfl | exact .inr (.inl rfl) | exact .inr (.inr rfl))))) (se_tup (sa_cons (se_call ((ok_l_odd T).df (by first | exact Nat.le_of_ble_eq_true rfl | exact Nat.le_refl _)) rfl (sa_wel (i := 0) rfl (by first | exact .inl rfl | exact .inr (.inl rfl) | exact .inr (.inr rfl)) (sa_cons (se_var (i := 2) rfl (by first | exact .inl rfl | exact .inr (.inl rfl) | exact .inr (.inr rfl))) sa_nil))) sa_nil))) (se_slice (se_var (i := 1) rfl (by first | exact .inl rfl | exact .inr (.inl rfl) | exact .inr (.inr rfl))) (so1 (se_add (se_var (i := 4) rfl (by first | exact .inl rfl | exact .inr (.inl rfl) | exact .inr (.inr rfl))) se_int)) so0))))))))))) (F.binds fun _ _ _ _ _ _ us hl => match us, hl with | [_, _, _], _ => rfl)
theorem ok_l_bent (T : Txt mg ca) : Is KI.pr KI.wo mg base ca "_law_bent" ["_law_well_here", "_law_manner_here"] 4 F_l_bent := by
  obtain ⟨f, fd, F, m⟩ := T.d_l_bent
  exact is_of F m (fn_ok (k := 3) (g := b_l_bent) F sc_l_bent rfl rfl (fun cdv A outer s H E hr => (by unfold b_l_bent; exact (sb_cons (ss_set (i := 2) rfl (by first | exact .inl rfl | exact .inr rfl) (by first | exact .inl rfl | exact .inr rfl) (se_call ((ok_l_draw T).df (by first | exact Nat.le_of_ble_eq_true rfl | exact Nat.le_refl _)) rfl (sa_wel (i := 0) rfl (by first | exact .inl rfl | exact .inr (.inl rfl) | exact .inr (.inr rfl)) (sa_cons se_int sa_nil))))
  (sb_cons (ss_set (i := 3) rfl (by first | exact .inl rfl | exact .inr rfl) (by first | exact .inl rfl | exact .inr rfl) (se_item (se_var (i := 1) rfl (by first | exact .inl rfl | exact .inr (.inl rfl) | exact .inr (.inr rfl))) se_int (fun _ _ => rfl)))
  (sb_cons (ss_if (sw_pt (sw_or (sc_t (sc_eq (se_var (i := 2) rfl (by first | exact .inl rfl | exact .inr (.inl rfl) | exact .inr (.inr rfl))) se_int)) (sw_or1 (sc_t (sc_eq (se_var (i := 3) rfl (by first | exact .inl rfl | exact .inr (.inl rfl) | exact .inr (.inr rfl))) (se_tup sa_nil)))))) (sb_one (ss_ret (se_call ((ok_l_bent_tuple T).df (by first | exact Nat.le_of_ble_eq_true rfl | exact Nat.le_refl _)) rfl (sa_wel (i := 0) rfl (by first | exact .inl rfl | exact .inr (.inl rfl) | exact .inr (.inr rfl)) (sa_cons (se_var (i := 1) rfl (by first | exact .inl rfl | exact .inr (.inl rfl) | exact .inr (.inr rfl))) (sa_cons (se_item (se_var (i := 1) rfl (by first | exact .inl rfl | exact .inr (.inl rfl) | exact .inr (.inr rfl))) se_int (fun _ _ => rfl)) sa_nil)))))) sb_nil)
  (sb_cons (ss_if (sc_t (sc_eq (se_var (i := 2) rfl (by first | exact .inl rfl | exact .inr (.inl rfl) | exact .inr (.inr rfl))) se_int)) (sb_one (ss_ret (se_tup (sa_cons (se_item (se_var (i := 1) rfl (by first | exact .inl rfl | exact .inr (.inl rfl) | exact .inr (.inr rfl))) se_int (fun _ _ => rfl)) (sa_cons (se_call ((ok_l_bent_tuple T).df (by first | exact Nat.le_of_ble_eq_true rfl | exact Nat.le_refl _)) rfl (sa_wel (i := 0) rfl (by first | exact .inl rfl | exact .inr (.inl rfl) | exact .inr (.inr rfl)) (sa_cons (se_var (i := 3) rfl (by first | exact .inl rfl | exact .inr (.inl rfl) | exact .inr (.inr rfl))) (sa_cons (se_item (se_var (i := 1) rfl (by first | exact .inl rfl | exact .inr (.inl rfl) | exact .inr (.inr rfl))) se_int (fun _ _ => rfl)) sa_nil)))) sa_nil))))) sb_nil)
  (sb_cons (ss_set (i := 4) rfl (by first | exact .inl rfl | exact .inr rfl) (by first | exact .inl rfl | exact .inr rfl) (se_call ((ok_l_draw T).df (by first | exact Nat.le_of_ble_eq_true rfl | exact Nat.le_refl _)) rfl (sa_wel (i := 0) rfl (by first | exact .inl rfl | exact .inr (.inl rfl) | exact .inr (.inr rfl)) (sa_cons (se_callB (fun X h => by rw [← Cd.hK _ X h]; exact call_len_seq) pure_len rfl T.z_len (by decide +kernel) (sa_cons (se_var (i := 3) rfl (by first | exact .inl rfl | exact .inr (.inl rfl) | exact .inr (.inr rfl))) sa_nil)) sa_nil))))
  (sb_cons (ss_set (i := 5) rfl (by first | exact .inl rfl | exact .inr rfl) (by first | exact .inl rfl | exact .inr rfl) (se_item (se_var (i := 3) rfl (by first | exact .inl rfl | exact .inr (.inl rfl) | exact .inr (.inr rfl))) (se_var (i := 4) rfl (by first | exact .inl rfl | exact .inr (.inl rfl) | exact .inr (.inr rfl))) (fun _ _ => rfl)))
  (sb_cons (ss_set (i := 6) rfl (by first | exact .inl rfl | exact .inr rfl) (by first | exact .inl rfl | exact .inr rfl) (se_call ((ok_l_bent_tuple T).df (by first | exact Nat.le_of_ble_eq_true rfl | exact Nat.le_refl _)) rfl (sa_wel (i := 0) rfl (by first | exact .inl rfl | exact .inr (.inl rfl) | exact .inr (.inr rfl)) (sa_cons (se_var (i := 5) rfl (by first | exact .inl rfl | exact .inr (.inl rfl) | exact .inr (.inr rfl))) (sa_cons (se_item (se_var (i := 1) rfl (by first | exact .inl rfl | exact .inr (.inl rfl) | exact .inr (.inr rfl))) se_int (fun _ _ => rfl)) sa_nil)))))
  (sb_cons (ss_if (sc_t (sc_eq (se_var (i := 2) rfl (by first | exact .inl rfl | exact .inr (.inl rfl) | exact .inr (.inr rfl))) se_int)) (sb_one (ss_set (i := 6) rfl (by first | exact .inl rfl | exact .inr rfl) (by first | exact .inl rfl | exact .inr rfl) (se_tup (sa_cons (se_item (se_var (i := 5) rfl (by first | exact .inl rfl | exact .inr (.inl rfl) | exact .inr (.inr rfl))) se_int (fun _ _ => rfl)) (sa_cons (se_call ((ok_l_bent_tuple T).df (by first | exact Nat.le_of_ble_eq_true rfl | exact Nat.le_refl _)) rfl (sa_wel (i := 0) rfl (by first | exact .inl rfl | exact .inr (.inl rfl) | exact .inr (.inr rfl)) (sa_cons (se_item (se_var (i := 5) rfl (by first | exact .inl rfl | exact .inr (.inl rfl) | exact .inr (.inr rfl))) se_int (fun _ _ => rfl)) (sa_cons (se_item (se_var (i := 1) rfl (by first | exact .inl rfl | exact .inr (.inl rfl) | exact .inr (.inr rfl))) se_int (fun _ _ => rfl)) sa_nil)))) (sa_cons (se_item (se_var (i := 5) rfl (by first | exact .inl rfl | exact .inr (.inl rfl) | exact .inr (.inr rfl))) se_int (fun _ _ => rfl)) sa_nil)))))) sb_nil)
  (sb_one (ss_ret (se_tup (sa_cons (se_item (se_var (i := 1) rfl (by first | exact .inl rfl | exact .inr (.inl rfl) | exact .inr (.inr rfl))) se_int (fun _ _ => rfl)) (sa_cons (se_add (se_add (se_slice (se_var (i := 3) rfl (by first | exact .inl rfl | exact .inr (.inl rfl) | exact .inr (.inr rfl))) so0 (so1 (se_var (i := 4) rfl (by first | exact .inl rfl | exact .inr (.inl rfl) | exact .inr (.inr rfl))))) (se_tup (sa_cons (se_var (i := 6) rfl (by first | exact .inl rfl | exact .inr (.inl rfl) | exact .inr (.inr rfl))) sa_nil))) (se_slice (se_var (i := 3) rfl (by first | exact .inl rfl | exact .inr (.inl rfl) | exact .inr (.inr rfl))) (so1 (se_add (se_var (i := 4) rfl (by first | exact .inl rfl | exact .inr (.inl rfl) | exact .inr (.inr rfl))) se_int)) so0)) sa_nil)))))))))))))))) (F.binds fun _ _ _ _ _ _ us hl => match us, hl with | [_, _], _ => rfl)
theorem ok_l_is_number (T : Txt mg ca) : Is KI.pr KI.wo mg base ca "_law_is_number" ["_law_thing", "_law_least", "_law_most"] 1 F_l_is_number := by
  obtain ⟨f, fd, F, m⟩ := T.d_l_is_number
  exact is_of F m (fn_ok (k := 0) (g := b_l_is_number) F sc_l_is_number rfl rfl (fun cdv A outer s H E hr => (by unfold b_l_is_number; exact (sb_one (ss_ret (se_and (se_isinst (T := "int") (by decide +kernel) rfl T.z_isinstance rfl T.z_int (by decide +kernel) (se_var (i := 0) rfl (by first | exact .inl rfl | exact .inr (.inl rfl) | exact .inr (.inr rfl)))) (se_and (se_not (se_isinst (T := "bool") (by decide +kernel) rfl T.z_isinstance rfl T.z_bool (by decide +kernel) (se_var (i := 0) rfl (by first | exact .inl rfl | exact .inr (.inl rfl) | exact .inr (.inr rfl))))) (se_one (sc_e (sc_lele (se_var (i := 1) rfl (by first | exact .inl rfl | exact .inr (.inl rfl) | exact .inr (.inr rfl))) (se_var (i := 0) rfl (by first | exact .inl rfl | exact .inr (.inl rfl) | exact .inr (.inr rfl))) (se_var (i := 2) rfl (by first | exact .inl rfl | exact .inr (.inl rfl) | exact .inr (.inr rfl))))))))))))) (F.binds fun _ _ _ _ _ _ us hl => match us, hl with | [_, _, _], _ => rfl)
theorem ok_l_is_partial (T : Txt mg ca) : Is KI.pr KI.wo mg base ca "_law_is_partial" ["_law_width", "_law_thing"] 2 F_l_is_partial := by
  obtain ⟨f, fd, F, m⟩ := T.d_l_is_partial
  exact is_of F m (fn_ok (k := 1) (g := b_l_is_partial) F sc_l_is_partial rfl rfl (fun cdv A outer s H E hr => (by unfold b_l_is_partial; exact (sb_cons (ss_if (sw_pt (sw_or (st_not (st_of (se_isinst (T := "tuple") (by decide +kernel) rfl T.z_isinstance rfl T.z_tuple (by decide +kernel) (se_var (i := 1) rfl (by first | exact .inl rfl | exact .inr (.inl rfl) | exact .inr (.inr rfl)))))) (sw_or1 (sc_t (sc_ne (se_callB (fun X h => by rw [← Cd.hK _ X h]; exact call_len_seq) pure_len rfl T.z_len (by decide +kernel) (sa_cons (se_var (i := 1) rfl (by first | exact .inl rfl | exact .inr (.inl rfl) | exact .inr (.inr rfl))) sa_nil)) (se_var (i := 0) rfl (by first | exact .inl rfl | exact .inr (.inl rfl) | exact .inr (.inr rfl)))))))) (sb_one (ss_ret se_bl)) sb_nil)
  (sb_one (ss_ret (sc_e (sc_eqNil (se_lc (own := [("_law_grade", 2)]) (si_seq (se_var (i := 1) rfl (by first | exact .inl rfl | exact .inr (.inl rfl) | exact .inr (.inr rfl)))) rfl (sg_name (i := 2) rfl (by first | exact .inl rfl | exact .inr rfl) (by first | exact .inl rfl | exact .inr rfl)) (ts_one (sw_pt (sw_and (sc_t (sc_notN (se_var (i := 2) rfl (by first | exact .inl rfl | exact .inr (.inl rfl) | exact .inr (.inr rfl))))) (sw_and1 (st_not (st_of (se_call ((ok_l_is_number T).df (by first | exact Nat.le_of_ble_eq_true rfl | exact Nat.le_refl _)) rfl (sa_cons (se_var (i := 2) rfl (by first | exact .inl rfl | exact .inr (.inl rfl) | exact .inr (.inr rfl))) (sa_cons se_int (sa_cons se_int sa_nil)))))))))) (se_var (i := 2) rfl (by first | exact .inl rfl | exact .inr (.inl rfl) | exact .inr (.inr rfl))) (by decide)) (se_lst sa_nil))))))))) (F.binds fun _ _ _ _ _ _ us hl => match us, hl with | [_, _], _ => rfl)
theorem ok_l_is_manner (T : Txt mg ca) : Is KI.pr KI.wo mg base ca "_law_is_manner" ["_law_width", "_law_thing"] 3 F_l_is_manner := by
  obtain ⟨f, fd, F, m⟩ := T.d_l_is_manner
  exact is_of F m (fn_ok (k := 2) (g := b_l_is_manner) F sc_l_is_manner rfl rfl (fun cdv A outer s H E hr => (by unfold b_l_is_manner; exact (sb_cons (ss_if (sw_pt (sw_or (st_not (st_of (se_isinst (T := "tuple") (by decide +kernel) rfl T.z_isinstance rfl T.z_tuple (by decide +kernel) (se_var (i := 1) rfl (by first | exact .inl rfl | exact .inr (.inl rfl) | exact .inr (.inr rfl)))))) (sw_or (sc_t (sc_ne (se_callB (fun X h => by rw [← Cd.hK _ X h]; exact call_len_seq) pure_len rfl T.z_len (by decide +kernel) (sa_cons (se_var (i := 1) rfl (by first | exact .inl rfl | exact .inr (.inl rfl) | exact .inr (.inr rfl))) sa_nil)) se_int)) (sw_or1 (st_not (st_of (se_call ((ok_l_is_number T).df (by first | exact Nat.le_of_ble_eq_true rfl | exact Nat.le_refl _)) rfl (sa_cons (se_item (se_var (i := 1) rfl (by first | exact .inl rfl | exact .inr (.inl rfl) | exact .inr (.inr rfl))) se_int (fun _ _ => rfl)) (sa_cons se_int (sa_cons (se_pow se_int se_int) sa_nil)))))))))) (sb_one (ss_ret se_bl)) sb_nil)
  (sb_cons (ss_if (st_not (st_of (se_isinst (T := "tuple") (by decide +kernel) rfl T.z_isinstance rfl T.z_tuple (by decide +kernel) (se_item (se_var (i := 1) rfl (by first | exact .inl rfl | exact .inr (.inl rfl) | exact .inr (.inr rfl))) se_int (fun _ _ => rfl))))) (sb_one (ss_ret se_bl)) sb_nil)
  (sb_cons (ss_for (by rintro _ rfl; exact passes_of rfl) (si_seq (se_item (se_var (i := 1) rfl (by first | exact .inl rfl | exact .inr (.inl rfl) | exact .inr (.inr rfl))) se_int (fun _ _ => rfl))) (sg_name (i := 2) rfl (by first | exact .inl rfl | exact .inr rfl) (by first | exact .inl rfl | exact .inr rfl)) (sb_cons (ss_if (sw_pt (sw_or (st_not (st_of (se_isinst (T := "tuple") (by decide +kernel) rfl T.z_isinstance rfl T.z_tuple (by decide +kernel) (se_var (i := 2) rfl (by first | exact .inl rfl | exact .inr (.inl rfl) | exact .inr (.inr rfl)))))) (sw_or (sc_t (sc_ne (se_callB (fun X h => by rw [← Cd.hK _ X h]; exact call_len_seq) pure_len rfl T.z_len (by decide +kernel) (sa_cons (se_var (i := 2) rfl (by first | exact .inl rfl | exact .inr (.inl rfl) | exact .inr (.inr rfl))) sa_nil)) se_int)) (sw_or1 (st_not (st_of (se_call ((ok_l_is_partial T).df (by first | exact Nat.le_of_ble_eq_true rfl | exact Nat.le_refl _)) rfl (sa_cons (se_var (i := 0) rfl (by first | exact .inl rfl | exact .inr (.inl rfl) | exact .inr (.inr rfl))) (sa_cons (se_item (se_var (i := 2) rfl (by first | exact .inl rfl | exact .inr (.inl rfl) | exact .inr (.inr rfl))) se_int (fun _ _ => rfl)) sa_nil))))))))) (sb_one (ss_ret se_bl)) sb_nil)
  (sb_one (ss_if (sw_pt (sw_or (st_not (st_of (se_call ((ok_l_is_number T).df (by first | exact Nat.le_of_ble_eq_true rfl | exact Nat.le_refl _)) rfl (sa_cons (se_item (se_var (i := 2) rfl (by first | exact .inl rfl | exact .inr (.inl rfl) | exact .inr (.inr rfl))) se_int (fun _ _ => rfl)) (sa_cons se_int (sa_cons (se_sub (se_item (se_var (i := 1) rfl (by first | exact .inl rfl | exact .inr (.inl rfl) | exact .inr (.inr rfl))) se_int (fun _ _ => rfl)) se_int) sa_nil)))))) (sw_or1 (st_not (st_of (se_call ((ok_l_is_number T).df (by first | exact Nat.le_of_ble_eq_true rfl | exact Nat.le_refl _)) rfl (sa_cons (se_item (se_var (i := 2) rfl (by first | exact .inl rfl | exact .inr (.inl rfl) | exact .inr (.inr rfl))) se_int (fun _ _ => rfl)) (sa_cons se_int (sa_cons (se_sub (se_item (se_var (i := 1) rfl (by first | exact .inl rfl | exact .inr (.inl rfl) | exact .inr (.inr rfl))) se_int (fun _ _ => rfl)) se_int) sa_nil))))))))) (sb_one (ss_ret se_bl)) sb_nil))))
  (sb_one (ss_ret se_bl)))))))) (F.binds fun _ _ _ _ _ _ us hl => match us, hl with | [_, _], _ => rfl)
theorem ok_l_asked (T : Txt mg ca) : IsG KI.pr KI.wo mg base ca "_law_asked" ["_law_thing"] 10 F_l_asked := by
  obtain ⟨f, fd, F, m⟩ := T.d_l_asked
  exact isg_of F m (fn_okG (k := 9) (g := b_l_asked) F sc_l_asked rfl rfl (fun cdv A outer s H E hr hA => (by unfold b_l_asked; exact (sb_cons (ss_for (by rintro _ rfl; exact passes_of rfl) (si_seq (se_tup (sa_cons se_int (sa_cons se_int (sa_cons se_int (sa_cons se_int sa_nil)))))) (sg_name (i := 1) rfl (by first | exact .inl rfl | exact .inr rfl) (by first | exact .inl rfl | exact .inr rfl)) (sb_cons (ss_par (i := 2) (j := 3) rfl rfl (by decide) rfl rfl (sa_cons (se_reprX (by rintro _ rfl; exact hA) rfl T.z_repr (se_var (i := 0) rfl (by first | exact .inl rfl | exact .inr (.inl rfl) | exact .inr (.inr rfl)))) (sa_cons (se_call ((ok_l_is_manner T).df (by first | exact Nat.le_of_ble_eq_true rfl | exact Nat.le_refl _)) rfl (sa_cons (se_var (i := 1) rfl (by first | exact .inl rfl | exact .inr (.inl rfl) | exact .inr (.inr rfl))) (sa_cons (se_var (i := 0) rfl (by first | exact .inl rfl | exact .inr (.inl rfl) | exact .inr (.inr rfl))) sa_nil))) sa_nil)) (by rintro _ rfl; rfl))
  (sb_one (ss_if (sw_pt (sw_or (sc_t (sc_lt (se_var (i := 1) rfl (by first | exact .inl rfl | exact .inr (.inl rfl) | exact .inr (.inr rfl))) se_int)) (sw_or1 (st_not (st_of (se_var (i := 3) rfl (by first | exact .inl rfl | exact .inr (.inl rfl) | exact .inr (.inr rfl)))))))) (sb_cons (ss_set (i := 4) rfl (by first | exact .inl rfl | exact .inr rfl) (by first | exact .inl rfl | exact .inr rfl) (se_lst (sa_cons (se_call ((ok_is_behaviour T).df (by first | exact Nat.le_of_ble_eq_true rfl | exact Nat.le_refl _)) rfl (sa_cons (se_var (i := 1) rfl (by first | exact .inl rfl | exact .inr (.inl rfl) | exact .inr (.inr rfl))) (sa_cons (se_var (i := 0) rfl (by first | exact .inl rfl | exact .inr (.inl rfl) | exact .inr (.inr rfl))) sa_nil))) (sa_cons (se_callK ((kw_is_behaviour_0 T).dk (Nat.le_of_ble_eq_true rfl)) rfl (sk_cons (se_var (i := 1) rfl (by first | exact .inl rfl | exact .inr (.inl rfl) | exact .inr (.inr rfl))) (sk_cons (se_var (i := 0) rfl (by first | exact .inl rfl | exact .inr (.inl rfl) | exact .inr (.inr rfl))) sk_nil))) sa_nil))))
  (sb_one (ss_if (sw_pt (sw_or (st_not (st_of (se_call ((ok_l_same T 8).df (by first | exact Nat.le_of_ble_eq_true rfl | exact Nat.le_refl _)) rfl (sa_cons (se_var (i := 4) rfl (by first | exact .inl rfl | exact .inr (.inl rfl) | exact .inr (.inr rfl))) (sa_cons (se_lst (sa_cons (se_var (i := 3) rfl (by first | exact .inl rfl | exact .inr (.inl rfl) | exact .inr (.inr rfl))) (sa_cons (se_var (i := 3) rfl (by first | exact .inl rfl | exact .inr (.inl rfl) | exact .inr (.inr rfl))) sa_nil))) sa_nil))))) (sw_or1 (sc_t (sc_ne (se_reprX (by rintro _ rfl; exact hA) rfl T.z_repr (se_var (i := 0) rfl (by first | exact .inl rfl | exact .inr (.inl rfl) | exact .inr (.inr rfl)))) (se_var (i := 2) rfl (by first | exact .inl rfl | exact .inr (.inl rfl) | exact .inr (.inr rfl)))))))) (sb_one (ss_ret se_bl)) sb_nil))) sb_nil))))
  (sb_one (ss_ret se_bl)))))) (F.binds fun _ _ _ _ _ _ us hl => match us, hl with | [_], _ => rfl)
theorem ok_l_refused (T : Txt mg ca) : Is KI.pr KI.wo mg base ca "_law_refused" ["_law_count_here", "_law_thing"] 4 F_l_refused := by
  obtain ⟨f, fd, F, m⟩ := T.d_l_refused
  exact is_of F m (fn_ok (k := 3) (g := b_l_refused) F sc_l_refused rfl rfl (fun cdv A outer s H E hr => (by unfold b_l_refused; exact (sb_cons (ss_set (i := 2) rfl (by first | exact .inl rfl | exact .inr rfl) (by first | exact .inl rfl | exact .inr rfl) se_int)
  (sb_cons (ss_tryFi (ks := [1]) (k := 1) (i := 3) (mt_cons T.y_InvalidNumber_InvalidNumber mt_nil) (fun W => (sb_one (ss_expr (se_call ((ok_is_behaviour T).df (by first | exact Nat.le_of_ble_eq_true rfl | exact Nat.le_refl _)) rfl (sa_cons (se_var (i := 0) rfl (by first | exact .inl rfl | exact .inr (.inl rfl) | exact .inr (.inr rfl))) (sa_cons (se_var (i := 1) rfl (by first | exact .inl rfl | exact .inr (.inl rfl) | exact .inr (.inr rfl))) sa_nil)))))) (fun a0 c hc => (sb_one (ss_set (i := 2) rfl (by first | exact .inl rfl | exact .inr rfl) (by first | exact .inl rfl | exact .inr rfl) (se_add se_int (se_callTy (fun _ _ => call_int1) pure_int rfl T.z_int (by decide +kernel) (sa_cons (se_and (se_isX (k := 0) (b := mtX c 0) ((mt_cons (P := fun c => L2.ExcC fK (ca c)) T.q_InvalidNumber mt_nil) c hc) ((mt_cons (P := fun c => PySem.W.kitOne fK (.ref (ca c)) (.ref (ca 0)) = some (mtX c 0)) T.w_InvalidNumber_PlanError mt_nil) c hc) rfl T.z_isinstance rfl T.x_PlanError.g rfl (by first | exact .inl rfl | exact .inr (.inl rfl) | exact .inr (.inr rfl))) (se_one (se_isV ((mt_cons (P := fun c => L2.ExcC fK (ca c)) T.q_InvalidNumber mt_nil) c hc) ((mt_cons (P := fun c => PySem.W.kitOne fK (.ref (ca c)) (.type "ValueError") = some true) T.v_InvalidNumber mt_nil) c hc) rfl T.z_isinstance rfl T.z_ValueError rfl (by first | exact .inl rfl | exact .inr (.inl rfl) | exact .inr (.inr rfl))))) sa_nil)))))) rfl (by decide) T.x_InvalidNumber.g rfl)
  (sb_one (ss_ret (sc_e (sc_eq (se_var (i := 2) rfl (by first | exact .inl rfl | exact .inr (.inl rfl) | exact .inr (.inr rfl))) se_int))))))))) (F.binds fun _ _ _ _ _ _ us hl => match us, hl with | [_, _], _ => rfl)
theorem ok_law (T : Txt mg ca) {good : List Int → Prop} (hg : ∀ ns, good ns → ∃ W, F_law [.dt (.list (ns.map PyData.int))] none = .ok (.d (.bool true)) W) {f : Addr} {fd : FuncData} (F : Fun fK "law" "law" s_law f fd) (hbd : ∀ (s : Shared) (u : Value), BindsTo s fd ⟨[u], []⟩ [("_law_script", u)]) (a : Addr) (ns : List Int) (s : Shared) (H : Hp) (hn : good ns) (en : Env0 KI.pr KI.wo fK mg base callerA [] s H) (hs : SqL fK H a (ns.map V.int)) :
    codeAny (model KI.pr KI.wo) callerA (.call (.ref f) ⟨[.ref a], []⟩) (CR (L2.CX KI.pr KI.wo) [] KI.pr KI.wo H s (fun v _ => v = .bl true) fun _ _ _ => False) s :=
  law_at (k := 10) (g := b_law) (n := 10) F sc_law rfl rfl ⟨rfl, by decide, by decide⟩ en (hbd s _) (fun cdv hr => (by unfold b_law; exact (sb_cons (ss_for (by rintro _ rfl; exact passes_of rfl) (si_range1 rfl T.z_range (sa_cons (se_callB (fun X h => call_max2 (by exact (Cd.calmC _ rfl X) h)) pure_max2 rfl T.z_max (by decide +kernel) (sa_cons se_int (sa_cons (se_callB (fun X h => call_min2 (by exact (Cd.calmC _ rfl X) h)) pure_min2 rfl T.z_min (by decide +kernel) (sa_cons se_int (sa_cons (se_callB (fun X h => by rw [← Cd.hK _ X h]; exact call_len_seq) pure_len rfl T.z_len (by decide +kernel) (sa_cons (se_var (i := 0) rfl (by first | exact .inl rfl | exact .inr (.inl rfl) | exact .inr (.inr rfl))) sa_nil)) sa_nil))) sa_nil))) sa_nil)) (sg_name (i := 1) rfl (by first | exact .inl rfl | exact .inr rfl) (by first | exact .inl rfl | exact .inr rfl)) (sb_cons (ss_mkW (i := 3) rfl (by first | exact .inl rfl | exact .inr rfl) (by first | exact .inl rfl | exact .inr rfl) (se_call ((ok_l_well T).df (by first | exact Nat.le_of_ble_eq_true rfl | exact Nat.le_refl _)) rfl (sa_cons (se_var (i := 0) rfl (by first | exact .inl rfl | exact .inr (.inl rfl) | exact .inr (.inr rfl))) (sa_cons (se_var (i := 1) rfl (by first | exact .inl rfl | exact .inr (.inl rfl) | exact .inr (.inr rfl))) sa_nil))))
  (sb_one (ss_for (by rintro _ rfl; exact passes_of rfl) (si_range1 rfl T.z_range (sa_cons se_int sa_nil)) (sg_name (i := 4) rfl (by first | exact .inl rfl | exact .inr rfl) (by first | exact .inl rfl | exact .inr rfl)) (sb_cons (ss_set (i := 5) rfl (by first | exact .inl rfl | exact .inr rfl) (by first | exact .inl rfl | exact .inr rfl) (se_add se_int (se_call ((ok_l_draw T).df (by first | exact Nat.le_of_ble_eq_true rfl | exact Nat.le_refl _)) rfl (sa_wel (i := 3) rfl (by first | exact .inl rfl | exact .inr (.inl rfl) | exact .inr (.inr rfl)) (sa_cons se_int sa_nil)))))
  (sb_cons (ss_set (i := 6) rfl (by first | exact .inl rfl | exact .inr rfl) (by first | exact .inl rfl | exact .inr rfl) (se_call ((ok_l_manner T).df (by first | exact Nat.le_of_ble_eq_true rfl | exact Nat.le_refl _)) rfl (sa_wel (i := 3) rfl (by first | exact .inl rfl | exact .inr (.inl rfl) | exact .inr (.inr rfl)) (sa_cons (se_var (i := 5) rfl (by first | exact .inl rfl | exact .inr (.inl rfl) | exact .inr (.inr rfl))) (sa_cons se_int sa_nil)))))
  (sb_cons (ss_if (sw_pt (sw_or (st_not (st_of (se_call ((ok_l_same T 8).df (by first | exact Nat.le_of_ble_eq_true rfl | exact Nat.le_refl _)) rfl (sa_cons (se_call ((ok_is_behaviour T).df (by first | exact Nat.le_of_ble_eq_true rfl | exact Nat.le_refl _)) rfl (sa_cons (se_var (i := 5) rfl (by first | exact .inl rfl | exact .inr (.inl rfl) | exact .inr (.inr rfl))) (sa_cons (se_var (i := 6) rfl (by first | exact .inl rfl | exact .inr (.inl rfl) | exact .inr (.inr rfl))) sa_nil))) (sa_cons (sc_e (sc_notN (se_var (i := 6) rfl (by first | exact .inl rfl | exact .inr (.inl rfl) | exact .inr (.inr rfl))))) sa_nil))))) (sw_or1 (st_not (st_of (se_callG (by rintro _ rfl; rfl) ((ok_l_asked T).df (by first | exact Nat.le_of_ble_eq_true rfl | exact Nat.le_refl _)) rfl (sa_cons (se_var (i := 6) rfl (by first | exact .inl rfl | exact .inr (.inl rfl) | exact .inr (.inr rfl))) sa_nil))))))) (sb_one (ss_ret se_bl)) sb_nil)
  (sb_cons (ss_if (sc_t (sc_notN (se_var (i := 6) rfl (by first | exact .inl rfl | exact .inr (.inl rfl) | exact .inr (.inr rfl))))) (sb_one (ss_for (by rintro _ rfl; exact passes_of rfl) (si_range1 rfl T.z_range (sa_cons se_int sa_nil)) (sg_name (i := 9) rfl (by first | exact .inl rfl | exact .inr rfl) (by first | exact .inl rfl | exact .inr rfl)) (sb_one (ss_if (st_not (st_of (se_callG (by rintro _ rfl; rfl) ((ok_l_asked T).df (by first | exact Nat.le_of_ble_eq_true rfl | exact Nat.le_refl _)) rfl (sa_cons (se_call ((ok_l_bent T).df (by first | exact Nat.le_of_ble_eq_true rfl | exact Nat.le_refl _)) rfl (sa_wel (i := 3) rfl (by first | exact .inl rfl | exact .inr (.inl rfl) | exact .inr (.inr rfl)) (sa_cons (se_var (i := 6) rfl (by first | exact .inl rfl | exact .inr (.inl rfl) | exact .inr (.inr rfl))) sa_nil))) sa_nil)))) (sb_one (ss_ret se_bl)) sb_nil)))) sb_nil)
  (sb_cons (ss_set (i := 7) rfl (by first | exact .inl rfl | exact .inr rfl) (by first | exact .inl rfl | exact .inr rfl) (se_add se_int (se_call ((ok_l_draw T).df (by first | exact Nat.le_of_ble_eq_true rfl | exact Nat.le_refl _)) rfl (sa_wel (i := 3) rfl (by first | exact .inl rfl | exact .inr (.inl rfl) | exact .inr (.inr rfl)) (sa_cons (se_pow se_int se_int) sa_nil)))))
  (sb_cons (ss_if (st_not (st_of (se_call ((ok_l_same T 8).df (by first | exact Nat.le_of_ble_eq_true rfl | exact Nat.le_refl _)) rfl (sa_cons (se_lst (sa_cons (se_call ((ok_is_behaviour T).df (by first | exact Nat.le_of_ble_eq_true rfl | exact Nat.le_refl _)) rfl (sa_cons (se_var (i := 7) rfl (by first | exact .inl rfl | exact .inr (.inl rfl) | exact .inr (.inr rfl))) (sa_cons se_non sa_nil))) (sa_cons (se_call ((ok_is_behaviour T).df (by first | exact Nat.le_of_ble_eq_true rfl | exact Nat.le_refl _)) rfl (sa_cons (se_var (i := 7) rfl (by first | exact .inl rfl | exact .inr (.inl rfl) | exact .inr (.inr rfl))) (sa_cons (se_var (i := 5) rfl (by first | exact .inl rfl | exact .inr (.inl rfl) | exact .inr (.inr rfl))) sa_nil))) sa_nil))) (sa_cons (se_lst (sa_cons se_bl (sa_cons se_bl sa_nil))) sa_nil))))) (sb_one (ss_ret se_bl)) sb_nil)
  (sb_one (ss_for (by rintro _ rfl; exact passes_of rfl) (si_seq (se_tup (sa_cons se_int (sa_cons (se_neg se_int) (sa_cons se_bl (sa_cons se_bl (sa_cons se_non (sa_cons se_str (sa_cons (se_tup (sa_cons se_int sa_nil)) (sa_cons (se_lst (sa_cons se_int sa_nil)) (sa_cons (se_add (se_neg (se_pow se_int se_int)) (se_var (i := 5) rfl (by first | exact .inl rfl | exact .inr (.inl rfl) | exact .inr (.inr rfl)))) sa_nil))))))))))) (sg_name (i := 8) rfl (by first | exact .inl rfl | exact .inr rfl) (by first | exact .inl rfl | exact .inr rfl)) (sb_one (ss_if (st_not (st_of (se_call ((ok_l_refused T).df (by first | exact Nat.le_of_ble_eq_true rfl | exact Nat.le_refl _)) rfl (sa_cons (se_var (i := 8) rfl (by first | exact .inl rfl | exact .inr (.inl rfl) | exact .inr (.inr rfl))) (sa_cons (se_item (se_lst (sa_cons (se_var (i := 6) rfl (by first | exact .inl rfl | exact .inr (.inl rfl) | exact .inr (.inr rfl))) (sa_cons se_non (sa_cons (se_var (i := 5) rfl (by first | exact .inl rfl | exact .inr (.inl rfl) | exact .inr (.inr rfl))) sa_nil)))) (se_call ((ok_l_draw T).df (by first | exact Nat.le_of_ble_eq_true rfl | exact Nat.le_refl _)) rfl (sa_wel (i := 3) rfl (by first | exact .inl rfl | exact .inr (.inl rfl) | exact .inr (.inr rfl)) (sa_cons se_int sa_nil))) (fun _ _ => rfl)) sa_nil))))) (sb_one (ss_ret se_bl)) sb_nil))))))))))))))
  (sb_cons (ss_for (by rintro _ rfl; exact passes_of rfl) (si_seq (se_tup (sa_cons se_non (sa_cons se_int (sa_cons se_str (sa_cons (se_tup sa_nil) (sa_cons (se_lst sa_nil) (sa_cons (se_tup (sa_cons se_int sa_nil)) (sa_cons (se_tup (sa_cons se_int (sa_cons (se_tup sa_nil) sa_nil))) (sa_cons (se_tup (sa_cons se_int (sa_cons (se_tup sa_nil) sa_nil))) (sa_cons (se_tup (sa_cons se_int (sa_cons (se_lst sa_nil) sa_nil))) (sa_cons (se_tup (sa_cons se_int (sa_cons (se_tup (sa_cons (se_tup (sa_cons se_int (sa_cons (se_tup (sa_cons se_int sa_nil)) (sa_cons se_int sa_nil)))) sa_nil)) sa_nil))) (sa_cons (se_tup (sa_cons se_int (sa_cons (se_tup (sa_cons (se_tup (sa_cons se_int (sa_cons (se_tup (sa_cons se_int sa_nil)) (sa_cons se_int sa_nil)))) sa_nil)) sa_nil))) sa_nil))))))))))))) (sg_name (i := 2) rfl (by first | exact .inl rfl | exact .inr rfl) (by first | exact .inl rfl | exact .inr rfl)) (sb_one (ss_if (st_not (st_of (se_callG (by rintro _ rfl; rfl) ((ok_l_asked T).df (by first | exact Nat.le_of_ble_eq_true rfl | exact Nat.le_refl _)) rfl (sa_cons (se_var (i := 2) rfl (by first | exact .inl rfl | exact .inr (.inl rfl) | exact .inr (.inr rfl))) sa_nil)))) (sb_one (ss_ret se_bl)) sb_nil)))
  (sb_one (ss_ret se_bl)))))) hs (hg ns hn) (fun _ => rfl)
end
end Cl

set_option Elab.async false
set_option linter.all false
set_option maxRecDepth 100000
set_option maxHeartbeats 8000000
set_option autoImplicit false
namespace Cl
open PySem PySem.Spec PyProof.Rows L2 Lw
variable [KI : FragI]
/-! ### words -/
@[simp] theorem v_eqS {a b : Str} (h1 : PyData.strOk a = true) (h2 : PyData.strOk b = true) : gEq (.str a) (.str b) = some (.d (.bool (decide (a = b)))) := by
  unfold gEq
  rw [if_pos ⟨by simp [SeqAt.shaped, PyData.canLay0, PyData.depth, h1], by simp [SeqAt.shaped, PyData.canLay0, PyData.depth, h2]⟩]
  simp only [PyData.eqv]
  by_cases h : a = b
  · subst h; simp
  · simp [h]
@[simp] theorem v_neS {a b : Str} (h1 : PyData.strOk a = true) (h2 : PyData.strOk b = true) : gNe (.str a) (.str b) = some (.d (.bool (!decide (a = b)))) := by
  unfold gNe
  rw [if_pos ⟨by simp [SeqAt.shaped, PyData.canLay0, PyData.depth, h1], by simp [SeqAt.shaped, PyData.canLay0, PyData.depth, h2]⟩]
  simp only [PyData.eqv]
  by_cases h : a = b
  · subst h; simp
  · simp [h]
def wOp : Str := Str.ofString "open"
def wDn : Str := Str.ofString "done"
def wSt : Str := Str.ofString "stopped"
def aSt : Str := Str.ofString "stop"
def aBk : Str := Str.ofString "back"
def aDr : Str := Str.ofString "drop"
theorem wOp_ : Str.ofString "open" = wOp := rfl
theorem wDn_ : Str.ofString "done" = wDn := rfl
theorem wSt_ : Str.ofString "stopped" = wSt := rfl
theorem aSt_ : Str.ofString "stop" = aSt := rfl
theorem aBk_ : Str.ofString "back" = aBk := rfl
theorem aDr_ : Str.ofString "drop" = aDr := rfl
@[simp] theorem ok_wOp : PyData.strOk wOp = true := by decide +kernel
@[simp] theorem ok_wDn : PyData.strOk wDn = true := by decide +kernel
@[simp] theorem ok_wSt : PyData.strOk wSt = true := by decide +kernel
@[simp] theorem ok_aSt : PyData.strOk aSt = true := by decide +kernel
@[simp] theorem ok_aBk : PyData.strOk aBk = true := by decide +kernel
@[simp] theorem ok_aDr : PyData.strOk aDr = true := by decide +kernel
@[simp] theorem ne1 : (wDn = wOp) = False := eq_false (by decide +kernel)
@[simp] theorem ne2 : (wSt = wOp) = False := eq_false (by decide +kernel)
@[simp] theorem ne3 : (wOp = wDn) = False := eq_false (by decide +kernel)
@[simp] theorem ne4 : (wSt = wDn) = False := eq_false (by decide +kernel)
@[simp] theorem ne5 : (wOp = wSt) = False := eq_false (by decide +kernel)
@[simp] theorem ne6 : (wDn = wSt) = False := eq_false (by decide +kernel)
@[simp] theorem ne7 : (aBk = aSt) = False := eq_false (by decide +kernel)
@[simp] theorem ne8 : (aDr = aSt) = False := eq_false (by decide +kernel)
@[simp] theorem ne9 : (aSt = aBk) = False := eq_false (by decide +kernel)
@[simp] theorem ne10 : (aDr = aBk) = False := eq_false (by decide +kernel)
@[simp] theorem ne11 : (aSt = aDr) = False := eq_false (by decide +kernel)
@[simp] theorem ne12 : (aBk = aDr) = False := eq_false (by decide +kernel)
/-! ### places in short rows -/
theorem at0 {a : Dt} {l : List Dt} : atI (a :: l) 0 = some a := by simp [atI, ixN]
theorem at1 {a b : Dt} {l : List Dt} : atI (a :: b :: l) 1 = some b := by
  have h : (1 : Int) < (l.length : Int) + 1 + 1 := by omega
  simp [atI, ixN, h]
theorem at2 {a b c : Dt} {l : List Dt} : atI (a :: b :: c :: l) 2 = some c := by
  have h : (2 : Int) < (l.length : Int) + 1 + 1 + 1 := by omega
  simp [atI, ixN, h]
theorem at3 {a b c d : Dt} {l : List Dt} : atI (a :: b :: c :: d :: l) 3 = some d := by
  have h : (3 : Int) < (l.length : Int) + 1 + 1 + 1 + 1 := by omega
  simp [atI, ixN, h]
theorem at4 {a b c d e : Dt} {l : List Dt} : atI (a :: b :: c :: d :: e :: l) 4 = some e := by
  have h : (4 : Int) < (l.length : Int) + 1 + 1 + 1 + 1 + 1 := by omega
  simp [atI, ixN, h]
theorem at5 {a b c d e f : Dt} {l : List Dt} : atI (a :: b :: c :: d :: e :: f :: l) 5 = some f := by
  have h : (5 : Int) < (l.length : Int) + 1 + 1 + 1 + 1 + 1 + 1 := by omega
  simp [atI, ixN, h]
theorem at_map {α : Type} {f : α → Dt} {l : List α} {i : Nat} {a : α} (h : l[i]? = some a) : atI (l.map f) (i : Int) = some (f a) := atI_nat (by rw [List.getElem?_map, h]; rfl)
/-! ### comprehensions and loops over rows of things -/
theorem lc_map {α β : Type} {fg : FG} {ft : FT} {fe : FE} {ρ : List Sl} {W : Option Well} (f : α → Dt) (p : α → Bool) (g : α → β) (f2 : β → Dt) : ∀ l : List α,
    (∀ a ∈ l, ∃ ρ2, fg (f a) ρ = some ρ2 ∧ ft ρ2 W = .ok (p a) W ∧ (p a = true → ∃ e, fe ρ2 W = .ok e W ∧ e.D = f2 (g a))) → lcGo fg ft fe ρ (l.map f) W = .ok (((l.filter p).map g).map f2) W
  | [], _ => rfl
  | a :: r, h => by
    obtain ⟨ρ2, e1, e2, e3⟩ := h a (List.mem_cons_self)
    have ih := lc_map f p g f2 r fun x hx => h x (List.mem_cons_of_mem _ hx)
    rw [List.map_cons]
    unfold lcGo
    rw [e1]
    dsimp only
    rw [e2]
    cases hp : p a with
    | true =>
      obtain ⟨e, e4, e5⟩ := e3 hp
      dsimp only
      rw [e4]
      dsimp only
      rw [ih]
      dsimp only
      rw [List.filter_cons_of_pos hp, List.map_cons, List.map_cons, e5]
    | false =>
      dsimp only
      rw [ih, List.filter_cons_of_neg (by rw [hp]; decide)]
theorem filter_yes {α : Type} (l : List α) : (l.filter fun _ => true) = l := List.filter_eq_self.mpr fun _ _ => rfl
/-- all of them say yes -/
theorem lc_all {α : Type} {fg : FG} {fe : FE} {ρ : List Sl} {W : Option Well} (f : α → Dt) (l : List α) (h : ∀ a ∈ l, ∃ ρ2, fg (f a) ρ = some ρ2 ∧ fe ρ2 W = .ok (.d (.bool true)) W) : lcGo fg ftYes fe ρ (l.map f) W = .ok (l.map fun _ => .bool true) W := by
  have := lc_map (fg := fg) (ft := ftYes) (fe := fe) (ρ := ρ) (W := W) f (fun _ => true) (fun _ => true) PyData.bool l fun a ha => by
    obtain ⟨ρ2, e1, e2⟩ := h a ha
    exact ⟨ρ2, e1, rfl, fun _ => ⟨_, e2, rfl⟩⟩
  rw [filter_yes, List.map_map] at this
  exact this
theorem allB_yes {α : Type} (l : List α) : allB (l.map fun _ => PyData.bool true) = some (l.map fun _ => true) := by
  have e : (l.map fun _ => PyData.bool true) = (l.map fun _ => true).map PyData.bool := by rw [List.map_map]; rfl
  rw [e, allB_bools]
theorem all_yes {α : Type} (l : List α) : ((l.map fun _ => true).all id) = true := by rw [List.all_map]; exact List.all_eq_true.mpr fun _ _ => rfl
/-- a loop that changes nothing but slots of its own -/
theorem for_keep {α : Type} {g : FG} {b : FS} {W : Option Well} (f : α → Dt) (I : List Sl → Prop) : ∀ (l : List α) (n : Nat) (ρ : List Sl),
    (∀ (i : Nat) (a : α) (ρ : List Sl), l[i]? = some a → I ρ → ∃ ρ1, g (.tuple [.int ((n + i : Nat) : Int), f a]) ρ = some ρ1 ∧ ∃ ρ2, b ρ1 W = .nx ρ2 W ∧ I ρ2) → I ρ →
    ∃ ρ', forGo g b ((l.map f).mapIdx fun i d => .tuple [.int ((n + i : Nat) : Int), d]) ρ W = .nx ρ' W ∧ I ρ'
  | [], n, ρ, _, h => ⟨ρ, rfl, h⟩
  | a :: r, n, ρ, hs, h => by
    obtain ⟨ρ1, e1, ρ2, e2, h2⟩ := hs 0 a ρ rfl h
    obtain ⟨ρ', e3, h3⟩ := for_keep (g := g) (b := b) (W := W) f I r (n + 1) ρ2 (fun i x ρ hx hi => by
      have := hs (i + 1) x ρ (by simpa using hx) hi
      rw [show n + (i + 1) = n + 1 + i by omega] at this
      exact this) h2
    refine ⟨ρ', ?_, h3⟩
    rw [List.map_cons, List.mapIdx_cons]
    show (match g (.tuple [.int ((n + 0 : Nat) : Int), f a]) ρ with | some ρ1 => (b ρ1 W).seq (forGo g b _) | none => .bad) = _
    rw [e1]
    dsimp only
    rw [e2, v_seqN]
    have e : (fun (i : Nat) (d : Dt) => PyData.tuple [.int ((n + (i + 1) : Nat) : Int), d]) = fun (i : Nat) (d : Dt) => PyData.tuple [.int ((n + 1 + i : Nat) : Int), d] := by
      funext i d
      rw [show n + (i + 1) = n + 1 + i by omega]
    rw [e]
    exact e3
theorem for_enum {α : Type} {g : FG} {b : FS} {W : Option Well} (f : α → Dt) (I : List Sl → Prop) (l : List α) (ρ : List Sl)
    (hs : ∀ (i : Nat) (a : α) (ρ : List Sl), l[i]? = some a → I ρ → ∃ ρ1, g (.tuple [.int (i : Int), f a]) ρ = some ρ1 ∧ ∃ ρ2, b ρ1 W = .nx ρ2 W ∧ I ρ2) (h : I ρ) :
    ∃ ρ', forGo g b ((l.map f).mapIdx fun i d => .tuple [.int (i : Int), d]) ρ W = .nx ρ' W ∧ I ρ' := by
  have := for_keep (g := g) (b := b) (W := W) f I l 0 ρ (fun i a ρ hx hi => by rw [Nat.zero_add]; exact hs i a ρ hx hi) h
  simpa using this
end Cl
set_option Elab.async false
set_option linter.all false
set_option maxRecDepth 100000
set_option maxHeartbeats 8000000
set_option autoImplicit false
namespace Cl
open PySem PySem.Spec PyProof.Rows L2 Lw
variable [KI : FragI]
/-! ### draws -/
theorem draw_ok {w : Well} {n : Int} {k : Nat} (hn : 0 < n) (hb : n.natAbs < 2 ^ 9000) (hw : wOk (k + 1) w) : ∃ r w', F_l_draw [.wel, .dt (.int n)] (some w) = .ok (.d (.int r)) (some w') ∧ 0 ≤ r ∧ r < n ∧ wOk k w' := by
  obtain ⟨x, y, z⟩ := w
  obtain ⟨h1, h2, h3, h4, h5⟩ := hw
  dsimp only at h1 h2 h3 h4 h5
  have cd : cDiv x n = true := cDiv_of hn hb
  by_cases hx : 0 < x
  · refine ⟨x % n, (x / n, y, z), ?_, Int.emod_nonneg _ (by omega), Int.emod_lt_of_pos _ hn, Int.ediv_nonneg h1 (by omega), h2, h3, h4, ?_⟩
    · simp [F_l_draw, b_l_draw, hx, hn, cd]
    · dsimp only; omega
  · have p1 : gPow (.int 10) (.int 41) = some (.d (.int 100000000000000000000000000000000000000000)) := by rfl
    have p2 : gPow (.int 10) (.int 39) = some (.d (.int 1000000000000000000000000000000000000000)) := by rfl
    have m1 : cMul 858599509 (z + 1) = true := cMul_of (a := 30) (b := 201) (by decide) (by omega)
    have m2 : cMul 413158523 (z + 1) = true := cMul_of (a := 30) (b := 201) (by decide) (by omega)
    have q1 : cPow (y + 858599509 * (z + 1)) 3 = true := cPow_of (n := 3) (a := 240) (by omega)
    have b1 := Int.emod_nonneg ((y + 858599509 * (z + 1)) ^ 3) (show (100000000000000000000000000000000000000109 : Int) ≠ 0 by decide)
    have b2 := Int.emod_lt_of_pos ((y + 858599509 * (z + 1)) ^ 3) (show (0 : Int) < 100000000000000000000000000000000000000109 by decide)
    generalize hB : ((y + 858599509 * (z + 1)) ^ 3) % 100000000000000000000000000000000000000109 = B at *
    have q2 : cPow (B + 413158523 * (z + 1)) 3 = true := cPow_of (n := 3) (a := 240) (by omega)
    have d1 : cDiv (((B + 413158523 * (z + 1)) ^ 3) % 1000000000000000000000000000000000000003) 1048576 = true := cDiv_of (a := 30) (by decide) (by decide)
    refine ⟨_, (x, y, z + 1), ?_, Int.emod_nonneg ((((B + 413158523 * (z + 1)) ^ 3) % 1000000000000000000000000000000000000003) / 1048576) (by omega : n ≠ 0), Int.emod_lt_of_pos _ hn, h1, h2, h3, ?_, ?_⟩
    · simp [F_l_draw, b_l_draw, hx, hn, p1, p2, m1, m2, q1, hB, q2, d1]
    · dsimp only; omega
    · dsimp only; omega
/-! ### the well is made -/
theorem well_of (S : Dt) (c : Int) (i : Nat) (hi : i < 1000) (W : Option Well) : ∃ x y, sRet (eLst (aCons (eCall gMax2 (aCons (eC (.int 0)) (aCons (eBin gSub (eCall gAbs (aCons (eVar 2) aNil)) (eBin gPow (eC (.int 10)) (eC (.int 18)))) aNil))) (aCons (eBin gAdd (eBin gAdd (eBin gMul (eBin gMod (eCall gInt (aCons (eVar 2) aNil)) (eBin gAdd (eBin gPow (eC (.int 10)) (eC (.int 38))) (eC (.int 133)))) (eC (.int 89))) (eBin gMul (eC (.int 67)) (eVar 1))) (eC (.int 29))) (aCons (eC (.int 0)) aNil)))) [.dt S, .dt (.int i), .dt (.int c)] W = .rt (.f [.int x, .int y, .int 0]) W ∧ ∀ k, k < 2 ^ 100 → wOk k (x, y, 0) := by
  have p1 : gPow (.int 10) (.int 18) = some (.d (.int 1000000000000000000)) := by rfl
  have p2 : gPow (.int 10) (.int 38) = some (.d (.int 100000000000000000000000000000000000000)) := by rfl
  have b1 := Int.emod_nonneg c (show (100000000000000000000000000000000000133 : Int) ≠ 0 by decide)
  have b2 := Int.emod_lt_of_pos c (show (0 : Int) < 100000000000000000000000000000000000133 by decide)
  have b1 := Int.emod_nonneg c (show (100000000000000000000000000000000000000 + 133 : Int) ≠ 0 by decide)
  have b2 := Int.emod_lt_of_pos c (show (0 : Int) < 100000000000000000000000000000000000000 + 133 by decide)
  have hp : (0 : Int) < 100000000000000000000000000000000000000 + 133 := by decide
  generalize hB : c % 100000000000000000000000000000000000133 = B at *
  have m1 : cMul B 89 = true := cMul_of (a := 200) (b := 10) (by omega) (by decide)
  have m2 : cMul 67 (i : Int) = true := cMul_of (a := 10) (b := 20) (by decide) (by omega)
  generalize hA : abI c - 1000000000000000000 = A
  have hs : (sRet (eLst (aCons (eCall gMax2 (aCons (eC (.int 0)) (aCons (eBin gSub (eCall gAbs (aCons (eVar 2) aNil)) (eBin gPow (eC (.int 10)) (eC (.int 18)))) aNil))) (aCons (eBin gAdd (eBin gAdd (eBin gMul (eBin gMod (eCall gInt (aCons (eVar 2) aNil)) (eBin gAdd (eBin gPow (eC (.int 10)) (eC (.int 38))) (eC (.int 133)))) (eC (.int 89))) (eBin gMul (eC (.int 67)) (eVar 1))) (eC (.int 29))) (aCons (eC (.int 0)) aNil)))) [.dt S, .dt (.int i), .dt (.int c)] W) = .rt (.f [.int (mxI 0 A), .int (B * 89 + 67 * (i : Int) + 29), .int 0]) W := by
    simp [p1, p2, hp, hB, m1, m2, hA]
  refine ⟨_, _, hs, fun k hk => ⟨?_, ?_, ?_, Int.le_refl _, ?_⟩⟩
  · exact (mxI_is 0 A).1
  · show 0 ≤ B * 89 + 67 * (i : Int) + 29
    omega
  · show B * 89 + 67 * (i : Int) + 29 < 2 ^ 200
    omega
  · show (0 : Int) + k < 2 ^ 200
    omega
theorem well_ok (ns : List Int) (i : Nat) (hi : i < 1000) (W : Option Well) : ∃ x y, F_l_well [.dt (.list (ns.map .int)), .dt (.int i)] W = .ok (.f [.int x, .int y, .int 0]) W ∧ ∀ k, k < 2 ^ 100 → wOk k (x, y, 0) := by
  by_cases h : i < ns.length
  · obtain ⟨v, hv, _⟩ := atI_int (ns := ns) (i := i) (by omega) (by omega)
    obtain ⟨x, y, h1, h2⟩ := well_of (.list (ns.map .int)) v i hi W
    refine ⟨x, y, ?_, h2⟩
    unfold F_l_well b_l_well
    rw [v_run, v_seq]
    have : sSet 2 (eIf (tOfB (eBin gLt (eVar 1) (eCall gLen (aCons (eVar 0) aNil)))) (eBin gIx (eVar 0) (eVar 1)) (eC (.int 0))) [.dt (.list (ns.map .int)), .dt (.int i), .no] W = .nx [.dt (.list (ns.map .int)), .dt (.int i), .dt (.int v)] W := by
      simp [hv, h]
    show Out.res (Out.seq (sSet 2 _ [.dt (.list (ns.map .int)), .dt (.int i), .no] W) _) = _
    rw [this, v_seqN, h1, v_resR]
  · obtain ⟨x, y, h1, h2⟩ := well_of (.list (ns.map .int)) 0 i hi W
    refine ⟨x, y, ?_, h2⟩
    unfold F_l_well b_l_well
    rw [v_run, v_seq]
    have : sSet 2 (eIf (tOfB (eBin gLt (eVar 1) (eCall gLen (aCons (eVar 0) aNil)))) (eBin gIx (eVar 0) (eVar 1)) (eC (.int 0))) [.dt (.list (ns.map .int)), .dt (.int i), .no] W = .nx [.dt (.list (ns.map .int)), .dt (.int i), .dt (.int 0)] W := by
      simp [h]
    show Out.res (Out.seq (sSet 2 _ [.dt (.list (ns.map .int)), .dt (.int i), .no] W) _) = _
    rw [this, v_seqN, h1, v_resR]
end Cl
set_option Elab.async false
set_option linter.all false
set_option maxRecDepth 100000
set_option maxHeartbeats 8000000
set_option autoImplicit false
namespace Cl
open PySem PySem.Spec PyProof.Rows L2 Lw
variable [KI : FragI]
/-! ### the same -/
theorem same_int (Fr : FF) (a : Int) (W : Option Well) : runF 3 (b_l_same Fr) [.dt (.int a), .dt (.int a)] W = .ok (.d (.bool true)) W := by
  simp [b_l_same]
theorem same_seq (Fr : FF) (l : List Dt) (hl : l.length ≤ 1000) (W : Option Well) (h : ∀ d ∈ l, Fr [.dt d, .dt d] W = .ok (.d (.bool true)) W) :
    b_l_same_C1 Fr [.dt (.list l), .dt (.list l), .no] W = .ok (.f []) W ∧ b_l_same_C1 Fr [.dt (.tuple l), .dt (.tuple l), .no] W = .ok (.f []) W := by
  have hr : inR (l.length : Int) = true := inR_of (by omega)
  have hle : l.length ≤ lineN := line_ok (by omega)
  have h0 : (rangeD 0 l.length).filter (fun _ => false) = [] := List.filter_eq_nil_iff.mpr fun _ _ h => nomatch h
  have go : ∀ c : List Dt → Dt, (c = .list ∨ c = .tuple) → lcGo (fgName 2) (tNotF (tOfE (eFun Fr (aCons (eBin gIx (eVar 0) (eVar 2)) (aCons (eBin gIx (eVar 1) (eVar 2)) aNil))))) (b_l_same_E1 Fr) [.dt (c l), .dt (c l), .no] (rangeD 0 l.length) W = .ok [] W := fun c hc => by
    have hgo := lcGo_is (fg := fgName 2) (ft := tNotF (tOfE (eFun Fr (aCons (eBin gIx (eVar 0) (eVar 2)) (aCons (eBin gIx (eVar 1) (eVar 2)) aNil))))) (fe := b_l_same_E1 Fr) (ρ := [.dt (c l), .dt (c l), .no]) (W := W) (fun _ => false) id (rangeD 0 l.length) fun d hd => by
      obtain ⟨i, rfl, hi⟩ := rangeD_mem hd
      have hat : atI l (i : Int) = some l[i] := atI_nat (List.getElem?_eq_getElem hi)
      have hF := h l[i] (List.getElem_mem hi)
      refine ⟨_, rfl, ?_, fun h => nomatch h⟩
      rcases hc with rfl | rfl <;> simp [hat, hF]
    rw [h0] at hgo
    exact hgo
  have g1 := go .list (.inl rfl)
  have g2 := go .tuple (.inr rfl)
  constructor
  · simp [b_l_same_C1, hr, rangeD_length, g1, hle]
  · simp [b_l_same_C1, hr, rangeD_length, g2, hle]
theorem same_list (Fr : FF) (l : List Dt) (hl : l.length ≤ 1000) (W : Option Well) (h : ∀ d ∈ l, Fr [.dt d, .dt d] W = .ok (.d (.bool true)) W) : runF 3 (b_l_same Fr) [.dt (.list l), .dt (.list l)] W = .ok (.d (.bool true)) W := by
  have hc := (same_seq Fr l hl W h).1
  simp [b_l_same, hc, v_nilNil]
theorem same_succ (n : Nat) (as : List Sl) (W : Option Well) : F_l_same (n + 1) as W = runF 3 (b_l_same (F_l_same n)) as W := by rw [F_l_same]
theorem same_ints (n : Nat) (ns : List Int) (hl : ns.length ≤ 1000) (W : Option Well) : F_l_same (n + 2) [.dt (.list (ns.map .int)), .dt (.list (ns.map .int))] W = .ok (.d (.bool true)) W := by
  rw [same_succ]
  refine same_list _ _ (by rw [List.length_map]; exact hl) W fun d hd => ?_
  obtain ⟨i, _, rfl⟩ := List.mem_map.mp hd
  rw [same_succ]
  exact same_int _ i W
end Cl
set_option Elab.async false
set_option linter.all false
set_option maxRecDepth 100000
set_option maxHeartbeats 8000000
set_option autoImplicit false
namespace Cl
open PySem PySem.Spec PyProof.Rows L2 Lw
variable [KI : FragI]
/-! ### the law's regions -/
/-- a region that is one -/
structure okR (s f h d : Nat) : Prop where
  f1 : 1 ≤ f
  f2 : f ≤ s
  g : Nat.gcd f s = 1
  h : h < s
  d : d ≤ s
def reg (s f h d : Nat) : Dt := .tuple [.int s, .int f, .int h, .int d]
/-! ### what is refused and what not -/
end Cl
set_option Elab.async false
set_option linter.all false
set_option maxRecDepth 100000
set_option maxHeartbeats 8000000
set_option autoImplicit false
namespace Cl
open PySem PySem.Spec PyProof.Rows L2 Lw
variable [KI : FragI]
/-! ### plans as things -/
structure Rg where (s f h d : Nat)
structure Sg where (r l e p : Int)
structure Cn where (s g n w : Int)
inductive De where
  | st
  | bk (k : Int)
  | dr (r : Int)
structure Fl where (sh : List Int) (ho : Int) (ne : List Cn) (gu : List (Cn × De))
structure Pl where (rs : List Rg) (ss : List Sg) (fs : List Fl) (t : Int)
def Rg.D (x : Rg) : Dt := reg x.s x.f x.h x.d
def Sg.D (x : Sg) : Dt := .tuple [.int x.r, .int x.l, .int x.e, .int x.p]
def Cn.D (x : Cn) : Dt := .tuple [.int x.s, .int x.g, .int x.n, .int x.w]
def De.D : De → Dt
  | .st => .tuple [.str aSt]
  | .bk k => .tuple [.str aBk, .int k]
  | .dr r => .tuple [.str aDr, .int r]
def gD (x : Cn × De) : Dt := .tuple [x.1.D, x.2.D]
def Fl.D (x : Fl) : Dt := .tuple [.tuple (x.sh.map .int), .int x.ho, .tuple (x.ne.map Cn.D), .tuple (x.gu.map gD)]
def Pl.D (x : Pl) : Dt := .tuple [.tuple (x.rs.map Rg.D), .tuple (x.ss.map Sg.D), .tuple (x.fs.map Fl.D), .int x.t]
structure okS (R : Nat) (x : Sg) : Prop where
  r0 : 0 ≤ x.r
  r1 : x.r < R
  l0 : 0 ≤ x.l
  l1 : x.l ≤ 1000
  e : 1 ≤ x.e
  p : 0 ≤ x.p
  pu : x.p < 2 ^ 110
structure okC (S : Nat) (x : Cn) : Prop where
  s0 : 0 ≤ x.s
  s1 : x.s < S
  g0 : 0 ≤ x.g
  g1 : x.g ≤ 2
  n : 1 ≤ x.n
  w : x.n ≤ x.w
  w4 : x.w ≤ 4
def okDe (R at_ : Nat) : De → Prop
  | .st => True
  | .bk k => 0 ≤ k ∧ k ≤ at_
  | .dr r => 0 ≤ r ∧ r < R
structure okF (R S at_ : Nat) (x : Fl) : Prop where
  sh : x.sh.length = R
  sv : ∀ v ∈ x.sh, 0 ≤ v ∧ v ≤ 1000
  ho : 1 ≤ x.ho
  ne : ∀ c ∈ x.ne, okC S c
  gu : ∀ c ∈ x.gu, okC S c.1 ∧ okDe R at_ c.2
  nl : x.ne.length ≤ 4
  gl : x.gu.length ≤ 4
structure okP (x : Pl) : Prop where
  r0 : 1 ≤ x.rs.length
  r1 : x.rs.length ≤ 4
  rs : ∀ r ∈ x.rs, okR r.s r.f r.h r.d ∧ r.s < 2 ^ 110
  s0 : 1 ≤ x.ss.length
  s1 : x.ss.length ≤ 3
  ss : ∀ s ∈ x.ss, okS x.rs.length s
  f0 : 1 ≤ x.fs.length
  f1 : x.fs.length ≤ 6
  fs : ∀ (i : Nat) (f : Fl), x.fs[i]? = some f → okF x.rs.length x.ss.length i f
  t : 0 ≤ x.t
  t1 : x.t ≤ 1000
/-! ### a plan passes -/
theorem from_yes {v lo : Int} (h : lo ≤ v) (W : Option Well) : F_is_from [.dt (.int v), .dt (.int lo)] W = .ok (.d (.bool true)) W := by
  simp [F_is_from, b_is_from, h]
end Cl
set_option Elab.async false
set_option linter.all false
set_option maxRecDepth 100000
set_option maxHeartbeats 8000000
set_option autoImplicit false
namespace Cl
open PySem PySem.Spec PyProof.Rows L2 Lw
variable [KI : FragI]
/-! ### letters, slices -/
def letD (l : List Int) : Dt := .tuple (l.map .int)
structure okL (S : Nat) (l : List Int) : Prop where
  len : l.length = S
  gr : ∀ g ∈ l, 0 ≤ g ∧ g ≤ 2
theorem sl_from {α : Type} (l : List α) (n k : Nat) (o : Option Int) (hn : n = l.length) (h : HT.sIx n 0 o = n - k) : (l.drop (HT.sIx n 0 o)).take (HT.sIx n n none - HT.sIx n 0 o) = l.drop (l.length - k) := by
  subst hn
  rw [h]
  show (l.drop (l.length - k)).take (l.length - (l.length - k)) = _
  exact List.take_of_length_le (by rw [List.length_drop]; omega)
theorem six_neg {n : Nat} {w : Int} (hw : 1 ≤ w) : HT.sIx n 0 (some (-w)) = n - w.toNat := by
  show (if -w < 0 then (-w + (n : Int)).toNat else min (-w).toNat n) = _
  rw [if_pos (by omega)]
  omega
theorem six_max {n : Nat} {k : Int} (hk : 0 ≤ k) : HT.sIx n 0 (some (mxI 0 ((n : Int) - k))) = n - k.toNat := by
  have := mxI_is 0 ((n : Int) - k)
  show (if mxI 0 ((n : Int) - k) < 0 then (mxI 0 ((n : Int) - k) + (n : Int)).toNat else min (mxI 0 ((n : Int) - k)).toNat n) = _
  rw [if_neg (by omega)]
  omega
theorem sl_neg {l : List Dt} {n : Nat} (hn : n = l.length) {w : Int} (hw : 1 ≤ w) : (l.drop (HT.sIx n 0 (some (-w)))).take (HT.sIx n n none - HT.sIx n 0 (some (-w))) = l.drop (l.length - w.toNat) := sl_from l n w.toNat _ hn (six_neg hw)
theorem sl_max {l : List Dt} {n : Nat} (hn : n = l.length) {k : Int} (hk : 0 ≤ k) : (l.drop (HT.sIx n 0 (some (mxI 0 ((n : Int) - k))))).take (HT.sIx n n none - HT.sIx n 0 (some (mxI 0 ((n : Int) - k)))) = l.drop (l.length - k.toNat) := sl_from l n k.toNat _ hn (six_max hk)
def lastN {α : Type} (k : Nat) (l : List α) : List α := l.drop (l.length - k)
theorem lastN_map {α β : Type} (f : α → β) (k : Nat) (l : List α) : (l.map f).drop (l.length - k) = (lastN k l).map f := by
  unfold lastN
  rw [List.map_drop]
/-! ### conditions -/
def hits (c : Cn) (st : List (List Int)) : List (List Int) := (lastN c.w.toNat st).filter fun l => decide (l.getD c.s.toNat 0 = c.g)
def hold (c : Cn) (st : List (List Int)) : Bool := decide (c.n ≤ ((hits c st).length : Int))
theorem let_at {S : Nat} {l : List Int} (h : okL S l) {s : Int} (h0 : 0 ≤ s) (h1 : s < S) : atI (l.map PyData.int) s = some (.int (l.getD s.toNat 0)) := by
  obtain ⟨n, rfl⟩ := Int.eq_ofNat_of_zero_le h0
  have hn : n < l.length := by rw [h.len]; omega
  rw [Int.toNat_natCast]
  refine at_map ?_
  rw [List.getElem?_eq_getElem hn, List.getD_eq_getElem?_getD, List.getElem?_eq_getElem hn]
  rfl
theorem hits_go {S : Nat} {c : Cn} (hc : okC S c) {st : List (List Int)} (hst : ∀ l ∈ st, okL S l) {a0 a1 a4 a5 : Sl} {W : Option Well} {E1 : FE} (hE : E1 = eVar 6) :
    lcGo (fgName 6) (tOfB (eBin gEq (eBin gIx (eVar 6) (eVar 2)) (eVar 3))) E1 [a0, a1, .dt (.int c.s), .dt (.int c.g), a4, a5, .no] ((lastN c.w.toNat st).map letD) W = .ok ((hits c st).map letD) W := by
  subst hE
  have := lc_map (fg := fgName 6) (ft := tOfB (eBin gEq (eBin gIx (eVar 6) (eVar 2)) (eVar 3))) (fe := eVar 6) (ρ := [a0, a1, .dt (.int c.s), .dt (.int c.g), a4, a5, .no]) (W := W) letD (fun l => decide (l.getD c.s.toNat 0 = c.g)) id letD (lastN c.w.toNat st) fun l hl => by
    have hl' : l ∈ st := List.mem_of_mem_drop hl
    have e := let_at (hst l hl') hc.s0 hc.s1
    refine ⟨_, rfl, ?_, fun _ => ⟨_, rfl, rfl⟩⟩
    simp [letD, e]
  rw [List.map_id] at this
  exact this
theorem hits_le {c : Cn} {st : List (List Int)} : (hits c st).length ≤ st.length := by
  unfold hits lastN
  exact Nat.le_trans (List.length_filter_le _ _) (by rw [List.length_drop]; omega)
theorem last_le {α : Type} {k : Nat} {st : List α} : (lastN k st).length ≤ st.length := by
  unfold lastN
  rw [List.length_drop]
  omega
theorem count_go {l : List (List Int)} {p : List Int → Bool} {i : Nat} {y : List Int} (h : l[i]? = some y) : ((l.take (i + 1)).filter p).length = ((l.take i).filter p).length + (if p y = true then 1 else 0) := by
  rw [List.take_add_one, h, List.filter_append, List.length_append]
  cases hp : p y <;> simp [hp]
/-- what the kept letters tell is what all tell -/
theorem last_kept {α : Type} (st : List α) (l : α) {k w : Nat} (h : w ≤ k + 1) : lastN w (lastN k st ++ [l]) = lastN w (st ++ [l]) := by
  unfold lastN
  by_cases hk : st.length ≤ k
  · rw [show st.length - k = 0 by omega, List.drop_zero]
  · have e : st.drop (st.length - k) ++ [l] = (st ++ [l]).drop (st.length - k) := by
      rw [List.drop_append_of_le_length (by omega)]
    rw [e, List.drop_drop, List.length_drop, List.length_append, List.length_singleton]
    congr 1
    omega
theorem hold_kept {c : Cn} {st : List (List Int)} {l : List Int} {k : Nat} (h : c.w ≤ (k : Int) + 1) : hold c (lastN k st ++ [l]) = hold c (st ++ [l]) := by
  unfold hold hits
  rw [last_kept st l (by omega)]
theorem last_last {α : Type} (st : List α) (l : α) (k : Nat) : lastN k (lastN k st ++ [l]) = lastN k (st ++ [l]) := last_kept st l (by omega)
/-! ### loops that look for one -/
theorem for_find {α : Type} {g : FG} {b : FS} {W : Option Well} (f : α → Dt) (p : α → Bool) (r : α → Ev) (I : List Sl → Prop) : ∀ (l : List α) (ρ : List Sl),
    (∀ a ∈ l, ∀ ρ, I ρ → ∃ ρ1, g (f a) ρ = some ρ1 ∧ (p a = true → b ρ1 W = .rt (r a) W) ∧ (p a = false → ∃ ρ2, b ρ1 W = .nx ρ2 W ∧ I ρ2)) → I ρ →
    (∃ a, l.find? p = some a ∧ a ∈ l ∧ p a = true ∧ forGo g b (l.map f) ρ W = .rt (r a) W) ∨ (l.find? p = none ∧ ∃ ρ', forGo g b (l.map f) ρ W = .nx ρ' W ∧ I ρ')
  | [], ρ, _, h => .inr ⟨rfl, ρ, rfl, h⟩
  | a :: l, ρ, hs, h => by
    obtain ⟨ρ1, e1, h1, h2⟩ := hs a List.mem_cons_self ρ h
    rw [List.map_cons]
    cases hp : p a with
    | true =>
      refine .inl ⟨a, by rw [List.find?_cons_of_pos hp], List.mem_cons_self, hp, ?_⟩
      show (match g (f a) ρ with | some ρ1 => (b ρ1 W).seq (forGo g b _) | none => .bad) = _
      rw [e1]
      dsimp only
      rw [h1 hp, v_seqR]
    | false =>
      obtain ⟨ρ2, e2, i2⟩ := h2 hp
      have hn : ¬ p a = true := by rw [hp]; decide
      have ih := for_find f p r I l ρ2 (fun x hx => hs x (List.mem_cons_of_mem _ hx)) i2
      have hgo : forGo g b (f a :: l.map f) ρ W = forGo g b (l.map f) ρ2 W := by
        show (match g (f a) ρ with | some ρ1 => (b ρ1 W).seq (forGo g b _) | none => .bad) = _
        rw [e1]
        dsimp only
        rw [e2, v_seqN]
      rw [hgo, List.find?_cons_of_neg hn]
      rcases ih with ⟨x, q1, q2, q3, q4⟩ | q
      · exact .inl ⟨x, q1, List.mem_cons_of_mem _ q2, q3, q4⟩
      · exact .inr q
end Cl
set_option Elab.async false
set_option linter.all false
set_option maxRecDepth 100000
set_option maxHeartbeats 8000000
set_option autoImplicit false
namespace Cl
open PySem PySem.Spec PyProof.Rows L2 Lw
variable [KI : FragI]
/-! ### plain data -/
inductive Plain : Nat → Dt → Prop
  | non {n : Nat} : Plain n .none
  | bl {n : Nat} (b : Bool) : Plain n (.bool b)
  | int {n : Nat} (i : Int) : Plain n (.int i)
  | str {n : Nat} {x : Str} (h : PyData.strOk x = true) : Plain n (.str x)
  | lst {n : Nat} {l : List Dt} (hl : l.length ≤ 1000) (h : ∀ d ∈ l, Plain n d) : Plain (n + 1) (.list l)
  | tup {n : Nat} {l : List Dt} (hl : l.length ≤ 1000) (h : ∀ d ∈ l, Plain n d) : Plain (n + 1) (.tuple l)
omit KI in
theorem Plain.ints {n : Nat} (l : List Int) (hl : l.length ≤ 1000) : Plain (n + 1) (.tuple (l.map .int)) := .tup (by rw [List.length_map]; exact hl) fun d hd => by
  obtain ⟨i, _, rfl⟩ := List.mem_map.mp hd
  exact .int i
omit KI in
theorem can_all : ∀ {l : List Dt}, (∀ d ∈ l, d.canLay0 = true) → PyData.canLayAll0 l = true
  | [], _ => by simp only [PyData.canLayAll0]
  | d :: r, h => by
    have h1 := h d List.mem_cons_self
    have h2 := can_all fun x hx => h x (List.mem_cons_of_mem _ hx)
    simp only [PyData.canLayAll0, h1, h2, Bool.and_self]
omit KI in
theorem dep_all {n : Nat} : ∀ {l : List Dt}, (∀ d ∈ l, d.depth ≤ n) → PyData.depthAll l ≤ n
  | [], _ => by simp only [PyData.depthAll]; omega
  | d :: r, h => by
    have h1 := h d List.mem_cons_self
    have h2 := dep_all fun x hx => h x (List.mem_cons_of_mem _ hx)
    simp only [PyData.depthAll]
    omega
omit KI in
theorem Plain.can {n : Nat} {d : Dt} (h : Plain n d) : d.canLay0 = true ∧ d.depth ≤ n + 1 := by
  induction h with
  | non => exact ⟨by simp only [PyData.canLay0], by simp only [PyData.depth]; omega⟩
  | bl b => exact ⟨by simp only [PyData.canLay0], by simp only [PyData.depth]; omega⟩
  | int i => exact ⟨by simp only [PyData.canLay0], by simp only [PyData.depth]; omega⟩
  | str h => exact ⟨by simp only [PyData.canLay0, h], by simp only [PyData.depth]; omega⟩
  | lst hl h ih =>
    refine ⟨by simp only [PyData.canLay0]; exact can_all fun d hd => (ih d hd).1, ?_⟩
    have := dep_all fun d hd => (ih d hd).2
    simp only [PyData.depth]
    omega
  | tup hl h ih =>
    refine ⟨by simp only [PyData.canLay0]; exact can_all fun d hd => (ih d hd).1, ?_⟩
    have := dep_all fun d hd => (ih d hd).2
    simp only [PyData.depth]
    omega
omit KI in
theorem Plain.shaped {n : Nat} {d : Dt} (h : Plain n d) (hn : n ≤ 60) : SeqAt.shaped d = true := by
  obtain ⟨h1, h2⟩ := h.can
  unfold SeqAt.shaped
  rw [h1, decide_eq_true (by omega)]
  rfl
theorem v_eqN : gEq .none .none = some (.d (.bool true)) := by
  unfold gEq
  rw [if_pos ⟨by simp [SeqAt.shaped, PyData.canLay0, PyData.depth], by simp [SeqAt.shaped, PyData.canLay0, PyData.depth]⟩]
  simp [PyData.eqv]
theorem v_neNilL (l : List Dt) (h : SeqAt.shaped (.list l) = true) : gNe (.list l) (.list []) = some (.d (.bool (!decide (l = [])))) := by
  have h0 : SeqAt.shaped (.list []) = true := by simp [SeqAt.shaped, PyData.canLay0, PyData.canLayAll0, PyData.depth, PyData.depthAll]
  unfold gNe
  rw [if_pos ⟨h, h0⟩]
  cases l with
  | nil => simp [PyData.eqv, PyData.eqvAll]
  | cons x r => simp [PyData.eqv, PyData.eqvAll]
theorem v_neNilT (l : List Dt) (h : SeqAt.shaped (.tuple l) = true) : gNe (.tuple l) (.tuple []) = some (.d (.bool (!decide (l = [])))) := by
  have h0 : SeqAt.shaped (.tuple []) = true := by simp [SeqAt.shaped, PyData.canLay0, PyData.canLayAll0, PyData.depth, PyData.depthAll]
  unfold gNe
  rw [if_pos ⟨h, h0⟩]
  cases l with
  | nil => simp [PyData.eqv, PyData.eqvAll]
  | cons x r => simp [PyData.eqv, PyData.eqvAll]
theorem same_plain {n : Nat} {d : Dt} (h : Plain n d) (W : Option Well) : F_l_same (n + 1) [.dt d, .dt d] W = .ok (.d (.bool true)) W := by
  induction h with
  | non => rw [same_succ]; simp [b_l_same, v_eqN]
  | bl b => rw [same_succ]; simp [b_l_same]
  | int i => rw [same_succ]; exact same_int _ i W
  | str h => rw [same_succ]; simp [b_l_same, h]
  | lst hl h ih => rw [same_succ]; exact same_list _ _ hl W ih
  | tup hl h ih =>
    rw [same_succ]
    have hc := (same_seq _ _ hl W ih).2
    simp [b_l_same, hc, v_nilNil]
end Cl
set_option Elab.async false
set_option linter.all false
set_option maxRecDepth 100000
set_option maxHeartbeats 8000000
set_option autoImplicit false
namespace Cl
open PySem PySem.Spec PyProof.Rows L2 Lw
variable [KI : FragI]
/-! ### all letters -/
def ext (s : List Int) : List (List Int) := [s ++ [0], s ++ [1], s ++ [2]]
def signs : Nat → List (List Int)
  | 0 => [[]]
  | n + 1 => (signs n).flatMap ext
omit KI in
theorem ext_len (l : List (List Int)) : (l.flatMap ext).length = 3 * l.length := by
  induction l with
  | nil => rfl
  | cons s r ih => rw [List.flatMap_cons, List.length_append, ih, List.length_cons]; show 3 + _ = _; omega
omit KI in
theorem signs_len : ∀ n : Nat, (signs n).length = 3 ^ n
  | 0 => rfl
  | n + 1 => by
    show ((signs n).flatMap ext).length = _
    rw [ext_len, signs_len n, Nat.pow_succ, Nat.mul_comm]
omit KI in
theorem signs_okL : ∀ (n : Nat), ∀ s ∈ signs n, okL n s
  | 0, s, h => by
    rw [List.mem_singleton.mp h]
    exact ⟨rfl, fun _ z => nomatch z⟩
  | n + 1, s, h => by
    obtain ⟨r, hr, hs⟩ := List.mem_flatMap.mp h
    have ih := signs_okL n r hr
    have key : ∀ g : Int, 0 ≤ g ∧ g ≤ 2 → okL (n + 1) (r ++ [g]) := fun g hg => ⟨by rw [List.length_append, ih.len]; rfl, fun x hx => by
      rcases List.mem_append.mp hx with z | z
      · exact ih.gr x z
      · rw [List.mem_singleton.mp z]; exact hg⟩
    simp only [ext, List.mem_cons, List.not_mem_nil, or_false] at hs
    rcases hs with rfl | rfl | rfl
    · exact key 0 (by decide)
    · exact key 1 (by decide)
    · exact key 2 (by decide)
theorem snocD {s : List Int} (g : Int) (h : s.length ≤ 900) : gAdd (letD s) (.tuple [.int g]) = some (.d (letD (s ++ [g]))) := by
  unfold letD
  rw [v_addT (by rw [List.length_map]; exact line_ok (by simp only [List.length_cons, List.length_nil]; omega)), List.map_append]
  rfl
theorem signs_ok {S : Nat} (hS : S ≤ 3) (W : Option Well) : F_l_signs [.dt (.int S)] W = .ok (.d (.list ((signs S).map letD))) W := by
  have hr : Lw.inR (S : Int) = true := inR_of (by omega)
  have hr3 : Lw.inR (3 : Int) = true := inR_of (by decide)
  have h3 : 3 ≤ lineN := line_ok (by omega)
  have r3 : rangeD 0 3 = [.int 0, .int 1, .int 2] := rfl
  obtain ⟨ρ', W', e, ⟨x2, x3, x4, x5, rfl, hWW⟩⟩ := forGo_inv (g := fgName 2) (f := b_l_signs_L2) (fun i ρ W' => ∃ x2 x3 x4 x5, ρ = [.dt (.int S), .dt (.list ((signs i).map letD)), x2, x3, x4, x5] ∧ W' = W) (rangeD 0 S) 0 [.dt (.int S), .dt (.list ((signs 0).map letD)), .no, .no, .no, .no] W
    (fun i d ρ W' hd ⟨x2, x3, x4, x5, e1, e2⟩ => by
      subst e1; subst e2
      obtain ⟨rfl, hi⟩ := rangeD_get hd
      rw [Nat.zero_add]
      have hlen : (signs i).length ≤ 27 := by
        rw [signs_len]
        exact Nat.le_trans (Nat.pow_le_pow_right (by decide) (show i ≤ 3 by omega)) (by decide)
      refine ⟨_, rfl, ?_⟩
      obtain ⟨ρ', W', e, ⟨y4, y5, rfl, rfl⟩⟩ := forGo_inv (g := fgName 4) (f := b_l_signs_L1) (fun j ρ W1 => ∃ x4 x5, ρ = [.dt (.int S), .dt (.list ((signs i).map letD)), .dt (.int (0 + (i : Int))), .dt (.list ((((signs i).take j).flatMap ext).map letD)), x4, x5] ∧ W1 = W') ((signs i).map letD) 0 [.dt (.int S), .dt (.list ((signs i).map letD)), .dt (.int (0 + (i : Int))), .dt (.list []), x4, x5] W'
        (fun j d ρ W1 hd ⟨x4, x5, e1, e2⟩ => by
          subst e1; subst e2
          rw [Nat.zero_add]
          rw [List.getElem?_map] at hd
          cases hs : (signs i)[j]? with
          | none => rw [hs] at hd; cases hd
          | some s =>
            rw [hs] at hd
            cases hd
            have hok := signs_okL i s (List.mem_of_getElem? hs)
            have hsl : s.length ≤ 900 := by rw [hok.len]; omega
            have hj : j < (signs i).length := (List.getElem?_eq_some_iff.mp hs).1
            refine ⟨_, rfl, [.dt (.int S), .dt (.list ((signs i).map letD)), .dt (.int (0 + (i : Int))), .dt (.list ((((signs i).take (j + 1)).flatMap ext).map letD)), .dt (letD s), x5], W1, ?_, _, _, rfl, rfl⟩
            have tk : ((signs i).take (j + 1)).flatMap ext = ((signs i).take j).flatMap ext ++ ext s := by
              rw [List.take_add_one, List.flatMap_append, hs]
              rfl
            have comp : ∀ x5, b_l_signs_C1 [.dt (.int S), .dt (.list ((signs i).map letD)), .dt (.int (0 + (i : Int))), .dt (.list ((((signs i).take j).flatMap ext).map letD)), .dt (letD s), x5] W1 = .ok (.f ((ext s).map letD)) W1 := fun x5 => by
              simp [b_l_signs_C1, hr3, r3, h3, lcGo, b_l_signs_E1, snocD _ hsl, ext]
            have hadd : gAdd (.list ((((signs i).take j).flatMap ext).map letD)) (.list ((ext s).map letD)) = some (.f ((((signs i).take (j + 1)).flatMap ext).map letD)) := by
              rw [v_addL (by
                rw [List.length_map, List.length_map, ext_len, List.length_take]
                show 3 * min j _ + 3 ≤ lineN
                exact line_ok (by omega)), tk, List.map_append]
            show b_l_signs_L1 [.dt (.int S), .dt (.list ((signs i).map letD)), .dt (.int (0 + (i : Int))), .dt (.list ((((signs i).take j).flatMap ext).map letD)), .dt (letD s), x5] W1 = _
            unfold b_l_signs_L1
            rw [v_set, v_bin, v_var (d := .list ((((signs i).take j).flatMap ext).map letD)) rfl, v_bind, comp, v_bind]
            show Res.toS (ofP (gAdd (.list ((((signs i).take j).flatMap ext).map letD)) (.list ((ext s).map letD))) W1) _ _ = _
            rw [hadd]
            rfl)
        ⟨_, _, by rw [List.take_zero]; rfl, rfl⟩
      rw [Nat.zero_add, List.length_map, List.take_length] at e
      refine ⟨[.dt (.int S), .dt (.list ((signs (i + 1)).map letD)), .dt (.int (0 + (i : Int))), .dt (.list ((signs (i + 1)).map letD)), y4, y5], W', ?_, _, _, _, _, rfl, rfl⟩
      show b_l_signs_L2 [.dt (.int S), .dt (.list ((signs i).map letD)), .dt (.int (0 + (i : Int))), x3, x4, x5] W' = _
      unfold b_l_signs_L2
      have e0 : sSet 3 (eLst aNil) [.dt (.int S), .dt (.list ((signs i).map letD)), .dt (.int (0 + (i : Int))), x3, x4, x5] W' = .nx [.dt (.int S), .dt (.list ((signs i).map letD)), .dt (.int (0 + (i : Int))), .dt (.list []), x4, x5] W' := by simp
      rw [v_seq, e0, v_seqN, v_seq, v_for]
      have it : fiSeq (eVar 1) [.dt (.int S), .dt (.list ((signs i).map letD)), .dt (.int (0 + (i : Int))), .dt (.list []), x4, x5] W' = .ok ((signs i).map letD) W' := by simp
      rw [it]
      dsimp only
      rw [e, v_seqN, v_set, v_var (d := .list (((signs i).flatMap ext).map letD)) rfl]
      rfl)
    ⟨_, _, _, _, rfl, rfl⟩
  rw [rangeD_length, Nat.zero_add, hWW] at e
  have e0 : F_l_signs [.dt (.int S)] W = Out.res (b_l_signs [.dt (.int S), .no, .no, .no, .no, .no] W) := rfl
  rw [e0]
  unfold b_l_signs
  have e1 : sSet 1 (eLst (aCons (eTup aNil) aNil)) [.dt (.int S), .no, .no, .no, .no, .no] W = .nx [.dt (.int S), .dt (.list ((signs 0).map letD)), .no, .no, .no, .no] W := by
    simp [signs, letD]
  have it : fiRange1 (aCons (eVar 0) aNil) [.dt (.int S), .dt (.list ((signs 0).map letD)), .no, .no, .no, .no] W = .ok (rangeD 0 S) W := by simp [hr]
  rw [v_seq, e1, v_seqN, v_seq, v_for, it]
  dsimp only
  rw [e, v_seqN, v_ret, v_var (d := .list ((signs S).map letD)) rfl]
  rfl
/-! ### so many letters of them -/
end Cl
set_option Elab.async false
set_option linter.all false
set_option maxRecDepth 100000
set_option maxHeartbeats 8000000
set_option autoImplicit false
namespace Cl
open PySem PySem.Spec PyProof.Rows L2 Lw
variable [KI : FragI]
/-! ### how long a repr is -/
omit KI in
theorem strOk_app {a b : Str} (h1 : PyData.strOk a = true) (h2 : PyData.strOk b = true) : PyData.strOk (a ++ b) = true := by
  unfold PyData.strOk at *
  rw [Str.cps_append, Array.all_append, h1, h2]
  rfl
omit KI in
theorem strOk_of (s : String) : PyData.strOk (Str.ofString s) = true := by
  unfold PyData.strOk
  rw [Str.ofString_eq_toList]
  simp only [List.all_toArray, List.all_map, List.all_eq_true]
  intro c _
  have h := c.valid
  have h2 : c.toNat < 0x110000 := by
    rcases h with h | h
    · exact Nat.lt_trans h (by decide)
    · exact h.2
  exact decide_eq_true h2
omit KI in
theorem strOk_join : ∀ {ts : List Str}, (∀ t ∈ ts, PyData.strOk t = true) → PyData.strOk (Str.join ", " ts) = true
  | [], _ => by
    show PyData.strOk ⟨#[]⟩ = true
    simp [PyData.strOk]
  | [x], h => h x List.mem_cons_self
  | x :: y :: r, h => by
    have ih := strOk_join (ts := y :: r) fun t ht => h t (List.mem_cons_of_mem _ ht)
    show PyData.strOk (x ++ ", " ++ Str.join ", " (y :: r)) = true
    exact strOk_app (strOk_app (h x List.mem_cons_self) (strOk_of ", ")) ih
omit KI in
theorem strOk_from : ∀ {ts : List Str} {k : Nat} {acc : Str}, PyData.strOk acc = true → (∀ t ∈ ts, PyData.strOk t = true) → PyData.strOk (textFrom k acc ts) = true
  | [], _, _, h, _ => h
  | t :: r, k, acc, h, hs => by
    show PyData.strOk (textFrom (k + 1) (acc ++ (if k > 0 then ", " else "" : String) ++ t) r) = true
    exact strOk_from (strOk_app (strOk_app h (strOk_of _)) (hs t List.mem_cons_self)) fun u hu => hs u (List.mem_cons_of_mem _ hu)
structure Shw (L : Nat) (d : Dt) : Prop where
  sh : d.showable = true
  le : d.shown.length ≤ L
  ok : PyData.strOk d.shown = true
omit KI in
theorem shownA : ∀ {xs : List Dt} {t : Str}, t ∈ PyData.shownAll xs → ∃ x ∈ xs, t = x.shown
  | x :: xs, t, h => by
    rcases List.mem_cons.mp (show t ∈ x.shown :: PyData.shownAll xs from h) with e | h
    · exact ⟨x, List.mem_cons_self, e⟩
    · obtain ⟨y, hy, e⟩ := shownA h
      exact ⟨y, List.mem_cons_of_mem _ hy, e⟩
omit KI in
theorem Shw.mono {L M : Nat} {d : Dt} (h : Shw L d) (hl : L ≤ M) : Shw M d := ⟨h.sh, Nat.le_trans h.le hl, h.ok⟩
omit KI in
theorem showA {L : Nat} : ∀ {xs : List Dt}, (∀ x ∈ xs, Shw L x) → PyData.showableAll xs = true ∧ piled (PyData.shownAll xs) ≤ xs.length * (L + 2)
  | [], _ => ⟨rfl, Nat.zero_le _⟩
  | x :: xs, h => by
    obtain ⟨h1, h2⟩ := showA fun y hy => h y (List.mem_cons_of_mem _ hy)
    have hx := h x List.mem_cons_self
    refine ⟨?_, ?_⟩
    · show (x.showable && PyData.showableAll xs) = true
      rw [hx.sh, h1]
      rfl
    · show piled (x.shown :: PyData.shownAll xs) ≤ _
      rw [piled_cons, List.length_cons, Nat.succ_mul]
      have := hx.le
      omega
omit KI in
theorem textFrom_le : ∀ (ts : List Str) (k : Nat) (acc : Str), (textFrom k acc ts).length ≤ acc.length + piled ts
  | [], k, acc => Nat.le_add_right _ _
  | t :: r, k, acc => by
    have h := textFrom_le r (k + 1) (acc ++ (if k > 0 then ", " else "" : String) ++ t)
    have e : (acc ++ (if k > 0 then ", " else "" : String) ++ t).length ≤ acc.length + 2 + t.length := by
      rw [strLen_append, strLen_append]
      have : ((if k > 0 then ", " else "" : String) : Str).length ≤ 2 := by split <;> decide
      omega
    show (textFrom (k + 1) (acc ++ (if k > 0 then ", " else "" : String) ++ t) r).length ≤ _
    rw [piled_cons]
    omega
omit KI in
theorem Shw.tup {L m : Nat} {xs : List Dt} (hl : xs.length ≤ m) (h : ∀ x ∈ xs, Shw L x) : Shw (m * (L + 2) + 3) (.tuple xs) := by
  obtain ⟨h1, h2⟩ := showA h
  have hj : ∀ t ∈ PyData.shownAll xs, PyData.strOk t = true := fun t ht => by
    obtain ⟨x, hx, rfl⟩ := shownA ht
    exact (h x hx).ok
  refine ⟨h1, ?_, strOk_app (strOk_app (strOk_of "(") (strOk_join hj)) (strOk_of _)⟩
  have h3 : xs.length * (L + 2) ≤ m * (L + 2) := Nat.mul_le_mul_right _ hl
  show (tupleText (PyData.shownAll xs)).length ≤ _
  unfold tupleText
  rw [strLen_append, strLen_append]
  have e1 : ((("(" : String) : Str)).length = 1 := rfl
  have e3 : (((if (PyData.shownAll xs).length == 1 then ",)" else ")" : String) : Str)).length ≤ 2 := by split <;> decide
  rw [e1]
  by_cases z : PyData.shownAll xs = []
  · rw [z]
    have : (Str.join ", " ([] : List Str)).length = 0 := rfl
    rw [z] at e3
    omega
  · have := join_length_add _ z
    omega
omit KI in
theorem Shw.lst {L m : Nat} {xs : List Dt} (hl : xs.length ≤ m) (h : ∀ x ∈ xs, Shw L x) : Shw (m * (L + 2) + 3) (.list xs) := by
  obtain ⟨h1, h2⟩ := showA h
  have hj : ∀ t ∈ PyData.shownAll xs, PyData.strOk t = true := fun t ht => by
    obtain ⟨x, hx, rfl⟩ := shownA ht
    exact (h x hx).ok
  refine ⟨h1, ?_, strOk_app (strOk_from (strOk_of "[") hj) (strOk_of "]")⟩
  have h3 : xs.length * (L + 2) ≤ m * (L + 2) := Nat.mul_le_mul_right _ hl
  show (textFrom 0 "[" (PyData.shownAll xs) ++ ("]" : String)).length ≤ _
  rw [strLen_append]
  have h4 := textFrom_le (PyData.shownAll xs) 0 "["
  have e1 : ((("[" : String) : Str)).length = 1 := rfl
  have e2 : ((("]" : String) : Str)).length = 1 := rfl
  omega
omit KI in
theorem Shw.int {i : Int} (h : i.natAbs < 2 ^ 1900) : Shw 1921 (.int i) := by
  have hl : i.natAbs.log2 < 1920 := Nat.lt_trans (PySem.Flt.log2_lt_of (by decide) h) (by decide)
  refine ⟨?_, int_text_len_1921 hl, strOk_of _⟩
  simp [PyData.showable, hl]
omit KI in
theorem ok_of {n L : Nat} {d : Dt} (hs : isSq d = true) (h : Shw L d) (hL : L ≤ 16000000) (hp : Plain n d) (hn : n ≤ 90) : showOk d = true := by
  obtain ⟨c1, c2⟩ := hp.can
  have c3 := PyData.hasDict_of_canLay d c1
  have c4 : d.depth ≤ 100 := by omega
  have c5 : d.shown.length ≤ sizeLine := by rw [sizeLine_eq]; exact Nat.le_trans h.le (by omega)
  unfold showOk
  rw [hs, h.sh, c3, decide_eq_true c4, decide_eq_true c5]
  rfl
end Cl
set_option Elab.async false
set_option linter.all false
set_option maxRecDepth 100000
set_option maxHeartbeats 8000000
set_option autoImplicit false
namespace Cl
open PySem PySem.Spec PyProof.Rows L2 Lw LwBI
variable [KI : FragI]
/-! ### any data: what is a number, a letter, dropped regions -/
omit KI in
theorem k_int_dict : kitB "dict" "int" = some false := by decide +kernel
omit KI in
theorem k_str_dict : kitB "dict" "str" = some false := by decide +kernel
omit KI in
theorem k_bool_dict : kitB "dict" "bool" = some false := by decide +kernel
omit KI in
theorem k_tuple_dict : kitB "dict" "tuple" = some false := by decide +kernel
omit KI in
theorem k_list_dict : kitB "dict" "list" = some false := by decide +kernel
@[simp] theorem is_int_dict {l : List (Dt × Dt)} : isT "int" (.dict l) = false := by
  show (kitB "dict" "int").getD false = _
  rw [k_int_dict] <;> rfl
@[simp] theorem is_str_dict {l : List (Dt × Dt)} : isT "str" (.dict l) = false := by
  show (kitB "dict" "str").getD false = _
  rw [k_str_dict] <;> rfl
@[simp] theorem is_bool_dict {l : List (Dt × Dt)} : isT "bool" (.dict l) = false := by
  show (kitB "dict" "bool").getD false = _
  rw [k_bool_dict] <;> rfl
@[simp] theorem is_tuple_dict {l : List (Dt × Dt)} : isT "tuple" (.dict l) = false := by
  show (kitB "dict" "tuple").getD false = _
  rw [k_tuple_dict] <;> rfl
@[simp] theorem is_list_dict {l : List (Dt × Dt)} : isT "list" (.dict l) = false := by
  show (kitB "dict" "list").getD false = _
  rw [k_list_dict] <;> rfl
inductive Gd : Nat → Dt → Prop
  | non {n : Nat} : Gd n .none
  | bl {n : Nat} (b : Bool) : Gd n (.bool b)
  | int {n : Nat} (i : Int) : Gd n (.int i)
  | str {n : Nat} {x : Str} (h : PyData.strOk x = true) : Gd n (.str x)
  | dct {n : Nat} : Gd n (.dict [])
  | lst {n : Nat} {l : List Dt} (hl : l.length ≤ 1000) (h : ∀ d ∈ l, Gd n d) : Gd (n + 1) (.list l)
  | tup {n : Nat} {l : List Dt} (hl : l.length ≤ 1000) (h : ∀ d ∈ l, Gd n d) : Gd (n + 1) (.tuple l)
omit KI in
theorem Plain.gd {n : Nat} {d : Dt} (h : Plain n d) : Gd n d := by
  induction h with
  | non => exact .non
  | bl b => exact .bl b
  | int i => exact .int i
  | str h => exact .str h
  | lst hl _ ih => exact .lst hl ih
  | tup hl _ ih => exact .tup hl ih
def num (lo hi : Int) : Dt → Bool
  | .int i => decide (lo ≤ i ∧ i ≤ hi)
  | _ => false
def sgn (S : Nat) : Dt → Bool
  | .tuple l => decide (l.length = S) && l.all (num 0 2)
  | _ => false
/-- no row is longer than a line -/
def Sh (d : Dt) : Prop := ∀ l : List Dt, d = .tuple l ∨ d = .list l → l.length ≤ 1000
omit KI in
theorem Gd.sh {n : Nat} {d : Dt} (h : Gd n d) : Sh d := fun l e => by
  cases h with
  | lst hl _ => rcases e with e | e <;> cases e; exact hl
  | tup hl _ => rcases e with e | e <;> cases e; exact hl
  | _ => rcases e with e | e <;> cases e
omit KI in
theorem Gd.tu {n : Nat} {l : List Dt} (h : Gd n (.tuple l)) : ∀ d ∈ l, ∃ m, Gd m d := by
  cases h with
  | tup _ h => exact fun d hd => ⟨_, h d hd⟩
theorem lc_mapZ {α : Type} {fg : FG} {fe : FE} {ρ : List Sl} {W : Option Well} (f E : α → Dt) (l : List α) (h : ∀ a ∈ l, ∃ ρ2, fg (f a) ρ = some ρ2 ∧ ∃ e, fe ρ2 W = .ok e W ∧ e.D = E a) : lcGo fg ftYes fe ρ (l.map f) W = .ok (l.map E) W := by
  have := lc_map (fg := fg) (ft := ftYes) (fe := fe) (ρ := ρ) (W := W) f (fun _ => true) (fun a => a) E l fun a ha => by
    obtain ⟨ρ2, e1, e, e2, e3⟩ := h a ha
    exact ⟨ρ2, e1, rfl, fun _ => ⟨e, e2, e3⟩⟩
  rw [this, List.map_id', List.filter_eq_self.mpr (fun _ _ => rfl)]
/-- the rows of d that are no numbers -/
theorem lc_bad {fg : FG} {ft : FT} {fe : FE} {ρ : List Sl} {W : Option Well} (p : Dt → Bool) (l : List Dt) (h : ∀ a ∈ l, ∃ ρ2, fg a ρ = some ρ2 ∧ ft ρ2 W = .ok (!p a) W ∧ fe ρ2 W = .ok (.d a) W) :
    lcGo fg ft fe ρ l W = .ok (l.filter fun a => !p a) W := by
  have := lc_map (fg := fg) (ft := ft) (fe := fe) (ρ := ρ) (W := W) (fun d : Dt => d) (fun a => !p a) (fun a => a) (fun d : Dt => d) l fun a ha => by
    obtain ⟨ρ2, e1, e2, e3⟩ := h a ha
    exact ⟨ρ2, e1, e2, fun _ => ⟨_, e3, rfl⟩⟩
  rw [List.map_id', List.map_id', List.map_id'] at this
  exact this
omit KI in
theorem filt_all (p : Dt → Bool) (l : List Dt) : (l.filter fun a => !p a).isEmpty = l.all p := by
  cases h : l.all p with
  | true => rw [List.filter_eq_nil_iff.mpr fun a ha => by simp [List.all_eq_true.mp h a ha]]; rfl
  | false =>
    obtain ⟨a, ha, hp⟩ := List.all_eq_false.mp h
    cases e : l.filter fun a => !p a with
    | nil => exact absurd (List.filter_eq_nil_iff.mp e a ha) (by simpa using hp)
    | cons _ _ => rfl
omit KI in
theorem num_all {lo hi : Int} : ∀ {l : List Dt}, l.all (num lo hi) = true → ∃ g : List Int, l = g.map .int ∧ ∀ r ∈ g, lo ≤ r ∧ r ≤ hi
  | [], _ => ⟨[], rfl, fun _ h => nomatch h⟩
  | d :: r, h => by
    rw [List.all_cons, Bool.and_eq_true] at h
    obtain ⟨g, e, hg⟩ := num_all h.2
    cases d with
    | int i =>
      refine ⟨i :: g, by rw [e]; rfl, fun x hx => ?_⟩
      rcases List.mem_cons.mp hx with rfl | hx
      · simpa [num] using h.1
      · exact hg x hx
    | _ => exact absurd h.1 (by simp [num])
omit KI in
theorem all_num {lo hi : Int} {g : List Int} (h : ∀ r ∈ g, lo ≤ r ∧ r ≤ hi) : (g.map PyData.int).all (num lo hi) = true := by
  rw [List.all_map]
  exact List.all_eq_true.mpr fun r hr => by simpa [num] using h r hr
def asc (g : List Int) : Bool := (g.zip (g.drop 1)).all fun p => decide (p.1 < p.2)
omit KI in
theorem asc_up : ∀ {g : List Int}, asc g = true → g.Pairwise (· < ·)
  | [], _ => .nil
  | [a], _ => List.pairwise_singleton _ _
  | a :: b :: r, h => by
    have h' : (decide (a < b) && asc (b :: r)) = true := h
    rw [Bool.and_eq_true, decide_eq_true_eq] at h'
    have ih := asc_up h'.2
    refine List.pairwise_cons.mpr ⟨fun x hx => ?_, ih⟩
    rcases List.mem_cons.mp hx with rfl | hx
    · exact h'.1
    · exact Int.lt_trans h'.1 ((List.pairwise_cons.mp ih).1 x hx)
def gonB (R : Nat) : Dt → Bool
  | .tuple l => decide (l.length < R) && (l.all (num 0 ((R : Int) - 1)) && asc ((allI l).getD []))
  | _ => false
end Cl
set_option Elab.async false
set_option linter.all false
set_option maxRecDepth 100000
set_option maxHeartbeats 8000000
set_option autoImplicit false
namespace Cl
open PySem PySem.Spec PyProof.Rows L2 Lw LwBI
variable [KI : FragI]
/-! ### small data of any kind: judged, shown -/
inductive Vd : Nat → Dt → Prop
  | non {n : Nat} : Vd n .none
  | bl {n : Nat} (b : Bool) : Vd n (.bool b)
  | int {n : Nat} {i : Int} (h : i.natAbs < 2 ^ 200) : Vd n (.int i)
  | str {n : Nat} {x : Str} (h : PyData.strOk x = true) (hs : Shw 1921 (.str x)) : Vd n (.str x)
  | dct {n : Nat} : Vd n (.dict [])
  | lst {n : Nat} {l : List Dt} (hl : l.length ≤ 10) (h : ∀ d ∈ l, Vd n d) : Vd (n + 1) (.list l)
  | tup {n : Nat} {l : List Dt} (hl : l.length ≤ 10) (h : ∀ d ∈ l, Vd n d) : Vd (n + 1) (.tuple l)
omit KI in
theorem Vd.gd {n : Nat} {d : Dt} (h : Vd n d) : Gd n d := by
  induction h with
  | non => exact .non
  | bl b => exact .bl b
  | int h => exact .int _
  | str h _ => exact .str h
  | dct => exact .dct
  | lst hl _ ih => exact .lst (by omega) ih
  | tup hl _ ih => exact .tup (by omega) ih
omit KI in
theorem Vd.up {n m : Nat} {d : Dt} (h : Vd n d) : n ≤ m → Vd m d := by
  induction h generalizing m with
  | non => exact fun _ => .non
  | bl b => exact fun _ => .bl b
  | int h => exact fun _ => .int h
  | str h hs => exact fun _ => .str h hs
  | dct => exact fun _ => .dct
  | lst hl _ ih => cases m with
    | zero => exact fun z => by omega
    | succ m => exact fun z => .lst hl fun d hd => ih d hd (by omega)
  | tup hl _ ih => cases m with
    | zero => exact fun z => by omega
    | succ m => exact fun z => .tup hl fun d hd => ih d hd (by omega)
def showL : Nat → Nat
  | 0 => 1921
  | n + 1 => 10 * (showL n + 2) + 3
omit KI in
theorem showL_ge : ∀ n, 1921 ≤ showL n
  | 0 => Nat.le_refl _
  | n + 1 => by have := showL_ge n; show _ ≤ 10 * (showL n + 2) + 3; omega
omit KI in
theorem Shw.non : Shw 1921 .none := ⟨rfl, by decide +kernel, by decide +kernel⟩
omit KI in
theorem Shw.bl (b : Bool) : Shw 1921 (.bool b) := by cases b <;> exact ⟨rfl, by decide +kernel, by decide +kernel⟩
omit KI in
theorem Shw.dct : Shw 1921 (.dict []) := ⟨rfl, by decide +kernel, by decide +kernel⟩
omit KI in
theorem Vd.shw {n : Nat} {d : Dt} (h : Vd n d) : Shw (showL n) d := by
  induction h with
  | non => exact Shw.non.mono (showL_ge _)
  | bl b => exact (Shw.bl b).mono (showL_ge _)
  | int h => exact (Shw.int (Nat.lt_trans h (Nat.pow_lt_pow_right (by decide) (by decide)))).mono (showL_ge _)
  | str h hs => exact hs.mono (showL_ge _)
  | dct => exact Shw.dct.mono (showL_ge _)
  | lst hl _ ih => exact Shw.lst hl ih
  | tup hl _ ih => exact Shw.tup hl ih
omit KI in
theorem depV {n : Nat} : ∀ {l : List Dt}, (∀ d ∈ l, d.depth ≤ n) → PyData.depthAll l ≤ n
  | [], _ => by simp only [PyData.depthAll]; omega
  | d :: r, h => by
    have h1 := h d List.mem_cons_self
    have h2 := depV fun x hx => h x (List.mem_cons_of_mem _ hx)
    simp only [PyData.depthAll]
    omega
omit KI in
theorem Vd.dep {n : Nat} {d : Dt} (h : Vd n d) : d.depth ≤ n + 1 := by
  induction h with
  | non => simp only [PyData.depth]; omega
  | bl b => simp only [PyData.depth]; omega
  | int h => simp only [PyData.depth]; omega
  | str h hs => simp only [PyData.depth]; omega
  | dct => simp only [PyData.depth, PyData.depthKv]; omega
  | lst hl _ ih =>
    have := depV ih
    simp only [PyData.depth]
    omega
  | tup hl _ ih =>
    have := depV ih
    simp only [PyData.depth]
    omega
omit KI in
theorem nokvs : ∀ {l : List Dt}, (∀ d ∈ l, noKv d = true) → noKvs l = true
  | [], _ => by simp only [noKvs]
  | d :: r, h => by
    have h1 := h d List.mem_cons_self
    have h2 := nokvs fun x hx => h x (List.mem_cons_of_mem _ hx)
    simp only [noKvs, h1, h2, Bool.and_self]
omit KI in
theorem Vd.nokv {n : Nat} {d : Dt} (h : Vd n d) : noKv d = true := by
  induction h with
  | non => simp only [noKv]
  | bl b => simp only [noKv]
  | int h => simp only [noKv]
  | str h hs => simp only [noKv]
  | dct => simp only [noKv]
  | lst hl _ ih => simp only [noKv]; exact nokvs ih
  | tup hl _ ih => simp only [noKv]; exact nokvs ih
omit KI in
theorem Vd.okX {n : Nat} {d : Dt} (h : Vd n d) (hn : n ≤ 3) : showOkX d = true := by
  have h1 := h.shw
  have h2 := h.dep
  have h3 : showL n ≤ 1923553 := by
    match n, hn with
    | 0, _ => decide
    | 1, _ => decide
    | 2, _ => decide
    | 3, _ => decide
  have h4 : d.shown.length ≤ sizeLine := by rw [sizeLine_eq]; exact Nat.le_trans h1.le (by omega)
  unfold showOkX
  rw [h.nokv, h1.sh, decide_eq_true (by omega : d.depth ≤ 100), decide_eq_true h4]
  rfl
omit KI in
theorem Vd.str1 : Vd 0 (.str (Str.ofString "1")) := .str (by decide +kernel) ⟨rfl, by decide +kernel, by decide +kernel⟩
omit KI in
theorem Vd.str0 : Vd 0 (.str (Str.ofString "")) := .str (by decide +kernel) ⟨rfl, by decide +kernel, by decide +kernel⟩
omit KI in
theorem Vd.str3 : Vd 0 (.str (Str.ofString "3")) := .str (by decide +kernel) ⟨rfl, by decide +kernel, by decide +kernel⟩
omit KI in
theorem Vd.strr : Vd 0 (.str (Str.ofString "r")) := .str (by decide +kernel) ⟨rfl, by decide +kernel, by decide +kernel⟩
omit KI in
theorem Vd.sh {n : Nat} {d : Dt} (h : Vd n d) : Sh d := h.gd.sh
/-- a part of a row -/
theorem v_sl {l : List Dt} {i j : Nat} : True := trivial
end Cl
set_option Elab.async false
set_option linter.all false
set_option maxRecDepth 100000
set_option maxHeartbeats 8000000
set_option autoImplicit false
namespace Cl
open PySem PySem.Spec PyProof.Rows L2 Lw
variable [KI : FragI]
/-! ### rows of drawn things -/
theorem lc_draw {α : Type} {fg : FG} {fe : FE} {ρ : List Sl} (D : α → Dt) (Pr : α → Prop) (c n : Nat)
    (h : ∀ i < n, ∀ k w, wOk (k + c) w → ∃ ρ2, fg (.int (i : Nat)) ρ = some ρ2 ∧ ∃ a w' e, fe ρ2 (some w) = .ok e (some w') ∧ e.D = D a ∧ Pr a ∧ wOk k w') {k : Nat} {w : Well} (hw : wOk (k + c * n) w) :
    ∃ (as : List α) (w' : Well), lcGo fg ftYes fe ρ (rangeD 0 n) (some w) = .ok (as.map D) (some w') ∧ as.length = n ∧ (∀ a ∈ as, Pr a) ∧ wOk k w' := by
  obtain ⟨r, W', e, ⟨w', rfl, hk, as, has, hl, hp⟩⟩ := lcGo_inv (fg := fg) (ft := ftYes) (fe := fe) (ρ := ρ) (fun i W acc => ∃ w', W = some w' ∧ wOk (k + c * (n - i)) w' ∧ ∃ as : List α, acc = as.map D ∧ as.length = i ∧ ∀ a ∈ as, Pr a) (rangeD 0 n) 0 (some w) []
    (fun i d W acc hd ⟨w1, e1, e2, as, e3, e4, e5⟩ => by
      subst e1
      obtain ⟨rfl, hi⟩ := rangeD_get hd
      rw [Nat.zero_add] at e2 e4
      have hc : k + c * (n - i) = (k + c * (n - (i + 1))) + c := by
        have : n - i = (n - (i + 1)) + 1 := by omega
        rw [this, Nat.mul_add, Nat.mul_one, Nat.add_assoc]
      rw [hc] at e2
      obtain ⟨ρ2, q1, a, w2, ev, q2, q3, q4, q5⟩ := h i hi _ w1 e2
      refine ⟨ρ2, some w1, true, by rw [Int.zero_add]; exact q1, rfl, fun z => (nomatch z), fun _ => ⟨ev, some w2, q2, w2, rfl, by rw [Nat.zero_add]; exact q5, as ++ [a], ?_, ?_, ?_⟩⟩
      · rw [e3, List.map_append, q3]; rfl
      · rw [List.length_append, e4]; simp
      · intro x hx
        rcases List.mem_append.mp hx with z | z
        · exact e5 x z
        · rw [List.mem_singleton.mp z]; exact q4)
    ⟨w, rfl, by simpa using hw, [], rfl, rfl, fun _ z => nomatch z⟩
  rw [rangeD_length, Nat.zero_add] at hk hl
  rw [List.nil_append] at has
  subst has
  exact ⟨as, w', e, hl, hp, by simpa using hk⟩
theorem for_draw {α : Type} {g : FG} {b : FS} (D : α → Dt) (Pr : Nat → α → Prop) (c n : Nat) (I : List Dt → List Sl → Prop)
    (h : ∀ i < n, ∀ k w acc ρ, I acc ρ → acc.length = i → wOk (k + c) w → ∃ ρ1, g (.int (i : Nat)) ρ = some ρ1 ∧ ∃ ρ2 w' a, b ρ1 (some w) = .nx ρ2 (some w') ∧ I (acc ++ [D a]) ρ2 ∧ Pr i a ∧ wOk k w') {ρ : List Sl} (h0 : I [] ρ) {k : Nat} {w : Well} (hw : wOk (k + c * n) w) :
    ∃ (ρ' : List Sl) (w' : Well) (as : List α), forGo g b (rangeD 0 n) ρ (some w) = .nx ρ' (some w') ∧ I (as.map D) ρ' ∧ as.length = n ∧ (∀ (i : Nat) (a : α), as[i]? = some a → Pr i a) ∧ wOk k w' := by
  obtain ⟨ρ', W', e, ⟨w', as, rfl, hI, hl, hp, hk⟩⟩ := forGo_inv (g := g) (f := b) (fun i ρ W => ∃ (w' : Well) (as : List α), W = some w' ∧ I (as.map D) ρ ∧ as.length = i ∧ (∀ (j : Nat) (a : α), as[j]? = some a → Pr j a) ∧ wOk (k + c * (n - i)) w') (rangeD 0 n) 0 ρ (some w)
    (fun i d ρ W hd ⟨w1, as, e1, e2, e3, e4, e5⟩ => by
      subst e1
      obtain ⟨rfl, hi⟩ := rangeD_get hd
      rw [Nat.zero_add] at e3 e5
      have hc : k + c * (n - i) = (k + c * (n - (i + 1))) + c := by
        have : n - i = (n - (i + 1)) + 1 := by omega
        rw [this, Nat.mul_add, Nat.mul_one, Nat.add_assoc]
      rw [hc] at e5
      obtain ⟨ρ1, q1, ρ2, w2, a, q2, q3, q4, q5⟩ := h i hi _ w1 _ ρ e2 (by rw [List.length_map]; exact e3) e5
      refine ⟨ρ1, by rw [Int.zero_add]; exact q1, ρ2, some w2, q2, w2, as ++ [a], rfl, ?_, ?_, ?_, by rw [Nat.zero_add]; exact q5⟩
      · rw [List.map_append]; exact q3
      · rw [List.length_append, e3]; simp
      · intro j x hx
        by_cases z : j < as.length
        · rw [List.getElem?_append_left z] at hx
          exact e4 j x hx
        · rw [List.getElem?_append_right (by omega)] at hx
          have : j = as.length := by
            by_cases y : j - as.length = 0
            · omega
            · obtain ⟨m, hm⟩ := Nat.exists_eq_succ_of_ne_zero y
              rw [hm] at hx
              simp at hx
          subst this
          rw [Nat.sub_self] at hx
          have : a = x := by simpa using hx
          subst this
          rw [e3]
          exact q4)
    ⟨w, [], rfl, h0, rfl, fun _ _ z => by simp at z, by simpa using hw⟩
  rw [rangeD_length, Nat.zero_add] at hk hl
  exact ⟨ρ', w', as, e, hI, hl, hp, by simpa using hk⟩
/-! ### conditions, actions -/
/-! ### stages -/
structure okZ (h wd nn ng : Nat) : Prop where
  h : 1 ≤ h ∧ h ≤ 10
  wd : 1 ≤ wd ∧ wd ≤ 4
  nn : nn ≤ 4
  ng : ng ≤ 4
def szD (h wd nn ng : Nat) : Dt := .tuple [.int h, .int wd, .int nn, .int ng]
section
variable {R S a h wd nn ng k : Nat} {w : Well} (hR : 1 ≤ R ∧ R ≤ 4) (hS : 1 ≤ S ∧ S ≤ 100) (ha : a ≤ 100) (hz : okZ h wd nn ng)
include hR hS ha hz
end
end Cl
set_option Elab.async false
set_option linter.all false
set_option maxRecDepth 100000
set_option maxHeartbeats 8000000
set_option autoImplicit false
namespace Cl
open PySem PySem.Spec PyProof.Rows L2 Lw LwBI
variable [KI : FragI]
/-! ### any data: what is a behaviour -/
theorem forB_find {α : Type} {g : FG} {b : FS} {W : Option Well} (f : α → Dt) (p : α → Bool) (r : α → Ev) (I : List Sl → Prop) : ∀ (l : List α) (ρ : List Sl),
    (∀ a ∈ l, ∀ ρ, I ρ → ∃ ρ1, g (f a) ρ = some ρ1 ∧ (p a = true → b ρ1 W = .rt (r a) W) ∧ (p a = false → ∃ ρ2, (b ρ1 W = .nx ρ2 W ∨ b ρ1 W = .ct ρ2 W) ∧ I ρ2)) → I ρ →
    (∃ a, l.find? p = some a ∧ a ∈ l ∧ p a = true ∧ forB g b (l.map f) ρ W = .rt (r a) W) ∨ (l.find? p = none ∧ ∃ ρ', forB g b (l.map f) ρ W = .nx ρ' W ∧ I ρ')
  | [], ρ, _, h => .inr ⟨rfl, ρ, rfl, h⟩
  | a :: l, ρ, hs, h => by
    obtain ⟨ρ1, e1, h1, h2⟩ := hs a List.mem_cons_self ρ h
    have go : forB g b ((a :: l).map f) ρ W = (match b ρ1 W with | .nx ρ2 W2 => forB g b (l.map f) ρ2 W2 | .ct ρ2 W2 => forB g b (l.map f) ρ2 W2 | o => o) := by
      rw [List.map_cons]
      simp only [forB, e1]
      all_goals (cases b ρ1 W <;> rfl)
    rw [go]
    cases hp : p a with
    | true =>
      refine .inl ⟨a, by rw [List.find?_cons_of_pos hp], List.mem_cons_self, hp, ?_⟩
      rw [h1 hp]
    | false =>
      obtain ⟨ρ2, e2, i2⟩ := h2 hp
      have hn : ¬ p a = true := by rw [hp]; decide
      have ih := forB_find f p r I l ρ2 (fun x hx => hs x (List.mem_cons_of_mem _ hx)) i2
      have hgo : (match b ρ1 W with | .nx ρ2 W2 => forB g b (l.map f) ρ2 W2 | .ct ρ2 W2 => forB g b (l.map f) ρ2 W2 | o => o) = forB g b (l.map f) ρ2 W := by
        rcases e2 with e2 | e2 <;> rw [e2]
      rw [hgo, List.find?_cons_of_neg hn]
      rcases ih with ⟨x, q1, q2, q3, q4⟩ | q
      · exact .inl ⟨x, q1, List.mem_cons_of_mem _ q2, q3, q4⟩
      · exact .inr q
def frm (lo : Int) : Dt → Bool
  | .int i => decide (lo ≤ i)
  | _ => false
theorem from_any (d : Dt) (lo : Int) (W : Option Well) : F_is_from [.dt d, .dt (.int lo)] W = .ok (.d (.bool (frm lo d))) W := by
  cases d with
  | int v => by_cases h : lo ≤ v <;> simp [F_is_from, b_is_from, frm, isB, h]
  | bool b => by_cases h : lo ≤ b2n b <;> cases b <;> simp [F_is_from, b_is_from, frm, isB, h]
  | _ => simp [F_is_from, b_is_from, frm]
def grd : Dt → Bool
  | .none => true
  | d => num 0 2 d
def edgB (N : Int) (S : Nat) : Dt → Bool
  | .tuple [a, .tuple p, b] => num 0 (N - 1) a && (num 0 (N - 1) b && (decide (p.length = S) && p.all grd))
  | _ => false
def manB (S : Nat) : Dt → Bool
  | .tuple [.int n, .tuple es] => decide (1 ≤ n) && es.all (edgB n S)
  | _ => false
theorem edgL1 (E x3 x5 x6 x7 d : Dt) (N : Int) (S : Nat) (W : Option Well) : (grd d = false → b_are_edges_L1 [.dt E, .dt (.int N), .dt (.int S), .dt x3, .dt d, .dt x5, .dt x6, .dt x7] W = .rt (.d (.bool false)) W) ∧
    (grd d = true → b_are_edges_L1 [.dt E, .dt (.int N), .dt (.int S), .dt x3, .dt d, .dt x5, .dt x6, .dt x7] W = .nx [.dt E, .dt (.int N), .dt (.int S), .dt x3, .dt d, .dt x5, .dt x6, .dt x7] W ∨ b_are_edges_L1 [.dt E, .dt (.int N), .dt (.int S), .dt x3, .dt d, .dt x5, .dt x6, .dt x7] W = .ct [.dt E, .dt (.int N), .dt (.int S), .dt x3, .dt d, .dt x5, .dt x6, .dt x7] W) := by
  cases d with
  | int v => by_cases h : 0 ≤ v <;> by_cases h1 : v ≤ 2 <;> simp [b_are_edges_L1, isNone, grd, num, isB, h, h1]
  | bool b => cases b <;> simp [b_are_edges_L1, isNone, grd, num, isB, b2n]
  | none => simp [b_are_edges_L1, isNone, grd]
  | _ => simp [b_are_edges_L1, isNone, grd, num]
def nodeT (i : Nat) : FT := tOrF (tNotF (tOfE (eIs "int" (eVar i)))) (tOrF (tNotF (tOfB (eChain gLeX gLtX (eC (.int 0)) (eVar i) (eVar 1)))) (tOrF (tOfB (eBin gIsX (eVar i) (eC (.bool true)))) (tOfB (eBin gIsX (eVar i) (eC (.bool false))))))
theorem node5 (E d a p b : Dt) (N : Int) (S : Nat) (x4 : Sl) (W : Option Well) : nodeT 5 [.dt E, .dt (.int N), .dt (.int S), .dt d, x4, .dt a, .dt p, .dt b] W = .ok (!num 0 (N - 1) a) W := by
  cases a with
  | int v =>
    have e : (v ≤ N - 1) = (v < N) := propext ⟨fun h => by omega, fun h => by omega⟩
    by_cases h : 0 ≤ v <;> by_cases h1 : v < N <;> simp [nodeT, num, isB, h, h1, e]
  | bool b => cases b <;> by_cases h : (0 : Int) < N <;> by_cases h1 : (1 : Int) < N <;> simp [nodeT, num, isB, b2n, h, h1]
  | _ => simp [nodeT, num]
theorem node7 (E d a p b : Dt) (N : Int) (S : Nat) (x4 : Sl) (W : Option Well) : nodeT 7 [.dt E, .dt (.int N), .dt (.int S), .dt d, x4, .dt a, .dt p, .dt b] W = .ok (!num 0 (N - 1) b) W := by
  cases b with
  | int v =>
    have e : (v ≤ N - 1) = (v < N) := propext ⟨fun h => by omega, fun h => by omega⟩
    by_cases h : 0 ≤ v <;> by_cases h1 : v < N <;> simp [nodeT, num, isB, h, h1, e]
  | bool b => cases b <;> by_cases h : (0 : Int) < N <;> by_cases h1 : (1 : Int) < N <;> simp [nodeT, num, isB, b2n, h, h1]
  | _ => simp [nodeT, num]
theorem edgL2 {E d : Dt} {N : Int} {S : Nat} {x4 x5 x6 x7 : Sl} {n : Nat} (hd : Gd n d) (W : Option Well) : if edgB N S d = true then ∃ y4 y5 y6 y7, b_are_edges_L2 [.dt E, .dt (.int N), .dt (.int S), .dt d, x4, x5, x6, x7] W = .nx [.dt E, .dt (.int N), .dt (.int S), .dt d, y4, y5, y6, y7] W
    else b_are_edges_L2 [.dt E, .dt (.int N), .dt (.int S), .dt d, x4, x5, x6, x7] W = .rt (.d (.bool false)) W := by
  cases d with
  | tuple l =>
    by_cases h3 : l.length = 3
    · match l, h3 with
      | [a, p, b], _ =>
        obtain ⟨m, hp⟩ := hd.tu p (by simp)
        have t1 : sIf (tOrF (tNotF (tOfE (eIs "tuple" (eVar 3)))) (tOfB (eBin gNe (eCall gLen (aCons (eVar 3) aNil)) (eC (.int 3))))) (sRet (eC (.bool false))) sSkip [.dt E, .dt (.int N), .dt (.int S), .dt (.tuple [a, p, b]), x4, x5, x6, x7] W = .nx [.dt E, .dt (.int N), .dt (.int S), .dt (.tuple [a, p, b]), x4, x5, x6, x7] W := by simp
        have t2 : sAsg (eVar 3) (fgTup (fgCons (fgName 5) (fgCons (fgName 6) (fgCons (fgName 7) fgNil)))) [.dt E, .dt (.int N), .dt (.int S), .dt (.tuple [a, p, b]), x4, x5, x6, x7] W = .nx [.dt E, .dt (.int N), .dt (.int S), .dt (.tuple [a, p, b]), x4, .dt a, .dt p, .dt b] W := by simp
        have t3 : sIf (nodeT 5) (sRet (eC (.bool false))) sSkip [.dt E, .dt (.int N), .dt (.int S), .dt (.tuple [a, p, b]), x4, .dt a, .dt p, .dt b] W = if num 0 (N - 1) a = true then .nx [.dt E, .dt (.int N), .dt (.int S), .dt (.tuple [a, p, b]), x4, .dt a, .dt p, .dt b] W else .rt (.d (.bool false)) W := by
          rw [v_sif, node5]; cases num 0 (N - 1) a <;> rfl
        have t4 : sIf (nodeT 7) (sRet (eC (.bool false))) sSkip [.dt E, .dt (.int N), .dt (.int S), .dt (.tuple [a, p, b]), x4, .dt a, .dt p, .dt b] W = if num 0 (N - 1) b = true then .nx [.dt E, .dt (.int N), .dt (.int S), .dt (.tuple [a, p, b]), x4, .dt a, .dt p, .dt b] W else .rt (.d (.bool false)) W := by
          rw [v_sif, node7]; cases num 0 (N - 1) b <;> rfl
        unfold nodeT at t3 t4
        unfold b_are_edges_L2
        rw [v_seq, t1, v_seqN, v_seq, t2, v_seqN, v_seq, t3]
        cases na : num 0 (N - 1) a with
        | false =>
          have r0 : edgB N S (.tuple [a, p, b]) = false := by cases p <;> simp [edgB, na]
          rw [if_neg (by rw [r0]; decide), if_neg (by decide), v_seqR]
        | true =>
        rw [if_pos rfl, v_seqN, v_seq, t4]
        cases nb : num 0 (N - 1) b with
        | false =>
          have r0 : edgB N S (.tuple [a, p, b]) = false := by cases p <;> simp [edgB, nb]
          rw [if_neg (by rw [r0]; decide), if_neg (by decide), v_seqR]
        | true =>
          rw [if_pos rfl, v_seqN]
          cases p with
          | tuple pl =>
            have hpl : pl.length ≤ lineN := line_ok (by have := hp.sh pl (.inl rfl); omega)
            by_cases hS : pl.length = S
            · have go := forB_find (g := fgName 4) (b := b_are_edges_L1) (W := W) (fun d : Dt => d) (fun d => !grd d) (fun _ => .d (.bool false)) (fun ρ => ∃ y, ρ = [.dt E, .dt (.int N), .dt (.int S), .dt (.tuple [a, .tuple pl, b]), y, .dt a, .dt (.tuple pl), .dt b]) pl [.dt E, .dt (.int N), .dt (.int S), .dt (.tuple [a, .tuple pl, b]), x4, .dt a, .dt (.tuple pl), .dt b]
                (fun c hc ρ ⟨y, hρ⟩ => by
                  subst hρ
                  have k := edgL1 E (.tuple [a, .tuple pl, b]) a (.tuple pl) b c N S W
                  refine ⟨_, rfl, fun q => k.1 (by simpa using q), fun q => ⟨_, k.2 (by simpa using q), _, rfl⟩⟩)
                ⟨_, rfl⟩
              rw [List.map_id'] at go
              rcases go with ⟨c, _, hc, q, e⟩ | ⟨hn, ρ', e, y, rfl⟩
              · have r0 : edgB N S (.tuple [a, .tuple pl, b]) = false := by
                  have : pl.all grd = false := List.all_eq_false.mpr ⟨c, hc, by simpa using q⟩
                  simp [edgB, this]
                rw [if_neg (by rw [r0]; decide)]
                simp [hS, hpl, e]
              · have r0 : edgB N S (.tuple [a, .tuple pl, b]) = true := by
                  have : pl.all grd = true := List.all_eq_true.mpr fun c hc => by
                    have := List.find?_eq_none.mp hn c hc
                    simpa using this
                  simp [edgB, this, na, nb, hS]
                rw [if_pos r0]
                refine ⟨y, .dt a, .dt (.tuple pl), .dt b, ?_⟩
                simp [hS, hpl, e]
            · have r0 : edgB N S (.tuple [a, .tuple pl, b]) = false := by simp [edgB, hS]
              have hS' : ¬ ((pl.length : Int) = (S : Int)) := by omega
              rw [if_neg (by rw [r0]; decide)]
              simp [hS, hS']
          | _ =>
            rw [if_neg (by simp [edgB])]
            simp
    · have h3' : ¬ ((l.length : Int) = 3) := by omega
      have r0 : edgB N S (.tuple l) = false := by
        unfold edgB
        split
        · rename_i q; cases q; simp at h3
        · rfl
      rw [if_neg (by rw [r0]; decide)]
      simp [b_are_edges_L2, h3']
  | _ =>
    rw [if_neg (by simp [edgB])]
    simp [b_are_edges_L2]
theorem edges_any {es : List Dt} {N : Int} {S n : Nat} (hl : es.length ≤ 1000) (hd : ∀ d ∈ es, Gd n d) (W : Option Well) : F_are_edges [.dt (.tuple es), .dt (.int N), .dt (.int S)] W = .ok (.d (.bool (es.all (edgB N S)))) W := by
  have hle : es.length ≤ lineN := line_ok (by omega)
  have go := for_find (g := fgName 3) (b := b_are_edges_L2) (W := W) (fun d : Dt => d) (fun d => !edgB N S d) (fun _ => .d (.bool false)) (fun ρ => ∃ x y4 y5 y6 y7, ρ = [.dt (.tuple es), .dt (.int N), .dt (.int S), x, y4, y5, y6, y7]) es [.dt (.tuple es), .dt (.int N), .dt (.int S), .no, .no, .no, .no, .no]
    (fun a ha ρ ⟨x, y4, y5, y6, y7, hρ⟩ => by
      subst hρ
      have k := edgL2 (E := .tuple es) (N := N) (S := S) (x4 := y4) (x5 := y5) (x6 := y6) (x7 := y7) (hd a ha) W
      refine ⟨_, rfl, fun hp => ?_, fun hp => ?_⟩
      · rw [if_neg (by simpa using hp)] at k
        exact k
      · rw [if_pos (by simpa using hp)] at k
        obtain ⟨z4, z5, z6, z7, k⟩ := k
        exact ⟨_, k, _, _, _, _, _, rfl⟩)
    ⟨_, _, _, _, _, rfl⟩
  rw [List.map_id'] at go
  rcases go with ⟨a, _, ha, hp, e⟩ | ⟨hn, ρ', e, x, y4, y5, y6, y7, rfl⟩
  · have : es.all (edgB N S) = false := List.all_eq_false.mpr ⟨a, ha, by simpa using hp⟩
    rw [this]
    simp [F_are_edges, b_are_edges, hle, e]
  · have : es.all (edgB N S) = true := List.all_eq_true.mpr fun a ha => by
      have := List.find?_eq_none.mp hn a ha
      simpa using this
    rw [this]
    simp [F_are_edges, b_are_edges, hle, e]
omit KI in
theorem Gd.up2 {n : Nat} {d : Dt} (h : Gd n d) : Gd (n + 1) d := by
  induction h with
  | non => exact .non
  | bl b => exact .bl b
  | int i => exact .int i
  | str h => exact .str h
  | dct => exact .dct
  | lst hl _ ih => exact .lst hl ih
  | tup hl _ ih => exact .tup hl ih
theorem behof_any {d : Dt} {S n : Nat} (hd : Gd n d) (W : Option Well) : F_is_behaviour_of [.dt d, .dt (.int S)] W = .ok (.d (.bool (manB S d))) W := by
  cases d with
  | tuple l =>
    match l, hd with
    | [a, e], hd =>
      have fa := from_any a 1 W
      obtain ⟨m, he⟩ := hd.tu e (by simp)
      cases a with
      | int v =>
        cases e with
        | tuple es =>
          by_cases h1 : 1 ≤ v
          · have ed := edges_any (es := es) (N := v) (S := S) (n := m) (he.sh es (.inl rfl)) (fun d hd => by cases he with | tup _ h => exact Gd.up2 (h d hd)) W
            have fa : F_is_from [.dt (.int v), .dt (.int 1)] W = .ok (.d (.bool true)) W := by rw [fa]; simp [frm, h1]
            simp [F_is_behaviour_of, b_is_behaviour_of, fa, ed, manB, h1]
          · have fa : F_is_from [.dt (.int v), .dt (.int 1)] W = .ok (.d (.bool false)) W := by rw [fa]; simp [frm, h1]
            simp [F_is_behaviour_of, b_is_behaviour_of, fa, manB, h1]
        | _ =>
          simp only [frm] at fa
          by_cases h1 : 1 ≤ v <;> simp [F_is_behaviour_of, b_is_behaviour_of, fa, manB, h1]
      | _ =>
        simp only [frm] at fa
        simp [F_is_behaviour_of, b_is_behaviour_of, fa, manB]
    | [], _ => simp [F_is_behaviour_of, b_is_behaviour_of, manB]
    | [_], _ => simp [F_is_behaviour_of, b_is_behaviour_of, manB]
    | x :: y :: z :: r, _ =>
      have h3 : ¬ ((r.length : Int) + 1 + 1 + 1 = 2) := by omega
      simp [F_is_behaviour_of, b_is_behaviour_of, manB, h3]
  | _ => simp [F_is_behaviour_of, b_is_behaviour_of, manB]
theorem behaviour_any {d : Dt} {S n : Nat} (hS : 1 ≤ S) (hd : Gd n d) (W : Option Well) : F_is_behaviour [.dt (.int S), .dt d] W = .ok (.d (.bool (manB S d))) W := by
  have h1 := from_any (.int S) 1 W
  have hs : (1 : Int) ≤ S := by omega
  rw [show frm 1 (.int S) = true by simp [frm, hs]] at h1
  have h2 := behof_any (S := S) hd W
  simp [F_is_behaviour, b_is_behaviour, F_check_signal_number, b_check_signal_number, h1, h2]
end Cl
set_option Elab.async false
set_option linter.all false
set_option maxRecDepth 100000
set_option maxHeartbeats 8000000
set_option autoImplicit false
namespace Cl
open PySem PySem.Spec PyProof.Rows L2 Lw LwBI
variable [KI : FragI]
/-! ### k28: small data of any kind, level by level; the law's own judge -/
inductive Vm : List Nat → Dt → Prop
  | non {ms : List Nat} : Vm ms .none
  | bl {ms : List Nat} (b : Bool) : Vm ms (.bool b)
  | int {ms : List Nat} {i : Int} (h : i.natAbs < 2 ^ 60) : Vm ms (.int i)
  | str {ms : List Nat} {x : Str} (h : PyData.strOk x = true) (hs : Shw 1921 (.str x)) : Vm ms (.str x)
  | dct {ms : List Nat} : Vm ms (.dict [])
  | lst {m : Nat} {ms : List Nat} {l : List Dt} (hl : l.length ≤ m) (hm : 1 ≤ m ∧ m ≤ 40) (h : ∀ d ∈ l, Vm ms d) : Vm (m :: ms) (.list l)
  | tup {m : Nat} {ms : List Nat} {l : List Dt} (hl : l.length ≤ m) (hm : 1 ≤ m ∧ m ≤ 40) (h : ∀ d ∈ l, Vm ms d) : Vm (m :: ms) (.tuple l)
omit KI in
theorem Vm.gd {ms : List Nat} {d : Dt} (h : Vm ms d) : Gd ms.length d := by
  induction h with
  | non => exact .non
  | bl b => exact .bl b
  | int h => exact .int _
  | str h _ => exact .str h
  | dct => exact .dct
  | lst hl _ _ ih => exact .lst (by omega) ih
  | tup hl _ _ ih => exact .tup (by omega) ih
def showM : List Nat → Nat
  | [] => 1921
  | m :: ms => m * (showM ms + 2) + 3
omit KI in
theorem Vm.ge : ∀ {ms : List Nat}, (∀ m ∈ ms, 1 ≤ m) → 1921 ≤ showM ms
  | [], _ => Nat.le_refl _
  | m :: ms, h => by
    have h1 := Vm.ge (ms := ms) fun x hx => h x (List.mem_cons_of_mem _ hx)
    have h2 := h m List.mem_cons_self
    have h3 : 1 * (showM ms + 2) ≤ m * (showM ms + 2) := Nat.mul_le_mul_right _ h2
    show 1921 ≤ m * (showM ms + 2) + 3
    omega
omit KI in
theorem Vm.shw {ms : List Nat} {d : Dt} (h : Vm ms d) : (∀ m ∈ ms, 1 ≤ m) → Shw (showM ms) d := by
  induction h with
  | non => exact fun q => Shw.non.mono (Vm.ge q)
  | bl b => exact fun q => (Shw.bl b).mono (Vm.ge q)
  | int h => exact fun q => (Shw.int (Nat.lt_trans h (Nat.pow_lt_pow_right (by decide) (by decide)))).mono (Vm.ge q)
  | str h hs => exact fun q => hs.mono (Vm.ge q)
  | dct => exact fun q => Shw.dct.mono (Vm.ge q)
  | lst hl _ _ ih => exact fun q => Shw.lst hl fun x hx => ih x hx fun m hm => q m (List.mem_cons_of_mem _ hm)
  | tup hl _ _ ih => exact fun q => Shw.tup hl fun x hx => ih x hx fun m hm => q m (List.mem_cons_of_mem _ hm)
omit KI in
theorem Vm.dep {ms : List Nat} {d : Dt} (h : Vm ms d) : d.depth ≤ ms.length + 1 := by
  induction h with
  | non => simp only [PyData.depth]; omega
  | bl b => simp only [PyData.depth]; omega
  | int h => simp only [PyData.depth]; omega
  | str h hs => simp only [PyData.depth]; omega
  | dct => simp only [PyData.depth, PyData.depthKv]; omega
  | lst hl _ _ ih =>
    have := depV ih
    simp only [PyData.depth, List.length_cons]
    omega
  | tup hl _ _ ih =>
    have := depV ih
    simp only [PyData.depth, List.length_cons]
    omega
omit KI in
theorem Vm.nokv {ms : List Nat} {d : Dt} (h : Vm ms d) : noKv d = true := by
  induction h with
  | non => simp only [noKv]
  | bl b => simp only [noKv]
  | int h => simp only [noKv]
  | str h hs => simp only [noKv]
  | dct => simp only [noKv]
  | lst hl _ _ ih => simp only [noKv]; exact nokvs ih
  | tup hl _ _ ih => simp only [noKv]; exact nokvs ih
abbrev mL : List Nat := [4, 32, 4, 4, 2]
omit KI in
theorem mL1 : ∀ m ∈ mL, 1 ≤ m := by decide
omit KI in
theorem Vm.okX {d : Dt} (h : Vm mL d) : showOkX d = true := by
  have h1 := h.shw mL1
  have h2 : d.depth ≤ 6 := h.dep
  have h3 : showM mL ≤ 16000000 := by decide
  have h4 : d.shown.length ≤ sizeLine := by rw [sizeLine_eq]; exact Nat.le_trans h1.le (by omega)
  unfold showOkX
  rw [h.nokv, h1.sh, decide_eq_true (by omega : d.depth ≤ 100), decide_eq_true h4]
  rfl
/-- an odd thing -/
def Vo (d : Dt) : Prop := ∀ m ms, 2 ≤ m → m ≤ 40 → Vm (m :: ms) d
omit KI in
theorem VmI {i : Int} (h : i.natAbs < 2 ^ 60) : Vo (.int i) := fun _ _ _ _ => .int h
/-! ### the law's own judge -/
theorem num_is (d : Dt) (lo hi : Int) (W : Option Well) : F_l_is_number [.dt d, .dt (.int lo), .dt (.int hi)] W = .ok (.d (.bool (num lo hi d))) W := by
  cases d with
  | int v => by_cases h : lo ≤ v <;> by_cases h1 : v ≤ hi <;> simp [F_l_is_number, b_l_is_number, num, h, h1]
  | _ => simp [F_l_is_number, b_l_is_number, num]
def parB (S : Nat) : Dt → Bool
  | .tuple p => decide (p.length = S) && p.all grd
  | _ => false
theorem partial_any {d : Dt} {S : Nat} (hd : Sh d) (W : Option Well) : F_l_is_partial [.dt (.int S), .dt d] W = .ok (.d (.bool (parB S d))) W := by
  cases d with
  | tuple l =>
    have hl : l.length ≤ lineN := line_ok (by have := hd l (.inl rfl); omega)
    by_cases hS : l.length = S
    · have hS' : (l.length : Int) = S := by omega
      have go := lc_bad (fg := fgName 2) (ft := tAndF (tOfB (eNotN (eVar 2))) (tNotF (tOfE (eFun F_l_is_number (aCons (eVar 2) (aCons (eC (.int 0)) (aCons (eC (.int 2)) aNil))))))) (fe := b_l_is_partial_E1) (ρ := [.dt (.int S), .dt (.tuple l), .no]) (W := W) grd l fun a ha => by
        have n1 := num_is a 0 2 W
        refine ⟨[.dt (.int S), .dt (.tuple l), .dt a], rfl, ?_, by simp [b_l_is_partial_E1]⟩
        cases a with
        | none => simp [grd, isNone]
        | _ => simp [grd, isNone, n1]
      have c1 : b_l_is_partial_C1 [.dt (.int S), .dt (.tuple l), .no] W = .ok (.f (l.filter fun a => !grd a)) W := by
        unfold b_l_is_partial_C1
        rw [v_lc]
        have it : fiSeq (eVar 1) [.dt (.int S), .dt (.tuple l), .no] W = .ok l W := by simp
        rw [it]
        dsimp only
        rw [if_pos hl]
        show (match lcGo (fgName 2) _ b_l_is_partial_E1 [.dt (.int S), .dt (.tuple l), .no] l W with | .ok r W2 => Res.ok (.f r) W2 | .bad => .bad) = _
        rw [go]
      have pb : parB S (.tuple l) = l.all grd := by simp [parB, hS]
      rw [pb, ← filt_all grd l]
      simp [F_l_is_partial, b_l_is_partial, hS, c1]
    · have hS' : ¬ ((l.length : Int) = S) := by omega
      simp [F_l_is_partial, b_l_is_partial, parB, hS, hS']
  | _ => simp [F_l_is_partial, b_l_is_partial, parB]
omit KI in
theorem edg_par (N : Int) (S : Nat) (a p b : Dt) : edgB N S (.tuple [a, p, b]) = (num 0 (N - 1) a && (num 0 (N - 1) b && parB S p)) := by
  cases p <;> simp [edgB, parB]
theorem manL1 {N : Int} {S : Nat} {e : Dt} {d : Dt} {n : Nat} (hd : Gd n d) (W : Option Well) : b_l_is_manner_L1 [.dt (.int S), .dt (.tuple [.int N, e]), .dt d] W = if edgB N S d = true then .nx [.dt (.int S), .dt (.tuple [.int N, e]), .dt d] W else .rt (.d (.bool false)) W := by
  cases d with
  | tuple l =>
    by_cases h3 : l.length = 3
    · match l, h3 with
      | [a, p, b], _ =>
        obtain ⟨m, hp⟩ := hd.tu p (by simp)
        have pa := partial_any (S := S) hp.sh W
        have na := num_is a 0 (N - 1) W
        have nb := num_is b 0 (N - 1) W
        rw [edg_par]
        generalize num 0 (N - 1) a = x at *
        generalize num 0 (N - 1) b = y at *
        generalize parB S p = z at *
        cases x <;> cases y <;> cases z <;> simp [b_l_is_manner_L1, at0, at1, at2, pa, na, nb]
    · have h3' : ¬ ((l.length : Int) = 3) := by omega
      have r0 : edgB N S (.tuple l) = false := by
        unfold edgB
        split
        · rename_i q; cases q; simp at h3
        · rfl
      rw [r0]
      simp [b_l_is_manner_L1, h3']
  | _ => simp [b_l_is_manner_L1, edgB]
theorem manner_any {d : Dt} {S : Nat} {ms : List Nat} (hd : Vm ms d) (W : Option Well) : F_l_is_manner [.dt (.int S), .dt d] W = .ok (.d (.bool (manB S d))) W := by
  have p30 : gPow (.int 10) (.int 30) = some (.d (.int 1000000000000000000000000000000)) := by rfl
  have hg := hd.gd
  cases d with
  | tuple l =>
    match l, hd, hg with
    | [a, e], hd, hg =>
      have na := num_is a 1 1000000000000000000000000000000 W
      have ha : ∃ ms, Vm ms a := by cases hd with | tup _ _ h => exact ⟨_, h a (by simp)⟩
      obtain ⟨m, he⟩ := hg.tu e (by simp)
      cases a with
      | int v =>
        have hv : v.natAbs < 2 ^ 60 := by obtain ⟨ms, ha⟩ := ha; cases ha; assumption
        by_cases h1 : 1 ≤ v
        · have h30 : v ≤ 1000000000000000000000000000000 := by omega
          rw [show num 1 1000000000000000000000000000000 (.int v) = true by simp [num, h1, h30]] at na
          cases e with
          | tuple es =>
            have hle : es.length ≤ lineN := line_ok (by have := he.sh es (.inl rfl); omega)
            have go := for_find (g := fgName 2) (b := b_l_is_manner_L1) (W := W) (fun d : Dt => d) (fun d => !edgB v S d) (fun _ => .d (.bool false)) (fun ρ => ∃ x, ρ = [.dt (.int S), .dt (.tuple [.int v, .tuple es]), x]) es [.dt (.int S), .dt (.tuple [.int v, .tuple es]), .no]
              (fun c hc ρ ⟨x, hρ⟩ => by
                subst hρ
                obtain ⟨m2, hc2⟩ := he.tu c hc
                have k := manL1 (N := v) (S := S) (e := .tuple es) hc2 W
                refine ⟨_, rfl, fun hp => ?_, fun hp => ⟨[.dt (.int S), .dt (.tuple [.int v, .tuple es]), .dt c], ?_, .dt c, rfl⟩⟩
                · show b_l_is_manner_L1 [.dt (.int S), .dt (.tuple [.int v, .tuple es]), .dt c] W = _
                  rw [k, if_neg (by simpa using hp)]
                · show b_l_is_manner_L1 [.dt (.int S), .dt (.tuple [.int v, .tuple es]), .dt c] W = _
                  rw [k, if_pos (by simpa using hp)])
              ⟨_, rfl⟩
            rw [List.map_id'] at go
            rcases go with ⟨c, _, hc, hp, e⟩ | ⟨hn, ρ', e, x, rfl⟩
            · have r0 : manB S (.tuple [.int v, .tuple es]) = false := by
                have : es.all (edgB v S) = false := List.all_eq_false.mpr ⟨c, hc, by simpa using hp⟩
                simp [manB, this]
              rw [r0]
              simp [F_l_is_manner, b_l_is_manner, p30, at0, at1, na, hle, e]
            · have r0 : manB S (.tuple [.int v, .tuple es]) = true := by
                have : es.all (edgB v S) = true := List.all_eq_true.mpr fun c hc => by
                  have := List.find?_eq_none.mp hn c hc
                  simpa using this
                simp [manB, this, h1]
              rw [r0]
              simp [F_l_is_manner, b_l_is_manner, p30, at0, at1, na, hle, e]
          | _ => simp [F_l_is_manner, b_l_is_manner, p30, at0, at1, na, manB]
        · rw [show num 1 1000000000000000000000000000000 (.int v) = false by simp [num, h1]] at na
          have r0 : manB S (.tuple [.int v, e]) = false := by cases e <;> simp [manB, h1]
          rw [r0]
          simp [F_l_is_manner, b_l_is_manner, p30, at0, at1, na]
      | _ =>
        simp only [num] at na
        simp [F_l_is_manner, b_l_is_manner, p30, at0, at1, na, manB]
    | [], _, _ => simp [F_l_is_manner, b_l_is_manner, manB]
    | [_], _, _ => simp [F_l_is_manner, b_l_is_manner, manB]
    | x :: y :: z :: r, _, _ =>
      have h3 : ¬ ((r.length : Int) + 1 + 1 + 1 = 2) := by omega
      simp [F_l_is_manner, b_l_is_manner, manB, h3]
  | _ => simp [F_l_is_manner, b_l_is_manner, manB]
theorem asked_ok {d : Dt} (hd : Vm mL d) (W : Option Well) : F_l_asked [.dt d] W = .ok (.d (.bool true)) W := by
  have ok := hd.okX
  have so : PyData.strOk d.shown = true := (hd.shw mL1).ok
  have l2 : (2 : Nat) ≤ lineN := line_ok (by decide)
  have l4 : (4 : Nat) ≤ lineN := line_ok (by decide)
  have turn : ∀ (S : Nat), 1 ≤ S → ∀ x2 x3 x4 : Sl, ∃ y2 y3 y4, b_l_asked_L1 [.dt d, .dt (.int S), x2, x3, x4] W = .nx [.dt d, .dt (.int S), y2, y3, y4] W := fun S hS x2 x3 x4 => by
    have bh := behaviour_any hS hd.gd W
    have mn := manner_any (S := S) hd W
    generalize manB S d = r at *
    have sm : F_l_same 8 [.dt (.list [.bool r, .bool r]), .dt (.list [.bool r, .bool r])] W = .ok (.d (.bool true)) W := same_plain (n := 7) (.lst (n := 6) (by simp) (fun d hd => by
      simp only [List.mem_cons, List.not_mem_nil, or_false] at hd
      rcases hd with rfl | rfl <;> exact .bl _)) W
    by_cases h4 : (S : Int) < 4
    · exact ⟨.dt (.str d.shown), .dt (.bool r), .dt (.list [.bool r, .bool r]), by simp [b_l_asked_L1, pick, ok, mn, bh, h4, sm, so, l2]⟩
    · cases r with
      | true => exact ⟨.dt (.str d.shown), .dt (.bool true), x4, by simp [b_l_asked_L1, pick, ok, mn, h4]⟩
      | false => exact ⟨.dt (.str d.shown), .dt (.bool false), .dt (.list [.bool false, .bool false]), by simp [b_l_asked_L1, pick, ok, mn, bh, h4, sm, so, l2]⟩
  obtain ⟨a2, a3, a4, t1⟩ := turn 1 (by decide) .no .no .no
  obtain ⟨b2, b3, b4, t2⟩ := turn 2 (by decide) a2 a3 a4
  obtain ⟨c2, c3, c4, t3⟩ := turn 3 (by decide) b2 b3 b4
  obtain ⟨d2, d3, d4, t5⟩ := turn 5 (by decide) c2 c3 c4
  have t1 : b_l_asked_L1 [.dt d, .dt (.int 1), .no, .no, .no] W = _ := t1
  have t2 : b_l_asked_L1 [.dt d, .dt (.int 2), a2, a3, a4] W = _ := t2
  have t3 : b_l_asked_L1 [.dt d, .dt (.int 3), b2, b3, b4] W = _ := t3
  have t5 : b_l_asked_L1 [.dt d, .dt (.int 5), c2, c3, c4] W = _ := t5
  simp [F_l_asked, b_l_asked, l4, forGo, t1, t2, t3, t5]
end Cl
set_option Elab.async false
set_option linter.all false
set_option maxRecDepth 100000
set_option maxHeartbeats 8000000
set_option autoImplicit false
namespace Cl
open PySem PySem.Spec PyProof.Rows L2 Lw LwBI
variable [KI : FragI]
/-! ### k28: bent things -/
theorem tak_ {l : List Dt} {i : Nat} (h : i ≤ l.length) : gSl (.tuple l) none (some (i : Int)) = some (.d (.tuple (l.take i))) := by
  rw [v_slT, HT.sIx_none, HT.sIx_nat, Nat.min_eq_left h, List.drop_zero, Nat.sub_zero]
theorem drp_ {l : List Dt} {i : Nat} (h : i ≤ l.length) : gSl (.tuple l) (some (i : Int)) none = some (.d (.tuple (l.drop i))) := by
  rw [v_slT, HT.sIx_none, HT.sIx_nat, Nat.min_eq_left h, List.take_of_length_le (by rw [List.length_drop]; omega)]
theorem drpX {l : List Dt} {i : Nat} (h : l.length < i) : gSl (.tuple l) (some (i : Int)) none = some (.d (.tuple [])) := by
  rw [v_slT, HT.sIx_none, HT.sIx_nat, Nat.min_eq_right (by omega), List.drop_length, List.take_nil]
theorem one_ {l : List Dt} {i : Nat} (h : i ≤ l.length) : gSl (.tuple l) (some (i : Int)) (some ((i : Int) + 1)) = some (.d (.tuple ((l.drop i).take 1))) := by
  have e : ((i : Int) + 1) = ((i + 1 : Nat) : Int) := by omega
  rw [e, v_slT, HT.sIx_nat, HT.sIx_nat, Nat.min_eq_left h]
  by_cases q : i + 1 ≤ l.length
  · rw [Nat.min_eq_left q, show i + 1 - i = 1 by omega]
  · rw [Nat.min_eq_right (by omega), show l.length - i = 0 by omega, List.drop_of_length_le (by omega), List.take_nil, List.take_nil]
theorem apT {l m : List Dt} (h : l.length + m.length ≤ 1000) : gAdd (.tuple l) (.tuple m) = some (.d (.tuple (l ++ m))) := by
  have := line_ok (show l.length + m.length ≤ 1000000 by omega)
  simp [this]
section
variable {k : Nat} {w : Well}
theorem odd_ok {s : Int} (hs : s.natAbs < 2 ^ 50) (hw : wOk (k + 1) w) : ∃ d w', F_l_odd [.wel, .dt (.int s)] (some w) = .ok (.d d) (some w') ∧ Vo d ∧ wOk k w' := by
  obtain ⟨r1, w1, e1, a1, b1, k1⟩ := draw_ok (n := 17) (k := k) (by omega) (by omega) hw
  obtain ⟨x, ax, hx⟩ := atI_mem (l := [PyData.bool true, .bool false, .none, .int (-1), .int 0, .int 1, .int 2, .int 3, .int (s - 1), .int s, .int (s + 1), .str (Str.ofString "0"), .tuple [], .tuple [.none], .tuple [.int 0, .int 1], .list [.int 0], .dict []]) (i := r1) a1 (by simpa using b1)
  have l17 : (17 : Nat) ≤ lineN := line_ok (by decide)
  have l1 : (1 : Nat) ≤ lineN := line_ok (by decide)
  have l2 : (2 : Nat) ≤ lineN := line_ok (by decide)
  refine ⟨x, w1, ?_, fun m ms h2 h40 => ?_, k1⟩
  · simp [F_l_odd, b_l_odd, l17, l1, l2, e1, ax]
  · simp only [List.mem_cons, List.not_mem_nil, or_false] at hx
    have i0 : ∀ i : Int, i.natAbs < 2 ^ 60 → Vm ms (.int i) := fun i h => .int h
    rcases hx with rfl | rfl | rfl | rfl | rfl | rfl | rfl | rfl | rfl | rfl | rfl | rfl | rfl | rfl | rfl | rfl | rfl
    · exact .bl _
    · exact .bl _
    · exact .non
    · exact .int (by decide)
    · exact .int (by decide)
    · exact .int (by decide)
    · exact .int (by decide)
    · exact .int (by decide)
    · exact .int (by omega)
    · exact .int (by omega)
    · exact .int (by omega)
    · exact .str (by decide +kernel) ⟨rfl, by decide +kernel, by decide +kernel⟩
    · exact .tup (by simp) (by omega) (fun _ h => nomatch h)
    · exact .tup (by simp; omega) (by omega) (fun d hd => by rw [List.mem_singleton.mp hd]; exact .non)
    · exact .tup (by simp; omega) (by omega) (fun d hd => by
        simp only [List.mem_cons, List.not_mem_nil, or_false] at hd
        rcases hd with rfl | rfl <;> exact i0 _ (by decide))
    · exact .lst (by simp; omega) (by omega) (fun d hd => by rw [List.mem_singleton.mp hd]; exact i0 _ (by decide))
    · exact .dct
theorem btup_ok {l : List Dt} {m m2 : Nat} {ms : List Nat} (hl : l.length + 1 ≤ m) (hm : m ≤ 40) (h2 : 2 ≤ m2 ∧ m2 ≤ 40) (h : ∀ d ∈ l, Vm (m2 :: ms) d) {s : Int} (hs : s.natAbs < 2 ^ 50) (hw : wOk (k + 3) w) :
    ∃ e w', F_l_bent_tuple [.wel, .dt (.tuple l), .dt (.int s)] (some w) = .ok e (some w') ∧ Vm (m :: m2 :: ms) e.D ∧ wOk k w' := by
  obtain ⟨r1, w1, e1, a1, b1, k1⟩ := draw_ok (n := 5) (k := k + 2) (by omega) (by omega) hw
  have hmx := mxI_is 1 (l.length : Int)
  obtain ⟨r2, w2, e2, a2, b2, k2⟩ := draw_ok (n := mxI 1 (l.length : Int)) (k := k + 1) (by omega) (by omega) k1
  obtain ⟨r, rfl⟩ := Int.eq_ofNat_of_zero_le a2
  obtain ⟨o, w3, e3, vo, k3⟩ := odd_ok (k := k) (s := s) hs k2
  have hr : r ≤ l.length := by omega
  have vo' : Vm (m2 :: ms) o := vo m2 ms h2.1 h2.2
  have tk := tak_ hr
  have er : ((r : Int) + 1) = ((r + 1 : Nat) : Int) := by omega
  have lt : (l.take r).length = r := by rw [List.length_take]; omega
  have ld : (l.drop r).length = l.length - r := List.length_drop
  obtain ⟨q, hq, lq, mq⟩ : ∃ q, gSl (.tuple l) (some ((r : Int) + 1)) none = some (.d (.tuple q)) ∧ q.length ≤ l.length - r ∧ ∀ d ∈ q, d ∈ l := by
    rw [er]
    by_cases z : r + 1 ≤ l.length
    · exact ⟨_, drp_ z, by rw [List.length_drop]; omega, fun d hd => List.mem_of_mem_drop hd⟩
    · exact ⟨_, drpX (by omega), by simp, fun _ h => nomatch h⟩
  have dr := drp_ hr
  have on := one_ hr
  have lo : ((l.drop r).take 1).length ≤ 1 := by rw [List.length_take]; omega
  have vt : ∀ (l' : List Dt), (∀ d ∈ l', d ∈ l ∨ d = o) → l'.length ≤ m → Vm (m :: m2 :: ms) (.tuple l') := fun l' hm' hl' => .tup hl' (by omega) fun d hd => by
    rcases hm' d hd with q | q
    · exact h d q
    · rw [q]; exact vo'
  have mt : ∀ d ∈ l.take r, d ∈ l := fun d hd => List.mem_of_mem_take hd
  have w' : r1 = 0 ∨ r1 = 1 ∨ r1 = 2 ∨ (¬ r1 = 0 ∧ ¬ r1 = 1 ∧ ¬ r1 = 2) := by omega
  have s1 : sPar 3 4 (aCons (eFun F_l_draw (aWel 0 (aCons (eC (.int 5)) aNil))) (aCons (eFun F_l_draw (aWel 0 (aCons (eCall gMax2 (aCons (eC (.int 1)) (aCons (eCall gLen (aCons (eVar 1) aNil)) aNil))) aNil))) aNil)) [.wel, .dt (.tuple l), .dt (.int s), .no, .no] (some w) = .nx [.wel, .dt (.tuple l), .dt (.int s), .dt (.int r1), .dt (.int r)] (some w2) := by
    simp [e1, e2]
  rcases w' with rfl | rfl | rfl | ⟨n0, n1, n2⟩
  · refine ⟨.d (.tuple (l.take r ++ q)), w2, ?_, vt _ (fun d hd => .inl ((List.mem_append.mp hd).elim (mt d) (mq d))) (by rw [List.length_append]; omega), k2.mono (by omega)⟩
    have ad := apT (l := l.take r) (m := q) (by omega)
    show Out.res (b_l_bent_tuple [.wel, .dt (.tuple l), .dt (.int s), .no, .no] (some w)) = _
    unfold b_l_bent_tuple
    rw [v_seq, s1, v_seqN]
    generalize l.take r = T at *
    simp [-v_slT, -v_addT, tk, hq, ad]
  · have ad1 := apT (l := l.take r) (m := (l.drop r).take 1) (by omega)
    have ad2 := apT (l := l.take r ++ (l.drop r).take 1) (m := l.drop r) (by rw [List.length_append]; omega)
    refine ⟨.d (.tuple (l.take r ++ (l.drop r).take 1 ++ l.drop r)), w2, ?_, vt _ (fun d hd => .inl ?_) (by rw [List.length_append, List.length_append]; omega), k2.mono (by omega)⟩
    · show Out.res (b_l_bent_tuple [.wel, .dt (.tuple l), .dt (.int s), .no, .no] (some w)) = _
      unfold b_l_bent_tuple
      rw [v_seq, s1, v_seqN]
      generalize (l.drop r).take 1 = O at *
      generalize l.take r = T at *
      generalize l.drop r = R at *
      generalize hTO : T ++ O = TO at *
      simp [-v_slT, -v_addT, tk, on, dr, ad1, ad2]
    · rcases List.mem_append.mp hd with hd | hd
      · rcases List.mem_append.mp hd with hd | hd
        · exact mt d hd
        · exact List.mem_of_mem_drop (List.mem_of_mem_take hd)
      · exact List.mem_of_mem_drop hd
  · refine ⟨.f l, w2, ?_, .lst (by omega) (by omega) h, k2.mono (by omega)⟩
    have gl : gList [.tuple l] = some (.f l) := rfl
    show Out.res (b_l_bent_tuple [.wel, .dt (.tuple l), .dt (.int s), .no, .no] (some w)) = _
    unfold b_l_bent_tuple
    rw [v_seq, s1, v_seqN]
    simp [gl]
  · have ad1 := apT (l := l.take r) (m := [o]) (by simp; omega)
    have ad2 := apT (l := l.take r ++ [o]) (m := q) (by rw [List.length_append]; simp; omega)
    refine ⟨.d (.tuple (l.take r ++ [o] ++ q)), w3, ?_, vt _ (fun d hd => ?_) (by rw [List.length_append, List.length_append]; simp; omega), k3⟩
    · show Out.res (b_l_bent_tuple [.wel, .dt (.tuple l), .dt (.int s), .no, .no] (some w)) = _
      unfold b_l_bent_tuple
      rw [v_seq, s1, v_seqN]
      generalize l.take r = T at *
      generalize hTO : T ++ [o] = TO at *
      simp [-v_slT, -v_addT, tk, hq, e3, ad1, ad2, n0, n1, n2]
    · rcases List.mem_append.mp hd with hd | hd
      · rcases List.mem_append.mp hd with hd | hd
        · exact .inl (mt d hd)
        · exact .inr (List.mem_singleton.mp hd)
      · exact .inl (mq d hd)
end
end Cl
set_option Elab.async false
set_option linter.all false
set_option maxRecDepth 100000
set_option maxHeartbeats 8000000
set_option autoImplicit false
namespace Cl
open PySem PySem.Spec PyProof.Rows L2 Lw LwBI
variable [KI : FragI]
/-! ### right behaviours, bent ones -/
/-- the rows of a right behaviour of S signals with c nodes -/
structure okMn (S c : Nat) (es : List Dt) : Prop where
  c1 : 1 ≤ c
  len : es.length ≤ 30
  ed : ∀ e ∈ es, ∃ (a b : Nat) (p : List Dt), e = .tuple [.int a, .tuple p, .int b] ∧ a < c ∧ b < c ∧ p.length = S ∧ ∀ g ∈ p, g = .none ∨ ∃ i : Nat, g = .int i ∧ i ≤ 2
def mnD (c : Nat) (es : List Dt) : Dt := .tuple [.int c, .tuple es]
omit KI in
theorem okMn.edg {S c : Nat} {es : List Dt} (h : okMn S c es) : ∀ e ∈ es, edgB c S e = true := fun e he => by
  obtain ⟨a, b, p, rfl, ha, hb, hp, hg⟩ := h.ed e he
  have : p.all grd = true := List.all_eq_true.mpr fun g q => by
    rcases hg g q with rfl | ⟨i, rfl, hi⟩
    · rfl
    · show decide _ = true
      exact decide_eq_true ⟨by omega, by omega⟩
  have h1 : (0 : Int) ≤ a ∧ (a : Int) ≤ c - 1 := by omega
  have h2 : (0 : Int) ≤ b ∧ (b : Int) ≤ c - 1 := by omega
  show (decide _ && (decide _ && (decide _ && p.all grd))) = true
  rw [this, decide_eq_true h1, decide_eq_true h2, decide_eq_true hp]
  rfl
omit KI in
theorem okMn.yes {S c : Nat} {es : List Dt} (h : okMn S c es) : manB S (mnD c es) = true := by
  have h1 := h.c1
  have : es.all (edgB c S) = true := List.all_eq_true.mpr h.edg
  show (decide _ && es.all (edgB c S)) = true
  rw [this, decide_eq_true (show (1 : Int) ≤ c by omega)]
  rfl
section
variable {S c : Nat} {es : List Dt}
omit KI in
theorem okMn.grV (hS : S ≤ 3) {p : List Dt} (hg : ∀ g ∈ p, g = .none ∨ ∃ i : Nat, g = .int i ∧ i ≤ 2) : ∀ g ∈ p, Vm [2] g := fun g q => by
  rcases hg g q with rfl | ⟨i, rfl, hi⟩
  · exact .non
  · exact .int (by omega)
omit KI in
theorem okMn.edV (h : okMn S c es) (hS : S ≤ 3) (hc : c ≤ 100) : ∀ e ∈ es, Vm [4, 4, 2] e := fun e he => by
  obtain ⟨a, b, p, rfl, ha, hb, hp, hg⟩ := h.ed e he
  refine .tup (by simp) (by decide) fun d hd => ?_
  simp only [List.mem_cons, List.not_mem_nil, or_false] at hd
  rcases hd with rfl | rfl | rfl
  · exact .int (by omega)
  · exact .tup (by omega) (by decide) (okMn.grV hS hg)
  · exact .int (by omega)
omit KI in
theorem okMn.vm (h : okMn S c es) (hS : S ≤ 3) (hc : c ≤ 100) : Vm mL (mnD c es) := .tup (by simp) (by decide) fun d hd => by
  simp only [List.mem_cons, List.not_mem_nil, or_false] at hd
  rcases hd with rfl | rfl
  · exact .int (by omega)
  · exact .tup (by have := h.len; omega) (by decide) (h.edV hS hc)
omit KI in
theorem okMn.pl (h : okMn S c es) (hS : S ≤ 100) : Plain 4 (.tuple es) := .tup (by have := h.len; omega) fun e he => by
  obtain ⟨a, b, p, rfl, ha, hb, hp, hg⟩ := h.ed e he
  refine .tup (by simp) fun d hd => ?_
  simp only [List.mem_cons, List.not_mem_nil, or_false] at hd
  rcases hd with rfl | rfl | rfl
  · exact .int _
  · exact .tup (by omega) fun g q => by
      rcases hg g q with rfl | ⟨i, rfl, hi⟩
      · exact .non
      · exact .int _
  · exact .int _
end
theorem eqNilT {l : List Dt} (h : SeqAt.shaped (.tuple l) = true) : gEq (.tuple l) (.tuple []) = some (.d (.bool l.isEmpty)) := by
  have h2 : SeqAt.shaped (.tuple []) = true := by rfl
  unfold gEq
  rw [if_pos ⟨h, h2⟩]
  cases l <;> simp [PyData.eqv, PyData.eqvAll]
section
variable {k : Nat} {w : Well}
theorem bent_ok {S c : Nat} {es : List Dt} (h : okMn S c es) (hS : S ≤ 3) (hc : c ≤ 100) (hw : wOk (k + 8) w) : ∃ e w', F_l_bent [.wel, .dt (mnD c es)] (some w) = .ok e (some w') ∧ Vm mL e.D ∧ wOk k w' := by
  obtain ⟨r1, w1, e1, a1, b1, k1⟩ := draw_ok (n := 4) (k := k + 7) (by omega) (by omega) hw
  have hle := h.len
  have hs : ((c : Int)).natAbs < 2 ^ 50 := by omega
  have eq0 := eqNilT ((h.pl (by omega)).shaped (by decide))
  have i0 : gIx (mnD c es) (.int 0) = some (.d (.int c)) := by simp [mnD, at0]
  have i1 : gIx (mnD c es) (.int 1) = some (.d (.tuple es)) := by simp [mnD, at1]
  have hv := h.edV hS hc
  have ve : Vm [32, 4, 4, 2] (.tuple es) := .tup (by omega) (by decide) hv
  have s1 : sSet 2 (eFun F_l_draw (aWel 0 (aCons (eC (.int 4)) aNil))) [.wel, .dt (mnD c es), .no, .no, .no, .no, .no] (some w) = .nx [.wel, .dt (mnD c es), .dt (.int r1), .no, .no, .no, .no] (some w1) := by
    generalize mnD c es = M at *
    simp [e1]
  have s2 : sSet 3 (eBin gIx (eVar 1) (eC (.int 1))) [.wel, .dt (mnD c es), .dt (.int r1), .no, .no, .no, .no] (some w1) = .nx [.wel, .dt (mnD c es), .dt (.int r1), .dt (.tuple es), .no, .no, .no] (some w1) := by
    generalize mnD c es = M at *
    simp [i1]
  have e0 : F_l_bent [.wel, .dt (mnD c es)] (some w) = Out.res (b_l_bent [.wel, .dt (mnD c es), .no, .no, .no, .no, .no] (some w)) := rfl
  rw [e0]
  unfold b_l_bent
  rw [v_seq, s1, v_seqN, v_seq, s2, v_seqN]
  by_cases z : r1 = 0 ∨ es = []
  · obtain ⟨e, w2, e2, v2, k2⟩ := btup_ok (l := [.int c, .tuple es]) (m := 4) (m2 := 32) (ms := [4, 4, 2]) (k := k + 4) (by simp) (by decide) (by decide) (fun d hd => by
      simp only [List.mem_cons, List.not_mem_nil, or_false] at hd
      rcases hd with rfl | rfl
      · exact .int (by omega)
      · exact ve) hs k1
    have e9 : F_l_bent_tuple [.wel, .dt (mnD c es), .dt (.int c)] (some w1) = .ok e (some w2) := e2
    clear e2
    refine ⟨e, w2, ?_, v2, k2.mono (by omega)⟩
    generalize mnD c es = M at *
    rcases z with rfl | rfl
    · simp [i0, e9]
    · by_cases z0 : r1 = 0 <;> simp [eq0, i0, e9, z0]
  · have z1 : ¬ r1 = 0 := fun q => z (.inl q)
    have z2 : ¬ es = [] := fun q => z (.inr q)
    have z3 : es.isEmpty = false := by cases es <;> simp at z2 ⊢
    have s3 : sIf (tOrF (tOfB (eBin gEq (eVar 2) (eC (.int 0)))) (tOfB (eBin gEq (eVar 3) (eTup aNil)))) (sRet (eFun F_l_bent_tuple (aWel 0 (aCons (eVar 1) (aCons (eBin gIx (eVar 1) (eC (.int 0))) aNil))))) sSkip [.wel, .dt (mnD c es), .dt (.int r1), .dt (.tuple es), .no, .no, .no] (some w1) = .nx [.wel, .dt (mnD c es), .dt (.int r1), .dt (.tuple es), .no, .no, .no] (some w1) := by
      generalize mnD c es = M at *
      simp [eq0, z1, z3]
    rw [v_seq, s3, v_seqN]
    by_cases y1 : r1 = 1
    · subst y1
      obtain ⟨e, w2, e2, v2, k2⟩ := btup_ok (l := es) (m := 32) (m2 := 4) (ms := [4, 2]) (k := k + 4) (s := c) (by omega) (by decide) (by decide) hv hs k1
      refine ⟨.d (.tuple [.int c, e.D]), w2, ?_, .tup (by simp) (by decide) fun d hd => ?_, k2.mono (by omega)⟩
      · generalize mnD c es = M at *
        have l2 : (2 : Nat) ≤ lineN := line_ok (by decide)
        simp [i0, e2, l2]
      · simp only [List.mem_cons, List.not_mem_nil, or_false] at hd
        rcases hd with rfl | rfl
        · exact .int (by omega)
        · exact v2
    · have pos : 0 < es.length := List.length_pos_iff.mpr z2
      obtain ⟨r2, w2, e2, a2, b2, k2⟩ := draw_ok (n := (es.length : Int)) (k := k + 6) (by omega) (by omega) k1
      obtain ⟨r, rfl⟩ := Int.eq_ofNat_of_zero_le a2
      have hr : r < es.length := by omega
      have hg : es[r]? = some es[r] := List.getElem?_eq_getElem hr
      have hm : es[r] ∈ es := List.getElem_mem hr
      obtain ⟨a, b, p, he, ha, hb, hp, hgr⟩ := h.ed _ hm
      rw [he] at hg
      have at_ : gIx (.tuple es) (.int (r : Int)) = some (.d (.tuple [.int a, .tuple p, .int b])) := by simp [atI_nat hg]
      obtain ⟨e, w3, e3, v3, k3⟩ := btup_ok (l := [.int a, .tuple p, .int b]) (m := 4) (m2 := 4) (ms := [2]) (k := k + 3) (s := c) (by simp) (by decide) (by decide) (fun d hd => by
        simp only [List.mem_cons, List.not_mem_nil, or_false] at hd
        rcases hd with rfl | rfl | rfl
        · exact .int (by omega)
        · exact .tup (by omega) (by decide) (okMn.grV hS hgr)
        · exact .int (by omega)) hs k2
      have tk := tak_ (l := es) (i := r) (by omega)
      have er : ((r : Int) + 1) = ((r + 1 : Nat) : Int) := by omega
      have dr : gSl (.tuple es) (some ((r : Int) + 1)) none = some (.d (.tuple (es.drop (r + 1)))) := by rw [er]; exact drp_ (by omega)
      have fin : ∀ x, Vm [4, 4, 2] x → ∃ y, gAdd (.tuple (es.take r)) (.tuple [x]) = some (.d (.tuple (es.take r ++ [x]))) ∧ gAdd (.tuple (es.take r ++ [x])) (.tuple (es.drop (r + 1))) = some (.d (.tuple y)) ∧ Vm mL (.tuple [.int c, .tuple y]) := fun x hx => by
        refine ⟨_, apT (by rw [List.length_take]; simp; omega), apT (by rw [List.length_append, List.length_take, List.length_drop]; simp; omega), .tup (by simp) (by decide) fun d hd => ?_⟩
        simp only [List.mem_cons, List.not_mem_nil, or_false] at hd
        rcases hd with rfl | rfl
        · exact .int (by omega)
        · refine .tup (by rw [List.length_append, List.length_append, List.length_take, List.length_drop]; simp; omega) (by decide) fun d hd => ?_
          rcases List.mem_append.mp hd with hd | hd
          · rcases List.mem_append.mp hd with hd | hd
            · exact hv d (List.mem_of_mem_take hd)
            · rw [List.mem_singleton.mp hd]; exact hx
          · exact hv d (List.mem_of_mem_drop hd)
      have l1 : (1 : Nat) ≤ lineN := line_ok (by decide)
      have l2 : (2 : Nat) ≤ lineN := line_ok (by decide)
      have l3 : (3 : Nat) ≤ lineN := line_ok (by decide)
      have ge : gIx (.tuple [.int a, .tuple p, .int b]) (.int 0) = some (.d (.int a)) := by simp [at0]
      have ge1 : gIx (.tuple [.int a, .tuple p, .int b]) (.int 1) = some (.d (.tuple p)) := by simp [at1]
      have ge2 : gIx (.tuple [.int a, .tuple p, .int b]) (.int 2) = some (.d (.int b)) := by simp [at2]
      have lnE : gLen [.tuple es] = some (.d (.int es.length)) := v_lenT
      by_cases y2 : r1 = 2
      · subst y2
        obtain ⟨e', w4, e4, v4, k4⟩ := btup_ok (l := p) (m := 4) (m2 := 2) (ms := []) (k := k) (s := c) (by omega) (by decide) (by decide) (okMn.grV hS hgr) hs k3
        obtain ⟨y, f1, f2, f3⟩ := fin (.tuple [.int a, e'.D, .int b]) (.tup (by simp) (by decide) fun d hd => by
          simp only [List.mem_cons, List.not_mem_nil, or_false] at hd
          rcases hd with rfl | rfl | rfl
          · exact .int (by omega)
          · exact v4
          · exact .int (by omega))
        refine ⟨.d (.tuple [.int c, .tuple y]), w4, ?_, f3, k4⟩
        generalize mnD c es = M at *
        generalize PyData.tuple [.int a, .tuple p, .int b] = ED at *
        generalize es.take r = T at *
        generalize hX : T ++ [PyData.tuple [PyData.int a, e'.D, PyData.int b]] = TX at *
        generalize es.drop (r + 1) = Q at *
        simp [-v_slT, -v_addT, -v_lenT, lnE, i0, e2, at_, e3, ge, ge1, ge2, e4, tk, dr, f1, f2, l1, l2, l3]
      · obtain ⟨y, f1, f2, f3⟩ := fin e.D v3
        refine ⟨.d (.tuple [.int c, .tuple y]), w3, ?_, f3, k3.mono (by omega)⟩
        generalize mnD c es = M at *
        generalize PyData.tuple [.int a, .tuple p, .int b] = ED at *
        generalize es.take r = T at *
        generalize hX : T ++ [e.D] = TX at *
        generalize es.drop (r + 1) = Q at *
        simp [-v_slT, -v_addT, -v_lenT, lnE, i0, e2, at_, e3, tk, dr, f1, f2, l1, l2, y1, y2]
end
end Cl
set_option Elab.async false
set_option linter.all false
set_option maxRecDepth 100000
set_option maxHeartbeats 8000000
set_option autoImplicit false
namespace Cl
open PySem PySem.Spec PyProof.Rows L2 Lw LwBI
variable [KI : FragI]
/-! ### behaviours drawn -/
def edOk (S c : Nat) (e : Dt) : Prop := ∃ (a b : Nat) (p : List Dt), e = .tuple [.int a, .tuple p, .int b] ∧ a < c ∧ b < c ∧ p.length = S ∧ ∀ g ∈ p, g = .none ∨ ∃ i : Nat, g = .int i ∧ i ≤ 2
theorem lc_drawM {α β : Type} {fg : FG} {fe : FE} {ρ : List Sl} (f : α → Dt) (D : β → Dt) (Pr : β → Prop) (c : Nat) : ∀ (l : List α),
    (∀ a ∈ l, ∀ k w, wOk (k + c) w → ∃ ρ2, fg (f a) ρ = some ρ2 ∧ ∃ b w' e, fe ρ2 (some w) = .ok e (some w') ∧ e.D = D b ∧ Pr b ∧ wOk k w') → ∀ {k : Nat} {w : Well}, wOk (k + c * l.length) w →
    ∃ (bs : List β) (w' : Well), lcGo fg ftYes fe ρ (l.map f) (some w) = .ok (bs.map D) (some w') ∧ bs.length = l.length ∧ (∀ b ∈ bs, Pr b) ∧ wOk k w'
  | [], _, k, w, hw => ⟨[], w, rfl, rfl, (fun _ h => nomatch h), hw⟩
  | a :: l, h, k, w, hw => by
    rw [List.length_cons, show k + c * (l.length + 1) = (k + c * l.length) + c by rw [Nat.mul_add]; omega] at hw
    obtain ⟨ρ2, e1, b, w1, e, e2, e3, e4, k1⟩ := h a List.mem_cons_self _ w hw
    obtain ⟨bs, w2, e5, e6, e7, k2⟩ := lc_drawM (fg := fg) (fe := fe) (ρ := ρ) f D Pr c l (fun x hx => h x (List.mem_cons_of_mem _ hx)) k1
    refine ⟨b :: bs, w2, ?_, by rw [List.length_cons, List.length_cons, e6], fun x hx => ?_, k2⟩
    · rw [List.map_cons]
      unfold lcGo
      rw [e1]
      show (match fe ρ2 (some w) with | .ok e W2 => (match lcGo fg ftYes fe ρ (l.map f) W2 with | .ok r W3 => RL.ok (e.D :: r) W3 | .bad => .bad) | _ => .bad) = _
      rw [e2]
      dsimp only
      rw [e5, e3]
      rfl
    · rcases List.mem_cons.mp hx with rfl | hx
      · exact e4
      · exact e7 x hx
omit KI in
theorem rep_flat : ∀ n : Nat, (List.replicate n [PyData.none]).flatten = List.replicate n .none
  | 0 => rfl
  | m + 1 => by rw [List.replicate_succ, List.flatten_cons, rep_flat m]; rfl
theorem manner_ok {S k : Nat} (h1 : 1 ≤ S) (hS : S ≤ 3) {w : Well} (hw : wOk (k + 200) w) :
    ∃ r w', F_l_manner [.wel, .dt (.int S), .dt (.int 5)] (some w) = .ok (.d r) (some w') ∧ (r = .none ∨ ∃ c es, r = mnD c es ∧ okMn S c es ∧ c ≤ 5) ∧ wOk k w' := by
  obtain ⟨r1, w1, e1, a1, b1, k1⟩ := draw_ok (n := 5) (k := k + 199) (by omega) (by omega) hw
  obtain ⟨r2, w2, e2, a2, b2, k2⟩ := draw_ok (n := 5) (k := k + 198) (by omega) (by omega) k1
  obtain ⟨n, rfl⟩ := Int.eq_ofNat_of_zero_le a2
  have hn : n < 5 := by omega
  have es := signs_ok hS
  have sl := signs_len S
  have p3 : (S = 1 ∧ (signs S).length = 3) ∨ (S = 2 ∧ (signs S).length = 9) ∨ (S = 3 ∧ (signs S).length = 27) := by
    have : S = 1 ∨ S = 2 ∨ S = 3 := by omega
    rcases this with rfl | rfl | rfl
    · exact .inl ⟨rfl, sl⟩
    · exact .inr (.inl ⟨rfl, sl⟩)
    · exact .inr (.inr ⟨rfl, sl⟩)
  have l2 : (2 : Nat) ≤ lineN := line_ok (by decide)
  have l3 : (3 : Nat) ≤ lineN := line_ok (by decide)
  have l6 : (6 : Nat) ≤ lineN := line_ok (by decide)
  have l1 : (1 : Nat) ≤ lineN := line_ok (by decide)
  have s1 : (sParO3 4 5 6 (eFun F_l_draw (aWel 0 (aCons (eC (.int 5)) aNil))) (eBin gAdd (eC (.int 1)) (eFun F_l_draw (aWel 0 (aCons (eVar 2) aNil)))) (eLst aNil)) [.wel, .dt (.int S), .dt (.int 5), .no, .no, .no, .no, .no, .no, .no, .no] (some w) = .nx [.wel, .dt (.int S), .dt (.int 5), .no, .dt (.int r1), .dt (.int (1 + (n : Int))), .cn true [], .no, .no, .no, .no] (some w2) := by
    simp [e1, e2]
  have e0 : F_l_manner [.wel, .dt (.int S), .dt (.int 5)] (some w) = Out.res (b_l_manner [.wel, .dt (.int S), .dt (.int 5), .no, .no, .no, .no, .no, .no, .no, .no] (some w)) := rfl
  rw [e0]
  unfold b_l_manner
  rw [v_seq, s1, v_seqN]
  by_cases z0 : r1 = 0
  · subst z0
    exact ⟨.none, w2, by simp, .inl rfl, k2.mono (by omega)⟩
  by_cases z1 : r1 = 1
  · subst z1
    -- one edge for each node and letter
    have lg : gLen [.list ((signs S).map letD)] = some (.d (.int (signs S).length)) := by rw [show gLen [.list ((signs S).map letD)] = some (.d (.int (((signs S).map letD).length : Nat))) by simp, List.length_map]
    obtain ⟨c, hc, hc1, hc2⟩ : ∃ c : Nat, mnI (1 + (n : Int)) (30 / ((signs S).length : Int)) = c ∧ 1 ≤ c ∧ c * (signs S).length ≤ 30 ∧ c ≤ 5 := by
      have hm := mnI_is (1 + (n : Int)) (30 / ((signs S).length : Int))
      rcases p3 with ⟨_, q⟩ | ⟨_, q⟩ | ⟨_, q⟩ <;> rw [q] at hm ⊢
      · rw [show (30 : Int) / ((3 : Nat) : Int) = 10 by rfl] at hm ⊢
        exact ⟨(mnI (1 + (n : Int)) 10).toNat, by omega, by omega, by omega, by omega⟩
      · rw [show (30 : Int) / ((9 : Nat) : Int) = 3 by rfl] at hm ⊢
        exact ⟨(mnI (1 + (n : Int)) 3).toNat, by omega, by omega, by omega, by omega⟩
      · rw [show (30 : Int) / ((27 : Nat) : Int) = 1 by rfl] at hm ⊢
        exact ⟨(mnI (1 + (n : Int)) 1).toNat, by omega, by omega, by omega, by omega⟩
    obtain ⟨hc2, hc5⟩ := hc2
    have cd : cDiv 30 ((signs S).length : Int) = true := cDiv_of (a := 30) (by rcases p3 with ⟨_, q⟩ | ⟨_, q⟩ | ⟨_, q⟩ <;> omega) (by rcases p3 with ⟨_, q⟩ | ⟨_, q⟩ | ⟨_, q⟩ <;> rw [q] <;> decide)
    have hlin : (signs S).length ≤ lineN := line_ok (by rcases p3 with ⟨_, q⟩ | ⟨_, q⟩ | ⟨_, q⟩ <;> omega)
    have rc : Lw.inR (c : Int) = true := inR_of (by omega)
    obtain ⟨ρ', W', e, ⟨w3, acc, x7, rfl, rfl, hl, hp, k3⟩⟩ := forGo_inv (g := fgName 7) (f := b_l_manner_L1) (fun i ρ W' => ∃ w3 acc x7, ρ = [.wel, .dt (.int S), .dt (.int 5), .no, .dt (.int 1), .dt (.int c), .cn true acc, x7, .no, .no, .no] ∧ W' = some w3 ∧ acc.length = i * (signs S).length ∧ (∀ e ∈ acc, edOk S c e) ∧ wOk (k + 27 * (5 - i)) w3) (rangeD 0 c) 0 [.wel, .dt (.int S), .dt (.int 5), .no, .dt (.int 1), .dt (.int c), .cn true [], .no, .no, .no, .no] (some w2)
      (fun i d ρ W hd ⟨w3, acc, x7, q1, q2, hl, hp, k3⟩ => by
        subst q1; subst q2
        obtain ⟨rfl, hi⟩ := rangeD_get hd
        rw [Nat.zero_add] at hl k3 ⊢
        refine ⟨[.wel, .dt (.int S), .dt (.int 5), .no, .dt (.int 1), .dt (.int c), .cn true acc, .dt (.int (0 + (i : Int))), .no, .no, .no], rfl, ?_⟩
        rw [Int.zero_add]
        have hk : k + 27 * (5 - i) = (k + 27 * (5 - (i + 1))) + 27 := by omega
        rw [hk] at k3
        obtain ⟨bs, w4, e4, lb, pb, k4⟩ := lc_drawM (fg := fgName 10) (fe := b_l_manner_E1) (ρ := [.wel, .dt (.int S), .dt (.int 5), .no, .dt (.int 1), .dt (.int c), .cn true acc, .dt (.int i), .no, .no, .no]) letD (fun d : Dt => d) (edOk S c) 1 (signs S)
          (fun s hs k w hw => by
            have oks := signs_okL S s hs
            obtain ⟨q, w', e5, a5, b5, k5⟩ := draw_ok (n := (c : Int)) (k := k) (by omega) (by omega) hw
            obtain ⟨b, rfl⟩ := Int.eq_ofNat_of_zero_le a5
            refine ⟨[.wel, .dt (.int S), .dt (.int 5), .no, .dt (.int 1), .dt (.int c), .cn true acc, .dt (.int i), .no, .no, .dt (letD s)], rfl, .tuple [.int i, letD s, .int b], w', .d (.tuple [.int i, letD s, .int b]), ?_, rfl, ⟨i, b, s.map .int, rfl, hi, by omega, by rw [List.length_map]; exact oks.len, fun g hg => ?_⟩, k5⟩
            · generalize letD s = L at *
              simp [b_l_manner_E1, e5, l3]
            · obtain ⟨j, hj, rfl⟩ := List.mem_map.mp hg
              have := oks.gr j hj
              exact .inr ⟨j.toNat, by rw [show ((j.toNat : Nat) : Int) = j by omega], by omega⟩)
          (k := k + 27 * (5 - (i + 1))) (w := w3) (k3.mono (by rcases p3 with ⟨_, q⟩ | ⟨_, q⟩ | ⟨_, q⟩ <;> omega))
        have hml : ((signs S).map letD).length ≤ lineN := by rw [List.length_map]; exact hlin
        have c1 : b_l_manner_C1 [.wel, .dt (.int S), .dt (.int 5), .no, .dt (.int 1), .dt (.int c), .cn true acc, .dt (.int i), .no, .no, .no] (some w3) = .ok (.f bs) (some w4) := by
          unfold b_l_manner_C1
          rw [v_lc]
          have it : fiSeq (eFun F_l_signs (aCons (eVar 1) aNil)) [.wel, .dt (.int S), .dt (.int 5), .no, .dt (.int 1), .dt (.int c), .cn true acc, .dt (.int i), .no, .no, .no] (some w3) = .ok ((signs S).map letD) (some w3) := by
            have := es (some w3)
            generalize (signs S).map letD = L at *
            simp [this]
          rw [it]
          dsimp only
          rw [if_pos hml]
          show (match lcGo (fgName 10) ftYes b_l_manner_E1 [.wel, .dt (.int S), .dt (.int 5), .no, .dt (.int 1), .dt (.int c), .cn true acc, .dt (.int i), .no, .no, .no] ((signs S).map letD) (some w3) with | .ok r W2 => Res.ok (.f r) W2 | .bad => .bad) = _
          rw [e4, List.map_id']
        have hle : acc.length + bs.length ≤ lineN := line_ok (by
          rw [hl, lb]
          have : (i + 1) * (signs S).length ≤ c * (signs S).length := Nat.mul_le_mul_right _ hi
          rw [Nat.add_mul, Nat.one_mul] at this
          omega)
        refine ⟨[.wel, .dt (.int S), .dt (.int 5), .no, .dt (.int 1), .dt (.int c), .cn true (acc ++ bs), .dt (.int i), .no, .no, .no], some w4, ?_, w4, acc ++ bs, _, rfl, rfl, ?_, fun e he => ?_, k4⟩
        · unfold b_l_manner_L1
          rw [v_ext (l := acc) rfl, c1]
          show (if acc.length + bs.length ≤ lineN then _ else _) = _
          rw [if_pos hle]
          rfl
        · rw [List.length_append, hl, lb, Nat.add_mul, Nat.one_mul]
        · rcases List.mem_append.mp he with q | q
          · exact hp e q
          · exact pb e q)
      ⟨w2, [], .no, rfl, rfl, by simp, (fun _ h => nomatch h), k2.mono (by omega)⟩
    rw [rangeD_length, Nat.zero_add] at hl k3
    refine ⟨mnD c acc, w3, ?_, .inr ⟨c, acc, rfl, ⟨hc1, by rw [hl]; exact hc2, hp⟩, hc5⟩, k3.mono (by omega)⟩
    have t2 : (sSet 5 (eCall gMin2 (aCons (eVar 5) (aCons (eBin gDiv (eC (.int 30)) (eCall gLen (aCons (eFun F_l_signs (aCons (eVar 1) aNil)) aNil))) aNil)))) [.wel, .dt (.int S), .dt (.int 5), .no, .dt (.int 1), .dt (.int (1 + (n : Int))), .cn true [], .no, .no, .no, .no] (some w2) = .nx [.wel, .dt (.int S), .dt (.int 5), .no, .dt (.int 1), .dt (.int c), .cn true [], .no, .no, .no, .no] (some w2) := by
      have := es (some w2)
      generalize hL : (signs S).map letD = L at *
      generalize ((signs S).length : Int) = len at *
      simp [this, lg, cd, hc]
    have it : fiRange1 (aCons (eVar 5) aNil) [.wel, .dt (.int S), .dt (.int 5), .no, .dt (.int 1), .dt (.int c), .cn true [], .no, .no, .no, .no] (some w2) = .ok (rangeD 0 c) (some w2) := by simp [rc]
    have gt : gTuple [.list acc] = some (.d (.tuple acc)) := rfl
    have i0 : sIf (tOfB (eBin gEq (eVar 4) (eC (.int 0)))) (sRet (eC .none)) sSkip [.wel, .dt (.int S), .dt (.int 5), .no, .dt (.int 1), .dt (.int (1 + (n : Int))), .cn true [], .no, .no, .no, .no] (some w2) = .nx [.wel, .dt (.int S), .dt (.int 5), .no, .dt (.int 1), .dt (.int (1 + (n : Int))), .cn true [], .no, .no, .no, .no] (some w2) := by simp
    have c1 : tOfB (eBin gEq (eVar 4) (eC (.int 1))) [.wel, .dt (.int S), .dt (.int 5), .no, .dt (.int 1), .dt (.int (1 + (n : Int))), .cn true [], .no, .no, .no, .no] (some w2) = .ok true (some w2) := by simp
    rw [v_seq, i0, v_seqN, v_seq, v_sif, c1, v_ttoS, if_pos rfl, v_seq, t2, v_seqN, v_seq, v_for, it]
    dsimp only
    rw [e, v_seqN]
    simp [relS1, gt, l2, mnD]
  · -- edges drawn one by one
    obtain ⟨u, hu, hu28⟩ : ∃ u : Int, ((r1 = 2 ∧ u = 29) ∨ (¬ r1 = 2 ∧ u = 12)) ∧ 1 ≤ u ∧ u ≤ 29 := by
      by_cases q : r1 = 2
      · exact ⟨29, .inl ⟨q, rfl⟩, by decide, by decide⟩
      · exact ⟨12, .inr ⟨q, rfl⟩, by decide, by decide⟩
    obtain ⟨r3, w3, e3, a3, b3, k3⟩ := draw_ok (n := u) (k := k + 197) (by omega) (by omega) k2
    obtain ⟨N, rfl⟩ := Int.eq_ofNat_of_zero_le a3
    have hN : N ≤ 28 := by omega
    have rN : Lw.inR (N : Int) = true := inR_of (by omega)
    have rS : Lw.inR (S : Int) = true := inR_of (by omega)
    have hc : ((1 : Int) + n) = ((n + 1 : Nat) : Int) := by omega
    obtain ⟨ρ', w4, acc, e4, ⟨x3, x8, hρ⟩, hl, hp, k4⟩ := for_draw (g := fgName 3) (b := b_l_manner_L2) (fun d : Dt => d) (fun _ e => edOk S (n + 1) e) 5 N (fun acc ρ => ∃ x3 x8, ρ = [.wel, .dt (.int S), .dt (.int 5), x3, .dt (.int r1), .dt (.int ((n + 1 : Nat) : Int)), .cn true acc, .no, x8, .no, .no])
      (fun i hi k w acc ρ ⟨x3, x8, hρ⟩ hal hw => by
        subst hρ
        refine ⟨[.wel, .dt (.int S), .dt (.int 5), .dt (.int i), .dt (.int r1), .dt (.int ((n + 1 : Nat) : Int)), .cn true acc, .no, x8, .no, .no], rfl, ?_⟩
        obtain ⟨bs, w5, e5, lb, pb, k5⟩ := lc_draw (fg := fgName 9) (fe := b_l_manner_E2) (ρ := [.wel, .dt (.int S), .dt (.int 5), .dt (.int i), .dt (.int r1), .dt (.int ((n + 1 : Nat) : Int)), .cn true acc, .no, x8, .no, .no]) (fun d : Dt => d) (fun g => g = .none ∨ ∃ i : Nat, g = .int i ∧ i ≤ 2) 1 S
          (fun j hj k w hw => by
            obtain ⟨q, w', e6, a6, b6, k6⟩ := draw_ok (n := 6) (k := k) (by omega) (by omega) hw
            obtain ⟨x, ax, hx⟩ := atI_mem (l := [PyData.none, .int 0, .int 1, .int 2, .none, .int 2]) (i := q) a6 (by simpa using b6)
            refine ⟨[.wel, .dt (.int S), .dt (.int 5), .dt (.int i), .dt (.int r1), .dt (.int ((n + 1 : Nat) : Int)), .cn true acc, .no, x8, .dt (.int j), .no], rfl, x, w', .d x, by simp [b_l_manner_E2, l6, e6, ax], rfl, ?_, k6⟩
            simp only [List.mem_cons, List.not_mem_nil, or_false] at hx
            rcases hx with rfl | rfl | rfl | rfl | rfl | rfl
            · exact .inl rfl
            · exact .inr ⟨0, rfl, by decide⟩
            · exact .inr ⟨1, rfl, by decide⟩
            · exact .inr ⟨2, rfl, by decide⟩
            · exact .inl rfl
            · exact .inr ⟨2, rfl, by decide⟩)
          (k := k + 2) (w := w) (hw.mono (by omega))
        rw [List.map_id'] at e5
        have hls : (rangeD 0 S).length ≤ lineN := by rw [rangeD_length]; exact line_ok (by omega)
        have c2 : b_l_manner_C2 [.wel, .dt (.int S), .dt (.int 5), .dt (.int i), .dt (.int r1), .dt (.int ((n + 1 : Nat) : Int)), .cn true acc, .no, x8, .no, .no] (some w) = .ok (.f bs) (some w5) := by
          unfold b_l_manner_C2
          rw [v_lc]
          have it : fiRange1 (aCons (eVar 1) aNil) [.wel, .dt (.int S), .dt (.int 5), .dt (.int i), .dt (.int r1), .dt (.int ((n + 1 : Nat) : Int)), .cn true acc, .no, x8, .no, .no] (some w) = .ok (rangeD 0 S) (some w) := by simp [rS]
          rw [it]
          dsimp only
          rw [if_pos hls]
          show (match lcGo (fgName 9) ftYes b_l_manner_E2 [.wel, .dt (.int S), .dt (.int 5), .dt (.int i), .dt (.int r1), .dt (.int ((n + 1 : Nat) : Int)), .cn true acc, .no, x8, .no, .no] (rangeD 0 S) (some w) with | .ok r W2 => Res.ok (.f r) W2 | .bad => .bad) = _
          rw [e5]
        obtain ⟨q1, w6, e6, a6, b6, k6⟩ := draw_ok (n := ((n + 1 : Nat) : Int)) (k := k + 1) (by omega) (by omega) k5
        obtain ⟨q2, w7, e7, a7, b7, k7⟩ := draw_ok (n := ((n + 1 : Nat) : Int)) (k := k) (by omega) (by omega) k6
        obtain ⟨A, rfl⟩ := Int.eq_ofNat_of_zero_le a6
        obtain ⟨B, rfl⟩ := Int.eq_ofNat_of_zero_le a7
        have gt : gTuple [.list bs] = some (.d (.tuple bs)) := rfl
        have hal' : acc.length < lineN := Nat.lt_of_lt_of_le (show acc.length < 100 by omega) (line_ok (by omega))
        refine ⟨[.wel, .dt (.int S), .dt (.int 5), .dt (.int i), .dt (.int r1), .dt (.int ((n + 1 : Nat) : Int)), .cn true (acc ++ [.tuple [.int A, .tuple bs, .int B]]), .no, .dt (.tuple bs), .no, .no], w7, .tuple [.int A, .tuple bs, .int B], ?_, ⟨_, _, rfl⟩, ⟨A, B, bs, rfl, by omega, by omega, lb, pb⟩, k7⟩
        generalize ((n + 1 : Nat) : Int) = C at *
        simp [b_l_manner_L2, c2, gt, e6, e7, hal', l3])
      (ρ := [.wel, .dt (.int S), .dt (.int 5), .no, .dt (.int r1), .dt (.int ((n + 1 : Nat) : Int)), .cn true [], .no, .no, .no, .no]) ⟨_, _, rfl⟩ (k := k + 5) (w := w3) (k3.mono (by omega))
    subst hρ
    rw [List.map_id'] at e4
    obtain ⟨q1, w5, e5, a5, b5, k5⟩ := draw_ok (n := 2) (k := k + 4) (by omega) (by omega) k4
    obtain ⟨q2, w6, e6, a6, b6, k6⟩ := draw_ok (n := ((n + 1 : Nat) : Int)) (k := k + 3) (by omega) (by omega) k5
    obtain ⟨B, rfl⟩ := Int.eq_ofNat_of_zero_le a6
    have hpe : ∀ e ∈ acc, edOk S (n + 1) e := fun e he => by
      obtain ⟨i, hi⟩ := List.getElem?_of_mem he
      exact hp i e hi
    have rep : gRepT (.tuple [.none]) (.int (S : Int)) = some (.d (.tuple (List.replicate S [PyData.none]).flatten)) := by
      rw [v_repT ⟨by simp, by omega, by omega, by simp⟩]
      rfl
    rw [rep_flat] at rep
    have e0' : edOk S (n + 1) (.tuple [.int ((0 : Nat) : Int), .tuple (List.replicate S .none), .int B]) := ⟨0, B, _, rfl, by omega, by omega, List.length_replicate, fun g hg => .inl (List.eq_of_mem_replicate hg)⟩
    have hal' : acc.length < lineN := Nat.lt_of_lt_of_le (show acc.length < 100 by omega) (line_ok (by omega))
    have cm : cMul 2 5 = true := by decide
    have it : fiRange1 (aCons (eFun F_l_draw (aWel 0 (aCons (eBin gIx (eLst (aCons (eBin gAdd (eBin gMul (eC (.int 2)) (eVar 2)) (eC (.int 2))) (aCons (eC (.int 29)) aNil))) (eCall gInt (aCons (eBin gEq (eVar 4) (eC (.int 2))) aNil))) aNil))) aNil) [.wel, .dt (.int S), .dt (.int 5), .no, .dt (.int r1), .dt (.int ((n + 1 : Nat) : Int)), .cn true [], .no, .no, .no, .no] (some w2) = .ok (rangeD 0 N) (some w3) := by
      have g1 : gInt [.bool true] = some (.d (.int 1)) := rfl
      have g0 : gInt [.bool false] = some (.d (.int 0)) := rfl
      rcases hu with ⟨rfl, rfl⟩ | ⟨q, rfl⟩
      · simp [cm, g1, at1, e3, rN, l2]
      · simp [cm, g0, at0, e3, rN, l2, q]
    have i0 : sIf (tOfB (eBin gEq (eVar 4) (eC (.int 0)))) (sRet (eC .none)) sSkip [.wel, .dt (.int S), .dt (.int 5), .no, .dt (.int r1), .dt (.int ((n + 1 : Nat) : Int)), .cn true [], .no, .no, .no, .no] (some w2) = .nx [.wel, .dt (.int S), .dt (.int 5), .no, .dt (.int r1), .dt (.int ((n + 1 : Nat) : Int)), .cn true [], .no, .no, .no, .no] (some w2) := by simp [z0]
    have c1 : tOfB (eBin gEq (eVar 4) (eC (.int 1))) [.wel, .dt (.int S), .dt (.int 5), .no, .dt (.int r1), .dt (.int ((n + 1 : Nat) : Int)), .cn true [], .no, .no, .no, .no] (some w2) = .ok false (some w2) := by simp [z1]
    rw [hc, v_seq, i0, v_seqN, v_seq, v_sif, c1, v_ttoS, if_neg (by decide)]
    show ∃ r w', Out.res (Out.seq (.nx _ _) _) = _ ∧ _
    rw [v_seqN, v_seq, v_for, it]
    dsimp only
    rw [e4, v_seqN]
    by_cases y : q1 = 0
    · subst y
      refine ⟨mnD (n + 1) (acc ++ [.tuple [.int ((0 : Nat) : Int), .tuple (List.replicate S .none), .int B]]), w6, ?_, .inr ⟨n + 1, _, rfl, ⟨by omega, by rw [List.length_append]; simp; omega, fun e he => ?_⟩, by omega⟩, k6.mono (by omega)⟩
      · have gt : gTuple [.list (acc ++ [.tuple [.int ((0 : Nat) : Int), .tuple (List.replicate S .none), .int B]])] = some (.d (.tuple (acc ++ [.tuple [.int ((0 : Nat) : Int), .tuple (List.replicate S .none), .int B]]))) := rfl
        generalize List.replicate S PyData.none = RP at *
        unfold mnD
        generalize ((n + 1 : Nat) : Int) = C at *
        simp [e5, e6, rep, relS1, gTuple, hal', l1, l2, l3, mnD]
      · rcases List.mem_append.mp he with q | q
        · exact hpe e q
        · rw [List.mem_singleton.mp q]; exact e0'
    · refine ⟨mnD (n + 1) acc, w5, ?_, .inr ⟨n + 1, acc, rfl, ⟨by omega, by omega, hpe⟩, by omega⟩, k5.mono (by omega)⟩
      have gt : gTuple [.list acc] = some (.d (.tuple acc)) := rfl
      unfold mnD
      generalize ((n + 1 : Nat) : Int) = C at *
      simp [e5, relS1, gt, l2, y, mnD]
theorem refused_ok {d t : Dt} (h : frm 1 d = false) (W : Option Well) : F_l_refused [.dt d, .dt t] W = .ok (.d (.bool true)) W := by
  have fa := from_any d 1 W
  rw [h] at fa
  have h1 : F_is_behaviour [.dt d, .dt t] W = .exc 1 W := by simp [F_is_behaviour, b_is_behaviour, F_check_signal_number, b_check_signal_number, fa]
  have body : (sDrop (eFun F_is_behaviour (aCons (eVar 0) (aCons (eVar 1) aNil)))) [.dt d, .dt t, .dt (.int 0), .no] W = .exc 1 [.dt d, .dt t, .dt (.int 0), .no] W := by
    simp [h1]
  have g1 : gInt [.bool true] = some (.d (.int 1)) := rfl
  have suite : ∀ a0 : Addr, ∃ ρ3, (fun a0 c => (sSet 2 (eBin gAdd (eC (.int 1)) (eCall gInt (aCons (eAnd (eIsX a0 3 (mtX c 0)) (eIsX a0 3 true)) aNil))))) a0 1 ([.dt d, .dt t, .dt (.int 0), .no].set 3 (.ex a0 1)) W = .nx ρ3 W ∧ ρ3.set 3 .no = [.dt d, .dt t, .dt (.int 2), .no] := fun a0 => by
    refine ⟨[.dt d, .dt t, .dt (.int 2), .ex a0 1], ?_, rfl⟩
    simp [mtX, g1]
  have tt := v_tryAs (ks := [1]) (i := 3) (h := fun a0 c => (sSet 2 (eBin gAdd (eC (.int 1)) (eCall gInt (aCons (eAnd (eIsX a0 3 (mtX c 0)) (eIsX a0 3 true)) aNil))))) body (by simp) (by simp) suite
  have e0 : F_l_refused [.dt d, .dt t] W = Out.res (b_l_refused [.dt d, .dt t, .no, .no] W) := rfl
  rw [e0]
  unfold b_l_refused
  have t1 : (sSet 2 (eC (.int 0))) [.dt d, .dt t, .no, .no] W = .nx [.dt d, .dt t, .dt (.int 0), .no] W := by simp
  rw [v_seq, t1, v_seqN, v_seq]
  refine (congrArg (fun o => Out.res (Out.seq o (sRet (eBin gEq (eVar 2) (eC (.int 2)))))) tt).trans ?_
  simp
end Cl
set_option Elab.async false
set_option linter.all false
set_option maxRecDepth 100000
set_option maxHeartbeats 8000000
set_option autoImplicit false
namespace Cl
open PySem PySem.Spec PyProof.Rows L2 Lw LwBI
variable [KI : FragI]
/-! ### k28: the law -/
theorem Lsame (b : Bool) (W : Option Well) : F_l_same 8 [.dt (.bool b), .dt (.bool b)] W = .ok (.d (.bool true)) W := same_plain (n := 7) (.bl _) W
theorem Lsame2 (W : Option Well) : F_l_same 8 [.dt (.list [.bool false, .bool false]), .dt (.list [.bool false, .bool false])] W = .ok (.d (.bool true)) W := same_plain (n := 7) (.lst (n := 6) (by simp) (fun d hd => by
  simp only [List.mem_cons, List.not_mem_nil, or_false] at hd
  rcases hd with rfl | rfl <;> exact .bl _)) W
def badCs (S : Nat) : List Dt := [.int 0, .int (-1), .bool true, .bool false, .none, .str (Str.ofString "1"), .tuple [.int 1], .list [.int 1], .int (-100000000000000000000000000000 + S)]
theorem bad_frm {S : Nat} (hS : S ≤ 3) : ∀ d ∈ badCs S, frm 1 d = false := fun d hd => by
  simp only [badCs, List.mem_cons, List.not_mem_nil, or_false] at hd
  rcases hd with rfl | rfl | rfl | rfl | rfl | rfl | rfl | rfl | rfl <;> first | rfl | (show decide _ = false; exact decide_eq_false (by omega))
theorem L3_turn {N : Dt} {j : Int} {x2 x4 x5 x6 x7 x8 x9 : Sl} {k : Nat} {w : Well} (hw : wOk (k + 300) w) :
    ∃ y5 y6 y7 y8 y9 w', b_law_L3 [.dt N, .dt (.int j), x2, .wel, x4, x5, x6, x7, x8, x9] (some w) = .nx [.dt N, .dt (.int j), x2, .wel, x4, y5, y6, y7, y8, y9] (some w') ∧ wOk k w' := by
  have p29 : gPow (.int 10) (.int 29) = some (.d (.int 100000000000000000000000000000)) := by rfl
  obtain ⟨r1, w1, e1, a1, b1, k1⟩ := draw_ok (n := 3) (k := k + 299) (by omega) (by omega) hw
  obtain ⟨S, hS, h1, h3⟩ : ∃ S : Nat, 1 + r1 = S ∧ 1 ≤ S ∧ S ≤ 3 := ⟨(1 + r1).toNat, by omega, by omega, by omega⟩
  obtain ⟨M, w2, e2, hM, k2⟩ := manner_ok (k := k + 99) h1 h3 k1
  have hV : Vm mL M := by
    rcases hM with rfl | ⟨c, es, rfl, h, hc⟩
    · exact .non
    · exact h.vm h3 (by omega)
  have as := asked_ok hV (some w2)
  have bh := behaviour_any h1 hV.gd (some w2)
  have nn : manB S M = !isNone M := by
    rcases hM with rfl | ⟨c, es, rfl, h, hc⟩
    · rfl
    · rw [h.yes]; rfl
  rw [nn] at bh
  have l2 : (2 : Nat) ≤ lineN := line_ok (by decide)
  have l1 : (1 : Nat) ≤ lineN := line_ok (by decide)
  have l3 : (3 : Nat) ≤ lineN := line_ok (by decide)
  have l9 : (9 : Nat) ≤ lineN := line_ok (by decide)
  have t1 : (sSet 5 (eBin gAdd (eC (.int 1)) (eFun F_l_draw (aWel 3 (aCons (eC (.int 3)) aNil))))) [.dt N, .dt (.int j), x2, .wel, x4, x5, x6, x7, x8, x9] (some w) = .nx [.dt N, .dt (.int j), x2, .wel, x4, .dt (.int S), x6, x7, x8, x9] (some w1) := by
    simp [e1, hS]
  have t2 : (sSet 6 (eFun F_l_manner (aWel 3 (aCons (eVar 5) (aCons (eC (.int 5)) aNil))))) [.dt N, .dt (.int j), x2, .wel, x4, .dt (.int S), x6, x7, x8, x9] (some w1) = .nx [.dt N, .dt (.int j), x2, .wel, x4, .dt (.int S), .dt M, x7, x8, x9] (some w2) := by
    simp [e2]
  have t3 : (sIf (tOrF (tNotF (tOfE (eFun (F_l_same 8) (aCons (eFun F_is_behaviour (aCons (eVar 5) (aCons (eVar 6) aNil))) (aCons (eNotN (eVar 6)) aNil))))) (tNotF (tOfE (eFun F_l_asked (aCons (eVar 6) aNil))))) (sRet (eC (.bool false))) sSkip) [.dt N, .dt (.int j), x2, .wel, x4, .dt (.int S), .dt M, x7, x8, x9] (some w2) = .nx [.dt N, .dt (.int j), x2, .wel, x4, .dt (.int S), .dt M, x7, x8, x9] (some w2) := by
    have sm := Lsame (!isNone M) (some w2)
    simp [bh, sm, as]
  -- bent ones
  obtain ⟨y9, w3, t4, k3⟩ : ∃ y9 w3, (sIf (tOfB (eNotN (eVar 6))) (sFor (fiRange1 (aCons (eC (.int 5)) aNil)) (fgName 9) b_law_L1) sSkip) [.dt N, .dt (.int j), x2, .wel, x4, .dt (.int S), .dt M, x7, x8, x9] (some w2) = .nx [.dt N, .dt (.int j), x2, .wel, x4, .dt (.int S), .dt M, x7, x8, y9] (some w3) ∧ wOk (k + 50) w3 := by
    rcases hM with rfl | ⟨c, es, rfl, h, hc⟩
    · exact ⟨x9, w2, by simp [isNone], k2.mono (by omega)⟩
    · obtain ⟨ρ', W', e3, ⟨w3, y9, rfl, rfl, k3⟩⟩ := forGo_inv (g := fgName 9) (f := b_law_L1) (fun n ρ W' => ∃ w3 y9, ρ = [.dt N, .dt (.int j), x2, .wel, x4, .dt (.int S), .dt (mnD c es), x7, x8, y9] ∧ W' = some w3 ∧ wOk (k + 50 + 8 * (5 - n)) w3) (rangeD 0 5) 0 [.dt N, .dt (.int j), x2, .wel, x4, .dt (.int S), .dt (mnD c es), x7, x8, x9] (some w2)
        (fun i dd ρ W hd ⟨w3, y9, e4, e5, k3⟩ => by
          subst e4; subst e5
          obtain ⟨rfl, hi⟩ := rangeD_get hd
          rw [Nat.zero_add] at k3 ⊢
          rw [show k + 50 + 8 * (5 - i) = (k + 50 + 8 * (5 - (i + 1))) + 8 by omega] at k3
          obtain ⟨e, w4, e6, v, k4⟩ := bent_ok h h3 (by omega) k3
          have as2 := asked_ok v (some w4)
          refine ⟨_, rfl, [.dt N, .dt (.int j), x2, .wel, x4, .dt (.int S), .dt (mnD c es), x7, x8, .dt (.int (0 + (i : Int)))], some w4, ?_, w4, _, rfl, rfl, k4⟩
          show b_law_L1 [.dt N, .dt (.int j), x2, .wel, x4, .dt (.int S), .dt (mnD c es), x7, x8, .dt (.int (0 + (i : Int)))] (some w3) = _
          generalize mnD c es = MD at *
          generalize hED : e.D = ED at *
          simp [b_law_L1, e6, hED, as2])
        ⟨w2, _, rfl, rfl, k2.mono (by omega)⟩
      have r5 : Lw.inR 5 = true := inR_of (by omega)
      refine ⟨y9, w3, ?_, by simpa [rangeD_length] using k3⟩
      have nM : isNone (mnD c es) = false := rfl
      have it : fiRange1 (aCons (eC (.int 5)) aNil) [.dt N, .dt (.int j), x2, .wel, x4, .dt (.int S), .dt (mnD c es), x7, x8, x9] (some w2) = .ok (rangeD 0 5) (some w2) := by
        generalize mnD c es = MD at *
        simp [r5]
      have cn : tOfB (eNotN (eVar 6)) [.dt N, .dt (.int j), x2, .wel, x4, .dt (.int S), .dt (mnD c es), x7, x8, x9] (some w2) = .ok true (some w2) := by
        generalize mnD c es = MD at *
        simp [nM]
      rw [v_sif, cn, v_ttoS, if_pos rfl, v_for, it]
      exact e3
  obtain ⟨r4, w4, e4, a4, b4, k4⟩ := draw_ok (n := 100000000000000000000000000000) (k := k + 49) (by omega) (by decide) k3
  obtain ⟨G, hG, hG1⟩ : ∃ G : Nat, 4 + r4 = G ∧ 1 ≤ G := ⟨(4 + r4).toNat, by omega, by omega⟩
  have t5 : (sSet 7 (eBin gAdd (eC (.int 4)) (eFun F_l_draw (aWel 3 (aCons (eBin gPow (eC (.int 10)) (eC (.int 29))) aNil))))) [.dt N, .dt (.int j), x2, .wel, x4, .dt (.int S), .dt M, x7, x8, y9] (some w3) = .nx [.dt N, .dt (.int j), x2, .wel, x4, .dt (.int S), .dt M, .dt (.int G), x8, y9] (some w4) := by
    simp [p29, e4, hG]
  have g1 := behaviour_any (S := G) hG1 (n := 0) (d := .none) .non (some w4)
  have g2 := behaviour_any (S := G) hG1 (n := 0) (d := .int S) (.int _) (some w4)
  have g1 : F_is_behaviour [.dt (.int G), .dt .none] (some w4) = .ok (.d (.bool false)) (some w4) := g1
  have g2 : F_is_behaviour [.dt (.int G), .dt (.int S)] (some w4) = .ok (.d (.bool false)) (some w4) := g2
  have t6 : (sIf (tNotF (tOfE (eFun (F_l_same 8) (aCons (eLst (aCons (eFun F_is_behaviour (aCons (eVar 7) (aCons (eC .none) aNil))) (aCons (eFun F_is_behaviour (aCons (eVar 7) (aCons (eVar 5) aNil))) aNil))) (aCons (eLst (aCons (eC (.bool false)) (aCons (eC (.bool false)) aNil))) aNil))))) (sRet (eC (.bool false))) sSkip) [.dt N, .dt (.int j), x2, .wel, x4, .dt (.int S), .dt M, .dt (.int G), x8, y9] (some w4) = .nx [.dt N, .dt (.int j), x2, .wel, x4, .dt (.int S), .dt M, .dt (.int G), x8, y9] (some w4) := by
    have sm := Lsame2 (some w4)
    simp [g1, g2, sm, l2]
  obtain ⟨ρ', W', e5, ⟨w5, y8, rfl, rfl, k5⟩⟩ := forGo_inv (g := fgName 8) (f := b_law_L2) (fun n ρ W' => ∃ w5 y8, ρ = [.dt N, .dt (.int j), x2, .wel, x4, .dt (.int S), .dt M, .dt (.int G), y8, y9] ∧ W' = some w5 ∧ wOk (k + 1 * (49 - n)) w5) (badCs S) 0 [.dt N, .dt (.int j), x2, .wel, x4, .dt (.int S), .dt M, .dt (.int G), x8, y9] (some w4)
    (fun i dd ρ W hd ⟨w5, y8, e6, e7, k5⟩ => by
      subst e6; subst e7
      have hi : i < 9 := (List.getElem?_eq_some_iff.mp hd).1
      have fr := bad_frm h3 dd (List.mem_of_getElem? hd)
      rw [Nat.zero_add] at k5 ⊢
      rw [show k + 1 * (49 - i) = (k + 1 * (49 - (i + 1))) + 1 by omega] at k5
      obtain ⟨q, w6, e8, a8, b8, k6⟩ := draw_ok (n := 3) (k := k + 1 * (49 - (i + 1))) (by omega) (by omega) k5
      obtain ⟨t, ht, _⟩ := atI_mem (l := [M, .none, .int S]) (i := q) a8 (by simpa using b8)
      have rf := refused_ok (t := t) fr (some w6)
      refine ⟨_, rfl, [.dt N, .dt (.int j), x2, .wel, x4, .dt (.int S), .dt M, .dt (.int G), .dt dd, y9], some w6, ?_, w6, _, rfl, rfl, k6⟩
      show b_law_L2 [.dt N, .dt (.int j), x2, .wel, x4, .dt (.int S), .dt M, .dt (.int G), .dt dd, y9] (some w5) = _
      simp [b_law_L2, e8, ht, rf, l3])
    ⟨w4, _, rfl, rfl, k4.mono (by omega)⟩
  have hb9 : (badCs S).length = 9 := rfl
  refine ⟨.dt (.int S), .dt M, .dt (.int G), y8, y9, w5, ?_, by rw [hb9] at k5; exact k5.mono (by omega)⟩
  have it2 : fiSeq (eTup (aCons (eC (.int 0)) (aCons (eNeg (eC (.int 1))) (aCons (eC (.bool true)) (aCons (eC (.bool false)) (aCons (eC .none) (aCons (eC (.str (Str.ofString "1"))) (aCons (eTup (aCons (eC (.int 1)) aNil)) (aCons (eLst (aCons (eC (.int 1)) aNil)) (aCons (eBin gAdd (eNeg (eBin gPow (eC (.int 10)) (eC (.int 29)))) (eVar 5)) aNil)))))))))) [.dt N, .dt (.int j), x2, .wel, x4, .dt (.int S), .dt M, .dt (.int G), x8, y9] (some w4) = .ok (badCs S) (some w4) := by
    unfold badCs
    simp [p29, l1, l9]
  unfold b_law_L3
  rw [v_seq, t1, v_seqN, v_seq, t2, v_seqN, v_seq, t3, v_seqN, v_seq, t4, v_seqN, v_seq, t5, v_seqN, v_seq, t6, v_seqN, v_for, it2]
  exact e5
theorem L4_turn (ns : List Int) {i : Nat} (hi : i < 900) {W : Option Well} {x2 x3 x4 x5 x6 x7 x8 x9 : Sl} : ∃ (W' : Option Well) (z2 z3 z4 z5 z6 z7 z8 z9 : Sl), b_law_L4 [.dt (.list (ns.map PyData.int)), .dt (.int i), x2, x3, x4, x5, x6, x7, x8, x9] W = .nx [.dt (.list (ns.map PyData.int)), .dt (.int i), z2, z3, z4, z5, z6, z7, z8, z9] W' := by
  obtain ⟨x, y, hwl, hk⟩ := well_ok ns i (by omega) W
  have t1 : (sMkW true 3 (eFun F_l_well (aCons (eVar 0) (aCons (eVar 1) aNil)))) [.dt (.list (ns.map PyData.int)), .dt (.int i), x2, x3, x4, x5, x6, x7, x8, x9] W = .nx [.dt (.list (ns.map PyData.int)), .dt (.int i), unwel x2, .wel, unwel x4, unwel x5, unwel x6, unwel x7, unwel x8, unwel x9] (some (x, y, 0)) := by
    simp [hwl, mkW, unwel]
  obtain ⟨ρ', W', e7, ⟨w', z4, z5, z6, z7, z8, z9, rfl, hWW, _⟩⟩ := forGo_inv (g := fgName 4) (f := b_law_L3) (fun n ρ W' => ∃ w' z4 z5 z6 z7 z8 z9, ρ = [.dt (.list (ns.map PyData.int)), .dt (.int i), unwel x2, .wel, z4, z5, z6, z7, z8, z9] ∧ W' = some w' ∧ wOk (300 * (6 - n)) w') (rangeD 0 6) 0 [.dt (.list (ns.map PyData.int)), .dt (.int i), unwel x2, .wel, unwel x4, unwel x5, unwel x6, unwel x7, unwel x8, unwel x9] (some (x, y, 0))
    (fun n dd ρ W' hd ⟨w', z4, z5, z6, z7, z8, z9, e1, e2, hw'⟩ => by
      subst e1; subst e2
      rw [Nat.zero_add] at hw' ⊢
      obtain ⟨rfl, hn⟩ := rangeD_get hd
      rw [show 300 * (6 - n) = 300 * (6 - (n + 1)) + 300 by omega] at hw'
      obtain ⟨y5, y6, y7, y8, y9, w2, e, hw2⟩ := L3_turn (N := .list (ns.map PyData.int)) (j := (i : Int)) (x2 := unwel x2) (x4 := .dt (.int (0 + (n : Int)))) (x5 := z5) (x6 := z6) (x7 := z7) (x8 := z8) (x9 := z9) hw'
      exact ⟨_, rfl, _, _, e, w2, _, _, _, _, _, _, rfl, rfl, hw2⟩)
    ⟨(x, y, 0), _, _, _, _, _, _, rfl, rfl, hk _ (by decide)⟩
  have r6 : Lw.inR 6 = true := inR_of (by omega)
  have it : fiRange1 (aCons (eC (.int 6)) aNil) [.dt (.list (ns.map PyData.int)), .dt (.int i), unwel x2, .wel, unwel x4, unwel x5, unwel x6, unwel x7, unwel x8, unwel x9] (some (x, y, 0)) = .ok (rangeD 0 6) (some (x, y, 0)) := by simp [r6]
  refine ⟨W', unwel x2, .wel, z4, z5, z6, z7, z8, z9, ?_⟩
  unfold b_law_L4
  rw [v_seq, t1, v_seqN, v_for, it]
  exact e7
def ends : List Dt := [.none, .int 0, .str (Str.ofString "none"), .tuple [], .list [], .tuple [.int 1], .tuple [.int 1, .tuple []], .tuple [.int 0, .tuple []], .tuple [.int 1, .list []], .tuple [.int 2, .tuple [.tuple [.int 0, .tuple [.int 1], .int 1]]], .tuple [.int 1, .tuple [.tuple [.int 0, .tuple [.int 1], .int 1]]]]
omit KI in
theorem ends_vm : ∀ d ∈ ends, Vm mL d := by
  intro d hd
  have n0 : ∀ {ms : List Nat} {i : Int}, i.natAbs < 2 ^ 60 → Vm ms (.int i) := fun h => .int h
  have e0 : ∀ {m : Nat} {ms : List Nat}, 1 ≤ m ∧ m ≤ 40 → Vm (m :: ms) (.tuple []) := fun hm => .tup (by simp) hm (fun _ h => nomatch h)
  have e2 : ∀ {m : Nat} {ms : List Nat} {a b : Dt}, 2 ≤ m ∧ m ≤ 40 → Vm ms a → Vm ms b → Vm (m :: ms) (.tuple [a, b]) := fun hm ha hb => .tup (by simp; omega) (by omega) (fun d hd => by
    simp only [List.mem_cons, List.not_mem_nil, or_false] at hd
    rcases hd with rfl | rfl <;> assumption)
  have e1 : ∀ {m : Nat} {ms : List Nat} {a : Dt}, 1 ≤ m ∧ m ≤ 40 → Vm ms a → Vm (m :: ms) (.tuple [a]) := fun hm ha => .tup (by simp; omega) (by omega) (fun d hd => by rw [List.mem_singleton.mp hd]; exact ha)
  have e3 : ∀ {m : Nat} {ms : List Nat} {a b c : Dt}, 3 ≤ m ∧ m ≤ 40 → Vm ms a → Vm ms b → Vm ms c → Vm (m :: ms) (.tuple [a, b, c]) := fun hm ha hb hc => .tup (by simp; omega) (by omega) (fun d hd => by
    simp only [List.mem_cons, List.not_mem_nil, or_false] at hd
    rcases hd with rfl | rfl | rfl <;> assumption)
  have ed : Vm [4, 4, 2] (.tuple [.int 0, .tuple [.int 1], .int 1]) := e3 (by decide) (n0 (by decide)) (e1 (by decide) (n0 (by decide))) (n0 (by decide))
  simp only [ends, List.mem_cons, List.not_mem_nil, or_false] at hd
  rcases hd with rfl | rfl | rfl | rfl | rfl | rfl | rfl | rfl | rfl | rfl | rfl
  · exact .non
  · exact n0 (by decide)
  · exact .str (by decide +kernel) ⟨rfl, by decide +kernel, by decide +kernel⟩
  · exact e0 (by decide)
  · exact .lst (by simp) (by decide) (fun _ h => nomatch h)
  · exact e1 (by decide) (n0 (by decide))
  · exact e2 (by decide) (n0 (by decide)) (e0 (by decide))
  · exact e2 (by decide) (n0 (by decide)) (e0 (by decide))
  · exact e2 (by decide) (n0 (by decide)) (.lst (by simp) (by decide) (fun _ h => nomatch h))
  · exact e2 (by decide) (n0 (by decide)) (e1 (by decide) ed)
  · exact e2 (by decide) (n0 (by decide)) (e1 (by decide) ed)
theorem law_true (ns : List Int) (hn : ns.length ≤ 63) : ∃ W, F_law [.dt (.list (ns.map PyData.int))] none = .ok (.d (.bool true)) W := by
  have lN : gLen [.list (ns.map PyData.int)] = some (.d (.int ns.length)) := by
    rw [show gLen [.list (ns.map PyData.int)] = some (.d (.int ((ns.map PyData.int).length : Nat))) by simp, List.length_map]
  obtain ⟨m, hm⟩ : ∃ m : Nat, mxI 1 (mnI 10 (ns.length : Int)) = m := ⟨(mxI 1 (mnI 10 (ns.length : Int))).toNat, by
    have := mxI_is 1 (mnI 10 (ns.length : Int))
    omega⟩
  have hm6 : m ≤ 10 := by
    have h1 := mxI_is 1 (mnI 10 (ns.length : Int))
    have h2 := mnI_is 10 (ns.length : Int)
    omega
  have hrm : Lw.inR (m : Int) = true := inR_of (by omega)
  obtain ⟨ρ', W', e, ⟨z1, z2, z3, z4, z5, z6, z7, z8, z9, rfl⟩⟩ := forGo_inv (g := fgName 1) (f := b_law_L4) (fun _ ρ W' => ∃ z1 z2 z3 z4 z5 z6 z7 z8 z9, ρ = [.dt (.list (ns.map PyData.int)), z1, z2, z3, z4, z5, z6, z7, z8, z9]) (rangeD 0 m) 0 [.dt (.list (ns.map PyData.int)), .no, .no, .no, .no, .no, .no, .no, .no, .no] none
    (fun j d ρ W' hd ⟨z1, z2, z3, z4, z5, z6, z7, z8, z9, e1⟩ => by
      subst e1
      obtain ⟨rfl, hj⟩ := rangeD_get hd
      obtain ⟨W2, u2, u3, u4, u5, u6, u7, u8, u9, e⟩ := L4_turn ns (i := j) (by omega) (W := W') (x2 := z2) (x3 := z3) (x4 := z4) (x5 := z5) (x6 := z6) (x7 := z7) (x8 := z8) (x9 := z9)
      rw [Int.zero_add]
      exact ⟨_, rfl, _, _, e, .dt (.int j), u2, u3, u4, u5, u6, u7, u8, u9, rfl⟩)
    ⟨_, _, _, _, _, _, _, _, _, rfl⟩
  have it : fiRange1 (aCons (eCall gMax2 (aCons (eC (.int 1)) (aCons (eCall gMin2 (aCons (eC (.int 10)) (aCons (eCall gLen (aCons (eVar 0) aNil)) aNil))) aNil))) aNil) [.dt (.list (ns.map PyData.int)), .no, .no, .no, .no, .no, .no, .no, .no, .no] none = .ok (rangeD 0 m) none := by
    generalize PyData.list (ns.map PyData.int) = N at *
    simp [lN, hm, hrm]
  obtain ⟨ρ2, W2, e2, ⟨y2, rfl⟩⟩ := forGo_inv (g := fgName 2) (f := b_law_L5) (fun _ ρ W => ∃ y2, ρ = [.dt (.list (ns.map PyData.int)), z1, y2, z3, z4, z5, z6, z7, z8, z9]) ends 0 [.dt (.list (ns.map PyData.int)), z1, z2, z3, z4, z5, z6, z7, z8, z9] W'
    (fun j d ρ W hd ⟨y2, e3⟩ => by
      subst e3
      have ha := asked_ok (ends_vm d (List.mem_of_getElem? hd)) W
      refine ⟨_, rfl, [.dt (.list (ns.map PyData.int)), z1, .dt d, z3, z4, z5, z6, z7, z8, z9], W, ?_, .dt d, rfl⟩
      generalize PyData.list (ns.map PyData.int) = N at *
      show b_law_L5 [.dt N, z1, .dt d, z3, z4, z5, z6, z7, z8, z9] _ = _
      simp [b_law_L5, ha])
    ⟨_, rfl⟩
  refine ⟨W2, ?_⟩
  have e0 : F_law [.dt (.list (ns.map PyData.int))] none = Out.res (b_law [.dt (.list (ns.map PyData.int)), .no, .no, .no, .no, .no, .no, .no, .no, .no] none) := rfl
  rw [e0]
  unfold b_law
  have lL : ∀ n : Nat, n ≤ 100 → n ≤ lineN := fun n hn => line_ok (by omega)
  have it2 : fiSeq (eTup (aCons (eC .none) (aCons (eC (.int 0)) (aCons (eC (.str (Str.ofString "none"))) (aCons (eTup aNil) (aCons (eLst aNil) (aCons (eTup (aCons (eC (.int 1)) aNil)) (aCons (eTup (aCons (eC (.int 1)) (aCons (eTup aNil) aNil))) (aCons (eTup (aCons (eC (.int 0)) (aCons (eTup aNil) aNil))) (aCons (eTup (aCons (eC (.int 1)) (aCons (eLst aNil) aNil))) (aCons (eTup (aCons (eC (.int 2)) (aCons (eTup (aCons (eTup (aCons (eC (.int 0)) (aCons (eTup (aCons (eC (.int 1)) aNil)) (aCons (eC (.int 1)) aNil)))) aNil)) aNil))) (aCons (eTup (aCons (eC (.int 1)) (aCons (eTup (aCons (eTup (aCons (eC (.int 0)) (aCons (eTup (aCons (eC (.int 1)) aNil)) (aCons (eC (.int 1)) aNil)))) aNil)) aNil))) aNil)))))))))))) [.dt (.list (ns.map PyData.int)), z1, z2, z3, z4, z5, z6, z7, z8, z9] W' = .ok ends W' := by
    unfold ends
    simp [lL 1 (by omega), lL 2 (by omega), lL 3 (by omega), lL 11 (by omega)]
  rw [v_seq, v_for, it]
  dsimp only
  rw [e, v_seqN, v_seq, v_for, it2]
  dsimp only
  rw [e2, v_seqN]
  simp
end Cl
set_option Elab.async false
set_option linter.all false
set_option maxRecDepth 100000
set_option maxHeartbeats 8000000
namespace Cl
open PySem PySem.Spec PyProof.Rows L2 Lw
theorem kit_ve {K : PySem.W.Frag} {C : Addr} (h : PySem.W.subIn K (.ref C) (.type "ValueError") = some true) : PySem.W.kitOne K (.ref C) (.type "ValueError") = some true := by
  have e : ((Value.ref C) == Value.type "ValueError") = false := rfl
  have m : PySem.W.kitMeta "ValueError" = true := by decide +kernel
  show (if ((Value.ref C) == Value.type "ValueError") = true then some true else (if PySem.W.kitMeta "ValueError" = true then PySem.W.subIn K (.ref C) (.type "ValueError") else none)) = some true
  rw [e, if_neg (by decide), if_pos m]
  exact h
theorem all_mk {P : Program} {w : World} {K : PySem.W.Frag} {h : Heap} {mg : Str → Option Value} {fa : Addr} (X : K.In h) (G : h.Ns mainGlobals mg) (hfa : mg "law" = some (.ref fa))
    {t_BAD : _}
    {t_NONE : _}
    {C_InvalidNumber : Addr}
    {C_PlanError : Addr}
    {f_is_from : Addr} {od_is_from an_is_from : Option Addr} {sl_is_from : Array (Option Value)} {oc_is_from kV_is_from dc_is_from pm_is_from cd_is_from ct_is_from : Value}
    {f_check_signal_number : Addr} {od_check_signal_number an_check_signal_number : Option Addr} {sl_check_signal_number : Array (Option Value)} {oc_check_signal_number kV_check_signal_number dc_check_signal_number pm_check_signal_number cd_check_signal_number ct_check_signal_number : Value}
    {f_are_edges : Addr} {od_are_edges an_are_edges : Option Addr} {sl_are_edges : Array (Option Value)} {oc_are_edges kV_are_edges dc_are_edges pm_are_edges cd_are_edges ct_are_edges : Value}
    {f_is_behaviour_of : Addr} {od_is_behaviour_of an_is_behaviour_of : Option Addr} {sl_is_behaviour_of : Array (Option Value)} {oc_is_behaviour_of kV_is_behaviour_of dc_is_behaviour_of pm_is_behaviour_of cd_is_behaviour_of ct_is_behaviour_of : Value}
    {f_is_behaviour : Addr} {od_is_behaviour an_is_behaviour : Option Addr} {sl_is_behaviour : Array (Option Value)} {oc_is_behaviour kV_is_behaviour dc_is_behaviour pm_is_behaviour cd_is_behaviour ct_is_behaviour : Value}
    {f_l_well : Addr} {od_l_well an_l_well : Option Addr} {sl_l_well : Array (Option Value)} {oc_l_well kV_l_well dc_l_well pm_l_well cd_l_well ct_l_well : Value}
    {f_l_draw : Addr} {od_l_draw an_l_draw : Option Addr} {sl_l_draw : Array (Option Value)} {oc_l_draw kV_l_draw dc_l_draw pm_l_draw cd_l_draw ct_l_draw : Value}
    {f_l_same : Addr} {od_l_same an_l_same : Option Addr} {sl_l_same : Array (Option Value)} {oc_l_same kV_l_same dc_l_same pm_l_same cd_l_same ct_l_same : Value}
    {f_l_signs : Addr} {od_l_signs an_l_signs : Option Addr} {sl_l_signs : Array (Option Value)} {oc_l_signs kV_l_signs dc_l_signs pm_l_signs cd_l_signs ct_l_signs : Value}
    {f_l_manner : Addr} {od_l_manner an_l_manner : Option Addr} {sl_l_manner : Array (Option Value)} {oc_l_manner kV_l_manner dc_l_manner pm_l_manner cd_l_manner ct_l_manner : Value}
    {f_l_odd : Addr} {od_l_odd an_l_odd : Option Addr} {sl_l_odd : Array (Option Value)} {oc_l_odd kV_l_odd dc_l_odd pm_l_odd cd_l_odd ct_l_odd : Value}
    {f_l_bent_tuple : Addr} {od_l_bent_tuple an_l_bent_tuple : Option Addr} {sl_l_bent_tuple : Array (Option Value)} {oc_l_bent_tuple kV_l_bent_tuple dc_l_bent_tuple pm_l_bent_tuple cd_l_bent_tuple ct_l_bent_tuple : Value}
    {f_l_bent : Addr} {od_l_bent an_l_bent : Option Addr} {sl_l_bent : Array (Option Value)} {oc_l_bent kV_l_bent dc_l_bent pm_l_bent cd_l_bent ct_l_bent : Value}
    {f_l_is_number : Addr} {od_l_is_number an_l_is_number : Option Addr} {sl_l_is_number : Array (Option Value)} {oc_l_is_number kV_l_is_number dc_l_is_number pm_l_is_number cd_l_is_number ct_l_is_number : Value}
    {f_l_is_partial : Addr} {od_l_is_partial an_l_is_partial : Option Addr} {sl_l_is_partial : Array (Option Value)} {oc_l_is_partial kV_l_is_partial dc_l_is_partial pm_l_is_partial cd_l_is_partial ct_l_is_partial : Value}
    {f_l_is_manner : Addr} {od_l_is_manner an_l_is_manner : Option Addr} {sl_l_is_manner : Array (Option Value)} {oc_l_is_manner kV_l_is_manner dc_l_is_manner pm_l_is_manner cd_l_is_manner ct_l_is_manner : Value}
    {f_l_asked : Addr} {od_l_asked an_l_asked : Option Addr} {sl_l_asked : Array (Option Value)} {oc_l_asked kV_l_asked dc_l_asked pm_l_asked cd_l_asked ct_l_asked : Value}
    {f_l_refused : Addr} {od_l_refused an_l_refused : Option Addr} {sl_l_refused : Array (Option Value)} {oc_l_refused kV_l_refused dc_l_refused pm_l_refused cd_l_refused ct_l_refused : Value}
    {f_law : Addr} {od_law an_law : Option Addr} {sl_law : Array (Option Value)} {oc_law kV_law dc_law pm_law cd_law ct_law : Value}
    (z_ValueError : PySem.W.nsIn K mainGlobals "ValueError" = some none)
    (z_abs : PySem.W.nsIn K mainGlobals "abs" = some none)
    (z_bool : PySem.W.nsIn K mainGlobals "bool" = some none)
    (z_int : PySem.W.nsIn K mainGlobals "int" = some none)
    (z_isinstance : PySem.W.nsIn K mainGlobals "isinstance" = some none)
    (z_len : PySem.W.nsIn K mainGlobals "len" = some none)
    (z_list : PySem.W.nsIn K mainGlobals "list" = some none)
    (z_max : PySem.W.nsIn K mainGlobals "max" = some none)
    (z_min : PySem.W.nsIn K mainGlobals "min" = some none)
    (z_range : PySem.W.nsIn K mainGlobals "range" = some none)
    (z_repr : PySem.W.nsIn K mainGlobals "repr" = some none)
    (z_tuple : PySem.W.nsIn K mainGlobals "tuple" = some none)
    (c_BAD : PySem.W.nsIn K mainGlobals "BAD" = some (some (.int 2 t_BAD)))
    (c_NONE : PySem.W.nsIn K mainGlobals "NONE" = some (some (.int 0 t_NONE)))
    (x1_InvalidNumber : PySem.W.nsIn K mainGlobals "InvalidNumber" = some (some (.ref C_InvalidNumber)))
    (x2_InvalidNumber : PySem.W.excIn K C_InvalidNumber [.type "ValueError", .type "Exception", .type "BaseException", .type "object"] "ValueError.__new__" = true)
    (x3_InvalidNumber : PySem.W.keepIn K (.ref C_InvalidNumber) = true)
    (x4_InvalidNumber : PySem.W.subIn K (.ref C_InvalidNumber) (.type "BaseException") = some true)
    (x5_InvalidNumber : PySem.W.typeIn K (.ref C_InvalidNumber) = some (.type "type"))
    (x1_PlanError : PySem.W.nsIn K mainGlobals "PlanError" = some (some (.ref C_PlanError)))
    (x2_PlanError : PySem.W.excIn K C_PlanError [.type "ValueError", .type "Exception", .type "BaseException", .type "object"] "ValueError.__new__" = true)
    (x3_PlanError : PySem.W.keepIn K (.ref C_PlanError) = true)
    (x4_PlanError : PySem.W.subIn K (.ref C_PlanError) (.type "BaseException") = some true)
    (x5_PlanError : PySem.W.typeIn K (.ref C_PlanError) = some (.type "type"))
    (q1_InvalidNumber : PySem.W.findIn K (.ref C_InvalidNumber) "__getattribute__" = some (some (.builtin "BaseException.__getattribute__")))
    (q2_InvalidNumber : PySem.W.findIn K (.ref C_InvalidNumber) "__getattr__" = some none)
    (q3_InvalidNumber : PySem.W.subIn K (.ref C_InvalidNumber) (.type "BaseException") = some true)
    (q4_InvalidNumber : PySem.W.hasDictIn K C_InvalidNumber = true)
    (q5_InvalidNumber : PySem.W.findIn K (.ref C_InvalidNumber) "__class__" = some (some (.builtin "object.__class__")))
    (q6 : PySem.W.specialIn K (.builtin "object.__class__") "__get__" = some (some (.builtin "getset_descriptor.__get__")))
    (q7 : PySem.W.takesIn K (.builtin "object.__class__") = some true)
    (q8_InvalidNumber : PySem.W.mroIn K C_InvalidNumber (.type "object") = some true)
    (v1_InvalidNumber : PySem.W.subIn K (.ref C_InvalidNumber) (.type "ValueError") = some true)
    (x6_InvalidNumber : PySem.W.hasDictIn K C_InvalidNumber = true)
    (x6_PlanError : PySem.W.hasDictIn K C_PlanError = true)
    (y_InvalidNumber_InvalidNumber : PySem.W.subIn K (.ref C_InvalidNumber) (.ref C_InvalidNumber) = some true)
    (y_InvalidNumber_PlanError : PySem.W.subIn K (.ref C_InvalidNumber) (.ref C_PlanError) = some true)
    (n_InvalidNumber_PlanError : C_InvalidNumber ≠ C_PlanError)
    (a_is_from : PySem.W.nsIn K mainGlobals "is_from" = some (some (.ref f_is_from)))
    (l_is_from : K.lookup f_is_from = some ⟨oc_is_from, od_is_from, .func (PySem.W.fnOf "is_from" "is_from" (defArgs s_is_from) (defBody s_is_from) (defScope s_is_from) .none kV_is_from dc_is_from pm_is_from an_is_from cd_is_from ct_is_from), sl_is_from⟩)
    (k_is_from : PySem.W.codeIn K cd_is_from "is_from" = true)
    (e_is_from : PySem.W.keepIn K (.ref f_is_from) = true)
    (a_check_signal_number : PySem.W.nsIn K mainGlobals "check_signal_number" = some (some (.ref f_check_signal_number)))
    (l_check_signal_number : K.lookup f_check_signal_number = some ⟨oc_check_signal_number, od_check_signal_number, .func (PySem.W.fnOf "check_signal_number" "check_signal_number" (defArgs s_check_signal_number) (defBody s_check_signal_number) (defScope s_check_signal_number) .none kV_check_signal_number dc_check_signal_number pm_check_signal_number an_check_signal_number cd_check_signal_number ct_check_signal_number), sl_check_signal_number⟩)
    (k_check_signal_number : PySem.W.codeIn K cd_check_signal_number "check_signal_number" = true)
    (e_check_signal_number : PySem.W.keepIn K (.ref f_check_signal_number) = true)
    (a_are_edges : PySem.W.nsIn K mainGlobals "are_edges" = some (some (.ref f_are_edges)))
    (l_are_edges : K.lookup f_are_edges = some ⟨oc_are_edges, od_are_edges, .func (PySem.W.fnOf "are_edges" "are_edges" (defArgs s_are_edges) (defBody s_are_edges) (defScope s_are_edges) .none kV_are_edges dc_are_edges pm_are_edges an_are_edges cd_are_edges ct_are_edges), sl_are_edges⟩)
    (k_are_edges : PySem.W.codeIn K cd_are_edges "are_edges" = true)
    (e_are_edges : PySem.W.keepIn K (.ref f_are_edges) = true)
    (a_is_behaviour_of : PySem.W.nsIn K mainGlobals "is_behaviour_of" = some (some (.ref f_is_behaviour_of)))
    (l_is_behaviour_of : K.lookup f_is_behaviour_of = some ⟨oc_is_behaviour_of, od_is_behaviour_of, .func (PySem.W.fnOf "is_behaviour_of" "is_behaviour_of" (defArgs s_is_behaviour_of) (defBody s_is_behaviour_of) (defScope s_is_behaviour_of) .none kV_is_behaviour_of dc_is_behaviour_of pm_is_behaviour_of an_is_behaviour_of cd_is_behaviour_of ct_is_behaviour_of), sl_is_behaviour_of⟩)
    (k_is_behaviour_of : PySem.W.codeIn K cd_is_behaviour_of "is_behaviour_of" = true)
    (e_is_behaviour_of : PySem.W.keepIn K (.ref f_is_behaviour_of) = true)
    (a_is_behaviour : PySem.W.nsIn K mainGlobals "is_behaviour" = some (some (.ref f_is_behaviour)))
    (l_is_behaviour : K.lookup f_is_behaviour = some ⟨oc_is_behaviour, od_is_behaviour, .func (PySem.W.fnOf "is_behaviour" "is_behaviour" (defArgs s_is_behaviour) (defBody s_is_behaviour) (defScope s_is_behaviour) .none kV_is_behaviour dc_is_behaviour pm_is_behaviour an_is_behaviour cd_is_behaviour ct_is_behaviour), sl_is_behaviour⟩)
    (k_is_behaviour : PySem.W.codeIn K cd_is_behaviour "is_behaviour" = true)
    (e_is_behaviour : PySem.W.keepIn K (.ref f_is_behaviour) = true)
    (a_l_well : PySem.W.nsIn K mainGlobals "_law_well" = some (some (.ref f_l_well)))
    (l_l_well : K.lookup f_l_well = some ⟨oc_l_well, od_l_well, .func (PySem.W.fnOf "_law_well" "_law_well" (defArgs s_l_well) (defBody s_l_well) (defScope s_l_well) .none kV_l_well dc_l_well pm_l_well an_l_well cd_l_well ct_l_well), sl_l_well⟩)
    (k_l_well : PySem.W.codeIn K cd_l_well "_law_well" = true)
    (e_l_well : PySem.W.keepIn K (.ref f_l_well) = true)
    (a_l_draw : PySem.W.nsIn K mainGlobals "_law_draw" = some (some (.ref f_l_draw)))
    (l_l_draw : K.lookup f_l_draw = some ⟨oc_l_draw, od_l_draw, .func (PySem.W.fnOf "_law_draw" "_law_draw" (defArgs s_l_draw) (defBody s_l_draw) (defScope s_l_draw) .none kV_l_draw dc_l_draw pm_l_draw an_l_draw cd_l_draw ct_l_draw), sl_l_draw⟩)
    (k_l_draw : PySem.W.codeIn K cd_l_draw "_law_draw" = true)
    (e_l_draw : PySem.W.keepIn K (.ref f_l_draw) = true)
    (a_l_same : PySem.W.nsIn K mainGlobals "_law_same" = some (some (.ref f_l_same)))
    (l_l_same : K.lookup f_l_same = some ⟨oc_l_same, od_l_same, .func (PySem.W.fnOf "_law_same" "_law_same" (defArgs s_l_same) (defBody s_l_same) (defScope s_l_same) .none kV_l_same dc_l_same pm_l_same an_l_same cd_l_same ct_l_same), sl_l_same⟩)
    (k_l_same : PySem.W.codeIn K cd_l_same "_law_same" = true)
    (e_l_same : PySem.W.keepIn K (.ref f_l_same) = true)
    (a_l_signs : PySem.W.nsIn K mainGlobals "_law_signs" = some (some (.ref f_l_signs)))
    (l_l_signs : K.lookup f_l_signs = some ⟨oc_l_signs, od_l_signs, .func (PySem.W.fnOf "_law_signs" "_law_signs" (defArgs s_l_signs) (defBody s_l_signs) (defScope s_l_signs) .none kV_l_signs dc_l_signs pm_l_signs an_l_signs cd_l_signs ct_l_signs), sl_l_signs⟩)
    (k_l_signs : PySem.W.codeIn K cd_l_signs "_law_signs" = true)
    (e_l_signs : PySem.W.keepIn K (.ref f_l_signs) = true)
    (a_l_manner : PySem.W.nsIn K mainGlobals "_law_manner" = some (some (.ref f_l_manner)))
    (l_l_manner : K.lookup f_l_manner = some ⟨oc_l_manner, od_l_manner, .func (PySem.W.fnOf "_law_manner" "_law_manner" (defArgs s_l_manner) (defBody s_l_manner) (defScope s_l_manner) .none kV_l_manner dc_l_manner pm_l_manner an_l_manner cd_l_manner ct_l_manner), sl_l_manner⟩)
    (k_l_manner : PySem.W.codeIn K cd_l_manner "_law_manner" = true)
    (e_l_manner : PySem.W.keepIn K (.ref f_l_manner) = true)
    (a_l_odd : PySem.W.nsIn K mainGlobals "_law_odd" = some (some (.ref f_l_odd)))
    (l_l_odd : K.lookup f_l_odd = some ⟨oc_l_odd, od_l_odd, .func (PySem.W.fnOf "_law_odd" "_law_odd" (defArgs s_l_odd) (defBody s_l_odd) (defScope s_l_odd) .none kV_l_odd dc_l_odd pm_l_odd an_l_odd cd_l_odd ct_l_odd), sl_l_odd⟩)
    (k_l_odd : PySem.W.codeIn K cd_l_odd "_law_odd" = true)
    (e_l_odd : PySem.W.keepIn K (.ref f_l_odd) = true)
    (a_l_bent_tuple : PySem.W.nsIn K mainGlobals "_law_bent_tuple" = some (some (.ref f_l_bent_tuple)))
    (l_l_bent_tuple : K.lookup f_l_bent_tuple = some ⟨oc_l_bent_tuple, od_l_bent_tuple, .func (PySem.W.fnOf "_law_bent_tuple" "_law_bent_tuple" (defArgs s_l_bent_tuple) (defBody s_l_bent_tuple) (defScope s_l_bent_tuple) .none kV_l_bent_tuple dc_l_bent_tuple pm_l_bent_tuple an_l_bent_tuple cd_l_bent_tuple ct_l_bent_tuple), sl_l_bent_tuple⟩)
    (k_l_bent_tuple : PySem.W.codeIn K cd_l_bent_tuple "_law_bent_tuple" = true)
    (e_l_bent_tuple : PySem.W.keepIn K (.ref f_l_bent_tuple) = true)
    (a_l_bent : PySem.W.nsIn K mainGlobals "_law_bent" = some (some (.ref f_l_bent)))
    (l_l_bent : K.lookup f_l_bent = some ⟨oc_l_bent, od_l_bent, .func (PySem.W.fnOf "_law_bent" "_law_bent" (defArgs s_l_bent) (defBody s_l_bent) (defScope s_l_bent) .none kV_l_bent dc_l_bent pm_l_bent an_l_bent cd_l_bent ct_l_bent), sl_l_bent⟩)
    (k_l_bent : PySem.W.codeIn K cd_l_bent "_law_bent" = true)
    (e_l_bent : PySem.W.keepIn K (.ref f_l_bent) = true)
    (a_l_is_number : PySem.W.nsIn K mainGlobals "_law_is_number" = some (some (.ref f_l_is_number)))
    (l_l_is_number : K.lookup f_l_is_number = some ⟨oc_l_is_number, od_l_is_number, .func (PySem.W.fnOf "_law_is_number" "_law_is_number" (defArgs s_l_is_number) (defBody s_l_is_number) (defScope s_l_is_number) .none kV_l_is_number dc_l_is_number pm_l_is_number an_l_is_number cd_l_is_number ct_l_is_number), sl_l_is_number⟩)
    (k_l_is_number : PySem.W.codeIn K cd_l_is_number "_law_is_number" = true)
    (e_l_is_number : PySem.W.keepIn K (.ref f_l_is_number) = true)
    (a_l_is_partial : PySem.W.nsIn K mainGlobals "_law_is_partial" = some (some (.ref f_l_is_partial)))
    (l_l_is_partial : K.lookup f_l_is_partial = some ⟨oc_l_is_partial, od_l_is_partial, .func (PySem.W.fnOf "_law_is_partial" "_law_is_partial" (defArgs s_l_is_partial) (defBody s_l_is_partial) (defScope s_l_is_partial) .none kV_l_is_partial dc_l_is_partial pm_l_is_partial an_l_is_partial cd_l_is_partial ct_l_is_partial), sl_l_is_partial⟩)
    (k_l_is_partial : PySem.W.codeIn K cd_l_is_partial "_law_is_partial" = true)
    (e_l_is_partial : PySem.W.keepIn K (.ref f_l_is_partial) = true)
    (a_l_is_manner : PySem.W.nsIn K mainGlobals "_law_is_manner" = some (some (.ref f_l_is_manner)))
    (l_l_is_manner : K.lookup f_l_is_manner = some ⟨oc_l_is_manner, od_l_is_manner, .func (PySem.W.fnOf "_law_is_manner" "_law_is_manner" (defArgs s_l_is_manner) (defBody s_l_is_manner) (defScope s_l_is_manner) .none kV_l_is_manner dc_l_is_manner pm_l_is_manner an_l_is_manner cd_l_is_manner ct_l_is_manner), sl_l_is_manner⟩)
    (k_l_is_manner : PySem.W.codeIn K cd_l_is_manner "_law_is_manner" = true)
    (e_l_is_manner : PySem.W.keepIn K (.ref f_l_is_manner) = true)
    (a_l_asked : PySem.W.nsIn K mainGlobals "_law_asked" = some (some (.ref f_l_asked)))
    (l_l_asked : K.lookup f_l_asked = some ⟨oc_l_asked, od_l_asked, .func (PySem.W.fnOf "_law_asked" "_law_asked" (defArgs s_l_asked) (defBody s_l_asked) (defScope s_l_asked) .none kV_l_asked dc_l_asked pm_l_asked an_l_asked cd_l_asked ct_l_asked), sl_l_asked⟩)
    (k_l_asked : PySem.W.codeIn K cd_l_asked "_law_asked" = true)
    (e_l_asked : PySem.W.keepIn K (.ref f_l_asked) = true)
    (a_l_refused : PySem.W.nsIn K mainGlobals "_law_refused" = some (some (.ref f_l_refused)))
    (l_l_refused : K.lookup f_l_refused = some ⟨oc_l_refused, od_l_refused, .func (PySem.W.fnOf "_law_refused" "_law_refused" (defArgs s_l_refused) (defBody s_l_refused) (defScope s_l_refused) .none kV_l_refused dc_l_refused pm_l_refused an_l_refused cd_l_refused ct_l_refused), sl_l_refused⟩)
    (k_l_refused : PySem.W.codeIn K cd_l_refused "_law_refused" = true)
    (e_l_refused : PySem.W.keepIn K (.ref f_l_refused) = true)
    (a_law : PySem.W.nsIn K mainGlobals "law" = some (some (.ref f_law)))
    (l_law : K.lookup f_law = some ⟨oc_law, od_law, .func (PySem.W.fnOf "law" "law" (defArgs s_law) (defBody s_law) (defScope s_law) .none kV_law dc_law pm_law an_law cd_law ct_law), sl_law⟩)
    (k_law : PySem.W.codeIn K cd_law "law" = true)
    (e_law : PySem.W.keepIn K (.ref f_law) = true)
    : ∀ (base : Heap) (a : Addr) (ns : List Int) (s : Shared) (H : Hp), K.In base → base.Ns mainGlobals mg → ns.length ≤ 63 → Env0 P w K mg base callerA [] s H → SqL K H a (ns.map V.int) → codeAny (model P w) callerA (.call (.ref fa) ⟨[.ref a], []⟩) (CR (L2.CX P w) [] P w H s (fun v _ => v = .bl true) fun _ _ _ => False) s := by
  have e := hfa.symm.trans (PySem.W.mg_of X G a_law)
  cases e
  letI KI : FragI := ⟨K, P, w⟩
  have T : @Txt KI mg (fun n => ([C_PlanError, C_InvalidNumber] : List Addr).getD n 0) :=
    { z_ValueError := PySem.W.mg_none_of X G z_ValueError,
      z_abs := PySem.W.mg_none_of X G z_abs,
      z_bool := PySem.W.mg_none_of X G z_bool,
      z_int := PySem.W.mg_none_of X G z_int,
      z_isinstance := PySem.W.mg_none_of X G z_isinstance,
      z_len := PySem.W.mg_none_of X G z_len,
      z_list := PySem.W.mg_none_of X G z_list,
      z_max := PySem.W.mg_none_of X G z_max,
      z_min := PySem.W.mg_none_of X G z_min,
      z_range := PySem.W.mg_none_of X G z_range,
      z_repr := PySem.W.mg_none_of X G z_repr,
      z_tuple := PySem.W.mg_none_of X G z_tuple,
      c_BAD := ⟨_, PySem.W.mg_of X G c_BAD⟩,
      c_NONE := ⟨_, PySem.W.mg_of X G c_NONE⟩,
      d_is_from := ⟨_, _, fun_mk (st := s_is_from) l_is_from k_is_from e_is_from, PySem.W.mg_of X G a_is_from⟩,
      d_check_signal_number := ⟨_, _, fun_mk (st := s_check_signal_number) l_check_signal_number k_check_signal_number e_check_signal_number, PySem.W.mg_of X G a_check_signal_number⟩,
      d_are_edges := ⟨_, _, fun_mk (st := s_are_edges) l_are_edges k_are_edges e_are_edges, PySem.W.mg_of X G a_are_edges⟩,
      d_is_behaviour_of := ⟨_, _, fun_mk (st := s_is_behaviour_of) l_is_behaviour_of k_is_behaviour_of e_is_behaviour_of, PySem.W.mg_of X G a_is_behaviour_of⟩,
      d_is_behaviour := ⟨_, _, fun_mk (st := s_is_behaviour) l_is_behaviour k_is_behaviour e_is_behaviour, PySem.W.mg_of X G a_is_behaviour⟩,
      d_l_well := ⟨_, _, fun_mk (st := s_l_well) l_l_well k_l_well e_l_well, PySem.W.mg_of X G a_l_well⟩,
      d_l_draw := ⟨_, _, fun_mk (st := s_l_draw) l_l_draw k_l_draw e_l_draw, PySem.W.mg_of X G a_l_draw⟩,
      d_l_same := ⟨_, _, fun_mk (st := s_l_same) l_l_same k_l_same e_l_same, PySem.W.mg_of X G a_l_same⟩,
      d_l_signs := ⟨_, _, fun_mk (st := s_l_signs) l_l_signs k_l_signs e_l_signs, PySem.W.mg_of X G a_l_signs⟩,
      d_l_manner := ⟨_, _, fun_mk (st := s_l_manner) l_l_manner k_l_manner e_l_manner, PySem.W.mg_of X G a_l_manner⟩,
      d_l_odd := ⟨_, _, fun_mk (st := s_l_odd) l_l_odd k_l_odd e_l_odd, PySem.W.mg_of X G a_l_odd⟩,
      d_l_bent_tuple := ⟨_, _, fun_mk (st := s_l_bent_tuple) l_l_bent_tuple k_l_bent_tuple e_l_bent_tuple, PySem.W.mg_of X G a_l_bent_tuple⟩,
      d_l_bent := ⟨_, _, fun_mk (st := s_l_bent) l_l_bent k_l_bent e_l_bent, PySem.W.mg_of X G a_l_bent⟩,
      d_l_is_number := ⟨_, _, fun_mk (st := s_l_is_number) l_l_is_number k_l_is_number e_l_is_number, PySem.W.mg_of X G a_l_is_number⟩,
      d_l_is_partial := ⟨_, _, fun_mk (st := s_l_is_partial) l_l_is_partial k_l_is_partial e_l_is_partial, PySem.W.mg_of X G a_l_is_partial⟩,
      d_l_is_manner := ⟨_, _, fun_mk (st := s_l_is_manner) l_l_is_manner k_l_is_manner e_l_is_manner, PySem.W.mg_of X G a_l_is_manner⟩,
      d_l_asked := ⟨_, _, fun_mk (st := s_l_asked) l_l_asked k_l_asked e_l_asked, PySem.W.mg_of X G a_l_asked⟩,
      d_l_refused := ⟨_, _, fun_mk (st := s_l_refused) l_l_refused k_l_refused e_l_refused, PySem.W.mg_of X G a_l_refused⟩,
      d_law := ⟨_, _, fun_mk (st := s_law) l_law k_law e_law, PySem.W.mg_of X G a_law⟩,
      x_InvalidNumber := ⟨PySem.W.mg_of X G x1_InvalidNumber, x2_InvalidNumber, x3_InvalidNumber, x4_InvalidNumber, x5_InvalidNumber⟩,
      x_PlanError := ⟨PySem.W.mg_of X G x1_PlanError, x2_PlanError, x3_PlanError, x4_PlanError, x5_PlanError⟩,
      q_InvalidNumber := ⟨q1_InvalidNumber, q2_InvalidNumber, q3_InvalidNumber, q4_InvalidNumber, q5_InvalidNumber, q6, q7, q8_InvalidNumber⟩,
      v_InvalidNumber := kit_ve v1_InvalidNumber,
      w_InvalidNumber_PlanError := kit_ref x6_PlanError x5_PlanError y_InvalidNumber_PlanError (fun z => nomatch z),
      y_InvalidNumber_InvalidNumber := PySem.W.exm_ref x4_InvalidNumber x6_InvalidNumber x5_InvalidNumber y_InvalidNumber_InvalidNumber }
  exact fun base a ns s H _ _ hn en hs => @ok_law KI mg base _ T (fun ns => ns.length ≤ 63) (fun ns h => law_true ns h) fa (PySem.W.fnOf "law" "law" (defArgs s_law) (defBody s_law) (defScope s_law) .none kV_law dc_law pm_law an_law cd_law ct_law) (fun_mk (st := s_law) l_law k_law e_law) (fun s v => .of_eq rfl) a ns s H hn en hs
end Cl
open PySem PySem.W PyProof.Rows
set_option maxHeartbeats 0 in
theorem PySem.Challenge.cw_stagedplans_k28_behaviours_judged_holds : PySem.Challenge.rw_stagedplans_k28_behaviours_judged.Holds := by
  w_on; o_law; k_head; (case hw => w_witness2)
  k_fill
  refine Lw.walk_at (l := PySem.Challenge.rw_stagedplans_k28_behaviours_judged) (n := 63) (CX := fun w => L2.CX PySem.Challenge.rw_stagedplans_k28_behaviours_judged.prog w) rfl (by decide) rfl (fun w h Y => PySem.W.kIn_of Y) ?F (fun _ _ _ _ _ h => Lw.cx_false h)
  case F =>
    intro w mg fa h KX G hmg
    refine' Cl.all_mk KX G hmg ?z_ValueError ?z_abs ?z_bool ?z_int ?z_isinstance ?z_len ?z_list ?z_max ?z_min ?z_range ?z_repr ?z_tuple ?c_BAD ?c_NONE ?x1_InvalidNumber ?x2_InvalidNumber ?x3_InvalidNumber ?x4_InvalidNumber ?x5_InvalidNumber ?x1_PlanError ?x2_PlanError ?x3_PlanError ?x4_PlanError ?x5_PlanError ?q1_InvalidNumber ?q2_InvalidNumber ?q3_InvalidNumber ?q4_InvalidNumber ?q5_InvalidNumber ?q6 ?q7 ?q8_InvalidNumber ?v1_InvalidNumber ?x6_InvalidNumber ?x6_PlanError ?y_InvalidNumber_InvalidNumber ?y_InvalidNumber_PlanError ?n_InvalidNumber_PlanError ?a_is_from ?l_is_from ?k_is_from ?e_is_from ?a_check_signal_number ?l_check_signal_number ?k_check_signal_number ?e_check_signal_number ?a_are_edges ?l_are_edges ?k_are_edges ?e_are_edges ?a_is_behaviour_of ?l_is_behaviour_of ?k_is_behaviour_of ?e_is_behaviour_of ?a_is_behaviour ?l_is_behaviour ?k_is_behaviour ?e_is_behaviour ?a_l_well ?l_l_well ?k_l_well ?e_l_well ?a_l_draw ?l_l_draw ?k_l_draw ?e_l_draw ?a_l_same ?l_l_same ?k_l_same ?e_l_same ?a_l_signs ?l_l_signs ?k_l_signs ?e_l_signs ?a_l_manner ?l_l_manner ?k_l_manner ?e_l_manner ?a_l_odd ?l_l_odd ?k_l_odd ?e_l_odd ?a_l_bent_tuple ?l_l_bent_tuple ?k_l_bent_tuple ?e_l_bent_tuple ?a_l_bent ?l_l_bent ?k_l_bent ?e_l_bent ?a_l_is_number ?l_l_is_number ?k_l_is_number ?e_l_is_number ?a_l_is_partial ?l_l_is_partial ?k_l_is_partial ?e_l_is_partial ?a_l_is_manner ?l_l_is_manner ?k_l_is_manner ?e_l_is_manner ?a_l_asked ?l_l_asked ?k_l_asked ?e_l_asked ?a_l_refused ?l_l_refused ?k_l_refused ?e_l_refused ?a_law ?l_law ?k_law ?e_law
    (case z_ValueError => k_is); (case z_abs => k_is); (case z_bool => k_is); (case z_int => k_is)
    (case z_isinstance => k_is); (case z_len => k_is); (case z_list => k_is); (case z_max => k_is)
    (case z_min => k_is); (case z_range => k_is); (case z_repr => k_is); (case z_tuple => k_is)
    (case c_BAD => k_is); (case c_NONE => k_is); (case x1_InvalidNumber => k_is); (case x2_InvalidNumber => k_exc)
    (case x3_InvalidNumber => k_is); (case x4_InvalidNumber => k_is); (case x5_InvalidNumber => k_is); (case x1_PlanError => k_is)
    (case x2_PlanError => k_exc); (case x3_PlanError => k_is); (case x4_PlanError => k_is); (case x5_PlanError => k_is)
    (case q1_InvalidNumber => k_is); (case q2_InvalidNumber => k_is); (case q3_InvalidNumber => k_is); (case q4_InvalidNumber => k_is)
    (case q5_InvalidNumber => k_is); (case q6 => k_is); (case q7 => k_is); (case q8_InvalidNumber => k_is)
    (case v1_InvalidNumber => k_is); (case x6_InvalidNumber => k_is); (case x6_PlanError => k_is); (case y_InvalidNumber_InvalidNumber => k_is)
    (case y_InvalidNumber_PlanError => k_is); (case n_InvalidNumber_PlanError => decide); (case a_is_from => k_is); (case l_is_from => k_is)
    (case k_is_from => k_is); (case e_is_from => k_is); (case a_check_signal_number => k_is); (case l_check_signal_number => k_is)
    (case k_check_signal_number => k_is); (case e_check_signal_number => k_is); (case a_are_edges => k_is); (case l_are_edges => k_is)
    (case k_are_edges => k_is); (case e_are_edges => k_is); (case a_is_behaviour_of => k_is); (case l_is_behaviour_of => k_is)
    (case k_is_behaviour_of => k_is); (case e_is_behaviour_of => k_is); (case a_is_behaviour => k_is); (case l_is_behaviour => k_is)
    (case k_is_behaviour => k_is); (case e_is_behaviour => k_is); (case a_l_well => k_is); (case l_l_well => k_is)
    (case k_l_well => k_is); (case e_l_well => k_is); (case a_l_draw => k_is); (case l_l_draw => k_is)
    (case k_l_draw => k_is); (case e_l_draw => k_is); (case a_l_same => k_is); (case l_l_same => k_is)
    (case k_l_same => k_is); (case e_l_same => k_is); (case a_l_signs => k_is); (case l_l_signs => k_is)
    (case k_l_signs => k_is); (case e_l_signs => k_is); (case a_l_manner => k_is); (case l_l_manner => k_is)
    (case k_l_manner => k_is); (case e_l_manner => k_is); (case a_l_odd => k_is); (case l_l_odd => k_is)
    (case k_l_odd => k_is); (case e_l_odd => k_is); (case a_l_bent_tuple => k_is); (case l_l_bent_tuple => k_is)
    (case k_l_bent_tuple => k_is); (case e_l_bent_tuple => k_is); (case a_l_bent => k_is); (case l_l_bent => k_is)
    (case k_l_bent => k_is); (case e_l_bent => k_is); (case a_l_is_number => k_is); (case l_l_is_number => k_is)
    (case k_l_is_number => k_is); (case e_l_is_number => k_is); (case a_l_is_partial => k_is); (case l_l_is_partial => k_is)
    (case k_l_is_partial => k_is); (case e_l_is_partial => k_is); (case a_l_is_manner => k_is); (case l_l_is_manner => k_is)
    (case k_l_is_manner => k_is); (case e_l_is_manner => k_is); (case a_l_asked => k_is); (case l_l_asked => k_is)
    (case k_l_asked => k_is); (case e_l_asked => k_is); (case a_l_refused => k_is); (case l_l_refused => k_is)
    (case k_l_refused => k_is); (case e_l_refused => k_is); (case a_law => k_is); (case l_law => k_is)
    (case k_law => k_is); (case e_law => k_is)

