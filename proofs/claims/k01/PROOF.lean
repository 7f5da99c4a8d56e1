import PyProof.Rows.All
import Wide.All
import OpenK.AllK
import Wide.FinOn
import Lean
import PyProof.EqAt
import PyProof.EqKinds
import PyProof.TupleCall
import KE.BitLaws
import KE.KRevIter
import KE.KUnpack
import PyProof.ZipIter
import PyProof.StrLawsChain
import PyProof.StrBlock
import PyProof.FitsReplace
import PySem.Challenge.RW_doubthall_k01_a_row

-- CHANGE: your row's module here, as the last of these rows
set_option Elab.async false
set_option linter.all false
set_option maxRecDepth 100000
/-! THE HAND LAYER, for ints, bools, texts, own classes, LISTS and tuples (index, slices, in, append, pop ..), calls, loops. Paste it whole ahead of your own text; what your proof does not reach may be deleted. -/
namespace L2
open PySem PySem.Spec PyProof.Rows

/-- a key: an int or a str -/
abbrev Key := Sum Int Str
def keyIs : Key → Value → Bool
  | .inl k, v => Value.isInt k v
  | .inr x, v => Value.isStrOf x v
def keyH (w : World) : Key → Int
  | .inl k => hashInt k
  | .inr x => hashStr w x
theorem keyIs_shape : ∀ {k : Key} {v : Value}, keyIs k v = true → (∃ i t, k = Sum.inl i ∧ v = Value.int i t) ∨ (∃ x t, k = Sum.inr x ∧ v = Value.str x t)
  | .inl i, v, h => by
    obtain ⟨t, e⟩ := Value.isInt_shape (k := i) (v := v) h
    exact .inl ⟨i, t, rfl, e⟩
  | .inr x, v, h => by
    obtain ⟨t, e⟩ := Value.isStrOf_shape (x := x) (v := v) h
    exact .inr ⟨x, t, rfl, e⟩
theorem key_ll (a b : Int) : decide ((Sum.inl a : Key) = Sum.inl b) = (a == b) := by
  by_cases e : a = b
  · subst e; simp
  · have h : ¬ (Sum.inl a : Key) = Sum.inl b := fun q => e (Sum.inl.inj q)
    rw [decide_eq_false h]
    exact (beq_eq_false_iff_ne.mpr e).symm
theorem key_rr (a b : Str) : decide ((Sum.inr a : Key) = Sum.inr b) = decide (a = b) := by
  by_cases e : a = b
  · subst e; simp
  · have h : ¬ (Sum.inr a : Key) = Sum.inr b := fun q => e (Sum.inr.inj q)
    rw [decide_eq_false h, decide_eq_false e]
theorem key_lr (a : Int) (b : Str) : decide ((Sum.inl a : Key) = Sum.inr b) = false := decide_eq_false (fun q => nomatch q)
theorem key_rl (a : Str) (b : Int) : decide ((Sum.inr a : Key) = Sum.inl b) = false := decide_eq_false (fun q => nomatch q)

def mixKind (prog : Program) (w : World) : PySem.KeyKind prog w Key where
  is := keyIs
  hash := keyH w
  inj := fun v a b ha hb => by
    rcases keyIs_shape ha with ⟨i, t, rfl, rfl⟩ | ⟨x, t, rfl, rfl⟩
    · rcases keyIs_shape hb with ⟨j, u, rfl, e⟩ | ⟨y, u, rfl, e⟩
      · injection e with e1 _; rw [e1]
      · exact nomatch e
    · rcases keyIs_shape hb with ⟨j, u, rfl, e⟩ | ⟨y, u, rfl, e⟩
      · exact nomatch e
      · injection e with e1 _; rw [e1]
  byValue := fun k v h => by
    rcases keyIs_shape h with ⟨i, t, rfl, rfl⟩ | ⟨x, t, rfl, rfl⟩ <;> rfl
  pyHash := fun hv h => by
    rcases keyIs_shape hv with ⟨i, t, rfl, rfl⟩ | ⟨x, t, rfl, rfl⟩
    · exact wpAny_pyHash_int h
    · exact wpAny_pyHash_str h
  eqBool := fun hu hv h => by
    rcases keyIs_shape hu with ⟨i, t, rfl, rfl⟩ | ⟨x, t, rfl, rfl⟩
    · rcases keyIs_shape hv with ⟨j, u, rfl, rfl⟩ | ⟨y, u, rfl, rfl⟩
      · rw [key_ll] at h; exact wpAny_eqBool_int h
      · rw [key_lr] at h; exact SeqAt.EqAt.int_str i t y u _ _ _ _ h
    · rcases keyIs_shape hv with ⟨j, u, rfl, rfl⟩ | ⟨y, u, rfl, rfl⟩
      · rw [key_rl] at h; exact SeqAt.EqAt.str_int x t j u _ _ _ _ h
      · rw [key_rr] at h; exact wpAny_eqBool_str h
  «strs» := fun k x t v h => by
    rcases keyIs_shape h with ⟨i, u, rfl, e⟩ | ⟨y, u, rfl, e⟩
    · exact nomatch e
    · injection e with e1 _
      subst e1
      cases v <;> rfl

end L2

namespace L2
open PySem PySem.Spec PyProof.Rows

/-- a value, without the heap -/
inductive V where
  | non | bl (b : Bool) | int (i : Int) | str (x : Str) | byt (b : Array UInt8) | flt (b : UInt64) | ref (a : Addr) | ty (n : String)
  deriving DecidableEq

def RelV : V → Value → Prop
  | .non, u => u = Value.none
  | .bl b, u => u = Value.bool b
  | .int i, u => ∃ t, u = Value.int i t
  | .str x, u => ∃ t, u = Value.str x t
  | .byt b, u => ∃ t, u = Value.bytes b t
  | .flt b, u => ∃ t, u = Value.float b t
  | .ref a, u => u = Value.ref a
  | .ty n, u => u = Value.type n

abbrev Vals : List V → List Value → Prop := Paired RelV
theorem Vals.length {xs : List V} {us : List Value} (r : Vals xs us) : xs.length = us.length := Paired.length r
theorem Vals.get : ∀ {xs : List V} {us : List Value} {i : Nat} {x : V}, Vals xs us → xs[i]? = some x → ∃ u, us[i]? = some u ∧ RelV x u
  | _, _, _, _, .nil, e => by simp at e
  | _, _, 0, _, .cons r _, e => by simp at e; subst e; exact ⟨_, rfl, r⟩
  | _, _, i + 1, x, .cons _ t, e => by
    obtain ⟨u, h1, h2⟩ := Vals.get (i := i) (x := x) t (by simpa using e)
    exact ⟨u, by simpa using h1, h2⟩
theorem Vals.set {x : V} {u : Value} (r : RelV x u) : ∀ {xs : List V} {us : List Value} (i : Nat), Vals xs us → Vals (xs.set i x) (us.set i u)
  | _, _, _, .nil => .nil
  | _, _, 0, .cons _ t => .cons r t
  | _, _, i + 1, .cons q t => .cons q (Vals.set r i t)
theorem Vals.append : ∀ {xs ys : List V} {us ws : List Value}, Vals xs us → Vals ys ws → Vals (xs ++ ys) (us ++ ws)
  | _, _, _, _, .nil, s => s
  | _, _, _, _, .cons r t, s => .cons r (Vals.append t s)
theorem Vals.take : ∀ {xs : List V} {us : List Value} (n : Nat), Vals xs us → Vals (xs.take n) (us.take n)
  | _, _, 0, _ => .nil
  | _, _, _ + 1, .nil => .nil
  | _, _, n + 1, .cons r t => .cons r (Vals.take n t)
theorem Vals.drop : ∀ {xs : List V} {us : List Value} (n : Nat), Vals xs us → Vals (xs.drop n) (us.drop n)
  | _, _, 0, r => r
  | _, _, _ + 1, .nil => .nil
  | _, _, n + 1, .cons _ t => Vals.drop n t
def RelO : Option V → Option Value → Prop
  | some v, some u => RelV v u
  | none, none => True
  | _, _ => False
def KV {κ : Type} : List (κ × V) → List (κ × Value) → Prop := Paired fun (p : κ × V) (q : κ × Value) => p.1 = q.1 ∧ RelV p.2 q.2

/-- a key of a dict (00_mix): an int or a text -/
def kV : Key → V
  | .inl i => .int i
  | .inr x => .str x

/-- what stands at a tracked address -/
inductive HO where
  /-- a list -/
  | lst (xs : List V)
  /-- a tuple (never changes) -/
  | tup (xs : List V)
  /-- a dict whose keys are ints and texts; one whose keys are tuples of ints and texts (the empty one is both) -/
  | dK (kvs : List (Key × V)) | dT (kvs : List (List Key × V))
  /-- a set of ints: its members, its size -/
  | set (S : Int → Bool) (n : Nat)
  /-- an instance of the class at C, its dict at dx, its attributes -/
  | ins (C dx : Addr) (fs : List (Str × V))
  /-- the dict of the instance at x -/
  | own (x : Addr)
  /-- the dict of an exception -/
  | xd (fs : List (Str × V))
  /-- a bound method, f of x -/
  | met (f x : Addr)
  /-- a range object lo, lo + 1, .. below hi -/
  | rng (lo hi : Int)
  /-- a thing that is known to the object (the script; a dict while a loop walks it): read, never written while it is so -/
  | frz (o : Obj) (u : HO)
  /-- a code object's table -/
  | tbl (ps : Array Value)
  /-- any other thing, by what is true of its one object (a def of one's own: SetO a S n := HO.ext fun h => ..) -/
  | ext (φ : Heap → Prop)

abbrev Hp := Addr → Option HO
def upd (H : Hp) (a : Addr) (o : HO) : Hp := fun b => if b = a then some o else H b
theorem upd_same {H : Hp} {a : Addr} {o : HO} : upd H a o a = some o := by unfold upd; rw [if_pos rfl]
theorem upd_ne {H : Hp} {a b : Addr} {o : HO} (h : b ≠ a) : upd H a o b = H b := by unfold upd; rw [if_neg h]
theorem ne_of_none {H : Hp} {a b : Addr} {o : HO} (h : H a = some o) (h' : H b = none) : a ≠ b := by
  intro e; subst e; rw [h] at h'; cases h'

section
variable (P : Program) (w : World)
def ObjOk (H : Hp) (h : Heap) (a : Addr) : HO → Prop
  | .lst xs => xs.length ≤ sizeLine ∧ ∃ (its : List Value) (n : Nat), Vals xs its ∧ h.get? a = some { cls := .type "list", data := .seq its.toArray n }
  | .tup xs => xs.length ≤ sizeLine ∧ ∃ its : List Value, Vals xs its ∧ IsTup h a its.toArray
  | .dK kvs => kvs.length ≤ sizeLine ∧ (a == sysModules) = false ∧ ∃ vs, KV kvs vs ∧ h.DictOf (mixKind P w) a vs
  | .dT kvs => kvs.length ≤ sizeLine ∧ (a == sysModules) = false ∧ ∃ xs : List (List Key × Addr × Value),
      Paired (fun (p : List Key × V) (q : List Key × Addr × Value) => p.1 = q.1 ∧ H q.2.1 = some (.tup (p.1.map kV)) ∧ RelV p.2 q.2.2) kvs xs ∧
      ∃ o es ep, h.get? a = some o ∧ o.ExactDict ∧ o.data = .dict es ep ∧ es.toList = xs.map (entryOfKey (tupleKind (mixKind P w))) ∧ (xs.map (·.1)).Nodup
  | .set S n => h.SetOf (intKind P w) a S n
  | .ins C dx fs => H dx = some (.own a) ∧ fs.length ≤ 1000 ∧ dx ≠ a ∧ h.get? a = some (PySem.W.instObj C dx) ∧
      ∃ mA, h.Ns1 dx mA ∧ (∀ f, RelO (fs.lookup f) (mA f)) ∧ PySem.Within mA (fs.map (·.1))
  | .own _ => ∃ o, h.get? a = some o
  | .xd fs => ∃ mA, h.Ns1 a mA ∧ ∀ f, RelO (fs.lookup f) (mA f)
  | .rng lo hi => ∃ t u v, h.get? a = some { cls := .type "range", data := .fields #[.int lo t, .int hi u, .int 1 v] }
  | .frz o u => h.get? a = some o ∧ ObjOk H h a u
  | .tbl ps => h.get? a = some { cls := .none, data := .fields ps }
  | .met f x => h.get? a = some (PySem.W.methodObj (.ref f) (.ref x))
  | .ext φ => φ h ∧ (∃ o, h.get? a = some o) ∧ ∀ h1 h2 : Heap, φ h1 → (∀ o, h1.get? a = some o → h2.get? a = some o) → φ h2
/-- the abstract heap is held -/
def HOk (H : Hp) (h : Heap) : Prop := ∀ a o, H a = some o → ObjOk P w H h a o
end

section
variable {P : Program} {w : World} {H H' : Hp} {h h' : Heap} {a : Addr} {o : HO}
theorem ObjOk.lt (x : ObjOk P w H h a o) : a < h.objs.size := by
  cases o with
  | lst xs => obtain ⟨_, _, _, _, e⟩ := x; exact Heap.lt_size e
  | tup xs => obtain ⟨_, _, _, p⟩ := x; exact p.lt
  | dK kvs => obtain ⟨_, _, _, _, o, _, _, e, _⟩ := x; exact Heap.lt_size e
  | dT kvs => obtain ⟨_, _, _, _, o, _, _, e, _⟩ := x; exact Heap.lt_size e
  | set S n => obtain ⟨o, _, _, _, e, _⟩ := x; exact Heap.lt_size e
  | ins C dx fs => obtain ⟨_, _, _, e, _⟩ := x; exact Heap.lt_size e
  | own y => obtain ⟨_, e⟩ := x; exact Heap.lt_size e
  | xd fs => obtain ⟨_, ⟨_, _, _, e, _⟩, _⟩ := x; exact Heap.lt_size e
  | rng lo hi => obtain ⟨_, _, _, e⟩ := x; exact Heap.lt_size e
  | frz ob u => obtain ⟨e, _⟩ := x; exact Heap.lt_size e
  | tbl ps => exact Heap.lt_size (show h.get? a = some _ from x)
  | met f y => exact Heap.lt_size (show h.get? a = some _ from x)
  | ext φ => obtain ⟨_, ⟨_, e⟩, _⟩ := x; exact Heap.lt_size e
theorem Paired.mapP {α β : Type} {F G : α → β → Prop} : ∀ {l₁ : List α} {l₂ : List β}, Paired F l₁ l₂ → (∀ a b, F a b → G a b) → Paired G l₁ l₂
  | _, _, .nil, _ => .nil
  | _, _, .cons r t, f => .cons (f _ _ r) (Paired.mapP t f)
/-- what an object's description leans on: its own object, its own dict, the tuples -/
theorem ObjOk.stay (x : ObjOk P w H h a o) (k : ∀ b u, (b = a ∨ H b = some (.own a)) → h.get? b = some u → h'.get? b = some u)
    (ho : ∀ b, H b = some (.own a) → H' b = some (.own a)) (ht : ∀ b xs, H b = some (.tup xs) → H' b = some (.tup xs)) : ObjOk P w H' h' a o := by
  induction o with
  | lst xs => obtain ⟨z, its, n, r, e⟩ := x; exact ⟨z, its, n, r, k _ _ (.inl rfl) e⟩
  | tup xs => obtain ⟨z, its, r, ob, e, c⟩ := x; exact ⟨z, its, r, ob, k _ _ (.inl rfl) e, c⟩
  | dK kvs => obtain ⟨z, y, vs, r, ob, es, ep, e, c⟩ := x; exact ⟨z, y, vs, r, ob, es, ep, k _ _ (.inl rfl) e, c⟩
  | dT kvs =>
    obtain ⟨z, y, xs, r, ob, es, ep, e, c⟩ := x
    exact ⟨z, y, xs, Paired.mapP r fun p q z => ⟨z.1, ht _ _ z.2.1, z.2.2⟩, ob, es, ep, k _ _ (.inl rfl) e, c⟩
  | set S n => obtain ⟨ob, es, ep, t, e, c⟩ := x; exact ⟨ob, es, ep, t, k _ _ (.inl rfl) e, c⟩
  | ins C dx fs =>
    obtain ⟨d, z, ne, e, mA, ⟨od, es, ep, e2, c⟩, r⟩ := x
    exact ⟨ho _ d, z, ne, k _ _ (.inl rfl) e, mA, ⟨od, es, ep, k _ _ (.inr d) e2, c⟩, r⟩
  | own y => obtain ⟨ob, e⟩ := x; exact ⟨ob, k _ _ (.inl rfl) e⟩
  | xd fs => obtain ⟨mA, ⟨od, es, ep, e, c⟩, r⟩ := x; exact ⟨mA, ⟨od, es, ep, k _ _ (.inl rfl) e, c⟩, r⟩
  | rng lo hi => obtain ⟨t, u, v, e⟩ := x; exact ⟨t, u, v, k _ _ (.inl rfl) e⟩
  | frz ob u ih => obtain ⟨e, q⟩ := x; exact ⟨k _ _ (.inl rfl) e, ih q⟩
  | tbl ps =>
    have e : h.get? a = some { cls := .none, data := .fields ps } := x
    show h'.get? a = some { cls := .none, data := .fields ps }
    exact k a _ (.inl rfl) e
  | met f y =>
    have e : h.get? a = some (PySem.W.methodObj (.ref f) (.ref y)) := x
    show h'.get? a = some (PySem.W.methodObj (.ref f) (.ref y))
    exact k a _ (.inl rfl) e
  | ext φ => obtain ⟨p, ⟨o, e⟩, st⟩ := x; exact ⟨st _ _ p fun o q => k _ _ (.inl rfl) q, ⟨o, k _ _ (.inl rfl) e⟩, st⟩
theorem HOk.lt (x : HOk P w H h) (e : H a = some o) : a < h.objs.size := (x a o e).lt
theorem HOk.fresh (x : HOk P w H h) (e : h.objs.size ≤ a) : H a = none := by
  cases q : H a with
  | none => rfl
  | some u => exact absurd (Nat.lt_of_lt_of_le (x.lt q) e) (Nat.lt_irrefl _)
/-- every object of the heap is kept -/
theorem HOk.kept (x : HOk P w H h) (k : ∀ b u, h.get? b = some u → h'.get? b = some u) : HOk P w H h' := fun a o e =>
  (x a o e).stay (fun b u _ q => k b u q) (fun _ q => q) fun _ _ q => q
/-- a new object is laid and tracked -/
theorem HOk.laid (x : HOk P w H h) (k : ∀ b u, h.get? b = some u → h'.get? b = some u) (hp : h.objs.size ≤ a) (new : ObjOk P w (upd H a o) h' a o) : HOk P w (upd H a o) h' := fun b u e => by
  have hn := x.fresh hp
  by_cases hb : b = a
  · subst hb; rw [upd_same] at e; cases e; exact new
  · rw [upd_ne hb] at e
    exact (x b u e).stay (fun c v _ q => k c v q) (fun c q => by rw [upd_ne (ne_of_none q hn)]; exact q) fun c xs q => by rw [upd_ne (ne_of_none q hn)]; exact q
end

/-- what may be read as u: it is u, or a known u -/
def Rd (H : Hp) (a : Addr) (u : HO) : Prop := H a = some u ∨ ∃ o, H a = some (.frz o u)
theorem Rd.of {H : Hp} {a : Addr} {u : HO} (h : H a = some u) : Rd H a u := .inl h
theorem Rd.ok {P : Program} {w : World} {H : Hp} {h : Heap} {a : Addr} {u : HO} (r : Rd H a u) (x : HOk P w H h) : ObjOk P w H h a u := by
  rcases r with r | ⟨o, r⟩
  · exact x a u r
  · obtain ⟨_, q⟩ := x a _ r
    exact q
/-- what may be written -/
def Mut : Option HO → Prop
  | some (.lst _) => True
  | some (.dK _) => True
  | some (.dT _) => True
  | some (.set _ _) => True
  | some (.ins _ _ _) => True
  | some (.ext _) => True
  | _ => False
section
variable {P : Program} {w : World} {H : Hp} {h h' : Heap} {x e : Addr} {o' : HO}
/-- the object at e is changed: x itself, or the dict of the instance x -/
theorem HOk.write (ok : HOk P w H h) (mu : Mut (H x)) (he : e = x ∨ H e = some (.own x)) (k : ∀ b u, b ≠ e → h.get? b = some u → h'.get? b = some u) (heo : ∃ u, h'.get? e = some u)
    (new : ObjOk P w (upd H x o') h' x o') : HOk P w (upd H x o') h' := fun b u q => by
  have nown : ∀ c y, H c = some (.own y) → c ≠ x := fun c y r z => by subst z; rw [r] at mu; exact mu
  have ntup : ∀ c xs, H c = some (.tup xs) → c ≠ x := fun c xs r z => by subst z; rw [r] at mu; exact mu
  by_cases hb : b = x
  · subst hb; rw [upd_same] at q; cases q; exact new
  · rw [upd_ne hb] at q
    by_cases hbe : b = e
    · have q' : H b = some (.own x) := by
        rcases he with z | z
        · exact absurd (hbe.trans z) hb
        · rw [hbe]; exact z
      rw [q] at q'; cases q'
      obtain ⟨v, hv⟩ := heo
      exact ⟨v, by rw [hbe]; exact hv⟩
    · refine (ok b u q).stay (fun c v hc r => k c v ?_ r) (fun c r => by rw [upd_ne (nown c b r)]; exact r) fun c xs r => by rw [upd_ne (ntup c xs r)]; exact r
      rcases hc with rfl | hc
      · exact hbe
      · rintro rfl
        rcases he with z | z
        · exact nown c b hc z
        · rw [hc] at z; cases z; exact hb rfl
end

/-! ### kept unless tracked; of the frames at fs (the callers') the slots may change (an exception that passes writes there); of the records at ex (iterators) nothing is said -/
structure Un (fs ex : List Addr) (H H' : Hp) (h h' : Heap) : Prop where
  keep : ∀ b o, h.get? b = some o → H b = none → b ∉ fs → b ∉ ex → h'.get? b = some o
  slot : ∀ b o, h.get? b = some o → H b = none → b ∈ fs → b ∉ ex → ∃ sl, h'.get? b = some { o with slots := sl }
  free : ∀ b o, h.get? b = some o → H b = none → b ∉ ex → H' b = none
  there : ∀ b o, h.get? b = some o → b ∉ ex → ∃ o', h'.get? b = some o'
  tups : ∀ b xs, H b = some (.tup xs) → H' b = some (.tup xs)
  frzs : ∀ b o u, H b = some (.frz o u) → H' b = some (.frz o u)
  tbls : ∀ b ps, H b = some (.tbl ps) → ∃ more, H' b = some (.tbl (ps ++ more))
section
variable {fs fs' ex ex' : List Addr} {H H1 H2 : Hp} {h h1 h2 h' : Heap} {a x e : Addr} {o : HO}
theorem Un.any (u : Un fs ex H H1 h h1) {b : Addr} {ob : Obj} (q : h.get? b = some ob) (n : H b = none) (hx : b ∉ ex) : ∃ sl, h1.get? b = some { ob with slots := sl } := by
  by_cases hb : b ∈ fs
  · exact u.slot b ob q n hb hx
  · exact ⟨ob.slots, u.keep b ob q n hb hx⟩
theorem Un.trans (a : Un fs ex H H1 h h1) (b : Un fs ex H1 H2 h1 h2) : Un fs ex H H2 h h2 where
  keep := fun c ob q n hc hx => b.keep c ob (a.keep c ob q n hc hx) (a.free c ob q n hx) hc hx
  slot := fun c ob q n hc hx => by
    obtain ⟨sl, e1⟩ := a.slot c ob q n hc hx
    obtain ⟨sl', e2⟩ := b.slot c _ e1 (a.free c ob q n hx) hc hx
    exact ⟨sl', e2⟩
  free := fun c ob q n hx => by
    obtain ⟨o', e1⟩ := a.there c ob q hx
    exact b.free c o' e1 (a.free c ob q n hx) hx
  there := fun c ob q hx => by
    obtain ⟨o', e1⟩ := a.there c ob q hx
    exact b.there c o' e1 hx
  tups := fun c xs q => b.tups c xs (a.tups c xs q)
  frzs := fun c ob xs q => b.frzs c ob xs (a.frzs c ob xs q)
  tbls := fun c ps q => by
    obtain ⟨m1, e1⟩ := a.tbls c ps q
    obtain ⟨m2, e2⟩ := b.tbls c _ e1
    exact ⟨m1 ++ m2, by rw [e2, Array.append_assoc]⟩
theorem Un.kept (k : ∀ b u, h.get? b = some u → h'.get? b = some u) : Un fs ex H H h h' :=
  ⟨fun b ob q _ _ _ => k b ob q, fun b ob q _ _ _ => ⟨ob.slots, k b ob q⟩, fun _ _ _ n _ => n, fun b ob q _ => ⟨ob, k b ob q⟩, fun _ _ q => q, fun _ _ _ q => q, fun _ ps q => ⟨#[], by rw [q]; simp⟩⟩
theorem Un.refl : Un fs ex H H h h := Un.kept fun _ _ q => q
theorem Un.laid (k : ∀ b u, h.get? b = some u → h'.get? b = some u) (hp : h.objs.size ≤ a) (hn : H a = none) : Un fs ex H (upd H a o) h h' where
  keep := fun b u q _ _ _ => k b u q
  slot := fun b u q _ _ _ => ⟨u.slots, k b u q⟩
  free := fun b u q n _ => by rw [upd_ne (Nat.ne_of_lt (Nat.lt_of_lt_of_le (Heap.lt_size q) hp))]; exact n
  there := fun b u q _ => ⟨u, k b u q⟩
  tups := fun b xs q => by rw [upd_ne (ne_of_none q hn)]; exact q
  frzs := fun b u xs q => by rw [upd_ne (ne_of_none q hn)]; exact q
  tbls := fun b ps q => ⟨#[], by rw [upd_ne (ne_of_none q hn), q]; simp⟩
theorem Un.write (mu : Mut (H x)) (he : e = x ∨ H e = some (.own x)) (k : ∀ b u, b ≠ e → h.get? b = some u → h'.get? b = some u) (heo : ∃ u, h'.get? e = some u) : Un fs ex H (upd H x o) h h' := by
  have hx : ∀ b, H b = none → b ≠ x := fun b n z => by subst z; rw [n] at mu; exact mu
  have hb : ∀ b, H b = none → b ≠ e := fun b n z => by
    subst z
    rcases he with r | r
    · exact hx b n r
    · rw [n] at r; cases r
  have hm : ∀ b u, H b = some u → ¬ Mut (some u) → b ≠ x := fun b u q nm z => by subst z; rw [q] at mu; exact nm mu
  refine ⟨fun b u q n _ _ => k b u (hb b n) q, fun b u q n _ _ => ⟨u.slots, k b u (hb b n) q⟩, fun b u q n _ => by rw [upd_ne (hx b n)]; exact n, fun b u q _ => ?_,
    fun b xs q => by rw [upd_ne (hm b _ q fun z => z)]; exact q, fun b u xs q => by rw [upd_ne (hm b _ q fun z => z)]; exact q, fun b ps q => ⟨#[], by rw [upd_ne (hm b _ q fun z => z), q]; simp⟩⟩
  by_cases hbe : b = e
  · subst hbe; exact heo
  · exact ⟨u, k b u hbe q⟩
theorem Un.mono (u : Un fs ex H H1 h h1) (hs : ∀ b ∈ fs, b ∈ fs') (hx : ∀ b ∈ ex, b ∈ ex') : Un fs' ex' H H1 h h1 :=
  ⟨fun b ob q n hb he => u.keep b ob q n (fun z => hb (hs b z)) fun z => he (hx b z), fun _ _ q n _ he => u.any q n fun z => he (hx _ z), fun b ob q n he => u.free b ob q n fun z => he (hx b z), fun b ob q he => u.there b ob q fun z => he (hx b z), u.tups, u.frzs, u.tbls⟩
end

/-! ### the heap without what is tracked -/
def trk (h : Heap) (H : Hp) : List Addr := (List.range h.objs.size).filter fun a => (H a).isSome
def hidT (h : Heap) (H : Hp) : Heap := PySem.W.hideAll h (trk h H)
theorem hidT_size (h : Heap) (H : Hp) : (hidT h H).objs.size = h.objs.size := PySem.W.hideAll_size _ _
theorem hidT_get {h : Heap} {H : Hp} {b : Addr} {o : Obj} (e : h.get? b = some o) (n : H b = none) : (hidT h H).get? b = some o :=
  PySem.W.hideAll_get _ e fun hm => by
    have q : (H b).isSome = true := (List.mem_filter.mp hm).2
    rw [n] at q; simp at q
theorem of_hidT {h : Heap} {H : Hp} {b : Addr} {o : Obj} (e : (hidT h H).get? b = some o) : h.get? b = some o ∧ H b = none := by
  have e' : h.get? b = some o := PySem.W.of_hideAll (trk h H) e
  refine ⟨e', ?_⟩
  cases q : H b with
  | none => rfl
  | some x =>
    have hm : b ∈ trk h H := List.mem_filter.mpr ⟨List.mem_range.mpr (Heap.lt_size e'), by simp [q]⟩
    have z : (hidT h H).get? b = none := PySem.W.hideAll_none (trk h H) hm
    rw [z] at e; cases e

/-! ### OpenK's ledger, filled with every new object but one -/
def allNews (g h : Heap) (L : Addr) : List (Addr × Obj) := (List.range h.objs.size).filterMap fun a => if a = L ∨ (g.get? a).isSome = true then none else (h.get? a).map fun o => (a, o)
def rest (g h : Heap) (L d : Addr) : List (Addr × Obj) := (allNews g h L).filter fun p => decide (p.1 ≠ d)
end L2

namespace L2
open PySem PySem.Spec PyProof.Rows

/-- the module's facts, over the base: the heap at the law's entry without what is tracked there -/
structure Mod (K : PySem.W.Frag) (mg : Str → Option Value) (base : Heap) : Prop where
  kin : K.In base
  glob : base.Ns mainGlobals mg
  blt : ∃ mb, base.Ns builtinsNs mb ∧ ∀ x : Str, x ≠ "__name__" → mb x = bootBuiltins x
  nolimit : base.NoLimit

/-- the context: a def's body (or a comprehension's block) running. base: fixed through the whole law; s₀, H₀: the entry; outer: the frames whose slots others may change (a def's callers); stack: all frames that run;
   ex: iterators that were made ahead of the entry and are walked here (a comprehension's); fn: the names whose cells were made at the entry (a def: all; a comprehension's block: its own); calm: not within an except suite; pn: pins that every state bears; xe: what is wanted of an exception that leaves the code -/
structure Cx where
  prog : Program
  w : World
  K : PySem.W.Frag
  mg : Str → Option Value
  base : Heap
  A : Around
  N : List Str
  s₀ : Shared
  H₀ : Hp
  env : Env
  outer : List Env
  stack : List Env
  ex : List Addr
  fn : Str → Bool
  calm : Bool
  pn : List (Addr × Obj)
  xe : Value → Shared → Prop
/-- the callers' frames -/
def frs (l : List Env) : List Addr := l.filterMap (·.frame)
abbrev Cx.fs (X : Cx) : List Addr := frs X.outer

def Vis (sc : Scope) (x : Str) : Prop := sc.names.lookup x = some .local ∨ sc.names.lookup x = some .cell ∨ sc.names.lookup x = some .free
def Loc (sc : Scope) (x : Str) : Prop := sc.names.lookup x = some .local ∨ sc.names.lookup x = some .cell
def Look (env : Env) (h : Heap) (m : Str → Option Value) (x : Str) (u : Value) : Prop :=
  (env.kindOf x = some .local ∧ m x = some u) ∨ ((env.kindOf x = some .cell ∨ env.kindOf x = some .free) ∧ ∃ c, env.cells.lookup x = some c ∧ h.IsCell c (some u))

structure Cx.Ok (X : Cx) : Prop where
  mod : Mod X.K X.mg X.base
  kind : X.env.scope.kind = .function
  glob : X.env.globals = mainGlobals
  blt : X.env.builtins = builtinsNs
  above : X.s₀.heap.objs.size ≤ X.env.locals
  inj : ∀ x y c, X.env.cells.lookup x = some c → X.env.cells.lookup y = some c → x = y
  has : ∀ x, (X.env.kindOf x = some .cell ∨ X.env.kindOf x = some .free) → ∃ c, X.env.cells.lookup x = some c
  cab : ∀ x c, X.fn x = true → X.env.cells.lookup x = some c → X.s₀.heap.objs.size ≤ c
  hd : X.calm = true → X.A.handled = none
  frames : X.A.frames = some X.stack
  stk : X.stack = X.outer ∨ (X.stack = X.env :: X.outer ∧ X.env.frame = some X.env.locals)
  exf : ∀ b ∈ X.ex, b ≠ X.env.locals ∧ ∀ x c, X.env.cells.lookup x = some c → c ≠ b
  bs : ∀ b o, X.base.get? b = some o → X.s₀.heap.get? b = some o ∧ X.H₀ b = none
  bsz : X.base.objs.size ≤ X.s₀.heap.objs.size
  noex : ∀ b o, X.base.get? b = some o → b ∉ X.ex
  exfs : ∀ b ∈ X.ex, b ∉ X.fs
  funs : X.s₀.heap.FunFrames X.base X.outer
  frf : ∀ b ∈ X.fs, X.H₀ b = none

structure Inv (X : Cx) (pins : List (Addr × Obj)) (σ : List (Option V)) (H : Hp) (s : Shared) : Prop where
  ok : X.Ok
  os : s.os = X.s₀.os
  bare : AllBare s.gens
  base : Un X.fs X.ex X.H₀ H X.s₀.heap s.heap
  loc : ∃ m, s.heap.Ns X.env.locals m ∧ ∀ (i : Nat) (x : Str) (v : V), X.N[i]? = some x → σ[i]? = some (some v) → Vis X.env.scope x → ∃ u, RelV v u ∧ Look X.env s.heap m x u
  cell : ∀ x c, X.env.cells.lookup x = some c → ∃ v, s.heap.IsCell c v
  free : H X.env.locals = none
  freeC : ∀ x c, X.env.cells.lookup x = some c → H c = none
  pin : ∀ p ∈ X.pn ++ pins, s.heap.get? p.1 = some p.2 ∧ H p.1 = none ∧ p.1 ≠ X.env.locals ∧ p.1 ∉ X.fs ∧ ∀ v, p.2.data ≠ .cell v
  hok : HOk X.prog X.w H s.heap
  len : σ.length = X.N.length

section
variable {X : Cx} {pins : List (Addr × Obj)} {σ : List (Option V)} {H H' : Hp} {s : Shared} {h' : Heap}

theorem Cx.Ok.nofr (ok : X.Ok) {b : Addr} {o : Obj} (e : X.base.get? b = some o) : b ∉ X.fs := fun hb => by
  have := (ok.funs.mem hb).1
  rw [e] at this; cases this
theorem Inv.bs (I : Inv X pins σ H s) : ∀ b o, X.base.get? b = some o → s.heap.get? b = some o ∧ H b = none := fun b o e =>
  ⟨I.base.keep b o (I.ok.bs b o e).1 (I.ok.bs b o e).2 (I.ok.nofr e) (I.ok.noex b o e), I.base.free b o (I.ok.bs b o e).1 (I.ok.bs b o e).2 (I.ok.noex b o e)⟩
theorem Inv.bk (I : Inv X pins σ H s) : ∀ b o, X.base.get? b = some o → s.heap.get? b = some o := fun b o e => (I.bs b o e).1
theorem Inv.mod (I : Inv X pins σ H s) : Mod X.K X.mg X.base := I.ok.mod
theorem Inv.kIn (I : Inv X pins σ H s) : X.K.In s.heap := I.ok.mod.kin.keeps I.bk
theorem Inv.nolimit (I : Inv X pins σ H s) : s.heap.NoLimit := I.ok.mod.nolimit.keeps I.bk
theorem Inv.lt (I : Inv X pins σ H s) : X.env.locals < s.heap.objs.size := let ⟨_, hn, _⟩ := I.loc; hn.lt
theorem Inv.sz (I : Inv X pins σ H s) : X.s₀.heap.objs.size ≤ s.heap.objs.size := Nat.le_trans I.ok.above (Nat.le_of_lt I.lt)
theorem Inv.nofs (I : Inv X pins σ H s) {a : Addr} (h : s.heap.objs.size ≤ a) : a ∉ X.fs := fun hb => by
  obtain ⟨_, o, ho, _⟩ := I.ok.funs.mem hb
  exact absurd (Nat.lt_of_lt_of_le (Heap.lt_size ho) (Nat.le_trans I.sz h)) (Nat.lt_irrefl _)
theorem Inv.cne (I : Inv X pins σ H s) : ∀ x c, X.env.cells.lookup x = some c → c ≠ X.env.locals := fun x c e z => by
  obtain ⟨v, o, ho, hd⟩ := I.cell x c e
  obtain ⟨m, ⟨o', es, ep, ho', hd', _⟩, _⟩ := I.loc
  rw [z, ho'] at ho; cases ho; rw [hd'] at hd; cases hd
theorem Inv.funs (I : Inv X pins σ H s) : s.heap.FunFrames X.base X.outer := by
  have all : ∀ (l : List Env), (∀ b ∈ frs l, b ∈ X.fs) → X.s₀.heap.FunFrames X.base l → s.heap.FunFrames X.base l := by
    intro l
    induction l with
    | nil => intro _ _; trivial
    | cons env r ih =>
      intro hs hl
      obtain ⟨hk, ⟨L, o, hf, hn, ho, hd⟩, hr⟩ := hl
      have hL : L ∈ X.fs := hs L (by unfold frs; rw [List.filterMap_cons, hf]; exact List.mem_cons_self)
      obtain ⟨sl, e⟩ := I.base.slot L o ho (I.ok.frf L hL) hL fun z => I.ok.exfs L z hL
      exact ⟨hk, ⟨L, _, hf, hn, e, hd⟩, ih (fun b hb => hs b (by unfold frs; rw [List.filterMap_cons, hf]; exact List.mem_cons_of_mem _ hb)) hr⟩
  exact all X.outer (fun _ hb => hb) I.ok.funs

/-- the frames that run, for a call -/
theorem Inv.stack (I : Inv X pins σ H s) : s.heap.FunFrames X.base X.stack := by
  rcases I.ok.stk with e | ⟨e, hf⟩
  · rw [e]; exact I.funs
  · rw [e]
    obtain ⟨m, hn, _⟩ := I.loc
    refine .cons (by rw [I.ok.kind]; decide) hf hn ?_ I.funs
    exact Heap.get?_none_of_le (Nat.le_trans I.ok.bsz I.ok.above)
theorem Inv.stkSub (I : Inv X pins σ H s) : ∀ b ∈ frs X.stack, b ∈ X.env.locals :: X.fs := fun b hb => by
  rcases I.ok.stk with e | ⟨e, hf⟩
  · rw [e] at hb; exact List.mem_cons_of_mem _ hb
  · rw [e] at hb
    unfold frs at hb
    rw [List.filterMap_cons, hf] at hb
    exact hb
theorem Inv.stkFree (I : Inv X pins σ H s) : ∀ b ∈ frs X.stack, H b = none := fun b hb => by
  rcases List.mem_cons.mp (I.stkSub b hb) with e | hb
  · rw [e]; exact I.free
  · obtain ⟨_, o, ho, _⟩ := I.ok.funs.mem hb
    exact I.base.free b o ho (I.ok.frf b hb) fun z => I.ok.exfs b z hb

/-- THE STEP: the untracked objects but the frame and the records at ch are kept (the callers' frames up to slots), the frame's map is kept, the new abstract heap is held -/
theorem Inv.step {g' : Array GenState} {t' : Nat} {d' : Drawn} {ch : List Addr} (I : Inv X pins σ H s)
    (hch : ∀ b ∈ ch, (b ∈ X.ex ∨ X.s₀.heap.objs.size ≤ b) ∧ b ≠ X.env.locals ∧ (∀ x c, X.env.cells.lookup x = some c → c ≠ b) ∧ ∀ p ∈ X.pn ++ pins, p.1 ≠ b)
    (keep : ∀ b o, b ≠ X.env.locals → b ∉ X.fs → b ∉ ch → s.heap.get? b = some o → H b = none → h'.get? b = some o)
    (slot : ∀ b o, b ≠ X.env.locals → b ∈ X.fs → b ∉ ch → s.heap.get? b = some o → H b = none → ∃ sl, h'.get? b = some { o with slots := sl }) (free : ∀ b o, b ∉ ch → s.heap.get? b = some o → H b = none → H' b = none)
    (there : ∀ b o, b ∉ ch → s.heap.get? b = some o → ∃ o', h'.get? b = some o')
    (tups : ∀ b xs, H b = some (.tup xs) → H' b = some (.tup xs)) (frzs : ∀ b o u, H b = some (.frz o u) → H' b = some (.frz o u)) (tbls : ∀ b ps, H b = some (.tbl ps) → ∃ more, H' b = some (.tbl (ps ++ more)))
    (ns : ∀ m, s.heap.Ns X.env.locals m → h'.Ns X.env.locals m) (hok : HOk X.prog X.w H' h') (hg : AllBare g') :
    Inv X pins σ H' { s with heap := h', gens := g', drawn := d', toks := t' } := by
  have neL : ∀ b o, X.s₀.heap.get? b = some o → b ≠ X.env.locals := fun b o e => Nat.ne_of_lt (Nat.lt_of_lt_of_le (Heap.lt_size e) I.ok.above)
  have neC : ∀ b o, X.s₀.heap.get? b = some o → b ∉ X.ex → b ∉ ch := fun b o e hx hb => by
    rcases (hch b hb).1 with z | z
    · exact hx z
    · exact absurd (Nat.lt_of_lt_of_le (Heap.lt_size e) z) (Nat.lt_irrefl _)
  have cellK : ∀ x c, X.env.cells.lookup x = some c → ∀ v, s.heap.IsCell c v → h'.IsCell c v := fun x c e v ⟨o, ho, hd⟩ => by
    have nch : c ∉ ch := fun z => (hch c z).2.2.1 x c e rfl
    by_cases hc : c ∈ X.fs
    · obtain ⟨sl, q⟩ := slot c o (I.cne x c e) hc nch ho (I.freeC x c e)
      exact ⟨_, q, hd⟩
    · exact ⟨o, keep c o (I.cne x c e) hc nch ho (I.freeC x c e), hd⟩
  refine ⟨I.ok, I.os, hg, ⟨fun b o e n hb hx => ?_, fun b o e n hb hx => ?_, fun b o e n hx => ?_, fun b o e hx => ?_, fun b xs e => tups b xs (I.base.tups b xs e), fun b o xs e => frzs b o xs (I.base.frzs b o xs e), fun b ps e => ?_⟩, ?_, fun x c e => ?_, ?_, fun x c e => ?_, fun p hp => ?_, hok, I.len⟩
  · exact keep b o (neL b o e) hb (neC b o e hx) (I.base.keep b o e n hb hx) (I.base.free b o e n hx)
  · obtain ⟨sl, e1⟩ := I.base.slot b o e n hb hx
    obtain ⟨sl', e2⟩ := slot b _ (neL b o e) hb (neC b o e hx) e1 (I.base.free b o e n hx)
    exact ⟨sl', e2⟩
  · obtain ⟨o', e1⟩ := I.base.there b o e hx
    exact free b o' (neC b o e hx) e1 (I.base.free b o e n hx)
  · obtain ⟨o', e1⟩ := I.base.there b o e hx
    exact there b o' (neC b o e hx) e1
  · obtain ⟨m1, e1⟩ := I.base.tbls b ps e
    obtain ⟨m2, e2⟩ := tbls b _ e1
    exact ⟨m1 ++ m2, by rw [e2, Array.append_assoc]⟩
  · obtain ⟨m, hn, hl⟩ := I.loc
    refine ⟨m, ns m hn, fun i x v e1 e2 e3 => ?_⟩
    obtain ⟨u, r, l⟩ := hl i x v e1 e2 e3
    refine ⟨u, r, ?_⟩
    rcases l with l | ⟨k, c, e, z⟩
    · exact .inl l
    · exact .inr ⟨k, c, e, cellK x c e _ z⟩
  · obtain ⟨v, z⟩ := I.cell x c e
    exact ⟨v, cellK x c e v z⟩
  · obtain ⟨m, ⟨o, _, _, ho, _⟩, _⟩ := I.loc
    exact free _ o (fun z => (hch _ z).2.1 rfl) ho I.free
  · obtain ⟨v, o, ho, hd⟩ := I.cell x c e
    exact free c o (fun z => (hch c z).2.2.1 x c e rfl) ho (I.freeC x c e)
  · obtain ⟨e, n, ne, nf, d⟩ := I.pin p hp
    have nch : p.1 ∉ ch := fun z => (hch p.1 z).2.2.2 p hp rfl
    exact ⟨keep p.1 p.2 ne nf nch e n, free p.1 p.2 nch e n, ne, nf, d⟩
/-- .. where the frame's own object is kept too -/
theorem Inv.un {t' : Nat} (I : Inv X pins σ H s) (u : Un X.fs [] H H' s.heap h') (hok : HOk X.prog X.w H' h') : Inv X pins σ H' { s with heap := h', toks := t' } := by
  obtain ⟨m, ⟨o, es, ep, ho, r⟩, _⟩ := id I.loc
  obtain ⟨sl, hL⟩ := u.any ho I.free (by simp)
  exact I.step (g' := s.gens) (d' := s.drawn) (ch := []) (fun _ z => nomatch z) (fun b o _ hb _ e n => u.keep b o e n hb (by simp)) (fun b o _ hb _ e n => u.slot b o e n hb (by simp)) (fun b o _ e n => u.free b o e n (by simp)) (fun b o _ e => u.there b o e (by simp)) u.tups u.frzs u.tbls (fun m' hm => by
    obtain ⟨o', es', ep', ho', r'⟩ := hm
    rw [ho] at ho'; cases ho'
    exact ⟨_, es', ep', hL, r'⟩) hok I.bare
/-- behind a call (or a comprehension's block): the slots of this frame may have changed too, the records at ch may have turned -/
theorem Inv.call {g' : Array GenState} {t' : Nat} {d' : Drawn} {ch : List Addr} (I : Inv X pins σ H s) (u : Un (frs X.stack) ch H H' s.heap h') (hok : HOk X.prog X.w H' h') (hg : AllBare g')
    (hch : ∀ b ∈ ch, (b ∈ X.ex ∨ X.s₀.heap.objs.size ≤ b) ∧ b ≠ X.env.locals ∧ (∀ x c, X.env.cells.lookup x = some c → c ≠ b) ∧ ∀ p ∈ X.pn ++ pins, p.1 ≠ b) :
    Inv X pins σ H' { s with heap := h', gens := g', drawn := d', toks := t' } := by
  obtain ⟨m, ⟨o, es, ep, ho, r⟩, _⟩ := id I.loc
  obtain ⟨sl, hL⟩ := u.any ho I.free fun z => (hch _ z).2.1 rfl
  exact I.step (ch := ch) hch (fun b o hL hb hc e n => u.keep b o e n (fun z => (List.mem_cons.mp (I.stkSub b z)).elim hL hb) hc) (fun b o _ _ hc e n => u.any e n hc) (fun b o hc e n => u.free b o e n hc) (fun b o hc e => u.there b o e hc) u.tups u.frzs u.tbls (fun m' hm => by
    obtain ⟨o', es', ep', ho', r'⟩ := hm
    rw [ho] at ho'; cases ho'
    exact ⟨_, es', ep', hL, r'⟩) hok hg
/-- an untracked record of ours (an iterator) has turned -/
theorem Inv.turned {t' : Nat} {it : Addr} (I : Inv X pins σ H s) (k : ∀ b o, b ≠ it → s.heap.get? b = some o → h'.get? b = some o) (hn : H it = none) (hL : it ≠ X.env.locals)
    (h1 : it ∈ X.ex ∨ X.s₀.heap.objs.size ≤ it) (h2 : ∀ x c, X.env.cells.lookup x = some c → c ≠ it) (h3 : ∀ p ∈ X.pn ++ pins, p.1 ≠ it) : Inv X pins σ H { s with heap := h', toks := t' } := by
  have nit : ∀ b u, H b = some u → b ≠ it := fun b u e z => by rw [z, hn] at e; cases e
  refine I.step (g' := s.gens) (d' := s.drawn) (ch := [it]) (fun b hb => ?_) (fun b o _ _ hc e _ => k b o (fun z => hc (by simp [z])) e) (fun b o _ _ hc e _ => ⟨o.slots, k b o (fun z => hc (by simp [z])) e⟩) (fun _ _ _ _ n => n)
    (fun b o hc e => ⟨o, k b o (fun z => hc (by simp [z])) e⟩) (fun _ _ e => e) (fun _ _ _ e => e) (fun b ps e => ⟨#[], by rw [e]; simp⟩) (fun m hm => ?_) (fun b u e => ?_) I.bare
  · have e : b = it := by simpa using hb
    subst e
    exact ⟨h1, hL, h2, h3⟩
  · obtain ⟨o, es, ep, ho, r⟩ := hm
    exact ⟨o, es, ep, k _ o (Ne.symm hL) ho, r⟩
  · refine (I.hok b u e).stay (fun c v hc q => k c v ?_ q) (fun _ q => q) fun _ _ q => q
    rcases hc with z | z
    · rw [z]; exact nit b u e
    · exact nit c _ z
theorem Inv.tok (I : Inv X pins σ H s) (t : Nat) : Inv X pins σ H { s with toks := t } := I.un (h' := s.heap) (t' := t) Un.refl I.hok
/-- all objects kept -/
theorem Inv.kept {t' : Nat} (I : Inv X pins σ H s) (k : ∀ b u, s.heap.get? b = some u → h'.get? b = some u) : Inv X pins σ H { s with heap := h', toks := t' } := I.un (Un.kept k) (I.hok.kept k)
/-- a new object laid and tracked -/
theorem Inv.laid {a : Addr} {o : HO} {t' : Nat} (I : Inv X pins σ H s) (k : ∀ b u, s.heap.get? b = some u → h'.get? b = some u) (hp : s.heap.objs.size ≤ a) (new : ObjOk X.prog X.w (upd H a o) h' a o) :
    Inv X pins σ (upd H a o) { s with heap := h', toks := t' } := I.un (Un.laid k hp (I.hok.fresh hp)) (I.hok.laid k hp new)
/-- an object written -/
theorem Inv.write {x e : Addr} {o : HO} {t' : Nat} (I : Inv X pins σ H s) (mu : Mut (H x)) (he : e = x ∨ H e = some (.own x)) (k : ∀ b u, b ≠ e → s.heap.get? b = some u → h'.get? b = some u) (heo : ∃ u, h'.get? e = some u)
    (new : ObjOk X.prog X.w (upd H x o) h' x o) : Inv X pins σ (upd H x o) { s with heap := h', toks := t' } := I.un (Un.write mu he k heo) (I.hok.write mu he k heo new)
/-- forgetting slots, pins -/
theorem Inv.weak {σ' : List (Option V)} (I : Inv X pins σ H s) (hl : σ'.length = σ.length) (w : ∀ (i : Nat) v, σ'[i]? = some (some v) → σ[i]? = some (some v)) : Inv X pins σ' H s :=
  ⟨I.ok, I.os, I.bare, I.base, let ⟨m, hn, hl'⟩ := I.loc; ⟨m, hn, fun i x v e1 e2 e3 => hl' i x v e1 (w i v e2) e3⟩, I.cell, I.free, I.freeC, I.pin, I.hok, hl.trans I.len⟩
theorem Inv.pins_of {pins' : List (Addr × Obj)} (I : Inv X pins σ H s) (h : ∀ p ∈ pins', s.heap.get? p.1 = some p.2 ∧ H p.1 = none ∧ p.1 ≠ X.env.locals ∧ p.1 ∉ X.fs ∧ ∀ v, p.2.data ≠ .cell v) : Inv X pins' σ H s :=
  ⟨I.ok, I.os, I.bare, I.base, I.loc, I.cell, I.free, I.freeC, fun p hp => (List.mem_append.mp hp).elim (fun z => I.pin p (List.mem_append_left _ z)) (h p), I.hok, I.len⟩

theorem nodup_ix {N : List Str} (hN : N.Nodup) {i j : Nat} {x : Str} (a : N[i]? = some x) (b : N[j]? = some x) : i = j := by
  obtain ⟨h1, e1⟩ := List.getElem?_eq_some_iff.mp a
  obtain ⟨h2, e2⟩ := List.getElem?_eq_some_iff.mp b
  exact (List.getElem_inj hN).mp (e1.trans e2.symm)

/-- a name is stored; what changed -/
theorem store_ok2 {M : Model} {A : Around} {E : Value → Shared → Prop} {i : Nat} {x : Str} {v : V} {u : Value} {Q : Unit → Shared → Prop} (I : Inv X pins σ H s) (hN : X.N.Nodup) (hi : X.N[i]? = some x) (hx : Loc X.env.scope x) (r : RelV v u)
    (h : ∀ s', Inv X pins (σ.set i (some v)) H s' → (∃ a, Heap.SameBut a s.heap s'.heap ∧ (a = X.env.locals ∨ X.env.cells.lookup x = some a)) → Q () s') (hf : X.fn x = true ∨ X.env.scope.names.lookup x = some .local := by first | exact .inl rfl | exact .inr rfl | assumption) : wpAny M A (storeName X.env x u) Q E s := by
  obtain ⟨m, hn, hl⟩ := id I.loc
  have hcls : (X.env.scope.kind == .class || (X.env.scope.kind == .module && X.env.locals != X.env.globals)) = false := by rw [I.ok.kind]; rfl
  have hiσ : i < σ.length := by rw [I.len]; exact (List.getElem?_eq_some_iff.mp hi).1
  have cne := I.cne
  have tracked : ∀ {a : Addr} {h' : Heap}, (∃ o, s.heap.get? a = some o ∧ H a = none) → Heap.SameBut a s.heap h' → HOk X.prog X.w H h' := fun {a h'} ha hs b ob e => by
    obtain ⟨_, _, hfree⟩ := ha
    refine (I.hok b ob e).stay (fun c w' hc q => (hs.2 c ?_).trans q) (fun _ q => q) fun _ _ q => q
    rintro rfl
    rcases hc with rfl | hc
    · rw [hfree] at e; cases e
    · rw [hfree] at hc; cases hc
  rcases hx with hk | hk
  · refine wpAny_storeName_local hk hn (fun h' hn' hs => ?_) hcls
    obtain ⟨oL, _, _, hoL, _⟩ := id hn
    refine h _ ⟨I.ok, I.os, I.bare, ⟨fun b o e n hb hx => ?_, fun b o e n hb hx => ?_, I.base.free, fun b o e hx => ?_, I.base.tups, I.base.frzs, I.base.tbls⟩, ⟨_, hn', fun j y v' e1 e2 e3 => ?_⟩, fun y c e => ?_, I.free, I.freeC, fun p hp => ?_, tracked ⟨oL, hoL, I.free⟩ hs, by simpa using I.len⟩ ⟨_, hs, .inl rfl⟩
    · exact (hs.2 b (Nat.ne_of_lt (Nat.lt_of_lt_of_le (Heap.lt_size e) I.ok.above))).trans (I.base.keep b o e n hb hx)
    · obtain ⟨sl, e1⟩ := I.base.slot b o e n hb hx
      exact ⟨sl, (hs.2 b (Nat.ne_of_lt (Nat.lt_of_lt_of_le (Heap.lt_size e) I.ok.above))).trans e1⟩
    · obtain ⟨o', e1⟩ := I.base.there b o e hx
      exact ⟨o', (hs.2 b (Nat.ne_of_lt (Nat.lt_of_lt_of_le (Heap.lt_size e) I.ok.above))).trans e1⟩
    · by_cases hj : j = i
      · subst hj
        rw [hi] at e1; cases e1
        rw [List.getElem?_set_self hiσ] at e2
        cases e2
        exact ⟨u, r, .inl ⟨hk, by simp⟩⟩
      · rw [List.getElem?_set_ne (Ne.symm hj)] at e2
        obtain ⟨u', r', q⟩ := hl j y v' e1 e2 e3
        refine ⟨u', r', ?_⟩
        rcases q with ⟨k, e⟩ | ⟨k, c, e, z⟩
        · refine .inl ⟨k, ?_⟩
          have : y ≠ x := fun e => hj (nodup_ix hN e1 (e ▸ hi))
          simp [this, e]
        · exact .inr ⟨k, c, e, z.sameBut hs (cne y c e)⟩
    · obtain ⟨w', z⟩ := I.cell y c e
      exact ⟨w', z.sameBut hs (cne y c e)⟩
    · obtain ⟨e, n, ne, nf, d⟩ := I.pin p hp
      exact ⟨(hs.2 p.1 ne).trans e, n, ne, nf, d⟩
  · have hfn : X.fn x = true := by
      rcases hf with z | z
      · exact z
      · rw [z] at hk; cases hk
    obtain ⟨c, hc⟩ := I.ok.has x (.inl hk)
    obtain ⟨w', z⟩ := I.cell x c hc
    refine wpAny_storeName_cell I.ok.kind hk hc z (fun h' hc' hs => ?_)
    obtain ⟨oc, hoc, hocd⟩ := id z
    refine h { s with heap := h' } ⟨I.ok, I.os, I.bare, ⟨fun b o e n hb hx => ?_, fun b o e n hb hx => ?_, I.base.free, fun b o e hx => ?_, I.base.tups, I.base.frzs, I.base.tbls⟩, ⟨m, hn.sameBut hs (Ne.symm (cne x c hc)), fun j y v' e1 e2 e3 => ?_⟩, fun y c' e => ?_, I.free, I.freeC, fun p hp => ?_, tracked ⟨oc, hoc, I.freeC x c hc⟩ hs, by simpa using I.len⟩ ⟨c, hs, .inr hc⟩
    · exact (hs.2 b (Nat.ne_of_lt (Nat.lt_of_lt_of_le (Heap.lt_size e) (I.ok.cab x c hfn hc)))).trans (I.base.keep b o e n hb hx)
    · obtain ⟨sl, e1⟩ := I.base.slot b o e n hb hx
      exact ⟨sl, (hs.2 b (Nat.ne_of_lt (Nat.lt_of_lt_of_le (Heap.lt_size e) (I.ok.cab x c hfn hc)))).trans e1⟩
    · obtain ⟨o', e1⟩ := I.base.there b o e hx
      exact ⟨o', (hs.2 b (Nat.ne_of_lt (Nat.lt_of_lt_of_le (Heap.lt_size e) (I.ok.cab x c hfn hc)))).trans e1⟩
    · by_cases hj : j = i
      · subst hj
        rw [hi] at e1; cases e1
        rw [List.getElem?_set_self hiσ] at e2
        cases e2
        exact ⟨u, r, .inr ⟨.inl hk, c, hc, hc'⟩⟩
      · rw [List.getElem?_set_ne (Ne.symm hj)] at e2
        obtain ⟨u', r', q⟩ := hl j y v' e1 e2 e3
        refine ⟨u', r', ?_⟩
        rcases q with q | ⟨k, c', e, z'⟩
        · exact .inl q
        · refine .inr ⟨k, c', e, z'.sameBut hs ?_⟩
          rintro rfl
          exact hj (nodup_ix hN e1 (I.ok.inj _ _ _ e hc ▸ hi))
    · by_cases hcc : c' = c
      · subst hcc; exact ⟨_, hc'⟩
      · obtain ⟨w2, z2⟩ := I.cell y c' e
        exact ⟨w2, z2.sameBut hs hcc⟩
    · obtain ⟨e, n, ne, nf, d⟩ := I.pin p hp
      refine ⟨(hs.2 p.1 ?_).trans e, n, ne, nf, d⟩
      intro q
      rw [q, hoc] at e
      have q' : oc = p.2 := Option.some.inj e
      exact d w' (by rw [← q']; exact hocd)
theorem store_ok {M : Model} {A : Around} {E : Value → Shared → Prop} {i : Nat} {x : Str} {v : V} {u : Value} {Q : Unit → Shared → Prop} (I : Inv X pins σ H s) (hN : X.N.Nodup) (hi : X.N[i]? = some x) (hx : Loc X.env.scope x) (r : RelV v u)
    (h : ∀ s', Inv X pins (σ.set i (some v)) H s' → Q () s') (hf : X.fn x = true ∨ X.env.scope.names.lookup x = some .local := by first | exact .inl rfl | exact .inr rfl | assumption) : wpAny M A (storeName X.env x u) Q E s :=
  store_ok2 I hN hi hx r (fun s' I' _ => h s' I') hf
/-- behind a call or a block, the state as it is -/
theorem Inv.call' {s' : Shared} {ch : List Addr} (I : Inv X pins σ H s) (ho : s'.os = s.os) (u : Un (frs X.stack) ch H H' s.heap s'.heap) (hok : HOk X.prog X.w H' s'.heap) (hg : AllBare s'.gens)
    (hch : ∀ b ∈ ch, (b ∈ X.ex ∨ X.s₀.heap.objs.size ≤ b) ∧ b ≠ X.env.locals ∧ (∀ x c, X.env.cells.lookup x = some c → c ≠ b) ∧ ∀ p ∈ X.pn ++ pins, p.1 ≠ b) : Inv X pins σ H' s' := by
  obtain ⟨h', g', d', t', o'⟩ := s'
  have e : o' = s.os := ho
  subst e
  exact I.call (g' := g') (t' := t') (d' := d') u hok hg hch
end

/-! ### the judgements -/
/-- an exception: its class, its own dict's address (where it has one), the abstract heap behind it -/
abbrev XK := Value → Option Addr → Hp → Prop
abbrev St := List (Option V)
abbrev VK := V → Hp → Prop
/-- an expression's reading; a test's; an argument list's -/
abbrev TE := St → Hp → VK → Prop
abbrev TT := St → Hp → (Bool → Hp → Prop) → Prop
abbrev TA := St → Hp → (List V → Hp → Prop) → Prop
/-- what is wanted behind a statement -/
structure Ends where
  nx : St → Hp → Prop
  rt : VK
  bk : St → Hp → Prop := fun _ _ => False
  ct : St → Hp → Prop := fun _ _ => False
abbrev TS := Ends → St → Hp → Prop

def EP (X : Cx) (pins : List (Addr × Obj)) (σ : St) (Q : VK) (u : Value) (s' : Shared) : Prop := ∃ v H', Inv X pins σ H' s' ∧ RelV v u ∧ Q v H'
def TP (X : Cx) (pins : List (Addr × Obj)) (σ : St) (Q : Bool → Hp → Prop) (b : Bool) (s' : Shared) : Prop := ∃ H', Inv X pins σ H' s' ∧ Q b H'
def AP (X : Cx) (pins : List (Addr × Obj)) (σ : St) (Q : List V → Hp → Prop) (us : List Value) (s' : Shared) : Prop := ∃ vs H', Inv X pins σ H' s' ∧ Vals vs us ∧ Q vs H'
def SP (X : Cx) (pins : List (Addr × Obj)) (D : Ends) (f : Flow) (s' : Shared) : Prop :=
  match f with
  | .next => ∃ σ' H', Inv X pins σ' H' s' ∧ D.nx σ' H'
  | .brk => ∃ σ' H', Inv X pins σ' H' s' ∧ D.bk σ' H'
  | .cont => ∃ σ' H', Inv X pins σ' H' s' ∧ D.ct σ' H'
  | .ret u => ∃ v σ' H', Inv X pins σ' H' s' ∧ RelV v u ∧ D.rt v H'

def PE (X : Cx) (e : Expr) (t : TE) : Prop :=
  ∀ (pins : List (Addr × Obj)) (s : Shared) (σ : St) (H : Hp) (Q : VK), Inv X pins σ H s → t σ H Q → wpAny (model X.prog X.w) X.A (eval e X.env) (EP X pins σ Q) X.xe s
def PT (X : Cx) (e : Expr) (t : TT) : Prop :=
  ∀ (pins : List (Addr × Obj)) (s : Shared) (σ : St) (H : Hp) (Q : Bool → Hp → Prop), Inv X pins σ H s → t σ H Q → wpAny (model X.prog X.w) X.A (isTrue e X.env (eval e X.env)) (TP X pins σ Q) X.xe s
/-- a test whatever its 'whole' is (and, or) -/
def PW (X : Cx) (e : Expr) (t : TT) : Prop :=
  ∀ (whole : Sem Value) (pins : List (Addr × Obj)) (s : Shared) (σ : St) (H : Hp) (Q : Bool → Hp → Prop), Inv X pins σ H s → t σ H Q → wpAny (model X.prog X.w) X.A (isTrue e X.env whole) (TP X pins σ Q) X.xe s
theorem PW.pt {X : Cx} {e : Expr} {t : TT} (h : PW X e t) : PT X e t := h _
/-- an argument list (no star), from the left -/
def PA (X : Cx) (es : List Expr) (t : TA) : Prop :=
  ∀ (pos : Pos) (pins : List (Addr × Obj)) (s : Shared) (σ : St) (H : Hp) (Q : List V → Hp → Prop), Inv X pins σ H s → t σ H Q → wpAny (model X.prog X.w) X.A (spliced (backTo pos (starEach es X.env))) (AP X pins σ Q) X.xe s
def PS (X : Cx) (st : Stmt) (t : TS) : Prop :=
  ∀ (pins : List (Addr × Obj)) (s : Shared) (σ : St) (H : Hp) (D : Ends), Inv X pins σ H s → t D σ H → wpAny (model X.prog X.w) X.A (exec st X.env) (SP X pins D) X.xe s
def PSs (X : Cx) (st : List Stmt) (t : TS) : Prop :=
  ∀ (pins : List (Addr × Obj)) (s : Shared) (σ : St) (H : Hp) (D : Ends), Inv X pins σ H s → t D σ H → wpAny (model X.prog X.w) X.A (execs st X.env) (SP X pins D) X.xe s
/-- weaken the end -/
theorem thn {α : Type} {t : Sem α} {Q Q' : α → Shared → Prop} {M : Model} {A : Around} {E : Value → Shared → Prop} {s : Shared} (h : wpAny M A t Q E s) (hQ : ∀ a s, Q a s → Q' a s) : wpAny M A t Q' E s := wpAny_mono h hQ fun _ _ x => x
end L2

namespace L2
open PySem PySem.Spec PyProof.Rows
section
variable {X : Cx}

/-! ### names and constants -/
def tVar (i : Nat) : TE := fun σ H Q => ∃ v, σ[i]? = some (some v) ∧ Q v H
def tC (v : V) : TE := fun _ H Q => Q v H
theorem pe_var {i : Nat} {x : Str} {pos : Pos} (hN : X.N[i]? = some x) (hv : Vis X.env.scope x) (hd : (x == ("__debug__" : Str)) = false := by decide) (hcd : (x == ("__classdict__" : Str)) = false := by decide) : PE X (.Name x pos) (tVar i) := by
  intro pins s σ H Q I h
  obtain ⟨v, e, h⟩ := h
  obtain ⟨m, hn, hl⟩ := I.loc
  obtain ⟨u, r, l⟩ := hl i x v hN e hv
  have fin : EP X pins σ Q u s := ⟨v, H, I, r, h⟩
  rcases l with ⟨hk, hm⟩ | ⟨hk, c, hc, hcell⟩
  · exact wpAny_Name (wpAny_loadName_local I.ok.kind hk hn hm fin) hd
  · rcases hk with hk | hk
    · exact wpAny_Name (wpAny_loadName_cell I.ok.kind hk hc hcell fin) hd
    · exact wpAny_Name (wpAny_loadName_free I.ok.kind hk hc hcell fin hcd) hd
theorem pe_int {i j pos} : PE X (.Constant (.int i) j pos) (tC (.int i)) := fun _ _ _ H _ I h => wpAny_Constant_int ⟨.int i, H, I.tok _, ⟨_, rfl⟩, h⟩
theorem pe_bl {b j pos} : PE X (.Constant (.bool b) j pos) (tC (.bl b)) := fun _ _ _ H _ I h => Constant_bool ⟨.bl b, H, I, rfl, h⟩
theorem pe_str {x j pos} : PE X (.Constant (.str x) j pos) (tC (.str x)) := fun _ _ _ H _ I h => Calls.Constant_str ⟨.str x, H, I.tok _, ⟨_, rfl⟩, h⟩

/-- a global name of the def -/
def Gl (X : Cx) (x : Str) : Prop := X.env.kindOf x = some .globalImplicit
theorem ld_glob {E : Value → Shared → Prop} {pins : List (Addr × Obj)} {s : Shared} {σ : St} {H : Hp} {x : Str} {u : Value} {pos : Pos} {Q : Value → Shared → Prop} (I : Inv X pins σ H s) (hg : Gl X x) (hm : X.mg x = some u) (h : Q u s)
    (hd : (x == ("__debug__" : Str)) = false := by decide) : wpAny (model X.prog X.w) X.A (eval (.Name x pos) X.env) Q E s :=
  Calls.Name_function_global I.ok.kind hg (Calls.loadGlobal_global (by rw [I.ok.glob]; exact I.mod.glob.keeps I.bk) hm h) hd
theorem ld_blt {E : Value → Shared → Prop} {pins : List (Addr × Obj)} {s : Shared} {σ : St} {H : Hp} {x : Str} {u : Value} {pos : Pos} {Q : Value → Shared → Prop} (I : Inv X pins σ H s) (hg : Gl X x) (hm : X.mg x = none) (hv : bootBuiltins x = some u) (h : Q u s)
    (hn : x ≠ "__name__" := by decide) (hd : (x == ("__debug__" : Str)) = false := by decide) : wpAny (model X.prog X.w) X.A (eval (.Name x pos) X.env) Q E s := by
  obtain ⟨mb, h1, h2⟩ := I.mod.blt
  exact Calls.Name_function_global I.ok.kind hg (Calls.loadGlobal_builtin (by rw [I.ok.glob]; exact I.mod.glob.keeps I.bk) hm (by rw [I.ok.blt]; exact h1.keeps I.bk) ((h2 x hn).trans hv) h) hd
/-- a module's constant, a class, a function, as a value -/
theorem pe_glob {x : Str} {v : V} {u : Value} {pos : Pos} (hg : Gl X x) (hm : X.mg x = some u) (r : RelV v u) (hd : (x == ("__debug__" : Str)) = false := by decide) : PE X (.Name x pos) (tC v) :=
  fun _ _ _ H _ I h => ld_glob I hg hm ⟨v, H, I, r, h⟩ hd
theorem pe_bltn {x : Str} {v : V} {u : Value} {pos : Pos} (hg : Gl X x) (hm : X.mg x = none) (hv : bootBuiltins x = some u) (r : RelV v u) (hn : x ≠ "__name__" := by decide) (hd : (x == ("__debug__" : Str)) = false := by decide) : PE X (.Name x pos) (tC v) :=
  fun _ _ _ H _ I h => ld_blt I hg hm hv ⟨v, H, I, r, h⟩ hn hd

/-! ### arithmetic -/
/-- two ints -/
def t2I (ta tb : TE) (k : Int → Int → Hp → Prop) : St → Hp → Prop := fun σ H => ta σ H fun x H1 => tb σ H1 fun y H2 => ∃ i j, x = .int i ∧ y = .int j ∧ k i j H2
def tAdd (ta tb : TE) : TE := fun σ H Q => t2I ta tb (fun i j H2 => Q (.int (i + j)) H2) σ H
def tSub (ta tb : TE) : TE := fun σ H Q => t2I ta tb (fun i j H2 => Q (.int (i - j)) H2) σ H
/-- the left factor below 2^64 -/
def tMul (ta tb : TE) : TE := fun σ H Q => t2I ta tb (fun i j H2 => (-(2 ^ 64) < i ∧ i < 2 ^ 64) ∧ Q (.int (i * j)) H2) σ H
variable {a b : Expr} {ta tb : TE} {pos : Pos}
/-! ### comparisons -/
def PC (X : Cx) (op : CmpOp) (a b : Expr) (t : TE) : Prop :=
  ∀ (pins : List (Addr × Obj)) (s : Shared) (σ : St) (H : Hp) (Q : VK), Inv X pins σ H s → t σ H Q →
    wpAny (model X.prog X.w) X.A (eval a X.env) (fun v s₁ => wpAny (model X.prog X.w) X.A (eval b X.env) (fun u s₂ => wpAny (model X.prog X.w) X.A (compareOp op v u) (EP X pins σ Q) X.xe s₂) X.xe s₁) X.xe s
def tCmp (p : Int → Int → Bool) (ta tb : TE) : TE := fun σ H Q => t2I ta tb (fun i j H2 => Q (.bl (p i j)) H2) σ H
abbrev tLt : TE → TE → TE := tCmp fun i j => decide (i < j)
abbrev tLe : TE → TE → TE := tCmp fun i j => decide (i ≤ j)
abbrev tGt : TE → TE → TE := tCmp fun i j => decide (j < i)
abbrev tGe : TE → TE → TE := tCmp fun i j => decide (j ≤ i)
abbrev tEqI : TE → TE → TE := tCmp fun i j => decide (i = j)
abbrev tNeI : TE → TE → TE := tCmp fun i j => !decide (i = j)
/-- is None -/
def tIsN (ta : TE) : TE := fun σ H Q => ta σ H fun x H1 => Q (.bl (decide (x = .non))) H1
def tNotN (ta : TE) : TE := fun σ H Q => ta σ H fun x H1 => Q (.bl (!decide (x = .non))) H1
/-- a comparison as a value, as a test -/
def tB (t : TE) : TT := fun σ H Q => t σ H fun x H1 => ∃ c, x = .bl c ∧ Q c H1
/-! ### and, or, not -/
variable {tA tB' : TT} {rest : List Expr}
def tAnd (t u : TT) : TT := fun σ H Q => t σ H fun c H1 => if c = true then u σ H1 Q else Q false H1
def tOr (t u : TT) : TT := fun σ H Q => t σ H fun c H1 => if c = true then Q true H1 else u σ H1 Q
def tNot (t : TT) : TT := fun σ H Q => t σ H fun c H1 => Q (!c) H1
theorem pw_and1 (ha : PT X a tA) : PW X (.BoolOp .And [a] pos) tA := by
  intro wh pins s σ H Q I h
  refine isTrue_and (thn (ha pins s σ H Q I h) fun c s1 e => ?_)
  cases c with
  | true => exact isTrue_and_nil e
  | false => exact e
theorem pw_or1 (ha : PT X a tA) : PW X (.BoolOp .Or [a] pos) tA := by
  intro wh pins s σ H Q I h
  refine isTrue_or (thn (ha pins s σ H Q I h) fun c s1 e => ?_)
  cases c with
  | false => exact isTrue_or_nil e
  | true => exact e
theorem pw_and (ha : PT X a tA) (hb : PW X (.BoolOp .And (b :: rest) pos) tB') : PW X (.BoolOp .And (a :: b :: rest) pos) (tAnd tA tB') := by
  intro wh pins s σ H Q I h
  refine isTrue_and (thn (ha pins s σ H _ I h) fun c s1 ⟨H1, I1, q1⟩ => ?_)
  cases c with
  | true => exact hb wh pins s1 σ H1 Q I1 q1
  | false => exact ⟨H1, I1, q1⟩
theorem pw_or (ha : PT X a tA) (hb : PW X (.BoolOp .Or (b :: rest) pos) tB') : PW X (.BoolOp .Or (a :: b :: rest) pos) (tOr tA tB') := by
  intro wh pins s σ H Q I h
  refine isTrue_or (thn (ha pins s σ H _ I h) fun c s1 ⟨H1, I1, q1⟩ => ?_)
  cases c with
  | true => exact ⟨H1, I1, q1⟩
  | false => exact hb wh pins s1 σ H1 Q I1 q1
theorem pt_not (ha : PT X a tA) : PT X (.UnaryOp .Not a pos) (tNot tA) := by
  intro pins s σ H Q I h
  exact isTrue_not (ha pins s σ H (fun c H1 => Q (!c) H1) I h)
/-- .. as values (bools) -/
def tAndV (ta tb : TE) : TE := fun σ H Q => ta σ H fun x H1 => ∃ c, x = .bl c ∧ if c = true then tb σ H1 Q else Q (.bl false) H1
def tOrV (ta tb : TE) : TE := fun σ H Q => ta σ H fun x H1 => ∃ c, x = .bl c ∧ if c = true then Q (.bl true) H1 else tb σ H1 Q
def tNotV (ta : TE) : TE := fun σ H Q => ta σ H fun x H1 => ∃ c, x = .bl c ∧ Q (.bl (!c)) H1
theorem pe_one {op} {t : TE} (h : PE X a t) : PE X (.BoolOp op [a] pos) t := fun pins s σ H Q I hw => BoolOp_one (h pins s σ H Q I hw)
theorem pe_and (ha : PE X a ta) (hb : PE X (.BoolOp .And (b :: rest) pos) tb) : PE X (.BoolOp .And (a :: b :: rest) pos) (tAndV ta tb) := by
  intro pins s σ H Q I h
  refine BoolOp_and (thn (ha pins s σ H _ I h) fun v s1 ⟨x, H1, I1, r1, q1⟩ => ?_)
  obtain ⟨c, rfl, q1⟩ := q1
  cases r1
  refine wpAny_truthy_bool ?_
  cases c with
  | true => exact hb pins s1 σ H1 Q I1 q1
  | false => exact ⟨.bl false, H1, I1, rfl, q1⟩
/-- a if t else b -/
def tIf (t : TT) (ta tb : TE) : TE := fun σ H Q => t σ H fun c H1 => if c = true then ta σ H1 Q else tb σ H1 Q
end
end L2

namespace L2
open PySem PySem.Spec PyProof.Rows

/-! ### a list, a tuple that is read: tracked, frozen, or an object of the module -/
def SqL (K : PySem.W.Frag) (H : Hp) (a : Addr) (xs : List V) : Prop :=
  Rd H a (.lst xs) ∨
    ∃ (o : Obj) (its : Array Value) (n : Nat), K.lookup a = some o ∧ o.cls = .type "list" ∧ o.dict = none ∧ o.data = .seq its n ∧ its.size ≤ sizeLine ∧ Vals xs its.toList
def SqT (K : PySem.W.Frag) (H : Hp) (a : Addr) (xs : List V) : Prop :=
  Rd H a (.tup xs) ∨
    ∃ (o : Obj) (its : Array Value) (n : Nat), K.lookup a = some o ∧ o.cls = .type "tuple" ∧ o.data = .seq its n ∧ its.size ≤ sizeLine ∧ Vals xs its.toList
def absV : Value → Option V
  | .none => some .non
  | .bool b => some (.bl b)
  | .int i _ => some (.int i)
  | .str x _ => some (.str x)
  | .bytes b _ => some (.byt b)
  | .float b _ => some (.flt b)
  | .ref a => some (.ref a)
  | .type n => some (.ty n)
  | _ => none
theorem RelV.abs {x : V} {u : Value} (r : RelV x u) : absV u = some x := by
  cases x with
  | non => cases r; rfl
  | bl _ => cases r; rfl
  | int _ => obtain ⟨t, rfl⟩ := r; rfl
  | str _ => obtain ⟨t, rfl⟩ := r; rfl
  | byt _ => obtain ⟨t, rfl⟩ := r; rfl
  | flt _ => obtain ⟨t, rfl⟩ := r; rfl
  | ref _ => cases r; rfl
  | ty _ => cases r; rfl
theorem RelV.inj {x y : V} {u : Value} (r : RelV x u) (q : RelV y u) : x = y := Option.some.inj (r.abs.symm.trans q.abs)
theorem Vals.inj : ∀ {xs ys : List V} {us : List Value}, Vals xs us → Vals ys us → xs = ys
  | _, _, _, .nil, .nil => rfl
  | _, _, _, .cons r t, .cons r' t' => by rw [r.inj r', Vals.inj t t']
section
variable {X : Cx} {pins : List (Addr × Obj)} {σ : St} {H : Hp} {s : Shared} {a : Addr} {xs ys : List V}
theorem SqL.of {K : PySem.W.Frag} (h : H a = some (.lst xs)) : SqL K H a xs := .inl (.inl h)
theorem SqT.of {K : PySem.W.Frag} (h : H a = some (.tup xs)) : SqT K H a xs := .inl (.inl h)
theorem Inv.list (I : Inv X pins σ H s) (h : SqL X.K H a xs) : ∃ its : List Value, Vals xs its ∧ PlainL s.heap a its.toArray ∧ xs.length ≤ sizeLine := by
  rcases h with h | ⟨o, its, n, hk, hc, hd, hs, hz, r⟩
  · obtain ⟨z, its, n, r, e⟩ := h.ok I.hok
    exact ⟨its, r, ⟨_, n, e, rfl, rfl, rfl⟩, z⟩
  · refine ⟨its.toList, r, ⟨o, n, I.kIn a o hk, hc, hd, by simpa using hs⟩, ?_⟩
    have e := r.length
    simp only [Array.length_toList] at e
    omega
theorem Inv.tuple (I : Inv X pins σ H s) (h : SqT X.K H a xs) : ∃ its : List Value, Vals xs its ∧ IsTup s.heap a its.toArray ∧ xs.length ≤ sizeLine := by
  rcases h with h | ⟨o, its, n, hk, hc, hs, hz, r⟩
  · obtain ⟨z, its, r, p⟩ := h.ok I.hok
    exact ⟨its, r, p, z⟩
  · refine ⟨its.toList, r, ⟨o, I.kIn a o hk, hc, n, by simpa using hs⟩, ?_⟩
    have e := r.length
    simp only [Array.length_toList] at e
    omega
theorem Inv.list_inj (I : Inv X pins σ H s) (h : SqL X.K H a xs) (h' : SqL X.K H a ys) : xs = ys := by
  obtain ⟨its, r, ⟨o, n, e, _, _, d⟩, _⟩ := I.list h
  obtain ⟨its', r', ⟨o', n', e', _, _, d'⟩, _⟩ := I.list h'
  rw [e] at e'; cases e'
  rw [d] at d'
  injection d' with d1 _
  have : its = its' := by simpa using congrArg Array.toList d1
  subst this
  exact r.inj r'
theorem Inv.tuple_inj (I : Inv X pins σ H s) (h : SqT X.K H a xs) (h' : SqT X.K H a ys) : xs = ys := by
  obtain ⟨its, r, ⟨o, e, _, n, d⟩, _⟩ := I.tuple h
  obtain ⟨its', r', ⟨o', e', _, n', d'⟩, _⟩ := I.tuple h'
  rw [e] at e'; cases e'
  rw [d] at d'
  injection d' with d1 _
  have : its = its' := by simpa using congrArg Array.toList d1
  subst this
  exact r.inj r'
end

/-! ### another wish about exceptions -/
abbrev Cx.wish (X : Cx) (E : Value → Shared → Prop) : Cx := { X with xe := E }
/-- no exception leaves -/
abbrev Cx.nox (X : Cx) : Cx := X.wish fun _ _ => False
theorem Cx.Ok.wish {X : Cx} (ok : X.Ok) (E : Value → Shared → Prop) : (X.wish E).Ok :=
  ⟨ok.mod, ok.kind, ok.glob, ok.blt, ok.above, ok.inj, ok.has, ok.cab, ok.hd, ok.frames, ok.stk, ok.exf, ok.bs, ok.bsz, ok.noex, ok.exfs, ok.funs, ok.frf⟩
theorem Cx.Ok.unwish {X : Cx} {E : Value → Shared → Prop} (ok : (X.wish E).Ok) : X.Ok :=
  ⟨ok.mod, ok.kind, ok.glob, ok.blt, ok.above, ok.inj, ok.has, ok.cab, ok.hd, ok.frames, ok.stk, ok.exf, ok.bs, ok.bsz, ok.noex, ok.exfs, ok.funs, ok.frf⟩
section
variable {X : Cx} {pins : List (Addr × Obj)} {σ : St} {H : Hp} {s : Shared} {E : Value → Shared → Prop}
theorem Inv.wish (I : Inv X pins σ H s) (E : Value → Shared → Prop) : Inv (X.wish E) pins σ H s := ⟨I.ok.wish E, I.os, I.bare, I.base, I.loc, I.cell, I.free, I.freeC, I.pin, I.hok, I.len⟩
theorem Inv.unwish (I : Inv (X.wish E) pins σ H s) : Inv X pins σ H s := ⟨I.ok.unwish, I.os, I.bare, I.base, I.loc, I.cell, I.free, I.freeC, I.pin, I.hok, I.len⟩
theorem SP.unwish {D : Ends} {f : Flow} {s' : Shared} (h : SP (X.wish E) pins D f s') : SP X pins D f s' := by
  cases f with
  | next => obtain ⟨σ', H', I, q⟩ := h; exact ⟨σ', H', I.unwish, q⟩
  | brk => obtain ⟨σ', H', I, q⟩ := h; exact ⟨σ', H', I.unwish, q⟩
  | cont => obtain ⟨σ', H', I, q⟩ := h; exact ⟨σ', H', I.unwish, q⟩
  | ret u => obtain ⟨v, σ', H', I, r, q⟩ := h; exact ⟨v, σ', H', I.unwish, r, q⟩
theorem PE.nox {e : Expr} {t : TE} (h : PE X.nox e t) : PE X e t := fun pins s σ H Q I hw =>
  wpAny_mono (h pins s σ H Q (I.wish _) hw) (fun _ _ ⟨v, H', I', r, q⟩ => ⟨v, H', I'.unwish, r, q⟩) fun _ _ z => False.elim z
theorem PT.nox {e : Expr} {t : TT} (h : PT X.nox e t) : PT X e t := fun pins s σ H Q I hw =>
  wpAny_mono (h pins s σ H Q (I.wish _) hw) (fun _ _ ⟨H', I', q⟩ => ⟨H', I'.unwish, q⟩) fun _ _ z => False.elim z
theorem PSs.nox {st : List Stmt} {t : TS} (h : PSs X.nox st t) : PSs X st t := fun pins s σ H D I hw =>
  wpAny_mono (h pins s σ H D (I.wish _) hw) (fun _ _ q => q.unwish) fun _ _ z => False.elim z
end

/-! ### blocks and small statements -/
section
variable {X : Cx} {st : Stmt} {rest : List Stmt} {t u : TS} {e : Expr} {te : TE} {pos : Pos}
def tNext : TS := fun D σ H => D.nx σ H
def tSeq (t u : TS) : TS := fun D σ H => t { D with nx := u D } σ H
theorem pss_nil : PSs X [] tNext := fun _ _ σ H _ I h => wpAny_execs_nil ⟨σ, H, I, h⟩
theorem pss_cons (h1 : PS X st t) (h2 : PSs X rest u) : PSs X (st :: rest) (tSeq t u) := by
  intro pins s σ H D I h
  refine wpAny_execs_cons (thn (h1 pins s σ H { D with nx := u D } I h) fun f s1 q => ?_)
  cases f with
  | next =>
    obtain ⟨σ', H', I', q⟩ := q
    exact h2 pins s1 σ' H' D I' q
  | ret v => exact q
  | brk => exact q
  | cont => exact q
theorem pss_one (h1 : PS X st t) : PSs X [st] t := by
  intro pins s σ H D I h
  refine wpAny_execs_cons (thn (h1 pins s σ H D I h) fun f s1 q => ?_)
  cases f with
  | next => exact wpAny_execs_nil q
  | ret v => exact q
  | brk => exact q
  | cont => exact q
def tBreak : TS := fun D σ H => D.bk σ H
def tCont : TS := fun D σ H => D.ct σ H
/-- in a def's body nothing is shown -/
theorem Inv.quiet {pins : List (Addr × Obj)} {σ : St} {H : Hp} {s : Shared} (I : Inv X pins σ H s) : interactive X.env = false := by simp [interactive, I.ok.kind]
/-- an expression whose value is dropped -/
def tDrop (te : TE) : TS := fun D σ H => te σ H fun _ H1 => D.nx σ H1
theorem ps_expr (he : PE X e te) (hs : swapsWith e none pos.line X.env = pure false := by rfl) : PS X (.Expr e pos) (tDrop te) := by
  intro pins s σ H D I h
  exact wpAny_Expr_any (thn (he pins s σ H _ I h) fun v s1 ⟨x, H1, I1, r1, q1⟩ => ⟨σ, H1, I1, q1⟩) I.quiet hs
def tRet (te : TE) : TS := fun D σ H => te σ H D.rt
theorem ps_ret (he : PE X e te) : PS X (.Return (some e) pos) (tRet te) := by
  intro pins s σ H D I h
  exact wpAny_Return_some (thn (he pins s σ H _ I h) fun v s1 ⟨x, H1, I1, r1, q1⟩ => ⟨x, σ, H1, I1, r1, q1⟩)
def tRetN : TS := fun D _ H => D.rt .non H
def tIfS (c : TT) (t u : TS) : TS := fun D σ H => c σ H fun b H1 => if b = true then t D σ H1 else u D σ H1
theorem ps_if {c : Expr} {a b : List Stmt} {tc : TT} (hc : PT X c tc) (ha : PSs X a t) (hb : PSs X b u) : PS X (.If c a b pos) (tIfS tc t u) := by
  intro pins s σ H D I h
  refine wpAny_If (thn (hc pins s σ H _ I h) fun d s1 ⟨H1, I1, q1⟩ => ?_)
  cases d with
  | true => exact ha pins s1 σ H1 D I1 q1
  | false => exact hb pins s1 σ H1 D I1 q1
/-- code that the proof never comes to -/
def tNever : TS := fun _ _ _ => False
theorem ps_never : PS X st tNever := fun _ _ _ _ _ _ h => h.elim
end

/-! ### targets -/
abbrev TG := V → St → Hp → (St → Hp → Prop) → Prop
abbrev TGs := List V → St → Hp → (St → Hp → Prop) → Prop
def PG (X : Cx) (target : Expr) (t : TG) : Prop :=
  ∀ (pins : List (Addr × Obj)) (s : Shared) (σ : St) (H : Hp) (v : V) (u : Value) (Q : St → Hp → Prop), Inv X pins σ H s → RelV v u → t v σ H Q →
    wpAny (model X.prog X.w) X.A (assign target X.env u) (fun _ s' => ∃ σ' H', Inv X pins σ' H' s' ∧ Q σ' H') X.xe s
/-- several targets, one after another -/
def PGs (X : Cx) (ts : List Expr) (t : TGs) : Prop :=
  ∀ (pins : List (Addr × Obj)) (s : Shared) (σ : St) (H : Hp) (vs : List V) (us : List Value) (Q : St → Hp → Prop), Inv X pins σ H s → Vals vs us → t vs σ H Q →
    wpAny (model X.prog X.w) X.A (assignInOrder ((assignEach ts X.env).map (·.2)) us) (fun _ s' => ∃ σ' H', Inv X pins σ' H' s' ∧ Q σ' H') X.xe s
/-- o[i] = v, by values -/
abbrev TSet := V → V → V → Hp → (Hp → Prop) → Prop
def PSet (X : Cx) (t : TSet) : Prop :=
  ∀ (pins : List (Addr × Obj)) (s : Shared) (σ : St) (H : Hp) (o i v : V) (ov iv u : Value) (Q : Hp → Prop), Inv X pins σ H s → RelV o ov → RelV i iv → RelV v u → t o i v H Q →
    wpAny (model X.prog X.w) X.A (setItem ov iv u) (fun _ s' => ∃ H', Inv X pins σ H' s' ∧ Q H') X.xe s
/-- a op= b, by values -/
abbrev TIp := V → V → Hp → VK → Prop
def PIp (X : Cx) (op : Operator) (t : TIp) : Prop :=
  ∀ (pins : List (Addr × Obj)) (s : Shared) (σ : St) (H : Hp) (x y : V) (v u : Value) (Q : VK), Inv X pins σ H s → RelV x v → RelV y u → t x y H Q →
    wpAny (model X.prog X.w) X.A (inplaceOp op v u) (EP X pins σ Q) X.xe s
section
variable {X : Cx} {pos : Pos}
def gName (i : Nat) : TG := fun v σ H Q => Q (σ.set i (some v)) H
theorem pg_name {i : Nat} {x : Str} (hN : X.N.Nodup) (hi : X.N[i]? = some x) (hx : Loc X.env.scope x) (hf : X.fn x = true ∨ X.env.scope.names.lookup x = some .local := by first | exact .inl rfl | exact .inr rfl | assumption) : PG X (.Name x pos) (gName i) := by
  intro pins s σ H v u Q I r h
  exact wpAny_assign_Name (store_ok I hN hi hx r (fun s' I' => ⟨_, H, I', h⟩) hf)
def gNil : TGs := fun vs σ H Q => vs = [] ∧ Q σ H
def gCons (t : TG) (u : TGs) : TGs := fun vs σ H Q => ∃ v r, vs = v :: r ∧ t v σ H fun σ' H' => u r σ' H' Q
/-- (a, b, ..) = a tuple of that length -/
def gTup (K : PySem.W.Frag) (n : Nat) (t : TGs) : TG := fun v σ H Q => ∃ a xs, v = .ref a ∧ SqT K H a xs ∧ xs.length = n ∧ t xs σ H Q
/-- o[i] = .. -/
def gSub (to ti : TE) (t : TSet) : TG := fun v σ H Q => to σ H fun o H1 => ti σ H1 fun i H2 => t o i v H2 fun H3 => Q σ H3
/-- target = value -/
def tAsg (te : TE) (g : TG) : TS := fun D σ H => te σ H fun x H1 => g x σ H1 D.nx
/-- name = value -/
theorem ps_set {i : Nat} {x : Str} {e : Expr} {te : TE} {pos' : Pos} (hN : X.N.Nodup) (hi : X.N[i]? = some x) (hx : Loc X.env.scope x) (he : PE X e te) (hs : swapsWith e (some (.Name x pos')) pos.line X.env = pure false := by rfl) (hf : X.fn x = true ∨ X.env.scope.names.lookup x = some .local := by first | exact .inl rfl | exact .inr rfl | assumption) :
    PS X (.Assign [.Name x pos'] e pos) (tAsg te (gName i)) := by
  intro pins s σ H D I h
  refine wpAny_Assign_Name (thn (he pins s σ H _ I h) fun v s1 ⟨y, H1, I1, r1, q1⟩ => ?_) hs
  exact store_ok I1 hN hi hx r1 (fun s2 I2 => ⟨_, H1, I2, q1⟩) hf
/-- a, b = x, y with plain local names: stored from the right; the pair itself is not tracked (the opening rows as in PyProof/Rows/TupAssign.lean:23) -/
def tPar (i j : Nat) (ta : TA) : TS := fun D σ H => ta σ H fun vs H1 => ∃ v w, vs = [v, w] ∧ D.nx ((σ.set i (some v)).set j (some w)) H1
/-- name op= e -/
def tAug (i : Nat) (te : TE) (ti : TIp) : TS := fun D σ H => ∃ x, σ[i]? = some (some x) ∧ te σ H fun y H1 => ti x y H1 fun z H2 => D.nx (σ.set i (some z)) H2
/-- o[i] op= e -/
def tAugS (to ti te : TE) (tget : V → V → Hp → VK → Prop) (tip : TIp) (tset : TSet) : TS := fun D σ H => to σ H fun o H1 => ti σ H1 fun i H2 => tget o i H2 fun x H3 => te σ H3 fun y H4 => tip x y H4 fun z H5 => tset o i z H5 fun H6 => D.nx σ H6
/-- o[i], by values -/
def PGet (X : Cx) (t : V → V → Hp → VK → Prop) : Prop :=
  ∀ (pins : List (Addr × Obj)) (s : Shared) (σ : St) (H : Hp) (o i : V) (ov iv : Value) (Q : VK), Inv X pins σ H s → RelV o ov → RelV i iv → t o i H Q →
    wpAny (model X.prog X.w) X.A (getItem ov iv) (EP X pins σ Q) X.xe s
/-- ints -/
def ipI (f : Int → Int → Int) : TIp := fun x y H Q => ∃ i j, x = .int i ∧ y = .int j ∧ Q (.int (f i j)) H
end

/-! ### while -/
section
variable {X : Cx} {pos : Pos}
/-- the invariant W with its measure -/
def tWhile (c : TT) (tb : TS) : TS := fun D σ H => ∃ W : Nat → St → Hp → Prop, (∃ m, W m σ H) ∧ ∀ m σ H, W m σ H →
  c σ H fun b H1 => if b = true then ∃ N : St → Hp → Prop, (∀ σ' H', N σ' H' → ∃ m', m' < m ∧ W m' σ' H') ∧ tb { D with nx := N, ct := N, bk := D.nx } σ H1 else D.nx σ H1
end

/-! ### what a loop or a comprehension walks -/
/-- at turn i: it yields x (the heap may grow), or it stops -/
structure It where
  go : Nat → Hp → Prop
  yld : Nat → Hp → V → Hp → Prop
  stop : Nat → Hp → Prop
/-- the iterator's own objects may turn: they are not the frame's, not pinned, younger than the entry (or a comprehension's own) -/
def FpOk (X : Cx) (pins : List (Addr × Obj)) (H : Hp) (b : Addr) : Prop :=
  H b = none ∧ b ≠ X.env.locals ∧ b ∉ X.fs ∧ (b ∈ X.ex ∨ X.s₀.heap.objs.size ≤ b) ∧ (∀ x c, X.env.cells.lookup x = some c → c ≠ b) ∧ ∀ p ∈ X.pn ++ pins, p.1 ≠ b
theorem Inv.fpOk {X : Cx} {pins : List (Addr × Obj)} {σ : St} {H H' : Hp} {s : Shared} {b : Addr} (I : Inv X pins σ H s) (hb : s.heap.objs.size ≤ b) (hn : H' b = none) : FpOk X pins H' b := by
  refine ⟨hn, Nat.ne_of_gt (Nat.lt_of_lt_of_le I.lt hb), I.nofs hb, .inr (Nat.le_trans I.sz hb), fun x c e z => ?_, fun p hp z => ?_⟩
  · obtain ⟨v, q⟩ := I.cell x c e
    exact absurd (Nat.lt_of_lt_of_le q.lt (by rw [z]; exact hb)) (Nat.lt_irrefl _)
  · exact absurd (Nat.lt_of_lt_of_le (Heap.lt_size (I.pin p hp).1) (by rw [z]; exact hb)) (Nat.lt_irrefl _)
structure Turn (P : Program) (w : World) (K : PySem.W.Frag) (tg : Expr) (J : It) (fp : List Addr) (it : Addr) (tn : Nat → Heap → Prop) : Prop where
  mem : it ∈ fp
  obj : ∀ i h, tn i h → ∀ b ∈ fp, ∃ o, h.get? b = some o ∧ ∀ v, o.data ≠ .cell v
  keep : ∀ i h h', tn i h → (∀ b ∈ fp, ∀ o, h.get? b = some o → h'.get? b = some o) → tn i h'
  item : ∀ (X : Cx), X.prog = P → X.w = w → X.K = K → X.calm = true → ∀ (i : Nat) (pins : List (Addr × Obj)) (s : Shared) (σ : St) (H : Hp) (E : Value → Shared → Prop), Inv X pins σ H s → (∀ b ∈ fp, FpOk X pins H b) → tn i s.heap → J.go i H →
    wpAny (model P w) X.A (pyNext (.ref it)) (fun r s1 => ∃ u, r = some u ∧
      wpAny (model P w) X.A (letOwnedTupleGo tg (.ref it) u) (fun _ s2 => ∃ x H', Inv X pins σ H' s2 ∧ RelV x u ∧ J.yld i H x H' ∧ tn (i + 1) s2.heap ∧ ∀ b ∈ fp, H' b = none) E s1) E s
  done : ∀ (X : Cx), X.prog = P → X.w = w → X.K = K → X.calm = true → ∀ (i : Nat) (pins : List (Addr × Obj)) (s : Shared) (σ : St) (H : Hp) (E : Value → Shared → Prop), Inv X pins σ H s → (∀ b ∈ fp, FpOk X pins H b) → tn i s.heap → J.stop i H →
    wpAny (model P w) X.A (pyNext (.ref it)) (fun r s1 => r = none ∧ Inv X pins σ H s1) E s
  self : ∀ (A : Around) (i : Nat) (s : Shared) (Q : Value → Shared → Prop) (E : Value → Shared → Prop), tn i s.heap → Q (.ref it) s → wpAny (model P w) A (pyIter (.ref it)) Q E s
abbrev TI := St → Hp → (It → Hp → Prop) → Prop
/-- an iterator has come -/
def PIE (X : Cx) (pins : List (Addr × Obj)) (σ : St) (tg : Expr) (R : It → Hp → Prop) (itv : Value) (s2 : Shared) : Prop :=
  ∃ (it : Addr) (fp : List Addr) (tn : Nat → Heap → Prop) (J : It) (H' : Hp), itv = .ref it ∧ Inv X pins σ H' s2 ∧ Turn X.prog X.w X.K tg J fp it tn ∧ tn 0 s2.heap ∧ (∀ b ∈ fp, FpOk X pins H' b) ∧ R J H'
def PI (X : Cx) (tg iter : Expr) (wi : TI) : Prop :=
  ∀ (pins : List (Addr × Obj)) (s : Shared) (σ : St) (H : Hp) (R : It → Hp → Prop), Inv X pins σ H s → wi σ H R →
    wpAny (model X.prog X.w) X.A (eval iter X.env) (fun v s1 => wpAny (model X.prog X.w) X.A (pyIter v) (PIE X pins σ tg R) X.xe s1) X.xe s

/-- the step ahead of the store is nothing for an iterator that keeps no tuple -/
theorem go_of {M : Model} {A : Around} {E : Value → Shared → Prop} {s : Shared} {tg : Expr} {it : Addr} {u : Value} {o : Obj} {n : String} {vs : Array Value} {Q : Unit → Shared → Prop} (ho : s.heap.get? it = some o) (hc : o.cls = .type n) (hd : o.data = .fields vs)
    (hn : ["enumerate", "zip", "dict_itemiterator", "dict_reverseitemiterator", "odict_iterator", "itertools.zip_longest", "itertools.pairwise"].contains n = false) (hQ : Q () s) : wpAny M A (letOwnedTupleGo tg (.ref it) u) Q E s := by
  unfold letOwnedTupleGo
  cases tg <;> first
    | exact wpAny_pure hQ
    | (cases u <;> first
        | exact wpAny_pure hQ
        | (refine wpAny_bind (wpAny_load ho ?_)
           rw [hc, hd]
           show wpAny M A (if (["enumerate", "zip", "dict_itemiterator", "dict_reverseitemiterator", "odict_iterator", "itertools.zip_longest", "itertools.pairwise"].contains n && vs[0]? == some (rawInt _)) = true then _ else _) Q E s
           rw [if_neg (by intro h; rw [hn, Bool.false_and] at h; cases h)]
           exact wpAny_pure hQ))

/-- the list at a, as it stands at each turn (a loop may append to it) -/
def Itl (K : PySem.W.Frag) (a : Addr) : It :=
  ⟨fun i H => ∃ xs x, SqL K H a xs ∧ xs[i]? = some x, fun i H x H' => H' = H ∧ ∀ xs, SqL K H a xs → xs[i]? = some x, fun i H => ∃ xs, SqL K H a xs ∧ xs.length ≤ i⟩
def Itt (K : PySem.W.Frag) (a : Addr) : It :=
  ⟨fun i H => ∃ xs x, SqT K H a xs ∧ xs[i]? = some x, fun i H x H' => H' = H ∧ ∀ xs, SqT K H a xs → xs[i]? = some x, fun i H => ∃ xs, SqT K H a xs ∧ xs.length ≤ i⟩
/-- lo, lo + 1, .. (n of them) -/
def Itr (lo : Int) (n : Nat) : It := ⟨fun i _ => i < n, fun i H x H' => H' = H ∧ x = .int (lo + i), fun i _ => n ≤ i⟩
theorem turn_list {P : Program} {w : World} {K : PySem.W.Frag} {tg : Expr} (a it : Addr) : Turn P w K tg (Itl K a) [it] it (fun i h => h.IsListIter it a i) where
  mem := by simp
  obj := fun i h st b hb => by
    have e : b = it := by simpa using hb
    subst e
    obtain ⟨o, e, c, d⟩ := st
    exact ⟨o, e, fun v z => by rw [d] at z; cases z⟩
  keep := fun i h h' st k => st.at fun o e => k it (by simp) o e
  item := by
    intro X hP hw hK hc i pins s σ H E I hf st hg
    subst hP hw hK
    obtain ⟨xs, x, hq, hx⟩ := hg
    obtain ⟨its, rv, p, hz⟩ := I.list hq
    obtain ⟨u, hu, ru⟩ := rv.get hx
    obtain ⟨f0, f1, f2, f3, f4, f5⟩ := hf it (by simp)
    refine wpAny_pyNext_list_item st p.isList (x := u) (by simpa using hu) fun h' st' sb => ?_
    have I1 : Inv X pins σ H { s with heap := h' } := I.turned (t' := s.toks) (fun b o hb e => (sb.2 b hb).trans e) f0 f1 f3 f4 f5
    obtain ⟨o, e, c, d⟩ := id st'
    exact ⟨u, rfl, go_of (s := { s with heap := h' }) e c d (by decide) ⟨x, H, I1, ru, ⟨rfl, fun ys hy => by rw [I.list_inj hy hq]; exact hx⟩, st', fun b hb => (hf b hb).1⟩⟩
  done := by
    intro X hP hw hK hc i pins s σ H E I hf st hg
    subst hP hw hK
    obtain ⟨xs, hq, hx⟩ := hg
    obtain ⟨its, rv, p, hz⟩ := I.list hq
    obtain ⟨f0, f1, f2, f3, f4, f5⟩ := hf it (by simp)
    have hl := rv.length
    exact wpAny_pyNext_list_end (I.ok.hd hc) st p.isList (by simp; omega) fun h' eb => ⟨rfl, I.turned (t' := s.toks) (fun b o hb e => eb b o hb e) f0 f1 f3 f4 f5⟩
  self := fun _ _ _ _ _ st h => wpAny_pyIter_listiter st h
theorem turn_tuple {P : Program} {w : World} {K : PySem.W.Frag} {tg : Expr} (a it : Addr) : Turn P w K tg (Itt K a) [it] it (fun i h => h.IsTupleIter it a i) where
  mem := by simp
  obj := fun i h st b hb => by
    have e : b = it := by simpa using hb
    subst e
    obtain ⟨o, e, c, d⟩ := st
    exact ⟨o, e, fun v z => by rw [d] at z; cases z⟩
  keep := fun i h h' st k => st.at fun o e => k it (by simp) o e
  item := by
    intro X hP hw hK hc i pins s σ H E I hf st hg
    subst hP hw hK
    obtain ⟨xs, x, hq, hx⟩ := hg
    obtain ⟨its, rv, p, hz⟩ := I.tuple hq
    obtain ⟨u, hu, ru⟩ := rv.get hx
    obtain ⟨f0, f1, f2, f3, f4, f5⟩ := hf it (by simp)
    refine wpAny_pyNext_tuple_item st (show s.heap.IsTuple a its.toArray from p) (x := u) (by simpa using hu) fun h' st' sb => ?_
    have I1 : Inv X pins σ H { s with heap := h' } := I.turned (t' := s.toks) (fun b o hb e => (sb.2 b hb).trans e) f0 f1 f3 f4 f5
    obtain ⟨o, e, c, d⟩ := id st'
    exact ⟨u, rfl, go_of (s := { s with heap := h' }) e c d (by decide) ⟨x, H, I1, ru, ⟨rfl, fun ys hy => by rw [I.tuple_inj hy hq]; exact hx⟩, st', fun b hb => (hf b hb).1⟩⟩
  done := by
    intro X hP hw hK hc i pins s σ H E I hf st hg
    subst hP hw hK
    obtain ⟨xs, hq, hx⟩ := hg
    obtain ⟨its, rv, p, hz⟩ := I.tuple hq
    obtain ⟨f0, f1, f2, f3, f4, f5⟩ := hf it (by simp)
    have hl := rv.length
    exact wpAny_pyNext_tuple_end (I.ok.hd hc) st (show s.heap.IsTuple a its.toArray from p) (by simp; omega) fun h' eb => ⟨rfl, I.turned (t' := s.toks) (fun b o hb e => eb b o hb e) f0 f1 f3 f4 f5⟩
  self := fun _ _ _ _ _ st h => wpAny_pyIter_tupleiter st h
theorem turn_range {P : Program} {w : World} {K : PySem.W.Frag} {tg : Expr} (it : Addr) (lo : Int) (n : Nat) : Turn P w K tg (Itr lo n) [it] it (fun i h => IsRangeIter h it (lo + (i : Nat) * 1) ((n : Int) - (i : Nat)) 1) where
  mem := by simp
  obj := fun i h st b hb => by
    have e : b = it := by simpa using hb
    subst e
    exact ⟨_, st, fun v z => by
      have z' : Data.fields _ = Data.cell v := z
      cases z'⟩
  keep := fun i h h' st k => k it (by simp) _ st
  item := by
    intro X hP hw hK hc i pins s σ H E I hf st hg
    subst hP hw hK
    obtain ⟨f0, f1, f2, f3, f4, f5⟩ := hf it (by simp)
    have W := Walks.range (prog := X.prog) (w := X.w) (I.ok.hd hc) it lo 1 n
    refine W.item i s _ _ hg st fun v h' tk hv st' kk => ?_
    obtain ⟨t, rfl⟩ := hv
    have I1 : Inv X pins σ H { s with heap := h', toks := tk } := I.turned (fun b o hb e => kk b o (by simpa using hb) e) f0 f1 f3 f4 f5
    refine ⟨_, rfl, go_of (s := { s with heap := h', toks := tk }) (n := "range_iterator") st' rfl rfl (by decide) ⟨.int (lo + i), H, I1, ⟨t, ?_⟩, ⟨rfl, rfl⟩, st', fun b hb => (hf b hb).1⟩⟩
    rw [Int.mul_one]
  done := by
    intro X hP hw hK hc i pins s σ H E I hf st hg
    subst hP hw hK
    obtain ⟨f0, f1, f2, f3, f4, f5⟩ := hf it (by simp)
    exact wpAny_pyNext_range_end (I.ok.hd hc) st (by have : n ≤ i := hg; omega) fun h' eb => ⟨rfl, I.turned (t' := s.toks) (fun b o hb e => eb b o hb e) f0 f1 f3 f4 f5⟩
  self := fun _ _ _ _ _ st h => wpAny_pyIter_rangeiter st h
end L2

namespace L2
open PySem PySem.Spec PyProof.Rows
section
variable {X : Cx} {tg : Expr}
def iList (K : PySem.W.Frag) (tl : TE) : TI := fun σ H R => tl σ H fun x H1 => ∃ a, x = .ref a ∧ (∃ xs, SqL K H1 a xs) ∧ R (Itl K a) H1
def iTup (K : PySem.W.Frag) (tl : TE) : TI := fun σ H R => tl σ H fun x H1 => ∃ a, x = .ref a ∧ (∃ xs, SqT K H1 a xs) ∧ R (Itt K a) H1
theorem pi_list {l : Expr} {tl : TE} (hl : PE X l tl) : PI X tg l (iList X.K tl) := by
  intro pins s σ H R I h
  refine thn (hl pins s σ H _ I h) fun v s1 ⟨x, H1, I1, r1, q1⟩ => ?_
  obtain ⟨a, e, ⟨xs, hq⟩, q⟩ := q1
  subst e
  cases r1
  obtain ⟨its, rv, p, hz⟩ := I1.list hq
  refine wpAny_pyIter_list p.isList ?_
  refine ⟨s1.heap.objs.size, [s1.heap.objs.size], _, _, H1, rfl, I1.kept (t' := s1.toks) fun b o e => Heap.get?_push_of_some _ e, turn_list a _, ⟨_, Heap.get?_push_size _ rfl, rfl, rfl⟩, fun b hb => ?_, q⟩
  have e : b = s1.heap.objs.size := by simpa using hb
  subst e
  exact I1.fpOk (Nat.le_refl _) (I1.hok.fresh (Nat.le_refl _))
theorem pi_tup {l : Expr} {tl : TE} (hl : PE X l tl) : PI X tg l (iTup X.K tl) := by
  intro pins s σ H R I h
  refine thn (hl pins s σ H _ I h) fun v s1 ⟨x, H1, I1, r1, q1⟩ => ?_
  obtain ⟨a, e, ⟨xs, hq⟩, q⟩ := q1
  subst e
  cases r1
  obtain ⟨its, rv, p, hz⟩ := I1.tuple hq
  refine wpAny_pyIter_tuple (show s1.heap.IsTuple a its.toArray from p) ?_
  refine ⟨s1.heap.objs.size, [s1.heap.objs.size], _, _, H1, rfl, I1.kept (t' := s1.toks) fun b o e => Heap.get?_push_of_some _ e, turn_tuple a _, ⟨_, Heap.get?_push_size _ rfl, rfl, rfl⟩, fun b hb => ?_, q⟩
  have e : b = s1.heap.objs.size := by simpa using hb
  subst e
  exact I1.fpOk (Nat.le_refl _) (I1.hok.fresh (Nat.le_refl _))
/-- a range object just made, walked -/
theorem range_it {pins : List (Addr × Obj)} {σ : St} {H : Hp} {s : Shared} {R : It → Hp → Prop} {E : Value → Shared → Prop} {lo hi : Int} {t u v : Tok} {tk : Nat} (I : Inv X pins σ H s) (h1 : -(2 ^ 62) ≤ lo) (h2 : lo < 2 ^ 62) (h3 : -(2 ^ 62) ≤ hi) (h4 : hi < 2 ^ 62)
    (q : R (Itr lo (hi - lo).toNat) H) : wpAny (model X.prog X.w) X.A (pyIter (.ref s.heap.objs.size)) (PIE X pins σ tg R) E { s with heap := s.heap.push { cls := .type "range", data := .fields #[.int lo t, .int hi u, .int 1 v] }, toks := tk } := by
  refine wpAny_pyIter_range (IsRange.new ..) (small_one h1 h2 h3 h4) ?_
  have I1 : Inv X pins σ H { s with heap := s.heap.push { cls := .type "range", data := .fields #[.int lo t, .int hi u, .int 1 v] }, toks := tk } := I.kept fun b o e => Heap.get?_push_of_some _ e
  refine ⟨(s.heap.push { cls := .type "range", data := .fields #[.int lo t, .int hi u, .int 1 v] }).objs.size, [(s.heap.push { cls := .type "range", data := .fields #[.int lo t, .int hi u, .int 1 v] }).objs.size], _, _, H, rfl,
    I1.kept (t' := tk) fun b o e => Heap.get?_push_of_some _ e, turn_range _ lo (hi - lo).toNat, ?_, fun b hb => ?_, q⟩
  · have e1 : lo + ((0 : Nat) : Int) * 1 = lo := by simp
    have e2 : (((hi - lo).toNat : Nat) : Int) - ((0 : Nat) : Int) = Builtin.Range.rangeSize lo hi 1 := by rw [rangeSize_one]; split <;> omega
    show IsRangeIter _ _ (lo + ((0 : Nat) : Int) * 1) ((((hi - lo).toNat : Nat) : Int) - ((0 : Nat) : Int)) 1
    rw [e1, e2]
    exact Heap.get?_push_size _ rfl
  · have e : b = (s.heap.push { cls := .type "range", data := .fields #[.int lo t, .int hi u, .int 1 v] }).objs.size := by simpa using hb
    subst e
    exact I1.fpOk (Nat.le_refl _) (I1.hok.fresh (Nat.le_refl _))
def iRng1 (ta : TA) : TI := fun σ H R => ta σ H fun vs H1 => ∃ j : Int, vs = [.int j] ∧ -(2 ^ 62) ≤ j ∧ j < 2 ^ 62 ∧ R (Itr 0 j.toNat) H1
def iRng2 (ta : TA) : TI := fun σ H R => ta σ H fun vs H1 => ∃ i j : Int, vs = [.int i, .int j] ∧ (-(2 ^ 62) ≤ i ∧ i < 2 ^ 62 ∧ -(2 ^ 62) ≤ j ∧ j < 2 ^ 62) ∧ R (Itr i (j - i).toNat) H1
theorem pi_range1 {a : Expr} {ta : TA} {p pos : Pos} (hg : Gl X "range") (hm : X.mg "range" = none) (ha : PA X [a] ta) (hs : starEach [a] X.env = [(false, eval a X.env)] := by rfl) : PI X tg (.Call (.Name "range" p) [a] [] pos) (iRng1 ta) := by
  intro pins s σ H R I h
  refine Call_ (ld_blt I hg hm boot_range (PyProof.Rows.callWith_type1 (thn (ha pos pins s σ H _ I h) fun us s1 ⟨vs, H1, I1, r1, q1⟩ => ?_) hs rfl))
  obtain ⟨j, e, q1, q2, q⟩ := q1
  subst e
  cases r1 with
  | cons r rr =>
    cases rr
    obtain ⟨t, rfl⟩ := r
    exact call_range_1 (range_it I1 (by omega) (by omega) q1 q2 (by simpa using q))
/-! ### for -/
/-- W: the invariant by the turn and a measure; N: what the body is to reach -/
def tFor (wi : TI) (g : TG) (tb : TS) : TS := fun D σ H => wi σ H fun J H1 => ∃ W : Nat → Nat → St → Hp → Prop, (∃ m, W 0 m σ H1) ∧ ∀ i m σ H, W i m σ H →
  (J.stop i H ∧ D.nx σ H) ∨ (J.go i H ∧ ∃ N : St → Hp → Prop, (∀ σ' H', N σ' H' → ∃ m', m' < m ∧ W (i + 1) m' σ' H') ∧ ∀ x H', J.yld i H x H' → g x σ H' fun σ2 H2 => tb { D with nx := N, ct := N, bk := D.nx } σ2 H2)
/-- the records at fp as they stand -/
def pinsAt (fp : List Addr) (h : Heap) : List (Addr × Obj) := fp.filterMap fun b => (h.get? b).map fun o => (b, o)
theorem mem_pinsAt {fp : List Addr} {h : Heap} {b : Addr} {o : Obj} (hb : b ∈ fp) (e : h.get? b = some o) : (b, o) ∈ pinsAt fp h := List.mem_filterMap.mpr ⟨b, hb, by rw [e]; rfl⟩
theorem of_pinsAt {fp : List Addr} {h : Heap} {p : Addr × Obj} (hp : p ∈ pinsAt fp h) : p.1 ∈ fp ∧ h.get? p.1 = some p.2 := by
  obtain ⟨b, hb, e⟩ := List.mem_filterMap.mp hp
  cases q : h.get? b with
  | none => rw [q] at e; cases e
  | some o =>
    rw [q] at e
    have e' : (b, o) = p := Option.some.inj e
    subst e'
    exact ⟨hb, q⟩
theorem Inv.pinned {pins : List (Addr × Obj)} {σ : St} {H : Hp} {s : Shared} {fp : List Addr} (I : Inv X pins σ H s) (hf : ∀ b ∈ fp, FpOk X pins H b) (ho : ∀ b ∈ fp, ∃ o, s.heap.get? b = some o ∧ ∀ v, o.data ≠ .cell v) : Inv X (pins ++ pinsAt fp s.heap) σ H s :=
  I.pins_of fun p hp => (List.mem_append.mp hp).elim (fun z => I.pin p (List.mem_append_right _ z)) fun z => by
    obtain ⟨hb, e⟩ := of_pinsAt z
    obtain ⟨f0, f1, f2, _⟩ := hf p.1 hb
    obtain ⟨o, e', d⟩ := ho p.1 hb
    rw [e] at e'; cases e'
    exact ⟨e, f0, f1, f2, d⟩
theorem Inv.unpinned {pins pl : List (Addr × Obj)} {σ : St} {H : Hp} {s : Shared} (I : Inv X (pins ++ pl) σ H s) : Inv X pins σ H s := I.pins_of fun p hp => I.pin p (List.mem_append_right _ (List.mem_append_left _ hp))
theorem ps_for {iter : Expr} {body : List Stmt} {wi : TI} {g : TG} {tb : TS} {pos : Pos} (hp : PassesOwn (model X.prog X.w) X.A X.env X.xe) (hc : X.calm = true) (hi : PI X tg iter wi) (hg : PG X tg g) (hb : PSs X body tb)
    (hs : ∀ x, foldedSetIterable iter X.env x = pure x := by intro _; rfl) : PS X (.For tg iter body [] pos) (tFor wi g tb) := by
  intro pins s σ H D I h
  refine wpAny_For (thn (hi pins s σ H _ I h) fun v s1 h1 => thn h1 fun itv s2 h2 => ?_) hs
  obtain ⟨it, fp, tn, J, H2, e, I2, T, st2, f2, W, ⟨m0, w0⟩, turn⟩ := h2
  subst e
  -- what stays true of the iterator's objects through the loop
  have stat : ∀ {H' : Hp}, (∀ b ∈ fp, H' b = none) → ∀ b ∈ fp, FpOk X pins H' b := fun hn b hb => ⟨hn b hb, (f2 b hb).2⟩
  refine codeAny_forLoop_any (fun n s' => ∃ i σ' H', Inv X pins σ' H' s' ∧ tn i s'.heap ∧ (∀ b ∈ fp, H' b = none) ∧ W i n σ' H') ?_ m0 ⟨0, σ, H2, I2, st2, fun b hb => (f2 b hb).1, w0⟩
  rintro n s3 ⟨i, σ3, H3, I3, st3, fr3, w3⟩
  rcases turn i n σ3 H3 w3 with ⟨stop, qn⟩ | ⟨go, N, hN, step⟩
  · refine wpAny_passesOwn hp (thn (T.done X rfl rfl rfl hc i pins s3 σ3 H3 X.xe I3 (stat fr3) st3 stop) fun r s4 ⟨hr, I4⟩ => ?_)
    subst hr
    exact wpAny_execs_nil ⟨σ3, H3, I4, qn⟩
  · refine wpAny_passesOwn hp (thn (T.item X rfl rfl rfl hc i pins s3 σ3 H3 X.xe I3 (stat fr3) st3 go) fun r s4 ⟨u, hr, h4⟩ => ?_)
    subst hr
    refine wpAny_passesOwn hp (thn h4 fun _ s5 ⟨x, H5, I5, r5, y5, st5, fr5⟩ => ?_)
    have I5' := I5.pinned (stat fr5) (T.obj _ _ st5)
    refine wpAny_passesOwn hp (thn (hg _ s5 σ3 H5 x u _ I5' r5 (step x H5 y5)) fun _ s6 ⟨σ6, H6, I6, q6⟩ => ?_)
    refine wpAny_passesOwn hp (thn (hb _ s6 σ6 H6 _ I6 q6) fun f s7 q7 => ?_)
    have again : ∀ {σ7 : St} {H7 : Hp}, Inv X (pins ++ pinsAt fp s5.heap) σ7 H7 s7 → N σ7 H7 → ∃ m, m < n ∧ ∃ i σ' H', Inv X pins σ' H' s7 ∧ tn i s7.heap ∧ (∀ b ∈ fp, H' b = none) ∧ W i m σ' H' := fun {σ7 H7} I7 n7 => by
      obtain ⟨m', hm, w7⟩ := hN σ7 H7 n7
      refine ⟨m', hm, i + 1, σ7, H7, I7.unpinned, T.keep _ _ _ st5 fun b hb o e => (I7.pin (b, o) (List.mem_append_right _ (List.mem_append_right _ (mem_pinsAt hb e)))).1, fun b hb => ?_, w7⟩
      obtain ⟨o, e, d⟩ := T.obj _ _ st5 b hb
      exact (I7.pin (b, o) (List.mem_append_right _ (List.mem_append_right _ (mem_pinsAt hb e)))).2.1
    cases f with
    | next => obtain ⟨σ7, H7, I7, n7⟩ := q7; exact again I7 n7
    | cont => obtain ⟨σ7, H7, I7, n7⟩ := q7; exact again I7 n7
    | brk => obtain ⟨σ7, H7, I7, q7⟩ := q7; exact ⟨σ7, H7, I7.unpinned, q7⟩
    | ret v => obtain ⟨x7, σ7, H7, I7, r7, q7⟩ := q7; exact ⟨x7, σ7, H7, I7.unpinned, r7, q7⟩
end

/-! ### the forms one uses -/
end L2

namespace L2
open PySem PySem.Spec PyProof.Rows

abbrev R2 := V → V → Hp → VK → Prop
/-- a two-place operation on values: f is binaryOp op, inplaceOp op or compareOp op -/
def OpR (X : Cx) (f : Value → Value → Sem Value) (r : R2) : Prop :=
  ∀ (pins : List (Addr × Obj)) (s : Shared) (σ : St) (H : Hp) (x y : V) (v u : Value) (Q : VK), Inv X pins σ H s → RelV x v → RelV y u → r x y H Q →
    wpAny (model X.prog X.w) X.A (f v u) (EP X pins σ Q) X.xe s
/-- a one-place operation -/
def UnR (X : Cx) (f : Value → Sem Value) (r : V → Hp → VK → Prop) : Prop :=
  ∀ (pins : List (Addr × Obj)) (s : Shared) (σ : St) (H : Hp) (x : V) (v : Value) (Q : VK), Inv X pins σ H s → RelV x v → r x H Q →
    wpAny (model X.prog X.w) X.A (f v) (EP X pins σ Q) X.xe s
/-- a call of a value that is known (a builtin, a type) with values -/
def CallR (X : Cx) (f : Value) (r : List V → Hp → VK → Prop) : Prop :=
  ∀ (pins : List (Addr × Obj)) (s : Shared) (σ : St) (H : Hp) (xs : List V) (us : List Value) (Q : VK), Inv X pins σ H s → Vals xs us → r xs H Q →
    wpAny (model X.prog X.w) X.A (call f us) (EP X pins σ Q) X.xe s
/-- a value's truth -/
def TruR (X : Cx) (r : V → Hp → (Bool → Hp → Prop) → Prop) : Prop :=
  ∀ (pins : List (Addr × Obj)) (s : Shared) (σ : St) (H : Hp) (x : V) (v : Value) (Q : Bool → Hp → Prop), Inv X pins σ H s → RelV x v → r x H Q →
    wpAny (model X.prog X.w) X.A (truthy v) (TP X pins σ Q) X.xe s

def tOp (r : R2) (ta tb : TE) : TE := fun σ H Q => ta σ H fun x H1 => tb σ H1 fun y H2 => r x y H2 Q
def tUn (r : V → Hp → VK → Prop) (ta : TE) : TE := fun σ H Q => ta σ H fun x H1 => r x H1 Q
/-- ints in, under C, and a value out -/
def rI (C : Int → Int → Prop) (g : Int → Int → V) : R2 := fun x y H Q => ∃ i j, x = .int i ∧ y = .int j ∧ C i j ∧ Q (g i j) H
def rI0 (g : Int → Int → V) : R2 := fun x y H Q => ∃ i j, x = .int i ∧ y = .int j ∧ Q (g i j) H
def rU (g : Int → V) : V → Hp → VK → Prop := fun x H Q => ∃ i, x = .int i ∧ Q (g i) H

section
variable {X : Cx} {a b c : Expr} {ta tb tc : TE} {pos : Pos}

theorem binT (ha : PE X a ta) (hb : PE X b tb) {pins : List (Addr × Obj)} {s : Shared} {σ : St} {H : Hp} {R : V → V → Hp → Prop} (I : Inv X pins σ H s)
    (h : ta σ H fun x H1 => tb σ H1 fun y H2 => R x y H2) {Q : Value → Shared → Prop} {f : Value → Value → Sem Value}
    (hf : ∀ v u s2 x y H2, Inv X pins σ H2 s2 → RelV x v → RelV y u → R x y H2 → wpAny (model X.prog X.w) X.A (f v u) Q X.xe s2) :
    wpAny (model X.prog X.w) X.A (eval a X.env) (fun v s₁ => wpAny (model X.prog X.w) X.A (eval b X.env) (fun u s₂ => wpAny (model X.prog X.w) X.A (f v u) Q X.xe s₂) X.xe s₁) X.xe s := by
  refine thn (ha pins s σ H _ I h) fun v s1 ⟨x, H1, I1, r1, q1⟩ => ?_
  refine thn (hb pins s1 σ H1 _ I1 q1) fun u s2 ⟨y, H2, I2, r2, q2⟩ => ?_
  exact hf v u s2 x y H2 I2 r1 r2 q2

theorem pe_op {op : Operator} {r : R2} (ho : OpR X (binaryOp op) r) (ha : PE X a ta) (hb : PE X b tb) : PE X (.BinOp a op b pos) (tOp r ta tb) := by
  intro pins s σ H Q I h
  exact wpAny_BinOp (binT ha hb I h fun v u s2 x y H2 I2 rx ry q => ho pins s2 σ H2 x y v u Q I2 rx ry q)
theorem pe_un {op : UnaryOp} {r : V → Hp → VK → Prop} (ho : UnR X (unaryOp op) r) (ha : PE X a ta) : PE X (.UnaryOp op a pos) (tUn r ta) := by
  intro pins s σ H Q I h
  exact UnaryOp_ (thn (ha pins s σ H _ I h) fun v s1 ⟨x, H1, I1, r1, q1⟩ => ho pins s1 σ H1 x v Q I1 r1 q1)
/-! ### ints -/
theorem opI {f : Value → Value → Sem Value} {C : Int → Int → Prop} {g : Int → Int → Int}
    (rule : ∀ (i j : Int) (t u : Tok) (s : Shared) (Q : Value → Shared → Prop) (E : Value → Shared → Prop), C i j → Q (.int (g i j) s.toks) { s with toks := s.toks + 1 } → wpAny (model X.prog X.w) X.A (f (.int i t) (.int j u)) Q E s) :
    OpR X f (rI C fun i j => .int (g i j)) := by
  intro pins s σ H x y v u Q I rx ry h
  obtain ⟨i, j, rfl, rfl, hc, q⟩ := h
  obtain ⟨t, rfl⟩ := rx
  obtain ⟨t', rfl⟩ := ry
  exact rule i j t t' s _ _ hc ⟨.int (g i j), H, I.tok _, ⟨_, rfl⟩, q⟩
theorem opI0 {f : Value → Value → Sem Value} {g : Int → Int → Int}
    (rule : ∀ (i j : Int) (t u : Tok) (s : Shared) (Q : Value → Shared → Prop) (E : Value → Shared → Prop), Q (.int (g i j) s.toks) { s with toks := s.toks + 1 } → wpAny (model X.prog X.w) X.A (f (.int i t) (.int j u)) Q E s) :
    OpR X f (rI0 fun i j => .int (g i j)) := by
  intro pins s σ H x y v u Q I rx ry h
  obtain ⟨i, j, rfl, rfl, q⟩ := h
  obtain ⟨t, rfl⟩ := rx
  obtain ⟨t', rfl⟩ := ry
  exact rule i j t t' s _ _ ⟨.int (g i j), H, I.tok _, ⟨_, rfl⟩, q⟩
theorem opB0 {f : Value → Value → Sem Value} {g : Int → Int → Bool}
    (rule : ∀ (i j : Int) (t u : Tok) (s : Shared) (Q : Value → Shared → Prop) (E : Value → Shared → Prop), Q (.bool (g i j)) s → wpAny (model X.prog X.w) X.A (f (.int i t) (.int j u)) Q E s) :
    OpR X f (rI0 fun i j => .bl (g i j)) := by
  intro pins s σ H x y v u Q I rx ry h
  obtain ⟨i, j, rfl, rfl, q⟩ := h
  obtain ⟨t, rfl⟩ := rx
  obtain ⟨t', rfl⟩ := ry
  exact rule i j t t' s _ _ ⟨.bl (g i j), H, I, rfl, q⟩

def CDiv (i j : Int) : Prop := 0 < j ∧ j < 1073741824
def CDivN (i j : Int) : Prop := j ≠ 0 ∧ j.natAbs < 1073741824
def CPow (i j : Int) : Prop := 0 ≤ j ∧ j ≤ 1000000 ∧ i.natAbs < 2 ^ 64
def CMul (i j : Int) : Prop := (-(2 ^ 64) < i ∧ i < 2 ^ 64) ∨ (-(2 ^ 64) < j ∧ j < 2 ^ 64)
theorem CMul.ok {i j : Int} (h : CMul i j) : IntMulOk i j := by
  rcases h with ⟨h1, h2⟩ | ⟨h1, h2⟩
  · exact .of_left (intBits_le_64 h1 h2)
  · exact .of_right (intBits_le_64 h1 h2)
theorem op_add : OpR X (binaryOp .Add) (rI0 fun i j => .int (i + j)) := opI0 fun _ _ _ _ _ _ _ q => add_int q
theorem op_mul : OpR X (binaryOp .Mult) (rI CMul fun i j => .int (i * j)) := opI fun _ _ _ _ _ _ _ hc q => mul_int q hc.ok
/-- % by a positive divisor of any size -/
theorem op_mod : OpR X (binaryOp .Mod) (rI (fun _ j => 0 < j) fun i j => .int (i % j)) := opI fun i j _ _ _ _ _ hc q => by
  have h1 : (0 : Int) < j := hc
  exact mod_int' (by omega) (by rw [Int.fmod_eq_emod_of_nonneg i (by omega)]; exact q)
theorem unI {f : Value → Sem Value} {g : Int → Int}
    (rule : ∀ (i : Int) (t : Tok) (s : Shared) (Q : Value → Shared → Prop) (E : Value → Shared → Prop), Q (.int (g i) s.toks) { s with toks := s.toks + 1 } → wpAny (model X.prog X.w) X.A (f (.int i t)) Q E s) :
    UnR X f (rU fun i => .int (g i)) := by
  intro pins s σ H x v Q I rx h
  obtain ⟨i, rfl, q⟩ := h
  obtain ⟨t, rfl⟩ := rx
  exact rule i t s _ _ ⟨.int (g i), H, I.tok _, ⟨_, rfl⟩, q⟩
theorem un_neg : UnR X (unaryOp .USub) (rU fun i => .int (-i)) := unI fun _ _ _ _ _ q => neg_int q
/-! ### bools among ints: n += (a < b) -/
end

/-! ### comparisons -/
/-- the scalars that == tells apart as data does -/
def scal : V → V → Bool
  | .non, .non => true | .non, .int _ => true | .int _, .non => true | .non, .bl _ => true | .bl _, .non => true | .non, .str _ => true | .str _, .non => true
  | .int _, .int _ => true | .bl _, .bl _ => true | .str _, .str _ => true | .byt _, .byt _ => true
  | .int _, .str _ => true | .str _, .int _ => true | .bl _, .str _ => true | .str _, .bl _ => true
  | _, _ => false
def rEq : R2 := fun x y H Q => scal x y = true ∧ Q (.bl (decide (x = y))) H
def rNe : R2 := fun x y H Q => scal x y = true ∧ Q (.bl (!decide (x = y))) H

section
variable {X : Cx} {a b c : Expr} {ta tb tc : TE} {pos : Pos}
theorem fin_bl {pins : List (Addr × Obj)} {σ : St} {H : Hp} {s : Shared} {Q : VK} {k k' : Bool} (I : Inv X pins σ H s) (q : Q (.bl k) H) (e : k = k') : EP X pins σ Q (.bool k') s := by
  subst e
  exact ⟨.bl k, H, I, rfl, q⟩
theorem op_lt : OpR X (compareOp .Lt) (rI0 fun i j => .bl (decide (i < j))) := opB0 fun _ _ _ _ _ _ _ q => lt_int q
theorem op_le : OpR X (compareOp .LtE) (rI0 fun i j => .bl (decide (i ≤ j))) := opB0 fun _ _ _ _ _ _ _ q => le_int q
theorem op_gt : OpR X (compareOp .Gt) (rI0 fun i j => .bl (decide (j < i))) := opB0 fun _ _ _ _ _ _ _ q => gt_int q
/-- is, is not of two objects that are tracked lists or instances -/
def isObj : HO → Bool
  | .lst _ => true
  | .ins _ _ _ => true
  | _ => false
/-- two rules for one operation: by cases -/
theorem OpR.or {f : Value → Value → Sem Value} {r r' : R2} (h : OpR X f r) (h' : OpR X f r') : OpR X f (fun x y H Q => r x y H Q ∨ r' x y H Q) := by
  intro pins s σ H x y v u Q I rx ry q
  rcases q with q | q
  · exact h pins s σ H x y v u Q I rx ry q
  · exact h' pins s σ H x y v u Q I rx ry q

theorem nomark (b : Expr) {op : CmpOp} (h : op ≠ .In := by decide) (h2 : op ≠ .NotIn := by decide) : behindInMarks op b = false := by
  have e1 : (op == CmpOp.In) = false := by cases op <;> first | rfl | exact absurd rfl h
  have e2 : (op == CmpOp.NotIn) = false := by cases op <;> first | rfl | exact absurd rfl h2
  cases b <;> simp [behindInMarks, e1, e2]
/-- a comparison as a value; hm: nomark b, or (for in, not in) by with_unfolding_all rfl -/
theorem pe_cmpR {op : CmpOp} {r : R2} (ho : OpR X (compareOp op) r) (ha : PE X a ta) (hb : PE X b tb) (hm : behindInMarks op b = false) : PE X (.Compare a [op] [b] pos) (tOp r ta tb) := by
  intro pins s σ H Q I h
  exact wpAny_Compare1 (binT ha hb I h fun v u s2 x y H2 I2 rx ry q => ho pins s2 σ H2 x y v u Q I2 rx ry q) hm
/-- a reading of a value as a test -/
def tTest (t : TE) : TT := fun σ H Q => t σ H fun x H' => ∃ k, x = .bl k ∧ Q k H'
theorem pt_cmpR {op : CmpOp} {r : R2} (ho : OpR X (compareOp op) r) (ha : PE X a ta) (hb : PE X b tb) (hm : behindInMarks op b = false) : PT X (.Compare a [op] [b] pos) (tTest (tOp r ta tb)) := by
  intro pins s σ H Q I h
  refine wpAny_isTrue_Compare1 (thn (ha pins s σ H _ I h) fun v s1 ⟨x, H1, I1, r1, q1⟩ => thn (hb pins s1 σ H1 _ I1 q1) fun u s2 ⟨y, H2, I2, r2, q2⟩ =>
    thn (ho pins s2 σ H2 x y v u _ I2 r1 r2 q2) fun c s3 ⟨z, H3, I3, r3, k, e, q3⟩ => ?_) hm
  subst e
  cases r3
  exact wpAny_truthy_bool ⟨H3, I3, q3⟩
/-- a op1 b op2 c -/
def tChain (r r' : R2) (ta tb tc : TE) : TE := fun σ H Q => ta σ H fun x H1 => tb σ H1 fun y H2 => r x y H2 fun z H3 => ∃ k, z = .bl k ∧
  (if k = true then tc σ H3 fun w' H4 => r' y w' H4 Q else Q (.bl false) H3)
theorem pe_chain {op op' : CmpOp} {r r' : R2} (ho : OpR X (compareOp op) r) (ho' : OpR X (compareOp op') r') (ha : PE X a ta) (hb : PE X b tb) (hc : PE X c tc)
    (hm : lastMarks [op, op'] [b, c] = false := by with_unfolding_all rfl) : PE X (.Compare a [op, op'] [b, c] pos) (tChain r r' ta tb tc) := by
  intro pins s σ H Q I h
  refine Compare_chain (thn (ha pins s σ H _ I h) fun v s1 ⟨x, H1, I1, r1, q1⟩ => chain_link (thn (hb pins s1 σ H1 _ I1 q1) fun u s2 ⟨y, H2, I2, r2, q2⟩ =>
    thn (ho pins s2 σ H2 x y v u _ I2 r1 r2 q2) fun d s3 ⟨z, H3, I3, r3, k, e, q3⟩ => ?_)) hm
  subst e
  cases r3
  refine wpAny_truthy_bool ?_
  cases k with
  | false => exact ite_ff ⟨.bl false, H3, I3, rfl, q3⟩
  | true => exact ite_tt (chain_last (thn (hc pins s3 σ H3 _ I3 q3) fun w' s4 ⟨z', H4, I4, r4, q4⟩ => ho' pins s4 σ H4 y z' u w' Q I4 r2 r4 q4))
theorem pt_chain {op op' : CmpOp} {r r' : R2} (ho : OpR X (compareOp op) r) (ho' : OpR X (compareOp op') r') (ha : PE X a ta) (hb : PE X b tb) (hc : PE X c tc)
    (hm : lastMarks [op, op'] [b, c] = false := by with_unfolding_all rfl) : PT X (.Compare a [op, op'] [b, c] pos) (tTest (tChain r r' ta tb tc)) := by
  intro pins s σ H Q I h
  refine isTrue_chain (thn (ha pins s σ H _ I h) fun v s1 ⟨x, H1, I1, r1, q1⟩ => test_link (thn (hb pins s1 σ H1 _ I1 q1) fun u s2 ⟨y, H2, I2, r2, q2⟩ =>
    thn (ho pins s2 σ H2 x y v u _ I2 r1 r2 q2) fun d s3 ⟨z, H3, I3, r3, k, e, q3⟩ => ?_)) hm
  subst e
  cases r3
  refine wpAny_truthy_bool ?_
  cases k with
  | false =>
    obtain ⟨k', e', q'⟩ := q3
    cases e'
    exact ite_ff ⟨H3, I3, q'⟩
  | true =>
    refine ite_tt (test_last (thn (hc pins s3 σ H3 _ I3 q3) fun w' s4 ⟨z', H4, I4, r4, q4⟩ => thn (ho' pins s4 σ H4 y z' u w' _ I4 r2 r4 q4) fun d' s5 ⟨z2, H5, I5, r5, k2, e2, q5⟩ => ?_))
    subst e2
    cases r5
    exact wpAny_truthy_bool ⟨H5, I5, q5⟩

/-! ### truth -/
/-- a value's truth by the abstract heap -/
def TruV (K : PySem.W.Frag) (x : V) (H : Hp) (k : Bool) : Prop :=
  match x with
  | .non => k = false
  | .bl b => k = b
  | .int i => k = (i != 0)
  | .str y => y.length ≤ sizeLine ∧ k = ((y.length : Int) != 0)
  | .byt y => y.size ≤ sizeLine ∧ k = ((y.size : Int) != 0)
  | .ref p => (∃ xs, SqL K H p xs ∧ k = !xs.isEmpty) ∨ (∃ xs, SqT K H p xs ∧ k = !xs.isEmpty) ∨ ∃ kvs, H p = some (.dK kvs) ∧ k = !kvs.isEmpty
  | _ => False
theorem isEmpty_kv {κ : Type} {kvs : List (κ × V)} {vs : List (κ × Value)} (r : KV kvs vs) : (!vs.isEmpty) = !kvs.isEmpty := by
  cases r <;> rfl
theorem isEmpty_of {xs : List V} {its : List Value} (r : Vals xs its) : (!its.toArray.isEmpty) = !xs.isEmpty := by
  cases r <;> simp
theorem line63 : (sizeLine : Nat) < 2 ^ 63 := by rw [sizeLine_eq]; decide
theorem tru_ok : TruR X (fun x H Q => ∃ k, TruV X.K x H k ∧ Q k H) := by
  intro pins s σ H x v Q I rx h
  obtain ⟨k, e, q⟩ := h
  have hl := line63
  have hs : sizeLine = 16777216 := sizeLine_eq
  cases x with
  | non =>
    cases rx
    have e' : k = false := e
    subst e'
    exact truthy_none ⟨H, I, q⟩
  | bl b =>
    cases rx
    have e' : k = b := e
    subst e'
    exact wpAny_truthy_bool ⟨H, I, q⟩
  | int i =>
    obtain ⟨t, rfl⟩ := rx
    have e' : k = (i != 0) := e
    subst e'
    exact PySem.P.truthy_int ⟨H, I, q⟩
  | str y =>
    obtain ⟨t, rfl⟩ := rx
    obtain ⟨hy, e'⟩ : y.length ≤ sizeLine ∧ k = ((y.length : Int) != 0) := e
    subst e'
    exact PySem.P.truthy_str (by omega) ⟨H, I.tok _, q⟩
  | byt y =>
    obtain ⟨t, rfl⟩ := rx
    obtain ⟨hy, e'⟩ : y.size ≤ sizeLine ∧ k = ((y.size : Int) != 0) := e
    subst e'
    exact PySem.W.truthy_bytes (by omega) ⟨H, I.tok _, q⟩
  | ref p =>
    cases rx
    have e' : (∃ xs, SqL X.K H p xs ∧ k = !xs.isEmpty) ∨ (∃ xs, SqT X.K H p xs ∧ k = !xs.isEmpty) ∨ ∃ kvs, H p = some (.dK kvs) ∧ k = !kvs.isEmpty := e
    rcases e' with ⟨xs, hx, e'⟩ | ⟨xs, hx, e'⟩ | ⟨kvs, hx, e'⟩
    · subst e'
      obtain ⟨its, r, pl, hz⟩ := I.list hx
      have hlen := r.length
      exact wpAny_truthy_list pl.isList (by simp only [List.size_toArray]; omega) ⟨H, I.tok _, by rw [isEmpty_of r]; exact q⟩
    · subst e'
      obtain ⟨its, r, pl, hz⟩ := I.tuple hx
      have hlen := r.length
      exact truthy_tuple pl (by simp only [List.size_toArray]; omega) ⟨H, I.tok _, by rw [isEmpty_of r]; exact q⟩
    · subst e'
      obtain ⟨hz, hS, vs, r, m⟩ : kvs.length ≤ sizeLine ∧ (p == sysModules) = false ∧ ∃ vs, KV kvs vs ∧ s.heap.DictOf (mixKind X.prog X.w) p vs := I.hok p _ hx
      have hlen : kvs.length = vs.length := Paired.length r
      exact wpAny_truthy_dict hS m (by omega) ⟨H, I.tok _, by rw [isEmpty_kv r]; exact q⟩
  | _ => exact (show False from e).elim
/-- any expression whose test is its value's truth (a name, a call, a subscript, a field ..: he by fun _ => rfl) -/
theorem pt_truth (ha : PE X a ta) (he : ∀ whole, isTrue a X.env whole = (do let v ← whole; standAt a.pos; holding [v] (truthy v))) :
    PT X a (fun σ H Q => ta σ H fun x H' => ∃ k, TruV X.K x H' k ∧ Q k H') := by
  intro pins s σ H Q I h
  exact isTrue_plain (thn (ha pins s σ H _ I h) fun v s1 ⟨x, H1, I1, r1, q1⟩ => tru_ok pins s1 σ H1 x v Q I1 r1 q1) (he _)

/-! ### strs and bytes -/
theorem op_add_str : OpR X (binaryOp .Add) (fun x y H Q => ∃ i j, x = .str i ∧ y = .str j ∧ i.length + j.length ≤ sizeLine ∧ Q (.str (i ++ j)) H) := by
  intro pins s σ H x y v u Q I rx ry h
  obtain ⟨i, j, rfl, rfl, hz, q⟩ := h
  obtain ⟨t, rfl⟩ := rx
  obtain ⟨t', rfl⟩ := ry
  exact add_str (fun t' tk => ⟨.str (i ++ j), H, I.tok _, ⟨_, rfl⟩, q⟩) hz
def PlainIxT (b : Expr) : Prop := ∀ o i, subscripted b false o i = operate [o, i] (getItem o i)
/-! ### scalar builtins, by CallR -/
theorem vals1 {x : V} {us : List Value} (r : Vals [x] us) : ∃ u, us = [u] ∧ RelV x u := by
  cases r with
  | cons r1 r2 => cases r2; exact ⟨_, rfl, r1⟩
theorem vals2 {x y : V} {us : List Value} (r : Vals [x, y] us) : ∃ u w', us = [u, w'] ∧ RelV x u ∧ RelV y w' := by
  cases r with
  | cons r1 r2 =>
    cases r2 with
    | cons r3 r4 => cases r4; exact ⟨_, _, rfl, r1, r3⟩
/-- len of a str, a bytes, a list, a tuple -/
def LenV (K : PySem.W.Frag) (x : V) (H : Hp) (n : Nat) : Prop :=
  match x with
  | .str y => y.length ≤ sizeLine ∧ n = y.length
  | .byt y => y.size ≤ sizeLine ∧ n = y.size
  | .ref p => (∃ xs, SqL K H p xs ∧ n = xs.length) ∨ ∃ xs, SqT K H p xs ∧ n = xs.length
  | _ => False
theorem call_len : CallR X (.builtin "len") (fun xs H Q => ∃ x n, xs = [x] ∧ LenV X.K x H n ∧ Q (.int n) H) := by
  intro pins s σ H xs us Q I r h
  obtain ⟨x, n, rfl, e, q⟩ := h
  obtain ⟨u, rfl, rx⟩ := vals1 r
  have hl := line63
  have hs : sizeLine = 16777216 := sizeLine_eq
  cases x with
  | str y =>
    obtain ⟨t, rfl⟩ := rx
    obtain ⟨hy, e'⟩ : y.length ≤ sizeLine ∧ n = y.length := e
    subst e'
    exact len_str (by omega) ⟨.int _, H, I.tok _, ⟨_, rfl⟩, q⟩
  | byt y =>
    obtain ⟨t, rfl⟩ := rx
    obtain ⟨hy, e'⟩ : y.size ≤ sizeLine ∧ n = y.size := e
    subst e'
    exact PySem.W.len_bytes (by omega) ⟨.int _, H, I.tok _, ⟨_, rfl⟩, q⟩
  | ref p =>
    cases rx
    have e' : (∃ xs, SqL X.K H p xs ∧ n = xs.length) ∨ ∃ xs, SqT X.K H p xs ∧ n = xs.length := e
    rcases e' with ⟨xs, hx, e'⟩ | ⟨xs, hx, e'⟩
    · subst e'
      obtain ⟨its, r', pl, hz⟩ := I.list hx
      have hlen := r'.length
      exact Calls.call_len_list pl.isList (by simp only [List.size_toArray]; omega) ⟨.int xs.length, H, I.tok _, ⟨_, by simp only [List.size_toArray]; rw [hlen]⟩, q⟩
    · subst e'
      obtain ⟨its, r', pl, hz⟩ := I.tuple hx
      have hlen := r'.length
      exact len_tuple pl (by simp only [List.size_toArray]; omega) ⟨.int xs.length, H, I.tok _, ⟨_, by simp only [List.size_toArray]; rw [hlen]⟩, q⟩
  | _ => exact (show False from e).elim
end
end L2

namespace L2
open PySem PySem.Spec PyProof.Rows

/-! ### an instance, its attributes a map -/
structure ObjM (h : Heap) (x dx C : Addr) (mA : Str → Option Value) : Prop where
  obj : h.get? x = some (PySem.W.instObj C dx)
  ns : h.Ns1 dx mA
  ne : dx ≠ x

section
variable {prog : Program} {w : World} {A : Around} {E : Value → Shared → Prop} {s : Shared} {K : PySem.W.Frag} {x dx C f : Addr} {mA : Str → Option Value} {name : Str} {v : Value}

end

/-! ### the attributes as a list of pairs -/
def putF (f : Str) (v : V) : List (Str × V) → List (Str × V)
  | [] => [(f, v)]
  | (g, x) :: r => if g = f then (g, v) :: r else (g, x) :: putF f v r
section
variable {P : Program} {w : World} {H H' : Hp} {h h' : Heap} {a C dx : Addr} {fs fs' : List (Str × V)}
end

/-! ### what of the text a class must have -/
structure Cls (K : PySem.W.Frag) (C : Addr) : Prop where
  pg : PySem.W.plainGet K C Str.empty = true
  hd : PySem.W.hasDictIn K C = true
  po : PySem.W.plainOver K C = true
  sa : PySem.W.findIn K (.ref C) "__setattr__" = some (some (.builtin "object.__setattr__"))
theorem Cls.get {K : PySem.W.Frag} {C : Addr} (c : Cls K C) (f : Str) : PySem.W.plainGet K C f = true := c.pg
/-- no class of it has the name -/
def NoAttr (K : PySem.W.Frag) (C : Addr) (f : Str) : Prop := PySem.W.findIn K (.ref C) f = some none
/-- a constant of the class -/
structure Con (K : PySem.W.Frag) (C : Addr) (f : Str) (v : V) (u : Value) : Prop where
  at_ : PySem.W.findIn K (.ref C) f = some (some u)
  rel : RelV v u
  get : PySem.W.specialIn K u "__get__" = some none
  cp : PySem.W.copiedNames.contains f = false
/-- a method: a plain def of the class or of one above it -/
structure Meth (K : PySem.W.Frag) (C : Addr) (m : Str) (f : Addr) : Prop where
  at_ : PySem.W.findIn K (.ref C) m = some (some (.ref f))
  fn : PySem.W.isFn K (.ref f) = true
  kp : PySem.W.keepIn K (.ref f) = true

section
variable {X : Cx} {pins : List (Addr × Obj)} {σ : St} {H : Hp} {s : Shared} {a C dx : Addr} {fs : List (Str × V)} {f : Str} {v : V} {A : Around} {E : Value → Shared → Prop}

/-- a new instance, tracked, without attributes -/
theorem Inv.made (I : Inv X pins σ H s) : Inv X pins σ (upd (upd H s.heap.objs.size (.own (s.heap.objs.size + 1))) (s.heap.objs.size + 1) (.ins C s.heap.objs.size []))
    { s with heap := (s.heap.push PySem.W.emptyDict).push (PySem.W.instObj C s.heap.objs.size) } := by
  have e1 : (s.heap.push PySem.W.emptyDict).get? s.heap.objs.size = some PySem.W.emptyDict := Heap.get?_push_size s.heap rfl
  have e2 : ((s.heap.push PySem.W.emptyDict).push (PySem.W.instObj C s.heap.objs.size)).get? (s.heap.objs.size + 1) = some (PySem.W.instObj C s.heap.objs.size) := by
    have := Heap.get?_push_size (s.heap.push PySem.W.emptyDict) (o := PySem.W.instObj C s.heap.objs.size) rfl
    rwa [Heap.size_push] at this
  have e3 : (s.heap.push PySem.W.emptyDict).Ns s.heap.objs.size (fun _ => none) := ⟨PySem.W.emptyDict, #[], _, e1, rfl, (fun e he => absurd he (by simp)), fun _ => rfl⟩
  have I1 := I.laid (a := s.heap.objs.size) (o := .own (s.heap.objs.size + 1)) (h' := s.heap.push PySem.W.emptyDict) (t' := s.toks) (fun b u q => Heap.get?_push_of_some _ q) (Nat.le_refl _) ⟨_, e1⟩
  refine I1.laid (a := s.heap.objs.size + 1) (o := .ins C s.heap.objs.size []) (t' := s.toks) (fun b u q => Heap.get?_push_of_some _ q) (Nat.le_of_eq (Heap.size_push _ _)) ?_
  have ne : s.heap.objs.size ≠ s.heap.objs.size + 1 := Nat.ne_of_lt (Nat.lt_succ_self _)
  refine ⟨by rw [upd_ne ne, upd_same], Nat.zero_le _, ne, e2, fun _ => none, (Heap.Ns1.of_empty e3).at fun o q => Heap.get?_push_of_some _ q, fun _ => True.intro, fun y hy => absurd rfl hy⟩

end

/-! ### readings and rules -/
/-- e.f, an attribute of the instance -/
def tFld (K : PySem.W.Frag) (ta : TE) (f : Str) : TE := fun σ H Q => ta σ H fun x H1 => ∃ a C dx fs v, x = .ref a ∧ H1 a = some (.ins C dx fs) ∧ Cls K C ∧ NoAttr K C f ∧ fs.lookup f = some v ∧ Q v H1
/-- e.f, a constant of the class -/
def tCon (K : PySem.W.Frag) (ta : TE) (f : Str) : TE := fun σ H Q => ta σ H fun x H1 => ∃ a C dx fs v u, x = .ref a ∧ H1 a = some (.ins C dx fs) ∧ Cls K C ∧ Con K C f v u ∧ fs.lookup f = none ∧ Q v H1
/-- e.f = value -/
def sFld (K : PySem.W.Frag) (ta tv : TE) (f : Str) : TS := fun D σ H => tv σ H fun y H1 => ta σ H1 fun x H2 => ∃ a C dx fs, x = .ref a ∧ H2 a = some (.ins C dx fs) ∧ Cls K C ∧ NoAttr K C f ∧ fs.length < 1000 ∧
  D.nx σ (upd H2 a (.ins C dx (putF f y fs)))
/-- an augmented operator on two values -/
def InOp (X : Cx) (op : Operator) (rd : V → V → Hp → VK → Prop) : Prop :=
  ∀ (pins : List (Addr × Obj)) (s : Shared) (σ : St) (H : Hp) (x y : V) (u v : Value) (Q : VK), Inv X pins σ H s → RelV x u → RelV y v → rd x y H Q → wpAny (model X.prog X.w) X.A (inplaceOp op u v) (EP X pins σ Q) X.xe s
/-- e.f op= value -/
def sFldAug (K : PySem.W.Frag) (ta tv : TE) (rd : V → V → Hp → VK → Prop) (f : Str) : TS := fun D σ H => ta σ H fun x H1 => ∃ a C dx fs v, x = .ref a ∧ H1 a = some (.ins C dx fs) ∧ Cls K C ∧ NoAttr K C f ∧ fs.lookup f = some v ∧
  tv σ H1 fun y H2 => rd v y H2 fun z H3 => ∃ dx' fs', H3 a = some (.ins C dx' fs') ∧ fs'.length < 1000 ∧ D.nx σ (upd H3 a (.ins C dx' (putF f z fs')))

section
variable {X : Cx} {o e value : Expr} {f : Str} {pos pos' tpos : Pos} {ta tv : TE}
def rAdd : V → V → Hp → VK → Prop := fun x y H Q => ∃ i j, x = .int i ∧ y = .int j ∧ Q (.int (i + j)) H
def rSub : V → V → Hp → VK → Prop := fun x y H Q => ∃ i j, x = .int i ∧ y = .int j ∧ Q (.int (i - j)) H
end

/-! ### isinstance -/
section
variable {X : Cx} {pins : List (Addr × Obj)} {σ : St} {H : Hp} {s : Shared} {A : Around} {E : Value → Shared → Prop} {Q : Value → Shared → Prop} {c : Value} {b : Bool}
/-- the type of a value, as the fragment's deciders take it; for an instance its class -/
inductive TyOf (K : PySem.W.Frag) (H : Hp) : V → Value → Prop where
  | non : TyOf K H .non (.type "NoneType")
  | bl (x : Bool) : TyOf K H (.bl x) (.type "bool")
  | int (i : Int) : TyOf K H (.int i) (.type "int")
  | str (x : Str) : TyOf K H (.str x) (.type "str")
  | flt (x : UInt64) : TyOf K H (.flt x) (.type "float")
  | lst {a : Addr} {xs : List V} (e : H a = some (.lst xs)) : TyOf K H (.ref a) (.type "list")
  | frz {a : Addr} {o : Obj} {xs : List V} (e : H a = some (.frz o (.lst xs))) : TyOf K H (.ref a) (.type "list")
  | tup {a : Addr} {xs : List V} (e : H a = some (.tup xs)) : TyOf K H (.ref a) (.type "tuple")
  | dK {a : Addr} {kvs : List (Key × V)} (e : H a = some (.dK kvs)) : TyOf K H (.ref a) (.type "dict")
  | dT {a : Addr} {kvs : List (List Key × V)} (e : H a = some (.dT kvs)) : TyOf K H (.ref a) (.type "dict")
  | ins {a C dx : Addr} {fs : List (Str × V)} (e : H a = some (.ins C dx fs)) (cl : Cls K C) (ha : PySem.W.findIn K (.ref C) "__class__" = some (some (.builtin "object.__class__")))
      (hn : PySem.W.specialIn K (.builtin "object.__class__") "__get__" = some (some (.builtin "getset_descriptor.__get__"))) (htk : PySem.W.takesIn K (.builtin "object.__class__") = some true)
      (hm : PySem.W.mroIn K C (.type "object") = some true) : TyOf K H (.ref a) (.ref C)
end
end L2

namespace L2
open PySem PySem.Spec PyProof.Rows

/-! ### room -/
structure Room (k : Nat) (A : Around) : Prop where
  hd : A.handled = none
  dp : A.depth + 3 * k + 5 < recursionLimit
  un : A.units + 16 * k + 200 < cLine
theorem Room.mono {j k : Nat} {A : Around} (r : Room k A) (h : j ≤ k) : Room j A := ⟨r.hd, by have := r.dp; omega, by have := r.un; omega⟩
theorem Room.deeper {k : Nat} {A : Around} (r : Room (k + 1) A) (env : Env) : Room k (A.deeper env) :=
  ⟨r.hd, by have := r.dp; show A.depth + 1 + 3 * k + 5 < _; omega, by have := r.un; show A.units + 3 + 16 * k + 200 < _; omega⟩
theorem Room.in1 {k : Nat} {A : Around} (r : Room (k + 1) A) : Room k A.in1 :=
  ⟨r.hd, by have := r.dp; show A.depth + 3 * k + 5 < _; omega, by have := r.un; show A.units + 1 + 16 * k + 200 < _; omega⟩
theorem Room.depth {k : Nat} {A : Around} (r : Room k A) : A.depth < recursionLimit := by have := r.dp; omega
theorem Room.units {k : Nat} {A : Around} (r : Room k A) : A.units + 64 < cLine := by have := r.un; omega
/-! ### argument lists and displays -/
def tNil : TA := fun _ H Q => Q [] H
def tCons (ta : TE) (tr : TA) : TA := fun σ H Q => ta σ H fun x H1 => tr σ H1 fun xs H2 => Q (x :: xs) H2
section
variable {X : Cx} {e : Expr} {es : List Expr} {te : TE} {t : TA} {pos : Pos}
theorem pa_nil : PA X [] tNil := fun _ _ _ _ H Q I h => Calls.spliced_nil ⟨[], H, I, .nil, h⟩
theorem pa_cons (ha : PE X e te) (hr : PA X es t) (hs : starEach (e :: es) X.env = (false, eval e X.env) :: starEach es X.env := by rfl) : PA X (e :: es) (tCons te t) := by
  intro pos pins s σ H Q I h
  rw [hs]
  show wpAny _ _ (spliced ((false, eval e X.env) :: backTo pos (starEach es X.env))) _ _ s
  refine Calls.spliced_cons (thn (ha pins s σ H _ I h) fun u s1 ⟨x, H1, I1, r1, q1⟩ => ?_)
  exact thn (hr pos pins s1 σ H1 _ I1 q1) fun us s2 ⟨xs, H2, I2, r2, q2⟩ => ⟨x :: xs, H2, I2, .cons r1 r2, q2⟩

/-- a tuple, a list of written items -/
def tTup (t : TA) : TE := fun σ H Q => t σ H fun xs H1 => xs.length ≤ sizeLine ∧ ∀ p, H1 p = none → Q (.ref p) (upd H1 p (.tup xs))
def tLst (t : TA) : TE := fun σ H Q => t σ H fun xs H1 => xs.length ≤ sizeLine ∧ ∀ p, H1 p = none → Q (.ref p) (upd H1 p (.lst xs))
theorem pe_tup {x1} (h : PA X es t) : PE X (.Tuple es x1 pos) (tTup t) := by
  intro pins s σ H Q I hq
  refine wpAny_Tuple_spliced (thn (h pos pins s σ H _ I hq) fun us s1 ⟨xs, H1, I1, r, z, q⟩ => ⟨by rw [← r.length]; exact z, ?_⟩)
  have hf : H1 s1.heap.objs.size = none := I1.hok.fresh (Nat.le_refl _)
  refine ⟨.ref s1.heap.objs.size, upd H1 s1.heap.objs.size (.tup xs), I1.laid (t' := s1.toks) (fun b u e => Heap.get?_push_of_some _ e) (Nat.le_refl _) ?_, rfl, q _ hf⟩
  exact ⟨z, us, r, ⟨_, Heap.get?_push_size _ rfl, rfl, _, rfl⟩⟩
theorem pe_lst (h : PA X es t) : PE X (.List es pos) (tLst t) := by
  intro pins s σ H Q I hq
  refine wpAny_List_spliced (thn (h pos pins s σ H _ I hq) fun us s1 ⟨xs, H1, I1, r, z, q⟩ => ⟨by rw [← r.length]; exact z, ?_⟩)
  have hf : H1 s1.heap.objs.size = none := I1.hok.fresh (Nat.le_refl _)
  refine ⟨.ref s1.heap.objs.size, upd H1 s1.heap.objs.size (.lst xs), I1.laid (t' := s1.toks) (fun b u e => Heap.get?_push_of_some _ e) (Nat.le_refl _) ?_, rfl, q _ hf⟩
  exact ⟨z, us, 0, r, Heap.get?_push_size _ rfl⟩
end

/-! ### what a def promises -/
/-- a def's promise: the bound arguments in the parameters' order, the heap, the wanted end, the wanted exception -/
abbrev Sp := List V → Hp → VK → XK → Prop
/-- how an exception lies behind a call (file 08 gives it): the callers' frames, abstract heap and state ahead of the call, the wish, the exception, the state -/
abbrev CXT := List Env → Hp → Shared → XK → Value → Shared → Prop

/-- the state at a call -/
structure Env0 (P : Program) (w : World) (K : PySem.W.Frag) (mg : Str → Option Value) (base : Heap) (A : Around) (outer : List Env) (s : Shared) (H : Hp) : Prop where
  frames : A.frames = some outer
  mod : Mod K mg base
  bs : ∀ b o, base.get? b = some o → s.heap.get? b = some o ∧ H b = none
  bsz : base.objs.size ≤ s.heap.objs.size
  funs : s.heap.FunFrames base outer
  frf : ∀ b ∈ frs outer, H b = none
  hok : HOk P w H s.heap
  bare : AllBare s.gens
/-- a call's end -/
def CE (outer : List Env) (P : Program) (w : World) (H : Hp) (s : Shared) (Q : VK) (u : Value) (s' : Shared) : Prop :=
  ∃ v H', s'.os = s.os ∧ AllBare s'.gens ∧ Un (frs outer) [] H H' s.heap s'.heap ∧ HOk P w H' s'.heap ∧ RelV v u ∧ Q v H'
def CR (CX : CXT) (outer : List Env) (P : Program) (w : World) (H : Hp) (s : Shared) (Q : VK) (E : XK) (r : Result) (s' : Shared) : Prop :=
  match r with
  | .ok (.ret u) => CE outer P w H s Q u s'
  | .ok _ => False
  | .error e => CX outer H s E e s'
structure FnOk (P : Program) (w : World) (K : PySem.W.Frag) (mg : Str → Option Value) (base : Heap) (CX : CXT) (k : Nat) (f : Addr) (fd : FuncData) (ps : List Str) (sp : Sp) : Prop where
  len : ∀ vs H Q E, sp vs H Q E → vs.length = ps.length
  run : ∀ (A : Around) (outer : List Env) (s : Shared) (H : Hp) (args : Args) (us : List Value) (vs : List V) (Q : VK) (E : XK), Room k A → Env0 P w K mg base A outer s H → BindsTo s fd args (ps.zip us) → Vals vs us → sp vs H Q E →
    codeAny (model P w) A (.call (.ref f) args) (CR CX outer P w H s Q E) s
theorem FnOk.mono {P : Program} {w : World} {K : PySem.W.Frag} {mg : Str → Option Value} {base : Heap} {CX : CXT} {j k : Nat} {f : Addr} {fd : FuncData} {ps : List Str} {sp : Sp} (F : FnOk P w K mg base CX j f fd ps sp) (h : j ≤ k) :
    FnOk P w K mg base CX k f fd ps sp := ⟨F.len, fun A outer s H args us vs Q E hr => F.run A outer s H args us vs Q E (hr.mono h)⟩
/-- a weaker promise -/
theorem FnOk.imp {P : Program} {w : World} {K : PySem.W.Frag} {mg : Str → Option Value} {base : Heap} {CX : CXT} {k : Nat} {f : Addr} {fd : FuncData} {ps : List Str} {sp sp' : Sp} (F : FnOk P w K mg base CX k f fd ps sp)
    (h : ∀ vs H Q E, sp' vs H Q E → sp vs H Q E) : FnOk P w K mg base CX k f fd ps sp' :=
  ⟨fun vs H Q E q => F.len vs H Q E (h _ _ _ _ q), fun A outer s H args us vs Q E hr he hb hv hs => F.run A outer s H args us vs Q E hr he hb hv (h _ _ _ _ hs)⟩

theorem Env0.in1 {P : Program} {w : World} {K : PySem.W.Frag} {mg : Str → Option Value} {base : Heap} {A : Around} {outer : List Env} {s : Shared} {H : Hp} (e : Env0 P w K mg base A outer s H) :
    Env0 P w K mg base A.in1 outer s H := ⟨e.frames, e.mod, e.bs, e.bsz, e.funs, e.frf, e.hok, e.bare⟩

section
variable {X : Cx} {pins : List (Addr × Obj)} {σ : St} {H : Hp} {s s' : Shared}
/-- from a body: what a callee wants -/
theorem Inv.env0 (I : Inv X pins σ H s) : Env0 X.prog X.w X.K X.mg X.base X.A X.stack s H :=
  ⟨I.ok.frames, I.ok.mod, I.bs, Nat.le_trans I.ok.bsz I.sz, I.stack, I.stkFree, I.hok, I.bare⟩
/-- behind a call -/
theorem Inv.after {Q : VK} {u : Value} (I : Inv X pins σ H s) (h : CE X.stack X.prog X.w H s Q u s') : EP X pins σ Q u s' := by
  obtain ⟨v, H', os, bare, un, hok, r, q⟩ := h
  obtain ⟨hh, g, d, t, os'⟩ := s'
  obtain rfl : os' = s.os := os
  exact ⟨v, H', I.call (h' := hh) (g' := g) (d' := d) (t' := t) (ch := []) un hok bare (fun b z => absurd z (by simp)), r, q⟩
end

/-! ### calls -/
/-- f(..): the written arguments, then the defaults dvs; E: what is wanted of an exception -/
def tCall (sp : Sp) (dvs : List V) (E : XK) (t : TA) : TE := fun σ H Q => t σ H fun vs H1 => sp (vs ++ dvs) H1 Q E
/-- o.m(..) of an instance of the class at C -/
def tMeth (C : Addr) (m : Str) (sp : Sp) (dvs : List V) (E : XK) (ta : TE) (t : TA) : TE := fun σ H Q => ta σ H fun x H1 => ∃ a dx fs, x = .ref a ∧ H1 a = some (.ins C dx fs) ∧ fs.lookup m = none ∧
  t σ H1 fun vs H2 => sp (x :: (vs ++ dvs)) H2 Q E
/-- C(..): a new instance and its dict, then __init__ -/
def tMake (C : Addr) (sp : Sp) (dvs : List V) (E : XK) (t : TA) : TE := fun σ H Q => t σ H fun vs H1 => ∀ x dx, H1 x = none → H1 dx = none → dx ≠ x →
  sp (.ref x :: (vs ++ dvs)) (upd (upd H1 dx (.own x)) x (.ins C dx [])) (fun v H2 => v = .non ∧ Q (.ref x) H2) E

/-- how the parameters are bound: us the positional arguments, kw the keywords' values by name, ds the defaults that fill up -/
def Binds (K : PySem.W.Frag) (fd : FuncData) (ps : List Str) (ds : List Value) : Prop :=
  ∀ (s : Shared) (us : List Value), K.In s.heap → (us ++ ds).length = ps.length → BindsTo s fd ⟨us, []⟩ (ps.zip (us ++ ds))
/-- every parameter is given -/
theorem Binds.all {K : PySem.W.Frag} {fd : FuncData} {ps : List Str} (h : ∀ us : List Value, us.length = ps.length → bindArgs fd ⟨us, []⟩ = pure (ps.zip us)) : Binds K fd ps [] := fun s us _ hl => by
  rw [List.append_nil] at hl ⊢
  exact .of_eq (h us hl)

/-- an exception of a callee reaches what this body wants of exceptions -/
def Passes (CX : CXT) (X : Cx) (E : XK) : Prop := ∀ (pins : List (Addr × Obj)) (σ : St) (H : Hp) (s : Shared) (e : Value) (s' : Shared), Inv X pins σ H s → CX X.stack H s E e s' → X.xe e s'

section
variable {X : Cx} {CX : CXT} {k : Nat} {f C : Addr} {fd : FuncData} {ps : List Str} {sp : Sp} {dvs : List V} {ds : List Value} {E : XK} {x m : Str} {p pos apos : Pos} {e o : Expr} {es : List Expr} {ta : TE} {t : TA}

/-- the callee runs -/
theorem run_fn {pins : List (Addr × Obj)} {σ : St} {H : Hp} {s : Shared} {Q : VK} {us : List Value} {vs : List V} (F : FnOk X.prog X.w X.K X.mg X.base CX k f fd ps sp) (hr : Room k X.A) (hb : Binds X.K fd ps ds) (hd : Vals dvs ds) (hx : Passes CX X E)
    (I : Inv X pins σ H s) (r : Vals vs us) (h : sp (vs ++ dvs) H Q E) : wpAny (model X.prog X.w) X.A (call (.ref f) us) (EP X pins σ Q) X.xe s := by
  have r2 : Vals (vs ++ dvs) (us ++ ds) := r.append hd
  have hl : (us ++ ds).length = ps.length := by rw [← r2.length]; exact F.len _ _ _ _ h
  refine wpAny_call (codeAny_mono (F.run X.A X.stack s H ⟨us, []⟩ (us ++ ds) (vs ++ dvs) Q E hr I.env0 (hb s us I.kIn hl) r2 h) fun r s' hq => ?_)
  cases r with
  | error e => exact hx pins σ H s e s' I hq
  | ok fl =>
    cases fl with
    | ret u => exact I.after hq
    | next => exact False.elim hq
    | brk => exact False.elim hq
    | cont => exact False.elim hq

theorem pe_call (F : FnOk X.prog X.w X.K X.mg X.base CX k f fd ps sp) (hr : Room k X.A) (hg : Gl X x) (hm : X.mg x = some (.ref f)) (hk : PySem.W.keepIn X.K (.ref f) = true) (hb : Binds X.K fd ps ds) (hd : Vals dvs ds) (hx : Passes CX X E)
    (ha : PA X (e :: es) t) (hdb : (x == ("__debug__" : Str)) = false := by decide) (he : starEach (e :: es) X.env = (false, eval e X.env) :: starEach es X.env := by rfl) (hpl : (backTo pos (starEach es X.env)).any (·.1) = false := by rfl) :
    PE X (.Call (.Name x p) (e :: es) [] pos) (tCall sp dvs E t) := by
  intro pins s σ H Q I h
  refine wpAny_Call_Name_kw (ld_glob I hg hm ?_ hdb)
  refine PySem.W.callWith_K (h₀ := X.base) I.ok.mod.kin hk (thn (ha pos pins s σ H _ I h) fun us s1 ⟨vs, H1, I1, r, q⟩ => ⟨I1.kIn, ?_⟩) he hpl
  exact run_fn F hr hb hd hx I1 r q
/-- what a class must have to be made -/
structure Mk (K : PySem.W.Frag) (C f : Addr) : Prop where
  makes : PySem.W.makesIn K C = true
  init : PySem.W.findIn K (.ref C) "__init__" = some (some (.ref f))
  fn : PySem.W.isFn K (.ref f) = true
  kp : PySem.W.keepIn K (.ref C) = true

end

/-! ### keywords -/
/-- the values of the keywords, from the left -/
def PK (X : Cx) (kws : List Keyword) (t : TA) : Prop :=
  ∀ (pos : Pos) (pins : List (Addr × Obj)) (s : Shared) (σ : St) (H : Hp) (Q : List V → Hp → Prop), Inv X pins σ H s → t σ H Q → wpAny (model X.prog X.w) X.A (evalAll ((backToKw pos (keywordEach kws X.env)).map (·.2))) (AP X pins σ Q) X.xe s
section
variable {X : Cx} {CX : CXT} {k : Nat} {f C : Addr} {fd : FuncData} {ps ks : List Str} {sp : Sp} {E : XK} {x m : Str} {p pos apos kpos : Pos} {e o : Expr} {es : List Expr} {kws : List Keyword} {te ta : TE} {t tk : TA} {nm : Option Str}
/-- how a call with keywords binds: g puts the positional values us and the keywords' values ws (names ks) in the parameters' order, defaults among them -/
structure KBinds (K : PySem.W.Frag) (fd : FuncData) (ps ks : List Str) (g : List Value → List Value → List Value) (gV : List V → List V → List V) : Prop where
  to : ∀ (s : Shared) (us ws : List Value), K.In s.heap → (g us ws).length = ps.length → BindsTo s fd ⟨us, ks.zip ws⟩ (ps.zip (g us ws))
  rel : ∀ {vs : List V} {us : List Value} {zs : List V} {ws : List Value}, Vals vs us → Vals zs ws → Vals (gV vs zs) (g us ws)
def tCallK (sp : Sp) (gV : List V → List V → List V) (E : XK) (t tk : TA) : TE := fun σ H Q => t σ H fun vs H1 => tk σ H1 fun zs H2 => sp (gV vs zs) H2 Q E
variable {g : List Value → List Value → List Value} {gV : List V → List V → List V}
end

/-! ### a def's body keeps its promise -/
/-- names: the parameters first -/
structure FnScope (N P : List Str) (sc : Scope) : Prop where
  kind : sc.kind = .function
  co : sc.isCoroutine = false
  gen : sc.isGenerator = false
  nd : N.Nodup
  pre : N.take P.length = P
  par : ∀ x ∈ P, sc.names.lookup x = some .local ∨ sc.names.lookup x = some .cell
  nofree : ∀ y ∈ sc.names, y.2 ≠ .free

theorem bindL_out {kindOf : Str → Option NameKind} {x : Str} : ∀ {binds : List (Str × Value)} {m : Str → Option Value}, (∀ v, (x, v) ∉ binds) → bindL kindOf binds m x = m x
  | [], _, _ => rfl
  | (n, v) :: r, m, h => by
    unfold bindL
    rw [bindL_out fun w hw => h w (List.mem_cons_of_mem _ hw)]
    split
    · have : x ≠ n := by rintro rfl; exact h v List.mem_cons_self
      simp [this]
    · rfl
theorem bindC_out {kindOf : Str → Option NameKind} {x : Str} : ∀ {binds : List (Str × Value)} {m : Str → Option Value}, (∀ v, (x, v) ∉ binds) → bindC kindOf binds m x = m x
  | [], _, _ => rfl
  | (n, v) :: r, m, h => by
    unfold bindC
    rw [bindC_out fun w hw => h w (List.mem_cons_of_mem _ hw)]
    split
    · rfl
    · have : x ≠ n := by rintro rfl; exact h v List.mem_cons_self
      simp [this]
theorem bindL_get {kindOf : Str → Option NameKind} {x : Str} {v : Value} : ∀ {P : List Str} {vs : List Value} {i : Nat} {m : Str → Option Value}, P.Nodup → P[i]? = some x → vs[i]? = some v → kindOf x = some .local →
    bindL kindOf (P.zip vs) m x = some v
  | [], _, _, _, _, h, _, _ => by simp at h
  | _ :: _, [], _, _, _, _, h, _ => by simp at h
  | p :: P, w :: vs, 0, m, nd, h1, h2, hk => by
    simp at h1 h2; subst h1; subst h2
    show bindL kindOf ((p, w) :: P.zip vs) m p = _
    unfold bindL
    rw [bindL_out fun v hv => (List.nodup_cons.mp nd).1 (List.of_mem_zip hv).1, if_pos hk]
    simp
  | p :: P, w :: vs, i + 1, m, nd, h1, h2, hk => by
    show bindL kindOf ((p, w) :: P.zip vs) m x = _
    unfold bindL
    exact bindL_get (i := i) (List.nodup_cons.mp nd).2 (by simpa using h1) (by simpa using h2) hk
theorem bindC_get {kindOf : Str → Option NameKind} {x : Str} {v : Value} : ∀ {P : List Str} {vs : List Value} {i : Nat} {m : Str → Option Value}, P.Nodup → P[i]? = some x → vs[i]? = some v → kindOf x ≠ some .local →
    bindC kindOf (P.zip vs) m x = some v
  | [], _, _, _, _, h, _, _ => by simp at h
  | _ :: _, [], _, _, _, _, h, _ => by simp at h
  | p :: P, w :: vs, 0, m, nd, h1, h2, hk => by
    simp at h1 h2; subst h1; subst h2
    show bindC kindOf ((p, w) :: P.zip vs) m p = _
    unfold bindC
    rw [bindC_out fun v hv => (List.nodup_cons.mp nd).1 (List.of_mem_zip hv).1, if_neg hk]
    simp
  | p :: P, w :: vs, i + 1, m, nd, h1, h2, hk => by
    show bindC kindOf ((p, w) :: P.zip vs) m x = _
    unfold bindC
    exact bindC_get (i := i) (List.nodup_cons.mp nd).2 (by simpa using h1) (by simpa using h2) hk

/-- the names' values at the entry -/
def start (N : List Str) (vs : List V) : St := vs.map some ++ List.replicate (N.length - vs.length) none

/-- the context of a def's body, at its entry; an exception leaves the frame, then lies as CX says -/
def cxOf (CX : CXT) (P : Program) (w : World) (K : PySem.W.Frag) (mg : Str → Option Value) (base : Heap) (N : List Str) (qual : Str) (scope : Scope) (f : Addr) (cd : Value) (A : Around) (outer : List Env) (s : Shared) (H : Hp) (E : XK) : Cx where
  prog := P
  w := w
  K := K
  mg := mg
  base := base
  A := A.deeper (envOfC qual scope s.heap.objs.size f cd)
  N := N
  s₀ := s
  H₀ := H
  env := envOfC qual scope s.heap.objs.size f cd
  outer := outer
  stack := envOfC qual scope s.heap.objs.size f cd :: outer
  ex := []
  calm := true
  fn := fun _ => true
  pn := []
  xe := fun e s' => wpAny (model P w) (A.deeper (envOfC qual scope s.heap.objs.size f cd)) (leaving (envOfC qual scope s.heap.objs.size f cd) e) (fun _ s'' => CX outer H s E e s'') (fun e' s'' => CX outer H s E e' s'') s'

theorem cell_has {sc : Scope} {n : Nat} {x : Str} (h : sc.names.lookup x = some .cell) : ∃ c, (cellsFrom n sc.names []).lookup x = some c := by
  have q := PySem.W.cellsFrom_some sc.names n [] (.inl h)
  exact Option.isSome_iff_exists.mp q

theorem inv_start {CX : CXT} {P : Program} {w : World} {K : PySem.W.Frag} {mg : Str → Option Value} {base : Heap} {N ps : List Str} {qual : Str} {scope : Scope} {f : Addr} {cd : Value} {A : Around} {outer : List Env} {s s1 : Shared} {H : Hp} {E : XK} {us : List Value} {vs : List V}
    (S : FnScope N ps scope) (hd : A.handled = none) (e0 : Env0 P w K mg base A outer s H) (hl : vs.length = ps.length) (r : Vals vs us)
    (x : InCallC s s.heap.objs.size (bindL (envOfC qual scope s.heap.objs.size f cd).kindOf (ps.zip us) fun _ => none) (cellsFrom (s.heap.objs.size + 1) scope.names []) (bindC (envOfC qual scope s.heap.objs.size f cd).kindOf (ps.zip us) fun _ => none) s1) :
    Inv (cxOf CX P w K mg base N qual scope f cd A outer s H E) [] (start N vs) H s1 := by
  have hpl : ps.length ≤ N.length := by have := congrArg List.length S.pre; rw [List.length_take] at this; omega
  obtain ⟨h1, tk, rfl, hk⟩ := x.done
  have noA : ∀ b : Addr, b ∉ (cxOf CX P w K mg base N qual scope f cd A outer s H E).ex := fun b z => absurd (show b ∈ ([] : List Addr) from z) (by simp)
  refine ⟨⟨e0.mod, S.kind, rfl, rfl, Nat.le_refl _, fun y z c h1 h2 => ?_, fun y hy => ?_, fun y c _ h => ?_, fun _ => hd, Around.frames_deeper e0.frames, .inr ⟨rfl, rfl⟩, fun b z => absurd z (noA b), e0.bs, e0.bsz, fun b _ _ => noA b, fun b z => absurd z (noA b), e0.funs, e0.frf⟩,
    rfl, e0.bare, Un.kept hk, ⟨_, x.toInCall.ns, fun i y v h1 h2 h3 => ?_⟩, fun y c h => ⟨_, x.cell y c h⟩, e0.hok.fresh (Nat.le_refl _), fun y c h => ?_, fun p hp => absurd (show p ∈ ([] : List (Addr × Obj)) from hp) (by simp), e0.hok.kept hk, ?_⟩
  · exact name_of_addr x.apart (PySem.mem_of_lookup h1) (PySem.mem_of_lookup h2)
  · have hy : scope.names.lookup y = some .cell ∨ scope.names.lookup y = some .free := hy
    rcases hy with hy | hy
    · exact cell_has hy
    · exact absurd rfl (S.nofree _ (PySem.mem_of_lookup hy))
  · exact Nat.le_of_lt (x.above y c (PySem.mem_of_lookup h))
  · have hi : i < vs.length := by
      unfold start at h2
      by_cases hi : i < vs.length
      · exact hi
      · rw [List.getElem?_append_right (by simpa using hi)] at h2
        rw [List.getElem?_replicate] at h2
        split at h2 <;> cases h2
    have ha : vs[i]? = some v := by
      unfold start at h2
      rw [List.getElem?_append_left (by simpa using hi), List.getElem?_map] at h2
      cases e : vs[i]? with
      | none => rw [e] at h2; cases h2
      | some a => rw [e] at h2; cases h2; rfl
    obtain ⟨u, hu, rv⟩ := r.get ha
    have hp : ps[i]? = some y := by
      rw [← S.pre, List.getElem?_take_of_lt (by omega)]; exact h1
    have ndP : ps.Nodup := by rw [← S.pre]; exact S.nd.sublist (List.take_sublist _ _)
    refine ⟨u, rv, ?_⟩
    rcases S.par y (List.mem_of_getElem? hp) with k | k
    · exact .inl ⟨k, bindL_get ndP hp hu k⟩
    · obtain ⟨c, e⟩ := cell_has (n := s.heap.objs.size + 1) k
      refine .inr ⟨.inl k, c, e, ?_⟩
      have q := x.cell y c e
      rw [bindC_get ndP hp hu (by show scope.names.lookup y ≠ _; rw [k]; decide)] at q
      exact q
  · exact e0.hok.fresh (Nat.le_of_lt (x.above y c (PySem.mem_of_lookup h)))
  · unfold start
    show _ = N.length
    rw [List.length_append, List.length_map, List.length_replicate]
    omega

/-- THE RULE: a def (or a method) of the text, by its body. The body's reading t is chosen for each entry; it is run at the parameters' values -/
theorem fn_of {CX : CXT} {P : Program} {w : World} {K : PySem.W.Frag} {mg : Str → Option Value} {base : Heap} {k : Nat} {f : Addr} {name qual : Str} {params : Arguments} {body : List Stmt} {scope : Scope} {dV kV doc pm cdv ct oc : Value} {an od : Option Addr}
    {osl : Array (Option Value)} {N ps : List Str} {sp : Sp} (lk : K.lookup f = some ⟨oc, od, .func (PySem.W.fnOf name qual params body scope dV kV doc pm an cdv ct), osl⟩) (hcd : PySem.W.codeIn K cdv qual = true) (S : FnScope N ps scope)
    (len : ∀ vs H Q E, sp vs H Q E → vs.length = ps.length)
    (hbody : ∀ (A : Around) (outer : List Env) (s : Shared) (H : Hp) (vs : List V) (Q : VK) (E : XK), Room k (A.deeper (envOfC qual scope s.heap.objs.size f cdv)) → sp vs H Q E →
      ∃ t, PSs (cxOf CX P w K mg base N qual scope f cdv A outer s H E) body t ∧ t { nx := fun _ H' => Q .non H', rt := Q } (start N vs) H) :
    FnOk P w K mg base CX (k + 1) f (PySem.W.fnOf name qual params body scope dV kV doc pm an cdv ct) ps sp := by
  refine ⟨len, fun A outer s H args us vs Q E hr e0 hb r hsp => ?_⟩
  have hl := len _ _ _ _ hsp
  have KX : K.In s.heap := e0.mod.kin.keeps fun b o e => (e0.bs b o e).1
  have lim : s.heap.NoLimit := e0.mod.nolimit.keeps fun b o e => (e0.bs b o e).1
  have hkind : ∀ y ∈ ps.zip us, scope.names.lookup y.1 = some .local ∨ (scope.names.lookup y.1 = some .cell ∧ ((cellsFrom (s.heap.objs.size + 1) scope.names []).lookup y.1).isSome = true) := fun ⟨n, v⟩ hy => by
    rcases S.par n (List.of_mem_zip hy).1 with q | q
    · exact .inl q
    · exact .inr ⟨q, PySem.W.cellsFrom_some _ _ _ (.inl q)⟩
  refine codeAny_call_function hr.depth (KX _ _ lk) rfl S.co S.gen rfl (PySem.W.codeRec_of KX hcd) (hb _ _ _ _ ?_)
  refine wpAny_newFunctionEnv_cells S.kind hkind fun env he s1 x => ?_
  subst he
  refine ⟨lim.keeps x.toInCall.keep, codeAny_func ?_⟩
  obtain ⟨t, ht, hq⟩ := hbody A outer s H vs Q E (hr.deeper _) hsp
  have I : Inv (cxOf CX P w K mg base N qual scope f cdv A outer s H E) [] (start N vs) H s1 := inv_start S hr.hd e0 hl r x
  refine wpAny_mono (ht [] s1 (start N vs) H _ I hq) (fun fl s' hs => ?_) fun e s' hs => hs
  have fin : ∀ {σ' : St} {H' : Hp} {v : V} {u : Value}, Inv (cxOf CX P w K mg base N qual scope f cdv A outer s H E) [] σ' H' s' → RelV v u → Q v H' → CE outer P w H s Q u s' :=
    fun {σ' H' v u} J rv q => ⟨v, H', J.os, J.bare, J.base, J.hok, rv, q⟩
  cases fl with
  | ret u =>
    obtain ⟨v, σ', H', J, rv, q⟩ := hs
    exact fin J rv q
  | next =>
    obtain ⟨σ', H', J, q⟩ := hs
    exact fin (v := V.non) (u := Value.none) J rfl q
  | brk =>
    obtain ⟨_, _, _, q⟩ := hs
    exact False.elim q
  | cont =>
    obtain ⟨_, _, _, q⟩ := hs
    exact False.elim q
end L2

namespace L2
open PySem PySem.Spec PyProof.Rows
section
variable {X : Cx} {x : Str} {p pos : Pos} {e : Expr} {es : List Expr} {t : TA} {id T : String} {r : List V → Hp → VK → Prop}

def tCB (r : List V → Hp → VK → Prop) (t : TA) : TE := fun σ H Q => t σ H fun vs H1 => r vs H1 Q
/-- f(e, ..), f a built-in function -/
theorem pe_callB (hc : CallR X (.builtin id) r) (hg : Gl X x) (hm : X.mg x = none) (hv : bootBuiltins x = some (.builtin id)) (ha : PA X (e :: es) t) (hn : x ≠ "__name__" := by decide) (hdb : (x == ("__debug__" : Str)) = false := by decide)
    (he : starEach (e :: es) X.env = (false, eval e X.env) :: starEach es X.env := by rfl) (hpl : (backTo pos (starEach es X.env)).any (·.1) = false := by rfl) : PE X (.Call (.Name x p) (e :: es) [] pos) (tCB r t) := by
  intro pins s σ H Q I h
  refine wpAny_Call_Name_kw (ld_blt I hg hm hv ?_ hn hdb)
  exact PyProof.Rows.callWith_builtin1 (thn (ha pos pins s σ H _ I h) fun us s1 ⟨vs, H1, I1, r1, q1⟩ => hc pins s1 σ H1 vs us Q I1 r1 q1) he hpl
/-- T(e, ..), T a built-in type -/
theorem pe_callTy (hc : CallR X (.type T) r) (hg : Gl X x) (hm : X.mg x = none) (hv : bootBuiltins x = some (.type T)) (ha : PA X (e :: es) t) (hn : x ≠ "__name__" := by decide) (hdb : (x == ("__debug__" : Str)) = false := by decide)
    (he : starEach (e :: es) X.env = (false, eval e X.env) :: starEach es X.env := by rfl) (hpl : (backTo pos (starEach es X.env)).any (·.1) = false := by rfl) : PE X (.Call (.Name x p) (e :: es) [] pos) (tCB r t) := by
  intro pins s σ H Q I h
  refine wpAny_Call_Name_kw (ld_blt I hg hm hv ?_ hn hdb)
  exact PyProof.Rows.callWith_type1 (thn (ha pos pins s σ H _ I h) fun us s1 ⟨vs, H1, I1, r1, q1⟩ => hc pins s1 σ H1 vs us Q I1 r1 q1) he hpl
end
end L2

namespace HT
open PySem PyProof.Rows

/-- t < u of tuples of ints -/
def lexLt : List Int → List Int → Bool
  | [], [] => false
  | [], _ :: _ => true
  | _ :: _, [] => false
  | x :: xs, y :: ys => if x = y then lexLt xs ys else decide (x < y)
section
open PySem.SeqAt
open PySem.AutoSeq1 (wpAny_loadPart')
open PySem.MeetsSeq PySem.MeetsSeq2 PySem.MeetsSeq3

end

section
variable {prog : Program} {w : World} {A : Around} {E : Value → Shared → Prop} {s : Shared}

/-! ### t[a:b], not the whole -/
/-- a slice's bound as a place among n (d where it is left out) -/
def sIx (n d : Nat) : Option Int → Nat
  | none => d
  | some v => if v < 0 then (v + (n : Int)).toNat else min v.toNat n
theorem sIx_none (n d : Nat) : sIx n d none = d := rfl
theorem sIx_nat (n d k : Nat) : sIx n d (some (k : Int)) = min k n := by
  show (if (k : Int) < 0 then ((k : Int) + (n : Int)).toNat else min (k : Int).toNat n) = min k n
  rw [if_neg (by omega), Int.toNat_natCast]
end
end HT

namespace L2
open PySem PySem.Spec PyProof.Rows

/-! ### the parts of a slice -/
abbrev TO := St → Hp → (Option Int → Hp → Prop) → Prop
/-- a slice's part (left out, or an int) -/
def PO (X : Cx) (e : Option Expr) (t : TO) : Prop :=
  ∀ (pins : List (Addr × Obj)) (s : Shared) (σ : St) (H : Hp) (Q : Option Int → Hp → Prop), Inv X pins σ H s → t σ H Q →
    wpAny (model X.prog X.w) X.A (evalPart e X.env) (fun u s' => ∃ o H', Inv X pins σ H' s' ∧ IsPart u o ∧ Q o H') X.xe s
def tNoPart : TO := fun _ H Q => Q none H
def tPart (t : TE) : TO := fun σ H Q => t σ H fun x H1 => ∃ i, x = .int i ∧ Q (some i) H1

section
variable {X : Cx} {e : Expr} {te : TE} {lo hi : Option Expr} {tl th : TO} {pos p2 : Pos}

theorem po_none : PO X none tNoPart := by
  intro pins s σ H Q I h
  rw [evalPart_none]
  exact wpAny_pure ⟨none, H, I, .none, h⟩
theorem po_some (h : PE X e te) : PO X (some e) (tPart te) := by
  intro pins s σ H Q I hw
  rw [evalPart_some]
  refine thn (h pins s σ H _ I hw) fun u s1 ⟨x, H1, I1, r1, q1⟩ => ?_
  obtain ⟨i, rfl, q⟩ := q1
  obtain ⟨t, rfl⟩ := r1
  exact ⟨some i, H1, I1, .int i t, q⟩

/-- what a slice of a value is, by values: the slice object stands at sl -/
def SlR (X : Cx) (r : V → Option Int → Option Int → Hp → VK → Prop) : Prop :=
  ∀ (pins : List (Addr × Obj)) (s : Shared) (σ : St) (H : Hp) (x : V) (v vl vu : Value) (lo hi : Option Int) (sl : Addr) (Q : VK), Inv X pins σ H s → RelV x v → s.heap.IsSliceOf sl vl vu .none → IsPart vl lo → IsPart vu hi → r x lo hi H Q →
    ∃ T id, typeLookup (.type T) "__getitem__" = pure (some (.builtin id)) ∧ s.TypeIs v T ∧ wpAny (model X.prog X.w) X.A (getItem v (.ref sl)) (EP X pins σ Q) X.xe s
theorem SlR.or {r r' : V → Option Int → Option Int → Hp → VK → Prop} (h : SlR X r) (h' : SlR X r') : SlR X (fun x lo hi H Q => r x lo hi H Q ∨ r' x lo hi H Q) := by
  intro pins s σ H x v vl vu lo hi sl Q I rx hs pl pu q
  rcases q with q | q
  · exact h pins s σ H x v vl vu lo hi sl Q I rx hs pl pu q
  · exact h' pins s σ H x v vl vu lo hi sl Q I rx hs pl pu q
def tSl (r : V → Option Int → Option Int → Hp → VK → Prop) (te : TE) (tl th : TO) : TE := fun σ H Q => te σ H fun x H1 => tl σ H1 fun l H2 => th σ H2 fun u H3 => r x l u H3 Q
/-- a[lo:hi], any a -/
theorem pe_slice {r : V → Option Int → Option Int → Hp → VK → Prop} (hr : SlR X r) (he : PE X e te) (hl : PO X lo tl) (hu : PO X hi th) : PE X (.Subscript e (.Slice lo hi none p2) pos) (tSl r te tl th) := by
  intro pins s σ H Q I h
  refine Subscript_ (thn (he pins s σ H _ I h) fun v s1 ⟨x, H1, I1, r1, q1⟩ => ?_)
  refine wpAny_Slice (thn (hl pins s1 σ H1 _ I1 q1) fun vl s2 ⟨l, H2, I2, pl, q2⟩ => thn (hu pins s2 σ H2 _ I2 q2) fun vu s3 ⟨u, H3, I3, pu, q3⟩ => ?_)
  rw [evalPart_none]
  refine wpAny_pure ?_
  have I4 : Inv X pins σ H3 { s3 with heap := s3.heap.push { cls := .type "slice", data := .fields #[vl, vu, .none] } } := I3.kept (t' := s3.toks) fun b ob q => Heap.get?_push_of_some _ q
  obtain ⟨T, id, hT, ht, hg⟩ := hr pins { s3 with heap := s3.heap.push { cls := .type "slice", data := .fields #[vl, vu, .none] } } σ H3 x v vl vu l u s3.heap.objs.size Q I4 r1 (Heap.IsSliceOf.new ..) pl pu q3
  show wpAny (model X.prog X.w) X.A (subscriptTail e (.Slice lo hi none p2) v (.ref s3.heap.objs.size)) (EP X pins σ Q) X.xe { s3 with heap := s3.heap.push { cls := .type "slice", data := .fields #[vl, vu, .none] } }
  exact tail_any (ops := [.ref s3.heap.objs.size, v]) ht hT hg (by with_unfolding_all rfl)

/-- the items of xs[lo:hi] -/
def cutV (xs : List V) (lo hi : Option Int) : List V := (xs.drop (HT.sIx xs.length 0 lo)).take (HT.sIx xs.length xs.length hi - HT.sIx xs.length 0 lo)
theorem cutV_length (xs : List V) (lo hi : Option Int) : (cutV xs lo hi).length ≤ xs.length := by
  unfold cutV
  rw [List.length_take, List.length_drop]
  omega
/-- t[lo:hi], not the whole of it (the whole would be t itself) -/
def rSlT (K : PySem.W.Frag) : V → Option Int → Option Int → Hp → VK → Prop := fun x lo hi H Q => ∃ a xs, x = .ref a ∧ SqT K H a xs ∧
  ¬ (HT.sIx xs.length 0 lo = 0 ∧ HT.sIx xs.length xs.length hi = xs.length) ∧ ∀ p, H p = none → Q (.ref p) (upd H p (.tup (cutV xs lo hi)))
/-! ### t < u, t + u -/
def rLtT (K : PySem.W.Frag) : R2 := fun x y H Q => ∃ a b ns ms, x = .ref a ∧ y = .ref b ∧ SqT K H a (ns.map V.int) ∧ SqT K H b (ms.map V.int) ∧ Q (.bl (HT.lexLt ns ms)) H
/-- t + u, t not empty: u empty gives t itself -/
def rCatT (K : PySem.W.Frag) : R2 := fun x y H Q => ∃ a b xs ys, x = .ref a ∧ y = .ref b ∧ SqT K H a xs ∧ SqT K H b ys ∧ xs ≠ [] ∧ xs.length + ys.length ≤ sizeLine ∧
  (ys = [] → Q (.ref a) H) ∧ (ys ≠ [] → ∀ p, H p = none → Q (.ref p) (upd H p (.tup (xs ++ ys))))
end
end L2

namespace L2
open PySem PySem.Spec PyProof.Rows

/-! ### places -/
/-- the place that an index of any sign means -/
def ixN (n : Nat) (i : Int) : Option Nat := if 0 ≤ i then (if i < n then some i.toNat else none) else if -(n : Int) ≤ i then some (i + n).toNat else none
def atI {α : Type} (xs : List α) (i : Int) : Option α := (ixN xs.length i).bind fun j => xs[j]?
theorem ixN_seq {n : Nat} {i : Int} {j : Nat} (h : ixN n i = some j) : seqIndex? i n = some j ∧ j < n ∧ -(n : Int) ≤ i ∧ i < n := by
  unfold ixN at h
  by_cases h0 : 0 ≤ i
  · rw [if_pos h0] at h
    by_cases h1 : i < n
    · rw [if_pos h1] at h
      have e : i.toNat = j := Option.some.inj h
      exact ⟨by rw [seqIndex_of h0 h1, e], by omega, by omega, h1⟩
    · rw [if_neg h1] at h; cases h
  · rw [if_neg h0] at h
    by_cases h1 : -(n : Int) ≤ i
    · rw [if_pos h1] at h
      have e : (i + n).toNat = j := Option.some.inj h
      exact ⟨by rw [seqIndex_neg (by omega) h1, e], by omega, h1, by omega⟩
    · rw [if_neg h1] at h; cases h
theorem atI_get {α : Type} {xs : List α} {i : Int} {v : α} (h : atI xs i = some v) : ∃ j, seqIndex? i xs.length = some j ∧ xs[j]? = some v ∧ j < xs.length ∧ -(xs.length : Int) ≤ i ∧ i < xs.length := by
  unfold atI at h
  cases e : ixN xs.length i with
  | none => rw [e] at h; cases h
  | some j =>
    rw [e] at h
    obtain ⟨h1, h2, h3, h4⟩ := ixN_seq e
    exact ⟨j, h1, h, h2, h3, h4⟩
theorem atI_nat {α : Type} {xs : List α} {j : Nat} {v : α} (h : xs[j]? = some v) : atI xs (j : Int) = some v := by
  have hj : j < xs.length := (List.getElem?_eq_some_iff.mp h).1
  have e : ixN xs.length (j : Int) = some j := by
    unfold ixN
    rw [if_pos (by omega), if_pos (by omega)]; simp
  unfold atI; rw [e]; exact h
theorem atI_last {α : Type} (xs : List α) (v : α) : atI (xs ++ [v]) (-1) = some v := by
  have hl : (xs ++ [v]).length = xs.length + 1 := by simp
  have e : ixN (xs ++ [v]).length (-1) = some xs.length := by
    unfold ixN
    rw [hl, if_neg (by decide), if_pos (by omega)]
    congr 1
    omega
  unfold atI
  rw [e]
  show (xs ++ [v])[xs.length]? = some v
  simp

/-! ### what may be subscripted -/
/-- what stands as an index of a plain subscript -/
def PlainIx (b : Expr) : Prop := ∀ o i, subscripted b false o i = operate [o, i] (getItem o i)
/-- a subscript by values -/
def IxR (X : Cx) (r : R2) : Prop :=
  ∀ (value slice : Expr) (pins : List (Addr × Obj)) (s : Shared) (σ : St) (H : Hp) (x y : V) (v u : Value) (Q : VK), Inv X pins σ H s → RelV x v → RelV y u → r x y H Q →
    subscripted slice false v u = operate [v, u] (getItem v u) → wpAny (model X.prog X.w) X.A (subscriptTail value slice v u) (EP X pins σ Q) X.xe s
/-- a call of a builtin's method by values: the receiver, the arguments -/
def MtR (X : Cx) (id : String) (r : V → List V → Hp → VK → Prop) : Prop :=
  ∀ (pins : List (Addr × Obj)) (s : Shared) (σ : St) (H : Hp) (x : V) (xs : List V) (v : Value) (us : List Value) (Q : VK), Inv X pins σ H s → RelV x v → Vals xs us → r x xs H Q →
    wpAny (model X.prog X.w) X.A (call (.builtin id) (v :: us)) (EP X pins σ Q) X.xe s
section
variable {X : Cx} {a b : Expr} {ta tb : TE} {pos : Pos}
theorem IxR.or {r r' : R2} (h : IxR X r) (h' : IxR X r') : IxR X (fun x y H Q => r x y H Q ∨ r' x y H Q) := by
  intro value slice pins s σ H x y v u Q I rx ry q hs
  rcases q with q | q
  · exact h value slice pins s σ H x y v u Q I rx ry q hs
  · exact h' value slice pins s σ H x y v u Q I rx ry q hs
theorem MtR.or {id : String} {r r' : V → List V → Hp → VK → Prop} (h : MtR X id r) (h' : MtR X id r') : MtR X id (fun x xs H Q => r x xs H Q ∨ r' x xs H Q) := by
  intro pins s σ H x xs v us Q I rx rs q
  rcases q with q | q
  · exact h pins s σ H x xs v us Q I rx rs q
  · exact h' pins s σ H x xs v us Q I rx rs q
/-- a[b] -/
theorem pe_ix {r : R2} (hr : IxR X r) (ha : PE X a ta) (hb : PE X b tb) (hs : PlainIx b) : PE X (.Subscript a b pos) (tOp r ta tb) := by
  intro pins s σ H Q I h
  exact Subscript_ (binT ha hb I h fun v u s2 x y H2 I2 rx ry q => hr a b pins s2 σ H2 x y v u Q I2 rx ry q (hs _ _))

def rIxL (K : PySem.W.Frag) : R2 := fun x y H Q => ∃ p xs i v, x = .ref p ∧ y = .int i ∧ SqL K H p xs ∧ atI xs i = some v ∧ Q v H
def rIxT (K : PySem.W.Frag) : R2 := fun x y H Q => ∃ p xs i v, x = .ref p ∧ y = .int i ∧ SqT K H p xs ∧ atI xs i = some v ∧ Q v H
def rIxS : R2 := fun x y H Q => ∃ z i c, x = .str z ∧ y = .int i ∧ z.length ≤ sizeLine ∧ atI z.cps.toList i = some c ∧ Q (.str ⟨#[c]⟩) H
theorem ix_list : IxR X (rIxL X.K) := by
  intro value slice pins s σ H x y v u Q I rx ry h hs
  obtain ⟨p, xs, i, z, rfl, rfl, hq, he, q⟩ := h
  cases rx
  obtain ⟨t, rfl⟩ := ry
  obtain ⟨its, r, pl, hz⟩ := I.list hq
  obtain ⟨j, h1, h2, h3, h4, h5⟩ := atI_get he
  obtain ⟨w, ew, rw'⟩ := r.get h2
  have hl := r.length
  have hn := line63
  have fin : EP X pins σ Q w s := ⟨z, H, I, rw', q⟩
  by_cases h0 : 0 ≤ i
  · have hj : i.toNat = j := by
      rw [seqIndex_of h0 h5] at h1
      exact Option.some.inj h1
    exact item_listR pl.isList h0 (by omega) (by rw [hj]; simpa using ew) fin hs
  · have hj : (i + (its.toArray.size : Int)).toNat = j := by
      rw [seqIndex_neg (by omega) h4] at h1
      rw [List.size_toArray, ← hl]
      exact Option.some.inj h1
    exact subscriptTail_builtinR (x := w) pl.isList.typeIs slot_list_getitem.lookup
      (wpAny_getItem_list_neg (Q := fun r s' => r = w ∧ EP X pins σ Q r s') pl.isList (by omega) (by rw [List.size_toArray] <;> omega) (by omega) (by rw [hj]; simpa using ew) ⟨rfl, fin⟩) hs
theorem ix_tup : IxR X (rIxT X.K) := by
  intro value slice pins s σ H x y v u Q I rx ry h hs
  obtain ⟨p, xs, i, z, rfl, rfl, hq, he, q⟩ := h
  cases rx
  obtain ⟨t, rfl⟩ := ry
  obtain ⟨its, r, pl, hz⟩ := I.tuple hq
  obtain ⟨j, h1, h2, h3, h4, h5⟩ := atI_get he
  obtain ⟨w, ew, rw'⟩ := r.get h2
  have hl := r.length
  have hn := line63
  have fin : EP X pins σ Q w s := ⟨z, H, I, rw', q⟩
  exact subscriptTail_builtinR (x := w) pl.typeIs slot_tuple_getitem.lookup
    (getItem_tuple (j := j) (Q := fun r s' => r = w ∧ EP X pins σ Q r s') pl (by omega) (by omega) (by rw [List.size_toArray, ← hl]; exact h1) (by simpa using ew) ⟨rfl, fin⟩) hs
theorem ix_str : IxR X rIxS := by
  intro value slice pins s σ H x y v u Q I rx ry h hs
  obtain ⟨z, i, c, rfl, rfl, hz, he, q⟩ := h
  obtain ⟨t, rfl⟩ := rx
  obtain ⟨t', rfl⟩ := ry
  obtain ⟨j, h1, h2, h3, h4, h5⟩ := atI_get he
  have hl : z.cps.toList.length = z.length := by simp [Str.length]
  rw [hl] at h1 h4 h5
  have hn := line63
  exact tail_any (typeIs_str s z t) slot_str_getitem.lookup (getItem_str (c := c) (by
    have e1 : decide (i < -(2 ^ 63 : Int)) = false := decide_eq_false (by omega)
    have e2 : decide (i ≥ 2 ^ 63) = false := decide_eq_false (by omega)
    rw [e1, e2, Bool.or_false]) (by rw [h1]; simpa using h2) ⟨.str ⟨#[c]⟩, H, I.tok _, ⟨_, rfl⟩, q⟩) hs
/-- list, tuple or str -/
def rIx (K : PySem.W.Frag) : R2 := fun x y H Q => rIxL K x y H Q ∨ rIxT K x y H Q ∨ rIxS x y H Q
/-! ### xs[i] = v, any sign -/
theorem Inv.lst {pins : List (Addr × Obj)} {σ : St} {H : Hp} {s : Shared} {p : Addr} {xs : List V} (I : Inv X pins σ H s) (h : H p = some (.lst xs)) :
    ∃ (its : List Value) (n : Nat), Vals xs its ∧ s.heap.get? p = some { cls := .type "list", data := .seq its.toArray n } ∧ xs.length ≤ sizeLine := by
  obtain ⟨z, its, n, r, e⟩ := I.hok p _ h
  exact ⟨its, n, r, e, z⟩
def rSetL : V → V → V → Hp → (Hp → Prop) → Prop := fun o i v H Q => ∃ p xs k j, o = .ref p ∧ i = .int k ∧ H p = some (.lst xs) ∧ ixN xs.length k = some j ∧ Q (upd H p (.lst (xs.set j v)))
/-! ### slices -/
theorem slice_bounds (lo hi : Option Int) (n : Nat) : (sliceBounds lo hi none n).1 = ((HT.sIx n 0 lo : Nat) : Int) ∧ (sliceBounds lo hi none n).2.1 = ((HT.sIx n n hi : Nat) : Int) ∧ (sliceBounds lo hi none n).2.2 = 1 := by
  refine ⟨?_, ?_, rfl⟩
  · cases lo with
    | none => simp [sliceBounds, HT.sIx]
    | some i =>
      simp only [sliceBounds, HT.sIx, Option.getD_none, show (1 : Int) > 0 by decide, if_true]
      by_cases h : i < 0
      · simp only [h, if_true] <;> omega
      · simp only [h, if_false] <;> omega
  · cases hi with
    | none => simp [sliceBounds, HT.sIx]
    | some i =>
      simp only [sliceBounds, HT.sIx, Option.getD_none, show (1 : Int) > 0 by decide, if_true]
      by_cases h : i < 0
      · simp only [h, if_true] <;> omega
      · simp only [h, if_false] <;> omega
theorem slicePick_cut (its : List Value) (lo hi : Option Int) : slicePick its.toArray lo hi none = ((its.drop (HT.sIx its.length 0 lo)).take (HT.sIx its.length its.length hi - HT.sIx its.length 0 lo)).toArray := by
  obtain ⟨h1, h2, h3⟩ := slice_bounds lo hi its.toArray.size
  unfold slicePick
  rw [h1, h2, h3]
  simp only [sliceRange_one, pick_run, List.size_toArray] <;> rfl
/-- xs[lo:hi] of a list: a new list -/
def rSlL (K : PySem.W.Frag) : V → Option Int → Option Int → Hp → VK → Prop := fun x lo hi H Q => ∃ a xs, x = .ref a ∧ SqL K H a xs ∧ ∀ p, H p = none → Q (.ref p) (upd H p (.lst (cutV xs lo hi)))
theorem sl_list : SlR X (rSlL X.K) := by
  intro pins s σ H x v vl vu lo hi sl Q I rx hs pl pu h
  obtain ⟨a, xs, rfl, hx, q⟩ := h
  cases rx
  obtain ⟨its, r, ht, hz⟩ := I.list hx
  have hlen := r.length
  refine ⟨"list", _, slot_list_getitem.lookup, ht.isList.typeIs, ?_⟩
  refine wpAny_getItem_list_slice ht.isList hs pl pu .none (by simp) ?_ (by rw [List.size_toArray] <;> omega)
  rw [slicePick_cut, ← hlen]
  refine ⟨.ref s.heap.objs.size, _, I.laid (t' := s.toks) (o := .lst (cutV xs lo hi)) (fun b ob q => Heap.get?_push_of_some _ q) (Nat.le_refl _) ?_, rfl, q _ (I.hok.fresh (Nat.le_refl _))⟩
  exact ⟨Nat.le_trans (cutV_length xs lo hi) hz, _, 0, (r.drop (HT.sIx xs.length 0 lo)).take (HT.sIx xs.length xs.length hi - HT.sIx xs.length 0 lo), Heap.get?_push_size _ rfl⟩

/-! ### in, not in: flat items -/
def flatV : V → Bool
  | .non => true
  | .bl _ => true
  | .int _ => true
  | .str _ => true
  | _ => false
/-- == of flat values -/
def eqV : V → V → Bool
  | .non, .non => true
  | .bl a, .bl b => a == b
  | .bl a, .int b => (if a then 1 else 0) == b
  | .int a, .bl b => a == (if b then 1 else 0)
  | .int a, .int b => a == b
  | .str a, .str b => a == b
  | _, _ => false
/-- the items' answers, read off the values (a value's own answer does not lean on its token) -/
def eqU (x : V) (u : Value) : Bool := match u with
  | .none => eqV .non x
  | .bool b => eqV (.bl b) x
  | .int i _ => eqV (.int i) x
  | .str z _ => eqV (.str z) x
  | _ => false
def inV (x : V) (xs : List V) : Bool := xs.any fun y => eqV y x
/-- x in a list or tuple of flat items -/
def rIn (K : PySem.W.Frag) (neg : Bool) : R2 := fun x y H Q => ∃ p xs, y = .ref p ∧ (SqL K H p xs ∨ SqT K H p xs) ∧ flatV x = true ∧ xs.all flatV = true ∧ Q (.bl (if neg then !inV x xs else inV x xs)) H
/-! ### len, list(x), tuple(x) of any list or tuple that is read -/
theorem CallR.or {f : Value} {r r' : List V → Hp → VK → Prop} (h : CallR X f r) (h' : CallR X f r') : CallR X f (fun xs H Q => r xs H Q ∨ r' xs H Q) := by
  intro pins s σ H xs us Q I rs q
  rcases q with q | q
  · exact h pins s σ H xs us Q I rs q
  · exact h' pins s σ H xs us Q I rs q
theorem call_tuple_of : CallR X (.type "tuple") (fun xs H Q => ∃ p ys, xs = [.ref p] ∧ ((SqL X.K H p ys ∧ ∀ l, H l = none → Q (.ref l) (upd H l (.tup ys))) ∨ (SqT X.K H p ys ∧ Q (.ref p) H))) := by
  intro pins s σ H xs us Q I r h
  obtain ⟨p, ys, rfl, h⟩ := h
  obtain ⟨u, rfl, rx⟩ := vals1 r
  cases rx
  rcases h with ⟨hq, q⟩ | ⟨hq, q⟩
  · obtain ⟨its, r', pl, hz⟩ := I.list hq
    have hlen := r'.length
    refine call_tuple_list pl.isList (fun h' kp => ?_) (by simp only [List.size_toArray] <;> omega)
    have I1 : Inv X pins σ H { s with heap := h' } := I.kept (t' := s.toks) kp
    have I2 : Inv X pins σ (upd H h'.objs.size (.tup ys)) { s with heap := h'.push { cls := .type "tuple", data := .seq its.toArray } } :=
      I1.laid (t' := s.toks) (fun b o e => Heap.get?_push_of_some _ e) (Nat.le_refl _) (show ObjOk X.prog X.w _ _ _ (.tup ys) from ⟨hz, its, r', IsTup.new _ _⟩)
    exact ⟨.ref h'.objs.size, _, I2, rfl, q _ (I1.hok.fresh (Nat.le_refl _))⟩
  · obtain ⟨its, r', pl, hz⟩ := I.tuple hq
    exact call_tuple_same pl ⟨.ref p, H, I, rfl, q⟩

/-! ### the call of a builtin's method: o.m(..) -/
/-- the value is of that builtin type -/
def tyV (K : PySem.W.Frag) (T : String) (x : V) (H : Hp) : Prop := match x with
  | .str _ => T = "str"
  | .int _ => T = "int"
  | .ref p => (T = "list" ∧ ∃ xs, SqL K H p xs) ∨ (T = "tuple" ∧ ∃ o, K.lookup p = some o ∧ o.cls = .type "tuple" ∧ o.dict = none) ∨
      (T = "dict" ∧ ((∃ kvs, H p = some (.dK kvs)) ∨ ∃ kvs, H p = some (.dT kvs))) ∨ (T = "set" ∧ ∃ S n, H p = some (.set S n))
  | _ => False
theorem tyV_is {pins : List (Addr × Obj)} {σ : St} {H : Hp} {s : Shared} {T : String} {x : V} {v : Value} (I : Inv X pins σ H s) (r : RelV x v) (ty : tyV X.K T x H) :
    s.TypeIs v T ∧ ∀ a, v = .ref a → ∃ ob, s.heap.get? a = some ob ∧ ob.dict = none := by
  cases x with
  | str z =>
    obtain ⟨t, rfl⟩ := r
    cases (show T = "str" from ty)
    exact ⟨typeIs_str s z t, fun _ e => nomatch e⟩
  | int i =>
    obtain ⟨t, rfl⟩ := r
    cases (show T = "int" from ty)
    exact ⟨typeIs_int s i t, fun _ e => nomatch e⟩
  | ref p =>
    cases r
    rcases ty with ⟨rfl, xs, hq⟩ | ⟨rfl, o, hk, hc, hd⟩ | ⟨rfl, hk⟩ | ⟨rfl, S, n, hk⟩
    · obtain ⟨its, _, pl, _⟩ := I.list hq
      refine ⟨pl.isList.typeIs, fun a e => ?_⟩
      cases e
      obtain ⟨o, n, e, c, hd, _⟩ := pl
      exact ⟨o, e, hd⟩
    · refine ⟨⟨o, I.kIn p o hk, hc⟩, fun a e => ?_⟩
      cases e
      exact ⟨o, I.kIn _ o hk, hd⟩
    · have z : ∃ o, s.heap.get? p = some o ∧ o.ExactDict := by
        rcases hk with ⟨kvs, hk⟩ | ⟨kvs, hk⟩
        · obtain ⟨_, _, _, _, o, _, _, e, ex, _⟩ := I.hok p _ hk
          exact ⟨o, e, ex⟩
        · obtain ⟨_, _, _, _, o, _, _, e, ex, _⟩ := I.hok p _ hk
          exact ⟨o, e, ex⟩
      obtain ⟨o, e, ex⟩ := z
      refine ⟨⟨o, e, ex.1⟩, fun a e2 => ?_⟩
      cases e2
      exact ⟨o, e, ex.2.1⟩
    · obtain ⟨o, _, _, _, e, ex, _⟩ := I.hok p _ hk
      refine ⟨⟨o, e, ex.1⟩, fun a e2 => ?_⟩
      cases e2
      exact ⟨o, e, ex.2.1⟩
  | _ => exact False.elim ty
def tBM0 (K : PySem.W.Frag) (T : String) (r : V → List V → Hp → VK → Prop) (to : TE) : TE := fun σ H Q => to σ H fun x H1 => tyV K T x H1 ∧ r x [] H1 Q
def tBM (K : PySem.W.Frag) (T : String) (r : V → List V → Hp → VK → Prop) (to : TE) (t : TA) : TE := fun σ H Q => to σ H fun x H1 => tyV K T x H1 ∧ t σ H1 fun xs H2 => r x xs H2 Q
variable {o e : Expr} {es : List Expr} {to : TE} {t : TA} {name : Str} {apos cpos : Pos} {T id : String} {r : V → List V → Hp → VK → Prop}
theorem pe_bm (pa : PlainAttrs T) (slot : Slot T name id) (hty : typeOf (.builtin id) = pure (.type "method_descriptor")) (hm : MtR X id r) (ho : PE X o to) (ha : PA X (e :: es) t)
    (hbase : attributeBase o name X.env (eval o X.env) = eval o X.env := by rfl)
    (hfew : ((backTo cpos (starEach (e :: es) X.env)).all (fun x => !x.1) && (backToKw cpos (keywordEach [] X.env)).all (fun x => x.1.isSome)
      && decide ((e :: es).length + ([] : List Keyword).length + (if ([] : List Keyword).isEmpty then 0 else 1) < 30)) = true := by rfl)
    (hline : (apos.endLine == cpos.line) = true := by rfl) (hs : starEach (e :: es) X.env = (false, eval e X.env) :: starEach es X.env := by rfl) (hplain : (backTo cpos (starEach es X.env)).any (·.1) = false := by rfl) :
    PE X (.Call (.Attribute o name apos) (e :: es) [] cpos) (tBM X.K T r to t) := by
  intro pins s σ H Q I h
  refine wpAny_Call_method_late hbase hfew hline rfl (thn (ho pins s σ H _ I h) fun v s1 ⟨x, H1, I1, r1, ty, q1⟩ => ?_)
  obtain ⟨h1, h2⟩ := tyV_is I1 r1 ty
  refine ⟨T, id, pa, slot, hty, h1, h2, ?_⟩
  have hA := ha cpos pins s1 σ H1 _ I1 q1
  rw [hs] at hA ⊢
  refine Calls.callWith_builtin (by show (false || (backTo cpos (starEach es X.env)).any (·.1)) = false; rw [hplain] <;> rfl) (Calls.evalArgs_plain ?_)
  exact thn hA fun us s2 ⟨vs, H2, I2, r2, q2⟩ => hm pins s2 σ H2 x vs v us Q I2 r1 r2 q2
/- xs.append(e), list.index on a module's tuple .. are MtR facts of 06m -/
end
end L2

namespace L2
open PySem PySem.Spec PyProof.Rows

def MtM (X : Cx) (id : String) (r : V → List V → Hp → VK → Prop) : Prop :=
  ∀ (pins : List (Addr × Obj)) (s : Shared) (σ : St) (H : Hp) (x : V) (xs : List V) (v : Value) (us : List Value) (Q : VK), Inv X pins σ H s → RelV x v → Vals xs us → r x xs H Q →
    wpAny (model X.prog X.w) X.A (call (.builtin id) (v :: us)) (EP X pins σ Q) X.xe s

/-! ### lists of values -/
theorem Vals.one : ∀ {x : V} {us : List Value}, Vals [x] us → ∃ u, us = [u] ∧ RelV x u
  | _, _, .cons r .nil => ⟨_, rfl, r⟩
theorem Vals.two : ∀ {x y : V} {us : List Value}, Vals [x, y] us → ∃ u v, us = [u, v] ∧ RelV x u ∧ RelV y v
  | _, _, _, .cons r (.cons q .nil) => ⟨_, _, rfl, r, q⟩
theorem Vals.zero : ∀ {us : List Value}, Vals [] us → us = []
  | _, .nil => rfl
theorem Vals.dropLast {xs : List V} {us : List Value} (h : Vals xs us) : Vals xs.dropLast us.dropLast := by
  induction h with
  | nil => exact .nil
  | cons r t ih =>
    cases t with
    | nil => exact .nil
    | cons q t' => exact .cons r ih
theorem Vals.eraseIdx : ∀ {xs : List V} {us : List Value} (i : Nat), Vals xs us → Vals (xs.eraseIdx i) (us.eraseIdx i)
  | _, _, _, .nil => .nil
  | _, _, 0, .cons _ t => t
  | _, _, i + 1, .cons r t => .cons r (Vals.eraseIdx i t)
theorem Vals.reverse {xs : List V} {us : List Value} (h : Vals xs us) : Vals xs.reverse us.reverse := by
  induction h with
  | nil => exact .nil
  | cons r t ih => rw [List.reverse_cons, List.reverse_cons]; exact Vals.append ih (.cons r .nil)
section
variable {X : Cx} {pins : List (Addr × Obj)} {σ : St} {H : Hp} {s : Shared} {l b : Addr} {xs ys zs : List V}

/-! ### the two steps: a tracked list is rewritten, a new list is laid -/
theorem Inv.lset {its its' : List Value} {n : Nat} {f : Array Value → Array Value} {t' : Nat} (I : Inv X pins σ H s) (hH : H l = some (.lst xs))
    (e : s.heap.get? l = some { cls := .type "list", data := .seq its.toArray n }) (hf : f its.toArray = its'.toArray) (hv : Vals ys its') (hz : ys.length ≤ sizeLine) :
    Inv X pins σ (upd H l (.lst ys)) { s with heap := s.heap.update l (Obj.mapSeq f), toks := t' } := by
  have q := PySem.IsL.update e f
  rw [hf] at q
  refine I.write (x := l) (e := l) (by rw [hH]; exact trivial) (.inl rfl) (fun b' u hb hu => (Heap.get?_update_other s.heap (Obj.mapSeq f) (Ne.symm hb)).trans hu) ⟨_, q⟩ ?_
  exact ⟨hz, its', _, hv, q⟩
theorem Inv.lnew {its : List Value} {t' : Nat} (I : Inv X pins σ H s) (hv : Vals ys its) (hz : ys.length ≤ sizeLine) :
    Inv X pins σ (upd H s.heap.objs.size (.lst ys)) { s with heap := s.heap.push { cls := .type "list", data := .seq its.toArray }, toks := t' } :=
  I.laid (fun _ _ q => Heap.get?_push_of_some _ q) (Nat.le_refl _) ⟨hz, its, 0, hv, Heap.get?_push_size _ rfl⟩
theorem Inv.fresh (I : Inv X pins σ H s) : H s.heap.objs.size = none := I.hok.fresh (Nat.le_refl _)
theorem Inv.lstM (I : Inv X pins σ H s) (hH : H l = some (.lst xs)) : xs.length ≤ sizeLine ∧ ∃ (its : List Value) (n : Nat), Vals xs its ∧ xs.length = its.length ∧ s.heap.get? l = some { cls := .type "list", data := .seq its.toArray n } := by
  obtain ⟨z, its, n, r, e⟩ := I.hok l _ hH
  exact ⟨z, its, n, r, r.length, e⟩

end

section
variable {X : Cx}

/-! ### methods -/
def rAppend : V → List V → Hp → VK → Prop := fun x vs H Q => ∃ l xs y, x = .ref l ∧ vs = [y] ∧ H l = some (.lst xs) ∧ xs.length < sizeLine ∧ Q .non (upd H l (.lst (xs ++ [y])))
theorem mt_append : MtM X "list.append" rAppend := by
  intro pins s σ H x vs v us Q I rx rv h
  obtain ⟨l, xs, y, rfl, rfl, hH, hz, q⟩ := h
  cases rx
  obtain ⟨u, rfl, ru⟩ := rv.one
  obtain ⟨z, its, n, r, hl, e⟩ := I.lstM hH
  refine call_meets F.slot_list_append ⟨_, e, rfl⟩ F.entry_list_append (F.args_list_append_2 _ _) (PySem.list_append l its.toArray n u (by rw [List.size_toArray]; omega)) ⟨e, ?_⟩
  refine ⟨.non, _, I.lset (its' := its ++ [u]) hH e (by simp) (r.append (.cons ru .nil)) ?_, rfl, q⟩
  rw [List.length_append, List.length_singleton]
  omega

def rExtend : V → List V → Hp → VK → Prop := fun x vs H Q => ∃ l b xs zs, x = .ref l ∧ vs = [.ref b] ∧ H l = some (.lst xs) ∧ H b = some (.lst zs) ∧ xs.length + zs.length ≤ sizeLine ∧ Q .non (upd H l (.lst (xs ++ zs)))
def rPop : V → List V → Hp → VK → Prop := fun x vs H Q => ∃ l xs y, x = .ref l ∧ vs = [] ∧ H l = some (.lst xs) ∧ xs[xs.length - 1]? = some y ∧ Q y (upd H l (.lst xs.dropLast))
def rPopAt : V → List V → Hp → VK → Prop := fun x vs H Q => ∃ l xs i k y, x = .ref l ∧ vs = [.int i] ∧ H l = some (.lst xs) ∧ -(2 ^ 63) ≤ i ∧ i < 2 ^ 63 ∧ seqIndex? i xs.length = some k ∧ xs[k]? = some y ∧ Q y (upd H l (.lst (xs.eraseIdx k)))
def rReverse : V → List V → Hp → VK → Prop := fun x vs H Q => ∃ l xs, x = .ref l ∧ vs = [] ∧ H l = some (.lst xs) ∧ Q .non (upd H l (.lst xs.reverse))
def rClear : V → List V → Hp → VK → Prop := fun x vs H Q => ∃ l xs, x = .ref l ∧ vs = [] ∧ H l = some (.lst xs) ∧ Q .non (upd H l (.lst []))
/-! ### list + list, list += list, list * int -/
def rCat : R2 := fun x y H Q => ∃ l b xs zs, x = .ref l ∧ y = .ref b ∧ H l = some (.lst xs) ∧ H b = some (.lst zs) ∧ xs.length + zs.length ≤ sizeLine ∧ ∀ p, H p = none → Q (.ref p) (upd H p (.lst (xs ++ zs)))
/-- a list times an int (a negative one is nothing) -/
def rRep : R2 := fun x y H Q => ∃ l k xs, x = .ref l ∧ y = .int k ∧ H l = some (.lst xs) ∧ -(2 ^ 63) ≤ k ∧ k < 2 ^ 63 ∧ xs.length * k.toNat ≤ sizeLine ∧
  ∀ p, H p = none → Q (.ref p) (upd H p (.lst (List.replicate k.toNat xs).flatten))
/-! ### del xs[i] -/
end

/-! ### xs[a:b] = ys -/
section
variable {prog : Program} {w : World} {A : Around} {E : Value → Shared → Prop} {s : Shared}
end

section
variable {X : Cx}
end
end L2

namespace Att
open PySem PySem.W PySem.Calls PyProof.Rows

/-! ### the script -/
theorem ints_of_wellAll {P : Params} {h : Heap} : ∀ (ns : List Int) (vs : List Value), WellAll P h vs (ns.map WData.int) → IntsAre vs ns := by
  intro ns
  induction ns with
  | nil =>
    intro vs w
    rw [List.map_nil] at w
    cases w
    exact .nil
  | cons n ns ih =>
    intro vs w
    rw [List.map_cons] at w
    cases w with
    | cons a b =>
      cases a
      exact .cons _ _ (ih _ b)

theorem script_of {l : OpenLaw} {n : Nat} (hn : l.most = some n) {P : Params} {h : Heap} {args : List WData} {vals : List Value}
    (hpre : l.row.toRowW.claim.pre args = true) (hwl : WellAll P h vals args) :
    ∃ a vs ns, vals = [Value.ref a] ∧ args = [WData.list (ns.map WData.int)] ∧ h.get? a = some { cls := .type "list", data := .seq vs.toArray } ∧ IntsAre vs ns ∧ ns.length ≤ n := by
  have hsh : WShape.hasAll [] args [.list .int] = true := (pre_splitW hpre).1
  have hc : l.pre.holds [] { args := args } = true := (pre_splitW hpre).2
  obtain ⟨d, r, rfl, h1, h2⟩ := hasAllW_cons hsh
  obtain rfl := hasAllW_nil h2
  obtain ⟨xs, rfl, h3⟩ := hasW_list h1
  obtain ⟨ns, rfl⟩ := items_int h3
  have hlen : ns.length ≤ n := by
    unfold OpenLaw.pre at hc
    have h4 : (WTm.not (.lt (.lit (.int (n : Int))) (.len (.arg 0)))).holds [] { args := [.list (ns.map .int)] } = true := by
      have h4 := (holds_andW hc).1
      rw [hn] at h4
      exact h4
    have h5 := condW_of h4 (w_not (w_lt w_lit (w_len_list (w_arg rfl))))
    rw [List.length_map] at h5
    refine Nat.le_of_not_lt fun q => ?_
    have q' : (n : Int) < ((ns.length : Nat) : Int) := by omega
    first
      | (rw [decide_eq_true q'] at h5; exact absurd h5 (by decide))
      | (simp at h5; omega)
  cases hwl with
  | cons w1 w2 =>
    cases w2
    cases w1 with
    | list ho hall => exact ⟨_, _, ns, rfl, rfl, ho, ints_of_wellAll ns _ hall, hlen⟩

theorem post_true (l : OpenLaw) (args : List WData) : l.row.toRowW.claim.post args (.bool true) args = true :=
  postW_of (r := l.row.toRowW) (X := (true == true))
    (show WShape.has [] (.bool true) .bool = true by first | rfl | decide | simp [WShape.has, WShape.arms, WShape.armsAll])
    (show (WTm.eq .res (.lit (.bool true))).value [] { args := args, res := some (.bool true), after := args } = some (.bool (true == true)) from w_eq_bool (w_res rfl) w_lit) rfl

/-! ### the attachment: holds_open's last premise (the goal 'hc' behind k_head) from a wpAny of the law's body -/
/-- the same from a codeAny of the CALL (for a layer whose function contracts speak of calls) -/
theorem attach_call {l : OpenLaw} {n : Nat} {q : Program} {loose : List Str} {XP : (Str → Option Value) → Heap → Prop} {YP : World → Heap → Prop} {d : DefRec}
    (hn : l.most = some n) (hdf : d.params.defaults = [])
    (call : ∀ (w : World) (s₀ s₁ : Shared) (mg mb : Str → Option Value) (fa : Addr) (o : Obj) (pm cd doc : Value) (a : Addr) (vs : List Value) (ns : List Int),
      Ground q loose [] XP w s₀ mg mb s₁.heap → YP w s₁.heap →
      s₁.heap.get? fa = some o → o.data = .func (docDef d.name d.params d.body d.scope pm cd doc) → s₁.heap.CodeRec cd d.name → mg d.name = some (.ref fa) →
      s₁.heap.get? a = some { cls := .type "list", data := .seq vs.toArray } → IntsAre vs ns → ns.length ≤ n → s₁.gens = #[] →
      codeAny (model l.prog w) callerA (.call (.ref fa) ⟨[.ref a], []⟩) (fun r s' => r = .ok (.ret (.bool true)) ∧ OldK s₁.heap s'.heap ∧ s'.os = s₁.os ∧ AllBare s'.gens) s₁) :
    WalkO q loose XP YP l.row.toRowW d [] (fun f vs => PySem.call f vs) := by
  intro w s₀ s₁ mg mb G Y fa o pm cd doc dV kV ho hd hcd hD hmg hg args vals as hpre hlay hrd hwl hlo
  obtain rfl : dV = .none := Dflts.none hD hdf
  obtain rfl : kV = .none := Dflts.noKw hD
  obtain ⟨a, vs, ns, rfl, rfl, hobj, hints, hlen⟩ := script_of hn hpre hwl
  refine enter_call (codeAny_mono (call w s₀ s₁ mg mb fa o pm cd doc a vs ns G Y ho (fd_plain hd) hcd hmg hobj hints hlen hg) fun r s' hq => ?_)
  obtain ⟨rfl, h2, h3, h4⟩ := hq
  exact ⟨.inl ⟨.bool true, .bool true, [], rfl, fun _ => rfl, .bool true, post_true l _, fun _ => ⟨List.Pairwise.nil, fun _ hm => (nomatch hm)⟩⟩, h2, h3, h4⟩

/-! ### rules over ANY heap (no ledger) from facts about the written part K: the library's own take a ledger (News) for what they write -/
section
variable {prog : Program} {w : World} {A : Around} {E : Value → Shared → Prop} {s : Shared} {K : Frag}

/-! the whole heap as the ledger: makes every rule that writes through a ledger a rule over any heap -/
def noObjs (h : Heap) : Heap := { h with objs := #[] }
def ledger (h : Heap) (L d : Addr) : List (Addr × Obj) := (List.range h.objs.size).filterMap fun a => if a = L ∨ a = d then none else (h.get? a).map fun o => (a, o)
end
end Att

namespace L2
open PySem PySem.Spec PyProof.Rows

theorem vals_ints : ∀ {vs : List Value} {ns : List Int}, IntsAre vs ns → Vals (ns.map V.int) vs
  | _, _, .nil => .nil
  | _, _, .cons n t h => .cons ⟨t, rfl⟩ (vals_ints h)

/-- nothing is tracked but the script, known to the object (or it is an object of the module) -/
def Only (H : Hp) : Prop := ∀ b, H b = none ∨ ∃ o xs, H b = some (.frz o (.lst xs))

/-- THE HEAD: the law's promise, at the heap behind the top. F, the promise of the law's def, may use that base is part of the heap (so K.In base, base.Ns mainGlobals mg stand in Mod) -/
theorem law_call {P : Program} {w : World} {K : PySem.W.Frag} {mg mb : Str → Option Value} {CX : CXT} {k : Nat} {fa a : Addr} {fd : FuncData} {x : Str} {sp : Sp} {s₁ : Shared} {vs : List Value} {ns : List Int}
    (KX : K.In s₁.heap) (hns : s₁.heap.Ns mainGlobals mg) (hb : s₁.heap.Ns builtinsNs mb) (hbb : ∀ x : Str, x ≠ "__name__" → mb x = bootBuiltins x) (hlim : s₁.heap.NoLimit) (hg : s₁.gens = #[])
    (ha : s₁.heap.get? a = some { cls := .type "list", data := .seq vs.toArray }) (hi : IntsAre vs ns) (hl : ns.length ≤ sizeLine) (hr : Room k callerA)
    (F : ∀ base : Heap, K.In base → base.Ns mainGlobals mg → FnOk P w K mg base CX k fa fd [x] sp) (hbind : ∀ (s : Shared) (u : Value), BindsTo s fd ⟨[u], []⟩ [(x, u)])
    (hsp : ∀ H : Hp, Only H → SqL K H a (ns.map V.int) → sp [.ref a] H (fun v _ => v = .bl true) fun _ _ _ => False)
    (hCX : ∀ H e s', CX [] H s₁ (fun _ _ _ => False) e s' → False) :
    codeAny (model P w) callerA (.call (.ref fa) ⟨[.ref a], []⟩) (fun r s' => r = .ok (.ret (.bool true)) ∧ OldK s₁.heap s'.heap ∧ s'.os = s₁.os ∧ AllBare s'.gens) s₁ := by
  have rv := vals_ints hi
  have lenV := hi.length
  -- from an abstract heap in which nothing but the script may be tracked
  have core : ∀ H : Hp, Only H → SqL K H a (ns.map V.int) → HOk P w H s₁.heap → (∀ b, H b ≠ none → b = a) → (H a ≠ none → K.lookup a = none) →
      codeAny (model P w) callerA (.call (.ref fa) ⟨[.ref a], []⟩) (fun r s' => r = .ok (.ret (.bool true)) ∧ OldK s₁.heap s'.heap ∧ s'.os = s₁.os ∧ AllBare s'.gens) s₁ := by
    intro H hO hS hok hA hK
    have base_of : ∀ {b : Addr} {o : Obj}, s₁.heap.get? b = some o → H b = none → (hidT s₁.heap H).get? b = some o := fun e n => hidT_get e n
    have noA : ∀ {b : Addr} {o : Obj} {es : Array DictEntry} {ep : Nat}, s₁.heap.get? b = some o → o.data = .dict es ep → H b = none := fun {b o es ep} e d => by
      cases q : H b with
      | none => rfl
      | some u =>
        have e' : b = a := hA b (by rw [q]; simp)
        subst e'
        rw [ha] at e; cases e
        have d' : Data.seq vs.toArray _ = Data.dict es ep := d
        cases d'
    have nsK : ∀ {b : Addr} {m : Str → Option Value}, s₁.heap.Ns b m → (hidT s₁.heap H).Ns b m := fun {b m} ⟨o, es, ep, e, d, r⟩ => ⟨o, es, ep, base_of e (noA e d), d, r⟩
    have hKb : K.In (hidT s₁.heap H) := fun b o e => base_of (KX b o e) (by
      cases q : H b with
      | none => rfl
      | some u =>
        have e' : b = a := hA b (by rw [q]; simp)
        subst e'
        rw [hK (by rw [q]; simp)] at e; cases e)
    have hM : Mod K mg (hidT s₁.heap H) := ⟨hKb, nsK hns, ⟨mb, nsK hb, hbb⟩, let ⟨mc, h1, h2⟩ := hlim; ⟨mc, nsK h1, h2⟩⟩
    have e0 : Env0 P w K mg (hidT s₁.heap H) callerA [] s₁ H := ⟨rfl, hM, fun b o e => of_hidT e, Nat.le_of_eq (hidT_size _ _), trivial, fun b hb => absurd (show b ∈ ([] : List Addr) from hb) (by simp), hok, .of_eq hg⟩
    refine codeAny_mono ((F _ hKb (nsK hns)).run callerA [] s₁ H ⟨[.ref a], []⟩ [.ref a] [.ref a] _ _ hr e0 (hbind s₁ (.ref a)) (.cons rfl .nil) (hsp H hO hS)) fun r s' h => ?_
    cases r with
    | error e => exact (hCX H e s' h).elim
    | ok fl =>
      cases fl with
      | next => exact False.elim h
      | brk => exact False.elim h
      | cont => exact False.elim h
      | ret u =>
        obtain ⟨v, H', os, bare, un, hok', r', q⟩ := h
        have q' : v = .bl true := q
        subst q'
        obtain rfl : u = Value.bool true := r'
        refine ⟨rfl, OldK.of_keep fun b o e => ?_, os, bare⟩
        cases q : H b with
        | none => exact un.keep b o e q (by intro z; exact absurd (show b ∈ ([] : List Addr) from z) (by simp)) (by simp)
        | some u =>
          rcases hO b with z | ⟨ob, xs, z⟩
          · rw [q] at z; cases z
          · have z2 := un.frzs b ob _ z
            obtain ⟨e1, _⟩ := hok b _ z
            obtain ⟨e2, _⟩ := hok' b _ z2
            rw [e] at e1; cases e1
            exact e2
  cases hk : K.lookup a with
  | some o =>
    -- the script is one of the module's own objects
    have e := KX a o hk
    rw [ha] at e
    cases e
    refine core (fun _ => none) (fun _ => .inl rfl) (.inr ⟨_, vs.toArray, _, hk, rfl, rfl, rfl, by rw [List.size_toArray, lenV]; exact hl, by simpa using rv⟩) (fun b u z => by have z' : (none : Option HO) = some u := z; cases z') (fun b z => absurd rfl z) fun z => absurd rfl z
  | none =>
    refine core (fun b => if b = a then some (.frz { cls := .type "list", data := .seq vs.toArray } (.lst (ns.map V.int))) else none) (fun b => ?_) (.inl (.inr ⟨{ cls := .type "list", data := .seq vs.toArray }, if_pos rfl⟩)) (fun b u z => ?_) (fun b z => ?_) fun _ => hk
    · by_cases hb : b = a
      · exact .inr ⟨_, _, if_pos hb⟩
      · exact .inl (if_neg hb)
    · by_cases hb : b = a
      · have z' := (if_pos hb).symm.trans z
        cases z'
        subst hb
        exact ⟨ha, by rw [List.length_map]; exact hl, vs, _, rv, ha⟩
      · have z' := (if_neg hb).symm.trans z
        cases z'
    · by_cases hb : b = a
      · exact hb
      · exact absurd (if_neg hb) z
end L2

namespace L2
open PySem PySem.Spec PyProof.Rows

abbrev KOf {K : PySem.W.Frag} {h : Heap} (_ : K.In h) : PySem.W.Frag := K

/-- the goal that k_head leaves (case hc), from the law's promise. F gives the function object fd (K's own) once, then the promise over every base -/
theorem walk_of {l : PySem.W.OpenLaw} {n k : Nat} {q : Program} {loose : List Str} {XP : (Str → Option Value) → Heap → Prop} {YP : World → Heap → Prop} {d : DefRec} {K : Params → PySem.W.Frag} {CX : World → CXT} {sp : World → Sp} {x : Str}
    (hn : l.most = some n) (hn2 : n ≤ sizeLine) (hdf : d.params.defaults = []) (hr : Room k callerA)
    (hY : ∀ (w : World) (h : Heap), YP w h → (K w.params).In h)
    (F : ∀ (w : World) (mg : Str → Option Value) (fa : Addr) (h : Heap), (K w.params).In h → h.Ns mainGlobals mg → mg d.name = some (.ref fa) →
      ∃ fd : FuncData, (∀ (s : Shared) (u : Value), BindsTo s fd ⟨[u], []⟩ [(x, u)]) ∧
        ∀ base : Heap, (K w.params).In base → base.Ns mainGlobals mg → FnOk l.prog w (K w.params) mg base (CX w) k fa fd [x] (sp w))
    (hsp : ∀ (w : World) (H : Hp) (a : Addr) (ns : List Int), ns.length ≤ n → Only H → SqL (K w.params) H a (ns.map V.int) → sp w [.ref a] H (fun v _ => v = .bl true) fun _ _ _ => False)
    (hCX : ∀ (w : World) (H : Hp) (s : Shared) (e : Value) (s' : Shared), CX w [] H s (fun _ _ _ => False) e s' → False) :
    PySem.W.WalkO q loose XP YP l.row.toRowW d [] (fun f vs => PySem.call f vs) := by
  refine Att.attach_call hn hdf fun w s₀ s₁ mg mb fa o pm cd doc a vs ns G Y ho hd hcd hmg hobj hints hlen hg => ?_
  have KX := hY w _ Y
  obtain ⟨fd, hb, hF⟩ := F w mg fa _ KX G.T.g hmg
  exact law_call KX G.T.g G.T.b G.T.builtins G.T.nolimit hg hobj hints (Nat.le_trans hlen hn2) hr hF hb (fun H hO hS => hsp w H a ns hlen hO hS) fun H e s' => hCX w H s₁ e s'
end L2

/- THE LAST THEOREM (shape; LID, My.* are yours):
   My.Adr: a structure of the addresses that your layer names (classes, functions); My.Txt K t: a structure (Prop) of the equations over K;
   My.txt_mk : {K} {implicit addresses ..} (e1 : nsIn K mainGlobals "law" = some (some (.ref f))) (e2 : K.lookup f = some ⟨oc, od, .func (fnOf "law" "law" params body scope dV kV doc pm an cdv ct), sl⟩) (e3 : codeIn K cdv "law" = true) .. : ∃ t, My.Txt K t

set_option maxRecDepth 100000 in
set_option maxHeartbeats 0 in
theorem PySem.Challenge.cw_LID_holds : PySem.Challenge.rw_LID.Holds := by
  w_on; o_law; k_head; (case hw => w_witness2)
  k_fill
  refine L2.walk_of (l := PySem.Challenge.rw_LID) (n := 63) (k := 40) (x := "script") (CX := fun w => ..) (sp := fun _ => My.sp_law) rfl (by decide) rfl ⟨rfl, by decide, by decide⟩ (fun w h Y => PySem.W.kIn_of Y) ?F ?S ?C
  case F =>
    intro w mg fa h KX G hmg
    have T : ∃ t, My.Txt (L2.KOf KX) t := by
      dsimp only [L2.KOf]                          -- K must stand as «<heap const> w.params» for k_is
      refine' My.txt_mk ?e1 ?e2 ?e3 ..
      (case e1 => PySem.W.k_is)                    -- in the order: a name -> its address -> its object -> its parts
      (case e2 => PySem.W.k_is)
      ..
    obtain ⟨t, T⟩ := T
    have e0 := hmg.symm.trans (PySem.W.mg_of KX G T.law)
    cases e0                                       -- fa is the law's own address
    exact ⟨_, fun s u => .of_eq rfl, fun base kb nb => My.law_fn T kb nb⟩     -- if «.of_eq rfl» comes too early: refine' ⟨_, ?b, fun base kb nb => My.law_fn T kb nb⟩; exact fun s u => .of_eq rfl
  case S => exact fun w H a ns hl hO hS => ..
  case C => exact ..
(the tactic k_is has no namespace: write k_is) -/

/-! SHORT WORDS over the layer: a def of the text, its body, what a loop and a test want. -/
namespace L2
open PySem PySem.Spec PyProof.Rows

/-! ### the text by places -/
/-- the j-th statement of a class's body -/
def inClass (s : Stmt) (j : Nat) : Stmt := match s with
  | .ClassDef _ _ _ body _ _ _ _ _ _ _ => body.getD j (.Pass ⟨0, 0, 0, 0⟩)
  | _ => .Pass ⟨0, 0, 0, 0⟩
def defArgs (s : Stmt) : Arguments := match s with
  | .FunctionDef _ a _ _ _ _ _ _ _ _ => a
  | _ => { posonlyargs := [], args := [], vararg := none, kwonlyargs := [], kw_defaults := [], kwarg := none, defaults := [] }
def defBody (s : Stmt) : List Stmt := match s with
  | .FunctionDef _ _ b _ _ _ _ _ _ _ => b
  | _ => []
def defScope (s : Stmt) : Scope := match s with
  | .FunctionDef _ _ _ _ _ _ sc _ _ _ => sc
  | _ => { kind := .function, names := [], isGenerator := false, isCoroutine := false }

/-! ### no exception leaves a def -/
abbrev CX0 : CXT := fun _ _ _ _ _ _ => False
abbrev E0 : XK := fun _ _ _ => False
theorem pass0 {X : Cx} : Passes CX0 X E0 := fun _ _ _ _ _ _ _ h => h.elim

/-! ### a def (or method) of the text as it stands behind the top -/
structure Fun (K : PySem.W.Frag) (x qual : Str) (st : Stmt) (f : Addr) (fd : FuncData) : Prop where
  ex : ∃ (oc : Value) (od : Option Addr) (kV doc pm : Value) (an : Option Addr) (cdv ct : Value) (osl : Array (Option Value)),
    fd = PySem.W.fnOf x qual (defArgs st) (defBody st) (defScope st) .none kV doc pm an cdv ct ∧ K.lookup f = some ⟨oc, od, .func fd, osl⟩ ∧ PySem.W.codeIn K cdv qual = true
  kp : PySem.W.keepIn K (.ref f) = true
section
variable {P : Program} {w : World} {K : PySem.W.Frag} {mg : Str → Option Value} {base : Heap}
/-- THE RULE for a def: its body as a term of rules, and the reading of that term -/
theorem Fun.ok {x qual : Str} {st : Stmt} {f : Addr} {fd : FuncData} {N ps : List Str} {k : Nat} {sp : Sp} (F : Fun K x qual st f fd) (S : FnScope N ps (defScope st)) (len : ∀ vs H Q E, sp vs H Q E → vs.length = ps.length)
    (hbody : ∀ (cdv : Value) (A : Around) (outer : List Env) (s : Shared) (H : Hp) (vs : List V) (Q : VK) (E : XK), Room k (A.deeper (envOfC qual (defScope st) s.heap.objs.size f cdv)) → sp vs H Q E →
      ∃ t, PSs (cxOf CX0 P w K mg base N qual (defScope st) f cdv A outer s H E).nox (defBody st) t ∧ t { nx := fun _ H' => Q .non H', rt := Q } (start N vs) H) : FnOk P w K mg base CX0 (k + 1) f fd ps sp := by
  obtain ⟨oc, od, kV, doc, pm, an, cdv, ct, osl, rfl, lk, hcd⟩ := F.ex
  refine fn_of lk hcd S len fun A outer s H vs Q E hr hsp => ?_
  obtain ⟨t, h, q⟩ := hbody cdv A outer s H vs Q E hr hsp
  exact ⟨t, h.nox, q⟩
/-- how its arguments bind (no defaults): h is «fun _ _ _ _ _ _ us hl => match us, hl with | [_, _], _ => rfl», one _ a parameter -/
theorem Fun.binds {x qual : Str} {st : Stmt} {f : Addr} {fd : FuncData} {ps : List Str} (F : Fun K x qual st f fd)
    (h : ∀ (kV doc pm : Value) (an : Option Addr) (cdv ct : Value) (us : List Value), us.length = ps.length → bindArgs (PySem.W.fnOf x qual (defArgs st) (defBody st) (defScope st) .none kV doc pm an cdv ct) ⟨us, []⟩ = pure (ps.zip us)) : Binds K fd ps [] := by
  obtain ⟨oc, od, kV, doc, pm, an, cdv, ct, osl, rfl, lk, hcd⟩ := F.ex
  exact .all (h kV doc pm an cdv ct)
theorem fun_mk {x qual : Str} {st : Stmt} {f : Addr} {oc : Value} {od an : Option Addr} {osl : Array (Option Value)} {kV doc pm cdv ct : Value} (l : K.lookup f = some ⟨oc, od, .func (PySem.W.fnOf x qual (defArgs st) (defBody st) (defScope st) .none kV doc pm an cdv ct), osl⟩)
    (c : PySem.W.codeIn K cdv qual = true) (k : PySem.W.keepIn K (.ref f) = true) : Fun K x qual st f (PySem.W.fnOf x qual (defArgs st) (defBody st) (defScope st) .none kV doc pm an cdv ct) := ⟨⟨oc, od, kV, doc, pm, an, cdv, ct, osl, rfl, l, c⟩, k⟩
end
/-! ### expressions in short: the name that stands in the i-th slot -/
section
variable {X : Cx}
theorem pv (i : Nat) {x : Str} {pos : Pos} (hN : X.N[i]? = some x := by rfl) (hv : Vis X.env.scope x := by first | exact Or.inl rfl | exact Or.inr (Or.inl rfl) | exact Or.inr (Or.inr rfl)) (hd : (x == ("__debug__" : Str)) = false := by decide)
    (hcd : (x == ("__classdict__" : Str)) = false := by decide) : PE X (.Name x pos) (tVar i) := pe_var hN hv hd hcd
end

/-! ### tests -/
/-! ### heaps -/
/-- all that was tracked is as it was -/
def Same (H H' : Hp) : Prop := ∀ b o, H b = some o → H' b = some o
theorem Same.refl (H : Hp) : Same H H := fun _ _ h => h
theorem Same.trans {H H1 H2 : Hp} (a : Same H H1) (b : Same H1 H2) : Same H H2 := fun c o h => b c o (a c o h)
theorem Same.free {H H' : Hp} (e : Same H H') {l : Addr} (h : H' l = Option.none) : H l = Option.none := by
  cases q : H l with
  | none => rfl
  | some o =>
    rw [e l o q] at h
    cases h
theorem Same.seq {K : PySem.W.Frag} {H H' : Hp} {a : Addr} {xs : List V} (e : Same H H') (h : SqL K H a xs) : SqL K H' a xs := by
  rcases h with (h | ⟨o, h⟩) | h
  · exact .inl (.inl (e _ _ h))
  · exact .inl (.inr ⟨o, e _ _ h⟩)
  · exact .inr h

end L2

set_option Elab.async false
set_option linter.all false
set_option maxRecDepth 100000
noncomputable section
namespace L2.PM
open PySem PySem.Spec PyProof.Rows

/-! ### the closure of a comprehension -/
def clos (env : Env) : List (Str × NameKind) → List (Str × Addr) → List (Str × Addr)
  | [], acc => acc
  | (n, k) :: r, acc => if k == NameKind.free then clos env r ((n, (env.cells.lookup n).getD 0) :: acc) else clos env r acc

theorem clos_run {env : Env} : ∀ (l : List (Str × NameKind)) (acc : List (Str × Addr)), (∀ x ∈ l, x.2 = NameKind.free → ∃ c, env.cells.lookup x.1 = some c) →
    (forIn l acc fun (x : Str × NameKind) (cs : List (Str × Addr)) => if (x.2 == NameKind.free) = true then (do let a ← cellOf env x.1; pure (ForInStep.yield ((x.1, a) :: cs)) : Sem _) else pure (ForInStep.yield cs)) = (pure (clos env l acc) : Sem _)
  | [], acc, _ => rfl
  | (n, k) :: r, acc, h => by
    have hr : ∀ x ∈ r, x.2 = NameKind.free → ∃ c, env.cells.lookup x.1 = some c := fun x hx => h x (List.mem_cons_of_mem _ hx)
    by_cases hk : k = NameKind.free
    · subst hk
      obtain ⟨c, hc⟩ := h (n, NameKind.free) List.mem_cons_self rfl
      have hcell : cellOf env n = pure c := by unfold cellOf; rw [hc]
      simp only [List.forIn_cons, beq_self_eq_true, if_true, clos, hcell, hc, Option.getD_some]
      rw [show ((pure c : Sem Addr) >>= fun a => (pure (ForInStep.yield ((n, a) :: acc)) : Sem _)) = pure (ForInStep.yield ((n, c) :: acc)) from rfl]
      exact clos_run r ((n, c) :: acc) hr
    · have hb : (k == NameKind.free) = false := by simpa using hk
      simp only [List.forIn_cons, hb, Bool.false_eq_true, if_false, clos]
      exact clos_run r acc hr
theorem closureFor_eq {scope : Scope} {env : Env} (h : ∀ x ∈ scope.names, x.2 = NameKind.free → ∃ c, env.cells.lookup x.1 = some c) : closureFor scope env = pure (clos env scope.names []) := by
  have e := clos_run scope.names [] h
  have f : (fun (x : Str × NameKind) (cs : List (Str × Addr)) => (match x with
      | (name, kind) => if (kind == NameKind.free) = true then (do let a ← cellOf env name; pure (ForInStep.yield ((name, a) :: cs)) : Sem _) else pure (ForInStep.yield cs))) =
      (fun (x : Str × NameKind) (cs : List (Str × Addr)) => if (x.2 == NameKind.free) = true then (do let a ← cellOf env x.1; pure (ForInStep.yield ((x.1, a) :: cs)) : Sem _) else pure (ForInStep.yield cs)) := by
    funext x cs
    cases x
    rfl
  unfold closureFor
  dsimp only
  rw [f, e]
  rfl
theorem clos_get {env : Env} {x : Str} : ∀ (l : List (Str × NameKind)) (acc : List (Str × Addr)), (x, NameKind.free) ∈ l ∨ acc.lookup x = env.cells.lookup x → (∀ y ∈ l, y.2 = NameKind.free → ∃ c, env.cells.lookup y.1 = some c) →
    (clos env l acc).lookup x = env.cells.lookup x
  | [], acc, h, _ => by
    rcases h with h | h
    · cases h
    · exact h
  | (n, k) :: r, acc, h, hc => by
    have hr : ∀ y ∈ r, y.2 = NameKind.free → ∃ c, env.cells.lookup y.1 = some c := fun y hy => hc y (List.mem_cons_of_mem _ hy)
    by_cases hk : k = NameKind.free
    · subst hk
      obtain ⟨c, hcn⟩ := hc (n, NameKind.free) List.mem_cons_self rfl
      have hcn : env.cells.lookup n = some c := hcn
      simp only [clos, beq_self_eq_true, if_true]
      refine clos_get r _ ?_ hr
      by_cases hx : x = n
      · subst hx
        right
        simp [hcn]
      · have hb : (x == n) = false := by simpa using hx
        rcases h with h | h
        · rcases List.mem_cons.mp h with h | h
          · injection h with h1 _
            exact absurd h1 hx
          · exact .inl h
        · right
          simp only [List.lookup_cons, hb]
          exact h
    · have hb : (k == NameKind.free) = false := by simpa using hk
      simp only [clos, hb, Bool.false_eq_true, if_false]
      refine clos_get r acc ?_ hr
      rcases h with h | h
      · rcases List.mem_cons.mp h with h | h
        · injection h with _ h2
          exact absurd h2.symm hk
        · exact .inl h
      · exact .inr h
theorem clos_of {env : Env} {x : Str} {c : Addr} : ∀ (l : List (Str × NameKind)) (acc : List (Str × Addr)), (acc.lookup x = some c → env.cells.lookup x = some c) → (∀ y ∈ l, y.2 = NameKind.free → ∃ c, env.cells.lookup y.1 = some c) →
    (clos env l acc).lookup x = some c → env.cells.lookup x = some c
  | [], acc, h, _, e => h e
  | (n, k) :: r, acc, h, hc, e => by
    have hr : ∀ y ∈ r, y.2 = NameKind.free → ∃ c, env.cells.lookup y.1 = some c := fun y hy => hc y (List.mem_cons_of_mem _ hy)
    by_cases hk : k = NameKind.free
    · subst hk
      obtain ⟨d, hcn⟩ := hc (n, NameKind.free) List.mem_cons_self rfl
      have hcn : env.cells.lookup n = some d := hcn
      simp only [clos, beq_self_eq_true, if_true] at e
      refine clos_of r _ (fun q => ?_) hr e
      by_cases hx : x = n
      · subst hx
        simp [hcn] at q
        rw [hcn, q]
      · have hb : (x == n) = false := by simpa using hx
        simp only [List.lookup_cons, hb] at q
        exact h q
    · have hb : (k == NameKind.free) = false := by simpa using hk
      simp only [clos, hb, Bool.false_eq_true, if_false] at e
      exact clos_of r acc h hr e

/-! ### the block of a comprehension as a context -/
def blkEnv (env : Env) (sc' : Scope) (cl : List (Str × Addr)) (C : Addr) : Env :=
  { scope := sc', locals := C, globals := env.globals, cells := cl, qual := env.qual, func := none, code := env.code, frame := env.frame, builtins := env.builtins }
def blkCx (X : Cx) (pins : List (Addr × Obj)) (N' : List Str) (sc' : Scope) (cl : List (Str × Addr)) (C : Addr) (s : Shared) (H : Hp) (fp : List Addr) : Cx where
  prog := X.prog
  w := X.w
  K := X.K
  mg := X.mg
  base := X.base
  A := X.A
  N := N'
  s₀ := s
  H₀ := H
  env := blkEnv X.env sc' cl C
  outer := X.stack
  stack := X.stack
  ex := fp
  fn := fun _ => false
  calm := X.calm
  pn := X.pn ++ pins
  xe := fun _ _ => False

/-- what is asked of the block's names: scope is the comprehension's, osc the def's (or the outer block's); the first nt names are its targets, the others are read from outside, at the slots caps -/
def relab (osc scope : Scope) : Scope :=
  { scope with names := scope.names.map fun (n, k) => if (k == .free && osc.kind == .function && osc.names.lookup n == some .cell) then (n, .cell) else (n, k) }
structure CompOk (N : List Str) (osc scope : Scope) (N' : List Str) (nt : Nat) (caps : List Nat) : Prop where
  kind : scope.kind = .function
  nocell : ∀ x ∈ scope.names, x.2 ≠ NameKind.cell
  locs : ∀ x ∈ scope.names, x.2 = NameKind.local → scope.names.lookup x.1 = some .local
  free : ∀ x ∈ scope.names, x.2 = NameKind.free → osc.names.lookup x.1 = some .cell ∨ osc.names.lookup x.1 = some .free
  len : N'.length = nt + caps.length
  cap : ∀ p ∈ caps.zip (N'.drop nt), N[p.1]? = some p.2 ∧ scope.names.lookup p.2 = some NameKind.free

def blkSt (nt : Nat) (caps : List Nat) (σ : St) : St := List.replicate nt none ++ caps.map fun j => (σ[j]?).getD none

section
variable {X : Cx} {pins : List (Addr × Obj)} {σ : St} {H : Hp} {s : Shared} {scope : Scope} {N' : List Str} {nt : Nat} {caps : List Nat} {fp : List Addr}
theorem free_cell (I : Inv X pins σ H s) (ck : CompOk X.N X.env.scope scope N' nt caps) : ∀ x ∈ scope.names, x.2 = NameKind.free → ∃ c, X.env.cells.lookup x.1 = some c := fun x hx hf =>
  I.ok.has x.1 (ck.free x hx hf)
/-- in the block a name that is read from outside is a cell's -/
theorem relab_free {osc : Scope} {x : Str} {k : NameKind} : ∀ {names : List (Str × NameKind)}, names.lookup x = some NameKind.free →
    (names.map fun (p : Str × NameKind) => if (p.2 == NameKind.free && osc.kind == .function && osc.names.lookup p.1 == some .cell) then (p.1, NameKind.cell) else (p.1, p.2)).lookup x = some k → k = .cell ∨ k = .free
  | [], h, _ => by cases h
  | (n, q) :: r, h, e => by
    by_cases hx : x = n
    · subst hx
      simp at h
      subst h
      simp only [List.map_cons] at e
      split at e <;> simp at e <;> simp [e.symm]
    · have hb : (x == n) = false := by simpa using hx
      simp only [List.lookup_cons, hb] at h
      simp only [List.map_cons] at e
      split at e
      · simp only [List.lookup_cons, hb] at e
        exact relab_free h e
      · simp only [List.lookup_cons, hb] at e
        exact relab_free h e

/-- the block begins -/
theorem blk_inv (I : Inv X pins σ H s) (hc : X.calm = true) (ck : CompOk X.N X.env.scope scope N' nt caps) (hf : ∀ b ∈ fp, FpOk X pins H b) (hlt : ∀ b ∈ fp, b < s.heap.objs.size) {o : Obj} {h' : Heap} {m : Str → Option Value} {tk : Nat}
    (hn : h'.Ns s.heap.objs.size m) (hsb : Heap.SameBut s.heap.objs.size (s.heap.push o) h') :
    Inv (blkCx X pins N' (relab X.env.scope scope) (clos X.env scope.names []) s.heap.objs.size s H fp) [] (blkSt nt caps σ) H { s with heap := h', toks := tk } := by
  have fc := free_cell I ck
  have cof : ∀ x c, (clos X.env scope.names []).lookup x = some c → X.env.cells.lookup x = some c := fun x c e => clos_of scope.names [] (fun q => by cases q) fc e
  have old : ∀ b u, s.heap.get? b = some u → h'.get? b = some u := fun b u e => hsb.extBut b u (Nat.ne_of_lt (Heap.lt_size e)) (Heap.get?_push_of_some _ e)
  have cellsOk : ∀ x c, (clos X.env scope.names []).lookup x = some c → ∃ v, s.heap.IsCell c v := fun x c e => I.cell x c (cof x c e)
  have fsub : ∀ b ∈ frs X.stack, b ∈ X.env.locals :: X.fs := I.stkSub
  refine ⟨⟨I.ok.mod, ck.kind, I.ok.glob, I.ok.blt, Nat.le_refl _, fun x y c h1 h2 => I.ok.inj x y c (cof x c h1) (cof y c h2), fun x hx => ?_, fun x c hx _ => absurd (show false = true from hx) Bool.false_ne_true, fun z => I.ok.hd z, I.ok.frames, .inl rfl, fun b hb => ?_, I.bs, Nat.le_trans I.ok.bsz I.sz, fun b u e hb => ?_, fun b hb z => ?_, I.stack, I.stkFree⟩,
    rfl, I.bare, Un.kept old, ⟨m, hn, fun i x v h1 h2 h3 => ?_⟩, fun x c e => ?_, I.hok.fresh (Nat.le_refl _), fun x c e => I.freeC x c (cof x c e), fun p hp => ?_, I.hok.kept old, ?_⟩
  · -- has
    have hx : (relab X.env.scope scope).names.lookup x = some .cell ∨ (relab X.env.scope scope).names.lookup x = some .free := hx
    have hm : ∃ k, scope.names.lookup x = some k ∧ k = NameKind.free := by
      have key : ∀ (names : List (Str × NameKind)), (∀ y ∈ names, y.2 ≠ NameKind.cell) → ∀ k, (k = NameKind.cell ∨ k = NameKind.free) →
          (names.map fun (p : Str × NameKind) => if (p.2 == NameKind.free && X.env.scope.kind == .function && X.env.scope.names.lookup p.1 == some .cell) then (p.1, NameKind.cell) else (p.1, p.2)).lookup x = some k → names.lookup x = some NameKind.free := by
        intro names
        induction names with
        | nil => intro _ k _ e; cases e
        | cons q r ih =>
          obtain ⟨n, q⟩ := q
          intro hn' k hk e
          by_cases hx' : x = n
          · subst hx'
            simp only [List.map_cons] at e
            split at e
            · rename_i hcnd
              simp only [Bool.and_eq_true, beq_iff_eq] at hcnd
              simp [hcnd.1.1]
            · simp at e
              subst e
              rcases hk with hk | hk
              · exact absurd hk (hn' (x, q) List.mem_cons_self)
              · simp [hk]
          · have hb : (x == n) = false := by simpa using hx'
            simp only [List.lookup_cons, hb]
            refine ih (fun y hy => hn' y (List.mem_cons_of_mem _ hy)) k hk ?_
            simp only [List.map_cons] at e
            split at e <;> (simp only [List.lookup_cons, hb] at e; exact e)
      rcases hx with hx | hx
      · exact ⟨_, key scope.names ck.nocell _ (.inl rfl) hx, rfl⟩
      · exact ⟨_, key scope.names ck.nocell _ (.inr rfl) hx, rfl⟩
    obtain ⟨k, hk, rfl⟩ := hm
    have hmem := PySem.mem_of_lookup hk
    obtain ⟨c, hcx⟩ := fc _ hmem rfl
    exact ⟨c, (clos_get scope.names [] (.inl hmem) fc).trans hcx⟩
  · -- exf
    obtain ⟨_, f1, f2, f3, f4, _⟩ := hf b hb
    exact ⟨Nat.ne_of_lt (hlt b hb), fun x c e => f4 x c (cof x c e)⟩
  · -- noex
    obtain ⟨_, f1, f2, f3, f4, _⟩ := hf b hb
    rcases f3 with z | z
    · exact I.ok.noex b u e z
    · exact absurd (Nat.lt_of_lt_of_le (Heap.lt_size e) (Nat.le_trans I.ok.bsz z)) (Nat.lt_irrefl _)
  · -- exfs
    obtain ⟨_, f1, f2, _⟩ := hf b hb
    rcases List.mem_cons.mp (fsub b z) with q | q
    · exact f1 q
    · exact f2 q
  · -- loc
    have h2 : (blkSt nt caps σ)[i]? = some (some v) := h2
    have h1 : N'[i]? = some x := h1
    unfold blkSt at h2
    by_cases hi : i < nt
    · rw [List.getElem?_append_left (by simpa using hi), List.getElem?_replicate, if_pos hi] at h2
      cases h2
    · rw [List.getElem?_append_right (by simpa using hi), List.length_replicate, List.getElem?_map] at h2
      cases ej : caps[i - nt]? with
      | none => rw [ej] at h2; cases h2
      | some j =>
        rw [ej] at h2
        have h2 : (σ[j]?).getD none = some v := Option.some.inj h2
        have h2' : σ[j]? = some (some v) := by
          cases eq : σ[j]? with
          | none => rw [eq] at h2; cases h2
          | some y => rw [eq] at h2; exact congrArg some h2
        have hz : (j, x) ∈ caps.zip (N'.drop nt) := by
          refine List.mem_of_getElem? (i := i - nt) ?_
          rw [List.getElem?_zip_eq_some]
          refine ⟨ej, ?_⟩
          rw [List.getElem?_drop, show nt + (i - nt) = i by omega]
          exact h1
        obtain ⟨hN, hfr⟩ := ck.cap _ hz
        have hfr : scope.names.lookup x = some NameKind.free := hfr
        have hmem := PySem.mem_of_lookup hfr
        have hk := ck.free _ hmem rfl
        have hk : X.env.scope.names.lookup x = some .cell ∨ X.env.scope.names.lookup x = some .free := hk
        obtain ⟨m0, hn0, hl0⟩ := I.loc
        obtain ⟨u, ru, lk⟩ := hl0 j x v hN h2' (.inr hk)
        refine ⟨u, ru, ?_⟩
        rcases lk with ⟨k0, _⟩ | ⟨_, c, ec, zc⟩
        · have k0 : X.env.scope.names.lookup x = some .local := k0
          rcases hk with hk | hk <;> (rw [k0] at hk; cases hk)
        · refine .inr ⟨?_, c, (clos_get scope.names [] (.inl hmem) fc).trans ec, ?_⟩
          · have h3 : (relab X.env.scope scope).names.lookup x = some .local ∨ (relab X.env.scope scope).names.lookup x = some .cell ∨ (relab X.env.scope scope).names.lookup x = some .free := h3
            rcases h3 with h3 | h3 | h3
            · rcases relab_free hfr h3 with z | z <;> cases z
            · exact .inl h3
            · exact .inr h3
          · obtain ⟨ob, ho, hd⟩ := zc
            exact ⟨ob, old c ob ho, hd⟩
  · -- cell
    obtain ⟨v, hv⟩ := cellsOk x c e
    obtain ⟨ob, ho, hd⟩ := hv
    exact ⟨v, ob, old c ob ho, hd⟩
  · -- pin
    have hp' : p ∈ X.pn ++ pins := by
      rcases List.mem_append.mp hp with z | z
      · exact z
      · cases z
    obtain ⟨e, n, ne, nf, d⟩ := I.pin p hp'
    refine ⟨old _ _ e, n, Nat.ne_of_lt (Heap.lt_size e), fun z => ?_, d⟩
    rcases List.mem_cons.mp (fsub p.1 z) with q | q
    · exact ne q
    · exact nf q
  · -- len
    show (blkSt nt caps σ).length = N'.length
    unfold blkSt
    rw [ck.len]
    simp
end
end L2.PM

set_option Elab.async false
set_option linter.all false
set_option maxRecDepth 100000
noncomputable section
namespace L2.PM
open PySem PySem.Spec PyProof.Rows

/-- the tests of a comprehension -/
def PIfs (X : Cx) (ifs : List Expr) (t : TT) : Prop :=
  ∀ (pins : List (Addr × Obj)) (s : Shared) (σ : St) (H : Hp) (Q : Bool → Hp → Prop), Inv X pins σ H s → t σ H Q →
    wpAny (model X.prog X.w) X.A (forIn ifs true fun c r => if r = true then do let ok ← isTrue c X.env (eval c X.env); pure (ForInStep.yield ok) else pure (ForInStep.yield r)) (TP X pins σ Q) X.xe s
def tYes : TT := fun _ H Q => Q true H
theorem pifs_nil {X : Cx} : PIfs X [] tYes := fun _ _ _ H _ I h => wpAny_tests_nil ⟨H, I, h⟩
/-- the loop, turn by turn -/
theorem compLoop_go {prog : Program} {w : World} {A : Around} {R : Result → Shared → Prop} {s : Shared} {elt target iter : Expr} {ifs : List Expr} {scope : Scope} {pos : Pos} {it acc : Value} {env : Env} (I : Nat → Shared → Prop)
    (turn : ∀ n s, I n s → wpAny (model prog w) A (pyNext it) (fun r s₁ => match r with
      | none => R (.ok .next) s₁
      | some v => wpAny (model prog w) A (letOwnedTupleGo target it v) (fun _ s₁' => wpAny (model prog w) A (assign target env v) (fun _ s₂ =>
          wpAny (model prog w) A (forIn ifs true fun c r => if r = true then do let ok ← isTrue c env (eval c env); pure (ForInStep.yield ok) else pure (ForInStep.yield r)) (fun ok s₃ =>
            if ok = true then wpAny (model prog w) A (eval elt env) (fun x s₄ =>
              wpAny (model prog w) A (call (.builtin "list.append") [acc, x]) (fun _ s₅ => ∃ m, m < n ∧ I m s₅) (fun _ _ => False) s₄) (fun _ _ => False) s₃
            else ∃ m, m < n ∧ I m s₃) (fun _ _ => False) s₂) (fun _ _ => False) s₁') (fun _ _ => False) s₁) (fun _ _ => False) s)
    (n : Nat) (h : I n s) :
    codeAny (model prog w) A (.compLoop (.ListComp elt [⟨target, iter, ifs, 0⟩] scope pos) 0 it acc env) R s := by
  refine codeAny_loop rfl I (fun n s hI => ?_) n h
  show wpAny _ A ((compTurn (.ListComp elt [⟨target, iter, ifs, 0⟩] scope pos) 0 it acc env).onRaise (fun x => do noteFrame x env; theTreesLotGoes x)) _ _ s
  refine wpAny_noted ?_
  rw [compTurn_list]
  refine wpAny_bind (wpAny_standAt (wpAny_bind (wpAny_mono (turn n s hI) (fun r s₁ h₁ => ?_) fun _ _ h' => h'.elim)))
  cases r with
  | none => exact wpAny_pure h₁
  | some v =>
    refine wpAny_bind (wpAny_mono h₁ (fun _ s₁' h₁' => ?_) fun _ _ h' => h'.elim)
    refine wpAny_bind (wpAny_mono h₁' (fun _ s₂ h₂ => wpAny_bind (wpAny_mono h₂ (fun ok s₃ h₃ => ?_) fun _ _ h' => h'.elim)) fun _ _ h' => h'.elim)
    cases ok with
    | false => exact wpAny_pure ⟨rfl, h₃⟩
    | true =>
      exact wpAny_bind (wpAny_bind (wpAny_mono h₃ (fun x s₄ h₄ => wpAny_bind (wpAny_mono h₄ (fun _ s₅ h₅ => wpAny_pure (wpAny_pure ⟨rfl, h₅⟩)) fun _ _ h' => h'.elim)) fun _ _ h' => h'.elim))

/-- one state holds another's known slots -/
def StExt (σ σ' : St) : Prop := σ'.length = σ.length ∧ ∀ (i : Nat) (v : V), σ[i]? = some (some v) → σ'[i]? = some (some v)
/-- the reading of the loop at the iterator J, over the heap H1 -/
def CompRd (J : It) (nt : Nat) (caps : List Nat) (g : TG) (tc : TT) (te : TE) (σ : St) (H1 : Hp) (Qd : Addr → Hp → Prop) : Prop :=
  ∀ D, H1 D = none → ∃ W : Nat → Nat → List V → Hp → Prop, (∃ m, W 0 m [] (upd H1 D (.lst []))) ∧
    ∀ i m xs H2, W i m xs H2 → (J.stop i H2 ∧ Qd D H2) ∨ (J.go i H2 ∧ ∀ x H3, J.yld i H2 x H3 → g x (blkSt nt caps σ) H3 fun σ4 H4 => StExt (blkSt nt caps σ) σ4 ∧
      tc σ4 H4 fun b H5 => if b = true then te σ4 H5 fun v H6 => H6 D = some (.lst xs) ∧ xs.length < sizeLine ∧ ∃ m', m' < m ∧ W (i + 1) m' (xs ++ [v]) (upd H6 D (.lst (xs ++ [v]))) else ∃ m', m' < m ∧ W (i + 1) m' xs H5)

section
variable {X : Cx} {pins : List (Addr × Obj)} {σ : St} {H : Hp} {s : Shared} {scope : Scope} {N' : List Str} {nt : Nat} {caps : List Nat} {fp : List Addr} {tg iter elt : Expr} {ifs : List Expr} {pos : Pos}
theorem comp_run {J : It} {it : Addr} {tn : Nat → Heap → Prop} {g : TG} {tc : TT} {te : TE} {Qd : Addr → Hp → Prop} {RR : Value → Addr → Result → Shared → Prop} {E : Value → Shared → Prop}
    (I : Inv X pins σ H s) (hc : X.calm = true) (ck : CompOk X.N X.env.scope scope N' nt caps) (hrel : relabel scope X.env = relab X.env.scope scope)
    (T : Turn X.prog X.w X.K tg J fp it tn) (h0 : tn 0 s.heap) (hf : ∀ b ∈ fp, FpOk X pins H b)
    (hg : ∀ pins cl C s H fp, PG (blkCx X pins N' (relab X.env.scope scope) cl C s H fp) tg g)
    (ht : ∀ pins cl C s H fp, PIfs (blkCx X pins N' (relab X.env.scope scope) cl C s H fp) ifs tc)
    (he : ∀ pins cl C s H fp, PE (blkCx X pins N' (relab X.env.scope scope) cl C s H fp) elt te)
    (rd : CompRd J nt caps g tc te σ H Qd)
    (hRR : ∀ D C s' H', Inv X pins σ H' s' → (∃ m, s'.heap.Ns C m) → FpOk X pins H' C → Qd D H' → RR (.ref D) C (.ok .next) s') :
    wpAny (model X.prog X.w) X.A (newList []) (fun acc s₃ => wpAny (model X.prog X.w) X.A (newFunctionEnv scope X.env.globals (clos X.env scope.names []) [] X.env.qual none .none (some X.env)) (fun cenv s₄ =>
      codeAny (model X.prog X.w) X.A (.compStart (.ListComp elt [⟨tg, iter, ifs, 0⟩] scope pos) 0 (.ref it) acc { cenv with scope := relabel scope X.env }) (RR acc cenv.locals) s₄) E s₃) E s := by
  have hD : H s.heap.objs.size = none := I.fresh
  obtain ⟨W, ⟨m0, w0⟩, turn⟩ := rd s.heap.objs.size hD
  refine wpAny_newObj_type (wpAny_newFunctionEnv ck.nocell (by intro y hy; simp at hy) (fun h₁ hns₁ hsb₁ => ?_) ck.kind)
  rw [hrel]
  dsimp only at hns₁ hsb₁ ⊢
  have I3 : Inv X pins σ (upd H s.heap.objs.size (.lst [])) { s with heap := s.heap.push { cls := .type "list", data := .seq ([] : List Value).toArray } } := I.lnew (t' := s.toks) .nil (Nat.zero_le _)
  have hlt : ∀ b ∈ fp, b < s.heap.objs.size := fun b hb => by
    obtain ⟨o, e, _⟩ := T.obj 0 _ h0 b hb
    exact Heap.lt_size e
  have hf3 : ∀ b ∈ fp, FpOk X pins (upd H s.heap.objs.size (.lst [])) b := fun b hb => by
    obtain ⟨f0, f⟩ := hf b hb
    exact ⟨by rw [upd_ne (Nat.ne_of_lt (hlt b hb))]; exact f0, f⟩
  have hlt3 : ∀ b ∈ fp, b < (s.heap.push { cls := .type "list", data := .seq ([] : List Value).toArray }).objs.size := fun b hb => by
    rw [Heap.size_push]
    exact Nat.lt_succ_of_lt (hlt b hb)
  have IB := blk_inv (tk := s.toks + ([] : List (Str × Value)).length) I3 hc ck hf3 hlt3 hns₁ hsb₁
  have keep1 : ∀ b o, s.heap.get? b = some o → h₁.get? b = some o := fun b o e => hsb₁.extBut b o (Nat.ne_of_lt (Nat.lt_of_lt_of_le (Heap.lt_size e) (by rw [Heap.size_push]; exact Nat.le_succ _))) (Heap.get?_push_of_some _ (Heap.get?_push_of_some _ e))
  have st1 : tn 0 h₁ := T.keep _ _ _ h0 fun b _ o e => keep1 b o e
  have hg' := hg pins (clos X.env scope.names []) (s.heap.push { cls := .type "list", data := .seq ([] : List Value).toArray }).objs.size { s with heap := s.heap.push { cls := .type "list", data := .seq ([] : List Value).toArray } } (upd H s.heap.objs.size (.lst [])) fp
  have ht' := ht pins (clos X.env scope.names []) (s.heap.push { cls := .type "list", data := .seq ([] : List Value).toArray }).objs.size { s with heap := s.heap.push { cls := .type "list", data := .seq ([] : List Value).toArray } } (upd H s.heap.objs.size (.lst [])) fp
  have he' := he pins (clos X.env scope.names []) (s.heap.push { cls := .type "list", data := .seq ([] : List Value).toArray }).objs.size { s with heap := s.heap.push { cls := .type "list", data := .seq ([] : List Value).toArray } } (upd H s.heap.objs.size (.lst [])) fp
  have hY : ∃ Y : Cx, Y = blkCx X pins N' (relab X.env.scope scope) (clos X.env scope.names []) (s.heap.push { cls := .type "list", data := .seq ([] : List Value).toArray }).objs.size { s with heap := s.heap.push { cls := .type "list", data := .seq ([] : List Value).toArray } } (upd H s.heap.objs.size (.lst [])) fp := ⟨_, rfl⟩
  obtain ⟨Y, eY⟩ := hY
  have eP : Y.prog = X.prog := by rw [eY]; rfl
  have eW : Y.w = X.w := by rw [eY]; rfl
  have eK : Y.K = X.K := by rw [eY]; rfl
  have eA : Y.A = X.A := by rw [eY]; rfl
  have eC : Y.calm = true := by rw [eY]; exact hc
  have eE : Y.xe = fun _ _ => False := by rw [eY]; rfl
  have eEnv : Y.env = blkEnv X.env (relab X.env.scope scope) (clos X.env scope.names []) (s.heap.push { cls := .type "list", data := .seq ([] : List Value).toArray }).objs.size := by rw [eY]; rfl
  have back : ∀ {H' : Hp} {s' : Shared}, Inv Y [] (blkSt nt caps σ) H' s' → Inv X pins σ H' s' ∧ (∃ m, s'.heap.Ns (s.heap.push { cls := .type "list", data := .seq ([] : List Value).toArray }).objs.size m) ∧ FpOk X pins H' (s.heap.push { cls := .type "list", data := .seq ([] : List Value).toArray }).objs.size := by
    intro H' s' IY
    subst eY
    refine ⟨I3.call' (ch := fp) IY.os IY.base IY.hok IY.bare fun b hb => ?_, ?_, I3.fpOk (Nat.le_refl _) IY.free⟩
    · obtain ⟨_, f1, _, f3, f4, f5⟩ := hf b hb
      exact ⟨f3, f1, f4, f5⟩
    · obtain ⟨m, hn, _⟩ := IY.loc
      exact ⟨m, hn⟩
  have fpY : ∀ {H' : Hp}, (∀ b ∈ fp, H' b = none) → ∀ b ∈ fp, FpOk Y [] H' b := by
    intro H' hn b hb
    subst eY
    obtain ⟨_, f1, f2, f3, f4, f5⟩ := hf b hb
    refine ⟨hn b hb, Nat.ne_of_lt (hlt3 b hb), IB.ok.exfs b hb, .inl hb, (IB.ok.exf b hb).2, fun p hp => ?_⟩
    rcases List.mem_append.mp hp with z | z
    · exact f5 p z
    · cases z
  have IB : Inv Y [] (blkSt nt caps σ) (upd H s.heap.objs.size (.lst [])) { s with heap := h₁, toks := s.toks + ([] : List (Str × Value)).length } := by rw [eY]; exact IB
  rw [← eY] at hg' ht' he'
  have loop : ∀ s₃ : Shared, s₃ = { s with heap := h₁, toks := s.toks + ([] : List (Str × Value)).length } →
      codeAny (model X.prog X.w) X.A (.compLoop (.ListComp elt [⟨tg, iter, ifs, 0⟩] scope pos) 0 (.ref it) (.ref s.heap.objs.size) Y.env) (RR (.ref s.heap.objs.size) (s.heap.push { cls := .type "list", data := .seq ([] : List Value).toArray }).objs.size) s₃ := by
    rintro s₃ rfl
    refine compLoop_go (fun n s' => ∃ i xs H', Inv Y [] (blkSt nt caps σ) H' s' ∧ tn i s'.heap ∧ (∀ b ∈ fp, H' b = none) ∧ W i n xs H') ?_ m0 ⟨0, [], _, IB, st1, fun b hb => (hf3 b hb).1, w0⟩
    rintro n s4 ⟨i, xs, H4, I4, st4, fr4, w4⟩
    rcases turn i n xs H4 w4 with ⟨stop, q⟩ | ⟨go, step⟩
    · have z := T.done Y eP eW eK eC i [] s4 _ H4 (fun _ _ => False) I4 (fpY fr4) st4 stop
      rw [eA] at z
      refine thn z fun r s5 ⟨hr, I5⟩ => ?_
      subst hr
      obtain ⟨a1, a2, a3⟩ := back I5
      exact hRR _ _ s5 H4 a1 a2 a3 q
    · have z := T.item Y eP eW eK eC i [] s4 _ H4 (fun _ _ => False) I4 (fpY fr4) st4 go
      rw [eA] at z
      refine thn z fun r s5 ⟨u, hr, h5⟩ => ?_
      subst hr
      refine thn h5 fun _ s6 ⟨x, H6, I6, r6, y6, st6, fr6⟩ => ?_
      have I6' := I6.pinned (fpY fr6) (T.obj _ _ st6)
      have again : ∀ {σ7 : St} {H7 : Hp} {s7 : Shared} {xs' : List V}, Inv Y ([] ++ pinsAt fp s6.heap) σ7 H7 s7 → StExt (blkSt nt caps σ) σ7 → (∃ m', m' < n ∧ W (i + 1) m' xs' H7) →
          ∃ m, m < n ∧ ∃ i xs H', Inv Y [] (blkSt nt caps σ) H' s7 ∧ tn i s7.heap ∧ (∀ b ∈ fp, H' b = none) ∧ W i m xs H' := fun {σ7 H7 s7 xs'} I7 ex ⟨m', hm, w7⟩ => by
        refine ⟨m', hm, i + 1, xs', H7, (I7.unpinned).weak ex.1.symm ex.2, T.keep _ _ _ st6 fun b hb o e => (I7.pin (b, o) (List.mem_append_right _ (List.mem_append_right _ (mem_pinsAt hb e)))).1, fun b hb => ?_, w7⟩
        obtain ⟨o, e, d⟩ := T.obj _ _ st6 b hb
        exact (I7.pin (b, o) (List.mem_append_right _ (List.mem_append_right _ (mem_pinsAt hb e)))).2.1
      have z2 := hg' _ s6 _ H6 x u _ I6' r6 (step x H6 y6)
      rw [eP, eW, eA, eE] at z2
      refine thn z2 fun _ s7 ⟨σ7, H7, I7, ex7, q7⟩ => ?_
      have z3 := ht' _ s7 σ7 H7 _ I7 q7
      rw [eP, eW, eA, eE] at z3
      refine thn z3 fun b s8 ⟨H8, I8, q8⟩ => ?_
      cases b with
      | false =>
        rw [if_neg Bool.false_ne_true] at q8 ⊢
        exact again I8 ex7 q8
      | true =>
        rw [if_pos rfl] at q8 ⊢
        have z4 := he' _ s8 σ7 H8 _ I8 q8
        rw [eP, eW, eA, eE] at z4
        refine thn z4 fun xv s9 ⟨v, H9, I9, r9, hD9, hl9, q9⟩ => ?_
        have z5 := mt_append (X := Y) _ s9 σ7 H9 (.ref s.heap.objs.size) [v] (.ref s.heap.objs.size) [xv] (fun _ H' => ∃ m', m' < n ∧ W (i + 1) m' (xs ++ [v]) H') I9 rfl (.cons r9 .nil) ⟨_, xs, v, rfl, rfl, hD9, hl9, q9⟩
        rw [eP, eW, eA, eE] at z5
        refine thn z5 fun _ s10 ⟨_, H10, I10, _, q10⟩ => ?_
        exact again I10 ex7 q10
  rw [eEnv] at loop
  refine codeAny_compStart_list (loop _ rfl) (T.self _ 0 _ _ _ st1 (loop _ rfl))

theorem FpOk.turn {H' : Hp} {s' : Shared} {C : Addr} {h' : Heap} (I : Inv X pins σ H' s') (f : FpOk X pins H' C) (hs : Heap.SameBut C s'.heap h') : Inv X pins σ H' { s' with heap := h' } := by
  obtain ⟨f0, f1, f2, f3, f4, f5⟩ := f
  exact I.turned (t' := s'.toks) (fun b o hb e => hs.extBut b o hb e) f0 f1 f3 f4 f5
def tComp (wi : TI) (nt : Nat) (caps : List Nat) (g : TG) (tc : TT) (te : TE) : TE := fun σ H Q => wi σ H fun J H1 => CompRd J nt caps g tc te σ H1 fun D H2 => Q (.ref D) H2
variable {wi : TI} {g : TG} {tc : TT} {te : TE}
theorem pe_comp (hc : X.calm = true) (ck : CompOk X.N X.env.scope scope N' nt caps) (hi : PI X tg iter wi)
    (hg : ∀ pins cl C s H fp, PG (blkCx X pins N' (relab X.env.scope scope) cl C s H fp) tg g)
    (ht : ∀ pins cl C s H fp, PIfs (blkCx X pins N' (relab X.env.scope scope) cl C s H fp) ifs tc)
    (he : ∀ pins cl C s H fp, PE (blkCx X pins N' (relab X.env.scope scope) cl C s H fp) elt te)
    (hs : ∀ x, foldedSetIterable iter X.env x = pure x := by intro _; rfl) (hrel : relabel scope X.env = relab X.env.scope scope := by rfl) :
    PE X (.ListComp elt [⟨tg, iter, ifs, 0⟩] scope pos) (tComp wi nt caps g tc te) := by
  intro pins s σ H Q I h
  rw [eval_ListComp]
  refine wpAny_comprehension_free (use := none) rfl hs (closureFor_eq (free_cell I ck)) ck.kind ck.locs (thn (hi pins s σ H _ I h) fun xv s₁ h₁ => thn h₁ fun itv s₂ h₂ => ?_)
  obtain ⟨it, fp, tn, J, H2, e, I2, T, st2, f2, rd⟩ := h₂
  subst e
  refine comp_run (RR := fun acc C => compPost (model X.prog X.w) X.A X.xe none (EP X pins σ Q) acc C) I2 hc ck hrel T st2 f2 hg ht he rd ?_
  intro D C s' H' I' hm f q
  obtain ⟨m, hm⟩ := hm
  exact ⟨m, hm, fun h' hs' => ⟨.ref D, H', FpOk.turn I' f hs', rfl, q⟩⟩
/-- name = [..] where the store comes ahead of the block's end -/
def sSetComp (i : Nat) (wi : TI) (nt : Nat) (caps : List Nat) (g : TG) (tc : TT) (te : TE) : TS := fun D σ H => wi σ H fun J H1 => CompRd J nt caps g tc te σ H1 fun d H2 => D.nx (σ.set i (some (.ref d))) H2
end
end L2.PM

set_option Elab.async false
set_option linter.all false
set_option maxRecDepth 100000
noncomputable section
namespace L2.PM
open PySem PySem.Spec PyProof.Rows

/-! ### pure values -/
inductive PV where
  | non | bl (b : Bool) | int (i : Int) | str (x : Str) | tup (xs : List PV) | lst (xs : List PV) | obj (C : Addr) (ks : List Str) (ps : List PV) | opq (a : Addr)

mutual
def Rep (K : PySem.W.Frag) (F : Hp) : PV → V → Prop
  | .non, v => v = .non
  | .bl b, v => v = .bl b
  | .int i, v => v = .int i
  | .str x, v => v = .str x
  | .tup xs, v => ∃ a vs, v = .ref a ∧ SqT K F a vs ∧ RepL K F xs vs
  | .lst xs, v => ∃ a vs, v = .ref a ∧ SqL K F a vs ∧ RepL K F xs vs
  | .obj C ks ps, v => ∃ a dx vs, v = .ref a ∧ F a = some (.ins C dx (ks.zip vs)) ∧ F dx = some (.own a) ∧ ks.length = vs.length ∧ RepL K F ps vs
  | .opq a, v => v = .ref a
def RepL (K : PySem.W.Frag) (F : Hp) : List PV → List V → Prop
  | [], vs => vs = []
  | x :: xs, vs => ∃ v r, vs = v :: r ∧ Rep K F x v ∧ RepL K F xs r
end

theorem _root_.L2.Same.seqT {K : PySem.W.Frag} {H H' : Hp} {a : Addr} {xs : List V} (e : Same H H') (h : SqT K H a xs) : SqT K H' a xs := by
  rcases h with (h | ⟨o, h⟩) | h
  · exact .inl (.inl (e _ _ h))
  · exact .inl (.inr ⟨o, e _ _ h⟩)
  · exact .inr h

section
variable {K : PySem.W.Frag} {F F' : Hp}
mutual
theorem Rep.mono (e : Same F F') : ∀ {p : PV} {v : V}, Rep K F p v → Rep K F' p v
  | .non, _, h => h
  | .bl _, _, h => h
  | .int _, _, h => h
  | .str _, _, h => h
  | .tup xs, _, h => by
    unfold Rep at h ⊢
    obtain ⟨a, vs, h1, h2, h3⟩ := h
    exact ⟨a, vs, h1, e.seqT h2, RepL.mono e h3⟩
  | .lst xs, _, h => by
    unfold Rep at h ⊢
    obtain ⟨a, vs, h1, h2, h3⟩ := h
    exact ⟨a, vs, h1, e.seq h2, RepL.mono e h3⟩
  | .obj C ks ps, _, h => by
    unfold Rep at h ⊢
    obtain ⟨a, dx, vs, h1, h2, h3, h4, h5⟩ := h
    exact ⟨a, dx, vs, h1, e _ _ h2, e _ _ h3, h4, RepL.mono e h5⟩
  | .opq _, _, h => h
theorem RepL.mono (e : Same F F') : ∀ {ps : List PV} {vs : List V}, RepL K F ps vs → RepL K F' ps vs
  | [], _, h => h
  | x :: xs, _, h => by
    unfold RepL at h ⊢
    obtain ⟨v, r, h1, h2, h3⟩ := h
    exact ⟨v, r, h1, Rep.mono e h2, RepL.mono e h3⟩
end
theorem RepL.nil : RepL K F [] [] := by unfold RepL; rfl
theorem RepL.cons {p : PV} {v : V} {ps : List PV} {vs : List V} (h : Rep K F p v) (t : RepL K F ps vs) : RepL K F (p :: ps) (v :: vs) := by
  unfold RepL
  exact ⟨v, vs, rfl, h, t⟩
theorem RepL.length : ∀ {ps : List PV} {vs : List V}, RepL K F ps vs → vs.length = ps.length
  | [], _, h => by unfold RepL at h; subst h; rfl
  | x :: xs, _, h => by
    unfold RepL at h
    obtain ⟨v, r, rfl, _, h3⟩ := h
    simp [RepL.length h3]
theorem RepL.get : ∀ {ps : List PV} {vs : List V} {i : Nat} {p : PV}, RepL K F ps vs → ps[i]? = some p → ∃ v, vs[i]? = some v ∧ Rep K F p v
  | [], _, _, _, _, e => by simp at e
  | x :: xs, _, i, p, h, e => by
    unfold RepL at h
    obtain ⟨v, r, rfl, h2, h3⟩ := h
    cases i with
    | zero => simp at e; subst e; exact ⟨v, rfl, h2⟩
    | succ i =>
      obtain ⟨u, e1, e2⟩ := RepL.get (i := i) h3 (by simpa using e)
      exact ⟨u, by simpa using e1, e2⟩
theorem RepL.back {ps : List PV} {vs : List V} {i : Nat} {v : V} (h : RepL K F ps vs) (e : vs[i]? = some v) : ∃ p, ps[i]? = some p ∧ Rep K F p v := by
  cases q : ps[i]? with
  | none =>
    have h1 : ps.length ≤ i := List.getElem?_eq_none_iff.mp q
    have h2 : i < vs.length := (List.getElem?_eq_some_iff.mp e).1
    rw [h.length] at h2
    omega
  | some p =>
    obtain ⟨u, e1, e2⟩ := h.get q
    rw [e] at e1
    cases e1
    exact ⟨p, rfl, e2⟩
theorem RepL.append : ∀ {ps qs : List PV} {vs us : List V}, RepL K F ps vs → RepL K F qs us → RepL K F (ps ++ qs) (vs ++ us)
  | [], _, _, _, h, t => by unfold RepL at h; subst h; exact t
  | x :: xs, _, _, _, h, t => by
    unfold RepL at h
    obtain ⟨v, r, rfl, h2, h3⟩ := h
    exact .cons h2 (RepL.append h3 t)
theorem RepL.snoc {ps : List PV} {vs : List V} {p : PV} {v : V} (h : RepL K F ps vs) (t : Rep K F p v) : RepL K F (ps ++ [p]) (vs ++ [v]) := h.append (.cons t .nil)
theorem RepL.take : ∀ {ps : List PV} {vs : List V} (n : Nat), RepL K F ps vs → RepL K F (ps.take n) (vs.take n)
  | _, _, 0, _ => by simpa using RepL.nil
  | [], _, n + 1, h => by unfold RepL at h; subst h; exact .nil
  | x :: xs, _, n + 1, h => by
    unfold RepL at h
    obtain ⟨v, r, rfl, h2, h3⟩ := h
    exact .cons h2 (RepL.take n h3)
theorem RepL.drop : ∀ {ps : List PV} {vs : List V} (n : Nat), RepL K F ps vs → RepL K F (ps.drop n) (vs.drop n)
  | _, _, 0, h => by simpa using h
  | [], _, n + 1, h => by unfold RepL at h; subst h; exact .nil
  | x :: xs, _, n + 1, h => by
    unfold RepL at h
    obtain ⟨v, r, rfl, h2, h3⟩ := h
    simpa using RepL.drop n h3
theorem RepL.set : ∀ {ps : List PV} {vs : List V} (i : Nat) {p : PV} {v : V}, RepL K F ps vs → Rep K F p v → RepL K F (ps.set i p) (vs.set i v)
  | [], _, _, _, _, h, _ => by unfold RepL at h; subst h; exact .nil
  | x :: xs, _, 0, _, _, h, q => by
    unfold RepL at h
    obtain ⟨v, r, rfl, h2, h3⟩ := h
    exact .cons q h3
  | x :: xs, _, i + 1, _, _, h, q => by
    unfold RepL at h
    obtain ⟨v, r, rfl, h2, h3⟩ := h
    exact .cons h2 (RepL.set i h3 q)
theorem RepL.reverse {ps : List PV} {vs : List V} (h : RepL K F ps vs) : RepL K F ps.reverse vs.reverse := by
  induction ps generalizing vs with
  | nil => unfold RepL at h; subst h; exact .nil
  | cons x xs ih =>
    unfold RepL at h
    obtain ⟨v, r, rfl, h2, h3⟩ := h
    rw [List.reverse_cons, List.reverse_cons]
    exact (ih h3).append (.cons h2 .nil)
end

/-! ### how the heap goes on while a pure thing is reckoned: F is what is frozen -/
structure Grow (F H F' H' : Hp) : Prop where
  ext : Same F F'
  sub : Same F' H'
  same : Same H H'
  new : ∀ a o, F' a = some o → F a = some o ∨ H a = none
theorem Grow.refl {F H : Hp} (h : Same F H) : Grow F H F H := ⟨Same.refl _, h, Same.refl _, fun _ _ e => .inl e⟩
theorem Grow.trans {F H F1 H1 F2 H2 : Hp} (a : Grow F H F1 H1) (b : Grow F1 H1 F2 H2) : Grow F H F2 H2 :=
  ⟨a.ext.trans b.ext, b.sub, a.same.trans b.same, fun c o e => by
    rcases b.new c o e with z | z
    · exact a.new c o z
    · exact .inr (a.same.free z)⟩
/-- a new thing is laid and frozen -/
theorem Grow.laid {F H : Hp} {p : Addr} {o : HO} (h : Same F H) (n : H p = none) : Grow F H (upd F p o) (upd H p o) := by
  have nF : F p = none := by
    cases q : F p with
    | none => rfl
    | some u => rw [h p u q] at n; cases n
  refine ⟨fun a u e => ?_, fun a u e => ?_, fun a u e => ?_, fun a u e => ?_⟩
  · rw [upd_ne (ne_of_none e nF)]; exact e
  · by_cases z : a = p
    · subst z; rw [upd_same] at e ⊢; exact e
    · rw [upd_ne z] at e ⊢; exact h a u e
  · rw [upd_ne (ne_of_none e n)]; exact e
  · by_cases z : a = p
    · subst z; exact .inr n
    · rw [upd_ne z] at e; exact .inl e
/-- .. laid, not frozen -/
theorem Grow.side {F H : Hp} {p : Addr} {o : HO} (h : Same F H) (n : H p = none) : Grow F H F (upd H p o) := by
  refine ⟨Same.refl _, fun a u e => ?_, fun a u e => ?_, fun a u e => .inl e⟩
  · rw [upd_ne (ne_of_none (h a u e) n)]; exact h a u e
  · rw [upd_ne (ne_of_none e n)]; exact e

/-! ### environments: a slot holds nothing known, a frozen value, or a list of the frame's own -/
inductive Slot where
  | un | fz (p : PV) | ow (xs : List PV)
abbrev PEnv := List Slot
def Slot.val : Slot → Option PV
  | .un => none
  | .fz p => some p
  | .ow xs => some (.lst xs)
def getV (γ : PEnv) (i : Nat) : Option PV := (γ[i]?).bind Slot.val
def ERep (K : PySem.W.Frag) (F : Hp) (σ : St) (γ : PEnv) (ms : List Nat) : Prop := ∀ i ∈ ms, ∀ p, getV γ i = some p → ∃ v, σ[i]? = some (some v) ∧ Rep K F p v
theorem ERep.mono {K : PySem.W.Frag} {F F' : Hp} {σ : St} {γ : PEnv} {ms : List Nat} (h : ERep K F σ γ ms) (e : Same F F') : ERep K F' σ γ ms := fun i hi p hp => by
  obtain ⟨v, h1, h2⟩ := h i hi p hp
  exact ⟨v, h1, h2.mono e⟩
theorem ERep.left {K : PySem.W.Frag} {F : Hp} {σ : St} {γ : PEnv} {ms ns : List Nat} (h : ERep K F σ γ (ms ++ ns)) : ERep K F σ γ ms := fun i hi => h i (List.mem_append_left _ hi)
theorem ERep.right {K : PySem.W.Frag} {F : Hp} {σ : St} {γ : PEnv} {ms ns : List Nat} (h : ERep K F σ γ (ms ++ ns)) : ERep K F σ γ ns := fun i hi => h i (List.mem_append_right _ hi)

/-! ### the judgements -/
/-- what is wanted of a value r from (F, H) on -/
def Wv (K : PySem.W.Frag) (F H : Hp) (r : PV) (Q : VK) : Prop := ∀ v H' F', Grow F H F' H' → Rep K F' r v → Q v H'
/-- .. of a new list that is nobody's yet -/
def Wo (K : PySem.W.Frag) (F H : Hp) (xs : List PV) (Q : VK) : Prop := ∀ a vs H' F', Grow F H F' H' → H a = none → F' a = none → H' a = some (.lst vs) → RepL K F' xs vs → Q (.ref a) H'
theorem Wv.go {K : PySem.W.Frag} {F H F' H' : Hp} {r : PV} {Q : VK} (w : Wv K F H r Q) (g : Grow F H F' H') : Wv K F' H' r Q := fun v H2 F2 g2 => w v H2 F2 (g.trans g2)
theorem Wo.go {K : PySem.W.Frag} {F H F' H' : Hp} {r : List PV} {Q : VK} (w : Wo K F H r Q) (g : Grow F H F' H') : Wo K F' H' r Q := fun a vs H2 F2 g2 n => w a vs H2 F2 (g.trans g2) (g.same.free n)
theorem Wv.of_lst {K : PySem.W.Frag} {F H : Hp} {xs : List PV} {Q : VK} (w : Wv K F H (.lst xs) Q) : Wo K F H xs Q := by
  intro a vs H' F' g n nF e r
  have gx : Same F' (upd F' a (.lst vs)) := fun b u q => by rw [upd_ne (ne_of_none q nF)]; exact q
  refine w (.ref a) H' (upd F' a (.lst vs)) ⟨g.ext.trans gx, fun b u q => ?_, g.same, fun b u q => ?_⟩ ?_
  · by_cases z : b = a
    · subst z; rw [upd_same] at q; rw [e]; exact q
    · rw [upd_ne z] at q; exact g.sub b u q
  · by_cases z : b = a
    · subst z; exact .inr n
    · rw [upd_ne z] at q; exact g.new b u q
  · unfold Rep
    exact ⟨a, vs, rfl, .of upd_same, r.mono gx⟩
theorem Wv.here {K : PySem.W.Frag} {F H : Hp} {r : PV} {Q : VK} {v : V} (w : Wv K F H r Q) (h : Same F H) (q : Rep K F r v) : Q v H := w v H F (.refl h) q

abbrev MEx := PEnv → Option PV
def tM (K : PySem.W.Frag) (ms : List Nat) (m : MEx) : TE := fun σ H Q => ∃ F γ r, Same F H ∧ ERep K F σ γ ms ∧ m γ = some r ∧ Wv K F H r Q
def tMO (K : PySem.W.Frag) (ms : List Nat) (m : PEnv → Option (List PV)) : TE := fun σ H Q => ∃ F γ r, Same F H ∧ ERep K F σ γ ms ∧ m γ = some r ∧ Wo K F H r Q
def tMT (K : PySem.W.Frag) (ms : List Nat) (m : PEnv → Option Bool) : TT := fun σ H Q => ∃ F γ r, Same F H ∧ ERep K F σ γ ms ∧ m γ = some r ∧ ∀ H' F', Grow F H F' H' → Q r H'
def tMA (K : PySem.W.Frag) (ms : List Nat) (m : PEnv → Option (List PV)) : TA := fun σ H Q => ∃ F γ r, Same F H ∧ ERep K F σ γ ms ∧ m γ = some r ∧ ∀ vs H' F', Grow F H F' H' → RepL K F' r vs → Q vs H'
def EM (X : Cx) (ms : List Nat) (e : Expr) (m : MEx) : Prop := PE X e (tM X.K ms m)
def EO (X : Cx) (ms : List Nat) (e : Expr) (m : PEnv → Option (List PV)) : Prop := PE X e (tMO X.K ms m)
def TM (X : Cx) (ms : List Nat) (e : Expr) (m : PEnv → Option Bool) : Prop := PT X e (tMT X.K ms m)
def AM (X : Cx) (ms : List Nat) (es : List Expr) (m : PEnv → Option (List PV)) : Prop := PA X es (tMA X.K ms m)

section
variable {X : Cx} {e a b : Expr} {es : List Expr} {ms ns : List Nat} {m m1 m2 : MEx} {pos : Pos}
theorem _root_.L2.PE.imp {t t' : TE} (h : PE X e t) (i : ∀ σ H Q, t' σ H Q → t σ H Q) : PE X e t' := fun pins s σ H Q I q => h pins s σ H Q I (i σ H Q q)
theorem _root_.L2.PT.imp {t t' : TT} (h : PT X e t) (i : ∀ σ H Q, t' σ H Q → t σ H Q) : PT X e t' := fun pins s σ H Q I q => h pins s σ H Q I (i σ H Q q)
theorem _root_.L2.PA.imp {t t' : TA} (h : PA X es t) (i : ∀ σ H Q, t' σ H Q → t σ H Q) : PA X es t' := fun pos pins s σ H Q I q => h pos pins s σ H Q I (i σ H Q q)
theorem _root_.L2.PS.imp {st : Stmt} {t t' : TS} (h : PS X st t) (i : ∀ D σ H, t' D σ H → t D σ H) : PS X st t' := fun pins s σ H D I q => h pins s σ H D I (i D σ H q)

/-- a new list is also a value -/
def mLst (m : PEnv → Option (List PV)) : MEx := fun γ => (m γ).map PV.lst
theorem EO.em {m : PEnv → Option (List PV)} (h : EO X ms e m) : EM X ms e (mLst m) := PE.imp h fun σ H Q ⟨F, γ, r, h1, h2, h3, w⟩ => by
  unfold mLst at h3
  cases q : m γ with
  | none => rw [q] at h3; cases h3
  | some xs =>
    rw [q] at h3
    cases h3
    exact ⟨F, γ, xs, h1, h2, q, w.of_lst⟩

/-! ### names, constants -/
def mVar (i : Nat) : MEx := fun γ => getV γ i
def mC (p : PV) : MEx := fun _ => some p
theorem em_var (i : Nat) {x : Str} (h : PE X (.Name x pos) (tVar i)) : EM X [i] (.Name x pos) (mVar i) := PE.imp h fun σ H Q ⟨F, γ, r, h1, h2, h3, w⟩ => by
  obtain ⟨v, e1, e2⟩ := h2 i (by simp) r h3
  exact ⟨v, e1, w.here h1 e2⟩
theorem em_int {i j pos} : EM X [] (.Constant (.int i) j pos) (mC (.int i)) := PE.imp pe_int fun σ H Q ⟨F, γ, r, h1, h2, h3, w⟩ => by
  cases h3; exact w.here h1 (by unfold Rep; rfl)
theorem em_bl {i j pos} : EM X [] (.Constant (.bool i) j pos) (mC (.bl i)) := PE.imp pe_bl fun σ H Q ⟨F, γ, r, h1, h2, h3, w⟩ => by
  cases h3; exact w.here h1 (by unfold Rep; rfl)
theorem em_str {i j pos} : EM X [] (.Constant (.str i) j pos) (mC (.str i)) := PE.imp pe_str fun σ H Q ⟨F, γ, r, h1, h2, h3, w⟩ => by
  cases h3; exact w.here h1 (by unfold Rep; rfl)

/-! ### two-place operations -/
def rM2 (K : PySem.W.Frag) (f : PV → PV → Option PV) : R2 := fun x y H Q => ∃ F p q r, Same F H ∧ Rep K F p x ∧ Rep K F q y ∧ f p q = some r ∧ Wv K F H r Q
def rM2O (K : PySem.W.Frag) (f : PV → PV → Option (List PV)) : R2 := fun x y H Q => ∃ F p q r, Same F H ∧ Rep K F p x ∧ Rep K F q y ∧ f p q = some r ∧ Wo K F H r Q
def bin2 (f : PV → PV → Option α) (m1 m2 : MEx) : PEnv → Option α := fun γ => (m1 γ).bind fun x => (m2 γ).bind fun y => f x y
theorem tOp_of {K : PySem.W.Frag} {f : PV → PV → Option PV} {σ : St} {H : Hp} {Q : VK} (h : tM K (ms ++ ns) (bin2 f m1 m2) σ H Q) : tOp (rM2 K f) (tM K ms m1) (tM K ns m2) σ H Q := by
  obtain ⟨F, γ, r, h1, h2, h3, w⟩ := h
  unfold bin2 at h3
  cases e1 : m1 γ with
  | none => rw [e1] at h3; cases h3
  | some x =>
    cases e2 : m2 γ with
    | none => rw [e1, e2] at h3; cases h3
    | some y =>
      rw [e1, e2] at h3
      refine ⟨F, γ, x, h1, h2.left, e1, fun vx H1 F1 g1 r1 => ⟨F1, γ, y, g1.sub, h2.right.mono g1.ext, e2, fun vy H2 F2 g2 r2 => ?_⟩⟩
      exact ⟨F2, x, y, r, g2.sub, r1.mono g2.ext, r2, h3, w.go (g1.trans g2)⟩
theorem tOpO_of {K : PySem.W.Frag} {f : PV → PV → Option (List PV)} {σ : St} {H : Hp} {Q : VK} (h : tMO K (ms ++ ns) (bin2 f m1 m2) σ H Q) : tOp (rM2O K f) (tM K ms m1) (tM K ns m2) σ H Q := by
  obtain ⟨F, γ, r, h1, h2, h3, w⟩ := h
  unfold bin2 at h3
  cases e1 : m1 γ with
  | none => rw [e1] at h3; cases h3
  | some x =>
    cases e2 : m2 γ with
    | none => rw [e1, e2] at h3; cases h3
    | some y =>
      rw [e1, e2] at h3
      refine ⟨F, γ, x, h1, h2.left, e1, fun vx H1 F1 g1 r1 => ⟨F1, γ, y, g1.sub, h2.right.mono g1.ext, e2, fun vy H2 F2 g2 r2 => ?_⟩⟩
      exact ⟨F2, x, y, r, g2.sub, r1.mono g2.ext, r2, h3, w.go (g1.trans g2)⟩
def OpM (X : Cx) (g : Value → Value → Sem Value) (f : PV → PV → Option PV) : Prop := OpR X g (rM2 X.K f)
def OpO (X : Cx) (g : Value → Value → Sem Value) (f : PV → PV → Option (List PV)) : Prop := OpR X g (rM2O X.K f)
theorem em_op {op : Operator} {f : PV → PV → Option PV} (ho : OpM X (binaryOp op) f) (ha : EM X ms a m1) (hb : EM X ns b m2) : EM X (ms ++ ns) (.BinOp a op b pos) (bin2 f m1 m2) :=
  PE.imp (pe_op ho ha hb) fun _ _ _ h => tOp_of h
theorem eo_op {op : Operator} {f : PV → PV → Option (List PV)} (ho : OpO X (binaryOp op) f) (ha : EM X ms a m1) (hb : EM X ns b m2) : EO X (ms ++ ns) (.BinOp a op b pos) (bin2 f m1 m2) :=
  PE.imp (pe_op ho ha hb) fun _ _ _ h => tOpO_of h
theorem em_cmp {op : CmpOp} {f : PV → PV → Option PV} (ho : OpM X (compareOp op) f) (ha : EM X ms a m1) (hb : EM X ns b m2) (hm : behindInMarks op b = false) : EM X (ms ++ ns) (.Compare a [op] [b] pos) (bin2 f m1 m2) :=
  PE.imp (pe_cmpR ho ha hb hm) fun _ _ _ h => tOp_of h
theorem em_ix {f : PV → PV → Option PV} (ho : IxR X (rM2 X.K f)) (ha : EM X ms a m1) (hb : EM X ns b m2) (hs : PlainIx b) : EM X (ms ++ ns) (.Subscript a b pos) (bin2 f m1 m2) :=
  PE.imp (pe_ix ho ha hb hs) fun _ _ _ h => tOp_of h

/-! ### a value as a test -/
def isB : PV → Option Bool
  | .bl b => some b
  | _ => none
def truB (m : MEx) : PEnv → Option Bool := fun γ => (m γ).bind isB
theorem tTest_of {K : PySem.W.Frag} {t : TE} {σ : St} {H : Hp} {Q : Bool → Hp → Prop} (ht : ∀ Q, tM K ms m σ H Q → t σ H Q) (h : tMT K ms (truB m) σ H Q) : tTest t σ H Q := by
  obtain ⟨F, γ, r, h1, h2, h3, w⟩ := h
  unfold truB at h3
  cases e1 : m γ with
  | none => rw [e1] at h3; cases h3
  | some x =>
    rw [e1] at h3
    cases x with
    | bl b =>
      obtain rfl : b = r := Option.some.inj h3
      refine ht _ ⟨F, γ, .bl b, h1, h2, e1, fun v H' F' g q => ?_⟩
      unfold Rep at q
      exact ⟨b, q, w H' F' g⟩
    | _ => cases h3
theorem tm_cmp {op : CmpOp} {f : PV → PV → Option PV} (ho : OpM X (compareOp op) f) (ha : EM X ms a m1) (hb : EM X ns b m2) (hm : behindInMarks op b = false) : TM X (ms ++ ns) (.Compare a [op] [b] pos) (truB (bin2 f m1 m2)) :=
  PT.imp (pt_cmpR ho ha hb hm) fun _ _ _ h => tTest_of (fun _ => tOp_of) h
end
end L2.PM

set_option Elab.async false
set_option linter.all false
set_option maxRecDepth 100000
noncomputable section
namespace L2.PM
open PySem PySem.Spec PyProof.Rows

abbrev LIM : Nat := 1000000
theorem lim_line : LIM ≤ sizeLine := by decide
theorem ite_get {α : Type} {c : Prop} [Decidable c] {a r : α} (h : (if c then some a else none) = some r) : c ∧ a = r := by
  by_cases k : c
  · rw [if_pos k] at h; exact ⟨k, Option.some.inj h⟩
  · rw [if_neg k] at h; cases h

section
variable {X : Cx}
/-! ### ints -/
def iop (C : Int → Int → Bool) (g : Int → Int → PV) : PV → PV → Option PV
  | .int i, .int j => if C i j = true then some (g i j) else none
  | _, _ => none
theorem iop_get {C : Int → Int → Bool} {g : Int → Int → PV} {p q r : PV} (h : iop C g p q = some r) : ∃ i j, p = .int i ∧ q = .int j ∧ C i j = true ∧ r = g i j := by
  cases p <;> cases q <;> first
    | (exfalso; cases h; done)
    | (rename_i i j
       have h : (if C i j = true then some (g i j) else none) = some r := h
       obtain ⟨c, e⟩ := ite_get h
       exact ⟨i, j, rfl, rfl, c, e.symm⟩)
theorem opm_i {f : Value → Value → Sem Value} {C' : Int → Int → Prop} {C : Int → Int → Bool} {g : Int → Int → PV} {gv : Int → Int → V} (ho : OpR X f (rI C' gv)) (hc : ∀ i j, C i j = true → C' i j) (hg : ∀ i j K F, Rep K F (g i j) (gv i j)) : OpM X f (iop C g) := by
  intro pins s σ H x y v u Q I rx ry h
  obtain ⟨F, p, q, r, h1, h2, h3, h4, w⟩ := h
  obtain ⟨i, j, rfl, rfl, c, rfl⟩ := iop_get h4
  unfold Rep at h2 h3
  exact ho pins s σ H x y v u Q I rx ry ⟨i, j, h2, h3, hc i j c, w.here h1 (hg i j _ _)⟩
theorem opm_i0 {f : Value → Value → Sem Value} {g : Int → Int → PV} {gv : Int → Int → V} (ho : OpR X f (rI0 gv)) (hg : ∀ i j K F, Rep K F (g i j) (gv i j)) : OpM X f (iop (fun _ _ => true) g) := by
  intro pins s σ H x y v u Q I rx ry h
  obtain ⟨F, p, q, r, h1, h2, h3, h4, w⟩ := h
  obtain ⟨i, j, rfl, rfl, c, rfl⟩ := iop_get h4
  unfold Rep at h2 h3
  exact ho pins s σ H x y v u Q I rx ry ⟨i, j, h2, h3, w.here h1 (hg i j _ _)⟩
theorem rep_int {K : PySem.W.Frag} {F : Hp} (i : Int) : Rep K F (.int i) (.int i) := by unfold Rep; rfl
theorem rep_bl {K : PySem.W.Frag} {F : Hp} (i : Bool) : Rep K F (.bl i) (.bl i) := by unfold Rep; rfl
theorem rep_str {K : PySem.W.Frag} {F : Hp} (i : Str) : Rep K F (.str i) (.str i) := by unfold Rep; rfl
theorem rep_non {K : PySem.W.Frag} {F : Hp} : Rep K F .non .non := by unfold Rep; rfl
def pSub := iop (fun _ _ => true) fun i j => .int (i - j)
/-- a bound that the kernel does not reckon (a great number beside a letter would be counted down one by one) -/
def cls (p : Prop) : Bool := @decide p (Classical.propDecidable p)
theorem cls_get {p : Prop} (h : cls p = true) : p := @of_decide_eq_true p (Classical.propDecidable p) h
theorem cls_of {p : Prop} (h : p) : cls p = true := @decide_eq_true p (Classical.propDecidable p) h
def cMul (i j : Int) : Bool := cls (-(2 ^ 64) < i ∧ i < 2 ^ 64) || cls (-(2 ^ 64) < j ∧ j < 2 ^ 64)
def cDiv (_ j : Int) : Bool := cls (0 < j ∧ j < 2 ^ 200)
def cPos (_ j : Int) : Bool := decide (0 < j)
def cNn (_ j : Int) : Bool := decide (0 ≤ j)
def cPow (i j : Int) : Bool := cls (0 ≤ j ∧ j ≤ 1000000 ∧ i.natAbs < 2 ^ 64)
def pMul := iop cMul fun i j => .int (i * j)
def pDiv := iop cDiv fun i j => .int (i / j)
def pMod := iop cPos fun i j => .int (i % j)
def pPow := iop cPow fun i j => .int (i ^ j.toNat)
def pShl := iop cPow fun i j => .int (i * 2 ^ j.toNat)
def pShr := iop cNn fun i j => .int (i / 2 ^ j.toNat)
def pAnd := iop (fun _ _ => true) fun i j => .int (Builtin.bitAnd i j)
def pOr := iop (fun _ _ => true) fun i j => .int (Builtin.bitOr i j)
def pLt := iop (fun _ _ => true) fun i j => .bl (decide (i < j))
def pLe := iop (fun _ _ => true) fun i j => .bl (decide (i ≤ j))
def pGt := iop (fun _ _ => true) fun i j => .bl (decide (j < i))
def pGe := iop (fun _ _ => true) fun i j => .bl (decide (j ≤ i))
theorem cMul_ok {i j : Int} (h : cMul i j = true) : CMul i j := by
  unfold cMul at h
  rw [Bool.or_eq_true] at h
  exact h.imp cls_get cls_get
theorem om_mul : OpM X (binaryOp .Mult) pMul := opm_i op_mul (fun _ _ h => cMul_ok h) fun _ _ _ _ => rep_int _
theorem div_log {j : Int} (h0 : 0 < j) (h : j < 2 ^ 200) : j.natAbs.log2 < 9000 := by
  have h1 : j.natAbs < 2 ^ 200 := by omega
  have h2 : j.natAbs.log2 < 200 := (Nat.log2_lt (by omega)).mpr h1
  omega
theorem op_fdivL : OpR X (binaryOp .FloorDiv) (rI (fun _ j => 0 < j ∧ j < 2 ^ 200) fun i j => .int (i / j)) := opI fun i j _ _ _ _ _ hc q => by
  have h1 : (0 : Int) < j := hc.1
  exact floordiv_int (by omega) (by rw [Int.fdiv_eq_ediv_of_nonneg i (by omega)]; exact q) (.inl (PyProof.noPylong_of_log2 (div_log h1 hc.2)))
theorem om_div : OpM X (binaryOp .FloorDiv) pDiv := opm_i op_fdivL (fun _ _ h => cls_get h) fun _ _ _ _ => rep_int _
theorem om_mod : OpM X (binaryOp .Mod) pMod := opm_i op_mod (fun _ _ h => of_decide_eq_true h) fun _ _ _ _ => rep_int _
theorem om_lt : OpM X (compareOp .Lt) pLt := opm_i0 op_lt fun _ _ _ _ => rep_bl _
theorem om_le : OpM X (compareOp .LtE) pLe := opm_i0 op_le fun _ _ _ _ => rep_bl _
theorem om_gt : OpM X (compareOp .Gt) pGt := opm_i0 op_gt fun _ _ _ _ => rep_bl _
/-! ### + of ints, texts, lists -/
theorem op_catS : OpR X (binaryOp .Add) (fun x y H Q => ∃ l b xs zs, x = .ref l ∧ y = .ref b ∧ SqL X.K H l xs ∧ SqL X.K H b zs ∧ xs.length + zs.length ≤ sizeLine ∧ ∀ p, H p = none → Q (.ref p) (upd H p (.lst (xs ++ zs)))) := by
  intro pins s σ H x y v u Q I rx ry h
  obtain ⟨l, b, xs, zs, rfl, rfl, hH, hB, hz, q⟩ := h
  cases rx
  cases ry
  obtain ⟨its, r, ⟨⟨cls, dd, data, sl⟩, n, e, c, _, d⟩, _⟩ := I.list hH
  obtain ⟨its2, r2, ⟨⟨cls2, dd2, data2, sl2⟩, n2, e2, c2, _, d2⟩, _⟩ := I.list hB
  simp only at c d c2 d2
  subst c d c2 d2
  have hsz : its.toArray.size + its2.toArray.size ≤ sizeLine := by rw [List.size_toArray, List.size_toArray, ← r.length, ← r2.length]; exact hz
  have ea : its.toArray ++ its2.toArray = (its ++ its2).toArray := by simp
  refine concat_meets ⟨_, e, rfl⟩ ⟨_, e2, rfl⟩ noFill_list_add seq_list_add PySem.F.slot_list_add PySem.F.entry_list_add (PySem.F.args_list_add_2 _ _)
    (list_addW l b its.toArray its2.toArray n n2 dd dd2 sl sl2 hsz) ⟨e, e2, ?_⟩
  rw [ea]
  exact ⟨.ref _, _, I.lnew (t' := s.toks) (r.append r2) (by rw [List.length_append]; omega), rfl, q _ I.fresh⟩
def pCat : PV → PV → Option (List PV)
  | .lst a, .lst b => if a.length + b.length ≤ LIM then some (a ++ b) else none
  | _, _ => none
theorem oo_cat : OpO X (binaryOp .Add) pCat := by
  intro pins s σ H x y v u Q I rx ry h
  obtain ⟨F, p, q, r, h1, h2, h3, h4, w⟩ := h
  cases p <;> cases q <;> first
    | (exfalso; cases h4; done)
    | skip
  rename_i xs ys
  have h4 : (if xs.length + ys.length ≤ LIM then some (xs ++ ys) else none) = some r := h4
  obtain ⟨c, rfl⟩ := ite_get h4
  unfold Rep at h2 h3
  obtain ⟨a, vs, rfl, sa, ra⟩ := h2
  obtain ⟨b, us, rfl, sb, rb⟩ := h3
  refine op_catS pins s σ H _ _ v u Q I rx ry ⟨a, b, vs, us, rfl, rfl, h1.seq sa, h1.seq sb, by rw [ra.length, rb.length]; exact Nat.le_trans c lim_line, fun p hp => ?_⟩
  have nF : F p = none := h1.free hp
  exact w p _ _ F (.side h1 hp) hp nF upd_same (ra.append rb)
def pAdd : PV → PV → Option PV
  | .int i, .int j => some (.int (i + j))
  | .str a, .str b => if a.length + b.length ≤ LIM then some (.str (a ++ b)) else none
  | _, _ => none
theorem om_add : OpM X (binaryOp .Add) pAdd := by
  intro pins s σ H x y v u Q I rx ry h
  obtain ⟨F, p, q, r, h1, h2, h3, h4, w⟩ := h
  cases p <;> cases q <;> first
    | (exfalso; cases h4; done)
    | skip
  · cases h4
    unfold Rep at h2 h3
    exact op_add pins s σ H x y v u Q I rx ry ⟨_, _, h2, h3, w.here h1 (rep_int _)⟩
  · rename_i a b
    have h4 : (if a.length + b.length ≤ LIM then some (PV.str (a ++ b)) else none) = some r := h4
    obtain ⟨c, rfl⟩ := ite_get h4
    unfold Rep at h2 h3
    exact op_add_str pins s σ H x y v u Q I rx ry ⟨_, _, h2, h3, Nat.le_trans c lim_line, w.here h1 (rep_str _)⟩
end
end L2.PM

set_option Elab.async false
set_option linter.all false
set_option maxRecDepth 100000
noncomputable section
namespace L2.PM
open PySem PySem.Spec PyProof.Rows

/-! ### == of pure values -/
mutual
def peq : PV → PV → Bool
  | .non, .non => true
  | .bl a, .bl b => a == b
  | .bl a, .int b => (if a then 1 else 0) == b
  | .int a, .bl b => a == (if b then 1 else 0)
  | .int a, .int b => a == b
  | .str a, .str b => a == b
  | .tup xs, .tup ys => peqL xs ys
  | .lst xs, .lst ys => peqL xs ys
  | .obj C ks ps, .obj D ls qs => (C == D && ks == ls) && peqL ps qs
  | .opq a, .opq b => a == b
  | _, _ => false
def peqL : List PV → List PV → Bool
  | [], [] => true
  | x :: xs, y :: ys => peq x y && peqL xs ys
  | _, _ => false
end
mutual
def dep : PV → Nat
  | .tup xs => depL xs + 1
  | .lst xs => depL xs + 1
  | .obj _ _ _ => 1000
  | .opq _ => 1000
  | _ => 0
def depL : List PV → Nat
  | [] => 0
  | x :: xs => max (dep x) (depL xs)
end
theorem depL_get : ∀ {xs : List PV} {j : Nat} {p : PV}, xs[j]? = some p → dep p ≤ depL xs
  | [], _, _, e => by simp at e
  | x :: xs, 0, p, e => by
    simp at e; subst e
    unfold depL
    exact Nat.le_max_left _ _
  | x :: xs, j + 1, p, e => by
    have := depL_get (xs := xs) (j := j) (by simpa using e)
    unfold depL
    exact Nat.le_trans this (Nat.le_max_right _ _)
mutual
theorem peq_refl : ∀ p : PV, peq p p = true
  | .non => by simp [peq]
  | .bl _ => by simp [peq]
  | .int _ => by simp [peq]
  | .str _ => by simp [peq]
  | .tup xs => by unfold peq; exact peqL_refl xs
  | .lst xs => by unfold peq; exact peqL_refl xs
  | .obj C ks ps => by unfold peq; rw [peqL_refl ps]; simp
  | .opq _ => by simp [peq]
theorem peqL_refl : ∀ xs : List PV, peqL xs xs = true
  | [] => by simp [peqL]
  | x :: xs => by
    unfold peqL
    rw [peq_refl x, peqL_refl xs]
    rfl
end
def eAt (xs ys : List PV) (j : Nat) : Bool := match xs[j]?, ys[j]? with
  | some p, some q => peq p q
  | _, _ => true
theorem range_all_succ (n : Nat) (e : Nat → Bool) : (List.range (n + 1)).all e = (e 0 && (List.range n).all fun j => e (j + 1)) := by
  rw [List.range_succ_eq_map, List.all_cons, List.all_map]
  rfl
theorem peqL_range : ∀ (xs ys : List PV), ((List.range (min xs.length ys.length)).all (eAt xs ys) && (xs.length == ys.length)) = peqL xs ys
  | [], [] => by simp [peqL]
  | [], y :: ys => by simp [peqL]
  | x :: xs, [] => by simp [peqL]
  | x :: xs, y :: ys => by
    have ih := peqL_range xs ys
    unfold peqL
    rw [← ih]
    have e1 : min (x :: xs).length (y :: ys).length = min xs.length ys.length + 1 := by
      simp only [List.length_cons]; omega
    rw [e1, range_all_succ]
    have e2 : eAt (x :: xs) (y :: ys) 0 = peq x y := by simp [eAt]
    have e3 : (fun j => eAt (x :: xs) (y :: ys) (j + 1)) = eAt xs ys := by
      funext j
      simp [eAt]
    have e4 : ((x :: xs).length == (y :: ys).length) = (xs.length == ys.length) := by
      rw [Bool.eq_iff_iff]; simp
    rw [e2, e3, e4, Bool.and_assoc]

section
variable {X : Cx} {pins : List (Addr × Obj)} {σ : St} {H F : Hp} {s : Shared}
theorem ins_cls (I : Inv X pins σ H s) {a C dx : Addr} {fs : List (Str × V)} (h : H a = some (.ins C dx fs)) : ∃ o, s.heap.get? a = some o ∧ o.cls = .ref C := by
  obtain ⟨_, _, _, ob, _⟩ := (show ObjOk X.prog X.w H s.heap a (.ins C dx fs) from I.hok a _ h)
  exact ⟨_, ob, rfl⟩
theorem ins_tup (I : Inv X pins σ H s) {a C dx : Addr} {fs : List (Str × V)} {vs : List V} (h : H a = some (.ins C dx fs)) (k : SqT X.K H a vs) : False := by
  obtain ⟨o, e, c⟩ := ins_cls I h
  obtain ⟨its, _, ⟨o2, e2, c2, _⟩, _⟩ := I.tuple k
  rw [e] at e2
  cases e2
  rw [c] at c2
  cases c2
theorem ins_lst (I : Inv X pins σ H s) {a C dx : Addr} {fs : List (Str × V)} {vs : List V} (h : H a = some (.ins C dx fs)) (k : SqL X.K H a vs) : False := by
  obtain ⟨o, e, c⟩ := ins_cls I h
  obtain ⟨its, _, ⟨o2, n, e2, c2, _⟩, _⟩ := I.list k
  rw [e] at e2
  cases e2
  rw [c] at c2
  cases c2
theorem zip_inj : ∀ {ks ls : List Str} {vs us : List V}, ks.length = vs.length → ls.length = us.length → ks.zip vs = ls.zip us → ks = ls ∧ vs = us
  | [], [], [], [], _, _, _ => ⟨rfl, rfl⟩
  | k :: ks, l :: ls, v :: vs, u :: us, h1, h2, h => by
    simp only [List.zip_cons_cons, List.cons.injEq, Prod.mk.injEq] at h
    obtain ⟨e1, e2⟩ := zip_inj (by simpa using h1) (by simpa using h2) h.2
    rw [h.1.1, h.1.2, e1, e2]
    exact ⟨rfl, rfl⟩
  | [], l :: ls, vs, u :: us, h1, h2, h => by simp at h
  | k :: ks, [], v :: vs, us, h1, h2, h => by simp at h
  | [], _, _ :: _, _, h1, _, _ => by simp at h1
  | _ :: _, _, [], _, h1, _, _ => by simp at h1
  | _, [], _, _ :: _, _, h2, _ => by simp at h2
  | _, _ :: _, _, [], _, h2, _ => by simp at h2
mutual
theorem Rep.inj (I : Inv X pins σ H s) (hF : Same F H) : ∀ {p q : PV} {v : V}, dep p < 1000 → dep q < 1000 → Rep X.K F p v → Rep X.K F q v → p = q
  | .non, q, v, _, dq, h, k => by
    unfold Rep at h; subst h
    cases q <;> unfold Rep at k <;> first | rfl | (cases k; done) | (obtain ⟨_, _, k, _⟩ := k; cases k; done) | (obtain ⟨_, _, _, k, _⟩ := k; cases k; done)
  | .bl b, q, v, _, dq, h, k => by
    unfold Rep at h; subst h
    cases q <;> unfold Rep at k <;> first | (cases k; done) | (cases k; rfl) | (obtain ⟨_, _, k, _⟩ := k; cases k; done) | (obtain ⟨_, _, _, k, _⟩ := k; cases k; done)
  | .int b, q, v, _, dq, h, k => by
    unfold Rep at h; subst h
    cases q <;> unfold Rep at k <;> first | (cases k; done) | (cases k; rfl) | (obtain ⟨_, _, k, _⟩ := k; cases k; done) | (obtain ⟨_, _, _, k, _⟩ := k; cases k; done)
  | .str b, q, v, _, dq, h, k => by
    unfold Rep at h; subst h
    cases q <;> unfold Rep at k <;> first | (cases k; done) | (cases k; rfl) | (obtain ⟨_, _, k, _⟩ := k; cases k; done) | (obtain ⟨_, _, _, k, _⟩ := k; cases k; done)
  | .tup xs, q, v, dp, dq, h, k => by
    unfold Rep at h
    obtain ⟨a, vs, rfl, h2, h3⟩ := h
    cases q with
    | tup ys =>
      unfold Rep at k
      obtain ⟨b, us, e, k2, k3⟩ := k
      cases e
      have e := I.tuple_inj (hF.seqT h2) (hF.seqT k2)
      subst e
      unfold dep at dp dq
      rw [RepL.inj I hF (by omega) (by omega) h3 k3]
    | lst ys =>
      unfold Rep at k
      obtain ⟨b, us, e, k2, k3⟩ := k
      cases e
      obtain ⟨its, _, p1, _⟩ := I.tuple (hF.seqT h2)
      obtain ⟨its2, _, p2, _⟩ := I.list (hF.seq k2)
      exact absurd rfl (PySem.SeqAt.ne_of_list_tuple p2.isList p1)
    | obj C ks ps => unfold dep at dq; omega
    | opq b => unfold dep at dq; omega
    | _ => unfold Rep at k; cases k
  | .lst xs, q, v, dp, dq, h, k => by
    unfold Rep at h
    obtain ⟨a, vs, rfl, h2, h3⟩ := h
    cases q with
    | lst ys =>
      unfold Rep at k
      obtain ⟨b, us, e, k2, k3⟩ := k
      cases e
      have e := I.list_inj (hF.seq h2) (hF.seq k2)
      subst e
      unfold dep at dp dq
      rw [RepL.inj I hF (by omega) (by omega) h3 k3]
    | tup ys =>
      unfold Rep at k
      obtain ⟨b, us, e, k2, k3⟩ := k
      cases e
      obtain ⟨its, _, p1, _⟩ := I.list (hF.seq h2)
      obtain ⟨its2, _, p2, _⟩ := I.tuple (hF.seqT k2)
      exact absurd rfl (PySem.SeqAt.ne_of_list_tuple p1.isList p2)
    | obj C ks ps => unfold dep at dq; omega
    | opq b => unfold dep at dq; omega
    | _ => unfold Rep at k; cases k
  | .obj C ks ps, q, v, dp, dq, h, k => by unfold dep at dp; omega
  | .opq a, q, v, dp, dq, h, k => by unfold dep at dp; omega
theorem RepL.inj (I : Inv X pins σ H s) (hF : Same F H) : ∀ {ps qs : List PV} {vs : List V}, depL ps < 1000 → depL qs < 1000 → RepL X.K F ps vs → RepL X.K F qs vs → ps = qs
  | [], qs, vs, dp, dq, h, k => by
    unfold RepL at h; subst h
    cases qs with
    | nil => rfl
    | cons q qs => unfold RepL at k; obtain ⟨_, _, k, _⟩ := k; cases k
  | p :: ps, qs, vs, dp, dq, h, k => by
    unfold RepL at h
    obtain ⟨v, r, rfl, h2, h3⟩ := h
    cases qs with
    | nil => unfold RepL at k; cases k
    | cons q qs =>
      unfold RepL at k
      obtain ⟨v', r', e, k2, k3⟩ := k
      cases e
      unfold depL at dp dq
      rw [Rep.inj I hF (by omega) (by omega) h2 k2, RepL.inj I hF (by omega) (by omega) h3 k3]
end

theorem eqAt_rep (I : Inv X pins σ H s) (hF : Same F H) : ∀ (n : Nat) (A : Around) (p q : PV) (v u : V) (x y : Value), dep p ≤ n → n ≤ 900 → dep q < 1000 → A.units + n < cLine → Rep X.K F p v → Rep X.K F q u → RelV v x → RelV u y → SeqAt.EqAt A s x y (peq p q) := by
  intro n
  induction n with
  | zero =>
    intro A p q v u x y hd hn hdq hu hp hq rx ry
    cases p with
    | tup xs => unfold dep at hd; omega
    | lst xs => unfold dep at hd; omega
    | obj C ks ps => unfold dep at hd; omega
    | opq b => unfold dep at hd; omega
    | non =>
      unfold Rep at hp; subst hp; cases rx
      cases q with
      | obj D ls qs => unfold dep at hdq; omega
      | opq b => unfold dep at hdq; omega
      | non => unfold Rep at hq; subst hq; cases ry; simp only [peq]; exact SeqAt.EqAt.same _
      | bl b => unfold Rep at hq; subst hq; cases ry; simp only [peq]; exact SeqAt.EqAt.none_bool b
      | int b => unfold Rep at hq; subst hq; obtain ⟨t, rfl⟩ := ry; simp only [peq]; exact SeqAt.EqAt.none_int b t
      | str b => unfold Rep at hq; subst hq; obtain ⟨t, rfl⟩ := ry; simp only [peq]; exact SeqAt.EqAt.none_str b t
      | tup ys =>
        unfold Rep at hq; obtain ⟨b, us, rfl, k2, k3⟩ := hq; cases ry
        obtain ⟨its, _, p1, _⟩ := I.tuple (hF.seqT k2)
        simp only [peq]; exact SeqAt.EqAt.none_tuple p1 (by omega)
      | lst ys =>
        unfold Rep at hq; obtain ⟨b, us, rfl, k2, k3⟩ := hq; cases ry
        obtain ⟨its, _, p1, _⟩ := I.list (hF.seq k2)
        simp only [peq]; exact SeqAt.EqAt.none_list p1.isList (by omega)
    | bl a =>
      unfold Rep at hp; subst hp; cases rx
      cases q with
      | obj D ls qs => unfold dep at hdq; omega
      | opq b => unfold dep at hdq; omega
      | non => unfold Rep at hq; subst hq; cases ry; simp only [peq]; exact SeqAt.EqAt.bool_none a
      | bl b => unfold Rep at hq; subst hq; cases ry; simp only [peq]; exact SeqAt.EqAt.bool_bool a b
      | int b => unfold Rep at hq; subst hq; obtain ⟨t, rfl⟩ := ry; simp only [peq]; exact SeqAt.EqAt.bool_int a b t
      | str b => unfold Rep at hq; subst hq; obtain ⟨t, rfl⟩ := ry; simp only [peq]; exact SeqAt.EqAt.bool_str a b t
      | tup ys =>
        unfold Rep at hq; obtain ⟨b, us, rfl, k2, k3⟩ := hq; cases ry
        obtain ⟨its, _, p1, _⟩ := I.tuple (hF.seqT k2)
        simp only [peq]; exact SeqAt.EqAt.bool_tuple a p1 (by omega)
      | lst ys =>
        unfold Rep at hq; obtain ⟨b, us, rfl, k2, k3⟩ := hq; cases ry
        obtain ⟨its, _, p1, _⟩ := I.list (hF.seq k2)
        simp only [peq]; exact SeqAt.EqAt.bool_list a p1.isList (by omega)
    | int a =>
      unfold Rep at hp; subst hp; obtain ⟨t', rfl⟩ := rx
      cases q with
      | obj D ls qs => unfold dep at hdq; omega
      | opq b => unfold dep at hdq; omega
      | non => unfold Rep at hq; subst hq; cases ry; simp only [peq]; exact SeqAt.EqAt.int_none a t'
      | bl b => unfold Rep at hq; subst hq; cases ry; simp only [peq]; exact SeqAt.EqAt.int_bool a t' b
      | int b => unfold Rep at hq; subst hq; obtain ⟨t, rfl⟩ := ry; simp only [peq]; exact SeqAt.EqAt.int_int a t' b t
      | str b => unfold Rep at hq; subst hq; obtain ⟨t, rfl⟩ := ry; simp only [peq]; exact SeqAt.EqAt.int_str a t' b t
      | tup ys =>
        unfold Rep at hq; obtain ⟨b, us, rfl, k2, k3⟩ := hq; cases ry
        obtain ⟨its, _, p1, _⟩ := I.tuple (hF.seqT k2)
        simp only [peq]; exact SeqAt.EqAt.int_tuple a t' p1 (by omega)
      | lst ys =>
        unfold Rep at hq; obtain ⟨b, us, rfl, k2, k3⟩ := hq; cases ry
        obtain ⟨its, _, p1, _⟩ := I.list (hF.seq k2)
        simp only [peq]; exact SeqAt.EqAt.int_list a t' p1.isList (by omega)
    | str a =>
      unfold Rep at hp; subst hp; obtain ⟨t', rfl⟩ := rx
      cases q with
      | obj D ls qs => unfold dep at hdq; omega
      | opq b => unfold dep at hdq; omega
      | non => unfold Rep at hq; subst hq; cases ry; simp only [peq]; exact SeqAt.EqAt.str_none a t'
      | bl b => unfold Rep at hq; subst hq; cases ry; simp only [peq]; exact SeqAt.EqAt.str_bool a t' b
      | int b => unfold Rep at hq; subst hq; obtain ⟨t, rfl⟩ := ry; simp only [peq]; exact SeqAt.EqAt.str_int a t' b t
      | str b => unfold Rep at hq; subst hq; obtain ⟨t, rfl⟩ := ry; simp only [peq]; exact SeqAt.EqAt.str_str a t' b t
      | tup ys =>
        unfold Rep at hq; obtain ⟨b, us, rfl, k2, k3⟩ := hq; cases ry
        obtain ⟨its, _, p1, _⟩ := I.tuple (hF.seqT k2)
        simp only [peq]; exact SeqAt.EqAt.str_tuple a t' p1 (by omega)
      | lst ys =>
        unfold Rep at hq; obtain ⟨b, us, rfl, k2, k3⟩ := hq; cases ry
        obtain ⟨its, _, p1, _⟩ := I.list (hF.seq k2)
        simp only [peq]; exact SeqAt.EqAt.str_list a t' p1.isList (by omega)
  | succ n ih =>
    intro A p q v u x y hd hn hdq hu hp hq rx ry
    by_cases hd0 : dep p ≤ n
    · exact ih A p q v u x y hd0 (by omega) hdq (by omega) hp hq rx ry
    · have hN : A.units < cLine := by omega
      cases p with
      | tup xs =>
        unfold Rep at hp
        obtain ⟨a, vs, rfl, h2, h3⟩ := hp
        cases rx
        have hdx : depL xs ≤ n := by unfold dep at hd; omega
        obtain ⟨its, rv, p1, z1⟩ := I.tuple (hF.seqT h2)
        cases q with
        | obj D ls qs => unfold dep at hdq; omega
        | opq b => unfold dep at hdq; omega
        | non => unfold Rep at hq; subst hq; cases ry; simp only [peq]; exact SeqAt.EqAt.tuple_none p1 hN
        | bl b => unfold Rep at hq; subst hq; cases ry; simp only [peq]; exact SeqAt.EqAt.tuple_bool b p1 hN
        | int b => unfold Rep at hq; subst hq; obtain ⟨t, rfl⟩ := ry; simp only [peq]; exact SeqAt.EqAt.tuple_int b t p1 hN
        | str b => unfold Rep at hq; subst hq; obtain ⟨t, rfl⟩ := ry; simp only [peq]; exact SeqAt.EqAt.tuple_str b t p1 hN
        | lst ys =>
          unfold Rep at hq; obtain ⟨b, us, rfl, k2, k3⟩ := hq; cases ry
          obtain ⟨its2, _, p2, _⟩ := I.list (hF.seq k2)
          simp only [peq]; exact SeqAt.EqAt.tuple_list p1 p2.isList hN
        | tup ys =>
          unfold Rep at hq; obtain ⟨b, us, rfl, k2, k3⟩ := hq; cases ry
          obtain ⟨its2, ru, p2, z2⟩ := I.tuple (hF.seqT k2)
          simp only [peq]
          by_cases hab : a = b
          · subst hab
            have e := I.tuple_inj (hF.seqT h2) (hF.seqT k2)
            subst e
            rw [RepL.inj I hF (by omega) (by unfold dep at hdq; omega) h3 k3, peqL_refl]
            exact SeqAt.EqAt.same _
          · have l1 : its.toArray.size = xs.length := by rw [List.size_toArray, ← rv.length, h3.length]
            have l2 : its2.toArray.size = ys.length := by rw [List.size_toArray, ← ru.length, k3.length]
            have key := SeqAt.RcAt.tuples (A := A) (s := s) (e := eAt xs ys) p1 p2 hN fun j j1 j2 => ?_
            · rw [l1, l2, peqL_range] at key
              exact SeqAt.EqAt.of_refs hab key
            · have j1' : j < xs.length := by rw [← l1]; exact j1
              have j2' : j < ys.length := by rw [← l2]; exact j2
              have e1 : xs[j]? = some xs[j] := by simp [j1']
              have e2 : ys[j]? = some ys[j] := by simp [j2']
              obtain ⟨v1, ev1, rp1⟩ := h3.get e1
              obtain ⟨v2, ev2, rp2⟩ := k3.get e2
              obtain ⟨w1, ew1, rw1⟩ := rv.get ev1
              obtain ⟨w2, ew2, rw2⟩ := ru.get ev2
              have q1 : its.toArray[j] = w1 := by simpa using (List.getElem?_eq_some_iff.mp ew1).2
              have q2 : its2.toArray[j] = w2 := by simpa using (List.getElem?_eq_some_iff.mp ew2).2
              have e3 : eAt xs ys j = peq xs[j] ys[j] := by unfold eAt; rw [e1, e2]
              rw [q1, q2, e3]
              exact ih A.in1 _ _ v1 v2 w1 w2 (Nat.le_trans (depL_get e1) hdx) (by omega) (by have := depL_get e2; unfold dep at hdq; omega) (by show A.units + 1 + n < cLine; omega) rp1 rp2 rw1 rw2
      | lst xs =>
        unfold Rep at hp
        obtain ⟨a, vs, rfl, h2, h3⟩ := hp
        cases rx
        have hdx : depL xs ≤ n := by unfold dep at hd; omega
        obtain ⟨its, rv, p1, z1⟩ := I.list (hF.seq h2)
        cases q with
        | obj D ls qs => unfold dep at hdq; omega
        | opq b => unfold dep at hdq; omega
        | non => unfold Rep at hq; subst hq; cases ry; simp only [peq]; exact SeqAt.EqAt.list_none p1.isList hN
        | bl b => unfold Rep at hq; subst hq; cases ry; simp only [peq]; exact SeqAt.EqAt.list_bool b p1.isList hN
        | int b => unfold Rep at hq; subst hq; obtain ⟨t, rfl⟩ := ry; simp only [peq]; exact SeqAt.EqAt.list_int b t p1.isList hN
        | str b => unfold Rep at hq; subst hq; obtain ⟨t, rfl⟩ := ry; simp only [peq]; exact SeqAt.EqAt.list_str b t p1.isList hN
        | tup ys =>
          unfold Rep at hq; obtain ⟨b, us, rfl, k2, k3⟩ := hq; cases ry
          obtain ⟨its2, _, p2, _⟩ := I.tuple (hF.seqT k2)
          simp only [peq]; exact SeqAt.EqAt.list_tuple p1.isList p2 hN
        | lst ys =>
          unfold Rep at hq; obtain ⟨b, us, rfl, k2, k3⟩ := hq; cases ry
          obtain ⟨its2, ru, p2, z2⟩ := I.list (hF.seq k2)
          simp only [peq]
          by_cases hab : a = b
          · subst hab
            have e := I.list_inj (hF.seq h2) (hF.seq k2)
            subst e
            rw [RepL.inj I hF (by omega) (by unfold dep at hdq; omega) h3 k3, peqL_refl]
            exact SeqAt.EqAt.same _
          · have l1 : its.toArray.size = xs.length := by rw [List.size_toArray, ← rv.length, h3.length]
            have l2 : its2.toArray.size = ys.length := by rw [List.size_toArray, ← ru.length, k3.length]
            by_cases hl : xs.length = ys.length
            · have key := SeqAt.RcAt.lists (A := A) (s := s) (e := eAt xs ys) p1.isList p2.isList (by rw [l1, l2, hl]) hN fun j j1 j2 => ?_
              · have e5 := peqL_range xs ys
                rw [← hl, Nat.min_self, beq_self_eq_true, Bool.and_true] at e5
                rw [l1, e5] at key
                exact SeqAt.EqAt.of_refs hab key
              · have j1' : j < xs.length := by rw [← l1]; exact j1
                have j2' : j < ys.length := by rw [← l2]; exact j2
                have e1 : xs[j]? = some xs[j] := by simp [j1']
                have e2 : ys[j]? = some ys[j] := by simp [j2']
                obtain ⟨v1, ev1, rp1⟩ := h3.get e1
                obtain ⟨v2, ev2, rp2⟩ := k3.get e2
                obtain ⟨w1, ew1, rw1⟩ := rv.get ev1
                obtain ⟨w2, ew2, rw2⟩ := ru.get ev2
                have q1 : its.toArray[j] = w1 := by simpa using (List.getElem?_eq_some_iff.mp ew1).2
                have q2 : its2.toArray[j] = w2 := by simpa using (List.getElem?_eq_some_iff.mp ew2).2
                have e3 : eAt xs ys j = peq xs[j] ys[j] := by unfold eAt; rw [e1, e2]
                rw [q1, q2, e3]
                exact ih A.in1 _ _ v1 v2 w1 w2 (Nat.le_trans (depL_get e1) hdx) (by omega) (by have := depL_get e2; unfold dep at hdq; omega) (by show A.units + 1 + n < cLine; omega) rp1 rp2 rw1 rw2
            · have e5 := peqL_range xs ys
              rw [(beq_eq_false_iff_ne (a := xs.length) (b := ys.length)).mpr hl, Bool.and_false] at e5
              rw [← e5]
              exact SeqAt.EqAt.of_refs hab (SeqAt.RcAt.lists_lengths p1.isList p2.isList (by rw [l1, l2]; simpa using hl) hN)
      | obj C ks ps => unfold dep at hd; omega
      | opq b => unfold dep at hd; omega
      | _ => unfold dep at hd0; omega

/-! ### as data -/
mutual
def toD : PV → PyData
  | .non => .none
  | .bl b => .bool b
  | .int i => .int i
  | .str x => .str x
  | .tup xs => .tuple (toDL xs)
  | .lst xs => .list (toDL xs)
  | .obj _ _ _ => .none
  | .opq _ => .none
def toDL : List PV → List PyData
  | [] => []
  | x :: xs => toD x :: toDL xs
end
mutual
def okS : PV → Bool
  | .str x => PyData.strOk x
  | .tup xs => okSL xs
  | .lst xs => okSL xs
  | _ => true
def okSL : List PV → Bool
  | [] => true
  | x :: xs => okS x && okSL xs
end
def okv (p : PV) : Bool := decide (dep p ≤ 50) && okS p
mutual
theorem canLay_toD : ∀ p : PV, okS p = true → (toD p).canLay0 = true
  | .non, _ => by simp [toD, PyData.canLay0]
  | .bl _, _ => by simp [toD, PyData.canLay0]
  | .int _, _ => by simp [toD, PyData.canLay0]
  | .str x, h => by simpa [toD, PyData.canLay0, okS] using h
  | .tup xs, h => by
    unfold toD PyData.canLay0
    exact canLay_toDL xs (by simpa [okS] using h)
  | .lst xs, h => by
    unfold toD PyData.canLay0
    exact canLay_toDL xs (by simpa [okS] using h)
  | .obj _ _ _, _ => by simp [toD, PyData.canLay0]
  | .opq _, _ => by simp [toD, PyData.canLay0]
theorem canLay_toDL : ∀ xs : List PV, okSL xs = true → PyData.canLayAll0 (toDL xs) = true
  | [], _ => by simp [toDL, PyData.canLayAll0]
  | x :: xs, h => by
    unfold okSL at h
    rw [Bool.and_eq_true] at h
    unfold toDL PyData.canLayAll0
    rw [canLay_toD x h.1, canLay_toDL xs h.2]
    rfl
end
mutual
theorem depth_toD : ∀ p : PV, (toD p).depth ≤ dep p + 1
  | .non => by simp [toD, PyData.depth]
  | .bl _ => by simp [toD, PyData.depth]
  | .int _ => by simp [toD, PyData.depth]
  | .str x => by simp [toD, PyData.depth]
  | .tup xs => by
    have := depth_toDL xs
    simp only [toD, PyData.depth, dep]
    omega
  | .lst xs => by
    have := depth_toDL xs
    simp only [toD, PyData.depth, dep]
    omega
  | .obj _ _ _ => by simp [toD, PyData.depth]
  | .opq _ => by simp [toD, PyData.depth]
theorem depth_toDL : ∀ xs : List PV, PyData.depthAll (toDL xs) ≤ depL xs + 1
  | [] => by simp [toDL, PyData.depthAll]
  | x :: xs => by
    have h1 := depth_toD x
    have h2 := depth_toDL xs
    simp only [toDL, PyData.depthAll, depL]
    omega
end
theorem shaped_toD {p : PV} (h : okv p = true) : SeqAt.shaped (toD p) = true := by
  unfold okv at h
  rw [Bool.and_eq_true, decide_eq_true_iff] at h
  have h1 := depth_toD p
  unfold SeqAt.shaped
  rw [canLay_toD p h.2, Bool.true_and, decide_eq_true_iff]
  omega
mutual
theorem eqv_toD : ∀ p q : PV, dep p < 1000 → dep q < 1000 → PyData.eqv (toD p) (toD q) = peq p q
  | .non, q, _, hq => by cases q <;> first | (simp [toD, PyData.eqv, peq]; done) | (exfalso; unfold dep at hq; omega)
  | .bl _, q, _, hq => by cases q <;> first | (simp [toD, PyData.eqv, peq]; done) | (exfalso; unfold dep at hq; omega)
  | .int _, q, _, hq => by cases q <;> first | (simp [toD, PyData.eqv, peq]; done) | (exfalso; unfold dep at hq; omega)
  | .str _, q, _, hq => by cases q <;> first | (simp [toD, PyData.eqv, peq]; done) | (exfalso; unfold dep at hq; omega)
  | .tup xs, q, hp, hq => by
    cases q with
    | tup ys => simp only [toD, PyData.eqv, peq]; exact eqv_toDL xs ys (by unfold dep at hp; omega) (by unfold dep at hq; omega)
    | obj => exfalso; unfold dep at hq; omega
    | opq => exfalso; unfold dep at hq; omega
    | _ => simp [toD, PyData.eqv, peq]
  | .lst xs, q, hp, hq => by
    cases q with
    | lst ys => simp only [toD, PyData.eqv, peq]; exact eqv_toDL xs ys (by unfold dep at hp; omega) (by unfold dep at hq; omega)
    | obj => exfalso; unfold dep at hq; omega
    | opq => exfalso; unfold dep at hq; omega
    | _ => simp [toD, PyData.eqv, peq]
  | .obj _ _ _, q, hp, _ => by exfalso; unfold dep at hp; omega
  | .opq _, q, hp, _ => by exfalso; unfold dep at hp; omega
theorem eqv_toDL : ∀ xs ys : List PV, depL xs < 1000 → depL ys < 1000 → PyData.eqvAll (toDL xs) (toDL ys) = peqL xs ys
  | [], [], _, _ => by simp [toDL, PyData.eqvAll, peqL]
  | [], _ :: _, _, _ => by simp [toDL, PyData.eqvAll, peqL]
  | _ :: _, [], _, _ => by simp [toDL, PyData.eqvAll, peqL]
  | x :: xs, y :: ys, h1, h2 => by
    simp only [toDL, PyData.eqvAll, peqL]
    unfold depL at h1 h2
    rw [eqv_toD x y (by omega) (by omega), eqv_toDL xs ys (by omega) (by omega)]
end
mutual
theorem Rep.reads (I : Inv X pins σ H s) (hF : Same F H) : ∀ {p : PV} {v : V} {u : Value}, dep p < 1000 → Rep X.K F p v → RelV v u → ∃ as, Reads s.heap u (toD p) as
  | .non, v, u, _, h, r => by unfold Rep at h; subst h; cases r; exact ⟨_, by unfold toD; exact .none⟩
  | .bl b, v, u, _, h, r => by unfold Rep at h; subst h; cases r; exact ⟨_, by unfold toD; exact .bool b⟩
  | .int b, v, u, _, h, r => by unfold Rep at h; subst h; obtain ⟨t, rfl⟩ := r; exact ⟨_, by unfold toD; exact .int b t⟩
  | .str b, v, u, _, h, r => by unfold Rep at h; subst h; obtain ⟨t, rfl⟩ := r; exact ⟨_, by unfold toD; exact .str b t⟩
  | .tup xs, v, u, hd', h, r => by
    unfold Rep at h
    obtain ⟨a, vs, rfl, h2, h3⟩ := h
    cases r
    obtain ⟨its, rv, ⟨o, ho, hc, n, hd⟩, _⟩ := I.tuple (hF.seqT h2)
    obtain ⟨as, ra⟩ := RepL.reads I hF (by unfold dep at hd'; omega) h3 rv
    unfold toD
    exact ⟨_, .tuple ho hc hd (by simpa using ra)⟩
  | .lst xs, v, u, hd', h, r => by
    unfold Rep at h
    obtain ⟨a, vs, rfl, h2, h3⟩ := h
    cases r
    obtain ⟨its, rv, ⟨o, n, ho, hc, _, hd⟩, _⟩ := I.list (hF.seq h2)
    obtain ⟨as, ra⟩ := RepL.reads I hF (by unfold dep at hd'; omega) h3 rv
    unfold toD
    exact ⟨_, .list ho hc hd (by simpa using ra)⟩
  | .obj _ _ _, v, u, hd', _, _ => by exfalso; unfold dep at hd'; omega
  | .opq _, v, u, hd', _, _ => by exfalso; unfold dep at hd'; omega
theorem RepL.reads (I : Inv X pins σ H s) (hF : Same F H) : ∀ {ps : List PV} {vs : List V} {us : List Value}, depL ps < 1000 → RepL X.K F ps vs → Vals vs us → ∃ as, ReadsAll s.heap us (toDL ps) as
  | [], vs, us, _, h, r => by
    unfold RepL at h; subst h; cases r
    exact ⟨[], by unfold toDL; exact .nil⟩
  | p :: ps, vs, us, hd', h, r => by
    unfold depL at hd'
    unfold RepL at h
    obtain ⟨v, t, rfl, h2, h3⟩ := h
    cases r with
    | cons r1 r2 =>
      obtain ⟨a1, q1⟩ := Rep.reads I hF (by omega) h2 r1
      obtain ⟨a2, q2⟩ := RepL.reads I hF (by omega) h3 r2
      unfold toDL
      exact ⟨_, .cons q1 q2⟩
end
/-- == and != of any two -/
theorem okv_lt {p : PV} (h : okv p = true) : dep p < 1000 := by
  unfold okv at h
  rw [Bool.and_eq_true, decide_eq_true_iff] at h
  omega
def pEq (p q : PV) : Option PV := if okv p = true ∧ okv q = true then some (.bl (peq p q)) else none
def pNe (p q : PV) : Option PV := if okv p = true ∧ okv q = true then some (.bl (!peq p q)) else none
theorem om_eq (hu : X.A.units + 64 < cLine) : OpM X (compareOp .Eq) pEq := by
  intro pins s σ H x y v u Q I rx ry h
  obtain ⟨F, p, q, r, h1, h2, h3, h4, w⟩ := h
  obtain ⟨⟨c1, c2⟩, rfl⟩ := ite_get h4
  obtain ⟨as, ra⟩ := Rep.reads I h1 (okv_lt c1) h2 rx
  obtain ⟨bs, rb⟩ := Rep.reads I h1 (okv_lt c2) h3 ry
  refine eq_dataH ra rb (shaped_toD c1) (shaped_toD c2) hu ?_
  rw [eqv_toD _ _ (okv_lt c1) (okv_lt c2)]
  exact ⟨.bl _, H, I, rfl, w.here h1 (rep_bl _)⟩
theorem om_ne (hu : X.A.units + 64 < cLine) : OpM X (compareOp .NotEq) pNe := by
  intro pins s σ H x y v u Q I rx ry h
  obtain ⟨F, p, q, r, h1, h2, h3, h4, w⟩ := h
  obtain ⟨⟨c1, c2⟩, rfl⟩ := ite_get h4
  obtain ⟨as, ra⟩ := Rep.reads I h1 (okv_lt c1) h2 rx
  obtain ⟨bs, rb⟩ := Rep.reads I h1 (okv_lt c2) h3 ry
  refine ne_dataH ra rb (shaped_toD c1) (shaped_toD c2) hu ?_
  rw [eqv_toD _ _ (okv_lt c1) (okv_lt c2)]
  exact ⟨.bl _, H, I, rfl, w.here h1 (rep_bl _)⟩
end
end L2.PM

set_option Elab.async false
set_option linter.all false
set_option maxRecDepth 100000
noncomputable section
namespace L2.PM
open PySem PySem.Spec PyProof.Rows

section
variable {X : Cx} {e a b c : Expr} {es : List Expr} {ms ns ls : List Nat} {m m1 m2 m3 : MEx} {pos : Pos}
/-! ### in, not in -/
theorem any_get : ∀ {its : List Value} {xs : List PV} (f : PV → Bool), its.length = xs.length → ∀ g : Value → Bool, (∀ (j : Nat) (u : Value) (p : PV), its[j]? = some u → xs[j]? = some p → g u = f p) → its.any g = xs.any f
  | [], [], _, _, _, _ => rfl
  | [], _ :: _, _, h, _, _ => by simp at h
  | _ :: _, [], _, h, _, _ => by simp at h
  | u :: us, p :: ps, f, h, g, k => by
    rw [List.any_cons, List.any_cons, k 0 u p rfl rfl, any_get f (by simpa using h) g fun j u p h1 h2 => k (j + 1) u p (by simpa using h1) (by simpa using h2)]
open Classical in
noncomputable def gOf (its : List Value) (xs : List PV) (x : PV) (u : Value) : Bool := if h : ∃ (j : Nat) (p : PV), its[j]? = some u ∧ xs[j]? = some p then peq (Classical.choose (Classical.choose_spec h)) x else false
def pIn : PV → PV → Option PV
  | x, .lst xs => if okv x = true ∧ xs.all okv = true then some (.bl (xs.any fun y => peq y x)) else none
  | x, .tup xs => if okv x = true ∧ xs.all okv = true then some (.bl (xs.any fun y => peq y x)) else none
  | _, _ => none
def pNotIn (x y : PV) : Option PV := (pIn x y).bind fun r => match r with
  | .bl b => some (.bl (!b))
  | _ => none
theorem okv_dep {p : PV} (h : okv p = true) : dep p ≤ 50 := by
  unfold okv at h
  rw [Bool.and_eq_true, decide_eq_true_iff] at h
  exact h.1
theorem mem_eq {pins : List (Addr × Obj)} {σ : St} {H F : Hp} {s : Shared} {A : Around} (I : Inv X pins σ H s) (hF : Same F H) (hu : A.units + 60 < cLine) {x : PV} {xv : V} {xu : Value} {xs : List PV} {vs : List V} {its : List Value}
    (ok : xs.all okv = true) (okx : okv x = true) (hx : Rep X.K F x xv) (rx : RelV xv xu) (hxs : RepL X.K F xs vs) (rv : Vals vs its) :
    (∀ u ∈ its, SeqAt.EqAt A s u xu (gOf its xs x u)) ∧ its.any (gOf its xs x) = xs.any fun y => peq y x := by
  have len : its.length = xs.length := by rw [← rv.length, hxs.length]
  have inj : ∀ (j k : Nat) (u : Value) (p q : PV), its[j]? = some u → xs[j]? = some p → its[k]? = some u → xs[k]? = some q → p = q := fun j k u p q h1 h2 h3 h4 => by
    obtain ⟨v1, e1, r1⟩ := hxs.get h2
    obtain ⟨v2, e2, r2⟩ := hxs.get h4
    obtain ⟨w1, f1, t1⟩ := rv.get e1
    obtain ⟨w2, f2, t2⟩ := rv.get e2
    rw [h1] at f1; rw [h3] at f2
    cases f1; cases f2
    have ev := t1.inj t2
    subst ev
    have hd : ∀ (j : Nat) (p : PV), xs[j]? = some p → dep p < 1000 := fun j p h => by
      have z := List.all_eq_true.mp ok p (List.mem_of_getElem? h)
      unfold okv at z
      rw [Bool.and_eq_true, decide_eq_true_iff] at z
      omega
    exact Rep.inj I hF (hd _ _ h2) (hd _ _ h4) r1 r2
  have val : ∀ (j : Nat) (u : Value) (p : PV), its[j]? = some u → xs[j]? = some p → gOf its xs x u = peq p x := fun j u p h1 h2 => by
    have h : ∃ (j : Nat) (p : PV), its[j]? = some u ∧ xs[j]? = some p := ⟨j, p, h1, h2⟩
    unfold gOf
    rw [dif_pos h]
    have hs := Classical.choose_spec (Classical.choose_spec h)
    rw [inj _ _ u _ _ hs.1 hs.2 h1 h2]
  refine ⟨fun u hu' => ?_, any_get (fun y => peq y x) len _ fun j u p h1 h2 => val j u p h1 h2⟩
  obtain ⟨j, hj⟩ := List.mem_iff_getElem?.mp hu'
  have hjl : j < xs.length := by rw [← len]; exact (List.getElem?_eq_some_iff.mp hj).1
  have e1 : xs[j]? = some xs[j] := by simp [hjl]
  rw [val j u _ hj e1]
  obtain ⟨v1, f1, r1⟩ := hxs.get e1
  obtain ⟨w1, g1, t1⟩ := rv.get f1
  rw [hj] at g1; cases g1
  have okj : okv xs[j] = true := List.all_eq_true.mp ok _ (List.getElem_mem hjl)
  exact eqAt_rep I hF 50 A _ _ v1 xv _ _ (okv_dep okj) (by omega) (okv_lt okx) (by omega) r1 hx t1 rx
theorem pIn_get {x y r : PV} (h : pIn x y = some r) : ∃ xs, (y = .lst xs ∨ y = .tup xs) ∧ okv x = true ∧ xs.all okv = true ∧ r = .bl (xs.any fun y => peq y x) := by
  cases y with
  | lst xs =>
    have h : (if okv x = true ∧ xs.all okv = true then some (PV.bl (xs.any fun y => peq y x)) else none) = some r := h
    obtain ⟨⟨c1, c2⟩, rfl⟩ := ite_get h
    exact ⟨xs, .inl rfl, c1, c2, rfl⟩
  | tup xs =>
    have h : (if okv x = true ∧ xs.all okv = true then some (PV.bl (xs.any fun y => peq y x)) else none) = some r := h
    obtain ⟨⟨c1, c2⟩, rfl⟩ := ite_get h
    exact ⟨xs, .inr rfl, c1, c2, rfl⟩
  | _ => cases h
theorem om_in (hu : X.A.units + 64 < cLine) : OpM X (compareOp .In) pIn := by
  intro pins s σ H x y v u Q I rx ry h
  obtain ⟨F, p, q, r, h1, h2, h3, h4, w⟩ := h
  obtain ⟨xs, hk, c1, c2, rfl⟩ := pIn_get h4
  have hu1 : X.A.in1.units + 60 < cLine := by show X.A.units + 1 + 60 < cLine; omega
  rcases hk with rfl | rfl
  · unfold Rep at h3
    obtain ⟨a, vs, rfl, k2, k3⟩ := h3
    cases ry
    obtain ⟨its, rv, pl, _⟩ := I.list (h1.seq k2)
    obtain ⟨he, hany⟩ := mem_eq (A := X.A.in1) I h1 hu1 c2 c1 h2 rx k3 rv
    refine SeqAt.in_listAt (gOf its xs p) pl.isList (fun y hy => he y (by simpa using hy)) ⟨.bl _, H, I, rfl, ?_⟩
    rw [show its.toArray.any (gOf its xs p) = its.any (gOf its xs p) by simp, hany]
    exact w.here h1 (rep_bl _)
  · unfold Rep at h3
    obtain ⟨a, vs, rfl, k2, k3⟩ := h3
    cases ry
    obtain ⟨its, rv, pl, _⟩ := I.tuple (h1.seqT k2)
    obtain ⟨he, hany⟩ := mem_eq (A := X.A.in1) I h1 hu1 c2 c1 h2 rx k3 rv
    refine SeqAt.in_tupleAt (gOf its xs p) pl (fun y hy => he y (by simpa using hy)) ⟨.bl _, H, I, rfl, ?_⟩
    rw [show its.toArray.any (gOf its xs p) = its.any (gOf its xs p) by simp, hany]
    exact w.here h1 (rep_bl _)
theorem om_notIn (hu : X.A.units + 64 < cLine) : OpM X (compareOp .NotIn) pNotIn := by
  intro pins s σ H x y v u Q I rx ry h
  obtain ⟨F, p, q, r, h1, h2, h3, h4, w⟩ := h
  unfold pNotIn at h4
  cases e : pIn p q with
  | none => rw [e] at h4; cases h4
  | some r0 =>
    rw [e] at h4
    obtain ⟨xs, hk, c1, c2, rfl⟩ := pIn_get e
    have h4 : some (PV.bl (!(xs.any fun y => peq y p))) = some r := h4
    cases h4
    have hu1 : X.A.in1.units + 60 < cLine := by show X.A.units + 1 + 60 < cLine; omega
    rcases hk with rfl | rfl
    · unfold Rep at h3
      obtain ⟨a, vs, rfl, k2, k3⟩ := h3
      cases ry
      obtain ⟨its, rv, pl, _⟩ := I.list (h1.seq k2)
      obtain ⟨he, hany⟩ := mem_eq (A := X.A.in1) I h1 hu1 c2 c1 h2 rx k3 rv
      refine SeqAt.notIn_listAt (gOf its xs p) pl.isList (fun y hy => he y (by simpa using hy)) ⟨.bl _, H, I, rfl, ?_⟩
      rw [show its.toArray.any (gOf its xs p) = its.any (gOf its xs p) by simp, hany]
      exact w.here h1 (rep_bl _)
    · unfold Rep at h3
      obtain ⟨a, vs, rfl, k2, k3⟩ := h3
      cases ry
      obtain ⟨its, rv, pl, _⟩ := I.tuple (h1.seqT k2)
      obtain ⟨he, hany⟩ := mem_eq (A := X.A.in1) I h1 hu1 c2 c1 h2 rx k3 rv
      refine SeqAt.notIn_tupleAt (gOf its xs p) pl (fun y hy => he y (by simpa using hy)) ⟨.bl _, H, I, rfl, ?_⟩
      rw [show its.toArray.any (gOf its xs p) = its.any (gOf its xs p) by simp, hany]
      exact w.here h1 (rep_bl _)
/-! ### is None -/
def isN : PV → Bool
  | .non => true
  | _ => false
def pIs : PV → PV → Option PV
  | p, .non => some (.bl (isN p))
  | .bl a, .bl b => some (.bl (a == b))
  | _, _ => none
def pIsNot : PV → PV → Option PV
  | p, .non => some (.bl (!isN p))
  | .bl a, .bl b => some (.bl (a != b))
  | _, _ => none
/-! ### a[i] -/
def pIx : PV → PV → Option PV
  | .lst xs, .int i => atI xs i
  | .tup xs, .int i => atI xs i
  | .str z, .int i => if z.length ≤ LIM then (atI z.cps.toList i).map fun c => .str ⟨#[c]⟩ else none
  | _, _ => none
theorem atI_rep {K : PySem.W.Frag} {F : Hp} {xs : List PV} {vs : List V} {i : Int} {r : PV} (h : RepL K F xs vs) (e : atI xs i = some r) : ∃ v, atI vs i = some v ∧ Rep K F r v := by
  unfold atI at e ⊢
  rw [h.length]
  cases q : ixN xs.length i with
  | none => rw [q] at e; cases e
  | some j =>
    rw [q] at e
    exact h.get e
theorem im_ix : IxR X (rM2 X.K pIx) := by
  intro value slice pins s σ H x y v u Q I rx ry h hs
  obtain ⟨F, p, q, r, h1, h2, h3, h4, w⟩ := h
  cases p <;> cases q <;> first
    | (exfalso; cases h4; done)
    | skip
  · rename_i z i
    have h4 : (if z.length ≤ LIM then (atI z.cps.toList i).map fun c => PV.str ⟨#[c]⟩ else none) = some r := h4
    by_cases c : z.length ≤ LIM
    · rw [if_pos c] at h4
      cases e : atI z.cps.toList i with
      | none => rw [e] at h4; cases h4
      | some k =>
        rw [e] at h4
        cases h4
        unfold Rep at h2 h3
        exact ix_str value slice pins s σ H x y v u Q I rx ry ⟨z, i, k, h2, h3, Nat.le_trans c lim_line, e, w.here h1 (rep_str _)⟩ hs
    · rw [if_neg c] at h4; cases h4
  · rename_i xs i
    have h4 : atI xs i = some r := h4
    unfold Rep at h2 h3
    obtain ⟨a, vs, rfl, k2, k3⟩ := h2
    obtain ⟨rv, e1, e2⟩ := atI_rep k3 h4
    exact ix_tup value slice pins s σ H _ y v u Q I rx ry ⟨a, vs, i, rv, rfl, h3, h1.seqT k2, e1, w.here h1 e2⟩ hs
  · rename_i xs i
    have h4 : atI xs i = some r := h4
    unfold Rep at h2 h3
    obtain ⟨a, vs, rfl, k2, k3⟩ := h2
    obtain ⟨rv, e1, e2⟩ := atI_rep k3 h4
    exact ix_list value slice pins s σ H _ y v u Q I rx ry ⟨a, vs, i, rv, rfl, h3, h1.seq k2, e1, w.here h1 e2⟩ hs
end
end L2.PM

set_option Elab.async false
set_option linter.all false
set_option maxRecDepth 100000
noncomputable section
namespace L2.PM
open PySem PySem.Spec PyProof.Rows

section
variable {X : Cx} {e a b c : Expr} {es : List Expr} {ms ns ls : List Nat} {m m1 m2 m3 : MEx} {pos p2 : Pos}

theorem bind_get {α β : Type} {x : Option α} {f : α → Option β} {r : β} (h : x.bind f = some r) : ∃ y, x = some y ∧ f y = some r := by
  cases x with
  | none => cases h
  | some y => exact ⟨y, rfl, h⟩
theorem map_get {α β : Type} {x : Option α} {f : α → β} {r : β} (h : x.map f = some r) : ∃ y, x = some y ∧ f y = r := by
  cases x with
  | none => cases h
  | some y => exact ⟨y, rfl, Option.some.inj h⟩

/-! ### slices -/
def OM (X : Cx) (ms : List Nat) (e : Option Expr) (m : PEnv → Option (Option Int)) : Prop :=
  PO X e fun σ H Q => ∃ F γ r, Same F H ∧ ERep X.K F σ γ ms ∧ m γ = some r ∧ ∀ H' F', Grow F H F' H' → Q r H'
def mNo : PEnv → Option (Option Int) := fun _ => some none
def pInt : PV → Option (Option Int)
  | .int i => some (some i)
  | _ => none
def mSo (m : MEx) : PEnv → Option (Option Int) := fun γ => (m γ).bind pInt
theorem om_none : OM X [] none mNo := fun pins s σ H Q I ⟨F, γ, r, h1, h2, h3, w⟩ => po_none pins s σ H Q I (by
  cases h3
  exact w H F (.refl h1))
theorem om_some (h : EM X ms e m) : OM X ms (some e) (mSo m) := fun pins s σ H Q I ⟨F, γ, r, h1, h2, h3, w⟩ => po_some h pins s σ H Q I (by
  obtain ⟨p, e1, e2⟩ := bind_get h3
  refine ⟨F, γ, p, h1, h2, e1, fun v H' F' g q => ?_⟩
  cases p with
  | int i =>
    unfold Rep at q
    cases e2
    exact ⟨i, q, w H' F' g⟩
  | _ => cases e2)
def cutP (xs : List α) (lo hi : Option Int) : List α := (xs.drop (HT.sIx xs.length 0 lo)).take (HT.sIx xs.length xs.length hi - HT.sIx xs.length 0 lo)
def pCut : PV → Option Int → Option Int → Option (List PV)
  | .lst xs, lo, hi => some (cutP xs lo hi)
  | _, _, _ => none
def sl3 (f : PV → Option Int → Option Int → Option α) (m : MEx) (ml mh : PEnv → Option (Option Int)) : PEnv → Option α := fun γ => (m γ).bind fun x => (ml γ).bind fun l => (mh γ).bind fun h => f x l h
variable {lo hi : Option Expr} {ml mh : PEnv → Option (Option Int)}
theorem eo_cut (he : EM X ms e m) (hl : OM X ns lo ml) (hh : OM X ls hi mh) : EO X (ms ++ (ns ++ ls)) (.Subscript e (.Slice lo hi none p2) pos) (sl3 pCut m ml mh) := by
  refine PE.imp (pe_slice sl_list he hl hh) fun σ H Q ⟨F, γ, r, h1, h2, h3, w⟩ => ?_
  obtain ⟨x, e1, h3⟩ := bind_get h3
  obtain ⟨l, e2, h3⟩ := bind_get h3
  obtain ⟨h, e3, h3⟩ := bind_get h3
  refine ⟨F, γ, x, h1, h2.left, e1, fun vx H1 F1 g1 r1 => ⟨F1, γ, l, g1.sub, h2.right.left.mono g1.ext, e2, fun H2 F2 g2 => ⟨F2, γ, h, g2.sub, h2.right.right.mono (g1.ext.trans g2.ext), e3, fun H3 F3 g3 => ?_⟩⟩⟩
  have g := g1.trans (g2.trans g3)
  cases x with
  | lst xs =>
    cases h3
    unfold Rep at r1
    obtain ⟨a, vs, rfl, k2, k3⟩ := r1
    have gg := g2.ext.trans g3.ext
    refine ⟨a, vs, rfl, g3.sub.seq (gg.seq k2), fun p hp => ?_⟩
    have nF : F3 p = none := g3.sub.free hp
    refine w p _ _ F3 (g.trans (.side g3.sub hp)) (g.same.free hp) nF upd_same ?_
    unfold cutV cutP
    rw [k3.length]
    exact ((k3.drop _).take _).mono gg
  | _ => cases h3
/-- t[lo:hi], not the whole -/
def pCutT : PV → Option Int → Option Int → Option PV
  | .tup xs, lo, hi => if ¬ (HT.sIx xs.length 0 lo = 0 ∧ HT.sIx xs.length xs.length hi = xs.length) then some (.tup (cutP xs lo hi)) else none
  | _, _, _ => none
/-! ### tests -/
variable {t1 t2 : PEnv → Option Bool} {rest : List Expr}
def WM (X : Cx) (ms : List Nat) (e : Expr) (m : PEnv → Option Bool) : Prop := PW X e (tMT X.K ms m)
theorem WM.tm {e : Expr} (h : WM X ms e t1) : TM X ms e t1 := PW.pt h
theorem _root_.L2.PW.imp {t t' : TT} (h : PW X e t) (i : ∀ σ H Q, t' σ H Q → t σ H Q) : PW X e t' := fun whole pins s σ H Q I q => h whole pins s σ H Q I (i σ H Q q)
theorem wm_and1 (h : TM X ms a t1) : WM X ms (.BoolOp .And [a] pos) t1 := pw_and1 h
theorem wm_or1 (h : TM X ms a t1) : WM X ms (.BoolOp .Or [a] pos) t1 := pw_or1 h
def bAnd (t1 t2 : PEnv → Option Bool) : PEnv → Option Bool := fun γ => (t1 γ).bind fun x => if x = true then t2 γ else some false
def bOr (t1 t2 : PEnv → Option Bool) : PEnv → Option Bool := fun γ => (t1 γ).bind fun x => if x = true then some true else t2 γ
def bNot (t1 : PEnv → Option Bool) : PEnv → Option Bool := fun γ => (t1 γ).map not
theorem wm_and (h1 : TM X ms a t1) (h2 : WM X ns (.BoolOp .And (b :: rest) pos) t2) : WM X (ms ++ ns) (.BoolOp .And (a :: b :: rest) pos) (bAnd t1 t2) :=
  PW.imp (pw_and h1 h2) fun σ H Q ⟨F, γ, r, k1, k2, k3, w⟩ => by
    obtain ⟨x, e1, k3⟩ := bind_get k3
    refine ⟨F, γ, x, k1, k2.left, e1, fun H1 F1 g1 => ?_⟩
    cases x with
    | true =>
      rw [if_pos rfl] at k3 ⊢
      exact ⟨F1, γ, r, g1.sub, k2.right.mono g1.ext, k3, fun H2 F2 g2 => w H2 F2 (g1.trans g2)⟩
    | false =>
      rw [if_neg Bool.false_ne_true] at k3 ⊢
      cases k3
      exact w H1 F1 g1
theorem wm_or (h1 : TM X ms a t1) (h2 : WM X ns (.BoolOp .Or (b :: rest) pos) t2) : WM X (ms ++ ns) (.BoolOp .Or (a :: b :: rest) pos) (bOr t1 t2) :=
  PW.imp (pw_or h1 h2) fun σ H Q ⟨F, γ, r, k1, k2, k3, w⟩ => by
    obtain ⟨x, e1, k3⟩ := bind_get k3
    refine ⟨F, γ, x, k1, k2.left, e1, fun H1 F1 g1 => ?_⟩
    cases x with
    | false =>
      rw [if_neg Bool.false_ne_true] at k3 ⊢
      exact ⟨F1, γ, r, g1.sub, k2.right.mono g1.ext, k3, fun H2 F2 g2 => w H2 F2 (g1.trans g2)⟩
    | true =>
      rw [if_pos rfl] at k3 ⊢
      cases k3
      exact w H1 F1 g1
theorem tm_not (h : TM X ms a t1) : TM X ms (.UnaryOp .Not a pos) (bNot t1) :=
  PT.imp (pt_not h) fun σ H Q ⟨F, γ, r, k1, k2, k3, w⟩ => by
    obtain ⟨x, e1, k3⟩ := map_get k3
    subst k3
    exact ⟨F, γ, x, k1, k2, e1, w⟩
/-- truth of any value -/
def tru : PV → Option Bool
  | .non => some false
  | .bl b => some b
  | .int i => some (i != 0)
  | .str y => if y.length ≤ LIM then some ((y.length : Int) != 0) else none
  | .tup xs => some (!xs.isEmpty)
  | .lst xs => some (!xs.isEmpty)
  | .obj _ _ _ => none
  | .opq _ => none
def mTru (m : MEx) : PEnv → Option Bool := fun γ => (m γ).bind tru
theorem isEmpty_rep {K : PySem.W.Frag} {F : Hp} {xs : List PV} {vs : List V} (h : RepL K F xs vs) : vs.isEmpty = xs.isEmpty := by
  have := h.length
  cases vs <;> cases xs <;> simp_all
theorem tru_rep {K : PySem.W.Frag} {F H : Hp} {p : PV} {v : V} {k : Bool} (hs : Same F H) (h : Rep K F p v) (e : tru p = some k) : TruV K v H k := by
  cases p <;> unfold Rep at h
  · subst h; cases e; rfl
  · subst h; cases e; rfl
  · subst h; cases e; rfl
  · subst h
    rename_i y
    have e : (if y.length ≤ LIM then some ((y.length : Int) != 0) else none) = some k := e
    obtain ⟨c, rfl⟩ := ite_get e
    exact ⟨Nat.le_trans c lim_line, rfl⟩
  · obtain ⟨a, vs, rfl, k2, k3⟩ := h
    cases e
    exact .inr (.inl ⟨vs, hs.seqT k2, by rw [isEmpty_rep k3]⟩)
  · obtain ⟨a, vs, rfl, k2, k3⟩ := h
    cases e
    exact .inl ⟨vs, hs.seq k2, by rw [isEmpty_rep k3]⟩
  · cases e
  · cases e
theorem tm_truth (h : EM X ms e m) (he : ∀ whole, isTrue e X.env whole = (do let v ← whole; standAt e.pos; holding [v] (truthy v)) := by intro _; rfl) : TM X ms e (mTru m) :=
  PT.imp (pt_truth h he) fun σ H Q ⟨F, γ, r, k1, k2, k3, w⟩ => by
    obtain ⟨p, e1, e2⟩ := bind_get k3
    exact ⟨F, γ, p, k1, k2, e1, fun v H' F' g q => ⟨r, tru_rep g.sub q e2, w H' F' g⟩⟩
/-! ### and, or, not as values: of bools -/
def vAnd (m1 m2 : MEx) : MEx := fun γ => (m1 γ).bind fun x => (isB x).bind fun k => if k = true then m2 γ else some (.bl false)
def vOr (m1 m2 : MEx) : MEx := fun γ => (m1 γ).bind fun x => (isB x).bind fun k => if k = true then some (.bl true) else m2 γ
def vNot (m1 : MEx) : MEx := fun γ => (m1 γ).bind fun x => (isB x).map fun k => .bl (!k)
theorem isB_rep {K : PySem.W.Frag} {F : Hp} {p : PV} {v : V} {k : Bool} (h : Rep K F p v) (e : isB p = some k) : v = .bl k := by
  cases p with
  | bl b => unfold Rep at h; cases e; exact h
  | _ => cases e
theorem em_one {op} (h : EM X ms a m) : EM X ms (.BoolOp op [a] pos) m := pe_one h
theorem em_and (h1 : EM X ms a m1) (h2 : EM X ns (.BoolOp .And (b :: rest) pos) m2) : EM X (ms ++ ns) (.BoolOp .And (a :: b :: rest) pos) (vAnd m1 m2) :=
  PE.imp (pe_and h1 h2) fun σ H Q ⟨F, γ, r, k1, k2, k3, w⟩ => by
    obtain ⟨x, e1, k3⟩ := bind_get k3
    obtain ⟨k, e2, k3⟩ := bind_get k3
    refine ⟨F, γ, x, k1, k2.left, e1, fun v H1 F1 g1 q => ⟨k, isB_rep q e2, ?_⟩⟩
    cases k with
    | true =>
      rw [if_pos rfl] at k3 ⊢
      exact ⟨F1, γ, r, g1.sub, k2.right.mono g1.ext, k3, w.go g1⟩
    | false =>
      rw [if_neg Bool.false_ne_true] at k3 ⊢
      cases k3
      exact (w.go g1).here g1.sub (rep_bl _)
/-! ### a if t else b -/
def mIfE (t : PEnv → Option Bool) (m1 m2 : MEx) : MEx := fun γ => (t γ).bind fun k => if k = true then m1 γ else m2 γ
/-! ### a op b op' c -/
def ch3 (f g : PV → PV → Option PV) (m1 m2 m3 : MEx) : MEx := fun γ => (m1 γ).bind fun x => (m2 γ).bind fun y => (f x y).bind fun z => (isB z).bind fun k => if k = true then (m3 γ).bind fun w => g y w else some (.bl false)
theorem tChain_of {K : PySem.W.Frag} {f g : PV → PV → Option PV} {σ : St} {H : Hp} {Q : VK} (h : tM K (ms ++ (ns ++ ls)) (ch3 f g m1 m2 m3) σ H Q) : tChain (rM2 K f) (rM2 K g) (tM K ms m1) (tM K ns m2) (tM K ls m3) σ H Q := by
  obtain ⟨F, γ, r, h1, h2, h3, w⟩ := h
  obtain ⟨x, e1, h3⟩ := bind_get h3
  obtain ⟨y, e2, h3⟩ := bind_get h3
  obtain ⟨z, e3, h3⟩ := bind_get h3
  obtain ⟨k, e4, h3⟩ := bind_get h3
  refine ⟨F, γ, x, h1, h2.left, e1, fun vx H1 F1 g1 r1 => ⟨F1, γ, y, g1.sub, h2.right.left.mono g1.ext, e2, fun vy H2 F2 g2 r2 => ⟨F2, x, y, z, g2.sub, r1.mono g2.ext, r2, e3, fun vz H3 F3 g3 r3 => ⟨k, isB_rep r3 e4, ?_⟩⟩⟩⟩
  have gg := g1.trans (g2.trans g3)
  cases k with
  | true =>
    rw [if_pos rfl] at h3 ⊢
    obtain ⟨u, e5, h3⟩ := bind_get h3
    exact ⟨F3, γ, u, g3.sub, h2.right.right.mono gg.ext, e5, fun vw H4 F4 g4 r4 => ⟨F4, y, u, r, g4.sub, r2.mono (g3.ext.trans g4.ext), r4, h3, w.go (gg.trans g4)⟩⟩
  | false =>
    rw [if_neg Bool.false_ne_true] at h3 ⊢
    cases h3
    exact (w.go gg).here gg.sub (rep_bl _)
theorem em_chain {op op' : CmpOp} {f g : PV → PV → Option PV} (ho : OpM X (compareOp op) f) (ho' : OpM X (compareOp op') g) (ha : EM X ms a m1) (hb : EM X ns b m2) (hc : EM X ls c m3)
    (hm : lastMarks [op, op'] [b, c] = false := by with_unfolding_all rfl) : EM X (ms ++ (ns ++ ls)) (.Compare a [op, op'] [b, c] pos) (ch3 f g m1 m2 m3) :=
  PE.imp (pe_chain ho ho' ha hb hc hm) fun _ _ _ h => tChain_of h
theorem tm_chain {op op' : CmpOp} {f g : PV → PV → Option PV} (ho : OpM X (compareOp op) f) (ho' : OpM X (compareOp op') g) (ha : EM X ms a m1) (hb : EM X ns b m2) (hc : EM X ls c m3)
    (hm : lastMarks [op, op'] [b, c] = false := by with_unfolding_all rfl) : TM X (ms ++ (ns ++ ls)) (.Compare a [op, op'] [b, c] pos) (truB (ch3 f g m1 m2 m3)) :=
  PT.imp (pt_chain ho ho' ha hb hc hm) fun _ _ _ h => tTest_of (fun _ => tChain_of) h
/-! ### -a, ~a -/
def un1 (f : PV → Option PV) (m : MEx) : MEx := fun γ => (m γ).bind f
def pNeg : PV → Option PV
  | .int i => some (.int (-i))
  | _ => none
def pInv : PV → Option PV
  | .int i => some (.int (Builtin.bitNot i))
  | _ => none
theorem em_neg (h : EM X ms a m) : EM X ms (.UnaryOp .USub a pos) (un1 pNeg m) :=
  PE.imp (pe_un un_neg h) fun σ H Q ⟨F, γ, r, k1, k2, k3, w⟩ => by
    obtain ⟨x, e1, k3⟩ := bind_get k3
    refine ⟨F, γ, x, k1, k2, e1, fun v H1 F1 g1 q => ?_⟩
    cases x with
    | int i => unfold Rep at q; cases k3; exact ⟨i, q, (w.go g1).here g1.sub (rep_int _)⟩
    | _ => cases k3
/-! ### arguments, displays -/
variable {ma : PEnv → Option (List PV)}
def aNil : PEnv → Option (List PV) := fun _ => some []
def aCons (m : MEx) (ma : PEnv → Option (List PV)) : PEnv → Option (List PV) := fun γ => (m γ).bind fun x => (ma γ).map (x :: ·)
theorem am_nil : AM X [] [] aNil := PA.imp pa_nil fun σ H Q ⟨F, γ, r, k1, k2, k3, w⟩ => by
  cases k3
  exact w [] H F (.refl k1) .nil
theorem am_cons (h : EM X ms e m) (hr : AM X ns es ma) (hs : starEach (e :: es) X.env = (false, eval e X.env) :: starEach es X.env := by rfl) : AM X (ms ++ ns) (e :: es) (aCons m ma) :=
  PA.imp (pa_cons h hr hs) fun σ H Q ⟨F, γ, r, k1, k2, k3, w⟩ => by
    obtain ⟨x, e1, k3⟩ := bind_get k3
    obtain ⟨xs, e2, k3⟩ := map_get k3
    subst k3
    refine ⟨F, γ, x, k1, k2.left, e1, fun v H1 F1 g1 q1 => ⟨F1, γ, xs, g1.sub, k2.right.mono g1.ext, e2, fun vs H2 F2 g2 q2 => ?_⟩⟩
    exact w (v :: vs) H2 F2 (g1.trans g2) (.cons (q1.mono g2.ext) q2)
def mLim (m : PEnv → Option (List PV)) : PEnv → Option (List PV) := fun γ => (m γ).bind fun xs => if xs.length ≤ LIM then some xs else none
def mTup (m : PEnv → Option (List PV)) : MEx := fun γ => (m γ).bind fun xs => if xs.length ≤ LIM then some (.tup xs) else none
theorem em_tup {x1} (h : AM X ms es ma) : EM X ms (.Tuple es x1 pos) (mTup ma) :=
  PE.imp (pe_tup h) fun σ H Q ⟨F, γ, r, k1, k2, k3, w⟩ => by
    obtain ⟨xs, e1, k3⟩ := bind_get k3
    obtain ⟨c, rfl⟩ := ite_get k3
    refine ⟨F, γ, xs, k1, k2, e1, fun vs H1 F1 g1 q1 => ⟨by rw [q1.length]; exact Nat.le_trans c lim_line, fun p hp => ?_⟩⟩
    refine w _ _ _ (g1.trans (.laid g1.sub hp)) ?_
    unfold Rep
    exact ⟨p, vs, rfl, .of upd_same, q1.mono (Grow.laid g1.sub hp).ext⟩
theorem eo_lst (h : AM X ms es ma) : EO X ms (.List es pos) (mLim ma) :=
  PE.imp (pe_lst h) fun σ H Q ⟨F, γ, r, k1, k2, k3, w⟩ => by
    obtain ⟨xs, e1, k3⟩ := bind_get k3
    obtain ⟨c, rfl⟩ := ite_get k3
    refine ⟨F, γ, xs, k1, k2, e1, fun vs H1 F1 g1 q1 => ⟨by rw [q1.length]; exact Nat.le_trans c lim_line, fun p hp => ?_⟩⟩
    exact w p vs _ F1 (g1.trans (.side g1.sub hp)) (g1.same.free hp) (g1.sub.free hp) upd_same q1

/-! ### calls of Python's own -/
def rMA (K : PySem.W.Frag) (g : List PV → Option PV) : List V → Hp → VK → Prop := fun vs H Q => ∃ F ps r, Same F H ∧ RepL K F ps vs ∧ g ps = some r ∧ Wv K F H r Q
def rMAO (K : PySem.W.Frag) (g : List PV → Option (List PV)) : List V → Hp → VK → Prop := fun vs H Q => ∃ F ps r, Same F H ∧ RepL K F ps vs ∧ g ps = some r ∧ Wo K F H r Q
def CallM (X : Cx) (f : Value) (g : List PV → Option PV) : Prop := CallR X f (rMA X.K g)
def CallO (X : Cx) (f : Value) (g : List PV → Option (List PV)) : Prop := CallR X f (rMAO X.K g)
def mCall (g : List PV → Option α) (ma : PEnv → Option (List PV)) : PEnv → Option α := fun γ => (ma γ).bind g
theorem tCB_of {K : PySem.W.Frag} {g : List PV → Option PV} {σ : St} {H : Hp} {Q : VK} (h : tM K ms (mCall g ma) σ H Q) : tCB (rMA K g) (tMA K ms ma) σ H Q := by
  obtain ⟨F, γ, r, k1, k2, k3, w⟩ := h
  obtain ⟨xs, e1, k3⟩ := bind_get k3
  exact ⟨F, γ, xs, k1, k2, e1, fun vs H1 F1 g1 q1 => ⟨F1, xs, r, g1.sub, q1, k3, w.go g1⟩⟩
variable {x : Str} {p : Pos} {id T : String}
theorem em_callB {g : List PV → Option PV} (hc : CallM X (.builtin id) g) (hg : Gl X x) (hm : X.mg x = none) (hv : bootBuiltins x = some (.builtin id)) (ha : AM X ms (e :: es) ma) (hn : x ≠ "__name__" := by decide) (hdb : (x == ("__debug__" : Str)) = false := by decide)
    (he : starEach (e :: es) X.env = (false, eval e X.env) :: starEach es X.env := by rfl) (hpl : (backTo pos (starEach es X.env)).any (·.1) = false := by rfl) : EM X ms (.Call (.Name x p) (e :: es) [] pos) (mCall g ma) :=
  PE.imp (pe_callB hc hg hm hv ha hn hdb he hpl) fun _ _ _ h => tCB_of h
theorem em_callTy {g : List PV → Option PV} (hc : CallM X (.type T) g) (hg : Gl X x) (hm : X.mg x = none) (hv : bootBuiltins x = some (.type T)) (ha : AM X ms (e :: es) ma) (hn : x ≠ "__name__" := by decide) (hdb : (x == ("__debug__" : Str)) = false := by decide)
    (he : starEach (e :: es) X.env = (false, eval e X.env) :: starEach es X.env := by rfl) (hpl : (backTo pos (starEach es X.env)).any (·.1) = false := by rfl) : EM X ms (.Call (.Name x p) (e :: es) [] pos) (mCall g ma) :=
  PE.imp (pe_callTy hc hg hm hv ha hn hdb he hpl) fun _ _ _ h => tCB_of h
/-! ### calls of the text's own defs -/
def spM (K : PySem.W.Frag) (n : Nat) (g : List PV → Option PV) : Sp := fun vs H Q _ => vs.length = n ∧ rMA K g vs H Q
def spO (K : PySem.W.Frag) (n : Nat) (g : List PV → Option (List PV)) : Sp := fun vs H Q _ => vs.length = n ∧ rMAO K g vs H Q
def ar (n : Nat) (ma : PEnv → Option (List PV)) : PEnv → Option (List PV) := fun γ => (ma γ).bind fun xs => if xs.length = n then some xs else none
theorem tCall_of {K : PySem.W.Frag} {n : Nat} {g : List PV → Option PV} {E : XK} {σ : St} {H : Hp} {Q : VK} (hn : ∀ ps r, g ps = some r → ps.length = n) (h : tM K ms (mCall g ma) σ H Q) : tCall (spM K n g) [] E (tMA K ms ma) σ H Q := by
  obtain ⟨F, γ, r, k1, k2, k3, w⟩ := h
  obtain ⟨xs, e1, k3⟩ := bind_get k3
  refine ⟨F, γ, xs, k1, k2, e1, fun vs H1 F1 g1 q1 => ?_⟩
  dsimp only
  rw [List.append_nil]
  exact ⟨by rw [q1.length]; exact hn _ _ k3, F1, xs, r, g1.sub, q1, k3, w.go g1⟩
variable {CX : CXT} {k n : Nat} {f : Addr} {fd : FuncData} {ps : List Str}
theorem em_call {g : List PV → Option PV} (F : FnOk X.prog X.w X.K X.mg X.base CX0 k f fd ps (spM X.K n g)) (hn : ∀ ps r, g ps = some r → ps.length = n) (hr : Room k X.A) (hg : Gl X x) (hm : X.mg x = some (.ref f)) (hk : PySem.W.keepIn X.K (.ref f) = true) (hb : Binds X.K fd ps [])
    (ha : AM X ms (e :: es) ma) (hdb : (x == ("__debug__" : Str)) = false := by decide) (he : starEach (e :: es) X.env = (false, eval e X.env) :: starEach es X.env := by rfl) (hpl : (backTo pos (starEach es X.env)).any (·.1) = false := by rfl) :
    EM X ms (.Call (.Name x p) (e :: es) [] pos) (mCall g ma) :=
  PE.imp (pe_call (E := E0) F hr hg hm hk hb .nil pass0 ha hdb he hpl) fun _ _ _ h => tCall_of hn h
end
end L2.PM

set_option Elab.async false
set_option linter.all false
set_option maxRecDepth 100000
noncomputable section
namespace L2.PM
open PySem PySem.Spec PyProof.Rows

/-! ### statements -/
inductive Out where
  | nx (γ : PEnv) | rt (p : PV) | ro (xs : List PV) | bk (γ : PEnv) | ct (γ : PEnv)
abbrev MSt := PEnv → Option Out
def flat : PV → Bool
  | .tup _ => false
  | .lst _ => false
  | .obj _ _ _ => false
  | _ => true
theorem Rep.flat {K : PySem.W.Frag} {F F' : Hp} {p : PV} {v : V} (f : flat p = true) (h : Rep K F p v) : Rep K F' p v := by
  cases p <;> unfold Rep at h ⊢ <;> first | exact h | (cases f; done)
theorem RepL.flat {K : PySem.W.Frag} {F F' : Hp} : ∀ {ps : List PV} {vs : List V}, ps.all PM.flat = true → RepL K F ps vs → RepL K F' ps vs
  | [], _, _, h => by unfold RepL at h ⊢; exact h
  | p :: ps, _, f, h => by
    rw [List.all_cons, Bool.and_eq_true] at f
    unfold RepL at h
    obtain ⟨v, r, rfl, h2, h3⟩ := h
    exact .cons (h2.flat f.1) (RepL.flat f.2 h3)

/-- B: what stood at the entry (but the frame's own); F₀: what was frozen at the entry; F: what is frozen now -/
structure SR (K : PySem.W.Frag) (B F₀ F : Hp) (σ : St) (H : Hp) (γ : PEnv) : Prop where
  sub : Same F H
  base : Same B H
  f0 : Same F₀ F
  fb : ∀ a o, F a = some o → F₀ a = some o ∨ B a = none
  len : σ.length = γ.length
  fz : ∀ (i : Nat) p, γ[i]? = some (.fz p) → ∃ v, σ[i]? = some (some v) ∧ Rep K F p v
  ow : ∀ (i : Nat) xs, γ[i]? = some (.ow xs) → ∃ a vs, σ[i]? = some (some (.ref a)) ∧ H a = some (.lst vs) ∧ RepL K F xs vs ∧ F a = none ∧ B a = none
  dj : ∀ (i j : Nat) xs ys a, i ≠ j → γ[i]? = some (.ow xs) → γ[j]? = some (.ow ys) → σ[i]? = some (some (.ref a)) → σ[j]? ≠ some (some (.ref a))

def frz1 (γ : PEnv) (i : Nat) : PEnv := match γ[i]? with
  | some (.ow xs) => γ.set i (.fz (.lst xs))
  | _ => γ
def frz (ms : List Nat) (γ : PEnv) : PEnv := ms.foldl frz1 γ
theorem getV_frz1 (γ : PEnv) (i j : Nat) : getV (frz1 γ i) j = getV γ j := by
  unfold frz1
  split
  · rename_i xs h
    unfold getV
    by_cases e : i = j
    · subst e
      have hi : i < γ.length := (List.getElem?_eq_some_iff.mp h).1
      rw [List.getElem?_set_self hi, h]
      rfl
    · rw [List.getElem?_set_ne e]
  · rfl
theorem getV_frz : ∀ (ms : List Nat) (γ : PEnv) (j : Nat), getV (frz ms γ) j = getV γ j
  | [], _, _ => rfl
  | i :: ms, γ, j => by
    show getV (frz ms (frz1 γ i)) j = _
    rw [getV_frz ms, getV_frz1]

section
variable {K : PySem.W.Frag} {B F₀ F F' H H' : Hp} {σ : St} {γ : PEnv}
theorem SR.frz1 (S : SR K B F₀ F σ H γ) (i : Nat) : ∃ F1, SR K B F₀ F1 σ H (frz1 γ i) ∧ Same F F1 := by
  unfold PM.frz1
  split
  · rename_i xs h
    obtain ⟨a, vs, h1, h2, h3, h4, h5⟩ := S.ow i xs h
    have hi : i < γ.length := (List.getElem?_eq_some_iff.mp h).1
    have gx : Same F (upd F a (.lst vs)) := fun b u q => by rw [upd_ne (ne_of_none q h4)]; exact q
    refine ⟨upd F a (.lst vs), ⟨fun b u q => ?_, S.base, S.f0.trans gx, fun b u q => ?_, by simpa using S.len, fun j p e => ?_, fun j ys e => ?_, fun j k ys zs c hjk e1 e2 e3 => ?_⟩, gx⟩
    · by_cases z : b = a
      · subst z; rw [upd_same] at q; rw [h2]; exact q
      · rw [upd_ne z] at q; exact S.sub b u q
    · by_cases z : b = a
      · subst z; exact .inr h5
      · rw [upd_ne z] at q; exact S.fb b u q
    · by_cases e' : i = j
      · subst e'
        rw [List.getElem?_set_self hi] at e
        cases e
        refine ⟨.ref a, h1, ?_⟩
        unfold Rep
        exact ⟨a, vs, rfl, .of upd_same, h3.mono gx⟩
      · rw [List.getElem?_set_ne e'] at e
        obtain ⟨v, k1, k2⟩ := S.fz j p e
        exact ⟨v, k1, k2.mono gx⟩
    · by_cases e' : i = j
      · subst e'
        rw [List.getElem?_set_self hi] at e
        cases e
      · rw [List.getElem?_set_ne e'] at e
        obtain ⟨c, us, k1, k2, k3, k4, k5⟩ := S.ow j ys e
        have hca : c ≠ a := fun z => by
          subst z
          exact S.dj i j xs ys c e' h e h1 k1
        exact ⟨c, us, k1, k2, k3.mono gx, by rw [upd_ne hca]; exact k4, k5⟩
    · have f : ∀ (n : Nat) (zs : List PV), (γ.set i (.fz (.lst xs)))[n]? = some (.ow zs) → γ[n]? = some (.ow zs) := fun n zs q => by
        by_cases e' : i = n
        · subst e'
          rw [List.getElem?_set_self hi] at q
          cases q
        · rw [List.getElem?_set_ne e'] at q; exact q
      exact S.dj j k ys zs c hjk (f j ys e1) (f k zs e2) e3
  · exact ⟨F, S, Same.refl _⟩
theorem SR.frz : ∀ (ms : List Nat) {F : Hp} {γ : PEnv}, SR K B F₀ F σ H γ → ∃ F1, SR K B F₀ F1 σ H (frz ms γ) ∧ Same F F1
  | [], F, _, S => ⟨F, S, Same.refl _⟩
  | i :: ms, F, γ, S => by
    obtain ⟨F1, S1, e1⟩ := S.frz1 i
    obtain ⟨F2, S2, e2⟩ := SR.frz ms S1
    exact ⟨F2, S2, e1.trans e2⟩
theorem frz1_keep {γ : PEnv} {i j : Nat} (h : ∀ xs, γ[j]? ≠ some (.ow xs)) : ∀ xs, (PM.frz1 γ i)[j]? ≠ some (.ow xs) := fun xs => by
  unfold PM.frz1
  split
  · rename_i ys e
    by_cases e' : i = j
    · subst e'
      exact absurd e (h ys)
    · rw [List.getElem?_set_ne e']; exact h xs
  · exact h xs
theorem frz1_self {γ : PEnv} {i : Nat} : ∀ xs, (PM.frz1 γ i)[i]? ≠ some (.ow xs) := fun xs => by
  unfold PM.frz1
  split
  · rename_i ys e
    have hi : i < γ.length := (List.getElem?_eq_some_iff.mp e).1
    rw [List.getElem?_set_self hi]
    intro z; cases z
  · rename_i h
    exact h xs
theorem frz_keep : ∀ (ms : List Nat) {γ : PEnv} {j : Nat}, (∀ xs, γ[j]? ≠ some (.ow xs)) → ∀ xs, (PM.frz ms γ)[j]? ≠ some (.ow xs)
  | [], _, _, h => h
  | i :: ms, γ, j, h => frz_keep ms (γ := PM.frz1 γ i) (frz1_keep h)
theorem frz_mem : ∀ (ms : List Nat) {γ : PEnv} {j : Nat}, j ∈ ms → ∀ xs, (PM.frz ms γ)[j]? ≠ some (.ow xs)
  | [], _, _, h => by cases h
  | i :: ms, γ, j, h => by
    rcases List.mem_cons.mp h with rfl | h
    · exact frz_keep ms (γ := PM.frz1 γ j) frz1_self
    · exact frz_mem ms (γ := PM.frz1 γ i) h
/-- slots that are nobody's own list are read as they are -/
theorem SR.erep (S : SR K B F₀ F σ H γ) {ms : List Nat} (h : ∀ i ∈ ms, ∀ xs, γ[i]? ≠ some (.ow xs)) : ERep K F σ γ ms := fun i hi p e => by
  unfold getV at e
  cases q : γ[i]? with
  | none => rw [q] at e; cases e
  | some t =>
    cases t with
    | un => rw [q] at e; cases e
    | fz p' =>
      rw [q] at e
      cases e
      exact S.fz i p q
    | ow xs => exact absurd q (h i hi xs)
/-- ahead of an expression that mentions ms -/
theorem SR.see (S : SR K B F₀ F σ H γ) (ms : List Nat) : ∃ F1, SR K B F₀ F1 σ H (PM.frz ms γ) ∧ Same F F1 ∧ ERep K F1 σ γ ms := by
  obtain ⟨F1, S1, e1⟩ := SR.frz ms S
  refine ⟨F1, S1, e1, fun i hi p e => ?_⟩
  exact S1.erep (ms := ms) (fun j hj => frz_mem ms hj) i hi p (by rw [getV_frz]; exact e)
theorem SR.same (S : SR K B F₀ F σ H γ) (e : Same H H') : SR K B F₀ F σ H' γ :=
  ⟨S.sub.trans e, S.base.trans e, S.f0, S.fb, S.len, S.fz, fun i xs h => by
    obtain ⟨a, vs, h1, h2, h3⟩ := S.ow i xs h
    exact ⟨a, vs, h1, e _ _ h2, h3⟩, S.dj⟩
theorem SR.grow (S : SR K B F₀ F σ H γ) (g : Grow F H F' H') : SR K B F₀ F' σ H' γ := by
  refine ⟨g.sub, S.base.trans g.same, S.f0.trans g.ext, fun a o e => ?_, S.len, fun i p h => ?_, fun i xs h => ?_, S.dj⟩
  · rcases g.new a o e with z | z
    · exact S.fb a o z
    · exact .inr (S.base.free z)
  · obtain ⟨v, h1, h2⟩ := S.fz i p h
    exact ⟨v, h1, h2.mono g.ext⟩
  · obtain ⟨a, vs, h1, h2, h3, h4, h5⟩ := S.ow i xs h
    refine ⟨a, vs, h1, g.same _ _ h2, h3.mono g.ext, ?_, h5⟩
    cases q : F' a with
    | none => rfl
    | some o =>
      rcases g.new a o q with z | z
      · rw [h4] at z; cases z
      · rw [h2] at z; cases z
theorem SR.setFz (S : SR K B F₀ F σ H γ) (i : Nat) {p : PV} {v : V} (r : Rep K F p v) : SR K B F₀ F (σ.set i (some v)) H (γ.set i (.fz p)) := by
  have f : ∀ (n : Nat) (zs : List PV), (γ.set i (.fz p))[n]? = some (.ow zs) → i ≠ n ∧ γ[n]? = some (.ow zs) := fun n zs q => by
    by_cases e' : i = n
    · subst e'
      by_cases hi : i < γ.length
      · rw [List.getElem?_set_self hi] at q; cases q
      · rw [List.getElem?_eq_none (by simpa using hi)] at q; cases q
    · rw [List.getElem?_set_ne e'] at q; exact ⟨e', q⟩
  refine ⟨S.sub, S.base, S.f0, S.fb, by simpa using S.len, fun j q e => ?_, fun j ys e => ?_, fun j k ys zs c hjk e1 e2 e3 => ?_⟩
  · by_cases e' : i = j
    · subst e'
      by_cases hi : i < γ.length
      · rw [List.getElem?_set_self hi] at e
        cases e
        exact ⟨v, by rw [List.getElem?_set_self (by rw [S.len]; exact hi)], r⟩
      · rw [List.getElem?_eq_none (by simpa using hi)] at e; cases e
    · rw [List.getElem?_set_ne e'] at e
      obtain ⟨u, h1, h2⟩ := S.fz j q e
      exact ⟨u, by rw [List.getElem?_set_ne e']; exact h1, h2⟩
  · obtain ⟨ne, e⟩ := f j ys e
    obtain ⟨a, vs, h1, h2⟩ := S.ow j ys e
    exact ⟨a, vs, by rw [List.getElem?_set_ne ne]; exact h1, h2⟩
  · obtain ⟨n1, e1⟩ := f j ys e1
    obtain ⟨n2, e2⟩ := f k zs e2
    rw [List.getElem?_set_ne n1] at e3
    rw [List.getElem?_set_ne n2]
    exact S.dj j k ys zs c hjk e1 e2 e3
theorem SR.setOw (S : SR K B F₀ F σ H γ) (i : Nat) {xs : List PV} {a : Addr} {vs : List V} (hH : H a = some (.lst vs)) (r : RepL K F xs vs) (nF : F a = none) (nB : B a = none)
    (nd : ∀ (j : Nat) ys, i ≠ j → γ[j]? = some (.ow ys) → σ[j]? ≠ some (some (.ref a))) : SR K B F₀ F (σ.set i (some (.ref a))) H (γ.set i (.ow xs)) := by
  refine ⟨S.sub, S.base, S.f0, S.fb, by simpa using S.len, fun j q e => ?_, fun j ys e => ?_, fun j k ys zs c hjk e1 e2 e3 e4 => ?_⟩
  · by_cases e' : i = j
    · subst e'
      by_cases hi : i < γ.length
      · rw [List.getElem?_set_self hi] at e; cases e
      · rw [List.getElem?_eq_none (by simpa using hi)] at e; cases e
    · rw [List.getElem?_set_ne e'] at e
      obtain ⟨u, h1, h2⟩ := S.fz j q e
      exact ⟨u, by rw [List.getElem?_set_ne e']; exact h1, h2⟩
  · by_cases e' : i = j
    · subst e'
      by_cases hi : i < γ.length
      · rw [List.getElem?_set_self hi] at e
        cases e
        exact ⟨a, vs, by rw [List.getElem?_set_self (by rw [S.len]; exact hi)], hH, r, nF, nB⟩
      · rw [List.getElem?_eq_none (by simpa using hi)] at e; cases e
    · rw [List.getElem?_set_ne e'] at e
      obtain ⟨b, us, h1, h2⟩ := S.ow j ys e
      exact ⟨b, us, by rw [List.getElem?_set_ne e']; exact h1, h2⟩
  · by_cases z1 : i = j
    · subst z1
      by_cases hi : i < γ.length
      · rw [List.getElem?_set_self (by rw [S.len]; exact hi)] at e3
        cases e3
        rw [List.getElem?_set_ne hjk] at e2 e4
        exact nd k zs hjk e2 e4
      · rw [List.getElem?_eq_none (by simpa using hi)] at e1; cases e1
    · rw [List.getElem?_set_ne z1] at e1 e3
      by_cases z2 : i = k
      · subst z2
        by_cases hi : i < γ.length
        · rw [List.getElem?_set_self (by rw [S.len]; exact hi)] at e4
          cases e4
          exact nd j ys z1 e1 e3
        · rw [List.getElem?_eq_none (by simpa using hi)] at e2; cases e2
      · rw [List.getElem?_set_ne z2] at e2 e4
        exact S.dj j k ys zs c hjk e1 e2 e3 e4
/-- one's own list is changed -/
theorem SR.write (S : SR K B F₀ F σ H γ) {i : Nat} {xs ys : List PV} {a : Addr} {us : List V} (hi : γ[i]? = some (.ow xs)) (ha : σ[i]? = some (some (.ref a))) (r : RepL K F ys us) :
    SR K B F₀ F σ (upd H a (.lst us)) (γ.set i (.ow ys)) := by
  obtain ⟨a', vs, h1, h2, h3, h4, h5⟩ := S.ow i xs hi
  rw [ha] at h1
  cases h1
  have hil : i < γ.length := (List.getElem?_eq_some_iff.mp hi).1
  have stay : ∀ b o, H b = some o → b ≠ a → upd H a (.lst us) b = some o := fun b o e n => by rw [upd_ne n]; exact e
  refine ⟨fun b o e => stay b o (S.sub b o e) (ne_of_none e h4), fun b o e => stay b o (S.base b o e) (ne_of_none e h5), S.f0, S.fb, by simpa using S.len, fun j q e => ?_, fun j zs e => ?_, fun j k ws zs c hjk e1 e2 e3 e4 => ?_⟩
  · by_cases e' : i = j
    · subst e'
      rw [List.getElem?_set_self hil] at e; cases e
    · rw [List.getElem?_set_ne e'] at e; exact S.fz j q e
  · by_cases e' : i = j
    · subst e'
      rw [List.getElem?_set_self hil] at e
      cases e
      exact ⟨a, us, ha, upd_same, r, h4, h5⟩
    · rw [List.getElem?_set_ne e'] at e
      obtain ⟨b, ts, k1, k2, k3⟩ := S.ow j zs e
      have hb : b ≠ a := fun z => by
        subst z
        exact S.dj i j xs zs b e' hi e ha k1
      exact ⟨b, ts, k1, stay _ _ k2 hb, k3⟩
  · have f : ∀ (n : Nat) (ws : List PV), (γ.set i (.ow ys))[n]? = some (.ow ws) → ∃ ws', γ[n]? = some (.ow ws') := fun n ws q => by
      by_cases e' : i = n
      · subst e'; exact ⟨xs, hi⟩
      · rw [List.getElem?_set_ne e'] at q; exact ⟨ws, q⟩
    obtain ⟨ws', e1⟩ := f j ws e1
    obtain ⟨zs', e2⟩ := f k zs e2
    exact S.dj j k _ _ c hjk e1 e2 e3 e4
/-- another entry: what is frozen at a loop's head -/
theorem SR.up (S : SR K B F₀ F σ H γ) {F1 : Hp} (e1 : Same F₀ F1) (e : Same F1 F) : SR K B F1 F σ H γ :=
  ⟨S.sub, S.base, e, fun a o q => (S.fb a o q).imp (fun z => e1 a o z) id, S.len, S.fz, S.ow, S.dj⟩
theorem SR.down {F1 : Hp} (S : SR K B F1 F σ H γ) (e1 : Same F₀ F1) (fb1 : ∀ a o, F1 a = some o → F₀ a = some o ∨ B a = none) : SR K B F₀ F σ H γ :=
  ⟨S.sub, S.base, e1.trans S.f0, fun a o q => (S.fb a o q).elim (fun z => fb1 a o z) .inr, S.len, S.fz, S.ow, S.dj⟩
theorem Grow.down {F1 : Hp} (g : Grow F1 B F' H') (e1 : Same F₀ F1) (fb1 : ∀ a o, F1 a = some o → F₀ a = some o ∨ B a = none) : Grow F₀ B F' H' :=
  ⟨e1.trans g.ext, g.sub, g.same, fun a o q => (g.new a o q).elim (fun z => fb1 a o z) .inr⟩
theorem SR.gr (S : SR K B F₀ F σ H γ) : Grow F₀ B F H := ⟨S.f0, S.sub, S.base, S.fb⟩
end

def OutOk (K : PySem.W.Frag) (B F₀ : Hp) (D : Ends) : Out → Prop
  | .nx γ => ∀ σ H F, SR K B F₀ F σ H γ → D.nx σ H
  | .rt p => ∀ v H F, Grow F₀ B F H → Rep K F p v → D.rt v H
  | .ro xs => ∀ a vs H F, Grow F₀ B F H → B a = none → F a = none → H a = some (.lst vs) → RepL K F xs vs → D.rt (.ref a) H
  | .bk γ => ∀ σ H F, SR K B F₀ F σ H γ → D.bk σ H
  | .ct γ => ∀ σ H F, SR K B F₀ F σ H γ → D.ct σ H
def tMS (K : PySem.W.Frag) (m : MSt) : TS := fun D σ H => ∃ B F₀ F γ o, SR K B F₀ F σ H γ ∧ m γ = some o ∧ OutOk K B F₀ D o
def SM (X : Cx) (st : Stmt) (m : MSt) : Prop := PS X st (tMS X.K m)
def SMs (X : Cx) (sts : List Stmt) (m : MSt) : Prop := PSs X sts (tMS X.K m)

section
variable {X : Cx} {e a b c : Expr} {st : Stmt} {sts : List Stmt} {ms ns ls : List Nat} {m m1 m2 m3 : MEx} {s1 s2 : MSt} {pos p2 : Pos}
theorem _root_.L2.PSs.imp {t t' : TS} (h : PSs X sts t) (i : ∀ D σ H, t' D σ H → t D σ H) : PSs X sts t' := fun pins s σ H D I q => h pins s σ H D I (i D σ H q)
def sNx : MSt := fun γ => some (.nx γ)
def sSeq (s1 s2 : MSt) : MSt := fun γ => (s1 γ).bind fun o => match o with
  | .nx γ' => s2 γ'
  | o => some o
theorem ss_nil : SMs X [] sNx := PSs.imp pss_nil fun D σ H ⟨B, F₀, F, γ, o, S, e, ok⟩ => by
  cases e
  exact ok σ H F S
theorem ss_one (h : SM X st s1) : SMs X [st] s1 := pss_one h
theorem ss_cons (h : SM X st s1) (hr : SMs X sts s2) : SMs X (st :: sts) (sSeq s1 s2) := PSs.imp (pss_cons h hr) fun D σ H ⟨B, F₀, F, γ, o, S, e, ok⟩ => by
  obtain ⟨o1, e1, e2⟩ := bind_get e
  refine ⟨B, F₀, F, γ, o1, S, e1, ?_⟩
  cases o1 with
  | nx γ' => exact fun σ' H' F' S' => ⟨B, F₀, F', γ', o, S', e2, ok⟩
  | rt p => cases e2; exact ok
  | ro xs => cases e2; exact ok
  | bk γ' => cases e2; exact ok
  | ct γ' => cases e2; exact ok
def sBk : MSt := fun γ => some (.bk γ)
def sCt : MSt := fun γ => some (.ct γ)
/-- code that is not come to -/
def sNo : MSt := fun _ => none
theorem sm_no : SM X st sNo := PS.imp ps_never fun D σ H ⟨B, F₀, F, γ, o, S, e, ok⟩ => by cases e
/-! ### return -/
def sRet (m : MEx) : MSt := fun γ => (m γ).map .rt
def sRetO (m : PEnv → Option (List PV)) : MSt := fun γ => (m γ).map .ro
def sRetV (i : Nat) : MSt := fun γ => match γ[i]? with
  | some (.ow xs) => some (.ro xs)
  | some (.fz p) => some (.rt p)
  | _ => none
def sRetN : MSt := fun _ => some (.rt .non)
theorem sm_ret (h : EM X ms e m) : SM X (.Return (some e) pos) (sRet m) := PS.imp (ps_ret h) fun D σ H ⟨B, F₀, F, γ, o, S, e, ok⟩ => by
  obtain ⟨r, e1, e2⟩ := map_get e
  subst e2
  obtain ⟨F1, S1, x1, er⟩ := S.see ms
  exact ⟨F1, γ, r, S1.sub, er, e1, fun v H' F' g q => ok v H' F' (S1.grow g).gr q⟩
theorem sm_retO {m : PEnv → Option (List PV)} (h : EO X ms e m) : SM X (.Return (some e) pos) (sRetO m) := PS.imp (ps_ret h) fun D σ H ⟨B, F₀, F, γ, o, S, e, ok⟩ => by
  obtain ⟨r, e1, e2⟩ := map_get e
  subst e2
  obtain ⟨F1, S1, x1, er⟩ := S.see ms
  exact ⟨F1, γ, r, S1.sub, er, e1, fun a vs H' F' g n nF hH q => ok a vs H' F' (S1.grow g).gr (S1.base.free n) nF hH q⟩
theorem sm_retV (i : Nat) {x : Str} (h : PE X (.Name x p2) (tVar i)) : SM X (.Return (some (.Name x p2)) pos) (sRetV i) := PS.imp (ps_ret h) fun D σ H ⟨B, F₀, F, γ, o, S, e, ok⟩ => by
  unfold sRetV at e
  split at e
  · rename_i xs h
    cases e
    obtain ⟨a, vs, h1, h2, h3, h4, h5⟩ := S.ow i xs h
    exact ⟨.ref a, h1, ok a vs H F S.gr h5 h4 h2 h3⟩
  · rename_i p h
    cases e
    obtain ⟨v, h1, h2⟩ := S.fz i p h
    exact ⟨v, h1, ok v H F S.gr h2⟩
  · cases e
/-! ### if -/
def sIf (t : PEnv → Option Bool) (s1 s2 : MSt) : MSt := fun γ => (t γ).bind fun k => if k = true then s1 γ else s2 γ
theorem sm_if {t : PEnv → Option Bool} {xs ys : List Stmt} (hc : TM X ms c t) (ha : SMs X xs s1) (hb : SMs X ys s2) : SM X (.If c xs ys pos) (sIf t s1 s2) := PS.imp (ps_if hc ha hb) fun D σ H ⟨B, F₀, F, γ, o, S, e, ok⟩ => by
  obtain ⟨k, e1, e2⟩ := bind_get e
  obtain ⟨F1, S1, x1, er⟩ := S.see ms
  refine ⟨F1, γ, k, S1.sub, er, e1, fun H' F' g => ?_⟩
  cases k with
  | true => rw [if_pos rfl] at e2 ⊢; exact ⟨B, F₀, F, γ, o, S.same g.same, e2, ok⟩
  | false => rw [if_neg Bool.false_ne_true] at e2 ⊢; exact ⟨B, F₀, F, γ, o, S.same g.same, e2, ok⟩
/-! ### name = e -/
def keepE (k : Bool) (ms : List Nat) (γ : PEnv) : PEnv := if k = true then γ else frz ms γ
def sSet (ms : List Nat) (i : Nat) (m : MEx) : MSt := fun γ => (m γ).map fun r => .nx ((keepE (flat r) ms γ).set i (.fz r))
def sSetO (ms : List Nat) (i : Nat) (m : PEnv → Option (List PV)) : MSt := fun γ => (m γ).map fun xs => .nx ((keepE (xs.all flat) ms γ).set i (.ow xs))
/-- behind an expression -/
theorem SR.val {K : PySem.W.Frag} {B F₀ F F1 F' H H' : Hp} {σ : St} {γ : PEnv} {r : PV} {v : V} (S : SR K B F₀ F σ H γ) (S1 : SR K B F₀ F1 σ H (PM.frz ms γ)) (g : Grow F1 H F' H') (q : Rep K F' r v) :
    ∃ F2, SR K B F₀ F2 σ H' (keepE (flat r) ms γ) ∧ Rep K F2 r v := by
  unfold keepE
  cases f : flat r with
  | true => rw [if_pos rfl]; exact ⟨F, S.same g.same, q.flat f⟩
  | false => rw [if_neg Bool.false_ne_true]; exact ⟨F', S1.grow g, q⟩
theorem SR.valO {K : PySem.W.Frag} {B F₀ F F1 F' H H' : Hp} {σ : St} {γ : PEnv} {r : List PV} {vs : List V} (S : SR K B F₀ F σ H γ) (x1 : Same F F1) (S1 : SR K B F₀ F1 σ H (PM.frz ms γ)) (g : Grow F1 H F' H') (q : RepL K F' r vs) :
    ∃ F2, SR K B F₀ F2 σ H' (keepE (r.all flat) ms γ) ∧ RepL K F2 r vs ∧ Same F2 F' := by
  unfold keepE
  cases f : r.all flat with
  | true => rw [if_pos rfl]; exact ⟨F, S.same g.same, q.flat f, x1.trans g.ext⟩
  | false => rw [if_neg Bool.false_ne_true]; exact ⟨F', S1.grow g, q, Same.refl _⟩
theorem sm_set {i : Nat} {x : Str} (hN : X.N.Nodup) (hi : X.N[i]? = some x) (hx : Loc X.env.scope x) (h : EM X ms e m) (hs : swapsWith e (some (.Name x p2)) pos.line X.env = pure false := by rfl) (hf : X.fn x = true ∨ X.env.scope.names.lookup x = some .local := by first | exact .inl rfl | exact .inr rfl | assumption) :
    SM X (.Assign [.Name x p2] e pos) (sSet ms i m) := PS.imp (ps_set hN hi hx h hs hf) fun D σ H ⟨B, F₀, F, γ, o, S, e, ok⟩ => by
  obtain ⟨r, e1, e2⟩ := map_get e
  subst e2
  obtain ⟨F1, S1, x1, er⟩ := S.see ms
  refine ⟨F1, γ, r, S1.sub, er, e1, fun v H' F' g q => ?_⟩
  obtain ⟨F2, S2, q2⟩ := S.val S1 g q
  exact ok _ _ F2 (S2.setFz i q2)
theorem SR.setNew {K : PySem.W.Frag} {B F₀ F F1 F' H H' : Hp} {σ : St} {γ : PEnv} {r : List PV} {vs : List V} {a : Addr} (S : SR K B F₀ F σ H γ) (x1 : Same F F1) (S1 : SR K B F₀ F1 σ H (PM.frz ms γ)) (g : Grow F1 H F' H') (n : H a = none) (nF : F' a = none) (hH : H' a = some (.lst vs)) (q : RepL K F' r vs) (i : Nat) :
    ∃ F2, SR K B F₀ F2 (σ.set i (some (.ref a))) H' ((keepE (r.all flat) ms γ).set i (.ow r)) := by
  obtain ⟨F2, S2, q2, x2⟩ := S.valO x1 S1 g q
  have own : ∀ (j : Nat) ys, (keepE (r.all flat) ms γ)[j]? = some (.ow ys) → σ[j]? ≠ some (some (.ref a)) := fun j ys e1 e2 => by
    have key : ∀ {F : Hp} {γ : PEnv}, SR K B F₀ F σ H γ → γ[j]? = some (.ow ys) → False := fun {F γ} T e1 => by
      obtain ⟨b, us, h1, h2, _⟩ := T.ow j ys e1
      rw [e2] at h1
      cases h1
      rw [n] at h2; cases h2
    unfold keepE at e1
    split at e1
    · exact key S e1
    · exact key S1 e1
  exact ⟨F2, S2.setOw i hH q2 (x2.free nF) (S.base.free n) fun j ys _ e1 => own j ys e1⟩
theorem sm_setO {i : Nat} {x : Str} {m : PEnv → Option (List PV)} (hN : X.N.Nodup) (hi : X.N[i]? = some x) (hx : Loc X.env.scope x) (h : EO X ms e m) (hs : swapsWith e (some (.Name x p2)) pos.line X.env = pure false := by rfl) (hf : X.fn x = true ∨ X.env.scope.names.lookup x = some .local := by first | exact .inl rfl | exact .inr rfl | assumption) :
    SM X (.Assign [.Name x p2] e pos) (sSetO ms i m) := PS.imp (ps_set hN hi hx h hs hf) fun D σ H ⟨B, F₀, F, γ, o, S, e, ok⟩ => by
  obtain ⟨r, e1, e2⟩ := map_get e
  subst e2
  obtain ⟨F1, S1, x1, er⟩ := S.see ms
  refine ⟨F1, γ, r, S1.sub, er, e1, fun a vs H' F' g n nF hH q => ?_⟩
  obtain ⟨F2, S2⟩ := S.setNew x1 S1 g n nF hH q i
  exact ok _ _ F2 S2
/-! ### an expression by itself -/
def sExp (ms : List Nat) (m : MEx) : MSt := fun γ => (m γ).map fun _ => .nx γ
end
end L2.PM

set_option Elab.async false
set_option linter.all false
set_option maxRecDepth 100000
noncomputable section
namespace L2.PM
open PySem PySem.Spec PyProof.Rows

theorem _root_.L2.PG.imp {X : Cx} {e : Expr} {t t' : TG} (h : PG X e t) (i : ∀ v σ H Q, t' v σ H Q → t v σ H Q) : PG X e t' := fun pins s σ H v u Q I r q => h pins s σ H v u Q I r (i v σ H Q q)
theorem frz_other : ∀ (ms : List Nat) {γ : PEnv} {j : Nat}, j ∉ ms → (frz ms γ)[j]? = γ[j]?
  | [], _, _, _ => rfl
  | i :: ms, γ, j, h => by
    show (frz ms (frz1 γ i))[j]? = _
    rw [frz_other ms (fun z => h (List.mem_cons_of_mem _ z))]
    unfold frz1
    split
    · rw [List.getElem?_set_ne (fun z => h (by simp [z]))]
    · rfl
theorem keepE_own {k : Bool} {ms : List Nat} {γ : PEnv} {i : Nat} {xs : List PV} (h : γ[i]? = some (.ow xs)) (c : (k || !ms.contains i) = true) : (keepE k ms γ)[i]? = some (.ow xs) := by
  unfold keepE
  cases k with
  | true => rw [if_pos rfl]; exact h
  | false =>
    rw [if_neg Bool.false_ne_true]
    have : i ∉ ms := by simpa using c
    rw [frz_other ms this]; exact h

section
variable {X : Cx} {e a b c : Expr} {st : Stmt} {sts : List Stmt} {ms ns ls : List Nat} {m m1 m2 m3 mi mv : MEx} {s1 s2 : MSt} {pos p2 p3 : Pos}

/-! ### name op= e -/
def sAug (i : Nat) (f : PV → PV → Option PV) (m : MEx) : MSt := fun γ => (getV γ i).bind fun x => (m γ).bind fun y => (f x y).bind fun r => if flat r = true then some (.nx (γ.set i (.fz r))) else none
/-! ### targets -/
def tMG (K : PySem.W.Frag) (ts : List Nat) (g : PV → PEnv → Option PEnv) : TG := fun v σ H Q => ∃ B F₀ F γ p γ', SR K B F₀ F σ H γ ∧ Rep K F p v ∧ g p γ = some γ' ∧
  ∀ σ', SR K B F₀ F σ' H γ' → σ'.length = σ.length → (∀ n, n ∉ ts → σ'[n]? = σ[n]?) → Q σ' H
def GM (X : Cx) (ts : List Nat) (tg : Expr) (g : PV → PEnv → Option PEnv) : Prop := PG X tg (tMG X.K ts g)
def gSet (i : Nat) : PV → PEnv → Option PEnv := fun p γ => some (γ.set i (.fz p))
def gSet2 (i j : Nat) : PV → PEnv → Option PEnv := fun p γ => match p with
  | .tup [x, y] => some ((γ.set i (.fz x)).set j (.fz y))
  | _ => none
def gSet3 (i j k : Nat) : PV → PEnv → Option PEnv := fun p γ => match p with
  | .tup [x, y, z] => some (((γ.set i (.fz x)).set j (.fz y)).set k (.fz z))
  | _ => none
theorem gm_name {i : Nat} {x : Str} (h : PG X (.Name x pos) (gName i)) : GM X [i] (.Name x pos) (gSet i) := PG.imp h fun v σ H Q ⟨B, F₀, F, γ, p, γ', S, r, e, w⟩ => by
  cases e
  refine w _ (S.setFz i r) (by simp) fun n hn => ?_
  rw [List.getElem?_set_ne (fun z => hn (by simp [z]))]
def sAsg (ms : List Nat) (g : PV → PEnv → Option PEnv) (m : MEx) : MSt := fun γ => (m γ).bind fun r => (g r (keepE (flat r) ms γ)).map .nx
/-! ### one's own list: append, insert, pop, xs[k] = e -/
def sApp (ms : List Nat) (i : Nat) (m : MEx) : MSt := fun γ => match γ[i]? with
  | some (.ow xs) => (m γ).bind fun r => if xs.length < LIM ∧ (flat r || !ms.contains i) = true then some (.nx ((keepE (flat r) ms γ).set i (.ow (xs ++ [r])))) else none
  | _ => none
theorem tyV_list {K : PySem.W.Frag} {H : Hp} {a : Addr} {vs : List V} (h : SqL K H a vs) : tyV K "list" (.ref a) H := .inl ⟨rfl, vs, h⟩
theorem sm_app {i : Nat} {x : Str} {apos cpos : Pos} (hx : PE X (.Name x p2) (tVar i)) (h : EM X ms e m) (ps : PS X (.Expr (.Call (.Attribute (.Name x p2) "append" apos) [e] [] cpos) pos) (tDrop (tBM X.K "list" rAppend (tVar i) (tMA X.K ms (aCons m aNil))))) :
    SM X (.Expr (.Call (.Attribute (.Name x p2) "append" apos) [e] [] cpos) pos) (sApp ms i m) := PS.imp ps fun D σ H ⟨B, F₀, F, γ, o, S, e, ok⟩ => by
  unfold sApp at e
  split at e
  · rename_i xs hi
    obtain ⟨r, e1, e⟩ := bind_get e
    obtain ⟨⟨hl, c⟩, rfl⟩ := ite_get e
    obtain ⟨a, vs, h1, h2, _⟩ := S.ow i xs hi
    obtain ⟨F1, S1, x1, er⟩ := S.see ms
    refine ⟨.ref a, h1, tyV_list (.of h2), F1, γ, [r], S1.sub, er, by simp [aCons, aNil, e1], fun us H' F' g q => ?_⟩
    unfold RepL at q
    obtain ⟨v, t, rfl, q, qt⟩ := q
    unfold RepL at qt
    subst qt
    obtain ⟨F2, S2, q2⟩ := S.val S1 g q
    have hi2 := keepE_own (k := flat r) hi c
    obtain ⟨a2, vs2, k1, k2, k3, _⟩ := S2.ow i xs hi2
    rw [h1] at k1
    cases k1
    refine ⟨a, vs2, v, rfl, rfl, k2, ?_, ?_⟩
    · rw [k3.length]; exact Nat.lt_of_lt_of_le hl lim_line
    · exact ok _ _ F2 (S2.write hi2 h1 (k3.snoc q2))
  · cases e
def sSetIx (ms : List Nat) (i : Nat) (mv mi : MEx) : MSt := fun γ => match γ[i]? with
  | some (.ow xs) => (mv γ).bind fun r => (mi γ).bind fun k => match k with
    | .int j => (ixN xs.length j).bind fun n => if (flat r || !ms.contains i) = true then some (.nx ((keepE (flat r) ms γ).set i (.ow (xs.set n r)))) else none
    | _ => none
  | _ => none
/-! ### what is walked -/
structure ItRep (K : PySem.W.Frag) (J : It) (F : Hp) (xs : List PV) : Prop where
  go : ∀ i H, i < xs.length → Same F H → J.go i H
  yld : ∀ i H x H', i < xs.length → Same F H → J.yld i H x H' → ∃ p, xs[i]? = some p ∧ ∀ F1, Same F F1 → Same F1 H → ∃ F2, Grow F1 H F2 H' ∧ Rep K F2 p x
  stop : ∀ H, Same F H → J.stop xs.length H
def tMI (K : PySem.W.Frag) (ms : List Nat) (m : PEnv → Option (List PV)) : TI := fun σ H R => ∃ F γ xs, Same F H ∧ ERep K F σ γ ms ∧ m γ = some xs ∧ ∀ J H' F', Grow F H F' H' → ItRep K J F' xs → R J H'
def IM (X : Cx) (ms : List Nat) (tg iter : Expr) (m : PEnv → Option (List PV)) : Prop := PI X tg iter (tMI X.K ms m)
theorem _root_.L2.PI.imp {tg : Expr} {t t' : TI} (h : PI X tg e t) (i : ∀ σ H R, t' σ H R → t σ H R) : PI X tg e t' := fun pins s σ H R I q => h pins s σ H R I (i σ H R q)
/-- a list -/
def iLst (m : MEx) : PEnv → Option (List PV) := fun γ => (m γ).bind fun p => match p with
  | .lst xs => some xs
  | _ => none
def iTpl (m : MEx) : PEnv → Option (List PV) := fun γ => (m γ).bind fun p => match p with
  | .tup xs => some xs
  | _ => none
theorem im_lst {tg : Expr} (h : EM X ms e m) : IM X ms tg e (iLst m) := PI.imp (pi_list h) fun σ H R ⟨F, γ, xs, h1, h2, h3, w⟩ => by
  obtain ⟨p, e1, e2⟩ := bind_get h3
  refine ⟨F, γ, p, h1, h2, e1, fun v H' F' g q => ?_⟩
  cases p with
  | lst ys =>
    cases e2
    unfold Rep at q
    obtain ⟨a, vs, rfl, k2, k3⟩ := q
    refine ⟨a, rfl, ⟨vs, g.sub.seq k2⟩, w _ _ _ g ?_⟩
    refine ⟨fun i H hi e => ?_, fun i H x H' hi e y => ?_, fun H e => ?_⟩
    · have hv : i < vs.length := by rw [k3.length]; exact hi
      exact ⟨vs, vs[i], e.seq k2, by simp [hv]⟩
    · obtain ⟨rfl, y⟩ := y
      obtain ⟨p, e2, e3⟩ := k3.back (y vs (e.seq k2))
      exact ⟨p, e2, fun F1 x1 x2 => ⟨F1, .refl x2, e3.mono x1⟩⟩
    · exact ⟨vs, e.seq k2, by rw [k3.length]; exact Nat.le_refl _⟩
  | _ => cases e2
theorem im_tup {tg : Expr} (h : EM X ms e m) : IM X ms tg e (iTpl m) := PI.imp (pi_tup h) fun σ H R ⟨F, γ, xs, h1, h2, h3, w⟩ => by
  obtain ⟨p, e1, e2⟩ := bind_get h3
  refine ⟨F, γ, p, h1, h2, e1, fun v H' F' g q => ?_⟩
  cases p with
  | tup ys =>
    cases e2
    unfold Rep at q
    obtain ⟨a, vs, rfl, k2, k3⟩ := q
    refine ⟨a, rfl, ⟨vs, g.sub.seqT k2⟩, w _ _ _ g ?_⟩
    refine ⟨fun i H hi e => ?_, fun i H x H' hi e y => ?_, fun H e => ?_⟩
    · have hv : i < vs.length := by rw [k3.length]; exact hi
      exact ⟨vs, vs[i], e.seqT k2, by simp [hv]⟩
    · obtain ⟨rfl, y⟩ := y
      obtain ⟨p, e2, e3⟩ := k3.back (y vs (e.seqT k2))
      exact ⟨p, e2, fun F1 x1 x2 => ⟨F1, .refl x2, e3.mono x1⟩⟩
    · exact ⟨vs, e.seqT k2, by rw [k3.length]; exact Nat.le_refl _⟩
  | _ => cases e2
/-- ranges -/
def rngL (lo hi : Int) : List PV := (List.range (hi - lo).toNat).map fun k => .int (lo + (k : Nat))
theorem rngL_len (lo hi : Int) : (rngL lo hi).length = (hi - lo).toNat := by simp [rngL]
theorem itr_rep {K : PySem.W.Frag} {F : Hp} (lo hi : Int) : ItRep K (Itr lo (hi - lo).toNat) F (rngL lo hi) := by
  refine ⟨fun i H hi' e => ?_, fun i H x H' hi' e y => ?_, fun H e => ?_⟩
  · rw [rngL_len] at hi'; exact hi'
  · obtain ⟨rfl, rfl⟩ := y
    rw [rngL_len] at hi'
    exact ⟨.int (lo + i), by simp [rngL, hi'], fun F1 x1 x2 => ⟨F1, .refl x2, rep_int _⟩⟩
  · show (hi - lo).toNat ≤ _
    rw [rngL_len]; exact Nat.le_refl _
def rOk (j : Int) : Bool := cls (-(2 ^ 62) ≤ j ∧ j < 2 ^ 62)
theorem rOk_get {j : Int} (h : rOk j = true) : -(2 ^ 62) ≤ j ∧ j < 2 ^ 62 := cls_get h
theorem rOk_of {j : Int} (h1 : -(2 ^ 62) ≤ j) (h2 : j < 2 ^ 62) : rOk j = true := cls_of ⟨h1, h2⟩
def iRg1 (m : MEx) : PEnv → Option (List PV) := fun γ => (m γ).bind fun p => match p with
  | .int j => if rOk j = true then some (rngL 0 j) else none
  | _ => none
def iRg2 (m1 m2 : MEx) : PEnv → Option (List PV) := fun γ => (m1 γ).bind fun p => (m2 γ).bind fun q => match p, q with
  | .int i, .int j => if rOk i = true ∧ rOk j = true then some (rngL i j) else none
  | _, _ => none
theorem im_range1 {tg : Expr} (hg : Gl X "range") (hm : X.mg "range" = none) (ha : AM X ms [a] (aCons m aNil)) (hs : starEach [a] X.env = [(false, eval a X.env)] := by rfl) : IM X ms tg (.Call (.Name "range" p2) [a] [] pos) (iRg1 m) :=
  PI.imp (pi_range1 hg hm ha hs) fun σ H R ⟨F, γ, xs, h1, h2, h3, w⟩ => by
    obtain ⟨p, e1, e2⟩ := bind_get h3
    refine ⟨F, γ, [p], h1, h2, by simp [aCons, aNil, e1], fun vs H' F' g q => ?_⟩
    unfold RepL at q
    obtain ⟨v, t, rfl, q, qt⟩ := q
    unfold RepL at qt
    subst qt
    cases p with
    | int j =>
      obtain ⟨c, rfl⟩ := ite_get e2
      obtain ⟨c1, c2⟩ := rOk_get c
      unfold Rep at q
      subst q
      refine ⟨j, rfl, c1, c2, w _ _ _ g ?_⟩
      have := itr_rep (K := X.K) (F := F') 0 j
      simpa using this
    | _ => cases e2
/-! ### for -/
def forL (g : PV → PEnv → Option PEnv) (b : MSt) : List PV → PEnv → Option Out
  | [], γ => some (.nx γ)
  | x :: xs, γ => (g x γ).bind fun γ1 => (b γ1).bind fun o => match o with
    | .nx γ2 => forL g b xs γ2
    | .ct γ2 => forL g b xs γ2
    | .bk γ2 => some (.nx γ2)
    | .rt p => some (.rt p)
    | .ro ys => some (.ro ys)
/-- fz: whether what the walk mentions is frozen (not where it is a range) -/
def sFor (ms : List Nat) (mi : PEnv → Option (List PV)) (g : PV → PEnv → Option PEnv) (b : MSt) : MSt := fun γ => (mi γ).bind fun xs => forL g b xs (frz ms γ)
theorem for_core {K : PySem.W.Frag} {g : PV → PEnv → Option PEnv} {ts : List Nat} {sb : MSt} {D : Ends} {B F₀ F' H' : Hp} {J : It} {xs : List PV} {γ1 : PEnv} {σ : St} {o : Out} (S1 : SR K B F₀ F' σ H' γ1) (it : ItRep K J F' xs) (e2 : forL g sb xs γ1 = some o) (ok : OutOk K B F₀ D o) :
    ∃ W : Nat → Nat → St → Hp → Prop, (∃ m, W 0 m σ H') ∧ ∀ i m σ H, W i m σ H →
      (J.stop i H ∧ D.nx σ H) ∨ (J.go i H ∧ ∃ N : St → Hp → Prop, (∀ σ' H', N σ' H' → ∃ m', m' < m ∧ W (i + 1) m' σ' H') ∧ ∀ x H', J.yld i H x H' → tMG K ts g x σ H' fun σ2 H2 => tMS K sb { D with nx := N, ct := N, bk := D.nx } σ2 H2) := by
  refine ⟨fun i m σ H => m = xs.length - i ∧ i ≤ xs.length ∧ ∃ F γ, SR K B F₀ F σ H γ ∧ Same F' F ∧ forL g sb (xs.drop i) γ = some o, ⟨xs.length, by simp, Nat.zero_le _, F', γ1, S1, Same.refl _, by simpa using e2⟩, ?_⟩
  rintro i m σ2 H2 ⟨rfl, hi, F2, γ2, S2, x2, e2⟩
  by_cases hlt : i < xs.length
  · refine .inr ⟨it.go i H2 hlt (x2.trans S2.sub), fun σ H => ∃ F γ, SR K B F₀ F σ H γ ∧ Same F' F ∧ forL g sb (xs.drop (i + 1)) γ = some o, fun σ' H' q => ⟨xs.length - (i + 1), by omega, rfl, hlt, q⟩, fun x H3 y => ?_⟩
    obtain ⟨p, e3, hy⟩ := it.yld i H2 x H3 hlt (x2.trans S2.sub) y
    obtain ⟨F3, g3, r3⟩ := hy F2 x2 S2.sub
    have S3 := S2.grow g3
    have ed : xs.drop i = p :: xs.drop (i + 1) := by
      have q := (List.getElem?_eq_some_iff.mp e3)
      obtain ⟨q1, q2⟩ := q
      rw [← q2]
      exact List.drop_eq_getElem_cons q1
    rw [ed] at e2
    unfold forL at e2
    obtain ⟨γ4, e4, e2⟩ := bind_get e2
    obtain ⟨ob, e5, e2⟩ := bind_get e2
    refine ⟨B, F₀, F3, γ2, p, γ4, S3, r3, e4, fun σ4 S4 _ _ => ?_⟩
    have x3 : Same F' F3 := x2.trans g3.ext
    refine ⟨B, F', F3, γ4, ob, S4.up S1.f0 x3, e5, ?_⟩
    cases ob with
    | nx γ5 => exact fun σ H F S => ⟨F, γ5, S.down S1.f0 S1.fb, S.f0, e2⟩
    | ct γ5 => exact fun σ H F S => ⟨F, γ5, S.down S1.f0 S1.fb, S.f0, e2⟩
    | bk γ5 =>
      cases e2
      exact fun σ H F S => ok σ H F (S.down S1.f0 S1.fb)
    | rt p =>
      cases e2
      exact fun v H F gr r => ok v H F (gr.down S1.f0 S1.fb) r
    | ro ys =>
      cases e2
      exact fun a vs H F gr n nF hH r => ok a vs H F (gr.down S1.f0 S1.fb) n nF hH r
  · have e : i = xs.length := by omega
    subst e
    rw [List.drop_length] at e2
    cases e2
    exact .inl ⟨it.stop H2 (x2.trans S2.sub), ok σ2 H2 F2 S2⟩
theorem sm_for {tg iter : Expr} {ts : List Nat} {mi : PEnv → Option (List PV)} {g : PV → PEnv → Option PEnv} {sb : MSt} {body : List Stmt} (hp : PassesOwn (model X.prog X.w) X.A X.env X.xe) (hc : X.calm = true) (hi : IM X ms tg iter mi) (hg : GM X ts tg g) (hb : SMs X body sb)
    (hs : ∀ x, foldedSetIterable iter X.env x = pure x := by intro _; rfl) : SM X (.For tg iter body [] pos) (sFor ms mi g sb) := PS.imp (ps_for hp hc hi hg hb hs) fun D σ H ⟨B, F₀, F, γ, o, S, e, ok⟩ => by
  obtain ⟨xs, e1, e2⟩ := bind_get e
  obtain ⟨F1, S1, x1, er⟩ := S.see ms
  exact ⟨F1, γ, xs, S1.sub, er, e1, fun J H' F' gr it => for_core (S1.grow gr) it e2 ok⟩
/-- over a range: what it mentions stays one's own -/
def sForR (mi : PEnv → Option (List PV)) (g : PV → PEnv → Option PEnv) (b : MSt) : MSt := fun γ => (mi γ).bind fun xs => forL g b xs γ
/-- a walk that leans on nothing -/
def IMR (X : Cx) (ms : List Nat) (tg iter : Expr) (m : PEnv → Option (List PV)) : Prop := PI X tg iter fun σ H R => ∃ F γ xs, Same F H ∧ ERep X.K F σ γ ms ∧ m γ = some xs ∧ ∀ J H', Same H H' → (∀ F, ItRep X.K J F xs) → R J H'
theorem sm_forR {tg iter : Expr} {ts : List Nat} {mi : PEnv → Option (List PV)} {g : PV → PEnv → Option PEnv} {sb : MSt} {body : List Stmt} (hp : PassesOwn (model X.prog X.w) X.A X.env X.xe) (hc : X.calm = true) (hi : IMR X ms tg iter mi) (hg : GM X ts tg g) (hb : SMs X body sb)
    (hs : ∀ x, foldedSetIterable iter X.env x = pure x := by intro _; rfl) : SM X (.For tg iter body [] pos) (sForR mi g sb) := PS.imp (ps_for hp hc hi hg hb hs) fun D σ H ⟨B, F₀, F, γ, o, S, e, ok⟩ => by
  obtain ⟨xs, e1, e2⟩ := bind_get e
  obtain ⟨F1, S1, x1, er⟩ := S.see ms
  exact ⟨F1, γ, xs, S1.sub, er, e1, fun J H' sm it => for_core (S.same sm) (it F) e2 ok⟩
theorem imr_range1 {tg : Expr} (hg : Gl X "range") (hm : X.mg "range" = none) (ha : AM X ms [a] (aCons m aNil)) (hs : starEach [a] X.env = [(false, eval a X.env)] := by rfl) : IMR X ms tg (.Call (.Name "range" p2) [a] [] pos) (iRg1 m) :=
  PI.imp (pi_range1 hg hm ha hs) fun σ H R ⟨F, γ, xs, h1, h2, h3, w⟩ => by
    obtain ⟨p, e1, e2⟩ := bind_get h3
    refine ⟨F, γ, [p], h1, h2, by simp [aCons, aNil, e1], fun vs H' F' g q => ?_⟩
    unfold RepL at q
    obtain ⟨v, t, rfl, q, qt⟩ := q
    unfold RepL at qt
    subst qt
    cases p with
    | int j =>
      obtain ⟨c, rfl⟩ := ite_get e2
      obtain ⟨c1, c2⟩ := rOk_get c
      unfold Rep at q
      subst q
      refine ⟨j, rfl, c1, c2, w _ _ g.same fun F => ?_⟩
      have := itr_rep (K := X.K) (F := F) 0 j
      simpa using this
    | _ => cases e2
/-! ### while -/
def whileL (t : PEnv → Option Bool) (b : MSt) : Nat → PEnv → Option Out
  | 0, _ => none
  | n + 1, γ => (t γ).bind fun k => if k = true then (b γ).bind fun o => match o with
      | .nx γ2 => whileL t b n γ2
      | .ct γ2 => whileL t b n γ2
      | .bk γ2 => some (.nx γ2)
      | .rt p => some (.rt p)
      | .ro ys => some (.ro ys)
    else some (.nx γ)
def sWhile (N : Nat) (t : PEnv → Option Bool) (b : MSt) : MSt := whileL t b N
end
end L2.PM

set_option Elab.async false
set_option linter.all false
set_option maxRecDepth 100000
noncomputable section
namespace L2.PM
open PySem PySem.Spec PyProof.Rows

/-! ### comprehensions -/
def capS (γ : PEnv) (j : Nat) : Slot := match getV γ j with
  | some p => .fz p
  | none => .un
def blkG (nt : Nat) (caps : List Nat) (γ : PEnv) : PEnv := List.replicate nt .un ++ caps.map (capS γ)
def compL (g : PV → PEnv → Option PEnv) (t : PEnv → Option Bool) (e : MEx) (γ : PEnv) : List PV → Option (List PV)
  | [] => some []
  | x :: xs => (g x γ).bind fun γ1 => (t γ1).bind fun k => if k = true then (e γ1).bind fun y => (compL g t e γ xs).map (y :: ·) else compL g t e γ xs
def mComp (mi : PEnv → Option (List PV)) (nt : Nat) (caps : List Nat) (g : PV → PEnv → Option PEnv) (t : PEnv → Option Bool) (e : MEx) : PEnv → Option (List PV) :=
  fun γ => (mi γ).bind fun xs => if xs.length ≤ LIM then compL g t e (blkG nt caps γ) xs else none
def tYesM : PEnv → Option Bool := fun _ => some true
def IfM (X : Cx) (ms : List Nat) (ifs : List Expr) (t : PEnv → Option Bool) : Prop := PIfs X ifs (tMT X.K ms t)
theorem if_nil {X : Cx} : IfM X [] [] tYesM := fun pins s σ H Q I ⟨F, γ, r, h1, h2, h3, w⟩ => pifs_nil pins s σ H Q I (by
  cases h3
  exact w H F (.refl h1))
theorem blk_sr {K : PySem.W.Frag} {F H : Hp} {σ : St} {γ : PEnv} {nt : Nat} {caps : List Nat} (h : Same F H) (er : ERep K F σ γ caps) : SR K H F F (blkSt nt caps σ) H (blkG nt caps γ) := by
  have key : ∀ (i : Nat) (t : Slot), (blkG nt caps γ)[i]? = some t → t = .un ∨ ∃ j p, caps[i - nt]? = some j ∧ nt ≤ i ∧ getV γ j = some p ∧ t = .fz p := fun i t e => by
    unfold blkG at e
    by_cases hi : i < nt
    · rw [List.getElem?_append_left (by simpa using hi), List.getElem?_replicate, if_pos hi] at e
      exact .inl (Option.some.inj e).symm
    · rw [List.getElem?_append_right (by simpa using hi), List.length_replicate, List.getElem?_map] at e
      cases q : caps[i - nt]? with
      | none => rw [q] at e; cases e
      | some j =>
        rw [q] at e
        have e : capS γ j = t := Option.some.inj e
        unfold capS at e
        split at e
        · rename_i p hp
          exact .inr ⟨j, p, rfl, by omega, hp, e.symm⟩
        · exact .inl e.symm
  refine ⟨h, Same.refl _, Same.refl _, fun a o e => .inl e, by simp [blkSt, blkG], fun i p e => ?_, fun i xs e => ?_, fun i j xs ys a _ e => ?_⟩
  · rcases key i _ e with z | ⟨j, p', e1, hi, e2, z⟩
    · cases z
    · cases z
      obtain ⟨v, h1, h2⟩ := er j (List.mem_of_getElem? e1) p e2
      refine ⟨v, ?_, h2⟩
      unfold blkSt
      rw [List.getElem?_append_right (by simpa using hi), List.length_replicate, List.getElem?_map, e1]
      show some ((σ[j]?).getD none) = some (some v)
      rw [h1]
      rfl
  · rcases key i _ e with z | ⟨j, p', e1, hi, e2, z⟩ <;> cases z
  · rcases key i _ e with z | ⟨j', p', e1, hi, e2, z⟩ <;> cases z
/-- no slot of a block is one's own -/
theorem noOw_set {γ : PEnv} {i : Nat} {p : PV} (h : ∀ (j : Nat) xs, γ[j]? ≠ some (.ow xs)) : ∀ (j : Nat) xs, (γ.set i (.fz p))[j]? ≠ some (.ow xs) := fun j xs e => by
  by_cases z : i = j
  · subst z
    by_cases hi : i < γ.length
    · rw [List.getElem?_set_self hi] at e; cases e
    · rw [List.getElem?_eq_none (by simpa using hi)] at e; cases e
  · rw [List.getElem?_set_ne z] at e; exact h j xs e
theorem noOw_blk {nt : Nat} {caps : List Nat} {γ : PEnv} : ∀ (j : Nat) xs, (blkG nt caps γ)[j]? ≠ some (.ow xs) := fun j xs e => by
  unfold blkG at e
  by_cases hi : j < nt
  · rw [List.getElem?_append_left (by simpa using hi), List.getElem?_replicate, if_pos hi] at e; cases e
  · rw [List.getElem?_append_right (by simpa using hi), List.length_replicate, List.getElem?_map] at e
    cases q : caps[j - nt]? with
    | none => rw [q] at e; cases e
    | some k =>
      rw [q] at e
      have e : capS γ k = .ow xs := Option.some.inj e
      unfold capS at e
      split at e <;> cases e
/-- a target that owns nothing -/
def NoOw (g : PV → PEnv → Option PEnv) : Prop := ∀ p γ γ', g p γ = some γ' → (∀ (j : Nat) xs, γ[j]? ≠ some (.ow xs)) → ∀ (j : Nat) xs, γ'[j]? ≠ some (.ow xs)
theorem noOw_gSet (i : Nat) : NoOw (gSet i) := fun p γ γ' e h => by cases e; exact noOw_set h
section
variable {X : Cx} {pins : List (Addr × Obj)} {scope : Scope} {N' : List Str} {nt : Nat} {caps : List Nat} {tg iter elt : Expr} {ifs : List Expr} {pos : Pos} {ms ns ls : List Nat} {ts : List Nat}
  {mi : PEnv → Option (List PV)} {g : PV → PEnv → Option PEnv} {t : PEnv → Option Bool} {m : MEx}
theorem compRd_of {K : PySem.W.Frag} {F1 H1 : Hp} {J : It} {σ : St} {γ : PEnv} {xs ys : List PV} {Qd : Addr → Hp → Prop} (hts : ∀ i ∈ ts, i < nt) (hno : NoOw g) (h1 : Same F1 H1) (er : ERep K F1 σ γ caps) (it : ItRep K J F1 xs) (hl : xs.length ≤ LIM) (e : compL g t m (blkG nt caps γ) xs = some ys)
    (w : ∀ D vs H2 F2, Grow F1 H1 F2 H2 → H1 D = none → F2 D = none → H2 D = some (.lst vs) → RepL K F2 ys vs → Qd D H2) :
    CompRd J nt caps (tMG K ts g) (tMT K ns t) (tM K ls m) σ H1 Qd := by
  intro D hD
  have nF1 : F1 D = none := h1.free hD
  refine ⟨fun i k acc H => k = xs.length - i ∧ i ≤ xs.length ∧ ∃ F ps rest, Grow F1 H1 F H ∧ F D = none ∧ H D = some (.lst acc) ∧ RepL K F ps acc ∧ compL g t m (blkG nt caps γ) (xs.drop i) = some rest ∧ ps ++ rest = ys ∧ ps.length ≤ i,
    ⟨xs.length, by simp, Nat.zero_le _, F1, [], ys, .side h1 hD, nF1, upd_same, .nil, by simpa using e, rfl, Nat.le_refl _⟩, ?_⟩
  rintro i k acc H ⟨rfl, hi, F, ps, rest, gr, nF, hH, rp, e, ey, hpl⟩
  by_cases hlt : i < xs.length
  · refine .inr ⟨it.go i H hlt (gr.ext.trans gr.sub), fun x H3 y => ?_⟩
    obtain ⟨p, e3, hy⟩ := it.yld i H x H3 hlt (gr.ext.trans gr.sub) y
    obtain ⟨F3, g3, r3⟩ := hy F gr.ext gr.sub
    have ed : xs.drop i = p :: xs.drop (i + 1) := by
      obtain ⟨q1, q2⟩ := List.getElem?_eq_some_iff.mp e3
      rw [← q2]
      exact List.drop_eq_getElem_cons q1
    rw [ed] at e
    unfold compL at e
    obtain ⟨γ4, e4, e⟩ := bind_get e
    obtain ⟨b, e5, e⟩ := bind_get e
    have g13 := gr.trans g3
    have S3 := blk_sr (nt := nt) g3.sub (er.mono g13.ext)
    refine ⟨H3, F3, F3, _, p, γ4, S3, r3, e4, fun σ4 S4 l4 k4 => ⟨⟨l4, fun n v hv => ?_⟩, ?_⟩⟩
    · by_cases hn : n ∈ ts
      · have hn' := hts n hn
        unfold blkSt at hv
        rw [List.getElem?_append_left (by simpa using hn'), List.getElem?_replicate, if_pos hn'] at hv
        cases hv
      · rw [k4 n hn]; exact hv
    · have no4 := hno p _ γ4 e4 noOw_blk
      refine ⟨F3, γ4, b, g3.sub, S4.erep fun j _ => no4 j, e5, fun H5 F5 g5 => ?_⟩
      have nD : ∀ {F' H' : Hp}, Grow F H F' H' → F' D = none := fun {F' H'} gg => by
        cases q : F' D with
        | none => rfl
        | some o =>
          rcases gg.new D o q with z | z
          · rw [nF] at z; cases z
          · rw [hH] at z; cases z
      dsimp only
      cases b with
      | true =>
        rw [if_pos rfl] at e ⊢
        obtain ⟨yv, e6, e⟩ := bind_get e
        obtain ⟨rest', e7, e8⟩ := map_get e
        refine ⟨F5, γ4, yv, g5.sub, (S4.erep fun j _ => no4 j).mono g5.ext, e6, fun v H6 F6 g6 q6 => ?_⟩
        have gg := g3.trans (g5.trans g6)
        have hD6 : H6 D = some (.lst acc) := gg.same _ _ hH
        have nF6 := nD gg
        refine ⟨hD6, ?_, xs.length - (i + 1), by omega, rfl, hlt, F6, ps ++ [yv], rest', ?_, nF6, upd_same, (rp.mono gg.ext).snoc q6, e7, ?_, ?_⟩
        · rw [rp.length]
          exact Nat.lt_of_lt_of_le (by omega) lim_line
        · have g16 := gr.trans gg
          refine ⟨g16.ext, fun a o q => ?_, fun a o q => ?_, g16.new⟩
          · rw [upd_ne (ne_of_none q nF6)]; exact g16.sub a o q
          · rw [upd_ne (ne_of_none q hD)]; exact g16.same a o q
        · rw [List.append_assoc, List.singleton_append, e8]; exact ey
        · rw [List.length_append, List.length_singleton]; omega
      | false =>
        rw [if_neg Bool.false_ne_true] at e ⊢
        have gg := g3.trans g5
        exact ⟨xs.length - (i + 1), by omega, rfl, hlt, F5, ps, rest, gr.trans gg, nD gg, gg.same _ _ hH, rp.mono gg.ext, e, ey, by omega⟩
  · have e' : i = xs.length := by omega
    subst e'
    rw [List.drop_length] at e
    cases e
    rw [List.append_nil] at ey
    subst ey
    exact .inl ⟨it.stop H (gr.ext.trans gr.sub), w D acc H F gr hD nF hH rp⟩
theorem eo_comp (hc : X.calm = true) (ck : CompOk X.N X.env.scope scope N' nt caps) (hts : ∀ i ∈ ts, i < nt) (hno : NoOw g) (hi : IM X ms tg iter mi)
    (hg : ∀ pins cl C s H fp, GM (blkCx X pins N' (relab X.env.scope scope) cl C s H fp) ts tg g)
    (ht : ∀ pins cl C s H fp, IfM (blkCx X pins N' (relab X.env.scope scope) cl C s H fp) ns ifs t)
    (he : ∀ pins cl C s H fp, EM (blkCx X pins N' (relab X.env.scope scope) cl C s H fp) ls elt m)
    (hs : ∀ x, foldedSetIterable iter X.env x = pure x := by intro _; rfl) (hrel : relabel scope X.env = relab X.env.scope scope := by rfl) :
    EO X (ms ++ caps) (.ListComp elt [⟨tg, iter, ifs, 0⟩] scope pos) (mComp mi nt caps g t m) :=
  PE.imp (pe_comp (g := tMG X.K ts g) (tc := tMT X.K ns t) (te := tM X.K ls m) hc ck hi hg ht he hs hrel) fun σ H Q ⟨F, γ, ys, h1, h2, h3, w⟩ => by
    obtain ⟨xs, e1, h3⟩ := bind_get h3
    have hl : xs.length ≤ LIM := by
      by_cases c : xs.length ≤ LIM
      · exact c
      · rw [if_neg c] at h3; cases h3
    rw [if_pos hl] at h3
    refine ⟨F, γ, xs, h1, h2.left, e1, fun J H1 F1 g1 it => ?_⟩
    exact compRd_of hts hno g1.sub (h2.right.mono g1.ext) it hl h3 fun D vs H2 F2 g2 n nF hH q => w D vs H2 F2 (g1.trans g2) (g1.same.free n) nF hH q
end

/-! ### a def -/
def startG (n : Nat) (ps : List PV) : PEnv := ps.map .fz ++ List.replicate (n - ps.length) .un
def outV : Out → Option PV
  | .nx _ => some .non
  | .rt p => some p
  | .ro xs => some (.lst xs)
  | _ => none
def outO : Out → Option (List PV)
  | .ro xs => some xs
  | _ => none
/-- N: how many names, n: how many parameters -/
def runV (N n : Nat) (m : MSt) (ps : List PV) : Option PV := if ps.length = n then (m (startG N ps)).bind outV else none
def runO (N n : Nat) (m : MSt) (ps : List PV) : Option (List PV) := if ps.length = n then (m (startG N ps)).bind outO else none
theorem runV_len {N n : Nat} {m : MSt} : ∀ ps r, runV N n m ps = some r → ps.length = n := fun ps r h => by
  unfold runV at h
  by_cases c : ps.length = n
  · exact c
  · rw [if_neg c] at h; cases h
theorem start_sr {K : PySem.W.Frag} {F H : Hp} {N : List Str} {ps : List PV} {vs : List V} (h : Same F H) (r : RepL K F ps vs) : SR K H F F (start N vs) H (startG N.length ps) := by
  have key : ∀ (i : Nat) (t : Slot), (startG N.length ps)[i]? = some t → t = .un ∨ ∃ p, ps[i]? = some p ∧ t = .fz p := fun i t e => by
    unfold startG at e
    by_cases hi : i < ps.length
    · rw [List.getElem?_append_left (by simpa using hi), List.getElem?_map] at e
      cases q : ps[i]? with
      | none => rw [q] at e; cases e
      | some p => rw [q] at e; exact .inr ⟨p, rfl, (Option.some.inj e).symm⟩
    · rw [List.getElem?_append_right (by simpa using hi), List.getElem?_replicate] at e
      split at e
      · exact .inl (Option.some.inj e).symm
      · cases e
  refine ⟨h, Same.refl _, Same.refl _, fun a o e => .inl e, ?_, fun i p e => ?_, fun i xs e => ?_, fun i j xs ys a _ e => ?_⟩
  · unfold start startG
    rw [List.length_append, List.length_append, List.length_map, List.length_map, List.length_replicate, List.length_replicate, r.length]
  · rcases key i _ e with z | ⟨p', e1, z⟩
    · cases z
    · cases z
      obtain ⟨v, h1, h2⟩ := r.get e1
      refine ⟨v, ?_, h2⟩
      unfold start
      have hi : i < vs.length := (List.getElem?_eq_some_iff.mp h1).1
      rw [List.getElem?_append_left (by simpa using hi), List.getElem?_map, h1]
      rfl
  · rcases key i _ e with z | ⟨p', e1, z⟩ <;> cases z
  · rcases key i _ e with z | ⟨p', e1, z⟩ <;> cases z
section
variable {P : Program} {w : World} {K : PySem.W.Frag} {mg : Str → Option Value} {base : Heap}
theorem fnM {x qual : Str} {st : Stmt} {f : Addr} {fd : FuncData} {N ps : List Str} {k n : Nat} {m : MSt} (Fn : Fun K x qual st f fd) (Sc : FnScope N ps (defScope st)) (hn : ps.length = n)
    (hbody : ∀ (cdv : Value) (A : Around) (outer : List Env) (s : Shared) (H : Hp) (E : XK), Room k (A.deeper (envOfC qual (defScope st) s.heap.objs.size f cdv)) →
      SMs (cxOf CX0 P w K mg base N qual (defScope st) f cdv A outer s H E).nox (defBody st) m) : FnOk P w K mg base CX0 (k + 1) f fd ps (spM K n (runV N.length n m)) := by
  refine Fn.ok Sc (fun vs H Q E h => by rw [h.1, hn]) fun cdv A outer s H vs Q E hr h => ?_
  refine ⟨_, hbody cdv A outer s H E hr, ?_⟩
  obtain ⟨hl, F, qs, r, h1, h2, h3, wv⟩ := h
  unfold runV at h3
  have hq : qs.length = n := by rw [← h2.length]; exact hl
  rw [if_pos hq] at h3
  obtain ⟨o, e1, e2⟩ := bind_get h3
  refine ⟨H, F, F, _, o, start_sr h1 h2, e1, ?_⟩
  cases o with
  | nx γ => cases e2; exact fun σ' H' F' S => wv .non H' F' S.gr rep_non
  | rt p => cases e2; exact fun v H' F' g q => wv v H' F' g q
  | ro xs => cases e2; exact fun a vs H' F' g n nF hH q => wv.of_lst a vs H' F' g n nF hH q
  | bk γ => cases e2
  | ct γ => cases e2
end
end L2.PM

set_option Elab.async false
set_option linter.all false
set_option maxRecDepth 100000
noncomputable section
namespace L2.PM
open PySem PySem.Spec PyProof.Rows

section
variable {X : Cx} {e a b c : Expr} {es : List Expr} {ms ns ls : List Nat} {m m1 m2 m3 : MEx} {pos p p2 p3 : Pos} {x : Str} {id T : String}

/-! ### isinstance -/
def tyName : PV → String
  | .non => "NoneType"
  | .bl _ => "bool"
  | .int _ => "int"
  | .str _ => "str"
  | .tup _ => "tuple"
  | .lst _ => "list"
  | .obj _ _ _ => "object"
  | .opq _ => "object"
def isO : PV → Bool
  | .obj _ _ _ => true
  | .opq _ => true
  | _ => false
def isInt : PV → Bool
  | .int _ => true
  | .bl _ => true
  | _ => false
def isBl : PV → Bool
  | .bl _ => true
  | _ => false
def isStr : PV → Bool
  | .str _ => true
  | _ => false
def isTup : PV → Bool
  | .tup _ => true
  | _ => false
def isLst : PV → Bool
  | .lst _ => true
  | _ => false
def Isi (T : String) (f : PV → Bool) : Prop := ∀ (p : PV) (K : PySem.W.Frag), isO p = false → PySem.W.kitOne K (.type (tyName p)) (.type T) = some (f p)
theorem isi_str : Isi "str" isStr := fun p K ho => by cases p <;> first | (cases ho; done) | kernel_rfl
theorem isi_tup : Isi "tuple" isTup := fun p K ho => by cases p <;> first | (cases ho; done) | kernel_rfl
theorem isinst_rep {pins : List (Addr × Obj)} {σ : St} {H F : Hp} {s : Shared} {A : Around} {E : Value → Shared → Prop} {Q : Value → Shared → Prop} {v : V} {u : Value} {q : PV} {f : PV → Bool} (I : Inv X pins σ H s) (hF : Same F H) (hi : Isi T f) (r : Rep X.K F q v) (rv : RelV v u)
    (ho : isO q = false) (h : ∀ tk, Q (.bool (f q)) { s with toks := tk }) : wpAny (model X.prog X.w) A (call (.builtin "isinstance") [u, .type T]) Q E s := by
  have e := hi q X.K ho
  cases q with
  | non => unfold Rep at r; subst r; cases rv; exact PySem.W.kia_one PySem.W.kitx_none I.kIn True.intro e (fun z => nomatch z) h
  | bl y => unfold Rep at r; subst r; cases rv; exact PySem.W.kia_one PySem.W.kitx_bool I.kIn True.intro e (fun z => nomatch z) h
  | int y => unfold Rep at r; subst r; obtain ⟨t, rfl⟩ := rv; exact PySem.W.kia_one PySem.W.kitx_int I.kIn True.intro e (fun z => nomatch z) h
  | str y => unfold Rep at r; subst r; obtain ⟨t, rfl⟩ := rv; exact PySem.W.kia_one PySem.W.kitx_str I.kIn True.intro e (fun z => nomatch z) h
  | tup ys =>
    unfold Rep at r
    obtain ⟨a, vs, rfl, k2, _⟩ := r
    cases rv
    obtain ⟨its, _, ⟨o, ho, hc, _⟩, _⟩ := I.tuple (hF.seqT k2)
    exact PySem.W.kia_one PySem.W.kitx_tuple I.kIn ⟨o, ho, hc⟩ e (fun z => nomatch z) h
  | lst ys =>
    unfold Rep at r
    obtain ⟨a, vs, rfl, k2, _⟩ := r
    cases rv
    obtain ⟨its, _, ⟨o, n, ho, hc, _⟩, _⟩ := I.list (hF.seq k2)
    exact PySem.W.kia_one PySem.W.kitx_list I.kIn ⟨o, ho, hc⟩ e (fun z => nomatch z) h
  | obj => cases ho
  | opq => cases ho
theorem call_isinst {f : PV → Bool} (hi : Isi T f) : CallR X (.builtin "isinstance") (fun vs H Q => ∃ F v q, vs = [v, .ty T] ∧ Same F H ∧ Rep X.K F q v ∧ isO q = false ∧ Q (.bl (f q)) H) := by
  intro pins s σ H vs us Q I rs h
  obtain ⟨F, v, q, rfl, h1, h2, ho, h3⟩ := h
  obtain ⟨u, w, rfl, ru, rw'⟩ := vals2 rs
  obtain rfl : w = Value.type T := rw'
  exact isinst_rep I h1 hi h2 ru ho fun tk => ⟨.bl (f q), H, I.tok tk, rfl, h3⟩
def isiK (f : PV → Bool) (q : PV) : Option PV := if isO q = false then some (.bl (f q)) else none
def mIsi (f : PV → Bool) (m : MEx) : MEx := fun γ => (m γ).bind (isiK f)
theorem em_isinst {f : PV → Bool} (hi : Isi T f) (h : EM X ms e m) (hg : Gl X "isinstance") (hm : X.mg "isinstance" = none) (hgT : Gl X x) (hmT : X.mg x = none) (hvT : bootBuiltins x = some (.type T))
    (hn : x ≠ "__name__" := by decide) (hdb : (x == ("__debug__" : Str)) = false := by decide)
    (hs1 : starEach (e :: [.Name x p3]) X.env = (false, eval e X.env) :: starEach [.Name x p3] X.env := by rfl) (hs2 : starEach [.Name x p3] X.env = (false, eval (.Name x p3) X.env) :: starEach [] X.env := by rfl) (hpl : (backTo pos (starEach [.Name x p3] X.env)).any (·.1) = false := by rfl) :
    EM X ms (.Call (.Name "isinstance" p2) [e, .Name x p3] [] pos) (mIsi f m) :=
  PE.imp (pe_callB (call_isinst hi) hg hm (by kernel_rfl) (pa_cons h (pa_cons (pe_bltn (v := .ty T) hgT hmT hvT rfl hn hdb) pa_nil hs2) hs1) (by decide) (by decide) hs1 hpl) fun σ H Q ⟨F, γ, r, k1, k2, k3, w⟩ => by
    obtain ⟨q, e1, e2⟩ := bind_get k3
    obtain ⟨ho, e2⟩ := ite_get (show (if isO q = false then some (PV.bl (f q)) else none) = some r from e2)
    subst e2
    exact ⟨F, γ, q, k1, k2, e1, fun v H1 F1 g1 q1 => ⟨F1, v, q, rfl, g1.sub, q1, ho, (w.go g1).here g1.sub (rep_bl _)⟩⟩

/-! ### len -/
def pLen : List PV → Option PV
  | [.lst xs] => some (.int xs.length)
  | [.tup xs] => some (.int xs.length)
  | [.str z] => if z.length ≤ LIM then some (.int z.length) else none
  | _ => none
theorem cm_len : CallM X (.builtin "len") pLen := by
  intro pins s σ H vs us Q I rs h
  obtain ⟨F, ps, r, h1, h2, h3, w⟩ := h
  refine call_len pins s σ H vs us Q I rs ?_
  unfold pLen at h3
  split at h3
  · cases h3
    unfold RepL at h2
    obtain ⟨v, t, rfl, h2, ht⟩ := h2
    unfold RepL at ht
    subst ht
    unfold Rep at h2
    obtain ⟨a, us, rfl, k2, k3⟩ := h2
    exact ⟨.ref a, _, rfl, .inl ⟨us, h1.seq k2, k3.length.symm⟩, w.here h1 (rep_int _)⟩
  · cases h3
    unfold RepL at h2
    obtain ⟨v, t, rfl, h2, ht⟩ := h2
    unfold RepL at ht
    subst ht
    unfold Rep at h2
    obtain ⟨a, us, rfl, k2, k3⟩ := h2
    exact ⟨.ref a, _, rfl, .inr ⟨us, h1.seqT k2, k3.length.symm⟩, w.here h1 (rep_int _)⟩
  · rename_i z
    obtain ⟨c, rfl⟩ := ite_get h3
    unfold RepL at h2
    obtain ⟨v, t, rfl, h2, ht⟩ := h2
    unfold RepL at ht
    subst ht
    unfold Rep at h2
    subst h2
    exact ⟨.str z, _, rfl, ⟨Nat.le_trans c lim_line, rfl⟩, w.here h1 (rep_int _)⟩
  · cases h3
/-! ### list(..), tuple(..) of a list or tuple -/
def pItems : List PV → Option (List PV)
  | [.lst xs] => some xs
  | [.tup xs] => some xs
  | _ => none
def pTuple : List PV → Option PV
  | [.lst xs] => some (.tup xs)
  | [.tup xs] => some (.tup xs)
  | _ => none
theorem cm_tuple : CallM X (.type "tuple") pTuple := by
  intro pins s σ H vs us Q I rs h
  obtain ⟨F, ps, r, h1, h2, h3, w⟩ := h
  refine call_tuple_of pins s σ H vs us Q I rs ?_
  unfold pTuple at h3
  split at h3
  · cases h3
    unfold RepL at h2
    obtain ⟨v, t, rfl, h2, ht⟩ := h2
    unfold RepL at ht
    subst ht
    unfold Rep at h2
    obtain ⟨a, us, rfl, k2, k3⟩ := h2
    refine ⟨a, us, rfl, .inl ⟨h1.seq k2, fun l hl => w _ _ _ (.laid h1 hl) ?_⟩⟩
    unfold Rep
    exact ⟨l, us, rfl, .of upd_same, k3.mono (Grow.laid h1 hl).ext⟩
  · cases h3
    unfold RepL at h2
    obtain ⟨v, t, rfl, h2, ht⟩ := h2
    unfold RepL at ht
    subst ht
    obtain ⟨a, us, rfl, k2, k3⟩ := (by unfold Rep at h2; exact h2 : ∃ a us, v = .ref a ∧ SqT X.K F a us ∧ RepL X.K F _ us)
    exact ⟨a, us, rfl, .inr ⟨h1.seqT k2, w.here h1 h2⟩⟩
  · cases h3
/-! ### min, max of two ints -/
def pMax : List PV → Option PV
  | [.int i, .int j] => some (.int (if j > i then j else i))
  | _ => none
def pMin : List PV → Option PV
  | [.int i, .int j] => some (.int (if j < i then j else i))
  | _ => none
end
end L2.PM

set_option Elab.async false
set_option linter.all false
set_option maxRecDepth 100000
noncomputable section
namespace L2.PM
open PySem PySem.Spec PyProof.Rows

def ints? : List PV → Option (List Int)
  | [] => some []
  | .int i :: xs => (ints? xs).map (i :: ·)
  | _ :: _ => none
def strs? : List PV → Option (List Str)
  | [] => some []
  | .str i :: xs => (strs? xs).map (i :: ·)
  | _ :: _ => none
theorem ints?_map (ns : List Int) : ints? (ns.map .int) = some ns := by
  induction ns with
  | nil => rfl
  | cons n ns ih => simp [ints?, ih]
theorem strs?_map (ns : List Str) : strs? (ns.map .str) = some ns := by
  induction ns with
  | nil => rfl
  | cons n ns ih => simp [strs?, ih]
theorem strs?_get : ∀ {xs : List PV} {ns : List Str}, strs? xs = some ns → xs = ns.map .str
  | [], ns, h => by cases h; rfl
  | x :: xs, ns, h => by
    cases x with
    | str i =>
      unfold strs? at h
      cases e : strs? xs with
      | none => rw [e] at h; cases h
      | some ms => rw [e] at h; cases h; rw [strs?_get e]; rfl
    | _ => cases h
theorem repL_ints' {K : PySem.W.Frag} {F : Hp} : ∀ (ns : List Int), RepL K F (ns.map .int) (ns.map V.int)
  | [] => .nil
  | n :: ns => .cons (rep_int n) (repL_ints' ns)
theorem repL_strs {K : PySem.W.Frag} {F : Hp} : ∀ {ns : List Str} {vs : List V}, RepL K F (ns.map .str) vs → vs = ns.map V.str
  | [], vs, h => by rw [List.map_nil] at h; unfold RepL at h; exact h
  | n :: ns, vs, h => by
    rw [List.map_cons] at h
    unfold RepL at h
    obtain ⟨v, r, rfl, h2, h3⟩ := h
    unfold Rep at h2
    rw [h2, repL_strs h3]
    rfl
theorem repL_strs' {K : PySem.W.Frag} {F : Hp} : ∀ (ns : List Str), RepL K F (ns.map .str) (ns.map V.str)
  | [] => .nil
  | n :: ns => .cons (rep_str n) (repL_strs' ns)
theorem strsAre_of : ∀ {ns : List Str} {us : List Value}, Vals (ns.map V.str) us → StrsAre us ns
  | [], us, r => by rw [List.map_nil] at r; cases r; exact .nil
  | n :: ns, us, r => by
    rw [List.map_cons] at r
    cases r with
    | cons r1 r2 =>
      obtain ⟨t, e⟩ := r1
      subst e
      exact .cons n t (strsAre_of r2)
section
variable {X : Cx} {e a b c : Expr} {es : List Expr} {ms ns ls : List Nat} {m m1 m2 m3 : MEx} {pos p p2 p3 : Pos} {x : Str} {id T : String}
/-! ### sum of ints -/
def pSum : List PV → Option PV
  | [.lst xs] => (ints? xs).map fun ns => .int ns.sum
  | _ => none
/-! ### sorted of fewer than 64 ints or texts -/
def isort (ns : List Int) : List Int := ns.mergeSort fun a b => decide (a ≤ b)
def sLe (a b : Str) : Bool := !decide (b.cps.toList < a.cps.toList)
def ssort (ns : List Str) : List Str := ns.mergeSort sLe
def pSort : List PV → Option (List PV)
  | [.lst xs] => match ints? xs with
    | some ns => if ns.length < 64 then some ((isort ns).map .int) else none
    | none => match strs? xs with
      | some ss => if ss.length < 64 then some ((ssort ss).map .str) else none
      | none => none
  | _ => none
/-! ### methods of texts and ints -/
def rMt (K : PySem.W.Frag) (g : PV → List PV → Option PV) : V → List V → Hp → VK → Prop := fun x vs H Q => ∃ F p ps r, Same F H ∧ Rep K F p x ∧ RepL K F ps vs ∧ g p ps = some r ∧ Wv K F H r Q
def rMtO (K : PySem.W.Frag) (g : PV → List PV → Option (List PV)) : V → List V → Hp → VK → Prop := fun x vs H Q => ∃ F p ps r, Same F H ∧ Rep K F p x ∧ RepL K F ps vs ∧ g p ps = some r ∧ Wo K F H r Q
def tyOk (T : String) : PV → Bool
  | .str _ => T == "str"
  | .int _ => T == "int"
  | .lst _ => T == "list"
  | _ => false
def mMt (T : String) (g : PV → List PV → Option α) (m : MEx) (ma : PEnv → Option (List PV)) : PEnv → Option α := fun γ => (m γ).bind fun p => if tyOk T p = true then (ma γ).bind fun ps => g p ps else none
theorem tyV_rep {K : PySem.W.Frag} {F H : Hp} {p : PV} {v : V} (h : Same F H) (r : Rep K F p v) (t : tyOk T p = true) : tyV K T v H := by
  cases p with
  | str z => unfold Rep at r; subst r; exact eq_of_beq t
  | int z => unfold Rep at r; subst r; exact eq_of_beq t
  | lst xs => unfold Rep at r; obtain ⟨a, vs, rfl, k2, _⟩ := r; exact .inl ⟨eq_of_beq t, vs, h.seq k2⟩
  | _ => cases t
variable {o : Expr} {ma : PEnv → Option (List PV)}
theorem em_mt {g : PV → List PV → Option PV} (h : EM X ms o m) (ha : AM X ns (e :: es) ma) {name : Str} {apos cpos : Pos}
    (hp : PE X (.Call (.Attribute o name apos) (e :: es) [] cpos) (tBM X.K T (rMt X.K g) (tM X.K ms m) (tMA X.K ns ma))) : EM X (ms ++ ns) (.Call (.Attribute o name apos) (e :: es) [] cpos) (mMt T g m ma) :=
  PE.imp hp fun σ H Q ⟨F, γ, r, k1, k2, k3, w⟩ => by
    obtain ⟨p, e1, k3⟩ := bind_get k3
    have c : tyOk T p = true := by
      by_cases c : tyOk T p = true
      · exact c
      · rw [if_neg c] at k3; cases k3
    rw [if_pos c] at k3
    obtain ⟨ps, e2, k3⟩ := bind_get k3
    refine ⟨F, γ, p, k1, k2.left, e1, fun v H1 F1 g1 q1 => ⟨tyV_rep g1.sub q1 c, F1, γ, ps, g1.sub, k2.right.mono g1.ext, e2, fun vs H2 F2 g2 q2 => ?_⟩⟩
    exact ⟨F2, p, ps, r, g2.sub, q1.mono g2.ext, q2, k3, w.go (g1.trans g2)⟩
theorem eo_mt {g : PV → List PV → Option (List PV)} (h : EM X ms o m) (ha : AM X ns (e :: es) ma) {name : Str} {apos cpos : Pos}
    (hp : PE X (.Call (.Attribute o name apos) (e :: es) [] cpos) (tBM X.K T (rMtO X.K g) (tM X.K ms m) (tMA X.K ns ma))) : EO X (ms ++ ns) (.Call (.Attribute o name apos) (e :: es) [] cpos) (mMt T g m ma) :=
  PE.imp hp fun σ H Q ⟨F, γ, r, k1, k2, k3, w⟩ => by
    obtain ⟨p, e1, k3⟩ := bind_get k3
    have c : tyOk T p = true := by
      by_cases c : tyOk T p = true
      · exact c
      · rw [if_neg c] at k3; cases k3
    rw [if_pos c] at k3
    obtain ⟨ps, e2, k3⟩ := bind_get k3
    refine ⟨F, γ, p, k1, k2.left, e1, fun v H1 F1 g1 q1 => ⟨tyV_rep g1.sub q1 c, F1, γ, ps, g1.sub, k2.right.mono g1.ext, e2, fun vs H2 F2 g2 q2 => ?_⟩⟩
    exact ⟨F2, p, ps, r, g2.sub, q1.mono g2.ext, q2, k3, w.go (g1.trans g2)⟩
def mMt0 (T : String) (g : PV → List PV → Option α) (m : MEx) : PEnv → Option α := fun γ => (m γ).bind fun p => if tyOk T p = true then g p [] else none
def pBits : PV → List PV → Option PV
  | .int i, [] => some (.int (Builtin.Int.intBits i))
  | _, _ => none
/-- sep.join(list of texts) -/
def pJoin : PV → List PV → Option PV
  | .str x, [.lst xs] => match strs? xs with
    | some ys => if (ys.map (·.length)).sum + ys.length * x.length ≤ LIM then some (.str (Txt.join x ys)) else none
    | none => none
  | _, _ => none
/-! ### slices of texts -/
def rSlS : V → Option Int → Option Int → Hp → VK → Prop := fun x lo hi H Q => ∃ z, x = .str z ∧ z.length ≤ sizeLine ∧ Q (.str (Txt.slice z lo hi)) H
theorem isSlice_of {h : Heap} {a : Addr} {vl vu : Value} {lo hi : Option Int} (hs : h.IsSliceOf a vl vu .none) (pl : IsPart vl lo) (pu : IsPart vu hi) : ∃ l u, h.IsSlice a l u none ∧ l.map (·.1) = lo ∧ u.map (·.1) = hi := by
  cases pl with
  | none =>
    cases pu with
    | none => exact ⟨none, none, hs, rfl, rfl⟩
    | int j t => exact ⟨none, some (j, t), hs, rfl, rfl⟩
  | int i t' =>
    cases pu with
    | none => exact ⟨some (i, t'), none, hs, rfl, rfl⟩
    | int j t => exact ⟨some (i, t'), some (j, t), hs, rfl, rfl⟩
theorem sl_str : SlR X rSlS := by
  intro pins s σ H x v vl vu lo hi sl Q I rx hs pl pu h
  obtain ⟨z, rfl, hz, q⟩ := h
  obtain ⟨t, rfl⟩ := rx
  obtain ⟨l, u, hsl, rfl, rfl⟩ := isSlice_of hs pl pu
  refine ⟨"str", _, PySem.F.slot_str_getitem.lookup, typeIs_str _ _ _, wpAny_getItem_str_slice (l := l) (u := u) (st := none) hsl rfl ?_⟩
  exact post_val_or_str ⟨Nat.le_trans (Txt.slice_le z _ _) hz, fun t' k => ⟨.str _, H, I.tok _, ⟨_, rfl⟩, q⟩⟩
def pCutS : PV → Option Int → Option Int → Option PV
  | .str z, lo, hi => if z.length ≤ LIM then some (.str (Txt.slice z lo hi)) else none
  | _, _, _ => none
variable {lo hi : Option Expr} {ml mh : PEnv → Option (Option Int)}
theorem em_cutS (he : EM X ms e m) (hl : OM X ns lo ml) (hh : OM X ls hi mh) : EM X (ms ++ (ns ++ ls)) (.Subscript e (.Slice lo hi none p2) pos) (sl3 pCutS m ml mh) := by
  refine PE.imp (pe_slice sl_str he hl hh) fun σ H Q ⟨F, γ, r, h1, h2, h3, w⟩ => ?_
  obtain ⟨x, e1, h3⟩ := bind_get h3
  obtain ⟨l, e2, h3⟩ := bind_get h3
  obtain ⟨h, e3, h3⟩ := bind_get h3
  refine ⟨F, γ, x, h1, h2.left, e1, fun vx H1 F1 g1 r1 => ⟨F1, γ, l, g1.sub, h2.right.left.mono g1.ext, e2, fun H2 F2 g2 => ⟨F2, γ, h, g2.sub, h2.right.right.mono (g1.ext.trans g2.ext), e3, fun H3 F3 g3 => ?_⟩⟩⟩
  have g := g1.trans (g2.trans g3)
  cases x with
  | str z =>
    have h3 : (if z.length ≤ LIM then some (PV.str (Txt.slice z l h)) else none) = some r := h3
    obtain ⟨c, rfl⟩ := ite_get h3
    unfold Rep at r1
    exact ⟨z, r1, Nat.le_trans c lim_line, (w.go g).here g.sub (rep_str _)⟩
  | _ => cases h3
end
end L2.PM

set_option Elab.async false
set_option linter.all false
set_option maxRecDepth 100000
noncomputable section
namespace L2.PM
open PySem PySem.Spec PyProof.Rows

section
variable {X : Cx} {e a b c : Expr} {es : List Expr} {ms ns ls : List Nat} {m m1 m2 m3 : MEx} {pos p p1 p2 p3 pos' : Pos} {x : Str} {id T : String}
/-! ### list(range(..)) -/
def oRng (m : MEx) : PEnv → Option (List PV) := fun γ => (m γ).bind fun q => match q with
  | .int j => if rOk j = true ∧ j.toNat ≤ LIM then some (rngL 0 j) else none
  | _ => none
end
end L2.PM

set_option Elab.async false
set_option linter.all false
set_option maxRecDepth 100000
noncomputable section
namespace L2.PM
open PySem PySem.Spec PyProof.Rows

/-! ### a comprehension's names, checked by reckoning -/
def compOkB (N : List Str) (osc scope : Scope) (N' : List Str) (nt : Nat) (caps : List Nat) : Bool :=
  (scope.kind == .function) && scope.names.all (fun x => x.2 != NameKind.cell) && scope.names.all (fun x => x.2 != NameKind.local || scope.names.lookup x.1 == some .local) &&
  scope.names.all (fun x => x.2 != NameKind.free || (osc.names.lookup x.1 == some .cell || osc.names.lookup x.1 == some .free)) && (N'.length == nt + caps.length) &&
  (caps.zip (N'.drop nt)).all (fun p => N[p.1]? == some p.2 && scope.names.lookup p.2 == some NameKind.free)
theorem compOk_of {N : List Str} {osc scope : Scope} {N' : List Str} {nt : Nat} {caps : List Nat} (h : compOkB N osc scope N' nt caps = true) : CompOk N osc scope N' nt caps := by
  unfold compOkB at h
  simp only [Bool.and_eq_true, List.all_eq_true, Bool.or_eq_true, bne_iff_ne, beq_iff_eq, ne_eq] at h
  obtain ⟨⟨⟨⟨⟨h1, h2⟩, h3⟩, h4⟩, h5⟩, h6⟩ := h
  refine ⟨h1, h2, fun x hx e => ?_, fun x hx e => ?_, h5, h6⟩
  · rcases h3 x hx with z | z
    · exact absurd e z
    · exact z
  · rcases h4 x hx with z | z
    · exact absurd e z
    · exact z
theorem ck_of {X : Cx} {N : List Str} {osc scope : Scope} {N' : List Str} {nt : Nat} {caps : List Nat} (h1 : X.N = N) (h2 : X.env.scope = osc) (h : compOkB N osc scope N' nt caps = true) : CompOk X.N X.env.scope scope N' nt caps := by
  rw [h1, h2]; exact compOk_of h
/-! ### a def as one calls it -/
def Cal (P : Program) (w : World) (K : PySem.W.Frag) (mg : Str → Option Value) (base : Heap) (k : Nat) (x : Str) (n : Nat) (g : List PV → Option PV) : Prop :=
  ∃ f fd ps, FnOk P w K mg base CX0 k f fd ps (spM K n g) ∧ mg x = some (.ref f) ∧ PySem.W.keepIn K (.ref f) = true ∧ Binds K fd ps []
def CalO (P : Program) (w : World) (K : PySem.W.Frag) (mg : Str → Option Value) (base : Heap) (k : Nat) (x : Str) (n : Nat) (g : List PV → Option (List PV)) : Prop :=
  ∃ f fd ps, FnOk P w K mg base CX0 k f fd ps (spO K n g) ∧ mg x = some (.ref f) ∧ PySem.W.keepIn K (.ref f) = true ∧ Binds K fd ps []
section
variable {X : Cx} {e : Expr} {es : List Expr} {ms : List Nat} {ma : PEnv → Option (List PV)} {x : Str} {p pos : Pos} {k j n : Nat}
theorem em_cal {g : List PV → Option PV} (c : Cal X.prog X.w X.K X.mg X.base k x n g) (hn : ∀ ps r, g ps = some r → ps.length = n) (hr : Room k X.A) (hg : Gl X x)
    (ha : AM X ms (e :: es) ma) (hdb : (x == ("__debug__" : Str)) = false := by decide) (he : starEach (e :: es) X.env = (false, eval e X.env) :: starEach es X.env := by rfl) (hpl : (backTo pos (starEach es X.env)).any (·.1) = false := by rfl) :
    EM X ms (.Call (.Name x p) (e :: es) [] pos) (mCall g ma) := by
  obtain ⟨f, fd, ps, F, hm, hk, hb⟩ := c
  exact em_call F hn hr hg hm hk hb ha hdb he hpl
theorem am_cons' {m : MEx} (h : EM X ms e m) (hs : starEach [e] X.env = (false, eval e X.env) :: starEach [] X.env := by rfl) : PA X [e] (tMA X.K ms (aCons m aNil)) := by
  have z := am_cons h am_nil hs
  unfold AM at z
  rw [List.append_nil] at z
  exact z
/-- the law: a list of ints in, True out -/
theorem law_sp {K : PySem.W.Frag} {H : Hp} {a : Addr} {ns : List Int} {g : List PV → Option PV} {E : XK} (h : ∀ ns : List Int, ns.length ≤ 63 → g [.lst (ns.map .int)] = some (.bl true)) (hl : ns.length ≤ 63) (hS : SqL K H a (ns.map V.int)) :
    spM K 1 g [.ref a] H (fun v _ => v = .bl true) E := by
  refine ⟨rfl, H, [.lst (ns.map .int)], .bl true, Same.refl _, .cons ?_ .nil, h ns hl, fun v H' F' _ r => ?_⟩
  · unfold Rep
    exact ⟨a, ns.map V.int, rfl, hS, repL_ints' ns⟩
  · unfold Rep at r
    exact r
end
end L2.PM

set_option Elab.async false
set_option linter.all false
set_option maxRecDepth 100000
noncomputable section
namespace L2.PM
open PySem PySem.Spec PyProof.Rows
/-! ### enumerate, reversed, sorted(set(..)), len(set(..)): the pure functions -/
/-- whole numbers from 0 on -/
def pN (n : Nat) : PV := .int (n : Int)
def mN (n : Nat) : MEx := mC (pN n)
def pEnumL : List PV → Option (List PV)
  | [.lst xs] => some (xs.zipIdx.map fun x => .tup [pN x.2, x.1])
  | _ => none
def pEnumT : List PV → Option (List PV)
  | [.tup xs] => some (xs.zipIdx.map fun x => .tup [pN x.2, x.1])
  | _ => none
def iSeq (m : MEx) : PEnv → Option (List PV) := fun γ => (m γ).bind fun p => match p with
  | .lst xs => some xs
  | .tup xs => some xs
  | _ => none
def pRev : List PV → Option (List PV)
  | [.lst xs] => some xs.reverse
  | _ => none
def pRevT : List PV → Option PV
  | [.lst xs] => some (.tup xs.reverse)
  | _ => none
/-- each once, by its first place -/
def once {α : Type} [BEq α] : List α → List α
  | [] => []
  | x :: xs => x :: (once xs).filter fun y => !(y == x)
def pSortSet : List PV → Option (List PV)
  | [.lst xs] => match ints? xs with
    | some ns => if ns.length < 1000 ∧ (once ns).length < 64 then some ((isort (once ns)).map .int) else none
    | none => none
  | _ => none
def pLenSet : List PV → Option PV
  | [.lst xs] => match ints? xs with
    | some ns => if ns.length < 1000 then some (.int (once ns).length) else none
    | none => none
  | _ => none
end L2.PM

set_option Elab.async false
set_option linter.all false
set_option maxRecDepth 100000
noncomputable section
namespace L2.PM
open PySem PySem.Spec PyProof.Rows
/-! ### the places of a set's table rise -/
def Up (xs : Array Nat) : Prop := xs.toList.Pairwise (· < ·)
theorem Up.get {xs : Array Nat} (h : Up xs) {i k : Nat} {x y : Nat} (hik : i < k) (hx : xs[i]? = some x) (hy : xs[k]? = some y) : x < y := by
  unfold Up at h
  rw [List.pairwise_iff_getElem] at h
  obtain ⟨hi, rfl⟩ := Array.getElem?_eq_some_iff.mp hx
  obtain ⟨hk, rfl⟩ := Array.getElem?_eq_some_iff.mp hy
  have := h i k (by simpa using hi) (by simpa using hk) hik
  simpa using this
theorem below_go {xs : Array Nat} {j : Nat} (up : Up xs) : ∀ (fuel lo hi : Nat), hi - lo ≤ fuel → lo ≤ hi → hi ≤ xs.size → (∀ i x, i < lo → xs[i]? = some x → x < j) → (∀ i x, hi ≤ i → xs[i]? = some x → j ≤ x) →
    SetTable.below.go xs j fuel lo hi ≤ xs.size ∧ (∀ i x, i < SetTable.below.go xs j fuel lo hi → xs[i]? = some x → x < j) ∧ (∀ i x, SetTable.below.go xs j fuel lo hi ≤ i → xs[i]? = some x → j ≤ x)
  | 0, lo, hi, hf, hl, hh, h1, h2 => by
    have : lo = hi := by omega
    subst this
    exact ⟨hh, h1, h2⟩
  | fuel + 1, lo, hi, hf, hl, hh, h1, h2 => by
    unfold SetTable.below.go
    by_cases hlt : lo < hi
    · rw [if_pos hlt]
      dsimp only
      have hm : (lo + hi) / 2 < xs.size := by omega
      have hg : xs[(lo + hi) / 2]? = some xs[(lo + hi) / 2] := Array.getElem?_eq_getElem hm
      have hd : xs.getD ((lo + hi) / 2) j = xs[(lo + hi) / 2] := by simp [Array.getD, hm]
      by_cases hc : xs.getD ((lo + hi) / 2) j < j
      · rw [if_pos hc]
        refine below_go up fuel _ hi (by omega) (by omega) hh (fun i x hi' hx => ?_) h2
        rcases Nat.lt_or_ge i ((lo + hi) / 2) with z | z
        · have := up.get z hx hg
          omega
        · have : i = (lo + hi) / 2 := by omega
          subst this
          rw [hg] at hx
          cases hx
          omega
      · rw [if_neg hc]
        refine below_go up fuel lo _ (by omega) (by omega) (by omega) h1 fun i x hi' hx => ?_
        rcases Nat.lt_or_ge ((lo + hi) / 2) i with z | z
        · have := up.get z hg hx
          omega
        · have : i = (lo + hi) / 2 := by omega
          subst this
          rw [hg] at hx
          cases hx
          omega
    · rw [if_neg hlt]
      have : lo = hi := by omega
      subst this
      exact ⟨hh, h1, h2⟩
theorem below_spec {xs : Array Nat} (up : Up xs) (j : Nat) : SetTable.below xs j ≤ xs.size ∧ (∀ i x, i < SetTable.below xs j → xs[i]? = some x → x < j) ∧ (∀ i x, SetTable.below xs j ≤ i → xs[i]? = some x → j ≤ x) :=
  below_go up xs.size 0 xs.size (by omega) (by omega) (Nat.le_refl _) (fun i x h _ => by omega) (fun i x h e => by
    have := (Array.getElem?_eq_some_iff.mp e).1
    omega)
theorem below_at {xs : Array Nat} (up : Up xs) {i j : Nat} (h : xs[i]? = some j) : SetTable.below xs j = i := by
  obtain ⟨h1, h2, h3⟩ := below_spec up j
  rcases Nat.lt_trichotomy (SetTable.below xs j) i with z | z | z
  · have hi := (Array.getElem?_eq_some_iff.mp h).1
    have hg : xs[SetTable.below xs j]? = some xs[SetTable.below xs j] := Array.getElem?_eq_getElem (by omega)
    have a := h3 _ _ (Nat.le_refl _) hg
    have b := up.get z hg h
    omega
  · exact z
  · have := h2 i j z h
    omega
theorem insertAt_list {α : Type} (xs : Array α) (p : Nat) (x : α) : (SetTable.insertAt xs p x).toList = xs.toList.take p ++ x :: xs.toList.drop p := by
  unfold SetTable.insertAt
  simp [Array.toList_extract, List.extract_eq_take_drop]
  exact List.take_of_length_le (by simp)
theorem up_insert {xs : Array Nat} (up : Up xs) {j : Nat} (hn : j ∉ xs.toList) : Up (SetTable.insertAt xs (SetTable.below xs j) j) := by
  obtain ⟨h1, h2, h3⟩ := below_spec up j
  unfold Up
  rw [insertAt_list, List.pairwise_append, List.pairwise_cons]
  have lo : ∀ y ∈ xs.toList.take (SetTable.below xs j), y < j := fun y hy => by
    obtain ⟨i, hi, rfl⟩ := List.mem_take_iff_getElem.mp hy
    exact h2 i _ (by omega) (by
      rw [Array.getElem?_eq_some_iff]
      exact ⟨by simp at hi; omega, by simp⟩)
  have hi : ∀ y ∈ xs.toList.drop (SetTable.below xs j), j < y := fun y hy => by
    have hm : y ∈ xs.toList := List.mem_of_mem_drop hy
    obtain ⟨i, hi, rfl⟩ := List.mem_drop_iff_getElem.mp hy
    have := h3 (SetTable.below xs j + i) _ (by omega) (by
      rw [Array.getElem?_eq_some_iff]
      exact ⟨by simp at hi; omega, rfl⟩)
    have ne : j ≠ xs.toList[SetTable.below xs j + i] := fun e => hn (by rw [e]; exact hm)
    simp at ne
    simp
    omega
  refine ⟨List.Pairwise.sublist (List.take_sublist _ _) up, ⟨fun y hy => hi y hy, List.Pairwise.sublist (List.drop_sublist _ _) up⟩, fun a ha b hb => ?_⟩
  rcases List.mem_cons.mp hb with e | e
  · rw [e]; exact lo a ha
  · exact Nat.lt_trans (lo a ha) (hi b e)
theorem slot_out {t : SetTable} (up : Up t.place) {j : Nat} (h : ∀ i, t.slot j ≠ .live i) : j ∉ t.place.toList := by
  intro hm
  obtain ⟨i, hi, e⟩ := List.mem_iff_getElem.mp hm
  have hg : t.place[i]? = some j := by
    rw [Array.getElem?_eq_some_iff]
    exact ⟨by simpa using hi, by simpa using e⟩
  have hb := below_at up hg
  refine h i ?_
  unfold SetTable.slot
  dsimp only
  rw [hb, hg, if_pos (by simp)]
theorem probe_go {t : SetTable} {ha : Nat → Int} {h : Int} : ∀ (fuel : Nat) (p : SetTable.Probe) (j : Nat) (d : Option Nat), (∀ q, p.dummy = some q → t.slot q = .dummy) → SetTable.probe.go t ha h fuel p = some (.empty j d) → t.slot j = .empty ∧ ∀ q, d = some q → t.slot q = .dummy
  | 0, p, j, d, _, e => by cases e
  | fuel + 1, p, j, d, hp, e => by
    unfold SetTable.probe.go at e
    split at e
    · rename_i hs
      cases e
      exact ⟨hs, hp⟩
    · rename_i hs
      refine probe_go fuel _ j d (fun q hq => ?_) e
      have hq : (t.advance { p with dummy := some p.j }).dummy = some q := hq
      have hd : (t.advance { p with dummy := some p.j }).dummy = some p.j := by
        unfold SetTable.advance
        split <;> rfl
      rw [hd] at hq
      cases hq
      exact hs
    · split at e
      · cases e
      · refine probe_go fuel _ j d (fun q hq => hp q ?_) e
        have hd : (t.advance p).dummy = p.dummy := by
          unfold SetTable.advance
          split <;> rfl
        rw [hd] at hq
        exact hq
theorem freeSlot_out {t : SetTable} (up : Up t.place) {h : Int} {j : Nat} {b : Bool} (e : t.freeSlot h = some (j, b)) : j ∉ t.place.toList := by
  unfold SetTable.freeSlot at e
  split at e
  · rename_i i d hq
    obtain ⟨h1, h2⟩ := probe_go _ _ _ _ (fun q hq => by cases hq) hq
    cases e
    cases d with
    | none =>
      refine slot_out up fun k z => ?_
      have h1 : t.slot i = .empty := h1
      rw [show ((none : Option Nat).getD i) = i from rfl, h1] at z
      cases z
    | some q =>
      refine slot_out up fun k z => ?_
      have h2 := h2 q rfl
      rw [show ((some q).getD i) = q from rfl, h2] at z
      cases z
  · cases e
theorem up_range (n : Nat) : Up (Array.range n) := by
  unfold Up
  rw [Array.toList_range]
  exact List.pairwise_lt_range
theorem up_filterMap {α : Type} (f : Nat → Option α) (n : Nat) : (((List.range n).filterMap fun j => (f j).map (j, ·)).map (·.1)).Pairwise (· < ·) := by
  have key : ∀ l : List Nat, l.Pairwise (· < ·) → (((l.filterMap fun j => (f j).map (j, ·)).map (·.1)).Pairwise (· < ·)) ∧ ∀ x ∈ ((l.filterMap fun j => (f j).map (j, ·)).map (·.1)), x ∈ l := by
    intro l
    induction l with
    | nil => intro _; exact ⟨by simp, by simp⟩
    | cons y l ih =>
      intro hp
      rw [List.pairwise_cons] at hp
      obtain ⟨i1, i2⟩ := ih hp.2
      cases hf : f y with
      | none =>
        rw [List.filterMap_cons_none (by rw [hf]; rfl)]
        exact ⟨i1, fun x hx => List.mem_cons_of_mem _ (i2 x hx)⟩
      | some z =>
        rw [List.filterMap_cons_some (b := (y, z)) (by rw [hf]; rfl), List.map_cons]
        refine ⟨List.pairwise_cons.mpr ⟨fun x hx => hp.1 x (i2 x hx), i1⟩, fun x hx => ?_⟩
        rcases List.mem_cons.mp hx with e | e
        · rw [e]; exact List.mem_cons_self
        · exact List.mem_cons_of_mem _ (i2 x e)
  exact (key _ List.pairwise_lt_range).1
/-- what is kept of a table -/
def Kept (L : Bool) (t : SetTable) : Prop := t.led = L ∧ Up t.place
theorem kept_standIn {L : Bool} {t : SetTable} (k : Kept L t) (n : Nat) : Kept L (t.standIn n) := ⟨k.1, up_range n⟩
theorem kept_plain {L : Bool} {t : SetTable} (k : Kept L t) (b : Bool) : Kept L { t with plain := b } := k
theorem kept_layNew {L : Bool} {t : SetTable} (k : Kept L t) (es : Array (Int × Value)) (h : Int) (x : Value) : Kept L (layNew t es h x).2.1 := by
  unfold layNew
  split
  · rename_i j b e
    dsimp only
    unfold SetTable.orStandIn
    have k2 : Kept L (t.put j).1 := ⟨k.1, up_insert k.2 (freeSlot_out k.2 e)⟩
    split
    · exact k2
    · exact kept_standIn k2 _
  · exact kept_standIn k _
theorem kept_relay {L : Bool} {t : SetTable} (k : Kept L t) (es : Array (Int × Value)) (n : Nat) : Kept L (relayAll t es n).2.1 := by
  unfold relayAll
  split
  · rename_i t' order e
    dsimp only
    split
    · unfold SetTable.relaid SetTable.laid at e
      cases hl : SetTable.layClean (SetTable.sizeAbove n - 1) (es.map (·.1)) with
      | none => rw [hl] at e; cases e
      | some owner =>
        rw [hl] at e
        cases e
        refine ⟨k.1, ?_⟩
        unfold Up
        rw [List.toList_toArray]
        exact up_filterMap (fun j => owner.getD j none) _
    · exact kept_standIn k _
  · exact kept_standIn k _
end L2.PM

set_option Elab.async false
set_option linter.all false
set_option maxRecDepth 100000
noncomputable section
namespace L2.PM
open PySem PySem.Spec PyProof.Rows
section
variable {prog : Program} {w : World} {A : Around} {E : Value → Shared → Prop} {s : Shared}
/-- a set of ints with all that a walk over it asks -/
def SetL (prog : Program) (w : World) (L : Bool) (h : Heap) (a : Addr) (M : List Int) : Prop :=
  ∃ o es ep t, h.get? a = some o ∧ o.ExactSet ∧ o.data = .set es ep t ∧ ElemsOf (intKind prog w) es.toList ∧ (∀ k, k ∈ M ↔ ∃ e ∈ es.toList, (intKind prog w).is k e.2 = true) ∧
    es.size < scanBound ∧ t.fits es.size = true ∧ es.size = M.length ∧ M.Nodup ∧ Kept L t
theorem SetL.at {L : Bool} {h h' : Heap} {a : Addr} {M : List Int} (x : SetL prog w L h a M) (e : ∀ o, h.get? a = some o → h'.get? a = some o) : SetL prog w L h' a M := by
  obtain ⟨o, es, ep, t, ho, r⟩ := x
  exact ⟨o, es, ep, t, e o ho, r⟩
/-- one more -/
def more (M : List Int) (k : Int) : List Int := if k ∈ M then M else M ++ [k]
end
end L2.PM

set_option Elab.async false
set_option linter.all false
set_option maxRecDepth 100000
noncomputable section
namespace L2.PM
open PySem PySem.Spec PyProof.Rows
/-- is the order of sets told by the world's text? -/
def byT (w : World) : Bool := w.params.followText "set-order"
def seen (val : Nat → Int) (i : Nat) : List Int := ((List.range i).map val).foldl more []
section
variable {prog : Program} {w : World} {A : Around} {E : Value → Shared → Prop} {s : Shared}
theorem setNew (v : Value) {Q₁ : Value → Shared → Prop} (fin : Q₁ (.ref s.heap.objs.size) { s with heap := s.heap.push { cls := .type "set", dict := none, data := .set #[] 0 (.fresh 0 0 (!byT w)) } }) :
    codeAny (model prog w) A (.call (.builtin "set.__new__") ⟨[.type "set", v], []⟩) (wants Q₁ E) s := by
  refine codeAny_of_tree ?_
  show wpAny _ A.in1 (do checkBuiltinCall "set.__new__" ⟨[.type "set", v], []⟩; again (.builtin "set.__new__" ⟨[.type "set", v], []⟩)) _ _ s
  refine wpAny_bind (wpAny_of_eq (PySem.F.newCall_set_1 v) (wpAny_pure ⟨plainId_quiet PySem.F.plain_set_new _, codeAny_builtin PySem.F.entry_set_new ?_⟩))
  rw [Around.under_plainId PySem.F.plain_set_new _]
  unfold Builtin.«set.__new__» Builtin.Frozenset.newClass
  have sub := sub_set_self
  obtain ⟨hp, g, d, tk, os⟩ := s
  dsimp only
  wp_walk
  refine wpAny_askSetting (wpAny_pure ?_)
  dsimp only
  simp only [newObj]
  refine wpAny_bind (wpAny_alloc (wpAny_pure ?_))
  exact wpAny_pure fin
end
end L2.PM

set_option Elab.async false
set_option linter.all false
set_option maxRecDepth 100000
noncomputable section
namespace L2.PM
open PySem PySem.Spec PyProof.Rows
section
variable {prog : Program} {w : World} {A : Around} {E : Value → Shared → Prop} {s : Shared}
end
end L2.PM

set_option Elab.async false
set_option linter.all false
set_option maxRecDepth 100000
noncomputable section
namespace L2.PM
open PySem PySem.Spec PyProof.Rows
namespace SF
end SF
/-! ### orders -/
section
variable {prog : Program} {w : World} {A : Around} {E : Value → Shared → Prop} {s : Shared}
end
end L2.PM

set_option Elab.async false
set_option linter.all false
set_option maxRecDepth 100000
noncomputable section
namespace L2.PM
open PySem PySem.Spec PyProof.Rows
def SIt (h : Heap) (I D : Addr) (first : Value) (i n ep : Nat) : Prop := ∃ o, h.get? I = some o ∧ o.cls = .type "set_iterator" ∧ o.data = .fields #[first, rawInt i, .ref D, rawInt n, rawInt ep]
def SetC (h : Heap) (D : Addr) (es : Array (Int × Value)) (ep : Nat) (t : SetTable) : Prop := ∃ o, h.get? D = some o ∧ o.ExactSet ∧ o.data = .set es ep t ∧ t.fits es.size = true
section
variable {prog : Program} {w : World} {A : Around} {E : Value → Shared → Prop} {s : Shared} {I D : Addr} {es : Array (Int × Value)} {ep : Nat} {t : SetTable} {i : Nat}
theorem SIt.typeIs {first : Value} {n : Nat} (x : SIt s.heap I D first i n ep) : s.TypeIs (.ref I) "set_iterator" := let ⟨o, ho, hc, _⟩ := x; ⟨o, ho, hc⟩
theorem SIt.at {h h' : Heap} {first : Value} {n : Nat} (x : SIt h I D first i n ep) (e : ∀ o, h.get? I = some o → h'.get? I = some o) : SIt h' I D first i n ep := let ⟨o, ho, r⟩ := x; ⟨o, e _ ho, r⟩
theorem SetC.at {h h' : Heap} (x : SetC h D es ep t) (e : ∀ o, h.get? D = some o → h'.get? D = some o) : SetC h' D es ep t := let ⟨o, ho, r⟩ := x; ⟨o, e _ ho, r⟩
/-! ### the drawn order -/
/-! ### what setNext gives -/
def drawnB (es : Array (Int × Value)) (t : SetTable) : Bool := !t.plain && decide (es.size > 1)
end
end L2.PM

set_option Elab.async false
set_option linter.all false
set_option maxRecDepth 100000
noncomputable section
namespace L2.PM
open PySem PySem.Spec PyProof.Rows
namespace SF
end SF
section
variable {prog : Program} {w : World} {A : Around} {E : Value → Shared → Prop} {s : Shared} {I D : Addr} {es : Array (Int × Value)} {ep : Nat} {t : SetTable}
/-- the i-th place a plain walk looks from -/
def cur (place : Array Nat) : Nat → Nat
  | 0 => 0
  | i + 1 => (place[i]?).getD 0 + 1
end
end L2.PM

set_option Elab.async false
set_option linter.all false
set_option maxRecDepth 100000
noncomputable section
namespace L2.PM
open PySem PySem.Spec PyProof.Rows
section
variable {prog : Program} {w : World} {A : Around} {E : Value → Shared → Prop} {s : Shared} {D : Addr} {es : Array (Int × Value)} {ep : Nat} {t : SetTable}
theorem SetC.typeIs (x : SetC s.heap D es ep t) : s.TypeIs (.ref D) "set" := let ⟨o, ho, hex, _⟩ := x; ⟨o, ho, hex.1⟩
end
end L2.PM

set_option Elab.async false
set_option linter.all false
set_option maxRecDepth 100000
noncomputable section
namespace L2.PM
open PySem PySem.Spec PyProof.Rows
section
variable {prog : Program} {w : World} {A : Around} {E : Value → Shared → Prop} {s : Shared} {D : Addr} {es : Array (Int × Value)} {ep : Nat} {t : SetTable}
/-! ### sorted of a set of ints -/
end
end L2.PM

set_option Elab.async false
set_option linter.all false
set_option maxRecDepth 100000
noncomputable section
namespace L2.PM
open PySem PySem.Spec PyProof.Rows
/-! ### set(..) of ints, sorted, counted -/
section
variable {X : Cx} {e a b c : Expr} {es : List Expr} {ms ns ls : List Nat} {m m1 m2 m3 : MEx} {ma : PEnv → Option (List PV)} {pos p p1 p2 p3 pos' : Pos} {x : Str} {id T : String}
theorem _root_.L2.Inv.drawn {pins : List (Addr × Obj)} {σ : St} {H : Hp} {s : Shared} (I : Inv X pins σ H s) (d : Drawn) : Inv X pins σ H { s with drawn := d } := ⟨I.ok, I.os, I.bare, I.base, I.loc, I.cell, I.free, I.freeC, I.pin, I.hok, I.len⟩
def setAt (X : Cx) (p : Addr) (M : List Int) : HO := .ext fun h => SetL X.prog X.w (!byT X.w) h p M
end
end L2.PM

set_option Elab.async false
set_option linter.all false
set_option maxRecDepth 100000
noncomputable section
namespace L2.PM
open PySem PySem.Spec PyProof.Rows
open PySem.AutoSeq1 (wpAny_loadPart')
section
variable {prog : Program} {w : World} {A : Around} {E : Value → Shared → Prop} {s : Shared}
/-! ### nextOf over a tuple's iterator -/
/-! ### enumerate(t) -/
end
end L2.PM

set_option Elab.async false
set_option linter.all false
set_option maxRecDepth 100000
noncomputable section
namespace L2.PM
open PySem PySem.Spec PyProof.Rows
section
variable {X : Cx} {pins : List (Addr × Obj)} {σ : St} {H : Hp} {s : Shared} {h' : Heap}
end
/-- (i, x) for the tuple at a -/
def Ite (sq : Hp → List V → Prop) : It :=
  ⟨fun i H => ∃ xs x, sq H xs ∧ xs[i]? = some x, fun i H v H' => ∃ T x, v = .ref T ∧ H T = none ∧ H' = upd H T (.tup [.int i, x]) ∧ ∀ xs, sq H xs → xs[i]? = some x, fun i H => ∃ xs, sq H xs ∧ xs.length ≤ i⟩
end L2.PM

set_option Elab.async false
set_option linter.all false
set_option maxRecDepth 100000
noncomputable section
namespace L2.PM
open PySem PySem.Spec PyProof.Rows
section
variable {X : Cx} {e a b c : Expr} {es : List Expr} {ms ns ls : List Nat} {m m1 m2 m3 : MEx} {ma : PEnv → Option (List PV)} {pos p p1 p2 p3 pos' : Pos} {x : Str} {id T : String} {tg : Expr}
theorem im_seq (h : EM X ms e m) : IM X ms tg e (iSeq m) := by
  intro pins s σ H R I q
  obtain ⟨F, γ, xs, h1, h2, h3, w⟩ := q
  obtain ⟨p, e1, e2⟩ := bind_get h3
  cases p with
  | lst ys =>
    cases e2
    exact im_lst h pins s σ H R I ⟨F, γ, _, h1, h2, by unfold iLst; rw [e1]; rfl, w⟩
  | tup ys =>
    cases e2
    exact im_tup h pins s σ H R I ⟨F, γ, _, h1, h2, by unfold iTpl; rw [e1]; rfl, w⟩
  | _ => cases e2
end
end L2.PM

set_option Elab.async false
set_option linter.all false
set_option maxRecDepth 100000
noncomputable section
namespace L2.PM
open PySem PySem.Spec PyProof.Rows
namespace SF
end SF
section
variable {prog : Program} {w : World} {A : Around} {E : Value → Shared → Prop} {s : Shared}
end
section
variable {X : Cx} {e a b c : Expr} {es : List Expr} {ms ns ls : List Nat} {m m1 m2 m3 : MEx} {ma : PEnv → Option (List PV)} {pos p p1 p2 p3 pos' : Pos} {x : Str} {id T : String} {tg : Expr}
/-- an iterator of ours that walks the list at l from its end -/
def revAt (X : Cx) (I l : Addr) (n : Nat) : HO := .ext fun h => (I ∈ X.ex ∨ X.s₀.heap.objs.size ≤ I) ∧ h.IsRevIter I l ((n : Int) - 1)
end
end L2.PM

set_option Elab.async false
set_option linter.all false
set_option maxRecDepth 100000
noncomputable section
namespace L2.PM
open PySem PySem.Spec PyProof.Rows
open PySem.AutoSeq1 (wpAny_loadPart')
section
variable {prog : Program} {w : World} {A : Around} {E : Value → Shared → Prop} {s : Shared}
end
section
variable {X : Cx} {e a b c : Expr} {es : List Expr} {ms ns ls : List Nat} {m m1 m2 m3 : MEx} {ma : PEnv → Option (List PV)} {pos p p1 p2 p3 pos' : Pos} {x : Str} {id T : String} {tg : Expr}
/-! ### for x in reversed(..) -/
def Itv (K : PySem.W.Frag) (l : Addr) (n : Nat) : It :=
  ⟨fun i H => ∃ xs x, SqL K H l xs ∧ xs.length = n ∧ xs.reverse[i]? = some x, fun i H x H' => H' = H ∧ ∀ xs, SqL K H l xs → xs.length = n → xs.reverse[i]? = some x, fun i H => ∃ xs, SqL K H l xs ∧ xs.length = n ∧ i = n⟩
end
end L2.PM

set_option Elab.async false
set_option linter.all false
noncomputable section
namespace L2.PM
open PySem
def pRevTp : List PV → Option (List PV)
  | [.tup xs] => some xs.reverse
  | _ => none
/-- xs.extend(a tuple), xs one's own -/
def extK (ms : List Nat) (i : Nat) (γ : PEnv) : PV → Option Slot → Option Out
  | .tup ys, some (.ow xs) => if xs.length + ys.length < LIM ∧ (!ms.contains i) = true then some (.nx ((keepE (flat (.tup ys)) ms γ).set i (.ow (xs ++ ys)))) else none
  | _, _ => none
def sExt (ms : List Nat) (i : Nat) (m : MEx) : MSt := fun γ => (m γ).bind fun r => extK ms i γ r γ[i]?
/-- a product of two great ints -/
def cMulB (i j : Int) : Bool := cls (i.natAbs.log2 < 4000 ∧ j.natAbs.log2 < 4000)
def pMulB := iop cMulB fun i j => .int (i * j)
/-- a list, k times over -/
def pRep : PV → PV → Option (List PV)
  | .lst a, .int k => if -1000 ≤ k ∧ k ≤ 1000 ∧ a.length ≤ 1000 then some (List.replicate k.toNat a).flatten else none
  | _, _ => none
/-- a, b = a list of two -/
def gSet2L (i j : Nat) : PV → PEnv → Option PEnv := fun p γ => match p with
  | .lst [x, y] => some ((γ.set i (.fz x)).set j (.fz y))
  | _ => none
/-- a tuple and another one, both with something in them -/
def pCatT : PV → PV → Option PV
  | .tup a, .tup b => if a ≠ [] ∧ b ≠ [] ∧ a.length + b.length ≤ LIM then some (.tup (a ++ b)) else none
  | _, _ => none
def bls? : List PV → Option (List Bool)
  | [] => some []
  | .bl b :: xs => (bls? xs).map (b :: ·)
  | _ :: _ => none
theorem bls?_get : ∀ {xs : List PV} {bs : List Bool}, bls? xs = some bs → xs = bs.map PV.bl
  | [], bs, h => by cases h; rfl
  | .bl b :: xs, bs, h => by
    have h : (bls? xs).map (b :: ·) = some bs := h
    cases e : bls? xs with
    | none => rw [e] at h; cases h
    | some cs => rw [e] at h; cases h; rw [bls?_get e]; rfl
  | .non :: _, _, h => by cases h
  | .int _ :: _, _, h => by cases h
  | .str _ :: _, _, h => by cases h
  | .tup _ :: _, _, h => by cases h
  | .lst _ :: _, _, h => by cases h
theorem bls?_map : ∀ bs : List Bool, bls? (bs.map PV.bl) = some bs
  | [] => rfl
  | b :: bs => by
    show (bls? (bs.map PV.bl)).map (b :: ·) = _
    rw [bls?_map bs]; rfl
/-- all, any of a list of truths -/
def pAllB : List PV → Option PV
  | [.lst xs] => (bls? xs).map fun bs => .bl (bs.all id)
  | _ => none
def pAnyB : List PV → Option PV
  | [.lst xs] => (bls? xs).map fun bs => .bl (bs.any id)
  | _ => none
end L2.PM

set_option Elab.async false
set_option linter.all false
set_option maxRecDepth 100000
noncomputable section
namespace L2.PM
open PySem PySem.Spec PyProof.Rows
namespace SF
end SF
section
variable {prog : Program} {w : World} {A : Around} {E : Value → Shared → Prop} {s : Shared}
def rvObj (l : Addr) (i : Int) : Obj := { cls := .type "reversed", data := .fields #[.ref l, rawInt i] }
def IsRv (h : Heap) (a l : Addr) (i : Int) : Prop := ∃ o, h.get? a = some o ∧ o.cls = .type "reversed" ∧ o.data = .fields #[.ref l, rawInt i]
theorem IsRv.typeIs {a l : Addr} {i : Int} (x : IsRv s.heap a l i) : s.TypeIs (.ref a) "reversed" := let ⟨o, ho, hc, _⟩ := x; ⟨o, ho, hc⟩
theorem IsRv.at {h h' : Heap} {a l : Addr} {i : Int} (x : IsRv h a l i) (e : ∀ o, h.get? a = some o → h'.get? a = some o) : IsRv h' a l i := let ⟨o, ho, r⟩ := x; ⟨o, e _ ho, r⟩
end
section
variable {X : Cx} {e a b c : Expr} {es : List Expr} {ms ns ls : List Nat} {m m1 m2 m3 : MEx} {ma : PEnv → Option (List PV)} {pos p p1 p2 p3 pos' : Pos} {x : Str} {id T : String} {tg : Expr}
def Itw (K : PySem.W.Frag) (l : Addr) (n : Nat) : It :=
  ⟨fun i H => ∃ xs x, SqT K H l xs ∧ xs.length = n ∧ xs.reverse[i]? = some x, fun i H x H' => H' = H ∧ ∀ xs, SqT K H l xs → xs.length = n → xs.reverse[i]? = some x, fun i H => ∃ xs, SqT K H l xs ∧ xs.length = n ∧ i = n⟩
theorem line63 {n : Nat} (h : n ≤ sizeLine) : (n : Int) < 2 ^ 63 := by
  have : sizeLine < 2 ^ 63 := by decide
  omega
end
end L2.PM

set_option Elab.async false
set_option linter.all false
set_option maxRecDepth 100000
noncomputable section
namespace L2.PM
open PySem PySem.Spec PyProof.Rows
open PySem.AutoSeq1 (wpAny_loadPart')
section
variable {X : Cx} {e a b c : Expr} {es : List Expr} {ms ns ls : List Nat} {m m1 m2 m3 : MEx} {ma : PEnv → Option (List PV)} {pos p p1 p2 p3 pos' : Pos} {x : Str} {id T : String} {tg : Expr}
def rExtT (K : PySem.W.Frag) : V → List V → Hp → VK → Prop := fun x vs H Q => ∃ l b xs zs, x = .ref l ∧ vs = [.ref b] ∧ H l = some (.lst xs) ∧ SqT K H b zs ∧ xs.length + zs.length ≤ sizeLine ∧ Q .non (upd H l (.lst (xs ++ zs)))
end
end L2.PM

set_option Elab.async false
set_option linter.all false
set_option maxRecDepth 100000
noncomputable section
namespace L2.PM
open PySem PySem.Spec PyProof.Rows
section
variable {X : Cx}
theorem vals_bls : ∀ {bs : List Bool} {its : List Value}, Vals (bs.map V.bl) its → its = bs.map Value.bool
  | [], _, h => by cases h; rfl
  | b :: bs, _, h => by
    cases h with
    | cons h1 h2 => rw [vals_bls h2, show _ = Value.bool b from h1]; rfl
theorem repL_bls {K : PySem.W.Frag} {F : Hp} : ∀ {bs : List Bool} {vs : List V}, RepL K F (bs.map PV.bl) vs → vs = bs.map V.bl
  | [], vs, h => by
    rw [List.map_nil] at h
    unfold RepL at h
    exact h
  | b :: bs, vs, h => by
    rw [List.map_cons] at h
    unfold RepL at h
    obtain ⟨v, t, rfl, h1, h2⟩ := h
    unfold Rep at h1
    rw [h1, repL_bls h2]; rfl
theorem kept_it {s : Shared} {h' : Heap} {o : Obj} (hk : ∀ b x, b ∉ [s.heap.objs.size] → (s.heap.push o).get? b = some x → h'.get? b = some x) : ∀ b x, s.heap.get? b = some x → h'.get? b = some x :=
  fun b x e => hk b x (fun hm => by rw [List.mem_singleton.mp hm] at e; exact Nat.lt_irrefl _ (Heap.lt_size e)) (Heap.get?_push_of_some _ e)
theorem rng_all (bs : List Bool) : ((List.range bs.length).all fun i => (bs[i]?).getD true) = bs.all id := by
  rw [Bool.eq_iff_iff, List.all_eq_true, List.all_eq_true]
  constructor
  · intro h x hx
    obtain ⟨i, hi, rfl⟩ := List.mem_iff_getElem.mp hx
    have := h i (List.mem_range.mpr hi)
    simpa [hi] using this
  · intro h i hi
    have hi := List.mem_range.mp hi
    simpa [hi] using h bs[i] (List.getElem_mem hi)
theorem call_allB (hc : X.calm = true) : CallR X (.builtin "all") (fun vs H Q => ∃ (a : Addr) (bs : List Bool), vs = [.ref a] ∧ SqL X.K H a (bs.map V.bl) ∧ Q (.bl (bs.all id)) H) := by
  intro pins s σ H vs us Q I rs h
  obtain ⟨a, bs, rfl, h2, h3⟩ := h
  obtain ⟨u, rfl, ru⟩ := vals1 rs
  cases ru
  obtain ⟨its, r, pl, _⟩ := I.list h2
  have e := vals_bls r
  subst e
  have hl := pl.isList
  have hlt : a < s.heap.objs.size := by obtain ⟨_, e, _⟩ := hl; exact Heap.lt_size e
  refine call_all_walk (wpAny_pyIter_list hl ?_)
  refine ⟨s.heap.objs.size, [s.heap.objs.size, a], [s.heap.objs.size], (bs.map Value.bool).toArray.size, _, _, fun i => (bs[i]?).getD true, rfl, Walks.list (A := X.A.in1) (I.ok.hd hc) _ a (Nat.ne_of_lt hlt) (bs.map Value.bool).toArray,
    ⟨⟨_, Heap.get?_push_size _ rfl, rfl, rfl⟩, hl.push _⟩, fun i v s' Q' E' hP hQ => ?_, fun h' tk hk => ?_⟩
  · have hP : (bs.map Value.bool)[i]? = some v := by simpa using hP
    rw [List.getElem?_map, Option.map_eq_some_iff] at hP
    obtain ⟨b, e, rfl⟩ := hP
    simp only [e, Option.getD_some] at hQ
    exact wpAny_truthy_bool hQ
  · have e : ((List.range (bs.map Value.bool).toArray.size).all fun i => (bs[i]?).getD true) = bs.all id := by
      rw [List.size_toArray, List.length_map]; exact rng_all bs
    rw [e]
    exact ⟨.bl (bs.all id), H, I.kept (t' := tk) (kept_it hk), rfl, h3⟩
theorem cm_all (hc : X.calm = true) : CallM X (.builtin "all") pAllB := by
  intro pins s σ H vs us Q I rs h
  obtain ⟨F, ps, r, h1, h2, h3, w⟩ := h
  refine call_allB hc pins s σ H vs us Q I rs ?_
  unfold pAllB at h3
  split at h3
  · rename_i xs
    obtain ⟨bs, e1, rfl⟩ := map_get h3
    have e2 := bls?_get e1
    subst e2
    unfold RepL at h2
    obtain ⟨v, t, rfl, h2, ht⟩ := h2
    unfold RepL at ht
    subst ht
    unfold Rep at h2
    obtain ⟨a, us, rfl, k2, k3⟩ := h2
    have e3 := repL_bls k3
    subst e3
    exact ⟨a, bs, rfl, h1.seq k2, w.here h1 (rep_bl _)⟩
  · cases h3
end
end L2.PM

set_option Elab.async false
set_option linter.all false
set_option maxRecDepth 100000
noncomputable section
namespace L2.PM
open PySem PySem.Spec PyProof.Rows
section
variable {X : Cx} {pos : Pos}
def gLst (K : PySem.W.Frag) (n : Nat) (t : TGs) : TG := fun v σ H Q => ∃ a xs, v = .ref a ∧ SqL K H a xs ∧ xs.length = n ∧ t xs σ H Q
end
end L2.PM

set_option Elab.async false
set_option linter.all false
set_option maxRecDepth 100000
noncomputable section
namespace L2.PM
open PySem PySem.Spec PyProof.Rows
section
variable {X : Cx} {e a b c : Expr} {es : List Expr} {ms ns ls : List Nat} {m m1 m2 m3 : MEx} {ma : PEnv → Option (List PV)} {pos p p1 p2 p3 pos' : Pos} {x : Str} {id T : String} {tg : Expr}
theorem star_int {i : Int} {j : Nat} {q : Pos} {es : List Expr} {env : Env} : starEach (.Constant (.int i) j q :: es) env = (false, eval (.Constant (.int i) j q) env) :: starEach es env := rfl
theorem am_int {i : Int} {j : Nat} {q : Pos} (hr : AM X [] es ma) : AM X [] (.Constant (.int i) j q :: es) (aCons (mC (.int i)) ma) := am_cons em_int hr star_int
end
end L2.PM

set_option Elab.async false
set_option linter.all false
set_option maxRecDepth 100000
noncomputable section
namespace L2.PM
open PySem PySem.Spec PyProof.Rows
section
variable {X : Cx}
end
end L2.PM

set_option Elab.async false
set_option linter.all false
set_option maxRecDepth 100000
noncomputable section
namespace L2.PM
open PySem PySem.Spec PyProof.Rows
section
variable {X : Cx} {pos p : Pos} {x : Str}
/-! ### names of the module that stand for a whole number, a text, a tuple of texts -/
theorem em_globI {i : Int} {t : Tok} (hg : Gl X x) (hm : X.mg x = some (.int i t)) (hd : (x == ("__debug__" : Str)) = false := by decide) : EM X [] (.Name x pos) (mC (.int i)) :=
  PE.imp (pe_glob (v := .int i) hg hm ⟨t, rfl⟩ hd) fun σ H Q ⟨F, γ, r, h1, h2, h3, w⟩ => by
    cases h3; exact w.here h1 (by unfold Rep; rfl)
/-- a tuple of texts that stands in the module -/
def GT (K : PySem.W.Frag) (a : Addr) (ts : List Str) : Prop := ∃ (o : Obj) (its : Array Value) (n : Nat), K.lookup a = some o ∧ o.cls = .type "tuple" ∧ o.data = .seq its n ∧ its.size ≤ sizeLine ∧ Vals (ts.map V.str) its.toList
theorem em_globT {a : Addr} {ts : List Str} (hg : Gl X x) (hm : X.mg x = some (.ref a)) (ht : GT X.K a ts) (hd : (x == ("__debug__" : Str)) = false := by decide) : EM X [] (.Name x pos) (mC (.tup (ts.map .str))) :=
  PE.imp (pe_glob (v := .ref a) hg hm rfl hd) fun σ H Q ⟨F, γ, r, h1, h2, h3, w⟩ => by
    cases h3
    refine w.here h1 ?_
    unfold Rep
    exact ⟨a, ts.map V.str, rfl, .inr ht, repL_strs' ts⟩
end
end L2.PM

set_option Elab.async false
set_option linter.all false
set_option maxRecDepth 100000
noncomputable section
namespace L2.PM
open PySem PySem.Spec PyProof.Rows
section
variable {X : Cx}
/-! ### a <= b of texts -/
theorem op_le_str : OpR X (compareOp .LtE) (fun x y H Q => ∃ i j, x = .str i ∧ y = .str j ∧ Q (.bl (sLe i j)) H) := by
  intro pins s σ H x y v u Q I rx ry h
  obtain ⟨i, j, rfl, rfl, q⟩ := h
  obtain ⟨t, rfl⟩ := rx
  obtain ⟨t', rfl⟩ := ry
  exact P.le_str (fin_bl I q rfl)
def pLeS : PV → PV → Option PV
  | .str a, .str b => some (.bl (sLe a b))
  | _, _ => none
theorem om_leS : OpM X (compareOp .LtE) pLeS := by
  intro pins s σ H x y v u Q I rx ry h
  obtain ⟨F, p, q, r, h1, h2, h3, h4, w⟩ := h
  cases p <;> cases q <;> first
    | (exfalso; cases h4; done)
    | skip
  cases h4
  unfold Rep at h2 h3
  exact op_le_str pins s σ H x y v u Q I rx ry ⟨_, _, h2, h3, w.here h1 (rep_bl _)⟩
end
end L2.PM

set_option Elab.async false
set_option linter.all false
set_option maxRecDepth 100000
noncomputable section
namespace L2.PM
open PySem PySem.Spec PyProof.Rows
/-! ### for sign in a text (of signs below 128) -/
def Its (x : Str) : It := ⟨fun i _ => i < x.cps.size, fun i H v H' => H' = H ∧ ∃ c, x.cps[i]? = some c ∧ v = .str ⟨#[c]⟩, fun i _ => x.cps.size ≤ i⟩
theorem turn_str {P : Program} {w : World} {K : PySem.W.Frag} {tg : Expr} (x : Str) (t : Tok) (it : Addr) : Turn P w K tg (Its x) [it] it (fun i h => h.IsStrIter it "str_ascii_iterator" x t i) where
  mem := by simp
  obj := fun i h st b hb => by
    have e : b = it := by simpa using hb
    subst e
    obtain ⟨o, e, c, d⟩ := st
    exact ⟨o, e, fun v z => by rw [d] at z; cases z⟩
  keep := fun i h h' st k => by
    obtain ⟨o, e, c, d⟩ := st
    exact ⟨o, k it (by simp) o e, c, d⟩
  item := by
    intro X hP hw hK hc i pins s σ H E I hf st hg
    subst hP hw hK
    have hi : i < x.cps.size := hg
    obtain ⟨f0, f1, f2, f3, f4, f5⟩ := hf it (by simp)
    refine wpAny_pyNext_ascii_item st (c := x.cps[i]) (Array.getElem?_eq_getElem hi) fun h' st' sb => ?_
    have I1 : Inv X pins σ H { s with heap := h', toks := s.toks + 1 } := I.turned (t' := s.toks + 1) (fun b o hb e => (sb.2 b hb).trans e) f0 f1 f3 f4 f5
    obtain ⟨o, e, c, d⟩ := id st'
    exact ⟨_, rfl, go_of (s := { s with heap := h', toks := s.toks + 1 }) e c d (by decide) ⟨.str ⟨#[x.cps[i]]⟩, H, I1, ⟨_, rfl⟩, ⟨rfl, _, Array.getElem?_eq_getElem hi, rfl⟩, st', fun b hb => (hf b hb).1⟩⟩
  done := by
    intro X hP hw hK hc i pins s σ H E I hf st hg
    subst hP hw hK
    have hi : x.cps.size ≤ i := hg
    obtain ⟨f0, f1, f2, f3, f4, f5⟩ := hf it (by simp)
    exact wpAny_pyNext_ascii_end (I.ok.hd hc) st (Array.getElem?_eq_none hi) fun h' eb => ⟨rfl, I.turned (t' := s.toks) (fun b o hb e => eb b o hb e) f0 f1 f3 f4 f5⟩
  self := fun _ _ _ _ _ st h => wpAny_pyIter_striter_ascii st h
section
variable {X : Cx} {tg e : Expr} {ms : List Nat} {m : MEx}
theorem pi_str {l : Expr} {tl : TE} (hl : PE X l tl) : PI X tg l (fun σ H R => tl σ H fun v H1 => ∃ x, v = .str x ∧ x.cps.all (· < 128) = true ∧ R (Its x) H1) := by
  intro pins s σ H R I h
  refine thn (hl pins s σ H _ I h) fun v s1 ⟨y, H1, I1, r1, q1⟩ => ?_
  obtain ⟨x, e, ha, q⟩ := q1
  subst e
  obtain ⟨t, rfl⟩ := r1
  refine wpAny_pyIter_ascii ha ?_
  refine ⟨s1.heap.objs.size, [s1.heap.objs.size], _, _, H1, rfl, I1.kept (t' := s1.toks) fun b o e => Heap.get?_push_of_some _ e, turn_str x t _, ⟨_, Heap.get?_push_size _ rfl, rfl, rfl⟩, fun b hb => ?_, q⟩
  have e : b = s1.heap.objs.size := by simpa using hb
  subst e
  exact I1.fpOk (Nat.le_refl _) (I1.hok.fresh (Nat.le_refl _))
def signsL (x : Str) : List PV := x.cps.toList.map fun c => .str ⟨#[c]⟩
def itX : PV → Option (List PV)
  | .str x => if x.cps.all (· < 128) = true then some (signsL x) else none
  | _ => none
def iStr (m : MEx) : PEnv → Option (List PV) := fun γ => (m γ).bind itX
theorem im_str (h : EM X ms e m) : IM X ms tg e (iStr m) := PI.imp (pi_str h) fun σ H R ⟨F, γ, xs, h1, h2, h3, w⟩ => by
  obtain ⟨p, e1, e2⟩ := bind_get h3
  refine ⟨F, γ, p, h1, h2, e1, fun v H' F' g q => ?_⟩
  cases p with
  | str x =>
    have e2 : (if x.cps.all (· < 128) = true then some (signsL x) else none) = some xs := e2
    obtain ⟨ha, rfl⟩ := ite_get e2
    unfold Rep at q
    subst q
    refine ⟨x, rfl, ha, w _ _ _ g ?_⟩
    have hl : (signsL x).length = x.cps.size := by simp [signsL]
    refine ⟨fun i H hi e => ?_, fun i H v H' hi e y => ?_, fun H e => ?_⟩
    · rw [hl] at hi; exact hi
    · obtain ⟨rfl, c, hc, rfl⟩ := y
      refine ⟨.str ⟨#[c]⟩, ?_, fun F1 x1 x2 => ⟨F1, .refl x2, rep_str _⟩⟩
      unfold signsL
      rw [List.getElem?_map, Array.getElem?_toList, hc]
      rfl
    · show x.cps.size ≤ _
      rw [hl]
      exact Nat.le_refl _
  | _ => cases e2
end
end L2.PM

set_option Elab.async false
set_option linter.all false
set_option maxRecDepth 100000
noncomputable section
namespace L2.PM
open PySem PySem.Spec PyProof.Rows PySem.Builtin PySem.Builtin.Str
/-! ### x.split(y) -/
section
variable {prog : Program} {w : World} {A : Around} {E : Value → Shared → Prop} {s : Shared} {x y : Str} {t u : Tok}
theorem split_new {Q : Value → Shared → Prop} (hy : (y.length == 0) = false)
    (h : ∀ l k, l.map (·.1) = Txt.split x y → l.length ≤ sizeLine → Q (.ref s.heap.objs.size) { s with heap := s.heap.push { cls := .type "list", data := .seq (strValues l).toArray }, toks := k })
    (hsz : x.length + 2 ≤ sizeLine) : wpAny (model prog w) A (call (.builtin "str.split") [.str x t, .str y u]) Q E s := by
  have hn : (partsBetween x (occurrences x y 0 x.length (x.length + 1)) y.length).length ≤ sizeLine := by
    have e1 := StrLaws.occ_length_le x y 0 x.length (x.length + 1)
    rw [length_partsBetween]; omega
  cases h1 : (decide (x.length < y.length) || decide (strKind x < strKind y))
  · cases hf : (occurrences x y 0 x.length (x.length + 1)).isEmpty
    · refine call_meets F.slot_str_split (typeIs_str _ _ _) F.entry_str_split (F.args_str_split_2 _ _) (meets_str_split_sep x y t u h1 hy hf (by omega) hn) ?_
      show wants Q E _ { s with toks := _, heap := s.heap.push { cls := .type "list", data := .seq (strsFrom s.toks (partsBetween x (occurrences x y 0 x.length (x.length + 1)) y.length)).toArray } }
      rw [strsFrom_eq]
      refine h (numbered s.toks _) _ ((numbered_texts _ _).trans ((if_neg (ne_true_of_eq_false h1)).trans (if_neg (ne_true_of_eq_false hf))).symm) ?_
      have := congrArg List.length (numbered_texts s.toks (partsBetween x (occurrences x y 0 x.length (x.length + 1)) y.length))
      rw [List.length_map] at this
      rw [this]
      exact hn
    · exact call_meets F.slot_str_split (typeIs_str _ _ _) F.entry_str_split (F.args_str_split_2 _ _) (meets_str_split_not_found x y t u h1 hy hf)
        (h [(x, t)] s.toks ((if_neg (ne_true_of_eq_false h1)).trans (if_pos hf)).symm (by show 1 ≤ sizeLine; decide))
  · exact call_meets F.slot_str_split (typeIs_str _ _ _) F.entry_str_split (F.args_str_split_2 _ _) (meets_str_split_cannot_occur x y t u h1)
      (h [(x, t)] s.toks (if_pos h1).symm (by show 1 ≤ sizeLine; decide))
end
section
variable {X : Cx} {o e : Expr} {es : List Expr} {ms ns : List Nat} {m : MEx} {ma : PEnv → Option (List PV)}
def pSplit : PV → List PV → Option (List PV)
  | .str x, [.str y] => if (y.length == 0) = false ∧ x.length + 2 ≤ LIM then some ((Txt.split x y).map .str) else none
  | _, _ => none
theorem vals_strsT : ∀ l : List (Str × Tok), Vals ((l.map (·.1)).map V.str) (strValues l)
  | [] => .nil
  | p :: l => .cons ⟨p.2, rfl⟩ (vals_strsT l)
theorem mm_split : MtR X "str.split" (rMtO X.K pSplit) := by
  intro pins s σ H x xs v us Q I rx rs h
  obtain ⟨F, p, ps, r, h1, h2, h3, h4, w⟩ := h
  unfold pSplit at h4
  split at h4
  · rename_i x y
    obtain ⟨⟨c1, c2⟩, rfl⟩ := ite_get h4
    unfold Rep at h2
    subst h2
    obtain ⟨t, rfl⟩ := rx
    unfold RepL at h3
    obtain ⟨v1, r1, rfl, h3, ht⟩ := h3
    unfold RepL at ht
    subst ht
    unfold Rep at h3
    subst h3
    obtain ⟨u, rfl, ru⟩ := vals1 rs
    obtain ⟨t2, rfl⟩ := ru
    refine split_new c1 (fun l k el hl => ?_) (Nat.le_trans c2 lim_line)
    have hp : H s.heap.objs.size = none := I.hok.fresh (Nat.le_refl _)
    have nF : F s.heap.objs.size = none := h1.free hp
    have hv := vals_strsT l
    rw [el] at hv
    exact ⟨.ref _, _, I.lnew (t' := k) hv (by rw [List.length_map, ← el, List.length_map]; exact hl), rfl, w _ _ _ F (.side h1 hp) hp nF upd_same (repL_strs' _)⟩
  · cases h4
theorem eo_split {apos cpos : Pos} (h : EM X ms o m) (ha : AM X ns (e :: es) ma) (hbase : attributeBase o "split" X.env (eval o X.env) = eval o X.env := by rfl)
    (hfew : ((backTo cpos (starEach (e :: es) X.env)).all (fun x => !x.1) && (backToKw cpos (keywordEach [] X.env)).all (fun x => x.1.isSome)
      && decide ((e :: es).length + ([] : List Keyword).length + (if ([] : List Keyword).isEmpty then 0 else 1) < 30)) = true := by rfl)
    (hline : (apos.endLine == cpos.line) = true := by rfl) (hs : starEach (e :: es) X.env = (false, eval e X.env) :: starEach es X.env := by rfl) (hplain : (backTo cpos (starEach es X.env)).any (·.1) = false := by rfl) :
    EO X (ms ++ ns) (.Call (.Attribute o "split" apos) (e :: es) [] cpos) (mMt "str" pSplit m ma) :=
  eo_mt h ha (pe_bm PySem.F.plainAttrs_str PySem.F.slot_str_split PySem.F.type_str_split mm_split h ha hbase hfew hline hs hplain)
end
end L2.PM

set_option Elab.async false
set_option linter.all false
set_option maxRecDepth 100000
noncomputable section
namespace L2.PM
open PySem PySem.Spec PyProof.Rows
/-! ### xs.insert(k, e), xs one's own, k from 0 to its length -/
section
variable {X : Cx}
def rInsert : V → List V → Hp → VK → Prop := fun x vs H Q => ∃ l xs y i, x = .ref l ∧ vs = [.int i, y] ∧ H l = some (.lst xs) ∧ 0 ≤ i ∧ i ≤ xs.length ∧ xs.length < sizeLine ∧ xs.length ≤ 100000 ∧ Q .non (upd H l (.lst (xs.take i.toNat ++ y :: xs.drop i.toNat)))
theorem mt_insert : MtM X "list.insert" rInsert := by
  intro pins s σ H x vs v us Q I rx rv h
  obtain ⟨l, xs, y, i, rfl, rfl, hH, h0, hi, hz, hz2, q⟩ := h
  cases rx
  cases rv with
  | cons r1 rv =>
    cases rv with
    | cons r2 rv =>
      cases rv
      obtain ⟨t, rfl⟩ := r1
      obtain ⟨z, its, n, r, hl, e⟩ := I.lstM hH
      have hfit : ¬(!Builtin.List.listFitsIndex i) = true := by
        have : Builtin.List.listFitsIndex i = true := by
          unfold Builtin.List.listFitsIndex
          simp
          omega
        simp [this]
      refine call_meets PySem.F.slot_list_insert ⟨_, e, rfl⟩ PySem.F.entry_list_insert (PySem.F.args_list_insert_3 _ _ _) (PySem.AutoListH.list_insert_list_int_val_1 l its.toArray n i t _ hfit (by rw [List.size_toArray]; omega)) ⟨e, ?_⟩
      refine ⟨.non, _, I.lset (its' := its.take i.toNat ++ _ :: its.drop i.toNat) hH e ?_ ((r.take _).append (.cons r2 (r.drop _))) ?_, rfl, q⟩
      · have h1 : ¬ i < 0 := by omega
        simp only [h1, if_false, List.size_toArray]
        have h2 : min i.toNat its.length = i.toNat := by omega
        rw [h2]
        apply Array.toList_inj.mp
        simp
        exact List.take_of_length_le (by rw [List.length_drop]; exact Nat.le_refl _)
      · rw [List.length_append, List.length_cons, List.length_take, List.length_drop]
        omega
variable {e k : Expr} {ms : List Nat} {m mk : MEx} {p2 pos : Pos}
def insK (ms : List Nat) (i : Nat) (γ : PEnv) (xs : List PV) (r : PV) : PV → Option Out
  | .int j => if 0 ≤ j ∧ j ≤ xs.length ∧ xs.length ≤ 1000 ∧ (flat r || !ms.contains i) = true then some (.nx ((keepE (flat r) ms γ).set i (.ow (xs.take j.toNat ++ r :: xs.drop j.toNat)))) else none
  | _ => none
def sIns (ms : List Nat) (i : Nat) (mk m : MEx) : MSt := fun γ => match γ[i]? with
  | some (.ow xs) => (mk γ).bind fun j => (m γ).bind fun r => insK ms i γ xs r j
  | _ => none
theorem sm_ins {i : Nat} {x : Str} {apos cpos : Pos} (hx : PE X (.Name x p2) (tVar i)) (ps : PS X (.Expr (.Call (.Attribute (.Name x p2) "insert" apos) [k, e] [] cpos) pos) (tDrop (tBM X.K "list" rInsert (tVar i) (tMA X.K ms (aCons mk (aCons m aNil)))))) :
    SM X (.Expr (.Call (.Attribute (.Name x p2) "insert" apos) [k, e] [] cpos) pos) (sIns ms i mk m) := PS.imp ps fun D σ H ⟨B, F₀, F, γ, o, S, e, ok⟩ => by
  unfold sIns at e
  split at e
  · rename_i xs hi
    obtain ⟨j0, e0, e'⟩ := bind_get e
    obtain ⟨r, e1, e2⟩ := bind_get e'
    cases j0 with
    | int j =>
      have e3 : (if 0 ≤ j ∧ j ≤ xs.length ∧ xs.length ≤ 1000 ∧ (flat r || !ms.contains i) = true then some (Out.nx ((keepE (flat r) ms γ).set i (.ow (xs.take j.toNat ++ r :: xs.drop j.toNat)))) else none) = some o := e2
      obtain ⟨⟨c0, c1, c2, c⟩, rfl⟩ := ite_get e3
      obtain ⟨a, vs, h1, h2, _⟩ := S.ow i xs hi
      obtain ⟨F1, S1, x1, er⟩ := S.see ms
      refine ⟨.ref a, h1, tyV_list (.of h2), F1, γ, [.int j, r], S1.sub, er, by simp [aCons, aNil, e0, e1], fun us H' F' g q => ?_⟩
      unfold RepL at q
      obtain ⟨v0, t, rfl, q0, q⟩ := q
      unfold RepL at q
      obtain ⟨v, t, rfl, q, qt⟩ := q
      unfold RepL at qt
      subst qt
      unfold Rep at q0
      subst q0
      obtain ⟨F2, S2, q2⟩ := S.val S1 g q
      have hi2 := keepE_own (k := flat r) hi c
      obtain ⟨a2, vs2, k1, k2, k3, _⟩ := S2.ow i xs hi2
      rw [h1] at k1
      cases k1
      have hle : vs2.length = xs.length := k3.length
      refine ⟨a, vs2, v, j, rfl, rfl, k2, c0, by rw [hle]; exact c1, ?_, by rw [hle]; omega, ?_⟩
      · rw [hle]
        exact Nat.lt_of_le_of_lt c2 (by decide)
      · exact ok _ _ F2 (S2.write hi2 h1 ((k3.take _).append (.cons q2 (k3.drop _))))
    | _ => cases e2
  · cases e
end
end L2.PM

set_option Elab.async false
set_option linter.all false
set_option maxRecDepth 100000
noncomputable section
namespace L2.PM
open PySem PySem.Spec PyProof.Rows
/-! ### x.join(a tuple of texts) -/
section
variable {X : Cx} {o e : Expr} {es : List Expr} {ms ns : List Nat} {m : MEx} {ma : PEnv → Option (List PV)}
def pJoinT : PV → List PV → Option PV
  | .str x, [.tup xs] => match strs? xs with
    | some ys => if (ys.map (·.length)).sum + ys.length * x.length ≤ LIM then some (.str (Txt.join x ys)) else none
    | none => none
  | _, _ => none
theorem mm_joinT : MtR X "str.join" (rMt X.K pJoinT) := by
  intro pins s σ H x xs v us Q I rx rs h
  obtain ⟨F, p, ps, r, h1, h2, h3, h4, w⟩ := h
  unfold pJoinT at h4
  split at h4
  · rename_i sep zs
    split at h4
    · rename_i ys hys
      obtain ⟨c, rfl⟩ := ite_get h4
      unfold Rep at h2
      subst h2
      obtain ⟨t, rfl⟩ := rx
      unfold RepL at h3
      obtain ⟨v1, r1, rfl, h3, ht⟩ := h3
      unfold RepL at ht
      subst ht
      unfold Rep at h3
      obtain ⟨a, ws, rfl, k2, k3⟩ := h3
      obtain ⟨u, rfl, ru⟩ := vals1 rs
      cases ru
      have e2 := strs?_get hys
      subst e2
      have e3 := repL_strs k3
      subst e3
      obtain ⟨its, rv, pt, _⟩ := I.tuple (h1.seqT k2)
      refine join_tuple pt (by simpa using strsAre_of rv) (Nat.le_trans c (by decide)) fun t' k => ⟨.str _, H, I.tok _, ⟨_, rfl⟩, w.here h1 (rep_str _)⟩
    · cases h4
  · cases h4
theorem em_joinT {apos cpos : Pos} (h : EM X ms o m) (ha : AM X ns (e :: es) ma) (hbase : attributeBase o "join" X.env (eval o X.env) = eval o X.env := by rfl)
    (hfew : ((backTo cpos (starEach (e :: es) X.env)).all (fun x => !x.1) && (backToKw cpos (keywordEach [] X.env)).all (fun x => x.1.isSome)
      && decide ((e :: es).length + ([] : List Keyword).length + (if ([] : List Keyword).isEmpty then 0 else 1) < 30)) = true := by rfl)
    (hline : (apos.endLine == cpos.line) = true := by rfl) (hs : starEach (e :: es) X.env = (false, eval e X.env) :: starEach es X.env := by rfl) (hplain : (backTo cpos (starEach es X.env)).any (·.1) = false := by rfl) :
    EM X (ms ++ ns) (.Call (.Attribute o "join" apos) (e :: es) [] cpos) (mMt "str" pJoinT m ma) :=
  em_mt h ha (pe_bm PySem.F.plainAttrs_str PySem.F.slot_str_join PySem.F.type_str_join mm_joinT h ha hbase hfew hline hs hplain)
end
end L2.PM

set_option Elab.async false
set_option linter.all false
noncomputable section
namespace L2.PM
open PySem
/-- range(hi, lo, -1) -/
def rngD (hi lo : Int) : List PV := (List.range (hi - lo).toNat).map fun k => .int (hi - (k : Nat))
def rg3K : PV → PV → PV → Option (List PV)
  | .int i, .int j, .int k => if k = -1 ∧ rOk i = true ∧ rOk j = true then some (rngD i j) else none
  | _, _, _ => none
def iRg3 (m1 m2 m3 : MEx) : PEnv → Option (List PV) := fun γ => (m1 γ).bind fun p => (m2 γ).bind fun q => (m3 γ).bind fun r => rg3K p q r
/-- int(a truth or an int) -/
def pI01 : List PV → Option PV
  | [.bl b] => some (.int (if b = true then 1 else 0))
  | [.int i] => some (.int i)
  | _ => none
/-- xs.extend(a list), xs one's own -/
def exlK (ms : List Nat) (i : Nat) (γ : PEnv) : PV → Option Slot → Option Out
  | .lst ys, some (.ow xs) => if xs.length + ys.length < LIM ∧ (!ms.contains i) = true then some (.nx ((keepE (flat (.lst ys)) ms γ).set i (.ow (xs ++ ys)))) else none
  | _, _ => none
def sExl (ms : List Nat) (i : Nat) (m : MEx) : MSt := fun γ => (m γ).bind fun r => exlK ms i γ r γ[i]?
/-- zip of a tuple and a list -/
def pZipTL : List PV → Option (List PV)
  | [.tup xs, .lst ys] => some (List.zipWith (fun a b => .tup [a, b]) xs ys)
  | _ => none
/-- len(set(texts)), of a tuple -/
def pLenSetS : List PV → Option PV
  | [.tup xs] => match strs? xs with
    | some ss => if ss.length < 1000 then some (.int (once ss).length) else none
    | none => none
  | _ => none
end L2.PM

set_option Elab.async false
set_option linter.all false
set_option maxRecDepth 100000
noncomputable section
namespace L2.PM
open PySem PySem.Spec PyProof.Rows
/-! ### range downwards -/
def Itd (hi : Int) (n : Nat) : It := ⟨fun i _ => i < n, fun i H x H' => H' = H ∧ x = .int (hi - i), fun i _ => n ≤ i⟩
section
variable {X : Cx} {e a b c : Expr} {es : List Expr} {ms ns ls : List Nat} {m m1 m2 m3 : MEx} {ma : PEnv → Option (List PV)} {pos p p1 p2 p3 pos' : Pos} {x : Str} {id T : String} {tg : Expr}
/-! ### int of a truth -/
/-! ### extend by a list -/
def rExtL (K : PySem.W.Frag) : V → List V → Hp → VK → Prop := fun x vs H Q => ∃ l b xs zs, x = .ref l ∧ vs = [.ref b] ∧ H l = some (.lst xs) ∧ SqL K H b zs ∧ xs.length + zs.length ≤ sizeLine ∧ Q .non (upd H l (.lst (xs ++ zs)))
end
open PySem.AutoSeq1 (wpAny_loadPart')
section
variable {X : Cx} {e a b c : Expr} {es : List Expr} {ms ns ls : List Nat} {m m1 m2 m3 : MEx} {ma : PEnv → Option (List PV)} {pos p p1 p2 p3 pos' : Pos} {x : Str} {id T : String} {tg : Expr}
end
/-! ### a def whose last parameter has an int by default -/
structure FunD (K : PySem.W.Frag) (x qual : Str) (st : Stmt) (f : Addr) (fd : FuncData) (j : Int) : Prop where
  ex : ∃ (T : Addr) (oc : Value) (od : Option Addr) (kV doc pm : Value) (an : Option Addr) (cdv ct : Value) (osl : Array (Option Value)),
    fd = PySem.W.fnOf x qual (defArgs st) (defBody st) (defScope st) (.ref T) kV doc pm an cdv ct ∧ K.lookup f = some ⟨oc, od, .func fd, osl⟩ ∧ PySem.W.codeIn K cdv qual = true ∧
    ∃ (tc : Value) (td : Option Addr) (tk : Tok) (tn : Nat) (ts : Array (Option Value)), K.lookup T = some ⟨tc, td, .seq #[.int j tk] tn, ts⟩
  kp : PySem.W.keepIn K (.ref f) = true
theorem funD_mk {K : PySem.W.Frag} {x qual : Str} {st : Stmt} {f T : Addr} {oc tc : Value} {od an td : Option Addr} {osl ts : Array (Option Value)} {kV doc pm cdv ct : Value} {j : Int} {tk : Tok} {tn : Nat} (l : K.lookup f = some ⟨oc, od, .func (PySem.W.fnOf x qual (defArgs st) (defBody st) (defScope st) (.ref T) kV doc pm an cdv ct), osl⟩)
    (c : PySem.W.codeIn K cdv qual = true) (k : PySem.W.keepIn K (.ref f) = true) (t : K.lookup T = some ⟨tc, td, .seq #[.int j tk] tn, ts⟩) : FunD K x qual st f (PySem.W.fnOf x qual (defArgs st) (defBody st) (defScope st) (.ref T) kV doc pm an cdv ct) j :=
  ⟨⟨T, oc, od, kV, doc, pm, an, cdv, ct, osl, rfl, l, c, tc, td, tk, tn, ts, t⟩, k⟩
section
variable {P : Program} {w : World} {K : PySem.W.Frag} {mg : Str → Option Value} {base : Heap}
theorem FunD.ok {x qual : Str} {st : Stmt} {f : Addr} {fd : FuncData} {j : Int} {N ps : List Str} {k : Nat} {sp : Sp} (F : FunD K x qual st f fd j) (S : FnScope N ps (defScope st)) (len : ∀ vs H Q E, sp vs H Q E → vs.length = ps.length)
    (hbody : ∀ (cdv : Value) (A : Around) (outer : List Env) (s : Shared) (H : Hp) (vs : List V) (Q : VK) (E : XK), Room k (A.deeper (envOfC qual (defScope st) s.heap.objs.size f cdv)) → sp vs H Q E →
      ∃ t, PSs (cxOf CX0 P w K mg base N qual (defScope st) f cdv A outer s H E).nox (defBody st) t ∧ t { nx := fun _ H' => Q .non H', rt := Q } (start N vs) H) : FnOk P w K mg base CX0 (k + 1) f fd ps sp := by
  obtain ⟨T, oc, od, kV, doc, pm, an, cdv, ct, osl, rfl, lk, hcd, _⟩ := F.ex
  refine fn_of lk hcd S len fun A outer s H vs Q E hr hsp => ?_
  obtain ⟨t, h, q⟩ := hbody cdv A outer s H vs Q E hr hsp
  exact ⟨t, h.nox, q⟩
theorem fnMD {x qual : Str} {st : Stmt} {f : Addr} {fd : FuncData} {j : Int} {N ps : List Str} {k n : Nat} {m : MSt} (Fn : FunD K x qual st f fd j) (Sc : FnScope N ps (defScope st)) (hn : ps.length = n)
    (hbody : ∀ (cdv : Value) (A : Around) (outer : List Env) (s : Shared) (H : Hp) (E : XK), Room k (A.deeper (envOfC qual (defScope st) s.heap.objs.size f cdv)) →
      SMs (cxOf CX0 P w K mg base N qual (defScope st) f cdv A outer s H E).nox (defBody st) m) : FnOk P w K mg base CX0 (k + 1) f fd ps (spM K n (runV N.length n m)) := by
  refine Fn.ok Sc (fun vs H Q E h => by rw [h.1, hn]) fun cdv A outer s H vs Q E hr h => ?_
  refine ⟨_, hbody cdv A outer s H E hr, ?_⟩
  obtain ⟨hl, F, qs, r, h1, h2, h3, wv⟩ := h
  unfold runV at h3
  have hq : qs.length = n := by rw [← h2.length]; exact hl
  rw [if_pos hq] at h3
  obtain ⟨o, e1, e2⟩ := bind_get h3
  refine ⟨H, F, F, _, o, start_sr h1 h2, e1, ?_⟩
  cases o with
  | nx γ => cases e2; exact fun σ' H' F' S => wv .non H' F' S.gr rep_non
  | rt p => cases e2; exact fun v H' F' g q => wv v H' F' g q
  | ro xs => cases e2; exact fun a vs H' F' g n nF hH q => wv.of_lst a vs H' F' g n nF hH q
  | bk γ => cases e2
  | ct γ => cases e2
/-- all parameters given -/
theorem FunD.binds {x qual : Str} {st : Stmt} {f : Addr} {fd : FuncData} {j : Int} {ps : List Str} (F : FunD K x qual st f fd j)
    (h : ∀ (dV kV doc pm : Value) (an : Option Addr) (cdv ct d : Value) (us : List Value), us.length = ps.length → ∃ k : Option (Array Value) → Sem (List (Str × Value)), bindArgs (PySem.W.fnOf x qual (defArgs st) (defBody st) (defScope st) dV kV doc pm an cdv ct) ⟨us, []⟩ = seqItems? dV >>= k ∧ k (some #[d]) = pure (ps.zip us)) : Binds K fd ps [] := by
  obtain ⟨T, oc, od, kV, doc, pm, an, cdv, ct, osl, rfl, lk, hcd, tc, td, tk, tn, ts, t⟩ := F.ex
  intro s us X hl
  rw [List.append_nil] at hl ⊢
  obtain ⟨k, e1, e2⟩ := h (.ref T) kV doc pm an cdv ct (.int j tk) us hl
  exact BindsTo.of_defaults rfl (X _ _ t) rfl e1 e2
/-- the last one by its default -/
theorem FunD.bindsD {x qual : Str} {st : Stmt} {f : Addr} {fd : FuncData} {j : Int} {ps : List Str} (F : FunD K x qual st f fd j)
    (h : ∀ (dV kV doc pm : Value) (an : Option Addr) (cdv ct d : Value) (us : List Value), us.length + 1 = ps.length → ∃ k : Option (Array Value) → Sem (List (Str × Value)), bindArgs (PySem.W.fnOf x qual (defArgs st) (defBody st) (defScope st) dV kV doc pm an cdv ct) ⟨us, []⟩ = seqItems? dV >>= k ∧ k (some #[d]) = pure (ps.zip (us ++ [d]))) :
    ∃ tk : Tok, Binds K fd ps [.int j tk] := by
  obtain ⟨T, oc, od, kV, doc, pm, an, cdv, ct, osl, rfl, lk, hcd, tc, td, tk, tn, ts, t⟩ := F.ex
  refine ⟨tk, fun s us X hl => ?_⟩
  obtain ⟨k, e1, e2⟩ := h (.ref T) kV doc pm an cdv ct (.int j tk) us (by simpa using hl)
  exact BindsTo.of_defaults rfl (X _ _ t) rfl e1 e2
end
def CalD (P : Program) (w : World) (K : PySem.W.Frag) (mg : Str → Option Value) (base : Heap) (k : Nat) (x : Str) (n : Nat) (j : Int) (g : List PV → Option PV) : Prop :=
  ∃ f fd ps, FnOk P w K mg base CX0 k f fd ps (spM K n g) ∧ mg x = some (.ref f) ∧ PySem.W.keepIn K (.ref f) = true ∧ Binds K fd ps [] ∧ ∃ tk : Tok, Binds K fd ps [.int j tk]
theorem CalD.cal {P : Program} {w : World} {K : PySem.W.Frag} {mg : Str → Option Value} {base : Heap} {k : Nat} {x : Str} {n : Nat} {j : Int} {g : List PV → Option PV} (c : CalD P w K mg base k x n j g) : Cal P w K mg base k x n g := by
  obtain ⟨f, fd, ps, h1, h2, h3, h4, _⟩ := c
  exact ⟨f, fd, ps, h1, h2, h3, h4⟩
section
variable {X : Cx} {e : Expr} {es : List Expr} {ms : List Nat} {ma : PEnv → Option (List PV)} {x : Str} {p pos : Pos} {k n : Nat} {j : Int} {m : MEx}
theorem em_calD {g : List PV → Option PV} (c : CalD X.prog X.w X.K X.mg X.base k x n j g) (hn : ∀ ps r, g ps = some r → ps.length = n) (hr : Room k X.A) (hg : Gl X x)
    (ha : AM X ms [e] (aCons m aNil)) (hdb : (x == ("__debug__" : Str)) = false := by decide) (he : starEach [e] X.env = (false, eval e X.env) :: starEach [] X.env := by rfl) (hpl : (backTo pos (starEach [] X.env)).any (·.1) = false := by rfl) :
    EM X ms (.Call (.Name x p) [e] [] pos) (mCall g (aCons m (aCons (mC (.int j)) aNil))) := by
  obtain ⟨f, fd, ps, F, hm, hk, _, tk, hb⟩ := c
  refine PE.imp (pe_call (E := E0) (dvs := [.int j]) F hr hg hm hk hb (.cons ⟨tk, rfl⟩ .nil) pass0 ha hdb he hpl) fun σ H Q h => ?_
  obtain ⟨F, γ, r, k1, k2, k3, w⟩ := h
  obtain ⟨xs, e1, k3⟩ := bind_get k3
  obtain ⟨q, e0, e1⟩ := bind_get e1
  have e1 : some [q, .int j] = some xs := e1
  cases e1
  refine ⟨F, γ, [q], k1, k2, by simp [aCons, aNil, e0], fun vs H1 F1 g1 q1 => ?_⟩
  dsimp only
  have q2 : RepL X.K F1 [q, .int j] (vs ++ [.int j]) := q1.append (.cons (rep_int _) .nil)
  exact ⟨by rw [q2.length]; exact hn _ _ k3, F1, _, r, g1.sub, q2, k3, w.go g1⟩
end
end L2.PM

set_option Elab.async false
set_option linter.all false
set_option maxRecDepth 100000
noncomputable section
namespace L2.PM
open PySem PySem.Spec PyProof.Rows
/-! ### zip of a tuple and a list -/
/-- the parts of a zip lie apart -/
structure ZA (z TI TO i1 i2 : Addr) (f1 f2 : List Addr) : Prop where
  ti : TI ≠ z ∧ TI ≠ TO ∧ TI ≠ i1 ∧ TI ≠ i2
  to : TO ≠ z ∧ TO ≠ i1 ∧ TO ≠ i2
  ii : i1 ≠ z ∧ i2 ≠ z ∧ i1 ≠ i2
  o1 : z ∉ f1 ∧ TO ∉ f1 ∧ i2 ∉ f1
  o2 : z ∉ f2 ∧ TO ∉ f2 ∧ i1 ∉ f2
section
variable {prog : Program} {w : World} {A : Around} {E : Value → Shared → Prop} {s : Shared} {z TI TO i1 i2 : Addr} {f1 f2 : List Addr} {n1 n2 k1 k2 : Nat} {P1 P2 : Nat → Value → Prop} {S1 S2 : Nat → Heap → Prop}
end
/-! ### making one -/
abbrev hz1 (h : Heap) (a : Addr) : Heap := h.push { cls := .type "tuple_iterator", data := .fields #[.ref a, .int 0 0] }
abbrev hz2 (h : Heap) (a c : Addr) : Heap := (hz1 h a).push { cls := .type "list_iterator", data := .fields #[.ref c, .int 0 0] }
abbrev hz3 (h : Heap) (a c : Addr) : Heap := (hz2 h a c).push { cls := .type "tuple", data := .seq #[.ref h.objs.size, .ref (hz1 h a).objs.size] }
abbrev hz4 (h : Heap) (a c : Addr) : Heap := (hz3 h a c).push { cls := .type "tuple", data := .seq #[.none, .none] }
abbrev hz5 (h : Heap) (a c : Addr) : Heap := (hz4 h a c).push { cls := .type "zip", data := .fields #[.none, .bool false, .bool false, .ref (hz2 h a c).objs.size, .ref (hz3 h a c).objs.size] }
/-! ### walking it -/
def Itz (K : PySem.W.Frag) (a c : Addr) : It :=
  ⟨fun i H => ∃ xs ys x y, SqT K H a xs ∧ SqL K H c ys ∧ xs[i]? = some x ∧ ys[i]? = some y,
   fun i H v H' => ∃ T x y, v = .ref T ∧ H T = none ∧ H' = upd H T (.tup [x, y]) ∧ (∀ xs, SqT K H a xs → xs[i]? = some x) ∧ ∀ ys, SqL K H c ys → ys[i]? = some y,
   fun i H => (∃ xs ys, SqT K H a xs ∧ SqL K H c ys ∧ xs.length ≤ i) ∨ ∃ xs ys, SqT K H a xs ∧ SqL K H c ys ∧ i < xs.length ∧ ys.length ≤ i⟩
section
variable {X : Cx} {e a b c : Expr} {es : List Expr} {ms ns ls : List Nat} {m m1 m2 m3 : MEx} {ma : PEnv → Option (List PV)} {pos p p1 p2 p3 pos' : Pos} {x : Str} {id T : String} {tg : Expr}
end
end L2.PM

set_option Elab.async false
set_option linter.all false
set_option maxRecDepth 100000
noncomputable section
namespace L2.PM
open PySem PySem.Spec PyProof.Rows
section
variable {prog : Program} {w : World} {A : Around} {E : Value → Shared → Prop} {s : Shared}
/-- a set of texts with all that a walk over it asks -/
def SetLS (prog : Program) (w : World) (L : Bool) (h : Heap) (a : Addr) (M : List Str) : Prop :=
  ∃ o es ep t, h.get? a = some o ∧ o.ExactSet ∧ o.data = .set es ep t ∧ ElemsOf (strKind prog w) es.toList ∧ (∀ k, k ∈ M ↔ ∃ e ∈ es.toList, (strKind prog w).is k e.2 = true) ∧
    es.size < scanBound ∧ t.fits es.size = true ∧ es.size = M.length ∧ M.Nodup ∧ Kept L t
theorem SetLS.at {L : Bool} {h h' : Heap} {a : Addr} {M : List Str} (x : SetLS prog w L h a M) (e : ∀ o, h.get? a = some o → h'.get? a = some o) : SetLS prog w L h' a M := by
  obtain ⟨o, es, ep, t, ho, r⟩ := x
  exact ⟨o, es, ep, t, e o ho, r⟩
/-- one more -/
def moreS (M : List Str) (k : Str) : List Str := if k ∈ M then M else M ++ [k]
theorem more_nodupS {M : List Str} (h : M.Nodup) (k : Str) : (moreS M k).Nodup := by
  unfold moreS
  split
  · exact h
  · rename_i hk
    rw [List.nodup_append]
    exact ⟨h, by simp, fun a ha b hb => by
      rw [List.mem_singleton] at hb
      subst hb
      exact fun e => hk (e ▸ ha)⟩
theorem put_atS {h : Heap} {a : Addr} {o : Obj} {es : Array (Int × Value)} {ep : Nat} {t : SetTable} (ho : h.get? a = some o) (hd : o.data = .set es ep t) (es' : Array (Int × Value)) (t' : SetTable) :
    (h.update a (Obj.putSet es' t')).get? a = some { o with data := .set es' (ep + 1) t' } := by
  have e := putSet_of es' t' hd
  have z := Heap.get?_update_self (Obj.putSet es' t') ho (by rw [e]; rfl)
  rw [e] at z
  exact z
theorem mem_more_ofS {M : List Str} {k : Str} {v : Value} {l l' : List (Int × Value)} (hk : (strKind prog w).is k v = true) (hm : ∀ k, k ∈ M ↔ ∃ e ∈ l, (strKind prog w).is k e.2 = true) (hn : k ∉ M) (p : l'.Perm (l ++ [((strKind prog w).hash k, v)])) (j : Str) :
    j ∈ moreS M k ↔ ∃ e ∈ l', (strKind prog w).is j e.2 = true := by
  unfold moreS
  rw [if_neg hn, List.mem_append, List.mem_singleton]
  constructor
  · rintro (z | rfl)
    · obtain ⟨e, he, q⟩ := (hm j).mp z
      exact ⟨e, p.mem_iff.mpr (List.mem_append_left _ he), q⟩
    · exact ⟨_, p.mem_iff.mpr (List.mem_append_right _ (List.mem_singleton_self _)), hk⟩
  · rintro ⟨e, he, q⟩
    rcases List.mem_append.mp (p.mem_iff.mp he) with z | z
    · exact .inl ((hm j).mpr ⟨e, z, q⟩)
    · rw [List.mem_singleton.mp z] at q
      exact .inr ((strKind prog w).inj v j k q hk)
theorem add_LS {L : Bool} {a : Addr} {M : List Str} {k : Str} {tk : Tok} {Q : Bool → Shared → Prop} (hS : SetLS prog w L s.heap a M) (room : M.length + 1 < scanBound)
    (fin : ∀ b h', Heap.SameBut a s.heap h' → SetLS prog w L h' a (moreS M k) → Q b { s with heap := h' }) : wpAny (model prog w) A (setAddHashed a (.str k tk) ((strKind prog w).hash k)) Q E s := by
  obtain ⟨o, es, ep, t, ho, hex, hd, hel, hm, hb, hf, hn, hnd, hkp⟩ := hS
  have hk : (strKind prog w).is k (.str k tk) = true := strKind_is _ _ _ _
  have hsc : (Value.str k tk).scannable = true := rfl
  have tail : ∀ (g : Bool → Sem Unit), (∀ (b : Bool) (s₁ : Shared) (R : Unit → Shared → Prop), R () s₁ → wpAny (model prog w) A (g b) R E s₁) → ∀ (eA : Array (Int × Value)) (tB : SetTable) (wd : Bool) (R : Option Bool → Shared → Prop),
      ElemsOf (strKind prog w) eA.toList → (∀ j, j ∈ moreS M k ↔ ∃ e ∈ eA.toList, (strKind prog w).is j e.2 = true) → eA.size < scanBound → tB.fits eA.size = true → eA.size = (moreS M k).length → Kept L tB →
      (∀ h', Heap.SameBut a s.heap h' → SetLS prog w L h' a (moreS M k) → R (some true) { s with heap := h' }) →
      wpAny (model prog w) A (do
        storeSet a eA tB
        if (!wd && tB.tooFull) = true then do
            g (relayAll tB eA (SetTable.grown eA.size)).2.2
            storeSet a (relayAll tB eA (SetTable.grown eA.size)).1 (relayAll tB eA (SetTable.grown eA.size)).2.1
            pure (some true)
          else pure (some true)) R E s := by
    intro g hg eA tB wd R h1 h2 h3 h4 h5 h6 hR
    have at1 := put_atS ho hd eA tB
    refine wpAny_bind (wpAny_storeSet_of ho hd ?_ (fits_of_scanBound h3))
    have sb1 := Heap.SameBut.update s.heap a (Obj.putSet eA tB)
    split
    · have p := relayAll_perm tB eA (SetTable.grown eA.size)
      have ff := relayAll_fits tB eA (SetTable.grown eA.size)
      have kk := kept_relay h6 eA (SetTable.grown eA.size)
      generalize relayAll tB eA (SetTable.grown eA.size) = rl at p ff kk ⊢
      obtain ⟨es2, t3, gave⟩ := rl
      have sz : es2.size = eA.size := by
        have := p.length_eq
        simpa using this
      refine wpAny_bind (hg _ _ _ (wpAny_bind (wpAny_storeSet_of at1 rfl ?_ (fits_of_scanBound (by show es2.size < _; rw [sz]; exact h3)))))
      have at2 := put_atS at1 rfl es2 t3
      refine wpAny_pure (hR _ (sb1.trans (Heap.SameBut.update _ a _)) ⟨_, es2, _, t3, at2, hex, rfl, h1.perm p, fun j => (h2 j).trans ⟨fun ⟨e, he, q⟩ => ⟨e, p.mem_iff.mpr he, q⟩, fun ⟨e, he, q⟩ => ⟨e, p.mem_iff.mp he, q⟩⟩, by rw [sz]; exact h3, ff, by rw [sz]; exact h5, more_nodupS hnd k, kk⟩)
    · exact wpAny_pure (hR _ sb1 ⟨_, eA, _, tB, at1, hex, rfl, h1, h2, h3, h4, h5, more_nodupS hnd k, h6⟩)
  unfold setAddHashed setAddHashedIn
  refine wpAny_holding (wpAny_bind (wpAny_setState_of ho hd hf ?_))
  dsimp only
  rw [byScan_of hsc hb hel, if_pos rfl]
  unfold setAddByScan
  refine wpAny_bind (wpAny_bind (wpAny_rule (wpAny_bind (wpAny_setScan_of hk ho hd hf hel ?_))))
  cases hr : List.findIdx? (fun e => (strKind prog w).is k e.2) es.toList with
  | some j =>
    obtain ⟨hj, pj, _⟩ := List.findIdx?_eq_some_iff_getElem.mp hr
    have hkM : k ∈ M := (hm k).mpr ⟨_, List.getElem_mem hj, pj⟩
    refine wpAny_pure (wpAny_pure ?_)
    have z := fin false s.heap (Heap.SameBut.refl a s.heap) (by
      unfold moreS
      rw [if_pos hkM]
      exact ⟨o, es, ep, t, ho, hex, hd, hel, hm, hb, hf, hn, hnd, hkp⟩)
    exact z
  | none =>
    have hkM : k ∉ M := fun z => by
      obtain ⟨e, he, q⟩ := (hm k).mp z
      rw [List.findIdx?_eq_none_iff.mp hr e he] at q
      cases q
    have gw : ∀ (b : Bool) (s₁ : Shared) (R : Unit → Shared → Prop), R () s₁ → wpAny (model prog w) A (match b with | true => rule "set.scan.the-table-gave-way" | false => pure ()) R E s₁ := fun b s₁ R hq => by
      cases b
      · exact wpAny_pure hq
      · exact wpAny_rule hq
    have pm := layNew_perm t es ((strKind prog w).hash k) (.str k tk)
    have fi := layNew_fits t es ((strKind prog w).hash k) (.str k tk)
    have kp := kept_layNew hkp es ((strKind prog w).hash k) (.str k tk)
    dsimp only
    generalize layNew t es ((strKind prog w).hash k) (.str k tk) = ly at pm fi kp ⊢
    obtain ⟨eA, t1, wd, gave⟩ := ly
    dsimp only at pm fi kp ⊢
    rw [Array.toList_push] at pm
    have sz : eA.size = es.size + 1 := by
      have := pm.length_eq
      simpa using this
    have szM : eA.size = (moreS M k).length := by
      unfold moreS
      rw [if_neg hkM, sz, hn]
      simp
    refine wpAny_bind (gw _ _ _ ?_)
    have done : ∀ h', Heap.SameBut a s.heap h' → SetLS prog w L h' a (moreS M k) → wpAny (model prog w) A (match some true with | some added => pure added | none => setAddHashedIn a (.str k tk) ((strKind prog w).hash k) 99999) Q E { s with heap := h' } := fun h' sb z => wpAny_pure (fin true h' sb z)
    split
    · refine wpAny_bind ?_
      rw [hashByValue_scannable 8 hsc]
      refine wpAny_pure (tail _ gw eA _ wd _ ((hel.push hk hsc).perm pm) (mem_more_ofS hk hm hkM pm) (by omega) ?_ szM ?_ done)
      · split
        · exact fi
        · exact SetTable.fits_plain_off fi
      · split
        · exact kp
        · exact kept_plain kp _
    · refine wpAny_bind (wpAny_pure ?_)
      rw [if_pos rfl]
      exact tail _ gw eA _ wd _ ((hel.push hk hsc).perm pm) (mem_more_ofS hk hm hkM pm) (by omega) fi szM kp done
end
end L2.PM

set_option Elab.async false
set_option linter.all false
set_option maxRecDepth 100000
noncomputable section
namespace L2.PM
open PySem PySem.Spec PyProof.Rows
def seenS (val : Nat → Str) (i : Nat) : List Str := ((List.range i).map val).foldl moreS []
theorem seen_succS (val : Nat → Str) (i : Nat) : seenS val (i + 1) = moreS (seenS val i) (val i) := by
  unfold seenS
  rw [List.range_succ, List.map_append, List.foldl_append]
  rfl
theorem more_lenS (M : List Str) (k : Str) : (moreS M k).length ≤ M.length + 1 := by
  unfold moreS
  split
  · omega
  · simp
theorem seen_lenS (val : Nat → Str) : ∀ i, (seenS val i).length ≤ i
  | 0 => Nat.le_refl _
  | i + 1 => by
    rw [seen_succS]
    have := more_lenS (seenS val i) (val i)
    have := seen_lenS val i
    omega
section
variable {prog : Program} {w : World} {A : Around} {E : Value → Shared → Prop} {s : Shared}
theorem updLoopS {R : Result → Shared → Prop} {I : Addr} {fp wr : List Addr} {G : Array GenState → Array GenState → Prop} {n : Nat} {P : Nat → Value → Prop} {St : Nat → Shared → Prop} {L : Bool}
    (W : WalksS prog w A.in1 I fp wr G n P St) (D : Addr) (out : D ∉ fp) (val : Nat → Str) (hval : ∀ i v, P i v → ∃ t, v = .str (val i) t) (small : n + 1 < scanBound) :
    ∀ (k i : Nat) (s : Shared), n - i = k → i ≤ n → St i s → SetLS prog w L s.heap D (seenS val i) →
      (∀ s', Moved (D :: wr) G s s' → SetLS prog w L s'.heap D (seenS val n) → R (.ok (.ret .none)) s') → codeAny (model prog w) A (.builtin "set.update.loop" ⟨[.ref D, .ref I], []⟩) R s
  | 0, i, s, hk, hi, st, hS, fin => by
    obtain rfl : i = n := by omega
    have dw : D ∉ wr := fun z => out (W.sub _ z)
    refine codeAny_builtin PyProof.Rows.F.entry_set_update_loop ?_
    rw [Around.under_plainId PyProof.Rows.F.plain_set_update_loop _]
    show wpAny _ A.in1 (pyNext (.ref I) >>= _) _ _ s
    refine wpAny_bind (W.done s _ _ st fun s' mv => ?_)
    show wpAny _ A.in1 (ret Value.none) _ _ s'
    exact wpAny_pure (fin s' (mv.mono fun b hb => List.mem_cons_of_mem _ hb) (hS.at fun o e => mv.heap D o dw e))
  | k + 1, i, s, hk, hi, st, hS, fin => by
    have dw : D ∉ wr := fun z => out (W.sub _ z)
    refine codeAny_builtin PyProof.Rows.F.entry_set_update_loop ?_
    rw [Around.under_plainId PyProof.Rows.F.plain_set_update_loop _]
    show wpAny _ A.in1 (pyNext (.ref I) >>= _) _ _ s
    refine wpAny_bind (W.item i s _ _ (by omega) st fun v s' hp st' mv => ?_)
    obtain ⟨t, rfl⟩ := hval i v hp
    show wpAny _ A.in1 (holding [Value.str (val i) t] (setAdd D (.str (val i) t)) >>= _) _ _ s'
    refine wpAny_bind (wpAny_holding ?_)
    unfold setAdd
    refine wpAny_holding (wpAny_bind ((strKind prog w).pyHash (k := val i) (strKind_is _ _ _ _) ?_))
    have sl := seen_lenS val i
    refine add_LS (s := { s' with toks := s'.toks + 1 }) (hS.at fun o e => mv.heap D o dw e) (by omega) fun b h' sb z => ?_
    rw [← seen_succS] at z
    refine wpAny_pure ⟨plainId_quiet PyProof.Rows.F.plain_set_update_loop _, updLoopS W D out val hval small k (i + 1) _ (by omega) (by omega) (W.frame _ s' _ _ st' (Nat.le_succ _) fun b hb o e => ?_) z fun s'' mv2 z2 => ?_⟩
    · exact (sb.2 b fun q => out (q ▸ hb)).trans e
    · refine fin s'' (Moved.trans W.gtrans ((mv.mono fun b hb => List.mem_cons_of_mem _ hb).then_heap (Nat.le_succ _) fun b o hb e => ?_) mv2) z2
      exact (sb.2 b fun q => hb (q ▸ List.mem_cons_self)).trans e
def StrsA : List Value → List Str → Prop
  | [], [] => True
  | v :: vs, x :: xs => (∃ t, v = .str x t) ∧ StrsA vs xs
  | _, _ => False
theorem StrsA.str_at : ∀ {vs : List Value} {xs : List Str}, StrsA vs xs → ∀ (i : Nat) (v : Value), vs[i]? = some v → ∃ t, v = .str (xs.getD i "") t
  | [], _, _, i, v, e => by simp at e
  | w :: vs, [], h, _, _, _ => h.elim
  | w :: vs, x :: xs, h, 0, v, e => by
    simp at e
    subst e
    exact h.1
  | w :: vs, x :: xs, h, i + 1, v, e => by
    have := StrsA.str_at h.2 i v (by simpa using e)
    simpa using this
theorem fresh_LS {h : Heap} {a : Addr} (e : h.get? a = some { cls := .type "set", dict := none, data := .set #[] 0 (.fresh 0 0 (!byT w)) }) : SetLS prog w (!byT w) h a [] :=
  ⟨_, #[], 0, _, e, ⟨rfl, rfl, rfl⟩, rfl, fun e he => by simp at he, fun k => by simp, by decide, by rfl, rfl, .nil, rfl, by unfold Up; simp [SetTable.fresh]⟩
set_option maxHeartbeats 3200000 in
theorem call_setTS {l : Addr} {its : Array Value} {ns : List Str} {Q : Value → Shared → Prop} (calm : A.handled = none) (hl : s.heap.IsTuple l its) (hi : StrsA its.toList ns) (hb : its.size + 1 < scanBound)
    (fin : ∀ (h' : Heap) (tk : Nat), SetLS prog w (!byT w) h' s.heap.objs.size (seenS (fun i => ns.getD i "") its.size) → (∀ b o, b < s.heap.objs.size → s.heap.get? b = some o → h'.get? b = some o) → Q (.ref s.heap.objs.size) { s with heap := h', toks := tk }) :
    wpAny (model prog w) A (call (.type "set") [.ref l]) Q E s := by
  obtain ⟨c, tl, hmro⟩ := PySem.F.called_set.mro
  have hmade := PySem.F.called_set.made
  have hsub := PySem.F.called_set.sub
  refine wpAny_call (codeAny_of_tree ?_)
  show wpAny _ _ (callAny (.type "set") _) _ _ _
  refine wpAny_pure ⟨Code.quiet_builtin _ (by decide +kernel), codeAny_builtin PySem.F.entry_type_call ?_⟩
  rw [Around.under_plain (weight_type_call_type "set" [.ref l] []) rfl]
  have h1 := PySem.F.called_set.notType
  have h2 := PySem.F.called_set.canCreate
  have hct := PySem.F.typeCall_set_1 (.ref l)
  repeat (any_goals (first | assumption | wp_step))
  refine codeAny_mono (setNew (.ref l) (E := E) (Q₁ := fun obj s₁ => obj = .ref s.heap.objs.size ∧ s₁ = { s with heap := s.heap.push { cls := .type "set", dict := none, data := .set #[] 0 (.fresh 0 0 (!byT w)) } }) ⟨rfl, rfl⟩) fun r s₁ hr => ?_
  cases r with
  | error e => exact hr
  | ok fl =>
    cases fl with
    | ret obj =>
      obtain ⟨rfl, rfl⟩ := hr
      have at0 : (s.heap.push { cls := .type "set", dict := none, data := .set #[] 0 (.fresh 0 0 (!byT w)) }).get? s.heap.objs.size = some { cls := .type "set", dict := none, data := .set #[] 0 (.fresh 0 0 (!byT w)) } := Heap.get?_push_size _ rfl
      have hT : Shared.TypeIs { s with heap := s.heap.push { cls := .type "set", dict := none, data := .set #[] 0 (.fresh 0 0 (!byT w)) } } (.ref s.heap.objs.size) "set" := ⟨_, at0, rfl⟩
      have hli := PySem.F.called_set.init.lookup
      have hbi := PySem.F.called_set.init.bind (.ref s.heap.objs.size)
      repeat (any_goals (first | assumption | wp_step))
      refine codeAny_mono (codeAny_call_builtin (R := wants (fun r s₂ => r = .none ∧ ∃ h' tk, s₂ = { s with heap := h', toks := tk } ∧ SetLS prog w (!byT w) h' s.heap.objs.size (seenS (fun i => ns.getD i "") its.size) ∧
          (∀ b o, b < s.heap.objs.size → s.heap.get? b = some o → h'.get? b = some o)) E) PySem.F.called_set.init.plain PySem.F.entry_set_init (check_set_init_1 hT ?_)) fun r₂ s₂ hr₂ => ?_
      · obtain ⟨ol, hol, hcl, nl, hdl⟩ := hl
        obtain ⟨ocls, odict, odata, oslots⟩ := ol
        simp only at hcl hdl
        subst hcl; subst hdl
        have lold : (s.heap.push { cls := .type "set", dict := none, data := .set #[] 0 (.fresh 0 0 (!byT w)) }).get? l = some { cls := .type "tuple", dict := odict, data := .seq its nl, slots := oslots } := Heap.get?_push_of_some _ hol
        have hsls := PySem.F.sub_tuple_set
        have hslf := PySem.F.sub_tuple_frozenset
        have hne : (Value.type "tuple" == Value.type "dict") = false := by decide
        have lis : (s.heap.push { cls := .type "set", dict := none, data := .set #[] 0 (.fresh 0 0 (!byT w)) }).IsTuple l its := ⟨_, lold, rfl, nl, rfl⟩
        unfold Builtin.«set.__init__» noKeywords Builtin.Frozenset.updateFrom
        generalize hPI : pyIter = PI
        wp_walk
        subst hPI
        refine wpAny_pyIter_tuple lis (wpAny_bind (wpAny_runValue ?_))
        have llt : l < s.heap.objs.size := Heap.lt_size hol
        have calm3 : A.in1.in1.in1.handled = none := by simp [calm]
        have ne1 : l ≠ (s.heap.push { cls := .type "set", dict := none, data := .set #[] 0 (.fresh 0 0 (!byT w)) }).objs.size := by
          rw [Heap.size_push]
          exact Nat.ne_of_lt (Nat.lt_succ_of_lt llt)
        have nin : s.heap.objs.size ∉ [(s.heap.push { cls := .type "set", dict := none, data := .set #[] 0 (.fresh 0 0 (!byT w)) }).objs.size, l] := by
          rw [Heap.size_push]
          intro z
          rcases List.mem_cons.mp z with z | z
          · exact absurd z (Nat.ne_of_lt (Nat.lt_succ_self _))
          · rw [List.mem_singleton] at z
            exact absurd z (Nat.ne_of_gt llt)
        have hval : ∀ (i : Nat) (v : Value), its[i]? = some v → ∃ t, v = .str ((fun i => ns.getD i "") i) t := fun i v hv => StrsA.str_at hi i v (by rw [Array.getElem?_toList]; exact hv)
        refine updLoopS (L := !byT w) ((Walks.tuple calm3 _ l ne1 its).toS) s.heap.objs.size nin (fun i => ns.getD i "") hval hb (its.size - 0) 0 _ (by omega) (Nat.zero_le _) ⟨⟨_, Heap.get?_push_size _ rfl, rfl, rfl⟩, lis.push _⟩ ?start ?fin
        case start => exact fresh_LS (Heap.get?_push_of_some _ at0)
        case fin =>
          intro s' hm z
          obtain ⟨h', g', d', tk', os'⟩ := s'
          obtain rfl : g' = s.gens := hm.gens
          obtain rfl : d' = s.drawn := hm.drawn
          obtain rfl : os' = s.os := hm.os
          show wpAny _ _ _ _ _ _
          refine wpAny_pure ?_
          show wpAny _ _ (ret Value.none) _ _ _
          refine wpAny_pure ⟨rfl, h', tk', rfl, z, fun b o hb e => ?_⟩
          refine hm.heap b o (fun q => ?_) (Heap.get?_push_of_some _ (Heap.get?_push_of_some _ e))
          rw [Heap.size_push] at q
          rcases List.mem_cons.mp q with q | q
          · exact absurd q (Nat.ne_of_lt hb)
          · rw [List.mem_singleton] at q
            exact absurd q (Nat.ne_of_lt (Nat.lt_succ_of_lt hb))
      · cases r₂ with
        | error e => exact hr₂
        | ok fl₂ =>
          cases fl₂ with
          | ret r =>
            obtain ⟨rfl, h', tk, rfl, z, k⟩ := hr₂
            repeat (any_goals (first | assumption | wp_step))
            exact fin _ _ z k
          | _ => exact hr₂.elim
    | _ => exact hr.elim
end
end L2.PM

set_option Elab.async false
set_option linter.all false
set_option maxRecDepth 100000
noncomputable section
namespace L2.PM
open PySem PySem.Spec PyProof.Rows
/-! ### set(..) of texts, counted -/
theorem mem_moreS {M : List Str} {k x : Str} : x ∈ moreS M k ↔ x ∈ M ∨ x = k := by
  unfold moreS
  split
  · rename_i h
    exact ⟨.inl, fun q => q.elim id fun e => e ▸ h⟩
  · simp
theorem fold_moreS : ∀ (l M : List Str), M.Nodup → (l.foldl moreS M).Nodup ∧ ∀ x, x ∈ l.foldl moreS M ↔ x ∈ M ∨ x ∈ l
  | [], M, h => ⟨h, fun x => by simp⟩
  | y :: l, M, h => by
    obtain ⟨a, b⟩ := fold_moreS l (moreS M y) (more_nodupS h y)
    refine ⟨a, fun x => ?_⟩
    rw [List.foldl_cons, b x, mem_moreS, List.mem_cons]
    exact ⟨fun q => q.elim (fun q => q.elim .inl fun e => .inr (.inl e)) fun q => .inr (.inr q), fun q => q.elim (fun q => .inl (.inl q)) fun q => q.elim (fun e => .inl (.inr e)) .inr⟩
theorem mem_onceIS {y : Str} : ∀ {xs : List Str}, y ∈ once xs ↔ y ∈ xs
  | [] => by simp [once]
  | x :: xs => by
    unfold once
    rw [List.mem_cons, List.mem_cons, List.mem_filter, mem_onceIS (xs := xs)]
    by_cases h : y = x <;> simp [h]
theorem onceI_nodupS : ∀ xs : List Str, (once xs).Nodup
  | [] => by simp [once]
  | x :: xs => by
    unfold once
    rw [List.nodup_cons]
    exact ⟨by simp [List.mem_filter], List.Pairwise.filter _ (onceI_nodupS xs)⟩
theorem seen_onceS (ns : List Str) : (seenS (fun i => ns.getD i "") ns.length).Perm (once ns) := by
  have e : (List.range ns.length).map (fun i => ns.getD i "") = ns := by
    apply List.ext_getElem?
    intro i
    rw [List.getElem?_map]
    by_cases h : i < ns.length
    · rw [List.getElem?_range h]; simp [h]
    · rw [List.getElem?_eq_none (by rw [List.length_range]; omega), List.getElem?_eq_none (by omega)]; rfl
  unfold seenS
  rw [e]
  obtain ⟨a, b⟩ := fold_moreS ns [] .nil
  exact (List.perm_ext_iff_of_nodup a (onceI_nodupS ns)).mpr fun x => by rw [b x, mem_onceIS]; simp
section
variable {X : Cx} {e a b c : Expr} {es : List Expr} {ms ns ls : List Nat} {m m1 m2 m3 : MEx} {ma : PEnv → Option (List PV)} {pos p p1 p2 p3 pos' : Pos} {x : Str} {id T : String}
def setAtS (X : Cx) (p : Addr) (M : List Str) : HO := .ext fun h => SetLS X.prog X.w (!byT X.w) h p M
theorem strsA_of : ∀ {xs : List Str} {us : List Value}, Vals (xs.map V.str) us → StrsA us xs
  | [], _, .nil => trivial
  | x :: xs, _, .cons ⟨t, h⟩ r => ⟨⟨t, h⟩, strsA_of r⟩
theorem call_setTR (hc : X.calm = true) : CallR X (.type "set") (fun vs H Q => ∃ (l : Addr) (ns : List Str), vs = [.ref l] ∧ SqT X.K H l (ns.map V.str) ∧ ns.length < 1000 ∧ ∀ p M, H p = none → M.Perm (once ns) → Q (.ref p) (upd H p (setAtS X p M))) := by
  intro pins s σ H vs us Q I rs h
  obtain ⟨l, ns, rfl, hl, hn, q⟩ := h
  obtain ⟨u, rfl, ru⟩ := vals1 rs
  cases ru
  obtain ⟨its, rv, pl, _⟩ := I.tuple hl
  have hlen := rv.length
  rw [List.length_map] at hlen
  refine call_setTS (I.ok.hd hc) pl (by simpa using strsA_of rv) (by simp only [List.size_toArray]; show its.length + 1 < 4096; omega) fun h' tk z k => ?_
  have e : its.toArray.size = ns.length := by simp only [List.size_toArray]; exact hlen.symm
  rw [e] at z
  refine ⟨.ref s.heap.objs.size, upd H s.heap.objs.size (setAtS X s.heap.objs.size _), I.laid (t' := tk) (fun b o q => k b o (Heap.lt_size q) q) (Nat.le_refl _) ⟨z, ?_, fun h1 h2 z1 k1 => z1.at k1⟩, rfl, q _ _ I.fresh (seen_onceS ns)⟩
  obtain ⟨o, _, _, _, ho, _⟩ := z
  exact ⟨o, ho⟩
theorem call_lenSetTR : CallR X (.builtin "len") (fun vs H Q => ∃ (D : Addr) (M : List Str), vs = [.ref D] ∧ H D = some (setAtS X D M) ∧ Q (.int M.length) H) := by
  intro pins s σ H vs us Q I rs h
  obtain ⟨D, M, rfl, hD, q⟩ := h
  obtain ⟨u, rfl, ru⟩ := vals1 rs
  cases ru
  obtain ⟨z, _, _⟩ := I.hok D _ hD
  obtain ⟨o, es, ep, t, ho, hex, hd, hel, hm, hb, hf, hn, hnd, hkp⟩ := z
  refine call_len_set ho hex hd hf (by have : es.size < 4096 := hb; omega) ⟨.int M.length, H, I.tok _, ⟨_, by rw [hn]⟩, q⟩
theorem repL_strsOf {K : PySem.W.Frag} {F : Hp} : ∀ {xs : List PV} {ns : List Str} {vs : List V}, strs? xs = some ns → RepL K F xs vs → vs = ns.map V.str
  | [], ns, vs, h, r => by
    unfold RepL at r
    subst r
    cases h
    rfl
  | x :: xs, ns, vs, h, r => by
    unfold RepL at r
    obtain ⟨v, t, rfl, r1, r2⟩ := r
    cases x with
    | str y =>
      unfold strs? at h
      cases hx : strs? xs with
      | none => rw [hx] at h; cases h
      | some ss =>
        rw [hx] at h
        cases h
        unfold Rep at r1
        subst r1
        rw [repL_strsOf hx r2]
        rfl
    | _ => unfold strs? at h; cases h
theorem em_lenSetT (hc : X.calm = true) (hg : Gl X "set") (hm : X.mg "set" = none) (hg2 : Gl X "len") (hm2 : X.mg "len" = none) (ha : AM X ms [a] ma)
    (hs : starEach [a] X.env = (false, eval a X.env) :: starEach [] X.env := by rfl) (hpl : (backTo pos (starEach [] X.env)).any (·.1) = false := by rfl)
    (hs2 : starEach [.Call (.Name "set" p1) [a] [] pos] X.env = (false, eval (.Call (.Name "set" p1) [a] [] pos) X.env) :: starEach [] X.env := by rfl) (hpl2 : (backTo pos' (starEach [] X.env)).any (·.1) = false := by rfl) :
    EM X ms (.Call (.Name "len" p2) [.Call (.Name "set" p1) [a] [] pos] [] pos') (mCall pLenSetS ma) :=
  PE.imp (pe_callB call_lenSetTR hg2 hm2 PySem.boot_len (pa_cons (pe_callTy (call_setTR hc) hg hm (by kernel_rfl) ha (by decide) (by decide) hs hpl) pa_nil hs2) (by decide) (by decide) hs2 hpl2) fun σ H Q ⟨F, γ, r, k1, k2, k3, w⟩ => by
    obtain ⟨qs, e1, k3⟩ := bind_get k3
    refine ⟨F, γ, qs, k1, k2, e1, fun vs H1 F1 g1 q1 => ?_⟩
    unfold pLenSetS at k3
    split at k3
    · rename_i xs
      unfold RepL at q1
      obtain ⟨v, t, rfl, q1, qt⟩ := q1
      unfold RepL at qt
      subst qt
      unfold Rep at q1
      obtain ⟨l, us, rfl, sl, rl⟩ := q1
      split at k3
      · rename_i ns hns
        obtain ⟨c1, rfl⟩ := ite_get k3
        have e2 := repL_strsOf hns rl
        subst e2
        refine ⟨l, ns, rfl, g1.sub.seqT sl, c1, fun p M hp hM => ?_⟩
        refine ⟨p, M, rfl, upd_same, ?_⟩
        have g2 : Grow F1 H1 F1 (upd H1 p (setAtS X p M)) := .side g1.sub hp
        rw [hM.length_eq]
        exact w _ _ F1 (g1.trans g2) (rep_int _)
      · cases k3
    · cases k3
end
end L2.PM

set_option Elab.async false
set_option linter.all false
set_option maxRecDepth 100000
noncomputable section
namespace L2.PM
open PySem PySem.Spec PyProof.Rows
section
variable {X : Cx} {pos p : Pos} {x : Str}
theorem em_gI {i : Int} (hg : Gl X x) (hm : ∃ t, X.mg x = some (.int i t)) (hd : (x == ("__debug__" : Str)) = false := by decide) : EM X [] (.Name x pos) (mC (.int i)) := by
  obtain ⟨t, h⟩ := hm
  exact em_globI hg h hd
theorem em_gT {ts : List Str} (hg : Gl X x) (hm : ∃ a, X.mg x = some (.ref a) ∧ GT X.K a ts) (hd : (x == ("__debug__" : Str)) = false := by decide) : EM X [] (.Name x pos) (mC (.tup (ts.map .str))) := by
  obtain ⟨a, h1, h2⟩ := hm
  exact em_globT hg h1 h2 hd
theorem star_str {i : Str} {j : Nat} {q : Pos} {es : List Expr} {env : Env} : starEach (.Constant (.str i) j q :: es) env = (false, eval (.Constant (.str i) j q) env) :: starEach es env := rfl
theorem am_str {es : List Expr} {ma : PEnv → Option (List PV)} {i : Str} {j : Nat} {q : Pos} (hr : AM X [] es ma) : AM X [] (.Constant (.str i) j q :: es) (aCons (mC (.str i)) ma) := am_cons em_str hr star_str
def strArgs : List Str → PEnv → Option (List PV)
  | [] => aNil
  | s :: ss => aCons (mC (.str s)) (strArgs ss)
theorem am_pa {ms : List Nat} {es : List Expr} {ma : PEnv → Option (List PV)} (h : AM X ms es ma) : PA X es (tMA X.K ms ma) := h
end
end L2.PM

set_option Elab.async false
set_option linter.all false
set_option maxRecDepth 100000
noncomputable section
namespace L2.PM
open PySem PySem.Spec PyProof.Rows

/-! ### reckoning with mirrors -/
theorem cMul_right {i j : Int} (h1 : -(2 ^ 64) < j) (h2 : j < 2 ^ 64) : cMul i j = true := by
  unfold cMul
  rw [Bool.or_eq_true]
  exact .inr (cls_of ⟨h1, h2⟩)
theorem cMul_left {i j : Int} (h1 : -(2 ^ 64) < i) (h2 : i < 2 ^ 64) : cMul i j = true := by
  unfold cMul
  rw [Bool.or_eq_true]
  exact .inl (cls_of ⟨h1, h2⟩)
theorem pAdd_i (i j : Int) : pAdd (.int i) (.int j) = some (.int (i + j)) := rfl
theorem pSub_i (i j : Int) : pSub (.int i) (.int j) = some (.int (i - j)) := rfl
theorem pMul_l {i j : Int} (h1 : -(2 ^ 64) < i) (h2 : i < 2 ^ 64) : pMul (.int i) (.int j) = some (.int (i * j)) := if_pos (cMul_left h1 h2)
theorem pMul_r {i j : Int} (h1 : -(2 ^ 64) < j) (h2 : j < 2 ^ 64) : pMul (.int i) (.int j) = some (.int (i * j)) := if_pos (cMul_right h1 h2)
theorem pMod_i {i j : Int} (h : 0 < j) : pMod (.int i) (.int j) = some (.int (i % j)) := if_pos (decide_eq_true h)
theorem pDiv_i {i j : Int} (h : 0 < j) (h2 : j < 2 ^ 200) : pDiv (.int i) (.int j) = some (.int (i / j)) := if_pos (cls_of ⟨h, h2⟩)
theorem pLt_i (i j : Int) : pLt (.int i) (.int j) = some (.bl (decide (i < j))) := rfl
theorem pLe_i (i j : Int) : pLe (.int i) (.int j) = some (.bl (decide (i ≤ j))) := rfl
theorem pGt_i (i j : Int) : pGt (.int i) (.int j) = some (.bl (decide (j < i))) := rfl
theorem pGe_i (i j : Int) : pGe (.int i) (.int j) = some (.bl (decide (j ≤ i))) := rfl
theorem pAnd_i (i j : Int) : pAnd (.int i) (.int j) = some (.int (Builtin.bitAnd i j)) := rfl
theorem pOr_i (i j : Int) : pOr (.int i) (.int j) = some (.int (Builtin.bitOr i j)) := rfl
theorem pShl_one {k : Int} (h0 : 0 ≤ k) (h1 : k ≤ 1000000) : pShl (.int 1) (.int k) = some (.int (2 ^ k.toNat)) := by
  have e : pShl (.int 1) (.int k) = some (.int (1 * 2 ^ k.toNat)) := if_pos (cls_of ⟨h0, h1, by decide⟩)
  rw [e, Int.one_mul]
theorem pShr_i {i k : Int} (h0 : 0 ≤ k) : pShr (.int i) (.int k) = some (.int (i / 2 ^ k.toNat)) := if_pos (decide_eq_true h0)
theorem okv_int (i : Int) : okv (.int i) = true := by simp [okv, dep, okS]
theorem okv_str {s : Str} (h : PyData.strOk s = true) : okv (.str s) = true := by simp [okv, dep, okS, h]
theorem pEq_ok {p q : PV} (h1 : okv p = true) (h2 : okv q = true) : pEq p q = some (.bl (peq p q)) := if_pos ⟨h1, h2⟩
theorem pNe_ok {p q : PV} (h1 : okv p = true) (h2 : okv q = true) : pNe p q = some (.bl (!peq p q)) := if_pos ⟨h1, h2⟩
theorem pEq_i (i j : Int) : pEq (.int i) (.int j) = some (.bl (i == j)) := by rw [pEq_ok (okv_int i) (okv_int j)]; simp [peq]
theorem pNe_i (i j : Int) : pNe (.int i) (.int j) = some (.bl (!(i == j))) := by rw [pNe_ok (okv_int i) (okv_int j)]; simp [peq]
theorem pIs_non (p : PV) : pIs p .non = some (.bl (isN p)) := by cases p <;> rfl
theorem pIsNot_non (p : PV) : pIsNot p .non = some (.bl (!isN p)) := by cases p <;> rfl
theorem le_lim {n : Nat} (h : n ≤ 100000) : n ≤ LIM := Nat.le_trans h (by decide)
theorem lt_lim {n : Nat} (h : n ≤ 100000) : n < LIM := Nat.lt_of_le_of_lt h (by decide)
theorem keepE_true (ms : List Nat) (γ : PEnv) : keepE true ms γ = γ := rfl
theorem keepE_false (ms : List Nat) (γ : PEnv) : keepE false ms γ = frz ms γ := rfl
theorem flat_int (i : Int) : flat (.int i) = true := rfl
theorem flat_bl (i : Bool) : flat (.bl i) = true := rfl
theorem flat_str (i : Str) : flat (.str i) = true := rfl
theorem flat_non : flat .non = true := rfl
theorem flat_tup (i : List PV) : flat (.tup i) = false := rfl
theorem flat_lst (i : List PV) : flat (.lst i) = false := rfl
theorem allflat_ints (ns : List Int) : (ns.map PV.int).all flat = true := by simp [flat]
theorem allflat_strs (ns : List Str) : (ns.map PV.str).all flat = true := by simp [flat]
theorem pIx_lst (xs : List PV) (i : Int) : pIx (.lst xs) (.int i) = atI xs i := rfl
theorem pIx_tup (xs : List PV) (i : Int) : pIx (.tup xs) (.int i) = atI xs i := rfl

/-- a comprehension over things of one's own -/
theorem compL_eq {α : Type} {g : PV → PEnv → Option PEnv} {t : PEnv → Option Bool} {e : MEx} {γ : PEnv} (f : α → PV) (b : α → Bool) (y : α → PV) :
    ∀ (xs : List α), (∀ x ∈ xs, ∃ γ1, g (f x) γ = some γ1 ∧ t γ1 = some (b x) ∧ (b x = true → e γ1 = some (y x))) → compL g t e γ (xs.map f) = some ((xs.filter b).map y)
  | [], _ => rfl
  | x :: xs, h => by
    obtain ⟨γ1, h1, h2, h3⟩ := h x List.mem_cons_self
    have ih := compL_eq f b y xs fun z hz => h z (List.mem_cons_of_mem _ hz)
    rw [List.map_cons, compL, h1, Option.bind_some, h2, Option.bind_some]
    cases hb : b x with
    | true =>
      rw [if_pos rfl, h3 hb, Option.bind_some, ih, List.filter_cons_of_pos hb]
      rfl
    | false =>
      rw [if_neg Bool.false_ne_true, ih, List.filter_cons_of_neg (by simp [hb])]
theorem compL_all {α : Type} {g : PV → PEnv → Option PEnv} {e : MEx} {γ : PEnv} (f : α → PV) (y : α → PV) (xs : List α) (h : ∀ x ∈ xs, ∃ γ1, g (f x) γ = some γ1 ∧ e γ1 = some (y x)) : compL g tYesM e γ (xs.map f) = some (xs.map y) := by
  have := compL_eq (g := g) (t := tYesM) (e := e) (γ := γ) f (fun _ => true) y xs fun x hx => by
    obtain ⟨γ1, h1, h2⟩ := h x hx
    exact ⟨γ1, h1, rfl, fun _ => h2⟩
  rw [this, List.filter_eq_self.mpr (fun _ _ => rfl)]
/-- .. with what has been walked -/
theorem forL_pre {α : Type} {g : PV → PEnv → Option PEnv} {b : MSt} (f : α → PV) (R : List α → PEnv → Prop) (xs : List α) :
    ∀ (ys pre : List α) (γ : PEnv), pre ++ ys = xs → R pre γ → (∀ pre x post γ, pre ++ x :: post = xs → R pre γ → ∃ γ1 γ2, g (f x) γ = some γ1 ∧ b γ1 = some (.nx γ2) ∧ R (pre ++ [x]) γ2) → ∃ γ', forL g b (ys.map f) γ = some (.nx γ') ∧ R xs γ'
  | [], pre, γ, e, r, _ => by
    rw [List.append_nil] at e
    subst e
    exact ⟨γ, rfl, r⟩
  | x :: ys, pre, γ, e, r, h => by
    obtain ⟨γ1, γ2, h1, h2, h3⟩ := h pre x ys γ e r
    obtain ⟨γ', e', r'⟩ := forL_pre f R xs ys (pre ++ [x]) γ2 (by rw [List.append_assoc]; exact e) h3 h
    refine ⟨γ', ?_, r'⟩
    rw [List.map_cons, forL, h1, Option.bind_some, h2, Option.bind_some]
    exact e'
end L2.PM

set_option Elab.async false
set_option linter.all false
set_option maxRecDepth 100000
noncomputable section
namespace L2.PM
open PySem PySem.Spec PyProof.Rows
/-! ### masks and places -/
def pw (row : List Nat) : Nat := (row.map fun i => 2 ^ i).sum
def bitsN (m : Nat) : Nat := if m = 0 then 0 else m.log2 + 1
def plN (m : Nat) : List Nat := (List.range (bitsN m)).filter fun k => m.testBit k
theorem intBits_nat (m : Nat) : Builtin.Int.intBits (m : Int) = bitsN m := by
  unfold Builtin.Int.intBits bitsN
  by_cases h : m = 0
  · subst h; rfl
  · rw [if_neg h, if_neg (by simpa using h)]
    simp
theorem pBits_nat (m : Nat) : pBits (.int (m : Int)) [] = some (.int (bitsN m : Nat)) := by
  have e := intBits_nat m
  show some (PV.int ((Builtin.Int.intBits (m : Int) : Nat) : Int)) = _
  rw [e]
end L2.PM

set_option Elab.async false
set_option linter.all false
set_option maxRecDepth 100000
noncomputable section
namespace L2.PM
open PySem PySem.Spec PyProof.Rows

/-! ### rules for reckoning by simp: named continuations, so that nothing is left to the kernel's unfolding -/
theorem rngL_0 (j : Int) : rngL 0 j = (List.range j.toNat).map fun (k : Nat) => PV.int k := by
  unfold rngL
  rw [show (j - 0) = j by omega]
  exact List.map_congr_left fun k _ => by simp
def rngN (j : Int) : List PV := (List.range j.toNat).map fun (k : Nat) => PV.int k
def rg1 : PV → Option (List PV)
  | .int j => if rOk j = true then some (rngL 0 j) else none
  | _ => none
theorem rg1_i {j : Int} (h1 : -100000 ≤ j) (h2 : j ≤ 100000) : rg1 (.int j) = some ((List.range j.toNat).map fun (k : Nat) => PV.int k) := by
  have e : rg1 (.int j) = if rOk j = true then some (rngL 0 j) else none := rfl
  rw [e, if_pos (rOk_of (by omega) (by omega)), rngL_0]
theorem ev_iRg1 (m : MEx) (γ : PEnv) : iRg1 m γ = (m γ).bind rg1 := by
  unfold iRg1
  cases m γ with
  | none => rfl
  | some p => cases p <;> rfl
def rg2 : PV → PV → Option (List PV)
  | .int i, .int j => if rOk i = true ∧ rOk j = true then some (rngL i j) else none
  | _, _ => none
theorem rg2_i {i j : Int} (h1 : -100000 ≤ i) (h2 : i ≤ 100000) (h3 : -100000 ≤ j) (h4 : j ≤ 100000) : rg2 (.int i) (.int j) = some (rngL i j) := by
  have e : rg2 (.int i) (.int j) = if rOk i = true ∧ rOk j = true then some (rngL i j) else none := rfl
  rw [e, if_pos ⟨rOk_of (by omega) (by omega), rOk_of (by omega) (by omega)⟩]
theorem ev_iRg2 (m1 m2 : MEx) (γ : PEnv) : iRg2 m1 m2 γ = (m1 γ).bind fun p => (m2 γ).bind fun q => rg2 p q := by
  unfold iRg2
  cases m1 γ with
  | none => rfl
  | some p =>
    cases m2 γ with
    | none => rfl
    | some q => cases p <;> cases q <;> rfl
def oRg : PV → Option (List PV)
  | .int j => if rOk j = true ∧ j.toNat ≤ LIM then some (rngL 0 j) else none
  | _ => none
theorem oRg_i {j : Int} (h1 : -100000 ≤ j) (h2 : j ≤ 100000) : oRg (.int j) = some ((List.range j.toNat).map fun (k : Nat) => PV.int k) := by
  have e : oRg (.int j) = if rOk j = true ∧ j.toNat ≤ LIM then some (rngL 0 j) else none := rfl
  rw [e, if_pos ⟨rOk_of (by omega) (by omega), le_lim (by omega)⟩, rngL_0]
theorem ev_oRng (m : MEx) (γ : PEnv) : oRng m γ = (m γ).bind oRg := by
  unfold oRng
  cases m γ with
  | none => rfl
  | some p => cases p <;> rfl
def itL : PV → Option (List PV)
  | .lst xs => some xs
  | _ => none
theorem itL_l (xs : List PV) : itL (.lst xs) = some xs := rfl
theorem ev_iLst (m : MEx) (γ : PEnv) : iLst m γ = (m γ).bind itL := by
  unfold iLst
  cases m γ with
  | none => rfl
  | some p => cases p <;> rfl
def itT : PV → Option (List PV)
  | .tup xs => some xs
  | _ => none
theorem itT_t (xs : List PV) : itT (.tup xs) = some xs := rfl
theorem ev_iTpl (m : MEx) (γ : PEnv) : iTpl m γ = (m γ).bind itT := by
  unfold iTpl
  cases m γ with
  | none => rfl
  | some p => cases p <;> rfl
def itS : PV → Option (List PV)
  | .lst xs => some xs
  | .tup xs => some xs
  | _ => none
theorem itS_l (xs : List PV) : itS (.lst xs) = some xs := rfl
theorem itS_t (xs : List PV) : itS (.tup xs) = some xs := rfl
theorem ev_iSeq (m : MEx) (γ : PEnv) : iSeq m γ = (m γ).bind itS := by
  unfold iSeq
  cases m γ with
  | none => rfl
  | some p => cases p <;> rfl
theorem pEnum_l (xs : List PV) : pEnumL [.lst xs] = some (xs.zipIdx.map fun x => .tup [pN x.2, x.1]) := rfl
theorem pEnum_t (xs : List PV) : pEnumT [.tup xs] = some (xs.zipIdx.map fun x => .tup [pN x.2, x.1]) := rfl
theorem pRev_l (xs : List PV) : pRev [.lst xs] = some xs.reverse := rfl
theorem pRevT_l (xs : List PV) : pRevT [.lst xs] = some (.tup xs.reverse) := rfl
def cmpK (g : PV → PEnv → Option PEnv) (t : PEnv → Option Bool) (e : MEx) (γ : PEnv) (xs : List PV) : Option (List PV) := if xs.length ≤ LIM then compL g t e γ xs else none
theorem cmpK_ok {g : PV → PEnv → Option PEnv} {t : PEnv → Option Bool} {e : MEx} {γ : PEnv} {xs : List PV} (h : xs.length ≤ 100000) : cmpK g t e γ xs = compL g t e γ xs := if_pos (le_lim h)
theorem ev_mComp (mi : PEnv → Option (List PV)) (nt : Nat) (caps : List Nat) (g : PV → PEnv → Option PEnv) (t : PEnv → Option Bool) (e : MEx) (γ : PEnv) : mComp mi nt caps g t e γ = (mi γ).bind (cmpK g t e (blkG nt caps γ)) := rfl
def seqK (s2 : MSt) : Out → Option Out
  | .nx γ => s2 γ
  | o => some o
theorem seqK_nx (s2 : MSt) (γ : PEnv) : seqK s2 (.nx γ) = s2 γ := rfl
theorem seqK_rt (s2 : MSt) (p : PV) : seqK s2 (.rt p) = some (.rt p) := rfl
theorem seqK_ro (s2 : MSt) (p : List PV) : seqK s2 (.ro p) = some (.ro p) := rfl
theorem seqK_ct (s2 : MSt) (γ : PEnv) : seqK s2 (.ct γ) = some (.ct γ) := rfl
theorem seqK_bk (s2 : MSt) (γ : PEnv) : seqK s2 (.bk γ) = some (.bk γ) := rfl
theorem ev_sSeq (s1 s2 : MSt) (γ : PEnv) : sSeq s1 s2 γ = (s1 γ).bind (seqK s2) := by
  unfold sSeq
  cases s1 γ with
  | none => rfl
  | some o => cases o <;> rfl
theorem ev_startG1 (N : Nat) (ps : List PV) : startG N ps = ps.map .fz ++ List.replicate (N - ps.length) .un := rfl
theorem outV_rt (p : PV) : outV (.rt p) = some p := rfl
theorem outV_ro (xs : List PV) : outV (.ro xs) = some (.lst xs) := rfl
theorem outV_nx (γ : PEnv) : outV (.nx γ) = some .non := rfl
theorem ev_bin2 {α : Type} (f : PV → PV → Option α) (m1 m2 : MEx) (γ : PEnv) : bin2 f m1 m2 γ = (m1 γ).bind fun x => (m2 γ).bind (f x) := rfl
theorem ev_mVar (i : Nat) (γ : PEnv) : mVar i γ = getV γ i := rfl
theorem ev_mC (p : PV) (γ : PEnv) : mC p γ = some p := rfl
theorem ev_mCall {α : Type} (g : List PV → Option α) (ma : PEnv → Option (List PV)) (γ : PEnv) : mCall g ma γ = (ma γ).bind g := rfl
theorem ev_mLst (m : PEnv → Option (List PV)) (γ : PEnv) : mLst m γ = (m γ).map PV.lst := rfl
def tupK (xs : List PV) : Option PV := if xs.length ≤ LIM then some (.tup xs) else none
theorem tupK_ok {xs : List PV} (h : xs.length ≤ 100000) : tupK xs = some (.tup xs) := if_pos (le_lim h)
theorem ev_mTup (m : PEnv → Option (List PV)) (γ : PEnv) : mTup m γ = (m γ).bind tupK := rfl
def limK (xs : List PV) : Option (List PV) := if xs.length ≤ LIM then some xs else none
theorem limK_ok {xs : List PV} (h : xs.length ≤ 100000) : limK xs = some xs := if_pos (le_lim h)
theorem ev_mLim (m : PEnv → Option (List PV)) (γ : PEnv) : mLim m γ = (m γ).bind limK := rfl
theorem ev_aNil (γ : PEnv) : aNil γ = some [] := rfl
theorem ev_aCons (m : MEx) (ma : PEnv → Option (List PV)) (γ : PEnv) : aCons m ma γ = (m γ).bind fun x => (ma γ).map (x :: ·) := rfl
theorem isB_bl (b : Bool) : isB (.bl b) = some b := rfl
theorem ev_truB (m : MEx) (γ : PEnv) : truB m γ = (m γ).bind isB := rfl
theorem ev_mIsi (f : PV → Bool) (m : MEx) (γ : PEnv) : mIsi f m γ = (m γ).bind (isiK f) := rfl
theorem isiK_i (f : PV → Bool) (i : Int) : isiK f (.int i) = some (.bl (f (.int i))) := rfl
theorem isiK_b (f : PV → Bool) (i : Bool) : isiK f (.bl i) = some (.bl (f (.bl i))) := rfl
theorem isiK_s (f : PV → Bool) (i : Str) : isiK f (.str i) = some (.bl (f (.str i))) := rfl
theorem isiK_t (f : PV → Bool) (i : List PV) : isiK f (.tup i) = some (.bl (f (.tup i))) := rfl
theorem isiK_l (f : PV → Bool) (i : List PV) : isiK f (.lst i) = some (.bl (f (.lst i))) := rfl
theorem isiK_0 (f : PV → Bool) : isiK f .non = some (.bl (f .non)) := rfl
theorem isiK_n (f : PV → Bool) (i : Nat) : isiK f (pN i) = some (.bl (f (pN i))) := rfl
theorem getV_0 (s : Slot) (γ : PEnv) : getV (s :: γ) 0 = s.val := rfl
theorem getV_s (s : Slot) (γ : PEnv) (i : Nat) : getV (s :: γ) (i + 1) = getV γ i := rfl
theorem val_fz (p : PV) : (Slot.fz p).val = some p := rfl
theorem val_ow (p : List PV) : (Slot.ow p).val = some (.lst p) := rfl
def keep (k : Bool) (ms : List Nat) (γ : PEnv) : PEnv := keepE k ms γ
theorem ev_sRet (m : MEx) (γ : PEnv) : sRet m γ = (m γ).map .rt := rfl
theorem ev_sRetO (m : PEnv → Option (List PV)) (γ : PEnv) : sRetO m γ = (m γ).map .ro := rfl
theorem ev_sRetN (γ : PEnv) : sRetN γ = some (.rt .non) := rfl
def retS : Option Slot → Option Out
  | some (.ow xs) => some (.ro xs)
  | some (.fz p) => some (.rt p)
  | _ => none
theorem retS_ow (xs : List PV) : retS (some (.ow xs)) = some (.ro xs) := rfl
theorem retS_fz (p : PV) : retS (some (.fz p)) = some (.rt p) := rfl
theorem ev_sRetV (i : Nat) (γ : PEnv) : sRetV i γ = retS γ[i]? := by
  unfold sRetV
  cases γ[i]? with
  | none => rfl
  | some s => cases s <;> rfl
def ifK (s1 s2 : MSt) (γ : PEnv) (k : Bool) : Option Out := if k = true then s1 γ else s2 γ
theorem ifK_t (s1 s2 : MSt) (γ : PEnv) : ifK s1 s2 γ true = s1 γ := rfl
theorem ifK_f (s1 s2 : MSt) (γ : PEnv) : ifK s1 s2 γ false = s2 γ := rfl
theorem ev_sIf (t : PEnv → Option Bool) (s1 s2 : MSt) (γ : PEnv) : sIf t s1 s2 γ = (t γ).bind (ifK s1 s2 γ) := rfl
theorem ev_sNx (γ : PEnv) : sNx γ = some (.nx γ) := rfl
theorem ev_sBk (γ : PEnv) : sBk γ = some (.bk γ) := rfl
theorem ev_sCt (γ : PEnv) : sCt γ = some (.ct γ) := rfl
theorem ev_sSet (ms : List Nat) (i : Nat) (m : MEx) (γ : PEnv) : sSet ms i m γ = (m γ).map fun r => .nx ((keepE (flat r) ms γ).set i (.fz r)) := rfl
theorem ev_sSetO (ms : List Nat) (i : Nat) (m : PEnv → Option (List PV)) (γ : PEnv) : sSetO ms i m γ = (m γ).map fun xs => .nx ((keepE (xs.all flat) ms γ).set i (.ow xs)) := rfl
def augK (i : Nat) (γ : PEnv) (r : PV) : Option Out := if flat r = true then some (.nx (γ.set i (.fz r))) else none
theorem augK_i (i : Nat) (γ : PEnv) (r : Int) : augK i γ (.int r) = some (.nx (γ.set i (.fz (.int r)))) := rfl
theorem ev_sAug (i : Nat) (f : PV → PV → Option PV) (m : MEx) (γ : PEnv) : sAug i f m γ = (getV γ i).bind fun x => (m γ).bind fun y => (f x y).bind (augK i γ) := rfl
theorem ev_gSet (i : Nat) (p : PV) (γ : PEnv) : gSet i p γ = some (γ.set i (.fz p)) := rfl
theorem gSet2_t (i j : Nat) (x y : PV) (γ : PEnv) : gSet2 i j (.tup [x, y]) γ = some ((γ.set i (.fz x)).set j (.fz y)) := rfl
theorem gSet3_t (i j k : Nat) (x y z : PV) (γ : PEnv) : gSet3 i j k (.tup [x, y, z]) γ = some (((γ.set i (.fz x)).set j (.fz y)).set k (.fz z)) := rfl
theorem ev_sAsg (ms : List Nat) (g : PV → PEnv → Option PEnv) (m : MEx) (γ : PEnv) : sAsg ms g m γ = (m γ).bind fun r => (g r (keepE (flat r) ms γ)).map .nx := rfl
def appK (ms : List Nat) (i : Nat) (γ : PEnv) (r : PV) : Option Slot → Option Out
  | some (.ow xs) => if xs.length < LIM ∧ (flat r || !ms.contains i) = true then some (.nx ((keepE (flat r) ms γ).set i (.ow (xs ++ [r])))) else none
  | _ => none
theorem appK_ow {ms : List Nat} {i : Nat} {γ : PEnv} {r : PV} {xs : List PV} (h : xs.length ≤ 100000) (h2 : (flat r || !ms.contains i) = true) : appK ms i γ r (some (.ow xs)) = some (.nx ((keepE (flat r) ms γ).set i (.ow (xs ++ [r])))) := if_pos ⟨lt_lim h, h2⟩
theorem ev_sApp (ms : List Nat) (i : Nat) (m : MEx) (γ : PEnv) : sApp ms i m γ = (m γ).bind fun r => appK ms i γ r γ[i]? := by
  unfold sApp
  cases γ[i]? with
  | none => cases m γ <;> rfl
  | some s =>
    cases s with
    | ow xs => rfl
    | _ => cases m γ <;> rfl
def sixK (ms : List Nat) (i : Nat) (γ : PEnv) (r k : PV) : Option Slot → Option Out
  | some (.ow xs) => match k with
    | .int j => (ixN xs.length j).bind fun n => if (flat r || !ms.contains i) = true then some (.nx ((keepE (flat r) ms γ).set i (.ow (xs.set n r)))) else none
    | _ => none
  | _ => none
theorem sixK_ow {ms : List Nat} {i : Nat} {γ : PEnv} {r : PV} {xs : List PV} {j : Int} (h0 : 0 ≤ j) (h1 : j < xs.length) (h2 : (flat r || !ms.contains i) = true) : sixK ms i γ r (.int j) (some (.ow xs)) = some (.nx ((keepE (flat r) ms γ).set i (.ow (xs.set j.toNat r)))) := by
  show ((ixN xs.length j).bind fun n => if (flat r || !ms.contains i) = true then some (Out.nx ((keepE (flat r) ms γ).set i (.ow (xs.set n r)))) else none) = _
  unfold ixN
  rw [if_pos h0, if_pos h1, Option.bind_some, if_pos h2]
theorem ev_sSetIx (ms : List Nat) (i : Nat) (mv mi : MEx) (γ : PEnv) : sSetIx ms i mv mi γ = (mv γ).bind fun r => (mi γ).bind fun k => sixK ms i γ r k γ[i]? := by
  unfold sSetIx
  cases γ[i]? with
  | none => cases mv γ <;> cases mi γ <;> rfl
  | some s =>
    cases s with
    | ow xs =>
      cases mv γ with
      | none => rfl
      | some r =>
        cases mi γ with
        | none => rfl
        | some k => cases k <;> rfl
    | _ => cases mv γ <;> cases mi γ <;> rfl
theorem ev_sFor (ms : List Nat) (mi : PEnv → Option (List PV)) (g : PV → PEnv → Option PEnv) (b : MSt) (γ : PEnv) : sFor ms mi g b γ = (mi γ).bind fun xs => forL g b xs (frz ms γ) := rfl
theorem ev_sForR (mi : PEnv → Option (List PV)) (g : PV → PEnv → Option PEnv) (b : MSt) (γ : PEnv) : sForR mi g b γ = (mi γ).bind fun xs => forL g b xs γ := rfl
def capO : Option PV → Slot
  | some p => .fz p
  | none => .un
theorem capO_s (p : PV) : capO (some p) = .fz p := rfl
theorem ev_capS (γ : PEnv) (j : Nat) : capS γ j = capO (getV γ j) := by
  unfold capS
  cases getV γ j <;> rfl
theorem ev_blkG (nt : Nat) (caps : List Nat) (γ : PEnv) : blkG nt caps γ = List.replicate nt .un ++ caps.map (capS γ) := rfl
theorem ev_tYesM (γ : PEnv) : tYesM γ = some true := rfl
theorem ev_mTru (m : MEx) (γ : PEnv) : mTru m γ = (m γ).bind tru := rfl
theorem tru_i (i : Int) : tru (.int i) = some (i != 0) := rfl
theorem tru_b (i : Bool) : tru (.bl i) = some i := rfl
theorem tru_l (i : List PV) : tru (.lst i) = some (!i.isEmpty) := rfl
theorem tru_t (i : List PV) : tru (.tup i) = some (!i.isEmpty) := rfl
def andK (t2 : PEnv → Option Bool) (γ : PEnv) (x : Bool) : Option Bool := if x = true then t2 γ else some false
theorem andK_t (t2 : PEnv → Option Bool) (γ : PEnv) : andK t2 γ true = t2 γ := rfl
theorem andK_f (t2 : PEnv → Option Bool) (γ : PEnv) : andK t2 γ false = some false := rfl
theorem ev_bAnd (t1 t2 : PEnv → Option Bool) (γ : PEnv) : bAnd t1 t2 γ = (t1 γ).bind (andK t2 γ) := rfl
def orK (t2 : PEnv → Option Bool) (γ : PEnv) (x : Bool) : Option Bool := if x = true then some true else t2 γ
theorem orK_t (t2 : PEnv → Option Bool) (γ : PEnv) : orK t2 γ true = some true := rfl
theorem orK_f (t2 : PEnv → Option Bool) (γ : PEnv) : orK t2 γ false = t2 γ := rfl
theorem ev_bOr (t1 t2 : PEnv → Option Bool) (γ : PEnv) : bOr t1 t2 γ = (t1 γ).bind (orK t2 γ) := rfl
theorem ev_bNot (t1 : PEnv → Option Bool) (γ : PEnv) : bNot t1 γ = (t1 γ).map not := rfl
def vAndK (m2 : MEx) (γ : PEnv) (k : Bool) : Option PV := if k = true then m2 γ else some (.bl false)
theorem vAndK_t (m2 : MEx) (γ : PEnv) : vAndK m2 γ true = m2 γ := rfl
theorem vAndK_f (m2 : MEx) (γ : PEnv) : vAndK m2 γ false = some (.bl false) := rfl
theorem ev_vAnd (m1 m2 : MEx) (γ : PEnv) : vAnd m1 m2 γ = (m1 γ).bind fun x => (isB x).bind (vAndK m2 γ) := rfl
def vOrK (m2 : MEx) (γ : PEnv) (k : Bool) : Option PV := if k = true then some (.bl true) else m2 γ
theorem vOrK_t (m2 : MEx) (γ : PEnv) : vOrK m2 γ true = some (.bl true) := rfl
theorem vOrK_f (m2 : MEx) (γ : PEnv) : vOrK m2 γ false = m2 γ := rfl
theorem ev_vOr (m1 m2 : MEx) (γ : PEnv) : vOr m1 m2 γ = (m1 γ).bind fun x => (isB x).bind (vOrK m2 γ) := rfl
theorem ev_vNot (m1 : MEx) (γ : PEnv) : vNot m1 γ = (m1 γ).bind fun x => (isB x).map fun k => .bl (!k) := rfl
def ifEK (m1 m2 : MEx) (γ : PEnv) (k : Bool) : Option PV := if k = true then m1 γ else m2 γ
theorem ifEK_t (m1 m2 : MEx) (γ : PEnv) : ifEK m1 m2 γ true = m1 γ := rfl
theorem ifEK_f (m1 m2 : MEx) (γ : PEnv) : ifEK m1 m2 γ false = m2 γ := rfl
theorem ev_mIfE (t : PEnv → Option Bool) (m1 m2 : MEx) (γ : PEnv) : mIfE t m1 m2 γ = (t γ).bind (ifEK m1 m2 γ) := rfl
def chK (g : PV → PV → Option PV) (m3 : MEx) (γ : PEnv) (y : PV) (k : Bool) : Option PV := if k = true then (m3 γ).bind fun w => g y w else some (.bl false)
theorem chK_t (g : PV → PV → Option PV) (m3 : MEx) (γ : PEnv) (y : PV) : chK g m3 γ y true = (m3 γ).bind (g y) := rfl
theorem chK_f (g : PV → PV → Option PV) (m3 : MEx) (γ : PEnv) (y : PV) : chK g m3 γ y false = some (.bl false) := rfl
theorem ev_ch3 (f g : PV → PV → Option PV) (m1 m2 m3 : MEx) (γ : PEnv) : ch3 f g m1 m2 m3 γ = (m1 γ).bind fun x => (m2 γ).bind fun y => (f x y).bind fun z => (isB z).bind (chK g m3 γ y) := rfl
theorem ev_un1 (f : PV → Option PV) (m : MEx) (γ : PEnv) : un1 f m γ = (m γ).bind f := rfl
theorem pNeg_i (i : Int) : pNeg (.int i) = some (.int (-i)) := rfl
def mtK {α : Type} (T : String) (g : PV → List PV → Option α) (q : Option (List PV)) (p : PV) : Option α := if tyOk T p = true then q.bind (g p) else none
theorem mtK_i {α : Type} (g : PV → List PV → Option α) (q : Option (List PV)) (i : Int) : mtK "int" g q (.int i) = q.bind (g (.int i)) := rfl
theorem mtK_s {α : Type} (g : PV → List PV → Option α) (q : Option (List PV)) (i : Str) : mtK "str" g q (.str i) = q.bind (g (.str i)) := rfl
theorem mtK_l {α : Type} (g : PV → List PV → Option α) (q : Option (List PV)) (i : List PV) : mtK "list" g q (.lst i) = q.bind (g (.lst i)) := rfl
theorem ev_mMt {α : Type} (T : String) (g : PV → List PV → Option α) (m : MEx) (ma : PEnv → Option (List PV)) (γ : PEnv) : mMt T g m ma γ = (m γ).bind (mtK T g (ma γ)) := rfl
theorem ev_mMt0 {α : Type} (T : String) (g : PV → List PV → Option α) (m : MEx) (γ : PEnv) : mMt0 T g m γ = (m γ).bind (mtK T g (some [])) := rfl
theorem ev_sl3 {α : Type} (f : PV → Option Int → Option Int → Option α) (m : MEx) (ml mh : PEnv → Option (Option Int)) (γ : PEnv) : sl3 f m ml mh γ = (m γ).bind fun x => (ml γ).bind fun l => (mh γ).bind (f x l) := rfl
theorem ev_mNo (γ : PEnv) : mNo γ = some none := rfl
theorem ev_mSo (m : MEx) (γ : PEnv) : mSo m γ = (m γ).bind pInt := rfl
theorem pInt_i (i : Int) : pInt (.int i) = some (some i) := rfl
theorem pCut_l (xs : List PV) (lo hi : Option Int) : pCut (.lst xs) lo hi = some (cutP xs lo hi) := rfl
theorem pCutS_s {z : Str} (h : z.length ≤ 100000) (lo hi : Option Int) : pCutS (.str z) lo hi = some (.str (Txt.slice z lo hi)) := if_pos (le_lim h)
theorem pItems_l (xs : List PV) : pItems [.lst xs] = some xs := rfl
theorem pItems_t (xs : List PV) : pItems [.tup xs] = some xs := rfl
theorem pTuple_l (xs : List PV) : pTuple [.lst xs] = some (.tup xs) := rfl
theorem pTuple_t (xs : List PV) : pTuple [.tup xs] = some (.tup xs) := rfl
theorem pMin_i (i j : Int) : pMin [.int i, .int j] = some (.int (if j < i then j else i)) := rfl
theorem pMax_i (i j : Int) : pMax [.int i, .int j] = some (.int (if j > i then j else i)) := rfl
theorem pSum_i (ns : List Int) : pSum [.lst (ns.map .int)] = some (.int ns.sum) := by
  show (ints? (ns.map .int)).map (fun ns => PV.int ns.sum) = _
  rw [ints?_map]; rfl
theorem pAdd_s {a b : Str} (h : a.length + b.length ≤ 100000) : pAdd (.str a) (.str b) = some (.str (a ++ b)) := if_pos (le_lim h)
theorem pCat_l {a b : List PV} (h : a.length + b.length ≤ 100000) : pCat (.lst a) (.lst b) = some (a ++ b) := if_pos (le_lim h)
theorem tru_bit (b : Bool) : (((if b = true then 1 else 0) : Int) != 0) = b := by cases b <;> rfl
theorem isInt_i (i : Int) : isInt (.int i) = true := rfl
theorem isBl_i (i : Int) : isBl (.int i) = false := rfl
theorem isBl_b (i : Bool) : isBl (.bl i) = true := rfl
theorem isStr_s (i : Str) : isStr (.str i) = true := rfl
theorem isTup_t (i : List PV) : isTup (.tup i) = true := rfl
theorem isTup_l (i : List PV) : isTup (.lst i) = false := rfl
theorem isLst_l (i : List PV) : isLst (.lst i) = true := rfl
theorem isN_i (i : Int) : isN (.int i) = false := rfl
theorem isN_n : isN .non = true := rfl
theorem isN_t (i : List PV) : isN (.tup i) = false := rfl
theorem forL_nil (g : PV → PEnv → Option PEnv) (b : MSt) (γ : PEnv) : forL g b [] γ = some (.nx γ) := rfl
theorem runV_0 {N : Nat} {m : MSt} : runV N 0 m [] = (m (startG N [])).bind outV := rfl
theorem runV_1 {N : Nat} {m : MSt} {a0 : PV} : runV N 1 m [a0] = (m (startG N [a0])).bind outV := rfl
theorem runV_2 {N : Nat} {m : MSt} {a0 a1 : PV} : runV N 2 m [a0, a1] = (m (startG N [a0, a1])).bind outV := rfl
theorem runV_3 {N : Nat} {m : MSt} {a0 a1 a2 : PV} : runV N 3 m [a0, a1, a2] = (m (startG N [a0, a1, a2])).bind outV := rfl
theorem runV_4 {N : Nat} {m : MSt} {a0 a1 a2 a3 : PV} : runV N 4 m [a0, a1, a2, a3] = (m (startG N [a0, a1, a2, a3])).bind outV := rfl
theorem runV_5 {N : Nat} {m : MSt} {a0 a1 a2 a3 a4 : PV} : runV N 5 m [a0, a1, a2, a3, a4] = (m (startG N [a0, a1, a2, a3, a4])).bind outV := rfl
theorem runV_6 {N : Nat} {m : MSt} {a0 a1 a2 a3 a4 a5 : PV} : runV N 6 m [a0, a1, a2, a3, a4, a5] = (m (startG N [a0, a1, a2, a3, a4, a5])).bind outV := rfl
theorem runV_7 {N : Nat} {m : MSt} {a0 a1 a2 a3 a4 a5 a6 : PV} : runV N 7 m [a0, a1, a2, a3, a4, a5, a6] = (m (startG N [a0, a1, a2, a3, a4, a5, a6])).bind outV := rfl
def frzS : Slot → Slot
  | .ow xs => .fz (.lst xs)
  | s => s
theorem frzS_ow (xs : List PV) : frzS (.ow xs) = .fz (.lst xs) := rfl
theorem frzS_fz (p : PV) : frzS (.fz p) = .fz p := rfl
theorem frzS_un : frzS .un = .un := rfl
theorem frz_nil (γ : PEnv) : frz [] γ = γ := rfl
theorem frz_cons (i : Nat) (ms : List Nat) (γ : PEnv) : frz (i :: ms) γ = frz ms (frz1 γ i) := rfl
theorem frz1_0 (s : Slot) (γ : PEnv) : frz1 (s :: γ) 0 = frzS s :: γ := by cases s <;> rfl
theorem frz1_s (s : Slot) (γ : PEnv) (i : Nat) : frz1 (s :: γ) (i + 1) = s :: frz1 γ i := by
  unfold frz1
  rw [List.getElem?_cons_succ]
  cases γ[i]? with
  | none => rfl
  | some t => cases t <;> rfl
/-! ### whole numbers from 0 on -/
theorem ev_mN (n : Nat) (γ : PEnv) : mN n γ = some (pN n) := rfl
def encN (xs : List Nat) : List PV := xs.map pN
theorem encN_len (xs : List Nat) : (encN xs).length = xs.length := List.length_map _
theorem flat_n (n : Nat) : flat (pN n) = true := rfl
theorem encN_flat (xs : List Nat) : (encN xs).all flat = true := by
  unfold encN
  rw [List.all_map, List.all_eq_true]
  exact fun _ _ => rfl
theorem encN_ints (xs : List Nat) : encN xs = (xs.map fun (k : Nat) => (k : Int)).map .int := by unfold encN; rw [List.map_map]; rfl
theorem pAdd_n (a b : Nat) : pAdd (pN a) (pN b) = some (pN (a + b)) := by
  unfold pN; rw [pAdd_i]; simp
theorem pSub_n {a b : Nat} (h : b ≤ a) : pSub (pN a) (pN b) = some (pN (a - b)) := by
  unfold pN; rw [pSub_i, Int.ofNat_sub h]
theorem pMul_ln {a b : Nat} (h : a < 2 ^ 60) : pMul (pN a) (pN b) = some (pN (a * b)) := by
  unfold pN; rw [pMul_l (by omega) (by omega)]; simp
theorem pMul_rn {a b : Nat} (h : b < 2 ^ 60) : pMul (pN a) (pN b) = some (pN (a * b)) := by
  unfold pN; rw [pMul_r (by omega) (by omega)]; simp
theorem pMod_n {a b : Nat} (h : 0 < b) : pMod (pN a) (pN b) = some (pN (a % b)) := by
  unfold pN; rw [pMod_i (by omega)]; simp
theorem pMod_in {c : Int} {b : Nat} (h : 0 < b) : pMod (.int c) (pN b) = some (pN (c % (b : Int)).toNat) := by
  unfold pN; rw [pMod_i (by omega), Int.toNat_of_nonneg (Int.emod_nonneg _ (by omega))]
theorem pDiv_n {a b : Nat} (h : 0 < b) (h2 : b < 2 ^ 100) : pDiv (pN a) (pN b) = some (pN (a / b)) := by
  unfold pN; rw [pDiv_i (by omega) (by omega)]; simp
theorem pDiv_in {c : Int} {b : Nat} (h : 0 < b) (h2 : b < 2 ^ 100) : pDiv (.int c) (pN b) = some (.int (c / (b : Int))) := by
  unfold pN; rw [pDiv_i (by omega) (by omega)]
theorem pLt_n (a b : Nat) : pLt (pN a) (pN b) = some (.bl (decide (a < b))) := by
  unfold pN; rw [pLt_i]; simp
theorem pLe_n (a b : Nat) : pLe (pN a) (pN b) = some (.bl (decide (a ≤ b))) := by
  unfold pN; rw [pLe_i]; simp
theorem pGt_n (a b : Nat) : pGt (pN a) (pN b) = some (.bl (decide (b < a))) := by
  unfold pN; rw [pGt_i]; simp
theorem pGe_n (a b : Nat) : pGe (pN a) (pN b) = some (.bl (decide (b ≤ a))) := by
  unfold pN; rw [pGe_i]; simp
theorem beq_cast (a b : Nat) : ((a : Int) == (b : Int)) = (a == b) := by
  rw [Bool.eq_iff_iff, beq_iff_eq, beq_iff_eq]; exact Int.ofNat_inj
theorem pEq_n (a b : Nat) : pEq (pN a) (pN b) = some (.bl (a == b)) := by
  unfold pN; rw [pEq_i, beq_cast]
theorem pNe_n (a b : Nat) : pNe (pN a) (pN b) = some (.bl (!(a == b))) := by
  unfold pN; rw [pNe_i, beq_cast]
theorem bAnd_n (a b : Nat) : Builtin.bitAnd (a : Int) (b : Int) = ((a &&& b : Nat) : Int) := by
  rw [bitAnd_pp (by omega) (by omega)]; simp
theorem bOr_n (a b : Nat) : Builtin.bitOr (a : Int) (b : Int) = ((a ||| b : Nat) : Int) := by
  unfold Builtin.bitOr
  rw [bitAnd_nn (by unfold Builtin.bitNot; omega) (by unfold Builtin.bitNot; omega)]
  unfold Builtin.bitNot
  have e : ∀ a : Nat, (-(-(a : Int) - 1) - 1).toNat = a := fun a => by omega
  rw [e, e]
  omega
theorem pAnd_n (a b : Nat) : pAnd (pN a) (pN b) = some (pN (a &&& b)) := by unfold pN; rw [pAnd_i, bAnd_n]
theorem pOr_n (a b : Nat) : pOr (pN a) (pN b) = some (pN (a ||| b)) := by unfold pN; rw [pOr_i, bOr_n]
theorem pShl_n {k : Nat} (h : k ≤ 1000000) : pShl (pN 1) (pN k) = some (pN (2 ^ k)) := by
  have e := pShl_one (k := (k : Int)) (by omega) (by omega)
  unfold pN
  rw [show ((1 : Nat) : Int) = 1 from rfl, e]; simp
theorem pShr_n (m k : Nat) : pShr (pN m) (pN k) = some (pN (m / 2 ^ k)) := by
  unfold pN; rw [pShr_i (by omega)]; simp
theorem testBit_odd (m k : Nat) : ((m / 2 ^ k) &&& 1 != 0) = m.testBit k := by
  rw [Nat.testBit, Nat.shiftRight_eq_div_pow, Nat.and_comm]
theorem testBit_mod (m k : Nat) : (m / 2 ^ k % 2 == 1) = m.testBit k := by
  rw [← testBit_odd, Nat.and_one_is_mod]
  have h : m / 2 ^ k % 2 = 0 ∨ m / 2 ^ k % 2 = 1 := by omega
  rcases h with h | h <;> rw [h] <;> rfl
theorem pMin_n (a b : Nat) : pMin [pN a, pN b] = some (pN (min a b)) := by
  unfold pN; rw [pMin_i]; congr 2; split <;> omega
theorem pMax_n (a b : Nat) : pMax [pN a, pN b] = some (pN (max a b)) := by
  unfold pN; rw [pMax_i]; congr 2; split <;> omega
theorem pLen_ln (xs : List PV) : pLen [.lst xs] = some (pN xs.length) := rfl
theorem pLen_tn (xs : List PV) : pLen [.tup xs] = some (pN xs.length) := rfl
theorem pLen_sn {z : Str} (h : z.length ≤ 100000) : pLen [.str z] = some (pN z.length) := if_pos (le_lim h)
theorem sum_cast (xs : List Nat) : (xs.map fun (k : Nat) => (k : Int)).sum = ((xs.sum : Nat) : Int) := by
  induction xs with
  | nil => rfl
  | cons x r ih => simp only [List.map_cons, List.sum_cons, ih, Int.natCast_add]
theorem pSum_n (xs : List Nat) : pSum [.lst (encN xs)] = some (pN xs.sum) := by
  rw [encN_ints, pSum_i, sum_cast]; rfl
theorem rg1_n {n : Nat} (h : n ≤ 100000) : rg1 (pN n) = some (encN (List.range n)) := by
  unfold pN; rw [rg1_i (by omega) (by omega), Int.toNat_natCast]; rfl
theorem oRg_n {n : Nat} (h : n ≤ 100000) : oRg (pN n) = some (encN (List.range n)) := by
  unfold pN; rw [oRg_i (by omega) (by omega), Int.toNat_natCast]; rfl
theorem pBits_pn (m : Nat) : pBits (pN m) [] = some (pN (bitsN m)) := pBits_nat m
theorem mtK_n {α : Type} (g : PV → List PV → Option α) (q : Option (List PV)) (i : Nat) : mtK "int" g q (pN i) = q.bind (g (pN i)) := rfl
theorem isInt_n (i : Nat) : isInt (pN i) = true := rfl
theorem isBl_n (i : Nat) : isBl (pN i) = false := rfl
theorem isTup_n (i : Nat) : isTup (pN i) = false := rfl
theorem isN_pn (i : Nat) : isN (pN i) = false := rfl
theorem tru_n (i : Nat) : tru (pN i) = some (i != 0) := by
  unfold pN; rw [tru_i]
  have := beq_cast i 0
  show some (!((i : Int) == ((0 : Nat) : Int))) = _
  rw [this]; rfl
theorem pNeg_n (i : Nat) : pNeg (pN i) = some (.int (-(i : Int))) := rfl
theorem atI_last1 (xs : List PV) (v : PV) : atI (xs ++ [v]) (-((1 : Nat) : Int)) = some v := atI_last xs v
theorem pInt_n (i : Nat) : pInt (pN i) = some (some (i : Int)) := rfl
theorem atI_cast {α : Type} (xs : List α) (i : Nat) : atI xs (i : Int) = xs[i]? := by
  cases h : xs[i]? with
  | some v => exact atI_nat h
  | none =>
    have := List.getElem?_eq_none_iff.mp h
    unfold atI ixN
    rw [if_pos (by omega), if_neg (by omega)]
    rfl
theorem pIx_ln (xs : List PV) (i : Nat) : pIx (.lst xs) (pN i) = xs[i]? := atI_cast xs i
theorem pIx_tn (xs : List PV) (i : Nat) : pIx (.tup xs) (pN i) = xs[i]? := atI_cast xs i
theorem encN_get (xs : List Nat) (i : Nat) : (encN xs)[i]? = (xs[i]?).map pN := by unfold encN; rw [List.getElem?_map]
theorem augK_n (i : Nat) (γ : PEnv) (r : Nat) : augK i γ (pN r) = some (.nx (γ.set i (.fz (pN r)))) := rfl
theorem sixK_n {ms : List Nat} {i : Nat} {γ : PEnv} {r : PV} {xs : List PV} {j : Nat} (h1 : j < xs.length) (h2 : (flat r || !ms.contains i) = true) : sixK ms i γ r (pN j) (some (.ow xs)) = some (.nx ((keepE (flat r) ms γ).set i (.ow (xs.set j r)))) := by
  have := sixK_ow (ms := ms) (i := i) (γ := γ) (r := r) (xs := xs) (j := (j : Int)) (by omega) (by omega) h2
  rw [Int.toNat_natCast] at this
  exact this
theorem peq_pn (a b : Nat) : peq (pN a) (pN b) = (a == b) := by
  unfold pN
  have : peq (.int (a : Int)) (.int (b : Int)) = ((a : Int) == (b : Int)) := by simp [peq]
  rw [this, beq_cast]
theorem okv_n (a : Nat) : okv (pN a) = true := okv_int _
theorem okv_encN (xs : List Nat) : (encN xs).all okv = true := by
  unfold encN
  rw [List.all_map, List.all_eq_true]
  exact fun _ _ => okv_n _
theorem any_pn (k : Nat) (xs : List Nat) : ((encN xs).any fun y => peq y (pN k)) = decide (k ∈ xs) := by
  unfold encN
  rw [List.any_map, Bool.eq_iff_iff, List.any_eq_true]
  simp [peq_pn]
theorem pIn_nl (k : Nat) (xs : List Nat) : pIn (pN k) (.lst (encN xs)) = some (.bl (decide (k ∈ xs))) := by
  have e : pIn (pN k) (.lst (encN xs)) = if okv (pN k) = true ∧ (encN xs).all okv = true then some (.bl ((encN xs).any fun y => peq y (pN k))) else none := rfl
  rw [e, if_pos ⟨okv_n k, okv_encN xs⟩, any_pn]
theorem pIn_nt (k : Nat) (xs : List Nat) : pIn (pN k) (.tup (encN xs)) = some (.bl (decide (k ∈ xs))) := by
  have e : pIn (pN k) (.tup (encN xs)) = if okv (pN k) = true ∧ (encN xs).all okv = true then some (.bl ((encN xs).any fun y => peq y (pN k))) else none := rfl
  rw [e, if_pos ⟨okv_n k, okv_encN xs⟩, any_pn]
theorem pNotIn_of {x y : PV} {b : Bool} (h : pIn x y = some (.bl b)) : pNotIn x y = some (.bl (!b)) := by
  unfold pNotIn
  rw [h]
  rfl
theorem pNotIn_nl (k : Nat) (xs : List Nat) : pNotIn (pN k) (.lst (encN xs)) = some (.bl (!decide (k ∈ xs))) := pNotIn_of (pIn_nl k xs)
theorem pNotIn_nt (k : Nat) (xs : List Nat) : pNotIn (pN k) (.tup (encN xs)) = some (.bl (!decide (k ∈ xs))) := pNotIn_of (pIn_nt k xs)
theorem compNA {g : PV → PEnv → Option PEnv} {e : MEx} {γ : PEnv} (y : Nat → PV) (xs : List Nat) (h : ∀ x ∈ xs, ∃ γ1, g (pN x) γ = some γ1 ∧ e γ1 = some (y x)) :
    compL g tYesM e γ (encN xs) = some (xs.map y) := compL_all pN y xs h
end L2.PM

set_option Elab.async false
set_option linter.all false
set_option maxRecDepth 100000
noncomputable section
namespace L2.PM
open PySem PySem.Spec PyProof.Rows

/-! ### slices, sorted, in -/
theorem cutP_map {α β : Type} (f : α → β) (xs : List α) (lo hi : Option Int) : cutP (xs.map f) lo hi = (cutP xs lo hi).map f := by
  unfold cutP
  rw [List.length_map, ← List.map_drop, ← List.map_take]
theorem cutP_nn {α : Type} (xs : List α) (a b : Nat) : cutP xs (some (a : Int)) (some (b : Int)) = (xs.take b).drop a := by
  unfold cutP
  rw [HT.sIx_nat, HT.sIx_nat]
  apply List.ext_getElem?
  intro i
  rw [List.getElem?_take, List.getElem?_drop, List.getElem?_drop, List.getElem?_take]
  by_cases h : min a xs.length + i < xs.length
  · have ha : min a xs.length = a := by omega
    rw [ha]
    by_cases h2 : i < min b xs.length - a
    · rw [if_pos h2, if_pos (by omega)]
    · rw [if_neg h2, if_neg (by omega)]
  · have hn : xs[min a xs.length + i]? = none := List.getElem?_eq_none (by omega)
    rw [hn]
    by_cases h3 : a + i < b
    · rw [if_pos h3, List.getElem?_eq_none (by omega)]
      split <;> rfl
    · rw [if_neg h3]
      split <;> rfl
theorem cutP_0n {α : Type} (xs : List α) (b : Nat) : cutP xs none (some (b : Int)) = xs.take b := by
  unfold cutP
  rw [HT.sIx_nat, HT.sIx_none]
  simp
theorem cutP_n0 {α : Type} (xs : List α) (a : Nat) : cutP xs (some (a : Int)) none = xs.drop a := by
  unfold cutP
  rw [HT.sIx_nat, HT.sIx_none]
  rw [List.take_of_length_le (by rw [List.length_drop]; omega)]
  by_cases h : a ≤ xs.length
  · rw [Nat.min_eq_left h]
  · rw [Nat.min_eq_right (by omega), List.drop_length, List.drop_of_length_le (by omega)]
theorem okv_strs {ss : List Str} (h : ∀ s ∈ ss, PyData.strOk s = true) : (ss.map PV.str).all okv = true := by
  rw [List.all_map, List.all_eq_true]
  exact fun s hs => okv_str (h s hs)
theorem peq_s (a b : Str) : peq (.str a) (.str b) = (a == b) := by simp [peq]
theorem pIn_sl {s : Str} {ss : List Str} (h : PyData.strOk s = true) (hs : ∀ s ∈ ss, PyData.strOk s = true) : pIn (.str s) (.lst (ss.map .str)) = some (.bl (ss.any (· == s))) := by
  have e : pIn (.str s) (.lst (ss.map .str)) = if okv (.str s) = true ∧ (ss.map PV.str).all okv = true then some (.bl ((ss.map PV.str).any fun y => peq y (.str s))) else none := rfl
  rw [e, if_pos ⟨okv_str h, okv_strs hs⟩, List.any_map]
  congr 3
theorem pIn_st {s : Str} {ss : List Str} (h : PyData.strOk s = true) (hs : ∀ s ∈ ss, PyData.strOk s = true) : pIn (.str s) (.tup (ss.map .str)) = some (.bl (ss.any (· == s))) := by
  have e : pIn (.str s) (.tup (ss.map .str)) = if okv (.str s) = true ∧ (ss.map PV.str).all okv = true then some (.bl ((ss.map PV.str).any fun y => peq y (.str s))) else none := rfl
  rw [e, if_pos ⟨okv_str h, okv_strs hs⟩, List.any_map]
  congr 3
theorem pNotIn_sl {s : Str} {ss : List Str} (h : PyData.strOk s = true) (hs : ∀ s ∈ ss, PyData.strOk s = true) : pNotIn (.str s) (.lst (ss.map .str)) = some (.bl (!ss.any (· == s))) := pNotIn_of (pIn_sl h hs)
theorem pEq_s {a b : Str} (ha : PyData.strOk a = true) (hb : PyData.strOk b = true) : pEq (.str a) (.str b) = some (.bl (a == b)) := by rw [pEq_ok (okv_str ha) (okv_str hb), peq_s]
theorem pNe_s {a b : Str} (ha : PyData.strOk a = true) (hb : PyData.strOk b = true) : pNe (.str a) (.str b) = some (.bl (!(a == b))) := by rw [pNe_ok (okv_str ha) (okv_str hb), peq_s]
theorem allflat_nats (ns : List Nat) : (ns.map fun (k : Nat) => PV.int k).all flat = true := by simp [flat]
/-! ### texts -/
theorem len_app (a b : Str) : (a ++ b).length = a.length + b.length := by
  show (a.cps ++ b.cps).size = _
  rw [Array.size_append]; rfl
theorem app_assoc (a b c : Str) : a ++ b ++ c = a ++ (b ++ c) := by
  show (⟨a.cps ++ b.cps ++ c.cps⟩ : Str) = ⟨a.cps ++ (b.cps ++ c.cps)⟩
  rw [Array.append_assoc]
theorem tjoin_one (sep x : Str) : Txt.join sep [x] = x := by
  unfold Txt.join
  rw [StrLaws.glued_eq_join]
  rfl
theorem tjoin_cons (sep x : Str) (y : Str) (r : List Str) : Txt.join sep (x :: y :: r) = x ++ sep ++ Txt.join sep (y :: r) := by
  unfold Txt.join
  rw [StrLaws.glued_eq_join, StrLaws.glued_eq_join]
  rfl
theorem tjoin_length (sep : Str) (ss : List Str) : (Txt.join sep ss).length = (ss.map Str.length).sum + (ss.length - 1) * sep.length := by
  unfold Txt.join
  exact PySem.size_glued sep ss
theorem sum_len (ss : List Str) (b : Nat) (h : ∀ s ∈ ss, s.length ≤ b) : (ss.map Str.length).sum ≤ ss.length * b := by
  induction ss with
  | nil => simp
  | cons x l ih =>
    have h1 := ih fun k hk => h k (List.mem_cons_of_mem _ hk)
    have h2 := h x (by simp)
    simp only [List.map_cons, List.sum_cons, List.length_cons, Nat.succ_mul]
    omega
theorem sliceIx_le (l u : Option Int) (n : Nat) : (Builtin.Str.strSliceIndices l u 1 n).length ≤ n := by
  unfold Builtin.Str.strSliceIndices PySem.sliceRange
  cases l <;> cases u <;> simp only [show (1 : Int) > 0 by decide, if_true, List.length_map, List.length_range] <;> (split <;> (try split) <;> (try split) <;> (try simp only [Int.ediv_one]) <;> omega)
theorem slice_len (z : Str) (lo hi : Option Int) : (Txt.slice z lo hi).length ≤ z.length := by
  unfold Txt.slice
  split
  · exact Nat.le_refl _
  · have h1 := sliceIx_le lo hi z.length
    have h2 := List.length_filterMap_le (fun x => z.cps[x]?) (Builtin.Str.strSliceIndices lo hi 1 z.length)
    show ((List.filterMap _ _).toArray).size ≤ _
    rw [List.size_toArray]
    omega
end L2.PM

set_option maxHeartbeats 4000000
noncomputable section
namespace DH
open PySem PySem.Spec PyProof.Rows L2 L2.PM
def b1__law_draws : MSt := (sSeq (sSet [2] 2 (bin2 pMod (bin2 pMul (mVar 2) (mN 48271)) (mN 2147483647)))
  (sApp [2] 3 (bin2 pDiv (mVar 2) (mN 13))))
def d__law_draws : MSt := (sSeq (sSet [0] 2 (bin2 pMod (bin2 pMul (bin2 pAdd (bin2 pMod (mVar 0) (mN 2147483629)) (mN 1)) (mN 1103515245)) (mN 2147483647)))
  (sSeq (sSetO [] 3 (mLim aNil))
  (sSeq (sForR (iRg1 (mVar 1)) (gSet 4) b1__law_draws)
  (sRetV 3))))
def r__law_draws : List PV → Option PV := runV 5 2 d__law_draws
theorem r__law_draws_len : ∀ ps r, r__law_draws ps = some r → ps.length = 2 := runV_len
def d__law_near_names : MSt := (sSeq (sSetO [] 1 (mLim (aCons (mC (.str "guesss")) (aCons (mC (.str "gues")) (aCons (mC (.str "uess")) (aCons (mC (.str "unles")) (aCons (mC (.str "nless")) (aCons (mC (.str "ifs")) (aCons (mC (.str "fi")) (aCons (mC (.str "i")) (aCons (mC (.str "f")) (aCons (mC (.str "unlessif")) (aCons (mC (.str "guessif")) (aCons (mC (.str "ifguess")) aNil))))))))))))))
  (sRetO (mComp (iRg1 (mN 7)) 1 [1, 0] (gSet 0) tYesM (bin2 pIx (mVar 1) (bin2 pMod (bin2 pAdd (bin2 pIx (mVar 2) (mN 0)) (bin2 pMul (mN 5) (mVar 0))) (mN 12))))))
def r__law_near_names : List PV → Option PV := runV 2 1 d__law_near_names
theorem r__law_near_names_len : ∀ ps r, r__law_near_names ps = some r → ps.length = 1 := runV_len
def b1__law_fresh : MSt := (sSeq (sSet [0] 0 (bin2 pMod (bin2 pAdd (bin2 pMul (mVar 0) (mN 69621)) (mN 1)) (mN 2147483647)))
  (sSet [3, 2, 0] 3 (bin2 pAdd (mVar 3) (bin2 pIx (mVar 2) (bin2 pMod (bin2 pDiv (mVar 0) (mN 17)) (mN 26))))))
def d__law_fresh : MSt := (sSeq (sSet [] 2 (mC (.str "abcdefghijklmnopqrstuvwxyz")))
  (sSeq (sSet [] 3 (mC (.str "")))
  (sSeq (sForR (iRg1 (mVar 1)) (gSet 4) b1__law_fresh)
  (sRetV 3))))
def r__law_fresh : List PV → Option PV := runV 5 2 d__law_fresh
theorem r__law_fresh_len : ∀ ps r, r__law_fresh ps = some r → ps.length = 2 := runV_len
def d__law_safe : MSt := (sSeq (sIf (truB (bin2 pIn (mVar 0) (mTup (aCons (mC (.str "guess")) (aCons (mC (.str "unless")) (aCons (mC (.str "if")) aNil)))))) (sRet (bin2 pAdd (mVar 0) (mC (.str "a")))) sNx)
  (sRetV 0))
def r__law_safe : List PV → Option PV := runV 1 1 d__law_safe
theorem r__law_safe_len : ∀ ps r, r__law_safe ps = some r → ps.length = 1 := runV_len
def b1__law_like_names : MSt := (sSeq (sSet [1, 0, 6, 4] 7 (bin2 pIx (mVar 1) (bin2 pMod (bin2 pAdd (bin2 pIx (mVar 0) (mN 4)) (bin2 pMul (mVar 6) (mVar 4))) (mN 26))))
  (sApp [2, 3, 7, 2, 3] 5 (mCall r__law_safe (aCons (bin2 pAdd (bin2 pAdd (sl3 pCutS (mVar 2) mNo (mSo (mVar 3))) (mVar 7)) (sl3 pCutS (mVar 2) (mSo (bin2 pAdd (mVar 3) (mN 1))) mNo)) aNil))))
def d__law_like_names : MSt := (sSeq (sSet [] 1 (mC (.str "abcdefghijklmnopqrstuvwxyz")))
  (sSeq (sSet [0, 0] 2 (mCall r__law_fresh (aCons (bin2 pIx (mVar 0) (mN 0)) (aCons (bin2 pAdd (mN 1) (bin2 pMod (bin2 pIx (mVar 0) (mN 1)) (mN 12))) aNil))))
  (sSeq (sSet [0, 2] 3 (bin2 pMod (bin2 pIx (mVar 0) (mN 2)) (mCall pLen (aCons (mVar 2) aNil))))
  (sSeq (sSet [0] 4 (bin2 pIx (mLst (mLim (aCons (mN 1) (aCons (mN 3) (aCons (mN 5) (aCons (mN 7) (aCons (mN 9) (aCons (mN 11) aNil)))))))) (bin2 pMod (bin2 pIx (mVar 0) (mN 3)) (mN 6))))
  (sSeq (sSetO [] 5 (mLim aNil))
  (sSeq (sForR (iRg1 (mN 7)) (gSet 6) b1__law_like_names)
  (sRetV 5)))))))
def r__law_like_names : List PV → Option PV := runV 8 1 d__law_like_names
theorem r__law_like_names_len : ∀ ps r, r__law_like_names ps = some r → ps.length = 1 := runV_len
def b1__law_other_names : MSt := (sSeq (sSet [0, 2, 0, 2] 3 (mCall r__law_safe (aCons (mCall r__law_fresh (aCons (bin2 pIx (mVar 0) (mVar 2)) (aCons (bin2 pAdd (mN 1) (bin2 pMod (bin2 pDiv (bin2 pIx (mVar 0) (bin2 pAdd (mVar 2) (mN 1))) (mN 5)) (mN 12))) aNil))) aNil)))
  (sIf (truB (bin2 pNotIn (mVar 3) (mVar 1))) (sApp [3] 1 (mVar 3)) sNx))
def d__law_other_names : MSt := (sSeq (sSetO [] 1 (mLim aNil))
  (sSeq (sForR (iRg1 (mN 7)) (gSet 2) b1__law_other_names)
  (sRetV 1)))
def r__law_other_names : List PV → Option PV := runV 4 1 d__law_other_names
theorem r__law_other_names_len : ∀ ps r, r__law_other_names ps = some r → ps.length = 1 := runV_len
def d__law_thing : MSt := (sSeq (sSet [0] 1 (bin2 pMod (bin2 pIx (mVar 0) (mN 8)) (mN 4)))
  (sSeq (sSet [0] 2 (mCall r__law_near_names (aCons (mVar 0) aNil)))
  (sSeq (sIf (truB (bin2 pLt (mVar 1) (mN 2))) (sSet [0] 2 (mCall r__law_like_names (aCons (mVar 0) aNil))) sNx)
  (sSeq (sIf (truB (bin2 pEq (mVar 1) (mN 2))) (sSet [0] 2 (mCall r__law_other_names (aCons (mVar 0) aNil))) sNx)
  (sSeq (sIf (truB (bin2 pEq (bin2 pMod (bin2 pIx (mVar 0) (mN 9)) (mN 3)) (mN 0))) (sSeq (sSet [2] 3 (bin2 pIx (mVar 2) (un1 pNeg (mN 1))))
  (sSeq (sIf (truB (bin2 pEq (bin2 pMod (bin2 pIx (mVar 0) (mN 10)) (mN 5)) (mN 0))) (sSet [2] 3 (bin2 pIx (mVar 2) (mN 0))) sNx)
  (sRet (mTup (aCons (mC (.str "guess")) (aCons (bin2 pIx (mVar 2) (mN 0)) (aCons (mVar 3) aNil))))))) sNx)
  (sSeq (sSet [0] 4 (bin2 pMod (bin2 pIx (mVar 0) (mN 11)) (mN 7)))
  (sSeq (sSetO [2, 4] 5 (sl3 pCut (mVar 2) (mSo (mN 1)) (mSo (bin2 pAdd (mN 1) (mVar 4)))))
  (sSeq (sIf (bAnd (truB (bin2 pEq (bin2 pMod (bin2 pIx (mVar 0) (mN 10)) (mN 4)) (mN 0))) (truB (bin2 pLt (mVar 4) (mN 6)))) (sIns [0, 5, 2] 5 (bin2 pMod (bin2 pIx (mVar 0) (mN 12)) (bin2 pAdd (mCall pLen (aCons (mVar 5) aNil)) (mN 1))) (bin2 pIx (mVar 2) (mN 0))) sNx)
  (sRet (mTup (aCons (mC (.str "rule")) (aCons (bin2 pIx (mVar 2) (mN 0)) (aCons (mCall pTuple (aCons (mVar 5) aNil)) aNil)))))))))))))
def r__law_thing : List PV → Option PV := runV 6 1 d__law_thing
theorem r__law_thing_len : ∀ ps r, r__law_thing ps = some r → ps.length = 1 := runV_len
def d_is_word : MSt := (sSeq (sIf (bOr (truB (bin2 pIn (mVar 0) (mC (.tup ((["guess", "unless", "if"] : List Str).map .str))))) (bNot (truB (ch3 pLe pLe (mN 1) (mCall pLen (aCons (mVar 0) aNil)) (mN 12))))) (sRet (mC (.bl false))) sNx)
  (sRet (mCall pAllB (aCons (mLst (mComp (iStr (mVar 0)) 1 [] (gSet 0) tYesM (ch3 pLeS pLeS (mC (.str "a")) (mVar 0) (mC (.str "z"))))) aNil))))
def r_is_word : List PV → Option PV := runV 1 1 d_is_word
theorem r_is_word_len : ∀ ps r, r_is_word ps = some r → ps.length = 1 := runV_len
def d_is_guess_row : MSt := (sSeq (sIf (bOr (truB (bin2 pNe (mCall pLen (aCons (mVar 0) aNil)) (mN 4))) (bOr (truB (bin2 pNe (bin2 pIx (mVar 0) (mN 0)) (mC (.str "guess")))) (truB (bin2 pNe (bin2 pIx (mVar 0) (mN 2)) (mC (.str "unless")))))) (sRet (mC (.bl false))) sNx)
  (sRet (vAnd (mCall r_is_word (aCons (bin2 pIx (mVar 0) (mN 1)) aNil)) (mCall r_is_word (aCons (bin2 pIx (mVar 0) (mN 3)) aNil)))))
def r_is_guess_row : List PV → Option PV := runV 1 1 d_is_guess_row
theorem r_is_guess_row_len : ∀ ps r, r_is_guess_row ps = some r → ps.length = 1 := runV_len
def d_is_rule_row : MSt := (sSeq (sIf (truB (bin2 pEq (mCall pLen (aCons (mVar 0) aNil)) (mN 1))) (sRet (mCall r_is_word (aCons (bin2 pIx (mVar 0) (mN 0)) aNil))) sNx)
  (sSeq (sIf (bOr (truB (bin2 pEq (mCall pLen (aCons (mVar 0) aNil)) (mN 2))) (truB (bin2 pNe (bin2 pIx (mVar 0) (mN 1)) (mC (.str "if"))))) (sRet (mC (.bl false))) sNx)
  (sRet (mCall pAllB (aCons (mLst (mComp (iLst (mLst (bin2 pCat (mLst (sl3 pCut (mVar 0) mNo (mSo (mN 1)))) (mLst (sl3 pCut (mVar 0) (mSo (mN 2)) mNo))))) 1 [] (gSet 0) tYesM (mCall r_is_word (aCons (mVar 0) aNil)))) aNil)))))
def r_is_rule_row : List PV → Option PV := runV 1 1 d_is_rule_row
theorem r_is_rule_row_len : ∀ ps r, r_is_rule_row ps = some r → ps.length = 1 := runV_len
def d_read_row : MSt := (sSeq (sSetO [0] 2 (mMt "str" pSplit (mVar 0) (aCons (mC (.str " ")) aNil)))
  (sSeq (sIf (mTru (mCall r_is_guess_row (aCons (mVar 2) aNil))) (sRet (mTup (aCons (mC (.str "guess")) (aCons (bin2 pIx (mVar 2) (mN 1)) (aCons (bin2 pIx (mVar 2) (mN 3)) aNil))))) sNx)
  (sSeq (sIf (bNot (mTru (mCall r_is_rule_row (aCons (mVar 2) aNil)))) sNo sNx)
  (sSeq (sSet [2] 3 (mCall pTuple (aCons (mLst (sl3 pCut (mVar 2) (mSo (mN 2)) mNo)) aNil)))
  (sSeq (sIf (truB (bin2 pGt (mCall pLen (aCons (mVar 3) aNil)) (mN 6))) sNo sNx)
  (sSeq (sIf (truB (bin2 pLt (mCall pLenSetS (aCons (mVar 3) aNil)) (mCall pLen (aCons (mVar 3) aNil)))) sNo sNx)
  (sRet (mTup (aCons (mC (.str "rule")) (aCons (bin2 pIx (mVar 2) (mN 0)) (aCons (mVar 3) aNil)))))))))))
def r_read_row : List PV → Option PV := runV 4 2 d_read_row
theorem r_read_row_len : ∀ ps r, r_read_row ps = some r → ps.length = 2 := runV_len
def b1__law_same : MSt := (sIf (bNot (mTru (mIsi isStr (mVar 2)))) (sRet (mC (.bl false))) sNx)
def d__law_same : MSt := (sSeq (sIf (bOr (bNot (mTru (mIsi isTup (mVar 0)))) (truB (bin2 pNe (mCall pLen (aCons (mVar 0) aNil)) (mN 3)))) (sRet (mC (.bl false))) sNx)
  (sSeq (sIf (bOr (bNot (mTru (mIsi isStr (bin2 pIx (mVar 0) (mN 0))))) (bNot (mTru (mIsi isStr (bin2 pIx (mVar 0) (mN 1)))))) (sRet (mC (.bl false))) sNx)
  (sSeq (sIf (truB (bin2 pEq (bin2 pIx (mVar 1) (mN 0)) (mC (.str "guess")))) (sRet (vAnd (mIsi isStr (bin2 pIx (mVar 0) (mN 2))) (bin2 pEq (mVar 0) (mVar 1)))) sNx)
  (sSeq (sIf (bOr (bNot (mTru (mIsi isTup (bin2 pIx (mVar 0) (mN 2))))) (truB (bin2 pNe (mCall pLen (aCons (bin2 pIx (mVar 0) (mN 2)) aNil)) (mCall pLen (aCons (bin2 pIx (mVar 1) (mN 2)) aNil))))) (sRet (mC (.bl false))) sNx)
  (sSeq (sFor [0] (iSeq (bin2 pIx (mVar 0) (mN 2))) (gSet 2) b1__law_same)
  (sRet (bin2 pEq (mVar 0) (mVar 1))))))))
def r__law_same : List PV → Option PV := runV 3 2 d__law_same
theorem r__law_same_len : ∀ ps r, r__law_same ps = some r → ps.length = 2 := runV_len
def d__law_line : MSt := (sSeq (sIf (truB (bin2 pEq (bin2 pIx (mVar 0) (mN 0)) (mC (.str "guess")))) (sRet (bin2 pAdd (bin2 pAdd (bin2 pAdd (mC (.str "guess ")) (bin2 pIx (mVar 0) (mN 1))) (mC (.str " unless "))) (bin2 pIx (mVar 0) (mN 2)))) sNx)
  (sSeq (sIf (truB (bin2 pEq (mCall pLen (aCons (bin2 pIx (mVar 0) (mN 2)) aNil)) (mN 0))) (sRet (bin2 pIx (mVar 0) (mN 1))) sNx)
  (sRet (bin2 pAdd (bin2 pAdd (bin2 pIx (mVar 0) (mN 1)) (mC (.str " if "))) (mMt "str" pJoinT (mC (.str " ")) (aCons (bin2 pIx (mVar 0) (mN 2)) aNil))))))
def r__law_line : List PV → Option PV := runV 1 1 d__law_line
theorem r__law_line_len : ∀ ps r, r__law_line ps = some r → ps.length = 1 := runV_len
def b1_law_k01 : MSt := (sSeq (sSet [1] 2 (mCall r__law_draws (aCons (mVar 1) (aCons (mN 15) aNil))))
  (sSeq (sSet [2] 3 (mCall r__law_thing (aCons (mVar 2) aNil)))
  (sSeq (sIf (truB (bin2 pEq (bin2 pMod (bin2 pIx (mVar 2) (mN 13)) (mN 3)) (mN 0))) (sSet [3] 4 (mCall r_read_row (aCons (mCall r__law_line (aCons (mVar 3) aNil)) (aCons (mN 0) aNil)))) (sSet [3, 2] 4 (mCall r_read_row (aCons (mCall r__law_line (aCons (mVar 3) aNil)) (aCons (bin2 pMod (bin2 pIx (mVar 2) (mN 14)) (mN 1000)) aNil)))))
  (sIf (bNot (mTru (mCall r__law_same (aCons (mVar 4) (aCons (mVar 3) aNil))))) (sRet (mC (.bl false))) sNx))))
def d_law_k01 : MSt := (sSeq (sFor [0, 0] (iLst (mLst (bin2 pCat (mLst (sl3 pCut (mVar 0) mNo (mSo (mN 200)))) (mLst (mLim (aCons (mCall pLen (aCons (mVar 0) aNil)) aNil)))))) (gSet 1) b1_law_k01)
  (sRet (mC (.bl true))))
def r_law_k01 : List PV → Option PV := runV 5 1 d_law_k01
theorem r_law_k01_len : ∀ ps r, r_law_k01 ps = some r → ps.length = 1 := runV_len
end DH

set_option Elab.async false
set_option linter.all false
set_option maxRecDepth 100000
noncomputable section
namespace DH
open PySem PySem.Spec PyProof.Rows L2 L2.PM
open Builtin.Str StrLaws
/-! ### split by one sign -/
def posL (c : Nat) : List Nat → Nat → List Nat
  | [], _ => []
  | d :: l, a => if d = c then a :: posL c l (a + 1) else posL c l (a + 1)
def splL (c : Nat) : List Nat → List (List Nat)
  | [] => [[]]
  | d :: l => if d = c then [] :: splL c l else match splL c l with
    | h :: t => (d :: h) :: t
    | [] => [[d]]
theorem splL_none {c : Nat} : ∀ {w : List Nat}, c ∉ w → splL c w = [w]
  | [], _ => rfl
  | d :: w, h => by
    unfold splL
    rw [if_neg (fun e => h (by simp [e])), splL_none (fun e => h (by simp [e]))]
theorem splL_app {c : Nat} : ∀ {w rest : List Nat}, c ∉ w → splL c (w ++ c :: rest) = w :: splL c rest
  | [], rest, _ => by
    show splL c (c :: rest) = _
    conv => lhs; unfold splL
    rw [if_pos rfl]
  | d :: w, rest, h => by
    show splL c (d :: (w ++ c :: rest)) = _
    conv => lhs; unfold splL
    rw [if_neg (fun e => h (by simp [e])), splL_app (fun e => h (by simp [e]))]
theorem sub_one (x : Str) (c i : Nat) : subAt x ⟨#[c]⟩ i = true ↔ x.cps.toList[i]? = some c := by
  rw [subAt_eq]
  show ((x.cps.toList.drop i).take 1 == [c]) = true ↔ _
  rw [beq_iff_eq]
  constructor
  · intro h
    have := congrArg (fun l : List Nat => l[0]?) h
    simpa using this
  · intro h
    rw [List.drop_eq_getElem_cons (List.getElem?_eq_some_iff.mp h).1, (List.getElem?_eq_some_iff.mp h).2]
    simp
theorem occ_pos (x : Str) (c : Nat) : ∀ (k a : Nat) (arr : Array Nat) (f : Nat), a + k = x.length + 1 → arr.size ≤ a → f ≤ a →
    (forIn (List.range' a k) (arr, f) (occBody x ⟨#[c]⟩ x.length (x.length + 1))).run.fst.toList = arr.toList ++ posL c (x.cps.toList.drop a) a
  | 0, a, arr, f, h1, _, _ => by
    have hx : x.cps.toList.length = x.length := by simp [Str.length]
    have : x.cps.toList.drop a = [] := List.drop_eq_nil_of_le (by omega)
    rw [this]
    simp [posL]
  | k + 1, a, arr, f, h1, h2, h3 => by
    rw [List.range'_succ, List.forIn_cons]
    by_cases hs : subAt x ⟨#[c]⟩ a = true
    · have hg := (sub_one x c a).mp hs
      have hl := (List.getElem?_eq_some_iff.mp hg).1
      have hx : x.cps.toList.length = x.length := by simp [Str.length]
      have e : occBody x ⟨#[c]⟩ x.length (x.length + 1) a (arr, f) = pure (ForInStep.yield (arr.push a, a + 1)) := by
        unfold occBody
        rw [if_pos]
        · rfl
        · simp [hs, h3]
          refine ⟨by omega, ?_⟩
          show a + 1 ≤ x.length
          omega
      rw [e]
      refine Eq.trans (occ_pos x c k (a + 1) (arr.push a) (a + 1) (by omega) (by simp; omega) (Nat.le_refl _)) ?_
      rw [List.drop_eq_getElem_cons hl, (List.getElem?_eq_some_iff.mp hg).2]
      simp [posL]
    · have e : occBody x ⟨#[c]⟩ x.length (x.length + 1) a (arr, f) = pure (ForInStep.yield (arr, f)) := by
        unfold occBody
        rw [if_neg (by simp [hs])]
        try rfl
      rw [e]
      refine Eq.trans (occ_pos x c k (a + 1) arr f (by omega) (by omega) (by omega)) ?_
      congr 1
      by_cases hl : a < x.cps.toList.length
      · rw [List.drop_eq_getElem_cons hl]
        conv => rhs; unfold posL
        rw [if_neg]
        intro z
        exact hs ((sub_one x c a).mpr (by rw [List.getElem?_eq_getElem hl, z]))
      · rw [List.drop_eq_nil_of_le (by omega), List.drop_eq_nil_of_le (by omega)]
        rfl
theorem parts_spl (x : Str) (c : Nat) : ∀ (n s a : Nat), a + n = x.cps.toList.length → s ≤ a → ∃ h t, splL c (x.cps.toList.drop a) = h :: t ∧
    partsFrom x 1 s (posL c (x.cps.toList.drop a) a) = ⟨((x.cps.toList.drop s).take (a - s) ++ h).toArray⟩ :: t.map fun l => (⟨l.toArray⟩ : Str)
  | 0, s, a, h1, h2 => by
    rw [List.drop_eq_nil_of_le (by omega)]
    refine ⟨[], [], rfl, ?_⟩
    show [strSub x s x.length] = _
    have hx : x.cps.toList.length = x.length := by simp [Str.length]
    simp only [List.append_nil, List.map_nil]
    congr 1
    apply Str.ext'
    apply Array.toList_inj.mp
    rw [strSub_toList]
    show _ = (List.take (a - s) (List.drop s x.cps.toList))
    rw [show x.length - s = a - s by omega]
  | n + 1, s, a, h1, h2 => by
    have hl : a < x.cps.toList.length := by omega
    rw [List.drop_eq_getElem_cons hl]
    unfold splL posL
    by_cases hc : x.cps.toList[a] = c
    · rw [if_pos hc, if_pos hc]
      obtain ⟨h, t, e1, e2⟩ := parts_spl x c n (a + 1) (a + 1) (by omega) (Nat.le_refl _)
      refine ⟨[], _, rfl, ?_⟩
      show strSub x s a :: partsFrom x 1 (a + 1) _ = _
      rw [e2, e1]
      congr 1
      · apply Str.ext'
        apply Array.toList_inj.mp
        rw [strSub_toList]
        simp
      · simp
    · rw [if_neg hc, if_neg hc]
      obtain ⟨h, t, e1, e2⟩ := parts_spl x c n s (a + 1) (by omega) (by omega)
      rw [e1]
      refine ⟨x.cps.toList[a] :: h, t, rfl, ?_⟩
      rw [e2]
      congr 2
      rw [show a + 1 - s = (a - s) + 1 by omega, List.take_succ_eq_append_getElem (by rw [List.length_drop]; omega), List.append_assoc, List.getElem_drop]
      have e3 : s + (a - s) = a := by omega
      simp only [List.singleton_append, e3]
def sp : Str := " "
theorem sp_is : sp = ⟨#[32]⟩ := by decide +kernel
theorem split_sp (x : Str) : Txt.split x sp = (splL 32 x.cps.toList).map fun l => (⟨l.toArray⟩ : Str) := by
  have hx : x.cps.toList.length = x.length := by simp [Str.length]
  have ho : occurrences x sp 0 x.length (x.length + 1) = posL 32 x.cps.toList 0 := by
    rw [occ_eq]
    have := occ_pos x 32 (x.length + 1) 0 #[] 0 (by omega) (by simp) (Nat.le_refl _)
    rw [← sp_is] at this
    simpa using this
  obtain ⟨h, t, e1, e2⟩ := parts_spl x 32 x.cps.toList.length 0 0 (by omega) (Nat.le_refl _)
  rw [List.drop_zero] at e1 e2
  have main : partsFrom x 1 0 (posL 32 x.cps.toList 0) = (splL 32 x.cps.toList).map fun l => (⟨l.toArray⟩ : Str) := by
    rw [e2, e1]
    simp
  unfold Txt.split
  rw [ho]
  by_cases h0 : posL 32 x.cps.toList 0 = []
  · rw [h0] at main
    have one : [x] = (splL 32 x.cps.toList).map fun l => (⟨l.toArray⟩ : Str) := by
      rw [← main]
      show [x] = [strSub x 0 x.length]
      rw [sub_whole]
    rw [h0]
    split
    · exact one
    · rw [if_pos (show ([] : List Nat).isEmpty = true from rfl)]; exact one
  · have hk : ¬ (decide (x.length < sp.length) || decide (Builtin.Str.strKind x < Builtin.Str.strKind sp)) = true := by
      have k1 : Builtin.Str.strKind sp = 1 := by decide +kernel
      have k2 : 1 ≤ Builtin.Str.strKind x := by unfold Builtin.Str.strKind; split; omega; split <;> omega
      have k3 : sp.length = 1 := rfl
      have k4 : 0 < x.cps.toList.length := by
        cases hL : x.cps.toList with
        | nil => rw [hL] at h0; exact absurd rfl h0
        | cons _ _ => simp
      rw [k1, k3]
      simp
      omega
    rw [if_neg hk, if_neg (by simpa using h0), partsBetween_eq]
    exact main
/-- texts without blanks, joined, are told apart again -/
theorem split_join : ∀ (w : Str) (ws : List Str), (∀ s ∈ w :: ws, 32 ∉ s.cps.toList) → Txt.split (Txt.join sp (w :: ws)) sp = w :: ws := by
  have key : ∀ (w : Str) (ws : List Str), (∀ s ∈ w :: ws, 32 ∉ s.cps.toList) → splL 32 (Txt.join sp (w :: ws)).cps.toList = (w :: ws).map fun s => s.cps.toList := by
    intro w ws
    induction ws generalizing w with
    | nil =>
      intro h
      rw [tjoin_one, splL_none (h w (by simp))]
      rfl
    | cons v ws ih =>
      intro h
      rw [tjoin_cons]
      have e : (w ++ sp ++ Txt.join sp (v :: ws)).cps.toList = w.cps.toList ++ 32 :: (Txt.join sp (v :: ws)).cps.toList := by
        show (w.cps ++ sp.cps ++ (Txt.join sp (v :: ws)).cps).toList = _
        rw [show sp.cps = #[32] by rw [sp_is]]
        simp
      rw [e, splL_app (h w (by simp)), ih v fun s hs => h s (List.mem_cons_of_mem _ hs)]
      rfl
  intro w ws h
  rw [split_sp, key w ws h, List.map_map]
  exact List.map_id' _
end DH

set_option Elab.async false
set_option linter.all false
set_option maxRecDepth 100000
noncomputable section
namespace DH
open PySem PySem.Spec PyProof.Rows L2 L2.PM
def Low (s : Str) : Prop := ∀ c ∈ s.cps.toList, 97 ≤ c ∧ c ≤ 122
def no3 : List Str := ["guess", "unless", "if"]
structure Wd (s : Str) : Prop where
  l1 : 1 ≤ s.length
  l2 : s.length ≤ 12
  low : Low s
  no : s ∉ no3
theorem low_ok {s : Str} (h : Low s) : PyData.strOk s = true := by
  unfold PyData.strOk
  rw [Array.all_eq_true']
  intro c hc
  have := h c (by simpa using hc)
  simp
  omega
theorem low_ascii {s : Str} (h : Low s) : (s.cps.all (· < 128)) = true := by
  rw [Array.all_eq_true']
  intro c hc
  have := h c (by simpa using hc)
  simp
  omega
theorem low_sp {s : Str} (h : Low s) : 32 ∉ s.cps.toList := fun z => by
  have := h 32 z
  omega
theorem low_app {a b : Str} (h1 : Low a) (h2 : Low b) : Low (a ++ b) := fun c hc => by
  have hc : c ∈ (a.cps ++ b.cps).toList := hc
  rw [Array.toList_append] at hc
  rcases List.mem_append.mp hc with z | z
  · exact h1 c z
  · exact h2 c z
theorem ok3 : ∀ s ∈ no3, PyData.strOk s = true := by decide +kernel
theorem no_any {s : Str} (h : s ∉ no3) : no3.any (· == s) = false := by
  rw [List.any_eq_false]
  intro x hx e
  exact h (by rw [← beq_iff_eq.mp e]; exact hx)
theorem pIn_3 {s : Str} (h : Low s) : pIn (.str s) (.tup [.str "guess", .str "unless", .str "if"]) = some (.bl (no3.any (· == s))) := by
  show pIn (.str s) (.tup (no3.map .str)) = _
  rw [pIn_st (low_ok h) ok3]
theorem pIn_no {s : Str} (h : Wd s) : pIn (.str s) (.tup [.str "guess", .str "unless", .str "if"]) = some (.bl false) := by
  rw [pIn_3 h.low, no_any h.no]
theorem sLe_a {c : Nat} (h : 97 ≤ c) : sLe "a" ⟨#[c]⟩ = true := by
  unfold sLe
  rw [show ("a" : Str).cps.toList = [97] by decide +kernel]
  show (!decide ([c] < [97])) = true
  rw [StrLaws.lt_cons_cons, StrLaws.lt_nil_nil]
  simp
  omega
theorem sLe_z {c : Nat} (h : c ≤ 122) : sLe ⟨#[c]⟩ "z" = true := by
  unfold sLe
  rw [show ("z" : Str).cps.toList = [122] by decide +kernel]
  show (!decide ([122] < [c])) = true
  rw [StrLaws.lt_cons_cons, StrLaws.lt_nil_nil]
  simp
  omega
theorem pLeS_s (a b : Str) : pLeS (.str a) (.str b) = some (.bl (sLe a b)) := rfl
theorem ev_iStr (m : MEx) (γ : PEnv) : iStr m γ = (m γ).bind itX := rfl
theorem itX_low {s : Str} (h : Low s) : itX (.str s) = some (signsL s) := if_pos (low_ascii h)
theorem signs_len (s : Str) : (signsL s).length = s.length := by unfold signsL; simp [Str.length]
theorem pAllB_w (bs : List Bool) : pAllB [.lst (bs.map .bl)] = some (.bl (bs.all id)) := by
  show (bls? (bs.map PV.bl)).map (fun bs => PV.bl (bs.all id)) = _
  rw [bls?_map]; rfl
local macro_rules | `(tactic| walk_at "ev") => `(tactic| try simp (disch := first | assumption | omega | (simp only [signs_len, encN_len, List.length_map, List.length_range, List.length_cons, List.length_nil, List.length_append]; omega) | decide) only [pLen_sn, ev_iStr, pLeS_s, signs_len, ev_mN, encN_len, encN_flat, flat_n, pAdd_n, pSub_n, pMul_ln, pMul_rn, pMod_n, pMod_in, pDiv_n, pDiv_in, pLt_n, pLe_n, pGt_n, pGe_n, pEq_n, pNe_n, pAnd_n, pOr_n, pShl_n, pShr_n, testBit_odd, testBit_mod, pMin_n, pMax_n, pSum_n, rg1_n, oRg_n, mtK_n, isInt_n, isBl_n, isTup_n, isN_pn, tru_n, pNeg_n, atI_last1, Nat.not_lt_zero, pInt_n, pIx_ln, pIx_tn, encN_get, augK_n, sixK_n, pIn_nl, pIn_nt, pNotIn_nl, pNotIn_nt, runV_0, runV_1, runV_2, runV_3, runV_4, runV_5, runV_6, runV_7, ev_startG1, ev_sSeq, seqK_nx, seqK_rt, seqK_ro, seqK_ct, seqK_bk, ev_sSet, ev_sSetO, ev_sRet, ev_sRetO, ev_sRetV, ev_sRetN, retS_ow, retS_fz, ev_sIf, ifK_t, ifK_f, ev_sNx, ev_sBk, ev_sCt, ev_bin2, ev_mVar, ev_mC, ev_mCall, ev_mLst, ev_mTup, tupK_ok, ev_mLim, limK_ok, ev_aCons, ev_aNil, ev_truB, isB_bl, ev_mIsi, isiK_i, isiK_b, isiK_s, isiK_t, isiK_l, isiK_0, isiK_n, getV_0, getV_s, val_fz, val_ow, List.length_cons, List.length_nil, if_true, List.map_cons, List.map_nil, List.replicate_zero, List.replicate_succ, List.cons_append, List.nil_append, List.getElem?_cons_zero, List.getElem?_cons_succ, Option.bind_some, Option.map_some, pAdd_i, pSub_i, pLt_i, pLe_i, pGt_i, pGe_i, pEq_i, pNe_i, pLen_ln, pLen_tn, pIx_lst, pIx_tup, keepE_true, keepE_false, flat_int, flat_bl, flat_str, flat_non, flat_tup, flat_lst, List.set_cons_zero, List.set_cons_succ, outV_rt, outV_ro, outV_nx, ev_bAnd, andK_t, andK_f, ev_bOr, orK_t, orK_f, ev_bNot, ev_vAnd, vAndK_t, vAndK_f, ev_vOr, vOrK_t, vOrK_f, ev_vNot, ev_mIfE, ifEK_t, ifEK_f, ev_ch3, chK_t, chK_f, ev_un1, pNeg_i, ev_mMt0, ev_mMt, mtK_i, mtK_s, mtK_l, ev_sForR, ev_sFor, ev_mComp, cmpK_ok, ev_iRg1, rg1_i, ev_iRg2, rg2_i, ev_oRng, oRg_i, ev_iLst, itL_l, ev_iTpl, itT_t, ev_iSeq, itS_l, itS_t, pEnum_l, pEnum_t, pRev_l, pRevT_l, ev_blkG, ev_capS, capO_s, ev_gSet, gSet2_t, gSet3_t, ev_mTru, tru_i, tru_b, tru_l, tru_t, ev_tYesM, pMod_i, pDiv_i, pMul_l, pMul_r,  pBits_pn,  List.length_map, List.length_range, tru_bit, ev_sl3, ev_mNo, ev_mSo, pInt_i, pCut_l, pCutS_s, pItems_l, pItems_t, pTuple_l, pTuple_t, pMin_i, pMax_i, pSum_i, pLen_sn, pAdd_s, pCat_l, isInt_i, isBl_i, isBl_b, isStr_s, isTup_t, isTup_l, isLst_l, isN_i, isN_n, isN_t, pIs_non, pIsNot_non, forL_nil, frz_nil, frz_cons, frz1_0, frz1_s, frzS_ow, frzS_fz, frzS_un, ev_sAug, augK_i, ev_sAsg, ev_sApp, ev_sSetIx, sixK_ow, decide_true, decide_false, Bool.not_true, Bool.not_false, Bool.true_or, Bool.false_or, Bool.or_true, Bool.or_false, List.all_nil, List.all_cons, Bool.true_and, Bool.false_and, allflat_ints, allflat_strs, allflat_nats, List.length_append, cutP_map])
theorem e_is_word {s : Str} (h : Wd s) : r_is_word [.str s] = some (.bl true) := by
  have h1 := h.l1
  have h2 := h.l2
  unfold r_is_word d_is_word
  walk_at "ev"
  rw [pIn_no h]
  walk_at "ev"
  rw [decide_eq_true h1]
  walk_at "ev"
  rw [decide_eq_true h2]
  walk_at "ev"
  rw [itX_low h.low]
  walk_at "ev"
  unfold signsL
  rw [compL_all (fun c : Nat => PV.str ⟨#[c]⟩) (fun _ => PV.bl true) _ fun c hc => ⟨_, rfl, by
    obtain ⟨c1, c2⟩ := h.low c hc
    walk_at "ev"
    rw [sLe_a c1]
    walk_at "ev"
    rw [sLe_z c2]⟩]
  rw [show (s.cps.toList.map fun _ => PV.bl true) = (s.cps.toList.map fun _ => true).map PV.bl by rw [List.map_map]; rfl]
  walk_at "ev"
  rw [pAllB_w]
  rw [show (s.cps.toList.map fun _ => true).all id = true by rw [List.all_map]; simp]
  rfl
theorem ge_ok : PyData.strOk ("guess" : Str) = true := by decide +kernel
theorem un_ok : PyData.strOk ("unless" : Str) = true := by decide +kernel
theorem if_ok : PyData.strOk ("if" : Str) = true := by decide +kernel
theorem wd_ne {s : Str} (h : Wd s) {r : Str} (hr : r ∈ no3) : (s == r) = false := by
  rw [beq_eq_false_iff_ne]
  rintro rfl
  exact h.no hr
theorem e_guess_yes {G B : Str} (hG : Wd G) (hB : Wd B) : r_is_guess_row [.lst [.str "guess", .str G, .str "unless", .str B]] = some (.bl true) := by
  unfold r_is_guess_row d_is_guess_row
  walk_at "ev"
  rw [show (!0 + 1 + 1 + 1 + 1 == 4) = false from rfl]
  walk_at "ev"
  rw [pNe_s ge_ok ge_ok, show (("guess" : Str) == "guess") = true by simp]
  walk_at "ev"
  rw [pNe_s un_ok un_ok, show (("unless" : Str) == "unless") = true by simp]
  walk_at "ev"
  rw [e_is_word hG]
  walk_at "ev"
  rw [e_is_word hB]
  walk_at "ev"
theorem e_guess_no {H : Str} (hH : Wd H) {ps : List Str} (hl : ps.length ≤ 1000) : r_is_guess_row [.lst (.str H :: ps.map .str)] = some (.bl false) := by
  unfold r_is_guess_row d_is_guess_row
  walk_at "ev"
  cases hc : (!(ps.length + 1 == 4)) with
  | true => walk_at "ev"
  | false =>
    walk_at "ev"
    rw [pNe_s (low_ok hH.low) ge_ok, wd_ne hH (by decide +kernel)]
    walk_at "ev"
theorem e_rule_one {H : Str} (hH : Wd H) : r_is_rule_row [.lst [.str H]] = some (.bl true) := by
  unfold r_is_rule_row d_is_rule_row
  walk_at "ev"
  rw [show (0 + 1 == 1) = true from rfl]
  walk_at "ev"
  rw [e_is_word hH]
  walk_at "ev"
theorem cut_01 {α : Type} (x y : α) (l : List α) : cutP (x :: y :: l) none (some ((1 : Nat) : Int)) = [x] := by
  rw [cutP_0n]
  rfl
theorem cut_2 {α : Type} (x y : α) (l : List α) : cutP (x :: y :: l) (some ((2 : Nat) : Int)) none = l := by
  rw [cutP_n0]
  rfl
theorem e_rule_body {H : Str} (hH : Wd H) {body : List Str} (hb : ∀ s ∈ body, Wd s) (h0 : 0 < body.length) (hl : body.length ≤ 1000) : r_is_rule_row [.lst (.str H :: .str "if" :: body.map .str)] = some (.bl true) := by
  unfold r_is_rule_row d_is_rule_row
  walk_at "ev"
  rw [show (body.length + 1 + 1 == 1) = false by rw [beq_eq_false_iff_ne]; omega]
  walk_at "ev"
  rw [show (body.length + 1 + 1 == 2) = false by rw [beq_eq_false_iff_ne]; omega]
  walk_at "ev"
  rw [pNe_s if_ok if_ok, show (("if" : Str) == "if") = true by simp]
  walk_at "ev"
  rw [cut_01, cut_2, pCat_l (by rw [List.length_map]; simp; omega), show [PV.str H] ++ body.map PV.str = (H :: body).map PV.str from rfl]
  walk_at "ev"
  rw [show PV.str H :: body.map PV.str = (H :: body).map PV.str from rfl]
  have hl' : ((H :: body).map PV.str).length ≤ 100000 := by rw [List.length_map, List.length_cons]; omega
  have hall : ∀ s ∈ H :: body, Wd s := fun s hs => by
    rcases List.mem_cons.mp hs with rfl | z
    · exact hH
    · exact hb s z
  generalize H :: body = ws at *
  walk_at "ev"
  rw [compL_all PV.str (fun _ => PV.bl true) _ fun s hs => ⟨_, rfl, by
    walk_at "ev"
    rw [e_is_word (hall s hs)]⟩]
  rw [show (ws.map fun _ => PV.bl true) = (ws.map fun _ => true).map PV.bl by rw [List.map_map]; rfl]
  walk_at "ev"
  rw [pAllB_w, show (ws.map fun _ => true).all id = true by rw [List.all_map]; simp]
  rfl
theorem mtK_s {α : Type} (g : PV → List PV → Option α) (q : Option (List PV)) (z : Str) : mtK "str" g q (.str z) = q.bind (g (.str z)) := rfl
theorem pSplit_join {w : Str} {ws : List Str} (h : ∀ s ∈ w :: ws, 32 ∉ s.cps.toList) (hl : (Txt.join sp (w :: ws)).length ≤ 9000) : pSplit (.str (Txt.join sp (w :: ws))) [.str " "] = some ((w :: ws).map .str) := by
  show (if ((" " : Str).length == 0) = false ∧ (Txt.join sp (w :: ws)).length + 2 ≤ LIM then some ((Txt.split (Txt.join sp (w :: ws)) " ").map PV.str) else none) = _
  rw [if_pos ⟨rfl, le_lim (by omega)⟩, show (" " : Str) = sp from rfl, split_join w ws h]
theorem no3_sp : ∀ s ∈ no3, 32 ∉ s.cps.toList := by decide +kernel
local macro_rules | `(tactic| walk_at "ev") => `(tactic| try simp (disch := first | assumption | omega | (simp only [signs_len, encN_len, List.length_map, List.length_range, List.length_cons, List.length_nil, List.length_append]; omega) | decide) only [pLen_sn, ev_iStr, pLeS_s, signs_len, mtK_s, ev_mN, encN_len, encN_flat, flat_n, pAdd_n, pSub_n, pMul_ln, pMul_rn, pMod_n, pMod_in, pDiv_n, pDiv_in, pLt_n, pLe_n, pGt_n, pGe_n, pEq_n, pNe_n, pAnd_n, pOr_n, pShl_n, pShr_n, testBit_odd, testBit_mod, pMin_n, pMax_n, pSum_n, rg1_n, oRg_n, mtK_n, isInt_n, isBl_n, isTup_n, isN_pn, tru_n, pNeg_n, atI_last1, Nat.not_lt_zero, pInt_n, pIx_ln, pIx_tn, encN_get, augK_n, sixK_n, pIn_nl, pIn_nt, pNotIn_nl, pNotIn_nt, runV_0, runV_1, runV_2, runV_3, runV_4, runV_5, runV_6, runV_7, ev_startG1, ev_sSeq, seqK_nx, seqK_rt, seqK_ro, seqK_ct, seqK_bk, ev_sSet, ev_sSetO, ev_sRet, ev_sRetO, ev_sRetV, ev_sRetN, retS_ow, retS_fz, ev_sIf, ifK_t, ifK_f, ev_sNx, ev_sBk, ev_sCt, ev_bin2, ev_mVar, ev_mC, ev_mCall, ev_mLst, ev_mTup, tupK_ok, ev_mLim, limK_ok, ev_aCons, ev_aNil, ev_truB, isB_bl, ev_mIsi, isiK_i, isiK_b, isiK_s, isiK_t, isiK_l, isiK_0, isiK_n, getV_0, getV_s, val_fz, val_ow, List.length_cons, List.length_nil, if_true, List.map_cons, List.map_nil, List.replicate_zero, List.replicate_succ, List.cons_append, List.nil_append, List.getElem?_cons_zero, List.getElem?_cons_succ, Option.bind_some, Option.map_some, pAdd_i, pSub_i, pLt_i, pLe_i, pGt_i, pGe_i, pEq_i, pNe_i, pLen_ln, pLen_tn, pIx_lst, pIx_tup, keepE_true, keepE_false, flat_int, flat_bl, flat_str, flat_non, flat_tup, flat_lst, List.set_cons_zero, List.set_cons_succ, outV_rt, outV_ro, outV_nx, ev_bAnd, andK_t, andK_f, ev_bOr, orK_t, orK_f, ev_bNot, ev_vAnd, vAndK_t, vAndK_f, ev_vOr, vOrK_t, vOrK_f, ev_vNot, ev_mIfE, ifEK_t, ifEK_f, ev_ch3, chK_t, chK_f, ev_un1, pNeg_i, ev_mMt0, ev_mMt, mtK_i, mtK_s, mtK_l, ev_sForR, ev_sFor, ev_mComp, cmpK_ok, ev_iRg1, rg1_i, ev_iRg2, rg2_i, ev_oRng, oRg_i, ev_iLst, itL_l, ev_iTpl, itT_t, ev_iSeq, itS_l, itS_t, pEnum_l, pEnum_t, pRev_l, pRevT_l, ev_blkG, ev_capS, capO_s, ev_gSet, gSet2_t, gSet3_t, ev_mTru, tru_i, tru_b, tru_l, tru_t, ev_tYesM, pMod_i, pDiv_i, pMul_l, pMul_r,  pBits_pn,  List.length_map, List.length_range, tru_bit, ev_sl3, ev_mNo, ev_mSo, pInt_i, pCut_l, pCutS_s, pItems_l, pItems_t, pTuple_l, pTuple_t, pMin_i, pMax_i, pSum_i, pLen_sn, pAdd_s, pCat_l, isInt_i, isBl_i, isBl_b, isStr_s, isTup_t, isTup_l, isLst_l, isN_i, isN_n, isN_t, pIs_non, pIsNot_non, forL_nil, frz_nil, frz_cons, frz1_0, frz1_s, frzS_ow, frzS_fz, frzS_un, ev_sAug, augK_i, ev_sAsg, ev_sApp, ev_sSetIx, sixK_ow, decide_true, decide_false, Bool.not_true, Bool.not_false, Bool.true_or, Bool.false_or, Bool.or_true, Bool.or_false, List.all_nil, List.all_cons, Bool.true_and, Bool.false_and, allflat_ints, allflat_strs, allflat_nats, List.length_append, cutP_map])
theorem e_read_guess {G B : Str} (hG : Wd G) (hB : Wd B) (r : Nat) : r_read_row [.str (Txt.join sp ["guess", G, "unless", B]), pN r] = some (.tup [.str "guess", .str G, .str B]) := by
  have h1 := hG.l2
  have h2 := hB.l2
  unfold r_read_row d_read_row
  walk_at "ev"
  rw [pSplit_join (fun s hs => by
    simp only [List.mem_cons, List.not_mem_nil, or_false] at hs
    rcases hs with rfl | rfl | rfl | rfl
    · exact no3_sp _ (by decide +kernel)
    · exact low_sp hG.low
    · exact no3_sp _ (by decide +kernel)
    · exact low_sp hB.low) (by
    rw [tjoin_length]
    have e1 : ("guess" : Str).length = 5 := by decide +kernel
    have e2 : ("unless" : Str).length = 6 := by decide +kernel
    have e3 : sp.length = 1 := rfl
    simp only [List.map_cons, List.map_nil, List.sum_cons, List.sum_nil, List.length_cons, List.length_nil, e1, e2, e3]
    omega)]
  walk_at "ev"
  rw [e_guess_yes hG hB]
  walk_at "ev"
theorem once_id : ∀ {l : List Str}, l.Nodup → once l = l
  | [], _ => rfl
  | x :: l, h => by
    obtain ⟨h1, h2⟩ := List.nodup_cons.mp h
    unfold once
    rw [once_id h2]
    congr 1
    rw [List.filter_eq_self]
    intro y hy
    have : y ≠ x := fun e => h1 (e ▸ hy)
    simpa using this
theorem pLenSet_s {body : List Str} (h : body.Nodup) (hl : body.length < 1000) : pLenSetS [.tup (body.map .str)] = some (pN body.length) := by
  show (match strs? (body.map PV.str) with
    | some ss => if ss.length < 1000 then some (PV.int (once ss).length) else none
    | none => none) = _
  rw [L2.PM.strs?_map]
  show (if body.length < 1000 then some (PV.int (once body).length) else none) = _
  rw [if_pos hl, once_id h]
  rfl
theorem cut2_p {xs : List PV} : cutP xs (some ((2 : Nat) : Int)) none = xs.drop 2 := by rw [cutP_n0]
theorem e_read_core {line H : Str} {parts : List PV} {body : List Str} (r : Nat) (es : pSplit (.str line) [.str " "] = some parts) (hg : r_is_guess_row [.lst parts] = some (.bl false)) (hr : r_is_rule_row [.lst parts] = some (.bl true))
    (hd : parts.drop 2 = body.map .str) (hh : parts[0]? = some (.str H)) (hn : body.Nodup) (h6 : body.length ≤ 6) (hf : parts.all flat = true) : r_read_row [.str line, pN r] = some (.tup [.str "rule", .str H, .tup (body.map .str)]) := by
  have hbl : (body.map PV.str).length = body.length := by rw [List.length_map]
  unfold r_read_row d_read_row
  walk_at "ev"
  rw [es]
  walk_at "ev"
  rw [hf]
  walk_at "ev"
  rw [hg]
  walk_at "ev"
  rw [hr]
  walk_at "ev"
  rw [cut2_p, hd]
  walk_at "ev"
  rw [decide_eq_false (show ¬ 6 < body.length by omega)]
  walk_at "ev"
  rw [pLenSet_s hn (by omega)]
  walk_at "ev"
  rw [decide_eq_false (Nat.lt_irrefl _)]
  walk_at "ev"
  rw [hh]
  walk_at "ev"
theorem e_read_one {H : Str} (hH : Wd H) (r : Nat) : r_read_row [.str H, pN r] = some (.tup [.str "rule", .str H, .tup []]) := by
  have h1 := hH.l2
  have es : pSplit (.str H) [.str " "] = some [.str H] := by
    have := pSplit_join (w := H) (ws := []) (fun s hs => by rw [List.mem_singleton.mp hs]; exact low_sp hH.low) (by rw [tjoin_one]; omega)
    rw [tjoin_one] at this
    exact this
  exact e_read_core (body := []) r es (e_guess_no (ps := []) hH (by simp)) (e_rule_one hH) rfl rfl .nil (by simp) rfl
theorem e_read_body {H : Str} (hH : Wd H) {body : List Str} (hb : ∀ s ∈ body, Wd s) (h0 : 0 < body.length) (hn : body.Nodup) (h6 : body.length ≤ 6) (r : Nat) :
    r_read_row [.str (Txt.join sp (H :: "if" :: body)), pN r] = some (.tup [.str "rule", .str H, .tup (body.map .str)]) := by
  have es := pSplit_join (w := H) (ws := "if" :: body) (fun s hs => by
    rcases List.mem_cons.mp hs with rfl | z
    · exact low_sp hH.low
    · rcases List.mem_cons.mp z with rfl | z
      · exact no3_sp _ (by decide +kernel)
      · exact low_sp (hb s z).low) (by
    rw [tjoin_length]
    have e1 : ("if" : Str).length = 2 := by decide +kernel
    have e3 : sp.length = 1 := rfl
    have e4 := hH.l2
    have e5 := sum_len body 12 fun s hs => (hb s hs).l2
    simp only [List.map_cons, List.sum_cons, List.length_cons, e1, e3]
    omega)
  exact e_read_core (body := body) r es (e_guess_no (ps := "if" :: body) hH (by simp; omega)) (e_rule_body hH hb h0 (by omega)) rfl rfl hn h6 (by simp [flat])
end DH

set_option Elab.async false
set_option linter.all false
set_option maxRecDepth 100000
noncomputable section
namespace DH
open PySem PySem.Spec PyProof.Rows L2 L2.PM
theorem pIx_abc' {i : Nat} (h1 : i < 26) : pIx (.str "abcdefghijklmnopqrstuvwxyz") (pN i) = some (.str ⟨#[97 + i]⟩) := by
  have key : ∀ i : _root_.Fin 26, atI ("abcdefghijklmnopqrstuvwxyz" : Str).cps.toList ((i : Nat) : Int) = some (97 + (i : Nat)) := by decide +kernel
  have := key ⟨i, h1⟩
  dsimp only at this
  show (if ("abcdefghijklmnopqrstuvwxyz" : Str).length ≤ LIM then (atI ("abcdefghijklmnopqrstuvwxyz" : Str).cps.toList (i : Int)).map (fun c => PV.str ⟨#[c]⟩) else none) = _
  rw [if_pos (le_lim (by decide +kernel)), this]
  rfl
theorem forR_w {g : PV → PEnv → Option PEnv} {b : MSt} (I : Nat → PEnv → Prop) (n : Nat) (γ : PEnv) (h0 : I 0 γ)
    (step : ∀ j γ, j < n → I j γ → ∃ γ1 γ2, g (pN j) γ = some γ1 ∧ b γ1 = some (.nx γ2) ∧ I (j + 1) γ2) : ∃ γ', forL g b (encN (List.range n)) γ = some (.nx γ') ∧ I n γ' := by
  obtain ⟨γ', e, h⟩ := forL_pre (g := g) (b := b) pN (fun pre γ => I pre.length γ) (List.range n) (List.range n) [] γ rfl h0 (fun pre x post γ hp hI => by
    have hl := congrArg List.length hp
    simp at hl
    have hx : (List.range n)[pre.length]? = some x := by rw [← hp]; simp
    rw [List.getElem?_range (by omega)] at hx
    cases hx
    obtain ⟨γ1, γ2, h1, h2, h3⟩ := step pre.length γ (by omega) hI
    exact ⟨γ1, γ2, h1, h2, by simpa using h3⟩)
  rw [List.length_range] at h
  exact ⟨γ', e, h⟩
theorem len_str1 (c : Nat) : (⟨#[c]⟩ : Str).length = 1 := rfl
theorem low1 {i : Nat} (h : i < 26) : Low ⟨#[97 + i]⟩ := fun c hc => by
  simp at hc
  omega
theorem low_empty : Low ("" : Str) := fun c hc => by
  rw [show ("" : Str).cps.toList = [] by decide +kernel] at hc
  cases hc
local macro_rules | `(tactic| walk_at "ev") => `(tactic| try simp (disch := first | assumption | omega | (simp only [signs_len, encN_len, List.length_map, List.length_range, List.length_cons, List.length_nil, List.length_append]; omega) | decide) only [pLen_sn, mtK_s, ev_mN, encN_len, encN_flat, flat_n, pAdd_n, pSub_n, pMul_ln, pMul_rn, pMod_n, pMod_in, pDiv_n, pDiv_in, pLt_n, pLe_n, pGt_n, pGe_n, pEq_n, pNe_n, pAnd_n, pOr_n, pShl_n, pShr_n, testBit_odd, testBit_mod, pMin_n, pMax_n, pSum_n, rg1_n, oRg_n, mtK_n, isInt_n, isBl_n, isTup_n, isN_pn, tru_n, pNeg_n, atI_last1, Nat.not_lt_zero, pInt_n, pIx_ln, pIx_tn, encN_get, augK_n, sixK_n, pIn_nl, pIn_nt, pNotIn_nl, pNotIn_nt, runV_0, runV_1, runV_2, runV_3, runV_4, runV_5, runV_6, runV_7, ev_startG1, ev_sSeq, seqK_nx, seqK_rt, seqK_ro, seqK_ct, seqK_bk, ev_sSet, ev_sSetO, ev_sRet, ev_sRetO, ev_sRetV, ev_sRetN, retS_ow, retS_fz, ev_sIf, ifK_t, ifK_f, ev_sNx, ev_sBk, ev_sCt, ev_bin2, ev_mVar, ev_mC, ev_mCall, ev_mLst, ev_mTup, tupK_ok, ev_mLim, limK_ok, ev_aCons, ev_aNil, ev_truB, isB_bl, ev_mIsi, isiK_i, isiK_b, isiK_s, isiK_t, isiK_l, isiK_0, isiK_n, getV_0, getV_s, val_fz, val_ow, List.length_cons, List.length_nil, if_true, List.map_cons, List.map_nil, List.replicate_zero, List.replicate_succ, List.cons_append, List.nil_append, List.getElem?_cons_zero, List.getElem?_cons_succ, Option.bind_some, Option.map_some, pAdd_i, pSub_i, pLt_i, pLe_i, pGt_i, pGe_i, pEq_i, pNe_i, pLen_ln, pLen_tn, pIx_lst, pIx_tup, keepE_true, keepE_false, flat_int, flat_bl, flat_str, flat_non, flat_tup, flat_lst, List.set_cons_zero, List.set_cons_succ, outV_rt, outV_ro, outV_nx, ev_bAnd, andK_t, andK_f, ev_bOr, orK_t, orK_f, ev_bNot, ev_vAnd, vAndK_t, vAndK_f, ev_vOr, vOrK_t, vOrK_f, ev_vNot, ev_mIfE, ifEK_t, ifEK_f, ev_ch3, chK_t, chK_f, ev_un1, pNeg_i, ev_mMt0, ev_mMt, mtK_i, mtK_s, mtK_l, ev_sForR, ev_sFor, ev_mComp, cmpK_ok, ev_iRg1, rg1_i, ev_iRg2, rg2_i, ev_oRng, oRg_i, ev_iLst, itL_l, ev_iTpl, itT_t, ev_iSeq, itS_l, itS_t, pEnum_l, pEnum_t, pRev_l, pRevT_l, ev_blkG, ev_capS, capO_s, ev_gSet, gSet2_t, gSet3_t, ev_mTru, tru_i, tru_b, tru_l, tru_t, ev_tYesM, pMod_i, pDiv_i, pMul_l, pMul_r,  pBits_pn,  List.length_map, List.length_range, tru_bit, ev_sl3, ev_mNo, ev_mSo, pInt_i, pCut_l, pCutS_s, pItems_l, pItems_t, pTuple_l, pTuple_t, pMin_i, pMax_i, pSum_i, pLen_sn, pAdd_s, pCat_l, isInt_i, isBl_i, isBl_b, isStr_s, isTup_t, isTup_l, isLst_l, isN_i, isN_n, isN_t, pIs_non, pIsNot_non, forL_nil, frz_nil, frz_cons, frz1_0, frz1_s, frzS_ow, frzS_fz, frzS_un, ev_sAug, augK_i, ev_sAsg, ev_sApp, ev_sSetIx, sixK_ow, decide_true, decide_false, Bool.not_true, Bool.not_false, Bool.true_or, Bool.false_or, Bool.or_true, Bool.or_false, List.all_nil, List.all_cons, Bool.true_and, Bool.false_and, allflat_ints, allflat_strs, allflat_nats, List.length_append, cutP_map])
theorem e_draws (c : Int) : ∃ ds : List Nat, r__law_draws [.int c, pN 15] = some (.lst (encN ds)) ∧ ds.length = 15 := by
  unfold r__law_draws d__law_draws
  walk_at "ev"
  generalize ((c % ((2147483629 : Nat) : Int)).toNat + 1) * 1103515245 % 2147483647 = n0
  obtain ⟨γ', e, number, ds, s4, rfl, h1⟩ := forR_w (g := gSet 4) (b := b1__law_draws) (fun j γ => ∃ (number : Nat) (ds : List Nat) (s4 : Slot), γ = [.fz (.int c), .fz (pN 15), .fz (pN number), .ow (encN ds), s4] ∧ ds.length = j)
    15 [.fz (.int c), .fz (pN 15), .fz (pN n0), .ow (encN []), .un] ⟨n0, [], .un, rfl, rfl⟩ (by
      rintro j γ hj ⟨number, ds, s4, rfl, h1⟩
      refine ⟨_, _, rfl, ?_, number * 48271 % 2147483647, ds ++ [number * 48271 % 2147483647 / 13], .fz (pN j), rfl, by simp [h1]⟩
      unfold b1__law_draws
      walk_at "ev"
      rw [appK_ow (by rw [encN_len]; omega) rfl]
      walk_at "ev"
      simp [encN])
  rw [show ([] : List PV) = encN [] from rfl, e]
  walk_at "ev"
  exact ⟨ds, rfl, h1⟩
theorem e_fresh (n0 : Nat) {size : Nat} (hs : size ≤ 12) : ∃ s : Str, r__law_fresh [pN n0, pN size] = some (.str s) ∧ s.length = size ∧ Low s := by
  unfold r__law_fresh d__law_fresh
  walk_at "ev"
  obtain ⟨γ', e, number, s, s4, rfl, h1, h2⟩ := forR_w (g := gSet 4) (b := b1__law_fresh) (fun j γ => ∃ (number : Nat) (s : Str) (s4 : Slot), γ = [.fz (pN number), .fz (pN size), .fz (.str "abcdefghijklmnopqrstuvwxyz"), .fz (.str s), s4] ∧ s.length = j ∧ Low s)
    size [.fz (pN n0), .fz (pN size), .fz (.str "abcdefghijklmnopqrstuvwxyz"), .fz (.str ""), .un] ⟨n0, "", .un, rfl, rfl, low_empty⟩ (by
      rintro j γ hj ⟨number, s, s4, rfl, h1, h2⟩
      have hm : (number * 69621 + 1) % 2147483647 / 17 % 26 < 26 := Nat.mod_lt _ (by decide)
      refine ⟨_, _, rfl, ?_, (number * 69621 + 1) % 2147483647, s ++ ⟨#[97 + (number * 69621 + 1) % 2147483647 / 17 % 26]⟩, .fz (pN j), rfl, by rw [len_app, len_str1]; omega, low_app h2 (low1 hm)⟩
      unfold b1__law_fresh
      generalize hn : (number * 69621 + 1) % 2147483647 / 17 % 26 = i at *
      walk_at "ev"
      rw [hn, pIx_abc' hm]
      have := len_str1 (97 + i)
      walk_at "ev")
  rw [e]
  walk_at "ev"
  exact ⟨s, rfl, h1, h2⟩
theorem idx_lo (u : Option Int) (n : Nat) : Builtin.Str.strSliceIndices none u 1 n = Builtin.Str.strSliceIndices (some ((0 : Nat) : Int)) u 1 n := by
  have e0 : max (0 : Int) (min (((0 : Nat) : Int)) (n : Int)) = 0 := by omega
  unfold Builtin.Str.strSliceIndices
  simp only [show ((1 : Int) > 0) = True by simp, if_true, show ¬ (((0 : Nat) : Int) < 0) by omega, if_false, e0]
theorem idx_hi (l : Option Int) (n : Nat) : Builtin.Str.strSliceIndices l none 1 n = Builtin.Str.strSliceIndices l (some ((n : Nat) : Int)) 1 n := by
  have e0 : max (0 : Int) (min ((n : Nat) : Int) (n : Int)) = n := by omega
  unfold Builtin.Str.strSliceIndices
  simp only [show ((1 : Int) > 0) = True by simp, if_true, show ¬ (((n : Nat) : Int) < 0) by omega, if_false, e0]
theorem slice_ab (x : Str) {a b : Nat} (hab : a ≤ b) (hb : b ≤ x.length) (l u : Option Int) (e : Builtin.Str.strSliceIndices l u 1 x.length = Builtin.Str.strSliceIndices (some (a : Int)) (some (b : Int)) 1 x.length) :
    (Txt.slice x l u).cps.toList = (x.cps.toList.drop a).take (b - a) := by
  have hx : x.cps.toList.length = x.length := by simp [Str.length]
  have hp := StrLaws.sliced_plain x hab hb
  have hi := StrLaws.strSliceIndices_plain hab hb
  unfold Txt.slice
  rw [e]
  split
  · rename_i h
    rw [hi] at h
    simp at h
    have h1 : b - a = x.length := h
    have h2 : a = 0 := by omega
    subst h2
    rw [List.drop_zero, List.take_of_length_le (by omega)]
  · exact hp
end DH

set_option Elab.async false
set_option linter.all false
set_option maxRecDepth 100000
noncomputable section
namespace DH
open PySem PySem.Spec PyProof.Rows L2 L2.PM
def safeS (s : Str) : Str := if no3.any (· == s) = true then s ++ "a" else s
theorem safe_mem {s : Str} : no3.any (· == s) = true ↔ s ∈ no3 := by
  rw [List.any_eq_true]
  constructor
  · rintro ⟨x, hx, e⟩
    rw [← beq_iff_eq.mp e]; exact hx
  · intro h
    exact ⟨s, h, by simp⟩
theorem no3_len {s : Str} (h : s ∈ no3) : s.length ≤ 6 := (show ∀ s ∈ no3, s.length ≤ 6 by decide +kernel) s h
theorem no3_a : ∀ s ∈ no3, (s ++ "a") ∉ no3 := by decide +kernel
theorem low_a : Low ("a" : Str) := fun c hc => by
  rw [show ("a" : Str).cps.toList = [97] by decide +kernel] at hc
  simp at hc
  omega
theorem len_a : ("a" : Str).length = 1 := rfl
theorem safe_wd {s : Str} (h1 : 1 ≤ s.length) (h2 : s.length ≤ 12) (h3 : Low s) : Wd (safeS s) := by
  unfold safeS
  split
  · rename_i h
    have hm := safe_mem.mp h
    have := no3_len hm
    exact ⟨by rw [len_app]; omega, by rw [len_app, len_a]; omega, low_app h3 low_a, no3_a s hm⟩
  · rename_i h
    exact ⟨h1, h2, h3, fun z => h (safe_mem.mpr z)⟩
local macro_rules | `(tactic| walk_at "ev") => `(tactic| try simp (disch := first | assumption | omega | (simp only [signs_len, encN_len, List.length_map, List.length_range, List.length_cons, List.length_nil, List.length_append]; omega) | decide) only [pLen_sn, mtK_s, ev_mN, encN_len, encN_flat, flat_n, pAdd_n, pSub_n, pMul_ln, pMul_rn, pMod_n, pMod_in, pDiv_n, pDiv_in, pLt_n, pLe_n, pGt_n, pGe_n, pEq_n, pNe_n, pAnd_n, pOr_n, pShl_n, pShr_n, testBit_odd, testBit_mod, pMin_n, pMax_n, pSum_n, rg1_n, oRg_n, mtK_n, isInt_n, isBl_n, isTup_n, isN_pn, tru_n, pNeg_n, atI_last1, Nat.not_lt_zero, pInt_n, pIx_ln, pIx_tn, encN_get, augK_n, sixK_n, pIn_nl, pIn_nt, pNotIn_nl, pNotIn_nt, runV_0, runV_1, runV_2, runV_3, runV_4, runV_5, runV_6, runV_7, ev_startG1, ev_sSeq, seqK_nx, seqK_rt, seqK_ro, seqK_ct, seqK_bk, ev_sSet, ev_sSetO, ev_sRet, ev_sRetO, ev_sRetV, ev_sRetN, retS_ow, retS_fz, ev_sIf, ifK_t, ifK_f, ev_sNx, ev_sBk, ev_sCt, ev_bin2, ev_mVar, ev_mC, ev_mCall, ev_mLst, ev_mTup, tupK_ok, ev_mLim, limK_ok, ev_aCons, ev_aNil, ev_truB, isB_bl, ev_mIsi, isiK_i, isiK_b, isiK_s, isiK_t, isiK_l, isiK_0, isiK_n, getV_0, getV_s, val_fz, val_ow, List.length_cons, List.length_nil, if_true, List.map_cons, List.map_nil, List.replicate_zero, List.replicate_succ, List.cons_append, List.nil_append, List.getElem?_cons_zero, List.getElem?_cons_succ, Option.bind_some, Option.map_some, pAdd_i, pSub_i, pLt_i, pLe_i, pGt_i, pGe_i, pEq_i, pNe_i, pLen_ln, pLen_tn, pIx_lst, pIx_tup, keepE_true, keepE_false, flat_int, flat_bl, flat_str, flat_non, flat_tup, flat_lst, List.set_cons_zero, List.set_cons_succ, outV_rt, outV_ro, outV_nx, ev_bAnd, andK_t, andK_f, ev_bOr, orK_t, orK_f, ev_bNot, ev_vAnd, vAndK_t, vAndK_f, ev_vOr, vOrK_t, vOrK_f, ev_vNot, ev_mIfE, ifEK_t, ifEK_f, ev_ch3, chK_t, chK_f, ev_un1, pNeg_i, ev_mMt0, ev_mMt, mtK_i, mtK_s, mtK_l, ev_sForR, ev_sFor, ev_mComp, cmpK_ok, ev_iRg1, rg1_i, ev_iRg2, rg2_i, ev_oRng, oRg_i, ev_iLst, itL_l, ev_iTpl, itT_t, ev_iSeq, itS_l, itS_t, pEnum_l, pEnum_t, pRev_l, pRevT_l, ev_blkG, ev_capS, capO_s, ev_gSet, gSet2_t, gSet3_t, ev_mTru, tru_i, tru_b, tru_l, tru_t, ev_tYesM, pMod_i, pDiv_i, pMul_l, pMul_r,  pBits_pn,  List.length_map, List.length_range, tru_bit, ev_sl3, ev_mNo, ev_mSo, pInt_i, pCut_l, pCutS_s, pItems_l, pItems_t, pTuple_l, pTuple_t, pMin_i, pMax_i, pSum_i, pLen_sn, pAdd_s, pCat_l, isInt_i, isBl_i, isBl_b, isStr_s, isTup_t, isTup_l, isLst_l, isN_i, isN_n, isN_t, pIs_non, pIsNot_non, forL_nil, frz_nil, frz_cons, frz1_0, frz1_s, frzS_ow, frzS_fz, frzS_un, ev_sAug, augK_i, ev_sAsg, ev_sApp, ev_sSetIx, sixK_ow, decide_true, decide_false, Bool.not_true, Bool.not_false, Bool.true_or, Bool.false_or, Bool.or_true, Bool.or_false, List.all_nil, List.all_cons, Bool.true_and, Bool.false_and, allflat_ints, allflat_strs, allflat_nats, List.length_append, cutP_map])
theorem e_safe {s : Str} (h2 : s.length ≤ 12) (h3 : Low s) : r__law_safe [.str s] = some (.str (safeS s)) := by
  have := len_a
  unfold r__law_safe d__law_safe safeS
  walk_at "ev"
  rw [pIn_3 h3]
  walk_at "ev"
  cases no3.any (· == s) with
  | true => walk_at "ev"
  | false => walk_at "ev"; simp
def nearL : List Str := ["guesss", "gues", "uess", "unles", "nless", "ifs", "fi", "i", "f", "unlessif", "guessif", "ifguess"]
def wdB (s : Str) : Bool := decide (1 ≤ s.length) && decide (s.length ≤ 12) && s.cps.toList.all (fun c => decide (97 ≤ c) && decide (c ≤ 122)) && !no3.contains s
theorem wdB_wd {s : Str} (h : wdB s = true) : Wd s := by
  unfold wdB at h
  simp only [Bool.and_eq_true, decide_eq_true_iff, List.all_eq_true, Bool.not_eq_true'] at h
  obtain ⟨⟨⟨h1, h2⟩, h3⟩, h4⟩ := h
  exact ⟨h1, h2, fun c hc => by simpa using h3 c hc, by simpa using h4⟩
def nears (d : Nat) : List Str := (List.range 7).map fun k => nearL.getD ((d + 5 * k) % 12) ""
theorem nears_mod (d : Nat) : nears d = nears (d % 12) := by
  unfold nears
  refine List.map_congr_left fun k _ => ?_
  congr 1
  omega
theorem nears_ok (d : Nat) : (∀ s ∈ nears d, Wd s) ∧ (nears d).Nodup ∧ (nears d).length = 7 := by
  rw [nears_mod]
  have hd : d % 12 < 12 := Nat.mod_lt _ (by decide)
  have key : ∀ r : _root_.Fin 12, ((nears r).all wdB = true ∧ (nears r).Nodup) := by decide +kernel
  obtain ⟨k1, k2⟩ := key ⟨d % 12, hd⟩
  exact ⟨fun s hs => wdB_wd (List.all_eq_true.mp k1 s hs), k2, by unfold nears; simp⟩
theorem ds_get {ds : List Nat} (h : ds.length = 15) {i : Nat} (hi : i < 15) : (encN ds)[i]? = some (pN (ds.getD i 0)) := by
  rw [encN_get, List.getElem?_eq_getElem (by omega), List.getD_eq_getElem?_getD, List.getElem?_eq_getElem (by omega)]
  rfl
theorem near_get {i : Nat} (h : i < 12) : (nearL.map PV.str)[i]? = some (.str (nearL.getD i "")) := by
  have hl : i < nearL.length := h
  rw [List.getElem?_map, List.getElem?_eq_getElem hl, List.getD_eq_getElem?_getD, List.getElem?_eq_getElem hl]
  rfl
theorem e_near {ds : List Nat} (h : ds.length = 15) : r__law_near_names [.lst (encN ds)] = some (.lst ((nears (ds.getD 0 0)).map .str)) := by
  have e0 := ds_get h (i := 0) (by decide)
  unfold r__law_near_names d__law_near_names
  generalize encN ds = E at *
  generalize ds.getD 0 0 = d at *
  walk_at "ev"
  rw [compNA (fun k => PV.str (nearL.getD ((d + 5 * k) % 12) "")) _ fun k hk => ⟨_, rfl, by
    have hm : (d + 5 * k) % 12 < 12 := Nat.mod_lt _ (by decide)
    walk_at "ev"
    rw [e0]
    walk_at "ev"
    exact near_get hm⟩]
  walk_at "ev"
  unfold nears
  rw [List.map_map]
  rfl
/-! ### names that are alike but for one sign -/
def alt (base : Str) (at' i : Nat) : Str := Txt.slice base none (some (at' : Int)) ++ ⟨#[97 + i]⟩ ++ Txt.slice base (some ((at' + 1 : Nat) : Int)) none
theorem alt_list {base : Str} {at' : Nat} (h : at' < base.length) (i : Nat) : (alt base at' i).cps.toList = base.cps.toList.take at' ++ (97 + i) :: base.cps.toList.drop (at' + 1) := by
  have hx : base.cps.toList.length = base.length := by simp [Str.length]
  have e1 := slice_ab base (a := 0) (b := at') (Nat.zero_le _) (by omega) none (some (at' : Int)) (idx_lo _ _)
  have e2 := slice_ab base (a := at' + 1) (b := base.length) (by omega) (Nat.le_refl _) (some ((at' + 1 : Nat) : Int)) none (idx_hi _ _)
  show ((Txt.slice base none (some (at' : Int))).cps ++ #[97 + i] ++ (Txt.slice base (some ((at' + 1 : Nat) : Int)) none).cps).toList = _
  rw [Array.toList_append, Array.toList_append, e1, e2]
  simp
  rw [List.take_of_length_le (by rw [List.length_drop]; omega)]
theorem alt_len {base : Str} {at' : Nat} (h : at' < base.length) (i : Nat) : (alt base at' i).length = base.length := by
  have hx : base.cps.toList.length = base.length := by simp [Str.length]
  have : (alt base at' i).cps.toList.length = (alt base at' i).length := by simp [Str.length]
  rw [← this, alt_list h, List.length_append, List.length_cons, List.length_take, List.length_drop]
  omega
theorem alt_low {base : Str} {at' : Nat} (h : at' < base.length) (hb : Low base) {i : Nat} (hi : i < 26) : Low (alt base at' i) := fun c hc => by
  rw [alt_list h] at hc
  rcases List.mem_append.mp hc with z | z
  · exact hb c (List.mem_of_mem_take z)
  · rcases List.mem_cons.mp z with z | z
    · omega
    · exact hb c (List.mem_of_mem_drop z)
theorem alt_inj {base : Str} {at' : Nat} (h : at' < base.length) {i j : Nat} (e : alt base at' i = alt base at' j) : i = j := by
  have := congrArg (fun s : Str => s.cps.toList) e
  rw [alt_list h, alt_list h] at this
  have := List.append_cancel_left this
  have := (List.cons.inj this).1
  omega
theorem app_inj {a b c : Str} (h : a ++ c = b ++ c) : a = b := by
  have h : a.cps ++ c.cps = b.cps ++ c.cps := congrArg Str.cps h
  have h2 := congrArg Array.toList h
  rw [Array.toList_append, Array.toList_append] at h2
  have := List.append_cancel_right h2
  cases a; cases b
  simp at this
  simp [this]
theorem safe_inj {a b : Str} (hl : a.length = b.length) (e : safeS a = safeS b) : a = b := by
  unfold safeS at e
  split at e
  · split at e
    · exact app_inj e
    · have := congrArg Str.length e
      rw [len_app, len_a] at this
      omega
  · split at e
    · have := congrArg Str.length e
      rw [len_app, len_a] at this
      omega
    · exact e
def likes (base : Str) (at' d step : Nat) (n : Nat) : List Str := (List.range n).map fun k => safeS (alt base at' ((d + k * step) % 26))
theorem step_inj : ∀ st ∈ [1, 3, 5, 7, 9, 11], ∀ r : _root_.Fin 26, ∀ j k : _root_.Fin 7, ((r : Nat) + (j : Nat) * st) % 26 = ((r : Nat) + (k : Nat) * st) % 26 → j = k := by decide +kernel
theorem likes_ok {base : Str} {at' d step : Nat} (h1 : base.length ≤ 12) (h : at' < base.length) (hb : Low base) (hs : step ∈ [1, 3, 5, 7, 9, 11]) : (∀ s ∈ likes base at' d step 7, Wd s) ∧ (likes base at' d step 7).Nodup ∧ (likes base at' d step 7).length = 7 := by
  refine ⟨fun s hs' => ?_, ?_, by unfold likes; simp⟩
  · obtain ⟨k, _, rfl⟩ := List.mem_map.mp hs'
    have hm : (d + k * step) % 26 < 26 := Nat.mod_lt _ (by decide)
    exact safe_wd (by rw [alt_len h]; omega) (by rw [alt_len h]; omega) (alt_low h hb hm)
  · unfold likes
    refine List.Pairwise.map _ (fun a b hab => hab) ?_
    refine List.pairwise_iff_getElem.mpr fun i j hi hj hij => ?_
    simp at hi hj
    simp only [List.getElem_range]
    intro e
    have e2 := alt_inj h (safe_inj (by rw [alt_len h, alt_len h]) e)
    have hd : d % 26 < 26 := Nat.mod_lt _ (by decide)
    have := step_inj step hs ⟨d % 26, hd⟩ ⟨i, hi⟩ ⟨j, hj⟩ (by
      show (d % 26 + i * step) % 26 = (d % 26 + j * step) % 26
      rw [Nat.mod_add_mod, Nat.mod_add_mod]
      exact e2)
    have : i = j := congrArg (fun z : _root_.Fin 7 => (z : Nat)) this
    omega
end DH

set_option Elab.async false
set_option linter.all false
set_option maxRecDepth 100000
noncomputable section
namespace DH
open PySem PySem.Spec PyProof.Rows L2 L2.PM
theorem steps_get {i : Nat} (h : i < 6) : ∃ st, st ∈ [1, 3, 5, 7, 9, 11] ∧ ([pN 1, pN 3, pN 5, pN 7, pN 9, pN 11])[i]? = some (pN st) ∧ st ≤ 11 := by
  have : i = 0 ∨ i = 1 ∨ i = 2 ∨ i = 3 ∨ i = 4 ∨ i = 5 := by omega
  rcases this with rfl | rfl | rfl | rfl | rfl | rfl
  · exact ⟨1, by decide, rfl, by decide⟩
  · exact ⟨3, by decide, rfl, by decide⟩
  · exact ⟨5, by decide, rfl, by decide⟩
  · exact ⟨7, by decide, rfl, by decide⟩
  · exact ⟨9, by decide, rfl, by decide⟩
  · exact ⟨11, by decide, rfl, by decide⟩
local macro_rules | `(tactic| walk_at "ev") => `(tactic| try simp (disch := first | assumption | omega | (simp only [signs_len, encN_len, List.length_map, List.length_range, List.length_cons, List.length_nil, List.length_append]; omega) | decide) only [pLen_sn, mtK_s, ev_mN, encN_len, encN_flat, flat_n, pAdd_n, pSub_n, pMul_ln, pMul_rn, pMod_n, pMod_in, pDiv_n, pDiv_in, pLt_n, pLe_n, pGt_n, pGe_n, pEq_n, pNe_n, pAnd_n, pOr_n, pShl_n, pShr_n, testBit_odd, testBit_mod, pMin_n, pMax_n, pSum_n, rg1_n, oRg_n, mtK_n, isInt_n, isBl_n, isTup_n, isN_pn, tru_n, pNeg_n, atI_last1, Nat.not_lt_zero, pInt_n, pIx_ln, pIx_tn, encN_get, augK_n, sixK_n, pIn_nl, pIn_nt, pNotIn_nl, pNotIn_nt, runV_0, runV_1, runV_2, runV_3, runV_4, runV_5, runV_6, runV_7, ev_startG1, ev_sSeq, seqK_nx, seqK_rt, seqK_ro, seqK_ct, seqK_bk, ev_sSet, ev_sSetO, ev_sRet, ev_sRetO, ev_sRetV, ev_sRetN, retS_ow, retS_fz, ev_sIf, ifK_t, ifK_f, ev_sNx, ev_sBk, ev_sCt, ev_bin2, ev_mVar, ev_mC, ev_mCall, ev_mLst, ev_mTup, tupK_ok, ev_mLim, limK_ok, ev_aCons, ev_aNil, ev_truB, isB_bl, ev_mIsi, isiK_i, isiK_b, isiK_s, isiK_t, isiK_l, isiK_0, isiK_n, getV_0, getV_s, val_fz, val_ow, List.length_cons, List.length_nil, if_true, List.map_cons, List.map_nil, List.replicate_zero, List.replicate_succ, List.cons_append, List.nil_append, List.getElem?_cons_zero, List.getElem?_cons_succ, Option.bind_some, Option.map_some, pAdd_i, pSub_i, pLt_i, pLe_i, pGt_i, pGe_i, pEq_i, pNe_i, pLen_ln, pLen_tn, pIx_lst, pIx_tup, keepE_true, keepE_false, flat_int, flat_bl, flat_str, flat_non, flat_tup, flat_lst, List.set_cons_zero, List.set_cons_succ, outV_rt, outV_ro, outV_nx, ev_bAnd, andK_t, andK_f, ev_bOr, orK_t, orK_f, ev_bNot, ev_vAnd, vAndK_t, vAndK_f, ev_vOr, vOrK_t, vOrK_f, ev_vNot, ev_mIfE, ifEK_t, ifEK_f, ev_ch3, chK_t, chK_f, ev_un1, pNeg_i, ev_mMt0, ev_mMt, mtK_i, mtK_s, mtK_l, ev_sForR, ev_sFor, ev_mComp, cmpK_ok, ev_iRg1, rg1_i, ev_iRg2, rg2_i, ev_oRng, oRg_i, ev_iLst, itL_l, ev_iTpl, itT_t, ev_iSeq, itS_l, itS_t, pEnum_l, pEnum_t, pRev_l, pRevT_l, ev_blkG, ev_capS, capO_s, ev_gSet, gSet2_t, gSet3_t, ev_mTru, tru_i, tru_b, tru_l, tru_t, ev_tYesM, pMod_i, pDiv_i, pMul_l, pMul_r,  pBits_pn,  List.length_map, List.length_range, tru_bit, ev_sl3, ev_mNo, ev_mSo, pInt_i, pCut_l, pCutS_s, pItems_l, pItems_t, pTuple_l, pTuple_t, pMin_i, pMax_i, pSum_i, pLen_sn, pAdd_s, pCat_l, isInt_i, isBl_i, isBl_b, isStr_s, isTup_t, isTup_l, isLst_l, isN_i, isN_n, isN_t, pIs_non, pIsNot_non, forL_nil, frz_nil, frz_cons, frz1_0, frz1_s, frzS_ow, frzS_fz, frzS_un, ev_sAug, augK_i, ev_sAsg, ev_sApp, ev_sSetIx, sixK_ow, decide_true, decide_false, Bool.not_true, Bool.not_false, Bool.true_or, Bool.false_or, Bool.or_true, Bool.or_false, List.all_nil, List.all_cons, Bool.true_and, Bool.false_and, allflat_ints, allflat_strs, allflat_nats, List.length_append, cutP_map])
theorem like_turn {E : List PV} {base : Str} {at' d step j : Nat} (e4 : E[4]? = some (pN d)) (h1 : base.length ≤ 12) (h : at' < base.length) (hb : Low base) (hst : step ≤ 11) (hj : j < 7) (acc : List Str) (hl : acc.length ≤ 7) (s7 : Slot) :
    ∃ s7', b1__law_like_names [.fz (.lst E), .fz (.str "abcdefghijklmnopqrstuvwxyz"), .fz (.str base), .fz (pN at'), .fz (pN step), .ow (acc.map .str), .fz (pN j), s7] =
      some (.nx [.fz (.lst E), .fz (.str "abcdefghijklmnopqrstuvwxyz"), .fz (.str base), .fz (pN at'), .fz (pN step), .ow ((acc ++ [safeS (alt base at' ((d + j * step) % 26))]).map .str), .fz (pN j), s7']) := by
  have hm : (d + j * step) % 26 < 26 := Nat.mod_lt _ (by decide)
  have a1 := alt_len h ((d + j * step) % 26)
  have a2 := alt_low h hb hm
  have es := e_safe (s := alt base at' ((d + j * step) % 26)) (by omega) a2
  unfold b1__law_like_names
  walk_at "ev"
  rw [e4]
  walk_at "ev"
  rw [pIx_abc' hm]
  have l1 := slice_len base none (some (at' : Int))
  have l2 := slice_len base (some ((at' + 1 : Nat) : Int)) none
  have l3 := len_str1 (97 + (d + j * step) % 26)
  have l4 := len_app (Txt.slice base none (some (at' : Int))) ⟨#[97 + (d + j * step) % 26]⟩
  unfold alt at es
  walk_at "ev"
  rw [es]
  walk_at "ev"
  rw [appK_ow (by rw [List.length_map]; omega) rfl]
  walk_at "ev"
  refine ⟨_, by rw [List.map_append]; rfl⟩
theorem e_like {ds : List Nat} (hd : ds.length = 15) : ∃ names : List Str, r__law_like_names [.lst (encN ds)] = some (.lst (names.map .str)) ∧ (∀ s ∈ names, Wd s) ∧ names.Nodup ∧ names.length = 7 := by
  have e0 := ds_get hd (i := 0) (by decide)
  have e1 := ds_get hd (i := 1) (by decide)
  have e2 := ds_get hd (i := 2) (by decide)
  have e3 := ds_get hd (i := 3) (by decide)
  have e4 := ds_get hd (i := 4) (by decide)
  unfold r__law_like_names d__law_like_names
  generalize encN ds = E at *
  generalize ds.getD 0 0 = d0 at *
  generalize ds.getD 1 0 = d1 at *
  generalize ds.getD 2 0 = d2 at *
  generalize ds.getD 3 0 = d3 at *
  generalize ds.getD 4 0 = d4 at *
  have hz : 1 + d1 % 12 ≤ 12 := by omega
  obtain ⟨base, eb, b1, b2⟩ := e_fresh d0 hz
  have hat : d2 % base.length < base.length := Nat.mod_lt _ (by omega)
  obtain ⟨step, hst, est, hs11⟩ := steps_get (i := d3 % 6) (Nat.mod_lt _ (by decide))
  walk_at "ev"
  rw [e0, e1]
  walk_at "ev"
  rw [eb]
  walk_at "ev"
  rw [e2]
  have bl : base.length ≤ 12 := by omega
  have bp : 0 < base.length := by omega
  walk_at "ev"
  rw [e3]
  walk_at "ev"
  rw [est]
  walk_at "ev"
  obtain ⟨γ', e, s6, s7, rfl⟩ := forR_w (g := gSet 6) (b := b1__law_like_names) (fun j γ => ∃ s6 s7 : Slot, γ = [.fz (.lst E), .fz (.str "abcdefghijklmnopqrstuvwxyz"), .fz (.str base), .fz (pN (d2 % base.length)), .fz (pN step), .ow ((likes base (d2 % base.length) d4 step j).map .str), s6, s7])
    7 [.fz (.lst E), .fz (.str "abcdefghijklmnopqrstuvwxyz"), .fz (.str base), .fz (pN (d2 % base.length)), .fz (pN step), .ow ((likes base (d2 % base.length) d4 step 0).map .str), .un, .un] ⟨.un, .un, rfl⟩ (by
      rintro j γ hj ⟨s6, s7, rfl⟩
      obtain ⟨s7', e⟩ := like_turn e4 bl hat b2 hs11 hj (likes base (d2 % base.length) d4 step j) (by unfold likes; simp; omega) s7
      refine ⟨_, _, rfl, e, .fz (pN j), s7', ?_⟩
      rw [show likes base (d2 % base.length) d4 step (j + 1) = likes base (d2 % base.length) d4 step j ++ [safeS (alt base (d2 % base.length) ((d4 + j * step) % 26))] by
        unfold likes
        rw [List.range_succ, List.map_append]
        rfl])
  rw [show ([] : List PV) = (likes base (d2 % base.length) d4 step 0).map PV.str from rfl, e]
  walk_at "ev"
  obtain ⟨k1, k2, k3⟩ := likes_ok (d := d4) bl hat b2 hst
  exact ⟨_, rfl, k1, k2, k3⟩
end DH

set_option Elab.async false
set_option linter.all false
set_option maxRecDepth 100000
noncomputable section
namespace DH
open PySem PySem.Spec PyProof.Rows L2 L2.PM
local macro_rules | `(tactic| walk_at "ev") => `(tactic| try simp (disch := first | assumption | omega | (simp only [signs_len, encN_len, List.length_map, List.length_range, List.length_cons, List.length_nil, List.length_append]; omega) | decide) only [pLen_sn, mtK_s, ev_mN, encN_len, encN_flat, flat_n, pAdd_n, pSub_n, pMul_ln, pMul_rn, pMod_n, pMod_in, pDiv_n, pDiv_in, pLt_n, pLe_n, pGt_n, pGe_n, pEq_n, pNe_n, pAnd_n, pOr_n, pShl_n, pShr_n, testBit_odd, testBit_mod, pMin_n, pMax_n, pSum_n, rg1_n, oRg_n, mtK_n, isInt_n, isBl_n, isTup_n, isN_pn, tru_n, pNeg_n, atI_last1, Nat.not_lt_zero, pInt_n, pIx_ln, pIx_tn, encN_get, augK_n, sixK_n, pIn_nl, pIn_nt, pNotIn_nl, pNotIn_nt, runV_0, runV_1, runV_2, runV_3, runV_4, runV_5, runV_6, runV_7, ev_startG1, ev_sSeq, seqK_nx, seqK_rt, seqK_ro, seqK_ct, seqK_bk, ev_sSet, ev_sSetO, ev_sRet, ev_sRetO, ev_sRetV, ev_sRetN, retS_ow, retS_fz, ev_sIf, ifK_t, ifK_f, ev_sNx, ev_sBk, ev_sCt, ev_bin2, ev_mVar, ev_mC, ev_mCall, ev_mLst, ev_mTup, tupK_ok, ev_mLim, limK_ok, ev_aCons, ev_aNil, ev_truB, isB_bl, ev_mIsi, isiK_i, isiK_b, isiK_s, isiK_t, isiK_l, isiK_0, isiK_n, getV_0, getV_s, val_fz, val_ow, List.length_cons, List.length_nil, if_true, List.map_cons, List.map_nil, List.replicate_zero, List.replicate_succ, List.cons_append, List.nil_append, List.getElem?_cons_zero, List.getElem?_cons_succ, Option.bind_some, Option.map_some, pAdd_i, pSub_i, pLt_i, pLe_i, pGt_i, pGe_i, pEq_i, pNe_i, pLen_ln, pLen_tn, pIx_lst, pIx_tup, keepE_true, keepE_false, flat_int, flat_bl, flat_str, flat_non, flat_tup, flat_lst, List.set_cons_zero, List.set_cons_succ, outV_rt, outV_ro, outV_nx, ev_bAnd, andK_t, andK_f, ev_bOr, orK_t, orK_f, ev_bNot, ev_vAnd, vAndK_t, vAndK_f, ev_vOr, vOrK_t, vOrK_f, ev_vNot, ev_mIfE, ifEK_t, ifEK_f, ev_ch3, chK_t, chK_f, ev_un1, pNeg_i, ev_mMt0, ev_mMt, mtK_i, mtK_s, mtK_l, ev_sForR, ev_sFor, ev_mComp, cmpK_ok, ev_iRg1, rg1_i, ev_iRg2, rg2_i, ev_oRng, oRg_i, ev_iLst, itL_l, ev_iTpl, itT_t, ev_iSeq, itS_l, itS_t, pEnum_l, pEnum_t, pRev_l, pRevT_l, ev_blkG, ev_capS, capO_s, ev_gSet, gSet2_t, gSet3_t, ev_mTru, tru_i, tru_b, tru_l, tru_t, ev_tYesM, pMod_i, pDiv_i, pMul_l, pMul_r,  pBits_pn,  List.length_map, List.length_range, tru_bit, ev_sl3, ev_mNo, ev_mSo, pInt_i, pCut_l, pCutS_s, pItems_l, pItems_t, pTuple_l, pTuple_t, pMin_i, pMax_i, pSum_i, pLen_sn, pAdd_s, pCat_l, isInt_i, isBl_i, isBl_b, isStr_s, isTup_t, isTup_l, isLst_l, isN_i, isN_n, isN_t, pIs_non, pIsNot_non, forL_nil, frz_nil, frz_cons, frz1_0, frz1_s, frzS_ow, frzS_fz, frzS_un, ev_sAug, augK_i, ev_sAsg, ev_sApp, ev_sSetIx, sixK_ow, decide_true, decide_false, Bool.not_true, Bool.not_false, Bool.true_or, Bool.false_or, Bool.or_true, Bool.or_false, List.all_nil, List.all_cons, Bool.true_and, Bool.false_and, allflat_ints, allflat_strs, allflat_nats, List.length_append, cutP_map])
theorem other_turn {E : List PV} {a c j : Nat} (ea : E[j]? = some (pN a)) (ec : E[j + 1]? = some (pN c)) (hj : j < 7) (acc : List Str) (hw : ∀ s ∈ acc, Wd s) (hn : acc.Nodup) (hl : acc.length ≤ j) (hp : 0 < j → acc ≠ []) (s3 : Slot) :
    ∃ (acc' : List Str) (s3' : Slot), b1__law_other_names [.fz (.lst E), .ow (acc.map .str), .fz (pN j), s3] = some (.nx [.fz (.lst E), .ow (acc'.map .str), .fz (pN j), s3']) ∧ (∀ s ∈ acc', Wd s) ∧ acc'.Nodup ∧ acc'.length ≤ j + 1 ∧ acc' ≠ [] := by
  have hz : 1 + c / 5 % 12 ≤ 12 := by omega
  obtain ⟨s, es, s1, s2⟩ := e_fresh a hz
  have hwd := safe_wd (s := s) (by omega) (by omega) s2
  unfold b1__law_other_names
  walk_at "ev"
  rw [ea, ec]
  walk_at "ev"
  rw [es]
  walk_at "ev"
  rw [e_safe (by omega) s2]
  walk_at "ev"
  rw [pNotIn_sl (low_ok hwd.low) fun s hs => low_ok (hw s hs).low]
  walk_at "ev"
  cases hc : acc.any (· == safeS s) with
  | true =>
    walk_at "ev"
    refine ⟨acc, _, rfl, hw, hn, by omega, ?_⟩
    rintro rfl
    simp at hc
  | false =>
    walk_at "ev"
    rw [appK_ow (by rw [List.length_map]; omega) rfl]
    walk_at "ev"
    refine ⟨acc ++ [safeS s], _, by rw [List.map_append]; rfl, fun x hx => ?_, ?_, by simp; omega, by simp⟩
    · rcases List.mem_append.mp hx with z | z
      · exact hw x z
      · rw [List.mem_singleton.mp z]; exact hwd
    · rw [List.nodup_append]
      refine ⟨hn, by simp, fun x hx y hy e => ?_⟩
      rw [List.mem_singleton.mp hy] at e
      rw [List.any_eq_false] at hc
      exact hc x hx (by simp [e])
theorem e_other {ds : List Nat} (hd : ds.length = 15) : ∃ names : List Str, r__law_other_names [.lst (encN ds)] = some (.lst (names.map .str)) ∧ (∀ s ∈ names, Wd s) ∧ names.Nodup ∧ names ≠ [] ∧ names.length ≤ 7 := by
  unfold r__law_other_names d__law_other_names
  walk_at "ev"
  obtain ⟨γ', e, acc, s2, s3, rfl, h1, h2, h3, h4⟩ := forR_w (g := gSet 2) (b := b1__law_other_names) (fun j γ => ∃ (acc : List Str) (s2 s3 : Slot), γ = [.fz (.lst (encN ds)), .ow (acc.map .str), s2, s3] ∧ (∀ s ∈ acc, Wd s) ∧ acc.Nodup ∧ acc.length ≤ j ∧ (0 < j → acc ≠ []))
    7 [.fz (.lst (encN ds)), .ow (([] : List Str).map .str), .un, .un] ⟨[], .un, .un, rfl, by simp, .nil, by simp, fun z => absurd z (Nat.lt_irrefl _)⟩ (by
      rintro j γ hj ⟨acc, s2, s3, rfl, h1, h2, h3, h4⟩
      obtain ⟨acc', s3', e, k1, k2, k3, k4⟩ := other_turn (ds_get hd (show j < 15 by omega)) (ds_get hd (show j + 1 < 15 by omega)) hj acc h1 h2 h3 h4 s3
      exact ⟨_, _, rfl, e, acc', _, s3', rfl, k1, k2, k3, fun _ => k4⟩)
  rw [show ([] : List PV) = ([] : List Str).map PV.str from rfl, e]
  walk_at "ev"
  exact ⟨acc, rfl, h1, h2, h4 (by decide), h3⟩
/-- what a row tells -/
inductive Thing : PV → PV → Prop
  | g {G B : Str} : Wd G → Wd B → Thing (.tup [.str "guess", .str G, .str B]) (.str (Txt.join sp ["guess", G, "unless", B]))
  | r {H : Str} {body : List Str} : Wd H → (∀ s ∈ body, Wd s) → body.Nodup → body.length ≤ 6 → Thing (.tup [.str "rule", .str H, .tup (body.map .str)]) (.str (if body = [] then H else Txt.join sp (H :: "if" :: body)))
theorem andK_w {a b : Bool} {t : PEnv → Option Bool} {γ : PEnv} (h : t γ = some b) : andK t γ a = some (a && b) := by
  cases a
  · rfl
  · rw [andK_t, h]; rfl
theorem ev_sIns (ms : List Nat) (i : Nat) (mk m : MEx) (γ : PEnv) {xs : List PV} (h : γ[i]? = some (.ow xs)) : sIns ms i mk m γ = (mk γ).bind fun j => (m γ).bind fun r => insK ms i γ xs r j := by
  unfold sIns
  rw [h]
theorem insK_n {ms : List Nat} {i : Nat} {γ : PEnv} {xs : List PV} {r : PV} {j : Nat} (h1 : j ≤ xs.length) (h2 : xs.length ≤ 1000) (hf : flat r = true) : insK ms i γ xs r (pN j) = some (.nx ((keepE true ms γ).set i (.ow (xs.take j ++ r :: xs.drop j)))) := by
  show (if 0 ≤ (j : Int) ∧ (j : Int) ≤ xs.length ∧ xs.length ≤ 1000 ∧ (flat r || !ms.contains i) = true then some (Out.nx ((keepE (flat r) ms γ).set i (.ow (xs.take (j : Int).toNat ++ r :: xs.drop (j : Int).toNat)))) else none) = _
  rw [if_pos ⟨by omega, by omega, h2, by rw [hf]; rfl⟩, hf, Int.toNat_natCast]
theorem names_ix {names : List Str} {i : Nat} (h : i < names.length) : (names.map PV.str)[i]? = some (.str names[i]) := by
  rw [List.getElem?_map, List.getElem?_eq_getElem h]; rfl
theorem fin_thing {E : List PV} {d9 d10 d11 d12 : Nat} (e9 : E[9]? = some (pN d9)) (e10 : E[10]? = some (pN d10)) (e11 : E[11]? = some (pN d11)) (e12 : E[12]? = some (pN d12)) {names : List Str} (hw : ∀ s ∈ names, Wd s) (hn : names.Nodup) (h0 : names ≠ []) (h7 : names.length ≤ 7) (s1 : Slot) :
    ∃ p q, (sSeq (sIf (truB (bin2 pEq (bin2 pMod (bin2 pIx (mVar 0) (mN 9)) (mN 3)) (mN 0))) (sSeq (sSet [2] 3 (bin2 pIx (mVar 2) (un1 pNeg (mN 1))))
  (sSeq (sIf (truB (bin2 pEq (bin2 pMod (bin2 pIx (mVar 0) (mN 10)) (mN 5)) (mN 0))) (sSet [2] 3 (bin2 pIx (mVar 2) (mN 0))) sNx)
  (sRet (mTup (aCons (mC (.str "guess")) (aCons (bin2 pIx (mVar 2) (mN 0)) (aCons (mVar 3) aNil))))))) sNx)
  (sSeq (sSet [0] 4 (bin2 pMod (bin2 pIx (mVar 0) (mN 11)) (mN 7)))
  (sSeq (sSetO [2, 4] 5 (sl3 pCut (mVar 2) (mSo (mN 1)) (mSo (bin2 pAdd (mN 1) (mVar 4)))))
  (sSeq (sIf (bAnd (truB (bin2 pEq (bin2 pMod (bin2 pIx (mVar 0) (mN 10)) (mN 4)) (mN 0))) (truB (bin2 pLt (mVar 4) (mN 6)))) (sIns [0, 5, 2] 5 (bin2 pMod (bin2 pIx (mVar 0) (mN 12)) (bin2 pAdd (mCall pLen (aCons (mVar 5) aNil)) (mN 1))) (bin2 pIx (mVar 2) (mN 0))) sNx)
  (sRet (mTup (aCons (mC (.str "rule")) (aCons (bin2 pIx (mVar 2) (mN 0)) (aCons (mCall pTuple (aCons (mVar 5) aNil)) aNil))))))))) [.fz (.lst E), s1, .fz (.lst (names.map .str)), .un, .un, .un] = some (.rt p) ∧ Thing p q := by
  have hp : 0 < names.length := List.length_pos_iff.mpr h0
  have hw0 := hw _ (List.getElem_mem hp)
  have i0 := names_ix hp
  have il : atI (names.map PV.str) (-((1 : Nat) : Int)) = some (.str (names.getLast h0)) := by
    rw [show names.map PV.str = (names.dropLast.map PV.str) ++ [.str (names.getLast h0)] by rw [← List.map_singleton, ← List.map_append, List.dropLast_concat_getLast], atI_last1]
  have hwl := hw _ (List.getLast_mem h0)
  have hml : (names.map PV.str).length = names.length := by rw [List.length_map]
  walk_at "ev"
  rw [e9]
  walk_at "ev"
  cases d9 % 3 == 0 with
  | true =>
    walk_at "ev"
    rw [il]
    walk_at "ev"
    rw [e10]
    walk_at "ev"
    cases d10 % 5 == 0 with
    | true =>
      walk_at "ev"
      rw [i0]
      walk_at "ev"
      rw [i0]
      walk_at "ev"
      exact ⟨_, _, rfl, .g hw0 hw0⟩
    | false =>
      walk_at "ev"
      rw [i0]
      walk_at "ev"
      exact ⟨_, _, rfl, .g hw0 hwl⟩
  | false =>
    walk_at "ev"
    rw [e11]
    walk_at "ev"
    have hz : d11 % 7 ≤ 6 := by omega
    obtain ⟨n0, rest, rfl⟩ : ∃ n0 rest, names = n0 :: rest := by
      cases names with
      | nil => exact absurd rfl h0
      | cons a l => exact ⟨a, l, rfl⟩
    have eb : cutP (n0 :: rest) (some ((1 : Nat) : Int)) (some ((1 + d11 % 7 : Nat) : Int)) = rest.take (d11 % 7) := by
      rw [cutP_nn, show 1 + d11 % 7 = d11 % 7 + 1 by omega]
      rfl
    rw [eb]
    obtain ⟨hn0, hnr⟩ := List.nodup_cons.mp hn
    have b1 : ∀ s ∈ rest.take (d11 % 7), Wd s := fun s hs => hw s (List.mem_cons_of_mem _ (List.mem_of_mem_take hs))
    have b2 : (rest.take (d11 % 7)).Nodup := hnr.sublist (List.take_sublist _ _)
    have b3 : (rest.take (d11 % 7)).length ≤ d11 % 7 := by rw [List.length_take]; omega
    have b4 : n0 ∉ rest.take (d11 % 7) := fun z => hn0 (List.mem_of_mem_take z)
    have hw1 : Wd n0 := hw0
    generalize hbd : rest.take (d11 % 7) = body at *
    have hbl : (body.map PV.str).length = body.length := by rw [List.length_map]
    rw [e10]
    walk_at "ev"
    rw [andK_w (b := decide (d11 % 7 < 6)) (by walk_at "ev")]
    walk_at "ev"
    cases hc : (d10 % 4 == 0 && decide (d11 % 7 < 6)) with
    | false =>
      walk_at "ev"
      exact ⟨_, _, rfl, .r hw1 b1 b2 (by omega)⟩
    | true =>
      rw [Bool.and_eq_true, decide_eq_true_iff] at hc
      have hm : d12 % (body.length + 1) ≤ body.length := by
        have := Nat.mod_lt d12 (show 0 < body.length + 1 by omega)
        omega
      rw [ifK_t, ev_sIns _ _ _ _ _ (xs := body.map .str) rfl]
      walk_at "ev"
      rw [e12]
      walk_at "ev"
      rw [insK_n (by rw [hbl]; exact hm) (by omega) rfl]
      generalize d12 % (body.length + 1) = i at *
      walk_at "ev"
      rw [← List.map_take, ← List.map_drop, show (body.take i).map PV.str ++ PV.str n0 :: (body.drop i).map PV.str = (body.take i ++ n0 :: body.drop i).map PV.str by rw [List.map_append]; rfl]
      refine ⟨_, _, rfl, .r hw1 (fun s hs => ?_) ?_ ?_⟩
      · rcases List.mem_append.mp hs with z | z
        · exact b1 s (List.mem_of_mem_take z)
        · rcases List.mem_cons.mp z with rfl | z
          · exact hw1
          · exact b1 s (List.mem_of_mem_drop z)
      · have hp : (n0 :: body).Perm (body.take i ++ n0 :: body.drop i) := by
          have := (List.perm_middle (a := n0) (l₁ := body.take i) (l₂ := body.drop i)).symm
          rw [List.take_append_drop] at this
          exact this
        exact hp.nodup_iff.mp (List.nodup_cons.mpr ⟨b4, b2⟩)
      · rw [List.length_append, List.length_cons, List.length_take, List.length_drop]
        omega
theorem e_thing {ds : List Nat} (hd : ds.length = 15) : ∃ p q, r__law_thing [.lst (encN ds)] = some p ∧ Thing p q := by
  have e8 := ds_get hd (i := 8) (by decide)
  have e9 := ds_get hd (i := 9) (by decide)
  have e10 := ds_get hd (i := 10) (by decide)
  have e11 := ds_get hd (i := 11) (by decide)
  have e12 := ds_get hd (i := 12) (by decide)
  have en := e_near hd
  obtain ⟨n1, n2, n3⟩ := nears_ok (ds.getD 0 0)
  obtain ⟨la, el, l1, l2, l3⟩ := e_like hd
  obtain ⟨oa, eo, o1, o2, o3, o4⟩ := e_other hd
  unfold r__law_thing d__law_thing
  generalize encN ds = E at *
  generalize nears (ds.getD 0 0) = na at *
  generalize ds.getD 8 0 = d8 at *
  generalize hT : sSeq (sIf (truB (bin2 pEq (bin2 pMod (bin2 pIx (mVar 0) (mN 9)) (mN 3)) (mN 0))) _ _) _ = T
  have fin : ∀ names : List Str, (∀ s ∈ names, Wd s) → names.Nodup → names ≠ [] → names.length ≤ 7 → ∃ p q, T [.fz (.lst E), .fz (pN (d8 % 4)), .fz (.lst (names.map .str)), .un, .un, .un] = some (.rt p) ∧ Thing p q := fun names a1 a2 a3 a4 => by
    rw [← hT]
    exact fin_thing e9 e10 e11 e12 a1 a2 a3 a4 _
  walk_at "ev"
  rw [e8]
  walk_at "ev"
  rw [en]
  walk_at "ev"
  cases h1 : decide (d8 % 4 < 2) with
  | true =>
    walk_at "ev"
    rw [el]
    walk_at "ev"
    rw [show (d8 % 4 == 2) = false by
      rw [beq_eq_false_iff_ne]
      have := of_decide_eq_true h1
      omega]
    walk_at "ev"
    obtain ⟨p, q, e, ht⟩ := fin la l1 l2 (by rintro rfl; simp at l3) (by omega)
    rw [e]
    exact ⟨p, q, rfl, ht⟩
  | false =>
    walk_at "ev"
    cases h2 : d8 % 4 == 2 with
    | true =>
      walk_at "ev"
      rw [eo]
      walk_at "ev"
      obtain ⟨p, q, e, ht⟩ := fin oa o1 o2 o3 o4
      rw [e]
      exact ⟨p, q, rfl, ht⟩
    | false =>
      walk_at "ev"
      obtain ⟨p, q, e, ht⟩ := fin na n1 n2 (by rintro rfl; simp at n3) (by omega)
      rw [e]
      exact ⟨p, q, rfl, ht⟩
end DH

set_option Elab.async false
set_option linter.all false
set_option maxRecDepth 100000
noncomputable section
namespace DH
open PySem PySem.Spec PyProof.Rows L2 L2.PM
theorem g_sp : ("guess " : Str) = "guess" ++ sp := by decide +kernel
theorem u_sp : (" unless " : Str) = sp ++ "unless" ++ sp := by decide +kernel
theorem i_sp : (" if " : Str) = sp ++ "if" ++ sp := by decide +kernel
theorem rl_ok : PyData.strOk ("rule" : Str) = true := by decide +kernel
theorem rg_ne : (("rule" : Str) == "guess") = false := by decide +kernel
theorem pJoinT_s {x : Str} {ys : List Str} (h : (ys.map Str.length).sum + ys.length * x.length ≤ 100000) : pJoinT (.str x) [.tup (ys.map .str)] = some (.str (Txt.join x ys)) := by
  show (match strs? (ys.map PV.str) with
    | some ys => if (ys.map (fun z : Str => z.length)).sum + ys.length * x.length ≤ LIM then some (PV.str (Txt.join x ys)) else none
    | none => none) = _
  rw [L2.PM.strs?_map]
  exact if_pos (le_lim h)
theorem app_len (a b : Str) : (a ++ b).length = a.length + b.length := len_app a b
local macro_rules | `(tactic| walk_at "ev") => `(tactic| try simp (disch := first | assumption | omega | (simp only [signs_len, encN_len, List.length_map, List.length_range, List.length_cons, List.length_nil, List.length_append]; omega) | decide) only [pLen_sn, mtK_s, ev_mN, encN_len, encN_flat, flat_n, pAdd_n, pSub_n, pMul_ln, pMul_rn, pMod_n, pMod_in, pDiv_n, pDiv_in, pLt_n, pLe_n, pGt_n, pGe_n, pEq_n, pNe_n, pAnd_n, pOr_n, pShl_n, pShr_n, testBit_odd, testBit_mod, pMin_n, pMax_n, pSum_n, rg1_n, oRg_n, mtK_n, isInt_n, isBl_n, isTup_n, isN_pn, tru_n, pNeg_n, atI_last1, Nat.not_lt_zero, pInt_n, pIx_ln, pIx_tn, encN_get, augK_n, sixK_n, pIn_nl, pIn_nt, pNotIn_nl, pNotIn_nt, runV_0, runV_1, runV_2, runV_3, runV_4, runV_5, runV_6, runV_7, ev_startG1, ev_sSeq, seqK_nx, seqK_rt, seqK_ro, seqK_ct, seqK_bk, ev_sSet, ev_sSetO, ev_sRet, ev_sRetO, ev_sRetV, ev_sRetN, retS_ow, retS_fz, ev_sIf, ifK_t, ifK_f, ev_sNx, ev_sBk, ev_sCt, ev_bin2, ev_mVar, ev_mC, ev_mCall, ev_mLst, ev_mTup, tupK_ok, ev_mLim, limK_ok, ev_aCons, ev_aNil, ev_truB, isB_bl, ev_mIsi, isiK_i, isiK_b, isiK_s, isiK_t, isiK_l, isiK_0, isiK_n, getV_0, getV_s, val_fz, val_ow, List.length_cons, List.length_nil, if_true, List.map_cons, List.map_nil, List.replicate_zero, List.replicate_succ, List.cons_append, List.nil_append, List.getElem?_cons_zero, List.getElem?_cons_succ, Option.bind_some, Option.map_some, pAdd_i, pSub_i, pLt_i, pLe_i, pGt_i, pGe_i, pEq_i, pNe_i, pLen_ln, pLen_tn, pIx_lst, pIx_tup, keepE_true, keepE_false, flat_int, flat_bl, flat_str, flat_non, flat_tup, flat_lst, List.set_cons_zero, List.set_cons_succ, outV_rt, outV_ro, outV_nx, ev_bAnd, andK_t, andK_f, ev_bOr, orK_t, orK_f, ev_bNot, ev_vAnd, vAndK_t, vAndK_f, ev_vOr, vOrK_t, vOrK_f, ev_vNot, ev_mIfE, ifEK_t, ifEK_f, ev_ch3, chK_t, chK_f, ev_un1, pNeg_i, ev_mMt0, ev_mMt, mtK_i, mtK_s, mtK_l, ev_sForR, ev_sFor, ev_mComp, cmpK_ok, ev_iRg1, rg1_i, ev_iRg2, rg2_i, ev_oRng, oRg_i, ev_iLst, itL_l, ev_iTpl, itT_t, ev_iSeq, itS_l, itS_t, pEnum_l, pEnum_t, pRev_l, pRevT_l, ev_blkG, ev_capS, capO_s, ev_gSet, gSet2_t, gSet3_t, ev_mTru, tru_i, tru_b, tru_l, tru_t, ev_tYesM, pMod_i, pDiv_i, pMul_l, pMul_r,  pBits_pn,  List.length_map, List.length_range, tru_bit, ev_sl3, ev_mNo, ev_mSo, pInt_i, pCut_l, pCutS_s, pItems_l, pItems_t, pTuple_l, pTuple_t, pMin_i, pMax_i, pSum_i, pLen_sn, pAdd_s, pCat_l, isInt_i, isBl_i, isBl_b, isStr_s, isTup_t, isTup_l, isLst_l, isN_i, isN_n, isN_t, pIs_non, pIsNot_non, forL_nil, frz_nil, frz_cons, frz1_0, frz1_s, frzS_ow, frzS_fz, frzS_un, ev_sAug, augK_i, ev_sAsg, ev_sApp, ev_sSetIx, sixK_ow, decide_true, decide_false, Bool.not_true, Bool.not_false, Bool.true_or, Bool.false_or, Bool.or_true, Bool.or_false, List.all_nil, List.all_cons, Bool.true_and, Bool.false_and, allflat_ints, allflat_strs, allflat_nats, List.length_append, cutP_map])
theorem e_line {p q : PV} (h : Thing p q) : r__law_line [p] = some q := by
  cases h with
  | @g G B hG hB =>
    have h1 := hG.l2
    have h2 := hB.l2
    have e1 : ("guess " : Str).length = 6 := by decide +kernel
    have e2 : (" unless " : Str).length = 8 := by decide +kernel
    unfold r__law_line d__law_line
    walk_at "ev"
    rw [pEq_s ge_ok ge_ok, show (("guess" : Str) == "guess") = true by simp]
    walk_at "ev"
    rw [pAdd_s (by rw [app_len]; omega)]
    walk_at "ev"
    rw [pAdd_s (by rw [app_len, app_len]; omega)]
    walk_at "ev"
    rw [tjoin_cons, tjoin_cons, tjoin_cons, tjoin_one, g_sp, u_sp]
    simp only [app_assoc]
  | @r H body hH hb hn h6 =>
    have h1 := hH.l2
    have hbl : (body.map PV.str).length = body.length := by rw [List.length_map]
    have e2 : (" if " : Str).length = 4 := by decide +kernel
    have e3 : (" " : Str).length = 1 := by decide +kernel
    have e5 := sum_len body 12 fun s hs => (hb s hs).l2
    unfold r__law_line d__law_line
    walk_at "ev"
    rw [pEq_s rl_ok ge_ok, rg_ne]
    walk_at "ev"
    cases body with
    | nil =>
      rw [show (([] : List Str).length == 0) = true from rfl]
      walk_at "ev"
    | cons y ys =>
      rw [show (((y :: ys).length) == 0) = false from rfl]
      walk_at "ev"
      have ej := pJoinT_s (x := " ") (ys := y :: ys) (by rw [e3]; omega)
      rw [List.map_cons] at ej
      rw [ej]
      walk_at "ev"
      rw [pAdd_s (by
        rw [app_len, tjoin_length, e3]
        rw [List.length_cons] at h6 e5 ⊢
        omega)]
      walk_at "ev"
      rw [if_neg (by simp), tjoin_cons, tjoin_cons, i_sp, show (" " : Str) = sp from rfl]
      simp only [app_assoc]
theorem e_read {p q : PV} (h : Thing p q) (r : Nat) : r_read_row [q, pN r] = some p := by
  cases h with
  | g hG hB => exact e_read_guess hG hB r
  | @r H body hH hb hn h6 =>
    cases body with
    | nil => rw [if_pos rfl]; exact e_read_one hH r
    | cons y ys => rw [if_neg (by simp)]; exact e_read_body hH hb (by simp) hn h6 r
theorem dep_strs : ∀ {ss : List Str}, (∀ s ∈ ss, PyData.strOk s = true) → depL (ss.map PV.str) = 0 ∧ okSL (ss.map PV.str) = true
  | [], _ => by simp [depL, okSL]
  | s :: ss, h => by
    have ih := dep_strs (ss := ss) fun x hx => h x (List.mem_cons_of_mem _ hx)
    have h1 := h s (by simp)
    simp [depL, okSL, dep, okS, ih.1, ih.2, h1]
theorem thing_ok {p q : PV} (h : Thing p q) : okv p = true := by
  cases h with
  | g hG hB => simp [okv, dep, depL, okS, okSL, low_ok hG.low, low_ok hB.low, ge_ok]
  | r hH hb hn h6 =>
    have := dep_strs fun s hs => low_ok (hb s hs).low
    simp [okv, dep, depL, okS, okSL, low_ok hH.low, rl_ok, this.1, this.2]
theorem e_same {p q : PV} (h : Thing p q) : r__law_same [p, p] = some (.bl true) := by
  have ok := thing_ok h
  have eq := pEq_ok ok ok
  rw [peq_refl] at eq
  cases h with
  | @g G B hG hB =>
    unfold r__law_same d__law_same
    walk_at "ev"
    rw [show (!0 + 1 + 1 + 1 == 3) = false from rfl]
    walk_at "ev"
    rw [pEq_s ge_ok ge_ok, show (("guess" : Str) == "guess") = true by simp]
    walk_at "ev"
    rw [eq]
    walk_at "ev"
  | @r H body hH hb hn h6 =>
    have hbl : (body.map PV.str).length = body.length := by rw [List.length_map]
    unfold r__law_same d__law_same
    walk_at "ev"
    rw [show (!0 + 1 + 1 + 1 == 3) = false from rfl]
    walk_at "ev"
    rw [pEq_s rl_ok ge_ok, rg_ne]
    walk_at "ev"
    rw [show (!body.length == body.length) = false by simp]
    walk_at "ev"
    generalize hP : PV.tup [.str "rule", .str H, .tup (body.map PV.str)] = P at *
    obtain ⟨γ', e4, s2, rfl⟩ := forL_pre (g := gSet 2) (b := b1__law_same) PV.str
      (fun pre γ => ∃ (s2 : Slot), γ = [.fz P, .fz P, s2])
      body body [] [.fz P, .fz P, .un] rfl ⟨.un, rfl⟩ (by
        rintro pre x post γ hpre ⟨s2, rfl⟩
        refine ⟨_, _, rfl, ?_, .fz (.str x), rfl⟩
        unfold b1__law_same
        walk_at "ev")
    rw [e4]
    walk_at "ev"
    rw [eq]
    walk_at "ev"
theorem thing_tup {p q : PV} (h : Thing p q) : ∃ xs, p = .tup xs := by
  cases h <;> exact ⟨_, rfl⟩
theorem e_turn (ns : List Int) (c : Int) (s2 s3 s4 : Slot) : ∃ (s2' s3' s4' : Slot), b1_law_k01 [.fz (.lst (ns.map .int)), .fz (.int c), s2, s3, s4] = some (.nx [.fz (.lst (ns.map .int)), .fz (.int c), s2', s3', s4']) := by
  obtain ⟨ds, ed, hd⟩ := e_draws c
  obtain ⟨p, q, et, ht⟩ := e_thing hd
  have el := e_line ht
  have e13 := ds_get hd (i := 13) (by decide)
  have e14 := ds_get hd (i := 14) (by decide)
  have es := e_same ht
  have er := e_read ht
  obtain ⟨xs, rfl⟩ := thing_tup ht
  generalize encN ds = E at *
  generalize ds.getD 13 0 = d13 at *
  generalize ds.getD 14 0 = d14 at *
  unfold b1_law_k01
  walk_at "ev"
  rw [ed]
  walk_at "ev"
  rw [et]
  walk_at "ev"
  rw [e13]
  walk_at "ev"
  cases d13 % 3 == 0 with
  | true =>
    walk_at "ev"
    rw [el]
    walk_at "ev"
    rw [er]
    walk_at "ev"
    rw [es]
    walk_at "ev"
    exact ⟨_, _, _, rfl⟩
  | false =>
    walk_at "ev"
    rw [el]
    walk_at "ev"
    rw [e14]
    walk_at "ev"
    rw [er]
    walk_at "ev"
    rw [es]
    walk_at "ev"
    exact ⟨_, _, _, rfl⟩
theorem true01 (ns : List Int) (hn : ns.length ≤ 63) : r_law_k01 [.lst (ns.map .int)] = some (.bl true) := by
  have hl := cutP_0n ns 200
  unfold r_law_k01 d_law_k01
  walk_at "ev"
  rw [hl, List.take_of_length_le (by omega), pCat_l (by simp; omega), show ns.map PV.int ++ [pN ns.length] = (ns ++ [(ns.length : Int)]).map PV.int by rw [List.map_append]; rfl]
  have hl2 : (ns ++ [(ns.length : Int)]).length ≤ 64 := by simp; omega
  walk_at "ev"
  obtain ⟨γ', e4, s1, s2, s3, s4, rfl⟩ := forL_pre (g := gSet 1) (b := b1_law_k01) PV.int
      (fun pre γ => ∃ (s1 s2 s3 s4 : Slot), γ = [.fz (.lst (ns.map .int)), s1, s2, s3, s4])
      (ns ++ [(ns.length : Int)]) (ns ++ [(ns.length : Int)]) [] [.fz (.lst (ns.map .int)), .un, .un, .un, .un] rfl ⟨.un, .un, .un, .un, rfl⟩ (by
        rintro pre x post γ hpre ⟨s1, s2, s3, s4, rfl⟩
        obtain ⟨t2, t3, t4, e⟩ := e_turn ns x s2 s3 s4
        exact ⟨_, _, rfl, e, .fz (.int x), t2, t3, t4, rfl⟩)
  rw [e4]
  walk_at "ev"
end DH

set_option Elab.async false
set_option linter.all false
set_option maxRecDepth 100000
noncomputable section
namespace K01
open PySem PySem.Spec PyProof.Rows L2 L2.PM DH
theorem law_true (ns : List Int) (hn : ns.length ≤ 63) : r_law_k01 [.lst (ns.map .int)] = some (.bl true) := true01 ns hn
end K01

namespace K01
open PySem PySem.Spec PyProof.Rows L2 L2.PM DH
def top (i : Nat) : Stmt := PySem.Challenge.pw_doubthall_k01_a_row.main.body.getD i (.Pass ⟨0, 0, 0, 0⟩)
structure Txt (K : PySem.W.Frag) (mg : Str → Option Value) : Prop where
  b_all : mg "all" = none
  b_isinstance : mg "isinstance" = none
  b_len : mg "len" = none
  b_range : mg "range" = none
  b_set : mg "set" = none
  b_str : mg "str" = none
  b_tuple : mg "tuple" = none
  g_MOST_IN_BODY : ∃ t, mg "MOST_IN_BODY" = some (.int 6 t)
  g_MOST_LETTERS : ∃ t, mg "MOST_LETTERS" = some (.int 12 t)
  g_NO_WORDS : ∃ a, mg "NO_WORDS" = some (.ref a) ∧ GT K a ["guess", "unless", "if"]
abbrev s__law_draws : Stmt := top 15
def N__law_draws : List Str := ["cell", "count", "number", "drawn", "k"]
theorem ok__law_draws {P : Program} {w : World} {K : PySem.W.Frag} {mg : Str → Option Value} {base : Heap} {f : Addr} {fd : FuncData} (T : Txt K mg)  (F : Fun K "_law_draws" "_law_draws" s__law_draws f fd) : FnOk P w K mg base CX0 1 f fd ["cell", "count"] (spM K 2 r__law_draws) := by
  have sc : FnScope N__law_draws ["cell", "count"] (defScope s__law_draws) := ⟨rfl, rfl, rfl, by decide +kernel, rfl, by decide +kernel, by decide +kernel⟩
  have nd := sc.nd
  refine fnM (N := N__law_draws) (k := 0) F sc rfl fun cdv A outer s H E hr => ?_
  exact (ss_cons (sm_set (i := 2) nd rfl (Or.inl rfl) (em_op om_mod (em_op om_mul (em_op om_add (em_op om_mod (em_var 0 (pv 0)) em_int) em_int) em_int) em_int))
      (ss_cons (sm_setO (i := 3) nd rfl (Or.inl rfl) (eo_lst am_nil))
      (ss_cons (sm_forR PassesOwn.never rfl (imr_range1 (by rfl) T.b_range (am_cons (em_var 1 (pv 1)) am_nil)) (gm_name (pg_name (i := 4) nd rfl (Or.inl rfl))) (ss_cons (sm_set (i := 2) nd rfl (Or.inl rfl) (em_op om_mod (em_op om_mul (em_var 2 (pv 2)) em_int) em_int))
      (ss_one (sm_app (i := 3) (pv 3) (em_op om_div (em_var 2 (pv 2)) em_int) (ps_expr (pe_bm PySem.F.plainAttrs_list PySem.F.slot_list_append PySem.F.type_list_append mt_append (pv 3) (am_cons' (em_op om_div (em_var 2 (pv 2)) em_int))))))))
      (ss_one (sm_retV 3 (pv 3))))))
abbrev s__law_near_names : Stmt := top 19
def N__law_near_names : List Str := ["drawn", "some"]
theorem ok__law_near_names {P : Program} {w : World} {K : PySem.W.Frag} {mg : Str → Option Value} {base : Heap} {f : Addr} {fd : FuncData} (T : Txt K mg)  (F : Fun K "_law_near_names" "_law_near_names" s__law_near_names f fd) : FnOk P w K mg base CX0 1 f fd ["drawn"] (spM K 1 r__law_near_names) := by
  have sc : FnScope N__law_near_names ["drawn"] (defScope s__law_near_names) := ⟨rfl, rfl, rfl, by decide +kernel, rfl, by decide +kernel, by decide +kernel⟩
  have nd := sc.nd
  refine fnM (N := N__law_near_names) (k := 0) F sc rfl fun cdv A outer s H E hr => ?_
  refine ss_cons ?_ ?_
  · refine sm_setO (i := 1) ?_ ?_ ?_ ?_ (hs := ?_) (hf := ?_)
    · exact nd
    · rfl
    · exact Or.inr rfl
    · refine eo_lst ?_
      iterate 12 refine am_str ?_
      exact am_nil
    · rfl
    · first | exact .inl rfl | exact .inr rfl | assumption
  exact ss_one (sm_retO (eo_comp (X := (cxOf CX0 P w K mg base N__law_near_names "_law_near_names" (defScope s__law_near_names) f cdv A outer s H E).nox) (N' := ["k", "some", "drawn"]) (nt := 1) (caps := [1, 0]) (ts := [0]) (ns := []) (ls := [1, 2, 0]) rfl (ck_of (N := N__law_near_names) (osc := (defScope s__law_near_names)) rfl rfl (by decide +kernel)) (by decide) (noOw_gSet _) (im_range1 (by rfl) T.b_range (am_int am_nil)) (fun _ _ _ _ _ _ => (gm_name (pg_name (i := 0) (show (["k", "some", "drawn"] : List Str).Nodup by decide +kernel) rfl (Or.inl rfl)))) (fun _ _ _ _ _ _ => if_nil) (fun _ _ _ _ _ _ => (em_ix im_ix (em_var 1 (pv 1)) (em_op om_mod (em_op om_add (em_ix im_ix (em_var 2 (pv 2)) em_int (fun _ _ => rfl)) (em_op om_mul em_int (em_var 0 (pv 0)))) em_int) (fun _ _ => rfl)))))
abbrev s__law_fresh : Stmt := top 16
def N__law_fresh : List Str := ["number", "size", "letters", "name", "k"]
theorem ok__law_fresh {P : Program} {w : World} {K : PySem.W.Frag} {mg : Str → Option Value} {base : Heap} {f : Addr} {fd : FuncData} (T : Txt K mg)  (F : Fun K "_law_fresh" "_law_fresh" s__law_fresh f fd) : FnOk P w K mg base CX0 1 f fd ["number", "size"] (spM K 2 r__law_fresh) := by
  have sc : FnScope N__law_fresh ["number", "size"] (defScope s__law_fresh) := ⟨rfl, rfl, rfl, by decide +kernel, rfl, by decide +kernel, by decide +kernel⟩
  have nd := sc.nd
  refine fnM (N := N__law_fresh) (k := 0) F sc rfl fun cdv A outer s H E hr => ?_
  exact (ss_cons (sm_set (i := 2) nd rfl (Or.inl rfl) em_str)
      (ss_cons (sm_set (i := 3) nd rfl (Or.inl rfl) em_str)
      (ss_cons (sm_forR PassesOwn.never rfl (imr_range1 (by rfl) T.b_range (am_cons (em_var 1 (pv 1)) am_nil)) (gm_name (pg_name (i := 4) nd rfl (Or.inl rfl))) (ss_cons (sm_set (i := 0) nd rfl (Or.inl rfl) (em_op om_mod (em_op om_add (em_op om_mul (em_var 0 (pv 0)) em_int) em_int) em_int))
      (ss_one (sm_set (i := 3) nd rfl (Or.inl rfl) (em_op om_add (em_var 3 (pv 3)) (em_ix im_ix (em_var 2 (pv 2)) (em_op om_mod (em_op om_div (em_var 0 (pv 0)) em_int) em_int) (fun _ _ => rfl)))))))
      (ss_one (sm_retV 3 (pv 3))))))
abbrev s__law_safe : Stmt := top 17
def N__law_safe : List Str := ["name"]
theorem ok__law_safe {P : Program} {w : World} {K : PySem.W.Frag} {mg : Str → Option Value} {base : Heap} {f : Addr} {fd : FuncData} (T : Txt K mg)  (F : Fun K "_law_safe" "_law_safe" s__law_safe f fd) : FnOk P w K mg base CX0 1 f fd ["name"] (spM K 1 r__law_safe) := by
  have sc : FnScope N__law_safe ["name"] (defScope s__law_safe) := ⟨rfl, rfl, rfl, by decide +kernel, rfl, by decide +kernel, by decide +kernel⟩
  have nd := sc.nd
  refine fnM (N := N__law_safe) (k := 0) F sc rfl fun cdv A outer s H E hr => ?_
  exact (ss_cons (sm_if (tm_cmp (om_in hr.units) (em_var 0 (pv 0)) (em_tup (am_str (am_str (am_str am_nil)))) (by with_unfolding_all rfl)) (ss_one (sm_ret (em_op om_add (em_var 0 (pv 0)) em_str))) ss_nil)
      (ss_one (sm_retV 0 (pv 0))))
abbrev s__law_like_names : Stmt := top 18
def N__law_like_names : List Str := ["drawn", "letters", "base", "at", "step", "names", "k", "sign"]
theorem ok__law_like_names {P : Program} {w : World} {K : PySem.W.Frag} {mg : Str → Option Value} {base : Heap} {f : Addr} {fd : FuncData} (T : Txt K mg) (c__law_fresh : Cal P w K mg base 1 "_law_fresh" 2 r__law_fresh) (c__law_safe : Cal P w K mg base 1 "_law_safe" 1 r__law_safe) (F : Fun K "_law_like_names" "_law_like_names" s__law_like_names f fd) : FnOk P w K mg base CX0 2 f fd ["drawn"] (spM K 1 r__law_like_names) := by
  have sc : FnScope N__law_like_names ["drawn"] (defScope s__law_like_names) := ⟨rfl, rfl, rfl, by decide +kernel, rfl, by decide +kernel, by decide +kernel⟩
  have nd := sc.nd
  refine fnM (N := N__law_like_names) (k := 1) F sc rfl fun cdv A outer s H E hr => ?_
  exact (ss_cons (sm_set (i := 1) nd rfl (Or.inl rfl) em_str)
      (ss_cons (sm_set (i := 2) nd rfl (Or.inl rfl) (em_cal c__law_fresh r__law_fresh_len (hr.mono (by decide)) (by rfl) (am_cons (em_ix im_ix (em_var 0 (pv 0)) em_int (fun _ _ => rfl)) (am_cons (em_op om_add em_int (em_op om_mod (em_ix im_ix (em_var 0 (pv 0)) em_int (fun _ _ => rfl)) em_int)) am_nil))))
      (ss_cons (sm_set (i := 3) nd rfl (Or.inl rfl) (em_op om_mod (em_ix im_ix (em_var 0 (pv 0)) em_int (fun _ _ => rfl)) (em_callB cm_len (by rfl) T.b_len PySem.boot_len (am_cons (em_var 2 (pv 2)) am_nil))))
      (ss_cons (sm_set (i := 4) nd rfl (Or.inl rfl) (em_ix im_ix (EO.em (eo_lst (am_int (am_int (am_int (am_int (am_int (am_int am_nil)))))))) (em_op om_mod (em_ix im_ix (em_var 0 (pv 0)) em_int (fun _ _ => rfl)) em_int) (fun _ _ => rfl)))
      (ss_cons (sm_setO (i := 5) nd rfl (Or.inl rfl) (eo_lst am_nil))
      (ss_cons (sm_forR PassesOwn.never rfl (imr_range1 (by rfl) T.b_range (am_int am_nil)) (gm_name (pg_name (i := 6) nd rfl (Or.inl rfl))) (ss_cons (sm_set (i := 7) nd rfl (Or.inl rfl) (em_ix im_ix (em_var 1 (pv 1)) (em_op om_mod (em_op om_add (em_ix im_ix (em_var 0 (pv 0)) em_int (fun _ _ => rfl)) (em_op om_mul (em_var 6 (pv 6)) (em_var 4 (pv 4)))) em_int) (fun _ _ => rfl)))
      (ss_one (sm_app (i := 5) (pv 5) (em_cal c__law_safe r__law_safe_len (hr.mono (by decide)) (by rfl) (am_cons (em_op om_add (em_op om_add (em_cutS (em_var 2 (pv 2)) om_none (om_some (em_var 3 (pv 3)))) (em_var 7 (pv 7))) (em_cutS (em_var 2 (pv 2)) (om_some (em_op om_add (em_var 3 (pv 3)) em_int)) om_none)) am_nil)) (ps_expr (pe_bm PySem.F.plainAttrs_list PySem.F.slot_list_append PySem.F.type_list_append mt_append (pv 5) (am_cons' (em_cal c__law_safe r__law_safe_len (hr.mono (by decide)) (by rfl) (am_cons (em_op om_add (em_op om_add (em_cutS (em_var 2 (pv 2)) om_none (om_some (em_var 3 (pv 3)))) (em_var 7 (pv 7))) (em_cutS (em_var 2 (pv 2)) (om_some (em_op om_add (em_var 3 (pv 3)) em_int)) om_none)) am_nil)))))))))
      (ss_one (sm_retV 5 (pv 5)))))))))
abbrev s__law_other_names : Stmt := top 20
def N__law_other_names : List Str := ["drawn", "names", "k", "name"]
theorem ok__law_other_names {P : Program} {w : World} {K : PySem.W.Frag} {mg : Str → Option Value} {base : Heap} {f : Addr} {fd : FuncData} (T : Txt K mg) (c__law_fresh : Cal P w K mg base 1 "_law_fresh" 2 r__law_fresh) (c__law_safe : Cal P w K mg base 1 "_law_safe" 1 r__law_safe) (F : Fun K "_law_other_names" "_law_other_names" s__law_other_names f fd) : FnOk P w K mg base CX0 2 f fd ["drawn"] (spM K 1 r__law_other_names) := by
  have sc : FnScope N__law_other_names ["drawn"] (defScope s__law_other_names) := ⟨rfl, rfl, rfl, by decide +kernel, rfl, by decide +kernel, by decide +kernel⟩
  have nd := sc.nd
  refine fnM (N := N__law_other_names) (k := 1) F sc rfl fun cdv A outer s H E hr => ?_
  exact (ss_cons (sm_setO (i := 1) nd rfl (Or.inl rfl) (eo_lst am_nil))
      (ss_cons (sm_forR PassesOwn.never rfl (imr_range1 (by rfl) T.b_range (am_int am_nil)) (gm_name (pg_name (i := 2) nd rfl (Or.inl rfl))) (ss_cons (sm_set (i := 3) nd rfl (Or.inl rfl) (em_cal c__law_safe r__law_safe_len (hr.mono (by decide)) (by rfl) (am_cons (em_cal c__law_fresh r__law_fresh_len (hr.mono (by decide)) (by rfl) (am_cons (em_ix im_ix (em_var 0 (pv 0)) (em_var 2 (pv 2)) (fun _ _ => rfl)) (am_cons (em_op om_add em_int (em_op om_mod (em_op om_div (em_ix im_ix (em_var 0 (pv 0)) (em_op om_add (em_var 2 (pv 2)) em_int) (fun _ _ => rfl)) em_int) em_int)) am_nil))) am_nil)))
      (ss_one (sm_if (tm_cmp (om_notIn hr.units) (em_var 3 (pv 3)) (em_var 1 (pv 1)) (by with_unfolding_all rfl)) (ss_one (sm_app (i := 1) (pv 1) (em_var 3 (pv 3)) (ps_expr (pe_bm PySem.F.plainAttrs_list PySem.F.slot_list_append PySem.F.type_list_append mt_append (pv 1) (am_cons' (em_var 3 (pv 3))))))) ss_nil))))
      (ss_one (sm_retV 1 (pv 1)))))
abbrev s__law_thing : Stmt := top 21
def N__law_thing : List Str := ["drawn", "shape", "names", "bane", "size", "body"]
theorem ok__law_thing {P : Program} {w : World} {K : PySem.W.Frag} {mg : Str → Option Value} {base : Heap} {f : Addr} {fd : FuncData} (T : Txt K mg) (c__law_near_names : Cal P w K mg base 1 "_law_near_names" 1 r__law_near_names) (c__law_like_names : Cal P w K mg base 2 "_law_like_names" 1 r__law_like_names) (c__law_other_names : Cal P w K mg base 2 "_law_other_names" 1 r__law_other_names) (F : Fun K "_law_thing" "_law_thing" s__law_thing f fd) : FnOk P w K mg base CX0 3 f fd ["drawn"] (spM K 1 r__law_thing) := by
  have sc : FnScope N__law_thing ["drawn"] (defScope s__law_thing) := ⟨rfl, rfl, rfl, by decide +kernel, rfl, by decide +kernel, by decide +kernel⟩
  have nd := sc.nd
  refine fnM (N := N__law_thing) (k := 2) F sc rfl fun cdv A outer s H E hr => ?_
  exact (ss_cons (sm_set (i := 1) nd rfl (Or.inl rfl) (em_op om_mod (em_ix im_ix (em_var 0 (pv 0)) em_int (fun _ _ => rfl)) em_int))
      (ss_cons (sm_set (i := 2) nd rfl (Or.inl rfl) (em_cal c__law_near_names r__law_near_names_len (hr.mono (by decide)) (by rfl) (am_cons (em_var 0 (pv 0)) am_nil)))
      (ss_cons (sm_if (tm_cmp om_lt (em_var 1 (pv 1)) em_int (nomark _)) (ss_one (sm_set (i := 2) nd rfl (Or.inl rfl) (em_cal c__law_like_names r__law_like_names_len (hr.mono (by decide)) (by rfl) (am_cons (em_var 0 (pv 0)) am_nil)))) ss_nil)
      (ss_cons (sm_if (tm_cmp (om_eq hr.units) (em_var 1 (pv 1)) em_int (nomark _)) (ss_one (sm_set (i := 2) nd rfl (Or.inl rfl) (em_cal c__law_other_names r__law_other_names_len (hr.mono (by decide)) (by rfl) (am_cons (em_var 0 (pv 0)) am_nil)))) ss_nil)
      (ss_cons (sm_if (tm_cmp (om_eq hr.units) (em_op om_mod (em_ix im_ix (em_var 0 (pv 0)) em_int (fun _ _ => rfl)) em_int) em_int (nomark _)) (ss_cons (sm_set (i := 3) nd rfl (Or.inl rfl) (em_ix im_ix (em_var 2 (pv 2)) (em_neg em_int) (fun _ _ => rfl)))
      (ss_cons (sm_if (tm_cmp (om_eq hr.units) (em_op om_mod (em_ix im_ix (em_var 0 (pv 0)) em_int (fun _ _ => rfl)) em_int) em_int (nomark _)) (ss_one (sm_set (i := 3) nd rfl (Or.inl rfl) (em_ix im_ix (em_var 2 (pv 2)) em_int (fun _ _ => rfl)))) ss_nil)
      (ss_one (sm_ret (em_tup (am_cons em_str (am_cons (em_ix im_ix (em_var 2 (pv 2)) em_int (fun _ _ => rfl)) (am_cons (em_var 3 (pv 3)) am_nil)))))))) ss_nil)
      (ss_cons (sm_set (i := 4) nd rfl (Or.inl rfl) (em_op om_mod (em_ix im_ix (em_var 0 (pv 0)) em_int (fun _ _ => rfl)) em_int))
      (ss_cons (sm_setO (i := 5) nd rfl (Or.inl rfl) (eo_cut (em_var 2 (pv 2)) (om_some em_int) (om_some (em_op om_add em_int (em_var 4 (pv 4))))))
      (ss_cons (sm_if (WM.tm (wm_and (tm_cmp (om_eq hr.units) (em_op om_mod (em_ix im_ix (em_var 0 (pv 0)) em_int (fun _ _ => rfl)) em_int) em_int (nomark _)) (wm_and1 (tm_cmp om_lt (em_var 4 (pv 4)) em_int (nomark _))))) (ss_one (sm_ins (i := 5) (pv 5) (ps_expr (pe_bm PySem.F.plainAttrs_list PySem.F.slot_list_insert PySem.F.type_list_insert mt_insert (pv 5) (am_pa (am_cons (em_op om_mod (em_ix im_ix (em_var 0 (pv 0)) em_int (fun _ _ => rfl)) (em_op om_add (em_callB cm_len (by rfl) T.b_len PySem.boot_len (am_cons (em_var 5 (pv 5)) am_nil)) em_int)) (am_cons (em_ix im_ix (em_var 2 (pv 2)) em_int (fun _ _ => rfl)) am_nil))))))) ss_nil)
      (ss_one (sm_ret (em_tup (am_cons em_str (am_cons (em_ix im_ix (em_var 2 (pv 2)) em_int (fun _ _ => rfl)) (am_cons (em_callTy cm_tuple (by rfl) T.b_tuple (by kernel_rfl) (am_cons (em_var 5 (pv 5)) am_nil)) am_nil))))))))))))))
abbrev s_is_word : Stmt := top 10
def N_is_word : List Str := ["part"]
theorem ok_is_word {P : Program} {w : World} {K : PySem.W.Frag} {mg : Str → Option Value} {base : Heap} {f : Addr} {fd : FuncData} (T : Txt K mg)  (F : Fun K "is_word" "is_word" s_is_word f fd) : FnOk P w K mg base CX0 1 f fd ["part"] (spM K 1 r_is_word) := by
  have sc : FnScope N_is_word ["part"] (defScope s_is_word) := ⟨rfl, rfl, rfl, by decide +kernel, rfl, by decide +kernel, by decide +kernel⟩
  have nd := sc.nd
  refine fnM (N := N_is_word) (k := 0) F sc rfl fun cdv A outer s H E hr => ?_
  exact (ss_cons (sm_if (WM.tm (wm_or (tm_cmp (om_in hr.units) (em_var 0 (pv 0)) (em_gT (by rfl) T.g_NO_WORDS) (by with_unfolding_all rfl)) (wm_or1 (tm_not (tm_chain om_le om_le em_int (em_callB cm_len (by rfl) T.b_len PySem.boot_len (am_cons (em_var 0 (pv 0)) am_nil)) (em_gI (by rfl) T.g_MOST_LETTERS)))))) (ss_one (sm_ret em_bl)) ss_nil)
      (ss_one (sm_ret (em_callB (cm_all rfl) (by rfl) T.b_all (by kernel_rfl) (am_cons (EO.em (eo_comp (X := (cxOf CX0 P w K mg base N_is_word "is_word" (defScope s_is_word) f cdv A outer s H E).nox) (N' := ["sign"]) (nt := 1) (caps := []) (ts := [0]) (ns := []) (ls := [0]) rfl (ck_of (N := N_is_word) (osc := (defScope s_is_word)) rfl rfl (by decide +kernel)) (by decide) (noOw_gSet _) (im_str (em_var 0 (pv 0))) (fun _ _ _ _ _ _ => (gm_name (pg_name (i := 0) (show (["sign"] : List Str).Nodup by decide +kernel) rfl (Or.inl rfl)))) (fun _ _ _ _ _ _ => if_nil) (fun _ _ _ _ _ _ => (em_chain om_leS om_leS em_str (em_var 0 (pv 0)) em_str)))) am_nil)))))
abbrev s_is_guess_row : Stmt := top 11
def N_is_guess_row : List Str := ["parts"]
theorem ok_is_guess_row {P : Program} {w : World} {K : PySem.W.Frag} {mg : Str → Option Value} {base : Heap} {f : Addr} {fd : FuncData} (T : Txt K mg) (c_is_word : Cal P w K mg base 1 "is_word" 1 r_is_word) (F : Fun K "is_guess_row" "is_guess_row" s_is_guess_row f fd) : FnOk P w K mg base CX0 2 f fd ["parts"] (spM K 1 r_is_guess_row) := by
  have sc : FnScope N_is_guess_row ["parts"] (defScope s_is_guess_row) := ⟨rfl, rfl, rfl, by decide +kernel, rfl, by decide +kernel, by decide +kernel⟩
  have nd := sc.nd
  refine fnM (N := N_is_guess_row) (k := 1) F sc rfl fun cdv A outer s H E hr => ?_
  exact (ss_cons (sm_if (WM.tm (wm_or (tm_cmp (om_ne hr.units) (em_callB cm_len (by rfl) T.b_len PySem.boot_len (am_cons (em_var 0 (pv 0)) am_nil)) em_int (nomark _)) (wm_or (tm_cmp (om_ne hr.units) (em_ix im_ix (em_var 0 (pv 0)) em_int (fun _ _ => rfl)) em_str (nomark _)) (wm_or1 (tm_cmp (om_ne hr.units) (em_ix im_ix (em_var 0 (pv 0)) em_int (fun _ _ => rfl)) em_str (nomark _)))))) (ss_one (sm_ret em_bl)) ss_nil)
      (ss_one (sm_ret (em_and (em_cal c_is_word r_is_word_len (hr.mono (by decide)) (by rfl) (am_cons (em_ix im_ix (em_var 0 (pv 0)) em_int (fun _ _ => rfl)) am_nil)) (em_one (em_cal c_is_word r_is_word_len (hr.mono (by decide)) (by rfl) (am_cons (em_ix im_ix (em_var 0 (pv 0)) em_int (fun _ _ => rfl)) am_nil)))))))
abbrev s_is_rule_row : Stmt := top 12
def N_is_rule_row : List Str := ["parts"]
theorem ok_is_rule_row {P : Program} {w : World} {K : PySem.W.Frag} {mg : Str → Option Value} {base : Heap} {f : Addr} {fd : FuncData} (T : Txt K mg) (c_is_word : Cal P w K mg base 1 "is_word" 1 r_is_word) (F : Fun K "is_rule_row" "is_rule_row" s_is_rule_row f fd) : FnOk P w K mg base CX0 2 f fd ["parts"] (spM K 1 r_is_rule_row) := by
  have sc : FnScope N_is_rule_row ["parts"] (defScope s_is_rule_row) := ⟨rfl, rfl, rfl, by decide +kernel, rfl, by decide +kernel, by decide +kernel⟩
  have nd := sc.nd
  refine fnM (N := N_is_rule_row) (k := 1) F sc rfl fun cdv A outer s H E hr => ?_
  exact (ss_cons (sm_if (tm_cmp (om_eq hr.units) (em_callB cm_len (by rfl) T.b_len PySem.boot_len (am_cons (em_var 0 (pv 0)) am_nil)) em_int (nomark _)) (ss_one (sm_ret (em_cal c_is_word r_is_word_len (hr.mono (by decide)) (by rfl) (am_cons (em_ix im_ix (em_var 0 (pv 0)) em_int (fun _ _ => rfl)) am_nil)))) ss_nil)
      (ss_cons (sm_if (WM.tm (wm_or (tm_cmp (om_eq hr.units) (em_callB cm_len (by rfl) T.b_len PySem.boot_len (am_cons (em_var 0 (pv 0)) am_nil)) em_int (nomark _)) (wm_or1 (tm_cmp (om_ne hr.units) (em_ix im_ix (em_var 0 (pv 0)) em_int (fun _ _ => rfl)) em_str (nomark _))))) (ss_one (sm_ret em_bl)) ss_nil)
      (ss_one (sm_ret (em_callB (cm_all rfl) (by rfl) T.b_all (by kernel_rfl) (am_cons (EO.em (eo_comp (X := (cxOf CX0 P w K mg base N_is_rule_row "is_rule_row" (defScope s_is_rule_row) f cdv A outer s H E).nox) (N' := ["part"]) (nt := 1) (caps := []) (ts := [0]) (ns := []) (ls := [0]) rfl (ck_of (N := N_is_rule_row) (osc := (defScope s_is_rule_row)) rfl rfl (by decide +kernel)) (by decide) (noOw_gSet _) (im_lst (EO.em (eo_op oo_cat (EO.em (eo_cut (em_var 0 (pv 0)) om_none (om_some em_int))) (EO.em (eo_cut (em_var 0 (pv 0)) (om_some em_int) om_none))))) (fun _ _ _ _ _ _ => (gm_name (pg_name (i := 0) (show (["part"] : List Str).Nodup by decide +kernel) rfl (Or.inl rfl)))) (fun _ _ _ _ _ _ => if_nil) (fun _ _ _ _ _ _ => (em_cal c_is_word r_is_word_len (hr.mono (by decide)) (by rfl) (am_cons (em_var 0 (pv 0)) am_nil))))) am_nil))))))
abbrev s_read_row : Stmt := top 13
def N_read_row : List Str := ["line", "row", "parts", "body"]
theorem ok_read_row {P : Program} {w : World} {K : PySem.W.Frag} {mg : Str → Option Value} {base : Heap} {f : Addr} {fd : FuncData} (T : Txt K mg) (c_is_guess_row : Cal P w K mg base 2 "is_guess_row" 1 r_is_guess_row) (c_is_rule_row : Cal P w K mg base 2 "is_rule_row" 1 r_is_rule_row) (F : FunD K "read_row" "read_row" s_read_row f fd 0) : FnOk P w K mg base CX0 3 f fd ["line", "row"] (spM K 2 r_read_row) := by
  have sc : FnScope N_read_row ["line", "row"] (defScope s_read_row) := ⟨rfl, rfl, rfl, by decide +kernel, rfl, by decide +kernel, by decide +kernel⟩
  have nd := sc.nd
  refine fnMD (N := N_read_row) (k := 2) F sc rfl fun cdv A outer s H E hr => ?_
  exact (ss_cons (sm_setO (i := 2) nd rfl (Or.inl rfl) (eo_split (em_var 0 (pv 0)) (am_str am_nil)))
      (ss_cons (sm_if (tm_truth (em_cal c_is_guess_row r_is_guess_row_len (hr.mono (by decide)) (by rfl) (am_cons (em_var 2 (pv 2)) am_nil))) (ss_one (sm_ret (em_tup (am_cons em_str (am_cons (em_ix im_ix (em_var 2 (pv 2)) em_int (fun _ _ => rfl)) (am_cons (em_ix im_ix (em_var 2 (pv 2)) em_int (fun _ _ => rfl)) am_nil)))))) ss_nil)
      (ss_cons (sm_if (tm_not (tm_truth (em_cal c_is_rule_row r_is_rule_row_len (hr.mono (by decide)) (by rfl) (am_cons (em_var 2 (pv 2)) am_nil)))) (ss_one sm_no) ss_nil)
      (ss_cons (sm_set (i := 3) nd rfl (Or.inl rfl) (em_callTy cm_tuple (by rfl) T.b_tuple (by kernel_rfl) (am_cons (EO.em (eo_cut (em_var 2 (pv 2)) (om_some em_int) om_none)) am_nil)))
      (ss_cons (sm_if (tm_cmp om_gt (em_callB cm_len (by rfl) T.b_len PySem.boot_len (am_cons (em_var 3 (pv 3)) am_nil)) (em_gI (by rfl) T.g_MOST_IN_BODY) (nomark _)) (ss_one sm_no) ss_nil)
      (ss_cons (sm_if (tm_cmp om_lt (em_lenSetT rfl (by rfl) T.b_set (by rfl) T.b_len (am_cons (em_var 3 (pv 3)) am_nil)) (em_callB cm_len (by rfl) T.b_len PySem.boot_len (am_cons (em_var 3 (pv 3)) am_nil)) (nomark _)) (ss_one sm_no) ss_nil)
      (ss_one (sm_ret (em_tup (am_cons em_str (am_cons (em_ix im_ix (em_var 2 (pv 2)) em_int (fun _ _ => rfl)) (am_cons (em_var 3 (pv 3)) am_nil))))))))))))
abbrev s__law_same : Stmt := top 23
def N__law_same : List Str := ["found", "due", "word"]
theorem ok__law_same {P : Program} {w : World} {K : PySem.W.Frag} {mg : Str → Option Value} {base : Heap} {f : Addr} {fd : FuncData} (T : Txt K mg)  (F : Fun K "_law_same" "_law_same" s__law_same f fd) : FnOk P w K mg base CX0 1 f fd ["found", "due"] (spM K 2 r__law_same) := by
  have sc : FnScope N__law_same ["found", "due"] (defScope s__law_same) := ⟨rfl, rfl, rfl, by decide +kernel, rfl, by decide +kernel, by decide +kernel⟩
  have nd := sc.nd
  refine fnM (N := N__law_same) (k := 0) F sc rfl fun cdv A outer s H E hr => ?_
  exact (ss_cons (sm_if (WM.tm (wm_or (tm_not (tm_truth (em_isinst (x := "tuple") isi_tup (em_var 0 (pv 0)) (by rfl) T.b_isinstance (by rfl) T.b_tuple (by kernel_rfl)))) (wm_or1 (tm_cmp (om_ne hr.units) (em_callB cm_len (by rfl) T.b_len PySem.boot_len (am_cons (em_var 0 (pv 0)) am_nil)) em_int (nomark _))))) (ss_one (sm_ret em_bl)) ss_nil)
      (ss_cons (sm_if (WM.tm (wm_or (tm_not (tm_truth (em_isinst (x := "str") isi_str (em_ix im_ix (em_var 0 (pv 0)) em_int (fun _ _ => rfl)) (by rfl) T.b_isinstance (by rfl) T.b_str (by kernel_rfl)))) (wm_or1 (tm_not (tm_truth (em_isinst (x := "str") isi_str (em_ix im_ix (em_var 0 (pv 0)) em_int (fun _ _ => rfl)) (by rfl) T.b_isinstance (by rfl) T.b_str (by kernel_rfl))))))) (ss_one (sm_ret em_bl)) ss_nil)
      (ss_cons (sm_if (tm_cmp (om_eq hr.units) (em_ix im_ix (em_var 1 (pv 1)) em_int (fun _ _ => rfl)) em_str (nomark _)) (ss_one (sm_ret (em_and (em_isinst (x := "str") isi_str (em_ix im_ix (em_var 0 (pv 0)) em_int (fun _ _ => rfl)) (by rfl) T.b_isinstance (by rfl) T.b_str (by kernel_rfl)) (em_one (em_cmp (om_eq hr.units) (em_var 0 (pv 0)) (em_var 1 (pv 1)) (nomark _)))))) ss_nil)
      (ss_cons (sm_if (WM.tm (wm_or (tm_not (tm_truth (em_isinst (x := "tuple") isi_tup (em_ix im_ix (em_var 0 (pv 0)) em_int (fun _ _ => rfl)) (by rfl) T.b_isinstance (by rfl) T.b_tuple (by kernel_rfl)))) (wm_or1 (tm_cmp (om_ne hr.units) (em_callB cm_len (by rfl) T.b_len PySem.boot_len (am_cons (em_ix im_ix (em_var 0 (pv 0)) em_int (fun _ _ => rfl)) am_nil)) (em_callB cm_len (by rfl) T.b_len PySem.boot_len (am_cons (em_ix im_ix (em_var 1 (pv 1)) em_int (fun _ _ => rfl)) am_nil)) (nomark _))))) (ss_one (sm_ret em_bl)) ss_nil)
      (ss_cons (sm_for PassesOwn.never rfl (im_seq (em_ix im_ix (em_var 0 (pv 0)) em_int (fun _ _ => rfl))) (gm_name (pg_name (i := 2) nd rfl (Or.inl rfl))) (ss_one (sm_if (tm_not (tm_truth (em_isinst (x := "str") isi_str (em_var 2 (pv 2)) (by rfl) T.b_isinstance (by rfl) T.b_str (by kernel_rfl)))) (ss_one (sm_ret em_bl)) ss_nil)))
      (ss_one (sm_ret (em_cmp (om_eq hr.units) (em_var 0 (pv 0)) (em_var 1 (pv 1)) (nomark _)))))))))
abbrev s__law_line : Stmt := top 22
def N__law_line : List Str := ["thing"]
theorem ok__law_line {P : Program} {w : World} {K : PySem.W.Frag} {mg : Str → Option Value} {base : Heap} {f : Addr} {fd : FuncData} (T : Txt K mg)  (F : Fun K "_law_line" "_law_line" s__law_line f fd) : FnOk P w K mg base CX0 1 f fd ["thing"] (spM K 1 r__law_line) := by
  have sc : FnScope N__law_line ["thing"] (defScope s__law_line) := ⟨rfl, rfl, rfl, by decide +kernel, rfl, by decide +kernel, by decide +kernel⟩
  have nd := sc.nd
  refine fnM (N := N__law_line) (k := 0) F sc rfl fun cdv A outer s H E hr => ?_
  exact (ss_cons (sm_if (tm_cmp (om_eq hr.units) (em_ix im_ix (em_var 0 (pv 0)) em_int (fun _ _ => rfl)) em_str (nomark _)) (ss_one (sm_ret (em_op om_add (em_op om_add (em_op om_add em_str (em_ix im_ix (em_var 0 (pv 0)) em_int (fun _ _ => rfl))) em_str) (em_ix im_ix (em_var 0 (pv 0)) em_int (fun _ _ => rfl))))) ss_nil)
      (ss_cons (sm_if (tm_cmp (om_eq hr.units) (em_callB cm_len (by rfl) T.b_len PySem.boot_len (am_cons (em_ix im_ix (em_var 0 (pv 0)) em_int (fun _ _ => rfl)) am_nil)) em_int (nomark _)) (ss_one (sm_ret (em_ix im_ix (em_var 0 (pv 0)) em_int (fun _ _ => rfl)))) ss_nil)
      (ss_one (sm_ret (em_op om_add (em_op om_add (em_ix im_ix (em_var 0 (pv 0)) em_int (fun _ _ => rfl)) em_str) (em_joinT em_str (am_cons (em_ix im_ix (em_var 0 (pv 0)) em_int (fun _ _ => rfl)) am_nil)))))))
abbrev s_law : Stmt := top 24
def N_law : List Str := ["script", "cell", "drawn", "due", "found"]
theorem ok_law {P : Program} {w : World} {K : PySem.W.Frag} {mg : Str → Option Value} {base : Heap} {f : Addr} {fd : FuncData} (T : Txt K mg) (c__law_draws : Cal P w K mg base 1 "_law_draws" 2 r__law_draws) (c__law_thing : Cal P w K mg base 3 "_law_thing" 1 r__law_thing) (c_read_row : CalD P w K mg base 3 "read_row" 2 0 r_read_row) (c__law_same : Cal P w K mg base 1 "_law_same" 2 r__law_same) (c__law_line : Cal P w K mg base 1 "_law_line" 1 r__law_line) (F : Fun K "law" "law" s_law f fd) : FnOk P w K mg base CX0 4 f fd ["script"] (spM K 1 r_law_k01) := by
  have sc : FnScope N_law ["script"] (defScope s_law) := ⟨rfl, rfl, rfl, by decide +kernel, rfl, by decide +kernel, by decide +kernel⟩
  have nd := sc.nd
  refine fnM (N := N_law) (k := 3) F sc rfl fun cdv A outer s H E hr => ?_
  exact (ss_cons (sm_for PassesOwn.never rfl (im_lst (EO.em (eo_op oo_cat (EO.em (eo_cut (em_var 0 (pv 0)) om_none (om_some em_int))) (EO.em (eo_lst (am_cons (em_callB cm_len (by rfl) T.b_len PySem.boot_len (am_cons (em_var 0 (pv 0)) am_nil)) am_nil)))))) (gm_name (pg_name (i := 1) nd rfl (Or.inl rfl))) (ss_cons (sm_set (i := 2) nd rfl (Or.inl rfl) (em_cal c__law_draws r__law_draws_len (hr.mono (by decide)) (by rfl) (am_cons (em_var 1 (pv 1)) (am_int am_nil))))
      (ss_cons (sm_set (i := 3) nd rfl (Or.inl rfl) (em_cal c__law_thing r__law_thing_len (hr.mono (by decide)) (by rfl) (am_cons (em_var 2 (pv 2)) am_nil)))
      (ss_cons (sm_if (tm_cmp (om_eq hr.units) (em_op om_mod (em_ix im_ix (em_var 2 (pv 2)) em_int (fun _ _ => rfl)) em_int) em_int (nomark _)) (ss_one (sm_set (i := 4) nd rfl (Or.inl rfl) (em_calD c_read_row r_read_row_len (hr.mono (by decide)) (by rfl) (am_cons (em_cal c__law_line r__law_line_len (hr.mono (by decide)) (by rfl) (am_cons (em_var 3 (pv 3)) am_nil)) am_nil)))) (ss_one (sm_set (i := 4) nd rfl (Or.inl rfl) (em_cal c_read_row.cal r_read_row_len (hr.mono (by decide)) (by rfl) (am_cons (em_cal c__law_line r__law_line_len (hr.mono (by decide)) (by rfl) (am_cons (em_var 3 (pv 3)) am_nil)) (am_cons (em_op om_mod (em_ix im_ix (em_var 2 (pv 2)) em_int (fun _ _ => rfl)) em_int) am_nil))))))
      (ss_one (sm_if (tm_not (tm_truth (em_cal c__law_same r__law_same_len (hr.mono (by decide)) (by rfl) (am_cons (em_var 4 (pv 4)) (am_cons (em_var 3 (pv 3)) am_nil))))) (ss_one (sm_ret em_bl)) ss_nil))))))
      (ss_one (sm_ret em_bl)))
theorem all_mk {l : PySem.W.OpenLaw} {w : World} {K : PySem.W.Frag} {h : Heap} {mg : Str → Option Value} {fa : Addr} (X : K.In h) (G : h.Ns mainGlobals mg) (hfa : mg "law" = some (.ref fa))
    {f0 : Addr} {od0 an0 : Option Addr} {sl0 : Array (Option Value)} {oc0 kV0 dc0 pm0 cd0 ct0 : Value}
    {f1 : Addr} {od1 an1 : Option Addr} {sl1 : Array (Option Value)} {oc1 kV1 dc1 pm1 cd1 ct1 : Value}
    {f2 : Addr} {od2 an2 : Option Addr} {sl2 : Array (Option Value)} {oc2 kV2 dc2 pm2 cd2 ct2 : Value}
    {f3 : Addr} {od3 an3 : Option Addr} {sl3 : Array (Option Value)} {oc3 kV3 dc3 pm3 cd3 ct3 : Value}
    {f4 : Addr} {od4 an4 : Option Addr} {sl4 : Array (Option Value)} {oc4 kV4 dc4 pm4 cd4 ct4 : Value}
    {f5 : Addr} {od5 an5 : Option Addr} {sl5 : Array (Option Value)} {oc5 kV5 dc5 pm5 cd5 ct5 : Value}
    {f6 : Addr} {od6 an6 : Option Addr} {sl6 : Array (Option Value)} {oc6 kV6 dc6 pm6 cd6 ct6 : Value}
    {f7 : Addr} {od7 an7 : Option Addr} {sl7 : Array (Option Value)} {oc7 kV7 dc7 pm7 cd7 ct7 : Value}
    {f8 : Addr} {od8 an8 : Option Addr} {sl8 : Array (Option Value)} {oc8 kV8 dc8 pm8 cd8 ct8 : Value}
    {f9 : Addr} {od9 an9 : Option Addr} {sl9 : Array (Option Value)} {oc9 kV9 dc9 pm9 cd9 ct9 : Value}
    {f10 : Addr} {od10 an10 : Option Addr} {sl10 : Array (Option Value)} {oc10 kV10 dc10 pm10 cd10 ct10 : Value} {T10 : Addr} {tc10 : Value} {td10 : Option Addr} {ts10 : Array (Option Value)} {tk10 : Tok} {tn10 : Nat}
    {f11 : Addr} {od11 an11 : Option Addr} {sl11 : Array (Option Value)} {oc11 kV11 dc11 pm11 cd11 ct11 : Value}
    {f12 : Addr} {od12 an12 : Option Addr} {sl12 : Array (Option Value)} {oc12 kV12 dc12 pm12 cd12 ct12 : Value}
    {f13 : Addr} {od13 an13 : Option Addr} {sl13 : Array (Option Value)} {oc13 kV13 dc13 pm13 cd13 ct13 : Value}
    {gt_MOST_IN_BODY : Tok}
    {gt_MOST_LETTERS : Tok}
    {ga_NO_WORDS : Addr} {gd_NO_WORDS : Option Addr} {gs_NO_WORDS : Array (Option Value)} {gn_NO_WORDS : Nat} {gk0_NO_WORDS : Tok} {gk1_NO_WORDS : Tok} {gk2_NO_WORDS : Tok}
    (a0 : PySem.W.nsIn K mainGlobals "_law_draws" = some (some (.ref f0)))
    (l0 : K.lookup f0 = some ⟨oc0, od0, .func (PySem.W.fnOf "_law_draws" "_law_draws" (defArgs s__law_draws) (defBody s__law_draws) (defScope s__law_draws) .none kV0 dc0 pm0 an0 cd0 ct0), sl0⟩)
    (c0 : PySem.W.codeIn K cd0 "_law_draws" = true)
    (k0 : PySem.W.keepIn K (.ref f0) = true)
    (a1 : PySem.W.nsIn K mainGlobals "_law_near_names" = some (some (.ref f1)))
    (l1 : K.lookup f1 = some ⟨oc1, od1, .func (PySem.W.fnOf "_law_near_names" "_law_near_names" (defArgs s__law_near_names) (defBody s__law_near_names) (defScope s__law_near_names) .none kV1 dc1 pm1 an1 cd1 ct1), sl1⟩)
    (c1 : PySem.W.codeIn K cd1 "_law_near_names" = true)
    (k1 : PySem.W.keepIn K (.ref f1) = true)
    (a2 : PySem.W.nsIn K mainGlobals "_law_fresh" = some (some (.ref f2)))
    (l2 : K.lookup f2 = some ⟨oc2, od2, .func (PySem.W.fnOf "_law_fresh" "_law_fresh" (defArgs s__law_fresh) (defBody s__law_fresh) (defScope s__law_fresh) .none kV2 dc2 pm2 an2 cd2 ct2), sl2⟩)
    (c2 : PySem.W.codeIn K cd2 "_law_fresh" = true)
    (k2 : PySem.W.keepIn K (.ref f2) = true)
    (a3 : PySem.W.nsIn K mainGlobals "_law_safe" = some (some (.ref f3)))
    (l3 : K.lookup f3 = some ⟨oc3, od3, .func (PySem.W.fnOf "_law_safe" "_law_safe" (defArgs s__law_safe) (defBody s__law_safe) (defScope s__law_safe) .none kV3 dc3 pm3 an3 cd3 ct3), sl3⟩)
    (c3 : PySem.W.codeIn K cd3 "_law_safe" = true)
    (k3 : PySem.W.keepIn K (.ref f3) = true)
    (a4 : PySem.W.nsIn K mainGlobals "_law_like_names" = some (some (.ref f4)))
    (l4 : K.lookup f4 = some ⟨oc4, od4, .func (PySem.W.fnOf "_law_like_names" "_law_like_names" (defArgs s__law_like_names) (defBody s__law_like_names) (defScope s__law_like_names) .none kV4 dc4 pm4 an4 cd4 ct4), sl4⟩)
    (c4 : PySem.W.codeIn K cd4 "_law_like_names" = true)
    (k4 : PySem.W.keepIn K (.ref f4) = true)
    (a5 : PySem.W.nsIn K mainGlobals "_law_other_names" = some (some (.ref f5)))
    (l5 : K.lookup f5 = some ⟨oc5, od5, .func (PySem.W.fnOf "_law_other_names" "_law_other_names" (defArgs s__law_other_names) (defBody s__law_other_names) (defScope s__law_other_names) .none kV5 dc5 pm5 an5 cd5 ct5), sl5⟩)
    (c5 : PySem.W.codeIn K cd5 "_law_other_names" = true)
    (k5 : PySem.W.keepIn K (.ref f5) = true)
    (a6 : PySem.W.nsIn K mainGlobals "_law_thing" = some (some (.ref f6)))
    (l6 : K.lookup f6 = some ⟨oc6, od6, .func (PySem.W.fnOf "_law_thing" "_law_thing" (defArgs s__law_thing) (defBody s__law_thing) (defScope s__law_thing) .none kV6 dc6 pm6 an6 cd6 ct6), sl6⟩)
    (c6 : PySem.W.codeIn K cd6 "_law_thing" = true)
    (k6 : PySem.W.keepIn K (.ref f6) = true)
    (a7 : PySem.W.nsIn K mainGlobals "is_word" = some (some (.ref f7)))
    (l7 : K.lookup f7 = some ⟨oc7, od7, .func (PySem.W.fnOf "is_word" "is_word" (defArgs s_is_word) (defBody s_is_word) (defScope s_is_word) .none kV7 dc7 pm7 an7 cd7 ct7), sl7⟩)
    (c7 : PySem.W.codeIn K cd7 "is_word" = true)
    (k7 : PySem.W.keepIn K (.ref f7) = true)
    (a8 : PySem.W.nsIn K mainGlobals "is_guess_row" = some (some (.ref f8)))
    (l8 : K.lookup f8 = some ⟨oc8, od8, .func (PySem.W.fnOf "is_guess_row" "is_guess_row" (defArgs s_is_guess_row) (defBody s_is_guess_row) (defScope s_is_guess_row) .none kV8 dc8 pm8 an8 cd8 ct8), sl8⟩)
    (c8 : PySem.W.codeIn K cd8 "is_guess_row" = true)
    (k8 : PySem.W.keepIn K (.ref f8) = true)
    (a9 : PySem.W.nsIn K mainGlobals "is_rule_row" = some (some (.ref f9)))
    (l9 : K.lookup f9 = some ⟨oc9, od9, .func (PySem.W.fnOf "is_rule_row" "is_rule_row" (defArgs s_is_rule_row) (defBody s_is_rule_row) (defScope s_is_rule_row) .none kV9 dc9 pm9 an9 cd9 ct9), sl9⟩)
    (c9 : PySem.W.codeIn K cd9 "is_rule_row" = true)
    (k9 : PySem.W.keepIn K (.ref f9) = true)
    (a10 : PySem.W.nsIn K mainGlobals "read_row" = some (some (.ref f10)))
    (l10 : K.lookup f10 = some ⟨oc10, od10, .func (PySem.W.fnOf "read_row" "read_row" (defArgs s_read_row) (defBody s_read_row) (defScope s_read_row) (.ref T10) kV10 dc10 pm10 an10 cd10 ct10), sl10⟩)
    (c10 : PySem.W.codeIn K cd10 "read_row" = true)
    (k10 : PySem.W.keepIn K (.ref f10) = true)
    (t10 : K.lookup T10 = some ⟨tc10, td10, .seq #[.int 0 tk10] tn10, ts10⟩)
    (a11 : PySem.W.nsIn K mainGlobals "_law_same" = some (some (.ref f11)))
    (l11 : K.lookup f11 = some ⟨oc11, od11, .func (PySem.W.fnOf "_law_same" "_law_same" (defArgs s__law_same) (defBody s__law_same) (defScope s__law_same) .none kV11 dc11 pm11 an11 cd11 ct11), sl11⟩)
    (c11 : PySem.W.codeIn K cd11 "_law_same" = true)
    (k11 : PySem.W.keepIn K (.ref f11) = true)
    (a12 : PySem.W.nsIn K mainGlobals "_law_line" = some (some (.ref f12)))
    (l12 : K.lookup f12 = some ⟨oc12, od12, .func (PySem.W.fnOf "_law_line" "_law_line" (defArgs s__law_line) (defBody s__law_line) (defScope s__law_line) .none kV12 dc12 pm12 an12 cd12 ct12), sl12⟩)
    (c12 : PySem.W.codeIn K cd12 "_law_line" = true)
    (k12 : PySem.W.keepIn K (.ref f12) = true)
    (a13 : PySem.W.nsIn K mainGlobals "law" = some (some (.ref f13)))
    (l13 : K.lookup f13 = some ⟨oc13, od13, .func (PySem.W.fnOf "law" "law" (defArgs s_law) (defBody s_law) (defScope s_law) .none kV13 dc13 pm13 an13 cd13 ct13), sl13⟩)
    (c13 : PySem.W.codeIn K cd13 "law" = true)
    (k13 : PySem.W.keepIn K (.ref f13) = true)
    (z_all : PySem.W.nsIn K mainGlobals "all" = some none)
    (z_isinstance : PySem.W.nsIn K mainGlobals "isinstance" = some none)
    (z_len : PySem.W.nsIn K mainGlobals "len" = some none)
    (z_range : PySem.W.nsIn K mainGlobals "range" = some none)
    (z_set : PySem.W.nsIn K mainGlobals "set" = some none)
    (z_str : PySem.W.nsIn K mainGlobals "str" = some none)
    (z_tuple : PySem.W.nsIn K mainGlobals "tuple" = some none)
    (g_MOST_IN_BODY : PySem.W.nsIn K mainGlobals "MOST_IN_BODY" = some (some (.int 6 gt_MOST_IN_BODY)))
    (g_MOST_LETTERS : PySem.W.nsIn K mainGlobals "MOST_LETTERS" = some (some (.int 12 gt_MOST_LETTERS)))
    (g_NO_WORDS : PySem.W.nsIn K mainGlobals "NO_WORDS" = some (some (.ref ga_NO_WORDS)))
    (gl_NO_WORDS : K.lookup ga_NO_WORDS = some ⟨.type "tuple", gd_NO_WORDS, .seq #[.str "guess" gk0_NO_WORDS, .str "unless" gk1_NO_WORDS, .str "if" gk2_NO_WORDS] gn_NO_WORDS, gs_NO_WORDS⟩)
    : ∃ fd : FuncData, (∀ (s : Shared) (v : Value), BindsTo s fd ⟨[v], []⟩ [("script", v)]) ∧ ∀ base : Heap, K.In base → base.Ns mainGlobals mg → FnOk l.prog w K mg base CX0 4 fa fd ["script"] (spM K 1 r_law_k01) := by
  have e := hfa.symm.trans (PySem.W.mg_of X G a13)
  cases e
  have T : Txt K mg := ⟨PySem.W.mg_none_of X G z_all, PySem.W.mg_none_of X G z_isinstance, PySem.W.mg_none_of X G z_len, PySem.W.mg_none_of X G z_range, PySem.W.mg_none_of X G z_set, PySem.W.mg_none_of X G z_str, PySem.W.mg_none_of X G z_tuple, ⟨_, PySem.W.mg_of X G g_MOST_IN_BODY⟩, ⟨_, PySem.W.mg_of X G g_MOST_LETTERS⟩, ⟨_, PySem.W.mg_of X G g_NO_WORDS, _, _, _, gl_NO_WORDS, rfl, rfl, (show 3 ≤ sizeLine by decide), (.cons ⟨_, rfl⟩ (.cons ⟨_, rfl⟩ (.cons ⟨_, rfl⟩ .nil)))⟩⟩
  have F0 := fun_mk (st := s__law_draws) l0 c0 k0
  have b0 := F0.binds (ps := ["cell", "count"]) fun _ _ _ _ _ _ us hl => match us, hl with | [_, _], _ => rfl
  have F1 := fun_mk (st := s__law_near_names) l1 c1 k1
  have b1 := F1.binds (ps := ["drawn"]) fun _ _ _ _ _ _ us hl => match us, hl with | [_], _ => rfl
  have F2 := fun_mk (st := s__law_fresh) l2 c2 k2
  have b2 := F2.binds (ps := ["number", "size"]) fun _ _ _ _ _ _ us hl => match us, hl with | [_, _], _ => rfl
  have F3 := fun_mk (st := s__law_safe) l3 c3 k3
  have b3 := F3.binds (ps := ["name"]) fun _ _ _ _ _ _ us hl => match us, hl with | [_], _ => rfl
  have F4 := fun_mk (st := s__law_like_names) l4 c4 k4
  have b4 := F4.binds (ps := ["drawn"]) fun _ _ _ _ _ _ us hl => match us, hl with | [_], _ => rfl
  have F5 := fun_mk (st := s__law_other_names) l5 c5 k5
  have b5 := F5.binds (ps := ["drawn"]) fun _ _ _ _ _ _ us hl => match us, hl with | [_], _ => rfl
  have F6 := fun_mk (st := s__law_thing) l6 c6 k6
  have b6 := F6.binds (ps := ["drawn"]) fun _ _ _ _ _ _ us hl => match us, hl with | [_], _ => rfl
  have F7 := fun_mk (st := s_is_word) l7 c7 k7
  have b7 := F7.binds (ps := ["part"]) fun _ _ _ _ _ _ us hl => match us, hl with | [_], _ => rfl
  have F8 := fun_mk (st := s_is_guess_row) l8 c8 k8
  have b8 := F8.binds (ps := ["parts"]) fun _ _ _ _ _ _ us hl => match us, hl with | [_], _ => rfl
  have F9 := fun_mk (st := s_is_rule_row) l9 c9 k9
  have b9 := F9.binds (ps := ["parts"]) fun _ _ _ _ _ _ us hl => match us, hl with | [_], _ => rfl
  have F10 := funD_mk (st := s_read_row) l10 c10 k10 t10
  have b10 := F10.binds (ps := ["line", "row"]) fun _ _ _ _ _ _ _ d us hl => match us, hl with | [_, _], _ => ⟨_, rfl, rfl⟩
  have bd10 := F10.bindsD (ps := ["line", "row"]) fun _ _ _ _ _ _ _ d us hl => match us, hl with | [_], _ => ⟨_, rfl, rfl⟩
  have F11 := fun_mk (st := s__law_same) l11 c11 k11
  have b11 := F11.binds (ps := ["found", "due"]) fun _ _ _ _ _ _ us hl => match us, hl with | [_, _], _ => rfl
  have F12 := fun_mk (st := s__law_line) l12 c12 k12
  have b12 := F12.binds (ps := ["thing"]) fun _ _ _ _ _ _ us hl => match us, hl with | [_], _ => rfl
  have F13 := fun_mk (st := s_law) l13 c13 k13
  refine ⟨PySem.W.fnOf "law" "law" (defArgs s_law) (defBody s_law) (defScope s_law) .none kV13 dc13 pm13 an13 cd13 ct13, fun s v => .of_eq rfl, fun base _ _ => ?_⟩
  have q0 : Cal l.prog w K mg base 1 "_law_draws" 2 r__law_draws := ⟨_, _, _, ok__law_draws T  F0, PySem.W.mg_of X G a0, k0, b0⟩
  have q1 : Cal l.prog w K mg base 1 "_law_near_names" 1 r__law_near_names := ⟨_, _, _, ok__law_near_names T  F1, PySem.W.mg_of X G a1, k1, b1⟩
  have q2 : Cal l.prog w K mg base 1 "_law_fresh" 2 r__law_fresh := ⟨_, _, _, ok__law_fresh T  F2, PySem.W.mg_of X G a2, k2, b2⟩
  have q3 : Cal l.prog w K mg base 1 "_law_safe" 1 r__law_safe := ⟨_, _, _, ok__law_safe T  F3, PySem.W.mg_of X G a3, k3, b3⟩
  have q4 : Cal l.prog w K mg base 2 "_law_like_names" 1 r__law_like_names := ⟨_, _, _, ok__law_like_names T q2 q3 F4, PySem.W.mg_of X G a4, k4, b4⟩
  have q5 : Cal l.prog w K mg base 2 "_law_other_names" 1 r__law_other_names := ⟨_, _, _, ok__law_other_names T q2 q3 F5, PySem.W.mg_of X G a5, k5, b5⟩
  have q6 : Cal l.prog w K mg base 3 "_law_thing" 1 r__law_thing := ⟨_, _, _, ok__law_thing T q1 q4 q5 F6, PySem.W.mg_of X G a6, k6, b6⟩
  have q7 : Cal l.prog w K mg base 1 "is_word" 1 r_is_word := ⟨_, _, _, ok_is_word T  F7, PySem.W.mg_of X G a7, k7, b7⟩
  have q8 : Cal l.prog w K mg base 2 "is_guess_row" 1 r_is_guess_row := ⟨_, _, _, ok_is_guess_row T q7 F8, PySem.W.mg_of X G a8, k8, b8⟩
  have q9 : Cal l.prog w K mg base 2 "is_rule_row" 1 r_is_rule_row := ⟨_, _, _, ok_is_rule_row T q7 F9, PySem.W.mg_of X G a9, k9, b9⟩
  have q10 : CalD l.prog w K mg base 3 "read_row" 2 0 r_read_row := ⟨_, _, _, ok_read_row T q8 q9 F10, PySem.W.mg_of X G a10, k10, b10, bd10⟩
  have q11 : Cal l.prog w K mg base 1 "_law_same" 2 r__law_same := ⟨_, _, _, ok__law_same T  F11, PySem.W.mg_of X G a11, k11, b11⟩
  have q12 : Cal l.prog w K mg base 1 "_law_line" 1 r__law_line := ⟨_, _, _, ok__law_line T  F12, PySem.W.mg_of X G a12, k12, b12⟩
  exact ok_law T q0 q6 q10 q11 q12 F13
theorem walk {l : PySem.W.OpenLaw} {q : Program} {loose : List Str} {XP : (Str → Option Value) → Heap → Prop} {YP : World → Heap → Prop} {d : DefRec} {K : Params → PySem.W.Frag} (hn : l.most = some 63) (hdf : d.params.defaults = [])
    (hY : ∀ (w : World) (h : Heap), YP w h → (K w.params).In h) (hlaw : ∀ ns : List Int, ns.length ≤ 63 → r_law_k01 [.lst (ns.map .int)] = some (.bl true))
    (F : ∀ (w : World) (mg : Str → Option Value) (fa : Addr) (h : Heap), (K w.params).In h → h.Ns mainGlobals mg → mg d.name = some (.ref fa) →
      ∃ fd : FuncData, (∀ (s : Shared) (u : Value), BindsTo s fd ⟨[u], []⟩ [("script", u)]) ∧ ∀ base : Heap, (K w.params).In base → base.Ns mainGlobals mg → FnOk l.prog w (K w.params) mg base CX0 4 fa fd ["script"] (spM (K w.params) 1 r_law_k01)) :
    PySem.W.WalkO q loose XP YP l.row.toRowW d [] (fun f vs => PySem.call f vs) :=
  L2.walk_of (n := 63) (k := 4) (x := "script") (CX := fun _ => CX0) (sp := fun w => spM (K w.params) 1 r_law_k01) hn (by decide) hdf ⟨rfl, by decide, by decide⟩ hY F (fun w H a ns hl _ hS => law_sp hlaw hl hS) fun _ _ _ _ _ z => z
end K01
open PySem PySem.W PyProof.Rows
set_option maxRecDepth 100000 in
set_option maxHeartbeats 8000000 in
theorem PySem.Challenge.cw_doubthall_k01_a_row_holds : PySem.Challenge.rw_doubthall_k01_a_row.Holds := by
  w_on; o_law; k_head; (case hw => w_witness2)
  k_fill
  refine K01.walk (l := PySem.Challenge.rw_doubthall_k01_a_row) rfl rfl (fun w h Y => PySem.W.kIn_of Y) K01.law_true ?F
  case F =>
    intro w mg fa h KX G hmg
    refine' K01.all_mk KX G hmg ?a0 ?l0 ?c0 ?k0 ?a1 ?l1 ?c1 ?k1 ?a2 ?l2 ?c2 ?k2 ?a3 ?l3 ?c3 ?k3 ?a4 ?l4 ?c4 ?k4 ?a5 ?l5 ?c5 ?k5 ?a6 ?l6 ?c6 ?k6 ?a7 ?l7 ?c7 ?k7 ?a8 ?l8 ?c8 ?k8 ?a9 ?l9 ?c9 ?k9 ?a10 ?l10 ?c10 ?k10 ?t10 ?a11 ?l11 ?c11 ?k11 ?a12 ?l12 ?c12 ?k12 ?a13 ?l13 ?c13 ?k13 ?z_all ?z_isinstance ?z_len ?z_range ?z_set ?z_str ?z_tuple ?g_MOST_IN_BODY ?g_MOST_LETTERS ?g_NO_WORDS ?gl_NO_WORDS
    (case a0 => k_is)
    (case l0 => k_is)
    (case c0 => k_is)
    (case k0 => k_is)
    (case a1 => k_is)
    (case l1 => k_is)
    (case c1 => k_is)
    (case k1 => k_is)
    (case a2 => k_is)
    (case l2 => k_is)
    (case c2 => k_is)
    (case k2 => k_is)
    (case a3 => k_is)
    (case l3 => k_is)
    (case c3 => k_is)
    (case k3 => k_is)
    (case a4 => k_is)
    (case l4 => k_is)
    (case c4 => k_is)
    (case k4 => k_is)
    (case a5 => k_is)
    (case l5 => k_is)
    (case c5 => k_is)
    (case k5 => k_is)
    (case a6 => k_is)
    (case l6 => k_is)
    (case c6 => k_is)
    (case k6 => k_is)
    (case a7 => k_is)
    (case l7 => k_is)
    (case c7 => k_is)
    (case k7 => k_is)
    (case a8 => k_is)
    (case l8 => k_is)
    (case c8 => k_is)
    (case k8 => k_is)
    (case a9 => k_is)
    (case l9 => k_is)
    (case c9 => k_is)
    (case k9 => k_is)
    (case a10 => k_is)
    (case l10 => k_is)
    (case c10 => k_is)
    (case k10 => k_is)
    (case t10 => k_is)
    (case a11 => k_is)
    (case l11 => k_is)
    (case c11 => k_is)
    (case k11 => k_is)
    (case a12 => k_is)
    (case l12 => k_is)
    (case c12 => k_is)
    (case k12 => k_is)
    (case a13 => k_is)
    (case l13 => k_is)
    (case c13 => k_is)
    (case k13 => k_is)
    (case z_all => k_is)
    (case z_isinstance => k_is)
    (case z_len => k_is)
    (case z_range => k_is)
    (case z_set => k_is)
    (case z_str => k_is)
    (case z_tuple => k_is)
    (case g_MOST_IN_BODY => k_is)
    (case g_MOST_LETTERS => k_is)
    (case g_NO_WORDS => k_is)
    (case gl_NO_WORDS => k_is)
