import PyProof.Rows.All
import Wide.All
import OpenK.AllK
import Wide.FinOn
import PyProof.EqAt
import PyProof.EqKinds
import PyProof.TupleCall
import KE.BitLaws
import Open.SpecLaws
import KE.OsHead
import KE.OsGo
import PySem.Challenge.RW_bloodline_s01_answers
set_option Elab.async false
set_option linter.all false
set_option maxRecDepth 100000
set_option maxHeartbeats 2000000
/-! THE HAND LAYER, for ints, bools, texts, own classes, lists, tuples, dicts, comprehensions, walks over dicts, enumerate, zip, reversed, texts, calls, loops. Paste it whole ahead of your own text; what your proof does not reach may be deleted. -/
namespace L2
open PySem PySem.Spec PyProof.Rows

/-- a key: an int or a str -/
abbrev Key := Sum Int Str
def keyIs : Key → Value → Bool
  | .inl k, v => Value.isInt k v
  | .inr x, v => Value.isStrOf x v
def keyH (w : World) : Key → Int
  | .inl k => hashInt k
  | .inr x => hashStr w x
theorem keyIs_shape : ∀ {k : Key} {v : Value}, keyIs k v = true → (∃ i t, k = Sum.inl i ∧ v = Value.int i t) ∨ (∃ x t, k = Sum.inr x ∧ v = Value.str x t)
  | .inl i, v, h => by
    obtain ⟨t, e⟩ := Value.isInt_shape (k := i) (v := v) h
    exact .inl ⟨i, t, rfl, e⟩
  | .inr x, v, h => by
    obtain ⟨t, e⟩ := Value.isStrOf_shape (x := x) (v := v) h
    exact .inr ⟨x, t, rfl, e⟩
theorem keyIs_int (i : Int) (t : Tok) : keyIs (.inl i) (.int i t) = true := by simp [keyIs, Value.isInt]
theorem keyIs_str (x : Str) (t : Tok) : keyIs (.inr x) (.str x t) = true := by simp [keyIs, Value.isStrOf]
theorem key_ll (a b : Int) : decide ((Sum.inl a : Key) = Sum.inl b) = (a == b) := by
  by_cases e : a = b
  · subst e; simp
  · have h : ¬ (Sum.inl a : Key) = Sum.inl b := fun q => e (Sum.inl.inj q)
    rw [decide_eq_false h]
    exact (beq_eq_false_iff_ne.mpr e).symm
theorem key_rr (a b : Str) : decide ((Sum.inr a : Key) = Sum.inr b) = decide (a = b) := by
  by_cases e : a = b
  · subst e; simp
  · have h : ¬ (Sum.inr a : Key) = Sum.inr b := fun q => e (Sum.inr.inj q)
    rw [decide_eq_false h, decide_eq_false e]
theorem key_lr (a : Int) (b : Str) : decide ((Sum.inl a : Key) = Sum.inr b) = false := decide_eq_false (fun q => nomatch q)
theorem key_rl (a : Str) (b : Int) : decide ((Sum.inr a : Key) = Sum.inl b) = false := decide_eq_false (fun q => nomatch q)

def mixKind (prog : Program) (w : World) : PySem.KeyKind prog w Key where
  is := keyIs
  hash := keyH w
  inj := fun v a b ha hb => by
    rcases keyIs_shape ha with ⟨i, t, rfl, rfl⟩ | ⟨x, t, rfl, rfl⟩
    · rcases keyIs_shape hb with ⟨j, u, rfl, e⟩ | ⟨y, u, rfl, e⟩
      · injection e with e1 _; rw [e1]
      · exact nomatch e
    · rcases keyIs_shape hb with ⟨j, u, rfl, e⟩ | ⟨y, u, rfl, e⟩
      · exact nomatch e
      · injection e with e1 _; rw [e1]
  byValue := fun k v h => by
    rcases keyIs_shape h with ⟨i, t, rfl, rfl⟩ | ⟨x, t, rfl, rfl⟩ <;> rfl
  pyHash := fun hv h => by
    rcases keyIs_shape hv with ⟨i, t, rfl, rfl⟩ | ⟨x, t, rfl, rfl⟩
    · exact wpAny_pyHash_int h
    · exact wpAny_pyHash_str h
  eqBool := fun hu hv h => by
    rcases keyIs_shape hu with ⟨i, t, rfl, rfl⟩ | ⟨x, t, rfl, rfl⟩
    · rcases keyIs_shape hv with ⟨j, u, rfl, rfl⟩ | ⟨y, u, rfl, rfl⟩
      · rw [key_ll] at h; exact wpAny_eqBool_int h
      · rw [key_lr] at h; exact SeqAt.EqAt.int_str i t y u _ _ _ _ h
    · rcases keyIs_shape hv with ⟨j, u, rfl, rfl⟩ | ⟨y, u, rfl, rfl⟩
      · rw [key_rl] at h; exact SeqAt.EqAt.str_int x t j u _ _ _ _ h
      · rw [key_rr] at h; exact wpAny_eqBool_str h
  «strs» := fun k x t v h => by
    rcases keyIs_shape h with ⟨i, u, rfl, e⟩ | ⟨y, u, rfl, e⟩
    · exact nomatch e
    · injection e with e1 _
      subst e1
      cases v <;> rfl

theorem mixKind_int (prog : Program) (w : World) (i : Int) (t : Tok) : (mixKind prog w).is (.inl i) (.int i t) = true := keyIs_int i t
theorem mixKind_str (prog : Program) (w : World) (x : Str) (t : Tok) : (mixKind prog w).is (.inr x) (.str x t) = true := keyIs_str x t
end L2

namespace L2
open PySem PySem.Spec PyProof.Rows

/-- a value, without the heap -/
inductive V where
  | non | bl (b : Bool) | int (i : Int) | str (x : Str) | byt (b : Array UInt8) | flt (b : UInt64) | ref (a : Addr) | ty (n : String)
  deriving DecidableEq

def RelV : V → Value → Prop
  | .non, u => u = Value.none
  | .bl b, u => u = Value.bool b
  | .int i, u => ∃ t, u = Value.int i t
  | .str x, u => ∃ t, u = Value.str x t
  | .byt b, u => ∃ t, u = Value.bytes b t
  | .flt b, u => ∃ t, u = Value.float b t
  | .ref a, u => u = Value.ref a
  | .ty n, u => u = Value.type n

abbrev Vals : List V → List Value → Prop := Paired RelV
theorem Vals.length {xs : List V} {us : List Value} (r : Vals xs us) : xs.length = us.length := Paired.length r
theorem Vals.get : ∀ {xs : List V} {us : List Value} {i : Nat} {x : V}, Vals xs us → xs[i]? = some x → ∃ u, us[i]? = some u ∧ RelV x u
  | _, _, _, _, .nil, e => by simp at e
  | _, _, 0, _, .cons r _, e => by simp at e; subst e; exact ⟨_, rfl, r⟩
  | _, _, i + 1, x, .cons _ t, e => by
    obtain ⟨u, h1, h2⟩ := Vals.get (i := i) (x := x) t (by simpa using e)
    exact ⟨u, by simpa using h1, h2⟩
theorem Vals.set {x : V} {u : Value} (r : RelV x u) : ∀ {xs : List V} {us : List Value} (i : Nat), Vals xs us → Vals (xs.set i x) (us.set i u)
  | _, _, _, .nil => .nil
  | _, _, 0, .cons _ t => .cons r t
  | _, _, i + 1, .cons q t => .cons q (Vals.set r i t)
theorem Vals.append : ∀ {xs ys : List V} {us ws : List Value}, Vals xs us → Vals ys ws → Vals (xs ++ ys) (us ++ ws)
  | _, _, _, _, .nil, s => s
  | _, _, _, _, .cons r t, s => .cons r (Vals.append t s)
theorem Vals.take : ∀ {xs : List V} {us : List Value} (n : Nat), Vals xs us → Vals (xs.take n) (us.take n)
  | _, _, 0, _ => .nil
  | _, _, _ + 1, .nil => .nil
  | _, _, n + 1, .cons r t => .cons r (Vals.take n t)
theorem Vals.drop : ∀ {xs : List V} {us : List Value} (n : Nat), Vals xs us → Vals (xs.drop n) (us.drop n)
  | _, _, 0, r => r
  | _, _, _ + 1, .nil => .nil
  | _, _, n + 1, .cons _ t => Vals.drop n t

def RelO : Option V → Option Value → Prop
  | some v, some u => RelV v u
  | none, none => True
  | _, _ => False
def KV {κ : Type} : List (κ × V) → List (κ × Value) → Prop := Paired fun (p : κ × V) (q : κ × Value) => p.1 = q.1 ∧ RelV p.2 q.2

/-- a key of a dict (00_mix): an int or a text -/
def kV : Key → V
  | .inl i => .int i
  | .inr x => .str x

/-- what stands at a tracked address -/
inductive HO where
  /-- a list -/
  | lst (xs : List V)
  /-- a tuple (never changes) -/
  | tup (xs : List V)
  /-- a dict whose keys are ints and texts; one whose keys are tuples of ints and texts (the empty one is both) -/
  | dK (kvs : List (Key × V)) | dT (kvs : List (List Key × V))
  /-- a set of ints: its members, its size -/
  | set (S : Int → Bool) (n : Nat)
  /-- an instance of the class at C, its dict at dx, its attributes -/
  | ins (C dx : Addr) (fs : List (Str × V))
  /-- the dict of the instance at x -/
  | own (x : Addr)
  /-- the dict of an exception -/
  | xd (fs : List (Str × V))
  /-- a bound method, f of x -/
  | met (f x : Addr)
  /-- a range object lo, lo + 1, .. below hi -/
  | rng (lo hi : Int)
  /-- a thing that is known to the object (the script; a dict while a loop walks it): read, never written while it is so -/
  | frz (o : Obj) (u : HO)
  /-- a code object's table -/
  | tbl (ps : Array Value)
  /-- any other thing, by what is true of its one object (a def of one's own: SetO a S n := HO.ext fun h => ..) -/
  | ext (φ : Heap → Prop)

abbrev Hp := Addr → Option HO
def upd (H : Hp) (a : Addr) (o : HO) : Hp := fun b => if b = a then some o else H b
theorem upd_same {H : Hp} {a : Addr} {o : HO} : upd H a o a = some o := by unfold upd; rw [if_pos rfl]
theorem upd_ne {H : Hp} {a b : Addr} {o : HO} (h : b ≠ a) : upd H a o b = H b := by unfold upd; rw [if_neg h]
theorem upd_upd {H : Hp} {a : Addr} {o u : HO} : upd (upd H a o) a u = upd H a u := by
  funext b; unfold upd; split <;> rfl
theorem ne_of_none {H : Hp} {a b : Addr} {o : HO} (h : H a = some o) (h' : H b = none) : a ≠ b := by
  intro e; subst e; rw [h] at h'; cases h'

section
variable (P : Program) (w : World)
def ObjOk (H : Hp) (h : Heap) (a : Addr) : HO → Prop
  | .lst xs => xs.length ≤ sizeLine ∧ ∃ (its : List Value) (n : Nat), Vals xs its ∧ h.get? a = some { cls := .type "list", data := .seq its.toArray n }
  | .tup xs => xs.length ≤ sizeLine ∧ ∃ its : List Value, Vals xs its ∧ IsTup h a its.toArray
  | .dK kvs => kvs.length ≤ sizeLine ∧ (a == sysModules) = false ∧ ∃ vs, KV kvs vs ∧ h.DictOf (mixKind P w) a vs
  | .dT kvs => kvs.length ≤ sizeLine ∧ (a == sysModules) = false ∧ ∃ xs : List (List Key × Addr × Value),
      Paired (fun (p : List Key × V) (q : List Key × Addr × Value) => p.1 = q.1 ∧ H q.2.1 = some (.tup (p.1.map kV)) ∧ RelV p.2 q.2.2) kvs xs ∧
      ∃ o es ep, h.get? a = some o ∧ o.ExactDict ∧ o.data = .dict es ep ∧ es.toList = xs.map (entryOfKey (tupleKind (mixKind P w))) ∧ (xs.map (·.1)).Nodup
  | .set S n => h.SetOf (intKind P w) a S n
  | .ins C dx fs => H dx = some (.own a) ∧ fs.length ≤ 1000 ∧ dx ≠ a ∧ h.get? a = some (PySem.W.instObj C dx) ∧
      ∃ mA, h.Ns1 dx mA ∧ (∀ f, RelO (fs.lookup f) (mA f)) ∧ PySem.Within mA (fs.map (·.1))
  | .own _ => ∃ o, h.get? a = some o
  | .xd fs => ∃ mA, h.Ns1 a mA ∧ ∀ f, RelO (fs.lookup f) (mA f)
  | .rng lo hi => ∃ t u v, h.get? a = some { cls := .type "range", data := .fields #[.int lo t, .int hi u, .int 1 v] }
  | .frz o u => h.get? a = some o ∧ ObjOk H h a u
  | .tbl ps => h.get? a = some { cls := .none, data := .fields ps }
  | .met f x => h.get? a = some (PySem.W.methodObj (.ref f) (.ref x))
  | .ext φ => φ h ∧ (∃ o, h.get? a = some o) ∧ ∀ h1 h2 : Heap, φ h1 → (∀ o, h1.get? a = some o → h2.get? a = some o) → φ h2
/-- the abstract heap is held -/
def HOk (H : Hp) (h : Heap) : Prop := ∀ a o, H a = some o → ObjOk P w H h a o
end

section
variable {P : Program} {w : World} {H H' : Hp} {h h' : Heap} {a : Addr} {o : HO}
theorem ObjOk.lt (x : ObjOk P w H h a o) : a < h.objs.size := by
  cases o with
  | lst xs => obtain ⟨_, _, _, _, e⟩ := x; exact Heap.lt_size e
  | tup xs => obtain ⟨_, _, _, p⟩ := x; exact p.lt
  | dK kvs => obtain ⟨_, _, _, _, o, _, _, e, _⟩ := x; exact Heap.lt_size e
  | dT kvs => obtain ⟨_, _, _, _, o, _, _, e, _⟩ := x; exact Heap.lt_size e
  | set S n => obtain ⟨o, _, _, _, e, _⟩ := x; exact Heap.lt_size e
  | ins C dx fs => obtain ⟨_, _, _, e, _⟩ := x; exact Heap.lt_size e
  | own y => obtain ⟨_, e⟩ := x; exact Heap.lt_size e
  | xd fs => obtain ⟨_, ⟨_, _, _, e, _⟩, _⟩ := x; exact Heap.lt_size e
  | rng lo hi => obtain ⟨_, _, _, e⟩ := x; exact Heap.lt_size e
  | frz ob u => obtain ⟨e, _⟩ := x; exact Heap.lt_size e
  | tbl ps => exact Heap.lt_size (show h.get? a = some _ from x)
  | met f y => exact Heap.lt_size (show h.get? a = some _ from x)
  | ext φ => obtain ⟨_, ⟨_, e⟩, _⟩ := x; exact Heap.lt_size e
theorem Paired.mapP {α β : Type} {F G : α → β → Prop} : ∀ {l₁ : List α} {l₂ : List β}, Paired F l₁ l₂ → (∀ a b, F a b → G a b) → Paired G l₁ l₂
  | _, _, .nil, _ => .nil
  | _, _, .cons r t, f => .cons (f _ _ r) (Paired.mapP t f)
/-- what an object's description leans on: its own object, its own dict, the tuples -/
theorem ObjOk.stay (x : ObjOk P w H h a o) (k : ∀ b u, (b = a ∨ H b = some (.own a)) → h.get? b = some u → h'.get? b = some u)
    (ho : ∀ b, H b = some (.own a) → H' b = some (.own a)) (ht : ∀ b xs, H b = some (.tup xs) → H' b = some (.tup xs)) : ObjOk P w H' h' a o := by
  induction o with
  | lst xs => obtain ⟨z, its, n, r, e⟩ := x; exact ⟨z, its, n, r, k _ _ (.inl rfl) e⟩
  | tup xs => obtain ⟨z, its, r, ob, e, c⟩ := x; exact ⟨z, its, r, ob, k _ _ (.inl rfl) e, c⟩
  | dK kvs => obtain ⟨z, y, vs, r, ob, es, ep, e, c⟩ := x; exact ⟨z, y, vs, r, ob, es, ep, k _ _ (.inl rfl) e, c⟩
  | dT kvs =>
    obtain ⟨z, y, xs, r, ob, es, ep, e, c⟩ := x
    exact ⟨z, y, xs, Paired.mapP r fun p q z => ⟨z.1, ht _ _ z.2.1, z.2.2⟩, ob, es, ep, k _ _ (.inl rfl) e, c⟩
  | set S n => obtain ⟨ob, es, ep, t, e, c⟩ := x; exact ⟨ob, es, ep, t, k _ _ (.inl rfl) e, c⟩
  | ins C dx fs =>
    obtain ⟨d, z, ne, e, mA, ⟨od, es, ep, e2, c⟩, r⟩ := x
    exact ⟨ho _ d, z, ne, k _ _ (.inl rfl) e, mA, ⟨od, es, ep, k _ _ (.inr d) e2, c⟩, r⟩
  | own y => obtain ⟨ob, e⟩ := x; exact ⟨ob, k _ _ (.inl rfl) e⟩
  | xd fs => obtain ⟨mA, ⟨od, es, ep, e, c⟩, r⟩ := x; exact ⟨mA, ⟨od, es, ep, k _ _ (.inl rfl) e, c⟩, r⟩
  | rng lo hi => obtain ⟨t, u, v, e⟩ := x; exact ⟨t, u, v, k _ _ (.inl rfl) e⟩
  | frz ob u ih => obtain ⟨e, q⟩ := x; exact ⟨k _ _ (.inl rfl) e, ih q⟩
  | tbl ps =>
    have e : h.get? a = some { cls := .none, data := .fields ps } := x
    show h'.get? a = some { cls := .none, data := .fields ps }
    exact k a _ (.inl rfl) e
  | met f y =>
    have e : h.get? a = some (PySem.W.methodObj (.ref f) (.ref y)) := x
    show h'.get? a = some (PySem.W.methodObj (.ref f) (.ref y))
    exact k a _ (.inl rfl) e
  | ext φ => obtain ⟨p, ⟨o, e⟩, st⟩ := x; exact ⟨st _ _ p fun o q => k _ _ (.inl rfl) q, ⟨o, k _ _ (.inl rfl) e⟩, st⟩
theorem HOk.lt (x : HOk P w H h) (e : H a = some o) : a < h.objs.size := (x a o e).lt
theorem HOk.fresh (x : HOk P w H h) (e : h.objs.size ≤ a) : H a = none := by
  cases q : H a with
  | none => rfl
  | some u => exact absurd (Nat.lt_of_lt_of_le (x.lt q) e) (Nat.lt_irrefl _)
/-- every object of the heap is kept -/
theorem HOk.kept (x : HOk P w H h) (k : ∀ b u, h.get? b = some u → h'.get? b = some u) : HOk P w H h' := fun a o e =>
  (x a o e).stay (fun b u _ q => k b u q) (fun _ q => q) fun _ _ q => q
/-- a new object is laid and tracked -/
theorem HOk.laid (x : HOk P w H h) (k : ∀ b u, h.get? b = some u → h'.get? b = some u) (hp : h.objs.size ≤ a) (new : ObjOk P w (upd H a o) h' a o) : HOk P w (upd H a o) h' := fun b u e => by
  have hn := x.fresh hp
  by_cases hb : b = a
  · subst hb; rw [upd_same] at e; cases e; exact new
  · rw [upd_ne hb] at e
    exact (x b u e).stay (fun c v _ q => k c v q) (fun c q => by rw [upd_ne (ne_of_none q hn)]; exact q) fun c xs q => by rw [upd_ne (ne_of_none q hn)]; exact q
end

/-- what may be read as u: it is u, or a known u -/
def Rd (H : Hp) (a : Addr) (u : HO) : Prop := H a = some u ∨ ∃ o, H a = some (.frz o u)
theorem Rd.ok {P : Program} {w : World} {H : Hp} {h : Heap} {a : Addr} {u : HO} (r : Rd H a u) (x : HOk P w H h) : ObjOk P w H h a u := by
  rcases r with r | ⟨o, r⟩
  · exact x a u r
  · obtain ⟨_, q⟩ := x a _ r
    exact q
/-- what may be written -/
def Mut : Option HO → Prop
  | some (.lst _) => True
  | some (.dK _) => True
  | some (.dT _) => True
  | some (.set _ _) => True
  | some (.ins _ _ _) => True
  | some (.ext _) => True
  | _ => False
section
variable {P : Program} {w : World} {H : Hp} {h h' : Heap} {x e : Addr} {o' : HO}
/-- the object at e is changed: x itself, or the dict of the instance x -/
theorem HOk.write (ok : HOk P w H h) (mu : Mut (H x)) (he : e = x ∨ H e = some (.own x)) (k : ∀ b u, b ≠ e → h.get? b = some u → h'.get? b = some u) (heo : ∃ u, h'.get? e = some u)
    (new : ObjOk P w (upd H x o') h' x o') : HOk P w (upd H x o') h' := fun b u q => by
  have nown : ∀ c y, H c = some (.own y) → c ≠ x := fun c y r z => by subst z; rw [r] at mu; exact mu
  have ntup : ∀ c xs, H c = some (.tup xs) → c ≠ x := fun c xs r z => by subst z; rw [r] at mu; exact mu
  by_cases hb : b = x
  · subst hb; rw [upd_same] at q; cases q; exact new
  · rw [upd_ne hb] at q
    by_cases hbe : b = e
    · have q' : H b = some (.own x) := by
        rcases he with z | z
        · exact absurd (hbe.trans z) hb
        · rw [hbe]; exact z
      rw [q] at q'; cases q'
      obtain ⟨v, hv⟩ := heo
      exact ⟨v, by rw [hbe]; exact hv⟩
    · refine (ok b u q).stay (fun c v hc r => k c v ?_ r) (fun c r => by rw [upd_ne (nown c b r)]; exact r) fun c xs r => by rw [upd_ne (ntup c xs r)]; exact r
      rcases hc with rfl | hc
      · exact hbe
      · rintro rfl
        rcases he with z | z
        · exact nown c b hc z
        · rw [hc] at z; cases z; exact hb rfl
end

/-! ### kept unless tracked; of the frames at fs (the callers') the slots may change (an exception that passes writes there); of the records at ex (iterators) nothing is said -/
structure Un (fs ex : List Addr) (H H' : Hp) (h h' : Heap) : Prop where
  keep : ∀ b o, h.get? b = some o → H b = none → b ∉ fs → b ∉ ex → h'.get? b = some o
  slot : ∀ b o, h.get? b = some o → H b = none → b ∈ fs → b ∉ ex → ∃ sl, h'.get? b = some { o with slots := sl }
  free : ∀ b o, h.get? b = some o → H b = none → b ∉ ex → H' b = none
  there : ∀ b o, h.get? b = some o → b ∉ ex → ∃ o', h'.get? b = some o'
  tups : ∀ b xs, H b = some (.tup xs) → H' b = some (.tup xs)
  frzs : ∀ b o u, H b = some (.frz o u) → H' b = some (.frz o u)
  tbls : ∀ b ps, H b = some (.tbl ps) → ∃ more, H' b = some (.tbl (ps ++ more))
section
variable {fs fs' ex ex' : List Addr} {H H1 H2 : Hp} {h h1 h2 h' : Heap} {a x e : Addr} {o : HO}
theorem Un.any (u : Un fs ex H H1 h h1) {b : Addr} {ob : Obj} (q : h.get? b = some ob) (n : H b = none) (hx : b ∉ ex) : ∃ sl, h1.get? b = some { ob with slots := sl } := by
  by_cases hb : b ∈ fs
  · exact u.slot b ob q n hb hx
  · exact ⟨ob.slots, u.keep b ob q n hb hx⟩
theorem Un.kept (k : ∀ b u, h.get? b = some u → h'.get? b = some u) : Un fs ex H H h h' :=
  ⟨fun b ob q _ _ _ => k b ob q, fun b ob q _ _ _ => ⟨ob.slots, k b ob q⟩, fun _ _ _ n _ => n, fun b ob q _ => ⟨ob, k b ob q⟩, fun _ _ q => q, fun _ _ _ q => q, fun _ ps q => ⟨#[], by rw [q]; simp⟩⟩
theorem Un.refl : Un fs ex H H h h := Un.kept fun _ _ q => q
theorem Un.laid (k : ∀ b u, h.get? b = some u → h'.get? b = some u) (hp : h.objs.size ≤ a) (hn : H a = none) : Un fs ex H (upd H a o) h h' where
  keep := fun b u q _ _ _ => k b u q
  slot := fun b u q _ _ _ => ⟨u.slots, k b u q⟩
  free := fun b u q n _ => by rw [upd_ne (Nat.ne_of_lt (Nat.lt_of_lt_of_le (Heap.lt_size q) hp))]; exact n
  there := fun b u q _ => ⟨u, k b u q⟩
  tups := fun b xs q => by rw [upd_ne (ne_of_none q hn)]; exact q
  frzs := fun b u xs q => by rw [upd_ne (ne_of_none q hn)]; exact q
  tbls := fun b ps q => ⟨#[], by rw [upd_ne (ne_of_none q hn), q]; simp⟩
theorem Un.write (mu : Mut (H x)) (he : e = x ∨ H e = some (.own x)) (k : ∀ b u, b ≠ e → h.get? b = some u → h'.get? b = some u) (heo : ∃ u, h'.get? e = some u) : Un fs ex H (upd H x o) h h' := by
  have hx : ∀ b, H b = none → b ≠ x := fun b n z => by subst z; rw [n] at mu; exact mu
  have hb : ∀ b, H b = none → b ≠ e := fun b n z => by
    subst z
    rcases he with r | r
    · exact hx b n r
    · rw [n] at r; cases r
  have hm : ∀ b u, H b = some u → ¬ Mut (some u) → b ≠ x := fun b u q nm z => by subst z; rw [q] at mu; exact nm mu
  refine ⟨fun b u q n _ _ => k b u (hb b n) q, fun b u q n _ _ => ⟨u.slots, k b u (hb b n) q⟩, fun b u q n _ => by rw [upd_ne (hx b n)]; exact n, fun b u q _ => ?_,
    fun b xs q => by rw [upd_ne (hm b _ q fun z => z)]; exact q, fun b u xs q => by rw [upd_ne (hm b _ q fun z => z)]; exact q, fun b ps q => ⟨#[], by rw [upd_ne (hm b _ q fun z => z), q]; simp⟩⟩
  by_cases hbe : b = e
  · subst hbe; exact heo
  · exact ⟨u, k b u hbe q⟩
end

/-! ### the heap without what is tracked -/
def trk (h : Heap) (H : Hp) : List Addr := (List.range h.objs.size).filter fun a => (H a).isSome
def hidT (h : Heap) (H : Hp) : Heap := PySem.W.hideAll h (trk h H)
theorem hidT_size (h : Heap) (H : Hp) : (hidT h H).objs.size = h.objs.size := PySem.W.hideAll_size _ _
theorem hidT_get {h : Heap} {H : Hp} {b : Addr} {o : Obj} (e : h.get? b = some o) (n : H b = none) : (hidT h H).get? b = some o :=
  PySem.W.hideAll_get _ e fun hm => by
    have q : (H b).isSome = true := (List.mem_filter.mp hm).2
    rw [n] at q; simp at q
theorem of_hidT {h : Heap} {H : Hp} {b : Addr} {o : Obj} (e : (hidT h H).get? b = some o) : h.get? b = some o ∧ H b = none := by
  have e' : h.get? b = some o := PySem.W.of_hideAll (trk h H) e
  refine ⟨e', ?_⟩
  cases q : H b with
  | none => rfl
  | some x =>
    have hm : b ∈ trk h H := List.mem_filter.mpr ⟨List.mem_range.mpr (Heap.lt_size e'), by simp [q]⟩
    have z : (hidT h H).get? b = none := PySem.W.hideAll_none (trk h H) hm
    rw [z] at e; cases e

/-! ### OpenK's ledger, filled with every new object but one -/
end L2

namespace L2
open PySem PySem.Spec PyProof.Rows

/-- the module's facts, over the base: the heap at the law's entry without what is tracked there -/
structure Mod (K : PySem.W.Frag) (mg : Str → Option Value) (base : Heap) : Prop where
  kin : K.In base
  glob : base.Ns mainGlobals mg
  blt : ∃ mb, base.Ns builtinsNs mb ∧ ∀ x : Str, x ≠ "__name__" → mb x = bootBuiltins x
  nolimit : base.NoLimit

/-- the context: a def's body (or a comprehension's block) running. base: fixed through the whole law; s₀, H₀: the entry; outer: the frames whose slots others may change (a def's callers); stack: all frames that run;
   ex: iterators that were made ahead of the entry and are walked here (a comprehension's); fn: the names whose cells were made at the entry (a def: all; a comprehension's block: its own); calm: not within an except suite; pn: pins that every state bears; xe: what is wanted of an exception that leaves the code -/
structure Cx where
  prog : Program
  w : World
  K : PySem.W.Frag
  mg : Str → Option Value
  base : Heap
  A : Around
  N : List Str
  s_0 : Shared
  H_0 : Hp
  env : Env
  outer : List Env
  stack : List Env
  ex : List Addr
  fn : Str → Bool
  calm : Bool
  pn : List (Addr × Obj)
  xe : Value → Shared → Prop
/-- the callers' frames -/
def frs (l : List Env) : List Addr := l.filterMap (·.frame)
abbrev Cx.fs (X : Cx) : List Addr := frs X.outer

def Vis (sc : Scope) (x : Str) : Prop := sc.names.lookup x = some .local ∨ sc.names.lookup x = some .cell ∨ sc.names.lookup x = some .free
def Loc (sc : Scope) (x : Str) : Prop := sc.names.lookup x = some .local ∨ sc.names.lookup x = some .cell
def Look (env : Env) (h : Heap) (m : Str → Option Value) (x : Str) (u : Value) : Prop :=
  (env.kindOf x = some .local ∧ m x = some u) ∨ ((env.kindOf x = some .cell ∨ env.kindOf x = some .free) ∧ ∃ c, env.cells.lookup x = some c ∧ h.IsCell c (some u))

structure Cx.Ok (X : Cx) : Prop where
  mod : Mod X.K X.mg X.base
  kind : X.env.scope.kind = .function
  glob : X.env.globals = mainGlobals
  blt : X.env.builtins = builtinsNs
  above : X.s_0.heap.objs.size ≤ X.env.locals
  inj : ∀ x y c, X.env.cells.lookup x = some c → X.env.cells.lookup y = some c → x = y
  has : ∀ x, (X.env.kindOf x = some .cell ∨ X.env.kindOf x = some .free) → ∃ c, X.env.cells.lookup x = some c
  cab : ∀ x c, X.fn x = true → X.env.cells.lookup x = some c → X.s_0.heap.objs.size ≤ c
  hd : X.calm = true → X.A.handled = none
  frames : X.A.frames = some X.stack
  stk : X.stack = X.outer ∨ (X.stack = X.env :: X.outer ∧ X.env.frame = some X.env.locals)
  exf : ∀ b ∈ X.ex, b ≠ X.env.locals ∧ ∀ x c, X.env.cells.lookup x = some c → c ≠ b
  bs : ∀ b o, X.base.get? b = some o → X.s_0.heap.get? b = some o ∧ X.H_0 b = none
  bsz : X.base.objs.size ≤ X.s_0.heap.objs.size
  noex : ∀ b o, X.base.get? b = some o → b ∉ X.ex
  exfs : ∀ b ∈ X.ex, b ∉ X.fs
  funs : X.s_0.heap.FunFrames X.base X.outer
  frf : ∀ b ∈ X.fs, X.H_0 b = none

structure Inv (X : Cx) (pins : List (Addr × Obj)) (σ : List (Option V)) (H : Hp) (s : Shared) : Prop where
  ok : X.Ok
  os : s.os = X.s_0.os
  bare : AllBare s.gens
  base : Un X.fs X.ex X.H_0 H X.s_0.heap s.heap
  loc : ∃ m, s.heap.Ns X.env.locals m ∧ ∀ (i : Nat) (x : Str) (v : V), X.N[i]? = some x → σ[i]? = some (some v) → Vis X.env.scope x → ∃ u, RelV v u ∧ Look X.env s.heap m x u
  cell : ∀ x c, X.env.cells.lookup x = some c → ∃ v, s.heap.IsCell c v
  free : H X.env.locals = none
  freeC : ∀ x c, X.env.cells.lookup x = some c → H c = none
  pin : ∀ p ∈ X.pn ++ pins, s.heap.get? p.1 = some p.2 ∧ H p.1 = none ∧ p.1 ≠ X.env.locals ∧ p.1 ∉ X.fs ∧ ∀ v, p.2.data ≠ .cell v
  hok : HOk X.prog X.w H s.heap
  len : σ.length = X.N.length

section
variable {X : Cx} {pins : List (Addr × Obj)} {σ : List (Option V)} {H H' : Hp} {s : Shared} {h' : Heap}

theorem Cx.Ok.nofr (ok : X.Ok) {b : Addr} {o : Obj} (e : X.base.get? b = some o) : b ∉ X.fs := fun hb => by
  have := (ok.funs.mem hb).1
  rw [e] at this; cases this
theorem Inv.bs (I : Inv X pins σ H s) : ∀ b o, X.base.get? b = some o → s.heap.get? b = some o ∧ H b = none := fun b o e =>
  ⟨I.base.keep b o (I.ok.bs b o e).1 (I.ok.bs b o e).2 (I.ok.nofr e) (I.ok.noex b o e), I.base.free b o (I.ok.bs b o e).1 (I.ok.bs b o e).2 (I.ok.noex b o e)⟩
theorem Inv.bk (I : Inv X pins σ H s) : ∀ b o, X.base.get? b = some o → s.heap.get? b = some o := fun b o e => (I.bs b o e).1
theorem Inv.mod (I : Inv X pins σ H s) : Mod X.K X.mg X.base := I.ok.mod
theorem Inv.kIn (I : Inv X pins σ H s) : X.K.In s.heap := I.ok.mod.kin.keeps I.bk
theorem Inv.lt (I : Inv X pins σ H s) : X.env.locals < s.heap.objs.size := let ⟨_, hn, _⟩ := I.loc; hn.lt
theorem Inv.sz (I : Inv X pins σ H s) : X.s_0.heap.objs.size ≤ s.heap.objs.size := Nat.le_trans I.ok.above (Nat.le_of_lt I.lt)
theorem Inv.nofs (I : Inv X pins σ H s) {a : Addr} (h : s.heap.objs.size ≤ a) : a ∉ X.fs := fun hb => by
  obtain ⟨_, o, ho, _⟩ := I.ok.funs.mem hb
  exact absurd (Nat.lt_of_lt_of_le (Heap.lt_size ho) (Nat.le_trans I.sz h)) (Nat.lt_irrefl _)
theorem Inv.cne (I : Inv X pins σ H s) : ∀ x c, X.env.cells.lookup x = some c → c ≠ X.env.locals := fun x c e z => by
  obtain ⟨v, o, ho, hd⟩ := I.cell x c e
  obtain ⟨m, ⟨o', es, ep, ho', hd', _⟩, _⟩ := I.loc
  rw [z, ho'] at ho; cases ho; rw [hd'] at hd; cases hd
theorem Inv.funs (I : Inv X pins σ H s) : s.heap.FunFrames X.base X.outer := by
  have all : ∀ (l : List Env), (∀ b ∈ frs l, b ∈ X.fs) → X.s_0.heap.FunFrames X.base l → s.heap.FunFrames X.base l := by
    intro l
    induction l with
    | nil => intro _ _; trivial
    | cons env r ih =>
      intro hs hl
      obtain ⟨hk, ⟨L, o, hf, hn, ho, hd⟩, hr⟩ := hl
      have hL : L ∈ X.fs := hs L (by unfold frs; rw [List.filterMap_cons, hf]; exact List.mem_cons_self)
      obtain ⟨sl, e⟩ := I.base.slot L o ho (I.ok.frf L hL) hL fun z => I.ok.exfs L z hL
      exact ⟨hk, ⟨L, _, hf, hn, e, hd⟩, ih (fun b hb => hs b (by unfold frs; rw [List.filterMap_cons, hf]; exact List.mem_cons_of_mem _ hb)) hr⟩
  exact all X.outer (fun _ hb => hb) I.ok.funs

/-- the frames that run, for a call -/
theorem Inv.stack (I : Inv X pins σ H s) : s.heap.FunFrames X.base X.stack := by
  rcases I.ok.stk with e | ⟨e, hf⟩
  · rw [e]; exact I.funs
  · rw [e]
    obtain ⟨m, hn, _⟩ := I.loc
    refine .cons (by rw [I.ok.kind]; decide) hf hn ?_ I.funs
    exact Heap.get?_none_of_le (Nat.le_trans I.ok.bsz I.ok.above)
theorem Inv.stkSub (I : Inv X pins σ H s) : ∀ b ∈ frs X.stack, b ∈ X.env.locals :: X.fs := fun b hb => by
  rcases I.ok.stk with e | ⟨e, hf⟩
  · rw [e] at hb; exact List.mem_cons_of_mem _ hb
  · rw [e] at hb
    unfold frs at hb
    rw [List.filterMap_cons, hf] at hb
    exact hb
theorem Inv.stkFree (I : Inv X pins σ H s) : ∀ b ∈ frs X.stack, H b = none := fun b hb => by
  rcases List.mem_cons.mp (I.stkSub b hb) with e | hb
  · rw [e]; exact I.free
  · obtain ⟨_, o, ho, _⟩ := I.ok.funs.mem hb
    exact I.base.free b o ho (I.ok.frf b hb) fun z => I.ok.exfs b z hb

/-- THE STEP: the untracked objects but the frame and the records at ch are kept (the callers' frames up to slots), the frame's map is kept, the new abstract heap is held -/
theorem Inv.step {g' : Array GenState} {t' : Nat} {d' : Drawn} {ch : List Addr} (I : Inv X pins σ H s)
    (hch : ∀ b ∈ ch, (b ∈ X.ex ∨ X.s_0.heap.objs.size ≤ b) ∧ b ≠ X.env.locals ∧ (∀ x c, X.env.cells.lookup x = some c → c ≠ b) ∧ ∀ p ∈ X.pn ++ pins, p.1 ≠ b)
    (keep : ∀ b o, b ≠ X.env.locals → b ∉ X.fs → b ∉ ch → s.heap.get? b = some o → H b = none → h'.get? b = some o)
    (slot : ∀ b o, b ≠ X.env.locals → b ∈ X.fs → b ∉ ch → s.heap.get? b = some o → H b = none → ∃ sl, h'.get? b = some { o with slots := sl }) (free : ∀ b o, b ∉ ch → s.heap.get? b = some o → H b = none → H' b = none)
    (there : ∀ b o, b ∉ ch → s.heap.get? b = some o → ∃ o', h'.get? b = some o')
    (tups : ∀ b xs, H b = some (.tup xs) → H' b = some (.tup xs)) (frzs : ∀ b o u, H b = some (.frz o u) → H' b = some (.frz o u)) (tbls : ∀ b ps, H b = some (.tbl ps) → ∃ more, H' b = some (.tbl (ps ++ more)))
    (ns : ∀ m, s.heap.Ns X.env.locals m → h'.Ns X.env.locals m) (hok : HOk X.prog X.w H' h') (hg : AllBare g') :
    Inv X pins σ H' { s with heap := h', gens := g', drawn := d', toks := t' } := by
  have neL : ∀ b o, X.s_0.heap.get? b = some o → b ≠ X.env.locals := fun b o e => Nat.ne_of_lt (Nat.lt_of_lt_of_le (Heap.lt_size e) I.ok.above)
  have neC : ∀ b o, X.s_0.heap.get? b = some o → b ∉ X.ex → b ∉ ch := fun b o e hx hb => by
    rcases (hch b hb).1 with z | z
    · exact hx z
    · exact absurd (Nat.lt_of_lt_of_le (Heap.lt_size e) z) (Nat.lt_irrefl _)
  have cellK : ∀ x c, X.env.cells.lookup x = some c → ∀ v, s.heap.IsCell c v → h'.IsCell c v := fun x c e v ⟨o, ho, hd⟩ => by
    have nch : c ∉ ch := fun z => (hch c z).2.2.1 x c e rfl
    by_cases hc : c ∈ X.fs
    · obtain ⟨sl, q⟩ := slot c o (I.cne x c e) hc nch ho (I.freeC x c e)
      exact ⟨_, q, hd⟩
    · exact ⟨o, keep c o (I.cne x c e) hc nch ho (I.freeC x c e), hd⟩
  refine ⟨I.ok, I.os, hg, ⟨fun b o e n hb hx => ?_, fun b o e n hb hx => ?_, fun b o e n hx => ?_, fun b o e hx => ?_, fun b xs e => tups b xs (I.base.tups b xs e), fun b o xs e => frzs b o xs (I.base.frzs b o xs e), fun b ps e => ?_⟩, ?_, fun x c e => ?_, ?_, fun x c e => ?_, fun p hp => ?_, hok, I.len⟩
  · exact keep b o (neL b o e) hb (neC b o e hx) (I.base.keep b o e n hb hx) (I.base.free b o e n hx)
  · obtain ⟨sl, e1⟩ := I.base.slot b o e n hb hx
    obtain ⟨sl', e2⟩ := slot b _ (neL b o e) hb (neC b o e hx) e1 (I.base.free b o e n hx)
    exact ⟨sl', e2⟩
  · obtain ⟨o', e1⟩ := I.base.there b o e hx
    exact free b o' (neC b o e hx) e1 (I.base.free b o e n hx)
  · obtain ⟨o', e1⟩ := I.base.there b o e hx
    exact there b o' (neC b o e hx) e1
  · obtain ⟨m1, e1⟩ := I.base.tbls b ps e
    obtain ⟨m2, e2⟩ := tbls b _ e1
    exact ⟨m1 ++ m2, by rw [e2, Array.append_assoc]⟩
  · obtain ⟨m, hn, hl⟩ := I.loc
    refine ⟨m, ns m hn, fun i x v e1 e2 e3 => ?_⟩
    obtain ⟨u, r, l⟩ := hl i x v e1 e2 e3
    refine ⟨u, r, ?_⟩
    rcases l with l | ⟨k, c, e, z⟩
    · exact .inl l
    · exact .inr ⟨k, c, e, cellK x c e _ z⟩
  · obtain ⟨v, z⟩ := I.cell x c e
    exact ⟨v, cellK x c e v z⟩
  · obtain ⟨m, ⟨o, _, _, ho, _⟩, _⟩ := I.loc
    exact free _ o (fun z => (hch _ z).2.1 rfl) ho I.free
  · obtain ⟨v, o, ho, hd⟩ := I.cell x c e
    exact free c o (fun z => (hch c z).2.2.1 x c e rfl) ho (I.freeC x c e)
  · obtain ⟨e, n, ne, nf, d⟩ := I.pin p hp
    have nch : p.1 ∉ ch := fun z => (hch p.1 z).2.2.2 p hp rfl
    exact ⟨keep p.1 p.2 ne nf nch e n, free p.1 p.2 nch e n, ne, nf, d⟩
/-- .. where the frame's own object is kept too -/
theorem Inv.un {t' : Nat} (I : Inv X pins σ H s) (u : Un X.fs [] H H' s.heap h') (hok : HOk X.prog X.w H' h') : Inv X pins σ H' { s with heap := h', toks := t' } := by
  obtain ⟨m, ⟨o, es, ep, ho, r⟩, _⟩ := id I.loc
  obtain ⟨sl, hL⟩ := u.any ho I.free (by simp)
  exact I.step (g' := s.gens) (d' := s.drawn) (ch := []) (fun _ z => nomatch z) (fun b o _ hb _ e n => u.keep b o e n hb (by simp)) (fun b o _ hb _ e n => u.slot b o e n hb (by simp)) (fun b o _ e n => u.free b o e n (by simp)) (fun b o _ e => u.there b o e (by simp)) u.tups u.frzs u.tbls (fun m' hm => by
    obtain ⟨o', es', ep', ho', r'⟩ := hm
    rw [ho] at ho'; cases ho'
    exact ⟨_, es', ep', hL, r'⟩) hok I.bare
/-- behind a call (or a comprehension's block): the slots of this frame may have changed too, the records at ch may have turned -/
theorem Inv.call {g' : Array GenState} {t' : Nat} {d' : Drawn} {ch : List Addr} (I : Inv X pins σ H s) (u : Un (frs X.stack) ch H H' s.heap h') (hok : HOk X.prog X.w H' h') (hg : AllBare g')
    (hch : ∀ b ∈ ch, (b ∈ X.ex ∨ X.s_0.heap.objs.size ≤ b) ∧ b ≠ X.env.locals ∧ (∀ x c, X.env.cells.lookup x = some c → c ≠ b) ∧ ∀ p ∈ X.pn ++ pins, p.1 ≠ b) :
    Inv X pins σ H' { s with heap := h', gens := g', drawn := d', toks := t' } := by
  obtain ⟨m, ⟨o, es, ep, ho, r⟩, _⟩ := id I.loc
  obtain ⟨sl, hL⟩ := u.any ho I.free fun z => (hch _ z).2.1 rfl
  exact I.step (ch := ch) hch (fun b o hL hb hc e n => u.keep b o e n (fun z => (List.mem_cons.mp (I.stkSub b z)).elim hL hb) hc) (fun b o _ _ hc e n => u.any e n hc) (fun b o hc e n => u.free b o e n hc) (fun b o hc e => u.there b o e hc) u.tups u.frzs u.tbls (fun m' hm => by
    obtain ⟨o', es', ep', ho', r'⟩ := hm
    rw [ho] at ho'; cases ho'
    exact ⟨_, es', ep', hL, r'⟩) hok hg
/-- an untracked record of ours (an iterator) has turned -/
theorem Inv.turned {t' : Nat} {it : Addr} (I : Inv X pins σ H s) (k : ∀ b o, b ≠ it → s.heap.get? b = some o → h'.get? b = some o) (hn : H it = none) (hL : it ≠ X.env.locals)
    (h1 : it ∈ X.ex ∨ X.s_0.heap.objs.size ≤ it) (h2 : ∀ x c, X.env.cells.lookup x = some c → c ≠ it) (h3 : ∀ p ∈ X.pn ++ pins, p.1 ≠ it) : Inv X pins σ H { s with heap := h', toks := t' } := by
  have nit : ∀ b u, H b = some u → b ≠ it := fun b u e z => by rw [z, hn] at e; cases e
  refine I.step (g' := s.gens) (d' := s.drawn) (ch := [it]) (fun b hb => ?_) (fun b o _ _ hc e _ => k b o (fun z => hc (by simp [z])) e) (fun b o _ _ hc e _ => ⟨o.slots, k b o (fun z => hc (by simp [z])) e⟩) (fun _ _ _ _ n => n)
    (fun b o hc e => ⟨o, k b o (fun z => hc (by simp [z])) e⟩) (fun _ _ e => e) (fun _ _ _ e => e) (fun b ps e => ⟨#[], by rw [e]; simp⟩) (fun m hm => ?_) (fun b u e => ?_) I.bare
  · have e : b = it := by simpa using hb
    subst e
    exact ⟨h1, hL, h2, h3⟩
  · obtain ⟨o, es, ep, ho, r⟩ := hm
    exact ⟨o, es, ep, k _ o (Ne.symm hL) ho, r⟩
  · refine (I.hok b u e).stay (fun c v hc q => k c v ?_ q) (fun _ q => q) fun _ _ q => q
    rcases hc with z | z
    · rw [z]; exact nit b u e
    · exact nit c _ z
theorem Inv.tok (I : Inv X pins σ H s) (t : Nat) : Inv X pins σ H { s with toks := t } := I.un (h' := s.heap) (t' := t) Un.refl I.hok
/-- all objects kept -/
theorem Inv.kept {t' : Nat} (I : Inv X pins σ H s) (k : ∀ b u, s.heap.get? b = some u → h'.get? b = some u) : Inv X pins σ H { s with heap := h', toks := t' } := I.un (Un.kept k) (I.hok.kept k)
/-- a new object laid and tracked -/
theorem Inv.laid {a : Addr} {o : HO} {t' : Nat} (I : Inv X pins σ H s) (k : ∀ b u, s.heap.get? b = some u → h'.get? b = some u) (hp : s.heap.objs.size ≤ a) (new : ObjOk X.prog X.w (upd H a o) h' a o) :
    Inv X pins σ (upd H a o) { s with heap := h', toks := t' } := I.un (Un.laid k hp (I.hok.fresh hp)) (I.hok.laid k hp new)
/-- an object written -/
theorem Inv.write {x e : Addr} {o : HO} {t' : Nat} (I : Inv X pins σ H s) (mu : Mut (H x)) (he : e = x ∨ H e = some (.own x)) (k : ∀ b u, b ≠ e → s.heap.get? b = some u → h'.get? b = some u) (heo : ∃ u, h'.get? e = some u)
    (new : ObjOk X.prog X.w (upd H x o) h' x o) : Inv X pins σ (upd H x o) { s with heap := h', toks := t' } := I.un (Un.write mu he k heo) (I.hok.write mu he k heo new)
/-- forgetting slots, pins -/
theorem Inv.weak {σ' : List (Option V)} (I : Inv X pins σ H s) (hl : σ'.length = σ.length) (w : ∀ (i : Nat) v, σ'[i]? = some (some v) → σ[i]? = some (some v)) : Inv X pins σ' H s :=
  ⟨I.ok, I.os, I.bare, I.base, let ⟨m, hn, hl'⟩ := I.loc; ⟨m, hn, fun i x v e1 e2 e3 => hl' i x v e1 (w i v e2) e3⟩, I.cell, I.free, I.freeC, I.pin, I.hok, hl.trans I.len⟩
theorem Inv.pins_of {pins' : List (Addr × Obj)} (I : Inv X pins σ H s) (h : ∀ p ∈ pins', s.heap.get? p.1 = some p.2 ∧ H p.1 = none ∧ p.1 ≠ X.env.locals ∧ p.1 ∉ X.fs ∧ ∀ v, p.2.data ≠ .cell v) : Inv X pins' σ H s :=
  ⟨I.ok, I.os, I.bare, I.base, I.loc, I.cell, I.free, I.freeC, fun p hp => (List.mem_append.mp hp).elim (fun z => I.pin p (List.mem_append_left _ z)) (h p), I.hok, I.len⟩

theorem nodup_ix {N : List Str} (hN : N.Nodup) {i j : Nat} {x : Str} (a : N[i]? = some x) (b : N[j]? = some x) : i = j := by
  obtain ⟨h1, e1⟩ := List.getElem?_eq_some_iff.mp a
  obtain ⟨h2, e2⟩ := List.getElem?_eq_some_iff.mp b
  exact (List.getElem_inj hN).mp (e1.trans e2.symm)

/-- a name is stored; what changed -/
theorem store_ok2 {M : Model} {A : Around} {E : Value → Shared → Prop} {i : Nat} {x : Str} {v : V} {u : Value} {Q : Unit → Shared → Prop} (I : Inv X pins σ H s) (hN : X.N.Nodup) (hi : X.N[i]? = some x) (hx : Loc X.env.scope x) (r : RelV v u)
    (h : ∀ s', Inv X pins (σ.set i (some v)) H s' → (∃ a, Heap.SameBut a s.heap s'.heap ∧ (a = X.env.locals ∨ X.env.cells.lookup x = some a)) → Q () s') (hf : X.fn x = true ∨ X.env.scope.names.lookup x = some .local := by first | exact .inl rfl | exact .inr rfl | assumption) : wpAny M A (storeName X.env x u) Q E s := by
  obtain ⟨m, hn, hl⟩ := id I.loc
  have hcls : (X.env.scope.kind == .class || (X.env.scope.kind == .module && X.env.locals != X.env.globals)) = false := by rw [I.ok.kind]; rfl
  have hiσ : i < σ.length := by rw [I.len]; exact (List.getElem?_eq_some_iff.mp hi).1
  have cne := I.cne
  have tracked : ∀ {a : Addr} {h' : Heap}, (∃ o, s.heap.get? a = some o ∧ H a = none) → Heap.SameBut a s.heap h' → HOk X.prog X.w H h' := fun {a h'} ha hs b ob e => by
    obtain ⟨_, _, hfree⟩ := ha
    refine (I.hok b ob e).stay (fun c w' hc q => (hs.2 c ?_).trans q) (fun _ q => q) fun _ _ q => q
    rintro rfl
    rcases hc with rfl | hc
    · rw [hfree] at e; cases e
    · rw [hfree] at hc; cases hc
  rcases hx with hk | hk
  · refine wpAny_storeName_local hk hn (fun h' hn' hs => ?_) hcls
    obtain ⟨oL, _, _, hoL, _⟩ := id hn
    refine h _ ⟨I.ok, I.os, I.bare, ⟨fun b o e n hb hx => ?_, fun b o e n hb hx => ?_, I.base.free, fun b o e hx => ?_, I.base.tups, I.base.frzs, I.base.tbls⟩, ⟨_, hn', fun j y v' e1 e2 e3 => ?_⟩, fun y c e => ?_, I.free, I.freeC, fun p hp => ?_, tracked ⟨oL, hoL, I.free⟩ hs, by simpa using I.len⟩ ⟨_, hs, .inl rfl⟩
    · exact (hs.2 b (Nat.ne_of_lt (Nat.lt_of_lt_of_le (Heap.lt_size e) I.ok.above))).trans (I.base.keep b o e n hb hx)
    · obtain ⟨sl, e1⟩ := I.base.slot b o e n hb hx
      exact ⟨sl, (hs.2 b (Nat.ne_of_lt (Nat.lt_of_lt_of_le (Heap.lt_size e) I.ok.above))).trans e1⟩
    · obtain ⟨o', e1⟩ := I.base.there b o e hx
      exact ⟨o', (hs.2 b (Nat.ne_of_lt (Nat.lt_of_lt_of_le (Heap.lt_size e) I.ok.above))).trans e1⟩
    · by_cases hj : j = i
      · subst hj
        rw [hi] at e1; cases e1
        rw [List.getElem?_set_self hiσ] at e2
        cases e2
        exact ⟨u, r, .inl ⟨hk, by simp⟩⟩
      · rw [List.getElem?_set_ne (Ne.symm hj)] at e2
        obtain ⟨u', r', q⟩ := hl j y v' e1 e2 e3
        refine ⟨u', r', ?_⟩
        rcases q with ⟨k, e⟩ | ⟨k, c, e, z⟩
        · refine .inl ⟨k, ?_⟩
          have : y ≠ x := fun e => hj (nodup_ix hN e1 (e ▸ hi))
          simp [this, e]
        · exact .inr ⟨k, c, e, z.sameBut hs (cne y c e)⟩
    · obtain ⟨w', z⟩ := I.cell y c e
      exact ⟨w', z.sameBut hs (cne y c e)⟩
    · obtain ⟨e, n, ne, nf, d⟩ := I.pin p hp
      exact ⟨(hs.2 p.1 ne).trans e, n, ne, nf, d⟩
  · have hfn : X.fn x = true := by
      rcases hf with z | z
      · exact z
      · rw [z] at hk; cases hk
    obtain ⟨c, hc⟩ := I.ok.has x (.inl hk)
    obtain ⟨w', z⟩ := I.cell x c hc
    refine wpAny_storeName_cell I.ok.kind hk hc z (fun h' hc' hs => ?_)
    obtain ⟨oc, hoc, hocd⟩ := id z
    refine h { s with heap := h' } ⟨I.ok, I.os, I.bare, ⟨fun b o e n hb hx => ?_, fun b o e n hb hx => ?_, I.base.free, fun b o e hx => ?_, I.base.tups, I.base.frzs, I.base.tbls⟩, ⟨m, hn.sameBut hs (Ne.symm (cne x c hc)), fun j y v' e1 e2 e3 => ?_⟩, fun y c' e => ?_, I.free, I.freeC, fun p hp => ?_, tracked ⟨oc, hoc, I.freeC x c hc⟩ hs, by simpa using I.len⟩ ⟨c, hs, .inr hc⟩
    · exact (hs.2 b (Nat.ne_of_lt (Nat.lt_of_lt_of_le (Heap.lt_size e) (I.ok.cab x c hfn hc)))).trans (I.base.keep b o e n hb hx)
    · obtain ⟨sl, e1⟩ := I.base.slot b o e n hb hx
      exact ⟨sl, (hs.2 b (Nat.ne_of_lt (Nat.lt_of_lt_of_le (Heap.lt_size e) (I.ok.cab x c hfn hc)))).trans e1⟩
    · obtain ⟨o', e1⟩ := I.base.there b o e hx
      exact ⟨o', (hs.2 b (Nat.ne_of_lt (Nat.lt_of_lt_of_le (Heap.lt_size e) (I.ok.cab x c hfn hc)))).trans e1⟩
    · by_cases hj : j = i
      · subst hj
        rw [hi] at e1; cases e1
        rw [List.getElem?_set_self hiσ] at e2
        cases e2
        exact ⟨u, r, .inr ⟨.inl hk, c, hc, hc'⟩⟩
      · rw [List.getElem?_set_ne (Ne.symm hj)] at e2
        obtain ⟨u', r', q⟩ := hl j y v' e1 e2 e3
        refine ⟨u', r', ?_⟩
        rcases q with q | ⟨k, c', e, z'⟩
        · exact .inl q
        · refine .inr ⟨k, c', e, z'.sameBut hs ?_⟩
          rintro rfl
          exact hj (nodup_ix hN e1 (I.ok.inj _ _ _ e hc ▸ hi))
    · by_cases hcc : c' = c
      · subst hcc; exact ⟨_, hc'⟩
      · obtain ⟨w2, z2⟩ := I.cell y c' e
        exact ⟨w2, z2.sameBut hs hcc⟩
    · obtain ⟨e, n, ne, nf, d⟩ := I.pin p hp
      refine ⟨(hs.2 p.1 ?_).trans e, n, ne, nf, d⟩
      intro q
      rw [q, hoc] at e
      have q' : oc = p.2 := Option.some.inj e
      exact d w' (by rw [← q']; exact hocd)
theorem store_ok {M : Model} {A : Around} {E : Value → Shared → Prop} {i : Nat} {x : Str} {v : V} {u : Value} {Q : Unit → Shared → Prop} (I : Inv X pins σ H s) (hN : X.N.Nodup) (hi : X.N[i]? = some x) (hx : Loc X.env.scope x) (r : RelV v u)
    (h : ∀ s', Inv X pins (σ.set i (some v)) H s' → Q () s') (hf : X.fn x = true ∨ X.env.scope.names.lookup x = some .local := by first | exact .inl rfl | exact .inr rfl | assumption) : wpAny M A (storeName X.env x u) Q E s :=
  store_ok2 I hN hi hx r (fun s' I' _ => h s' I') hf
/-- behind a call or a block, the state as it is -/
theorem Inv.call' {s' : Shared} {ch : List Addr} (I : Inv X pins σ H s) (ho : s'.os = s.os) (u : Un (frs X.stack) ch H H' s.heap s'.heap) (hok : HOk X.prog X.w H' s'.heap) (hg : AllBare s'.gens)
    (hch : ∀ b ∈ ch, (b ∈ X.ex ∨ X.s_0.heap.objs.size ≤ b) ∧ b ≠ X.env.locals ∧ (∀ x c, X.env.cells.lookup x = some c → c ≠ b) ∧ ∀ p ∈ X.pn ++ pins, p.1 ≠ b) : Inv X pins σ H' s' := by
  obtain ⟨h', g', d', t', o'⟩ := s'
  have e : o' = s.os := ho
  subst e
  exact I.call (g' := g') (t' := t') (d' := d') u hok hg hch
end

/-! ### the judgements -/
/-- an exception: its class, its own dict's address (where it has one), the abstract heap behind it -/
abbrev XK := Value → Option Addr → Hp → Prop
abbrev St := List (Option V)
abbrev VK := V → Hp → Prop
/-- an expression's reading; a test's; an argument list's -/
abbrev TE := St → Hp → VK → Prop
abbrev TT := St → Hp → (Bool → Hp → Prop) → Prop
abbrev TA := St → Hp → (List V → Hp → Prop) → Prop
/-- what is wanted behind a statement -/
structure Ends where
  nx : St → Hp → Prop
  rt : VK
  bk : St → Hp → Prop := fun _ _ => False
  ct : St → Hp → Prop := fun _ _ => False
abbrev TS := Ends → St → Hp → Prop

def EP (X : Cx) (pins : List (Addr × Obj)) (σ : St) (Q : VK) (u : Value) (s' : Shared) : Prop := ∃ v H', Inv X pins σ H' s' ∧ RelV v u ∧ Q v H'
def TP (X : Cx) (pins : List (Addr × Obj)) (σ : St) (Q : Bool → Hp → Prop) (b : Bool) (s' : Shared) : Prop := ∃ H', Inv X pins σ H' s' ∧ Q b H'
def AP (X : Cx) (pins : List (Addr × Obj)) (σ : St) (Q : List V → Hp → Prop) (us : List Value) (s' : Shared) : Prop := ∃ vs H', Inv X pins σ H' s' ∧ Vals vs us ∧ Q vs H'
def SP (X : Cx) (pins : List (Addr × Obj)) (D : Ends) (f : Flow) (s' : Shared) : Prop :=
  match f with
  | .next => ∃ σ' H', Inv X pins σ' H' s' ∧ D.nx σ' H'
  | .brk => ∃ σ' H', Inv X pins σ' H' s' ∧ D.bk σ' H'
  | .cont => ∃ σ' H', Inv X pins σ' H' s' ∧ D.ct σ' H'
  | .ret u => ∃ v σ' H', Inv X pins σ' H' s' ∧ RelV v u ∧ D.rt v H'

def PE (X : Cx) (e : Expr) (t : TE) : Prop :=
  ∀ (pins : List (Addr × Obj)) (s : Shared) (σ : St) (H : Hp) (Q : VK), Inv X pins σ H s → t σ H Q → wpAny (model X.prog X.w) X.A (eval e X.env) (EP X pins σ Q) X.xe s
def PT (X : Cx) (e : Expr) (t : TT) : Prop :=
  ∀ (pins : List (Addr × Obj)) (s : Shared) (σ : St) (H : Hp) (Q : Bool → Hp → Prop), Inv X pins σ H s → t σ H Q → wpAny (model X.prog X.w) X.A (isTrue e X.env (eval e X.env)) (TP X pins σ Q) X.xe s
/-- a test whatever its 'whole' is (and, or) -/
def PW (X : Cx) (e : Expr) (t : TT) : Prop :=
  ∀ (whole : Sem Value) (pins : List (Addr × Obj)) (s : Shared) (σ : St) (H : Hp) (Q : Bool → Hp → Prop), Inv X pins σ H s → t σ H Q → wpAny (model X.prog X.w) X.A (isTrue e X.env whole) (TP X pins σ Q) X.xe s
theorem PW.pt {X : Cx} {e : Expr} {t : TT} (h : PW X e t) : PT X e t := h _
/-- an argument list (no star), from the left -/
def PA (X : Cx) (es : List Expr) (t : TA) : Prop :=
  ∀ (pos : Pos) (pins : List (Addr × Obj)) (s : Shared) (σ : St) (H : Hp) (Q : List V → Hp → Prop), Inv X pins σ H s → t σ H Q → wpAny (model X.prog X.w) X.A (spliced (backTo pos (starEach es X.env))) (AP X pins σ Q) X.xe s
def PS (X : Cx) (st : Stmt) (t : TS) : Prop :=
  ∀ (pins : List (Addr × Obj)) (s : Shared) (σ : St) (H : Hp) (D : Ends), Inv X pins σ H s → t D σ H → wpAny (model X.prog X.w) X.A (exec st X.env) (SP X pins D) X.xe s
def PSs (X : Cx) (st : List Stmt) (t : TS) : Prop :=
  ∀ (pins : List (Addr × Obj)) (s : Shared) (σ : St) (H : Hp) (D : Ends), Inv X pins σ H s → t D σ H → wpAny (model X.prog X.w) X.A (execs st X.env) (SP X pins D) X.xe s
/-- weaken the end -/
theorem thn {α : Type} {t : Sem α} {Q Q' : α → Shared → Prop} {M : Model} {A : Around} {E : Value → Shared → Prop} {s : Shared} (h : wpAny M A t Q E s) (hQ : ∀ a s, Q a s → Q' a s) : wpAny M A t Q' E s := wpAny_mono h hQ fun _ _ x => x
end L2

namespace L2
open PySem PySem.Spec PyProof.Rows
section
variable {X : Cx}

/-! ### names and constants -/
def tVar (i : Nat) : TE := fun σ H Q => ∃ v, σ[i]? = some (some v) ∧ Q v H
def tC (v : V) : TE := fun _ H Q => Q v H
theorem pe_var {i : Nat} {x : Str} {pos : Pos} (hN : X.N[i]? = some x) (hv : Vis X.env.scope x) (hd : (x == ("__debug__" : Str)) = false := by decide) (hcd : (x == ("__classdict__" : Str)) = false := by decide) : PE X (.Name x pos) (tVar i) := by
  intro pins s σ H Q I h
  obtain ⟨v, e, h⟩ := h
  obtain ⟨m, hn, hl⟩ := I.loc
  obtain ⟨u, r, l⟩ := hl i x v hN e hv
  have fin : EP X pins σ Q u s := ⟨v, H, I, r, h⟩
  rcases l with ⟨hk, hm⟩ | ⟨hk, c, hc, hcell⟩
  · exact wpAny_Name (wpAny_loadName_local I.ok.kind hk hn hm fin) hd
  · rcases hk with hk | hk
    · exact wpAny_Name (wpAny_loadName_cell I.ok.kind hk hc hcell fin) hd
    · exact wpAny_Name (wpAny_loadName_free I.ok.kind hk hc hcell fin hcd) hd
theorem pe_int {i j pos} : PE X (.Constant (.int i) j pos) (tC (.int i)) := fun _ _ _ H _ I h => wpAny_Constant_int ⟨.int i, H, I.tok _, ⟨_, rfl⟩, h⟩
theorem pe_bl {b j pos} : PE X (.Constant (.bool b) j pos) (tC (.bl b)) := fun _ _ _ H _ I h => Constant_bool ⟨.bl b, H, I, rfl, h⟩
theorem pe_non {j pos} : PE X (.Constant .none j pos) (tC .non) := fun _ _ _ H _ I h => Constant_none ⟨.non, H, I, rfl, h⟩

/-- a global name of the def -/
def Gl (X : Cx) (x : Str) : Prop := X.env.kindOf x = some .globalImplicit
theorem ld_glob {E : Value → Shared → Prop} {pins : List (Addr × Obj)} {s : Shared} {σ : St} {H : Hp} {x : Str} {u : Value} {pos : Pos} {Q : Value → Shared → Prop} (I : Inv X pins σ H s) (hg : Gl X x) (hm : X.mg x = some u) (h : Q u s)
    (hd : (x == ("__debug__" : Str)) = false := by decide) : wpAny (model X.prog X.w) X.A (eval (.Name x pos) X.env) Q E s :=
  Calls.Name_function_global I.ok.kind hg (Calls.loadGlobal_global (by rw [I.ok.glob]; exact I.mod.glob.keeps I.bk) hm h) hd
theorem ld_blt {E : Value → Shared → Prop} {pins : List (Addr × Obj)} {s : Shared} {σ : St} {H : Hp} {x : Str} {u : Value} {pos : Pos} {Q : Value → Shared → Prop} (I : Inv X pins σ H s) (hg : Gl X x) (hm : X.mg x = none) (hv : bootBuiltins x = some u) (h : Q u s)
    (hn : x ≠ "__name__" := by decide) (hd : (x == ("__debug__" : Str)) = false := by decide) : wpAny (model X.prog X.w) X.A (eval (.Name x pos) X.env) Q E s := by
  obtain ⟨mb, h1, h2⟩ := I.mod.blt
  exact Calls.Name_function_global I.ok.kind hg (Calls.loadGlobal_builtin (by rw [I.ok.glob]; exact I.mod.glob.keeps I.bk) hm (by rw [I.ok.blt]; exact h1.keeps I.bk) ((h2 x hn).trans hv) h) hd
/-- a module's constant, a class, a function, as a value -/
theorem pe_glob {x : Str} {v : V} {u : Value} {pos : Pos} (hg : Gl X x) (hm : X.mg x = some u) (r : RelV v u) (hd : (x == ("__debug__" : Str)) = false := by decide) : PE X (.Name x pos) (tC v) :=
  fun _ _ _ H _ I h => ld_glob I hg hm ⟨v, H, I, r, h⟩ hd

/-! ### arithmetic -/
variable {a b : Expr} {ta tb : TE} {pos : Pos}

/-! ### comparisons -/
def PC (X : Cx) (op : CmpOp) (a b : Expr) (t : TE) : Prop :=
  ∀ (pins : List (Addr × Obj)) (s : Shared) (σ : St) (H : Hp) (Q : VK), Inv X pins σ H s → t σ H Q →
    wpAny (model X.prog X.w) X.A (eval a X.env) (fun v s₁ => wpAny (model X.prog X.w) X.A (eval b X.env) (fun u s₂ => wpAny (model X.prog X.w) X.A (compareOp op v u) (EP X pins σ Q) X.xe s₂) X.xe s₁) X.xe s
theorem nobehind (b : Expr) {op : CmpOp} (h : op ≠ .In) (h2 : op ≠ .NotIn) : behindInMarks op b = false := by
  have e1 : (op == CmpOp.In) = false := by cases op <;> first | rfl | exact absurd rfl h
  have e2 : (op == CmpOp.NotIn) = false := by cases op <;> first | rfl | exact absurd rfl h2
  cases b <;> simp [behindInMarks, e1, e2]
/-- is None -/
def tIsN (ta : TE) : TE := fun σ H Q => ta σ H fun x H1 => Q (.bl (decide (x = .non))) H1
def tNotN (ta : TE) : TE := fun σ H Q => ta σ H fun x H1 => Q (.bl (!decide (x = .non))) H1
theorem RelV.none_iff {x : V} {v : Value} (r : RelV x v) : (v == Value.none) = decide (x = .non) := by
  cases x with
  | non => cases r; rfl
  | bl _ => cases r; rfl
  | int _ => obtain ⟨t, rfl⟩ := r; rfl
  | str _ => obtain ⟨t, rfl⟩ := r; rfl
  | byt _ => obtain ⟨t, rfl⟩ := r; rfl
  | flt _ => obtain ⟨t, rfl⟩ := r; rfl
  | ref _ => cases r; rfl
  | ty _ => cases r; rfl
theorem pc_isN {j pos'} (ha : PE X a ta) : PC X .Is a (.Constant .none j pos') (tIsN ta) := by
  intro pins s σ H Q I h
  refine thn (ha pins s σ H _ I h) fun v s1 ⟨x, H1, I1, r1, q1⟩ => ?_
  exact Constant_none (is_none_gen ⟨.bl _, H1, I1, by rw [r1.none_iff]; rfl, q1⟩)
theorem pc_notN {j pos'} (ha : PE X a ta) : PC X .IsNot a (.Constant .none j pos') (tNotN ta) := by
  intro pins s σ H Q I h
  refine thn (ha pins s σ H _ I h) fun v s1 ⟨x, H1, I1, r1, q1⟩ => ?_
  exact Constant_none (isnot_none_gen ⟨.bl _, H1, I1, by rw [r1.none_iff]; rfl, q1⟩)
/-- a comparison as a value, as a test -/
def tB (t : TE) : TT := fun σ H Q => t σ H fun x H1 => ∃ c, x = .bl c ∧ Q c H1
theorem pe_cmp {op : CmpOp} {t : TE} (h : PC X op a b t) (h1 : behindInMarks op b = false := by first | exact nobehind _ (by decide) (by decide) | rfl) : PE X (.Compare a [op] [b] pos) t := fun pins s σ H Q I hw => wpAny_Compare1 (h pins s σ H Q I hw) h1
theorem pt_cmp {op : CmpOp} {t : TE} (h : PC X op a b t) (h1 : behindInMarks op b = false := by first | exact nobehind _ (by decide) (by decide) | rfl) : PT X (.Compare a [op] [b] pos) (tB t) := by
  intro pins s σ H Q I hw
  refine wpAny_isTrue_Compare1 (thn (h pins s σ H _ I hw) fun v s1 h1 => thn h1 fun u s2 h2 => thn h2 fun c s3 ⟨x, H1, I1, r1, q1⟩ => ?_) h1
  obtain ⟨d, rfl, q⟩ := q1
  cases r1
  exact wpAny_truthy_bool ⟨H1, I1, q⟩
/-- an expression whose value is a bool, as a test -/
theorem pt_val {e : Expr} {t : TE} (h : PE X e t) (he : ∀ whole, isTrue e X.env whole = (do let v ← whole; standAt e.pos; holding [v] (truthy v)) := by intro _; rfl) : PT X e (tB t) := by
  intro pins s σ H Q I hw
  refine isTrue_plain (thn (h pins s σ H _ I hw) fun v s1 ⟨x, H1, I1, r1, q1⟩ => ?_) (he _)
  obtain ⟨d, rfl, q⟩ := q1
  cases r1
  exact wpAny_truthy_bool ⟨H1, I1, q⟩

/-! ### and, or, not -/
variable {tA tB' : TT} {rest : List Expr}
def tAnd (t u : TT) : TT := fun σ H Q => t σ H fun c H1 => if c = true then u σ H1 Q else Q false H1
def tOr (t u : TT) : TT := fun σ H Q => t σ H fun c H1 => if c = true then Q true H1 else u σ H1 Q
def tNot (t : TT) : TT := fun σ H Q => t σ H fun c H1 => Q (!c) H1
theorem pw_and1 (ha : PT X a tA) : PW X (.BoolOp .And [a] pos) tA := by
  intro wh pins s σ H Q I h
  refine isTrue_and (thn (ha pins s σ H Q I h) fun c s1 e => ?_)
  cases c with
  | true => exact isTrue_and_nil e
  | false => exact e
theorem pw_or1 (ha : PT X a tA) : PW X (.BoolOp .Or [a] pos) tA := by
  intro wh pins s σ H Q I h
  refine isTrue_or (thn (ha pins s σ H Q I h) fun c s1 e => ?_)
  cases c with
  | false => exact isTrue_or_nil e
  | true => exact e
theorem pw_and (ha : PT X a tA) (hb : PW X (.BoolOp .And (b :: rest) pos) tB') : PW X (.BoolOp .And (a :: b :: rest) pos) (tAnd tA tB') := by
  intro wh pins s σ H Q I h
  refine isTrue_and (thn (ha pins s σ H _ I h) fun c s1 ⟨H1, I1, q1⟩ => ?_)
  cases c with
  | true => exact hb wh pins s1 σ H1 Q I1 q1
  | false => exact ⟨H1, I1, q1⟩
theorem pw_or (ha : PT X a tA) (hb : PW X (.BoolOp .Or (b :: rest) pos) tB') : PW X (.BoolOp .Or (a :: b :: rest) pos) (tOr tA tB') := by
  intro wh pins s σ H Q I h
  refine isTrue_or (thn (ha pins s σ H _ I h) fun c s1 ⟨H1, I1, q1⟩ => ?_)
  cases c with
  | true => exact ⟨H1, I1, q1⟩
  | false => exact hb wh pins s1 σ H1 Q I1 q1
theorem pt_not (ha : PT X a tA) : PT X (.UnaryOp .Not a pos) (tNot tA) := by
  intro pins s σ H Q I h
  exact isTrue_not (ha pins s σ H (fun c H1 => Q (!c) H1) I h)
/-- .. as values (bools) -/
def tAndV (ta tb : TE) : TE := fun σ H Q => ta σ H fun x H1 => ∃ c, x = .bl c ∧ if c = true then tb σ H1 Q else Q (.bl false) H1
def tOrV (ta tb : TE) : TE := fun σ H Q => ta σ H fun x H1 => ∃ c, x = .bl c ∧ if c = true then Q (.bl true) H1 else tb σ H1 Q
def tNotV (ta : TE) : TE := fun σ H Q => ta σ H fun x H1 => ∃ c, x = .bl c ∧ Q (.bl (!c)) H1
theorem pe_one {op} {t : TE} (h : PE X a t) : PE X (.BoolOp op [a] pos) t := fun pins s σ H Q I hw => BoolOp_one (h pins s σ H Q I hw)
theorem pe_and (ha : PE X a ta) (hb : PE X (.BoolOp .And (b :: rest) pos) tb) : PE X (.BoolOp .And (a :: b :: rest) pos) (tAndV ta tb) := by
  intro pins s σ H Q I h
  refine BoolOp_and (thn (ha pins s σ H _ I h) fun v s1 ⟨x, H1, I1, r1, q1⟩ => ?_)
  obtain ⟨c, rfl, q1⟩ := q1
  cases r1
  refine wpAny_truthy_bool ?_
  cases c with
  | true => exact hb pins s1 σ H1 Q I1 q1
  | false => exact ⟨.bl false, H1, I1, rfl, q1⟩
theorem pe_or (ha : PE X a ta) (hb : PE X (.BoolOp .Or (b :: rest) pos) tb) : PE X (.BoolOp .Or (a :: b :: rest) pos) (tOrV ta tb) := by
  intro pins s σ H Q I h
  refine BoolOp_or (thn (ha pins s σ H _ I h) fun v s1 ⟨x, H1, I1, r1, q1⟩ => ?_)
  obtain ⟨c, rfl, q1⟩ := q1
  cases r1
  refine wpAny_truthy_bool ?_
  cases c with
  | false => exact hb pins s1 σ H1 Q I1 q1
  | true => exact ⟨.bl true, H1, I1, rfl, q1⟩
/-- a if t else b -/
def tIf (t : TT) (ta tb : TE) : TE := fun σ H Q => t σ H fun c H1 => if c = true then ta σ H1 Q else tb σ H1 Q
theorem pe_ifExp {c : Expr} (hc : PT X c tA) (ha : PE X a ta) (hb : PE X b tb) : PE X (.IfExp c a b pos) (tIf tA ta tb) := by
  intro pins s σ H Q I h
  refine wpAny_IfExp (thn (hc pins s σ H _ I h) fun d s1 ⟨H1, I1, q1⟩ => ?_)
  cases d with
  | true => exact ha pins s1 σ H1 Q I1 q1
  | false => exact hb pins s1 σ H1 Q I1 q1
end
end L2

namespace L2
open PySem PySem.Spec PyProof.Rows

/-! ### a list, a tuple that is read: tracked, frozen, or an object of the module -/
def SqL (K : PySem.W.Frag) (H : Hp) (a : Addr) (xs : List V) : Prop :=
  Rd H a (.lst xs) ∨
    ∃ (o : Obj) (its : Array Value) (n : Nat), K.lookup a = some o ∧ o.cls = .type "list" ∧ o.dict = none ∧ o.data = .seq its n ∧ its.size ≤ sizeLine ∧ Vals xs its.toList
def SqT (K : PySem.W.Frag) (H : Hp) (a : Addr) (xs : List V) : Prop :=
  Rd H a (.tup xs) ∨
    ∃ (o : Obj) (its : Array Value) (n : Nat), K.lookup a = some o ∧ o.cls = .type "tuple" ∧ o.data = .seq its n ∧ its.size ≤ sizeLine ∧ Vals xs its.toList
def absV : Value → Option V
  | .none => some .non
  | .bool b => some (.bl b)
  | .int i _ => some (.int i)
  | .str x _ => some (.str x)
  | .bytes b _ => some (.byt b)
  | .float b _ => some (.flt b)
  | .ref a => some (.ref a)
  | .type n => some (.ty n)
  | _ => none
theorem RelV.abs {x : V} {u : Value} (r : RelV x u) : absV u = some x := by
  cases x with
  | non => cases r; rfl
  | bl _ => cases r; rfl
  | int _ => obtain ⟨t, rfl⟩ := r; rfl
  | str _ => obtain ⟨t, rfl⟩ := r; rfl
  | byt _ => obtain ⟨t, rfl⟩ := r; rfl
  | flt _ => obtain ⟨t, rfl⟩ := r; rfl
  | ref _ => cases r; rfl
  | ty _ => cases r; rfl
theorem RelV.inj {x y : V} {u : Value} (r : RelV x u) (q : RelV y u) : x = y := Option.some.inj (r.abs.symm.trans q.abs)
theorem Vals.inj : ∀ {xs ys : List V} {us : List Value}, Vals xs us → Vals ys us → xs = ys
  | _, _, _, .nil, .nil => rfl
  | _, _, _, .cons r t, .cons r' t' => by rw [r.inj r', Vals.inj t t']
section
variable {X : Cx} {pins : List (Addr × Obj)} {σ : St} {H : Hp} {s : Shared} {a : Addr} {xs ys : List V}
theorem SqL.of {K : PySem.W.Frag} (h : H a = some (.lst xs)) : SqL K H a xs := .inl (.inl h)
theorem SqT.of {K : PySem.W.Frag} (h : H a = some (.tup xs)) : SqT K H a xs := .inl (.inl h)
theorem Inv.list (I : Inv X pins σ H s) (h : SqL X.K H a xs) : ∃ its : List Value, Vals xs its ∧ PlainL s.heap a its.toArray ∧ xs.length ≤ sizeLine := by
  rcases h with h | ⟨o, its, n, hk, hc, hd, hs, hz, r⟩
  · obtain ⟨z, its, n, r, e⟩ := h.ok I.hok
    exact ⟨its, r, ⟨_, n, e, rfl, rfl, rfl⟩, z⟩
  · refine ⟨its.toList, r, ⟨o, n, I.kIn a o hk, hc, hd, by simpa using hs⟩, ?_⟩
    have e := r.length
    simp only [Array.length_toList] at e
    omega
theorem Inv.tuple (I : Inv X pins σ H s) (h : SqT X.K H a xs) : ∃ its : List Value, Vals xs its ∧ IsTup s.heap a its.toArray ∧ xs.length ≤ sizeLine := by
  rcases h with h | ⟨o, its, n, hk, hc, hs, hz, r⟩
  · obtain ⟨z, its, r, p⟩ := h.ok I.hok
    exact ⟨its, r, p, z⟩
  · refine ⟨its.toList, r, ⟨o, I.kIn a o hk, hc, n, by simpa using hs⟩, ?_⟩
    have e := r.length
    simp only [Array.length_toList] at e
    omega
theorem Inv.list_inj (I : Inv X pins σ H s) (h : SqL X.K H a xs) (h' : SqL X.K H a ys) : xs = ys := by
  obtain ⟨its, r, ⟨o, n, e, _, _, d⟩, _⟩ := I.list h
  obtain ⟨its', r', ⟨o', n', e', _, _, d'⟩, _⟩ := I.list h'
  rw [e] at e'; cases e'
  rw [d] at d'
  injection d' with d1 _
  have : its = its' := by simpa using congrArg Array.toList d1
  subst this
  exact r.inj r'
theorem Inv.tuple_inj (I : Inv X pins σ H s) (h : SqT X.K H a xs) (h' : SqT X.K H a ys) : xs = ys := by
  obtain ⟨its, r, ⟨o, e, _, n, d⟩, _⟩ := I.tuple h
  obtain ⟨its', r', ⟨o', e', _, n', d'⟩, _⟩ := I.tuple h'
  rw [e] at e'; cases e'
  rw [d] at d'
  injection d' with d1 _
  have : its = its' := by simpa using congrArg Array.toList d1
  subst this
  exact r.inj r'
end

/-! ### another wish about exceptions -/
abbrev Cx.wish (X : Cx) (E : Value → Shared → Prop) : Cx := { X with xe := E }
/-- no exception leaves -/
abbrev Cx.nox (X : Cx) : Cx := X.wish fun _ _ => False
theorem Cx.Ok.wish {X : Cx} (ok : X.Ok) (E : Value → Shared → Prop) : (X.wish E).Ok :=
  ⟨ok.mod, ok.kind, ok.glob, ok.blt, ok.above, ok.inj, ok.has, ok.cab, ok.hd, ok.frames, ok.stk, ok.exf, ok.bs, ok.bsz, ok.noex, ok.exfs, ok.funs, ok.frf⟩
theorem Cx.Ok.unwish {X : Cx} {E : Value → Shared → Prop} (ok : (X.wish E).Ok) : X.Ok :=
  ⟨ok.mod, ok.kind, ok.glob, ok.blt, ok.above, ok.inj, ok.has, ok.cab, ok.hd, ok.frames, ok.stk, ok.exf, ok.bs, ok.bsz, ok.noex, ok.exfs, ok.funs, ok.frf⟩
section
variable {X : Cx} {pins : List (Addr × Obj)} {σ : St} {H : Hp} {s : Shared} {E : Value → Shared → Prop}
theorem Inv.wish (I : Inv X pins σ H s) (E : Value → Shared → Prop) : Inv (X.wish E) pins σ H s := ⟨I.ok.wish E, I.os, I.bare, I.base, I.loc, I.cell, I.free, I.freeC, I.pin, I.hok, I.len⟩
theorem Inv.unwish (I : Inv (X.wish E) pins σ H s) : Inv X pins σ H s := ⟨I.ok.unwish, I.os, I.bare, I.base, I.loc, I.cell, I.free, I.freeC, I.pin, I.hok, I.len⟩
theorem SP.unwish {D : Ends} {f : Flow} {s' : Shared} (h : SP (X.wish E) pins D f s') : SP X pins D f s' := by
  cases f with
  | next => obtain ⟨σ', H', I, q⟩ := h; exact ⟨σ', H', I.unwish, q⟩
  | brk => obtain ⟨σ', H', I, q⟩ := h; exact ⟨σ', H', I.unwish, q⟩
  | cont => obtain ⟨σ', H', I, q⟩ := h; exact ⟨σ', H', I.unwish, q⟩
  | ret u => obtain ⟨v, σ', H', I, r, q⟩ := h; exact ⟨v, σ', H', I.unwish, r, q⟩
theorem PSs.nox {st : List Stmt} {t : TS} (h : PSs X.nox st t) : PSs X st t := fun pins s σ H D I hw =>
  wpAny_mono (h pins s σ H D (I.wish _) hw) (fun _ _ q => q.unwish) fun _ _ z => False.elim z
end

/-! ### blocks and small statements -/
section
variable {X : Cx} {st : Stmt} {rest : List Stmt} {t u : TS} {e : Expr} {te : TE} {pos : Pos}
def tNext : TS := fun D σ H => D.nx σ H
def tSeq (t u : TS) : TS := fun D σ H => t { D with nx := u D } σ H
theorem pss_nil : PSs X [] tNext := fun _ _ σ H _ I h => wpAny_execs_nil ⟨σ, H, I, h⟩
theorem pss_cons (h1 : PS X st t) (h2 : PSs X rest u) : PSs X (st :: rest) (tSeq t u) := by
  intro pins s σ H D I h
  refine wpAny_execs_cons (thn (h1 pins s σ H { D with nx := u D } I h) fun f s1 q => ?_)
  cases f with
  | next =>
    obtain ⟨σ', H', I', q⟩ := q
    exact h2 pins s1 σ' H' D I' q
  | ret v => exact q
  | brk => exact q
  | cont => exact q
theorem pss_one (h1 : PS X st t) : PSs X [st] t := by
  intro pins s σ H D I h
  refine wpAny_execs_cons (thn (h1 pins s σ H D I h) fun f s1 q => ?_)
  cases f with
  | next => exact wpAny_execs_nil q
  | ret v => exact q
  | brk => exact q
  | cont => exact q
/-- in a def's body nothing is shown -/
theorem Inv.quiet {pins : List (Addr × Obj)} {σ : St} {H : Hp} {s : Shared} (I : Inv X pins σ H s) : interactive X.env = false := by simp [interactive, I.ok.kind]
/-- an expression whose value is dropped -/
def tDrop (te : TE) : TS := fun D σ H => te σ H fun _ H1 => D.nx σ H1
theorem ps_expr (he : PE X e te) (hs : swapsWith e none pos.line X.env = pure false := by rfl) : PS X (.Expr e pos) (tDrop te) := by
  intro pins s σ H D I h
  exact wpAny_Expr_any (thn (he pins s σ H _ I h) fun v s1 ⟨x, H1, I1, r1, q1⟩ => ⟨σ, H1, I1, q1⟩) I.quiet hs
def tRet (te : TE) : TS := fun D σ H => te σ H D.rt
theorem ps_ret (he : PE X e te) : PS X (.Return (some e) pos) (tRet te) := by
  intro pins s σ H D I h
  exact wpAny_Return_some (thn (he pins s σ H _ I h) fun v s1 ⟨x, H1, I1, r1, q1⟩ => ⟨x, σ, H1, I1, r1, q1⟩)
def tIfS (c : TT) (t u : TS) : TS := fun D σ H => c σ H fun b H1 => if b = true then t D σ H1 else u D σ H1
theorem ps_if {c : Expr} {a b : List Stmt} {tc : TT} (hc : PT X c tc) (ha : PSs X a t) (hb : PSs X b u) : PS X (.If c a b pos) (tIfS tc t u) := by
  intro pins s σ H D I h
  refine wpAny_If (thn (hc pins s σ H _ I h) fun d s1 ⟨H1, I1, q1⟩ => ?_)
  cases d with
  | true => exact ha pins s1 σ H1 D I1 q1
  | false => exact hb pins s1 σ H1 D I1 q1
end

/-! ### targets -/
abbrev TG := V → St → Hp → (St → Hp → Prop) → Prop
abbrev TGs := List V → St → Hp → (St → Hp → Prop) → Prop
def PG (X : Cx) (target : Expr) (t : TG) : Prop :=
  ∀ (pins : List (Addr × Obj)) (s : Shared) (σ : St) (H : Hp) (v : V) (u : Value) (Q : St → Hp → Prop), Inv X pins σ H s → RelV v u → t v σ H Q →
    wpAny (model X.prog X.w) X.A (assign target X.env u) (fun _ s' => ∃ σ' H', Inv X pins σ' H' s' ∧ Q σ' H') X.xe s
/-- several targets, one after another -/
def PGs (X : Cx) (ts : List Expr) (t : TGs) : Prop :=
  ∀ (pins : List (Addr × Obj)) (s : Shared) (σ : St) (H : Hp) (vs : List V) (us : List Value) (Q : St → Hp → Prop), Inv X pins σ H s → Vals vs us → t vs σ H Q →
    wpAny (model X.prog X.w) X.A (assignInOrder ((assignEach ts X.env).map (·.2)) us) (fun _ s' => ∃ σ' H', Inv X pins σ' H' s' ∧ Q σ' H') X.xe s
/-- o[i] = v, by values -/
abbrev TSet := V → V → V → Hp → (Hp → Prop) → Prop
def PSet (X : Cx) (t : TSet) : Prop :=
  ∀ (pins : List (Addr × Obj)) (s : Shared) (σ : St) (H : Hp) (o i v : V) (ov iv u : Value) (Q : Hp → Prop), Inv X pins σ H s → RelV o ov → RelV i iv → RelV v u → t o i v H Q →
    wpAny (model X.prog X.w) X.A (setItem ov iv u) (fun _ s' => ∃ H', Inv X pins σ H' s' ∧ Q H') X.xe s
/-- a op= b, by values -/
abbrev TIp := V → V → Hp → VK → Prop
def PIp (X : Cx) (op : Operator) (t : TIp) : Prop :=
  ∀ (pins : List (Addr × Obj)) (s : Shared) (σ : St) (H : Hp) (x y : V) (v u : Value) (Q : VK), Inv X pins σ H s → RelV x v → RelV y u → t x y H Q →
    wpAny (model X.prog X.w) X.A (inplaceOp op v u) (EP X pins σ Q) X.xe s
section
variable {X : Cx} {pos : Pos}
def gName (i : Nat) : TG := fun v σ H Q => Q (σ.set i (some v)) H
theorem pg_name {i : Nat} {x : Str} (hN : X.N.Nodup) (hi : X.N[i]? = some x) (hx : Loc X.env.scope x) (hf : X.fn x = true ∨ X.env.scope.names.lookup x = some .local := by first | exact .inl rfl | exact .inr rfl | assumption) : PG X (.Name x pos) (gName i) := by
  intro pins s σ H v u Q I r h
  exact wpAny_assign_Name (store_ok I hN hi hx r (fun s' I' => ⟨_, H, I', h⟩) hf)
def gNil : TGs := fun vs σ H Q => vs = [] ∧ Q σ H
def gCons (t : TG) (u : TGs) : TGs := fun vs σ H Q => ∃ v r, vs = v :: r ∧ t v σ H fun σ' H' => u r σ' H' Q
theorem pgs_nil : PGs X [] gNil := by
  intro pins s σ H vs us Q I r h
  obtain ⟨e, h⟩ := h
  subst e
  cases r
  exact assignInOrder_nil ⟨σ, H, I, h⟩
theorem pgs_cons {e : Expr} {es : List Expr} {t : TG} {u : TGs} (h1 : PG X e t) (h2 : PGs X es u)
    (hs : (assignEach (e :: es) X.env).map (·.2) = assign e X.env :: (assignEach es X.env).map (·.2) := by rfl) : PGs X (e :: es) (gCons t u) := by
  intro pins s σ H vs us Q I r h
  obtain ⟨v, vr, e1, h⟩ := h
  subst e1
  cases r with
  | cons r rr =>
    rw [hs]
    refine assignInOrder_cons (thn (h1 pins s σ H _ _ _ I r h) fun _ s1 ⟨σ1, H1, I1, q1⟩ => ?_)
    exact h2 pins s1 σ1 H1 _ _ Q I1 rr q1
/-- (a, b, ..) = a tuple of that length -/
def gTup (K : PySem.W.Frag) (n : Nat) (t : TGs) : TG := fun v σ H Q => ∃ a xs, v = .ref a ∧ SqT K H a xs ∧ xs.length = n ∧ t xs σ H Q
theorem pg_tup {es : List Expr} {k : Nat} {t : TGs} {n : Nat} (hc : X.calm = true) (h : PGs X es t)
    (hn : (assignEach es X.env).length = n := by rfl) (hst : (assignEach es X.env).findIdx? (·.1) = none := by rfl) : PG X (.Tuple es k pos) (gTup X.K n t) := by
  intro pins s σ H v u Q I r hw
  obtain ⟨a, xs, e1, hq, hl, hw⟩ := hw
  subst e1
  cases r
  obtain ⟨its, rv, ht, hz⟩ := I.tuple hq
  refine assign_Tuple_tuple (I.ok.hd hc) ht (by simp [hn, ← hl, rv.length]) hst fun h' hx => ?_
  have I1 : Inv X pins σ H { s with heap := h' } := I.kept (t' := s.toks) fun b o e => hx b o (Nat.ne_of_lt (Heap.lt_size e)) e
  exact h pins _ σ H xs _ Q I1 (by simpa using rv) hw
/-- o[i] = .. -/
def gSub (to ti : TE) (t : TSet) : TG := fun v σ H Q => to σ H fun o H1 => ti σ H1 fun i H2 => t o i v H2 fun H3 => Q σ H3
theorem pg_sub {o i : Expr} {to ti : TE} {t : TSet} (ho : PE X o to) (hi : PE X i ti) (hs : PSet X t)
    (ha : ∀ v, assign (.Subscript o i pos) X.env v = (do
      let ov ← holding [v] (eval o X.env)
      let iv ← holding [v, ov] (eval i X.env)
      standAt pos
      holding [v, ov, iv] (setItem ov iv v)
      release [v, ov, iv] []) := by intro _; rfl) : PG X (.Subscript o i pos) (gSub to ti t) := by
  intro pins s σ H v u Q I r h
  rw [ha]
  refine wpAny_bind (wpAny_holding (thn (ho pins s σ H _ I h) fun ov s1 ⟨x, H1, I1, r1, q1⟩ => ?_))
  refine wpAny_bind (wpAny_holding (thn (hi pins s1 σ H1 _ I1 q1) fun iv s2 ⟨y, H2, I2, r2, q2⟩ => ?_))
  refine wpAny_bind (wpAny_standAt (wpAny_bind (wpAny_holding (thn (hs pins s2 σ H2 x y v ov iv u _ I2 r1 r2 r q2) fun _ s3 ⟨H3, I3, q3⟩ => ?_))))
  exact wpAny_release ⟨σ, H3, I3, q3⟩
/-- target = value -/
def tAsg (te : TE) (g : TG) : TS := fun D σ H => te σ H fun x H1 => g x σ H1 D.nx
theorem ps_asg {tg e : Expr} {te : TE} {g : TG} (he : PE X e te) (hg : PG X tg g) (hs : swapsWithSole [tg] e pos.line X.env = pure false := by rfl) (hw : swappedStores [tg] e X.env = pure none := by rfl)
    (h1 : (assignEach [tg] X.env).map (·.2) = [assign tg X.env] := by rfl) : PS X (.Assign [tg] e pos) (tAsg te g) := by
  intro pins s σ H D I h
  refine wpAny_Assign_stores (thn (he pins s σ H _ I h) fun v s1 ⟨x, H1, I1, r1, q1⟩ => ?_) hs hw
  rw [h1]
  exact thn (hg pins s1 σ H1 x v _ I1 r1 q1) fun _ s2 q => q
/-- name = value -/
theorem ps_set {i : Nat} {x : Str} {e : Expr} {te : TE} {pos' : Pos} (hN : X.N.Nodup) (hi : X.N[i]? = some x) (hx : Loc X.env.scope x) (he : PE X e te) (hs : swapsWith e (some (.Name x pos')) pos.line X.env = pure false := by rfl) (hf : X.fn x = true ∨ X.env.scope.names.lookup x = some .local := by first | exact .inl rfl | exact .inr rfl | assumption) :
    PS X (.Assign [.Name x pos'] e pos) (tAsg te (gName i)) := by
  intro pins s σ H D I h
  refine wpAny_Assign_Name (thn (he pins s σ H _ I h) fun v s1 ⟨y, H1, I1, r1, q1⟩ => ?_) hs
  exact store_ok I1 hN hi hx r1 (fun s2 I2 => ⟨_, H1, I2, q1⟩) hf
/-- name op= e -/
def tAug (i : Nat) (te : TE) (ti : TIp) : TS := fun D σ H => ∃ x, σ[i]? = some (some x) ∧ te σ H fun y H1 => ti x y H1 fun z H2 => D.nx (σ.set i (some z)) H2
theorem ps_aug {i : Nat} {x : Str} {e : Expr} {te : TE} {op : Operator} {ti : TIp} {pos' : Pos} (hN : X.N.Nodup) (hi : X.N[i]? = some x) (hx : Loc X.env.scope x) (he : PE X e te) (ho : PIp X op ti) (hf : X.fn x = true ∨ X.env.scope.names.lookup x = some .local := by first | exact .inl rfl | exact .inr rfl | assumption) :
    PS X (.AugAssign (.Name x pos') op e pos) (tAug i te ti) := by
  intro pins s σ H D I h
  obtain ⟨v, e1, h⟩ := h
  obtain ⟨m, hn, hl⟩ := I.loc
  have vis : Vis X.env.scope x := by rcases hx with k | k; exact .inl k; exact .inr (.inl k)
  obtain ⟨u, r, l⟩ := hl i x v hi e1 vis
  refine wpAny_AugAssign_Name ?_
  have go : wpAny (model X.prog X.w) X.A (eval e X.env) (fun w s₂ => wpAny (model X.prog X.w) X.A (inplaceOp op u w) (fun r s₃ => wpAny (model X.prog X.w) X.A (storeName X.env x r) (fun _ => SP X pins D .next) X.xe s₃) X.xe s₂) X.xe s := by
    refine thn (he pins s σ H _ I h) fun w s1 ⟨y, H1, I1, r1, q1⟩ => ?_
    refine thn (ho pins s1 σ H1 v y u w _ I1 r r1 q1) fun z s2 ⟨zv, H2, I2, r2, q2⟩ => ?_
    exact store_ok I2 hN hi hx r2 (fun s3 I3 => ⟨_, H2, I3, q2⟩) hf
  rcases l with ⟨hk, hm⟩ | ⟨hk, c, hc, hcell⟩
  · exact wpAny_loadName_local I.ok.kind hk hn hm go
  · rcases hk with hk | hk
    · exact wpAny_loadName_cell I.ok.kind hk hc hcell go
    · rcases hx with k | k
      · have : X.env.scope.names.lookup x = some .free := hk
        rw [k] at this; cases this
      · have : X.env.scope.names.lookup x = some .free := hk
        rw [k] at this; cases this
/-- ints -/
def ipI (f : Int → Int → Int) : TIp := fun x y H Q => ∃ i j, x = .int i ∧ y = .int j ∧ Q (.int (f i j)) H
theorem ip_add : PIp X .Add (ipI fun i j => i + j) := by
  intro pins s σ H x y v u Q I r1 r2 h
  obtain ⟨i, j, e1, e2, q⟩ := h
  subst e1; subst e2
  obtain ⟨t, rfl⟩ := r1
  obtain ⟨t', rfl⟩ := r2
  exact iadd_int ⟨.int _, H, I.tok _, ⟨_, rfl⟩, q⟩
end

/-! ### while -/
section
variable {X : Cx} {pos : Pos}
/-- the invariant W with its measure -/
def tWhile (c : TT) (tb : TS) : TS := fun D σ H => ∃ W : Nat → St → Hp → Prop, (∃ m, W m σ H) ∧ ∀ m σ H, W m σ H →
  c σ H fun b H1 => if b = true then ∃ N : St → Hp → Prop, (∀ σ' H', N σ' H' → ∃ m', m' < m ∧ W m' σ' H') ∧ tb { D with nx := N, ct := N, bk := D.nx } σ H1 else D.nx σ H1
theorem ps_while {c : Expr} {body : List Stmt} {tc : TT} {tb : TS} (hp : PassesOwn (model X.prog X.w) X.A X.env X.xe) (hc : PT X c tc) (hb : PSs X body tb) : PS X (.While c body [] pos) (tWhile tc tb) := by
  intro pins s σ H D I h
  obtain ⟨W, ⟨m0, w0⟩, turn⟩ := h
  refine wpAny_While (codeAny_whileLoop (fun n s' => ∃ σ' H', Inv X pins σ' H' s' ∧ W n σ' H') ?_ m0 ⟨σ, H, I, w0⟩)
  rintro n s1 ⟨σ1, H1, I1, w1⟩
  refine wpAny_passesOwn hp (thn (hc pins s1 σ1 H1 _ I1 (turn n σ1 H1 w1)) fun b s2 ⟨H2, I2, q2⟩ => ?_)
  cases b with
  | true =>
    obtain ⟨N, hN, q2⟩ := q2
    rw [if_pos rfl]
    refine wpAny_passesOwn hp (thn (hb pins s2 σ1 H2 _ I2 q2) fun f s3 q3 => ?_)
    cases f with
    | next =>
      obtain ⟨σ3, H3, I3, n3⟩ := q3
      obtain ⟨m', hm, w3⟩ := hN σ3 H3 n3
      exact ⟨m', hm, σ3, H3, I3, w3⟩
    | cont =>
      obtain ⟨σ3, H3, I3, n3⟩ := q3
      obtain ⟨m', hm, w3⟩ := hN σ3 H3 n3
      exact ⟨m', hm, σ3, H3, I3, w3⟩
    | brk => exact q3
    | ret v => exact q3
  | false =>
    rw [if_neg Bool.false_ne_true]
    exact wpAny_execs_nil ⟨σ1, H2, I2, q2⟩
end

/-! ### what a loop or a comprehension walks -/
/-- at turn i: it yields x (the heap may grow), or it stops -/
structure It where
  go : Nat → Hp → Prop
  yld : Nat → Hp → V → Hp → Prop
  stop : Nat → Hp → Prop
/-- the iterator's own objects may turn: they are not the frame's, not pinned, younger than the entry (or a comprehension's own) -/
def FpOk (X : Cx) (pins : List (Addr × Obj)) (H : Hp) (b : Addr) : Prop :=
  H b = none ∧ b ≠ X.env.locals ∧ b ∉ X.fs ∧ (b ∈ X.ex ∨ X.s_0.heap.objs.size ≤ b) ∧ (∀ x c, X.env.cells.lookup x = some c → c ≠ b) ∧ ∀ p ∈ X.pn ++ pins, p.1 ≠ b
theorem Inv.fpOk {X : Cx} {pins : List (Addr × Obj)} {σ : St} {H H' : Hp} {s : Shared} {b : Addr} (I : Inv X pins σ H s) (hb : s.heap.objs.size ≤ b) (hn : H' b = none) : FpOk X pins H' b := by
  refine ⟨hn, Nat.ne_of_gt (Nat.lt_of_lt_of_le I.lt hb), I.nofs hb, .inr (Nat.le_trans I.sz hb), fun x c e z => ?_, fun p hp z => ?_⟩
  · obtain ⟨v, q⟩ := I.cell x c e
    exact absurd (Nat.lt_of_lt_of_le q.lt (by rw [z]; exact hb)) (Nat.lt_irrefl _)
  · exact absurd (Nat.lt_of_lt_of_le (Heap.lt_size (I.pin p hp).1) (by rw [z]; exact hb)) (Nat.lt_irrefl _)
structure Turn (P : Program) (w : World) (K : PySem.W.Frag) (tg : Expr) (J : It) (fp : List Addr) (it : Addr) (tn : Nat → Heap → Prop) : Prop where
  mem : it ∈ fp
  obj : ∀ i h, tn i h → ∀ b ∈ fp, ∃ o, h.get? b = some o ∧ ∀ v, o.data ≠ .cell v
  keep : ∀ i h h', tn i h → (∀ b ∈ fp, ∀ o, h.get? b = some o → h'.get? b = some o) → tn i h'
  item : ∀ (X : Cx), X.prog = P → X.w = w → X.K = K → X.calm = true → ∀ (i : Nat) (pins : List (Addr × Obj)) (s : Shared) (σ : St) (H : Hp) (E : Value → Shared → Prop), Inv X pins σ H s → (∀ b ∈ fp, FpOk X pins H b) → tn i s.heap → J.go i H →
    wpAny (model P w) X.A (pyNext (.ref it)) (fun r s1 => ∃ u, r = some u ∧
      wpAny (model P w) X.A (letOwnedTupleGo tg (.ref it) u) (fun _ s2 => ∃ x H', Inv X pins σ H' s2 ∧ RelV x u ∧ J.yld i H x H' ∧ tn (i + 1) s2.heap ∧ ∀ b ∈ fp, H' b = none) E s1) E s
  done : ∀ (X : Cx), X.prog = P → X.w = w → X.K = K → X.calm = true → ∀ (i : Nat) (pins : List (Addr × Obj)) (s : Shared) (σ : St) (H : Hp) (E : Value → Shared → Prop), Inv X pins σ H s → (∀ b ∈ fp, FpOk X pins H b) → tn i s.heap → J.stop i H →
    wpAny (model P w) X.A (pyNext (.ref it)) (fun r s1 => r = none ∧ Inv X pins σ H s1) E s
  self : ∀ (A : Around) (i : Nat) (s : Shared) (Q : Value → Shared → Prop) (E : Value → Shared → Prop), tn i s.heap → Q (.ref it) s → wpAny (model P w) A (pyIter (.ref it)) Q E s
abbrev TI := St → Hp → (It → Hp → Prop) → Prop
/-- an iterator has come -/
def PIE (X : Cx) (pins : List (Addr × Obj)) (σ : St) (tg : Expr) (R : It → Hp → Prop) (itv : Value) (s2 : Shared) : Prop :=
  ∃ (it : Addr) (fp : List Addr) (tn : Nat → Heap → Prop) (J : It) (H' : Hp), itv = .ref it ∧ Inv X pins σ H' s2 ∧ Turn X.prog X.w X.K tg J fp it tn ∧ tn 0 s2.heap ∧ (∀ b ∈ fp, FpOk X pins H' b) ∧ R J H'
def PI (X : Cx) (tg iter : Expr) (wi : TI) : Prop :=
  ∀ (pins : List (Addr × Obj)) (s : Shared) (σ : St) (H : Hp) (R : It → Hp → Prop), Inv X pins σ H s → wi σ H R →
    wpAny (model X.prog X.w) X.A (eval iter X.env) (fun v s1 => wpAny (model X.prog X.w) X.A (pyIter v) (PIE X pins σ tg R) X.xe s1) X.xe s

/-- the step ahead of the store is nothing for an iterator that keeps no tuple -/
theorem go_of {M : Model} {A : Around} {E : Value → Shared → Prop} {s : Shared} {tg : Expr} {it : Addr} {u : Value} {o : Obj} {n : String} {vs : Array Value} {Q : Unit → Shared → Prop} (ho : s.heap.get? it = some o) (hc : o.cls = .type n) (hd : o.data = .fields vs)
    (hn : ["enumerate", "zip", "dict_itemiterator", "dict_reverseitemiterator", "odict_iterator", "itertools.zip_longest", "itertools.pairwise"].contains n = false) (hQ : Q () s) : wpAny M A (letOwnedTupleGo tg (.ref it) u) Q E s := by
  unfold letOwnedTupleGo
  cases tg <;> first
    | exact wpAny_pure hQ
    | (cases u <;> first
        | exact wpAny_pure hQ
        | (refine wpAny_bind (wpAny_load ho ?_)
           rw [hc, hd]
           show wpAny M A (if (["enumerate", "zip", "dict_itemiterator", "dict_reverseitemiterator", "odict_iterator", "itertools.zip_longest", "itertools.pairwise"].contains n && vs[0]? == some (rawInt _)) = true then _ else _) Q E s
           rw [if_neg (by intro h; rw [hn, Bool.false_and] at h; cases h)]
           exact wpAny_pure hQ))

/-- the list at a, as it stands at each turn (a loop may append to it) -/
def Itl (K : PySem.W.Frag) (a : Addr) : It :=
  ⟨fun i H => ∃ xs x, SqL K H a xs ∧ xs[i]? = some x, fun i H x H' => H' = H ∧ ∀ xs, SqL K H a xs → xs[i]? = some x, fun i H => ∃ xs, SqL K H a xs ∧ xs.length ≤ i⟩
/-- lo, lo + 1, .. (n of them) -/
def Itr (lo : Int) (n : Nat) : It := ⟨fun i _ => i < n, fun i H x H' => H' = H ∧ x = .int (lo + i), fun i _ => n ≤ i⟩
theorem turn_list {P : Program} {w : World} {K : PySem.W.Frag} {tg : Expr} (a it : Addr) : Turn P w K tg (Itl K a) [it] it (fun i h => h.IsListIter it a i) where
  mem := by simp
  obj := fun i h st b hb => by
    have e : b = it := by simpa using hb
    subst e
    obtain ⟨o, e, c, d⟩ := st
    exact ⟨o, e, fun v z => by rw [d] at z; cases z⟩
  keep := fun i h h' st k => st.at fun o e => k it (by simp) o e
  item := by
    intro X hP hw hK hc i pins s σ H E I hf st hg
    subst hP hw hK
    obtain ⟨xs, x, hq, hx⟩ := hg
    obtain ⟨its, rv, p, hz⟩ := I.list hq
    obtain ⟨u, hu, ru⟩ := rv.get hx
    obtain ⟨f0, f1, f2, f3, f4, f5⟩ := hf it (by simp)
    refine wpAny_pyNext_list_item st p.isList (x := u) (by simpa using hu) fun h' st' sb => ?_
    have I1 : Inv X pins σ H { s with heap := h' } := I.turned (t' := s.toks) (fun b o hb e => (sb.2 b hb).trans e) f0 f1 f3 f4 f5
    obtain ⟨o, e, c, d⟩ := id st'
    exact ⟨u, rfl, go_of (s := { s with heap := h' }) e c d (by decide) ⟨x, H, I1, ru, ⟨rfl, fun ys hy => by rw [I.list_inj hy hq]; exact hx⟩, st', fun b hb => (hf b hb).1⟩⟩
  done := by
    intro X hP hw hK hc i pins s σ H E I hf st hg
    subst hP hw hK
    obtain ⟨xs, hq, hx⟩ := hg
    obtain ⟨its, rv, p, hz⟩ := I.list hq
    obtain ⟨f0, f1, f2, f3, f4, f5⟩ := hf it (by simp)
    have hl := rv.length
    exact wpAny_pyNext_list_end (I.ok.hd hc) st p.isList (by simp; omega) fun h' eb => ⟨rfl, I.turned (t' := s.toks) (fun b o hb e => eb b o hb e) f0 f1 f3 f4 f5⟩
  self := fun _ _ _ _ _ st h => wpAny_pyIter_listiter st h
theorem turn_range {P : Program} {w : World} {K : PySem.W.Frag} {tg : Expr} (it : Addr) (lo : Int) (n : Nat) : Turn P w K tg (Itr lo n) [it] it (fun i h => IsRangeIter h it (lo + (i : Nat) * 1) ((n : Int) - (i : Nat)) 1) where
  mem := by simp
  obj := fun i h st b hb => by
    have e : b = it := by simpa using hb
    subst e
    exact ⟨_, st, fun v z => by
      have z' : Data.fields _ = Data.cell v := z
      cases z'⟩
  keep := fun i h h' st k => k it (by simp) _ st
  item := by
    intro X hP hw hK hc i pins s σ H E I hf st hg
    subst hP hw hK
    obtain ⟨f0, f1, f2, f3, f4, f5⟩ := hf it (by simp)
    have W := Walks.range (prog := X.prog) (w := X.w) (I.ok.hd hc) it lo 1 n
    refine W.item i s _ _ hg st fun v h' tk hv st' kk => ?_
    obtain ⟨t, rfl⟩ := hv
    have I1 : Inv X pins σ H { s with heap := h', toks := tk } := I.turned (fun b o hb e => kk b o (by simpa using hb) e) f0 f1 f3 f4 f5
    refine ⟨_, rfl, go_of (s := { s with heap := h', toks := tk }) (n := "range_iterator") st' rfl rfl (by decide) ⟨.int (lo + i), H, I1, ⟨t, ?_⟩, ⟨rfl, rfl⟩, st', fun b hb => (hf b hb).1⟩⟩
    rw [Int.mul_one]
  done := by
    intro X hP hw hK hc i pins s σ H E I hf st hg
    subst hP hw hK
    obtain ⟨f0, f1, f2, f3, f4, f5⟩ := hf it (by simp)
    exact wpAny_pyNext_range_end (I.ok.hd hc) st (by have : n ≤ i := hg; omega) fun h' eb => ⟨rfl, I.turned (t' := s.toks) (fun b o hb e => eb b o hb e) f0 f1 f3 f4 f5⟩
  self := fun _ _ _ _ _ st h => wpAny_pyIter_rangeiter st h
end L2

namespace L2
open PySem PySem.Spec PyProof.Rows
section
variable {X : Cx} {tg : Expr}
def iList (K : PySem.W.Frag) (tl : TE) : TI := fun σ H R => tl σ H fun x H1 => ∃ a, x = .ref a ∧ (∃ xs, SqL K H1 a xs) ∧ R (Itl K a) H1
theorem pi_list {l : Expr} {tl : TE} (hl : PE X l tl) : PI X tg l (iList X.K tl) := by
  intro pins s σ H R I h
  refine thn (hl pins s σ H _ I h) fun v s1 ⟨x, H1, I1, r1, q1⟩ => ?_
  obtain ⟨a, e, ⟨xs, hq⟩, q⟩ := q1
  subst e
  cases r1
  obtain ⟨its, rv, p, hz⟩ := I1.list hq
  refine wpAny_pyIter_list p.isList ?_
  refine ⟨s1.heap.objs.size, [s1.heap.objs.size], _, _, H1, rfl, I1.kept (t' := s1.toks) fun b o e => Heap.get?_push_of_some _ e, turn_list a _, ⟨_, Heap.get?_push_size _ rfl, rfl, rfl⟩, fun b hb => ?_, q⟩
  have e : b = s1.heap.objs.size := by simpa using hb
  subst e
  exact I1.fpOk (Nat.le_refl _) (I1.hok.fresh (Nat.le_refl _))
/-- a range object just made, walked -/
theorem range_it {pins : List (Addr × Obj)} {σ : St} {H : Hp} {s : Shared} {R : It → Hp → Prop} {E : Value → Shared → Prop} {lo hi : Int} {t u v : Tok} {tk : Nat} (I : Inv X pins σ H s) (h1 : -(2 ^ 62) ≤ lo) (h2 : lo < 2 ^ 62) (h3 : -(2 ^ 62) ≤ hi) (h4 : hi < 2 ^ 62)
    (q : R (Itr lo (hi - lo).toNat) H) : wpAny (model X.prog X.w) X.A (pyIter (.ref s.heap.objs.size)) (PIE X pins σ tg R) E { s with heap := s.heap.push { cls := .type "range", data := .fields #[.int lo t, .int hi u, .int 1 v] }, toks := tk } := by
  refine wpAny_pyIter_range (IsRange.new ..) (small_one h1 h2 h3 h4) ?_
  have I1 : Inv X pins σ H { s with heap := s.heap.push { cls := .type "range", data := .fields #[.int lo t, .int hi u, .int 1 v] }, toks := tk } := I.kept fun b o e => Heap.get?_push_of_some _ e
  refine ⟨(s.heap.push { cls := .type "range", data := .fields #[.int lo t, .int hi u, .int 1 v] }).objs.size, [(s.heap.push { cls := .type "range", data := .fields #[.int lo t, .int hi u, .int 1 v] }).objs.size], _, _, H, rfl,
    I1.kept (t' := tk) fun b o e => Heap.get?_push_of_some _ e, turn_range _ lo (hi - lo).toNat, ?_, fun b hb => ?_, q⟩
  · have e1 : lo + ((0 : Nat) : Int) * 1 = lo := by simp
    have e2 : (((hi - lo).toNat : Nat) : Int) - ((0 : Nat) : Int) = Builtin.Range.rangeSize lo hi 1 := by rw [rangeSize_one]; split <;> omega
    show IsRangeIter _ _ (lo + ((0 : Nat) : Int) * 1) ((((hi - lo).toNat : Nat) : Int) - ((0 : Nat) : Int)) 1
    rw [e1, e2]
    exact Heap.get?_push_size _ rfl
  · have e : b = (s.heap.push { cls := .type "range", data := .fields #[.int lo t, .int hi u, .int 1 v] }).objs.size := by simpa using hb
    subst e
    exact I1.fpOk (Nat.le_refl _) (I1.hok.fresh (Nat.le_refl _))
def iRng1 (ta : TA) : TI := fun σ H R => ta σ H fun vs H1 => ∃ j : Int, vs = [.int j] ∧ -(2 ^ 62) ≤ j ∧ j < 2 ^ 62 ∧ R (Itr 0 j.toNat) H1
theorem pi_range1 {a : Expr} {ta : TA} {p pos : Pos} (hg : Gl X "range") (hm : X.mg "range" = none) (ha : PA X [a] ta) (hs : starEach [a] X.env = [(false, eval a X.env)] := by rfl) : PI X tg (.Call (.Name "range" p) [a] [] pos) (iRng1 ta) := by
  intro pins s σ H R I h
  refine Call_ (ld_blt I hg hm boot_range (PyProof.Rows.callWith_type1 (thn (ha pos pins s σ H _ I h) fun us s1 ⟨vs, H1, I1, r1, q1⟩ => ?_) hs rfl))
  obtain ⟨j, e, q1, q2, q⟩ := q1
  subst e
  cases r1 with
  | cons r rr =>
    cases rr
    obtain ⟨t, rfl⟩ := r
    exact call_range_1 (range_it I1 (by omega) (by omega) q1 q2 (by simpa using q))

/-! ### for -/
/-- W: the invariant by the turn and a measure; N: what the body is to reach -/
def tFor (wi : TI) (g : TG) (tb : TS) : TS := fun D σ H => wi σ H fun J H1 => ∃ W : Nat → Nat → St → Hp → Prop, (∃ m, W 0 m σ H1) ∧ ∀ i m σ H, W i m σ H →
  (J.stop i H ∧ D.nx σ H) ∨ (J.go i H ∧ ∃ N : St → Hp → Prop, (∀ σ' H', N σ' H' → ∃ m', m' < m ∧ W (i + 1) m' σ' H') ∧ ∀ x H', J.yld i H x H' → g x σ H' fun σ2 H2 => tb { D with nx := N, ct := N, bk := D.nx } σ2 H2)
/-- the records at fp as they stand -/
def pinsAt (fp : List Addr) (h : Heap) : List (Addr × Obj) := fp.filterMap fun b => (h.get? b).map fun o => (b, o)
theorem mem_pinsAt {fp : List Addr} {h : Heap} {b : Addr} {o : Obj} (hb : b ∈ fp) (e : h.get? b = some o) : (b, o) ∈ pinsAt fp h := List.mem_filterMap.mpr ⟨b, hb, by rw [e]; rfl⟩
theorem of_pinsAt {fp : List Addr} {h : Heap} {p : Addr × Obj} (hp : p ∈ pinsAt fp h) : p.1 ∈ fp ∧ h.get? p.1 = some p.2 := by
  obtain ⟨b, hb, e⟩ := List.mem_filterMap.mp hp
  cases q : h.get? b with
  | none => rw [q] at e; cases e
  | some o =>
    rw [q] at e
    have e' : (b, o) = p := Option.some.inj e
    subst e'
    exact ⟨hb, q⟩
theorem Inv.pinned {pins : List (Addr × Obj)} {σ : St} {H : Hp} {s : Shared} {fp : List Addr} (I : Inv X pins σ H s) (hf : ∀ b ∈ fp, FpOk X pins H b) (ho : ∀ b ∈ fp, ∃ o, s.heap.get? b = some o ∧ ∀ v, o.data ≠ .cell v) : Inv X (pins ++ pinsAt fp s.heap) σ H s :=
  I.pins_of fun p hp => (List.mem_append.mp hp).elim (fun z => I.pin p (List.mem_append_right _ z)) fun z => by
    obtain ⟨hb, e⟩ := of_pinsAt z
    obtain ⟨f0, f1, f2, _⟩ := hf p.1 hb
    obtain ⟨o, e', d⟩ := ho p.1 hb
    rw [e] at e'; cases e'
    exact ⟨e, f0, f1, f2, d⟩
theorem Inv.unpinned {pins pl : List (Addr × Obj)} {σ : St} {H : Hp} {s : Shared} (I : Inv X (pins ++ pl) σ H s) : Inv X pins σ H s := I.pins_of fun p hp => I.pin p (List.mem_append_right _ (List.mem_append_left _ hp))
theorem ps_for {iter : Expr} {body : List Stmt} {wi : TI} {g : TG} {tb : TS} {pos : Pos} (hp : PassesOwn (model X.prog X.w) X.A X.env X.xe) (hc : X.calm = true) (hi : PI X tg iter wi) (hg : PG X tg g) (hb : PSs X body tb)
    (hs : ∀ x, foldedSetIterable iter X.env x = pure x := by intro _; rfl) : PS X (.For tg iter body [] pos) (tFor wi g tb) := by
  intro pins s σ H D I h
  refine wpAny_For (thn (hi pins s σ H _ I h) fun v s1 h1 => thn h1 fun itv s2 h2 => ?_) hs
  obtain ⟨it, fp, tn, J, H2, e, I2, T, st2, f2, W, ⟨m0, w0⟩, turn⟩ := h2
  subst e
  -- what stays true of the iterator's objects through the loop
  have stat : ∀ {H' : Hp}, (∀ b ∈ fp, H' b = none) → ∀ b ∈ fp, FpOk X pins H' b := fun hn b hb => ⟨hn b hb, (f2 b hb).2⟩
  refine codeAny_forLoop_any (fun n s' => ∃ i σ' H', Inv X pins σ' H' s' ∧ tn i s'.heap ∧ (∀ b ∈ fp, H' b = none) ∧ W i n σ' H') ?_ m0 ⟨0, σ, H2, I2, st2, fun b hb => (f2 b hb).1, w0⟩
  rintro n s3 ⟨i, σ3, H3, I3, st3, fr3, w3⟩
  rcases turn i n σ3 H3 w3 with ⟨stop, qn⟩ | ⟨go, N, hN, step⟩
  · refine wpAny_passesOwn hp (thn (T.done X rfl rfl rfl hc i pins s3 σ3 H3 X.xe I3 (stat fr3) st3 stop) fun r s4 ⟨hr, I4⟩ => ?_)
    subst hr
    exact wpAny_execs_nil ⟨σ3, H3, I4, qn⟩
  · refine wpAny_passesOwn hp (thn (T.item X rfl rfl rfl hc i pins s3 σ3 H3 X.xe I3 (stat fr3) st3 go) fun r s4 ⟨u, hr, h4⟩ => ?_)
    subst hr
    refine wpAny_passesOwn hp (thn h4 fun _ s5 ⟨x, H5, I5, r5, y5, st5, fr5⟩ => ?_)
    have I5' := I5.pinned (stat fr5) (T.obj _ _ st5)
    refine wpAny_passesOwn hp (thn (hg _ s5 σ3 H5 x u _ I5' r5 (step x H5 y5)) fun _ s6 ⟨σ6, H6, I6, q6⟩ => ?_)
    refine wpAny_passesOwn hp (thn (hb _ s6 σ6 H6 _ I6 q6) fun f s7 q7 => ?_)
    have again : ∀ {σ7 : St} {H7 : Hp}, Inv X (pins ++ pinsAt fp s5.heap) σ7 H7 s7 → N σ7 H7 → ∃ m, m < n ∧ ∃ i σ' H', Inv X pins σ' H' s7 ∧ tn i s7.heap ∧ (∀ b ∈ fp, H' b = none) ∧ W i m σ' H' := fun {σ7 H7} I7 n7 => by
      obtain ⟨m', hm, w7⟩ := hN σ7 H7 n7
      refine ⟨m', hm, i + 1, σ7, H7, I7.unpinned, T.keep _ _ _ st5 fun b hb o e => (I7.pin (b, o) (List.mem_append_right _ (List.mem_append_right _ (mem_pinsAt hb e)))).1, fun b hb => ?_, w7⟩
      obtain ⟨o, e, d⟩ := T.obj _ _ st5 b hb
      exact (I7.pin (b, o) (List.mem_append_right _ (List.mem_append_right _ (mem_pinsAt hb e)))).2.1
    cases f with
    | next => obtain ⟨σ7, H7, I7, n7⟩ := q7; exact again I7 n7
    | cont => obtain ⟨σ7, H7, I7, n7⟩ := q7; exact again I7 n7
    | brk => obtain ⟨σ7, H7, I7, q7⟩ := q7; exact ⟨σ7, H7, I7.unpinned, q7⟩
    | ret v => obtain ⟨x7, σ7, H7, I7, r7, q7⟩ := q7; exact ⟨x7, σ7, H7, I7.unpinned, r7, q7⟩
end

/-! ### the forms one uses -/
/-- over a list that the body leaves as it is -/
theorem for_list {K : PySem.W.Frag} {a : Addr} {xs : List V} {g : TG} {tb : TS} {D : Ends} {σ : St} {H : Hp} (Pv : Nat → St → Hp → Prop) (h0 : Pv 0 σ H) (hl : ∀ i σ H, i ≤ xs.length → Pv i σ H → SqL K H a xs)
    (hs : ∀ i x σ H, xs[i]? = some x → Pv i σ H → g x σ H fun σ2 H2 => tb { D with nx := Pv (i + 1), ct := Pv (i + 1), bk := D.nx } σ2 H2) (hd : ∀ σ H, Pv xs.length σ H → D.nx σ H) :
    ∃ W : Nat → Nat → St → Hp → Prop, (∃ m, W 0 m σ H) ∧ ∀ i m σ H, W i m σ H →
      ((Itl K a).stop i H ∧ D.nx σ H) ∨ ((Itl K a).go i H ∧ ∃ N : St → Hp → Prop, (∀ σ' H', N σ' H' → ∃ m', m' < m ∧ W (i + 1) m' σ' H') ∧ ∀ x H', (Itl K a).yld i H x H' → g x σ H' fun σ2 H2 => tb { D with nx := N, ct := N, bk := D.nx } σ2 H2) := by
  refine ⟨fun i m σ H => m = xs.length - i ∧ i ≤ xs.length ∧ Pv i σ H, ⟨xs.length, by simp, Nat.zero_le _, h0⟩, ?_⟩
  rintro i m σ H ⟨rfl, hi, p⟩
  have q := hl i σ H hi p
  by_cases hlt : i < xs.length
  · refine .inr ⟨⟨xs, xs[i], q, by simp [hlt]⟩, Pv (i + 1), fun σ' H' p' => ⟨xs.length - (i + 1), by omega, rfl, hlt, p'⟩, fun x H' y => ?_⟩
    obtain ⟨e, y⟩ := y
    subst e
    exact hs i x σ _ (y xs q) p
  · have e : i = xs.length := by omega
    subst e
    exact .inl ⟨⟨xs, q, Nat.le_refl _⟩, hd σ H p⟩
end L2

namespace L2
open PySem PySem.Spec PyProof.Rows

abbrev R2 := V → V → Hp → VK → Prop
/-- a two-place operation on values: f is binaryOp op, inplaceOp op or compareOp op -/
def OpR (X : Cx) (f : Value → Value → Sem Value) (r : R2) : Prop :=
  ∀ (pins : List (Addr × Obj)) (s : Shared) (σ : St) (H : Hp) (x y : V) (v u : Value) (Q : VK), Inv X pins σ H s → RelV x v → RelV y u → r x y H Q →
    wpAny (model X.prog X.w) X.A (f v u) (EP X pins σ Q) X.xe s
/-- a one-place operation -/
def UnR (X : Cx) (f : Value → Sem Value) (r : V → Hp → VK → Prop) : Prop :=
  ∀ (pins : List (Addr × Obj)) (s : Shared) (σ : St) (H : Hp) (x : V) (v : Value) (Q : VK), Inv X pins σ H s → RelV x v → r x H Q →
    wpAny (model X.prog X.w) X.A (f v) (EP X pins σ Q) X.xe s
/-- a call of a value that is known (a builtin, a type) with values -/
def CallR (X : Cx) (f : Value) (r : List V → Hp → VK → Prop) : Prop :=
  ∀ (pins : List (Addr × Obj)) (s : Shared) (σ : St) (H : Hp) (xs : List V) (us : List Value) (Q : VK), Inv X pins σ H s → Vals xs us → r xs H Q →
    wpAny (model X.prog X.w) X.A (call f us) (EP X pins σ Q) X.xe s

def tOp (r : R2) (ta tb : TE) : TE := fun σ H Q => ta σ H fun x H1 => tb σ H1 fun y H2 => r x y H2 Q
def tUn (r : V → Hp → VK → Prop) (ta : TE) : TE := fun σ H Q => ta σ H fun x H1 => r x H1 Q
/-- ints in, under C, and a value out -/
def rI (C : Int → Int → Prop) (g : Int → Int → V) : R2 := fun x y H Q => ∃ i j, x = .int i ∧ y = .int j ∧ C i j ∧ Q (g i j) H
def rI0 (g : Int → Int → V) : R2 := fun x y H Q => ∃ i j, x = .int i ∧ y = .int j ∧ Q (g i j) H
def rU (g : Int → V) : V → Hp → VK → Prop := fun x H Q => ∃ i, x = .int i ∧ Q (g i) H

section
variable {X : Cx} {a b c : Expr} {ta tb tc : TE} {pos : Pos}

theorem binT (ha : PE X a ta) (hb : PE X b tb) {pins : List (Addr × Obj)} {s : Shared} {σ : St} {H : Hp} {R : V → V → Hp → Prop} (I : Inv X pins σ H s)
    (h : ta σ H fun x H1 => tb σ H1 fun y H2 => R x y H2) {Q : Value → Shared → Prop} {f : Value → Value → Sem Value}
    (hf : ∀ v u s2 x y H2, Inv X pins σ H2 s2 → RelV x v → RelV y u → R x y H2 → wpAny (model X.prog X.w) X.A (f v u) Q X.xe s2) :
    wpAny (model X.prog X.w) X.A (eval a X.env) (fun v s₁ => wpAny (model X.prog X.w) X.A (eval b X.env) (fun u s₂ => wpAny (model X.prog X.w) X.A (f v u) Q X.xe s₂) X.xe s₁) X.xe s := by
  refine thn (ha pins s σ H _ I h) fun v s1 ⟨x, H1, I1, r1, q1⟩ => ?_
  refine thn (hb pins s1 σ H1 _ I1 q1) fun u s2 ⟨y, H2, I2, r2, q2⟩ => ?_
  exact hf v u s2 x y H2 I2 r1 r2 q2

theorem pe_op {op : Operator} {r : R2} (ho : OpR X (binaryOp op) r) (ha : PE X a ta) (hb : PE X b tb) : PE X (.BinOp a op b pos) (tOp r ta tb) := by
  intro pins s σ H Q I h
  exact wpAny_BinOp (binT ha hb I h fun v u s2 x y H2 I2 rx ry q => ho pins s2 σ H2 x y v u Q I2 rx ry q)
theorem pe_un {op : UnaryOp} {r : V → Hp → VK → Prop} (ho : UnR X (unaryOp op) r) (ha : PE X a ta) : PE X (.UnaryOp op a pos) (tUn r ta) := by
  intro pins s σ H Q I h
  exact UnaryOp_ (thn (ha pins s σ H _ I h) fun v s1 ⟨x, H1, I1, r1, q1⟩ => ho pins s1 σ H1 x v Q I1 r1 q1)

/-! ### ints -/
theorem opI {f : Value → Value → Sem Value} {C : Int → Int → Prop} {g : Int → Int → Int}
    (rule : ∀ (i j : Int) (t u : Tok) (s : Shared) (Q : Value → Shared → Prop) (E : Value → Shared → Prop), C i j → Q (.int (g i j) s.toks) { s with toks := s.toks + 1 } → wpAny (model X.prog X.w) X.A (f (.int i t) (.int j u)) Q E s) :
    OpR X f (rI C fun i j => .int (g i j)) := by
  intro pins s σ H x y v u Q I rx ry h
  obtain ⟨i, j, rfl, rfl, hc, q⟩ := h
  obtain ⟨t, rfl⟩ := rx
  obtain ⟨t', rfl⟩ := ry
  exact rule i j t t' s _ _ hc ⟨.int (g i j), H, I.tok _, ⟨_, rfl⟩, q⟩
theorem opI0 {f : Value → Value → Sem Value} {g : Int → Int → Int}
    (rule : ∀ (i j : Int) (t u : Tok) (s : Shared) (Q : Value → Shared → Prop) (E : Value → Shared → Prop), Q (.int (g i j) s.toks) { s with toks := s.toks + 1 } → wpAny (model X.prog X.w) X.A (f (.int i t) (.int j u)) Q E s) :
    OpR X f (rI0 fun i j => .int (g i j)) := by
  intro pins s σ H x y v u Q I rx ry h
  obtain ⟨i, j, rfl, rfl, q⟩ := h
  obtain ⟨t, rfl⟩ := rx
  obtain ⟨t', rfl⟩ := ry
  exact rule i j t t' s _ _ ⟨.int (g i j), H, I.tok _, ⟨_, rfl⟩, q⟩
theorem opB0 {f : Value → Value → Sem Value} {g : Int → Int → Bool}
    (rule : ∀ (i j : Int) (t u : Tok) (s : Shared) (Q : Value → Shared → Prop) (E : Value → Shared → Prop), Q (.bool (g i j)) s → wpAny (model X.prog X.w) X.A (f (.int i t) (.int j u)) Q E s) :
    OpR X f (rI0 fun i j => .bl (g i j)) := by
  intro pins s σ H x y v u Q I rx ry h
  obtain ⟨i, j, rfl, rfl, q⟩ := h
  obtain ⟨t, rfl⟩ := rx
  obtain ⟨t', rfl⟩ := ry
  exact rule i j t t' s _ _ ⟨.bl (g i j), H, I, rfl, q⟩

def CMul (i j : Int) : Prop := (-(2 ^ 64) < i ∧ i < 2 ^ 64) ∨ (-(2 ^ 64) < j ∧ j < 2 ^ 64)
theorem CMul.ok {i j : Int} (h : CMul i j) : IntMulOk i j := by
  rcases h with ⟨h1, h2⟩ | ⟨h1, h2⟩
  · exact .of_left (intBits_le_64 h1 h2)
  · exact .of_right (intBits_le_64 h1 h2)

theorem op_add : OpR X (binaryOp .Add) (rI0 fun i j => .int (i + j)) := opI0 fun _ _ _ _ _ _ _ q => add_int q
theorem op_sub : OpR X (binaryOp .Sub) (rI0 fun i j => .int (i - j)) := opI0 fun _ _ _ _ _ _ _ q => sub_int q
theorem op_mul : OpR X (binaryOp .Mult) (rI CMul fun i j => .int (i * j)) := opI fun _ _ _ _ _ _ _ hc q => mul_int q hc.ok

theorem iop_mul : OpR X (inplaceOp .Mult) (rI CMul fun i j => .int (i * j)) := opI fun _ _ _ _ _ _ _ hc q => imul_int q hc.ok

theorem unI {f : Value → Sem Value} {g : Int → Int}
    (rule : ∀ (i : Int) (t : Tok) (s : Shared) (Q : Value → Shared → Prop) (E : Value → Shared → Prop), Q (.int (g i) s.toks) { s with toks := s.toks + 1 } → wpAny (model X.prog X.w) X.A (f (.int i t)) Q E s) :
    UnR X f (rU fun i => .int (g i)) := by
  intro pins s σ H x v Q I rx h
  obtain ⟨i, rfl, q⟩ := h
  obtain ⟨t, rfl⟩ := rx
  exact rule i t s _ _ ⟨.int (g i), H, I.tok _, ⟨_, rfl⟩, q⟩
theorem un_neg : UnR X (unaryOp .USub) (rU fun i => .int (-i)) := unI fun _ _ _ _ _ q => neg_int q

/-! ### bools among ints: n += (a < b) -/
end

/-! ### comparisons -/
/-- the scalars that == tells apart as data does -/
def scal : V → V → Bool
  | .non, .non => true | .non, .int _ => true | .int _, .non => true | .non, .bl _ => true | .bl _, .non => true | .non, .str _ => true | .str _, .non => true
  | .int _, .int _ => true | .bl _, .bl _ => true | .str _, .str _ => true | .byt _, .byt _ => true
  | .int _, .str _ => true | .str _, .int _ => true | .bl _, .str _ => true | .str _, .bl _ => true
  | _, _ => false
def rEq : R2 := fun x y H Q => scal x y = true ∧ Q (.bl (decide (x = y))) H
def rNe : R2 := fun x y H Q => scal x y = true ∧ Q (.bl (!decide (x = y))) H

theorem dec_int {i j : Int} : decide (V.int i = V.int j) = (i == j) := by
  rw [Bool.eq_iff_iff]
  simp
theorem dec_bl {i j : Bool} : decide (V.bl i = V.bl j) = (i == j) := by
  rw [Bool.eq_iff_iff]
  simp
theorem dec_str {i j : Str} : decide (V.str i = V.str j) = (i == j) := by
  rw [Bool.eq_iff_iff]
  simp
theorem dec_byt {i j : Array UInt8} : decide (V.byt i = V.byt j) = (i.toList == j.toList) := by
  rw [Bool.eq_iff_iff]
  cases i
  cases j
  simp

section
variable {X : Cx} {a b c : Expr} {ta tb tc : TE} {pos : Pos}
theorem fin_bl {pins : List (Addr × Obj)} {σ : St} {H : Hp} {s : Shared} {Q : VK} {k k' : Bool} (I : Inv X pins σ H s) (q : Q (.bl k) H) (e : k = k') : EP X pins σ Q (.bool k') s := by
  subst e
  exact ⟨.bl k, H, I, rfl, q⟩
theorem op_eq : OpR X (compareOp .Eq) rEq := by
  intro pins s σ H x y v u Q I rx ry h
  obtain ⟨hs, q⟩ := h
  cases x with
  | non =>
    cases rx
    cases y with
    | non => cases ry; exact PySem.EqNone.eq_none_none (fin_bl I q (by simp))
    | bl j => cases ry; exact PySem.EqNone.eq_none_bool (fin_bl I q (by simp))
    | int j => obtain ⟨t', rfl⟩ := ry; exact PySem.EqNone.eq_none_int (fin_bl I q (by simp))
    | str j => obtain ⟨t', rfl⟩ := ry; exact PySem.EqNone.eq_none_str (fin_bl I q (by simp))
    | _ => exact absurd (show false = true from hs) Bool.false_ne_true
  | bl i =>
    cases rx
    cases y with
    | non => cases ry; exact PySem.EqNone.eq_bool_none (fin_bl I q (by simp))
    | bl j => cases ry; exact eq_bool (fin_bl I q dec_bl)
    | str j => obtain ⟨t', rfl⟩ := ry; exact PySem.EqMixed.eq_bool_str (fin_bl I q (by simp))
    | _ => exact absurd (show false = true from hs) Bool.false_ne_true
  | int i =>
    obtain ⟨t, rfl⟩ := rx
    cases y with
    | non => cases ry; exact PySem.EqNone.eq_int_none (fin_bl I q (by simp))
    | int j => obtain ⟨t', rfl⟩ := ry; exact eq_int (fin_bl I q dec_int)
    | str j => obtain ⟨t', rfl⟩ := ry; exact PySem.EqMixed.eq_int_str (fin_bl I q (by simp))
    | _ => exact absurd (show false = true from hs) Bool.false_ne_true
  | str i =>
    obtain ⟨t, rfl⟩ := rx
    cases y with
    | non => cases ry; exact PySem.EqNone.eq_str_none (fin_bl I q (by simp))
    | bl j => cases ry; exact PySem.EqMixed.eq_str_bool (fin_bl I q (by simp))
    | int j => obtain ⟨t', rfl⟩ := ry; exact PySem.EqMixed.eq_str_int (fin_bl I q (by simp))
    | str j => obtain ⟨t', rfl⟩ := ry; exact eq_str (fin_bl I q dec_str)
    | _ => exact absurd (show false = true from hs) Bool.false_ne_true
  | byt i =>
    obtain ⟨t, rfl⟩ := rx
    cases y with
    | byt j => obtain ⟨t', rfl⟩ := ry; exact PySem.W.eq_bytes (fin_bl I q dec_byt)
    | _ => exact absurd (show false = true from hs) Bool.false_ne_true
  | _ => cases y <;> exact absurd (show false = true from hs) Bool.false_ne_true
theorem op_ne : OpR X (compareOp .NotEq) rNe := by
  intro pins s σ H x y v u Q I rx ry h
  obtain ⟨hs, q⟩ := h
  cases x with
  | non =>
    cases rx
    cases y with
    | non => cases ry; exact PySem.EqNone.ne_none_none (fin_bl I q (by simp))
    | bl j => cases ry; exact PySem.EqNone.ne_none_bool (fin_bl I q (by simp))
    | int j => obtain ⟨t', rfl⟩ := ry; exact PySem.EqNone.ne_none_int (fin_bl I q (by simp))
    | str j => obtain ⟨t', rfl⟩ := ry; exact PySem.EqNone.ne_none_str (fin_bl I q (by simp))
    | _ => exact absurd (show false = true from hs) Bool.false_ne_true
  | bl i =>
    cases rx
    cases y with
    | non => cases ry; exact PySem.EqNone.ne_bool_none (fin_bl I q (by simp))
    | bl j => cases ry; exact ne_bool (fin_bl I q (congrArg not dec_bl))
    | str j => obtain ⟨t', rfl⟩ := ry; exact PySem.EqMixed.ne_bool_str (fin_bl I q (by simp))
    | _ => exact absurd (show false = true from hs) Bool.false_ne_true
  | int i =>
    obtain ⟨t, rfl⟩ := rx
    cases y with
    | non => cases ry; exact PySem.EqNone.ne_int_none (fin_bl I q (by simp))
    | int j => obtain ⟨t', rfl⟩ := ry; exact ne_int (fin_bl I q (congrArg not dec_int))
    | str j => obtain ⟨t', rfl⟩ := ry; exact PySem.EqMixed.ne_int_str (fin_bl I q (by simp))
    | _ => exact absurd (show false = true from hs) Bool.false_ne_true
  | str i =>
    obtain ⟨t, rfl⟩ := rx
    cases y with
    | non => cases ry; exact PySem.EqNone.ne_str_none (fin_bl I q (by simp))
    | bl j => cases ry; exact PySem.EqMixed.ne_str_bool (fin_bl I q (by simp))
    | int j => obtain ⟨t', rfl⟩ := ry; exact PySem.EqMixed.ne_str_int (fin_bl I q (by simp))
    | str j => obtain ⟨t', rfl⟩ := ry; exact ne_str (fin_bl I q (congrArg not dec_str))
    | _ => exact absurd (show false = true from hs) Bool.false_ne_true
  | byt i =>
    obtain ⟨t, rfl⟩ := rx
    cases y with
    | byt j => obtain ⟨t', rfl⟩ := ry; exact PySem.W.ne_bytes (fin_bl I q (congrArg not dec_byt))
    | _ => exact absurd (show false = true from hs) Bool.false_ne_true
  | _ => cases y <;> exact absurd (show false = true from hs) Bool.false_ne_true

theorem op_lt : OpR X (compareOp .Lt) (rI0 fun i j => .bl (decide (i < j))) := opB0 fun _ _ _ _ _ _ _ q => lt_int q
theorem op_le : OpR X (compareOp .LtE) (rI0 fun i j => .bl (decide (i ≤ j))) := opB0 fun _ _ _ _ _ _ _ q => le_int q
theorem op_gt : OpR X (compareOp .Gt) (rI0 fun i j => .bl (decide (j < i))) := opB0 fun _ _ _ _ _ _ _ q => gt_int q
theorem op_ge : OpR X (compareOp .GtE) (rI0 fun i j => .bl (decide (j ≤ i))) := opB0 fun _ _ _ _ _ _ _ q => ge_int q

theorem nomark (b : Expr) {op : CmpOp} (h : op ≠ .In := by decide) (h2 : op ≠ .NotIn := by decide) : behindInMarks op b = false := by
  have e1 : (op == CmpOp.In) = false := by cases op <;> first | rfl | exact absurd rfl h
  have e2 : (op == CmpOp.NotIn) = false := by cases op <;> first | rfl | exact absurd rfl h2
  cases b <;> simp [behindInMarks, e1, e2]
/-- a comparison as a value; hm: nomark b, or (for in, not in) by with_unfolding_all rfl -/
theorem pe_cmpR {op : CmpOp} {r : R2} (ho : OpR X (compareOp op) r) (ha : PE X a ta) (hb : PE X b tb) (hm : behindInMarks op b = false) : PE X (.Compare a [op] [b] pos) (tOp r ta tb) := by
  intro pins s σ H Q I h
  exact wpAny_Compare1 (binT ha hb I h fun v u s2 x y H2 I2 rx ry q => ho pins s2 σ H2 x y v u Q I2 rx ry q) hm
/-- a reading of a value as a test -/
def tTest (t : TE) : TT := fun σ H Q => t σ H fun x H' => ∃ k, x = .bl k ∧ Q k H'
theorem pt_cmpR {op : CmpOp} {r : R2} (ho : OpR X (compareOp op) r) (ha : PE X a ta) (hb : PE X b tb) (hm : behindInMarks op b = false) : PT X (.Compare a [op] [b] pos) (tTest (tOp r ta tb)) := by
  intro pins s σ H Q I h
  refine wpAny_isTrue_Compare1 (thn (ha pins s σ H _ I h) fun v s1 ⟨x, H1, I1, r1, q1⟩ => thn (hb pins s1 σ H1 _ I1 q1) fun u s2 ⟨y, H2, I2, r2, q2⟩ =>
    thn (ho pins s2 σ H2 x y v u _ I2 r1 r2 q2) fun c s3 ⟨z, H3, I3, r3, k, e, q3⟩ => ?_) hm
  subst e
  cases r3
  exact wpAny_truthy_bool ⟨H3, I3, q3⟩

/-! ### truth -/
theorem line63 : (sizeLine : Nat) < 2 ^ 63 := by rw [sizeLine_eq]; decide

/-! ### strs and bytes -/

/-! ### scalar builtins, by CallR -/
theorem vals1 {x : V} {us : List Value} (r : Vals [x] us) : ∃ u, us = [u] ∧ RelV x u := by
  cases r with
  | cons r1 r2 => cases r2; exact ⟨_, rfl, r1⟩
theorem vals2 {x y : V} {us : List Value} (r : Vals [x, y] us) : ∃ u w', us = [u, w'] ∧ RelV x u ∧ RelV y w' := by
  cases r with
  | cons r1 r2 =>
    cases r2 with
    | cons r3 r4 => cases r4; exact ⟨_, _, rfl, r1, r3⟩
theorem call_abs : CallR X (.builtin "abs") (fun xs H Q => ∃ i, xs = [.int i] ∧ Q (.int (if i < 0 then -i else i)) H) := by
  intro pins s σ H xs us Q I r h
  obtain ⟨i, rfl, q⟩ := h
  obtain ⟨u, rfl, t, rfl⟩ := vals1 r
  exact call_abs_int fun u tk => ⟨.int (if i < 0 then -i else i), H, I.tok _, ⟨_, rfl⟩, q⟩
theorem call_min2 (hc : X.calm = true) : CallR X (.builtin "min") (fun xs H Q => ∃ i j, xs = [.int i, .int j] ∧ Q (.int (if j < i then j else i)) H) := by
  intro pins s σ H xs us Q I r h
  obtain ⟨i, j, rfl, q⟩ := h
  obtain ⟨u, w', rfl, ⟨t, rfl⟩, ⟨t', rfl⟩⟩ := vals2 r
  refine min_two_ints (I.ok.hd hc) fun h' tk k => ⟨_, H, I.kept k, ?_, q⟩
  by_cases hj : j < i
  · rw [if_pos hj, if_pos hj]; exact ⟨_, rfl⟩
  · rw [if_neg hj, if_neg hj]; exact ⟨_, rfl⟩
end
end L2

namespace L2
open PySem PySem.Spec PyProof.Rows

/-! ### an instance, its attributes a map -/
structure ObjM (h : Heap) (x dx C : Addr) (mA : Str → Option Value) : Prop where
  obj : h.get? x = some (PySem.W.instObj C dx)
  ns : h.Ns1 dx mA
  ne : dx ≠ x

theorem lookIn_ns {h : Heap} {dx : Addr} {mA : Str → Option Value} (n : h.Ns1 dx mA) : ∃ od, h.get? dx = some od ∧ ∀ name, PySem.W.lookIn name od = some (mA name) := by
  obtain ⟨o, es, ep, ho, hd, hk, _, hm⟩ := n
  refine ⟨o, ho, fun name => ?_⟩
  have e := hm name
  unfold nsFind findBy at e
  rw [← Array.find?_toList] at e
  unfold PySem.W.lookIn
  rw [hd]
  dsimp only
  split
  · rename_i y q
    rw [q] at e
    exact congrArg some e
  · rename_i q
    rw [q] at e
    have a : es.toList.any (·.refKey) = false := by
      rw [List.any_eq_false]
      intro y hy
      obtain ⟨z, t, hkey⟩ := hk y (Array.mem_toList_iff.mp hy)
      simp [DictEntry.refKey, hkey]
    have a' : ¬ es.toList.any (·.refKey) = true := by rw [a]; exact Bool.false_ne_true
    rw [if_neg a']
    exact congrArg some e

theorem ObjM.look {h : Heap} {x dx C : Addr} {mA : Str → Option Value} (I : ObjM h x dx C mA) : ∃ od, PySem.W.InstAt h x (PySem.W.instObj C dx) C (some od) ∧ ∀ name, PySem.W.lookIn name od = some (mA name) :=
  let ⟨od, ho, hl⟩ := lookIn_ns I.ns
  ⟨od, ⟨I.obj, rfl, rfl, ho⟩, hl⟩

section
variable {prog : Program} {w : World} {A : Around} {E : Value → Shared → Prop} {s : Shared} {K : PySem.W.Frag} {x dx C f : Addr} {mA : Str → Option Value} {name : Str} {v : Value}

theorem get_map {expr : Bool} {Q : Value → Shared → Prop} (X : K.In s.heap) (I : ObjM s.heap x dx C mA) (hg : PySem.W.plainGet K C name = true) (hh : PySem.W.hasDictIn K C = true)
    (ha : PySem.W.findIn K (.ref C) name = some none) (hv : mA name = some v) (hv' : PySem.W.handedIn v = true) (h : Q v { s with toks := s.toks + 1 }) :
    wpAny (model prog w) A (getAttr (.ref x) name expr) Q E s := by
  obtain ⟨od, J, hl⟩ := I.look
  exact PySem.W.get_value X J (PySem.W.plainGet_of hg).1 (PySem.W.findObj_own hh ha rfl (by rw [hl, hv])) hv' h

theorem get_meth {pl : Sem Bool} {Q : Value × List Value → Shared → Prop} (X : K.In s.heap) (I : ObjM s.heap x dx C mA) (hg : PySem.W.plainGet K C name = true)
    (hf : PySem.W.findIn K (.ref C) name = some (some (.ref f))) (ht : PySem.W.isFn K (.ref f) = true) (hv : mA name = none) (h : Q (.ref f, [.ref x]) s) :
    wpAny (model prog w) A (getMethod (.ref x) name pl) Q E s := by
  obtain ⟨od, J, hl⟩ := I.look
  exact PySem.W.method_fn X J (PySem.W.plainGet_of hg).1 (PySem.W.plainGet_of hg).2 hf (beq_iff_eq.mp ht) (by show (PySem.W.lookIn name od).map (·.isSome) = some false; rw [hl, hv]; rfl) h

theorem set_map {ns : List Str} {Q : Unit → Shared → Prop} (X : K.In s.heap) (I : ObjM s.heap x dx C mA)
    (hs : PySem.W.findIn K (.ref C) "__setattr__" = some (some (.builtin "object.__setattr__"))) (hp : PySem.W.plainOver K C = true) (ht : PySem.W.takerIn K C name = some none) (hh : PySem.W.hasDictIn K C = true)
    (hw : PySem.Within mA ns) (hsz : ns.length ≤ sizeLine)
    (h : ∀ h', ObjM h' x dx C (fun y => if y = name then some v else mA y) → Heap.SameBut dx s.heap h' → Q () { s with heap := h', toks := s.toks + 2 }) :
    wpAny (model prog w) A (setAttr (.ref x) name v) Q E s := by
  obtain ⟨od, J, hl⟩ := I.look
  refine PySem.W.set_plain X J hs (PySem.W.osa_open (s := { s with toks := s.toks + 1 }) (r := none) X J hp ht fun b => ?_)
  obtain ⟨cd, hc, hd'⟩ := PySem.W.any_some hh
  have hx : s.heap.get? x = some ⟨.ref C, some dx, .plain, #[]⟩ := I.obj
  refine wpAny_bind (wpAny_pure (wpAny_bind (wpAny_bind (wpAny_loadPart hx (wpAny_bind (PySem.W.Looks.here (s := { s with toks := s.toks + 1 }) (PySem.W.looks_clsIn X hc) ?_))))))
  rw [hd']
  refine wpAny_pure (a := some dx) (wpAny_bind (wpAny_pure (wpAny_bind ?_)))
  refine wpAny_nsSet1 (s := { s with toks := s.toks + 1 }) I.ns fun h' hn2 hs2 => ?_
  obtain ⟨oD, esD, epD, hoD, hdD, hcD⟩ := hn2.count (PySem.Within.cons name v hw)
  refine wpAny_bind (wpAny_lookBehind hoD (by rw [hdD]; exact pastItsLine_dict (Nat.le_trans hcD (by rw [List.length_cons]; omega))) ?_)
  exact wpAny_pure (h _ ⟨(hs2.2 _ (Ne.symm I.ne)).trans I.obj, hn2, I.ne⟩ hs2)

/-- C(..): the dict at the heap's end, the instance behind it; then its __init__ -/
theorem make_map {R : Result → Shared → Prop} {vs : List Value} {kw : List (Str × Value)} (X : K.In s.heap) (hm : PySem.W.makesIn K C = true)
    (hi : PySem.W.findIn K (.ref C) "__init__" = some (some (.ref f))) (hf : PySem.W.typeIn K (.ref f) = some (.type "function"))
    (h : codeAny (model prog w) (A.under (.builtin "type.__call__" ⟨.ref C :: vs, kw⟩)) (.call (.ref f) ⟨.ref (s.heap.objs.size + 1) :: vs, kw⟩) (PySem.W.InitBack (s.heap.objs.size + 1) R)
      { s with heap := (s.heap.push PySem.W.emptyDict).push (PySem.W.instObj C s.heap.objs.size) }) :
    codeAny (model prog w) A (.call (.ref C) ⟨vs, kw⟩) R s := by
  obtain ⟨hh, g, d, t, os⟩ := s
  exact PySem.W.make_core (PySem.W.makes_of X hm) (PySem.W.looks_findIn X hi) (fun self => PySem.W.bind_fn X self hf) (.inl rfl) h
end

/-! ### the attributes as a list of pairs -/
def putF (f : Str) (v : V) : List (Str × V) → List (Str × V)
  | [] => [(f, v)]
  | (g, x) :: r => if g = f then (g, v) :: r else (g, x) :: putF f v r
theorem lookup_putF (f g : Str) (v : V) : ∀ fs : List (Str × V), (putF f v fs).lookup g = if g = f then some v else fs.lookup g
  | [] => by
    show List.lookup g [(f, v)] = _
    by_cases h : g = f
    · have hb : (g == f) = true := beq_iff_eq.mpr h
      simp only [List.lookup, hb, if_pos h]
    · have hb : (g == f) = false := beq_eq_false_iff_ne.mpr h
      simp only [List.lookup, hb, if_neg h]
  | (k, x) :: r => by
    have ih := lookup_putF f g v r
    rw [show putF f v ((k, x) :: r) = (if k = f then (k, v) :: r else (k, x) :: putF f v r) from rfl]
    by_cases hk : k = f
    · rw [if_pos hk]
      by_cases h : g = k
      · have hb : (g == k) = true := beq_iff_eq.mpr h
        simp only [List.lookup, hb, if_pos (h.trans hk)]
      · have hb : (g == k) = false := beq_eq_false_iff_ne.mpr h
        simp only [List.lookup, hb, if_neg (fun e : g = f => h (e.trans hk.symm))]
    · rw [if_neg hk]
      by_cases h : g = k
      · have hb : (g == k) = true := beq_iff_eq.mpr h
        simp only [List.lookup, hb, if_neg (fun e : g = f => hk (h.symm.trans e))]
      · have hb : (g == k) = false := beq_eq_false_iff_ne.mpr h
        simp only [List.lookup, hb]
        exact ih
theorem keys_putF (f : Str) (v : V) : ∀ fs : List (Str × V), f ∈ (putF f v fs).map (·.1) ∧ ∀ g, g ∈ fs.map (·.1) → g ∈ (putF f v fs).map (·.1)
  | [] => ⟨by simp [putF], fun g h => by simp at h⟩
  | (k, x) :: r => by
    obtain ⟨i1, i2⟩ := keys_putF f v r
    rw [show putF f v ((k, x) :: r) = (if k = f then (k, v) :: r else (k, x) :: putF f v r) from rfl]
    by_cases hk : k = f
    · rw [if_pos hk]
      subst hk
      exact ⟨by simp, fun g h => by simpa using h⟩
    · rw [if_neg hk]
      refine ⟨?_, fun g h => ?_⟩
      · rw [List.map_cons]
        exact List.mem_cons_of_mem _ i1
      · rw [List.map_cons] at h ⊢
        rcases List.mem_cons.mp h with e | e
        · exact List.mem_cons.mpr (.inl e)
        · exact List.mem_cons_of_mem _ (i2 g e)
theorem length_putF (f : Str) (v : V) : ∀ fs : List (Str × V), (putF f v fs).length ≤ fs.length + 1
  | [] => by simp [putF]
  | (k, x) :: r => by
    have ih := length_putF f v r
    rw [show putF f v ((k, x) :: r) = (if k = f then (k, v) :: r else (k, x) :: putF f v r) from rfl]
    by_cases hk : k = f
    · rw [if_pos hk, List.length_cons, List.length_cons]; omega
    · rw [if_neg hk, List.length_cons, List.length_cons]; omega

theorem RelO.some_of {v : V} {o : Option Value} (r : RelO (some v) o) : ∃ u, o = some u ∧ RelV v u := by
  cases o with
  | none => exact (show False from r).elim
  | some u => exact ⟨u, rfl, r⟩
theorem RelO.none_of {o : Option Value} (r : RelO none o) : o = none := by
  cases o with
  | none => rfl
  | some u => exact (show False from r).elim
theorem handed_of {v : V} {u : Value} (r : RelV v u) : PySem.W.handedIn u = true := by
  cases v with
  | non => cases (show u = Value.none from r); rfl
  | bl b => cases (show u = Value.bool b from r); rfl
  | int i => obtain ⟨t, e⟩ := (show ∃ t, u = Value.int i t from r); cases e; rfl
  | str x => obtain ⟨t, e⟩ := (show ∃ t, u = Value.str x t from r); cases e; rfl
  | byt b => obtain ⟨t, e⟩ := (show ∃ t, u = Value.bytes b t from r); cases e; rfl
  | flt b => obtain ⟨t, e⟩ := (show ∃ t, u = Value.float b t from r); cases e; rfl
  | ref a => cases (show u = Value.ref a from r); rfl
  | ty n => cases (show u = Value.type n from r); rfl

section
variable {P : Program} {w : World} {H H' : Hp} {h h' : Heap} {a C dx : Addr} {fs fs' : List (Str × V)}
theorem ins_get (hok : HOk P w H h) (e : H a = some (.ins C dx fs)) : ∃ mA, ObjM h a dx C mA ∧ (∀ f, RelO (fs.lookup f) (mA f)) ∧ PySem.Within mA (fs.map (·.1)) ∧ fs.length ≤ 1000 ∧ H dx = some (.own a) := by
  obtain ⟨d, z, ne, ob, mA, n, r, q⟩ := (show ObjOk P w H h a (.ins C dx fs) from hok a _ e)
  exact ⟨mA, ⟨ob, n, ne⟩, r, q, z, d⟩
end

/-! ### what of the text a class must have -/
structure Cls (K : PySem.W.Frag) (C : Addr) : Prop where
  pg : PySem.W.plainGet K C Str.empty = true
  hd : PySem.W.hasDictIn K C = true
  po : PySem.W.plainOver K C = true
  sa : PySem.W.findIn K (.ref C) "__setattr__" = some (some (.builtin "object.__setattr__"))
theorem Cls.get {K : PySem.W.Frag} {C : Addr} (c : Cls K C) (f : Str) : PySem.W.plainGet K C f = true := c.pg
/-- no class of it has the name -/
def NoAttr (K : PySem.W.Frag) (C : Addr) (f : Str) : Prop := PySem.W.findIn K (.ref C) f = some none
theorem NoAttr.taker {K : PySem.W.Frag} {C : Addr} {f : Str} (n : NoAttr K C f) : PySem.W.takerIn K C f = some none := by
  unfold PySem.W.takerIn
  rw [show PySem.W.findIn K (.ref C) f = some none from n]
  rfl
/-- a method: a plain def of the class or of one above it -/
structure Meth (K : PySem.W.Frag) (C : Addr) (m : Str) (f : Addr) : Prop where
  at_ : PySem.W.findIn K (.ref C) m = some (some (.ref f))
  fn : PySem.W.isFn K (.ref f) = true
  kp : PySem.W.keepIn K (.ref f) = true

section
variable {X : Cx} {pins : List (Addr × Obj)} {σ : St} {H : Hp} {s : Shared} {a C dx : Addr} {fs : List (Str × V)} {f : Str} {v : V} {A : Around} {E : Value → Shared → Prop}

theorem getattr_ok {b : Bool} {Q : Value → Shared → Prop} (I : Inv X pins σ H s) (e : H a = some (.ins C dx fs)) (c : Cls X.K C) (n : NoAttr X.K C f) (l : fs.lookup f = some v)
    (h : ∀ u s', Inv X pins σ H s' → RelV v u → Q u s') : wpAny (model X.prog X.w) A (getAttr (.ref a) f b) Q E s := by
  obtain ⟨mA, O, r, _, _, _⟩ := ins_get I.hok e
  obtain ⟨u, hu, ru⟩ := RelO.some_of (v := v) (o := mA f) (by rw [← l]; exact r f)
  exact get_map I.kIn O (c.get f) c.hd n hu (handed_of ru) (h u _ (I.tok _) ru)

theorem getmeth_ok {m : Str} {g : Addr} {pl : Sem Bool} {Q : Value × List Value → Shared → Prop} (I : Inv X pins σ H s) (e : H a = some (.ins C dx fs)) (c : Cls X.K C) (k : Meth X.K C m g) (l : fs.lookup m = none)
    (h : Q (.ref g, [.ref a]) s) : wpAny (model X.prog X.w) A (getMethod (.ref a) m pl) Q E s := by
  obtain ⟨mA, O, r, _, _, _⟩ := ins_get I.hok e
  have hn : mA m = none := RelO.none_of (by rw [← l]; exact r m)
  exact get_meth I.kIn O (c.get m) k.at_ k.fn hn h

theorem setattr_ok {y : V} {u : Value} {Q : Unit → Shared → Prop} (I : Inv X pins σ H s) (e : H a = some (.ins C dx fs)) (c : Cls X.K C) (n : NoAttr X.K C f) (hl : fs.length < 1000) (ry : RelV y u)
    (h : ∀ s', Inv X pins σ (upd H a (.ins C dx (putF f y fs))) s' → Q () s') : wpAny (model X.prog X.w) A (setAttr (.ref a) f u) Q E s := by
  obtain ⟨mA, O, r, wi, _, ho⟩ := ins_get I.hok e
  have hz : (fs.map (·.1)).length ≤ sizeLine := by rw [List.length_map, sizeLine_eq]; omega
  refine set_map I.kIn O c.sa c.po n.taker c.hd wi hz fun h' O' sb => h _ ?_
  have hd : ∃ o, h'.get? dx = some o := let ⟨o, _, _, e', _⟩ := O'.ns; ⟨o, e'⟩
  refine I.write (x := a) (e := dx) (by rw [e]; exact True.intro) (.inr ho) (fun b q hb z => (sb.2 b hb).trans z) hd ?_
  refine ⟨by rw [upd_ne O.ne]; exact ho, ?_, O.ne, O'.obj, _, O'.ns, fun g => ?_, fun g hg => ?_⟩
  · have := length_putF f y fs; omega
  · show RelO ((putF f y fs).lookup g) (if g = f then some u else mA g)
    rw [lookup_putF]
    by_cases q : g = f
    · rw [if_pos q, if_pos q]; exact ry
    · rw [if_neg q, if_neg q]; exact r g
  · by_cases q : g = f
    · rw [q]; exact (keys_putF f y fs).1
    · refine (keys_putF f y fs).2 g (wi g fun z => hg ?_)
      show (if g = f then some u else mA g) = none
      rw [if_neg q]; exact z

/-- a new instance, tracked, without attributes -/
theorem Inv.made (I : Inv X pins σ H s) : Inv X pins σ (upd (upd H s.heap.objs.size (.own (s.heap.objs.size + 1))) (s.heap.objs.size + 1) (.ins C s.heap.objs.size []))
    { s with heap := (s.heap.push PySem.W.emptyDict).push (PySem.W.instObj C s.heap.objs.size) } := by
  have e1 : (s.heap.push PySem.W.emptyDict).get? s.heap.objs.size = some PySem.W.emptyDict := Heap.get?_push_size s.heap rfl
  have e2 : ((s.heap.push PySem.W.emptyDict).push (PySem.W.instObj C s.heap.objs.size)).get? (s.heap.objs.size + 1) = some (PySem.W.instObj C s.heap.objs.size) := by
    have := Heap.get?_push_size (s.heap.push PySem.W.emptyDict) (o := PySem.W.instObj C s.heap.objs.size) rfl
    rwa [Heap.size_push] at this
  have e3 : (s.heap.push PySem.W.emptyDict).Ns s.heap.objs.size (fun _ => none) := ⟨PySem.W.emptyDict, #[], _, e1, rfl, (fun e he => absurd he (by simp)), fun _ => rfl⟩
  have I1 := I.laid (a := s.heap.objs.size) (o := .own (s.heap.objs.size + 1)) (h' := s.heap.push PySem.W.emptyDict) (t' := s.toks) (fun b u q => Heap.get?_push_of_some _ q) (Nat.le_refl _) ⟨_, e1⟩
  refine I1.laid (a := s.heap.objs.size + 1) (o := .ins C s.heap.objs.size []) (t' := s.toks) (fun b u q => Heap.get?_push_of_some _ q) (Nat.le_of_eq (Heap.size_push _ _)) ?_
  have ne : s.heap.objs.size ≠ s.heap.objs.size + 1 := Nat.ne_of_lt (Nat.lt_succ_self _)
  refine ⟨by rw [upd_ne ne, upd_same], Nat.zero_le _, ne, e2, fun _ => none, (Heap.Ns1.of_empty e3).at fun o q => Heap.get?_push_of_some _ q, fun _ => True.intro, fun y hy => absurd rfl hy⟩

/-- e.f where nothing but the object is asked: through attributeBase (super) and the last hold -/
theorem attr_of {prog : Program} {w : World} {env : Env} {e : Expr} {f : Str} {pos : Pos} {s : Shared} {Q : Value → Shared → Prop} (hb : attributeBase e f env (eval e env) = eval e env)
    (h : wpAny (model prog w) A (eval e env) (fun o s₁ => wpAny (model prog w) A (getAttr o f true) Q E s₁) E s) : wpAny (model prog w) A (eval (.Attribute e f pos) env) Q E s :=
  Attribute_any_ h (by rw [arm_eval_Attribute, hb])
end

/-! ### readings and rules -/
/-- an augmented operator on two values -/
def InOp (X : Cx) (op : Operator) (rd : V → V → Hp → VK → Prop) : Prop :=
  ∀ (pins : List (Addr × Obj)) (s : Shared) (σ : St) (H : Hp) (x y : V) (u v : Value) (Q : VK), Inv X pins σ H s → RelV x u → RelV y v → rd x y H Q → wpAny (model X.prog X.w) X.A (inplaceOp op u v) (EP X pins σ Q) X.xe s

section
variable {X : Cx} {o e value : Expr} {f : Str} {pos pos' tpos : Pos} {ta tv : TE}
def rAdd : V → V → Hp → VK → Prop := fun x y H Q => ∃ i j, x = .int i ∧ y = .int j ∧ Q (.int (i + j)) H
def rSub : V → V → Hp → VK → Prop := fun x y H Q => ∃ i j, x = .int i ∧ y = .int j ∧ Q (.int (i - j)) H
theorem in_add : InOp X .Add rAdd := by
  rintro pins s σ H x y u v Q I rx ry ⟨i, j, rfl, rfl, q⟩
  obtain ⟨t, rfl⟩ := (show ∃ t, u = Value.int i t from rx)
  obtain ⟨t', rfl⟩ := (show ∃ t', v = Value.int j t' from ry)
  exact PyProof.Rows.iadd_int ⟨.int (i + j), H, I.tok _, ⟨_, rfl⟩, q⟩
theorem in_sub : InOp X .Sub rSub := by
  rintro pins s σ H x y u v Q I rx ry ⟨i, j, rfl, rfl, q⟩
  obtain ⟨t, rfl⟩ := (show ∃ t, u = Value.int i t from rx)
  obtain ⟨t', rfl⟩ := (show ∃ t', v = Value.int j t' from ry)
  exact PyProof.Rows.isub_int ⟨.int (i - j), H, I.tok _, ⟨_, rfl⟩, q⟩

end

/-! ### isinstance -/
end L2

namespace L2
open PySem PySem.Spec PyProof.Rows

/-! ### room -/
structure Room (k : Nat) (A : Around) : Prop where
  hd : A.handled = none
  dp : A.depth + 3 * k + 5 < recursionLimit
  un : A.units + 16 * k + 200 < cLine
theorem Room.mono {j k : Nat} {A : Around} (r : Room k A) (h : j ≤ k) : Room j A := ⟨r.hd, by have := r.dp; omega, by have := r.un; omega⟩
theorem Room.deeper {k : Nat} {A : Around} (r : Room (k + 1) A) (env : Env) : Room k (A.deeper env) :=
  ⟨r.hd, by have := r.dp; show A.depth + 1 + 3 * k + 5 < _; omega, by have := r.un; show A.units + 3 + 16 * k + 200 < _; omega⟩
theorem make_depth {A : Around} {C : Addr} {us : List Value} {kw : List (Str × Value)} : (A.under (.builtin "type.__call__" ⟨.ref C :: us, kw⟩)).depth = A.depth + 1 := by
  first | rfl | simp [Around.under, Code.weight, Code.isCreation, Code.isGuard, Code.isCaller, Code.frames, Code.isFrame, guardIds]
theorem make_units {A : Around} {C : Addr} {us : List Value} {kw : List (Str × Value)} : (A.under (.builtin "type.__call__" ⟨.ref C :: us, kw⟩)).units = A.units + 1 := by
  first | rfl | simp [Around.under, Code.cUnits, Code.frames, Code.isFrame]
theorem Room.make {k : Nat} {A : Around} (r : Room (k + 1) A) (C : Addr) (us : List Value) (kw : List (Str × Value)) : Room k (A.under (.builtin "type.__call__" ⟨.ref C :: us, kw⟩)) :=
  ⟨r.hd, by have := r.dp; rw [make_depth]; omega, by have := r.un; rw [make_units]; omega⟩
theorem Room.depth {k : Nat} {A : Around} (r : Room k A) : A.depth < recursionLimit := by have := r.dp; omega

/-! ### argument lists and displays -/
def tNil : TA := fun _ H Q => Q [] H
def tCons (ta : TE) (tr : TA) : TA := fun σ H Q => ta σ H fun x H1 => tr σ H1 fun xs H2 => Q (x :: xs) H2
section
variable {X : Cx} {e : Expr} {es : List Expr} {te : TE} {t : TA} {pos : Pos}
theorem pa_nil : PA X [] tNil := fun _ _ _ _ H Q I h => Calls.spliced_nil ⟨[], H, I, .nil, h⟩
theorem pa_cons (ha : PE X e te) (hr : PA X es t) (hs : starEach (e :: es) X.env = (false, eval e X.env) :: starEach es X.env := by rfl) : PA X (e :: es) (tCons te t) := by
  intro pos pins s σ H Q I h
  rw [hs]
  show wpAny _ _ (spliced ((false, eval e X.env) :: backTo pos (starEach es X.env))) _ _ s
  refine Calls.spliced_cons (thn (ha pins s σ H _ I h) fun u s1 ⟨x, H1, I1, r1, q1⟩ => ?_)
  exact thn (hr pos pins s1 σ H1 _ I1 q1) fun us s2 ⟨xs, H2, I2, r2, q2⟩ => ⟨x :: xs, H2, I2, .cons r1 r2, q2⟩

/-- a tuple, a list of written items -/
def tTup (t : TA) : TE := fun σ H Q => t σ H fun xs H1 => xs.length ≤ sizeLine ∧ ∀ p, H1 p = none → Q (.ref p) (upd H1 p (.tup xs))
def tLst (t : TA) : TE := fun σ H Q => t σ H fun xs H1 => xs.length ≤ sizeLine ∧ ∀ p, H1 p = none → Q (.ref p) (upd H1 p (.lst xs))
theorem pe_tup {x1} (h : PA X es t) : PE X (.Tuple es x1 pos) (tTup t) := by
  intro pins s σ H Q I hq
  refine wpAny_Tuple_spliced (thn (h pos pins s σ H _ I hq) fun us s1 ⟨xs, H1, I1, r, z, q⟩ => ⟨by rw [← r.length]; exact z, ?_⟩)
  have hf : H1 s1.heap.objs.size = none := I1.hok.fresh (Nat.le_refl _)
  refine ⟨.ref s1.heap.objs.size, upd H1 s1.heap.objs.size (.tup xs), I1.laid (t' := s1.toks) (fun b u e => Heap.get?_push_of_some _ e) (Nat.le_refl _) ?_, rfl, q _ hf⟩
  exact ⟨z, us, r, ⟨_, Heap.get?_push_size _ rfl, rfl, _, rfl⟩⟩
theorem pe_lst (h : PA X es t) : PE X (.List es pos) (tLst t) := by
  intro pins s σ H Q I hq
  refine wpAny_List_spliced (thn (h pos pins s σ H _ I hq) fun us s1 ⟨xs, H1, I1, r, z, q⟩ => ⟨by rw [← r.length]; exact z, ?_⟩)
  have hf : H1 s1.heap.objs.size = none := I1.hok.fresh (Nat.le_refl _)
  refine ⟨.ref s1.heap.objs.size, upd H1 s1.heap.objs.size (.lst xs), I1.laid (t' := s1.toks) (fun b u e => Heap.get?_push_of_some _ e) (Nat.le_refl _) ?_, rfl, q _ hf⟩
  exact ⟨z, us, 0, r, Heap.get?_push_size _ rfl⟩
end

/-! ### what a def promises -/
/-- a def's promise: the bound arguments in the parameters' order, the heap, the wanted end, the wanted exception -/
abbrev Sp := List V → Hp → VK → XK → Prop
/-- how an exception lies behind a call (file 08 gives it): the callers' frames, abstract heap and state ahead of the call, the wish, the exception, the state -/
abbrev CXT := List Env → Hp → Shared → XK → Value → Shared → Prop

/-- the state at a call -/
structure Env0 (P : Program) (w : World) (K : PySem.W.Frag) (mg : Str → Option Value) (base : Heap) (A : Around) (outer : List Env) (s : Shared) (H : Hp) : Prop where
  frames : A.frames = some outer
  mod : Mod K mg base
  bs : ∀ b o, base.get? b = some o → s.heap.get? b = some o ∧ H b = none
  bsz : base.objs.size ≤ s.heap.objs.size
  funs : s.heap.FunFrames base outer
  frf : ∀ b ∈ frs outer, H b = none
  hok : HOk P w H s.heap
  bare : AllBare s.gens
/-- a call's end -/
def CE (outer : List Env) (P : Program) (w : World) (H : Hp) (s : Shared) (Q : VK) (u : Value) (s' : Shared) : Prop :=
  ∃ v H', s'.os = s.os ∧ AllBare s'.gens ∧ Un (frs outer) [] H H' s.heap s'.heap ∧ HOk P w H' s'.heap ∧ RelV v u ∧ Q v H'
def CR (CX : CXT) (outer : List Env) (P : Program) (w : World) (H : Hp) (s : Shared) (Q : VK) (E : XK) (r : Result) (s' : Shared) : Prop :=
  match r with
  | .ok (.ret u) => CE outer P w H s Q u s'
  | .ok _ => False
  | .error e => CX outer H s E e s'
structure FnOk (P : Program) (w : World) (K : PySem.W.Frag) (mg : Str → Option Value) (base : Heap) (CX : CXT) (k : Nat) (f : Addr) (fd : FuncData) (ps : List Str) (sp : Sp) : Prop where
  len : ∀ vs H Q E, sp vs H Q E → vs.length = ps.length
  run : ∀ (A : Around) (outer : List Env) (s : Shared) (H : Hp) (args : Args) (us : List Value) (vs : List V) (Q : VK) (E : XK), Room k A → Env0 P w K mg base A outer s H → BindsTo s fd args (ps.zip us) → Vals vs us → sp vs H Q E →
    codeAny (model P w) A (.call (.ref f) args) (CR CX outer P w H s Q E) s

theorem Env0.make {P : Program} {w : World} {K : PySem.W.Frag} {mg : Str → Option Value} {base : Heap} {A : Around} {outer : List Env} {s : Shared} {H : Hp} (e : Env0 P w K mg base A outer s H) (C : Addr) (us : List Value) (kw : List (Str × Value)) :
    Env0 P w K mg base (A.under (.builtin "type.__call__" ⟨.ref C :: us, kw⟩)) outer s H := ⟨by first | exact e.frames | (simpa [Around.under, Code.envs, Code.isFrame, pushEnvs] using e.frames), e.mod, e.bs, e.bsz, e.funs, e.frf, e.hok, e.bare⟩

section
variable {X : Cx} {pins : List (Addr × Obj)} {σ : St} {H : Hp} {s s' : Shared}
/-- from a body: what a callee wants -/
theorem Inv.env0 (I : Inv X pins σ H s) : Env0 X.prog X.w X.K X.mg X.base X.A X.stack s H :=
  ⟨I.ok.frames, I.ok.mod, I.bs, Nat.le_trans I.ok.bsz I.sz, I.stack, I.stkFree, I.hok, I.bare⟩
/-- behind a call -/
theorem Inv.after {Q : VK} {u : Value} (I : Inv X pins σ H s) (h : CE X.stack X.prog X.w H s Q u s') : EP X pins σ Q u s' := by
  obtain ⟨v, H', os, bare, un, hok, r, q⟩ := h
  obtain ⟨hh, g, d, t, os'⟩ := s'
  obtain rfl : os' = s.os := os
  exact ⟨v, H', I.call (h' := hh) (g' := g) (d' := d) (t' := t) (ch := []) un hok bare (fun b z => absurd z (by simp)), r, q⟩
end

/-! ### calls -/

/-- how the parameters are bound: us the positional arguments, kw the keywords' values by name, ds the defaults that fill up -/
def Binds (K : PySem.W.Frag) (fd : FuncData) (ps : List Str) (ds : List Value) : Prop :=
  ∀ (s : Shared) (us : List Value), K.In s.heap → (us ++ ds).length = ps.length → BindsTo s fd ⟨us, []⟩ (ps.zip (us ++ ds))
/-- every parameter is given -/
theorem Binds.all {K : PySem.W.Frag} {fd : FuncData} {ps : List Str} (h : ∀ us : List Value, us.length = ps.length → bindArgs fd ⟨us, []⟩ = pure (ps.zip us)) : Binds K fd ps [] := fun s us _ hl => by
  rw [List.append_nil] at hl ⊢
  exact .of_eq (h us hl)

/-- an exception of a callee reaches what this body wants of exceptions -/
def Passes (CX : CXT) (X : Cx) (E : XK) : Prop := ∀ (pins : List (Addr × Obj)) (σ : St) (H : Hp) (s : Shared) (e : Value) (s' : Shared), Inv X pins σ H s → CX X.stack H s E e s' → X.xe e s'

section
variable {X : Cx} {CX : CXT} {k : Nat} {f C : Addr} {fd : FuncData} {ps : List Str} {sp : Sp} {dvs : List V} {ds : List Value} {E : XK} {x m : Str} {p pos apos : Pos} {e o : Expr} {es : List Expr} {ta : TE} {t : TA}

/-- the callee runs -/
theorem run_fn {pins : List (Addr × Obj)} {σ : St} {H : Hp} {s : Shared} {Q : VK} {us : List Value} {vs : List V} (F : FnOk X.prog X.w X.K X.mg X.base CX k f fd ps sp) (hr : Room k X.A) (hb : Binds X.K fd ps ds) (hd : Vals dvs ds) (hx : Passes CX X E)
    (I : Inv X pins σ H s) (r : Vals vs us) (h : sp (vs ++ dvs) H Q E) : wpAny (model X.prog X.w) X.A (call (.ref f) us) (EP X pins σ Q) X.xe s := by
  have r2 : Vals (vs ++ dvs) (us ++ ds) := r.append hd
  have hl : (us ++ ds).length = ps.length := by rw [← r2.length]; exact F.len _ _ _ _ h
  refine wpAny_call (codeAny_mono (F.run X.A X.stack s H ⟨us, []⟩ (us ++ ds) (vs ++ dvs) Q E hr I.env0 (hb s us I.kIn hl) r2 h) fun r s' hq => ?_)
  cases r with
  | error e => exact hx pins σ H s e s' I hq
  | ok fl =>
    cases fl with
    | ret u => exact I.after hq
    | next => exact False.elim hq
    | brk => exact False.elim hq
    | cont => exact False.elim hq

/-- what a class must have to be made -/
structure Mk (K : PySem.W.Frag) (C f : Addr) : Prop where
  makes : PySem.W.makesIn K C = true
  init : PySem.W.findIn K (.ref C) "__init__" = some (some (.ref f))
  fn : PySem.W.isFn K (.ref f) = true
  kp : PySem.W.keepIn K (.ref C) = true

theorem run_make {pins : List (Addr × Obj)} {σ : St} {H : Hp} {s : Shared} {Q : VK} {us : List Value} {vs : List V} (M : Mk X.K C f) (F : FnOk X.prog X.w X.K X.mg X.base CX k f fd ps sp) (hr : Room (k + 1) X.A) (hb : Binds X.K fd ps ds) (hd : Vals dvs ds)
    (hx : Passes CX X E) (I : Inv X pins σ H s) (r : Vals vs us)
    (h : ∀ x dx, H x = none → H dx = none → dx ≠ x → sp (.ref x :: (vs ++ dvs)) (upd (upd H dx (.own x)) x (.ins C dx [])) (fun v H2 => v = .non ∧ Q (.ref x) H2) E) :
    wpAny (model X.prog X.w) X.A (call (.ref C) us) (EP X pins σ Q) X.xe s := by
  have hq := h (s.heap.objs.size + 1) s.heap.objs.size (I.hok.fresh (Nat.le_succ _)) (I.hok.fresh (Nat.le_refl _)) (Nat.ne_of_lt (Nat.lt_succ_self _))
  have I2 := Inv.made (C := C) I
  have r2 : Vals (V.ref (s.heap.objs.size + 1) :: (vs ++ dvs)) (Value.ref (s.heap.objs.size + 1) :: (us ++ ds)) := .cons rfl (r.append hd)
  have hl : (Value.ref (s.heap.objs.size + 1) :: us ++ ds).length = ps.length := by
    have e := r2.length
    rw [F.len _ _ _ _ hq] at e
    exact e.symm
  refine wpAny_call (make_map (f := f) I.kIn M.makes M.init (beq_iff_eq.mp M.fn) (codeAny_mono (F.run _ X.stack _ _ ⟨Value.ref (s.heap.objs.size + 1) :: us, []⟩ (Value.ref (s.heap.objs.size + 1) :: (us ++ ds)) _ _ E (hr.make C us [])
    (I2.env0.make C us []) (hb _ (Value.ref (s.heap.objs.size + 1) :: us) I2.kIn hl) r2 hq) fun r s' hq' => ?_))
  cases r with
  | error e => exact hx pins σ _ _ e s' I2 hq'
  | ok fl =>
    cases fl with
    | ret u =>
      obtain ⟨v, H', I3, rv, ev, q3⟩ := I2.after hq'
      subst ev
      exact ⟨rv, ⟨V.ref (s.heap.objs.size + 1), H', I3, rfl, q3⟩⟩
    | next => exact False.elim hq'
    | brk => exact False.elim hq'
    | cont => exact False.elim hq'
end

/-! ### keywords -/

/-! ### a def's body keeps its promise -/
/-- names: the parameters first -/
structure FnScope (N P : List Str) (sc : Scope) : Prop where
  kind : sc.kind = .function
  co : sc.isCoroutine = false
  gen : sc.isGenerator = false
  nd : N.Nodup
  pre : N.take P.length = P
  par : ∀ x ∈ P, sc.names.lookup x = some .local ∨ sc.names.lookup x = some .cell
  nofree : ∀ y ∈ sc.names, y.2 ≠ .free

theorem bindL_out {kindOf : Str → Option NameKind} {x : Str} : ∀ {binds : List (Str × Value)} {m : Str → Option Value}, (∀ v, (x, v) ∉ binds) → bindL kindOf binds m x = m x
  | [], _, _ => rfl
  | (n, v) :: r, m, h => by
    unfold bindL
    rw [bindL_out fun w hw => h w (List.mem_cons_of_mem _ hw)]
    split
    · have : x ≠ n := by rintro rfl; exact h v List.mem_cons_self
      simp [this]
    · rfl
theorem bindC_out {kindOf : Str → Option NameKind} {x : Str} : ∀ {binds : List (Str × Value)} {m : Str → Option Value}, (∀ v, (x, v) ∉ binds) → bindC kindOf binds m x = m x
  | [], _, _ => rfl
  | (n, v) :: r, m, h => by
    unfold bindC
    rw [bindC_out fun w hw => h w (List.mem_cons_of_mem _ hw)]
    split
    · rfl
    · have : x ≠ n := by rintro rfl; exact h v List.mem_cons_self
      simp [this]
theorem bindL_get {kindOf : Str → Option NameKind} {x : Str} {v : Value} : ∀ {P : List Str} {vs : List Value} {i : Nat} {m : Str → Option Value}, P.Nodup → P[i]? = some x → vs[i]? = some v → kindOf x = some .local →
    bindL kindOf (P.zip vs) m x = some v
  | [], _, _, _, _, h, _, _ => by simp at h
  | _ :: _, [], _, _, _, _, h, _ => by simp at h
  | p :: P, w :: vs, 0, m, nd, h1, h2, hk => by
    simp at h1 h2; subst h1; subst h2
    show bindL kindOf ((p, w) :: P.zip vs) m p = _
    unfold bindL
    rw [bindL_out fun v hv => (List.nodup_cons.mp nd).1 (List.of_mem_zip hv).1, if_pos hk]
    simp
  | p :: P, w :: vs, i + 1, m, nd, h1, h2, hk => by
    show bindL kindOf ((p, w) :: P.zip vs) m x = _
    unfold bindL
    exact bindL_get (i := i) (List.nodup_cons.mp nd).2 (by simpa using h1) (by simpa using h2) hk
theorem bindC_get {kindOf : Str → Option NameKind} {x : Str} {v : Value} : ∀ {P : List Str} {vs : List Value} {i : Nat} {m : Str → Option Value}, P.Nodup → P[i]? = some x → vs[i]? = some v → kindOf x ≠ some .local →
    bindC kindOf (P.zip vs) m x = some v
  | [], _, _, _, _, h, _, _ => by simp at h
  | _ :: _, [], _, _, _, _, h, _ => by simp at h
  | p :: P, w :: vs, 0, m, nd, h1, h2, hk => by
    simp at h1 h2; subst h1; subst h2
    show bindC kindOf ((p, w) :: P.zip vs) m p = _
    unfold bindC
    rw [bindC_out fun v hv => (List.nodup_cons.mp nd).1 (List.of_mem_zip hv).1, if_neg hk]
    simp
  | p :: P, w :: vs, i + 1, m, nd, h1, h2, hk => by
    show bindC kindOf ((p, w) :: P.zip vs) m x = _
    unfold bindC
    exact bindC_get (i := i) (List.nodup_cons.mp nd).2 (by simpa using h1) (by simpa using h2) hk

/-- the names' values at the entry -/
def start (N : List Str) (vs : List V) : St := vs.map some ++ List.replicate (N.length - vs.length) none

/-- the context of a def's body, at its entry; an exception leaves the frame, then lies as CX says -/
def cxOf (CX : CXT) (P : Program) (w : World) (K : PySem.W.Frag) (mg : Str → Option Value) (base : Heap) (N : List Str) (qual : Str) (scope : Scope) (f : Addr) (cd : Value) (A : Around) (outer : List Env) (s : Shared) (H : Hp) (E : XK) : Cx where
  prog := P
  w := w
  K := K
  mg := mg
  base := base
  A := A.deeper (envOfC qual scope s.heap.objs.size f cd)
  N := N
  s_0 := s
  H_0 := H
  env := envOfC qual scope s.heap.objs.size f cd
  outer := outer
  stack := envOfC qual scope s.heap.objs.size f cd :: outer
  ex := []
  calm := true
  fn := fun _ => true
  pn := []
  xe := fun e s' => wpAny (model P w) (A.deeper (envOfC qual scope s.heap.objs.size f cd)) (leaving (envOfC qual scope s.heap.objs.size f cd) e) (fun _ s'' => CX outer H s E e s'') (fun e' s'' => CX outer H s E e' s'') s'

theorem cell_has {sc : Scope} {n : Nat} {x : Str} (h : sc.names.lookup x = some .cell) : ∃ c, (cellsFrom n sc.names []).lookup x = some c := by
  have q := PySem.W.cellsFrom_some sc.names n [] (.inl h)
  exact Option.isSome_iff_exists.mp q

theorem inv_start {CX : CXT} {P : Program} {w : World} {K : PySem.W.Frag} {mg : Str → Option Value} {base : Heap} {N ps : List Str} {qual : Str} {scope : Scope} {f : Addr} {cd : Value} {A : Around} {outer : List Env} {s s1 : Shared} {H : Hp} {E : XK} {us : List Value} {vs : List V}
    (S : FnScope N ps scope) (hd : A.handled = none) (e0 : Env0 P w K mg base A outer s H) (hl : vs.length = ps.length) (r : Vals vs us)
    (x : InCallC s s.heap.objs.size (bindL (envOfC qual scope s.heap.objs.size f cd).kindOf (ps.zip us) fun _ => none) (cellsFrom (s.heap.objs.size + 1) scope.names []) (bindC (envOfC qual scope s.heap.objs.size f cd).kindOf (ps.zip us) fun _ => none) s1) :
    Inv (cxOf CX P w K mg base N qual scope f cd A outer s H E) [] (start N vs) H s1 := by
  have hpl : ps.length ≤ N.length := by have := congrArg List.length S.pre; rw [List.length_take] at this; omega
  obtain ⟨h1, tk, rfl, hk⟩ := x.done
  have noA : ∀ b : Addr, b ∉ (cxOf CX P w K mg base N qual scope f cd A outer s H E).ex := fun b z => absurd (show b ∈ ([] : List Addr) from z) (by simp)
  refine ⟨⟨e0.mod, S.kind, rfl, rfl, Nat.le_refl _, fun y z c h1 h2 => ?_, fun y hy => ?_, fun y c _ h => ?_, fun _ => hd, Around.frames_deeper e0.frames, .inr ⟨rfl, rfl⟩, fun b z => absurd z (noA b), e0.bs, e0.bsz, fun b _ _ => noA b, fun b z => absurd z (noA b), e0.funs, e0.frf⟩,
    rfl, e0.bare, Un.kept hk, ⟨_, x.toInCall.ns, fun i y v h1 h2 h3 => ?_⟩, fun y c h => ⟨_, x.cell y c h⟩, e0.hok.fresh (Nat.le_refl _), fun y c h => ?_, fun p hp => absurd (show p ∈ ([] : List (Addr × Obj)) from hp) (by simp), e0.hok.kept hk, ?_⟩
  · exact name_of_addr x.apart (PySem.mem_of_lookup h1) (PySem.mem_of_lookup h2)
  · have hy : scope.names.lookup y = some .cell ∨ scope.names.lookup y = some .free := hy
    rcases hy with hy | hy
    · exact cell_has hy
    · exact absurd rfl (S.nofree _ (PySem.mem_of_lookup hy))
  · exact Nat.le_of_lt (x.above y c (PySem.mem_of_lookup h))
  · have hi : i < vs.length := by
      unfold start at h2
      by_cases hi : i < vs.length
      · exact hi
      · rw [List.getElem?_append_right (by simpa using hi)] at h2
        rw [List.getElem?_replicate] at h2
        split at h2 <;> cases h2
    have ha : vs[i]? = some v := by
      unfold start at h2
      rw [List.getElem?_append_left (by simpa using hi), List.getElem?_map] at h2
      cases e : vs[i]? with
      | none => rw [e] at h2; cases h2
      | some a => rw [e] at h2; cases h2; rfl
    obtain ⟨u, hu, rv⟩ := r.get ha
    have hp : ps[i]? = some y := by
      rw [← S.pre, List.getElem?_take_of_lt (by omega)]; exact h1
    have ndP : ps.Nodup := by rw [← S.pre]; exact S.nd.sublist (List.take_sublist _ _)
    refine ⟨u, rv, ?_⟩
    rcases S.par y (List.mem_of_getElem? hp) with k | k
    · exact .inl ⟨k, bindL_get ndP hp hu k⟩
    · obtain ⟨c, e⟩ := cell_has (n := s.heap.objs.size + 1) k
      refine .inr ⟨.inl k, c, e, ?_⟩
      have q := x.cell y c e
      rw [bindC_get ndP hp hu (by show scope.names.lookup y ≠ _; rw [k]; decide)] at q
      exact q
  · exact e0.hok.fresh (Nat.le_of_lt (x.above y c (PySem.mem_of_lookup h)))
  · unfold start
    show _ = N.length
    rw [List.length_append, List.length_map, List.length_replicate]
    omega

/-- THE RULE: a def (or a method) of the text, by its body. The body's reading t is chosen for each entry; it is run at the parameters' values -/
theorem fn_of {CX : CXT} {P : Program} {w : World} {K : PySem.W.Frag} {mg : Str → Option Value} {base : Heap} {k : Nat} {f : Addr} {name qual : Str} {params : Arguments} {body : List Stmt} {scope : Scope} {dV kV doc pm cdv ct oc : Value} {an od : Option Addr}
    {osl : Array (Option Value)} {N ps : List Str} {sp : Sp} (lk : K.lookup f = some ⟨oc, od, .func (PySem.W.fnOf name qual params body scope dV kV doc pm an cdv ct), osl⟩) (hcd : PySem.W.codeIn K cdv qual = true) (S : FnScope N ps scope)
    (len : ∀ vs H Q E, sp vs H Q E → vs.length = ps.length)
    (hbody : ∀ (A : Around) (outer : List Env) (s : Shared) (H : Hp) (vs : List V) (Q : VK) (E : XK), Room k (A.deeper (envOfC qual scope s.heap.objs.size f cdv)) → sp vs H Q E →
      ∃ t, PSs (cxOf CX P w K mg base N qual scope f cdv A outer s H E) body t ∧ t { nx := fun _ H' => Q .non H', rt := Q } (start N vs) H) :
    FnOk P w K mg base CX (k + 1) f (PySem.W.fnOf name qual params body scope dV kV doc pm an cdv ct) ps sp := by
  refine ⟨len, fun A outer s H args us vs Q E hr e0 hb r hsp => ?_⟩
  have hl := len _ _ _ _ hsp
  have KX : K.In s.heap := e0.mod.kin.keeps fun b o e => (e0.bs b o e).1
  have lim : s.heap.NoLimit := e0.mod.nolimit.keeps fun b o e => (e0.bs b o e).1
  have hkind : ∀ y ∈ ps.zip us, scope.names.lookup y.1 = some .local ∨ (scope.names.lookup y.1 = some .cell ∧ ((cellsFrom (s.heap.objs.size + 1) scope.names []).lookup y.1).isSome = true) := fun ⟨n, v⟩ hy => by
    rcases S.par n (List.of_mem_zip hy).1 with q | q
    · exact .inl q
    · exact .inr ⟨q, PySem.W.cellsFrom_some _ _ _ (.inl q)⟩
  refine codeAny_call_function hr.depth (KX _ _ lk) rfl S.co S.gen rfl (PySem.W.codeRec_of KX hcd) (hb _ _ _ _ ?_)
  refine wpAny_newFunctionEnv_cells S.kind hkind fun env he s1 x => ?_
  subst he
  refine ⟨lim.keeps x.toInCall.keep, codeAny_func ?_⟩
  obtain ⟨t, ht, hq⟩ := hbody A outer s H vs Q E (hr.deeper _) hsp
  have I : Inv (cxOf CX P w K mg base N qual scope f cdv A outer s H E) [] (start N vs) H s1 := inv_start S hr.hd e0 hl r x
  refine wpAny_mono (ht [] s1 (start N vs) H _ I hq) (fun fl s' hs => ?_) fun e s' hs => hs
  have fin : ∀ {σ' : St} {H' : Hp} {v : V} {u : Value}, Inv (cxOf CX P w K mg base N qual scope f cdv A outer s H E) [] σ' H' s' → RelV v u → Q v H' → CE outer P w H s Q u s' :=
    fun {σ' H' v u} J rv q => ⟨v, H', J.os, J.bare, J.base, J.hok, rv, q⟩
  cases fl with
  | ret u =>
    obtain ⟨v, σ', H', J, rv, q⟩ := hs
    exact fin J rv q
  | next =>
    obtain ⟨σ', H', J, q⟩ := hs
    exact fin (v := V.non) (u := Value.none) J rfl q
  | brk =>
    obtain ⟨_, _, _, q⟩ := hs
    exact False.elim q
  | cont =>
    obtain ⟨_, _, _, q⟩ := hs
    exact False.elim q
end L2

namespace L2
open PySem PySem.Spec PyProof.Rows
section
variable {X : Cx} {x : Str} {p pos : Pos} {e : Expr} {es : List Expr} {t : TA} {id T : String} {r : List V → Hp → VK → Prop}

def tCB (r : List V → Hp → VK → Prop) (t : TA) : TE := fun σ H Q => t σ H fun vs H1 => r vs H1 Q
/-- f(e, ..), f a built-in function -/
theorem pe_callB (hc : CallR X (.builtin id) r) (hg : Gl X x) (hm : X.mg x = none) (hv : bootBuiltins x = some (.builtin id)) (ha : PA X (e :: es) t) (hn : x ≠ "__name__" := by decide) (hdb : (x == ("__debug__" : Str)) = false := by decide)
    (he : starEach (e :: es) X.env = (false, eval e X.env) :: starEach es X.env := by rfl) (hpl : (backTo pos (starEach es X.env)).any (·.1) = false := by rfl) : PE X (.Call (.Name x p) (e :: es) [] pos) (tCB r t) := by
  intro pins s σ H Q I h
  refine wpAny_Call_Name_kw (ld_blt I hg hm hv ?_ hn hdb)
  exact PyProof.Rows.callWith_builtin1 (thn (ha pos pins s σ H _ I h) fun us s1 ⟨vs, H1, I1, r1, q1⟩ => hc pins s1 σ H1 vs us Q I1 r1 q1) he hpl
end
end L2

namespace HT
open PySem PyProof.Rows

section
variable {prog : Program} {w : World} {A : Around} {E : Value → Shared → Prop} {s : Shared}

/-! ### t[a:b], not the whole -/
/-- a slice's bound as a place among n (d where it is left out) -/
def sIx (n d : Nat) : Option Int → Nat
  | none => d
  | some v => if v < 0 then (v + (n : Int)).toNat else min v.toNat n
theorem sIx_none (n d : Nat) : sIx n d none = d := rfl
theorem sIx_nat (n d k : Nat) : sIx n d (some (k : Int)) = min k n := by
  show (if (k : Int) < 0 then ((k : Int) + (n : Int)).toNat else min (k : Int).toNat n) = min k n
  rw [if_neg (by omega), Int.toNat_natCast]
theorem clip_eq (v : Int) (n d : Nat) : (if v < 0 then max (v + (n : Int)) 0 else min v (n : Int)) = ((sIx n d (some v) : Nat) : Int) := by
  show (if v < 0 then max (v + (n : Int)) 0 else min v (n : Int)) = (((if v < 0 then (v + (n : Int)).toNat else min v.toNat n) : Nat) : Int)
  by_cases hv : v < 0
  · simp only [if_pos hv]; omega
  · simp only [if_neg hv]; omega

end
end HT

namespace L2
open PySem PySem.Spec PyProof.Rows

/-! ### the parts of a slice -/
abbrev TO := St → Hp → (Option Int → Hp → Prop) → Prop
/-- a slice's part (left out, or an int) -/
def PO (X : Cx) (e : Option Expr) (t : TO) : Prop :=
  ∀ (pins : List (Addr × Obj)) (s : Shared) (σ : St) (H : Hp) (Q : Option Int → Hp → Prop), Inv X pins σ H s → t σ H Q →
    wpAny (model X.prog X.w) X.A (evalPart e X.env) (fun u s' => ∃ o H', Inv X pins σ H' s' ∧ IsPart u o ∧ Q o H') X.xe s
def tNoPart : TO := fun _ H Q => Q none H
def tPart (t : TE) : TO := fun σ H Q => t σ H fun x H1 => ∃ i, x = .int i ∧ Q (some i) H1

section
variable {X : Cx} {e : Expr} {te : TE} {lo hi : Option Expr} {tl th : TO} {pos p2 : Pos}

theorem po_none : PO X none tNoPart := by
  intro pins s σ H Q I h
  rw [evalPart_none]
  exact wpAny_pure ⟨none, H, I, .none, h⟩
theorem po_some (h : PE X e te) : PO X (some e) (tPart te) := by
  intro pins s σ H Q I hw
  rw [evalPart_some]
  refine thn (h pins s σ H _ I hw) fun u s1 ⟨x, H1, I1, r1, q1⟩ => ?_
  obtain ⟨i, rfl, q⟩ := q1
  obtain ⟨t, rfl⟩ := r1
  exact ⟨some i, H1, I1, .int i t, q⟩

/-- what a slice of a value is, by values: the slice object stands at sl -/
def SlR (X : Cx) (r : V → Option Int → Option Int → Hp → VK → Prop) : Prop :=
  ∀ (pins : List (Addr × Obj)) (s : Shared) (σ : St) (H : Hp) (x : V) (v vl vu : Value) (lo hi : Option Int) (sl : Addr) (Q : VK), Inv X pins σ H s → RelV x v → s.heap.IsSliceOf sl vl vu .none → IsPart vl lo → IsPart vu hi → r x lo hi H Q →
    ∃ T id, typeLookup (.type T) "__getitem__" = pure (some (.builtin id)) ∧ s.TypeIs v T ∧ wpAny (model X.prog X.w) X.A (getItem v (.ref sl)) (EP X pins σ Q) X.xe s
def tSl (r : V → Option Int → Option Int → Hp → VK → Prop) (te : TE) (tl th : TO) : TE := fun σ H Q => te σ H fun x H1 => tl σ H1 fun l H2 => th σ H2 fun u H3 => r x l u H3 Q
/-- a[lo:hi], any a -/
theorem pe_slice {r : V → Option Int → Option Int → Hp → VK → Prop} (hr : SlR X r) (he : PE X e te) (hl : PO X lo tl) (hu : PO X hi th) : PE X (.Subscript e (.Slice lo hi none p2) pos) (tSl r te tl th) := by
  intro pins s σ H Q I h
  refine Subscript_ (thn (he pins s σ H _ I h) fun v s1 ⟨x, H1, I1, r1, q1⟩ => ?_)
  refine wpAny_Slice (thn (hl pins s1 σ H1 _ I1 q1) fun vl s2 ⟨l, H2, I2, pl, q2⟩ => thn (hu pins s2 σ H2 _ I2 q2) fun vu s3 ⟨u, H3, I3, pu, q3⟩ => ?_)
  rw [evalPart_none]
  refine wpAny_pure ?_
  have I4 : Inv X pins σ H3 { s3 with heap := s3.heap.push { cls := .type "slice", data := .fields #[vl, vu, .none] } } := I3.kept (t' := s3.toks) fun b ob q => Heap.get?_push_of_some _ q
  obtain ⟨T, id, hT, ht, hg⟩ := hr pins { s3 with heap := s3.heap.push { cls := .type "slice", data := .fields #[vl, vu, .none] } } σ H3 x v vl vu l u s3.heap.objs.size Q I4 r1 (Heap.IsSliceOf.new ..) pl pu q3
  show wpAny (model X.prog X.w) X.A (subscriptTail e (.Slice lo hi none p2) v (.ref s3.heap.objs.size)) (EP X pins σ Q) X.xe { s3 with heap := s3.heap.push { cls := .type "slice", data := .fields #[vl, vu, .none] } }
  exact tail_any (ops := [.ref s3.heap.objs.size, v]) ht hT hg (by with_unfolding_all rfl)

/-- the items of xs[lo:hi] -/
def cutV (xs : List V) (lo hi : Option Int) : List V := (xs.drop (HT.sIx xs.length 0 lo)).take (HT.sIx xs.length xs.length hi - HT.sIx xs.length 0 lo)
theorem cutV_length (xs : List V) (lo hi : Option Int) : (cutV xs lo hi).length ≤ xs.length := by
  unfold cutV
  rw [List.length_take, List.length_drop]
  omega

/-! ### t < u, t + u -/
end
end L2

namespace L2
open PySem PySem.Spec PyProof.Rows

/-! ### places -/
/-- the place that an index of any sign means -/
def ixN (n : Nat) (i : Int) : Option Nat := if 0 ≤ i then (if i < n then some i.toNat else none) else if -(n : Int) ≤ i then some (i + n).toNat else none
def atI {α : Type} (xs : List α) (i : Int) : Option α := (ixN xs.length i).bind fun j => xs[j]?
theorem ixN_seq {n : Nat} {i : Int} {j : Nat} (h : ixN n i = some j) : seqIndex? i n = some j ∧ j < n ∧ -(n : Int) ≤ i ∧ i < n := by
  unfold ixN at h
  by_cases h0 : 0 ≤ i
  · rw [if_pos h0] at h
    by_cases h1 : i < n
    · rw [if_pos h1] at h
      have e : i.toNat = j := Option.some.inj h
      exact ⟨by rw [seqIndex_of h0 h1, e], by omega, by omega, h1⟩
    · rw [if_neg h1] at h; cases h
  · rw [if_neg h0] at h
    by_cases h1 : -(n : Int) ≤ i
    · rw [if_pos h1] at h
      have e : (i + n).toNat = j := Option.some.inj h
      exact ⟨by rw [seqIndex_neg (by omega) h1, e], by omega, h1, by omega⟩
    · rw [if_neg h1] at h; cases h
theorem atI_get {α : Type} {xs : List α} {i : Int} {v : α} (h : atI xs i = some v) : ∃ j, seqIndex? i xs.length = some j ∧ xs[j]? = some v ∧ j < xs.length ∧ -(xs.length : Int) ≤ i ∧ i < xs.length := by
  unfold atI at h
  cases e : ixN xs.length i with
  | none => rw [e] at h; cases h
  | some j =>
    rw [e] at h
    obtain ⟨h1, h2, h3, h4⟩ := ixN_seq e
    exact ⟨j, h1, h, h2, h3, h4⟩
theorem atI_nat {α : Type} {xs : List α} {j : Nat} {v : α} (h : xs[j]? = some v) : atI xs (j : Int) = some v := by
  have hj : j < xs.length := (List.getElem?_eq_some_iff.mp h).1
  have e : ixN xs.length (j : Int) = some j := by
    unfold ixN
    rw [if_pos (by omega), if_pos (by omega)]; simp
  unfold atI; rw [e]; exact h

/-! ### what may be subscripted -/
/-- what stands as an index of a plain subscript -/
def PlainIx (b : Expr) : Prop := ∀ o i, subscripted b false o i = operate [o, i] (getItem o i)
/-- a subscript by values -/
def IxR (X : Cx) (r : R2) : Prop :=
  ∀ (value slice : Expr) (pins : List (Addr × Obj)) (s : Shared) (σ : St) (H : Hp) (x y : V) (v u : Value) (Q : VK), Inv X pins σ H s → RelV x v → RelV y u → r x y H Q →
    subscripted slice false v u = operate [v, u] (getItem v u) → wpAny (model X.prog X.w) X.A (subscriptTail value slice v u) (EP X pins σ Q) X.xe s
/-- a call of a builtin's method by values: the receiver, the arguments -/
def MtR (X : Cx) (id : String) (r : V → List V → Hp → VK → Prop) : Prop :=
  ∀ (pins : List (Addr × Obj)) (s : Shared) (σ : St) (H : Hp) (x : V) (xs : List V) (v : Value) (us : List Value) (Q : VK), Inv X pins σ H s → RelV x v → Vals xs us → r x xs H Q →
    wpAny (model X.prog X.w) X.A (call (.builtin id) (v :: us)) (EP X pins σ Q) X.xe s
section
variable {X : Cx} {a b : Expr} {ta tb : TE} {pos : Pos}
/-- a[b] -/
theorem pe_ix {r : R2} (hr : IxR X r) (ha : PE X a ta) (hb : PE X b tb) (hs : PlainIx b) : PE X (.Subscript a b pos) (tOp r ta tb) := by
  intro pins s σ H Q I h
  exact Subscript_ (binT ha hb I h fun v u s2 x y H2 I2 rx ry q => hr a b pins s2 σ H2 x y v u Q I2 rx ry q (hs _ _))

def rIxL (K : PySem.W.Frag) : R2 := fun x y H Q => ∃ p xs i v, x = .ref p ∧ y = .int i ∧ SqL K H p xs ∧ atI xs i = some v ∧ Q v H
def rIxT (K : PySem.W.Frag) : R2 := fun x y H Q => ∃ p xs i v, x = .ref p ∧ y = .int i ∧ SqT K H p xs ∧ atI xs i = some v ∧ Q v H
theorem ix_list : IxR X (rIxL X.K) := by
  intro value slice pins s σ H x y v u Q I rx ry h hs
  obtain ⟨p, xs, i, z, rfl, rfl, hq, he, q⟩ := h
  cases rx
  obtain ⟨t, rfl⟩ := ry
  obtain ⟨its, r, pl, hz⟩ := I.list hq
  obtain ⟨j, h1, h2, h3, h4, h5⟩ := atI_get he
  obtain ⟨w, ew, rw'⟩ := r.get h2
  have hl := r.length
  have hn := line63
  have fin : EP X pins σ Q w s := ⟨z, H, I, rw', q⟩
  by_cases h0 : 0 ≤ i
  · have hj : i.toNat = j := by
      rw [seqIndex_of h0 h5] at h1
      exact Option.some.inj h1
    exact item_listR pl.isList h0 (by omega) (by rw [hj]; simpa using ew) fin hs
  · have hj : (i + (its.toArray.size : Int)).toNat = j := by
      rw [seqIndex_neg (by omega) h4] at h1
      rw [List.size_toArray, ← hl]
      exact Option.some.inj h1
    exact subscriptTail_builtinR (x := w) pl.isList.typeIs slot_list_getitem.lookup
      (wpAny_getItem_list_neg (Q := fun r s' => r = w ∧ EP X pins σ Q r s') pl.isList (by omega) (by rw [List.size_toArray] <;> omega) (by omega) (by rw [hj]; simpa using ew) ⟨rfl, fin⟩) hs
theorem ix_tup : IxR X (rIxT X.K) := by
  intro value slice pins s σ H x y v u Q I rx ry h hs
  obtain ⟨p, xs, i, z, rfl, rfl, hq, he, q⟩ := h
  cases rx
  obtain ⟨t, rfl⟩ := ry
  obtain ⟨its, r, pl, hz⟩ := I.tuple hq
  obtain ⟨j, h1, h2, h3, h4, h5⟩ := atI_get he
  obtain ⟨w, ew, rw'⟩ := r.get h2
  have hl := r.length
  have hn := line63
  have fin : EP X pins σ Q w s := ⟨z, H, I, rw', q⟩
  exact subscriptTail_builtinR (x := w) pl.typeIs slot_tuple_getitem.lookup
    (getItem_tuple (j := j) (Q := fun r s' => r = w ∧ EP X pins σ Q r s') pl (by omega) (by omega) (by rw [List.size_toArray, ← hl]; exact h1) (by simpa using ew) ⟨rfl, fin⟩) hs

/-! ### xs[i] = v, any sign -/
/-- the list's object behind a store -/
theorem mapSeq_set (its : List Value) (n j : Nat) (u : Value) : Obj.mapSeq (·.setIfInBounds j u) { cls := .type "list", data := .seq its.toArray n } = { cls := .type "list", data := .seq (its.set j u).toArray n } := by
  simp [Obj.mapSeq]
theorem Inv.lst {pins : List (Addr × Obj)} {σ : St} {H : Hp} {s : Shared} {p : Addr} {xs : List V} (I : Inv X pins σ H s) (h : H p = some (.lst xs)) :
    ∃ (its : List Value) (n : Nat), Vals xs its ∧ s.heap.get? p = some { cls := .type "list", data := .seq its.toArray n } ∧ xs.length ≤ sizeLine := by
  obtain ⟨z, its, n, r, e⟩ := I.hok p _ h
  exact ⟨its, n, r, e, z⟩
/-- the list at p is written by an update of its object -/
theorem Inv.lstUpd {pins : List (Addr × Obj)} {σ : St} {H : Hp} {s : Shared} {p : Addr} {xs ys : List V} {its its' : List Value} {n n' : Nat} {f : Obj → Obj} (I : Inv X pins σ H s) (h : H p = some (.lst xs))
    (ho : s.heap.get? p = some { cls := .type "list", data := .seq its.toArray n }) (hf : f { cls := .type "list", data := .seq its.toArray n } = { cls := .type "list", data := .seq its'.toArray n' }) (r : Vals ys its') (hz : ys.length ≤ sizeLine) (t : Nat) :
    Inv X pins σ (upd H p (.lst ys)) { s with heap := s.heap.update p f, toks := t } := by
  have e : (s.heap.update p f).get? p = some { cls := .type "list", data := .seq its'.toArray n' } := by
    rw [Heap.get?_update_self f ho (by rw [hf] <;> rfl), hf]
  refine I.write (x := p) (e := p) (by rw [h]; trivial) (.inl rfl) (fun b u hb q => (Heap.get?_update_other _ _ (Ne.symm hb)).trans q) ⟨_, e⟩ ?_
  exact ⟨hz, its', n', r, e⟩
def rSetL : V → V → V → Hp → (Hp → Prop) → Prop := fun o i v H Q => ∃ p xs k j, o = .ref p ∧ i = .int k ∧ H p = some (.lst xs) ∧ ixN xs.length k = some j ∧ Q (upd H p (.lst (xs.set j v)))
theorem set_list : PSet X rSetL := by
  intro pins s σ H o i v ov iv u Q I ro ri rv h
  obtain ⟨p, xs, k, j, rfl, rfl, hp, hj, q⟩ := h
  cases ro
  obtain ⟨t, rfl⟩ := ri
  obtain ⟨its, n, r, ho, hz⟩ := I.lst hp
  obtain ⟨h1, h2, h3, h4⟩ := ixN_seq hj
  have hl := r.length
  have hn := line63
  have I' : Inv X pins σ (upd H p (.lst (xs.set j v))) { s with heap := s.heap.update p (Obj.mapSeq (·.setIfInBounds j u)) } :=
    I.lstUpd hp ho (mapSeq_set its n j u) (r.set rv j) (by rw [List.length_set]; exact hz) s.toks
  by_cases h0 : 0 ≤ k
  · have hk : k.toNat = j := by
      rw [seqIndex_of h0 h4] at h1
      exact Option.some.inj h1
    exact PySem.W.ki_setAt ho h0 (by omega) (by rw [List.size_toArray, ← hl]; exact h4) (by rw [hk]; exact ⟨_, I', q⟩)
  · have hk : (k + (its.toArray.size : Int)).toNat = j := by
      rw [seqIndex_neg (by omega) h3] at h1
      rw [List.size_toArray, ← hl]
      exact Option.some.inj h1
    exact PySem.W.ki_setBack ho (by omega) (by rw [List.size_toArray, ← hl]; exact h3) (by omega) (by rw [hk]; exact ⟨_, I', q⟩)

/-! ### slices -/
theorem slice_bounds (lo hi : Option Int) (n : Nat) : (sliceBounds lo hi none n).1 = ((HT.sIx n 0 lo : Nat) : Int) ∧ (sliceBounds lo hi none n).2.1 = ((HT.sIx n n hi : Nat) : Int) ∧ (sliceBounds lo hi none n).2.2 = 1 := by
  refine ⟨?_, ?_, rfl⟩
  · cases lo with
    | none => simp [sliceBounds, HT.sIx]
    | some i =>
      simp only [sliceBounds, HT.sIx, Option.getD_none, show (1 : Int) > 0 by decide, if_true]
      by_cases h : i < 0
      · simp only [h, if_true] <;> omega
      · simp only [h, if_false] <;> omega
  · cases hi with
    | none => simp [sliceBounds, HT.sIx]
    | some i =>
      simp only [sliceBounds, HT.sIx, Option.getD_none, show (1 : Int) > 0 by decide, if_true]
      by_cases h : i < 0
      · simp only [h, if_true] <;> omega
      · simp only [h, if_false] <;> omega
theorem slicePick_cut (its : List Value) (lo hi : Option Int) : slicePick its.toArray lo hi none = ((its.drop (HT.sIx its.length 0 lo)).take (HT.sIx its.length its.length hi - HT.sIx its.length 0 lo)).toArray := by
  obtain ⟨h1, h2, h3⟩ := slice_bounds lo hi its.toArray.size
  unfold slicePick
  rw [h1, h2, h3]
  simp only [sliceRange_one, pick_run, List.size_toArray] <;> rfl
/-- xs[lo:hi] of a list: a new list -/
def rSlL (K : PySem.W.Frag) : V → Option Int → Option Int → Hp → VK → Prop := fun x lo hi H Q => ∃ a xs, x = .ref a ∧ SqL K H a xs ∧ ∀ p, H p = none → Q (.ref p) (upd H p (.lst (cutV xs lo hi)))
theorem sl_list : SlR X (rSlL X.K) := by
  intro pins s σ H x v vl vu lo hi sl Q I rx hs pl pu h
  obtain ⟨a, xs, rfl, hx, q⟩ := h
  cases rx
  obtain ⟨its, r, ht, hz⟩ := I.list hx
  have hlen := r.length
  refine ⟨"list", _, slot_list_getitem.lookup, ht.isList.typeIs, ?_⟩
  refine wpAny_getItem_list_slice ht.isList hs pl pu .none (by simp) ?_ (by rw [List.size_toArray] <;> omega)
  rw [slicePick_cut, ← hlen]
  refine ⟨.ref s.heap.objs.size, _, I.laid (t' := s.toks) (o := .lst (cutV xs lo hi)) (fun b ob q => Heap.get?_push_of_some _ q) (Nat.le_refl _) ?_, rfl, q _ (I.hok.fresh (Nat.le_refl _))⟩
  exact ⟨Nat.le_trans (cutV_length xs lo hi) hz, _, 0, (r.drop (HT.sIx xs.length 0 lo)).take (HT.sIx xs.length xs.length hi - HT.sIx xs.length 0 lo), Heap.get?_push_size _ rfl⟩

/-! ### in, not in: flat items -/

/-! ### len, list(x), tuple(x) of any list or tuple that is read -/
theorem call_len_seq : CallR X (.builtin "len") (fun xs H Q => ∃ p ys, xs = [.ref p] ∧ (SqL X.K H p ys ∨ SqT X.K H p ys) ∧ Q (.int ys.length) H) := by
  intro pins s σ H xs us Q I r h
  obtain ⟨p, ys, rfl, hq, q⟩ := h
  obtain ⟨u, rfl, rx⟩ := vals1 r
  cases rx
  have hn := line63
  rcases hq with hq | hq
  · obtain ⟨its, r', pl, hz⟩ := I.list hq
    have hlen := r'.length
    exact Calls.call_len_list pl.isList (by simp only [List.size_toArray] <;> omega) ⟨.int ys.length, H, I.tok _, ⟨s.toks + 1, by rw [List.size_toArray, hlen]⟩, q⟩
  · obtain ⟨its, r', pl, hz⟩ := I.tuple hq
    have hlen := r'.length
    exact len_tuple pl (by simp only [List.size_toArray] <;> omega) ⟨.int ys.length, H, I.tok _, ⟨s.toks + 1, by rw [List.size_toArray, hlen]⟩, q⟩

/-! ### the call of a builtin's method: o.m(..) -/
/-- the value is of that builtin type -/
def tyV (K : PySem.W.Frag) (T : String) (x : V) (H : Hp) : Prop := match x with
  | .str _ => T = "str"
  | .int _ => T = "int"
  | .ref p => (T = "list" ∧ ∃ xs, SqL K H p xs) ∨ (T = "tuple" ∧ ∃ o, K.lookup p = some o ∧ o.cls = .type "tuple" ∧ o.dict = none) ∨
      (T = "dict" ∧ ((∃ kvs, H p = some (.dK kvs)) ∨ ∃ kvs, H p = some (.dT kvs))) ∨ (T = "set" ∧ ∃ S n, H p = some (.set S n))
  | _ => False
theorem tyV_is {pins : List (Addr × Obj)} {σ : St} {H : Hp} {s : Shared} {T : String} {x : V} {v : Value} (I : Inv X pins σ H s) (r : RelV x v) (ty : tyV X.K T x H) :
    s.TypeIs v T ∧ ∀ a, v = .ref a → ∃ ob, s.heap.get? a = some ob ∧ ob.dict = none := by
  cases x with
  | str z =>
    obtain ⟨t, rfl⟩ := r
    cases (show T = "str" from ty)
    exact ⟨typeIs_str s z t, fun _ e => nomatch e⟩
  | int i =>
    obtain ⟨t, rfl⟩ := r
    cases (show T = "int" from ty)
    exact ⟨typeIs_int s i t, fun _ e => nomatch e⟩
  | ref p =>
    cases r
    rcases ty with ⟨rfl, xs, hq⟩ | ⟨rfl, o, hk, hc, hd⟩ | ⟨rfl, hk⟩ | ⟨rfl, S, n, hk⟩
    · obtain ⟨its, _, pl, _⟩ := I.list hq
      refine ⟨pl.isList.typeIs, fun a e => ?_⟩
      cases e
      obtain ⟨o, n, e, c, hd, _⟩ := pl
      exact ⟨o, e, hd⟩
    · refine ⟨⟨o, I.kIn p o hk, hc⟩, fun a e => ?_⟩
      cases e
      exact ⟨o, I.kIn _ o hk, hd⟩
    · have z : ∃ o, s.heap.get? p = some o ∧ o.ExactDict := by
        rcases hk with ⟨kvs, hk⟩ | ⟨kvs, hk⟩
        · obtain ⟨_, _, _, _, o, _, _, e, ex, _⟩ := I.hok p _ hk
          exact ⟨o, e, ex⟩
        · obtain ⟨_, _, _, _, o, _, _, e, ex, _⟩ := I.hok p _ hk
          exact ⟨o, e, ex⟩
      obtain ⟨o, e, ex⟩ := z
      refine ⟨⟨o, e, ex.1⟩, fun a e2 => ?_⟩
      cases e2
      exact ⟨o, e, ex.2.1⟩
    · obtain ⟨o, _, _, _, e, ex, _⟩ := I.hok p _ hk
      refine ⟨⟨o, e, ex.1⟩, fun a e2 => ?_⟩
      cases e2
      exact ⟨o, e, ex.2.1⟩
  | _ => exact False.elim ty
def tBM (K : PySem.W.Frag) (T : String) (r : V → List V → Hp → VK → Prop) (to : TE) (t : TA) : TE := fun σ H Q => to σ H fun x H1 => tyV K T x H1 ∧ t σ H1 fun xs H2 => r x xs H2 Q
variable {o e : Expr} {es : List Expr} {to : TE} {t : TA} {name : Str} {apos cpos : Pos} {T id : String} {r : V → List V → Hp → VK → Prop}
theorem pe_bm (pa : PlainAttrs T) (slot : Slot T name id) (hty : typeOf (.builtin id) = pure (.type "method_descriptor")) (hm : MtR X id r) (ho : PE X o to) (ha : PA X (e :: es) t)
    (hbase : attributeBase o name X.env (eval o X.env) = eval o X.env := by rfl)
    (hfew : ((backTo cpos (starEach (e :: es) X.env)).all (fun x => !x.1) && (backToKw cpos (keywordEach [] X.env)).all (fun x => x.1.isSome)
      && decide ((e :: es).length + ([] : List Keyword).length + (if ([] : List Keyword).isEmpty then 0 else 1) < 30)) = true := by rfl)
    (hline : (apos.endLine == cpos.line) = true := by rfl) (hs : starEach (e :: es) X.env = (false, eval e X.env) :: starEach es X.env := by rfl) (hplain : (backTo cpos (starEach es X.env)).any (·.1) = false := by rfl) :
    PE X (.Call (.Attribute o name apos) (e :: es) [] cpos) (tBM X.K T r to t) := by
  intro pins s σ H Q I h
  refine wpAny_Call_method_late hbase hfew hline rfl (thn (ho pins s σ H _ I h) fun v s1 ⟨x, H1, I1, r1, ty, q1⟩ => ?_)
  obtain ⟨h1, h2⟩ := tyV_is I1 r1 ty
  refine ⟨T, id, pa, slot, hty, h1, h2, ?_⟩
  have hA := ha cpos pins s1 σ H1 _ I1 q1
  rw [hs] at hA ⊢
  refine Calls.callWith_builtin (by show (false || (backTo cpos (starEach es X.env)).any (·.1)) = false; rw [hplain] <;> rfl) (Calls.evalArgs_plain ?_)
  exact thn hA fun us s2 ⟨vs, H2, I2, r2, q2⟩ => hm pins s2 σ H2 x vs v us Q I2 r1 r2 q2
/- xs.append(e), list.index on a module's tuple .. are MtR facts of 06m -/
end
end L2

namespace L2
open PySem PySem.Spec PyProof.Rows

def MtM (X : Cx) (id : String) (r : V → List V → Hp → VK → Prop) : Prop :=
  ∀ (pins : List (Addr × Obj)) (s : Shared) (σ : St) (H : Hp) (x : V) (xs : List V) (v : Value) (us : List Value) (Q : VK), Inv X pins σ H s → RelV x v → Vals xs us → r x xs H Q →
    wpAny (model X.prog X.w) X.A (call (.builtin id) (v :: us)) (EP X pins σ Q) X.xe s

/-! ### lists of values -/
theorem Vals.one : ∀ {x : V} {us : List Value}, Vals [x] us → ∃ u, us = [u] ∧ RelV x u
  | _, _, .cons r .nil => ⟨_, rfl, r⟩
theorem Vals.rep {xs : List V} {us : List Value} (h : Vals xs us) : ∀ k : Nat, Vals (List.replicate k xs).flatten (List.replicate k us).flatten
  | 0 => .nil
  | k + 1 => by
    rw [List.replicate_succ, List.replicate_succ, List.flatten_cons, List.flatten_cons]
    exact Vals.append h (Vals.rep h k)
theorem foldl_rep (its : List Value) : ∀ (k : Nat) (acc : List Value),
    List.foldl (fun x1 x2 => x1 ++ x2) acc.toArray (List.replicate k its.toArray) = (acc ++ (List.replicate k its).flatten).toArray
  | 0, acc => by simp
  | k + 1, acc => by
    have e : acc.toArray ++ its.toArray = (acc ++ its).toArray := by simp
    have e2 : (acc ++ its) ++ (List.replicate k its).flatten = acc ++ (List.replicate (k + 1) its).flatten := by
      rw [List.replicate_succ, List.flatten_cons, List.append_assoc]
    rw [← e2, ← foldl_rep its k (acc ++ its), ← e, List.replicate_succ, List.foldl_cons]

section
variable {X : Cx} {pins : List (Addr × Obj)} {σ : St} {H : Hp} {s : Shared} {l b : Addr} {xs ys zs : List V}

/-! ### the two steps: a tracked list is rewritten, a new list is laid -/
theorem Inv.lset {its its' : List Value} {n : Nat} {f : Array Value → Array Value} {t' : Nat} (I : Inv X pins σ H s) (hH : H l = some (.lst xs))
    (e : s.heap.get? l = some { cls := .type "list", data := .seq its.toArray n }) (hf : f its.toArray = its'.toArray) (hv : Vals ys its') (hz : ys.length ≤ sizeLine) :
    Inv X pins σ (upd H l (.lst ys)) { s with heap := s.heap.update l (Obj.mapSeq f), toks := t' } := by
  have q := PySem.IsL.update e f
  rw [hf] at q
  refine I.write (x := l) (e := l) (by rw [hH]; exact trivial) (.inl rfl) (fun b' u hb hu => (Heap.get?_update_other s.heap (Obj.mapSeq f) (Ne.symm hb)).trans hu) ⟨_, q⟩ ?_
  exact ⟨hz, its', _, hv, q⟩
theorem Inv.lnew {its : List Value} {t' : Nat} (I : Inv X pins σ H s) (hv : Vals ys its) (hz : ys.length ≤ sizeLine) :
    Inv X pins σ (upd H s.heap.objs.size (.lst ys)) { s with heap := s.heap.push { cls := .type "list", data := .seq its.toArray }, toks := t' } :=
  I.laid (fun _ _ q => Heap.get?_push_of_some _ q) (Nat.le_refl _) ⟨hz, its, 0, hv, Heap.get?_push_size _ rfl⟩
theorem Inv.fresh (I : Inv X pins σ H s) : H s.heap.objs.size = none := I.hok.fresh (Nat.le_refl _)
theorem Inv.lstM (I : Inv X pins σ H s) (hH : H l = some (.lst xs)) : xs.length ≤ sizeLine ∧ ∃ (its : List Value) (n : Nat), Vals xs its ∧ xs.length = its.length ∧ s.heap.get? l = some { cls := .type "list", data := .seq its.toArray n } := by
  obtain ⟨z, its, n, r, e⟩ := I.hok l _ hH
  exact ⟨z, its, n, r, r.length, e⟩

theorem notLongL {n : Nat} (h : n ≤ sizeLine) : Builtin.List.listTooLong n = false := by
  unfold Builtin.List.listTooLong
  exact decide_eq_false (by omega)
end

section
variable {X : Cx}

/-! ### methods -/
def rAppend : V → List V → Hp → VK → Prop := fun x vs H Q => ∃ l xs y, x = .ref l ∧ vs = [y] ∧ H l = some (.lst xs) ∧ xs.length < sizeLine ∧ Q .non (upd H l (.lst (xs ++ [y])))
theorem mt_append : MtM X "list.append" rAppend := by
  intro pins s σ H x vs v us Q I rx rv h
  obtain ⟨l, xs, y, rfl, rfl, hH, hz, q⟩ := h
  cases rx
  obtain ⟨u, rfl, ru⟩ := rv.one
  obtain ⟨z, its, n, r, hl, e⟩ := I.lstM hH
  refine call_meets F.slot_list_append ⟨_, e, rfl⟩ F.entry_list_append (F.args_list_append_2 _ _) (PySem.list_append l its.toArray n u (by rw [List.size_toArray]; omega)) ⟨e, ?_⟩
  refine ⟨.non, _, I.lset (its' := its ++ [u]) hH e (by simp) (r.append (.cons ru .nil)) ?_, rfl, q⟩
  rw [List.length_append, List.length_singleton]
  omega

def rExtend : V → List V → Hp → VK → Prop := fun x vs H Q => ∃ l b xs zs, x = .ref l ∧ vs = [.ref b] ∧ H l = some (.lst xs) ∧ H b = some (.lst zs) ∧ xs.length + zs.length ≤ sizeLine ∧ Q .non (upd H l (.lst (xs ++ zs)))
theorem mt_extend : MtM X "list.extend" rExtend := by
  intro pins s σ H x vs v us Q I rx rv h
  obtain ⟨l, b, xs, zs, rfl, rfl, hH, hB, hz, q⟩ := h
  cases rx
  obtain ⟨u, rfl, ru⟩ := rv.one
  cases ru
  obtain ⟨z, its, n, r, hl, e⟩ := I.lstM hH
  obtain ⟨z2, its2, n2, r2, hl2, e2⟩ := I.lstM hB
  have hsz : its.toArray.size + its2.toArray.size ≤ sizeLine := by rw [List.size_toArray, List.size_toArray]; omega
  have hlong : ¬ (!its.toArray.isEmpty && Builtin.List.listTooLong (its.toArray.size + its2.toArray.size)) = true := by
    rw [notLongL hsz, Bool.and_false]
    exact Bool.false_ne_true
  refine call_meets F.slot_list_extend ⟨_, e, rfl⟩ F.entry_list_extend (F.args_list_extend_2 _ _)
    (AutoSeq1.list_extend_list_list_0 l its.toArray n b its2.toArray n2 hlong (by rw [List.size_toArray]; omega) (by omega)) ⟨e, e2, ?_⟩
  refine ⟨.non, _, I.lset (its' := its ++ its2) hH e (by simp) (r.append r2) ?_, rfl, q⟩
  rw [List.length_append]
  omega

/-! ### list + list, list += list, list * int -/
def rCat : R2 := fun x y H Q => ∃ l b xs zs, x = .ref l ∧ y = .ref b ∧ H l = some (.lst xs) ∧ H b = some (.lst zs) ∧ xs.length + zs.length ≤ sizeLine ∧ ∀ p, H p = none → Q (.ref p) (upd H p (.lst (xs ++ zs)))
theorem op_cat : OpR X (binaryOp .Add) rCat := by
  intro pins s σ H x y v u Q I rx ry h
  obtain ⟨l, b, xs, zs, rfl, rfl, hH, hB, hz, q⟩ := h
  cases rx
  cases ry
  obtain ⟨z, its, n, r, hl, e⟩ := I.lstM hH
  obtain ⟨z2, its2, n2, r2, hl2, e2⟩ := I.lstM hB
  refine PySem.P.add_list e e2 ?_ (by rw [List.size_toArray, List.size_toArray]; omega)
  have ea : its.toArray ++ its2.toArray = (its ++ its2).toArray := by simp
  rw [ea]
  exact ⟨.ref _, _, I.lnew (t' := s.toks) (r.append r2) (by rw [List.length_append]; omega), rfl, q _ I.fresh⟩
/-- a list times an int (a negative one is nothing) -/
def rRep : R2 := fun x y H Q => ∃ l k xs, x = .ref l ∧ y = .int k ∧ H l = some (.lst xs) ∧ -(2 ^ 63) ≤ k ∧ k < 2 ^ 63 ∧ xs.length * k.toNat ≤ sizeLine ∧
  ∀ p, H p = none → Q (.ref p) (upd H p (.lst (List.replicate k.toNat xs).flatten))
theorem len_rep {α : Type} (xs : List α) (k : Nat) : (List.replicate k xs).flatten.length = k * xs.length := by
  induction k with
  | zero => simp
  | succ k ih => rw [List.replicate_succ, List.flatten_cons, List.length_append, ih, Nat.succ_mul, Nat.add_comm]
theorem op_rep : OpR X (binaryOp .Mult) rRep := by
  intro pins s σ H x y v u Q I rx ry h
  obtain ⟨l, k, xs, rfl, rfl, hH, h1, h2, hz, q⟩ := h
  cases rx
  obtain ⟨t, rfl⟩ := ry
  obtain ⟨z, its, n, r, hl, e⟩ := I.lstM hH
  have hlen : its.toArray.size * k.toNat ≤ sizeLine := by rw [List.size_toArray, ← hl]; exact hz
  have hcap : ¬ its.toArray.size * k.toNat > (2 ^ 63 - 1) / 8 := by
    have : (sizeLine : Nat) ≤ (2 ^ 63 - 1) / 8 := by decide
    omega
  have hfit : ¬ (!Builtin.List.listFitsIndex k) = true := by
    rw [fitsIndex_both h1 h2]
    exact Bool.false_ne_true
  have hlong : ¬ Builtin.List.listTooLong (its.toArray.size * k.toNat) = true := by
    rw [notLongL hlen]
    exact Bool.false_ne_true
  have hnew : List.foldl (fun x1 x2 => x1 ++ x2) #[] (List.replicate (if its.toArray.isEmpty = true then 0 else k.toNat) its.toArray) = (List.replicate k.toNat its).flatten.toArray := by
    have f0 : ∀ m : Nat, List.foldl (fun x1 x2 => x1 ++ x2) #[] (List.replicate m its.toArray) = (List.replicate m its).flatten.toArray := fun m => by
      have := foldl_rep its m []
      rw [List.nil_append] at this
      exact this
    rw [f0]
    cases its with
    | nil => simp
    | cons a r' => rw [if_neg (by simp)]
  refine wpAny_binaryOp_repeat_ref (T := "list") (U := "int") (by decide) ⟨_, e, rfl⟩ (fun s' => typeIs_int s' k t) noFill_list_mul F.fills_int_mul F.slot_int_rmul repeat_list F.slot_int_index.lookup
    (call_meets F.slot_int_rmul (typeIs_int s k t) F.entry_int_rmul (F.args_int_rmul_2 _ _) (int___rmul___int_list k t l its.toArray n)
      ⟨e, rfl, ⟨_, e, rfl⟩, call_meets F.slot_list_mul ⟨_, e, rfl⟩ F.entry_list_mul (F.args_list_mul_2 _ _) (AutoListH.list___mul___list_int_3 l its.toArray n k t hfit hcap hlong) ⟨e, ?_⟩⟩)
  rw [hnew]
  exact ⟨.ref _, _, I.lnew (t' := s.toks) (r.rep k.toNat) (by rw [len_rep, Nat.mul_comm]; exact hz), rfl, q _ I.fresh⟩

/-! ### del xs[i] -/
end

/-! ### xs[a:b] = ys -/
section
variable {prog : Program} {w : World} {A : Around} {E : Value → Shared → Prop} {s : Shared}
end

end L2

namespace L2
open PySem PySem.Spec PyProof.Rows

theorem Vals.ints : ∀ {ns : List Int} {us : List Value}, Vals (ns.map V.int) us → IntsAre us ns
  | [], us, h => by
    rw [List.map_nil] at h
    cases h
    exact IntsAre.nil
  | n :: ns, us, h => by
    rw [List.map_cons] at h
    cases h with
    | cons r t =>
      obtain ⟨k, rfl⟩ := r
      exact IntsAre.cons n k (Vals.ints t)
theorem Vals.bls : ∀ {bs : List Bool} {us : List Value}, Vals (bs.map V.bl) us → us = bs.map Value.bool
  | [], us, h => by
    rw [List.map_nil] at h
    cases h
    rfl
  | b :: bs, us, h => by
    rw [List.map_cons] at h
    cases h with
    | cons r t =>
      cases r
      rw [Vals.bls t, List.map_cons]
theorem Vals.ref1 {a : Addr} {us : List Value} (r : Vals [V.ref a] us) : us = [Value.ref a] := by
  cases r with
  | cons r t =>
    cases t
    cases r
    rfl

/-! ### the library's walks over a list of ints, kept objects alone -/
section
variable {prog : Program} {w : World} {A : Around} {E : Value → Shared → Prop} {s : Shared} {l : Addr} {its : List Value} {ns : List Int} {Q : Value → Shared → Prop}
theorem sum_raw (hh : A.handled = none) (hl : s.heap.IsList l its.toArray) (hi : IntsAre its ns)
    (h : ∀ h' tk t', (∀ b o, s.heap.get? b = some o → h'.get? b = some o) → Q (.int ns.sum t') { s with heap := h', toks := tk }) : wpAny (model prog w) A (call (.builtin "sum") [.ref l]) Q E s := by
  obtain ⟨xs, e⟩ := hi.allInts.items
  have hn : numsOf (intItems xs).toList = ns := by rw [← e]; exact hi.numsOf
  rw [nums_intItems] at hn
  rw [e] at hl
  refine PySem.sum_intListG hh hl fun h' tk t' hk => ?_
  have := h h' tk t' hk
  rw [preSum_eq, List.take_of_length_le (by simp), hn]; exact this
theorem max_raw (hh : A.handled = none) (hl : s.heap.IsList l its.toArray) (hi : IntsAre its ns) (hne : 0 < ns.length)
    (h : ∀ h' tk M t', (∀ b o, s.heap.get? b = some o → h'.get? b = some o) → M ∈ ns → (∀ a, a ∈ ns → a ≤ M) → Q (.int M t') { s with heap := h', toks := tk }) : wpAny (model prog w) A (call (.builtin "max") [.ref l]) Q E s := by
  obtain ⟨xs, e⟩ := hi.allInts.items
  have hn : numsOf (intItems xs).toList = ns := by rw [← e]; exact hi.numsOf
  rw [nums_intItems] at hn
  subst hn
  rw [e] at hl
  have hsz : 0 < xs.size := by simpa using hne
  refine PySem.max_intList hh hl hsz fun v h' tk hv hk => ?_
  obtain ⟨t, rfl⟩ := intItems_at hv
  obtain ⟨h1, h2⟩ := argBest_gt (numAt xs) (xs.size - 1)
  refine h h' tk _ t hk ?_ fun a ha => ?_
  · rw [numAt_eq]; exact PySem.getD_mem (by rw [List.length_map, Array.length_toList]; omega)
  · obtain ⟨j, hj, rfl⟩ := mem_getD ha
    rw [List.length_map, Array.length_toList] at hj
    rw [← numAt_eq]; exact h2 j (by omega)
end

/-! ### the calls, by values (CallR of 03t; MtR of 06l) -/
section
variable {X : Cx}
/-- sum(xs) of a list of ints -/
def rSum (K : PySem.W.Frag) : List V → Hp → VK → Prop := fun vs H Q => ∃ (a : Addr) (ns : List Int), vs = [V.ref a] ∧ SqL K H a (ns.map V.int) ∧ Q (.int ns.sum) H
/-- max(xs), min(xs) of a list of ints -/
def rMax (K : PySem.W.Frag) : List V → Hp → VK → Prop := fun vs H Q => ∃ (a : Addr) (ns : List Int), vs = [V.ref a] ∧ SqL K H a (ns.map V.int) ∧ 0 < ns.length ∧ ∀ m, m ∈ ns → (∀ y, y ∈ ns → y ≤ m) → Q (.int m) H
theorem cr_sum (hc : X.calm = true) : CallR X (.builtin "sum") (rSum X.K) := by
  intro pins s σ H vs us Q I r h
  obtain ⟨a, ns, rfl, hs, q⟩ := h
  obtain ⟨its, rv, hl, _⟩ := I.list hs
  rw [Vals.ref1 r]
  exact sum_raw (I.ok.hd hc) hl.isList rv.ints fun h' tk t' hk => ⟨.int _, H, I.kept hk, ⟨_, rfl⟩, q⟩
theorem cr_max (hc : X.calm = true) : CallR X (.builtin "max") (rMax X.K) := by
  intro pins s σ H vs us Q I r h
  obtain ⟨a, ns, rfl, hs, hne, q⟩ := h
  obtain ⟨its, rv, hl, _⟩ := I.list hs
  rw [Vals.ref1 r]
  exact max_raw (I.ok.hd hc) hl.isList rv.ints hne fun h' tk m t' hk h1 h2 => ⟨.int _, H, I.kept hk, ⟨_, rfl⟩, q m h1 h2⟩

/-! sorted, sort (fewer than 64 items: the library's own bound) -/
end

/-! ### list.index, flat items -/

/-! ### type(x) of an own instance; is, is not of a module's class -/

/-! ### any(xs), all(xs) of a list of bools -/
theorem iter_any {prog : Program} {w : World} {A : Around} {E : Value → Shared → Prop} {s : Shared} {l : Addr} {items : Array Value} {Q : Value → Shared → Prop} (hl : s.heap.IsList l items)
    (h : ∀ s₂ : Shared, s₂ = { s with heap := s.heap.push { cls := .type "list_iterator", data := .fields #[.ref l, .int 0 0] } } →
      (s₂.heap.IsListIter s.heap.objs.size l 0 ∧ s₂.heap.IsList l items) → l ≠ s.heap.objs.size → Q (.ref s.heap.objs.size) s₂) : wpAny (model prog w) A (pyIter (.ref l)) Q E s := by
  have hlt : l < s.heap.objs.size := by obtain ⟨_, e, _⟩ := hl; exact Heap.lt_size e
  exact wpAny_pyIter_list hl (h _ rfl ⟨⟨_, Heap.get?_push_size _ rfl, rfl, rfl⟩, hl.push _⟩ (Nat.ne_of_lt hlt))
theorem truth_bools {prog : Program} {w : World} {A : Around} {bs : List Bool} {its : List Value} (e : its = bs.map Value.bool) :
    TruthOf prog w A (fun i v => its.toArray[i]? = some v) (fun i => bs.getD i false) := fun i v s Q E hv hq => by
  have hv' : its[i]? = some v := by simpa using hv
  rw [e, List.getElem?_map] at hv'
  obtain ⟨b, hb, rfl⟩ := Option.map_eq_some_iff.mp hv'
  have hg : bs.getD i false = b := by rw [List.getD_eq_getElem?_getD, hb] <;> rfl
  have hq' : Q (bs.getD i false) s := hq
  rw [hg] at hq'
  exact wpAny_truthy_bool hq'
theorem any_range : ∀ bs : List Bool, (List.range bs.length).any (fun i => bs.getD i false) = bs.any id
  | [] => rfl
  | b :: bs => by
    rw [List.length_cons, List.range_succ_eq_map, List.any_cons, List.any_map, List.any_cons, ← any_range bs]
    all_goals rfl
section
variable {X : Cx}
def rAny (K : PySem.W.Frag) : List V → Hp → VK → Prop := fun vs H Q => ∃ (a : Addr) (bs : List Bool), vs = [V.ref a] ∧ SqL K H a (bs.map V.bl) ∧ Q (.bl (bs.any id)) H
theorem cr_any (hc : X.calm = true) : CallR X (.builtin "any") (rAny X.K) := by
  intro pins s σ H vs us Q I r h
  obtain ⟨a, bs, rfl, hs, q⟩ := h
  obtain ⟨its, rv, hl, _⟩ := I.list hs
  rw [Vals.ref1 r]
  have hb := rv.bls
  refine call_any_walk (iter_any hl.isList fun s₂ e2 st hne => ?_)
  subst e2
  refine ⟨_, _, _, _, _, _, _, rfl, Walks.list (A := X.A.in1) (I.ok.hd hc) _ a hne its.toArray, st, truth_bools hb, fun h' tk hk => ?_⟩
  refine ⟨.bl _, H, I.kept fun b o eo => hk b o (fun hmem => ?_) (Heap.get?_push_of_some _ eo), ?_, q⟩
  · rcases List.mem_cons.mp hmem with e1 | hmem
    · exact absurd (e1 ▸ Heap.lt_size eo) (Nat.lt_irrefl _)
    · cases hmem
  · show Value.bool _ = Value.bool _
    rw [← any_range, hb, List.size_toArray, List.length_map]
end

/-! ### == and != of data at any depth: none, bools, ints, texts, lists, tuples -/
end L2

namespace L2
open PySem PySem.Spec PyProof.Rows
abbrev CellAt (h : Heap) (c : Addr) (v : Option Value) : Prop := h.IsCell c v
def relS (scope sc : Scope) : Scope :=
  { scope with names := scope.names.map fun (n, k) => if (k == .free && sc.kind == .function && sc.names.lookup n == some .cell) then (n, .cell) else (n, k) }

def cloFrom (cells : List (Str × Addr)) : List (Str × NameKind) → List (Str × Addr) → List (Str × Addr)
  | [], acc => acc
  | (n, k) :: r, acc => if k == .free then cloFrom cells r ((n, (cells.lookup n).getD 0) :: acc) else cloFrom cells r acc

theorem closure_loop (env : Env) (f : Str × NameKind → List (Str × Addr) → Sem (ForInStep (List (Str × Addr))))
    (hf : ∀ n k c, f (n, k) c = if k == .free then (do let a ← cellOf env n; pure (.yield ((n, a) :: c))) else pure (.yield c)) :
    ∀ (names : List (Str × NameKind)) (acc : List (Str × Addr)), (∀ y ∈ names, y.2 = .free → ∃ c, env.cells.lookup y.1 = some c) → forIn names acc f = pure (cloFrom env.cells names acc)
  | [], acc, _ => by rw [List.forIn_nil]; rfl
  | (n, k) :: r, acc, h => by
    rw [List.forIn_cons, hf]
    have ih := fun acc => closure_loop env f hf r acc fun y hy => h y (List.mem_cons_of_mem _ hy)
    unfold cloFrom
    by_cases hk : (k == NameKind.free) = true
    · rw [if_pos hk, if_pos hk]
      obtain ⟨c, hc⟩ := h (n, k) List.mem_cons_self (by simpa using hk)
      have e : cellOf env n = pure c := by unfold cellOf; rw [hc]
      rw [e]
      have e2 : (env.cells.lookup n).getD 0 = c := by rw [hc]; rfl
      rw [e2]
      exact ih _
    · rw [if_neg hk, if_neg hk]
      exact ih _
theorem closure_ok {scope : Scope} {env : Env} (h : ∀ y ∈ scope.names, y.2 = .free → ∃ c, env.cells.lookup y.1 = some c) : closureFor scope env = pure (cloFrom env.cells scope.names []) := by
  simp only [closureFor]
  rw [closure_loop env _ (fun n k c => rfl) scope.names [] h]
  rfl

theorem mem_lookup {α : Type} : ∀ {l : List (Str × α)} {n : Str} {c : α}, (n, c) ∈ l → ∃ c', l.lookup n = some c'
  | (k, v) :: r, n, c, h => by
    rw [List.lookup_cons]
    cases hb : n == k with
    | true => exact ⟨_, rfl⟩
    | false =>
      rcases List.mem_cons.mp h with e | h
      · cases e; simp at hb
      · exact mem_lookup h

theorem cloFrom_mem {cells : List (Str × Addr)} : ∀ {names : List (Str × NameKind)} {acc : List (Str × Addr)} {n : Str} {c : Addr}, (n, c) ∈ cloFrom cells names acc → (n, c) ∈ acc ∨ ((n, .free) ∈ names ∧ c = (cells.lookup n).getD 0)
  | [], _, _, _, h => .inl h
  | (m, k) :: r, acc, n, c, h => by
    unfold cloFrom at h
    split at h
    · rename_i hk
      have hk : k = .free := by simpa using hk
      rcases cloFrom_mem h with h | ⟨h1, h2⟩
      · rcases List.mem_cons.mp h with e | h
        · cases e; exact .inr ⟨hk ▸ List.mem_cons_self, rfl⟩
        · exact .inl h
      · exact .inr ⟨List.mem_cons_of_mem _ h1, h2⟩
    · rcases cloFrom_mem h with h | ⟨h1, h2⟩
      · exact .inl h
      · exact .inr ⟨List.mem_cons_of_mem _ h1, h2⟩
theorem cloFrom_acc {cells : List (Str × Addr)} : ∀ {names : List (Str × NameKind)} {acc : List (Str × Addr)} {p : Str × Addr}, p ∈ acc → p ∈ cloFrom cells names acc
  | [], _, _, h => h
  | (m, k) :: r, acc, p, h => by
    unfold cloFrom
    split
    · exact cloFrom_acc (List.mem_cons_of_mem _ h)
    · exact cloFrom_acc h
theorem cloFrom_has {cells : List (Str × Addr)} : ∀ {names : List (Str × NameKind)} {acc : List (Str × Addr)} {n : Str}, (n, .free) ∈ names → (n, (cells.lookup n).getD 0) ∈ cloFrom cells names acc
  | (m, k) :: r, acc, n, h => by
    unfold cloFrom
    rcases List.mem_cons.mp h with e | h
    · cases e
      exact cloFrom_acc List.mem_cons_self
    · split
      · exact cloFrom_has h
      · exact cloFrom_has h

theorem cells_mem : ∀ {names : List (Str × NameKind)} {h : Heap} {acc : List (Str × Addr)} {x : Str} {c : Addr}, (x, c) ∈ cellsFrom h.objs.size names acc →
    (x, c) ∈ acc ∨ ((x, .cell) ∈ names ∧ h.objs.size ≤ c ∧ CellAt (pushCells h names) c none)
  | [], _, _, _, _, h => .inl h
  | (n, k) :: r, h, acc, x, c, hm => by
    unfold cellsFrom at hm
    unfold pushCells
    split at hm
    · rename_i hk
      rw [if_pos hk]
      have hk : k = .cell := by simpa using hk
      rw [← Heap.size_push h { cls := .type "cell", data := .cell none }] at hm
      rcases cells_mem hm with hm | ⟨h1, h2, h3⟩
      · rcases List.mem_cons.mp hm with e | hm
        · cases e
          exact .inr ⟨hk ▸ List.mem_cons_self, Nat.le_refl _, _, pushCells_keeps r _ _ _ (Heap.get?_push_size _ rfl), rfl⟩
        · exact .inl hm
      · rw [Heap.size_push] at h2
        exact .inr ⟨List.mem_cons_of_mem _ h1, Nat.le_of_succ_le h2, h3⟩
    · rename_i hk
      rw [if_neg hk]
      rcases cells_mem hm with hm | ⟨h1, h2, h3⟩
      · exact .inl hm
      · exact .inr ⟨List.mem_cons_of_mem _ h1, h2, h3⟩
theorem cells_acc : ∀ {names : List (Str × NameKind)} {n : Nat} {acc : List (Str × Addr)} {p : Str × Addr}, p ∈ acc → p ∈ cellsFrom n names acc
  | [], _, _, _, h => h
  | (m, k) :: r, n, acc, p, h => by
    unfold cellsFrom
    split
    · exact cells_acc (List.mem_cons_of_mem _ h)
    · exact cells_acc h
theorem cells_has : ∀ {names : List (Str × NameKind)} {n : Nat} {acc : List (Str × Addr)} {x : Str}, (x, .cell) ∈ names → ∃ c, (x, c) ∈ cellsFrom n names acc
  | (m, k) :: r, n, acc, x, h => by
    unfold cellsFrom
    rcases List.mem_cons.mp h with e | h
    · cases e
      exact ⟨n, cells_acc List.mem_cons_self⟩
    · split
      · exact cells_has h
      · exact cells_has h
theorem cells_inj : ∀ {names : List (Str × NameKind)} {h : Heap} {acc : List (Str × Addr)} {x y : Str} {c : Addr}, (∀ p ∈ acc, p.2 < h.objs.size) → (∀ x y c, (x, c) ∈ acc → (y, c) ∈ acc → x = y) →
    (x, c) ∈ cellsFrom h.objs.size names acc → (y, c) ∈ cellsFrom h.objs.size names acc → x = y
  | [], _, _, _, _, _, _, hi, h1, h2 => hi _ _ _ h1 h2
  | (n, k) :: r, h, acc, x, y, c, hl, hi, h1, h2 => by
    unfold cellsFrom at h1 h2
    split at h1
    · rename_i hk
      rw [if_pos hk] at h2
      rw [← Heap.size_push h { cls := .type "cell", data := .cell none }] at h1 h2
      refine cells_inj (h := h.push _) (fun p hp => ?_) (fun x y c a b => ?_) h1 h2
      · rw [Heap.size_push]
        rcases List.mem_cons.mp hp with rfl | hp
        · exact Nat.lt_succ_self _
        · exact Nat.lt_succ_of_lt (hl p hp)
      · rcases List.mem_cons.mp a with e | a <;> rcases List.mem_cons.mp b with e' | b
        · cases e; cases e'; rfl
        · cases e; exact absurd (hl _ b) (Nat.lt_irrefl _)
        · cases e'; exact absurd (hl _ a) (Nat.lt_irrefl _)
        · exact hi _ _ _ a b
    · rename_i hk
      rw [if_neg hk] at h2
      exact cells_inj hl hi h1 h2

theorem newEnv_comp {M : Model} {A : Around} {E : Value → Shared → Prop} {s : Shared} {scope : Scope} {globals : Addr} {closure : List (Str × Addr)} {qual : Str} {func : Option Addr} {code : Value} {around : Env} {builtins : Addr} {Q : Env → Shared → Prop}
    (h : Q (newEnv scope s.heap.objs.size globals (cellsFrom (s.heap.objs.size + 1) scope.names closure) qual func code (some around) builtins)
      { s with heap := pushCells (s.heap.push { cls := .type "dict", data := .dict #[] }) scope.names }) :
    wpAny M A (newFunctionEnv scope globals closure [] qual func code (some around) builtins) Q E s := by
  simp only [newFunctionEnv, Option.isSome_some, if_true]
  refine wpAny_bind (wpAny_alloc ?_)
  refine wpAny_bind (wpAny_layCells _ (fun n k c => rfl) scope.names closure _ _ ?_)
  rw [show ({ s with heap := s.heap.push { cls := .type "dict", data := .dict #[] } } : Shared).heap.objs.size = s.heap.objs.size + 1 from Heap.size_push ..]
  rw [List.forIn_nil]
  exact wpAny_bind (wpAny_pure (wpAny_pure h))

/-- every name of the written scope, in the scope that runs -/
theorem lookup_relS {sc : Scope} : ∀ {names : List (Str × NameKind)} {x : Str} {k : NameKind},
    (names.map fun (n, k) => if (k == NameKind.free && sc.kind == .function && sc.names.lookup n == some .cell) then (n, NameKind.cell) else (n, k)).lookup x = some k →
    ∃ k', names.lookup x = some k' ∧ (k = k' ∨ (k' = .free ∧ k = .cell))
  | [], _, _, h => by simp at h
  | (n, k₀) :: r, x, k, h => by
    have ih := @lookup_relS sc r x k
    have h' : List.lookup x ((if (k₀ == NameKind.free && sc.kind == .function && sc.names.lookup n == some .cell) = true then (n, NameKind.cell) else (n, k₀)) :: (r.map _)) = some k := h
    cases hx : x == n with
    | true =>
      simp only [List.lookup_cons, hx]
      by_cases hc : (k₀ == NameKind.free && sc.kind == .function && sc.names.lookup n == some .cell) = true
      · rw [if_pos hc] at h'
        simp only [List.lookup_cons, hx] at h'
        cases h'
        simp only [Bool.and_eq_true, beq_iff_eq] at hc
        exact ⟨k₀, rfl, .inr ⟨hc.1.1, rfl⟩⟩
      · rw [if_neg hc] at h'
        simp only [List.lookup_cons, hx] at h'
        cases h'
        exact ⟨_, rfl, .inl rfl⟩
    | false =>
      simp only [List.lookup_cons, hx]
      by_cases hc : (k₀ == NameKind.free && sc.kind == .function && sc.names.lookup n == some .cell) = true
      · rw [if_pos hc] at h'
        simp only [List.lookup_cons, hx] at h'
        exact ih h'
      · rw [if_neg hc] at h'
        simp only [List.lookup_cons, hx] at h'
        exact ih h'

/-- the names of a comprehension's block: its own (with their places in N), or captured -/
structure BlkOk (N : List Str) (sc scope : Scope) (own : List (Str × Nat)) : Prop where
  kind : scope.kind = .function
  uniq : ∀ y ∈ scope.names, scope.names.lookup y.1 = some y.2
  ix : ∀ p ∈ own, N[p.2]? = some p.1
  free : ∀ y ∈ scope.names, y.2 = .free → sc.names.lookup y.1 = some .cell ∨ sc.names.lookup y.1 = some .free
  own : ∀ y ∈ scope.names, y.2 = .local ∨ y.2 = .cell → y.1 ∈ own.map (·.1) ∨ y.1 ∉ N
/-- the slots of the block's own names forgotten -/
def wipe (σ : St) : List Nat → St
  | [] => σ
  | v :: vs => (wipe σ vs).set v none
theorem wipe_length (σ : St) : ∀ vs : List Nat, (wipe σ vs).length = σ.length
  | [] => rfl
  | v :: vs => by unfold wipe; rw [List.length_set, wipe_length σ vs]
theorem wipe_some {σ : St} {i : Nat} {x : V} : ∀ {vs : List Nat}, (wipe σ vs)[i]? = some (some x) → σ[i]? = some (some x) ∧ i ∉ vs
  | [], h => ⟨h, by simp⟩
  | v :: vs, h => by
    unfold wipe at h
    by_cases hi : v = i
    · subst hi
      by_cases hv : v < (wipe σ vs).length
      · rw [List.getElem?_set_self hv] at h; cases h
      · rw [List.getElem?_eq_none (by simpa using hv)] at h; cases h
    · rw [List.getElem?_set_ne hi] at h
      obtain ⟨h1, h2⟩ := wipe_some h
      exact ⟨h1, by simp only [List.mem_cons, not_or]; exact ⟨fun e => hi e.symm, h2⟩⟩

/-- the context of a block that starts at s, its iterator's objects at fp -/
abbrev Cx.blk (X : Cx) (s : Shared) (H : Hp) (scope : Scope) (cenv : Env) (fp : List Addr) : Cx := { X with s_0 := s, H_0 := H, env := cenv, outer := X.stack, ex := fp, fn := fun x => scope.names.lookup x == some .cell, pn := [], xe := fun _ _ => False }
section
variable {X : Cx} {pins : List (Addr × Obj)} {σ : St} {H : Hp} {s : Shared}
theorem block_start {scope : Scope} {own : List (Str × Nat)} {fp : List Addr} (I : Inv X pins σ H s) (ok : BlkOk X.N X.env.scope scope own) (hN : X.N.Nodup) (hfp : ∀ b ∈ fp, FpOk X pins H b ∧ b < s.heap.objs.size) :
    Inv (X.blk s H scope (compEnvC scope (cellsFrom (s.heap.objs.size + 1) scope.names (cloFrom X.env.cells scope.names [])) s.heap.objs.size X.env) fp) [] (wipe σ (own.map (·.2))) H { s with heap := pushCells (s.heap.push { cls := .type "dict", data := .dict #[] }) scope.names } := by
  have hfree : ∀ y ∈ scope.names, y.2 = .free → ∃ c, X.env.cells.lookup y.1 = some c := fun y hy e => by
    rcases ok.free y hy e with k | k
    · exact I.ok.has _ (.inl k)
    · exact I.ok.has _ (.inr k)
  generalize hcenv : compEnvC scope (cellsFrom (s.heap.objs.size + 1) scope.names (cloFrom X.env.cells scope.names [])) s.heap.objs.size X.env = cenv
  have kp : ∀ b o, s.heap.get? b = some o → (pushCells (s.heap.push { cls := .type "dict", data := .dict #[] }) scope.names).get? b = some o := fun b o e => pushCells_keeps _ _ _ _ (Heap.get?_push_of_some _ e)
  have hL : cenv.locals = s.heap.objs.size := by rw [← hcenv]; rfl
  have hcl : cenv.cells = cellsFrom (s.heap.objs.size + 1) scope.names (cloFrom X.env.cells scope.names []) := by rw [← hcenv]; rfl
  have hsc : cenv.scope = relS scope X.env.scope := by rw [← hcenv]; rfl
  rw [← Heap.size_push s.heap { cls := .type "dict", data := .dict #[] }] at hcl
  have cm : ∀ {y c}, (y, c) ∈ cloFrom X.env.cells scope.names [] → X.env.cells.lookup y = some c ∧ c < s.heap.objs.size := fun {y c} hm => by
    rcases cloFrom_mem hm with hm | ⟨h1, rfl⟩
    · cases hm
    · obtain ⟨c, hc⟩ := hfree _ h1 rfl
      rw [hc]
      obtain ⟨w, z⟩ := I.cell _ _ hc
      exact ⟨rfl, z.lt⟩
  have mem : ∀ {y c}, cenv.cells.lookup y = some c → (X.env.cells.lookup y = some c ∧ c < s.heap.objs.size) ∨ (s.heap.objs.size + 1 ≤ c ∧ CellAt (pushCells (s.heap.push { cls := .type "dict", data := .dict #[] }) scope.names) c none) := fun {y c} e => by
    rw [hcl] at e
    rcases cells_mem (PySem.mem_of_lookup e) with hm | ⟨_, h2, h3⟩
    · exact .inl (cm hm)
    · rw [Heap.size_push] at h2; exact .inr ⟨h2, h3⟩
  have look : ∀ {y}, scope.names.lookup y = some .free → ∃ c, cenv.cells.lookup y = some c ∧ X.env.cells.lookup y = some c := fun {y} hl => by
    have hy : (y, NameKind.free) ∈ scope.names := PySem.mem_of_lookup hl
    obtain ⟨c', e'⟩ := mem_lookup (cells_acc (names := scope.names) (n := (s.heap.push { cls := .type "dict", data := .dict #[] }).objs.size) (cloFrom_has (cells := X.env.cells) (acc := []) hy))
    rw [← hcl] at e'
    refine ⟨c', e', ?_⟩
    rw [hcl] at e'
    rcases cells_mem (PySem.mem_of_lookup e') with hm | ⟨h1, _, _⟩
    · exact (cm hm).1
    · have := ok.uniq _ h1
      rw [hl] at this; cases this
  have okB : (X.blk s H scope cenv fp).Ok := by
    refine ⟨I.ok.mod, by show cenv.scope.kind = _; rw [hsc]; exact ok.kind, by show cenv.globals = _; rw [← hcenv]; exact I.ok.glob, by show cenv.builtins = _; rw [← hcenv]; exact I.ok.blt, by show s.heap.objs.size ≤ cenv.locals; rw [hL]; exact Nat.le_refl _,
      fun y z c e1 e2 => ?_, fun y hy => ?_, fun y c z e => ?_, I.ok.hd, I.ok.frames, .inl rfl, fun b hb => ⟨?_, fun y c e z => ?_⟩, I.bs, Nat.le_trans I.ok.bsz I.sz, fun b o e hb => ?_, fun b hb z => ?_, I.stack, I.stkFree⟩
    · have e1 : cenv.cells.lookup y = some c := e1
      have e2 : cenv.cells.lookup z = some c := e2
      rw [hcl] at e1 e2
      refine cells_inj (fun p hp => ?_) (fun y z c a b => I.ok.inj y z c (cm a).1 (cm b).1) (PySem.mem_of_lookup e1) (PySem.mem_of_lookup e2)
      rw [Heap.size_push]
      exact Nat.lt_succ_of_lt (cm (y := p.1) (c := p.2) hp).2
    · show ∃ c, cenv.cells.lookup y = some c
      have key : ∀ k, cenv.kindOf y = some k → (k = .cell ∨ k = .free) → ∃ c, cenv.cells.lookup y = some c := fun k hk hk' => by
        unfold Env.kindOf at hk
        rw [hsc] at hk
        obtain ⟨k', e, r⟩ := lookup_relS hk
        have : k' = .cell ∨ k' = .free := by
          rcases r with rfl | ⟨rfl, _⟩
          · exact hk'
          · exact .inr rfl
        rcases this with rfl | rfl
        · obtain ⟨c, hm⟩ := cells_has (n := (s.heap.push { cls := .type "dict", data := .dict #[] }).objs.size) (acc := cloFrom X.env.cells scope.names []) (PySem.mem_of_lookup e)
          obtain ⟨c', e'⟩ := mem_lookup hm
          exact ⟨c', by rw [hcl]; exact e'⟩
        · obtain ⟨c, h1, _⟩ := look e
          exact ⟨c, h1⟩
      rcases hy with hy | hy
      · exact key _ hy (.inl rfl)
      · exact key _ hy (.inr rfl)
    · have z : (scope.names.lookup y == some NameKind.cell) = true := z
      have z : scope.names.lookup y = some .cell := by simpa using z
      have e : cenv.cells.lookup y = some c := e
      rw [hcl] at e
      rcases cells_mem (PySem.mem_of_lookup e) with hm | ⟨_, h2, _⟩
      · rcases cloFrom_mem hm with hm | ⟨h1, _⟩
        · cases hm
        · have q := ok.uniq _ h1
          rw [z] at q; cases q
      · rw [Heap.size_push] at h2
        exact Nat.le_of_succ_le h2
    · show b ≠ cenv.locals
      rw [hL]; exact Nat.ne_of_lt (hfp b hb).2
    · have e : cenv.cells.lookup y = some c := e
      rcases mem e with ⟨h1, _⟩ | ⟨h1, _⟩
      · exact (hfp b hb).1.2.2.2.2.1 y c h1 z
      · have h2 : s.heap.objs.size + 1 ≤ b := by rw [← z]; exact h1
        exact absurd (Nat.lt_of_lt_of_le (hfp b hb).2 (Nat.le_of_succ_le h2)) (Nat.lt_irrefl _)
    · rcases (hfp b hb).1.2.2.2.1 with z | z
      · exact I.ok.noex b o e z
      · exact absurd (Nat.lt_of_lt_of_le (Heap.lt_size e) (Nat.le_trans I.ok.bsz z)) (Nat.lt_irrefl _)
    · rcases List.mem_cons.mp (I.stkSub b z) with z | z
      · exact (hfp b hb).1.2.1 z
      · exact (hfp b hb).1.2.2.1 z
  refine ⟨okB, rfl, I.bare, Un.kept kp, ⟨fun _ => none, ?_, fun i y av e1 e2 e3 => ?_⟩, fun y c e => ?_, ?_, fun y c e => ?_, fun p hp => ?_, I.hok.kept kp, by rw [wipe_length]; exact I.len⟩
  · show Heap.Ns _ cenv.locals _
    rw [hL]
    exact Heap.Ns.keeps (Heap.Ns.new ..) fun b o e => pushCells_keeps _ _ _ _ e
  · obtain ⟨e2, hne⟩ := wipe_some e2
    have hfr : scope.names.lookup y = some .free ∧ (cenv.kindOf y = some .cell ∨ cenv.kindOf y = some .free) := by
      have key : ∀ k, cenv.scope.names.lookup y = some k → k = .local ∨ k = .cell ∨ k = .free → scope.names.lookup y = some .free ∧ (cenv.kindOf y = some .cell ∨ cenv.kindOf y = some .free) := fun k hk hk' => by
        have hk0 := hk
        rw [hsc] at hk
        obtain ⟨k', e, r⟩ := lookup_relS hk
        have no : ¬ (k' = .local ∨ k' = .cell) := fun hh => by
          rcases ok.own _ (PySem.mem_of_lookup e) hh with e' | e'
          · obtain ⟨p, hp, hpy⟩ := List.mem_map.mp e'
            have e3 := ok.ix p hp
            have : p.1 = y := hpy
            rw [this] at e3
            exact hne (List.mem_map.mpr ⟨p, hp, nodup_ix hN e3 e1⟩)
          · exact e' (List.mem_of_getElem? e1)
        rcases r with rfl | ⟨rfl, rfl⟩
        · rcases hk' with rfl | rfl | rfl
          · exact absurd (.inl rfl) no
          · exact absurd (.inr rfl) no
          · exact ⟨e, .inr hk0⟩
        · exact ⟨e, .inl hk0⟩
      have e3 : Vis cenv.scope y := e3
      rcases e3 with e3 | e3 | e3
      · exact key _ e3 (.inl rfl)
      · exact key _ e3 (.inr (.inl rfl))
      · exact key _ e3 (.inr (.inr rfl))
    obtain ⟨m, hn, hl⟩ := I.loc
    have hvis : Vis X.env.scope y := (ok.free _ (PySem.mem_of_lookup hfr.1) rfl).elim (fun k => .inr (.inl k)) (fun k => .inr (.inr k))
    obtain ⟨w, r, q⟩ := hl i y av e1 e2 hvis
    refine ⟨w, r, .inr ⟨hfr.2, ?_⟩⟩
    obtain ⟨c, h1, h2⟩ := look hfr.1
    rcases q with ⟨k, _⟩ | ⟨_, c', e', z⟩
    · have k : X.env.scope.names.lookup y = some .local := k
      rcases ok.free _ (PySem.mem_of_lookup hfr.1) rfl with k' | k' <;> rw [show X.env.scope.names.lookup y = _ from k'] at k <;> cases k
    · rw [h2] at e'; cases e'
      exact ⟨c, h1, z.keeps kp⟩
  · have e : cenv.cells.lookup y = some c := e
    rcases mem e with ⟨h1, _⟩ | ⟨_, z⟩
    · obtain ⟨w, z⟩ := I.cell y c h1
      exact ⟨w, z.keeps kp⟩
    · exact ⟨_, z⟩
  · show H cenv.locals = none
    rw [hL]; exact I.hok.fresh (Nat.le_refl _)
  · have e : cenv.cells.lookup y = some c := e
    rcases mem e with ⟨h1, _⟩ | ⟨h1, _⟩
    · exact I.freeC y c h1
    · exact I.hok.fresh (Nat.le_of_succ_le h1)
  · exact absurd (show p ∈ ([] : List (Addr × Obj)) ++ [] from hp) (by simp)

/-- an item appended to a tracked list -/
theorem app_ok {E : Value → Shared → Prop} {D : Addr} {xs : List V} {y : V} {v : Value} {Q : Value → Shared → Prop} (I : Inv X pins σ H s) (hD : H D = some (.lst xs)) (hz : xs.length < sizeLine) (r : RelV y v)
    (h : ∀ s', Inv X pins σ (upd H D (.lst (xs ++ [y]))) s' → Q .none s') : wpAny (model X.prog X.w) X.A (call (.builtin "list.append") [.ref D, v]) Q E s := by
  obtain ⟨hz', its, n, ri, e⟩ := I.hok D _ hD
  have hl := ri.length
  refine append_at (hsz := by rw [List.size_toArray]; omega) e fun h' sb ho' => ?_
  refine h { s with heap := h' } (I.write (t' := s.toks) (by rw [hD]; trivial) (.inl rfl) (fun b u hb q => (sb.2 b hb).trans q) ⟨_, ho'⟩ ⟨by rw [List.length_append]; exact hz, its ++ [v], n + 1, ri.append (.cons r .nil), ?_⟩)
  rw [ho']
  simp

/-- a clause's tests -/
def PTs (X : Cx) (ifs : List Expr) (t : TT) : Prop :=
  ∀ (pins : List (Addr × Obj)) (s : Shared) (σ : St) (H : Hp) (Q : Bool → Hp → Prop), Inv X pins σ H s → t σ H Q →
    wpAny (model X.prog X.w) X.A (forIn ifs true fun c r => if r = true then do let ok ← isTrue c X.env (eval c X.env); pure (ForInStep.yield ok) else pure (ForInStep.yield r)) (TP X pins σ Q) X.xe s
def tYes : TT := fun _ H Q => Q true H
theorem pts_nil : PTs X [] tYes := fun _ _ _ H _ I h => wpAny_tests_nil ⟨H, I, h⟩
end

theorem thnF {α : Type} {t : Sem α} {Q Q' : α → Shared → Prop} {M : Model} {A : Around} {E : Value → Shared → Prop} {s : Shared} (h : wpAny M A t Q (fun _ _ => False) s) (hQ : ∀ a s, Q a s → Q' a s) : wpAny M A t Q' E s := wpAny_mono h hQ fun _ _ z => False.elim z

/-- the loop of a list comprehension's block, the target of any form (codeAny_compLoop_tests asks a target that no tuple goes to; statement and proof follow it, PyProof/CompMap.lean:41-61, with the step letOwnedTupleGo kept) -/
theorem compLoop_any {prog : Program} {w : World} {A : Around} {R : Result → Shared → Prop} {s : Shared} {elt target iter : Expr} {ifs : List Expr} {scope : Scope} {pos : Pos} {it acc : Value} {env : Env} (I : Nat → Shared → Prop)
    (turn : ∀ n s, I n s → wpAny (model prog w) A (pyNext it) (fun r s₁ => match r with
      | none => R (.ok .next) s₁
      | some v => wpAny (model prog w) A (letOwnedTupleGo target it v) (fun _ s₁' => wpAny (model prog w) A (assign target env v) (fun _ s₂ =>
          wpAny (model prog w) A (forIn ifs true fun c r => if r = true then do let ok ← isTrue c env (eval c env); pure (ForInStep.yield ok) else pure (ForInStep.yield r)) (fun ok s₃ =>
            if ok = true then wpAny (model prog w) A (eval elt env) (fun x s₄ =>
              wpAny (model prog w) A (call (.builtin "list.append") [acc, x]) (fun _ s₅ => ∃ m, m < n ∧ I m s₅) (notedBy (model prog w) A env fun e s' => R (.error e) s') s₄) (notedBy (model prog w) A env fun e s' => R (.error e) s') s₃
            else ∃ m, m < n ∧ I m s₃) (notedBy (model prog w) A env fun e s' => R (.error e) s') s₂) (notedBy (model prog w) A env fun e s' => R (.error e) s') s₁') (notedBy (model prog w) A env fun e s' => R (.error e) s') s₁) (notedBy (model prog w) A env fun e s' => R (.error e) s') s)
    (n : Nat) (h : I n s) :
    codeAny (model prog w) A (.compLoop (.ListComp elt [⟨target, iter, ifs, 0⟩] scope pos) 0 it acc env) R s := by
  refine codeAny_loop rfl I (fun n s hI => ?_) n h
  show wpAny _ A ((compTurn (.ListComp elt [⟨target, iter, ifs, 0⟩] scope pos) 0 it acc env).onRaise (fun x => do noteFrame x env; theTreesLotGoes x)) _ _ s
  refine wpAny_noted ?_
  rw [compTurn_list]
  refine wpAny_bind (wpAny_standAt (wpAny_bind (wpAny_mono (turn n s hI) (fun r s₁ h₁ => ?_) fun _ _ h' => h')))
  cases r with
  | none => exact wpAny_pure h₁
  | some v =>
    refine wpAny_bind (wpAny_mono h₁ (fun _ s₁' h₁' => ?_) fun _ _ h' => h')
    refine wpAny_bind (wpAny_mono h₁' (fun _ s₂ h₂ => wpAny_bind (wpAny_mono h₂ (fun ok s₃ h₃ => ?_) fun _ _ h' => h')) fun _ _ h' => h')
    cases ok with
    | false => exact wpAny_pure ⟨rfl, h₃⟩
    | true =>
      exact wpAny_bind (wpAny_bind (wpAny_mono h₃ (fun x s₄ h₄ => wpAny_bind (wpAny_mono h₄ (fun _ s₅ h₅ => wpAny_pure (wpAny_pure ⟨rfl, h₅⟩)) fun _ _ h' => h')) fun _ _ h' => h'))

section
variable {X : Cx}
/-- [elt for target in iter if ..]: D the new list; W by the turn and a measure, Nx what a turn is to reach -/
def tLc (wi : TI) (g : TG) (tt : TT) (te : TE) (vs : List Nat) : TE := fun σ H Q => wi σ H fun J H1 => ∀ D, H1 D = none → ∃ W : Nat → Nat → Hp → Prop, (∃ m, W 0 m (upd H1 D (.lst []))) ∧ ∀ i m H, W i m H →
  (J.stop i H ∧ Q (.ref D) H) ∨ (J.go i H ∧ ∃ Nx : Hp → Prop, (∀ H', Nx H' → ∃ m', m' < m ∧ W (i + 1) m' H') ∧ ∀ x H', J.yld i H x H' → g x (wipe σ vs) H' fun σ2 H2 => wipe σ2 vs = wipe σ vs ∧ tt σ2 H2 fun b H3 =>
    if b = true then te σ2 H3 fun y H4 => ∃ acc, H4 D = some (.lst acc) ∧ acc.length < sizeLine ∧ Nx (upd H4 D (.lst (acc ++ [y]))) else Nx H3)
theorem lc_core {pins : List (Addr × Obj)} {s : Shared} {σ : St} {H : Hp} {Q : VK} {elt tg iter : Expr} {ifs : List Expr} {scope : Scope} {own : List (Str × Nat)} {pos pos' : Pos} {wi : TI} {g : TG} {tt : TT} {te : TE} {use : Option (Value → Sem Unit)} {Qf : Value → Shared → Prop}
    (hc : X.calm = true) (hN : X.N.Nodup) (I : Inv X pins σ H s) (hi : PI X tg iter wi) (ok : BlkOk X.N X.env.scope scope own)
    (hg : ∀ (s : Shared) (H : Hp) (C : Addr) (cl : List (Str × Addr)) (fp : List Addr), PG (X.blk s H scope (compEnvC scope cl C X.env) fp) tg g) (ht : ∀ (s : Shared) (H : Hp) (C : Addr) (cl : List (Str × Addr)) (fp : List Addr), PTs (X.blk s H scope (compEnvC scope cl C X.env) fp) ifs tt)
    (he : ∀ (s : Shared) (H : Hp) (C : Addr) (cl : List (Str × Addr)) (fp : List Addr), PE (X.blk s H scope (compEnvC scope cl C X.env) fp) elt te) (hs : ∀ x, foldedSetIterable iter X.env x = pure x)
    (h : tLc wi g tt te (own.map (·.2)) σ H Q)
    (hRR : ∀ D C s' m H', Inv X pins σ H' s' → Q (.ref D) H' → s'.heap.Ns C m → FpOk X pins H' C → compPost (model X.prog X.w) X.A X.xe use Qf (.ref D) C (.ok .next) s') :
    wpAny (model X.prog X.w) X.A (comprehension (.ListComp elt [⟨tg, iter, ifs, 0⟩] scope pos) scope X.env pos' (newList []) false (eval iter X.env) use) Qf X.xe s := by
  have hfree : ∀ y ∈ scope.names, y.2 = .free → ∃ c, X.env.cells.lookup y.1 = some c := fun y hy e => by
    rcases ok.free y hy e with k | k
    · exact I.ok.has _ (.inl k)
    · exact I.ok.has _ (.inr k)
  refine wpAny_comprehension_free (use := use) rfl hs (closure_ok hfree) ok.kind (fun y hy e => by rw [ok.uniq y hy, e])
    (thn (hi pins s σ H _ I h) fun xv s1 hx => thn hx fun itv s2 h2 => ?_)
  obtain ⟨it, fp, tn, J, H2, e, I2, T, st2, f2, q⟩ := h2
  subst e
  refine wpAny_newObj_type (newEnv_comp ?_) (by show 0 ≤ sizeLine; decide)
  generalize hD : s2.heap.objs.size = D
  have hDn : H2 D = none := I2.hok.fresh (Nat.le_of_eq hD)
  obtain ⟨W, ⟨m0, w0⟩, turn⟩ := q D hDn
  -- the new list
  generalize hs3 : ({ s2 with heap := s2.heap.push { cls := .type "list", data := .seq ([] : List Value).toArray } } : Shared) = s3
  have I3 : Inv X pins σ (upd H2 D (.lst [])) s3 := by
    rw [← hs3]
    refine I2.laid (t' := s2.toks) (fun b o e => Heap.get?_push_of_some _ e) (Nat.le_of_eq hD) ⟨Nat.zero_le _, [], 0, .nil, ?_⟩
    rw [← hD]
    exact Heap.get?_push_size _ rfl
  have h3 : s3.heap = s2.heap.push { cls := .type "list", data := .seq ([] : List Value).toArray } := by rw [← hs3]
  have sz : ∀ b ∈ fp, b < s2.heap.objs.size := fun b hb => by
    obtain ⟨o, e, _⟩ := T.obj _ _ st2 b hb
    exact Heap.lt_size e
  have f3 : ∀ b ∈ fp, FpOk X pins (upd H2 D (.lst [])) b ∧ b < s3.heap.objs.size := fun b hb => by
    have hlt := sz b hb
    refine ⟨⟨?_, (f2 b hb).2⟩, by rw [h3, Heap.size_push]; exact Nat.lt_succ_of_lt hlt⟩
    rw [upd_ne (by rw [← hD]; exact Nat.ne_of_lt hlt)]
    exact (f2 b hb).1
  have st3 : tn 0 s3.heap := T.keep _ _ _ st2 fun b _ o e => by rw [h3]; exact Heap.get?_push_of_some _ e
  have I4 := block_start I3 ok hN f3
  have pg := hg s3 (upd H2 D (.lst [])) s3.heap.objs.size (cellsFrom (s3.heap.objs.size + 1) scope.names (cloFrom X.env.cells scope.names [])) fp
  have pt := ht s3 (upd H2 D (.lst [])) s3.heap.objs.size (cellsFrom (s3.heap.objs.size + 1) scope.names (cloFrom X.env.cells scope.names [])) fp
  have pe := he s3 (upd H2 D (.lst [])) s3.heap.objs.size (cellsFrom (s3.heap.objs.size + 1) scope.names (cloFrom X.env.cells scope.names [])) fp
  show codeAny _ _ (.compStart (.ListComp elt [⟨tg, iter, ifs, 0⟩] scope pos) 0 (.ref it) (.ref D) (compEnvC scope (cellsFrom (s3.heap.objs.size + 1) scope.names (cloFrom X.env.cells scope.names [])) s3.heap.objs.size X.env)) (compPost (model X.prog X.w) X.A X.xe use Qf (.ref D) s3.heap.objs.size) { s3 with heap := pushCells (s3.heap.push { cls := .type "dict", data := .dict #[] }) scope.names }
  have nfp : ∀ b ∈ fp, (upd H2 D (.lst [])) b = none := fun b hb => (f3 b hb).1.1
  generalize hce : compEnvC scope (cellsFrom (s3.heap.objs.size + 1) scope.names (cloFrom X.env.cells scope.names [])) s3.heap.objs.size X.env = ce at I4 pg pt pe ⊢
  have cL : ce.locals = s3.heap.objs.size := by subst hce; rfl
  generalize hH3 : upd H2 D (.lst []) = H3 at I3 I4 pg pt pe w0 nfp f3
  generalize hs4 : ({ s3 with heap := pushCells (s3.heap.push { cls := .type "dict", data := .dict #[] }) scope.names } : Shared) = s4 at I4 ⊢
  have st4 : tn 0 s4.heap := T.keep _ _ _ st3 fun b _ o e => by rw [← hs4]; exact pushCells_keeps _ _ _ _ (Heap.get?_push_of_some _ e)
  have stat : ∀ {σ' : St} {H' : Hp} {s' : Shared}, Inv (X.blk s3 H3 scope ce fp) [] σ' H' s' → (∀ b ∈ fp, H' b = none) → ∀ b ∈ fp, FpOk (X.blk s3 H3 scope ce fp) [] H' b := fun {σ' H' s'} I' hn b hb =>
    ⟨hn b hb, (I'.ok.exf b hb).1, I'.ok.exfs b hb, .inl hb, fun x c e => (I'.ok.exf b hb).2 x c e, fun p hp => absurd (show p ∈ ([] : List (Addr × Obj)) ++ [] from hp) (by simp)⟩
  have loop : codeAny (model X.prog X.w) X.A (.compLoop (.ListComp elt [⟨tg, iter, ifs, 0⟩] scope pos) 0 (.ref it) (.ref D) ce) (compPost (model X.prog X.w) X.A X.xe use Qf (.ref D) s3.heap.objs.size) s4 := by
    refine compLoop_any (fun n s' => ∃ i H', Inv (X.blk s3 H3 scope ce fp) [] (wipe σ (own.map (·.2))) H' s' ∧ tn i s'.heap ∧ (∀ b ∈ fp, H' b = none) ∧ W i n H') ?_ m0 ⟨0, H3, I4, st4, nfp, w0⟩
    rintro n s5 ⟨i, H5, I5, st5, n5, w5⟩
    rcases turn i n H5 w5 with ⟨stop, qq⟩ | ⟨go, Nx, hNx, step⟩
    · have td := T.done (X.blk s3 H3 scope ce fp) rfl rfl rfl hc i [] s5 _ H5 (fun _ _ => False) I5 (stat I5 n5) st5 stop
      refine thnF td fun r s6 ⟨hr, I6⟩ => ?_
      subst hr
      -- back in the def's context
      have I7 : Inv X pins σ H5 s6 := I3.call' (ch := fp) I6.os I6.base I6.hok I6.bare fun b hb => ⟨(f3 b hb).1.2.2.2.1, (f3 b hb).1.2.1, (f3 b hb).1.2.2.2.2.1, (f3 b hb).1.2.2.2.2.2⟩
      have nC : H5 s3.heap.objs.size = none := by
        have z : H5 ce.locals = none := I6.free
        rw [cL] at z
        exact z
      obtain ⟨m, hn, _⟩ := I6.loc
      have hn : s6.heap.Ns ce.locals m := hn
      rw [cL] at hn
      exact hRR D s3.heap.objs.size s6 m H5 I7 qq hn (I3.fpOk (Nat.le_refl _) nC)
    · have ti := T.item (X.blk s3 H3 scope ce fp) rfl rfl rfl hc i [] s5 _ H5 (fun _ _ => False) I5 (stat I5 n5) st5 go
      refine thnF ti fun r s6 ⟨u, hr, h6⟩ => ?_
      subst hr
      refine thnF h6 fun _ s7 ⟨x, H7, I7, r7, y7, st7, n7⟩ => ?_
      have I7' := I7.pinned (stat I7 n7) (T.obj _ _ st7)
      refine thnF (pg _ s7 _ H7 x u _ I7' r7 (step x H7 y7)) fun _ s8 ⟨σ8, H8, I8, hw8, q8⟩ => ?_
      refine thnF (pt _ s8 σ8 H8 _ I8 q8) fun b s9 ⟨H9, I9, q9⟩ => ?_
      -- the turn's end
      have fin : ∀ {s' : Shared} {H' : Hp}, Inv (X.blk s3 H3 scope ce fp) ([] ++ pinsAt fp s7.heap) σ8 H' s' → Nx H' → ∃ m, m < n ∧ ∃ i H', Inv (X.blk s3 H3 scope ce fp) [] (wipe σ (own.map (·.2))) H' s' ∧ tn i s'.heap ∧ (∀ b ∈ fp, H' b = none) ∧ W i m H' := fun {s' H'} I' nx => by
        obtain ⟨m', hm, w'⟩ := hNx H' nx
        have pin' : ∀ b ∈ fp, ∀ o, s7.heap.get? b = some o → s'.heap.get? b = some o ∧ H' b = none := fun b hb o e =>
          let z := I'.pin (b, o) (List.mem_append_right _ (List.mem_append_right _ (mem_pinsAt hb e)))
          ⟨z.1, z.2.1⟩
        have hl : (wipe σ (own.map (·.2))).length = σ8.length := by rw [← hw8, wipe_length]
        refine ⟨m', hm, i + 1, H', (I'.unpinned (pins := [])).weak hl (fun j v e => ?_), T.keep _ _ _ st7 fun b hb o e => (pin' b hb o e).1, fun b hb => ?_, w'⟩
        · rw [← hw8] at e
          exact (wipe_some e).1
        · obtain ⟨o, e, _⟩ := T.obj _ _ st7 b hb
          exact (pin' b hb o e).2
      cases b with
      | false =>
        simp only [Bool.false_eq_true, if_false] at q9 ⊢
        exact fin I9 q9
      | true =>
        simp only [if_true] at q9 ⊢
        refine thnF (pe _ s9 σ8 H9 _ I9 q9) fun z s10 ⟨yv, H10, I10, r10, acc, hD10, hz10, nx⟩ => ?_
        exact app_ok (X := X.blk s3 H3 scope ce fp) I10 hD10 hz10 r10 fun s11 I11 => fin I11 nx
  exact codeAny_compStart_list loop (T.self X.A 0 _ _ _ st4 loop)
/-- as a value -/
theorem pe_lc {elt tg iter : Expr} {ifs : List Expr} {scope : Scope} {own : List (Str × Nat)} {pos : Pos} {wi : TI} {g : TG} {tt : TT} {te : TE} (hc : X.calm = true) (hN : X.N.Nodup) (hi : PI X tg iter wi) (ok : BlkOk X.N X.env.scope scope own)
    (hg : ∀ (s : Shared) (H : Hp) (C : Addr) (cl : List (Str × Addr)) (fp : List Addr), PG (X.blk s H scope (compEnvC scope cl C X.env) fp) tg g) (ht : ∀ (s : Shared) (H : Hp) (C : Addr) (cl : List (Str × Addr)) (fp : List Addr), PTs (X.blk s H scope (compEnvC scope cl C X.env) fp) ifs tt)
    (he : ∀ (s : Shared) (H : Hp) (C : Addr) (cl : List (Str × Addr)) (fp : List Addr), PE (X.blk s H scope (compEnvC scope cl C X.env) fp) elt te) (hs : ∀ x, foldedSetIterable iter X.env x = pure x := by intro _; rfl) :
    PE X (.ListComp elt [⟨tg, iter, ifs, 0⟩] scope pos) (tLc wi g tt te (own.map (·.2))) := by
  intro pins s σ H Q I h
  rw [eval_ListComp]
  refine lc_core hc hN I hi ok hg ht he hs h fun D C s' m H' I' q hn f => ⟨m, hn, fun h'' sb => ?_⟩
  obtain ⟨f0, f1, f2, f3, f4, f5⟩ := f
  exact ⟨.ref D, H', I'.turned (t' := s'.toks) (fun b o hb e => (sb.2 b hb).trans e) f0 f1 f3 f4 f5, rfl, q⟩
end

/-! ### the forms one uses -/
/-- over a range: Pv by the turn and the heap (the new list at D within) -/
theorem lc_range {lo : Int} {n : Nat} {g : TG} {tt : TT} {te : TE} {vs : List Nat} {σ : St} {H1 : Hp} {D : Addr} {Qd : Hp → Prop} (Pv : Nat → Hp → Prop) (h0 : Pv 0 (upd H1 D (.lst [])))
    (hs : ∀ i H, i < n → Pv i H → g (.int (lo + i)) (wipe σ vs) H fun σ2 H2 => wipe σ2 vs = wipe σ vs ∧ tt σ2 H2 fun b H3 =>
      if b = true then te σ2 H3 fun y H4 => ∃ acc, H4 D = some (.lst acc) ∧ acc.length < sizeLine ∧ Pv (i + 1) (upd H4 D (.lst (acc ++ [y]))) else Pv (i + 1) H3) (hd : ∀ H, Pv n H → Qd H) :
    ∃ W : Nat → Nat → Hp → Prop, (∃ m, W 0 m (upd H1 D (.lst []))) ∧ ∀ i m H, W i m H →
      ((Itr lo n).stop i H ∧ Qd H) ∨ ((Itr lo n).go i H ∧ ∃ Nx : Hp → Prop, (∀ H', Nx H' → ∃ m', m' < m ∧ W (i + 1) m' H') ∧ ∀ x H', (Itr lo n).yld i H x H' → g x (wipe σ vs) H' fun σ2 H2 => wipe σ2 vs = wipe σ vs ∧ tt σ2 H2 fun b H3 =>
        if b = true then te σ2 H3 fun y H4 => ∃ acc, H4 D = some (.lst acc) ∧ acc.length < sizeLine ∧ Nx (upd H4 D (.lst (acc ++ [y]))) else Nx H3) := by
  refine ⟨fun i m H => m = n - i ∧ i ≤ n ∧ Pv i H, ⟨n, by simp, Nat.zero_le _, h0⟩, ?_⟩
  rintro i m H ⟨rfl, hi, p⟩
  by_cases hlt : i < n
  · refine .inr ⟨hlt, Pv (i + 1), fun H' p' => ⟨n - (i + 1), by omega, rfl, hlt, p'⟩, fun x H' y => ?_⟩
    obtain ⟨e, y⟩ := y
    subst e y
    exact hs i _ hlt p
  · have e : i = n := by omega
    subst e
    exact .inl ⟨Nat.le_refl _, hd H p⟩
/-- over a list that the block leaves as it is -/
theorem lc_list {K : PySem.W.Frag} {a : Addr} {xs : List V} {g : TG} {tt : TT} {te : TE} {vs : List Nat} {σ : St} {H1 : Hp} {D : Addr} {Qd : Hp → Prop} (Pv : Nat → Hp → Prop) (h0 : Pv 0 (upd H1 D (.lst []))) (hl : ∀ i H, i ≤ xs.length → Pv i H → SqL K H a xs)
    (hs : ∀ i x H, xs[i]? = some x → Pv i H → g x (wipe σ vs) H fun σ2 H2 => wipe σ2 vs = wipe σ vs ∧ tt σ2 H2 fun b H3 =>
      if b = true then te σ2 H3 fun y H4 => ∃ acc, H4 D = some (.lst acc) ∧ acc.length < sizeLine ∧ Pv (i + 1) (upd H4 D (.lst (acc ++ [y]))) else Pv (i + 1) H3) (hd : ∀ H, Pv xs.length H → Qd H) :
    ∃ W : Nat → Nat → Hp → Prop, (∃ m, W 0 m (upd H1 D (.lst []))) ∧ ∀ i m H, W i m H →
      ((Itl K a).stop i H ∧ Qd H) ∨ ((Itl K a).go i H ∧ ∃ Nx : Hp → Prop, (∀ H', Nx H' → ∃ m', m' < m ∧ W (i + 1) m' H') ∧ ∀ x H', (Itl K a).yld i H x H' → g x (wipe σ vs) H' fun σ2 H2 => wipe σ2 vs = wipe σ vs ∧ tt σ2 H2 fun b H3 =>
        if b = true then te σ2 H3 fun y H4 => ∃ acc, H4 D = some (.lst acc) ∧ acc.length < sizeLine ∧ Nx (upd H4 D (.lst (acc ++ [y]))) else Nx H3) := by
  refine ⟨fun i m H => m = xs.length - i ∧ i ≤ xs.length ∧ Pv i H, ⟨xs.length, by simp, Nat.zero_le _, h0⟩, ?_⟩
  rintro i m H ⟨rfl, hi, p⟩
  have q := hl i H hi p
  by_cases hlt : i < xs.length
  · refine .inr ⟨⟨xs, xs[i], q, by simp [hlt]⟩, Pv (i + 1), fun H' p' => ⟨xs.length - (i + 1), by omega, rfl, hlt, p'⟩, fun x H' y => ?_⟩
    obtain ⟨e, y⟩ := y
    subst e
    exact hs i x _ (y xs q) p
  · have e : i = xs.length := by omega
    subst e
    exact .inl ⟨⟨xs, q, Nat.le_refl _⟩, hd H p⟩
def blkC (N : List Str) (sc scope : Scope) (own : List (Str × Nat)) : Bool :=
  (match scope.kind with | .function => true | _ => false) && (scope.names.all fun y => decide (scope.names.lookup y.1 = some y.2)) && (own.all fun p => decide (N[p.2]? = some p.1)) &&
    (scope.names.all fun y => match y.2 with
      | .free => (match sc.names.lookup y.1 with | some .cell => true | some .free => true | _ => false)
      | .local => decide (y.1 ∈ own.map (·.1)) || decide (y.1 ∉ N)
      | .cell => decide (y.1 ∈ own.map (·.1)) || decide (y.1 ∉ N)
      | _ => true)
theorem blkOk_by {N : List Str} {sc scope : Scope} {own : List (Str × Nat)} (h : blkC N sc scope own = true) : BlkOk N sc scope own := by
  unfold blkC at h
  simp only [Bool.and_eq_true, List.all_eq_true, decide_eq_true_eq] at h
  obtain ⟨⟨⟨h1, h2⟩, h3⟩, h4⟩ := h
  refine ⟨?_, h2, h3, fun y hy e => ?_, fun y hy e => ?_⟩
  · split at h1
    · assumption
    · cases h1
  · have q := h4 y hy
    simp only [e] at q
    split at q <;> first | exact .inl (by assumption) | exact .inr (by assumption) | cases q
  · have q := h4 y hy
    rcases e with e | e <;> (simp only [e, Bool.or_eq_true, decide_eq_true_eq] at q; exact q)
end L2

namespace L2
open PySem PySem.Spec PyProof.Rows

end L2

namespace L2
open PySem PySem.Spec PyProof.Rows

/-! ### lists of pairs as tables -/

/-! ### a tracked dict, its keys ints and texts or tuples of these -/
theorem kV_is {P : Program} {w : World} {k : Key} {u : Value} (r : RelV (kV k) u) : (mixKind P w).is k u = true := by
  cases k with
  | inl i => obtain ⟨t, e⟩ := (show ∃ t, u = Value.int i t from r); subst e; exact mixKind_int P w i t
  | inr x => obtain ⟨t, e⟩ := (show ∃ t, u = Value.str x t from r); subst e; exact mixKind_str P w x t

/-! ### readings and rules -/
/-- the element of a subscription, not a slice -/
def NoSl (i : Expr) : Prop := ∀ ov iv, subscripted i false ov iv = operate [ov, iv] (getItem ov iv)
theorem subD_of {prog : Program} {w : World} {A : Around} {E : Value → Shared → Prop} {s : Shared} {env : Env} {value slice : Expr} {pos : Pos} {T id : String} {Q : Value → Shared → Prop}
    (hl : typeLookup (.type T) "__getitem__" = pure (some (.builtin id))) (hs : NoSl slice)
    (h : wpAny (model prog w) A (eval value env) (fun o s₁ => wpAny (model prog w) A (eval slice env) (fun i s₂ => s₂.TypeIs o T ∧ wpAny (model prog w) A (getItem o i) Q E s₂) E s₁) E s) :
    wpAny (model prog w) A (eval (.Subscript value slice pos) env) Q E s := by
  refine Subscript_ (wpAny_mono h (fun o s₁ h₁ => wpAny_mono h₁ (fun i s₂ h₂ => ?_) fun _ _ x => x) fun _ _ x => x)
  obtain ⟨hT, h₂⟩ := h₂
  unfold subscriptTail
  refine wpAny_bind ?_
  rw [getitemInPython_of_ne hT.not_modules]
  refine wpAny_bind (wpAny_specialOf hT hl ?_)
  have fin : wpAny (model prog w) A (subscripted slice false o i) (fun r s₃ => wpAny (model prog w) A (letTemporaryGo value o r >>= fun _ => pure r) Q E s₃) E s₂ := by
    rw [hs o i]
    exact wpAny_operating (wpAny_mono h₂ (fun r s₃ h₃ => wpAny_bind (wpAny_letTemporaryGo (wpAny_pure h₃))) fun _ _ x => x)
  first
    | exact wpAny_pure (wpAny_bind fin)
    | exact wpAny_bind (wpAny_pure (wpAny_bind fin))
    | exact wpAny_bind fin

/-! ### displays -/

/-! ### methods -/

/-! ### dict(d): a copy -/

end L2

namespace L2
open PySem PySem.Spec PyProof.Rows

end L2

namespace L2
open PySem PySem.Spec PyProof.Rows

section
variable {X : Cx} {pins : List (Addr × Obj)} {σ : St} {H : Hp} {s : Shared} {h' : Heap}
/-- several records of ours have turned -/
theorem Inv.turnedL {t' : Nat} {ch : List Addr} (I : Inv X pins σ H s) (k : ∀ b o, b ∉ ch → s.heap.get? b = some o → h'.get? b = some o) (hf : ∀ b ∈ ch, FpOk X pins H b) : Inv X pins σ H { s with heap := h', toks := t' } := by
  have nit : ∀ b u, H b = some u → b ∉ ch := fun b u e z => by
    have q := (hf b z).1
    rw [q] at e; cases e
  refine I.step (g' := s.gens) (d' := s.drawn) (ch := ch) (fun b hb => ⟨(hf b hb).2.2.2.1, (hf b hb).2.1, (hf b hb).2.2.2.2.1, (hf b hb).2.2.2.2.2⟩) (fun b o _ _ hc e _ => k b o hc e) (fun b o _ _ hc e _ => ⟨o.slots, k b o hc e⟩)
    (fun _ _ _ _ n => n) (fun b o hc e => ⟨o, k b o hc e⟩) (fun _ _ e => e) (fun _ _ _ e => e) (fun b ps e => ⟨#[], by rw [e]; simp⟩) (fun m hm => ?_) (fun b u e => ?_) I.bare
  · obtain ⟨o, es, ep, ho, r⟩ := hm
    exact ⟨o, es, ep, k _ o (fun z => (hf _ z).2.1 rfl) ho, r⟩
  · refine (I.hok b u e).stay (fun c v hc q => k c v ?_ q) (fun _ q => q) fun _ _ q => q
    rcases hc with z | z
    · rw [z]; exact nit b u e
    · exact nit c _ z
/-- .. and one new object is laid -/
theorem Inv.turnedNew {t' : Nat} {ch : List Addr} {T : Addr} {ob : HO} (I : Inv X pins σ H s) (k : ∀ b o, b ∉ ch → s.heap.get? b = some o → h'.get? b = some o) (hf : ∀ b ∈ ch, FpOk X pins H b) (hT : s.heap.objs.size ≤ T)
    (new : ObjOk X.prog X.w (upd H T ob) h' T ob) : Inv X pins σ (upd H T ob) { s with heap := h', toks := t' } := by
  have hn : H T = none := I.hok.fresh hT
  have nit : ∀ b u, H b = some u → b ∉ ch := fun b u e z => by
    have q := (hf b z).1
    rw [q] at e; cases e
  refine I.step (g' := s.gens) (d' := s.drawn) (ch := ch) (fun b hb => ⟨(hf b hb).2.2.2.1, (hf b hb).2.1, (hf b hb).2.2.2.2.1, (hf b hb).2.2.2.2.2⟩) (fun b o _ _ hc e _ => k b o hc e) (fun b o _ _ hc e _ => ⟨o.slots, k b o hc e⟩)
    (fun b o _ e n => ?_) (fun b o hc e => ⟨o, k b o hc e⟩) (fun b xs e => ?_) (fun b o u e => ?_) (fun b ps e => ⟨#[], ?_⟩) (fun m hm => ?_) (fun b u e => ?_) I.bare
  · rw [upd_ne (Nat.ne_of_lt (Nat.lt_of_lt_of_le (Heap.lt_size e) hT))]; exact n
  · rw [upd_ne (ne_of_none e hn)]; exact e
  · rw [upd_ne (ne_of_none e hn)]; exact e
  · rw [upd_ne (ne_of_none e hn), e]; simp
  · obtain ⟨o, es, ep, ho, r⟩ := hm
    exact ⟨o, es, ep, k _ o (fun z => (hf _ z).2.1 rfl) ho, r⟩
  · by_cases hb : b = T
    · subst hb
      rw [upd_same] at e
      cases e
      exact new
    · rw [upd_ne hb] at e
      refine (I.hok b u e).stay (fun c v hc q => k c v ?_ q) (fun c q => by rw [upd_ne (ne_of_none q hn)]; exact q) fun c xs q => by rw [upd_ne (ne_of_none q hn)]; exact q
      rcases hc with z | z
      · rw [z]; exact nit b u e
      · exact nit c _ z

/-! ### locking a thing while a statement runs -/
end

/-! ### range with a step -/

/-! ### reversed(list) -/

/-! ### a str -/

/-! ### a dict's keys: any dict's entries -/

/-! ### a locked dict -/

/-! ### for k in d, d.keys(), d.values(), d.items() -/

/-! ### enumerate(list) -/
/-! ### zip(list, list) -/
theorem boot_zip5 : bootBuiltins "zip" = some (.type "zip") := by decide +kernel
end L2

section 
namespace Bits
open PySem PyProof.Rows

end Bits
end 

section 
namespace TL
open PySem PySem.Builtin PySem.Builtin.Str PySem.StrLaws

/-! ### the list functions -/

/-! ### the model's split and partition are these -/

/-! ### computing spl and par -/

/-! ### digits -/

/-! ### words: x.split() -/
end TL
end 

namespace L2
open PySem PySem.Spec PyProof.Rows

end L2

namespace L2
open PySem PySem.Spec PyProof.Rows

/-! ### slices of a text -/

end L2

namespace Att
open PySem PySem.W PySem.Calls PyProof.Rows

/-! ### the script -/

/-! ### the attachment: holds_open's last premise (the goal 'hc' behind k_head) from a wpAny of the law's body -/

/-! ### rules over ANY heap (no ledger) from facts about the written part K: the library's own take a ledger (News) for what they write -/
end Att

namespace L2
open PySem PySem.Spec PyProof.Rows

end L2

namespace L2
open PySem PySem.Spec PyProof.Rows

end L2



/-! SHORT WORDS over the layer: a def of the text, its body, what a loop and a test want. -/
namespace L2
open PySem PySem.Spec PyProof.Rows

/-! ### the text by places -/
/-- the j-th statement of a class's body -/
def inClass (s : Stmt) (j : Nat) : Stmt := match s with
  | .ClassDef _ _ _ body _ _ _ _ _ _ _ => body.getD j (.Pass ⟨0, 0, 0, 0⟩)
  | _ => .Pass ⟨0, 0, 0, 0⟩
def defArgs (s : Stmt) : Arguments := match s with
  | .FunctionDef _ a _ _ _ _ _ _ _ _ => a
  | _ => { posonlyargs := [], args := [], vararg := none, kwonlyargs := [], kw_defaults := [], kwarg := none, defaults := [] }
def defBody (s : Stmt) : List Stmt := match s with
  | .FunctionDef _ _ b _ _ _ _ _ _ _ => b
  | _ => []
def defScope (s : Stmt) : Scope := match s with
  | .FunctionDef _ _ _ _ _ _ sc _ _ _ => sc
  | _ => { kind := .function, names := [], isGenerator := false, isCoroutine := false }

/-! ### no exception leaves a def -/
abbrev CX0 : CXT := fun _ _ _ _ _ _ => False
abbrev E0 : XK := fun _ _ _ => False
theorem pass0 {X : Cx} : Passes CX0 X E0 := fun _ _ _ _ _ _ _ h => h.elim

/-! ### a def (or method) of the text as it stands behind the top -/
structure Fun (K : PySem.W.Frag) (x qual : Str) (st : Stmt) (f : Addr) (fd : FuncData) : Prop where
  ex : ∃ (oc : Value) (od : Option Addr) (kV doc pm : Value) (an : Option Addr) (cdv ct : Value) (osl : Array (Option Value)),
    fd = PySem.W.fnOf x qual (defArgs st) (defBody st) (defScope st) .none kV doc pm an cdv ct ∧ K.lookup f = some ⟨oc, od, .func fd, osl⟩ ∧ PySem.W.codeIn K cdv qual = true
  kp : PySem.W.keepIn K (.ref f) = true
section
variable {P : Program} {w : World} {K : PySem.W.Frag} {mg : Str → Option Value} {base : Heap}
/-- THE RULE for a def: its body as a term of rules, and the reading of that term -/
theorem Fun.ok {x qual : Str} {st : Stmt} {f : Addr} {fd : FuncData} {N ps : List Str} {k : Nat} {sp : Sp} (F : Fun K x qual st f fd) (S : FnScope N ps (defScope st)) (len : ∀ vs H Q E, sp vs H Q E → vs.length = ps.length)
    (hbody : ∀ (cdv : Value) (A : Around) (outer : List Env) (s : Shared) (H : Hp) (vs : List V) (Q : VK) (E : XK), Room k (A.deeper (envOfC qual (defScope st) s.heap.objs.size f cdv)) → sp vs H Q E →
      ∃ t, PSs (cxOf CX0 P w K mg base N qual (defScope st) f cdv A outer s H E).nox (defBody st) t ∧ t { nx := fun _ H' => Q .non H', rt := Q } (start N vs) H) : FnOk P w K mg base CX0 (k + 1) f fd ps sp := by
  obtain ⟨oc, od, kV, doc, pm, an, cdv, ct, osl, rfl, lk, hcd⟩ := F.ex
  refine fn_of lk hcd S len fun A outer s H vs Q E hr hsp => ?_
  obtain ⟨t, h, q⟩ := hbody cdv A outer s H vs Q E hr hsp
  exact ⟨t, h.nox, q⟩
/-- how its arguments bind (no defaults): h is «fun _ _ _ _ _ _ us hl => match us, hl with | [_, _], _ => rfl», one _ a parameter -/
theorem Fun.binds {x qual : Str} {st : Stmt} {f : Addr} {fd : FuncData} {ps : List Str} (F : Fun K x qual st f fd)
    (h : ∀ (kV doc pm : Value) (an : Option Addr) (cdv ct : Value) (us : List Value), us.length = ps.length → bindArgs (PySem.W.fnOf x qual (defArgs st) (defBody st) (defScope st) .none kV doc pm an cdv ct) ⟨us, []⟩ = pure (ps.zip us)) : Binds K fd ps [] := by
  obtain ⟨oc, od, kV, doc, pm, an, cdv, ct, osl, rfl, lk, hcd⟩ := F.ex
  exact .all (h kV doc pm an cdv ct)
theorem fun_mk {x qual : Str} {st : Stmt} {f : Addr} {oc : Value} {od an : Option Addr} {osl : Array (Option Value)} {kV doc pm cdv ct : Value} (l : K.lookup f = some ⟨oc, od, .func (PySem.W.fnOf x qual (defArgs st) (defBody st) (defScope st) .none kV doc pm an cdv ct), osl⟩)
    (c : PySem.W.codeIn K cdv qual = true) (k : PySem.W.keepIn K (.ref f) = true) : Fun K x qual st f (PySem.W.fnOf x qual (defArgs st) (defBody st) (defScope st) .none kV doc pm an cdv ct) := ⟨⟨oc, od, kV, doc, pm, an, cdv, ct, osl, rfl, l, c⟩, k⟩
end

/-! ### expressions in short: the name that stands in the i-th slot -/
section
variable {X : Cx}
theorem pv (i : Nat) {x : Str} {pos : Pos} (hN : X.N[i]? = some x := by rfl) (hv : Vis X.env.scope x := by first | exact Or.inl rfl | exact Or.inr (Or.inl rfl) | exact Or.inr (Or.inr rfl)) (hd : (x == ("__debug__" : Str)) = false := by decide)
    (hcd : (x == ("__classdict__" : Str)) = false := by decide) : PE X (.Name x pos) (tVar i) := pe_var hN hv hd hcd
end

/-! ### tests -/
theorem iteF {A B : Prop} (h : B) : if false = true then A else B := by
  rw [if_neg Bool.false_ne_true]
  exact h
theorem iteT {A B : Prop} (h : A) : if true = true then A else B := by
  rw [if_pos rfl]
  exact h

/-! ### heaps -/
/-- all that was tracked is as it was -/
def Same (H H' : Hp) : Prop := ∀ b o, H b = some o → H' b = some o
theorem Same.refl (H : Hp) : Same H H := fun _ _ h => h
theorem Same.trans {H H1 H2 : Hp} (a : Same H H1) (b : Same H1 H2) : Same H H2 := fun c o h => b c o (a c o h)
theorem Same.free {H H' : Hp} (e : Same H H') {l : Addr} (h : H' l = Option.none) : H l = Option.none := by
  cases q : H l with
  | none => rfl
  | some o =>
    rw [e l o q] at h
    cases h

/-! ### a dict's pairs: keys that differ -/
/-! ### lists -/
theorem nd_ix {α : Type} {l : List α} (hN : l.Nodup) {i j : Nat} {x : α} (a : l[i]? = some x) (b : l[j]? = some x) : i = j := by
  obtain ⟨h1, e1⟩ := List.getElem?_eq_some_iff.mp a
  obtain ⟨h2, e2⟩ := List.getElem?_eq_some_iff.mp b
  exact (List.getElem_inj hN).mp (e1.trans e2.symm)
end L2
section
set_option Elab.async false
set_option linter.all false
set_option maxRecDepth 100000
set_option maxHeartbeats 2000000
namespace L2
open PySem PySem.Spec PyProof.Rows
open PySem.W (WData Codec OpenSpec Well WellAll ReadsW ReadsAllW)
/-! ### an answer as data -/
mutual
/-- x stands for the datum d, lists and tuples all the way -/
inductive Dw (K : PySem.W.Frag) (H : Hp) : V → WData → Prop
  | non : Dw K H .non .none
  | bl (b : Bool) : Dw K H (.bl b) (.bool b)
  | int (i : Int) : Dw K H (.int i) (.int i)
  | str (x : Str) : Dw K H (.str x) (.str x)
  | byt (b : Array UInt8) : Dw K H (.byt b) (.bytes b.toList)
  | lst {a : Addr} {xs : List V} {ds : List WData} : SqL K H a xs → DwAll K H xs ds → Dw K H (.ref a) (.list ds)
  | tup {a : Addr} {xs : List V} {ds : List WData} : SqT K H a xs → DwAll K H xs ds → Dw K H (.ref a) (.tuple ds)
inductive DwAll (K : PySem.W.Frag) (H : Hp) : List V → List WData → Prop
  | nil : DwAll K H [] []
  | cons {v : V} {vs : List V} {d : WData} {ds : List WData} : Dw K H v d → DwAll K H vs ds → DwAll K H (v :: vs) (d :: ds)
end
theorem dw_ints {K : PySem.W.Frag} {H : Hp} : ∀ ns : List Int, DwAll K H (ns.map V.int) (ns.map WData.int)
  | [] => .nil
  | n :: r => .cons (.int n) (dw_ints r)
theorem ints_dw {K : PySem.W.Frag} {H : Hp} : ∀ (ns : List Int) (xs : List V), DwAll K H xs (ns.map WData.int) → xs = ns.map V.int
  | [], xs, h => by
    cases h
    rfl
  | n :: r, xs, h => by
    cases h with
    | cons h1 h2 =>
      cases h1
      rw [ints_dw r _ h2] <;> rfl
section
variable {P : Program} {w : World} {K : PySem.W.Frag} {H : Hp} {h : Heap} {R : PySem.W.WRecords} {cl : Str → Option Addr}
theorem sqL_at {a : Addr} {xs : List V} (hok : HOk P w H h) (KX : K.In h) (q : SqL K H a xs) : ∃ (its : List Value) (o : Obj) (n : Nat), Vals xs its ∧ h.get? a = some o ∧ o.cls = .type "list" ∧ o.data = .seq its.toArray n := by
  rcases q with q | ⟨o, its, n, e, hc, _, hd, _, hv⟩
  · obtain ⟨_, its, n, hv, e⟩ := (show ObjOk P w H h a (.lst xs) from q.ok hok)
    exact ⟨its, _, n, hv, e, rfl, rfl⟩
  · exact ⟨its.toList, o, n, hv, KX _ _ e, hc, by simp [hd]⟩
theorem sqT_at {a : Addr} {xs : List V} (hok : HOk P w H h) (KX : K.In h) (q : SqT K H a xs) : ∃ (its : List Value) (o : Obj) (n : Nat), Vals xs its ∧ h.get? a = some o ∧ o.cls = .type "tuple" ∧ o.data = .seq its.toArray n := by
  rcases q with q | ⟨o, its, n, e, hc, hd, _, hv⟩
  · obtain ⟨_, its, hv, o, e, hc, n, hd⟩ := (show ObjOk P w H h a (.tup xs) from q.ok hok)
    exact ⟨its, o, n, hv, e, hc, hd⟩
  · exact ⟨its.toList, o, n, hv, KX _ _ e, hc, by simp [hd]⟩
mutual
theorem Dw.reads (hok : HOk P w H h) (KX : K.In h) : ∀ (d : WData) (v : V) (u : Value), Dw K H v d → RelV v u → ∃ as, ReadsW R cl h u d as
  | .none, _, _, x, r => by
    cases x
    cases r
    exact ⟨_, ReadsW.none⟩
  | .bool b, _, _, x, r => by
    cases x
    cases r
    exact ⟨_, ReadsW.bool b⟩
  | .int i, _, _, x, r => by
    cases x
    obtain ⟨t, rfl⟩ := r
    exact ⟨_, ReadsW.int i t⟩
  | .str s, _, _, x, r => by
    cases x
    obtain ⟨t, rfl⟩ := r
    exact ⟨_, ReadsW.str s t⟩
  | .bytes b, _, _, x, r => by
    cases x
    obtain ⟨t, rfl⟩ := r
    exact ⟨_, ReadsW.bytes _ t⟩
  | .list ds, _, _, x, r => by
    cases x with
    | lst hs ha =>
      cases r
      obtain ⟨its, o, n, rv, ho, hc, hd⟩ := sqL_at hok KX hs
      obtain ⟨as, hr⟩ := Dw.readsAll hok KX ds _ its ha rv
      exact ⟨_, ReadsW.list ho hc hd hr⟩
  | .tuple ds, _, _, x, r => by
    cases x with
    | tup hs ha =>
      cases r
      obtain ⟨its, o, n, rv, ho, hc, hd⟩ := sqT_at hok KX hs
      obtain ⟨as, hr⟩ := Dw.readsAll hok KX ds _ its ha rv
      exact ⟨_, ReadsW.tuple ho hc hd hr⟩
  | .float _, _, _, x, _ => by cases x
  | .dict _, _, _, x, _ => by cases x
  | .bytearray _, _, _, x, _ => by cases x
  | .set _, _, _, x, _ => by cases x
  | .frozenset _, _, _, x, _ => by cases x
  | .obj _ _, _, _, x, _ => by cases x
theorem Dw.readsAll (hok : HOk P w H h) (KX : K.In h) : ∀ (ds : List WData) (vs : List V) (us : List Value), DwAll K H vs ds → Vals vs us → ∃ as, ReadsAllW R cl h us ds as
  | [], _, _, x, r => by
    cases x
    cases r
    exact ⟨_, ReadsAllW.nil⟩
  | d :: ds, _, _, x, r => by
    cases x with
    | cons h1 h2 =>
      cases r with
      | cons r1 r2 =>
        obtain ⟨as, q1⟩ := Dw.reads hok KX d _ _ h1 r1
        obtain ⟨bs, q2⟩ := Dw.readsAll hok KX ds _ _ h2 r2
        exact ⟨_, ReadsAllW.cons q1 q2⟩
end
end
/-! ### the arguments -/
mutual
/-- data that a codec tells -/
def plW : WData → Bool
  | .none => true
  | .bool _ => true
  | .int _ => true
  | .str _ => true
  | .bytes _ => true
  | .list xs => plWs xs
  | .tuple xs => plWs xs
  | _ => false
def plWs : List WData → Bool
  | [] => true
  | x :: r => plW x && plWs r
end
theorem plWs_map {α : Type} {f : α → WData} (h : ∀ a, plW (f a) = true) : ∀ l : List α, plWs (l.map f) = true
  | [] => rfl
  | x :: r => by
    show (plW (f x) && plWs (r.map f)) = true
    rw [h x, plWs_map h r] <;> rfl
theorem pl_enc : ∀ (c : Codec) (a : c.denote), plW (c.enc a) = true
  | .unit, _ => rfl
  | .bool, _ => rfl
  | .int _ _, _ => rfl
  | .nat _ _, _ => rfl
  | .u8, _ => rfl
  | .bytes _ _, _ => rfl
  | .text _ _ _ _, _ => rfl
  | .list _ _ c, a => plWs_map (fun x => pl_enc c x) a
  | .pair c d, a => by
    show (plW (c.enc a.1) && (plW (d.enc a.2) && true)) = true
    rw [pl_enc c a.1, pl_enc d a.2] <;> rfl
  | .triple c d e, a => by
    show (plW (c.enc a.1) && (plW (d.enc a.2.1) && (plW (e.enc a.2.2) && true))) = true
    rw [pl_enc c a.1, pl_enc d a.2.1, pl_enc e a.2.2] <;> rfl
  | .option c, none => rfl
  | .option c, some x => pl_enc c x
theorem pl_encAll : ∀ (cs : List Codec) (a : Codec.denoteAll cs), plWs (Codec.encAll cs a) = true
  | [], _ => rfl
  | c :: cs, a => by
    show (plW (c.enc a.1) && plWs (Codec.encAll cs a.2)) = true
    rw [pl_enc c a.1, pl_encAll cs a.2] <;> rfl
theorem weight_mem : ∀ {xs : List WData} {d : WData}, d ∈ xs → d.weight ≤ WData.weightAll xs
  | [], d, h => absurd h (by simp)
  | x :: r, d, h => by
    show d.weight ≤ x.weight + 1 + WData.weightAll r
    rcases List.mem_cons.mp h with e | m
    · rw [e]
      omega
    · have z := weight_mem m
      omega
def toV : Value → V
  | .none => .non
  | .bool b => .bl b
  | .int i _ => .int i
  | .str x _ => .str x
  | .bytes b _ => .byt b
  | .ref a => .ref a
  | _ => .non
/-- a value of the arguments, its objects among A -/
def OkU (A : List Addr) : Value → Prop
  | .none => True
  | .bool _ => True
  | .int _ _ => True
  | .str _ _ => True
  | .bytes _ _ => True
  | .ref a => a ∈ A
  | _ => False
theorem OkU.mono {A B : List Addr} (h : ∀ a ∈ A, a ∈ B) : ∀ {u : Value}, OkU A u → OkU B u := fun {u} x => by
  cases u with
  | ref a => exact h a x
  | none => trivial
  | bool b => trivial
  | int i t => trivial
  | str s t => trivial
  | bytes b t => trivial
  | _ => exact False.elim x
theorem relV_toV {A : List Addr} {u : Value} (x : OkU A u) : RelV (toV u) u := by
  cases u with
  | ref a => rfl
  | none => rfl
  | bool b => rfl
  | int i t => exact ⟨t, rfl⟩
  | str s t => exact ⟨t, rfl⟩
  | bytes b t => exact ⟨t, rfl⟩
  | _ => exact False.elim x
theorem vals_toV {A : List Addr} : ∀ {vs : List Value}, (∀ u ∈ vs, OkU A u) → Vals (vs.map toV) vs
  | [], _ => .nil
  | u :: r, h => .cons (relV_toV (h u (List.mem_cons_self ..))) (vals_toV fun x hx => h x (List.mem_cons_of_mem _ hx))
/-- an object of the arguments -/
def ArgOb (h : Heap) (A : List Addr) (a : Addr) : Prop := ∃ vs : List Value, vs.length ≤ sizeLine ∧ (∀ u ∈ vs, OkU A u) ∧
  (h.get? a = some { cls := .type "list", data := .seq vs.toArray } ∨ h.get? a = some { cls := .type "tuple", data := .seq vs.toArray })
theorem ArgOb.mono {h : Heap} {A B : List Addr} {a : Addr} (k : ∀ a ∈ A, a ∈ B) (x : ArgOb h A a) : ArgOb h B a := by
  obtain ⟨vs, h1, h2, h3⟩ := x
  exact ⟨vs, h1, fun u hu => (h2 u hu).mono k, h3⟩
theorem wellAll_len {P : Params} {h : Heap} : ∀ {vs : List Value} {ds : List WData}, WellAll P h vs ds → vs.length = ds.length
  | _, _, .nil => rfl
  | _, _, .cons _ b => by
    show _ + 1 = _ + 1
    rw [wellAll_len b]
theorem well_list {P : Params} {h : Heap} {v : Value} {ds : List WData} (x : Well P h v (.list ds)) : ∃ (a : Addr) (vs : List Value), v = .ref a ∧ h.get? a = some { cls := .type "list", data := .seq vs.toArray } ∧ WellAll P h vs ds := by
  cases x with
  | list ho hall => exact ⟨_, _, rfl, ho, hall⟩
theorem well_tuple {P : Params} {h : Heap} {v : Value} {ds : List WData} (x : Well P h v (.tuple ds)) : ∃ (a : Addr) (vs : List Value), v = .ref a ∧ h.get? a = some { cls := .type "tuple", data := .seq vs.toArray } ∧ WellAll P h vs ds := by
  cases x with
  | tuple ho hall => exact ⟨_, _, rfl, ho, hall⟩
theorem well_cons {P : Params} {h : Heap} {us : List Value} {d : WData} {ds : List WData} (x : WellAll P h us (d :: ds)) : ∃ (v : Value) (vs : List Value), us = v :: vs ∧ Well P h v d ∧ WellAll P h vs ds := by
  cases x with
  | cons a b => exact ⟨_, _, rfl, a, b⟩
theorem line_of {n : Nat} (h : n ≤ 1048576) : n ≤ sizeLine := Nat.le_trans h (by decide)
section
variable {P : Params} {h : Heap}
mutual
theorem area_one : ∀ (d : WData) (v : Value), Well P h v d → plW d = true → d.weight ≤ 1048576 → ∃ A : List Addr, OkU A v ∧ ∀ a ∈ A, ArgOb h A a
  | .none, _, x, _, _ => by
    cases x
    exact ⟨[], trivial, fun a m => absurd m (by simp)⟩
  | .bool b, _, x, _, _ => by
    cases x
    exact ⟨[], trivial, fun a m => absurd m (by simp)⟩
  | .int i, _, x, _, _ => by
    cases x
    exact ⟨[], trivial, fun a m => absurd m (by simp)⟩
  | .str s, _, x, _, _ => by
    cases x
    exact ⟨[], trivial, fun a m => absurd m (by simp)⟩
  | .bytes b, _, x, _, _ => by
    cases x
    exact ⟨[], trivial, fun a m => absurd m (by simp)⟩
  | .list ds, _, x, p, z => by
    obtain ⟨a, vs, rfl, ho, hall⟩ := well_list x
    have z2 : WData.weightAll ds ≤ 1048576 := z
    obtain ⟨A, h1, h2⟩ := area_all ds _ hall p fun d hd => Nat.le_trans (weight_mem hd) z2
    have k : ∀ b ∈ A, b ∈ a :: A := fun b hb => List.mem_cons_of_mem _ hb
    refine ⟨a :: A, List.mem_cons_self .., fun b hb => ?_⟩
    rcases List.mem_cons.mp hb with e | m
    · rw [e]
      exact ⟨vs, line_of (by rw [wellAll_len hall]; exact Nat.le_trans (PySem.W.length_le_weightAllW ds) z2), fun u hu => (h1 u hu).mono k, .inl ho⟩
    · exact (h2 b m).mono k
  | .tuple ds, _, x, p, z => by
    obtain ⟨a, vs, rfl, ho, hall⟩ := well_tuple x
    have z2 : WData.weightAll ds ≤ 1048576 := z
    obtain ⟨A, h1, h2⟩ := area_all ds _ hall p fun d hd => Nat.le_trans (weight_mem hd) z2
    have k : ∀ b ∈ A, b ∈ a :: A := fun b hb => List.mem_cons_of_mem _ hb
    refine ⟨a :: A, List.mem_cons_self .., fun b hb => ?_⟩
    rcases List.mem_cons.mp hb with e | m
    · rw [e]
      exact ⟨vs, line_of (by rw [wellAll_len hall]; exact Nat.le_trans (PySem.W.length_le_weightAllW ds) z2), fun u hu => (h1 u hu).mono k, .inr ho⟩
    · exact (h2 b m).mono k
  | .float _, _, _, p, _ => Bool.noConfusion (show false = true from p)
  | .dict _, _, _, p, _ => Bool.noConfusion (show false = true from p)
  | .bytearray _, _, _, p, _ => Bool.noConfusion (show false = true from p)
  | .set _, _, _, p, _ => Bool.noConfusion (show false = true from p)
  | .frozenset _, _, _, p, _ => Bool.noConfusion (show false = true from p)
  | .obj _ _, _, _, p, _ => Bool.noConfusion (show false = true from p)
theorem area_all : ∀ (ds : List WData) (vs : List Value), WellAll P h vs ds → plWs ds = true → (∀ d ∈ ds, d.weight ≤ 1048576) → ∃ A : List Addr, (∀ u ∈ vs, OkU A u) ∧ ∀ a ∈ A, ArgOb h A a
  | [], _, x, _, _ => by
    cases x
    exact ⟨[], fun u m => absurd m (by simp), fun a m => absurd m (by simp)⟩
  | d :: ds, _, x, p, z => by
    obtain ⟨v, vs, rfl, x1, x2⟩ := well_cons x
    have q : plW d = true ∧ plWs ds = true := Bool.and_eq_true_iff.mp p
    obtain ⟨A, a1, a2⟩ := area_one d v x1 q.1 (z d (List.mem_cons_self ..))
    obtain ⟨B, b1, b2⟩ := area_all ds vs x2 q.2 fun e he => z e (List.mem_cons_of_mem _ he)
    have kA : ∀ b ∈ A, b ∈ A ++ B := fun b hb => List.mem_append.mpr (.inl hb)
    have kB : ∀ b ∈ B, b ∈ A ++ B := fun b hb => List.mem_append.mpr (.inr hb)
    refine ⟨A ++ B, fun u hu => ?_, fun b hb => ?_⟩
    · rcases List.mem_cons.mp hu with e | m
      · rw [e]
        exact a1.mono kA
      · exact (b1 u m).mono kB
    · rcases List.mem_append.mp hb with m | m
      · exact (a2 b m).mono kA
      · exact (b2 b m).mono kB
end
end
/-- what is tracked of an argument's object -/
def hoOf (o : Obj) : Option HO := match o.data with
  | .seq vs _ => if (o.cls == Value.type "list") = true then some (.frz o (.lst (vs.toList.map toV))) else some (.frz o (.tup (vs.toList.map toV)))
  | _ => none
def argH (K : PySem.W.Frag) (h : Heap) (A : List Addr) : Hp := fun b => if b ∈ A then (if (K.lookup b).isNone = true then (h.get? b).bind hoOf else none) else none
/-- nothing is tracked but what is known to the object -/
def OnlyF (H : Hp) : Prop := ∀ b, H b = none ∨ ∃ o u, H b = some (.frz o u)
theorem hoOf_lst (vs : List Value) : hoOf { cls := .type "list", data := .seq vs.toArray } = some (.frz { cls := .type "list", data := .seq vs.toArray } (.lst (vs.map toV))) := by
  show (if (Value.type "list" == Value.type "list") = true then some (HO.frz { cls := .type "list", data := .seq vs.toArray } (.lst (vs.toArray.toList.map toV))) else some (HO.frz { cls := .type "list", data := .seq vs.toArray } (.tup (vs.toArray.toList.map toV)))) = _
  rw [if_pos (beq_self_eq_true _)]
theorem hoOf_tup (vs : List Value) : hoOf { cls := .type "tuple", data := .seq vs.toArray } = some (.frz { cls := .type "tuple", data := .seq vs.toArray } (.tup (vs.map toV))) := by
  show (if (Value.type "tuple" == Value.type "list") = true then some (HO.frz { cls := .type "tuple", data := .seq vs.toArray } (.lst (vs.toArray.toList.map toV))) else some (HO.frz { cls := .type "tuple", data := .seq vs.toArray } (.tup (vs.toArray.toList.map toV)))) = _
  rw [if_neg (by decide)]
section
variable {P : Program} {w : World} {K : PySem.W.Frag} {h : Heap} {A : List Addr}
theorem argH_at {b : Addr} {o : Obj} (hb : b ∈ A) (hk : K.lookup b = none) (e : h.get? b = some o) : argH K h A b = hoOf o := by
  unfold argH
  rw [if_pos hb, hk, if_pos (show (none : Option Obj).isNone = true from rfl), e] <;> rfl
theorem of_argH {b : Addr} {u : HO} (q : argH K h A b = some u) : b ∈ A ∧ K.lookup b = none := by
  unfold argH at q
  by_cases hb : b ∈ A
  · rw [if_pos hb] at q
    cases hk : K.lookup b with
    | none => exact ⟨hb, rfl⟩
    | some o =>
      rw [hk, if_neg (by simp)] at q
      cases q
  · rw [if_neg hb] at q
    cases q
/-- what stands tracked -/
theorem argH_is (ar : ∀ a ∈ A, ArgOb h A a) {b : Addr} {u : HO} (q : argH K h A b = some u) : K.lookup b = none ∧ ∃ vs : List Value, vs.length ≤ sizeLine ∧ (∀ u ∈ vs, OkU A u) ∧
    ((h.get? b = some { cls := .type "list", data := .seq vs.toArray } ∧ u = .frz { cls := .type "list", data := .seq vs.toArray } (.lst (vs.map toV))) ∨
     (h.get? b = some { cls := .type "tuple", data := .seq vs.toArray } ∧ u = .frz { cls := .type "tuple", data := .seq vs.toArray } (.tup (vs.map toV)))) := by
  obtain ⟨hb, hk⟩ := of_argH q
  obtain ⟨vs, h1, h2, h3⟩ := ar b hb
  refine ⟨hk, vs, h1, h2, ?_⟩
  rcases h3 with e | e
  · rw [argH_at hb hk e, hoOf_lst] at q
    exact .inl ⟨e, (Option.some.inj q).symm⟩
  · rw [argH_at hb hk e, hoOf_tup] at q
    exact .inr ⟨e, (Option.some.inj q).symm⟩
theorem argH_only (ar : ∀ a ∈ A, ArgOb h A a) : OnlyF (argH K h A) := fun b => by
  cases q : argH K h A b with
  | none => exact .inl rfl
  | some u =>
    obtain ⟨_, vs, _, _, ⟨_, e⟩ | ⟨_, e⟩⟩ := argH_is ar q
    · exact .inr ⟨_, _, by rw [e]⟩
    · exact .inr ⟨_, _, by rw [e]⟩
theorem argH_ok (ar : ∀ a ∈ A, ArgOb h A a) : HOk P w (argH K h A) h := fun b u q => by
  obtain ⟨_, vs, h1, h2, ⟨e, rfl⟩ | ⟨e, rfl⟩⟩ := argH_is ar q
  · exact ⟨e, by rw [List.length_map]; exact h1, vs, _, vals_toV h2, e⟩
  · exact ⟨e, by rw [List.length_map]; exact h1, vs, vals_toV h2, _, e, rfl, _, rfl⟩
theorem seq_inj {c c' : Value} {vs us : List Value} (e : (some { cls := c, data := .seq vs.toArray } : Option Obj) = some { cls := c', data := .seq us.toArray }) : c = c' ∧ vs = us := by
  have e1 := Option.some.inj e
  have e2 : c = c' := congrArg Obj.cls e1
  have e3 : Data.seq vs.toArray = Data.seq us.toArray := congrArg Obj.data e1
  injection e3 with e4
  refine ⟨e2, ?_⟩
  have e5 := congrArg Array.toList e4
  simpa using e5
/-- a list argument -/
theorem argL (KX : K.In h) (ar : ∀ a ∈ A, ArgOb h A a) {a : Addr} {vs : List Value} (ha : a ∈ A) (e : h.get? a = some { cls := .type "list", data := .seq vs.toArray }) : (∀ u ∈ vs, OkU A u) ∧ SqL K (argH K h A) a (vs.map toV) := by
  obtain ⟨us, h1, h2, h3⟩ := ar a ha
  have hu : us = vs := by
    rcases h3 with q | q
    · rw [e] at q
      exact (seq_inj q).2.symm
    · rw [e] at q
      exact absurd (Value.type.inj (seq_inj q).1) (by decide)
  subst hu
  refine ⟨h2, ?_⟩
  cases hk : K.lookup a with
  | none => exact .inl (.inr ⟨_, by rw [argH_at ha hk e, hoOf_lst]⟩)
  | some o =>
    have e2 := KX a o hk
    rw [e] at e2
    obtain rfl := Option.some.inj e2
    exact .inr ⟨_, us.toArray, _, hk, rfl, rfl, rfl, by rw [List.size_toArray]; exact h1, by simpa using vals_toV h2⟩
theorem argT (KX : K.In h) (ar : ∀ a ∈ A, ArgOb h A a) {a : Addr} {vs : List Value} (ha : a ∈ A) (e : h.get? a = some { cls := .type "tuple", data := .seq vs.toArray }) : (∀ u ∈ vs, OkU A u) ∧ SqT K (argH K h A) a (vs.map toV) := by
  obtain ⟨us, h1, h2, h3⟩ := ar a ha
  have hu : us = vs := by
    rcases h3 with q | q
    · rw [e] at q
      exact absurd (Value.type.inj (seq_inj q).1) (by decide)
    · rw [e] at q
      exact (seq_inj q).2.symm
  subst hu
  refine ⟨h2, ?_⟩
  cases hk : K.lookup a with
  | none => exact .inl (.inr ⟨_, by rw [argH_at ha hk e, hoOf_tup]⟩)
  | some o =>
    have e2 := KX a o hk
    rw [e] at e2
    obtain rfl := Option.some.inj e2
    exact .inr ⟨_, us.toArray, _, hk, rfl, rfl, by rw [List.size_toArray]; exact h1, by simpa using vals_toV h2⟩
mutual
theorem dw_one {Pm : Params} (KX : K.In h) (ar : ∀ a ∈ A, ArgOb h A a) : ∀ (d : WData) (v : Value), Well Pm h v d → plW d = true → OkU A v → Dw K (argH K h A) (toV v) d
  | .none, _, x, _, _ => by
    cases x
    exact .non
  | .bool b, _, x, _, _ => by
    cases x
    exact .bl b
  | .int i, _, x, _, _ => by
    cases x
    exact .int i
  | .str s, _, x, _, _ => by
    cases x
    exact .str s
  | .bytes b, _, x, _, _ => by
    cases x
    have z := Dw.byt (K := K) (H := argH K h A) b.toArray
    exact z
  | .list ds, _, x, p, hu => by
    obtain ⟨a, vs, rfl, ho, hall⟩ := well_list x
    obtain ⟨h2, hs⟩ := argL KX ar hu ho
    exact .lst hs (dw_all KX ar ds _ hall p h2)
  | .tuple ds, _, x, p, hu => by
    obtain ⟨a, vs, rfl, ho, hall⟩ := well_tuple x
    obtain ⟨h2, hs⟩ := argT KX ar hu ho
    exact .tup hs (dw_all KX ar ds _ hall p h2)
  | .float _, _, _, p, _ => Bool.noConfusion (show false = true from p)
  | .dict _, _, _, p, _ => Bool.noConfusion (show false = true from p)
  | .bytearray _, _, _, p, _ => Bool.noConfusion (show false = true from p)
  | .set _, _, _, p, _ => Bool.noConfusion (show false = true from p)
  | .frozenset _, _, _, p, _ => Bool.noConfusion (show false = true from p)
  | .obj _ _, _, _, p, _ => Bool.noConfusion (show false = true from p)
theorem dw_all {Pm : Params} (KX : K.In h) (ar : ∀ a ∈ A, ArgOb h A a) : ∀ (ds : List WData) (vs : List Value), WellAll Pm h vs ds → plWs ds = true → (∀ u ∈ vs, OkU A u) → DwAll K (argH K h A) (vs.map toV) ds
  | [], _, x, _, _ => by
    cases x
    exact .nil
  | d :: ds, _, x, p, hu => by
    obtain ⟨v, vs, rfl, x1, x2⟩ := well_cons x
    have q : plW d = true ∧ plWs ds = true := Bool.and_eq_true_iff.mp p
    exact .cons (dw_one KX ar d v x1 q.1 (hu _ (List.mem_cons_self ..))) (dw_all KX ar ds vs x2 q.2 fun u m => hu u (List.mem_cons_of_mem _ m))
end
end
/-! ### the call -/
theorem spec_call {P : Program} {w : World} {K : PySem.W.Frag} {mg mb : Str → Option Value} {CX : CXT} {k : Nat} {fa : Addr} {fd : FuncData} {ps : List Str} {sp : Sp} {s₁ : Shared} {vals : List Value} {ds : List WData} {R : PySem.W.WRecords} {cl : Str → Option Addr} {d0 : WData}
    (KX : K.In s₁.heap) (hns : s₁.heap.Ns mainGlobals mg) (hb : s₁.heap.Ns builtinsNs mb) (hbb : ∀ x : Str, x ≠ "__name__" → mb x = bootBuiltins x) (hlim : s₁.heap.NoLimit) (hg : s₁.gens = #[])
    (hwl : WellAll w.params s₁.heap vals ds) (hpl : plWs ds = true) (hwt : ∀ d ∈ ds, d.weight ≤ 1048576) (hr : Room k callerA)
    (F : ∀ base : Heap, K.In base → base.Ns mainGlobals mg → FnOk P w K mg base CX k fa fd ps sp) (hbind : ∀ (s : Shared) (us : List Value), us.length = ps.length → BindsTo s fd ⟨us, []⟩ (ps.zip us)) (hlen : ds.length = ps.length)
    (hsp : ∀ (H : Hp) (xs : List V), OnlyF H → DwAll K H xs ds → sp xs H (fun v H' => Dw K H' v d0) fun _ _ _ => False)
    (hCX : ∀ H e s', CX [] H s₁ (fun _ _ _ => False) e s' → False) :
    codeAny (model P w) callerA (.call (.ref fa) ⟨vals, []⟩) (fun r s' => ∃ u as, r = .ok (.ret u) ∧ ReadsW R cl s'.heap u d0 as ∧ OldK s₁.heap s'.heap ∧ s'.os = s₁.os ∧ AllBare s'.gens) s₁ := by
  obtain ⟨A, ho, ar⟩ := area_all ds vals hwl hpl hwt
  have hO : OnlyF (argH K s₁.heap A) := argH_only ar
  have hok : HOk P w (argH K s₁.heap A) s₁.heap := argH_ok ar
  have hS := dw_all KX ar ds vals hwl hpl ho
  have hV := vals_toV ho
  have hK : ∀ b u, argH K s₁.heap A b = some u → K.lookup b = none := fun b u q => (argH_is ar q).1
  have noA : ∀ {b : Addr} {o : Obj} {es : Array DictEntry} {ep : Nat}, s₁.heap.get? b = some o → o.data = .dict es ep → argH K s₁.heap A b = none := fun {b o es ep} e d => by
    cases q : argH K s₁.heap A b with
    | none => rfl
    | some u =>
      obtain ⟨_, vs, _, _, ⟨e2, _⟩ | ⟨e2, _⟩⟩ := argH_is ar q
      · rw [e2] at e
        cases e
        have d' : Data.seq vs.toArray _ = Data.dict es ep := d
        cases d'
      · rw [e2] at e
        cases e
        have d' : Data.seq vs.toArray _ = Data.dict es ep := d
        cases d'
  generalize argH K s₁.heap A = H at hO hok hS hK noA
  have base_of : ∀ {b : Addr} {o : Obj}, s₁.heap.get? b = some o → H b = none → (hidT s₁.heap H).get? b = some o := fun e n => hidT_get e n
  have nsK : ∀ {b : Addr} {m : Str → Option Value}, s₁.heap.Ns b m → (hidT s₁.heap H).Ns b m := fun {b m} ⟨o, es, ep, e, d, r⟩ => ⟨o, es, ep, base_of e (noA e d), d, r⟩
  have nK : ∀ b o, K.lookup b = some o → H b = none := fun b o e => by
    cases q : H b with
    | none => rfl
    | some u =>
      rw [hK b u q] at e
      cases e
  have hKb : K.In (hidT s₁.heap H) := fun b o e => base_of (KX b o e) (nK b o e)
  have hM : Mod K mg (hidT s₁.heap H) := ⟨hKb, nsK hns, ⟨mb, nsK hb, hbb⟩, let ⟨mc, h1, h2⟩ := hlim; ⟨mc, nsK h1, h2⟩⟩
  have e0 : Env0 P w K mg (hidT s₁.heap H) callerA [] s₁ H := ⟨rfl, hM, fun b o e => of_hidT e, Nat.le_of_eq (hidT_size _ _), trivial, fun b hb => absurd (show b ∈ ([] : List Addr) from hb) (by simp), hok, .of_eq hg⟩
  have hl : vals.length = ps.length := by rw [wellAll_len hwl]; exact hlen
  refine codeAny_mono ((F _ hKb (nsK hns)).run callerA [] s₁ H ⟨vals, []⟩ vals (vals.map toV) _ _ hr e0 (hbind s₁ vals hl) hV (hsp H _ hO hS)) fun r s' x => ?_
  cases r with
  | error e => exact (hCX H e s' x).elim
  | ok fl =>
    cases fl with
    | next => exact False.elim x
    | brk => exact False.elim x
    | cont => exact False.elim x
    | ret u =>
      obtain ⟨v, H', os, bare, un, hok', r', q⟩ := x
      have kept : ∀ b o, s₁.heap.get? b = some o → s'.heap.get? b = some o := fun b o e => by
        cases q2 : H b with
        | none => exact un.keep b o e q2 (by intro z; exact absurd (show b ∈ ([] : List Addr) from z) (by simp)) (by simp)
        | some u2 =>
          rcases hO b with z | ⟨ob, u3, z⟩
          · rw [q2] at z
            cases z
          · have z2 := un.frzs b ob _ z
            obtain ⟨e1, _⟩ := hok b _ z
            obtain ⟨e2, _⟩ := hok' b _ z2
            rw [e] at e1
            cases e1
            exact e2
      have KX' : K.In s'.heap := fun b o e => kept b o (KX b o e)
      obtain ⟨as, hrd⟩ := Dw.reads (R := R) (cl := cl) hok' KX' d0 v u q r'
      exact ⟨u, as, rfl, hrd, OldK.of_keep kept, os, bare⟩
/-! ### the row -/
theorem layable_weight {ds : List WData} (h : WData.layableAll ds = true) : ∀ d ∈ ds, d.weight ≤ 1048576 := fun d hd =>
  (PySem.W.layableW_iff.mp (List.all_eq_true.mp h d hd)).2.2
theorem encAll_len : ∀ (cs : List Codec) (a : Codec.denoteAll cs), (Codec.encAll cs a).length = cs.length
  | [], _ => rfl
  | c :: cs, a => by
    show (Codec.encAll cs a.2).length + 1 = cs.length + 1
    rw [encAll_len cs a.2]
/-- the goal that k_headS leaves (case hc), from the promise of the row's def: whatever the arguments that the codecs let and the row asks for, the def gives what stands for enc (f ..) -/
theorem walk_spec {r : OpenSpec} {k : Nat} {q : Program} {loose : List Str} {XP : (Str → Option Value) → Heap → Prop} {YP : World → Heap → Prop} {d : DefRec} {K : Params → PySem.W.Frag} {CX : World → CXT} {ps : List Str} {sp : World → Sp}
    (hwell : r.wellSaid = true) (hdf : d.params.defaults = []) (hlen : r.args.length = ps.length) (hr : Room k callerA)
    (hY : ∀ (w : World) (h : Heap), YP w h → (K w.params).In h)
    (F : ∀ (w : World) (mg : Str → Option Value) (fa : Addr) (h : Heap), YP w h → (K w.params).In h → h.Ns mainGlobals mg → mg d.name = some (.ref fa) →
      ∃ fd : FuncData, (∀ (s : Shared) (us : List Value), us.length = ps.length → BindsTo s fd ⟨us, []⟩ (ps.zip us)) ∧
        ∀ base : Heap, (K w.params).In base → base.Ns mainGlobals mg → FnOk r.prog w (K w.params) mg base (CX w) k fa fd ps (sp w))
    (hsp : ∀ (w : World) (H : Hp) (xs : List V) (a : Codec.denoteAll r.args), OnlyF H → Codec.withinAll r.args a = true → Codec.app r.args r.asked a = true → DwAll (K w.params) H xs (Codec.encAll r.args a) →
      sp w xs H (fun v H' => Dw (K w.params) H' v (r.ret.enc (Codec.app r.args r.f a))) fun _ _ _ => False)
    (hCX : ∀ (w : World) (H : Hp) (s : Shared) (e : Value) (s' : Shared), CX w [] H s (fun _ _ _ => False) e s' → False) :
    PySem.W.WalkOS q loose XP YP r d [] (fun f vs => PySem.call f vs) := by
  intro w s_0 s₁ mg mb G Y fa o pm cd doc dV kV ho hd hcd hD hmg hg args vals as hpre hlay hrd hwl hlo
  obtain ⟨a, e1, e2⟩ := PySem.W.os_pre_some hpre
  obtain ⟨e3, hwi⟩ := Codec.encAll_of_decAll r.args args a e1
  subst e3
  have KX := hY w _ Y
  obtain ⟨fd, hb, hF⟩ := F w mg fa _ Y KX G.T.g hmg
  refine PySem.W.enter_call (codeAny_mono (spec_call (R := []) (cl := classAt s_0.heap) (d0 := r.ret.enc (Codec.app r.args r.f a)) KX G.T.g G.T.b G.T.builtins G.T.nolimit hg hwl (pl_encAll _ _) (layable_weight hlay) hr hF hb (by rw [encAll_len]; exact hlen)
    (fun H xs hO hS => hsp w H xs a hO hwi e2 hS) fun H e s' => hCX w H s₁ e s') fun r' s' hq => ?_)
  obtain ⟨u, as', rfl, h1, h2, h3, h4⟩ := hq
  exact ⟨.inl ⟨u, _, as', rfl, fun _ => rfl, h1, (OpenSpec.post_iff hwell hwi _ _).mpr rfl, fun z => Bool.noConfusion (show false = true from z)⟩, h2, h3, h4⟩
/-- the same where the promise hangs on the written part alone -/
theorem walk_specK {r : OpenSpec} {k : Nat} {q : Program} {loose : List Str} {XP : (Str → Option Value) → Heap → Prop} {YP : World → Heap → Prop} {d : DefRec} {K : Params → PySem.W.Frag} {CX : CXT} {ps : List Str} {sp : PySem.W.Frag → Sp}
    (hwell : r.wellSaid = true) (hdf : d.params.defaults = []) (hlen : r.args.length = ps.length) (hr : Room k callerA)
    (hY : ∀ (w : World) (h : Heap), YP w h → (K w.params).In h)
    (F : ∀ (w : World) (mg : Str → Option Value) (fa : Addr) (h : Heap), YP w h → (K w.params).In h → h.Ns mainGlobals mg → mg d.name = some (.ref fa) →
      ∃ fd : FuncData, (∀ (s : Shared) (us : List Value), us.length = ps.length → BindsTo s fd ⟨us, []⟩ (ps.zip us)) ∧
        ∀ base : Heap, (K w.params).In base → base.Ns mainGlobals mg → FnOk r.prog w (K w.params) mg base CX k fa fd ps (sp (K w.params)))
    (hsp : ∀ (K : PySem.W.Frag) (H : Hp) (xs : List V) (a : Codec.denoteAll r.args), OnlyF H → Codec.withinAll r.args a = true → Codec.app r.args r.asked a = true → DwAll K H xs (Codec.encAll r.args a) →
      sp K xs H (fun v H' => Dw K H' v (r.ret.enc (Codec.app r.args r.f a))) fun _ _ _ => False)
    (hCX : ∀ (H : Hp) (s : Shared) (e : Value) (s' : Shared), CX [] H s (fun _ _ _ => False) e s' → False) :
    PySem.W.WalkOS q loose XP YP r d [] (fun f vs => PySem.call f vs) :=
  walk_spec (K := K) (CX := fun _ => CX) (sp := fun w => sp (K w.params)) hwell hdf hlen hr hY F (fun w H xs a h1 h2 h3 h4 => hsp (K w.params) H xs a h1 h2 h3 h4) fun _ H s e s' => hCX H s e s'
end L2
-- rests on (row put in by the clerk, for the bench that shows a file only what it spells): KE.SpHead KE.OsShapes
end
set_option Elab.async false
set_option linter.all false
set_option maxRecDepth 100000
set_option maxHeartbeats 2000000
/-! The mathematics of the specification alone. -/
namespace B
open Vbdlae (Cell Cfg Tot VOL)
abbrev VSt := Vbdlae.St
/-- what lay's ranges say of the settings -/
structure CfgOk (g : Cfg) : Prop where
  n8 : 8 ≤ g.n
  n64 : g.n ≤ 64
  dz : 1 ≤ g.dz
  ch : g.dz < g.ch
  dt : g.ch < g.dt
  dn : g.dt < g.n
  w1 : 1 ≤ g.w
  w32 : g.w ≤ 32
  k : g.k ≤ 1000
/-- what holds of every state with a line laid -/
structure Ok (s : VSt) (g : Cfg) : Prop extends CfgOk g where
  cfg : s.cfg = some g
  len : s.line.length = g.n
  lt8 : s.latch.length = 8
  win : s.win.length ≤ 32
  hem : s.hem ≤ 1000
  trap : s.trapped ≤ g.room
  lays : s.tot.lays ≤ 1000000
/-- what holds of every state -/
structure Gd (s : VSt) : Prop where
  lt8 : s.latch.length = 8
  win : s.win.length ≤ 32
  hem : s.hem ≤ 1000
  lays : s.tot.lays ≤ 1000000
  l64 : s.line.length ≤ 64
  cfg : ∀ g, s.cfg = some g → CfgOk g ∧ s.line.length = g.n ∧ s.trapped ≤ g.room
theorem Gd.ok {s : VSt} {g : Cfg} (h : Gd s) (e : s.cfg = some g) : Ok s g :=
  let ⟨a, b, c⟩ := h.cfg g e
  { a with cfg := e, len := b, lt8 := h.lt8, win := h.win, hem := h.hem, trap := c, lays := h.lays }
theorem Ok.gd {s : VSt} {g : Cfg} (o : Ok s g) : Gd s :=
  { lt8 := o.lt8, win := o.win, hem := o.hem, lays := o.lays, l64 := by have := o.len; have := o.n64; omega,
    cfg := fun g' e => by
      have : g' = g := Option.some.inj (e.symm.trans o.cfg)
      subst this
      exact ⟨o.toCfgOk, o.len, o.trap⟩ }
theorem gd_start : Gd Vbdlae.start := ⟨rfl, Nat.zero_le _, Nat.zero_le _, Nat.zero_le _, Nat.zero_le _, fun g e => by cases e⟩
/-! ### a move, step by step -/
def arrived (s : VSt) : VSt := { Vbdlae.outgoing (Vbdlae.incoming s).2 with line := Vbdlae.shift (Vbdlae.incoming s).1 (Vbdlae.outgoing (Vbdlae.incoming s).2).line }
def dialysed (g : Cfg) (s : VSt) : VSt := { s with line := s.line.set g.dz (Vbdlae.dry s.ultra (s.line.getD g.dz {})), tot := { s.tot with taken := s.tot.taken + min s.ultra (s.line.getD g.dz {}).water } }
def trapped (g : Cfg) (s : VSt) : VSt := { s with line := s.line.set g.ch (Vbdlae.freed (g.room - s.trapped) (s.line.getD g.ch {})), trapped := s.trapped + min (g.room - s.trapped) (s.line.getD g.ch {}).air }
def remembered (r : Nat) (g : Cfg) (s : VSt) : VSt := { s with win := (r :: s.win).take g.w }
def judged (g : Cfg) (s : VSt) : VSt := if Vbdlae.good g.t g.s s.win = true then { s with clean := min (g.n - g.dt) (s.clean + 1) } else ({ s with clean := 0 } : VSt).raise 0 true
def setUnlike (a b : Nat) (g : Cfg) (s : VSt) : VSt := { s with unlike := if g.d < Vbdlae.apart a b then min 2 (s.unlike + 1) else 0 }
def compared (a b : Nat) (g : Cfg) (s : VSt) : VSt := (setUnlike a b g s).raise 1 (decide ((setUnlike a b g s).unlike = 2))
def thickened (g : Cfg) (s : VSt) : VSt := s.raise 5 (Vbdlae.thick g (s.line.getD g.dz {}))
def setUnc (s : VSt) : VSt := { s with unc := min 10 (s.unc + 1) }
def centred (g : Cfg) (s : VSt) : VSt := if s.sink = 1 ∧ s.centre = none then (setUnc s).raise 6 (decide ((setUnc s).unc = 10)) else s
def ended (s : VSt) : VSt := { s with still := 0, tot := { s.tot with moves := s.tot.moves + 1 } }
theorem work_eq {g : Cfg} {s : VSt} (h : g.dz ≠ g.ch) : Vbdlae.work g s = trapped g (dialysed g s) := by
  unfold Vbdlae.work trapped dialysed
  dsimp only
  have e : (s.line.set g.dz (Vbdlae.dry s.ultra (s.line.getD g.dz {}))).getD g.ch {} = s.line.getD g.ch {} := by
    rw [List.getD_eq_getElem?_getD (l := s.line.set _ _), List.getElem?_set_ne h, ← List.getD_eq_getElem?_getD]
  rw [e]
theorem raise_eq (s : VSt) (b : Nat) (y : Bool) : s.raise b y = { s with latch := if y = true then s.latch.set b true else s.latch } := by
  cases y <;> rfl
theorem judged_eq (g : Cfg) (s : VSt) : judged g s = { s with clean := if Vbdlae.good g.t g.s s.win = true then min (g.n - g.dt) (s.clean + 1) else 0, latch := if (!Vbdlae.good g.t g.s s.win) = true then s.latch.set 0 true else s.latch } := by
  unfold judged
  cases Vbdlae.good g.t g.s s.win <;> rfl
theorem centred_eq (g : Cfg) (s : VSt) : centred g s = { s with unc := if s.sink = 1 ∧ s.centre = none then min 10 (s.unc + 1) else s.unc, latch := if decide (s.sink = 1 ∧ s.centre = none ∧ (if s.sink = 1 ∧ s.centre = none then min 10 (s.unc + 1) else s.unc) = 10) = true then s.latch.set 6 true else s.latch } := by
  unfold centred
  rw [raise_eq]
  by_cases h : s.sink = 1 ∧ s.centre = none
  · have e : (s.sink = 1 ∧ s.centre = none ∧ min 10 (s.unc + 1) = 10) = (min 10 (s.unc + 1) = 10) := propext ⟨fun q => q.2.2, fun q => ⟨h.1, h.2, q⟩⟩
    rw [if_pos h, if_pos h]
    simp only [e]
    rfl
  · have e : (s.sink = 1 ∧ s.centre = none ∧ s.unc = 10) = False := eq_false fun q => h ⟨q.1, q.2.1⟩
    rw [if_neg h, if_neg h]
    simp only [e, decide_false]
    rfl
theorem watch_eq {g : Cfg} {s : VSt} : Vbdlae.watch g s = ended (centred g (thickened g (compared (Vbdlae.reads s.stuckA (s.line.getD g.dt {})) (Vbdlae.reads s.stuckB (s.line.getD g.dt {})) g (judged g
    (remembered (max (Vbdlae.reads s.stuckA (s.line.getD g.dt {})) (Vbdlae.reads s.stuckB (s.line.getD g.dt {}))) g s))))) := by
  unfold Vbdlae.watch thickened compared
  rw [judged_eq, centred_eq]
  simp only [raise_eq]
  rfl
theorem moveOne_eq {g : Cfg} {s : VSt} (h : g.dz ≠ g.ch) : Vbdlae.moveOne g s = Vbdlae.watch g (trapped g (dialysed g (arrived s))) := by
  rw [← work_eq h]
  rfl
/-! ### what holds stays -/
section
variable {s : VSt} {g : Cfg}
theorem Ok.to {s' : VSt} (o : Ok s g) (h1 : s'.cfg = s.cfg := by rfl) (h2 : s'.line.length = s.line.length := by rfl) (h3 : s'.latch.length = s.latch.length := by rfl) (h4 : s'.win = s.win := by rfl) (h5 : s'.hem = s.hem := by rfl)
    (h6 : s'.trapped = s.trapped := by rfl) (h7 : s'.tot.lays = s.tot.lays := by rfl) : Ok s' g :=
  { toCfgOk := o.toCfgOk, cfg := h1.trans o.cfg, len := h2.trans o.len, lt8 := h3.trans o.lt8, win := by rw [h4]; exact o.win, hem := by rw [h5]; exact o.hem, trap := by rw [h6]; exact o.trap, lays := by rw [h7]; exact o.lays }
theorem Ok.raise (o : Ok s g) (b : Nat) (y : Bool) : Ok (s.raise b y) g := by
  rw [raise_eq]
  refine o.to (h3 := ?_)
  cases y
  · rfl
  · exact List.length_set
theorem Ok.lower (o : Ok s g) (b : Nat) : Ok (s.lower b) g := o.to (h3 := List.length_set)
theorem Ok.dialysed (o : Ok s g) : Ok (dialysed g s) g := o.to (h2 := List.length_set)
theorem Ok.trapped (o : Ok s g) : Ok (trapped g s) g :=
  { toCfgOk := o.toCfgOk, cfg := o.cfg, len := List.length_set.trans o.len, lt8 := o.lt8, win := o.win, hem := o.hem, trap := (by show s.trapped + min (g.room - s.trapped) _ ≤ g.room; have := o.trap; omega), lays := o.lays }
theorem Ok.remembered (o : Ok s g) (r : Nat) : Ok (remembered r g s) g :=
  { toCfgOk := o.toCfgOk, cfg := o.cfg, len := o.len, lt8 := o.lt8, win := (by show ((r :: s.win).take g.w).length ≤ 32; rw [List.length_take]; have := o.w32; omega), hem := o.hem, trap := o.trap, lays := o.lays }
theorem Ok.judged (o : Ok s g) : Ok (judged g s) g := by
  rw [judged_eq]
  refine o.to (h3 := ?_)
  dsimp only
  split
  · exact List.length_set
  · rfl
theorem Ok.setUnlike (o : Ok s g) (a b : Nat) : Ok (setUnlike a b g s) g := o.to
theorem Ok.compared (o : Ok s g) (a b : Nat) : Ok (compared a b g s) g := (o.setUnlike a b).raise _ _
theorem Ok.thickened (o : Ok s g) : Ok (thickened g s) g := o.raise _ _
theorem Ok.setUnc (o : Ok s g) : Ok (setUnc s) g := o.to
theorem Ok.centred (o : Ok s g) : Ok (centred g s) g := by
  unfold B.centred
  split
  · exact o.setUnc.raise _ _
  · exact o
theorem Ok.ended (o : Ok s g) : Ok (ended s) g := o.to
theorem inc_line (s : VSt) : (Vbdlae.incoming s).2.line = s.line := by
  unfold Vbdlae.incoming
  split
  · rfl
  · split
    · rfl
    · split <;> rfl
theorem Ok.incoming (o : Ok s g) : Ok (Vbdlae.incoming s).2 g := by
  unfold Vbdlae.incoming
  split
  · exact o
  · split
    · exact o.to
    · split <;> exact o.to
theorem out_line (s : VSt) : (Vbdlae.outgoing s).line = s.line := by
  unfold Vbdlae.outgoing
  dsimp only
  split
  · rfl
  · split
    · split <;> rfl
    · rfl
theorem Ok.outgoing (o : Ok s g) : Ok (Vbdlae.outgoing s) g := by
  unfold Vbdlae.outgoing
  dsimp only
  split
  · exact o.to
  · split
    · split <;> exact o.to
    · exact o
theorem Ok.arrived (o : Ok s g) : Ok (arrived s) g :=
  o.incoming.outgoing.to (h2 := by
    show (_ :: (Vbdlae.outgoing (Vbdlae.incoming s).2).line.dropLast).length = _
    rw [List.length_cons, List.length_dropLast, o.incoming.outgoing.len]
    have := o.n8
    omega)
theorem Ok.dc (o : Ok s g) : g.dz ≠ g.ch := by have := o.ch; omega
theorem Ok.moveOne (o : Ok s g) : Ok (Vbdlae.moveOne g s) g := by
  rw [moveOne_eq o.dc, watch_eq]
  exact ((((o.arrived.dialysed.trapped.remembered _).judged.compared _ _).thickened).centred).ended
end
end B
set_option Elab.async false
set_option linter.all false
set_option maxRecDepth 100000
set_option maxHeartbeats 2000000
namespace B
open Vbdlae (Cell Cfg Tot VOL)
/-! ### many moves -/
section
variable {s : VSt} {g : Cfg}
theorem out_sink (s : VSt) : (Vbdlae.outgoing s).sink = s.sink := by
  unfold Vbdlae.outgoing
  dsimp only
  split
  · rfl
  · split
    · split <;> rfl
    · rfl
theorem inc_sink (s : VSt) : (Vbdlae.incoming s).2.sink = s.sink := by
  unfold Vbdlae.incoming
  split
  · rfl
  · split
    · rfl
    · split <;> rfl
theorem raise_sink (s : VSt) (b : Nat) (y : Bool) : (s.raise b y).sink = s.sink := by rw [raise_eq]
theorem move_sink (s : VSt) : (Vbdlae.moveOne g s).sink = s.sink := by
  show (Vbdlae.watch g (Vbdlae.work g (arrived s))).sink = s.sink
  unfold Vbdlae.watch
  dsimp only
  rw [raise_sink, raise_sink, raise_sink, raise_sink]
  show (arrived s).sink = s.sink
  show (Vbdlae.outgoing (Vbdlae.incoming s).2).sink = s.sink
  rw [out_sink, inc_sink]
/-- i moves are done, the airs are l; so many are left -/
structure Going (g : Cfg) (k : Nat) (s0 s : VSt) (l : List Nat) : Prop where
  le : l.length ≤ k
  sink : s.sink = s0.sink
  eq : Vbdlae.moveMany g k s0 = ((Vbdlae.moveMany g (k - l.length) s).1, (if s0.sink = 1 then l else []) ++ (Vbdlae.moveMany g (k - l.length) s).2.1, l.length + (Vbdlae.moveMany g (k - l.length) s).2.2)
theorem Going.start (g : Cfg) (k : Nat) (s : VSt) : Going g k s s [] := by
  refine ⟨Nat.zero_le _, rfl, ?_⟩
  show Vbdlae.moveMany g k s = ((Vbdlae.moveMany g k s).1, (if s.sink = 1 then [] else []) ++ (Vbdlae.moveMany g k s).2.1, 0 + (Vbdlae.moveMany g k s).2.2)
  rw [ite_self, List.nil_append, Nat.zero_add]
theorem Going.turn {k : Nat} {s0 s : VSt} {l : List Nat} (h : Going g k s0 s l) (hl : l.length < k) (hn : ¬ (s.sink = 1 ∧ s.latched = true)) : Going g k s0 (Vbdlae.moveOne g s) (l ++ [(Vbdlae.lastOf s.line).air]) := by
  refine ⟨by rw [List.length_append]; exact hl, (move_sink s).trans h.sink, ?_⟩
  obtain ⟨j, hj⟩ : ∃ j, k - l.length = j + 1 := ⟨k - l.length - 1, by omega⟩
  have e2 : k - (l ++ [(Vbdlae.lastOf s.line).air]).length = j := by rw [List.length_append]; simp only [List.length_cons, List.length_nil]; omega
  have e := h.eq
  rw [hj] at e
  rw [e2, e]
  have eu : Vbdlae.moveMany g (j + 1) s = ((Vbdlae.moveMany g j (Vbdlae.moveOne g s)).1, (if s.sink = 1 then [(Vbdlae.lastOf s.line).air] else []) ++ (Vbdlae.moveMany g j (Vbdlae.moveOne g s)).2.1, (Vbdlae.moveMany g j (Vbdlae.moveOne g s)).2.2 + 1) := by
    show (if s.sink = 1 ∧ s.latched = true then _ else _) = _
    rw [if_neg hn]
  rw [eu]
  have es := h.sink
  refine Prod.ext rfl (Prod.ext ?_ ?_)
  · show (if s0.sink = 1 then l else []) ++ ((if s.sink = 1 then [(Vbdlae.lastOf s.line).air] else []) ++ _) = (if s0.sink = 1 then l ++ [(Vbdlae.lastOf s.line).air] else []) ++ _
    rw [es]
    by_cases h1 : s0.sink = 1
    · rw [if_pos h1, if_pos h1, if_pos h1, List.append_assoc]
    · rw [if_neg h1, if_neg h1, if_neg h1]
      rfl
  · show l.length + (_ + 1) = (l ++ [(Vbdlae.lastOf s.line).air]).length + _
    rw [List.length_append]
    show l.length + (_ + 1) = l.length + 1 + _
    omega
theorem Going.done {k : Nat} {s0 s : VSt} {l : List Nat} (h : Going g k s0 s l) (hn : ¬ l.length < k ∨ (s.sink = 1 ∧ s.latched = true)) : Vbdlae.moveMany g k s0 = (s, if s0.sink = 1 then l else [], l.length) := by
  have e := h.eq
  have eu : Vbdlae.moveMany g (k - l.length) s = (s, [], 0) := by
    cases hk : k - l.length with
    | zero => rfl
    | succ j =>
      rcases hn with q | q
      · omega
      · show (if s.sink = 1 ∧ s.latched = true then _ else _) = _
        rw [if_pos q]
  rw [eu] at e
  rw [e, List.append_nil]
  rfl
theorem Ok.moveMany : ∀ (k : Nat) {s : VSt}, Ok s g → Ok (Vbdlae.moveMany g k s).1 g
  | 0, s, o => o
  | k + 1, s, o => by
    show Ok (if s.sink = 1 ∧ s.latched = true then (s, ([] : List Nat), 0) else _).1 g
    split
    · exact o
    · exact Ok.moveMany k o.moveOne
theorem many_len (g : Cfg) : ∀ (k : Nat) (s : VSt), (Vbdlae.moveMany g k s).2.1.length ≤ k
  | 0, s => Nat.le_refl _
  | k + 1, s => by
    show (if s.sink = 1 ∧ s.latched = true then (s, ([] : List Nat), 0) else _).2.1.length ≤ k + 1
    split
    · exact Nat.zero_le _
    · show ((if s.sink = 1 then [(Vbdlae.lastOf s.line).air] else []) ++ (Vbdlae.moveMany g k (Vbdlae.moveOne g s)).2.1).length ≤ k + 1
      have := many_len g k (Vbdlae.moveOne g s)
      rw [List.length_append]
      split
      · simp only [List.length_cons, List.length_nil]; omega
      · simp only [List.length_nil]; omega
end
/-! ### the ranges -/
def lims (p : Int) : List (Int × Int) :=
  if p = 0 then [(8, 64), (1, 63), (1, 63), (1, 63), (1, 32), (1, 1000), (1, 32000), (0, 1000), (0, 1000000), (1, 1000), (1, 1000000), (1, 1000), (1, 3600)]
  else if p = 1 then [(0, 2), (0, 1000)] else if p = 2 then [(0, 5000000)] else if p = 3 then [(0, 2)] else if p = 4 then [(0, 500)] else if p = 5 then [(1, 100)] else if p = 6 then [(1, 3600)]
  else if p = 7 then [(-1000, 1000), (-1000, 1000)] else if p = 8 then [] else if p = 9 then [(0, 1000000)] else if p = 10 then [(0, 1), (0, 1), (0, 1000)] else if p = 11 then [(0, 1), (0, 1)]
  else if p = 14 then [(0, 7)] else if p = 16 then [(0, 63)] else []
def bad1 (a : Int) (l : Int × Int) : Bool := decide (a < l.1) || decide (a > l.2)
def allIn : List Int → List (Int × Int) → Bool
  | a :: r, l :: m => !bad1 a l && allIn r m
  | _, _ => true
def inOrder (l : List Int) : Bool := match l with
  | n :: dz :: ch :: dt :: _ => decide (dz < ch) && (decide (ch < dt) && decide (dt < n))
  | _ => false
/-- how many numbers a place has -/
def nOf (p : Int) : Nat := (lims p).length
theorem shape_is {p : Int} {n k : Nat} (h : PyVbdlae.shape p = some (n, k)) : 0 ≤ p ∧ p ≤ 17 ∧ n = nOf p ∧ k = 0 := by
  have hp : 0 ≤ p ∧ p ≤ 17 := by
    refine Classical.byContradiction fun hno => ?_
    unfold PyVbdlae.shape at h
    repeat rw [if_neg (by omega)] at h
    cases h
  obtain ⟨q, rfl⟩ : ∃ q : Nat, p = (q : Int) := ⟨p.toNat, by omega⟩
  have hq : q < 18 := by omega
  refine ⟨hp.1, hp.2, ?_⟩
  match q, hq, h with
  | 0, _, h | 1, _, h | 2, _, h | 3, _, h | 4, _, h | 5, _, h | 6, _, h | 7, _, h | 8, _, h | 9, _, h | 10, _, h | 11, _, h | 12, _, h | 13, _, h | 14, _, h | 15, _, h | 16, _, h | 17, _, h => cases h; exact ⟨rfl, rfl⟩
  | q + 18, hq, _ => omega
theorem inR_eq (x lo hi : Int) : Vbdlae.inR x lo hi = !bad1 x (lo, hi) := by
  unfold Vbdlae.inR bad1
  by_cases h1 : lo ≤ x <;> by_cases h2 : x ≤ hi <;> simp [h1, h2] <;> omega
theorem len0 {α : Type} : ∀ {l : List α}, l.length = 0 → l = []
  | [], _ => rfl
theorem len1 {α : Type} : ∀ {l : List α}, l.length = 1 → ∃ a, l = [a]
  | [a], _ => ⟨a, rfl⟩
theorem len2 {α : Type} : ∀ {l : List α}, l.length = 2 → ∃ a b, l = [a, b]
  | [a, b], _ => ⟨a, b, rfl⟩
theorem len3 {α : Type} : ∀ {l : List α}, l.length = 3 → ∃ a b c, l = [a, b, c]
  | [a, b, c], _ => ⟨a, b, c, rfl⟩
theorem len13 {α : Type} : ∀ {l : List α}, l.length = 13 → ∃ a b c d e f g h i j k m n, l = [a, b, c, d, e, f, g, h, i, j, k, m, n]
  | [a, b, c, d, e, f, g, h, i, j, k, m, n], _ => ⟨a, b, c, d, e, f, g, h, i, j, k, m, n, rfl⟩
theorem bad_iff (a lo hi : Int) : (!bad1 a (lo, hi)) = true ↔ lo ≤ a ∧ a ≤ hi := by
  rw [← inR_eq]
  unfold Vbdlae.inR
  rw [Bool.and_eq_true, decide_eq_true_iff, decide_eq_true_iff]
/-- the range of a call, as the program looks it up -/
def rangeOk (p : Int) (args : List Int) : Bool := allIn args (lims p) && (!decide (p = 0) || inOrder args)
theorem ranged_lay (n dz ch dt w t q d room k leak p z : Int) : Vbdlae.ranged (.lay n dz ch dt w t q d room k leak p z) = rangeOk 0 [n, dz, ch, dt, w, t, q, d, room, k, leak, p, z] := by
  show (_ && _) = (((!bad1 n (8, 64)) && ((!bad1 dz (1, 63)) && ((!bad1 ch (1, 63)) && ((!bad1 dt (1, 63)) && ((!bad1 w (1, 32)) && ((!bad1 t (1, 1000)) && ((!bad1 q (1, 32000)) && ((!bad1 d (0, 1000)) && ((!bad1 room (0, 1000000)) && ((!bad1 k (1, 1000)) &&
    ((!bad1 leak (1, 1000000)) && ((!bad1 p (1, 1000)) && ((!bad1 z (1, 3600)) && true))))))))))))) && (false || (decide (dz < ch) && (decide (ch < dt) && decide (dt < n)))))
  simp only [inR_eq]
  rw [Bool.eq_iff_iff]
  simp only [Bool.and_eq_true, bad_iff, Bool.false_or, decide_eq_true_iff]
  constructor
  · intro h
    refine ⟨?_, ?_⟩
    · refine ⟨?_, ?_, ?_, ?_, ?_, ?_, ?_, ?_, ?_, ?_, ?_, ?_, ?_, trivial⟩ <;> omega
    · omega
  · intro h
    obtain ⟨⟨h1, h2, h3, h4, h5, h6, h7, h8, h9, h10, h11, h12, h13, _⟩, h14⟩ := h
    omega
/-- whether a call is lay -/
def isLay : Vbdlae.Call → Bool
  | .lay .. => true
  | _ => false
theorem range_decode3 {p : Int} {args : List Int} (h0 : 0 ≤ p) (h17 : p ≤ 17) (hl : args.length = nOf p) : ∃ x, Vbdlae.decode (p :: args) = some x ∧ Vbdlae.ranged x = rangeOk p args ∧ (isLay x = true → p = 0) ∧ PyVbdlae.whole [p :: args] = [p :: args] := by
  obtain ⟨q, rfl⟩ : ∃ q : Nat, p = (q : Int) := ⟨p.toNat, by omega⟩
  have hq : q < 18 := by omega
  have one : ∀ (x lo hi : Int), Vbdlae.inR x lo hi = ((!bad1 x (lo, hi) && true) && true) := fun x lo hi => by rw [inR_eq, Bool.and_true, Bool.and_true]
  match q, hq, hl with
  | 0, _, hl => obtain ⟨a, b, c, d, e, f, g, h, i, j, k, m, n, rfl⟩ := len13 hl; exact ⟨_, rfl, ranged_lay .., fun _ => rfl, rfl⟩
  | 1, _, hl => obtain ⟨a, b, rfl⟩ := len2 hl; exact ⟨_, rfl, (by show (_ && _) = ((!bad1 a (0, 2) && (!bad1 b (0, 1000) && true)) && true); rw [inR_eq, inR_eq, Bool.and_true, Bool.and_true]), fun z => (Bool.noConfusion z), rfl⟩
  | 2, _, hl => obtain ⟨a, rfl⟩ := len1 hl; exact ⟨_, rfl, one .., fun z => (Bool.noConfusion z), rfl⟩
  | 3, _, hl => obtain ⟨a, rfl⟩ := len1 hl; exact ⟨_, rfl, one .., fun z => (Bool.noConfusion z), rfl⟩
  | 4, _, hl => obtain ⟨a, rfl⟩ := len1 hl; exact ⟨_, rfl, one .., fun z => (Bool.noConfusion z), rfl⟩
  | 5, _, hl => obtain ⟨a, rfl⟩ := len1 hl; exact ⟨_, rfl, one .., fun z => (Bool.noConfusion z), rfl⟩
  | 6, _, hl => obtain ⟨a, rfl⟩ := len1 hl; exact ⟨_, rfl, one .., fun z => (Bool.noConfusion z), rfl⟩
  | 7, _, hl => obtain ⟨a, b, rfl⟩ := len2 hl; exact ⟨_, rfl, (by show (_ && _) = ((!bad1 a (-1000, 1000) && (!bad1 b (-1000, 1000) && true)) && true); rw [inR_eq, inR_eq, Bool.and_true, Bool.and_true]), fun z => (Bool.noConfusion z), rfl⟩
  | 8, _, hl => cases len0 hl; exact ⟨_, rfl, rfl, fun z => (Bool.noConfusion z), rfl⟩
  | 9, _, hl => obtain ⟨a, rfl⟩ := len1 hl; exact ⟨_, rfl, one .., fun z => (Bool.noConfusion z), rfl⟩
  | 10, _, hl => obtain ⟨a, b, c, rfl⟩ := len3 hl; exact ⟨_, rfl, (by show (_ && (_ && _)) = ((!bad1 a (0, 1) && (!bad1 b (0, 1) && (!bad1 c (0, 1000) && true))) && true); rw [inR_eq, inR_eq, inR_eq, Bool.and_true, Bool.and_true]), fun z => (Bool.noConfusion z), rfl⟩
  | 11, _, hl => obtain ⟨a, b, rfl⟩ := len2 hl; exact ⟨_, rfl, (by show (_ && _) = ((!bad1 a (0, 1) && (!bad1 b (0, 1) && true)) && true); rw [inR_eq, inR_eq, Bool.and_true, Bool.and_true]), fun z => (Bool.noConfusion z), rfl⟩
  | 12, _, hl => cases len0 hl; exact ⟨_, rfl, rfl, fun z => (Bool.noConfusion z), rfl⟩
  | 13, _, hl => cases len0 hl; exact ⟨_, rfl, rfl, fun z => (Bool.noConfusion z), rfl⟩
  | 14, _, hl => obtain ⟨a, rfl⟩ := len1 hl; exact ⟨_, rfl, one .., fun z => (Bool.noConfusion z), rfl⟩
  | 15, _, hl => cases len0 hl; exact ⟨_, rfl, rfl, fun z => (Bool.noConfusion z), rfl⟩
  | 16, _, hl => obtain ⟨a, rfl⟩ := len1 hl; exact ⟨_, rfl, one .., fun z => (Bool.noConfusion z), rfl⟩
  | 17, _, hl => cases len0 hl; exact ⟨_, rfl, rfl, fun z => (Bool.noConfusion z), rfl⟩
  | q + 18, hq, _ => omega
theorem range_decode {p : Int} {args : List Int} (h0 : 0 ≤ p) (h17 : p ≤ 17) (hl : args.length = nOf p) : ∃ x, Vbdlae.decode (p :: args) = some x ∧ Vbdlae.ranged x = rangeOk p args :=
  let ⟨x, a, b, _⟩ := range_decode3 h0 h17 hl
  ⟨x, a, b⟩
theorem does_refused {s : VSt} {p : Int} {args : List Int} (h0 : 0 ≤ p) (h17 : p ≤ 17) (hl : args.length = nOf p) (hr : rangeOk p args = false) : Vbdlae.does s (p :: args) = (s, [-1]) := by
  obtain ⟨x, e, r⟩ := range_decode h0 h17 hl
  unfold Vbdlae.does
  rw [e]
  show Vbdlae.step s x = _
  unfold Vbdlae.step
  rw [if_pos (r.trans hr)]
theorem does_unlaid {s : VSt} {p : Int} {args : List Int} (h0 : 0 < p) (h17 : p ≤ 17) (hl : args.length = nOf p) (hr : rangeOk p args = true) (hc : s.cfg = none) : Vbdlae.does s (p :: args) = (s, [-2]) := by
  obtain ⟨x, e, r, nl, _⟩ := range_decode3 (by omega) h17 hl
  unfold Vbdlae.does
  rw [e]
  show Vbdlae.step s x = _
  unfold Vbdlae.step
  rw [if_neg (by rw [r, hr]; decide)]
  cases x with
  | lay =>
    exfalso
    have := nl rfl
    omega
  | _ => simp only [hc]
theorem does_act {s : VSt} {g : Cfg} {p : Int} {args : List Int} {x : Vbdlae.Call} (h0 : 0 < p) (h17 : p ≤ 17) (hl : args.length = nOf p) (hr : rangeOk p args = true) (hc : s.cfg = some g) (hx : Vbdlae.decode (p :: args) = some x) : Vbdlae.does s (p :: args) = Vbdlae.act g s x := by
  obtain ⟨x', e, r, nl, _⟩ := range_decode3 (by omega) h17 hl
  obtain rfl : x = x' := Option.some.inj (hx.symm.trans e)
  unfold Vbdlae.does
  rw [e]
  show Vbdlae.step s x = _
  unfold Vbdlae.step
  rw [if_neg (by rw [r, hr]; decide)]
  cases x with
  | lay =>
    exfalso
    have := nl rfl
    omega
  | _ => simp only [hc]
/-! ### what a call leaves -/
section
variable {s : VSt} {g : Cfg}
theorem inR_true {x lo hi : Int} (h : Vbdlae.inR x lo hi = true) : lo ≤ x ∧ x ≤ hi := by
  rw [inR_eq, bad_iff] at h
  exact h
theorem ok_act {x : Vbdlae.Call} (o : Ok s g) (hr : Vbdlae.ranged x = true) : Ok (Vbdlae.act g s x).1 g := by
  cases x with
  | lay => exact o
  | source x h =>
    have e := (Bool.and_eq_true _ _ ▸ hr : _ ∧ _).2
    have := inR_true e
    exact { toCfgOk := o.toCfgOk, cfg := o.cfg, len := o.len, lt8 := o.lt8, win := o.win, hem := (by show h.toNat ≤ 1000; omega), trap := o.trap, lays := o.lays }
  | bag v => exact o.to
  | sink x =>
    show Ok (if _ then _ else _ : VSt × List Int).1 g
    split
    · exact o
    · split
      · exact o
      · split
        · exact o
        · exact o.to
  | ultra u => exact o.to
  | move k =>
    show Ok (if _ then _ else _ : VSt × List Int).1 g
    split
    · exact o
    · split
      · exact o
      · exact o.moveMany _
  | wait t => exact (o.to : Ok { s with still := _ } g).raise _ _
  | press a v =>
    show Ok { (if _ then _ else _ : VSt) with last := _ } g
    split
    · exact ((o.raise _ _).raise _ _).to
    · exact o.to
  | centre =>
    show Ok (match s.last with | none => (s, [-3]) | some (a, v) => _ : VSt × List Int).1 g
    split
    · exact o
    · split
      · exact o.to
      · exact o
  | leak x => exact (o.to : Ok { s with streak := _ } g).raise _ _
  | fault ch m v =>
    show Ok (if _ then _ else _ : VSt) g
    split <;> exact o.to
  | slip w m =>
    show Ok (if _ then _ else _ : VSt) g
    split <;> exact o.to
  | vent => exact { toCfgOk := o.toCfgOk, cfg := o.cfg, len := o.len, lt8 := o.lt8, win := o.win, hem := o.hem, trap := Nat.zero_le _, lays := o.lays }
  | check =>
    show Ok (if _ then _ else _ : VSt) g
    split
    · exact (o.lower 1).to
    · exact o
  | reset b =>
    show Ok (if _ then _ else _ : VSt × List Int).1 g
    split
    · exact o
    · split
      · exact o
      · show Ok (if _ then _ else _ : VSt) g
        split
        · exact (o.lower _).to
        · exact o.lower _
  | look => exact o
  | cell i =>
    show Ok (match s.line[i.toNat]? with | none => (s, [-3]) | some x => (s, 0 :: Vbdlae.three x) : VSt × List Int).1 g
    split <;> exact o
  | totals => exact o
theorem le1 : 1 ≤ 102 := by decide
theorem len_act {x : Vbdlae.Call} (hr : Vbdlae.ranged x = true) : (Vbdlae.act g s x).2.length ≤ 102 := by
  cases x with
  | sink x =>
    show (if _ then _ else _ : VSt × List Int).2.length ≤ 102
    split
    · exact le1
    · split
      · exact le1
      · split
        · exact le1
        · exact le1
  | move k =>
    have := inR_true hr
    show (if _ then _ else _ : VSt × List Int).2.length ≤ 102
    split
    · exact le1
    · split
      · exact le1
      · show (_ :: _ :: (Vbdlae.moveMany g k.toNat s).2.1.map Int.ofNat).length ≤ 102
        rw [List.length_cons, List.length_cons, List.length_map]
        have := many_len g k.toNat s
        omega
  | centre =>
    show (match s.last with | none => (s, [-3]) | some (a, v) => _ : VSt × List Int).2.length ≤ 102
    split
    · exact le1
    · split
      · exact le1
      · exact le1
  | reset b =>
    show (if _ then _ else _ : VSt × List Int).2.length ≤ 102
    split
    · exact le1
    · split
      · exact le1
      · exact le1
  | cell i =>
    show (match s.line[i.toNat]? with | none => (s, [-3]) | some x => (s, 0 :: Vbdlae.three x) : VSt × List Int).2.length ≤ 102
    split
    · exact le1
    · exact (by decide : 4 ≤ 102)
  | look => exact (by decide : 14 ≤ 102)
  | totals => exact (by decide : 22 ≤ 102)
  | vent => exact (by decide : 2 ≤ 102)
  | lay => exact (by decide : 0 ≤ 102)
  | _ => exact le1
def cfgOf (n dz ch dt w t q d room k leak p z : Int) : Cfg := { n := n.toNat, dz := dz.toNat, ch := ch.toNat, dt := dt.toNat, w := w.toNat, t := t.toNat, s := q.toNat, d := d.toNat, room := room.toNat, k := k.toNat, leak := leak.toNat, p := p.toNat, z := z.toNat }
theorem gd_laid (h : Gd s) (c : CfgOk g) (hl : s.tot.lays ≠ 1000000) : Gd (Vbdlae.laid s g) := by
  refine ⟨rfl, Nat.zero_le _, h.hem, ?_, ?_, fun g' e => ?_⟩
  · show s.tot.lays + 1 ≤ 1000000
    have := h.lays
    omega
  · show (List.replicate g.n Vbdlae.allAir).length ≤ 64
    rw [List.length_replicate]
    exact c.n64
  · obtain rfl : g = g' := Option.some.inj e
    exact ⟨c, List.length_replicate, Nat.zero_le _⟩
theorem cfg_ok {n dz ch dt w t q d room k leak p z : Int} (hr : Vbdlae.ranged (.lay n dz ch dt w t q d room k leak p z) = true) : CfgOk (cfgOf n dz ch dt w t q d room k leak p z) := by
  unfold Vbdlae.ranged at hr
  simp only [Bool.and_eq_true, inR_eq, bad_iff] at hr
  obtain ⟨h1, h2, h3, h4, h5, h6, h7, h8, h9, h10, h11, h12, h13⟩ := hr
  exact ⟨(by show 8 ≤ n.toNat; omega), (by show n.toNat ≤ 64; omega), (by show 1 ≤ dz.toNat; omega), (by show dz.toNat < ch.toNat; omega), (by show ch.toNat < dt.toNat; omega), (by show dt.toNat < n.toNat; omega), (by show 1 ≤ w.toNat; omega), (by show w.toNat ≤ 32; omega), (by show k.toNat ≤ 1000; omega)⟩
theorem step_lay {n dz ch dt w t q d room k leak p z : Int} (hr : Vbdlae.ranged (.lay n dz ch dt w t q d room k leak p z) = true) : Vbdlae.step s (.lay n dz ch dt w t q d room k leak p z) =
    if s.sink = 1 then (s, [-3]) else if s.tot.lays = 1000000 then (s, [-4]) else (Vbdlae.laid s (cfgOf n dz ch dt w t q d room k leak p z), [0]) := by
  unfold Vbdlae.step
  rw [if_neg (by rw [hr]; decide)]
  rfl
theorem gd_step {x : Vbdlae.Call} (h : Gd s) : Gd (Vbdlae.step s x).1 ∧ (Vbdlae.step s x).2.length ≤ 102 := by
  by_cases hr : Vbdlae.ranged x = true
  · cases x with
    | lay n dz ch dt w t q d room k leak p z =>
      rw [step_lay hr]
      split
      · exact ⟨h, le1⟩
      · split
        · exact ⟨h, le1⟩
        · rename_i hl
          exact ⟨gd_laid h (cfg_ok hr) hl, le1⟩
    | _ =>
      unfold Vbdlae.step
      rw [if_neg (by rw [hr]; decide)]
      cases e : s.cfg with
      | none => exact ⟨h, le1⟩
      | some g => exact ⟨(ok_act (h.ok e) hr).gd, len_act hr⟩
  · unfold Vbdlae.step
    rw [if_pos (by simpa using hr)]
    exact ⟨h, le1⟩
theorem gd_does {l : List Int} (h : Gd s) : Gd (Vbdlae.does s l).1 ∧ (Vbdlae.does s l).2.length ≤ 102 := by
  unfold Vbdlae.does
  split
  · exact ⟨h, le1⟩
  · exact gd_step h
end
/-! ### the calls of one list -/
theorem calls_cons {f : Nat} {p : Int} {r : List Int} {cs : List (List (List Int))} (h : PyFlat.calls PyVbdlae.shape (f + 1) (p :: r) = some cs) :
    0 ≤ p ∧ p ≤ 17 ∧ nOf p ≤ r.length ∧ ∃ cs', PyFlat.calls PyVbdlae.shape f (r.drop (nOf p)) = some cs' ∧ cs = [p :: r.take (nOf p)] :: cs' := by
  unfold PyFlat.calls at h
  unfold PyFlat.call at h
  dsimp only at h
  cases e : PyVbdlae.shape p with
  | none => rw [e] at h; cases h
  | some nk =>
    obtain ⟨n, k⟩ := nk
    obtain ⟨h0, h17, rfl, rfl⟩ := shape_is e
    rw [e] at h
    dsimp only at h
    by_cases hl : r.length < nOf p
    · rw [if_pos hl] at h; cases h
    · rw [if_neg hl] at h
      have e3 : PyFlat.rows 0 (r.drop (nOf p)) = some ([], r.drop (nOf p)) := rfl
      rw [e3] at h
      dsimp only at h
      cases e2 : PyFlat.calls PyVbdlae.shape f (r.drop (nOf p)) with
      | none => rw [e2] at h; cases h
      | some cs' =>
        rw [e2] at h
        exact ⟨h0, h17, by omega, cs', rfl, (Option.some.inj h).symm⟩
theorem map_whole : ∀ (f : Nat) (l : List Int) (cs : List (List (List Int))), PyFlat.calls PyVbdlae.shape f l = some cs → cs.map PyVbdlae.whole = cs
  | 0, [], cs, h => by
    obtain rfl : [] = cs := Option.some.inj h
    rfl
  | 0, p :: r, cs, h => by cases h
  | f + 1, [], cs, h => by
    obtain rfl : [] = cs := Option.some.inj h
    rfl
  | f + 1, p :: r, cs, h => by
    obtain ⟨h0, h17, hn, cs', hc, rfl⟩ := calls_cons h
    obtain ⟨_, _, _, _, w⟩ := range_decode3 (args := r.take (nOf p)) h0 h17 (by rw [List.length_take]; omega)
    rw [List.map_cons, map_whole f _ cs' hc, w]
theorem told_cons (s : VSt) (l : List Int) (r : List (List (List Int))) : PyFlat.told (PyFlat.played VbdlaeNeutral.step s ([l] :: r)) = (((Vbdlae.does s l).2.length : Int) :: (Vbdlae.does s l).2) ++ PyFlat.told (PyFlat.played VbdlaeNeutral.step (Vbdlae.does s l).1 r) := by
  show PyFlat.told ((Vbdlae.does s l).2 :: _) = _
  unfold PyFlat.told
  rw [List.flatMap_cons]
  rfl
theorem asked_is {l : List Int} (h : PyVbdlae.answers_asked l = true) : ∃ cs, PyFlat.calls PyVbdlae.shape l.length l = some cs ∧ cs.length ≤ 400 ∧ PyVbdlae.answers l = PyFlat.told (PyFlat.played VbdlaeNeutral.step Vbdlae.start cs) := by
  unfold PyVbdlae.answers_asked PyVbdlae.calls at h
  unfold PyVbdlae.answers PyVbdlae.calls
  cases e : PyFlat.calls PyVbdlae.shape l.length l with
  | none => rw [e] at h; cases h
  | some cs =>
    rw [e] at h
    dsimp only at h ⊢
    rw [map_whole _ _ _ e] at h ⊢
    rw [Bool.and_eq_true] at h
    exact ⟨cs, rfl, of_decide_eq_true h.1, rfl⟩
/-- how far the list of calls is gone through -/
structure Far (l : List Int) (at_ : Nat) (s : VSt) (given : List Int) : Prop where
  gd : Gd s
  rest : ∃ f cs, PyFlat.calls PyVbdlae.shape f (l.drop at_) = some cs ∧ given.length + 103 * cs.length ≤ 41200 ∧ PyVbdlae.answers l = given ++ PyFlat.told (PyFlat.played VbdlaeNeutral.step s cs)
  le : at_ ≤ l.length
theorem Far.start {l : List Int} (h : PyVbdlae.answers_asked l = true) : Far l 0 Vbdlae.start [] := by
  obtain ⟨cs, h1, h2, h3⟩ := asked_is h
  refine ⟨gd_start, ⟨_, cs, h1, ?_, h3⟩, Nat.zero_le _⟩
  show 0 + 103 * cs.length ≤ 41200
  omega
theorem Far.turn {l : List Int} {a : Nat} {s : VSt} {given : List Int} (h : Far l a s given) (ha : a < l.length) : ∃ p args, l[a]? = some p ∧ 0 ≤ p ∧ p ≤ 17 ∧ args.length = nOf p ∧ a + 1 + nOf p ≤ l.length ∧ args = (l.drop (a + 1)).take (nOf p) ∧
    given.length + 103 ≤ 41200 ∧ Far l (a + 1 + nOf p) (Vbdlae.does s (p :: args)).1 (given ++ (((Vbdlae.does s (p :: args)).2.length : Int) :: (Vbdlae.does s (p :: args)).2)) := by
  obtain ⟨gd, ⟨f, cs, h1, h2, h3⟩, _⟩ := h
  have e : l.drop a = l[a] :: l.drop (a + 1) := List.drop_eq_getElem_cons ha
  rw [e] at h1
  cases f with
  | zero => cases h1
  | succ f =>
    obtain ⟨h0, h17, hn, cs', hc, rfl⟩ := calls_cons h1
    rw [List.length_drop] at hn
    have hd : (l.drop (a + 1)).drop (nOf l[a]) = l.drop (a + 1 + nOf l[a]) := by rw [List.drop_drop]
    rw [hd] at hc
    rw [List.length_cons] at h2
    have q := gd_does (l := l[a] :: (l.drop (a + 1)).take (nOf l[a])) gd
    refine ⟨l[a], _, List.getElem?_eq_getElem ha, h0, h17, ?_, by omega, rfl, by omega, q.1, ⟨f, cs', hc, ?_, ?_⟩, by omega⟩
    · rw [List.length_take, List.length_drop]; omega
    · rw [List.length_append, List.length_cons]
      have := q.2
      omega
    · rw [h3, told_cons, List.append_assoc]
theorem Far.done {l : List Int} {a : Nat} {s : VSt} {given : List Int} (h : Far l a s given) (ha : ¬ a < l.length) : PyVbdlae.answers l = given := by
  obtain ⟨gd, ⟨f, cs, h1, h2, h3⟩, _⟩ := h
  rw [List.drop_eq_nil_of_le (by omega)] at h1
  have : cs = [] := by
    cases f <;> (unfold PyFlat.calls at h1; exact (Option.some.inj h1).symm)
  subst this
  rw [h3]
  exact List.append_nil _
end B
namespace B
open PySem PySem.Spec PyProof.Rows L2
open Vbdlae (Cell Cfg Tot VOL)
/-! Readings with names, and one intro lemma for each: the walk is syntax-directed. -/

/-! ### no star in a list of items -/
section
variable {es : List Expr} {env : Env} {pos : Pos}
theorem star_Attribute {o : Expr} {f : Str} : starEach (.Attribute o f pos :: es) env = (false, eval (.Attribute o f pos) env) :: starEach es env := rfl
theorem star_Name {x : Str} : starEach (.Name x pos :: es) env = (false, eval (.Name x pos) env) :: starEach es env := rfl
theorem star_Constant {v : Const} {k : Nat} : starEach (.Constant v k pos :: es) env = (false, eval (.Constant v k pos) env) :: starEach es env := rfl
theorem star_Call {f : Expr} {as : List Expr} {ks : List Keyword} : starEach (.Call f as ks pos :: es) env = (false, eval (.Call f as ks pos) env) :: starEach es env := rfl
theorem star_Subscript {o i : Expr} : starEach (.Subscript o i pos :: es) env = (false, eval (.Subscript o i pos) env) :: starEach es env := rfl
theorem star_BinOp {a b : Expr} {op : Operator} : starEach (.BinOp a op b pos :: es) env = (false, eval (.BinOp a op b pos) env) :: starEach es env := rfl
theorem star_UnaryOp {a : Expr} {op : UnaryOp} : starEach (.UnaryOp op a pos :: es) env = (false, eval (.UnaryOp op a pos) env) :: starEach es env := rfl
theorem star_ListComp {e : Expr} {gs : List Comprehension} {sc : Scope} : starEach (.ListComp e gs sc pos :: es) env = (false, eval (.ListComp e gs sc pos) env) :: starEach es env := rfl
end

/-! ### attributes as keys zipped with values -/
theorem lookup_cons_eq (f : Str) (v : V) (r : List (Str × V)) : ((f, v) :: r).lookup f = some v := by
  have e : (f == f) = true := beq_self_eq_true f
  simp only [List.lookup, e]
theorem lookup_cons_ne {f g : Str} (v : V) (r : List (Str × V)) (h : f ≠ g) : ((g, v) :: r).lookup f = r.lookup f := by
  have e : (f == g) = false := beq_eq_false_iff_ne.mpr h
  simp only [List.lookup, e]
theorem fz_get : ∀ {ks : List Str} {vs : List V} {i : Nat} {f : Str} {v : V}, ks.Nodup → ks[i]? = some f → vs[i]? = some v → (ks.zip vs).lookup f = some v
  | [], _, i, f, v, _, hk, _ => by simp at hk
  | k :: ks, [], i, f, v, _, _, hv => by simp at hv
  | k :: ks, x :: vs, 0, f, v, _, hk, hv => by
    have e1 : k = f := Option.some.inj hk
    have e2 : x = v := Option.some.inj hv
    subst e1; subst e2
    exact lookup_cons_eq _ _ _
  | k :: ks, x :: vs, i + 1, f, v, nd, hk, hv => by
    obtain ⟨h1, h2⟩ := List.nodup_cons.mp nd
    have hm : f ∈ ks := List.mem_of_getElem? (show ks[i]? = some f from hk)
    show ((k, x) :: ks.zip vs).lookup f = some v
    rw [lookup_cons_ne _ _ (fun q : f = k => h1 (q ▸ hm))]
    exact fz_get h2 hk hv
theorem fz_no : ∀ {ks : List Str} {vs : List V} {f : Str}, f ∉ ks → (ks.zip vs).lookup f = none
  | [], _, f, _ => by simp [List.lookup]
  | k :: ks, [], f, _ => by simp [List.lookup]
  | k :: ks, x :: vs, f, h => by
    show ((k, x) :: ks.zip vs).lookup f = none
    rw [lookup_cons_ne _ _ (fun q : f = k => h (q ▸ List.mem_cons_self))]
    exact fz_no fun m => h (List.mem_cons_of_mem _ m)
theorem fz_put : ∀ {ks : List Str} {vs : List V} {i : Nat} {f : Str} (v : V), ks.Nodup → ks[i]? = some f → i < vs.length → putF f v (ks.zip vs) = ks.zip (vs.set i v)
  | [], _, i, f, v, _, hk, _ => by simp at hk
  | k :: ks, [], i, f, v, _, _, hv => by simp at hv
  | k :: ks, x :: vs, 0, f, v, _, hk, hv => by
    have e1 : k = f := Option.some.inj hk
    subst e1
    show (if k = k then (k, v) :: ks.zip vs else _) = _
    rw [if_pos rfl]
    rfl
  | k :: ks, x :: vs, i + 1, f, v, nd, hk, hv => by
    obtain ⟨h1, h2⟩ := List.nodup_cons.mp nd
    have hm : f ∈ ks := List.mem_of_getElem? (show ks[i]? = some f from hk)
    show (if k = f then (k, v) :: ks.zip vs else (k, x) :: putF f v (ks.zip vs)) = _
    rw [if_neg (fun q : k = f => h1 (q ▸ hm)), fz_put v h2 hk (Nat.lt_of_succ_lt_succ hv)]
    rfl
/-- one more attribute, while an instance is made -/
theorem fz_new : ∀ {ks : List Str} {vs : List V} {f : Str} (v : V), f ∉ ks → ks.length = vs.length → putF f v (ks.zip vs) = (ks ++ [f]).zip (vs ++ [v])
  | [], [], f, v, _, _ => rfl
  | [], x :: vs, f, v, _, h => by simp at h
  | k :: ks, [], f, v, _, h => by simp at h
  | k :: ks, x :: vs, f, v, hf, h => by
    show (if k = f then (k, v) :: ks.zip vs else (k, x) :: putF f v (ks.zip vs)) = _
    rw [if_neg (fun q : k = f => hf (q ▸ List.mem_cons_self)), fz_new v (fun m => hf (List.mem_cons_of_mem _ m)) (Nat.succ.inj h)]
    rfl

/-- a class of the text whose instances have the attributes ks -/
structure Ck (K : PySem.W.Frag) (C : Addr) (ks : List Str) : Prop where
  cl : Cls K C
  nd : ks.Nodup
  no : ∀ f ∈ ks, NoAttr K C f
  few : ks.length < 1000

/-! ### o.f, o.f = v, o.f op= v -/
def Fld (C : Addr) (ks : List Str) (i : Nat) (x : V) (H : Hp) (Q : VK) : Prop := ∃ a dx vs v, x = .ref a ∧ H a = some (.ins C dx (ks.zip vs)) ∧ vs[i]? = some v ∧ Q v H
def qFld (C : Addr) (ks : List Str) (i : Nat) (ta : TE) : TE := fun σ H Q => ta σ H fun x H1 => Fld C ks i x H1 Q
def SetF (C : Addr) (ks : List Str) (i : Nat) (x y : V) (H : Hp) (Q : Hp → Prop) : Prop := ∃ a dx vs, x = .ref a ∧ H a = some (.ins C dx (ks.zip vs)) ∧ i < vs.length ∧ Q (upd H a (.ins C dx (ks.zip (vs.set i y))))
def qSet (C : Addr) (ks : List Str) (i : Nat) (ta tv : TE) : TS := fun D σ H => tv σ H fun y H1 => ta σ H1 fun x H2 => SetF C ks i x y H2 fun H3 => D.nx σ H3
def qAug (C : Addr) (ks : List Str) (i : Nat) (ta tv : TE) (rd : V → V → Hp → VK → Prop) : TS := fun D σ H => ta σ H fun x H1 => Fld C ks i x H1 fun v H2 => tv σ H2 fun y H3 => rd v y H3 fun z H4 => SetF C ks i x z H4 fun H5 => D.nx σ H5
/-- an attribute that is new (in __init__) -/
def NewF (C : Addr) (f : Str) (x y : V) (H : Hp) (Q : Hp → Prop) : Prop := ∃ a dx ks vs, x = .ref a ∧ H a = some (.ins C dx (ks.zip vs)) ∧ f ∉ ks ∧ ks.length = vs.length ∧ ks.length < 1000 ∧ Q (upd H a (.ins C dx ((ks ++ [f]).zip (vs ++ [y]))))
def qNew (C : Addr) (f : Str) (ta tv : TE) : TS := fun D σ H => tv σ H fun y H1 => ta σ H1 fun x H2 => NewF C f x y H2 fun H3 => D.nx σ H3
theorem zip_len {ks : List Str} {vs : List V} : (ks.zip vs).length ≤ ks.length := by
  rw [List.length_zip]
  exact Nat.min_le_left _ _
section
variable {X : Cx} {C : Addr} {ks : List Str} {e o value : Expr} {f : Str} {pos pos' tpos : Pos} {ta tv : TE}
theorem pe_f (c : Ck X.K C ks) (i : Nat) (he : PE X e ta) (hk : ks[i]? = some f := by rfl) (hb : attributeBase e f X.env (eval e X.env) = eval e X.env := by rfl) : PE X (.Attribute e f pos) (qFld C ks i ta) := by
  intro pins s σ H Q I h
  refine attr_of hb (thn (he pins s σ H _ I h) fun u s1 ⟨x, H1, I1, rx, a, dx, vs, v, ex, ea, l, q⟩ => ?_)
  subst ex
  obtain rfl : u = Value.ref a := rx
  exact getattr_ok I1 ea c.cl (c.no f (List.mem_of_getElem? hk)) (fz_get c.nd hk l) fun u' s2 I2 ru => ⟨v, H1, I2, ru, q⟩
theorem ps_f (c : Ck X.K C ks) (i : Nat) (ha : PE X o ta) (hv : PE X value tv) (hk : ks[i]? = some f := by rfl) (hs : swapsWith value (some (.Attribute o f pos')) pos.line X.env = pure false := by rfl) :
    PS X (.Assign [.Attribute o f pos'] value pos) (qSet C ks i ta tv) := by
  intro pins s σ H D I h
  refine plainObj_wpAny_Assign_Attribute (thn (hv pins s σ H _ I h) fun u s1 ⟨y, H1, I1, ry, q⟩ => thn (ha pins s1 σ H1 _ I1 q) fun ov s2 ⟨x, H2, I2, rx, a, dx, vs, ex, ea, l, q2⟩ => ?_) hs
  subst ex
  obtain rfl : ov = Value.ref a := rx
  refine setattr_ok I2 ea c.cl (c.no f (List.mem_of_getElem? hk)) (Nat.lt_of_le_of_lt zip_len c.few) ry fun s3 I3 => ⟨σ, _, I3, ?_⟩
  rw [fz_put y c.nd hk l]
  exact q2
theorem ps_n {full : List Str} (c : Ck X.K C full) (hf : f ∈ full) (ha : PE X o ta) (hv : PE X value tv) (hs : swapsWith value (some (.Attribute o f pos')) pos.line X.env = pure false := by rfl) :
    PS X (.Assign [.Attribute o f pos'] value pos) (qNew C f ta tv) := by
  intro pins s σ H D I h
  refine plainObj_wpAny_Assign_Attribute (thn (hv pins s σ H _ I h) fun u s1 ⟨y, H1, I1, ry, q⟩ => thn (ha pins s1 σ H1 _ I1 q) fun ov s2 ⟨x, H2, I2, rx, a, dx, ks, vs, ex, ea, hn, hl, hw, q2⟩ => ?_) hs
  subst ex
  obtain rfl : ov = Value.ref a := rx
  refine setattr_ok I2 ea c.cl (c.no f hf) (Nat.lt_of_le_of_lt zip_len hw) ry fun s3 I3 => ⟨σ, _, I3, ?_⟩
  rw [fz_new y hn hl]
  exact q2
theorem ps_fa {op : Operator} {rd : V → V → Hp → VK → Prop} (c : Ck X.K C ks) (i : Nat) (ha : PE X o ta) (hv : PE X value tv) (hop : InOp X op rd) (hk : ks[i]? = some f := by rfl) : PS X (.AugAssign (.Attribute o f tpos) op value pos) (qAug C ks i ta tv rd) := by
  intro pins s σ H D I h
  refine wpAny_AugAssign_AttributeAny (thn (ha pins s σ H _ I h) fun ov s1 ⟨x, H1, I1, rx, a, dx, vs, v, ex, ea, l, q⟩ => ?_)
  subst ex
  obtain rfl : ov = Value.ref a := rx
  have n := c.no f (List.mem_of_getElem? hk)
  refine getattr_ok I1 ea c.cl n (fz_get c.nd hk l) fun u s2 I2 ru => thn (hv pins s2 σ H1 _ I2 q) fun w3 s3 ⟨y, H2, I3, ry, q3⟩ => thn (hop pins s3 σ H2 v y u w3 _ I3 ru ry q3) fun w4 s4 ⟨z, H3, I4, rz, a', dx', vs', ex', ea', l', q4⟩ => ?_
  cases ex'
  refine setattr_ok I4 ea' c.cl n (Nat.lt_of_le_of_lt zip_len c.few) rz fun s5 I5 => ⟨σ, _, I5, ?_⟩
  rw [fz_put z c.nd hk l']
  exact q4
end

/-! ### names of the module -/
def GInt (mg : Str → Option Value) (x : Str) (n : Int) : Prop := ∃ t, mg x = some (.int n t)
def GRef (mg : Str → Option Value) (x : Str) (a : Addr) : Prop := mg x = some (.ref a)
section
variable {X : Cx} {x : Str} {pos : Pos}
theorem pe_gi {n : Int} (h : GInt X.mg x n) (hg : Gl X x := by rfl) (hd : (x == ("__debug__" : Str)) = false := by decide) : PE X (.Name x pos) (tC (.int n)) :=
  let ⟨_, e⟩ := h
  pe_glob hg e ⟨_, rfl⟩ hd
theorem pe_gr {a : Addr} (h : GRef X.mg x a) (hg : Gl X x := by rfl) (hd : (x == ("__debug__" : Str)) = false := by decide) : PE X (.Name x pos) (tC (.ref a)) := pe_glob hg h rfl hd
end

/-! ### builtins by name -/
def rMin2 : List V → Hp → VK → Prop := fun xs H Q => ∃ i j, xs = [.int i, .int j] ∧ Q (.int (if j < i then j else i)) H
def rMax2 : List V → Hp → VK → Prop := fun xs H Q => ∃ i j, xs = [.int i, .int j] ∧ Q (.int (if j > i then j else i)) H
def rAbs : List V → Hp → VK → Prop := fun xs H Q => ∃ i, xs = [.int i] ∧ Q (.int (if i < 0 then -i else i)) H
def rLen (K : PySem.W.Frag) : List V → Hp → VK → Prop := fun xs H Q => ∃ p ys, xs = [.ref p] ∧ (SqL K H p ys ∨ SqT K H p ys) ∧ Q (.int ys.length) H
section
variable {X : Cx} {p pos : Pos} {e : Expr} {es : List Expr} {t : TA}
theorem pe_min2 (hm : X.mg "min" = none) (hc : X.calm = true := by rfl) (hg : Gl X "min" := by rfl) (ha : PA X (e :: es) t) (he : starEach (e :: es) X.env = (false, eval e X.env) :: starEach es X.env := by rfl) (hpl : (backTo pos (starEach es X.env)).any (·.1) = false := by rfl) :
    PE X (.Call (.Name "min" p) (e :: es) [] pos) (tCB rMin2 t) := pe_callB (call_min2 hc) hg hm boot_min ha (by decide +kernel) (by decide +kernel) he hpl
theorem pe_max1 (hm : X.mg "max" = none) (hc : X.calm = true := by rfl) (hg : Gl X "max" := by rfl) (ha : PA X (e :: es) t) (he : starEach (e :: es) X.env = (false, eval e X.env) :: starEach es X.env := by rfl) (hpl : (backTo pos (starEach es X.env)).any (·.1) = false := by rfl) :
    PE X (.Call (.Name "max" p) (e :: es) [] pos) (tCB (rMax X.K) t) := pe_callB (cr_max hc) hg hm boot_max ha (by decide +kernel) (by decide +kernel) he hpl
theorem pe_sum1 (hm : X.mg "sum" = none) (hc : X.calm = true := by rfl) (hg : Gl X "sum" := by rfl) (ha : PA X (e :: es) t) (he : starEach (e :: es) X.env = (false, eval e X.env) :: starEach es X.env := by rfl) (hpl : (backTo pos (starEach es X.env)).any (·.1) = false := by rfl) :
    PE X (.Call (.Name "sum" p) (e :: es) [] pos) (tCB (rSum X.K) t) := pe_callB (cr_sum hc) hg hm boot_sum ha (by decide +kernel) (by decide +kernel) he hpl
theorem pe_any1 (hm : X.mg "any" = none) (hc : X.calm = true := by rfl) (hg : Gl X "any" := by rfl) (ha : PA X (e :: es) t) (he : starEach (e :: es) X.env = (false, eval e X.env) :: starEach es X.env := by rfl) (hpl : (backTo pos (starEach es X.env)).any (·.1) = false := by rfl) :
    PE X (.Call (.Name "any" p) (e :: es) [] pos) (tCB (rAny X.K) t) := pe_callB (cr_any hc) hg hm boot_any ha (by decide +kernel) (by decide +kernel) he hpl
theorem pe_abs1 (hm : X.mg "abs" = none) (hg : Gl X "abs" := by rfl) (ha : PA X (e :: es) t) (he : starEach (e :: es) X.env = (false, eval e X.env) :: starEach es X.env := by rfl) (hpl : (backTo pos (starEach es X.env)).any (·.1) = false := by rfl) :
    PE X (.Call (.Name "abs" p) (e :: es) [] pos) (tCB rAbs t) := pe_callB call_abs hg hm boot_abs ha (by decide +kernel) (by decide +kernel) he hpl
theorem pe_len1 (hm : X.mg "len" = none) (hg : Gl X "len" := by rfl) (ha : PA X (e :: es) t) (he : starEach (e :: es) X.env = (false, eval e X.env) :: starEach es X.env := by rfl) (hpl : (backTo pos (starEach es X.env)).any (·.1) = false := by rfl) :
    PE X (.Call (.Name "len" p) (e :: es) [] pos) (tCB (rLen X.K) t) := pe_callB call_len_seq hg hm PySem.boot_len ha (by decide +kernel) (by decide +kernel) he hpl
end

/-! ### defs, methods, classes of the text, with what they promise -/
section
variable (P : Program) (w : World) (K : PySem.W.Frag) (mg : Str → Option Value) (base : Heap)
/-- a def of the module -/
def DefOk (k : Nat) (x : Str) (ps : List Str) (sp : Sp) : Prop := ∃ f fd, FnOk P w K mg base CX0 k f fd ps sp ∧ mg x = some (.ref f) ∧ PySem.W.keepIn K (.ref f) = true ∧ Binds K fd ps []
/-- a method m of the class at C -/
def MethOk (C : Addr) (k : Nat) (m : Str) (ps : List Str) (sp : Sp) : Prop := ∃ f fd, FnOk P w K mg base CX0 k f fd ps sp ∧ Meth K C m f ∧ Binds K fd ps []
/-- the class at C, called x, made by an __init__ that promises sp -/
def MakeOk (C : Addr) (k : Nat) (x : Str) (ps : List Str) (sp : Sp) : Prop := ∃ f fd, FnOk P w K mg base CX0 k f fd ps sp ∧ Mk K C f ∧ mg x = some (.ref C) ∧ Binds K fd ps []
end
def Call1 (sp : Sp) (vs : List V) (H : Hp) (Q : VK) : Prop := sp vs H Q E0
def qCall (sp : Sp) (t : TA) : TE := fun σ H Q => t σ H fun vs H1 => Call1 sp vs H1 Q
def Rcv (C : Addr) (ks : List Str) (x : V) (H : Hp) (R : Prop) : Prop := ∃ a dx vs, x = .ref a ∧ H a = some (.ins C dx (ks.zip vs)) ∧ R
def qMeth (C : Addr) (ks : List Str) (sp : Sp) (ta : TE) (t : TA) : TE := fun σ H Q => ta σ H fun x H1 => Rcv C ks x H1 (t σ H1 fun vs H2 => Call1 sp (x :: vs) H2 Q)
def Make1 (C : Addr) (sp : Sp) (vs : List V) (H : Hp) (Q : VK) : Prop := ∀ x dx, H x = none → H dx = none → dx ≠ x →
  sp (.ref x :: vs) (upd (upd H dx (.own x)) x (.ins C dx [])) (fun v H2 => v = .non ∧ Q (.ref x) H2) E0
def qMake (C : Addr) (sp : Sp) (t : TA) : TE := fun σ H Q => t σ H fun vs H1 => Make1 C sp vs H1 Q
section
variable {X : Cx} {k j : Nat} {C : Addr} {ks : List Str} {x m : Str} {ps : List Str} {sp : Sp} {p pos apos : Pos} {e o : Expr} {es : List Expr} {ta : TE} {t : TA}
theorem pe_def (G : DefOk X.prog X.w X.K X.mg X.base k x ps sp) (hr : Room j X.A) (hj : k ≤ j) (ha : PA X (e :: es) t) (hg : Gl X x := by rfl) (hdb : (x == ("__debug__" : Str)) = false := by decide)
    (he : starEach (e :: es) X.env = (false, eval e X.env) :: starEach es X.env := by rfl) (hpl : (backTo pos (starEach es X.env)).any (·.1) = false := by rfl) : PE X (.Call (.Name x p) (e :: es) [] pos) (qCall sp t) := by
  obtain ⟨f, fd, F, hm, hk, hb⟩ := G
  intro pins s σ H Q I h
  refine wpAny_Call_Name_kw (ld_glob I hg hm ?_ hdb)
  refine PySem.W.callWith_K (h₀ := X.base) I.ok.mod.kin hk (thn (ha pos pins s σ H _ I h) fun us s1 ⟨vs, H1, I1, r, q⟩ => ⟨I1.kIn, ?_⟩) he hpl
  exact run_fn (dvs := []) (E := E0) F (hr.mono hj) hb .nil pass0 I1 r (by rw [List.append_nil]; exact q)
theorem pe_mth {pl : Sem Bool} (c : Ck X.K C ks) (G : MethOk X.prog X.w X.K X.mg X.base C k m ps sp) (hn : m ∉ ks) (hr : Room j X.A) (hj : k ≤ j) (ho : PE X o ta) (ha : PA X (e :: es) t)
    (hst : starEach (e :: es) X.env = (false, eval e X.env) :: starEach es X.env := by rfl) (hpl : (backTo pos (starEach es X.env)).any (·.1) = false := by rfl)
    (ht : eval (.Call (.Attribute o m apos) (e :: es) [] pos) X.env = (do
      let ov ← eval o X.env
      standAt apos.atName
      let (f, first) ← holding [ov] (getMethod ov m pl)
      callWith pos f first (backTo pos (starEach (e :: es) X.env)) (backToKw pos (keywordEach [] X.env))) := by rfl) :
    PE X (.Call (.Attribute o m apos) (e :: es) [] pos) (qMeth C ks sp ta t) := by
  obtain ⟨f, fd, F, hm, hb⟩ := G
  intro pins s σ H Q I h
  refine PySem.W.methodCall_KW (pl := pl) (thn (ho pins s σ H _ I h) fun u s1 ⟨x, H1, I1, rx, a, dx, vs, ex, ea, q⟩ => ?_) ht
  subst ex
  obtain rfl : u = Value.ref a := rx
  refine getmeth_ok I1 ea c.cl hm (fz_no hn) ?_
  refine PySem.W.callWith_K (first := [.ref a]) (h₀ := X.base) I.ok.mod.kin hm.kp (thn (ha pos pins s1 σ H1 _ I1 q) fun us s2 ⟨vs, H2, I2, r, q2⟩ => ⟨I2.kIn, ?_⟩) hst hpl
  exact run_fn (us := .ref a :: us) (vs := .ref a :: vs) (dvs := []) (E := E0) F (hr.mono hj) hb .nil pass0 I2 (.cons rfl r) (by rw [List.append_nil]; exact q2)
theorem pe_mth0 {pl : Sem Bool} (c : Ck X.K C ks) (G : MethOk X.prog X.w X.K X.mg X.base C k m ps sp) (hn : m ∉ ks) (hr : Room j X.A) (hj : k ≤ j) (ho : PE X o ta)
    (ht : eval (.Call (.Attribute o m apos) [] [] pos) X.env = (do
      let ov ← eval o X.env
      standAt apos.atName
      let (f, first) ← holding [ov] (getMethod ov m pl)
      callWith pos f first (backTo pos (starEach [] X.env)) (backToKw pos (keywordEach [] X.env))) := by rfl) :
    PE X (.Call (.Attribute o m apos) [] [] pos) (qMeth C ks sp ta tNil) := by
  obtain ⟨f, fd, F, hm, hb⟩ := G
  intro pins s σ H Q I h
  refine PySem.W.methodCall_KW (pl := pl) (thn (ho pins s σ H _ I h) fun u s1 ⟨x, H1, I1, rx, a, dx, vs, ex, ea, q⟩ => ?_) ht
  subst ex
  obtain rfl : u = Value.ref a := rx
  refine getmeth_ok I1 ea c.cl hm (fz_no hn) ?_
  exact PySem.W.callWith_K0 (first := [.ref a]) I1.kIn hm.kp (run_fn (us := [.ref a]) (vs := [.ref a]) (dvs := []) (E := E0) F (hr.mono hj) hb .nil pass0 I1 (.cons rfl .nil) q)
theorem pe_new (G : MakeOk X.prog X.w X.K X.mg X.base C k x ps sp) (hr : Room j X.A) (hj : k + 1 ≤ j) (ha : PA X (e :: es) t) (hg : Gl X x := by rfl) (hdb : (x == ("__debug__" : Str)) = false := by decide)
    (he : starEach (e :: es) X.env = (false, eval e X.env) :: starEach es X.env := by rfl) (hpl : (backTo pos (starEach es X.env)).any (·.1) = false := by rfl) : PE X (.Call (.Name x p) (e :: es) [] pos) (qMake C sp t) := by
  obtain ⟨f, fd, F, M, hm, hb⟩ := G
  intro pins s σ H Q I h
  refine wpAny_Call_Name_kw (ld_glob I hg hm ?_ hdb)
  refine PySem.W.callWith_K (h₀ := X.base) I.ok.mod.kin M.kp (thn (ha pos pins s σ H _ I h) fun us s1 ⟨vs, H1, I1, r, q⟩ => ⟨I1.kIn, ?_⟩) he hpl
  exact run_make (dvs := []) (E := E0) M F (hr.mono hj) hb .nil pass0 I1 r (by rw [List.append_nil]; exact q)
theorem pe_new0 (G : MakeOk X.prog X.w X.K X.mg X.base C k x ps sp) (hr : Room j X.A) (hj : k + 1 ≤ j) (hg : Gl X x := by rfl) (hdb : (x == ("__debug__" : Str)) = false := by decide) : PE X (.Call (.Name x p) [] [] pos) (qMake C sp tNil) := by
  obtain ⟨f, fd, F, M, hm, hb⟩ := G
  intro pins s σ H Q I h
  refine wpAny_Call_Name_kw (ld_glob I hg hm ?_ hdb)
  exact PySem.W.callWith_K0 I.kIn M.kp (run_make (us := []) (dvs := []) (E := E0) M F (hr.mono hj) hb .nil pass0 I .nil h)
end

/-! ### a def's own theorem -/
section
variable {P : Program} {w : World} {K : PySem.W.Frag} {mg : Str → Option Value} {base : Heap}
/-- a def of the text where it stands, and its name -/
def DefAt (K : PySem.W.Frag) (mg : Str → Option Value) (x : Str) (st : Stmt) (ps : List Str) : Prop := ∃ f fd, Fun K x x st f fd ∧ mg x = some (.ref f) ∧ Binds K fd ps []
def MethAt (K : PySem.W.Frag) (C : Addr) (m qual : Str) (st : Stmt) (ps : List Str) : Prop := ∃ f fd, Fun K m qual st f fd ∧ Meth K C m f ∧ Binds K fd ps []
def MakeAt (K : PySem.W.Frag) (mg : Str → Option Value) (C : Addr) (x qual : Str) (st : Stmt) (ps : List Str) : Prop := ∃ f fd, Fun K "__init__" qual st f fd ∧ Mk K C f ∧ mg x = some (.ref C) ∧ Binds K fd ps []
theorem DefAt.ok {x : Str} {st : Stmt} {N ps : List Str} {k : Nat} {sp : Sp} (D : DefAt K mg x st ps) (S : FnScope N ps (defScope st)) (len : ∀ vs H Q E, sp vs H Q E → vs.length = ps.length)
    (hbody : ∀ (f : Addr) (cdv : Value) (A : Around) (outer : List Env) (s : Shared) (H : Hp) (vs : List V) (Q : VK) (E : XK), Room k (A.deeper (envOfC x (defScope st) s.heap.objs.size f cdv)) → sp vs H Q E →
      ∃ t, PSs (cxOf CX0 P w K mg base N x (defScope st) f cdv A outer s H E).nox (defBody st) t ∧ t { nx := fun _ H' => Q .non H', rt := Q } (start N vs) H) : DefOk P w K mg base (k + 1) x ps sp := by
  obtain ⟨f, fd, F, hm, hb⟩ := D
  exact ⟨f, fd, F.ok S len fun cdv A outer s H vs Q E hr h => hbody f cdv A outer s H vs Q E hr h, hm, F.kp, hb⟩
theorem MethAt.ok {C : Addr} {m qual : Str} {st : Stmt} {N ps : List Str} {k : Nat} {sp : Sp} (D : MethAt K C m qual st ps) (S : FnScope N ps (defScope st)) (len : ∀ vs H Q E, sp vs H Q E → vs.length = ps.length)
    (hbody : ∀ (f : Addr) (cdv : Value) (A : Around) (outer : List Env) (s : Shared) (H : Hp) (vs : List V) (Q : VK) (E : XK), Room k (A.deeper (envOfC qual (defScope st) s.heap.objs.size f cdv)) → sp vs H Q E →
      ∃ t, PSs (cxOf CX0 P w K mg base N qual (defScope st) f cdv A outer s H E).nox (defBody st) t ∧ t { nx := fun _ H' => Q .non H', rt := Q } (start N vs) H) : MethOk P w K mg base C (k + 1) m ps sp := by
  obtain ⟨f, fd, F, hm, hb⟩ := D
  exact ⟨f, fd, F.ok S len fun cdv A outer s H vs Q E hr h => hbody f cdv A outer s H vs Q E hr h, hm, hb⟩
theorem MakeAt.ok {C : Addr} {x qual : Str} {st : Stmt} {N ps : List Str} {k : Nat} {sp : Sp} (D : MakeAt K mg C x qual st ps) (S : FnScope N ps (defScope st)) (len : ∀ vs H Q E, sp vs H Q E → vs.length = ps.length)
    (hbody : ∀ (f : Addr) (cdv : Value) (A : Around) (outer : List Env) (s : Shared) (H : Hp) (vs : List V) (Q : VK) (E : XK), Room k (A.deeper (envOfC qual (defScope st) s.heap.objs.size f cdv)) → sp vs H Q E →
      ∃ t, PSs (cxOf CX0 P w K mg base N qual (defScope st) f cdv A outer s H E).nox (defBody st) t ∧ t { nx := fun _ H' => Q .non H', rt := Q } (start N vs) H) : MakeOk P w K mg base C (k + 1) x ps sp := by
  obtain ⟨f, fd, F, M, hm, hb⟩ := D
  exact ⟨f, fd, F.ok S len fun cdv A outer s H vs Q E hr h => hbody f cdv A outer s H vs Q E hr h, M, hm, hb⟩
end

/-! ### the walk's steps -/
section
variable {σ : L2.St} {H : Hp} {Q : VK} {QT : Bool → Hp → Prop} {QA : List V → Hp → Prop} {QS : L2.St → Hp → Prop} {D : Ends} {ta tb tv : TE} {tr : TA} {t u : TS} {tc tc' : TT} {K : PySem.W.Frag}
theorem i_var {i : Nat} {v : V} (h : σ[i]? = some (some v)) (k : Q v H) : tVar i σ H Q := ⟨v, h, k⟩
theorem i_c {v : V} (k : Q v H) : tC v σ H Q := k
theorem i_fld {C : Addr} {ks : List Str} {i : Nat} (k : ta σ H fun x H1 => Fld C ks i x H1 Q) : qFld C ks i ta σ H Q := k
theorem i_Fld {C a dx : Addr} {ks : List Str} {i : Nat} {vs : List V} {v : V} (h : H a = some (.ins C dx (ks.zip vs))) (hv : vs[i]? = some v) (k : Q v H) : Fld C ks i (.ref a) H Q := ⟨a, dx, vs, v, rfl, h, hv, k⟩
theorem i_set {C : Addr} {ks : List Str} {i : Nat} (k : tv σ H fun y H1 => ta σ H1 fun x H2 => SetF C ks i x y H2 fun H3 => D.nx σ H3) : qSet C ks i ta tv D σ H := k
theorem i_new {C : Addr} {f : Str} (k : tv σ H fun y H1 => ta σ H1 fun x H2 => NewF C f x y H2 fun H3 => D.nx σ H3) : qNew C f ta tv D σ H := k
theorem i_aug {C : Addr} {ks : List Str} {i : Nat} {rd : V → V → Hp → VK → Prop} (k : ta σ H fun x H1 => Fld C ks i x H1 fun v H2 => tv σ H2 fun y H3 => rd v y H3 fun z H4 => SetF C ks i x z H4 fun H5 => D.nx σ H5) : qAug C ks i ta tv rd D σ H := k
theorem i_rAdd {i j : Int} (k : Q (.int (i + j)) H) : rAdd (.int i) (.int j) H Q := ⟨i, j, rfl, rfl, k⟩
theorem i_rSub {i j : Int} (k : Q (.int (i - j)) H) : rSub (.int i) (.int j) H Q := ⟨i, j, rfl, rfl, k⟩
theorem i_seq (k : t { D with nx := u D } σ H) : tSeq t u D σ H := k
theorem i_next (k : D.nx σ H) : tNext D σ H := k
theorem i_drop (k : ta σ H fun _ H1 => D.nx σ H1) : tDrop ta D σ H := k
theorem i_ret (k : ta σ H D.rt) : tRet ta D σ H := k
theorem i_asg {g : TG} (k : ta σ H fun x H1 => g x σ H1 D.nx) : tAsg ta g D σ H := k
theorem i_name {i : Nat} {v : V} (k : QS (σ.set i (some v)) H) : gName i v σ H QS := k
theorem i_ifS (k : tc σ H fun b H1 => if b = true then t D σ H1 else u D σ H1) : tIfS tc t u D σ H := k
theorem i_test (k : ta σ H fun x H' => ∃ k, x = .bl k ∧ QT k H') : tTest ta σ H QT := k
theorem i_tB (k : ta σ H fun x H' => ∃ k, x = .bl k ∧ QT k H') : tB ta σ H QT := k
theorem i_bl {b : Bool} {R : Bool → Prop} (k : R b) : ∃ c, V.bl b = .bl c ∧ R c := ⟨b, rfl, k⟩
theorem i_and (k : tc σ H fun c H1 => if c = true then tc' σ H1 QT else QT false H1) : tAnd tc tc' σ H QT := k
theorem i_or (k : tc σ H fun c H1 => if c = true then QT true H1 else tc' σ H1 QT) : tOr tc tc' σ H QT := k
theorem i_not (k : tc σ H fun c H1 => QT (!c) H1) : tNot tc σ H QT := k
theorem i_andV (k : ta σ H fun x H1 => ∃ c, x = .bl c ∧ if c = true then tb σ H1 Q else Q (.bl false) H1) : tAndV ta tb σ H Q := k
theorem i_orV (k : ta σ H fun x H1 => ∃ c, x = .bl c ∧ if c = true then Q (.bl true) H1 else tb σ H1 Q) : tOrV ta tb σ H Q := k
theorem i_notV (k : ta σ H fun x H1 => ∃ c, x = .bl c ∧ Q (.bl (!c)) H1) : tNotV ta σ H Q := k
theorem i_if (k : tc σ H fun c H1 => if c = true then ta σ H1 Q else tb σ H1 Q) : tIf tc ta tb σ H Q := k
theorem i_isN (k : ta σ H fun x H1 => Q (.bl (decide (x = .non))) H1) : tIsN ta σ H Q := k
theorem i_notN (k : ta σ H fun x H1 => Q (.bl (!decide (x = .non))) H1) : tNotN ta σ H Q := k
theorem i_op {r : R2} (k : ta σ H fun x H1 => tb σ H1 fun y H2 => r x y H2 Q) : tOp r ta tb σ H Q := k
theorem i_rI0 {g : Int → Int → V} {i j : Int} (k : Q (g i j) H) : rI0 g (.int i) (.int j) H Q := ⟨i, j, rfl, rfl, k⟩
theorem i_rI {C : Int → Int → Prop} {g : Int → Int → V} {i j : Int} (c : C i j) (k : Q (g i j) H) : rI C g (.int i) (.int j) H Q := ⟨i, j, rfl, rfl, c, k⟩
theorem i_eq {i j : Int} (k : Q (.bl (decide (i = j))) H) : rEq (.int i) (.int j) H Q := by
  refine ⟨rfl, ?_⟩
  have e : decide (V.int i = V.int j) = decide (i = j) := by
    by_cases h : i = j
    · rw [decide_eq_true h, decide_eq_true (congrArg V.int h)]
    · rw [decide_eq_false h, decide_eq_false (fun q => h (V.int.inj q))]
  rw [e]
  exact k
theorem i_ne {i j : Int} (k : Q (.bl (!decide (i = j))) H) : rNe (.int i) (.int j) H Q := by
  refine ⟨rfl, ?_⟩
  have e : decide (V.int i = V.int j) = decide (i = j) := by
    by_cases h : i = j
    · rw [decide_eq_true h, decide_eq_true (congrArg V.int h)]
    · rw [decide_eq_false h, decide_eq_false (fun q => h (V.int.inj q))]
  rw [e]
  exact k
theorem i_cb {r : List V → Hp → VK → Prop} (k : tr σ H fun vs H1 => r vs H1 Q) : tCB r tr σ H Q := k
theorem i_nil (k : QA [] H) : tNil σ H QA := k
theorem i_cons (k : ta σ H fun x H1 => tr σ H1 fun xs H2 => QA (x :: xs) H2) : tCons ta tr σ H QA := k
theorem i_call {sp : Sp} (k : tr σ H fun vs H1 => Call1 sp vs H1 Q) : qCall sp tr σ H Q := k
theorem i_meth {C : Addr} {ks : List Str} {sp : Sp} (k : ta σ H fun x H1 => Rcv C ks x H1 (tr σ H1 fun vs H2 => Call1 sp (x :: vs) H2 Q)) : qMeth C ks sp ta tr σ H Q := k
theorem i_Rcv {C a dx : Addr} {ks : List Str} {vs : List V} {R : Prop} (h : H a = some (.ins C dx (ks.zip vs))) (k : R) : Rcv C ks (.ref a) H R := ⟨a, dx, vs, rfl, h, k⟩
theorem i_make {C : Addr} {sp : Sp} (k : tr σ H fun vs H1 => Make1 C sp vs H1 Q) : qMake C sp tr σ H Q := k
theorem i_min2 {i j : Int} (k : Q (.int (if j < i then j else i)) H) : rMin2 [.int i, .int j] H Q := ⟨i, j, rfl, k⟩
theorem i_abs {i : Int} (k : Q (.int (if i < 0 then -i else i)) H) : rAbs [.int i] H Q := ⟨i, rfl, k⟩
theorem i_sub {to ti : TE} {tt : TSet} {v : V} (k : to σ H fun o H1 => ti σ H1 fun i H2 => tt o i v H2 fun H3 => QS σ H3) : gSub to ti tt v σ H QS := k
theorem i_setL {p : Addr} {xs : List V} {k : Int} {j : Nat} {v : V} {QH : Hp → Prop} (h : H p = some (.lst xs)) (hj : ixN xs.length k = some j) (kk : QH (upd H p (.lst (xs.set j v)))) : rSetL (.ref p) (.int k) v H QH := ⟨p, xs, k, j, rfl, rfl, h, hj, kk⟩
theorem i_augN {i : Nat} {x : V} {ti : TIp} (h : σ[i]? = some (some x)) (k : ta σ H fun y H1 => ti x y H1 fun z H2 => D.nx (σ.set i (some z)) H2) : tAug i ta ti D σ H := ⟨x, h, k⟩
theorem i_ipI {f : Int → Int → Int} {i j : Int} (k : Q (.int (f i j)) H) : ipI f (.int i) (.int j) H Q := ⟨i, j, rfl, rfl, k⟩
theorem i_un {r : V → Hp → VK → Prop} (k : ta σ H fun x H1 => r x H1 Q) : tUn r ta σ H Q := k
theorem i_rU {g : Int → V} {i : Int} (k : Q (g i) H) : rU g (.int i) H Q := ⟨i, rfl, k⟩
theorem i_ixL {p : Addr} {xs : List V} {i : Int} {v : V} (h : SqL K H p xs) (hv : atI xs i = some v) (k : Q v H) : rIxL K (.ref p) (.int i) H Q := ⟨p, xs, i, v, rfl, rfl, h, hv, k⟩
theorem i_ixT {p : Addr} {xs : List V} {i : Int} {v : V} (h : SqT K H p xs) (hv : atI xs i = some v) (k : Q v H) : rIxT K (.ref p) (.int i) H Q := ⟨p, xs, i, v, rfl, rfl, h, hv, k⟩
theorem i_sl {r : V → Option Int → Option Int → Hp → VK → Prop} {tl th : TO} (k : ta σ H fun x H1 => tl σ H1 fun l H2 => th σ H2 fun u H3 => r x l u H3 Q) : tSl r ta tl th σ H Q := k
theorem i_noPart {QO : Option Int → Hp → Prop} (k : QO none H) : tNoPart σ H QO := k
theorem i_part {QO : Option Int → Hp → Prop} (k : ta σ H fun x H1 => ∃ i, x = .int i ∧ QO (some i) H1) : tPart ta σ H QO := k
theorem i_int {i : Int} {R : Int → Prop} (k : R i) : ∃ j, V.int i = .int j ∧ R j := ⟨i, rfl, k⟩
theorem i_slL {p : Addr} {xs : List V} {lo hi : Option Int} (h : SqL K H p xs) (k : ∀ q, H q = none → Q (.ref q) (upd H q (.lst (cutV xs lo hi)))) : rSlL K (.ref p) lo hi H Q := ⟨p, xs, rfl, h, k⟩
theorem i_cat {p q : Addr} {xs ys : List V} (h : H p = some (.lst xs)) (h' : H q = some (.lst ys)) (hl : xs.length + ys.length ≤ sizeLine) (k : ∀ r, H r = none → Q (.ref r) (upd H r (.lst (xs ++ ys)))) : rCat (.ref p) (.ref q) H Q := ⟨p, q, xs, ys, rfl, rfl, h, h', hl, k⟩
theorem i_bm {T : String} {r : V → List V → Hp → VK → Prop} (k : ta σ H fun x H1 => tyV K T x H1 ∧ tr σ H1 fun xs H2 => r x xs H2 Q) : tBM K T r ta tr σ H Q := k
theorem i_append {p : Addr} {xs : List V} {y : V} (h : H p = some (.lst xs)) (hl : xs.length < sizeLine) (k : Q .non (upd H p (.lst (xs ++ [y])))) : rAppend (.ref p) [y] H Q := ⟨p, xs, y, rfl, rfl, h, hl, k⟩
theorem i_extend {p q : Addr} {xs ys : List V} (h : H p = some (.lst xs)) (h' : H q = some (.lst ys)) (hl : xs.length + ys.length ≤ sizeLine) (k : Q .non (upd H p (.lst (xs ++ ys)))) : rExtend (.ref p) [.ref q] H Q := ⟨p, q, xs, ys, rfl, rfl, h, h', hl, k⟩
/-! loops over a list, comprehensions over a list or a range -/
def ForL (K : PySem.W.Frag) (g : TG) (tb : TS) (D : Ends) (σ : L2.St) (x : V) (H : Hp) : Prop := iList K (tC x) σ H fun J H1 => ∃ W : Nat → Nat → L2.St → Hp → Prop, (∃ m, W 0 m σ H1) ∧ ∀ i m σ H, W i m σ H →
  (J.stop i H ∧ D.nx σ H) ∨ (J.go i H ∧ ∃ N : L2.St → Hp → Prop, (∀ σ' H', N σ' H' → ∃ m', m' < m ∧ W (i + 1) m' σ' H') ∧ ∀ x H', J.yld i H x H' → g x σ H' fun σ2 H2 => tb { D with nx := N, ct := N, bk := D.nx } σ2 H2)
theorem i_for {g : TG} {tb : TS} (k : ta σ H fun x H1 => ForL K g tb D σ x H1) : tFor (iList K ta) g tb D σ H := k
theorem j_for {g : TG} {tb : TS} {a : Addr} {xs : List V} (h : SqL K H a xs) (Pv : Nat → L2.St → Hp → Prop) (h0 : Pv 0 σ H) (hl : ∀ i σ H, i ≤ xs.length → Pv i σ H → SqL K H a xs)
    (hs : ∀ i x σ H, xs[i]? = some x → Pv i σ H → g x σ H fun σ2 H2 => tb { D with nx := Pv (i + 1), ct := Pv (i + 1), bk := D.nx } σ2 H2) (hd : ∀ σ H, Pv xs.length σ H → D.nx σ H) : ForL K g tb D σ (.ref a) H :=
  ⟨a, rfl, ⟨xs, h⟩, for_list Pv h0 hl hs hd⟩
def LcL (K : PySem.W.Frag) (g : TG) (tt : TT) (te : TE) (vs : List Nat) (σ : L2.St) (x : V) (H : Hp) (Q : VK) : Prop := tLc (iList K (tC x)) g tt te vs σ H Q
theorem i_lcL {g : TG} {tt : TT} {te : TE} {vs : List Nat} (k : ta σ H fun x H1 => LcL K g tt te vs σ x H1 Q) : tLc (iList K ta) g tt te vs σ H Q := k
theorem j_lcL {g : TG} {tt : TT} {te : TE} {vs : List Nat} {a : Addr} {xs : List V} (h : SqL K H a xs) (Pv : Addr → Nat → Hp → Prop) (h0 : ∀ D, H D = none → Pv D 0 (upd H D (.lst []))) (hl : ∀ D, H D = none → ∀ i H, i ≤ xs.length → Pv D i H → SqL K H a xs)
    (hs : ∀ D, H D = none → ∀ i x H, xs[i]? = some x → Pv D i H → g x (wipe σ vs) H fun σ2 H2 => wipe σ2 vs = wipe σ vs ∧ tt σ2 H2 fun b H3 =>
      if b = true then te σ2 H3 fun y H4 => ∃ acc, H4 D = some (.lst acc) ∧ acc.length < sizeLine ∧ Pv D (i + 1) (upd H4 D (.lst (acc ++ [y]))) else Pv D (i + 1) H3) (hd : ∀ D H', H D = none → Pv D xs.length H' → Q (.ref D) H') : LcL K g tt te vs σ (.ref a) H Q :=
  ⟨a, rfl, ⟨xs, h⟩, fun D hD => lc_list (Qd := fun H' => Q (.ref D) H') (Pv D) (h0 D hD) (hl D hD) (hs D hD) (fun H' p => hd D H' hD p)⟩
def LcR (g : TG) (tt : TT) (te : TE) (vs : List Nat) (σ : L2.St) (xs : List V) (H : Hp) (Q : VK) : Prop := ∃ j : Int, xs = [.int j] ∧ -(2 ^ 62) ≤ j ∧ j < 2 ^ 62 ∧ tLc (fun _ H R => R (Itr 0 j.toNat) H) g tt te vs σ H Q
theorem i_lcR {g : TG} {tt : TT} {te : TE} {vs : List Nat} (k : tr σ H fun xs H1 => LcR g tt te vs σ xs H1 Q) : tLc (iRng1 tr) g tt te vs σ H Q := k
theorem j_lcR {g : TG} {tt : TT} {te : TE} {vs : List Nat} {n : Nat} (hn : n < 1000000) (Pv : Addr → Nat → Hp → Prop) (h0 : ∀ D, H D = none → Pv D 0 (upd H D (.lst [])))
    (hs : ∀ D, H D = none → ∀ i H, i < n → Pv D i H → g (.int (0 + i)) (wipe σ vs) H fun σ2 H2 => wipe σ2 vs = wipe σ vs ∧ tt σ2 H2 fun b H3 =>
      if b = true then te σ2 H3 fun y H4 => ∃ acc, H4 D = some (.lst acc) ∧ acc.length < sizeLine ∧ Pv D (i + 1) (upd H4 D (.lst (acc ++ [y]))) else Pv D (i + 1) H3) (hd : ∀ D H', H D = none → Pv D n H' → Q (.ref D) H') : LcR g tt te vs σ [.int (n : Int)] H Q :=
  ⟨n, rfl, by omega, by omega, fun D hD => lc_range (n := n) (Qd := fun H' => Q (.ref D) H') (Pv D) (h0 D hD) (hs D hD) (fun H' p => hd D H' hD p)⟩
theorem i_yes (k : QT true H) : tYes σ H QT := k
theorem i_lst (k : tr σ H fun xs H1 => xs.length ≤ sizeLine ∧ ∀ p, H1 p = none → Q (.ref p) (upd H1 p (.lst xs))) : tLst tr σ H Q := k
theorem i_tup (k : tr σ H fun xs H1 => xs.length ≤ sizeLine ∧ ∀ p, H1 p = none → Q (.ref p) (upd H1 p (.tup xs))) : tTup tr σ H Q := k
end
/-! ### a tuple, a dict of the module -/
def TupK (K : PySem.W.Frag) (a : Addr) (xs : List V) : Prop := ∃ (o : Obj) (its : Array Value) (n : Nat), K.lookup a = some o ∧ o.cls = .type "tuple" ∧ o.data = .seq its n ∧ its.size ≤ sizeLine ∧ Vals xs its.toList
theorem TupK.sq {K : PySem.W.Frag} {a : Addr} {xs : List V} {H : Hp} (h : TupK K a xs) : SqT K H a xs := .inr h
def DictK (K : PySem.W.Frag) (a : Addr) (get : Int → Option V) : Prop := ∃ o, K.lookup a = some o ∧ ∀ (P : Program) (w : World), ∃ vs : List (Key × Value), o.IsDictOf (mixKind P w) vs ∧ ∀ n v, get n = some v → ∃ u, valueAt vs (.inl n) = some u ∧ RelV v u
def DkGet (K : PySem.W.Frag) (x y : V) (H : Hp) (Q : VK) : Prop := ∃ a n get v, x = .ref a ∧ y = .int n ∧ DictK K a get ∧ get n = some v ∧ Q v H
def qDk (K : PySem.W.Frag) (td ty : TE) : TE := fun σ H Q => td σ H fun x H1 => ty σ H1 fun y H2 => DkGet K x y H2 Q
theorem i_dk {K : PySem.W.Frag} {td ty : TE} {σ : L2.St} {H : Hp} {Q : VK} (k : td σ H fun x H1 => ty σ H1 fun y H2 => DkGet K x y H2 Q) : qDk K td ty σ H Q := k
theorem pe_dk {X : Cx} {o i : Expr} {pos : Pos} {td ty : TE} (ho : PE X o td) (hi : PE X i ty) (hs : NoSl i) : PE X (.Subscript o i pos) (qDk X.K td ty) := by
  intro pins s σ H Q I h
  refine subD_of PySem.F.slot_dict_getitem.lookup hs (thn (ho pins s σ H _ I h) fun u s1 ⟨x, H1, I1, rx, q1⟩ => thn (hi pins s1 σ H1 _ I1 q1) fun iv s2 ⟨y, H2, I2, ry, a, n, get, v, ex, ey, ⟨ob, hk, hd⟩, hv, q2⟩ => ?_)
  subst ex
  subst ey
  obtain rfl : u = Value.ref a := rx
  obtain ⟨vs, dd, hget⟩ := hd X.prog X.w
  obtain ⟨w', hw, rw'⟩ := hget n v hv
  have dd' : s2.heap.DictOf (mixKind X.prog X.w) a vs := Heap.dictOf_iff.mpr ⟨ob, I2.kIn a ob hk, dd⟩
  exact ⟨dd'.typeIs, wpAny_getItem_of (kV_is (k := .inl n) ry) dd'.mapOf hw ⟨v, H2, I2.tok _, rw', q2⟩⟩
/-! zip(a list, a tuple) -/
section
variable {prog : Program} {w : World} {A : Around} {E : Value → Shared → Prop} {s : Shared}
/-- a tuple's iterator hands its next item out -/
theorem zt_tup {j t : Addr} {m : Nat} {ys : Array Value} {y : Value} {R : Value → Shared → Prop} (hj : s.heap.IsTupleIter j t m) (ht : s.heap.IsTuple t ys) (hy : ys[m]? = some y)
    (k : ∀ g, g.IsTupleIter j t (m + 1) → Heap.SameBut j s.heap g → R y { s with heap := g }) : wpAny (model prog w) A (Builtin.SmallTypes.nextOf (.ref j)) R E s := by
  have hT := hj.typeIs
  obtain ⟨oj, gj, cj, dj⟩ := hj
  obtain ⟨ot, gt, _, nt, dt⟩ := ht
  unfold Builtin.SmallTypes.nextOf; refine wpAny_bind (wpAny_callSpecial?_slot (name := Str.ofString "__next__") hT F.slot_tuple_iterator_next (wpAny_call_entry F.slot_tuple_iterator_next hT F.entry_tuple_iterator_next ?_ (F.args_tuple_iterator_next_1 _)))
  show wpAny (model prog w) _ (field (.ref j) 0 >>= _) _ _ s
  refine wpAny_bind (wpAny_field gj dj (x := .ref t) rfl ?_)
  show wpAny (model prog w) _ (if (Value.ref t == Value.none) = true then _ else _) _ _ s
  rw [if_neg (by intro q; exact Bool.false_ne_true q)]
  show wpAny (model prog w) _ (field (.ref j) 1 >>= _) _ _ s
  refine wpAny_bind (wpAny_field gj dj (x := .int m 0) rfl ?_)
  show wpAny (model prog w) _ (seqItems? (.ref t) >>= _) _ _ s
  refine wpAny_bind (wpAny_seqItems gt dt ?_)
  simp only [Int.toNat_natCast, hy]
  refine wpAny_bind (wpAny_setField gj dj (by simp) (wpAny_pure ⟨y, rfl, wpAny_pure (k _ ?_ (Heap.SameBut.update ..))⟩))
  refine ⟨_, Heap.get?_update_self _ gj (Obj.isFreed_of_fields (Obj.data_mapFields dj _)), (Obj.cls_mapFields ..).trans cj, ?_⟩
  rw [Obj.data_mapFields dj]
  simp [rawInt]
variable {z U O i j l t : Addr} {m : Nat} {xs ys : Array Value} {x y a b : Value}
/-- both have one more -/
theorem zt_item {R : Option Value → Shared → Prop} (D : ZipApart z U O i j l t) (hz : IsZip s.heap z U O .none) (hU : IsPair s.heap U (.ref i) (.ref j)) (hO : IsPair s.heap O a b)
    (hi : s.heap.IsListIter i l m) (hj : s.heap.IsTupleIter j t m) (hl : s.heap.IsList l xs) (ht : s.heap.IsTuple t ys) (hx : xs[m]? = some x) (hy : ys[m]? = some y)
    (k : ∀ g, IsZip g z U O (rawInt s.heap.objs.size) → IsPair g O x y → g.IsListIter i l (m + 1) → g.IsTupleIter j t (m + 1) → IsPair g s.heap.objs.size x y → g.objs.size = s.heap.objs.size + 1 →
      (∀ c o, c ≠ z → c ≠ O → c ≠ i → c ≠ j → s.heap.get? c = some o → g.get? c = some o) → R (some (.ref s.heap.objs.size)) { s with heap := g }) : wpAny (model prog w) A (pyNext (.ref z)) R E s := by
  have ty : s.TypeIs (.ref z) "zip" := ⟨_, hz, rfl⟩
  unfold pyNext
  refine wpAny_bind (wpAny_attempt (wpAny_callSpecial?_slot (name := Str.ofString "__next__") ty F.slot_zip_next (wpAny_call_entry F.slot_zip_next ty F.entry_zip_next ?_ (F.args_zip_next_1 _))))
  show wpAny (model prog w) _ (field (.ref z) 2 >>= _) _ _ s
  refine wpAny_bind (wpAny_field hz rfl (x := .bool false) rfl ?_); show wpAny (model prog w) _ (field (.ref z) 3 >>= _) _ _ s
  refine wpAny_bind (wpAny_field hz rfl (x := .ref U) rfl (wpAny_bind (wpAny_seqItems hU rfl ?_)))
  show wpAny (model prog w) _ (Builtin.SmallTypes.ownedTupleIsFree (.ref z) >>= _) _ _ s
  unfold Builtin.SmallTypes.ownedTupleIsFree; refine wpAny_bind (wpAny_bind (wpAny_field hz rfl (x := .none) rfl (wpAny_pure ?_)))
  simp only [if_true]
  refine wpAny_bind (wpAny_rule (wpAny_bind (wpAny_field hz rfl (x := .ref O) rfl (wpAny_bind (wpAny_setField_rec hz (by simp) fun g1 z1 s1 => ?_)))))
  replace z1 : IsZip g1 z U O .ellipsis := z1
  refine wpAny_bind ?_
  simp only [List.zipIdx_nil, List.zipIdx_cons, List.forIn_nil, List.forIn_cons]; refine wpAny_bind (wpAny_bind (wpAny_onRaise ?_))
  show wpAny (model prog w) _ (Builtin.SmallTypes.nextOf (.ref i) >>= _) _ _ _
  refine wpAny_bind (wpAny_nextOf_list_item (hi.extBut s1.extBut D.i1z) (hl.extBut s1.extBut D.l1z) hx fun g2 i2 s2 => wpAny_pure ?_)
  have O2 : IsPair g2 O a b := s2.extBut _ _ D.TOi1 (s1.extBut _ _ D.TOz hO)
  refine wpAny_bind (wpAny_seqItems O2 rfl (wpAny_bind (wpAny_updateSeq_pair O2 fun g3 O3 s3 => ?_)))
  replace O3 : IsPair g3 O x b := O3
  refine wpAny_bind (wpAny_letGo (wpAny_pure (wpAny_bind (wpAny_bind (wpAny_onRaise ?_)))))
  show wpAny (model prog w) _ (Builtin.SmallTypes.nextOf (.ref j) >>= _) _ _ _
  have j3 : g3.IsTupleIter j t m := ((hj.extBut s1.extBut D.i2z).extBut s2.extBut D.i12.symm).extBut s3.extBut D.TOi2.symm
  have t3 : g3.IsTuple t ys := ((ht.extBut s1.extBut D.l2z).extBut s2.extBut D.l2i1).extBut s3.extBut D.l2TO
  refine wpAny_bind (zt_tup j3 t3 hy fun g4 j4 s4 => wpAny_pure ?_)
  have O4 : IsPair g4 O x b := s4.extBut _ _ D.TOi2 O3
  refine wpAny_bind (wpAny_seqItems O4 rfl (wpAny_bind (wpAny_updateSeq_pair O4 fun g5 O5 s5 => ?_)))
  replace O5 : IsPair g5 O x y := O5
  refine wpAny_bind (wpAny_letGo (wpAny_pure (wpAny_pure (wpAny_bind (wpAny_seqItems O5 rfl (wpAny_bind (wpAny_newTuple ?_)))))))
  have sz : g5.objs.size = s.heap.objs.size := by rw [s5.1, s4.1, s3.1, s2.1, s1.1]
  have z5 : IsZip g5 z U O .ellipsis := s5.extBut _ _ D.TOz.symm (s4.extBut _ _ D.i2z.symm (s3.extBut _ _ D.TOz.symm (s2.extBut _ _ D.i1z.symm z1)))
  have kp : ∀ c o, c ≠ z → c ≠ O → c ≠ i → c ≠ j → s.heap.get? c = some o → g5.get? c = some o := fun c o n1 n2 n3 n4 e => s5.extBut _ _ n2 (s4.extBut _ _ n4 (s3.extBut _ _ n2 (s2.extBut _ _ n3 (s1.extBut _ _ n1 e))))
  have i5 : g5.IsListIter i l (m + 1) := ((i2.extBut s3.extBut D.TOi1.symm).extBut s4.extBut D.i12).extBut s5.extBut D.TOi1.symm
  have j5 : g5.IsTupleIter j t (m + 1) := j4.extBut s5.extBut D.TOi2.symm
  have lz : z < g5.objs.size := Heap.lt_size z5
  show wpAny (model prog w) _ (Builtin.SmallTypes.ownedTupleHandOut (.ref z) (.ref g5.objs.size) >>= _) _ _ _
  unfold Builtin.SmallTypes.ownedTupleHandOut; have z6 : IsZip (g5.push { cls := .type "tuple", data := .seq #[x, y] }) z U O .ellipsis := Heap.get?_push_of_some _ z5
  refine wpAny_bind (wpAny_bind (wpAny_setField_rec z6 (by simp) fun g7 z7 s7 => ?_))
  replace z7 : IsZip g7 z U O (rawInt g5.objs.size) := z7
  refine wpAny_setField_rec z7 (by simp) fun g8 z8 s8 => ?_
  replace z8 : IsZip g8 z U O (rawInt g5.objs.size) := z8
  have up : ∀ c o, c ≠ z → g5.get? c = some o → g8.get? c = some o := fun c o n1 e => s8.extBut _ _ n1 (s7.extBut _ _ n1 (Heap.get?_push_of_some _ e))
  have T8 : IsPair g8 g5.objs.size x y := s8.extBut _ _ (Nat.ne_of_gt lz) (s7.extBut _ _ (Nat.ne_of_gt lz) (Heap.get?_push_size _ rfl))
  have sz8 : g8.objs.size = g5.objs.size + 1 := by rw [s8.1, s7.1, Heap.size_push]
  rw [sz] at z8 T8 sz8
  refine wpAny_pure ⟨_, rfl, wpAny_pure ?_⟩
  show R (some (.ref g5.objs.size)) _
  rw [sz]
  exact k g8 z8 (up _ _ D.TOz O5) (i5.at fun o e => up _ o D.i1z e) (j5.at fun o e => up _ o D.i2z e) T8 sz8 fun c o n1 n2 n3 n4 e => up c o n1 (kp c o n1 n2 n3 n4 e)
/-- the list is at its end -/
theorem zt_end {R : Option Value → Shared → Prop} (hh : A.handled = none) (D : ZipApart z U O i j l t) (hz : IsZip s.heap z U O .none) (hU : IsPair s.heap U (.ref i) (.ref j))
    (hi : s.heap.IsListIter i l m) (hl : s.heap.IsList l xs) (hx : xs[m]? = none)
    (k : ∀ g, (∀ c o, c ≠ z → c ≠ i → s.heap.get? c = some o → g.get? c = some o) → R none { s with heap := g }) : wpAny (model prog w) A (pyNext (.ref z)) R E s := by
  have ty : s.TypeIs (.ref z) "zip" := ⟨_, hz, rfl⟩
  unfold pyNext
  refine wpAny_bind (wpAny_attempt (wpAny_callSpecial?_slot (name := Str.ofString "__next__") ty F.slot_zip_next (wpAny_call_entry F.slot_zip_next ty F.entry_zip_next ?_ (F.args_zip_next_1 _))))
  show wpAny (model prog w) _ (field (.ref z) 2 >>= _) _ _ s
  refine wpAny_bind (wpAny_field hz rfl (x := .bool false) rfl ?_); show wpAny (model prog w) _ (field (.ref z) 3 >>= _) _ _ s
  refine wpAny_bind (wpAny_field hz rfl (x := .ref U) rfl (wpAny_bind (wpAny_seqItems hU rfl ?_)))
  show wpAny (model prog w) _ (Builtin.SmallTypes.ownedTupleIsFree (.ref z) >>= _) _ _ s
  unfold Builtin.SmallTypes.ownedTupleIsFree; refine wpAny_bind (wpAny_bind (wpAny_field hz rfl (x := .none) rfl (wpAny_pure ?_)))
  simp only [if_true]
  refine wpAny_bind (wpAny_rule (wpAny_bind (wpAny_field hz rfl (x := .ref O) rfl (wpAny_bind (wpAny_setField_rec hz (by simp) fun g1 z1 s1 => ?_)))))
  replace z1 : IsZip g1 z U O .ellipsis := z1
  refine wpAny_bind ?_
  simp only [List.zipIdx_nil, List.zipIdx_cons, List.forIn_nil, List.forIn_cons]; refine wpAny_bind (wpAny_bind (wpAny_onRaise ?_))
  show wpAny (model prog w) _ (Builtin.SmallTypes.nextOf (.ref i) >>= _) _ _ _
  refine wpAny_bind (wpAny_nextOf_list_end hh (hi.extBut s1.extBut D.i1z) (hl.extBut s1.extBut D.l1z) hx fun g2 e s2 he => ?_)
  obtain ⟨oe, goe, coe⟩ := he
  have z2 : IsZip g2 z U O .ellipsis := s2 _ _ D.i1z.symm z1
  have ne : e ≠ z := fun q => by
    rw [q, z2] at goe
    cases goe
    simp at coe
  refine wpAny_setField_rec z2 (by simp) fun g3 _ s3 => ?_
  refine wpAny_bind (wpAny_isInstance (T := "StopIteration") (b := true) ⟨oe, s3.extBut _ _ ne goe, coe⟩ isSubtype_stop (wpAny_pure (k _ fun c o n1 n3 q => ?_)))
  exact s3.extBut _ _ n1 (s2 _ _ n3 (s1.extBut _ _ n1 q))
end
/-! making it -/
abbrev zt1 (h : Heap) (l : Addr) : Heap := h.push { cls := .type "list_iterator", data := .fields #[.ref l, .int 0 0] }
abbrev zt2 (h : Heap) (l t : Addr) : Heap := (zt1 h l).push { cls := .type "tuple_iterator", data := .fields #[.ref t, .int 0 0] }
abbrev zt3 (h : Heap) (l t : Addr) : Heap := (zt2 h l t).push { cls := .type "tuple", data := .seq #[.ref h.objs.size, .ref (zt1 h l).objs.size] }
abbrev zt4 (h : Heap) (l t : Addr) : Heap := (zt3 h l t).push { cls := .type "tuple", data := .seq #[.none, .none] }
abbrev zt5 (h : Heap) (l t : Addr) : Heap := (zt4 h l t).push { cls := .type "zip", data := .fields #[.none, .bool false, .bool false, .ref (zt2 h l t).objs.size, .ref (zt3 h l t).objs.size] }
theorem zt_meets (l t : Addr) (xs ys : Array Value) : Meets (Builtin.«zip.__new__» ⟨[.type "zip", .ref l, .ref t], []⟩) (fun _ R s => s.heap.IsList l xs ∧ s.heap.IsTuple t ys ∧ R (.ok (.ret (.ref (zt4 s.heap l t).objs.size))) { s with heap := zt5 s.heap l t }) :=
  .of_wp fun prog w A R s h => by
    obtain ⟨hp, g, d, tk, os⟩ := s
    obtain ⟨hl, ht, h⟩ := h
    have hsub := sub_zip
    have L1 : Heap.IsList (Shared.heap ⟨hp, g, d, tk, os⟩) l xs := hl
    have L2 : Heap.IsTuple (Shared.heap ⟨hp.push { cls := .type "list_iterator", data := .fields #[.ref l, .int 0 0] }, g, d, tk, os⟩) t ys := Heap.IsTuple.push ht _
    wp_walk using wpAny_pyIter_list L1, wpAny_pyIter_tuple L2
    exact ⟨_, rfl, h⟩
section
variable {prog : Program} {w : World} {A : Around} {E : Value → Shared → Prop} {s : Shared}
theorem zt_call {l t : Addr} {xs ys : Array Value} {R : Value → Shared → Prop} (hl : s.heap.IsList l xs) (ht : s.heap.IsTuple t ys)
    (k : ∀ g, IsZip g (s.heap.objs.size + 4) (s.heap.objs.size + 2) (s.heap.objs.size + 3) .none → IsPair g (s.heap.objs.size + 2) (.ref s.heap.objs.size) (.ref (s.heap.objs.size + 1)) → IsPair g (s.heap.objs.size + 3) .none .none →
      g.IsListIter s.heap.objs.size l 0 → g.IsTupleIter (s.heap.objs.size + 1) t 0 → g.objs.size = s.heap.objs.size + 5 → (∀ c o, s.heap.get? c = some o → g.get? c = some o) → R (.ref (s.heap.objs.size + 4)) { s with heap := g }) :
    wpAny (model prog w) A (call (.type "zip") [.ref l, .ref t]) R E s := by
  refine callType_new F.called_zip (by decide) (F.typeCall_zip_2 _ _) (F.newCall_zip_2 _ _) (fun obj => F.args_object_init_3 obj _ _) F.entry_zip_new (zt_meets l t xs ys) ⟨hl, ht, ?_⟩
  have n1 : (zt1 s.heap l).objs.size = s.heap.objs.size + 1 := Heap.size_push ..
  have n2 : (zt2 s.heap l t).objs.size = s.heap.objs.size + 2 := by rw [Heap.size_push, n1]
  have n3 : (zt3 s.heap l t).objs.size = s.heap.objs.size + 3 := by rw [Heap.size_push, n2]
  have n4 : (zt4 s.heap l t).objs.size = s.heap.objs.size + 4 := by rw [Heap.size_push, n3]
  have n5 : (zt5 s.heap l t).objs.size = s.heap.objs.size + 5 := by rw [Heap.size_push, n4]
  have e5 : (zt5 s.heap l t).get? (zt4 s.heap l t).objs.size = some _ := Heap.get?_push_size _ rfl
  have e4 : (zt5 s.heap l t).get? (zt3 s.heap l t).objs.size = some _ := Heap.get?_push_of_some _ (Heap.get?_push_size _ rfl)
  have e3 : (zt5 s.heap l t).get? (zt2 s.heap l t).objs.size = some _ := Heap.get?_push_of_some _ (Heap.get?_push_of_some _ (Heap.get?_push_size _ rfl))
  have e2 : (zt5 s.heap l t).get? (zt1 s.heap l).objs.size = some _ := Heap.get?_push_of_some _ (Heap.get?_push_of_some _ (Heap.get?_push_of_some _ (Heap.get?_push_size _ rfl)))
  have e1 : (zt5 s.heap l t).get? s.heap.objs.size = some _ := Heap.get?_push_of_some _ (Heap.get?_push_of_some _ (Heap.get?_push_of_some _ (Heap.get?_push_of_some _ (Heap.get?_push_size _ rfl))))
  show _ ∧ _
  rw [n2, n3, n4] at e5
  rw [n1, n2] at e3
  rw [n3] at e4
  rw [n1] at e2
  rw [n4]
  exact ⟨⟨_, e5, rfl⟩, k _ e5 e3 e4 ⟨_, e1, rfl, rfl⟩ ⟨_, e2, rfl, rfl⟩ n5 fun c o q => Heap.get?_push_of_some _ (Heap.get?_push_of_some _ (Heap.get?_push_of_some _ (Heap.get?_push_of_some _ (Heap.get?_push_of_some _ q))))⟩
end
/-- the list at a, the tuple at b, as they stand at each turn, the items in new pairs -/
def ItT (K : PySem.W.Frag) (a b : Addr) : It :=
  ⟨fun i H => ∃ (xs ys : List V) (x y : V), SqL K H a xs ∧ SqT K H b ys ∧ xs[i]? = some x ∧ ys[i]? = some y,
    fun i H v H' => ∃ T x y, v = .ref T ∧ H T = none ∧ H' = upd H T (.tup [x, y]) ∧ (∀ xs, SqL K H a xs → xs[i]? = some x) ∧ ∀ ys, SqT K H b ys → ys[i]? = some y,
    fun i H => ∃ xs : List V, SqL K H a xs ∧ xs.length ≤ i⟩
theorem zt_turn {P : Program} {w : World} {K : PySem.W.Frag} {elts : List Expr} {kk : Nat} {tpos : Pos} {a b z U O i1 i2 : Addr} (D : ZipApart z U O i1 i2 a b) :
    Turn P w K (.Tuple elts kk tpos) (ItT K a b) [z, U, O, i1, i2] z (fun i h => IsZip h z U O .none ∧ IsPair h U (.ref i1) (.ref i2) ∧ (∃ x y, IsPair h O x y) ∧ h.IsListIter i1 a i ∧ h.IsTupleIter i2 b i) where
  mem := by simp
  obj := fun i h st c hc => by
    obtain ⟨hz, hU, ⟨x, y, hO⟩, ⟨o1, e1, _, d1⟩, ⟨o2, e2, _, d2⟩⟩ := st
    have e' : c = z ∨ c = U ∨ c = O ∨ c = i1 ∨ c = i2 := by simpa using hc
    rcases e' with q | q | q | q | q
    · rw [q]; exact ⟨_, hz, fun v r => nomatch r⟩
    · rw [q]; exact ⟨_, hU, fun v r => nomatch r⟩
    · rw [q]; exact ⟨_, hO, fun v r => nomatch r⟩
    · rw [q]; exact ⟨o1, e1, fun v r => by rw [d1] at r; cases r⟩
    · rw [q]; exact ⟨o2, e2, fun v r => by rw [d2] at r; cases r⟩
  keep := fun i h h' st k => by
    obtain ⟨hz, hU, ⟨x, y, hO⟩, h1, h2⟩ := st
    exact ⟨k z (by simp) _ hz, k U (by simp) _ hU, ⟨x, y, k O (by simp) _ hO⟩, h1.at fun o q => k i1 (by simp) o q, h2.at fun o q => k i2 (by simp) o q⟩
  item := by
    intro X hP hw hK hc i pins s σ H E I hf st hg
    subst hP hw hK
    obtain ⟨hz, hU, ⟨x0, y0, hO⟩, h1, h2⟩ := st
    obtain ⟨xs, ys, x, y, hqx, hqy, hx, hy⟩ := hg
    obtain ⟨its, rv, p, _⟩ := I.list hqx
    obtain ⟨its2, rv2, p2, _⟩ := I.tuple hqy
    obtain ⟨u, hu, ru⟩ := rv.get hx
    obtain ⟨u2, hu2, ru2⟩ := rv2.get hy
    have hzl : z < s.heap.objs.size := Heap.lt_size hz
    refine zt_item D hz hU hO h1 h2 p.isList (show s.heap.IsTuple b its2.toArray from p2) (x := u) (y := u2) (by simpa using hu) (by simpa using hu2) fun h' z' O' h1' h2' hT hsz hk => ?_
    refine ⟨_, rfl, wpAny_letOwnedTupleGo_zip (s := { s with heap := h' }) z' fun h'' z'' sb => ?_⟩
    have hT2 : h''.get? s.heap.objs.size = some { cls := .type "tuple", data := .seq #[u, u2] } := (sb.2 _ (Nat.ne_of_gt hzl)).trans hT
    have new : ObjOk X.prog X.w (upd H s.heap.objs.size (.tup [x, y])) h'' s.heap.objs.size (.tup [x, y]) := ⟨by show 2 ≤ sizeLine; decide, [u, u2], .cons ru (.cons ru2 .nil), ⟨_, hT2, rfl, _, rfl⟩⟩
    have I1 : Inv X pins σ (upd H s.heap.objs.size (.tup [x, y])) { s with heap := h'' } :=
      I.turnedNew (t' := s.toks) (ch := [z, U, O, i1, i2]) (fun c o hb q => (sb.2 c (fun q' => hb (by simp [q']))).trans (hk c o (fun q' => hb (by simp [q'])) (fun q' => hb (by simp [q'])) (fun q' => hb (by simp [q'])) (fun q' => hb (by simp [q'])) q)) hf (Nat.le_refl _) new
    refine ⟨.ref s.heap.objs.size, _, I1, rfl, ⟨_, x, y, rfl, I.hok.fresh (Nat.le_refl _), rfl, fun l hl => by rw [I.list_inj hl hqx]; exact hx, fun l hl => by rw [I.tuple_inj hl hqy]; exact hy⟩, ⟨z'', ?_, ⟨u, u2, ?_⟩, ?_, ?_⟩, fun c hcm => ?_⟩
    · exact (sb.2 _ D.TIz).trans (hk _ _ D.TIz D.TITO D.TIi1 D.TIi2 hU)
    · exact (sb.2 _ D.TOz).trans O'
    · exact h1'.at fun o q => (sb.2 _ D.i1z).trans q
    · exact h2'.at fun o q => (sb.2 _ D.i2z).trans q
    · have hlt : c < s.heap.objs.size := by
        have e' : c = z ∨ c = U ∨ c = O ∨ c = i1 ∨ c = i2 := by simpa using hcm
        rcases e' with q | q | q | q | q
        · rw [q]; exact hzl
        · rw [q]; exact Heap.lt_size hU
        · rw [q]; exact Heap.lt_size hO
        · rw [q]; obtain ⟨_, e1, _⟩ := h1; exact Heap.lt_size e1
        · rw [q]; obtain ⟨_, e2, _⟩ := h2; exact Heap.lt_size e2
      rw [upd_ne (Nat.ne_of_lt hlt)]
      exact (hf c hcm).1
  done := by
    intro X hP hw hK hc i pins s σ H E I hf st hg
    subst hP hw hK
    obtain ⟨hz, hU, _, h1, h2⟩ := st
    obtain ⟨xs, hqx, hend⟩ := hg
    obtain ⟨its, rv, p, _⟩ := I.list hqx
    have l1 := rv.length
    exact zt_end (I.ok.hd hc) D hz hU h1 p.isList (by simp; omega) fun h' hk => ⟨rfl, I.turnedL (t' := s.toks) (ch := [z, U, O, i1, i2]) (fun c o hb q => hk c o (fun q' => hb (by simp [q'])) (fun q' => hb (by simp [q'])) q) hf⟩
  self := fun A i s Q E st h => wpAny_pyIter_zip st.1 h
def iZipT (K : PySem.W.Frag) (ta : TA) : TI := fun σ H R => ta σ H fun vs H1 => ∃ a b xs ys, vs = [.ref a, .ref b] ∧ SqL K H1 a xs ∧ SqT K H1 b ys ∧ R (ItT K a b) H1
theorem pi_zipT {X : Cx} {e e2 : Expr} {ta : TA} {p pos tpos : Pos} {elts : List Expr} {kk : Nat} (hg : Gl X "zip") (hm : X.mg "zip" = none) (ha : PA X [e, e2] ta)
    (hs : starEach [e, e2] X.env = (false, eval e X.env) :: starEach [e2] X.env := by rfl) (hpl : (backTo pos (starEach [e2] X.env)).any (·.1) = false := by rfl) :
    PI X (.Tuple elts kk tpos) (.Call (.Name "zip" p) [e, e2] [] pos) (iZipT X.K ta) := by
  intro pins s σ H R I h
  refine Call_ (ld_blt I hg hm boot_zip5 (PyProof.Rows.callWith_type1 (thn (ha pos pins s σ H _ I h) fun us s1 ⟨vs, H1, I1, r1, q1⟩ => ?_) hs hpl))
  obtain ⟨a, b, xs, ys, ex, hqx, hqy, q⟩ := q1
  subst ex
  cases r1 with
  | cons r rr =>
    cases rr with
    | cons r' rr =>
      cases rr
      cases r
      cases r'
      obtain ⟨its, rv, p1, _⟩ := I1.list hqx
      obtain ⟨its2, rv2, p2, _⟩ := I1.tuple hqy
      have la : a < s1.heap.objs.size := p1.lt
      have lb : b < s1.heap.objs.size := p2.lt
      refine zt_call p1.isList (show s1.heap.IsTuple b its2.toArray from p2) fun h' hz hU hO h1 h2 hsz hk => wpAny_pyIter_zip hz ?_
      have I2 : Inv X pins σ H1 { s1 with heap := h' } := I1.kept (t' := s1.toks) hk
      refine ⟨s1.heap.objs.size + 4, [s1.heap.objs.size + 4, s1.heap.objs.size + 2, s1.heap.objs.size + 3, s1.heap.objs.size, s1.heap.objs.size + 1], _, _, H1, rfl, I2, zt_turn (PySem.W.ktu_apart s1.heap.objs.size a b la lb), ⟨hz, hU, ⟨_, _, hO⟩, h1, h2⟩, fun c hcm => ?_, q⟩
      have e' : c = s1.heap.objs.size + 4 ∨ c = s1.heap.objs.size + 2 ∨ c = s1.heap.objs.size + 3 ∨ c = s1.heap.objs.size ∨ c = s1.heap.objs.size + 1 := by simpa using hcm
      have hle : s1.heap.objs.size ≤ c := by rcases e' with q | q | q | q | q <;> (rw [q]; first | exact Nat.le_add_right _ _ | exact Nat.le_refl _)
      exact I1.fpOk hle (I1.hok.fresh hle)
def ForZ (K : PySem.W.Frag) (g : TG) (tb : TS) (D : Ends) (σ : L2.St) (vs : List V) (H : Hp) : Prop := iZipT K (fun _ H R => R vs H) σ H fun J H1 => ∃ W : Nat → Nat → L2.St → Hp → Prop, (∃ m, W 0 m σ H1) ∧ ∀ i m σ H, W i m σ H →
  (J.stop i H ∧ D.nx σ H) ∨ (J.go i H ∧ ∃ N : L2.St → Hp → Prop, (∀ σ' H', N σ' H' → ∃ m', m' < m ∧ W (i + 1) m' σ' H') ∧ ∀ x H', J.yld i H x H' → g x σ H' fun σ2 H2 => tb { D with nx := N, ct := N, bk := D.nx } σ2 H2)
section
variable {K : PySem.W.Frag} {g : TG} {tb : TS} {D : Ends} {σ : L2.St} {H : Hp} {tr : TA}
theorem i_forZ (k : tr σ H fun vs H1 => ForZ K g tb D σ vs H1) : tFor (iZipT K tr) g tb D σ H := k
theorem j_forZ {a b : Addr} {xs ys : List V} (h : SqL K H a xs) (h' : SqT K H b ys) (hl : xs.length = ys.length) (Pv : Nat → L2.St → Hp → Prop) (h0 : Pv 0 σ H) (hk : ∀ i σ H, Pv i σ H → SqL K H a xs ∧ SqT K H b ys)
    (hs : ∀ i x y T σ H, xs[i]? = some x → ys[i]? = some y → Pv i σ H → H T = none → g (.ref T) σ (upd H T (.tup [x, y])) fun σ2 H2 => tb { D with nx := Pv (i + 1), ct := Pv (i + 1), bk := D.nx } σ2 H2) (hd : ∀ σ H, Pv xs.length σ H → D.nx σ H) :
    ForZ K g tb D σ [.ref a, .ref b] H := by
  refine ⟨a, b, xs, ys, rfl, h, h', fun i m σ H => m = xs.length - i ∧ i ≤ xs.length ∧ Pv i σ H, ⟨_, rfl, Nat.zero_le _, h0⟩, ?_⟩
  rintro i m σ H ⟨rfl, hi, p⟩
  obtain ⟨q1, q2⟩ := hk i σ H p
  by_cases e : i < xs.length
  · refine .inr ⟨⟨xs, ys, xs[i], ys[i]'(hl ▸ e), q1, q2, List.getElem?_eq_getElem e, List.getElem?_eq_getElem (hl ▸ e)⟩, Pv (i + 1), fun σ' H' z => ⟨xs.length - (i + 1), by omega, rfl, by omega, z⟩, ?_⟩
    rintro v H' ⟨T, x, y, rfl, hT, rfl, hx, hy⟩
    exact hs i x y T σ H (hx xs q1) (hy ys q2) p hT
  · obtain rfl : i = xs.length := by omega
    exact .inl ⟨⟨xs, q1, Nat.le_refl _⟩, hd σ H p⟩
end
/-! The machine of the program, as it lies on the heap, and the specification's state. -/
def aK : List Str := ["red", "water", "air"]
def sK : List Str := ["n", "dz", "ch", "dt", "w", "t", "s", "d", "room", "k", "leak", "p", "z"]
def tK : List Str := ["from_patient", "bag_water", "air_in", "given_back", "spilt", "drained", "thrown_away", "dialysed", "vented", "moves", "lines"]
def mK : List Str := ["settings", "cells", "source", "h", "bag", "sink", "u", "caught", "stuck", "artery_slipped", "vein_slipped", "readings", "clean", "unlike", "streak", "pressures", "centre", "uncentred", "still", "latches", "totals"]
/-- the classes' addresses -/
structure Cl where
  am : Addr
  se : Addr
  to : Addr
  ma : Addr
  up : Addr
  rg : Addr
/-- the machine's own objects -/
structure Ad where
  m : Addr
  to : Addr
  cl : Addr
  sk : Addr
  rd : Addr
  lt : Addr
  t1 : Addr
  t2 : Addr
  t3 : Addr
  t4 : Addr
  t5 : Addr
  cs : List Addr
  se : Addr
  pr : V
  ce : V
def foot (A : Ad) : List Addr := A.m :: A.to :: A.cl :: A.sk :: A.rd :: A.lt :: A.t1 :: A.t2 :: A.t3 :: A.t4 :: A.t5 :: A.cs
def oV : Option Nat → V
  | none => .non
  | some n => .int n
abbrev nV (n : Nat) : V := .int n
def av (x : Cell) : List V := [.int x.red, .int x.water, .int x.air]
def sv (g : Cfg) : List V := [.int g.n, .int g.dz, .int g.ch, .int g.dt, .int g.w, .int g.t, .int g.s, .int g.d, .int g.room, .int g.k, .int g.leak, .int g.p, .int g.z]
def tv (A : Ad) (t : Tot) : List V := [.ref A.t1, .int t.bag, .int t.air, .ref A.t2, .ref A.t3, .ref A.t4, .ref A.t5, .int t.taken, .int t.vented, .int t.moves, .int t.lays]
def seV (A : Ad) : Option Cfg → V
  | none => .non
  | some _ => .ref A.se
def mv (A : Ad) (s : VSt) : List V := [seV A s.cfg, .ref A.cl, .int s.source, .int s.hem, .int s.bag, .int s.sink, .int s.ultra, .int s.trapped, .ref A.sk, .bl s.slipA, .bl s.slipV, .ref A.rd,
  .int s.clean, .int s.unlike, .int s.streak, A.pr, A.ce, .int s.unc, .int s.still, .ref A.lt, .ref A.to]
/-- an instance with its attributes -/
def Ins (H : Hp) (a C : Addr) (ks : List Str) (vs : List V) : Prop := ∃ dx, H a = some (.ins C dx (ks.zip vs))
/-- nothing but a has changed -/
def Put (H H' : Hp) (a : Addr) : Prop := ∀ b, b ≠ a → H' b = H b
theorem Ins.put {H H' : Hp} {a b C : Addr} {ks : List Str} {vs : List V} (h : Ins H b C ks vs) (p : Put H H' a) (n : b ≠ a) : Ins H' b C ks vs := by
  obtain ⟨dx, e⟩ := h
  exact ⟨dx, by rw [p b n]; exact e⟩
theorem Put.eq {H H' : Hp} {a b : Addr} {o : HO} (p : Put H H' a) (n : b ≠ a) (h : H b = some o) : H' b = some o := by rw [p b n]; exact h
theorem Put.upd {H : Hp} {a : Addr} {o : HO} : Put H (upd H a o) a := fun _ n => upd_ne n
def Pair (F : List Addr) (H : Hp) : Option (Int × Int) → V → Prop
  | none, v => v = .non
  | some x, v => ∃ p, v = .ref p ∧ H p = some (.tup [.int x.1, .int x.2]) ∧ p ∉ F
def Cells (c : Cl) (H : Hp) (cs : List Addr) (l : List Cell) : Prop := cs.length = l.length ∧ ∀ (j : Nat) (a : Addr) (x : Cell), cs[j]? = some a → l[j]? = some x → Ins H a c.am aK (av x)
structure At (c : Cl) (H : Hp) (A : Ad) (s : VSt) : Prop where
  m : Ins H A.m c.ma mK (mv A s)
  to : Ins H A.to c.to tK (tv A s.tot)
  cl : H A.cl = some (.lst (A.cs.map V.ref))
  sk : H A.sk = some (.lst [oV s.stuckA, oV s.stuckB])
  rd : H A.rd = some (.lst (s.win.map nV))
  lt : H A.lt = some (.lst (s.latch.map V.bl))
  t1 : Ins H A.t1 c.am aK (av s.tot.drawn)
  t2 : Ins H A.t2 c.am aK (av s.tot.given)
  t3 : Ins H A.t3 c.am aK (av s.tot.spilt)
  t4 : Ins H A.t4 c.am aK (av s.tot.drained)
  t5 : Ins H A.t5 c.am aK (av s.tot.thrown)
  cs : Cells c H A.cs s.line
  se : ∀ g, s.cfg = some g → Ins H A.se c.se sK (sv g) ∧ A.se ∉ foot A
  pr : Pair (foot A) H s.last A.pr
  ce : Pair (foot A) H s.centre A.ce
  nd : (foot A).Nodup
/-- all that is not the machine's own is as it was, and stays not its own -/
def Fr (H H' : Hp) (A A' : Ad) : Prop := ∀ b o, H b = some o → b ∉ foot A → H' b = some o ∧ b ∉ foot A'
theorem Fr.refl {H : Hp} {A : Ad} : Fr H H A A := fun _ _ h n => ⟨h, n⟩
theorem Fr.trans {H H1 H2 : Hp} {A A1 A2 : Ad} (f : Fr H H1 A A1) (g : Fr H1 H2 A1 A2) : Fr H H2 A A2 := fun b o h n => g b o (f b o h n).1 (f b o h n).2
theorem Put.fr {H H' : Hp} {A : Ad} {a : Addr} (p : Put H H' a) (i : a ∈ foot A) : Fr H H' A A := fun b o h n => ⟨p.eq (fun q => n (q ▸ i)) h, n⟩
section
variable {c : Cl} {H H' : Hp} {A : Ad} {s s' : VSt}
theorem At.ne (a : At c H A s) {i j : Nat} {x y : Addr} (hx : (foot A)[i]? = some x) (hy : (foot A)[j]? = some y) (h : i ≠ j) : x ≠ y := fun q => h (nd_ix a.nd hx (q ▸ hy))
theorem mem_ft {A : Ad} (i : Nat) {x : Addr} (h : (foot A)[i]? = some x) : x ∈ foot A := List.mem_of_getElem? h
theorem ft_cs {A : Ad} {j : Nat} {x : Addr} (h : A.cs[j]? = some x) : (foot A)[j + 11]? = some x := by
  show (A.cs)[j]? = some x
  exact h
theorem Pair.put {F : List Addr} {o : Option (Int × Int)} {v : V} {a : Addr} (h : Pair F H o v) (p : Put H H' a) (i : a ∈ F) : Pair F H' o v := by
  cases o with
  | none => exact h
  | some x =>
    obtain ⟨q, e, hq, n⟩ := h
    exact ⟨q, e, p.eq (fun z => n (z ▸ i)) hq, n⟩
theorem At.se_put (a : At c H A s) {x : Addr} (p : Put H H' x) (i : x ∈ foot A) : ∀ g, s.cfg = some g → Ins H' A.se c.se sK (sv g) ∧ A.se ∉ foot A := fun g hg =>
  let ⟨h, n⟩ := a.se g hg
  ⟨h.put p (fun z => n (z ▸ i)), n⟩
theorem At.cs_put (a : At c H A s) {i : Nat} {x : Addr} (p : Put H H' x) (hx : (foot A)[i]? = some x) (hi : i < 11) : Cells c H' A.cs s.line :=
  ⟨a.cs.1, fun j b y h1 h2 => (a.cs.2 j b y h1 h2).put p (a.ne (ft_cs h1) hx (by omega))⟩
/-- what a store to one of the machine's own numbers leaves alone -/
structure Rest (s s' : VSt) : Prop where
  cfg : s'.cfg = s.cfg := by rfl
  line : s'.line = s.line := by rfl
  ka : s'.stuckA = s.stuckA := by rfl
  kb : s'.stuckB = s.stuckB := by rfl
  win : s'.win = s.win := by rfl
  latch : s'.latch = s.latch := by rfl
  tot : s'.tot = s.tot := by rfl
  last : s'.last = s.last := by rfl
  cen : s'.centre = s.centre := by rfl
theorem At.setM (a : At c H A s) (hm : Ins H' A.m c.ma mK (mv A s')) (p : Put H H' A.m) (r : Rest s s') : At c H' A s' := by
  have i : A.m ∈ foot A := mem_ft 0 rfl
  refine ⟨hm, ?_, ?_, ?_, ?_, ?_, ?_, ?_, ?_, ?_, ?_, ?_, ?_, ?_, ?_, a.nd⟩
  · rw [r.tot]; exact a.to.put p (a.ne (i := 1) (j := 0) rfl rfl (by decide))
  · exact p.eq (a.ne (i := 2) (j := 0) rfl rfl (by decide)) a.cl
  · rw [r.ka, r.kb]; exact p.eq (a.ne (i := 3) (j := 0) rfl rfl (by decide)) a.sk
  · rw [r.win]; exact p.eq (a.ne (i := 4) (j := 0) rfl rfl (by decide)) a.rd
  · rw [r.latch]; exact p.eq (a.ne (i := 5) (j := 0) rfl rfl (by decide)) a.lt
  · rw [r.tot]; exact a.t1.put p (a.ne (i := 6) (j := 0) rfl rfl (by decide))
  · rw [r.tot]; exact a.t2.put p (a.ne (i := 7) (j := 0) rfl rfl (by decide))
  · rw [r.tot]; exact a.t3.put p (a.ne (i := 8) (j := 0) rfl rfl (by decide))
  · rw [r.tot]; exact a.t4.put p (a.ne (i := 9) (j := 0) rfl rfl (by decide))
  · rw [r.tot]; exact a.t5.put p (a.ne (i := 10) (j := 0) rfl rfl (by decide))
  · rw [r.line]; exact a.cs_put p (i := 0) rfl (by decide)
  · rw [r.cfg]; exact a.se_put p i
  · rw [r.last]; exact a.pr.put p i
  · rw [r.cen]; exact a.ce.put p i
/-- a store to a number of the totals -/
theorem At.setT (a : At c H A s) {t : Tot} (hm : Ins H' A.to c.to tK (tv A t)) (p : Put H H' A.to) (h1 : t.drawn = s.tot.drawn := by rfl) (h2 : t.given = s.tot.given := by rfl) (h3 : t.spilt = s.tot.spilt := by rfl) (h4 : t.drained = s.tot.drained := by rfl)
    (h5 : t.thrown = s.tot.thrown := by rfl) : At c H' A { s with tot := t } := by
  have i : A.to ∈ foot A := mem_ft 1 rfl
  refine ⟨a.m.put p (a.ne (i := 0) (j := 1) rfl rfl (by decide)), hm, ?_, ?_, ?_, ?_, ?_, ?_, ?_, ?_, ?_, ?_, ?_, ?_, ?_, a.nd⟩
  · exact p.eq (a.ne (i := 2) (j := 1) rfl rfl (by decide)) a.cl
  · exact p.eq (a.ne (i := 3) (j := 1) rfl rfl (by decide)) a.sk
  · exact p.eq (a.ne (i := 4) (j := 1) rfl rfl (by decide)) a.rd
  · exact p.eq (a.ne (i := 5) (j := 1) rfl rfl (by decide)) a.lt
  · rw [h1]; exact a.t1.put p (a.ne (i := 6) (j := 1) rfl rfl (by decide))
  · rw [h2]; exact a.t2.put p (a.ne (i := 7) (j := 1) rfl rfl (by decide))
  · rw [h3]; exact a.t3.put p (a.ne (i := 8) (j := 1) rfl rfl (by decide))
  · rw [h4]; exact a.t4.put p (a.ne (i := 9) (j := 1) rfl rfl (by decide))
  · rw [h5]; exact a.t5.put p (a.ne (i := 10) (j := 1) rfl rfl (by decide))
  · exact a.cs_put p (i := 1) rfl (by decide)
  · exact a.se_put p i
  · exact a.pr.put p i
  · exact a.ce.put p i
/-- one of the five totals of amounts; k is its place in the machine's own -/
theorem At.setA (a : At c H A s) {t : Tot} {x : Addr} (k : Nat) (hk : (foot A)[k]? = some x) (h6 : 6 ≤ k) (h11 : k < 11) (p : Put H H' x) (hto : tv A t = tv A s.tot := by rfl)
    (h1 : if k = 6 then Ins H' A.t1 c.am aK (av t.drawn) else t.drawn = s.tot.drawn) (h2 : if k = 7 then Ins H' A.t2 c.am aK (av t.given) else t.given = s.tot.given) (h3 : if k = 8 then Ins H' A.t3 c.am aK (av t.spilt) else t.spilt = s.tot.spilt)
    (h4 : if k = 9 then Ins H' A.t4 c.am aK (av t.drained) else t.drained = s.tot.drained) (h5 : if k = 10 then Ins H' A.t5 c.am aK (av t.thrown) else t.thrown = s.tot.thrown) : At c H' A { s with tot := t } := by
  have i : x ∈ foot A := mem_ft k hk
  have w : ∀ {j : Nat} {y z : Addr} {vs : List V} {C : Addr} {ks : List Str}, (foot A)[j]? = some y → j ≠ k → Ins H y C ks vs → Ins H' y C ks vs := fun hj n h => h.put p (a.ne hj hk n)
  refine ⟨w (j := 0) (z := x) rfl (by omega) a.m, ?_, ?_, ?_, ?_, ?_, ?_, ?_, ?_, ?_, ?_, ?_, ?_, ?_, ?_, a.nd⟩
  · show Ins H' A.to c.to tK (tv A t)
    rw [hto]
    exact w (j := 1) (z := x) rfl (by omega) a.to
  · exact p.eq (a.ne (i := 2) rfl hk (by omega)) a.cl
  · exact p.eq (a.ne (i := 3) rfl hk (by omega)) a.sk
  · exact p.eq (a.ne (i := 4) rfl hk (by omega)) a.rd
  · exact p.eq (a.ne (i := 5) rfl hk (by omega)) a.lt
  · show Ins H' A.t1 c.am aK (av t.drawn)
    by_cases e : k = 6
    · rw [if_pos e] at h1; exact h1
    · rw [if_neg e] at h1; rw [h1]; exact w (j := 6) (z := x) rfl (fun q => e q.symm) a.t1
  · show Ins H' A.t2 c.am aK (av t.given)
    by_cases e : k = 7
    · rw [if_pos e] at h2; exact h2
    · rw [if_neg e] at h2; rw [h2]; exact w (j := 7) (z := x) rfl (fun q => e q.symm) a.t2
  · show Ins H' A.t3 c.am aK (av t.spilt)
    by_cases e : k = 8
    · rw [if_pos e] at h3; exact h3
    · rw [if_neg e] at h3; rw [h3]; exact w (j := 8) (z := x) rfl (fun q => e q.symm) a.t3
  · show Ins H' A.t4 c.am aK (av t.drained)
    by_cases e : k = 9
    · rw [if_pos e] at h4; exact h4
    · rw [if_neg e] at h4; rw [h4]; exact w (j := 9) (z := x) rfl (fun q => e q.symm) a.t4
  · show Ins H' A.t5 c.am aK (av t.thrown)
    by_cases e : k = 10
    · rw [if_pos e] at h5; exact h5
    · rw [if_neg e] at h5; rw [h5]; exact w (j := 10) (z := x) rfl (fun q => e q.symm) a.t5
  · exact ⟨a.cs.1, fun j b y h1 h2 => (a.cs.2 j b y h1 h2).put p (a.ne (ft_cs h1) hk (by omega))⟩
  · exact a.se_put p i
  · exact a.pr.put p i
  · exact a.ce.put p i
/-- a store to the cell at j -/
theorem At.setC (a : At c H A s) {j : Nat} {x : Addr} {y : Cell} (hx : A.cs[j]? = some x) (hm : Ins H' x c.am aK (av y)) (p : Put H H' x) : At c H' A { s with line := s.line.set j y } := by
  have i : x ∈ foot A := mem_ft (j + 11) (ft_cs hx)
  have q := ft_cs hx
  refine ⟨a.m.put p (a.ne (i := 0) rfl q (by omega)), a.to.put p (a.ne (i := 1) rfl q (by omega)), ?_, ?_, ?_, ?_, ?_, ?_, ?_, ?_, ?_, ?_, ?_, ?_, ?_, a.nd⟩
  · exact p.eq (a.ne (i := 2) rfl q (by omega)) a.cl
  · exact p.eq (a.ne (i := 3) rfl q (by omega)) a.sk
  · exact p.eq (a.ne (i := 4) rfl q (by omega)) a.rd
  · exact p.eq (a.ne (i := 5) rfl q (by omega)) a.lt
  · exact a.t1.put p (a.ne (i := 6) rfl q (by omega))
  · exact a.t2.put p (a.ne (i := 7) rfl q (by omega))
  · exact a.t3.put p (a.ne (i := 8) rfl q (by omega))
  · exact a.t4.put p (a.ne (i := 9) rfl q (by omega))
  · exact a.t5.put p (a.ne (i := 10) rfl q (by omega))
  · refine ⟨by rw [List.length_set]; exact a.cs.1, fun k b z h1 h2 => ?_⟩
    by_cases e : j = k
    · subst e
      have eb : b = x := Option.some.inj (h1.symm.trans hx)
      subst eb
      have hl : j < s.line.length := by
        rw [← a.cs.1]
        exact (List.getElem?_eq_some_iff.mp hx).1
      rw [List.getElem?_set_self hl] at h2
      cases h2
      exact hm
    · rw [List.getElem?_set_ne e] at h2
      exact (a.cs.2 k b z h1 h2).put p (a.ne (ft_cs h1) q (by omega))
  · exact a.se_put p i
  · exact a.pr.put p i
  · exact a.ce.put p i
/-- a store into the latches -/
theorem At.setL (a : At c H A s) {l : List Bool} (hm : H' A.lt = some (.lst (l.map V.bl))) (p : Put H H' A.lt) : At c H' A { s with latch := l } := by
  have i : A.lt ∈ foot A := mem_ft 5 rfl
  refine ⟨a.m.put p (a.ne (i := 0) (j := 5) rfl rfl (by omega)), a.to.put p (a.ne (i := 1) (j := 5) rfl rfl (by omega)), ?_, ?_, ?_, hm, ?_, ?_, ?_, ?_, ?_, ?_, ?_, ?_, ?_, a.nd⟩
  · exact p.eq (a.ne (i := 2) (j := 5) rfl rfl (by omega)) a.cl
  · exact p.eq (a.ne (i := 3) (j := 5) rfl rfl (by omega)) a.sk
  · exact p.eq (a.ne (i := 4) (j := 5) rfl rfl (by omega)) a.rd
  · exact a.t1.put p (a.ne (i := 6) (j := 5) rfl rfl (by omega))
  · exact a.t2.put p (a.ne (i := 7) (j := 5) rfl rfl (by omega))
  · exact a.t3.put p (a.ne (i := 8) (j := 5) rfl rfl (by omega))
  · exact a.t4.put p (a.ne (i := 9) (j := 5) rfl rfl (by omega))
  · exact a.t5.put p (a.ne (i := 10) (j := 5) rfl rfl (by omega))
  · exact a.cs_put p (i := 5) rfl (by decide)
  · exact a.se_put p i
  · exact a.pr.put p i
  · exact a.ce.put p i
end
section
variable {c : Cl} {H H' : Hp} {A : Ad} {s s' : VSt}
/-- a store to the pressures, to the centre, beside numbers -/
structure Rest7 (s s' : VSt) : Prop where
  cfg : s'.cfg = s.cfg := by rfl
  line : s'.line = s.line := by rfl
  ka : s'.stuckA = s.stuckA := by rfl
  kb : s'.stuckB = s.stuckB := by rfl
  win : s'.win = s.win := by rfl
  latch : s'.latch = s.latch := by rfl
  tot : s'.tot = s.tot := by rfl
theorem At.setP (a : At c H A s) {pr ce : V} (hm : Ins H' A.m c.ma mK (mv { A with pr := pr, ce := ce } s')) (p : Put H H' A.m) (r : Rest7 s s') (hp : Pair (foot A) H' s'.last pr) (hc : Pair (foot A) H' s'.centre ce) : At c H' { A with pr := pr, ce := ce } s' := by
  have i : A.m ∈ foot A := mem_ft 0 rfl
  refine ⟨hm, ?_, ?_, ?_, ?_, ?_, ?_, ?_, ?_, ?_, ?_, ?_, ?_, hp, hc, a.nd⟩
  · rw [r.tot]; exact a.to.put p (a.ne (i := 1) (j := 0) rfl rfl (by decide))
  · exact p.eq (a.ne (i := 2) (j := 0) rfl rfl (by decide)) a.cl
  · rw [r.ka, r.kb]; exact p.eq (a.ne (i := 3) (j := 0) rfl rfl (by decide)) a.sk
  · rw [r.win]; exact p.eq (a.ne (i := 4) (j := 0) rfl rfl (by decide)) a.rd
  · rw [r.latch]; exact p.eq (a.ne (i := 5) (j := 0) rfl rfl (by decide)) a.lt
  · rw [r.tot]; exact a.t1.put p (a.ne (i := 6) (j := 0) rfl rfl (by decide))
  · rw [r.tot]; exact a.t2.put p (a.ne (i := 7) (j := 0) rfl rfl (by decide))
  · rw [r.tot]; exact a.t3.put p (a.ne (i := 8) (j := 0) rfl rfl (by decide))
  · rw [r.tot]; exact a.t4.put p (a.ne (i := 9) (j := 0) rfl rfl (by decide))
  · rw [r.tot]; exact a.t5.put p (a.ne (i := 10) (j := 0) rfl rfl (by decide))
  · rw [r.line]; exact a.cs_put p (i := 0) rfl (by decide)
  · rw [r.cfg]; exact a.se_put p i
theorem Ins.same {a C : Addr} {ks : List Str} {vs : List V} (h : Ins H a C ks vs) (e : Same H H') : Ins H' a C ks vs :=
  let ⟨dx, q⟩ := h
  ⟨dx, e _ _ q⟩
theorem Pair.same {F : List Addr} {o : Option (Int × Int)} {v : V} (h : Pair F H o v) (e : Same H H') : Pair F H' o v := by
  cases o with
  | none => exact h
  | some x =>
    obtain ⟨q, e1, hq, n⟩ := h
    exact ⟨q, e1, e _ _ hq, n⟩
/-- nothing that was there has changed -/
theorem At.same (a : At c H A s) (e : Same H H') : At c H' A s :=
  ⟨a.m.same e, a.to.same e, e _ _ a.cl, e _ _ a.sk, e _ _ a.rd, e _ _ a.lt, a.t1.same e, a.t2.same e, a.t3.same e, a.t4.same e, a.t5.same e, ⟨a.cs.1, fun j b y h1 h2 => (a.cs.2 j b y h1 h2).same e⟩,
    fun g hg => ⟨(a.se g hg).1.same e, (a.se g hg).2⟩, a.pr.same e, a.ce.same e, a.nd⟩
theorem Same.fr (e : Same H H') : Fr H H' A A := fun b o h n => ⟨e _ _ h, n⟩
theorem Ins.some {a C : Addr} {ks : List Str} {vs : List V} (h : Ins H a C ks vs) : ∃ o, H a = some o :=
  let ⟨_, q⟩ := h
  ⟨_, q⟩
theorem At.there (a : At c H A s) {b : Addr} (h : b ∈ foot A) : ∃ o, H b = some o := by
  unfold foot at h
  simp only [List.mem_cons] at h
  rcases h with rfl | rfl | rfl | rfl | rfl | rfl | rfl | rfl | rfl | rfl | rfl | h
  · exact a.m.some
  · exact a.to.some
  · exact ⟨_, a.cl⟩
  · exact ⟨_, a.sk⟩
  · exact ⟨_, a.rd⟩
  · exact ⟨_, a.lt⟩
  · exact a.t1.some
  · exact a.t2.some
  · exact a.t3.some
  · exact a.t4.some
  · exact a.t5.some
  · obtain ⟨j, hj, e⟩ := List.getElem_of_mem h
    have h1 : A.cs[j]? = some b := by rw [List.getElem?_eq_getElem hj, e]
    have h2 : j < s.line.length := by rw [← a.cs.1]; exact hj
    exact (a.cs.2 j b _ h1 (List.getElem?_eq_getElem h2)).some
theorem At.fresh (a : At c H A s) {b : Addr} (h : H b = none) : b ∉ foot A := fun q => by
  obtain ⟨o, e⟩ := a.there q
  rw [h] at e
  cases e
theorem same_new {p : Addr} {o : HO} (h : H p = none) : Same H (upd H p o) := fun b q e => by
  rw [upd_ne (ne_of_none e h)]
  exact e
end
/-! ### the walk's steps over instances -/
section
variable {H : Hp} {Q : VK} {QH : Hp → Prop} {C a : Addr} {ks : List Str} {vs : List V} {v y : V} {i : Nat}
theorem j_Fld (h : Ins H a C ks vs) (hv : vs[i]? = some v) (k : Q v H) : Fld C ks i (.ref a) H Q :=
  let ⟨_, e⟩ := h
  i_Fld e hv k
theorem j_FldSe {c : Cl} {A : Ad} {s : VSt} {g : Cfg} {o : Option Cfg} (a : At c H A s) (hg : s.cfg = some g) (ho : o = some g) (hv : (sv g)[i]? = some v) (k : Q v H) : Fld c.se sK i (seV A o) H Q := by
  subst ho
  exact j_Fld (a.se g hg).1 hv k
theorem j_RcvSe {c : Cl} {A : Ad} {s : VSt} {g : Cfg} {o : Option Cfg} {R : Prop} (a : At c H A s) (hg : s.cfg = some g) (ho : o = some g) (k : R) : Rcv c.se sK (seV A o) H R := by
  subst ho
  obtain ⟨dx, e⟩ := (a.se g hg).1
  exact ⟨_, dx, _, rfl, e, k⟩
theorem j_Rcv {R : Prop} (h : Ins H a C ks vs) (k : R) : Rcv C ks (.ref a) H R :=
  let ⟨_, e⟩ := h
  i_Rcv e k
theorem j_Set (h : Ins H a C ks vs) (hl : (vs[i]?).isSome = true) (k : ∀ H', Ins H' a C ks (vs.set i y) → Put H H' a → QH H') : SetF C ks i (.ref a) y H QH :=
  let ⟨dx, e⟩ := h
  ⟨a, dx, vs, rfl, e, (by
    obtain ⟨v, hv⟩ := Option.isSome_iff_exists.mp hl
    exact (List.getElem?_eq_some_iff.mp hv).1), k _ ⟨dx, upd_same⟩ Put.upd⟩
theorem j_New {f : Str} (h : Ins H a C ks vs) (hf : f ∉ ks) (hl : ks.length = vs.length) (hk : ks.length < 1000) (k : ∀ H', Ins H' a C (ks ++ [f]) (vs ++ [y]) → Put H H' a → QH H') : NewF C f (.ref a) y H QH :=
  let ⟨dx, e⟩ := h
  ⟨a, dx, ks, vs, rfl, e, hf, hl, hk, k _ ⟨dx, upd_same⟩ Put.upd⟩
end
local macro_rules | `(tactic| walk_at "ins") => `(tactic| first | assumption | exact At.m (by assumption) | exact At.to (by assumption) | exact (At.se (by assumption) _ (by assumption)).1 | exact At.t1 (by assumption) | exact At.t2 (by assumption) | exact At.t3 (by assumption) | exact At.t4 (by assumption) | exact At.t5 (by assumption))
local macro_rules | `(tactic| walk_at "step") => `(tactic| first
  | with_reducible refine i_seq ?_ | with_reducible refine i_asg ?_ | with_reducible refine i_name ?_
  | ((with_reducible refine i_var (v := ?v) ?h ?_); (case h => rfl)) | with_reducible refine i_c ?_
  | with_reducible refine i_fld ?_ | ((with_reducible refine j_Fld (vs := ?vs) (v := ?v) ?h ?g ?_); (case h => walk_at "ins"); (case g => rfl))
  | ((with_reducible refine j_FldSe (s := ?s) (g := ?g) (v := ?v) ?a ?hg ?ho ?hv ?_); (case a => assumption); (case hg => assumption); (case ho => assumption); (case hv => rfl))
  | ((with_reducible refine j_RcvSe (s := ?s) (g := ?g) ?a ?hg ?ho ?_); (case a => assumption); (case hg => assumption); (case ho => assumption))
  | with_reducible refine i_set ?_ | with_reducible refine i_aug ?_ | with_reducible refine i_new ?_ | with_reducible refine i_rAdd ?_ | with_reducible refine i_rSub ?_
  | with_reducible refine i_op ?_ | with_reducible refine i_rI0 ?_ | with_reducible refine i_eq ?_ | with_reducible refine i_ne ?_
  | with_reducible refine i_ret ?_ | with_reducible refine i_drop ?_ | with_reducible refine i_next ?_ | with_reducible refine i_ifS ?_
  | with_reducible refine i_test ?_ | with_reducible refine i_tB ?_ | with_reducible refine i_bl ?_ | with_reducible refine i_and ?_ | with_reducible refine i_or ?_ | with_reducible refine i_not ?_
  | with_reducible refine i_andV ?_ | with_reducible refine i_orV ?_ | with_reducible refine i_notV ?_ | with_reducible refine i_if ?_ | with_reducible refine i_isN ?_ | with_reducible refine i_notN ?_
  | with_reducible refine i_cb ?_ | with_reducible refine i_nil ?_ | with_reducible refine i_cons ?_ | with_reducible refine i_call ?_ | with_reducible refine i_meth ?_ | with_reducible refine i_make ?_
  | ((with_reducible refine j_Rcv (vs := ?vs) ?h ?_); (case h => walk_at "ins")) | with_reducible refine i_min2 ?_ | with_reducible refine i_abs ?_ | with_reducible refine i_sub ?_ | ((with_reducible refine i_augN (x := ?x) ?h ?_); (case h => rfl)) | with_reducible refine i_ipI ?_ | with_reducible refine i_un ?_ | with_reducible refine i_rU ?_ | with_reducible refine i_sl ?_ | with_reducible refine i_noPart ?_ | with_reducible refine i_part ?_ | with_reducible refine i_int ?_ | with_reducible refine i_bm ?_ | with_reducible refine i_dk ?_ | with_reducible refine i_forZ ?_ | with_reducible refine i_for ?_ | with_reducible refine i_lcL ?_ | with_reducible refine i_lcR ?_ | with_reducible refine i_yes ?_ | with_reducible refine i_lst ?_ | with_reducible refine i_tup ?_)
local macro_rules | `(tactic| walk_at "go") => `(tactic| repeat walk_at "step")
def top (i : Nat) : Stmt := PySem.Challenge.pw_bloodline_s01_answers.main.body.getD i (.Pass ⟨0, 0, 0, 0⟩)
/-- what the text has written -/
structure Txt (K : PySem.W.Frag) (mg : Str → Option Value) (c : Cl) : Prop where
  cam : Ck K c.am aK
  cse : Ck K c.se sK
  cto : Ck K c.to tK
  cma : Ck K c.ma mK
  b_min : mg "min" = none
  b_max : mg "max" = none
  b_sum : mg "sum" = none
  b_any : mg "any" = none
  b_abs : mg "abs" = none
  b_len : mg "len" = none
  b_zip : mg "zip" = none
  b_range : mg "range" = none
  g_SOURCE_BAG : GInt mg "SOURCE_BAG" 1
  g_SOURCE_PATIENT : GInt mg "SOURCE_PATIENT" 2
  g_SINK_DRAIN : GInt mg "SINK_DRAIN" 0
  g_SINK_PATIENT : GInt mg "SINK_PATIENT" 1
  g_SINK_LOOP : GInt mg "SINK_LOOP" 2
  g_FULL_CELL : GInt mg "FULL_CELL" 1000
  g_MOST_UNLIKE : GInt mg "MOST_UNLIKE" 2
  g_MOST_UNCENTRED : GInt mg "MOST_UNCENTRED" 10
  g_LATCH_AIR : GInt mg "LATCH_AIR" 0
  g_LATCH_UNLIKE : GInt mg "LATCH_UNLIKE" 1
  g_LATCH_THICK : GInt mg "LATCH_THICK" 5
  g_LATCH_UNCENTRED : GInt mg "LATCH_UNCENTRED" 6
  g_MOST_LINES : GInt mg "MOST_LINES" 1000000
  g_MOST_MOVES : GInt mg "MOST_MOVES" 1000000000
  g_MOST_STILL : GInt mg "MOST_STILL" 1000000
  g_A : GInt mg "A" 0
  g_V : GInt mg "V" 1
  g_LATCH_PRESSURE_A : GInt mg "LATCH_PRESSURE_A" 3
  g_LATCH_PRESSURE_V : GInt mg "LATCH_PRESSURE_V" 4
  g_LATCH_STILL : GInt mg "LATCH_STILL" 7
  g_LATCH_LEAK : GInt mg "LATCH_LEAK" 2
  g_MOST_STREAK : GInt mg "MOST_STREAK" 3
  g_ARTERY : GInt mg "ARTERY" 0
  g_USUAL_PRESSURES : GRef mg "USUAL_PRESSURES" c.up
  g_RANGES : GRef mg "RANGES" c.rg
  usual : ∃ a b : Addr, TupK K c.up [.ref a, .ref b] ∧ TupK K a [.int (-300), .int 100] ∧ TupK K b [.int 10, .int 400]
  ranges : ∃ get : Int → Option V, DictK K c.rg get ∧ ∀ p : Int, 0 ≤ p → p ≤ 17 → ∃ (a : Addr) (as : List Addr), get p = some (.ref a) ∧ TupK K a (as.map V.ref) ∧ as.length = (lims p).length ∧ ∀ (i : Nat) (b : Addr) (l : Int × Int), as[i]? = some b → (lims p)[i]? = some l → TupK K b [.int l.1, .int l.2]

section
variable {P : Program} {w : World} {K : PySem.W.Frag} {mg : Str → Option Value} {base : Heap} {c : Cl}
theorem nc_add (a b : Nat) : ((a : Int) + (b : Int)) = ((a + b : Nat) : Int) := rfl
theorem dec_nat (a b : Nat) : decide ((a : Int) = (b : Int)) = decide (a = b) := by
  exact decide_eq_decide.mpr Int.ofNat_inj
/-! ### Amounts -/
abbrev st_Amounts__init_ : Stmt := inClass (top 15) 0
theorem sc_Amounts__init_ : FnScope ["self", "red", "water", "air"] ["self", "red", "water", "air"] (defScope st_Amounts__init_) := ⟨rfl, rfl, rfl, by decide +kernel, rfl, by decide +kernel, by decide +kernel⟩

def spAm (c : Cl) : Sp := fun vs H Q _ => ∃ (p : Addr) (x y z : Int), vs = [.ref p, .int x, .int y, .int z] ∧ Ins H p c.am [] [] ∧ ∀ H', Ins H' p c.am aK [.int x, .int y, .int z] → Put H H' p → Q .non H'
theorem Put.trans {H H1 H2 : Hp} {a : Addr} (p : Put H H1 a) (q : Put H1 H2 a) : Put H H2 a := fun b n => (q b n).trans (p b n)
theorem Put.free {H H' : Hp} {a x : Addr} (p : Put H H' a) (e : ∃ o, H' a = some o) (hx : H' x = none) : H x = none := by
  have n : x ≠ a := fun q => by
    obtain ⟨o, h⟩ := e
    rw [q, h] at hx
    cases hx
  rw [← p x n]
  exact hx
theorem ok_Amounts (D : MakeAt K mg c.am "Amounts" "Amounts.__init__" st_Amounts__init_ ["self", "red", "water", "air"]) (T : Txt K mg c) : MakeOk P w K mg base c.am 1 "Amounts" ["self", "red", "water", "air"] (spAm c) := by
  refine D.ok sc_Amounts__init_ (fun vs H Q E h => ?_) (fun f cdv Ar outer s0 H vs Q E hr h => ?_)
  · obtain ⟨p, x, y, z, rfl, _⟩ := h
    rfl
  · obtain ⟨p, x, y, z, rfl, h, k⟩ := h
    refine ⟨_, (pss_cons (ps_n T.cam (by decide +kernel) (pv 0) (pv 1)) (pss_cons (ps_n T.cam (by decide +kernel) (pv 0) (pv 2)) (pss_one (ps_n T.cam (by decide +kernel) (pv 0) (pv 3))))), ?_⟩
    walk_at "go"
    refine j_New h (by decide +kernel) rfl (by decide) fun H1 h1 p1 => ?_
    walk_at "go"
    refine j_New h1 (by decide +kernel) rfl (by decide) fun H2 h2 p2 => ?_
    walk_at "go"
    refine j_New h2 (by decide +kernel) rfl (by decide) fun H3 h3 p3 => ?_
    exact k H3 h3 ((p1.trans p2).trans p3)
/-- a new Amounts -/
theorem mk_am {H : Hp} {Q : VK} {x y z : Int} {d : Cell} (e : [V.int x, V.int y, V.int z] = av d) (k : ∀ p H', H p = none → Ins H' p c.am aK (av d) → Same H H' → Q (.ref p) H') : Make1 c.am (spAm c) [.int x, .int y, .int z] H Q := by
  intro p dx np nd ne
  refine ⟨p, x, y, z, rfl, ⟨dx, upd_same⟩, fun H' h' pt => ⟨rfl, k p H' np (e ▸ h') fun b o eb => ?_⟩⟩
  rw [pt b (ne_of_none eb np), upd_ne (ne_of_none eb np), upd_ne (ne_of_none eb nd)]
  exact eb
abbrev st_Amounts_take_in : Stmt := inClass (top 15) 1
theorem sc_Amounts_take_in : FnScope ["self", "other"] ["self", "other"] (defScope st_Amounts_take_in) := ⟨rfl, rfl, rfl, by decide +kernel, rfl, by decide +kernel, by decide +kernel⟩

/-- x takes y in -/
def spTake (c : Cl) : Sp := fun vs H Q _ => ∃ (a b : Addr) (x y : Cell), vs = [.ref a, .ref b] ∧ a ≠ b ∧ Ins H a c.am aK (av x) ∧ Ins H b c.am aK (av y) ∧ ∀ H', Ins H' a c.am aK (av (x.add y)) → Put H H' a → Q .non H'
theorem ok_take_in (D : MethAt K c.am "take_in" "Amounts.take_in" st_Amounts_take_in ["self", "other"]) (T : Txt K mg c) : MethOk P w K mg base c.am 1 "take_in" ["self", "other"] (spTake c) := by
  refine D.ok sc_Amounts_take_in (fun vs H Q E h => ?_) (fun f cdv Ar outer s0 H vs Q E hr h => ?_)
  · obtain ⟨a, b, x, y, rfl, _⟩ := h
    rfl
  · obtain ⟨a, b, x, y, rfl, n, ha, hb, k⟩ := h
    refine ⟨_, (pss_cons (ps_fa T.cam 0 (pv 0) (pe_f T.cam 0 (pv 1)) in_add) (pss_cons (ps_fa T.cam 1 (pv 0) (pe_f T.cam 1 (pv 1)) in_add) (pss_one (ps_fa T.cam 2 (pv 0) (pe_f T.cam 2 (pv 1)) in_add)))), ?_⟩
    walk_at "go"
    refine j_Set ha rfl fun H1 h1 p1 => ?_
    have b1 := hb.put p1 n.symm
    walk_at "go"
    refine j_Set h1 rfl fun H2 h2 p2 => ?_
    have b2 := b1.put p2 n.symm
    walk_at "go"
    refine j_Set h2 rfl fun H3 h3 p3 => ?_
    exact k H3 h3 ((p1.trans p2).trans p3)
/-! ### Settings -/
abbrev st_Settings_clean_needed : Stmt := inClass (top 16) 1
theorem sc_Settings_clean_needed : FnScope ["self"] ["self"] (defScope st_Settings_clean_needed) := ⟨rfl, rfl, rfl, by decide +kernel, rfl, by decide +kernel, by decide +kernel⟩

def spNeed (c : Cl) : Sp := fun vs H Q _ => ∃ (a : Addr) (g : Cfg), vs = [.ref a] ∧ Ins H a c.se sK (sv g) ∧ g.dt ≤ g.n ∧ Q (.int (g.n - g.dt : Nat)) H
theorem ok_clean_needed (D : MethAt K c.se "clean_needed" "Settings.clean_needed" st_Settings_clean_needed ["self"]) (T : Txt K mg c) : MethOk P w K mg base c.se 1 "clean_needed" ["self"] (spNeed c) := by
  refine D.ok sc_Settings_clean_needed (fun vs H Q E h => ?_) (fun f cdv Ar outer s0 H vs Q E hr h => ?_)
  · obtain ⟨a, g, rfl, _⟩ := h
    rfl
  · obtain ⟨a, g, rfl, h, hl, k⟩ := h
    refine ⟨_, (pss_one (ps_ret (pe_op op_sub (pe_f T.cse 0 (pv 0)) (pe_f T.cse 3 (pv 0))))), ?_⟩
    walk_at "go"
    rw [← Int.ofNat_sub hl]
    exact k
/-! ### Machine -/
/-- a question: nothing changes -/
def spAsk (c : Cl) (f : VSt → V) : Sp := fun vs H Q _ => ∃ (A : Ad) (s : VSt), vs = [.ref A.m] ∧ At c H A s ∧ Q (f s) H
abbrev st_Machine_joined : Stmt := inClass (top 18) 1
theorem sc_Machine_joined : FnScope ["self"] ["self"] (defScope st_Machine_joined) := ⟨rfl, rfl, rfl, by decide +kernel, rfl, by decide +kernel, by decide +kernel⟩

theorem ok_joined (D : MethAt K c.ma "joined" "Machine.joined" st_Machine_joined ["self"]) (T : Txt K mg c) : MethOk P w K mg base c.ma 1 "joined" ["self"] (spAsk c fun s => .bl (decide (s.sink = 1))) := by
  refine D.ok sc_Machine_joined (fun vs H Q E h => ?_) (fun f cdv Ar outer s0 H vs Q E hr h => ?_)
  · obtain ⟨A, s, rfl, _⟩ := h
    rfl
  · obtain ⟨A, s, rfl, a, k⟩ := h
    refine ⟨_, (pss_one (ps_ret (pe_cmpR op_eq (pe_f T.cma 5 (pv 0)) (pe_gi T.g_SINK_PATIENT) (nomark _)))), ?_⟩
    walk_at "go"
    rw [show decide ((s.sink : Int) = 1) = decide (s.sink = 1) from dec_nat _ 1]
    exact k
abbrev st_Machine_latched : Stmt := inClass (top 18) 2
theorem sc_Machine_latched : FnScope ["self"] ["self"] (defScope st_Machine_latched) := ⟨rfl, rfl, rfl, by decide +kernel, rfl, by decide +kernel, by decide +kernel⟩

theorem ok_latched (D : MethAt K c.ma "latched" "Machine.latched" st_Machine_latched ["self"]) (T : Txt K mg c) : MethOk P w K mg base c.ma 1 "latched" ["self"] (spAsk c fun s => .bl s.latched) := by
  refine D.ok sc_Machine_latched (fun vs H Q E h => ?_) (fun f cdv Ar outer s0 H vs Q E hr h => ?_)
  · obtain ⟨A, s, rfl, _⟩ := h
    rfl
  · obtain ⟨A, s, rfl, a, k⟩ := h
    refine ⟨_, (pss_one (ps_ret (pe_any1 T.b_any (ha := (pa_cons (pe_f T.cma 19 (pv 0)) pa_nil star_Attribute))))), ?_⟩
    walk_at "go"
    exact ⟨_, s.latch, rfl, SqL.of a.lt, k⟩
abbrev st_Machine_held : Stmt := inClass (top 18) 3
theorem sc_Machine_held : FnScope ["self"] ["self"] (defScope st_Machine_held) := ⟨rfl, rfl, rfl, by decide +kernel, rfl, by decide +kernel, by decide +kernel⟩

theorem ok_held (D : MethAt K c.ma "held" "Machine.held" st_Machine_held ["self"]) (T : Txt K mg c) (G_joined : MethOk P w K mg base c.ma 1 "joined" ["self"] (spAsk c fun s => .bl (decide (s.sink = 1)))) (G_latched : MethOk P w K mg base c.ma 1 "latched" ["self"] (spAsk c fun s => .bl s.latched)) :
    MethOk P w K mg base c.ma 2 "held" ["self"] (spAsk c fun s => .bl (decide (s.sink = 1) && s.latched)) := by
  refine D.ok sc_Machine_held (fun vs H Q E h => ?_) (fun f cdv Ar outer s0 H vs Q E hr h => ?_)
  · obtain ⟨A, s, rfl, _⟩ := h
    rfl
  · obtain ⟨A, s, rfl, a, k⟩ := h
    refine ⟨_, (pss_one (ps_ret (pe_and (pe_mth0 T.cma G_joined (by decide +kernel) hr (by decide) (pv 0)) (pe_one (pe_mth0 T.cma G_latched (by decide +kernel) hr (by decide) (pv 0)))))), ?_⟩
    walk_at "go"
    refine ⟨A, s, rfl, a, ?_⟩
    walk_at "go"
    dsimp only at k
    by_cases h1 : s.sink = 1
    · rw [decide_eq_true h1] at k ⊢
      refine iteT ?_
      walk_at "go"
      exact ⟨A, s, rfl, a, k⟩
    · rw [decide_eq_false h1] at k ⊢
      exact iteF k
abbrev st_Machine_raise_latch : Stmt := inClass (top 18) 4
theorem sc_Machine_raise_latch : FnScope ["self", "number"] ["self", "number"] (defScope st_Machine_raise_latch) := ⟨rfl, rfl, rfl, by decide +kernel, rfl, by decide +kernel, by decide +kernel⟩

def spRaise (c : Cl) : Sp := fun vs H Q _ => ∃ (A : Ad) (s : VSt) (n : Nat), vs = [.ref A.m, .int n] ∧ At c H A s ∧ n < s.latch.length ∧ ∀ H', At c H' A (s.raise n true) → Fr H H' A A → Q .non H'
theorem ixN_nat {n k : Nat} (h : k < n) : ixN n (k : Int) = some k := by
  unfold ixN
  rw [if_pos (by omega), if_pos (by omega)]
  rfl
theorem ok_raise_latch (D : MethAt K c.ma "raise_latch" "Machine.raise_latch" st_Machine_raise_latch ["self", "number"]) (T : Txt K mg c) : MethOk P w K mg base c.ma 1 "raise_latch" ["self", "number"] (spRaise c) := by
  refine D.ok sc_Machine_raise_latch (fun vs H Q E h => ?_) (fun f cdv Ar outer s0 H vs Q E hr h => ?_)
  · obtain ⟨A, s, n, rfl, _⟩ := h
    rfl
  · obtain ⟨A, s, n, rfl, a, hn, k⟩ := h
    refine ⟨_, (pss_one (ps_asg pe_bl (pg_sub (pe_f T.cma 19 (pv 0)) (pv 1) set_list))), ?_⟩
    walk_at "go"
    refine i_setL a.lt (ixN_nat (by rw [List.length_map]; exact hn)) ?_
    refine k _ ?_ (Put.upd.fr (mem_ft 5 rfl))
    refine a.setL ?_ Put.upd
    rw [upd_same, ← List.map_set]
end

section
variable {P : Program} {w : World} {K : PySem.W.Frag} {mg : Str → Option Value} {base : Heap} {c : Cl}
abbrev st_Machine_latches_number : Stmt := inClass (top 18) 6
theorem sc_Machine_latches_number : FnScope ["self", "number", "worth", "up"] ["self"] (defScope st_Machine_latches_number) := ⟨rfl, rfl, rfl, by decide +kernel, rfl, by decide +kernel, by decide +kernel⟩

theorem code_snoc : ∀ (l : List Bool) (b : Bool), Vbdlae.code (l ++ [b]) = Vbdlae.code l + 2 ^ l.length * b.toNat
  | [], b => by simp [Vbdlae.code]
  | x :: l, b => by
    show x.toNat + 2 * Vbdlae.code (l ++ [b]) = x.toNat + 2 * Vbdlae.code l + 2 ^ (l.length + 1) * b.toNat
    rw [code_snoc l b, Nat.pow_succ]
    rw [Nat.mul_add, Nat.mul_comm (2 ^ l.length) 2, Nat.mul_assoc, Nat.add_assoc]
theorem take_snoc {α : Type} : ∀ {l : List α} {i : Nat} {x : α}, l[i]? = some x → l.take (i + 1) = l.take i ++ [x]
  | [], i, x, h => by simp at h
  | a :: l, 0, x, h => by
    have e : a = x := Option.some.inj h
    subst e
    rfl
  | a :: l, i + 1, x, h => by
    have ih := take_snoc (l := l) (i := i) (x := x) h
    show a :: l.take (i + 1) = a :: l.take i ++ [x]
    rw [ih]
    rfl
theorem map_at {α β : Type} {f : α → β} {l : List α} {i : Nat} {y : β} (h : (l.map f)[i]? = some y) : ∃ x, l[i]? = some x ∧ y = f x := by
  rw [List.getElem?_map] at h
  cases e : l[i]? with
  | none => rw [e] at h; cases h
  | some x => rw [e] at h; exact ⟨x, rfl, (Option.some.inj h).symm⟩
theorem at_map {α β : Type} {f : α → β} {l : List α} {i : Nat} {x : α} (h : l[i]? = some x) : (l.map f)[i]? = some (f x) := by
  rw [List.getElem?_map, h]
  rfl
def spCode (c : Cl) : Sp := fun vs H Q _ => ∃ (A : Ad) (s : VSt), vs = [.ref A.m] ∧ At c H A s ∧ s.latch.length = 8 ∧ Q (.int (Vbdlae.code s.latch)) H
theorem ok_latches_number (D : MethAt K c.ma "latches_number" "Machine.latches_number" st_Machine_latches_number ["self"]) (T : Txt K mg c) : MethOk P w K mg base c.ma 1 "latches_number" ["self"] (spCode c) := by
  refine D.ok sc_Machine_latches_number (fun vs H Q E h => ?_) (fun f cdv Ar outer s0 H vs Q E hr h => ?_)
  · obtain ⟨A, s, rfl, _⟩ := h
    rfl
  · obtain ⟨A, s, rfl, a, h8, k⟩ := h
    refine ⟨_, (pss_cons (ps_set (i := 1) sc_Machine_latches_number.nd rfl (Or.inl rfl) pe_int) (pss_cons (ps_set (i := 2) sc_Machine_latches_number.nd rfl (Or.inl rfl) pe_int) (pss_cons (ps_for PassesOwn.never rfl (pi_list (pe_f T.cma 19 (pv 0))) (pg_name (i := 3) sc_Machine_latches_number.nd rfl (Or.inl rfl)) (pss_cons (ps_if (pt_val (pv 3)) (pss_one (ps_aug (i := 1) sc_Machine_latches_number.nd rfl (Or.inl rfl) (pv 2) ip_add)) pss_nil) (pss_one (ps_aug (i := 2) sc_Machine_latches_number.nd rfl (Or.inl rfl) pe_int iop_mul)))) (pss_one (ps_ret (pv 1)))))), ?_⟩
    walk_at "go"
    refine j_for (SqL.of a.lt) (fun i σ H' => H' = H ∧ ∃ v, σ = [some (.ref A.m), some (.int (Vbdlae.code (s.latch.take i))), some (.int ((2 ^ i : Nat) : Int)), v]) ⟨rfl, none, rfl⟩ (fun i σ H' _ ⟨e, _⟩ => by rw [e]; exact SqL.of a.lt) ?_ ?_
    · rintro i y σ H' hi ⟨rfl, v, rfl⟩
      obtain ⟨b, hb, rfl⟩ := map_at hi
      have hl : i < 8 := by rw [← h8]; exact (List.getElem?_eq_some_iff.mp hb).1
      have e2 : (s.latch.take i).length = i := by rw [List.length_take]; omega
      have ec : Vbdlae.code (s.latch.take (i + 1)) = Vbdlae.code (s.latch.take i) + 2 ^ i * b.toNat := by rw [take_snoc hb, code_snoc, e2]
      have em : (((2 ^ i : Nat) : Int)) * 2 = ((2 ^ (i + 1) : Nat) : Int) := by rw [Nat.pow_succ]; rfl
      have hm : CMul ((2 ^ i : Nat) : Int) 2 := .inr ⟨by decide, by decide⟩
      walk_at "go"
      cases b with
      | true =>
        refine iteT ?_
        walk_at "go"
        refine i_rI hm ?_
        refine ⟨rfl, some (.bl true), ?_⟩
        rw [ec, em]
        rw [show (true.toNat) = 1 from rfl, Nat.mul_one]
        rfl
      | false =>
        refine iteF ?_
        walk_at "go"
        refine i_rI hm ?_
        refine ⟨rfl, some (.bl false), ?_⟩
        rw [ec, em]
        rfl
    · rintro σ H' ⟨rfl, v, rfl⟩
      rw [List.length_map, List.take_length]
      walk_at "go"
      exact k
abbrev st_Machine_forget_centring : Stmt := inClass (top 18) 8
theorem sc_Machine_forget_centring : FnScope ["self"] ["self"] (defScope st_Machine_forget_centring) := ⟨rfl, rfl, rfl, by decide +kernel, rfl, by decide +kernel, by decide +kernel⟩

def spForget (c : Cl) : Sp := fun vs H Q _ => ∃ (A : Ad) (s : VSt), vs = [.ref A.m] ∧ At c H A s ∧ ∀ H', At c H' { A with pr := .non, ce := .non } (Vbdlae.unjoined s) → Fr H H' A A → Q .non H'
theorem ok_forget_centring (D : MethAt K c.ma "forget_centring" "Machine.forget_centring" st_Machine_forget_centring ["self"]) (T : Txt K mg c) : MethOk P w K mg base c.ma 1 "forget_centring" ["self"] (spForget c) := by
  refine D.ok sc_Machine_forget_centring (fun vs H Q E h => ?_) (fun f cdv Ar outer s0 H vs Q E hr h => ?_)
  · obtain ⟨A, s, rfl, _⟩ := h
    rfl
  · obtain ⟨A, s, rfl, a, k⟩ := h
    refine ⟨_, (pss_cons (ps_f T.cma 15 (pv 0) pe_non) (pss_cons (ps_f T.cma 16 (pv 0) pe_non) (pss_one (ps_f T.cma 17 (pv 0) pe_int)))), ?_⟩
    walk_at "go"
    refine j_Set a.m rfl fun H1 h1 p1 => ?_
    have a1 : At c H1 { A with pr := .non, ce := A.ce } { s with last := none } := a.setP h1 p1 {} rfl (a.ce.put p1 (mem_ft 0 rfl))
    walk_at "go"
    refine j_Set a1.m rfl fun H2 h2 p2 => ?_
    have a2 : At c H2 { A with pr := .non, ce := .non } { s with last := none, centre := none } := a1.setP h2 p2 {} rfl rfl
    walk_at "go"
    refine j_Set a2.m rfl fun H3 h3 p3 => ?_
    have a3 : At c H3 { A with pr := .non, ce := .non } (Vbdlae.unjoined s) := a2.setM h3 p3 {}
    exact k H3 a3 ((p1.trans (p2.trans p3)).fr (mem_ft 0 rfl))
end

section
variable {P : Program} {w : World} {K : PySem.W.Frag} {mg : Str → Option Value} {base : Heap} {c : Cl}
theorem imin (i j : Nat) : (if (j : Int) < (i : Int) then (j : Int) else (i : Int)) = ((min i j : Nat) : Int) := by
  by_cases h : j < i
  · rw [if_pos (by omega), Nat.min_eq_right (by omega)]
  · rw [if_neg (by omega), Nat.min_eq_left (by omega)]
theorem isub {i j : Nat} (h : j ≤ i) : (i : Int) - (j : Int) = ((i - j : Nat) : Int) := (Int.ofNat_sub h).symm
theorem atI_neg1 {α : Type} {xs : List α} {v : α} (h : xs[xs.length - 1]? = some v) : atI xs (-1) = some v := by
  have hl : 0 < xs.length := by
    have := (List.getElem?_eq_some_iff.mp h).1
    omega
  unfold atI ixN
  rw [if_neg (by omega), if_pos (by omega)]
  show xs[((-1 : Int) + (xs.length : Int)).toNat]? = some v
  rw [show ((-1 : Int) + (xs.length : Int)).toNat = xs.length - 1 by omega]
  exact h
theorem last_at {α : Type} {l : List α} {d : α} (h : 0 < l.length) : l[l.length - 1]? = some (l.getLastD d) := by
  cases l with
  | nil => simp at h
  | cons a r => rw [List.getLastD_cons, ← List.getLast?_eq_getElem?, List.getLast?_cons, List.getLastD_eq_getLast?]
/-- the cell at a place -/
theorem At.cell_at {H : Hp} {A : Ad} {s : VSt} (a : At c H A s) {j : Nat} {x : Cell} (h : s.line[j]? = some x) : ∃ b, A.cs[j]? = some b ∧ Ins H b c.am aK (av x) := by
  have hj : j < A.cs.length := by rw [a.cs.1]; exact (List.getElem?_eq_some_iff.mp h).1
  exact ⟨_, List.getElem?_eq_getElem hj, a.cs.2 j _ x (List.getElem?_eq_getElem hj) h⟩
theorem get_D {s : VSt} {j : Nat} (h : j < s.line.length) : s.line[j]? = some (s.line.getD j {}) := by
  rw [List.getD_eq_getElem?_getD, List.getElem?_eq_getElem h]
  rfl
theorem ref_at {A : Ad} {j : Nat} {b : Addr} (h : A.cs[j]? = some b) : atI (A.cs.map V.ref) (j : Int) = some (.ref b) := atI_nat (at_map h)
/-! ### new cells -/
def spCell (c : Cl) (f : VSt → Cell × VSt) : Sp := fun vs H Q _ => ∃ (A : Ad) (s : VSt), vs = [.ref A.m] ∧ At c H A s ∧ s.hem ≤ 1000 ∧ ∀ x H', At c H' A (f s).2 → Fr H H' A A → Ins H' x c.am aK (av (f s).1) → H x = none → Q (.ref x) H'
def airCell (s : VSt) : Cell × VSt := (Vbdlae.allAir, { s with tot := { s.tot with air := s.tot.air + VOL } })
def patCell (s : VSt) : Cell × VSt := ({ red := s.hem, water := VOL - s.hem }, { s with tot := { s.tot with drawn := s.tot.drawn.add { red := s.hem, water := VOL - s.hem } } })
def bagCell (s : VSt) : Cell × VSt := ({ water := min VOL s.bag, air := VOL - min VOL s.bag }, { s with bag := s.bag - min VOL s.bag, tot := { s.tot with bag := s.tot.bag + min VOL s.bag, air := s.tot.air + (VOL - min VOL s.bag) } })
abbrev st_cell_of_air : Stmt := top 26
theorem sc_cell_of_air : FnScope ["machine", "totals"] ["machine"] (defScope st_cell_of_air) := ⟨rfl, rfl, rfl, by decide +kernel, rfl, by decide +kernel, by decide +kernel⟩

theorem ok_cell_of_air (D : DefAt K mg "cell_of_air" st_cell_of_air ["machine"]) (T : Txt K mg c) (G_Amounts : MakeOk P w K mg base c.am 1 "Amounts" ["self", "red", "water", "air"] (spAm c)) : DefOk P w K mg base 3 "cell_of_air" ["machine"] (spCell c airCell) := by
  refine D.ok sc_cell_of_air (fun vs H Q E h => ?_) (fun f cdv Ar outer s0 H vs Q E hr h => ?_)
  · obtain ⟨A, s, rfl, _⟩ := h
    rfl
  · obtain ⟨A, s, rfl, a, _, k⟩ := h
    refine ⟨_, (pss_cons (ps_set (i := 1) sc_cell_of_air.nd rfl (Or.inl rfl) (pe_f T.cma 20 (pv 0))) (pss_cons (ps_fa T.cto 2 (pv 1) (pe_gi T.g_FULL_CELL) in_add) (pss_one (ps_ret (pe_new G_Amounts hr (by decide) (pa_cons pe_int (pa_cons pe_int (pa_cons (pe_gi T.g_FULL_CELL) pa_nil star_Name) star_Constant) star_Constant)))))), ?_⟩
    walk_at "go"
    refine j_Set a.to rfl fun H1 h1 p1 => ?_
    have a1 : At c H1 A (airCell s).2 := a.setT h1 p1
    walk_at "go"
    refine mk_am (d := Vbdlae.allAir) rfl fun x H2 hx hi sm => ?_
    exact k x H2 (a1.same sm) ((p1.fr (mem_ft 1 rfl)).trans (Same.fr sm)) hi (p1.free a1.to.some hx)
abbrev st_cell_from_patient : Stmt := top 25
theorem sc_cell_from_patient : FnScope ["machine", "cell", "totals"] ["machine"] (defScope st_cell_from_patient) := ⟨rfl, rfl, rfl, by decide +kernel, rfl, by decide +kernel, by decide +kernel⟩

theorem ok_cell_from_patient (D : DefAt K mg "cell_from_patient" st_cell_from_patient ["machine"]) (T : Txt K mg c) (G_Amounts : MakeOk P w K mg base c.am 1 "Amounts" ["self", "red", "water", "air"] (spAm c)) (G_take_in : MethOk P w K mg base c.am 1 "take_in" ["self", "other"] (spTake c)) : DefOk P w K mg base 3 "cell_from_patient" ["machine"] (spCell c patCell) := by
  refine D.ok sc_cell_from_patient (fun vs H Q E h => ?_) (fun f cdv Ar outer s0 H vs Q E hr h => ?_)
  · obtain ⟨A, s, rfl, _⟩ := h
    rfl
  · obtain ⟨A, s, rfl, a, hh, k⟩ := h
    refine ⟨_, (pss_cons (ps_set (i := 1) sc_cell_from_patient.nd rfl (Or.inl rfl) (pe_new G_Amounts hr (by decide) (pa_cons (pe_f T.cma 3 (pv 0)) (pa_cons (pe_op op_sub (pe_gi T.g_FULL_CELL) (pe_f T.cma 3 (pv 0))) (pa_cons pe_int pa_nil star_Constant) star_BinOp) star_Attribute))) (pss_cons (ps_set (i := 2) sc_cell_from_patient.nd rfl (Or.inl rfl) (pe_f T.cma 20 (pv 0))) (pss_cons (ps_expr (pe_mth T.cam G_take_in (by decide +kernel) hr (by decide) (pe_f T.cto 0 (pv 2)) (pa_cons (pv 1) pa_nil star_Name))) (pss_one (ps_ret (pv 1)))))), ?_⟩
    walk_at "go"
    have e : (1000 : Int) - (s.hem : Int) = ((VOL - s.hem : Nat) : Int) := isub (i := 1000) hh
    rw [e]
    refine mk_am (d := (patCell s).1) rfl fun x H1 hx hi sm => ?_
    have a1 := a.same sm
    have nx := a.fresh hx
    walk_at "go"
    refine ⟨A.t1, x, s.tot.drawn, (patCell s).1, rfl, fun q => nx (q ▸ mem_ft 6 rfl), a1.t1, hi, fun H2 h2 p2 => ?_⟩
    have a2 : At c H2 A (patCell s).2 := a1.setA 6 rfl (by decide) (by decide) p2 rfl h2 rfl rfl rfl rfl
    walk_at "go"
    exact k x H2 a2 ((Same.fr sm).trans (p2.fr (mem_ft 6 rfl))) (hi.put p2 (fun q => nx (q ▸ mem_ft 6 rfl))) hx
abbrev st_cell_from_bag : Stmt := top 24
theorem sc_cell_from_bag : FnScope ["machine", "water", "air", "totals"] ["machine"] (defScope st_cell_from_bag) := ⟨rfl, rfl, rfl, by decide +kernel, rfl, by decide +kernel, by decide +kernel⟩

theorem ok_cell_from_bag (D : DefAt K mg "cell_from_bag" st_cell_from_bag ["machine"]) (T : Txt K mg c) (G_Amounts : MakeOk P w K mg base c.am 1 "Amounts" ["self", "red", "water", "air"] (spAm c)) : DefOk P w K mg base 3 "cell_from_bag" ["machine"] (spCell c bagCell) := by
  refine D.ok sc_cell_from_bag (fun vs H Q E h => ?_) (fun f cdv Ar outer s0 H vs Q E hr h => ?_)
  · obtain ⟨A, s, rfl, _⟩ := h
    rfl
  · obtain ⟨A, s, rfl, a, hh, k⟩ := h
    refine ⟨_, (pss_cons (ps_set (i := 1) sc_cell_from_bag.nd rfl (Or.inl rfl) (pe_min2 T.b_min (ha := (pa_cons (pe_gi T.g_FULL_CELL) (pa_cons (pe_f T.cma 4 (pv 0)) pa_nil star_Attribute) star_Name)))) (pss_cons (ps_set (i := 2) sc_cell_from_bag.nd rfl (Or.inl rfl) (pe_op op_sub (pe_gi T.g_FULL_CELL) (pv 1))) (pss_cons (ps_fa T.cma 4 (pv 0) (pv 1) in_sub) (pss_cons (ps_set (i := 3) sc_cell_from_bag.nd rfl (Or.inl rfl) (pe_f T.cma 20 (pv 0))) (pss_cons (ps_fa T.cto 1 (pv 3) (pv 1) in_add) (pss_cons (ps_fa T.cto 2 (pv 3) (pv 2) in_add) (pss_one (ps_ret (pe_new G_Amounts hr (by decide) (pa_cons pe_int (pa_cons (pv 1) (pa_cons (pv 2) pa_nil star_Name) star_Name) star_Constant)))))))))), ?_⟩
    walk_at "go"
    have e1 : (if (s.bag : Int) < 1000 then (s.bag : Int) else 1000) = ((min VOL s.bag : Nat) : Int) := imin 1000 s.bag
    have e2 : (1000 : Int) - ((min VOL s.bag : Nat) : Int) = ((VOL - min VOL s.bag : Nat) : Int) := isub (i := 1000) (Nat.min_le_left _ _)
    have e3 : (s.bag : Int) - ((min VOL s.bag : Nat) : Int) = ((s.bag - min VOL s.bag : Nat) : Int) := isub (Nat.min_le_right _ _)
    rw [e1, e2, e3]
    refine j_Set a.m rfl fun H1 h1 p1 => ?_
    have a1 : At c H1 A { s with bag := s.bag - min VOL s.bag } := a.setM h1 p1 {}
    walk_at "go"
    refine j_Set a1.to rfl fun H2 h2 p2 => ?_
    have a2 : At c H2 A { s with bag := s.bag - min VOL s.bag, tot := { s.tot with bag := s.tot.bag + min VOL s.bag } } := a1.setT h2 p2
    walk_at "go"
    refine j_Set a2.to rfl fun H3 h3 p3 => ?_
    have a3 : At c H3 A (bagCell s).2 := a2.setT h3 p3
    walk_at "go"
    refine mk_am (d := (bagCell s).1) rfl fun x H4 hx hi sm => ?_
    exact k x H4 (a3.same sm) ((p1.fr (mem_ft 0 rfl)).trans ((p2.fr (mem_ft 1 rfl)).trans ((p3.fr (mem_ft 1 rfl)).trans (Same.fr sm)))) hi (p1.free a1.m.some (p2.free a2.to.some (p3.free a3.to.some hx)))
end

section
variable {P : Program} {w : World} {K : PySem.W.Frag} {mg : Str → Option Value} {base : Heap} {c : Cl}
theorem inc_loop {s : VSt} (h : s.sink = 2) : Vbdlae.incoming s = (Vbdlae.lastOf s.line, s) := by
  unfold Vbdlae.incoming
  rw [if_pos h]
theorem inc_bag {s : VSt} (h : ¬ s.sink = 2) (h1 : s.source = 1) : Vbdlae.incoming s = bagCell s := by
  unfold Vbdlae.incoming
  rw [if_neg h, if_pos h1]
  rfl
theorem inc_pat {s : VSt} (h : ¬ s.sink = 2) (h1 : ¬ s.source = 1) (h2 : s.source = 2 ∧ s.slipA = false) : Vbdlae.incoming s = patCell s := by
  unfold Vbdlae.incoming
  rw [if_neg h, if_neg h1, if_pos h2]
  rfl
theorem inc_air {s : VSt} (h : ¬ s.sink = 2) (h1 : ¬ s.source = 1) (h2 : ¬ (s.source = 2 ∧ s.slipA = false)) : Vbdlae.incoming s = airCell s := by
  unfold Vbdlae.incoming
  rw [if_neg h, if_neg h1, if_neg h2]
  rfl
def spNew (c : Cl) : Sp := fun vs H Q _ => ∃ (A : Ad) (s : VSt) (g : Cfg), vs = [.ref A.m] ∧ At c H A s ∧ Ok s g ∧ ∀ x H', At c H' A (Vbdlae.incoming s).2 → Fr H H' A A → Ins H' x c.am aK (av (Vbdlae.incoming s).1) →
  (H x = none ∨ (A.cs[A.cs.length - 1]? = some x ∧ (Vbdlae.incoming s).1 = Vbdlae.lastOf s.line)) → Q (.ref x) H'
theorem At.last_cell {H : Hp} {A : Ad} {s : VSt} {g : Cfg} (a : At c H A s) (o : Ok s g) : ∃ x, A.cs[A.cs.length - 1]? = some x ∧ Ins H x c.am aK (av (Vbdlae.lastOf s.line)) := by
  have hl : 0 < s.line.length := by have := o.len; have := o.n8; omega
  obtain ⟨x, h1, h2⟩ := a.cell_at (last_at (d := {}) hl)
  exact ⟨x, by rw [a.cs.1]; exact h1, h2⟩
abbrev st_new_cell : Stmt := top 23
theorem sc_new_cell : FnScope ["machine"] ["machine"] (defScope st_new_cell) := ⟨rfl, rfl, rfl, by decide +kernel, rfl, by decide +kernel, by decide +kernel⟩

theorem ok_new_cell (D : DefAt K mg "new_cell" st_new_cell ["machine"]) (T : Txt K mg c) (G_cell_of_air : DefOk P w K mg base 3 "cell_of_air" ["machine"] (spCell c airCell)) (G_cell_from_patient : DefOk P w K mg base 3 "cell_from_patient" ["machine"] (spCell c patCell)) (G_cell_from_bag : DefOk P w K mg base 3 "cell_from_bag" ["machine"] (spCell c bagCell)) : DefOk P w K mg base 4 "new_cell" ["machine"] (spNew c) := by
  refine D.ok sc_new_cell (fun vs H Q E h => ?_) (fun f cdv Ar outer s0 H vs Q E hr h => ?_)
  · obtain ⟨A, s, g, rfl, _⟩ := h
    rfl
  · obtain ⟨A, s, g, rfl, a, o, k⟩ := h
    refine ⟨_, (pss_cons (ps_if (pt_cmpR op_eq (pe_f T.cma 5 (pv 0)) (pe_gi T.g_SINK_LOOP) (nomark _)) (pss_one (ps_ret (pe_ix ix_list (pe_f T.cma 1 (pv 0)) (pe_un un_neg pe_int) (fun _ _ => rfl)))) pss_nil) (pss_cons (ps_if (pt_cmpR op_eq (pe_f T.cma 2 (pv 0)) (pe_gi T.g_SOURCE_BAG) (nomark _)) (pss_one (ps_ret (pe_def G_cell_from_bag hr (by decide) (pa_cons (pv 0) pa_nil star_Name)))) pss_nil) (pss_cons (ps_if (PW.pt (pw_and (pt_cmpR op_eq (pe_f T.cma 2 (pv 0)) (pe_gi T.g_SOURCE_PATIENT) (nomark _)) (pw_and1 (pt_not (pt_val (pe_f T.cma 9 (pv 0))))))) (pss_one (ps_ret (pe_def G_cell_from_patient hr (by decide) (pa_cons (pv 0) pa_nil star_Name)))) pss_nil) (pss_one (ps_ret (pe_def G_cell_of_air hr (by decide) (pa_cons (pv 0) pa_nil star_Name))))))), ?_⟩
    walk_at "go"
    rw [show decide ((s.sink : Int) = 2) = decide (s.sink = 2) from dec_nat _ 2]
    by_cases h2 : s.sink = 2
    · rw [decide_eq_true h2]
      refine iteT ?_
      walk_at "go"
      obtain ⟨x, hx, hi⟩ := a.last_cell o
      refine i_ixL (SqL.of a.cl) (atI_neg1 (by rw [List.length_map]; exact at_map hx)) ?_
      rw [inc_loop h2] at k
      exact k x H a Fr.refl hi (.inr ⟨hx, rfl⟩)
    · rw [decide_eq_false h2]
      refine iteF ?_
      walk_at "go"
      rw [show decide ((s.source : Int) = 1) = decide (s.source = 1) from dec_nat _ 1]
      by_cases h1 : s.source = 1
      · rw [decide_eq_true h1]
        refine iteT ?_
        walk_at "go"
        rw [inc_bag h2 h1] at k
        exact ⟨A, s, rfl, a, o.hem, fun x H' a' fr hi nx => k x H' a' fr hi (.inl nx)⟩
      · rw [decide_eq_false h1]
        refine iteF ?_
        walk_at "go"
        rw [show decide ((s.source : Int) = 2) = decide (s.source = 2) from dec_nat _ 2]
        have air : ¬ (s.source = 2 ∧ s.slipA = false) → Call1 (spCell c airCell) [V.ref A.m] H Q := fun hn => by
          rw [inc_air h2 h1 hn] at k
          exact ⟨A, s, rfl, a, o.hem, fun x H' a' fr hi nx => k x H' a' fr hi (.inl nx)⟩
        by_cases h3 : s.source = 2
        · rw [decide_eq_true h3]
          refine iteT ?_
          walk_at "go"
          cases h4 : s.slipA with
          | false =>
            refine iteT ?_
            walk_at "go"
            rw [inc_pat h2 h1 ⟨h3, h4⟩] at k
            exact ⟨A, s, rfl, a, o.hem, fun x H' a' fr hi nx => k x H' a' fr hi (.inl nx)⟩
          | true =>
            refine iteF ?_
            walk_at "go"
            exact air fun q => by rw [h4] at q; cases q.2
        · rw [decide_eq_false h3]
          refine iteF ?_
          refine iteF ?_
          walk_at "go"
          exact air fun q => h3 q.1
/-! ### the last cell leaves -/
def spLeave (c : Cl) : Sp := fun vs H Q _ => ∃ (A : Ad) (s : VSt) (g : Cfg), vs = [.ref A.m] ∧ At c H A s ∧ Ok s g ∧ ∀ H', At c H' A (Vbdlae.outgoing s) → Fr H H' A A → Q (.int (Vbdlae.lastOf s.line).air) H'
abbrev st_let_last_leave : Stmt := top 27
theorem sc_let_last_leave : FnScope ["machine", "last", "totals"] ["machine"] (defScope st_let_last_leave) := ⟨rfl, rfl, rfl, by decide +kernel, rfl, by decide +kernel, by decide +kernel⟩

theorem ok_let_last_leave (D : DefAt K mg "let_last_leave" st_let_last_leave ["machine"]) (T : Txt K mg c) (G_take_in : MethOk P w K mg base c.am 1 "take_in" ["self", "other"] (spTake c)) (G_joined : MethOk P w K mg base c.ma 1 "joined" ["self"] (spAsk c fun s => .bl (decide (s.sink = 1)))) : DefOk P w K mg base 2 "let_last_leave" ["machine"] (spLeave c) := by
  refine D.ok sc_let_last_leave (fun vs H Q E h => ?_) (fun f cdv Ar outer s0 H vs Q E hr h => ?_)
  · obtain ⟨A, s, g, rfl, _⟩ := h
    rfl
  · obtain ⟨A, s, g, rfl, a, o, k⟩ := h
    refine ⟨_, (pss_cons (ps_set (i := 1) sc_let_last_leave.nd rfl (Or.inl rfl) (pe_ix ix_list (pe_f T.cma 1 (pv 0)) (pe_un un_neg pe_int) (fun _ _ => rfl))) (pss_cons (ps_set (i := 2) sc_let_last_leave.nd rfl (Or.inl rfl) (pe_f T.cma 20 (pv 0))) (pss_cons (ps_if (pt_cmpR op_eq (pe_f T.cma 5 (pv 0)) (pe_gi T.g_SINK_DRAIN) (nomark _)) (pss_one (ps_expr (pe_mth T.cam G_take_in (by decide +kernel) hr (by decide) (pe_f T.cto 5 (pv 2)) (pa_cons (pv 1) pa_nil star_Name)))) (pss_one (ps_if (PW.pt (pw_and (pt_val (pe_mth0 T.cma G_joined (by decide +kernel) hr (by decide) (pv 0))) (pw_and1 (pt_val (pe_f T.cma 10 (pv 0)))))) (pss_one (ps_expr (pe_mth T.cam G_take_in (by decide +kernel) hr (by decide) (pe_f T.cto 4 (pv 2)) (pa_cons (pv 1) pa_nil star_Name)))) (pss_one (ps_if (pt_val (pe_mth0 T.cma G_joined (by decide +kernel) hr (by decide) (pv 0))) (pss_one (ps_expr (pe_mth T.cam G_take_in (by decide +kernel) hr (by decide) (pe_f T.cto 3 (pv 2)) (pa_cons (pv 1) pa_nil star_Name)))) pss_nil))))) (pss_one (ps_ret (pe_f T.cam 2 (pv 1))))))), ?_⟩
    walk_at "go"
    obtain ⟨x, hx, hi⟩ := a.last_cell o
    have fx := ft_cs hx
    refine i_ixL (SqL.of a.cl) (atI_neg1 (by rw [List.length_map]; exact at_map hx)) ?_
    walk_at "go"
    rw [show decide ((s.sink : Int) = 0) = decide (s.sink = 0) from dec_nat _ 0]
    unfold Vbdlae.outgoing at k
    by_cases h0 : s.sink = 0
    · rw [decide_eq_true h0]
      dsimp only at k
      rw [if_pos h0] at k
      refine iteT ?_
      walk_at "go"
      have n : A.t4 ≠ x := a.ne (i := 9) rfl fx (by omega)
      refine ⟨A.t4, x, s.tot.drained, Vbdlae.lastOf s.line, rfl, n, a.t4, hi, fun H2 h2 p2 => ?_⟩
      have a2 := a.setA (t := { s.tot with drained := s.tot.drained.add (Vbdlae.lastOf s.line) }) 9 rfl (by decide) (by decide) p2 rfl rfl rfl rfl h2 rfl
      have hi2 := hi.put p2 n.symm
      walk_at "go"
      exact k H2 a2 (p2.fr (mem_ft 9 rfl))
    · rw [decide_eq_false h0]
      dsimp only at k
      rw [if_neg h0] at k
      refine iteF ?_
      walk_at "go"
      refine ⟨A, s, rfl, a, ?_⟩
      walk_at "go"
      by_cases h1 : s.sink = 1
      · rw [decide_eq_true h1]
        rw [if_pos h1] at k
        refine iteT ?_
        walk_at "go"
        cases h4 : s.slipV with
        | true =>
          rw [if_pos h4] at k
          refine iteT ?_
          walk_at "go"
          have n : A.t3 ≠ x := a.ne (i := 8) rfl fx (by omega)
          refine ⟨A.t3, x, s.tot.spilt, Vbdlae.lastOf s.line, rfl, n, a.t3, hi, fun H2 h2 p2 => ?_⟩
          have a2 := a.setA (t := { s.tot with spilt := s.tot.spilt.add (Vbdlae.lastOf s.line) }) 8 rfl (by decide) (by decide) p2 rfl rfl rfl h2 rfl rfl
          have hi2 := hi.put p2 n.symm
          walk_at "go"
          exact k H2 a2 (p2.fr (mem_ft 8 rfl))
        | false =>
          rw [if_neg (by rw [h4]; decide)] at k
          refine iteF ?_
          walk_at "go"
          refine ⟨A, s, rfl, a, ?_⟩
          walk_at "go"
          rw [decide_eq_true h1]
          refine iteT ?_
          walk_at "go"
          have n : A.t2 ≠ x := a.ne (i := 7) rfl fx (by omega)
          refine ⟨A.t2, x, s.tot.given, Vbdlae.lastOf s.line, rfl, n, a.t2, hi, fun H2 h2 p2 => ?_⟩
          have a2 := a.setA (t := { s.tot with given := s.tot.given.add (Vbdlae.lastOf s.line) }) 7 rfl (by decide) (by decide) p2 rfl rfl h2 rfl rfl rfl
          have hi2 := hi.put p2 n.symm
          walk_at "go"
          exact k H2 a2 (p2.fr (mem_ft 7 rfl))
      · rw [decide_eq_false h1]
        rw [if_neg h1] at k
        refine iteF ?_
        refine iteF ?_
        walk_at "go"
        refine ⟨A, s, rfl, a, ?_⟩
        walk_at "go"
        rw [decide_eq_false h1]
        refine iteF ?_
        walk_at "go"
        exact k H a Fr.refl
end

section
variable {P : Program} {w : World} {K : PySem.W.Frag} {mg : Str → Option Value} {base : Heap} {c : Cl}
/-- a step of a move: the machine's own objects stay where they are -/
def spStep (c : Cl) (f : Cfg → VSt → VSt) : Sp := fun vs H Q _ => ∃ (A : Ad) (s : VSt) (g : Cfg), vs = [.ref A.m] ∧ At c H A s ∧ Ok s g ∧ ∀ H', At c H' A (f g s) → Fr H H' A A → Q .non H'
abbrev st_dialyse : Stmt := top 28
theorem sc_dialyse : FnScope ["machine", "cell", "taken", "totals"] ["machine"] (defScope st_dialyse) := ⟨rfl, rfl, rfl, by decide +kernel, rfl, by decide +kernel, by decide +kernel⟩

theorem ok_dialyse (D : DefAt K mg "dialyse" st_dialyse ["machine"]) (T : Txt K mg c) : DefOk P w K mg base 1 "dialyse" ["machine"] (spStep c dialysed) := by
  refine D.ok sc_dialyse (fun vs H Q E h => ?_) (fun f cdv Ar outer s0 H vs Q E hr h => ?_)
  · obtain ⟨A, s, g, rfl, _⟩ := h
    rfl
  · obtain ⟨A, s, g, rfl, a, o, k⟩ := h
    have hg := o.cfg
    refine ⟨_, (pss_cons (ps_set (i := 1) sc_dialyse.nd rfl (Or.inl rfl) (pe_ix ix_list (pe_f T.cma 1 (pv 0)) (pe_f T.cse 1 (pe_f T.cma 0 (pv 0))) (fun _ _ => rfl))) (pss_cons (ps_set (i := 2) sc_dialyse.nd rfl (Or.inl rfl) (pe_min2 T.b_min (ha := (pa_cons (pe_f T.cma 6 (pv 0)) (pa_cons (pe_f T.cam 1 (pv 1)) pa_nil star_Attribute) star_Attribute)))) (pss_cons (ps_fa T.cam 1 (pv 1) (pv 2) in_sub) (pss_cons (ps_set (i := 3) sc_dialyse.nd rfl (Or.inl rfl) (pe_f T.cma 20 (pv 0))) (pss_one (ps_fa T.cto 7 (pv 3) (pv 2) in_add)))))), ?_⟩
    walk_at "go"
    obtain ⟨b, hb, hi⟩ := a.cell_at (get_D (s := s) (j := g.dz) (by have := o.len; have := o.ch; have := o.dt; have := o.dn; omega))
    refine i_ixL (SqL.of a.cl) (ref_at hb) ?_
    walk_at "go"
    have e1 : (if (((s.line.getD g.dz {}).water : Nat) : Int) < (s.ultra : Int) then (((s.line.getD g.dz {}).water : Nat) : Int) else (s.ultra : Int)) = ((min s.ultra (s.line.getD g.dz {}).water : Nat) : Int) := imin _ _
    have e2 : (((s.line.getD g.dz {}).water : Nat) : Int) - ((min s.ultra (s.line.getD g.dz {}).water : Nat) : Int) = (((s.line.getD g.dz {}).water - min s.ultra (s.line.getD g.dz {}).water : Nat) : Int) := isub (Nat.min_le_right _ _)
    rw [e1, e2]
    refine j_Set hi rfl fun H1 h1 p1 => ?_
    have a1 := a.setC (y := Vbdlae.dry s.ultra (s.line.getD g.dz {})) hb h1 p1
    walk_at "go"
    refine j_Set a1.to rfl fun H2 h2 p2 => ?_
    have a2 : At c H2 A (dialysed g s) := a1.setT h2 p2
    exact k H2 a2 ((p1.fr (mem_ft _ (ft_cs hb))).trans (p2.fr (mem_ft 1 rfl)))
abbrev st_trap_air : Stmt := top 29
theorem sc_trap_air : FnScope ["machine", "settings", "cell", "taken"] ["machine"] (defScope st_trap_air) := ⟨rfl, rfl, rfl, by decide +kernel, rfl, by decide +kernel, by decide +kernel⟩

theorem ok_trap_air (D : DefAt K mg "trap_air" st_trap_air ["machine"]) (T : Txt K mg c) : DefOk P w K mg base 1 "trap_air" ["machine"] (spStep c trapped) := by
  refine D.ok sc_trap_air (fun vs H Q E h => ?_) (fun f cdv Ar outer s0 H vs Q E hr h => ?_)
  · obtain ⟨A, s, g, rfl, _⟩ := h
    rfl
  · obtain ⟨A, s, g, rfl, a, o, k⟩ := h
    have hg := o.cfg
    refine ⟨_, (pss_cons (ps_set (i := 1) sc_trap_air.nd rfl (Or.inl rfl) (pe_f T.cma 0 (pv 0))) (pss_cons (ps_set (i := 2) sc_trap_air.nd rfl (Or.inl rfl) (pe_ix ix_list (pe_f T.cma 1 (pv 0)) (pe_f T.cse 2 (pv 1)) (fun _ _ => rfl))) (pss_cons (ps_set (i := 3) sc_trap_air.nd rfl (Or.inl rfl) (pe_min2 T.b_min (ha := (pa_cons (pe_f T.cam 2 (pv 2)) (pa_cons (pe_op op_sub (pe_f T.cse 8 (pv 1)) (pe_f T.cma 7 (pv 0))) pa_nil star_BinOp) star_Attribute)))) (pss_cons (ps_fa T.cam 2 (pv 2) (pv 3) in_sub) (pss_one (ps_fa T.cma 7 (pv 0) (pv 3) in_add)))))), ?_⟩
    walk_at "go"
    obtain ⟨b, hb, hi⟩ := a.cell_at (get_D (s := s) (j := g.ch) (by have := o.len; have := o.dt; have := o.dn; omega))
    refine i_ixL (SqL.of a.cl) (ref_at hb) ?_
    walk_at "go"
    have e0 : (g.room : Int) - (s.trapped : Int) = ((g.room - s.trapped : Nat) : Int) := isub o.trap
    rw [e0]
    have e1 : (if ((g.room - s.trapped : Nat) : Int) < (((s.line.getD g.ch {}).air : Nat) : Int) then ((g.room - s.trapped : Nat) : Int) else (((s.line.getD g.ch {}).air : Nat) : Int)) = ((min (g.room - s.trapped) (s.line.getD g.ch {}).air : Nat) : Int) := by
      rw [imin, Nat.min_comm]
    have e2 : (((s.line.getD g.ch {}).air : Nat) : Int) - ((min (g.room - s.trapped) (s.line.getD g.ch {}).air : Nat) : Int) = (((s.line.getD g.ch {}).air - min (g.room - s.trapped) (s.line.getD g.ch {}).air : Nat) : Int) := isub (Nat.min_le_right _ _)
    rw [e1, e2]
    refine j_Set hi rfl fun H1 h1 p1 => ?_
    have a1 := a.setC (y := Vbdlae.freed (g.room - s.trapped) (s.line.getD g.ch {})) hb h1 p1
    walk_at "go"
    refine j_Set a1.m rfl fun H2 h2 p2 => ?_
    have a2 : At c H2 A (trapped g s) := a1.setM h2 p2 {}
    exact k H2 a2 ((p1.fr (mem_ft _ (ft_cs hb))).trans (p2.fr (mem_ft 0 rfl)))
/-! ### the detector -/
theorem turn_read {m : Option V} {x : Cell} {q : Option Nat} {H : Hp} {Q : VK} (k : Q (nV (Vbdlae.reads q x)) H) : tIf (tB (tIsN (tVar 2))) (tVar 1) (tVar 2) [m, some (.int x.air), some (oV q)] H Q := by
  walk_at "go"
  cases q with
  | none =>
    rw [show decide (oV none = V.non) = true from rfl]
    refine iteT ?_
    walk_at "go"
    exact k
  | some n =>
    rw [show decide (oV (some n) = V.non) = false from rfl]
    refine iteF ?_
    walk_at "go"
    exact k
def spRead (c : Cl) : Sp := fun vs H Q _ => ∃ (A : Ad) (s : VSt) (g : Cfg), vs = [.ref A.m] ∧ At c H A s ∧ Ok s g ∧ ∀ p H', H p = none → Same H H' → H' p = some (.lst [nV (Vbdlae.reads s.stuckA (s.line.getD g.dt {})), nV (Vbdlae.reads s.stuckB (s.line.getD g.dt {}))]) → Q (.ref p) H'
abbrev st_read_channels : Stmt := top 30
theorem sc_read_channels : FnScope ["machine", "air", "number"] ["machine"] (defScope st_read_channels) := ⟨rfl, rfl, rfl, by decide +kernel, rfl, by decide +kernel, by decide +kernel⟩

theorem ok_read_channels (D : DefAt K mg "read_channels" st_read_channels ["machine"]) (T : Txt K mg c) : DefOk P w K mg base 1 "read_channels" ["machine"] (spRead c) := by
  refine D.ok sc_read_channels (fun vs H Q E h => ?_) (fun f cdv Ar outer s0 H vs Q E hr h => ?_)
  · obtain ⟨A, s, g, rfl, _⟩ := h
    rfl
  · obtain ⟨A, s, g, rfl, a, o, k⟩ := h
    have hg := o.cfg
    refine ⟨_, (pss_cons (ps_set (i := 1) sc_read_channels.nd rfl (Or.inr rfl) (pe_f T.cam 2 (pe_ix ix_list (pe_f T.cma 1 (pv 0)) (pe_f T.cse 3 (pe_f T.cma 0 (pv 0))) (fun _ _ => rfl)))) (pss_one (ps_ret (pe_lc (own := [("number", 2)]) rfl sc_read_channels.nd (pi_list (pe_f T.cma 8 (pv 0))) (blkOk_by (show blkC ["machine", "air", "number"] (defScope st_read_channels) _ _ = true by decide +kernel)) (fun _ _ _ _ _ => pg_name (i := 2) sc_read_channels.nd rfl (Or.inl rfl)) (fun _ _ _ _ _ => pts_nil) (fun _ _ _ _ _ => (pe_ifExp (pt_cmp (pc_isN (pv 2))) (pv 1) (pv 2))))))), ?_⟩
    walk_at "go"
    obtain ⟨b, hb, hi⟩ := a.cell_at (get_D (s := s) (j := g.dt) (by have := o.len; have := o.dn; omega))
    refine i_ixL (SqL.of a.cl) (ref_at hb) ?_
    walk_at "go"
    refine j_lcL (SqL.of a.sk) (fun D i H' => Same H H' ∧ H' D = some (.lst (([Vbdlae.reads s.stuckA (s.line.getD g.dt {}), Vbdlae.reads s.stuckB (s.line.getD g.dt {})].take i).map nV))) (fun D hD => ⟨same_new hD, upd_same⟩)
      (fun D hD i H' _ ⟨e, _⟩ => SqL.of (e _ _ a.sk)) ?_ ?_
    · rintro D hD i y H' hi' ⟨e, hl⟩
      match i, hi' with
      | 0, hi' =>
        cases hi'
        walk_at "go"
        refine ⟨rfl, ?_⟩
        walk_at "go"
        refine iteT (turn_read ⟨_, hl, by show 0 < sizeLine; decide, fun b o' hb' => ?_, ?_⟩)
        · rw [upd_ne (ne_of_none hb' hD)]
          exact e _ _ hb'
        · exact upd_same
      | 1, hi' =>
        cases hi'
        walk_at "go"
        refine ⟨rfl, ?_⟩
        walk_at "go"
        refine iteT (turn_read ⟨_, hl, by show 1 < sizeLine; decide, fun b o' hb' => ?_, ?_⟩)
        · rw [upd_ne (ne_of_none hb' hD)]
          exact e _ _ hb'
        · exact upd_same
      | i + 2, hi' => simp at hi'
    · rintro D H' hD ⟨e, hl⟩
      exact k D H' hD e hl
end

section
variable {P : Program} {w : World} {K : PySem.W.Frag} {mg : Str → Option Value} {base : Heap} {c : Cl}
theorem nodup_set {α : Type} {l : List α} {i : Nat} {q : α} (h : l.Nodup) (n : q ∉ l) : (l.set i q).Nodup := by
  induction l generalizing i with | nil => exact h | cons a l ih =>
    obtain ⟨h1, h2⟩ := List.nodup_cons.mp h
    have n1 : q ≠ a := fun e => n (e ▸ List.mem_cons_self)
    have n2 : q ∉ l := fun e => n (List.mem_cons_of_mem _ e)
    cases i with
    | zero => exact List.nodup_cons.mpr ⟨n2, h2⟩
    | succ i =>
      refine List.nodup_cons.mpr ⟨fun m => ?_, ih h2 n2⟩
      rcases List.mem_or_eq_of_mem_set m with m | m
      · exact h1 m
      · exact n1 m.symm
theorem not_set {α : Type} {l : List α} {i : Nat} {q b : α} (h : b ∉ l) (n : b ≠ q) : b ∉ l.set i q := fun m => by
  rcases List.mem_or_eq_of_mem_set m with m | m
  · exact h m
  · exact n m
theorem cut_take {xs : List V} {k : Nat} : cutV xs none (some (k : Int)) = xs.take k := by
  unfold cutV
  rw [HT.sIx_none, HT.sIx_nat, List.drop_zero, Nat.sub_zero]
  by_cases h : k ≤ xs.length
  · rw [Nat.min_eq_left h]
  · rw [Nat.min_eq_right (by omega), List.take_of_length_le (by omega), List.take_of_length_le (by omega)]
theorem Ins.neL {H : Hp} {a p C : Addr} {ks : List Str} {vs xs : List V} (h : Ins H a C ks vs) (hp : H p = Option.some (.lst xs)) : a ≠ p := fun q => by
  obtain ⟨dx, e⟩ := h
  rw [q, hp] at e
  cases e
theorem Pair.neL {F F' : List Addr} {H : Hp} {o : Option (Int × Int)} {v : V} {p : Addr} {xs : List V} (h : Pair F H o v) (hp : H p = some (.lst xs)) (f : ∀ b, b ∉ F → b ≠ p → b ∉ F') : Pair F' H o v := by
  cases o with
  | none => exact h
  | some x =>
    obtain ⟨q, e, hq, n⟩ := h
    refine ⟨q, e, hq, f q n fun z => ?_⟩
    rw [z, hp] at hq
    cases hq
/-- the readings are a new list -/
theorem At.setRd {H H' : Hp} {A : Ad} {s : VSt} (a : At c H A s) {q : Addr} {l : List Nat} (nq : q ∉ foot A) (hq : H q = some (.lst (l.map nV))) (hm : Ins H' A.m c.ma mK (mv { A with rd := q } { s with win := l })) (p : Put H H' A.m) :
    At c H' { A with rd := q } { s with win := l } := by
  have i : A.m ∈ foot A := mem_ft 0 rfl
  have nm : q ≠ A.m := fun z => nq (z ▸ i)
  have ff : ∀ b, b ∉ foot A → b ≠ q → b ∉ foot { A with rd := q } := fun b h n => not_set (i := 4) h n
  refine ⟨hm, ?_, ?_, ?_, p.eq nm hq, ?_, ?_, ?_, ?_, ?_, ?_, ?_, ?_, ?_, ?_, nodup_set (i := 4) a.nd nq⟩
  · exact a.to.put p (a.ne (i := 1) (j := 0) rfl rfl (by decide))
  · exact p.eq (a.ne (i := 2) (j := 0) rfl rfl (by decide)) a.cl
  · exact p.eq (a.ne (i := 3) (j := 0) rfl rfl (by decide)) a.sk
  · exact p.eq (a.ne (i := 5) (j := 0) rfl rfl (by decide)) a.lt
  · exact a.t1.put p (a.ne (i := 6) (j := 0) rfl rfl (by decide))
  · exact a.t2.put p (a.ne (i := 7) (j := 0) rfl rfl (by decide))
  · exact a.t3.put p (a.ne (i := 8) (j := 0) rfl rfl (by decide))
  · exact a.t4.put p (a.ne (i := 9) (j := 0) rfl rfl (by decide))
  · exact a.t5.put p (a.ne (i := 10) (j := 0) rfl rfl (by decide))
  · exact a.cs_put p (i := 0) rfl (by decide)
  · intro g hg
    obtain ⟨h1, h2⟩ := a.se_put p i g hg
    exact ⟨h1, ff _ h2 (h1.neL (p.eq nm hq))⟩
  · exact (a.pr.put p i).neL (p.eq nm hq) ff
  · exact (a.ce.put p i).neL (p.eq nm hq) ff
def spRemember (c : Cl) : Sp := fun vs H Q _ => ∃ (A : Ad) (s : VSt) (g : Cfg) (r : Nat), vs = [.ref A.m, nV r] ∧ At c H A s ∧ Ok s g ∧ ∀ q H', At c H' { A with rd := q } (remembered r g s) → Fr H H' A { A with rd := q } → Q .non H'
abbrev st_remember_reading : Stmt := top 31
theorem sc_remember_reading : FnScope ["machine", "reading", "readings"] ["machine", "reading"] (defScope st_remember_reading) := ⟨rfl, rfl, rfl, by decide +kernel, rfl, by decide +kernel, by decide +kernel⟩

theorem ok_remember_reading (D : DefAt K mg "remember_reading" st_remember_reading ["machine", "reading"]) (T : Txt K mg c) : DefOk P w K mg base 1 "remember_reading" ["machine", "reading"] (spRemember c) := by
  refine D.ok sc_remember_reading (fun vs H Q E h => ?_) (fun f cdv Ar outer s0 H vs Q E hr h => ?_)
  · obtain ⟨A, s, g, r, rfl, _⟩ := h
    rfl
  · obtain ⟨A, s, g, r, rfl, a, o, k⟩ := h
    have hg := o.cfg
    refine ⟨_, (pss_cons (ps_set (i := 2) sc_remember_reading.nd rfl (Or.inl rfl) (pe_op op_cat (pe_lst (pa_cons (pv 1) pa_nil star_Name)) (pe_f T.cma 11 (pv 0)))) (pss_one (ps_f T.cma 11 (pv 0) (pe_slice sl_list (pv 2) po_none (po_some (pe_f T.cse 4 (pe_f T.cma 0 (pv 0)))))))), ?_⟩
    walk_at "go"
    refine ⟨by show 1 ≤ sizeLine; decide, fun p hp => ?_⟩
    have e1 := same_new (o := .lst [nV r]) hp
    have a1 := a.same e1
    walk_at "go"
    refine i_cat upd_same a1.rd (by rw [List.length_map]; show 1 + s.win.length ≤ sizeLine; have := o.win; have : 33 ≤ sizeLine := (by decide); omega) fun q hq => ?_
    have e2 := same_new (o := .lst ([nV r] ++ s.win.map nV)) hq
    have a2 := a1.same e2
    walk_at "go"
    refine i_slL (SqL.of upd_same) fun z hz => ?_
    have ec : cutV ([nV r] ++ s.win.map nV) none (some (g.w : Int)) = ((r :: s.win).take g.w).map nV := by
      rw [cut_take, List.map_take]
      rfl
    rw [ec]
    have e3 := same_new (o := .lst (((r :: s.win).take g.w).map nV)) hz
    have a3 := a2.same e3
    have n3 := a2.fresh hz
    walk_at "go"
    refine j_Set a3.m rfl fun H4 h4 p4 => ?_
    have a4 : At c H4 { A with rd := z } (remembered r g s) := a3.setRd n3 upd_same h4 p4
    refine k z H4 a4 fun b o' hb nb => ?_
    have hb3 := e3 _ _ (e2 _ _ (e1 _ _ hb))
    have bz : b ≠ z := ne_of_none (e2 _ _ (e1 _ _ hb)) hz
    exact ⟨p4.eq (fun y => nb (y ▸ mem_ft 0 rfl)) hb3, not_set (i := 4) nb bz⟩
end
section
variable {c : Cl} {H H' : Hp} {A : Ad} {s s' : VSt}
theorem lt_nat (a b : Nat) : decide ((a : Int) < (b : Int)) = decide (a < b) := decide_eq_decide.mpr Int.ofNat_lt
theorem le_nat (a b : Nat) : decide ((a : Int) ≤ (b : Int)) = decide (a ≤ b) := decide_eq_decide.mpr Int.ofNat_le
/-- the latches are a new list -/
theorem At.setLt (a : At c H A s) {q : Addr} {l : List Bool} (nq : q ∉ foot A) (hq : H q = some (.lst (l.map V.bl))) (hm : Ins H' A.m c.ma mK (mv { A with lt := q } { s with latch := l })) (p : Put H H' A.m) :
    At c H' { A with lt := q } { s with latch := l } := by
  have i : A.m ∈ foot A := mem_ft 0 rfl
  have nm : q ≠ A.m := fun z => nq (z ▸ i)
  have ff : ∀ b, b ∉ foot A → b ≠ q → b ∉ foot { A with lt := q } := fun b h n => not_set (i := 5) h n
  refine ⟨hm, ?_, ?_, ?_, ?_, p.eq nm hq, ?_, ?_, ?_, ?_, ?_, ?_, ?_, ?_, ?_, nodup_set (i := 5) a.nd nq⟩
  · exact a.to.put p (a.ne (i := 1) (j := 0) rfl rfl (by decide))
  · exact p.eq (a.ne (i := 2) (j := 0) rfl rfl (by decide)) a.cl
  · exact p.eq (a.ne (i := 3) (j := 0) rfl rfl (by decide)) a.sk
  · exact p.eq (a.ne (i := 4) (j := 0) rfl rfl (by decide)) a.rd
  · exact a.t1.put p (a.ne (i := 6) (j := 0) rfl rfl (by decide))
  · exact a.t2.put p (a.ne (i := 7) (j := 0) rfl rfl (by decide))
  · exact a.t3.put p (a.ne (i := 8) (j := 0) rfl rfl (by decide))
  · exact a.t4.put p (a.ne (i := 9) (j := 0) rfl rfl (by decide))
  · exact a.t5.put p (a.ne (i := 10) (j := 0) rfl rfl (by decide))
  · exact a.cs_put p (i := 0) rfl (by decide)
  · intro g hg
    obtain ⟨h1, h2⟩ := a.se_put p i g hg
    exact ⟨h1, ff _ h2 (h1.neL (p.eq nm hq))⟩
  · exact (a.pr.put p i).neL (p.eq nm hq) ff
  · exact (a.ce.put p i).neL (p.eq nm hq) ff
/-- a store into the channels -/
theorem At.setK (a : At c H A s) {x y : Option Nat} (hm : H' A.sk = some (.lst [oV x, oV y])) (p : Put H H' A.sk) : At c H' A { s with stuckA := x, stuckB := y } := by
  have i : A.sk ∈ foot A := mem_ft 3 rfl
  refine ⟨a.m.put p (a.ne (i := 0) (j := 3) rfl rfl (by omega)), a.to.put p (a.ne (i := 1) (j := 3) rfl rfl (by omega)), ?_, hm, ?_, ?_, ?_, ?_, ?_, ?_, ?_, ?_, ?_, ?_, ?_, a.nd⟩
  · exact p.eq (a.ne (i := 2) (j := 3) rfl rfl (by omega)) a.cl
  · exact p.eq (a.ne (i := 4) (j := 3) rfl rfl (by omega)) a.rd
  · exact p.eq (a.ne (i := 5) (j := 3) rfl rfl (by omega)) a.lt
  · exact a.t1.put p (a.ne (i := 6) (j := 3) rfl rfl (by omega))
  · exact a.t2.put p (a.ne (i := 7) (j := 3) rfl rfl (by omega))
  · exact a.t3.put p (a.ne (i := 8) (j := 3) rfl rfl (by omega))
  · exact a.t4.put p (a.ne (i := 9) (j := 3) rfl rfl (by omega))
  · exact a.t5.put p (a.ne (i := 10) (j := 3) rfl rfl (by omega))
  · exact a.cs_put p (i := 3) rfl (by decide)
  · exact a.se_put p i
  · exact a.pr.put p i
  · exact a.ce.put p i
/-- two instances of unlike attributes differ -/
theorem Ins.neI {a b C C' : Addr} {ks ks' : List Str} {vs vs' : List V} (h : Ins H a C ks vs) (h' : Ins H b C' ks' vs') (n : (ks.zip vs).length ≠ (ks'.zip vs').length) : a ≠ b := fun q => by
  obtain ⟨dx, e⟩ := h
  obtain ⟨dx', e'⟩ := h'
  rw [q, e'] at e
  injection e with e
  injection e with _ _ e
  exact n (by rw [e])
theorem Pair.neI {F F' : List Addr} {o : Option (Int × Int)} {v : V} (h : Pair F H o v) (f : ∀ b, b ∉ F → (∃ xs, H b = some (.tup xs)) → b ∉ F') : Pair F' H o v := by
  cases o with
  | none => exact h
  | some x =>
    obtain ⟨q, e, hq, n⟩ := h
    exact ⟨q, e, hq, f q n ⟨_, hq⟩⟩
theorem not_cells {b q : Addr} {cs : List Addr} (h1 : b ∉ foot A) (h2 : b ≠ q) (h3 : b ∉ cs) : b ∉ foot { A with cl := q, cs := cs } := fun h4 => by
  unfold foot at h1 h4
  simp only [List.mem_cons, not_or] at h1 h4
  obtain ⟨g0, g1, g2, g3, g4, g5, g6, g7, g8, g9, g10, g11⟩ := h1
  rcases h4 with z | z | z | z | z | z | z | z | z | z | z | z
  · exact g0 z
  · exact g1 z
  · exact h2 z
  · exact g3 z
  · exact g4 z
  · exact g5 z
  · exact g6 z
  · exact g7 z
  · exact g8 z
  · exact g9 z
  · exact g10 z
  · exact h3 z
/-- new cells in a new list -/
theorem At.setCells (a : At c H A s) {q : Addr} {cs : List Addr} {l : List Cell} (hq : H q = some (.lst (cs.map V.ref))) (hc : Cells c H cs l) (nd : (foot { A with cl := q, cs := cs }).Nodup) (hm : Ins H' A.m c.ma mK (mv { A with cl := q, cs := cs } { s with line := l })) (p : Put H H' A.m) :
    At c H' { A with cl := q, cs := cs } { s with line := l } := by
  have i : A.m ∈ foot A := mem_ft 0 rfl
  have ne : ∀ {i j : Nat} {x y : Addr}, (foot { A with cl := q, cs := cs })[i]? = some x → (foot { A with cl := q, cs := cs })[j]? = some y → i ≠ j → x ≠ y := fun hx hy h z => h (nd_ix nd hx (z ▸ hy))
  have nm : q ≠ A.m := ne (i := 2) (j := 0) rfl rfl (by decide)
  have nc : ∀ {j : Nat} {x : Addr}, cs[j]? = some x → ∃ y, Ins H x c.am aK (av y) := fun {j x} h => by
    have hj : j < l.length := by rw [← hc.1]; exact (List.getElem?_eq_some_iff.mp h).1
    exact ⟨_, hc.2 j x _ h (List.getElem?_eq_getElem hj)⟩
  have out : ∀ b, b ∉ foot A → b ≠ q → b ∉ cs → b ∉ foot { A with cl := q, cs := cs } := fun b h1 h2 h3 => not_cells h1 h2 h3
  have tup : ∀ b, b ∉ foot A → (∃ xs, H b = some (.tup xs)) → b ∉ foot { A with cl := q, cs := cs } := fun b h1 ⟨xs, h2⟩ => by
    refine out b h1 (fun z => ?_) (fun z => ?_)
    · rw [z, hq] at h2; cases h2
    · obtain ⟨j, hj, e⟩ := List.getElem_of_mem z
      obtain ⟨y, dx, hy⟩ := nc (List.getElem?_eq_getElem hj)
      rw [e, h2] at hy
      cases hy
  refine ⟨hm, ?_, p.eq nm hq, ?_, ?_, ?_, ?_, ?_, ?_, ?_, ?_, ?_, ?_, ?_, ?_, nd⟩
  · exact a.to.put p (a.ne (i := 1) (j := 0) rfl rfl (by decide))
  · exact p.eq (a.ne (i := 3) (j := 0) rfl rfl (by decide)) a.sk
  · exact p.eq (a.ne (i := 4) (j := 0) rfl rfl (by decide)) a.rd
  · exact p.eq (a.ne (i := 5) (j := 0) rfl rfl (by decide)) a.lt
  · exact a.t1.put p (a.ne (i := 6) (j := 0) rfl rfl (by decide))
  · exact a.t2.put p (a.ne (i := 7) (j := 0) rfl rfl (by decide))
  · exact a.t3.put p (a.ne (i := 8) (j := 0) rfl rfl (by decide))
  · exact a.t4.put p (a.ne (i := 9) (j := 0) rfl rfl (by decide))
  · exact a.t5.put p (a.ne (i := 10) (j := 0) rfl rfl (by decide))
  · exact ⟨hc.1, fun j b y h1 h2 => (hc.2 j b y h1 h2).put p (ne (i := j + 11) (j := 0) (by show cs[j]? = some b; exact h1) rfl (by omega))⟩
  · intro g hg
    obtain ⟨h1, h2⟩ := a.se g hg
    refine ⟨h1.put p (fun z => h2 (z ▸ i)), out _ h2 (h1.neL hq) fun z => ?_⟩
    obtain ⟨j, hj, e⟩ := List.getElem_of_mem z
    obtain ⟨y, hy⟩ := nc (List.getElem?_eq_getElem hj)
    rw [e] at hy
    exact h1.neI hy (by show 13 ≠ 3; decide) rfl
  · exact (a.pr.neI tup).put p (by show A.m ∈ foot { A with cl := q, cs := cs }; exact mem_ft 0 rfl)
  · exact (a.ce.neI tup).put p (by show A.m ∈ foot { A with cl := q, cs := cs }; exact mem_ft 0 rfl)
/-- new settings -/
theorem At.setSe (a : At c H A s) {q : Addr} {g : Cfg} (nq : q ∉ foot A) (hq : Ins H q c.se sK (sv g)) (hm : Ins H' A.m c.ma mK (mv { A with se := q } { s with cfg := some g })) (p : Put H H' A.m) : At c H' { A with se := q } { s with cfg := some g } := by
  have i : A.m ∈ foot A := mem_ft 0 rfl
  refine ⟨hm, a.to.put p (a.ne (i := 1) (j := 0) rfl rfl (by decide)), p.eq (a.ne (i := 2) (j := 0) rfl rfl (by decide)) a.cl, p.eq (a.ne (i := 3) (j := 0) rfl rfl (by decide)) a.sk, p.eq (a.ne (i := 4) (j := 0) rfl rfl (by decide)) a.rd,
    p.eq (a.ne (i := 5) (j := 0) rfl rfl (by decide)) a.lt, a.t1.put p (a.ne (i := 6) (j := 0) rfl rfl (by decide)), a.t2.put p (a.ne (i := 7) (j := 0) rfl rfl (by decide)), a.t3.put p (a.ne (i := 8) (j := 0) rfl rfl (by decide)),
    a.t4.put p (a.ne (i := 9) (j := 0) rfl rfl (by decide)), a.t5.put p (a.ne (i := 10) (j := 0) rfl rfl (by decide)), a.cs_put p (i := 0) rfl (by decide), fun g' hg' => ?_, a.pr.put p i, a.ce.put p i, a.nd⟩
  obtain rfl : g = g' := Option.some.inj hg'
  exact ⟨hq.put p (fun z => nq (z ▸ i)), nq⟩
/-- a list that is not the machine's own changes -/
theorem At.other (a : At c H A s) {b : Addr} {xs ys : List V} (hb : H b = some (.lst xs)) (nb : b ∉ foot A) : At c (upd H b (.lst ys)) A s := by
  have p : Put H (upd H b (.lst ys)) b := Put.upd
  have nf : ∀ x, x ∈ foot A → x ≠ b := fun x hx z => nb (z ▸ hx)
  have pr : ∀ {o : Option (Int × Int)} {v : V}, Pair (foot A) H o v → Pair (foot A) (upd H b (.lst ys)) o v := fun {o v} h => by
    cases o with
    | none => exact h
    | some x =>
      obtain ⟨q, e, hq, n⟩ := h
      refine ⟨q, e, p.eq (fun z => ?_) hq, n⟩
      rw [z, hb] at hq
      cases hq
  refine ⟨a.m.put p (nf _ (mem_ft 0 rfl)), a.to.put p (nf _ (mem_ft 1 rfl)), p.eq (nf _ (mem_ft 2 rfl)) a.cl, p.eq (nf _ (mem_ft 3 rfl)) a.sk, p.eq (nf _ (mem_ft 4 rfl)) a.rd, p.eq (nf _ (mem_ft 5 rfl)) a.lt,
    a.t1.put p (nf _ (mem_ft 6 rfl)), a.t2.put p (nf _ (mem_ft 7 rfl)), a.t3.put p (nf _ (mem_ft 8 rfl)), a.t4.put p (nf _ (mem_ft 9 rfl)), a.t5.put p (nf _ (mem_ft 10 rfl)),
    ⟨a.cs.1, fun j x y h1 h2 => (a.cs.2 j x y h1 h2).put p (nf _ (mem_ft (j + 11) (ft_cs h1)))⟩, fun g hg => ⟨(a.se g hg).1.put p ((a.se g hg).1.neL hb), (a.se g hg).2⟩, pr a.pr, pr a.ce, a.nd⟩
/-- what a call leaves: the machine, what is not its own, and its answer -/
structure Out (c : Cl) (H H' : Hp) (A A' : Ad) (s' : VSt) (q : Addr) (ans : List Int) : Prop where
  at_ : At c H' A' s'
  fr : Fr H H' A A'
  m : A'.m = A.m
  lst : H' q = some (.lst (ans.map V.int))
  ne : ∀ b o, H b = some o → b ∉ foot A → b ≠ q
theorem fin {A' : Ad} {q : Addr} {ans : List Int} {xs : List V} (a : At c H' A' s') (fr : Fr H H' A A') (m : A'.m = A.m) (hq : H' q = none) (e : xs = ans.map V.int := by rfl) : Out c H (upd H' q (.lst xs)) A A' s' q ans := by
  subst e
  exact ⟨a.same (same_new hq), fr.trans (Same.fr (same_new hq)), m, upd_same, fun b o h n => ne_of_none (fr b o h n).1 hq⟩
/-- a call with arguments -/
def spDo (c : Cl) (ok : VSt → List Int → Prop) (f : VSt → List Int → VSt × List Int) : Sp := fun vs H Q _ => ∃ (A : Ad) (s : VSt) (p : Addr) (l : List Int), vs = [.ref A.m, .ref p] ∧ At c H A s ∧ H p = some (.lst (l.map V.int)) ∧ p ∉ foot A ∧ ok s l ∧
  ∀ A' H' q, Out c H H' A A' (f s l).1 q (f s l).2 → Q (.ref q) H'
/-- a call without -/
def spDo0 (c : Cl) (ok : VSt → Prop) (f : VSt → VSt × List Int) : Sp := fun vs H Q _ => ∃ (A : Ad) (s : VSt), vs = [.ref A.m] ∧ At c H A s ∧ ok s ∧ ∀ A' H' q, Out c H H' A A' (f s).1 q (f s).2 → Q (.ref q) H'
theorem arg_at {K : PySem.W.Frag} {p : Addr} {l : List Int} {Q : VK} {i : Nat} {x : Int} (h : H p = some (.lst (l.map V.int))) (hx : l[i]? = some x) (k : Q (.int x) H) : rIxL K (.ref p) (.int (i : Int)) H Q := i_ixL (SqL.of h) (atI_nat (at_map hx)) k
theorem Pair.isN {F : List Addr} {o : Option (Int × Int)} {v : V} (h : Pair F H o v) : decide (v = V.non) = o.isNone := by
  cases o with
  | none => rw [show v = V.non from h]; rfl
  | some x =>
    obtain ⟨p, e, _⟩ := h
    rw [e]
    rfl
end

section
variable {P : Program} {w : World} {K : PySem.W.Frag} {mg : Str → Option Value} {base : Heap} {c : Cl}
/-! ### the guard's steps of a move -/
theorem sum_cast (l : List Nat) : (l.map fun n : Nat => (n : Int)).sum = ((l.foldl (· + ·) 0 : Nat) : Int) := by
  have h : ∀ (l : List Nat) (a : Nat), ((l.foldl (· + ·) a : Nat) : Int) = (a : Int) + (l.map fun n : Nat => (n : Int)).sum := by
    intro l
    induction l with
    | nil => intro a; simp
    | cons x r ih =>
      intro a
      rw [List.foldl_cons, ih, List.map_cons, List.sum_cons]
      omega
  rw [h l 0]
  simp
theorem sq_nat {H : Hp} {p : Addr} {l : List Nat} (h : H p = some (.lst (l.map nV))) : SqL K H p ((l.map fun n : Nat => (n : Int)).map V.int) := by
  rw [List.map_map]
  exact SqL.of h
def spStepP (c : Cl) (ok : VSt → Prop) (f : Cfg → VSt → VSt) : Sp := fun vs H Q _ => ∃ (A : Ad) (s : VSt) (g : Cfg), vs = [.ref A.m] ∧ At c H A s ∧ Ok s g ∧ ok s ∧ ∀ H', At c H' A (f g s) → Fr H H' A A → Q .non H'
theorem imin' (i j : Nat) : (if (j : Int) < (i : Int) then (j : Int) else (i : Int)) = ((min j i : Nat) : Int) := by rw [imin, Nat.min_comm]
theorem iminc (n j : Nat) (J : Int) (h : J = (j : Int)) : (if J < (n : Int) + 1 then J else (n : Int) + 1) = ((min j (n + 1) : Nat) : Int) := by
  subst h
  exact imin' (n + 1) j
theorem iminw (n m j : Nat) (J : Int) (h : J = (j : Int)) : (if J < (n : Int) + (m : Int) then J else (n : Int) + (m : Int)) = ((min j (n + m) : Nat) : Int) := by
  subst h
  exact imin' (n + m) j
abbrev st_judge_reading : Stmt := top 32
theorem sc_judge_reading : FnScope ["machine", "settings"] ["machine"] (defScope st_judge_reading) := ⟨rfl, rfl, rfl, by decide +kernel, rfl, by decide +kernel, by decide +kernel⟩

theorem ok_judge_reading (D : DefAt K mg "judge_reading" st_judge_reading ["machine"]) (T : Txt K mg c) (G_clean_needed : MethOk P w K mg base c.se 1 "clean_needed" ["self"] (spNeed c)) (G_raise_latch : MethOk P w K mg base c.ma 1 "raise_latch" ["self", "number"] (spRaise c)) : DefOk P w K mg base 2 "judge_reading" ["machine"] (spStepP c (fun s => s.win ≠ []) judged) := by
  refine D.ok sc_judge_reading (fun vs H Q E h => ?_) (fun f cdv Ar outer s0 H vs Q E hr h => ?_)
  · obtain ⟨A, s, g, rfl, _⟩ := h
    rfl
  · obtain ⟨A, s, g, rfl, a, o, hw, k⟩ := h
    have hg := o.cfg
    obtain ⟨r, hr0⟩ : ∃ r, s.win[0]? = some r := by
      cases e : s.win with
      | nil => exact absurd e hw
      | cons x l => exact ⟨x, rfl⟩
    have hgood : Vbdlae.good g.t g.s s.win = (decide (r < g.t) && decide (s.win.foldl (· + ·) 0 < g.s)) := by
      unfold Vbdlae.good
      cases e : s.win with
      | nil => exact absurd e hw
      | cons x l =>
        rw [e] at hr0
        obtain rfl : x = r := Option.some.inj hr0
        rfl
    refine ⟨_, (pss_cons (ps_set (i := 1) sc_judge_reading.nd rfl (Or.inl rfl) (pe_f T.cma 0 (pv 0))) (pss_one (ps_if (PW.pt (pw_and (pt_cmpR op_lt (pe_ix ix_list (pe_f T.cma 11 (pv 0)) pe_int (fun _ _ => rfl)) (pe_f T.cse 5 (pv 1)) (nomark _)) (pw_and1 (pt_cmpR op_lt (pe_sum1 T.b_sum (ha := (pa_cons (pe_f T.cma 11 (pv 0)) pa_nil star_Attribute))) (pe_f T.cse 6 (pv 1)) (nomark _))))) (pss_one (ps_f T.cma 12 (pv 0) (pe_min2 T.b_min (ha := (pa_cons (pe_op op_add (pe_f T.cma 12 (pv 0)) pe_int) (pa_cons (pe_mth0 T.cse G_clean_needed (by decide +kernel) hr (by decide) (pv 1)) pa_nil star_Call) star_BinOp))))) (pss_cons (ps_f T.cma 12 (pv 0) pe_int) (pss_one (ps_expr (pe_mth T.cma G_raise_latch (by decide +kernel) hr (by decide) (pv 0) (pa_cons (pe_gi T.g_LATCH_AIR) pa_nil star_Name)))))))), ?_⟩
    walk_at "go"
    refine i_ixL (SqL.of a.rd) (atI_nat (at_map hr0)) ?_
    walk_at "go"
    rw [lt_nat]
    by_cases h1 : r < g.t
    · rw [decide_eq_true h1]
      refine iteT ?_
      walk_at "go"
      refine ⟨_, _, rfl, sq_nat a.rd, ?_⟩
      rw [sum_cast]
      walk_at "go"
      rw [lt_nat]
      by_cases h2 : s.win.foldl (· + ·) 0 < g.s
      · rw [decide_eq_true h2]
        refine iteT ?_
        have e : judged g s = { s with clean := min (g.n - g.dt) (s.clean + 1) } := by
          unfold judged
          rw [hgood, decide_eq_true h1, decide_eq_true h2]
          rfl
        rw [e] at k
        walk_at "go"
        refine ⟨A.se, g, by rw [hg]; rfl, (a.se g hg).1, by have := o.dn; omega, ?_⟩
        walk_at "go"
        rw [show (s.clean : Int) + 1 = ((s.clean + 1 : Nat) : Int) from rfl, imin']
        refine j_Set a.m rfl fun H1 h1 p1 => ?_
        have a1 : At c H1 A { s with clean := min (g.n - g.dt) (s.clean + 1) } := a.setM h1 p1 {}
        exact k H1 a1 (p1.fr (mem_ft 0 rfl))
      · rw [decide_eq_false h2]
        refine iteF ?_
        have e : judged g s = ({ s with clean := 0 } : VSt).raise 0 true := by
          unfold judged
          rw [hgood, decide_eq_false h2, Bool.and_false]
          rfl
        rw [e] at k
        walk_at "go"
        refine j_Set a.m rfl fun H1 h1 p1 => ?_
        have a1 : At c H1 A { s with clean := 0 } := a.setM h1 p1 {}
        walk_at "go"
        exact ⟨A, _, 0, rfl, a1, by show 0 < s.latch.length; rw [o.lt8]; decide, fun H2 a2 f2 => k H2 a2 ((p1.fr (mem_ft 0 rfl)).trans f2)⟩
    · rw [decide_eq_false h1]
      refine iteF ?_
      refine iteF ?_
      have e : judged g s = ({ s with clean := 0 } : VSt).raise 0 true := by
        unfold judged
        rw [hgood, decide_eq_false h1, Bool.false_and]
        rfl
      rw [e] at k
      walk_at "go"
      refine j_Set a.m rfl fun H1 h1 p1 => ?_
      have a1 : At c H1 A { s with clean := 0 } := a.setM h1 p1 {}
      walk_at "go"
      exact ⟨A, _, 0, rfl, a1, by show 0 < s.latch.length; rw [o.lt8]; decide, fun H2 a2 f2 => k H2 a2 ((p1.fr (mem_ft 0 rfl)).trans f2)⟩
theorem abs_apart (x y d : Nat) : decide ((if (x : Int) - (y : Int) < 0 then -((x : Int) - (y : Int)) else (x : Int) - (y : Int)) > (d : Int)) = decide (d < Vbdlae.apart x y) := by
  refine decide_eq_decide.mpr ?_
  unfold Vbdlae.apart
  split <;> omega
def spCompare (c : Cl) : Sp := fun vs H Q _ => ∃ (A : Ad) (s : VSt) (g : Cfg) (p : Addr) (x y : Nat), vs = [.ref A.m, .ref p] ∧ At c H A s ∧ Ok s g ∧ H p = some (.lst [nV x, nV y]) ∧ ∀ H', At c H' A (compared x y g s) → Fr H H' A A → Q .non H'
abbrev st_compare_channels : Stmt := top 33
theorem sc_compare_channels : FnScope ["machine", "channels"] ["machine", "channels"] (defScope st_compare_channels) := ⟨rfl, rfl, rfl, by decide +kernel, rfl, by decide +kernel, by decide +kernel⟩

theorem ok_compare_channels (D : DefAt K mg "compare_channels" st_compare_channels ["machine", "channels"]) (T : Txt K mg c) (G_raise_latch : MethOk P w K mg base c.ma 1 "raise_latch" ["self", "number"] (spRaise c)) : DefOk P w K mg base 2 "compare_channels" ["machine", "channels"] (spCompare c) := by
  refine D.ok sc_compare_channels (fun vs H Q E h => ?_) (fun f cdv Ar outer s0 H vs Q E hr h => ?_)
  · obtain ⟨A, s, g, p, x, y, rfl, _⟩ := h
    rfl
  · obtain ⟨A, s, g, p, x, y, rfl, a, o, hp, k⟩ := h
    have hg := o.cfg
    refine ⟨_, (pss_cons (ps_if (pt_cmpR op_gt (pe_abs1 T.b_abs (ha := (pa_cons (pe_op op_sub (pe_ix ix_list (pv 1) pe_int (fun _ _ => rfl)) (pe_ix ix_list (pv 1) pe_int (fun _ _ => rfl))) pa_nil star_BinOp))) (pe_f T.cse 7 (pe_f T.cma 0 (pv 0))) (nomark _)) (pss_one (ps_f T.cma 13 (pv 0) (pe_min2 T.b_min (ha := (pa_cons (pe_op op_add (pe_f T.cma 13 (pv 0)) pe_int) (pa_cons (pe_gi T.g_MOST_UNLIKE) pa_nil star_Name) star_BinOp))))) (pss_one (ps_f T.cma 13 (pv 0) pe_int))) (pss_one (ps_if (pt_cmpR op_eq (pe_f T.cma 13 (pv 0)) (pe_gi T.g_MOST_UNLIKE) (nomark _)) (pss_one (ps_expr (pe_mth T.cma G_raise_latch (by decide +kernel) hr (by decide) (pv 0) (pa_cons (pe_gi T.g_LATCH_UNLIKE) pa_nil star_Name)))) pss_nil))), ?_⟩
    walk_at "go"
    refine i_ixL (SqL.of hp) (atI_nat (j := 0) rfl) ?_
    walk_at "go"
    refine i_ixL (SqL.of hp) (atI_nat (j := 1) rfl) ?_
    unfold nV
    walk_at "go"
    rw [abs_apart]
    by_cases h1 : g.d < Vbdlae.apart x y
    · rw [decide_eq_true h1]
      refine iteT ?_
      walk_at "go"
      rw [iminc s.unlike 2 2 rfl]
      refine j_Set a.m rfl fun H1 h1' p1 => ?_
      have eu : (setUnlike x y g s) = { s with unlike := min 2 (s.unlike + 1) } := by unfold setUnlike; rw [if_pos h1]
      have a1 : At c H1 A (setUnlike x y g s) := by rw [eu]; exact a.setM h1' p1 {}
      clear h1'
      walk_at "go"
      rw [show decide (((setUnlike x y g s).unlike : Int) = 2) = decide ((setUnlike x y g s).unlike = 2) from dec_nat _ 2]
      by_cases h2 : (setUnlike x y g s).unlike = 2
      · rw [decide_eq_true h2]
        refine iteT ?_
        walk_at "go"
        refine ⟨A, _, 1, rfl, a1, by show 1 < s.latch.length; rw [o.lt8]; decide, fun H2 a2 f2 => k H2 ?_ ((p1.fr (mem_ft 0 rfl)).trans f2)⟩
        unfold compared
        rw [decide_eq_true h2]
        exact a2
      · rw [decide_eq_false h2]
        refine iteF ?_
        walk_at "go"
        refine k H1 ?_ (p1.fr (mem_ft 0 rfl))
        unfold compared
        rw [decide_eq_false h2]
        exact a1
    · rw [decide_eq_false h1]
      refine iteF ?_
      walk_at "go"
      refine j_Set a.m rfl fun H1 h1' p1 => ?_
      have eu : (setUnlike x y g s) = { s with unlike := 0 } := by unfold setUnlike; rw [if_neg h1]
      have a1 : At c H1 A (setUnlike x y g s) := by rw [eu]; exact a.setM h1' p1 {}
      clear h1'
      have h2 : ¬ (setUnlike x y g s).unlike = 2 := by rw [eu]; show ¬ (0 : Nat) = 2; decide
      walk_at "go"
      rw [show decide (((setUnlike x y g s).unlike : Int) = 2) = decide ((setUnlike x y g s).unlike = 2) from dec_nat _ 2, decide_eq_false h2]
      refine iteF ?_
      walk_at "go"
      refine k H1 ?_ (p1.fr (mem_ft 0 rfl))
      unfold compared
      rw [decide_eq_false h2]
      exact a1
theorem thick_eq (g : Cfg) (x : Cell) : decide ((1000 : Int) * (x.red : Int) > (g.k : Int) * ((x.red : Int) + (x.water : Int))) = Vbdlae.thick g x := by
  unfold Vbdlae.thick
  refine decide_eq_decide.mpr ?_
  have e : ((g.k * (x.red + x.water) : Nat) : Int) = (g.k : Int) * ((x.red : Int) + (x.water : Int)) := by rw [Int.natCast_mul, Int.natCast_add]
  rw [← e]
  omega
abbrev st_watch_thickness : Stmt := top 34
theorem sc_watch_thickness : FnScope ["machine", "settings", "cell"] ["machine"] (defScope st_watch_thickness) := ⟨rfl, rfl, rfl, by decide +kernel, rfl, by decide +kernel, by decide +kernel⟩

theorem ok_watch_thickness (D : DefAt K mg "watch_thickness" st_watch_thickness ["machine"]) (T : Txt K mg c) (G_raise_latch : MethOk P w K mg base c.ma 1 "raise_latch" ["self", "number"] (spRaise c)) : DefOk P w K mg base 2 "watch_thickness" ["machine"] (spStep c thickened) := by
  refine D.ok sc_watch_thickness (fun vs H Q E h => ?_) (fun f cdv Ar outer s0 H vs Q E hr h => ?_)
  · obtain ⟨A, s, g, rfl, _⟩ := h
    rfl
  · obtain ⟨A, s, g, rfl, a, o, k⟩ := h
    have hg := o.cfg
    refine ⟨_, (pss_cons (ps_set (i := 1) sc_watch_thickness.nd rfl (Or.inl rfl) (pe_f T.cma 0 (pv 0))) (pss_cons (ps_set (i := 2) sc_watch_thickness.nd rfl (Or.inl rfl) (pe_ix ix_list (pe_f T.cma 1 (pv 0)) (pe_f T.cse 1 (pv 1)) (fun _ _ => rfl))) (pss_one (ps_if (pt_cmpR op_gt (pe_op op_mul pe_int (pe_f T.cam 0 (pv 2))) (pe_op op_mul (pe_f T.cse 9 (pv 1)) (pe_op op_add (pe_f T.cam 0 (pv 2)) (pe_f T.cam 1 (pv 2)))) (nomark _)) (pss_one (ps_expr (pe_mth T.cma G_raise_latch (by decide +kernel) hr (by decide) (pv 0) (pa_cons (pe_gi T.g_LATCH_THICK) pa_nil star_Name)))) pss_nil)))), ?_⟩
    walk_at "go"
    obtain ⟨b, hb, hi⟩ := a.cell_at (get_D (s := s) (j := g.dz) (by have := o.len; have := o.ch; have := o.dt; have := o.dn; omega))
    refine i_ixL (SqL.of a.cl) (ref_at hb) ?_
    walk_at "go"
    refine i_rI (.inl ⟨by decide, by decide⟩) ?_
    walk_at "go"
    refine i_rI (.inl ⟨by have := o.k; omega, by have := o.k; omega⟩) ?_
    walk_at "go"
    rw [thick_eq]
    unfold thickened at k
    cases h : Vbdlae.thick g (s.line.getD g.dz {}) with
    | true =>
      rw [h] at k
      refine iteT ?_
      walk_at "go"
      exact ⟨A, _, 5, rfl, a, by rw [o.lt8]; decide, fun H2 a2 f2 => k H2 a2 f2⟩
    | false =>
      rw [h] at k
      refine iteF ?_
      walk_at "go"
      exact k H a Fr.refl
abbrev st_watch_centring : Stmt := top 35
theorem sc_watch_centring : FnScope ["machine"] ["machine"] (defScope st_watch_centring) := ⟨rfl, rfl, rfl, by decide +kernel, rfl, by decide +kernel, by decide +kernel⟩

theorem ok_watch_centring (D : DefAt K mg "watch_centring" st_watch_centring ["machine"]) (T : Txt K mg c) (G_joined : MethOk P w K mg base c.ma 1 "joined" ["self"] (spAsk c fun s => .bl (decide (s.sink = 1)))) (G_raise_latch : MethOk P w K mg base c.ma 1 "raise_latch" ["self", "number"] (spRaise c)) : DefOk P w K mg base 2 "watch_centring" ["machine"] (spStep c centred) := by
  refine D.ok sc_watch_centring (fun vs H Q E h => ?_) (fun f cdv Ar outer s0 H vs Q E hr h => ?_)
  · obtain ⟨A, s, g, rfl, _⟩ := h
    rfl
  · obtain ⟨A, s, g, rfl, a, o, k⟩ := h
    have hg := o.cfg
    refine ⟨_, (pss_one (ps_if (PW.pt (pw_and (pt_val (pe_mth0 T.cma G_joined (by decide +kernel) hr (by decide) (pv 0))) (pw_and1 (pt_cmp (pc_isN (pe_f T.cma 16 (pv 0))))))) (pss_cons (ps_f T.cma 17 (pv 0) (pe_min2 T.b_min (ha := (pa_cons (pe_op op_add (pe_f T.cma 17 (pv 0)) pe_int) (pa_cons (pe_gi T.g_MOST_UNCENTRED) pa_nil star_Name) star_BinOp)))) (pss_one (ps_if (pt_cmpR op_eq (pe_f T.cma 17 (pv 0)) (pe_gi T.g_MOST_UNCENTRED) (nomark _)) (pss_one (ps_expr (pe_mth T.cma G_raise_latch (by decide +kernel) hr (by decide) (pv 0) (pa_cons (pe_gi T.g_LATCH_UNCENTRED) pa_nil star_Name)))) pss_nil))) pss_nil)), ?_⟩
    walk_at "go"
    refine ⟨A, s, rfl, a, ?_⟩
    walk_at "go"
    unfold centred at k
    by_cases h1 : s.sink = 1
    · rw [decide_eq_true h1]
      refine iteT ?_
      walk_at "go"
      rw [a.ce.isN]
      cases h2 : s.centre with
      | some x =>
        refine iteF ?_
        walk_at "go"
        rw [if_neg (fun q => by rw [h2] at q; cases q.2)] at k
        exact k H a Fr.refl
      | none =>
        refine iteT ?_
        rw [if_pos ⟨h1, h2⟩] at k
        walk_at "go"
        rw [iminc s.unc 10 10 rfl]
        refine j_Set a.m rfl fun H1 h1' p1 => ?_
        have a1 : At c H1 A (setUnc s) := a.setM h1' p1 {}
        clear h1'
        walk_at "go"
        rw [show decide (((setUnc s).unc : Int) = 10) = decide ((setUnc s).unc = 10) from dec_nat _ 10]
        cases h3 : decide ((setUnc s).unc = 10) with
        | true =>
          rw [h3] at k
          refine iteT ?_
          walk_at "go"
          exact ⟨A, _, 6, rfl, a1, by show 6 < s.latch.length; rw [o.lt8]; decide, fun H2 a2 f2 => k H2 a2 ((p1.fr (mem_ft 0 rfl)).trans f2)⟩
        | false =>
          rw [h3] at k
          refine iteF ?_
          walk_at "go"
          exact k H1 a1 (p1.fr (mem_ft 0 rfl))
    · rw [decide_eq_false h1]
      refine iteF ?_
      refine iteF ?_
      walk_at "go"
      rw [if_neg (fun q => h1 q.1)] at k
      exact k H a Fr.refl
end

section
variable {P : Program} {w : World} {K : PySem.W.Frag} {mg : Str → Option Value} {base : Heap} {c : Cl}
/-! ### one move -/
theorem cut_init {xs : List V} (h : 0 < xs.length) : cutV xs none (some (-1)) = xs.dropLast := by
  unfold cutV
  rw [HT.sIx_none, List.drop_zero, Nat.sub_zero]
  have e : HT.sIx xs.length xs.length (some (-1)) = xs.length - 1 := by
    have q := HT.clip_eq (-1) xs.length xs.length
    rw [if_pos (by omega)] at q
    omega
  rw [e, List.dropLast_eq_take]
theorem mem_drop {α : Type} {l : List α} {x : α} (h : x ∈ l.dropLast) : x ∈ l := (List.dropLast_sublist l).subset h
def foot11 (A : Ad) : List Addr := [A.m, A.to, A.cl, A.sk, A.rd, A.lt, A.t1, A.t2, A.t3, A.t4, A.t5]
theorem foot_eq (A : Ad) : foot A = foot11 A ++ A.cs := rfl
theorem nd_drop {A : Ad} (nd : (foot A).Nodup) : (foot11 A ++ A.cs.dropLast).Nodup := nd.sublist ((List.dropLast_sublist _).append_left _)
theorem nd_move {A : Ad} {r x : Addr} (nd : (foot A).Nodup) (nr : r ∉ foot A) (nx : x ∉ foot11 A ++ A.cs.dropLast) (nrx : x ≠ r) : (foot { A with cl := r, cs := x :: A.cs.dropLast }).Nodup := by
  have e : foot { A with cl := r, cs := x :: A.cs.dropLast } = (foot11 A).set 2 r ++ x :: A.cs.dropLast := rfl
  have e2 : (foot11 A).set 2 r ++ A.cs.dropLast = (foot11 A ++ A.cs.dropLast).set 2 r := rfl
  rw [e]
  refine (List.perm_middle.nodup_iff).mpr (List.nodup_cons.mpr ⟨?_, ?_⟩)
  · rw [e2]
    exact not_set nx nrx
  · rw [e2]
    refine nodup_set (nd_drop nd) fun h => nr ?_
    rw [foot_eq]
    rcases List.mem_append.mp h with h1 | h1
    · exact List.mem_append_left _ h1
    · exact List.mem_append_right _ (mem_drop h1)
theorem snoc_last {α : Type} {l : List α} {x : α} (h : l[l.length - 1]? = some x) : l = l.dropLast ++ [x] := by
  have hl : l ≠ [] := fun e => by rw [e] at h; simp at h
  rw [← List.getLast?_eq_getElem?] at h
  rw [← List.dropLast_concat_getLast hl]
  rw [List.getLast?_eq_some_getLast hl] at h
  rw [Option.some.inj h, List.dropLast_concat]
theorem last_out {A : Ad} {x : Addr} (nd : (foot A).Nodup) (hx : A.cs[A.cs.length - 1]? = some x) : x ∉ foot11 A ++ A.cs.dropLast := by
  rw [foot_eq, snoc_last hx, ← List.append_assoc] at nd
  have p : (foot11 A ++ A.cs.dropLast ++ [x]).Perm (x :: (foot11 A ++ A.cs.dropLast)) := List.perm_append_comm
  exact (List.nodup_cons.mp (p.nodup_iff.mp nd)).1
theorem max_of {x y : Nat} {m : Int} (hm : m ∈ [(x : Int), (y : Int)]) (h : ∀ z, z ∈ [(x : Int), (y : Int)] → z ≤ m) : m = ((max x y : Nat) : Int) := by
  have h1 := h x (by simp)
  have h2 := h y (by simp)
  simp at hm
  omega
def spMove (c : Cl) : Sp := fun vs H Q _ => ∃ (A : Ad) (s : VSt) (g : Cfg), vs = [.ref A.m] ∧ At c H A s ∧ Ok s g ∧ ∀ A' H', At c H' A' (Vbdlae.moveOne g s) → Fr H H' A A' → A'.m = A.m → Q (.int (Vbdlae.lastOf s.line).air) H'
abbrev st_one_move : Stmt := top 22
theorem sc_one_move : FnScope ["machine", "fresh", "air_that_left", "channels", "totals"] ["machine"] (defScope st_one_move) := ⟨rfl, rfl, rfl, by decide +kernel, rfl, by decide +kernel, by decide +kernel⟩

theorem ok_one_move (D : DefAt K mg "one_move" st_one_move ["machine"]) (T : Txt K mg c) (G_new_cell : DefOk P w K mg base 4 "new_cell" ["machine"] (spNew c)) (G_let_last_leave : DefOk P w K mg base 2 "let_last_leave" ["machine"] (spLeave c)) (G_dialyse : DefOk P w K mg base 1 "dialyse" ["machine"] (spStep c dialysed)) (G_trap_air : DefOk P w K mg base 1 "trap_air" ["machine"] (spStep c trapped))
    (G_read_channels : DefOk P w K mg base 1 "read_channels" ["machine"] (spRead c)) (G_remember_reading : DefOk P w K mg base 1 "remember_reading" ["machine", "reading"] (spRemember c)) (G_judge_reading : DefOk P w K mg base 2 "judge_reading" ["machine"] (spStepP c (fun s => s.win ≠ []) judged)) (G_compare_channels : DefOk P w K mg base 2 "compare_channels" ["machine", "channels"] (spCompare c))
    (G_watch_thickness : DefOk P w K mg base 2 "watch_thickness" ["machine"] (spStep c thickened)) (G_watch_centring : DefOk P w K mg base 2 "watch_centring" ["machine"] (spStep c centred)) : DefOk P w K mg base 5 "one_move" ["machine"] (spMove c) := by
  refine D.ok sc_one_move (fun vs H Q E h => ?_) (fun f cdv Ar outer s0 H vs Q E hr h => ?_)
  · obtain ⟨A, s, g, rfl, _⟩ := h
    rfl
  · obtain ⟨A, s, g, rfl, a, o, k⟩ := h
    refine ⟨_, (pss_cons (ps_set (i := 1) sc_one_move.nd rfl (Or.inl rfl) (pe_def G_new_cell hr (by decide) (pa_cons (pv 0) pa_nil star_Name))) (pss_cons (ps_set (i := 2) sc_one_move.nd rfl (Or.inl rfl) (pe_def G_let_last_leave hr (by decide) (pa_cons (pv 0) pa_nil star_Name))) (pss_cons (ps_f T.cma 1 (pv 0) (pe_op op_cat (pe_lst (pa_cons (pv 1) pa_nil star_Name)) (pe_slice sl_list (pe_f T.cma 1 (pv 0)) po_none (po_some (pe_un un_neg pe_int))))) (pss_cons (ps_expr (pe_def G_dialyse hr (by decide) (pa_cons (pv 0) pa_nil star_Name))) (pss_cons (ps_expr (pe_def G_trap_air hr (by decide) (pa_cons (pv 0) pa_nil star_Name))) (pss_cons (ps_set (i := 3) sc_one_move.nd rfl (Or.inl rfl) (pe_def G_read_channels hr (by decide) (pa_cons (pv 0) pa_nil star_Name))) (pss_cons (ps_expr (pe_def G_remember_reading hr (by decide) (pa_cons (pv 0) (pa_cons (pe_max1 T.b_max (ha := (pa_cons (pv 3) pa_nil star_Name))) pa_nil star_Call) star_Name))) (pss_cons (ps_expr (pe_def G_judge_reading hr (by decide) (pa_cons (pv 0) pa_nil star_Name))) (pss_cons (ps_expr (pe_def G_compare_channels hr (by decide) (pa_cons (pv 0) (pa_cons (pv 3) pa_nil star_Name) star_Name))) (pss_cons (ps_expr (pe_def G_watch_thickness hr (by decide) (pa_cons (pv 0) pa_nil star_Name))) (pss_cons (ps_expr (pe_def G_watch_centring hr (by decide) (pa_cons (pv 0) pa_nil star_Name))) (pss_cons (ps_f T.cma 18 (pv 0) pe_int) (pss_cons (ps_set (i := 4) sc_one_move.nd rfl (Or.inl rfl) (pe_f T.cma 20 (pv 0))) (pss_cons (ps_fa T.cto 9 (pv 4) pe_int in_add) (pss_one (ps_ret (pv 2))))))))))))))))), ?_⟩
    walk_at "go"
    refine ⟨A, s, g, rfl, a, o, fun x H1 a1 f1 hx1 nx => ?_⟩
    walk_at "go"
    refine ⟨A, _, g, rfl, a1, o.incoming, fun H2 a2 f2 => ?_⟩
    have el : (Vbdlae.incoming s).2.line = s.line := inc_line s
    have el2 : (Vbdlae.outgoing (Vbdlae.incoming s).2).line = s.line := (out_line _).trans el
    have hl0 : 0 < s.line.length := by have := o.len; have := o.n8; omega
    have hcl : 0 < A.cs.length := by rw [a.cs.1]; exact hl0
    have hx2 : Ins H2 x c.am aK (av (Vbdlae.incoming s).1) := by
      rcases nx with h | ⟨h, e⟩
      · obtain ⟨dx, q⟩ := hx1
        exact ⟨dx, (f2 _ _ q (a.fresh h)).1⟩
      · rw [e]
        refine a2.cs.2 _ x _ h ?_
        rw [a.cs.1, el2]
        exact last_at hl0
    have nx' : x ∉ foot11 A ++ A.cs.dropLast := by
      rcases nx with h | ⟨h, _⟩
      · intro q
        refine a.fresh h ?_
        rw [foot_eq]
        rcases List.mem_append.mp q with q | q
        · exact List.mem_append_left _ q
        · exact List.mem_append_right _ (mem_drop q)
      · exact last_out a.nd h
    walk_at "go"
    refine ⟨by show 1 ≤ sizeLine; decide, fun p hp => ?_⟩
    have e3 := same_new (o := .lst [V.ref x]) hp
    have a3 := a2.same e3
    walk_at "go"
    refine i_slL (SqL.of a3.cl) fun q hq => ?_
    rw [cut_init (by rw [List.length_map]; exact hcl)]
    have e4 := same_new (o := .lst (A.cs.map V.ref).dropLast) hq
    have a4 := a3.same e4
    walk_at "go"
    refine i_cat (e4 _ _ upd_same) upd_same (by rw [List.length_dropLast, List.length_map, a.cs.1, o.len]; show 1 + (g.n - 1) ≤ sizeLine; have := o.n64; have : 65 ≤ sizeLine := (by decide); omega) fun r hr5 => ?_
    have ec : [V.ref x] ++ (A.cs.map V.ref).dropLast = (x :: A.cs.dropLast).map V.ref := by rw [← List.map_dropLast]; rfl
    rw [ec]
    have e5 := same_new (o := .lst ((x :: A.cs.dropLast).map V.ref)) hr5
    have a5 := a4.same e5
    have hx5 := ((hx2.same e3).same e4).same e5
    have nr := a4.fresh hr5
    have nrx : x ≠ r := by
      obtain ⟨dx, z⟩ := (hx2.same e3).same e4
      exact ne_of_none z hr5
    have nd' := nd_move a.nd nr nx' nrx
    have hcs : Cells c (upd (upd (upd H2 p (.lst [V.ref x])) q (.lst (A.cs.map V.ref).dropLast)) r (.lst ((x :: A.cs.dropLast).map V.ref))) (x :: A.cs.dropLast) (Vbdlae.shift (Vbdlae.incoming s).1 (Vbdlae.outgoing (Vbdlae.incoming s).2).line) := by
      refine ⟨?_, fun j b y hb hy => ?_⟩
      · show (x :: A.cs.dropLast).length = ((Vbdlae.incoming s).1 :: (Vbdlae.outgoing (Vbdlae.incoming s).2).line.dropLast).length
        rw [List.length_cons, List.length_cons, List.length_dropLast, List.length_dropLast, a2.cs.1]
      · cases j with
        | zero =>
          obtain rfl : x = b := Option.some.inj hb
          obtain rfl : (Vbdlae.incoming s).1 = y := Option.some.inj hy
          exact hx5
        | succ j =>
          have hb' : A.cs.dropLast[j]? = some b := hb
          have hy' : (Vbdlae.outgoing (Vbdlae.incoming s).2).line.dropLast[j]? = some y := hy
          rw [List.getElem?_dropLast] at hb' hy'
          split at hb'
          · split at hy'
            · exact a5.cs.2 j b y hb' hy'
            · cases hy'
          · cases hb'
    walk_at "go"
    refine j_Set a5.m rfl fun H6 h6 p6 => ?_
    have a6 : At c H6 { A with cl := r, cs := x :: A.cs.dropLast } (arrived s) := a5.setCells upd_same hcs nd' h6 p6
    have f6 : Fr H H6 A { A with cl := r, cs := x :: A.cs.dropLast } := fun b ob hb nb => by
      have q5 := e5 _ _ (e4 _ _ (e3 _ _ ((f1.trans f2) b ob hb nb).1))
      have bx : b ≠ x := by
        rcases nx with h | ⟨h, _⟩
        · exact ne_of_none hb h
        · exact fun z => nb (by rw [z, foot_eq]; exact List.mem_append_right _ (List.mem_of_getElem? h))
      refine ⟨p6.eq (fun z => nb (z ▸ mem_ft 0 rfl)) q5, not_cells nb (ne_of_none (e4 _ _ (e3 _ _ ((f1.trans f2) b ob hb nb).1)) hr5) fun z => ?_⟩
      rcases List.mem_cons.mp z with z | z
      · exact bx z
      · exact nb (by rw [foot_eq]; exact List.mem_append_right _ (mem_drop z))
    generalize hA' : ({ A with cl := r, cs := x :: A.cs.dropLast } : Ad) = A' at a6 f6
    have em : A'.m = A.m := by rw [← hA']
    have o6 := o.arrived
    have hg6 := o6.cfg
    walk_at "go"
    refine ⟨A', _, g, by rw [em], a6, o6, fun H7 a7 f7 => ?_⟩
    have o7 := o6.dialysed
    walk_at "go"
    refine ⟨A', _, g, by rw [em], a7, o7, fun H8 a8 f8 => ?_⟩
    have o8 := o7.trapped
    walk_at "go"
    refine ⟨A', _, g, by rw [em], a8, o8, fun p9 H9 hp9 e9 hl9 => ?_⟩
    have a9 := a8.same e9
    have n9 := a8.fresh hp9
    have f9 : Fr H H9 A A' := (f6.trans (f7.trans f8)).trans (Same.fr e9)
    walk_at "go"
    refine ⟨p9, [((Vbdlae.reads (trapped g (dialysed g (arrived s))).stuckA ((trapped g (dialysed g (arrived s))).line.getD g.dt {}) : Nat) : Int), ((Vbdlae.reads (trapped g (dialysed g (arrived s))).stuckB ((trapped g (dialysed g (arrived s))).line.getD g.dt {}) : Nat) : Int)], rfl, SqL.of hl9, Nat.succ_pos _, fun mx hm1 hm2 => ?_⟩
    rw [max_of hm1 hm2]
    rw [moveOne_eq o.dc, watch_eq] at k
    generalize Vbdlae.reads (trapped g (dialysed g (arrived s))).stuckA ((trapped g (dialysed g (arrived s))).line.getD g.dt {}) = xa at hl9 k ⊢
    generalize Vbdlae.reads (trapped g (dialysed g (arrived s))).stuckB ((trapped g (dialysed g (arrived s))).line.getD g.dt {}) = xb at hl9 k ⊢
    generalize trapped g (dialysed g (arrived s)) = s9 at a9 o8 k
    walk_at "go"
    refine ⟨A', s9, g, max xa xb, by rw [em], a9, o8, fun q10 H10 a10 f10 => ?_⟩
    have o10 := o8.remembered (max xa xb)
    have hl10 := (f10 _ _ hl9 n9)
    generalize hA2 : ({ A' with rd := q10 } : Ad) = A2 at a10 f10 hl10
    have em2 : A2.m = A.m := by rw [← hA2]; exact em
    walk_at "go"
    refine ⟨A2, _, g, by rw [em2], a10, o10, (by
      show (max xa xb :: s9.win).take g.w ≠ []
      obtain ⟨w, hw⟩ : ∃ w, g.w = w + 1 := ⟨g.w - 1, by have := o.w1; omega⟩
      rw [hw]
      intro z
      cases z), fun H11 a11 f11 => ?_⟩
    have o11 := o10.judged
    walk_at "go"
    refine ⟨A2, _, g, p9, xa, xb, by rw [em2], a11, o11, (f11 _ _ hl10.1 hl10.2).1, fun H12 a12 f12 => ?_⟩
    have o12 := o11.compared xa xb
    walk_at "go"
    refine ⟨A2, _, g, by rw [em2], a12, o12, fun H13 a13 f13 => ?_⟩
    have o13 := o12.thickened
    walk_at "go"
    refine ⟨A2, _, g, by rw [em2], a13, o13, fun H14 a14 f14 => ?_⟩
    have f14' : Fr H H14 A A2 := f9.trans (f10.trans (f11.trans (f12.trans (f13.trans f14))))
    generalize centred g (thickened g (compared xa xb g (judged g (remembered (max xa xb) g s9)))) = s14 at a14 k
    rw [← em2] at k ⊢
    walk_at "go"
    refine j_Set a14.m rfl fun H15 h15 p15 => ?_
    have a15 : At c H15 A2 { s14 with still := 0 } := a14.setM h15 p15 {}
    walk_at "go"
    refine j_Set a15.to rfl fun H16 h16 p16 => ?_
    have a16 : At c H16 A2 (ended s14) := a15.setT h16 p16
    walk_at "go"
    rw [el]
    exact k A2 H16 a16 (f14'.trans ((p15.fr (mem_ft 0 rfl)).trans (p16.fr (mem_ft 1 rfl)))) rfl
end

section
variable {P : Program} {w : World} {K : PySem.W.Frag} {mg : Str → Option Value} {base : Heap} {c : Cl}
/-! ### move -/
/-- a call of this place may be done -/
def okC (p : Int) (s : VSt) (l : List Int) : Prop := (∃ g, Ok s g) ∧ l.length = nOf p ∧ rangeOk p l = true
def spC (c : Cl) (p : Int) : Sp := spDo c (okC p) fun s l => Vbdlae.does s (p :: l)
def spC0 (c : Cl) (p : Int) : Sp := spDo0 c (fun s => ∃ g, Ok s g) fun s => Vbdlae.does s [p]
theorem range_of {p : Int} {args : List Int} {x : Vbdlae.Call} (h0 : 0 ≤ p) (h17 : p ≤ 17) (hl : args.length = nOf p) (hr : rangeOk p args = true) (hx : Vbdlae.decode (p :: args) = some x) : Vbdlae.ranged x = true := by
  obtain ⟨x', e, r⟩ := range_decode h0 h17 hl
  obtain rfl : x = x' := Option.some.inj (hx.symm.trans e)
  exact r.trans hr
abbrev st_move : Stmt := top 55
theorem sc_move : FnScope ["machine", "arguments", "count", "airs", "answer"] ["machine", "arguments"] (defScope st_move) := ⟨rfl, rfl, rfl, by decide +kernel, rfl, by decide +kernel, by decide +kernel⟩

theorem ok_move (D : DefAt K mg "move" st_move ["machine", "arguments"]) (T : Txt K mg c) (G_held : MethOk P w K mg base c.ma 2 "held" ["self"] (spAsk c fun s => .bl (decide (s.sink = 1) && s.latched))) (G_joined : MethOk P w K mg base c.ma 1 "joined" ["self"] (spAsk c fun s => .bl (decide (s.sink = 1)))) (G_latches_number : MethOk P w K mg base c.ma 1 "latches_number" ["self"] (spCode c))
    (G_one_move : DefOk P w K mg base 5 "one_move" ["machine"] (spMove c)) : DefOk P w K mg base 6 "move" ["machine", "arguments"] (spC c 5) := by
  refine D.ok sc_move (fun vs H Q E h => ?_) (fun f cdv Ar outer s0 H vs Q E hr h => ?_)
  · obtain ⟨A, s, p, l, rfl, _⟩ := h
    rfl
  · obtain ⟨A, s, p, l0, rfl, a, hp, np, ⟨⟨g, o⟩, hl, hrg⟩, k⟩ := h
    obtain ⟨x, rfl⟩ := len1 hl
    have hx := inR_true (range_of (x := .move x) (by decide) (by decide) hl hrg rfl)
    have e := does_act (x := .move x) (by decide) (by decide) hl hrg o.cfg rfl
    dsimp only at k
    rw [e] at k
    unfold Vbdlae.act at k
    dsimp only at k
    obtain ⟨n, rfl⟩ : ∃ n : Nat, x = (n : Int) := ⟨x.toNat, by omega⟩
    rw [Int.toNat_natCast] at k
    have hg := o.cfg
    refine ⟨_, (pss_cons (ps_set (i := 2) sc_move.nd rfl (Or.inl rfl) (pe_ix ix_list (pv 1) pe_int (fun _ _ => rfl))) (pss_cons (ps_if (pt_val (pe_mth0 T.cma G_held (by decide +kernel) hr (by decide) (pv 0))) (pss_one (ps_ret (pe_lst (pa_cons (pe_un un_neg pe_int) pa_nil star_UnaryOp)))) pss_nil) (pss_cons (ps_if (pt_cmpR op_gt (pe_op op_add (pe_f T.cto 9 (pe_f T.cma 20 (pv 0))) (pv 2)) (pe_gi T.g_MOST_MOVES) (nomark _)) (pss_one (ps_ret (pe_lst (pa_cons (pe_un un_neg pe_int) pa_nil star_UnaryOp)))) pss_nil) (pss_cons (ps_set (i := 3) sc_move.nd rfl (Or.inl rfl) (pe_lst pa_nil)) (pss_cons (ps_while PassesOwn.never (PW.pt (pw_and (pt_cmpR op_lt (pe_len1 T.b_len (ha := (pa_cons (pv 3) pa_nil star_Name))) (pv 2) (nomark _)) (pw_and1 (pt_not (pt_val (pe_mth0 T.cma G_held (by decide +kernel) hr (by decide) (pv 0))))))) (pss_one (ps_expr (pe_bm PySem.F.plainAttrs_list PySem.F.slot_list_append PySem.F.type_list_append mt_append (pv 3) (pa_cons (pe_def G_one_move hr (by decide) (pa_cons (pv 0) pa_nil star_Name)) pa_nil star_Call))))) (pss_cons (ps_set (i := 4) sc_move.nd rfl (Or.inl rfl) (pe_lst (pa_cons (pe_len1 T.b_len (ha := (pa_cons (pv 3) pa_nil star_Name))) (pa_cons (pe_mth0 T.cma G_latches_number (by decide +kernel) hr (by decide) (pv 0)) pa_nil star_Call) star_Call))) (pss_cons (ps_if (pt_val (pe_mth0 T.cma G_joined (by decide +kernel) hr (by decide) (pv 0))) (pss_one (ps_expr (pe_bm PySem.F.plainAttrs_list PySem.F.slot_list_extend PySem.F.type_list_extend mt_extend (pv 4) (pa_cons (pv 3) pa_nil star_Name)))) pss_nil) (pss_one (ps_ret (pv 4)))))))))), ?_⟩
    walk_at "go"
    refine arg_at (i := 0) hp rfl ?_
    walk_at "go"
    refine ⟨A, s, rfl, a, ?_⟩
    walk_at "go"
    by_cases h3 : s.sink = 1 ∧ s.latched = true
    · rw [decide_eq_true h3.1, h3.2]
      rw [if_pos h3] at k
      refine iteT ?_
      walk_at "go"
      exact ⟨by show 1 ≤ sizeLine; decide, fun q hq => k A _ q (fin a Fr.refl rfl hq)⟩
    · rw [if_neg h3] at k
      have h3' : (decide (s.sink = 1) && s.latched) = false := by
        cases hb : (decide (s.sink = 1) && s.latched) with
        | false => rfl
        | true =>
          rw [Bool.and_eq_true, decide_eq_true_iff] at hb
          exact absurd hb h3
      rw [h3']
      refine iteF ?_
      walk_at "go"
      have em : decide ((s.tot.moves : Int) + (n : Int) > 1000000000) = decide (Vbdlae.MOVES < s.tot.moves + n) := decide_eq_decide.mpr (by unfold Vbdlae.MOVES; omega)
      rw [em]
      by_cases h4 : Vbdlae.MOVES < s.tot.moves + n
      · rw [decide_eq_true h4]
        rw [if_pos h4] at k
        refine iteT ?_
        walk_at "go"
        exact ⟨by show 1 ≤ sizeLine; decide, fun q hq => k A _ q (fin a Fr.refl rfl hq)⟩
      · rw [decide_eq_false h4]
        rw [if_neg h4] at k
        refine iteF ?_
        walk_at "go"
        refine ⟨by show 0 ≤ sizeLine; decide, fun ap hap0 => ?_⟩
        have e0 := same_new (o := .lst []) hap0
        walk_at "go"
        refine ⟨fun m σ H' => ∃ (A1 : Ad) (s1 : VSt) (l : List Nat), σ = [some (.ref A1.m), some (.ref p), some (.int (n : Int)), some (.ref ap), none] ∧ At c H' A1 s1 ∧ Fr H H' A A1 ∧ A1.m = A.m ∧ H' ap = some (.lst (l.map nV)) ∧ ap ∉ foot A1 ∧ Ok s1 g ∧ Going g n s s1 l ∧ m = n - l.length,
          ⟨_, A, s, [], rfl, a.same e0, Same.fr e0, rfl, upd_same, a.fresh hap0, o, Going.start g n s, rfl⟩, ?_⟩
        rintro m σ H' ⟨A1, s1, l, rfl, a1, fr1, em1, hap, nap, o1, gg, rfl⟩
        walk_at "go"
        refine ⟨ap, l.map nV, rfl, .inl (SqL.of hap), ?_⟩
        rw [List.length_map]
        walk_at "go"
        rw [lt_nat]
        by_cases h5 : l.length < n
        · rw [decide_eq_true h5]
          refine iteT ?_
          walk_at "go"
          refine ⟨A1, s1, rfl, a1, ?_⟩
          walk_at "go"
          by_cases h6 : s1.sink = 1 ∧ s1.latched = true
          · rw [decide_eq_true h6.1, h6.2]
            refine iteF ?_
            have dn := gg.done (.inr h6)
            walk_at "go"
            refine ⟨ap, l.map nV, rfl, .inl (SqL.of hap), ?_⟩
            rw [List.length_map]
            walk_at "go"
            refine ⟨A1, s1, rfl, a1, o1.lt8, ?_⟩
            walk_at "go"
            refine ⟨by show 2 ≤ sizeLine; decide, fun q hq => ?_⟩
            have e2 := same_new (o := .lst [V.int (l.length : Int), V.int (Vbdlae.code s1.latch : Int)]) hq
            have a2 := a1.same e2
            walk_at "go"
            refine ⟨A1, s1, rfl, a2, ?_⟩
            walk_at "go"
            rw [dn] at k
            by_cases h1 : s1.sink = 1
            · rw [decide_eq_true h1]
              rw [if_pos (gg.sink ▸ h1)] at k
              refine iteT ?_
              walk_at "go"
              refine ⟨.inl ⟨rfl, _, SqL.of upd_same⟩, ?_⟩
              walk_at "go"
              refine i_extend upd_same (e2 _ _ hap) (by rw [List.length_map]; show 2 + l.length ≤ sizeLine; have := gg.le; have : 200 ≤ sizeLine := (by decide); omega) ?_
              walk_at "go"
              rw [upd_upd]
              refine k A1 _ q (fin a1 fr1 em1 hq ?_)
              show V.int (l.length : Int) :: V.int (Vbdlae.code s1.latch : Int) :: l.map nV = V.int (l.length : Int) :: V.int (Vbdlae.code s1.latch : Int) :: (l.map Int.ofNat).map V.int
              rw [List.map_map]
              rfl
            · rw [decide_eq_false h1]
              rw [if_neg (fun z => h1 (gg.sink.trans z))] at k
              refine iteF ?_
              walk_at "go"
              exact k A1 _ q (fin a1 fr1 em1 hq)
          · have h6' : (decide (s1.sink = 1) && s1.latched) = false := by
              cases hb : (decide (s1.sink = 1) && s1.latched) with
              | false => rfl
              | true =>
                rw [Bool.and_eq_true, decide_eq_true_iff] at hb
                exact absurd hb h6
            rw [h6']
            refine iteT ?_
            refine ⟨fun σ' H2 => ∃ m', m' < n - l.length ∧ ∃ (A1 : Ad) (s1 : VSt) (l : List Nat), σ' = [some (.ref A1.m), some (.ref p), some (.int (n : Int)), some (.ref ap), none] ∧ At c H2 A1 s1 ∧ Fr H H2 A A1 ∧ A1.m = A.m ∧ H2 ap = some (.lst (l.map nV)) ∧ ap ∉ foot A1 ∧ Ok s1 g ∧ Going g n s s1 l ∧ m' = n - l.length,
              fun σ' H2 z => z, ?_⟩
            walk_at "go"
            refine ⟨.inl ⟨rfl, _, SqL.of hap⟩, ?_⟩
            walk_at "go"
            refine ⟨A1, s1, g, rfl, a1, o1, fun A2 H2 a2 f2 em2 => ?_⟩
            obtain ⟨hap2, nap2⟩ := f2 _ _ hap nap
            walk_at "go"
            refine i_append hap2 (by rw [List.length_map]; have : 200 ≤ sizeLine := (by decide); omega) ?_
            walk_at "go"
            refine ⟨n - (l ++ [(Vbdlae.lastOf s1.line).air]).length, by rw [List.length_append]; simp only [List.length_cons, List.length_nil]; omega, A2, _, l ++ [(Vbdlae.lastOf s1.line).air], by rw [em2], a2.other hap2 nap2, ?_, em2.trans em1, ?_, nap2, o1.moveOne, gg.turn h5 h6, rfl⟩
            · intro b ob hb nb
              obtain ⟨z1, z2⟩ := (fr1.trans f2) b ob hb nb
              refine ⟨?_, z2⟩
              rw [upd_ne (ne_of_none hb hap0)]
              exact z1
            · rw [upd_same, List.map_append]
              rfl
        · rw [decide_eq_false h5]
          refine iteF ?_
          refine iteF ?_
          have dn := gg.done (.inl h5)
          walk_at "go"
          refine ⟨ap, l.map nV, rfl, .inl (SqL.of hap), ?_⟩
          rw [List.length_map]
          walk_at "go"
          refine ⟨A1, s1, rfl, a1, o1.lt8, ?_⟩
          walk_at "go"
          refine ⟨by show 2 ≤ sizeLine; decide, fun q hq => ?_⟩
          have e2 := same_new (o := .lst [V.int (l.length : Int), V.int (Vbdlae.code s1.latch : Int)]) hq
          have a2 := a1.same e2
          walk_at "go"
          refine ⟨A1, s1, rfl, a2, ?_⟩
          walk_at "go"
          rw [dn] at k
          by_cases h1 : s1.sink = 1
          · rw [decide_eq_true h1]
            rw [if_pos (gg.sink ▸ h1)] at k
            refine iteT ?_
            walk_at "go"
            refine ⟨.inl ⟨rfl, _, SqL.of upd_same⟩, ?_⟩
            walk_at "go"
            refine i_extend upd_same (e2 _ _ hap) (by rw [List.length_map]; show 2 + l.length ≤ sizeLine; have := gg.le; have : 200 ≤ sizeLine := (by decide); omega) ?_
            walk_at "go"
            rw [upd_upd]
            refine k A1 _ q (fin a1 fr1 em1 hq ?_)
            show V.int (l.length : Int) :: V.int (Vbdlae.code s1.latch : Int) :: l.map nV = V.int (l.length : Int) :: V.int (Vbdlae.code s1.latch : Int) :: (l.map Int.ofNat).map V.int
            rw [List.map_map]
            rfl
          · rw [decide_eq_false h1]
            rw [if_neg (fun z => h1 (gg.sink.trans z))] at k
            refine iteF ?_
            walk_at "go"
            exact k A1 _ q (fin a1 fr1 em1 hq)
end

section
variable {P : Program} {w : World} {K : PySem.W.Frag} {mg : Str → Option Value} {base : Heap} {c : Cl}
/-! ### lay -/
abbrev st_Machine_lower_latch : Stmt := inClass (top 18) 5
theorem sc_Machine_lower_latch : FnScope ["self", "number"] ["self", "number"] (defScope st_Machine_lower_latch) := ⟨rfl, rfl, rfl, by decide +kernel, rfl, by decide +kernel, by decide +kernel⟩

def spLower (c : Cl) : Sp := fun vs H Q _ => ∃ (A : Ad) (s : VSt) (n : Nat), vs = [.ref A.m, .int n] ∧ At c H A s ∧ n < s.latch.length ∧ ∀ H', At c H' A (s.lower n) → Fr H H' A A → Q .non H'
theorem ok_lower_latch (D : MethAt K c.ma "lower_latch" "Machine.lower_latch" st_Machine_lower_latch ["self", "number"]) (T : Txt K mg c) : MethOk P w K mg base c.ma 1 "lower_latch" ["self", "number"] (spLower c) := by
  refine D.ok sc_Machine_lower_latch (fun vs H Q E h => ?_) (fun f cdv Ar outer s0 H vs Q E hr h => ?_)
  · obtain ⟨A, s, n, rfl, _⟩ := h
    rfl
  · obtain ⟨A, s, n, rfl, a, hn, k⟩ := h
    refine ⟨_, (pss_one (ps_asg pe_bl (pg_sub (pe_f T.cma 19 (pv 0)) (pv 1) set_list))), ?_⟩
    walk_at "go"
    refine i_setL a.lt (ixN_nat (by rw [List.length_map]; exact hn)) ?_
    refine k _ ?_ (Put.upd.fr (mem_ft 5 rfl))
    refine a.setL ?_ Put.upd
    rw [upd_same, ← List.map_set]
def vented (s : VSt) : VSt := { s with trapped := 0, tot := { s.tot with vented := s.tot.vented + s.trapped } }
def spVent (c : Cl) : Sp := fun vs H Q _ => ∃ (A : Ad) (s : VSt), vs = [.ref A.m] ∧ At c H A s ∧ ∀ H', At c H' A (vented s) → Fr H H' A A → Q (.int s.trapped) H'
abbrev st_Machine_vent_trap : Stmt := inClass (top 18) 7
theorem sc_Machine_vent_trap : FnScope ["self", "let_out", "totals"] ["self"] (defScope st_Machine_vent_trap) := ⟨rfl, rfl, rfl, by decide +kernel, rfl, by decide +kernel, by decide +kernel⟩

theorem ok_vent_trap (D : MethAt K c.ma "vent_trap" "Machine.vent_trap" st_Machine_vent_trap ["self"]) (T : Txt K mg c) : MethOk P w K mg base c.ma 1 "vent_trap" ["self"] (spVent c) := by
  refine D.ok sc_Machine_vent_trap (fun vs H Q E h => ?_) (fun f cdv Ar outer s0 H vs Q E hr h => ?_)
  · obtain ⟨A, s, rfl, _⟩ := h
    rfl
  · obtain ⟨A, s, rfl, a, k⟩ := h
    refine ⟨_, (pss_cons (ps_set (i := 1) sc_Machine_vent_trap.nd rfl (Or.inl rfl) (pe_f T.cma 7 (pv 0))) (pss_cons (ps_f T.cma 7 (pv 0) pe_int) (pss_cons (ps_set (i := 2) sc_Machine_vent_trap.nd rfl (Or.inl rfl) (pe_f T.cma 20 (pv 0))) (pss_cons (ps_fa T.cto 8 (pv 2) (pv 1) in_add) (pss_one (ps_ret (pv 1))))))), ?_⟩
    walk_at "go"
    refine j_Set a.m rfl fun H1 h1 p1 => ?_
    have a1 : At c H1 A { s with trapped := 0 } := a.setM h1 p1 {}
    walk_at "go"
    refine j_Set a1.to rfl fun H2 h2 p2 => ?_
    have a2 : At c H2 A (vented s) := a1.setT h2 p2
    walk_at "go"
    exact k H2 a2 ((p1.fr (mem_ft 0 rfl)).trans (p2.fr (mem_ft 1 rfl)))
abbrev st_Settings__init_ : Stmt := inClass (top 16) 0
theorem sc_Settings__init_ : FnScope ["self", "arguments"] ["self", "arguments"] (defScope st_Settings__init_) := ⟨rfl, rfl, rfl, by decide +kernel, rfl, by decide +kernel, by decide +kernel⟩

def spSe (c : Cl) : Sp := fun vs H Q _ => ∃ (p q : Addr) (ns : List Int), vs = [.ref p, .ref q] ∧ Ins H p c.se [] [] ∧ H q = some (.lst (ns.map V.int)) ∧ ns.length = 13 ∧ ∀ H', Ins H' p c.se sK (ns.map V.int) → Put H H' p → Q .non H'
theorem ok_Settings (D : MakeAt K mg c.se "Settings" "Settings.__init__" st_Settings__init_ ["self", "arguments"]) (T : Txt K mg c) : MakeOk P w K mg base c.se 1 "Settings" ["self", "arguments"] (spSe c) := by
  refine D.ok sc_Settings__init_ (fun vs H Q E h => ?_) (fun f cdv Ar outer s0 H vs Q E hr h => ?_)
  · obtain ⟨p, q, ns, rfl, _⟩ := h
    rfl
  · obtain ⟨p, q, ns, rfl, h, hq, hn, k⟩ := h
    have nq : q ≠ p := (h.neL hq).symm
    obtain ⟨x0, x1, x2, x3, x4, x5, x6, x7, x8, x9, x10, x11, x12, rfl⟩ := len13 hn
    refine ⟨_, (pss_cons (ps_n T.cse (by decide +kernel) (pv 0) (pe_ix ix_list (pv 1) pe_int (fun _ _ => rfl))) (pss_cons (ps_n T.cse (by decide +kernel) (pv 0) (pe_ix ix_list (pv 1) pe_int (fun _ _ => rfl))) (pss_cons (ps_n T.cse (by decide +kernel) (pv 0) (pe_ix ix_list (pv 1) pe_int (fun _ _ => rfl))) (pss_cons (ps_n T.cse (by decide +kernel) (pv 0) (pe_ix ix_list (pv 1) pe_int (fun _ _ => rfl))) (pss_cons (ps_n T.cse (by decide +kernel) (pv 0) (pe_ix ix_list (pv 1) pe_int (fun _ _ => rfl))) (pss_cons (ps_n T.cse (by decide +kernel) (pv 0) (pe_ix ix_list (pv 1) pe_int (fun _ _ => rfl))) (pss_cons (ps_n T.cse (by decide +kernel) (pv 0) (pe_ix ix_list (pv 1) pe_int (fun _ _ => rfl))) (pss_cons (ps_n T.cse (by decide +kernel) (pv 0) (pe_ix ix_list (pv 1) pe_int (fun _ _ => rfl))) (pss_cons (ps_n T.cse (by decide +kernel) (pv 0) (pe_ix ix_list (pv 1) pe_int (fun _ _ => rfl))) (pss_cons (ps_n T.cse (by decide +kernel) (pv 0) (pe_ix ix_list (pv 1) pe_int (fun _ _ => rfl))) (pss_cons (ps_n T.cse (by decide +kernel) (pv 0) (pe_ix ix_list (pv 1) pe_int (fun _ _ => rfl))) (pss_cons (ps_n T.cse (by decide +kernel) (pv 0) (pe_ix ix_list (pv 1) pe_int (fun _ _ => rfl))) (pss_one (ps_n T.cse (by decide +kernel) (pv 0) (pe_ix ix_list (pv 1) pe_int (fun _ _ => rfl)))))))))))))))), ?_⟩
    walk_at "go"
    refine arg_at (i := 0) hq rfl ?_
    walk_at "go"
    refine j_New h (by decide +kernel) rfl (by decide) fun H1 h1 p1 => ?_
    have hq1 := p1.eq nq hq
    walk_at "go"
    refine arg_at (i := 1) hq1 rfl ?_
    walk_at "go"
    refine j_New h1 (by decide +kernel) rfl (by decide) fun H2 h2 p2 => ?_
    have hq2 := p2.eq nq hq1
    walk_at "go"
    refine arg_at (i := 2) hq2 rfl ?_
    walk_at "go"
    refine j_New h2 (by decide +kernel) rfl (by decide) fun H3 h3 p3 => ?_
    have hq3 := p3.eq nq hq2
    walk_at "go"
    refine arg_at (i := 3) hq3 rfl ?_
    walk_at "go"
    refine j_New h3 (by decide +kernel) rfl (by decide) fun H4 h4 p4 => ?_
    have hq4 := p4.eq nq hq3
    walk_at "go"
    refine arg_at (i := 4) hq4 rfl ?_
    walk_at "go"
    refine j_New h4 (by decide +kernel) rfl (by decide) fun H5 h5 p5 => ?_
    have hq5 := p5.eq nq hq4
    walk_at "go"
    refine arg_at (i := 5) hq5 rfl ?_
    walk_at "go"
    refine j_New h5 (by decide +kernel) rfl (by decide) fun H6 h6 p6 => ?_
    have hq6 := p6.eq nq hq5
    walk_at "go"
    refine arg_at (i := 6) hq6 rfl ?_
    walk_at "go"
    refine j_New h6 (by decide +kernel) rfl (by decide) fun H7 h7 p7 => ?_
    have hq7 := p7.eq nq hq6
    walk_at "go"
    refine arg_at (i := 7) hq7 rfl ?_
    walk_at "go"
    refine j_New h7 (by decide +kernel) rfl (by decide) fun H8 h8 p8 => ?_
    have hq8 := p8.eq nq hq7
    walk_at "go"
    refine arg_at (i := 8) hq8 rfl ?_
    walk_at "go"
    refine j_New h8 (by decide +kernel) rfl (by decide) fun H9 h9 p9 => ?_
    have hq9 := p9.eq nq hq8
    walk_at "go"
    refine arg_at (i := 9) hq9 rfl ?_
    walk_at "go"
    refine j_New h9 (by decide +kernel) rfl (by decide) fun H10 h10 p10 => ?_
    have hq10 := p10.eq nq hq9
    walk_at "go"
    refine arg_at (i := 10) hq10 rfl ?_
    walk_at "go"
    refine j_New h10 (by decide +kernel) rfl (by decide) fun H11 h11 p11 => ?_
    have hq11 := p11.eq nq hq10
    walk_at "go"
    refine arg_at (i := 11) hq11 rfl ?_
    walk_at "go"
    refine j_New h11 (by decide +kernel) rfl (by decide) fun H12 h12 p12 => ?_
    have hq12 := p12.eq nq hq11
    walk_at "go"
    refine arg_at (i := 12) hq12 rfl ?_
    walk_at "go"
    refine j_New h12 (by decide +kernel) rfl (by decide) fun H13 h13 p13 => ?_
    have hq13 := p13.eq nq hq12
    exact k H13 h13 ((((((((((((p1.trans p2).trans p3).trans p4).trans p5).trans p6).trans p7).trans p8).trans p9).trans p10).trans p11).trans p12).trans p13)
theorem mk_se {H : Hp} {Q : VK} {q : Addr} {ns : List Int} (hq : H q = some (.lst (ns.map V.int))) (hn : ns.length = 13) (k : ∀ p H', H p = none → Ins H' p c.se sK (ns.map V.int) → Same H H' → Q (.ref p) H') : Make1 c.se (spSe c) [.ref q] H Q := by
  intro p dx np nd ne
  refine ⟨p, q, ns, rfl, ⟨dx, upd_same⟩, ?_, hn, fun H' h' pt => ⟨rfl, k p H' np h' fun b o eb => ?_⟩⟩
  · rw [upd_ne (ne_of_none hq np), upd_ne (ne_of_none hq nd)]
    exact hq
  · rw [pt b (ne_of_none eb np), upd_ne (ne_of_none eb np), upd_ne (ne_of_none eb nd)]
    exact eb
theorem add_assoc3 (a b d : Cell) : (a.add b).add d = a.add (b.add d) := by
  unfold Cell.add
  simp only [Nat.add_assoc]
theorem add_zero3 (a : Cell) : a.add {} = a := rfl
theorem zero_add3 (a : Cell) : Cell.add {} a = a := by
  unfold Cell.add
  simp only [Nat.zero_add]
theorem total_snoc (l : List Cell) (x : Cell) : Vbdlae.total (l ++ [x]) = (Vbdlae.total l).add x := by
  induction l with
  | nil =>
    show x.add {} = Cell.add {} x
    rw [zero_add3]
    rfl
  | cons y r ih =>
    show y.add (Vbdlae.total (r ++ [x])) = (y.add (Vbdlae.total r)).add x
    rw [ih, add_assoc3]
def thrownBy (l : List Cell) (s : VSt) : VSt := { s with tot := { s.tot with thrown := s.tot.thrown.add (Vbdlae.total l) } }
def cleared (s : VSt) : VSt := vented (thrownBy s.line s)
def spClear (c : Cl) : Sp := fun vs H Q _ => ∃ (A : Ad) (s : VSt), vs = [.ref A.m] ∧ At c H A s ∧ ∀ H', At c H' A (cleared s) → Fr H H' A A → Q .non H'
abbrev st_clear_old_line : Stmt := top 48
theorem sc_clear_old_line : FnScope ["machine", "totals", "cell"] ["machine"] (defScope st_clear_old_line) := ⟨rfl, rfl, rfl, by decide +kernel, rfl, by decide +kernel, by decide +kernel⟩

theorem ok_clear_old_line (D : DefAt K mg "clear_old_line" st_clear_old_line ["machine"]) (T : Txt K mg c) (G_take_in : MethOk P w K mg base c.am 1 "take_in" ["self", "other"] (spTake c)) (G_vent_trap : MethOk P w K mg base c.ma 1 "vent_trap" ["self"] (spVent c)) : DefOk P w K mg base 2 "clear_old_line" ["machine"] (spClear c) := by
  refine D.ok sc_clear_old_line (fun vs H Q E h => ?_) (fun f cdv Ar outer s0 H vs Q E hr h => ?_)
  · obtain ⟨A, s, rfl, _⟩ := h
    rfl
  · obtain ⟨A, s, rfl, a, k⟩ := h
    refine ⟨_, (pss_cons (ps_set (i := 1) sc_clear_old_line.nd rfl (Or.inl rfl) (pe_f T.cma 20 (pv 0))) (pss_cons (ps_for PassesOwn.never rfl (pi_list (pe_f T.cma 1 (pv 0))) (pg_name (i := 2) sc_clear_old_line.nd rfl (Or.inl rfl)) (pss_one (ps_expr (pe_mth T.cam G_take_in (by decide +kernel) hr (by decide) (pe_f T.cto 6 (pv 1)) (pa_cons (pv 2) pa_nil star_Name))))) (pss_one (ps_expr (pe_mth0 T.cma G_vent_trap (by decide +kernel) hr (by decide) (pv 0)))))), ?_⟩
    walk_at "go"
    refine j_for (SqL.of a.cl) (fun i σ H' => At c H' A (thrownBy (s.line.take i) s) ∧ Fr H H' A A ∧ ∃ v, σ = [some (.ref A.m), some (.ref A.to), v]) ⟨a, Fr.refl, none, rfl⟩ (fun i σ H' _ ⟨z, _⟩ => SqL.of z.cl) ?_ ?_
    · rintro i y σ H' hi ⟨a1, f1, v, rfl⟩
      obtain ⟨b, hb, rfl⟩ := map_at hi
      have hl : i < s.line.length := by rw [← a.cs.1]; exact (List.getElem?_eq_some_iff.mp hb).1
      have hx : s.line[i]? = some (s.line[i]) := List.getElem?_eq_getElem hl
      have hi1 : Ins H' b c.am aK (av (s.line[i])) := a1.cs.2 i b _ hb hx
      have n : A.t5 ≠ b := a.ne (i := 10) rfl (ft_cs hb) (by omega)
      walk_at "go"
      refine ⟨A.t5, b, _, _, rfl, n, a1.t5, hi1, fun H2 h2 p2 => ?_⟩
      have e : (s.tot.thrown.add (Vbdlae.total (s.line.take i))).add (s.line[i]) = s.tot.thrown.add (Vbdlae.total (s.line.take (i + 1))) := by rw [take_snoc hx, total_snoc, add_assoc3]
      have h2' : Ins H2 A.t5 c.am aK (av (s.tot.thrown.add (Vbdlae.total (s.line.take (i + 1))))) := e ▸ h2
      have a2 : At c H2 A (thrownBy (s.line.take (i + 1)) s) := a1.setA (t := { s.tot with thrown := s.tot.thrown.add (Vbdlae.total (s.line.take (i + 1))) }) 10 rfl (by decide) (by decide) p2 rfl rfl rfl rfl rfl h2'
      exact ⟨a2, f1.trans (p2.fr (mem_ft 10 rfl)), _, rfl⟩
    · rintro σ H' ⟨a1, f1, v, rfl⟩
      rw [List.length_map, a.cs.1, List.take_length] at a1
      walk_at "go"
      exact ⟨A, _, rfl, a1, fun H2 a2 f2 => k H2 a2 (f1.trans f2)⟩
def forgotten (s : VSt) : VSt := { Vbdlae.unjoined { s with win := [], clean := 0, unlike := 0, streak := 0, still := 0 } with latch := List.replicate 8 false }
def spForgot (c : Cl) : Sp := fun vs H Q _ => ∃ (A : Ad) (s : VSt), vs = [.ref A.m] ∧ At c H A s ∧ ∀ A' H', At c H' A' (forgotten s) → Fr H H' A A' → A'.m = A.m → Q .non H'
abbrev st_forget_old_line : Stmt := top 49
theorem sc_forget_old_line : FnScope ["machine"] ["machine"] (defScope st_forget_old_line) := ⟨rfl, rfl, rfl, by decide +kernel, rfl, by decide +kernel, by decide +kernel⟩

theorem ok_forget_old_line (D : DefAt K mg "forget_old_line" st_forget_old_line ["machine"]) (T : Txt K mg c) (G_forget_centring : MethOk P w K mg base c.ma 1 "forget_centring" ["self"] (spForget c)) : DefOk P w K mg base 2 "forget_old_line" ["machine"] (spForgot c) := by
  refine D.ok sc_forget_old_line (fun vs H Q E h => ?_) (fun f cdv Ar outer s0 H vs Q E hr h => ?_)
  · obtain ⟨A, s, rfl, _⟩ := h
    rfl
  · obtain ⟨A, s, rfl, a, k⟩ := h
    refine ⟨_, (pss_cons (ps_f T.cma 11 (pv 0) (pe_lst pa_nil)) (pss_cons (ps_f T.cma 12 (pv 0) pe_int) (pss_cons (ps_f T.cma 13 (pv 0) pe_int) (pss_cons (ps_f T.cma 14 (pv 0) pe_int) (pss_cons (ps_f T.cma 18 (pv 0) pe_int) (pss_cons (ps_expr (pe_mth0 T.cma G_forget_centring (by decide +kernel) hr (by decide) (pv 0))) (pss_one (ps_f T.cma 19 (pv 0) (pe_op op_rep (pe_lst (pa_cons pe_bl pa_nil star_Constant)) pe_int))))))))), ?_⟩
    walk_at "go"
    refine ⟨by show 0 ≤ sizeLine; decide, fun q hq => ?_⟩
    have e1 := same_new (o := .lst []) hq
    have a1 := a.same e1
    walk_at "go"
    refine j_Set a1.m rfl fun H2 h2 p2 => ?_
    have a2 : At c H2 { A with rd := q } { s with win := [] } := a1.setRd (l := []) (a.fresh hq) upd_same h2 p2
    have f2 : Fr H H2 A { A with rd := q } := fun b o hb nb => ⟨p2.eq (fun z => nb (z ▸ mem_ft 0 rfl)) (e1 _ _ hb), not_set (i := 4) nb (ne_of_none hb hq)⟩
    generalize hA : ({ A with rd := q } : Ad) = A1 at a2 f2
    have em : A1.m = A.m := by rw [← hA]
    rw [← em] at k ⊢
    walk_at "go"
    refine j_Set a2.m rfl fun H3 h3 p3 => ?_
    have a3 : At c H3 A1 { s with win := [], clean := 0 } := a2.setM h3 p3 {}
    walk_at "go"
    refine j_Set a3.m rfl fun H4 h4 p4 => ?_
    have a4 : At c H4 A1 { s with win := [], clean := 0, unlike := 0 } := a3.setM h4 p4 {}
    walk_at "go"
    refine j_Set a4.m rfl fun H5 h5 p5 => ?_
    have a5 : At c H5 A1 { s with win := [], clean := 0, unlike := 0, streak := 0 } := a4.setM h5 p5 {}
    walk_at "go"
    refine j_Set a5.m rfl fun H6 h6 p6 => ?_
    have a6 : At c H6 A1 { s with win := [], clean := 0, unlike := 0, streak := 0, still := 0 } := a5.setM h6 p6 {}
    walk_at "go"
    refine ⟨A1, _, rfl, a6, fun H7 a7 f7 => ?_⟩
    have f7' : Fr H H7 A A1 := f2.trans (((p3.trans p4).trans (p5.trans p6)).fr (mem_ft 0 rfl) |>.trans f7)
    generalize hA2 : ({ A1 with pr := .non, ce := .non } : Ad) = A2 at a7
    have em2 : A2.m = A1.m := by rw [← hA2]
    have f7'' : Fr H H7 A A2 := by rw [← hA2]; exact f7'
    rw [← em2] at k ⊢
    walk_at "go"
    refine ⟨by show 1 ≤ sizeLine; decide, fun r hr8 => ?_⟩
    have e8 := same_new (o := .lst [V.bl false]) hr8
    have a8 := a7.same e8
    walk_at "go"
    refine ⟨r, 8, [V.bl false], rfl, rfl, upd_same, by decide, by decide, by show 1 * 8 ≤ sizeLine; decide, fun z hz => ?_⟩
    have e9 := same_new (o := .lst (List.replicate (8 : Int).toNat [V.bl false]).flatten) hz
    have a9 := a8.same e9
    walk_at "go"
    refine j_Set a9.m rfl fun H10 h10 p10 => ?_
    have a10 : At c H10 { A2 with lt := z } (forgotten s) := a9.setLt (l := List.replicate 8 false) (a8.fresh hz) upd_same h10 p10
    refine k _ H10 a10 (fun b o hb nb => ?_) rfl
    obtain ⟨z1, z2⟩ := f7'' b o hb nb
    exact ⟨p10.eq (fun y => z2 (y ▸ mem_ft 0 rfl)) (e9 _ _ (e8 _ _ z1)), not_set (i := 5) z2 (ne_of_none (e8 _ _ z1) hz)⟩
end

section
variable {P : Program} {w : World} {K : PySem.W.Frag} {mg : Str → Option Value} {base : Heap} {c : Cl}
/-! ### put_new_line, lay -/
def putNew (g : Cfg) (s : VSt) : VSt := { s with cfg := some g, line := List.replicate g.n Vbdlae.allAir, sink := 0, tot := { s.tot with air := s.tot.air + VOL * g.n, lays := s.tot.lays + 1 } }
theorem laid_eq (s : VSt) (g : Cfg) : Vbdlae.laid s g = putNew g (forgotten (cleared s)) := rfl
def spPut (c : Cl) : Sp := fun vs H Q _ => ∃ (A : Ad) (s : VSt) (g : Cfg) (p : Addr), vs = [.ref A.m, .ref p] ∧ At c H A s ∧ Ins H p c.se sK (sv g) ∧ p ∉ foot A ∧ g.n ≤ 64 ∧ ∀ A' H', At c H' A' (putNew g s) → Fr H H' A A' → A'.m = A.m → Q .non H'
/-- the new cells, as far as they are made -/
structure Made (c : Cl) (H0 H : Hp) (D : Addr) (as : List Addr) (i : Nat) : Prop where
  len : as.length = i
  lst : H D = some (.lst (as.map V.ref))
  ins : ∀ (j : Nat) (b : Addr), as[j]? = some b → Ins H b c.am aK (av Vbdlae.allAir) ∧ H0 b = none
  nd : as.Nodup
  same : Same H0 H
theorem nd_new {A : Ad} {D : Addr} {as : List Addr} (nd : (foot A).Nodup) (hD : D ∉ foot A) (h1 : ∀ b, b ∈ as → b ∉ foot A) (h2 : as.Nodup) (h3 : D ∉ as) : (foot { A with cl := D, cs := as }).Nodup := by
  have e : foot { A with cl := D, cs := as } = (foot11 A).set 2 D ++ as := rfl
  rw [e]
  have n1 : (foot11 A).Nodup := nd.sublist (by rw [foot_eq]; exact List.sublist_append_left _ _)
  have m1 : ∀ b, b ∈ foot11 A → b ∈ foot A := fun b hb => by rw [foot_eq]; exact List.mem_append_left _ hb
  refine List.nodup_append.mpr ⟨nodup_set n1 (fun z => hD (m1 _ z)), h2, fun x hx y hy z => ?_⟩
  subst z
  rcases List.mem_or_eq_of_mem_set hx with q | q
  · exact h1 x hy (m1 _ q)
  · exact h3 (q ▸ hy)
abbrev st_put_new_line : Stmt := top 50
theorem sc_put_new_line : FnScope ["machine", "settings", "place", "totals"] ["machine", "settings"] (defScope st_put_new_line) := ⟨rfl, rfl, rfl, by decide +kernel, rfl, by decide +kernel, by decide +kernel⟩

theorem ok_put_new_line (D : DefAt K mg "put_new_line" st_put_new_line ["machine", "settings"]) (T : Txt K mg c) (G_Amounts : MakeOk P w K mg base c.am 1 "Amounts" ["self", "red", "water", "air"] (spAm c)) : DefOk P w K mg base 3 "put_new_line" ["machine", "settings"] (spPut c) := by
  refine D.ok sc_put_new_line (fun vs H Q E h => ?_) (fun f cdv Ar outer s0 H vs Q E hr h => ?_)
  · obtain ⟨A, s, g, p, rfl, _⟩ := h
    rfl
  · obtain ⟨A, s, g, p, rfl, a, hp, np, h64, k⟩ := h
    refine ⟨_, (pss_cons (ps_f T.cma 0 (pv 0) (pv 1)) (pss_cons (ps_f T.cma 1 (pv 0) (pe_lc (own := [("place", 2)]) rfl sc_put_new_line.nd (pi_range1 rfl T.b_range (pa_cons (pe_f T.cse 0 (pv 1)) pa_nil star_Attribute)) (blkOk_by (show blkC ["machine", "settings", "place", "totals"] (defScope st_put_new_line) _ _ = true by decide +kernel)) (fun _ _ _ _ _ => pg_name (i := 2) sc_put_new_line.nd rfl (Or.inl rfl)) (fun _ _ _ _ _ => pts_nil) (fun _ _ _ _ _ => (pe_new G_Amounts hr (by decide) (pa_cons pe_int (pa_cons pe_int (pa_cons (pe_gi T.g_FULL_CELL) pa_nil star_Name) star_Constant) star_Constant))))) (pss_cons (ps_f T.cma 5 (pv 0) (pe_gi T.g_SINK_DRAIN)) (pss_cons (ps_set (i := 3) sc_put_new_line.nd rfl (Or.inl rfl) (pe_f T.cma 20 (pv 0))) (pss_cons (ps_fa T.cto 2 (pv 3) (pe_op op_mul (pe_gi T.g_FULL_CELL) (pe_f T.cse 0 (pv 1))) in_add) (pss_one (ps_fa T.cto 10 (pv 3) pe_int in_add))))))), ?_⟩
    walk_at "go"
    refine j_Set a.m rfl fun H1 h1 p1 => ?_
    have a1 : At c H1 { A with se := p } { s with cfg := some g } := a.setSe np hp h1 p1
    have hp1 := hp.put p1 (fun z => np (z ▸ mem_ft 0 rfl))
    have f1 : Fr H H1 A { A with se := p } := fun b o hb nb => ⟨p1.eq (fun z => nb (z ▸ mem_ft 0 rfl)) hb, nb⟩
    generalize hA : ({ A with se := p } : Ad) = A1 at a1 f1
    have em : A1.m = A.m := by rw [← hA]
    rw [← em] at k ⊢
    walk_at "go"
    refine j_lcR (n := g.n) (by omega) (fun D i H' => ∃ as, Made c H1 H' D as i) (fun D hD => ⟨[], rfl, upd_same, fun j b hb => by simp at hb, List.nodup_nil, same_new hD⟩) ?_ ?_
    · rintro D hD i H' hi ⟨as, md⟩
      walk_at "go"
      refine ⟨rfl, ?_⟩
      walk_at "go"
      refine iteT ?_
      walk_at "go"
      refine mk_am (d := Vbdlae.allAir) rfl fun x H2 hx hix sm => ?_
      have hl2 := sm _ _ md.lst
      refine ⟨_, hl2, by rw [List.length_map, md.len]; have : 100 ≤ sizeLine := (by decide); omega, as ++ [x], ?_⟩
      have nD : ∀ {b : Addr} {vs : List V}, Ins H2 b c.am aK vs → b ≠ D := fun z => z.neL hl2
      have ps : ∀ b o, H2 b = some o → b ≠ D → upd H2 D (.lst (as.map V.ref ++ [V.ref x])) b = some o := fun b o z n => by rw [upd_ne n]; exact z
      refine ⟨by rw [List.length_append, md.len]; rfl, by rw [upd_same, List.map_append]; rfl, fun j b hb => ?_, ?_, fun b o hb => ?_⟩
      · by_cases hj : j < as.length
        · rw [List.getElem?_append_left hj] at hb
          obtain ⟨z1, z2⟩ := md.ins j b hb
          have z3 := z1.same sm
          obtain ⟨dx, z4⟩ := z3
          exact ⟨⟨dx, ps _ _ z4 (nD ⟨dx, z4⟩)⟩, z2⟩
        · rw [List.getElem?_append_right (by omega)] at hb
          have hj0 : j - as.length = 0 := by
            have := (List.getElem?_eq_some_iff.mp hb).1
            simp at this
            omega
          rw [hj0] at hb
          obtain rfl : x = b := Option.some.inj hb
          obtain ⟨dx, z4⟩ := hix
          exact ⟨⟨dx, ps _ _ z4 (nD ⟨dx, z4⟩)⟩, md.same.free hx⟩
      · refine List.nodup_append.mpr ⟨md.nd, List.nodup_cons.mpr ⟨by simp, List.nodup_nil⟩, fun y hy z hz e => ?_⟩
        rw [List.mem_singleton] at hz
        subst hz
        subst e
        obtain ⟨j, hj, ej⟩ := List.getElem_of_mem hy
        obtain ⟨⟨dx, z1⟩, _⟩ := md.ins j y (by rw [List.getElem?_eq_getElem hj, ej])
        rw [hx] at z1
        cases z1
      · refine ps b o (sm _ _ (md.same _ _ hb)) (fun z => ?_)
        rw [z, hD] at hb
        cases hb
    · rintro D H' hD ⟨as, md⟩
      have a2 := a1.same md.same
      have hin : ∀ b, b ∈ as → H1 b = none := fun b hb => by
        obtain ⟨j, hj, ej⟩ := List.getElem_of_mem hb
        exact (md.ins j b (by rw [List.getElem?_eq_getElem hj, ej])).2
      have nDas : D ∉ as := fun z => by
        obtain ⟨j, hj, ej⟩ := List.getElem_of_mem z
        obtain ⟨⟨dx, z1⟩, _⟩ := md.ins j D (by rw [List.getElem?_eq_getElem hj, ej])
        rw [md.lst] at z1
        cases z1
      have nd' := nd_new a1.nd (a1.fresh hD) (fun b hb => a1.fresh (hin b hb)) md.nd nDas
      have hcs : Cells c H' as (List.replicate g.n Vbdlae.allAir) := by
        refine ⟨by rw [List.length_replicate]; exact md.len, fun j b y hb hy => ?_⟩
        obtain ⟨z, _⟩ := List.getElem?_eq_some_iff.mp hy
        rw [List.getElem?_eq_getElem z, List.getElem_replicate] at hy
        obtain rfl := Option.some.inj hy
        exact (md.ins j b hb).1
      walk_at "go"
      refine j_Set a2.m rfl fun H3 h3 p3 => ?_
      have a3 : At c H3 { A1 with cl := D, cs := as } { s with cfg := some g, line := List.replicate g.n Vbdlae.allAir } := a2.setCells md.lst hcs nd' h3 p3
      have hp3 := (hp1.same md.same).put p3 (fun z => by rw [em] at z; exact np (z ▸ mem_ft 0 rfl))
      have f3 : Fr H H3 A { A1 with cl := D, cs := as } := fun b o hb nb => by
        obtain ⟨z1, z2⟩ := f1 b o hb nb
        exact ⟨p3.eq (fun y => z2 (y ▸ mem_ft 0 rfl)) (md.same _ _ z1), not_cells z2 (ne_of_none z1 hD) fun y => by rw [hin b y] at z1; cases z1⟩
      generalize hA2 : ({ A1 with cl := D, cs := as } : Ad) = A2 at a3 f3
      have em2 : A2.m = A1.m := by rw [← hA2]
      rw [← em2] at k ⊢
      walk_at "go"
      refine j_Set a3.m rfl fun H4 h4 p4 => ?_
      have a4 : At c H4 A2 { s with cfg := some g, line := List.replicate g.n Vbdlae.allAir, sink := 0 } := a3.setM h4 p4 {}
      have hp4 := hp3.put p4 (fun z => by rw [em2, em] at z; exact np (z ▸ mem_ft 0 rfl))
      walk_at "go"
      refine i_rI (.inl ⟨by decide, by decide⟩) ?_
      walk_at "go"
      rw [show (s.tot.air : Int) + 1000 * (g.n : Int) = ((s.tot.air + VOL * g.n : Nat) : Int) by unfold VOL; omega]
      refine j_Set a4.to rfl fun H5 h5 p5 => ?_
      have a5 : At c H5 A2 { s with cfg := some g, line := List.replicate g.n Vbdlae.allAir, sink := 0, tot := { s.tot with air := s.tot.air + VOL * g.n } } := a4.setT h5 p5
      walk_at "go"
      refine j_Set a5.to rfl fun H6 h6 p6 => ?_
      have a6 : At c H6 A2 (putNew g s) := a5.setT h6 p6
      exact k A2 H6 a6 (f3.trans ((p4.fr (mem_ft 0 rfl)).trans ((p5.fr (mem_ft 1 rfl)).trans (p6.fr (mem_ft 1 rfl))))) rfl
theorem sv_cfg {n dz ch dt w t q d room k leak p z : Int} (hr : Vbdlae.ranged (.lay n dz ch dt w t q d room k leak p z) = true) : ([n, dz, ch, dt, w, t, q, d, room, k, leak, p, z] : List Int).map V.int = sv (cfgOf n dz ch dt w t q d room k leak p z) := by
  unfold Vbdlae.ranged at hr
  simp only [Bool.and_eq_true, inR_eq, bad_iff] at hr
  obtain ⟨h1, h2, h3, h4, h5, h6, h7, h8, h9, h10, h11, h12, h13⟩ := hr
  unfold sv cfgOf
  dsimp only [List.map]
  rw [Int.toNat_of_nonneg (by omega), Int.toNat_of_nonneg (by omega), Int.toNat_of_nonneg (by omega), Int.toNat_of_nonneg (by omega), Int.toNat_of_nonneg (by omega), Int.toNat_of_nonneg (by omega), Int.toNat_of_nonneg (by omega), Int.toNat_of_nonneg (by omega),
    Int.toNat_of_nonneg (by omega), Int.toNat_of_nonneg (by omega), Int.toNat_of_nonneg (by omega), Int.toNat_of_nonneg (by omega), Int.toNat_of_nonneg (by omega)]
def spL (c : Cl) : Sp := spDo c (fun s l => Gd s ∧ l.length = 13 ∧ rangeOk 0 l = true) fun s l => Vbdlae.does s (0 :: l)
abbrev st_lay : Stmt := top 47
theorem sc_lay : FnScope ["machine", "arguments"] ["machine", "arguments"] (defScope st_lay) := ⟨rfl, rfl, rfl, by decide +kernel, rfl, by decide +kernel, by decide +kernel⟩

theorem ok_lay (D : DefAt K mg "lay" st_lay ["machine", "arguments"]) (T : Txt K mg c) (G_joined : MethOk P w K mg base c.ma 1 "joined" ["self"] (spAsk c fun s => .bl (decide (s.sink = 1)))) (G_clear_old_line : DefOk P w K mg base 2 "clear_old_line" ["machine"] (spClear c)) (G_forget_old_line : DefOk P w K mg base 2 "forget_old_line" ["machine"] (spForgot c))
    (G_put_new_line : DefOk P w K mg base 3 "put_new_line" ["machine", "settings"] (spPut c)) (G_Settings : MakeOk P w K mg base c.se 1 "Settings" ["self", "arguments"] (spSe c)) : DefOk P w K mg base 4 "lay" ["machine", "arguments"] (spL c) := by
  refine D.ok sc_lay (fun vs H Q E h => ?_) (fun f cdv Ar outer s0 H vs Q E hr h => ?_)
  · obtain ⟨A, s, p, l, rfl, _⟩ := h
    rfl
  · obtain ⟨A, s, pa, l0, rfl, a, hp, np, ⟨gd, hl, hrg⟩, k⟩ := h
    obtain ⟨n, dz, ch, dt, w, t, q, d, room, kk, leak, p, z, rfl⟩ := len13 hl
    have hrd : Vbdlae.ranged (.lay n dz ch dt w t q d room kk leak p z) = true := (ranged_lay ..).trans hrg
    have cok := cfg_ok hrd
    dsimp only at k
    rw [show Vbdlae.does s [0, n, dz, ch, dt, w, t, q, d, room, kk, leak, p, z] = _ from step_lay hrd] at k
    refine ⟨_, (pss_cons (ps_if (pt_val (pe_mth0 T.cma G_joined (by decide +kernel) hr (by decide) (pv 0))) (pss_one (ps_ret (pe_lst (pa_cons (pe_un un_neg pe_int) pa_nil star_UnaryOp)))) pss_nil) (pss_cons (ps_if (pt_cmpR op_ge (pe_f T.cto 10 (pe_f T.cma 20 (pv 0))) (pe_gi T.g_MOST_LINES) (nomark _)) (pss_one (ps_ret (pe_lst (pa_cons (pe_un un_neg pe_int) pa_nil star_UnaryOp)))) pss_nil) (pss_cons (ps_expr (pe_def G_clear_old_line hr (by decide) (pa_cons (pv 0) pa_nil star_Name))) (pss_cons (ps_expr (pe_def G_forget_old_line hr (by decide) (pa_cons (pv 0) pa_nil star_Name))) (pss_cons (ps_expr (pe_def G_put_new_line hr (by decide) (pa_cons (pv 0) (pa_cons (pe_new G_Settings hr (by decide) (pa_cons (pv 1) pa_nil star_Name)) pa_nil star_Call) star_Name))) (pss_one (ps_ret (pe_lst (pa_cons pe_int pa_nil star_Constant))))))))), ?_⟩
    walk_at "go"
    refine ⟨A, s, rfl, a, ?_⟩
    walk_at "go"
    by_cases h1 : s.sink = 1
    · rw [decide_eq_true h1]
      rw [if_pos h1] at k
      refine iteT ?_
      walk_at "go"
      exact ⟨by show 1 ≤ sizeLine; decide, fun q hq => k A _ q (fin a Fr.refl rfl hq)⟩
    · rw [decide_eq_false h1]
      rw [if_neg h1] at k
      refine iteF ?_
      walk_at "go"
      have em : decide ((s.tot.lays : Int) ≥ 1000000) = decide (s.tot.lays = 1000000) := decide_eq_decide.mpr (by have := gd.lays; omega)
      rw [em]
      by_cases h2 : s.tot.lays = 1000000
      · rw [decide_eq_true h2]
        rw [if_pos h2] at k
        refine iteT ?_
        walk_at "go"
        exact ⟨by show 1 ≤ sizeLine; decide, fun q hq => k A _ q (fin a Fr.refl rfl hq)⟩
      · rw [decide_eq_false h2]
        rw [if_neg h2] at k
        refine iteF ?_
        walk_at "go"
        refine ⟨A, s, rfl, a, fun H1 a1 f1 => ?_⟩
        walk_at "go"
        refine ⟨A, _, rfl, a1, fun A2 H2 a2 f2 em2 => ?_⟩
        obtain ⟨hp2, np2⟩ := (f1.trans f2) _ _ hp np
        walk_at "go"
        refine mk_se hp2 hl fun ps H3 hps hi3 sm => ?_
        rw [sv_cfg hrd] at hi3
        have a3 := a2.same sm
        walk_at "go"
        refine ⟨A2, _, _, ps, by rw [em2], a3, hi3, a2.fresh hps, cok.n64, fun A4 H4 a4 f4 em4 => ?_⟩
        walk_at "go"
        refine ⟨by show 1 ≤ sizeLine; decide, fun q' hq => k A4 _ q' (fin ?_ (((f1.trans f2).trans (Same.fr sm)).trans f4) (em4.trans em2) hq)⟩
        rw [laid_eq]
        exact a4
end

section
variable {P : Program} {w : World} {K : PySem.W.Frag} {mg : Str → Option Value} {base : Heap} {c : Cl}
/-! ### source, bag, sink, ultra, wait -/
theorem le1s : 1 ≤ sizeLine := by decide
abbrev st_source : Stmt := top 51
theorem sc_source : FnScope ["machine", "arguments"] ["machine", "arguments"] (defScope st_source) := ⟨rfl, rfl, rfl, by decide +kernel, rfl, by decide +kernel, by decide +kernel⟩

theorem ok_source (D : DefAt K mg "source" st_source ["machine", "arguments"]) (T : Txt K mg c) : DefOk P w K mg base 1 "source" ["machine", "arguments"] (spC c 1) := by
  refine D.ok sc_source (fun vs H Q E h => ?_) (fun f cdv Ar outer s0 H vs Q E hr h => ?_)
  · obtain ⟨A, s, p, l, rfl, _⟩ := h
    rfl
  · obtain ⟨A, s, p, l0, rfl, a, hp, np, ⟨⟨g, o⟩, hl, hrg⟩, k⟩ := h
    obtain ⟨x, h, rfl⟩ := len2 hl
    have e := does_act (x := .source x h) (by decide) (by decide) hl hrg o.cfg rfl
    have hrd := range_of (x := .source x h) (by decide) (by decide) hl hrg rfl
    have hg := o.cfg
    dsimp only at k
    rw [e] at k
    unfold Vbdlae.act at k
    dsimp only at k
    have npm : p ≠ A.m := fun z => np (z ▸ mem_ft 0 rfl)
    have hh := (Bool.and_eq_true _ _ ▸ hrd : _ ∧ _)
    have hx := inR_true hh.1
    have hh := inR_true hh.2
    obtain ⟨x, rfl⟩ : ∃ n : Nat, x = (n : Int) := ⟨x.toNat, by omega⟩
    obtain ⟨h, rfl⟩ : ∃ n : Nat, h = (n : Int) := ⟨h.toNat, by omega⟩
    rw [Int.toNat_natCast, Int.toNat_natCast] at k
    refine ⟨_, (pss_cons (ps_f T.cma 2 (pv 0) (pe_ix ix_list (pv 1) pe_int (fun _ _ => rfl))) (pss_cons (ps_f T.cma 3 (pv 0) (pe_ix ix_list (pv 1) pe_int (fun _ _ => rfl))) (pss_one (ps_ret (pe_lst (pa_cons pe_int pa_nil star_Constant)))))), ?_⟩
    walk_at "go"
    refine arg_at (i := 0) hp rfl ?_
    walk_at "go"
    refine j_Set a.m rfl fun H1 h1 p1 => ?_
    have a1 : At c H1 A { s with source := x } := a.setM h1 p1 {}
    walk_at "go"
    refine arg_at (i := 1) (p1.eq npm hp) rfl ?_
    walk_at "go"
    refine j_Set a1.m rfl fun H2 h2 p2 => ?_
    have a2 : At c H2 A { s with source := x, hem := h } := a1.setM h2 p2 {}
    walk_at "go"
    exact ⟨le1s, fun q hq => k A _ q (fin a2 ((p1.trans p2).fr (mem_ft 0 rfl)) rfl hq)⟩
abbrev st_bag : Stmt := top 52
theorem sc_bag : FnScope ["machine", "arguments"] ["machine", "arguments"] (defScope st_bag) := ⟨rfl, rfl, rfl, by decide +kernel, rfl, by decide +kernel, by decide +kernel⟩

theorem ok_bag (D : DefAt K mg "bag" st_bag ["machine", "arguments"]) (T : Txt K mg c) : DefOk P w K mg base 1 "bag" ["machine", "arguments"] (spC c 2) := by
  refine D.ok sc_bag (fun vs H Q E h => ?_) (fun f cdv Ar outer s0 H vs Q E hr h => ?_)
  · obtain ⟨A, s, p, l, rfl, _⟩ := h
    rfl
  · obtain ⟨A, s, p, l0, rfl, a, hp, np, ⟨⟨g, o⟩, hl, hrg⟩, k⟩ := h
    obtain ⟨x, rfl⟩ := len1 hl
    have e := does_act (x := .bag x) (by decide) (by decide) hl hrg o.cfg rfl
    have hrd := range_of (x := .bag x) (by decide) (by decide) hl hrg rfl
    have hg := o.cfg
    dsimp only at k
    rw [e] at k
    unfold Vbdlae.act at k
    dsimp only at k
    have npm : p ≠ A.m := fun z => np (z ▸ mem_ft 0 rfl)
    have hx := inR_true hrd
    obtain ⟨x, rfl⟩ : ∃ n : Nat, x = (n : Int) := ⟨x.toNat, by omega⟩
    rw [Int.toNat_natCast] at k
    refine ⟨_, (pss_cons (ps_f T.cma 4 (pv 0) (pe_ix ix_list (pv 1) pe_int (fun _ _ => rfl))) (pss_one (ps_ret (pe_lst (pa_cons pe_int pa_nil star_Constant))))), ?_⟩
    walk_at "go"
    refine arg_at (i := 0) hp rfl ?_
    walk_at "go"
    refine j_Set a.m rfl fun H1 h1 p1 => ?_
    have a1 : At c H1 A { s with bag := x } := a.setM h1 p1 {}
    walk_at "go"
    exact ⟨le1s, fun q hq => k A _ q (fin a1 (p1.fr (mem_ft 0 rfl)) rfl hq)⟩
abbrev st_ultra : Stmt := top 54
theorem sc_ultra : FnScope ["machine", "arguments"] ["machine", "arguments"] (defScope st_ultra) := ⟨rfl, rfl, rfl, by decide +kernel, rfl, by decide +kernel, by decide +kernel⟩

theorem ok_ultra (D : DefAt K mg "ultra" st_ultra ["machine", "arguments"]) (T : Txt K mg c) : DefOk P w K mg base 1 "ultra" ["machine", "arguments"] (spC c 4) := by
  refine D.ok sc_ultra (fun vs H Q E h => ?_) (fun f cdv Ar outer s0 H vs Q E hr h => ?_)
  · obtain ⟨A, s, p, l, rfl, _⟩ := h
    rfl
  · obtain ⟨A, s, p, l0, rfl, a, hp, np, ⟨⟨g, o⟩, hl, hrg⟩, k⟩ := h
    obtain ⟨x, rfl⟩ := len1 hl
    have e := does_act (x := .ultra x) (by decide) (by decide) hl hrg o.cfg rfl
    have hrd := range_of (x := .ultra x) (by decide) (by decide) hl hrg rfl
    have hg := o.cfg
    dsimp only at k
    rw [e] at k
    unfold Vbdlae.act at k
    dsimp only at k
    have npm : p ≠ A.m := fun z => np (z ▸ mem_ft 0 rfl)
    have hx := inR_true hrd
    obtain ⟨x, rfl⟩ : ∃ n : Nat, x = (n : Int) := ⟨x.toNat, by omega⟩
    rw [Int.toNat_natCast] at k
    refine ⟨_, (pss_cons (ps_f T.cma 6 (pv 0) (pe_ix ix_list (pv 1) pe_int (fun _ _ => rfl))) (pss_one (ps_ret (pe_lst (pa_cons pe_int pa_nil star_Constant))))), ?_⟩
    walk_at "go"
    refine arg_at (i := 0) hp rfl ?_
    walk_at "go"
    refine j_Set a.m rfl fun H1 h1 p1 => ?_
    have a1 : At c H1 A { s with ultra := x } := a.setM h1 p1 {}
    walk_at "go"
    exact ⟨le1s, fun q hq => k A _ q (fin a1 (p1.fr (mem_ft 0 rfl)) rfl hq)⟩
abbrev st_sink : Stmt := top 53
theorem sc_sink : FnScope ["machine", "arguments", "wanted"] ["machine", "arguments"] (defScope st_sink) := ⟨rfl, rfl, rfl, by decide +kernel, rfl, by decide +kernel, by decide +kernel⟩

theorem ok_sink (D : DefAt K mg "sink" st_sink ["machine", "arguments"]) (T : Txt K mg c) (G_latched : MethOk P w K mg base c.ma 1 "latched" ["self"] (spAsk c fun s => .bl s.latched)) (G_clean_needed : MethOk P w K mg base c.se 1 "clean_needed" ["self"] (spNeed c)) (G_forget_centring : MethOk P w K mg base c.ma 1 "forget_centring" ["self"] (spForget c)) : DefOk P w K mg base 2 "sink" ["machine", "arguments"] (spC c 3) := by
  refine D.ok sc_sink (fun vs H Q E h => ?_) (fun f cdv Ar outer s0 H vs Q E hr h => ?_)
  · obtain ⟨A, s, p, l, rfl, _⟩ := h
    rfl
  · obtain ⟨A, s, p, l0, rfl, a, hp, np, ⟨⟨g, o⟩, hl, hrg⟩, k⟩ := h
    obtain ⟨x, rfl⟩ := len1 hl
    have e := does_act (x := .sink x) (by decide) (by decide) hl hrg o.cfg rfl
    have hrd := range_of (x := .sink x) (by decide) (by decide) hl hrg rfl
    have hg := o.cfg
    dsimp only at k
    rw [e] at k
    unfold Vbdlae.act at k
    dsimp only at k
    have npm : p ≠ A.m := fun z => np (z ▸ mem_ft 0 rfl)
    have hx := inR_true hrd
    obtain ⟨x, rfl⟩ : ∃ n : Nat, x = (n : Int) := ⟨x.toNat, by omega⟩
    rw [Int.toNat_natCast] at k
    refine ⟨_, (pss_cons (ps_set (i := 2) sc_sink.nd rfl (Or.inl rfl) (pe_ix ix_list (pv 1) pe_int (fun _ _ => rfl))) (pss_cons (ps_if (pt_cmpR op_eq (pe_f T.cma 5 (pv 0)) (pv 2) (nomark _)) (pss_one (ps_ret (pe_lst (pa_cons pe_int pa_nil star_Constant)))) pss_nil) (pss_cons (ps_if (pt_cmpR op_eq (pv 2) (pe_gi T.g_SINK_PATIENT) (nomark _)) (pss_cons (ps_if (pt_val (pe_mth0 T.cma G_latched (by decide +kernel) hr (by decide) (pv 0))) (pss_one (ps_ret (pe_lst (pa_cons (pe_un un_neg pe_int) pa_nil star_UnaryOp)))) pss_nil) (pss_one (ps_if (pt_cmpR op_lt (pe_f T.cma 12 (pv 0)) (pe_mth0 T.cse G_clean_needed (by decide +kernel) hr (by decide) (pe_f T.cma 0 (pv 0))) (nomark _)) (pss_one (ps_ret (pe_lst (pa_cons (pe_un un_neg pe_int) pa_nil star_UnaryOp)))) pss_nil))) pss_nil) (pss_cons (ps_f T.cma 5 (pv 0) (pv 2)) (pss_cons (ps_expr (pe_mth0 T.cma G_forget_centring (by decide +kernel) hr (by decide) (pv 0))) (pss_one (ps_ret (pe_lst (pa_cons pe_int pa_nil star_Constant))))))))), ?_⟩
    walk_at "go"
    refine arg_at (i := 0) hp rfl ?_
    walk_at "go"
    rw [dec_nat]
    by_cases h0 : s.sink = x
    · rw [decide_eq_true h0]
      rw [if_pos h0.symm] at k
      refine iteT ?_
      walk_at "go"
      exact ⟨le1s, fun q hq => k A _ q (fin a Fr.refl rfl hq)⟩
    · rw [decide_eq_false h0]
      rw [if_neg (fun z => h0 z.symm)] at k
      refine iteF ?_
      walk_at "go"
      have last : ∀ (k' : ∀ A' H' q, Out c H H' A A' { Vbdlae.unjoined s with sink := x } q [0] → Q (.ref q) H') (H1 : Hp) (h1 : Ins H1 A.m c.ma mK ((mv A s).set 5 (.int (x : Int)))) (p1 : Put H H1 A.m), At c H1 A { s with sink := x } := fun _ H1 h1 p1 => a.setM h1 p1 {}
      by_cases h1 : (x : Int) = 1
      · rw [decide_eq_true h1]
        refine iteT ?_
        walk_at "go"
        refine ⟨A, s, rfl, a, ?_⟩
        walk_at "go"
        cases h2 : s.latched with
        | true =>
          rw [if_pos ⟨h1, h2⟩] at k
          refine iteT ?_
          walk_at "go"
          exact ⟨le1s, fun q hq => k A _ q (fin a Fr.refl rfl hq)⟩
        | false =>
          rw [if_neg (fun z => by rw [h2] at z; cases z.2)] at k
          refine iteF ?_
          walk_at "go"
          refine ⟨A.se, g, by rw [hg]; rfl, (a.se g hg).1, by have := o.dn; omega, ?_⟩
          walk_at "go"
          rw [lt_nat]
          by_cases h3 : s.clean < g.n - g.dt
          · rw [decide_eq_true h3]
            rw [if_pos ⟨h1, h3⟩] at k
            refine iteT ?_
            walk_at "go"
            exact ⟨le1s, fun q hq => k A _ q (fin a Fr.refl rfl hq)⟩
          · rw [decide_eq_false h3]
            rw [if_neg (fun z => h3 z.2)] at k
            refine iteF ?_
            walk_at "go"
            refine j_Set a.m rfl fun H1 h1 p1 => ?_
            have a1 := last k H1 h1 p1
            walk_at "go"
            refine ⟨A, _, rfl, a1, fun H2 a2 f2 => ?_⟩
            walk_at "go"
            exact ⟨le1s, fun q hq => k _ _ q (fin a2 ((p1.fr (mem_ft 0 rfl)).trans f2) rfl hq)⟩
      · rw [decide_eq_false h1]
        rw [if_neg (fun z => h1 z.1), if_neg (fun z => h1 z.1)] at k
        refine iteF ?_
        walk_at "go"
        refine j_Set a.m rfl fun H1 h1 p1 => ?_
        have a1 := last k H1 h1 p1
        walk_at "go"
        refine ⟨A, _, rfl, a1, fun H2 a2 f2 => ?_⟩
        walk_at "go"
        exact ⟨le1s, fun q hq => k _ _ q (fin a2 ((p1.fr (mem_ft 0 rfl)).trans f2) rfl hq)⟩
/-- what wait does to still -/
def waited (n : Nat) (s : VSt) : VSt := { s with still := if Vbdlae.blood s.line = true then min 1000000 (s.still + n) else 0 }
abbrev st_wait : Stmt := top 56
theorem sc_wait : FnScope ["machine", "arguments", "cell"] ["machine", "arguments"] (defScope st_wait) := ⟨rfl, rfl, rfl, by decide +kernel, rfl, by decide +kernel, by decide +kernel⟩

theorem ok_wait (D : DefAt K mg "wait" st_wait ["machine", "arguments"]) (T : Txt K mg c) (G_raise_latch : MethOk P w K mg base c.ma 1 "raise_latch" ["self", "number"] (spRaise c)) (G_latches_number : MethOk P w K mg base c.ma 1 "latches_number" ["self"] (spCode c)) : DefOk P w K mg base 2 "wait" ["machine", "arguments"] (spC c 6) := by
  refine D.ok sc_wait (fun vs H Q E h => ?_) (fun f cdv Ar outer s0 H vs Q E hr h => ?_)
  · obtain ⟨A, s, p, l, rfl, _⟩ := h
    rfl
  · obtain ⟨A, s, p, l0, rfl, a, hp, np, ⟨⟨g, o⟩, hl, hrg⟩, k⟩ := h
    obtain ⟨x, rfl⟩ := len1 hl
    have e := does_act (x := .wait x) (by decide) (by decide) hl hrg o.cfg rfl
    have hrd := range_of (x := .wait x) (by decide) (by decide) hl hrg rfl
    have hg := o.cfg
    dsimp only at k
    rw [e] at k
    unfold Vbdlae.act at k
    dsimp only at k
    have npm : p ≠ A.m := fun z => np (z ▸ mem_ft 0 rfl)
    have hx := inR_true hrd
    obtain ⟨x, rfl⟩ : ∃ n : Nat, x = (n : Int) := ⟨x.toNat, by omega⟩
    rw [Int.toNat_natCast] at k
    have k1 : ∀ A' H' q, Out c H H' A A' ((waited x s).raise 7 (decide (g.z < (waited x s).still))) q [(Vbdlae.code ((waited x s).raise 7 (decide (g.z < (waited x s).still))).latch : Int)] → Q (.ref q) H' := k
    have ow : Ok (waited x s) g := o.to
    refine ⟨_, (pss_cons (ps_if (pt_val (pe_any1 T.b_any (ha := (pa_cons (pe_lc (own := [("cell", 2)]) rfl sc_wait.nd (pi_list (pe_f T.cma 1 (pv 0))) (blkOk_by (show blkC ["machine", "arguments", "cell"] (defScope st_wait) _ _ = true by decide +kernel)) (fun _ _ _ _ _ => pg_name (i := 2) sc_wait.nd rfl (Or.inl rfl)) (fun _ _ _ _ _ => pts_nil) (fun _ _ _ _ _ => (pe_cmpR op_gt (pe_f T.cam 0 (pv 2)) pe_int (nomark _)))) pa_nil star_ListComp)))) (pss_one (ps_f T.cma 18 (pv 0) (pe_min2 T.b_min (ha := (pa_cons (pe_op op_add (pe_f T.cma 18 (pv 0)) (pe_ix ix_list (pv 1) pe_int (fun _ _ => rfl))) (pa_cons (pe_gi T.g_MOST_STILL) pa_nil star_Name) star_BinOp))))) (pss_one (ps_f T.cma 18 (pv 0) pe_int))) (pss_cons (ps_if (pt_cmpR op_gt (pe_f T.cma 18 (pv 0)) (pe_f T.cse 12 (pe_f T.cma 0 (pv 0))) (nomark _)) (pss_one (ps_expr (pe_mth T.cma G_raise_latch (by decide +kernel) hr (by decide) (pv 0) (pa_cons (pe_gi T.g_LATCH_STILL) pa_nil star_Name)))) pss_nil) (pss_one (ps_ret (pe_lst (pa_cons (pe_mth0 T.cma G_latches_number (by decide +kernel) hr (by decide) (pv 0)) pa_nil star_Call)))))), ?_⟩
    walk_at "go"
    refine j_lcL (SqL.of a.cl) (fun D i H' => Same H H' ∧ H' D = some (.lst (((s.line.take i).map fun y : Cell => decide (0 < y.red)).map V.bl))) (fun D hD => ⟨same_new hD, upd_same⟩) (fun D hD i H' _ ⟨e, _⟩ => SqL.of (e _ _ a.cl)) ?_ ?_
    · rintro D hD i y H' hi' ⟨e, hl⟩
      obtain ⟨b, hb, rfl⟩ := map_at hi'
      have hln : i < s.line.length := by rw [← a.cs.1]; exact (List.getElem?_eq_some_iff.mp hb).1
      have hcx : s.line[i]? = some (s.line[i]) := List.getElem?_eq_getElem hln
      have hi1 : Ins H' b c.am aK (av (s.line[i])) := (a.same e).cs.2 i b _ hb hcx
      walk_at "go"
      refine ⟨rfl, ?_⟩
      walk_at "go"
      refine iteT ?_
      walk_at "go"
      rw [show decide (((s.line[i]).red : Int) > 0) = decide (0 < (s.line[i]).red) from decide_eq_decide.mpr (by omega)]
      refine ⟨_, hl, by rw [List.length_map, List.length_map, List.length_take]; have := o.len; have := o.n64; have : 100 ≤ sizeLine := (by decide); omega, fun b' o' hb' => ?_, ?_⟩
      · rw [upd_ne (ne_of_none hb' hD)]
        exact e _ _ hb'
      · rw [upd_same, take_snoc hcx, List.map_append, List.map_append]
        rfl
    · rintro D H1 hD ⟨e1, hl1⟩
      have a1 := a.same e1
      have hp1 := e1 _ _ hp
      rw [List.length_map, a.cs.1, List.take_length] at hl1
      walk_at "go"
      refine ⟨D, _, rfl, SqL.of hl1, ?_⟩
      rw [List.any_map]
      rw [show (List.any s.line (id ∘ fun y : Cell => decide (0 < y.red))) = Vbdlae.blood s.line from rfl]
      walk_at "go"
      cases hb : Vbdlae.blood s.line with
      | true =>
        refine iteT ?_
        walk_at "go"
        refine arg_at (i := 0) hp1 rfl ?_
        walk_at "go"
        rw [iminw s.still x 1000000 1000000 rfl]
        refine j_Set a1.m rfl fun H2 h2 p2 => ?_
        have ew : waited x s = { s with still := min 1000000 (s.still + x) } := by unfold waited; rw [hb]; rfl
        have a2 : At c H2 A (waited x s) := by rw [ew]; exact a1.setM h2 p2 {}
        clear h2
        have f2 : Fr H H2 A A := (Same.fr e1).trans (p2.fr (mem_ft 0 rfl))
        have hgw : (waited x s).cfg = some g := hg
        walk_at "go"
        rw [show decide (((waited x s).still : Int) > (g.z : Int)) = decide (g.z < (waited x s).still) from lt_nat _ _]
        cases h7 : decide (g.z < (waited x s).still) with
        | true =>
          rw [h7] at k1
          refine iteT ?_
          walk_at "go"
          refine ⟨A, _, 7, rfl, a2, by rw [ow.lt8]; decide, fun H3 a3 f3 => ?_⟩
          walk_at "go"
          refine ⟨A, _, rfl, a3, (ow.raise 7 true).lt8, ?_⟩
          walk_at "go"
          exact ⟨le1s, fun q hq => k1 A _ q (fin a3 (f2.trans f3) rfl hq)⟩
        | false =>
          rw [h7] at k1
          refine iteF ?_
          walk_at "go"
          refine ⟨A, _, rfl, a2, ow.lt8, ?_⟩
          walk_at "go"
          exact ⟨le1s, fun q hq => k1 A _ q (fin a2 f2 rfl hq)⟩
      | false =>
        refine iteF ?_
        walk_at "go"
        refine j_Set a1.m rfl fun H2 h2 p2 => ?_
        have ew : waited x s = { s with still := 0 } := by unfold waited; rw [hb]; rfl
        have a2 : At c H2 A (waited x s) := by rw [ew]; exact a1.setM h2 p2 {}
        clear h2
        have f2 : Fr H H2 A A := (Same.fr e1).trans (p2.fr (mem_ft 0 rfl))
        have hgw : (waited x s).cfg = some g := hg
        walk_at "go"
        rw [show decide (((waited x s).still : Int) > (g.z : Int)) = decide (g.z < (waited x s).still) from lt_nat _ _]
        cases h7 : decide (g.z < (waited x s).still) with
        | true =>
          rw [h7] at k1
          refine iteT ?_
          walk_at "go"
          refine ⟨A, _, 7, rfl, a2, by rw [ow.lt8]; decide, fun H3 a3 f3 => ?_⟩
          walk_at "go"
          refine ⟨A, _, rfl, a3, (ow.raise 7 true).lt8, ?_⟩
          walk_at "go"
          exact ⟨le1s, fun q hq => k1 A _ q (fin a3 (f2.trans f3) rfl hq)⟩
        | false =>
          rw [h7] at k1
          refine iteF ?_
          walk_at "go"
          refine ⟨A, _, rfl, a2, ow.lt8, ?_⟩
          walk_at "go"
          exact ⟨le1s, fun q hq => k1 A _ q (fin a2 f2 rfl hq)⟩
end

section
variable {P : Program} {w : World} {K : PySem.W.Frag} {mg : Str → Option Value} {base : Heap} {c : Cl}
/-! ### pressures -/
/-- the pressure a (0) or v (1) of a pair is usual; is bad -/
def usualP (i : Nat) (x : Int × Int) : Bool := if i = 0 then Vbdlae.inR x.1 (-300) 100 else Vbdlae.inR x.2 10 400
def badP (i : Nat) (p : Nat) (s : VSt) (x : Int × Int) : Bool := if i = 0 then Vbdlae.badA p s x.1 else Vbdlae.badV p s x.2
def valP (i : Nat) (x : Int × Int) : Int := if i = 0 then x.1 else x.2
def loP (i : Nat) : Int := if i = 0 then -300 else 10
def hiP (i : Nat) : Int := if i = 0 then 100 else 400
theorem usual_eq {i : Nat} (x : Int × Int) : usualP i x = Vbdlae.inR (valP i x) (loP i) (hiP i) := by
  unfold usualP valP loP hiP
  by_cases h : i = 0
  · rw [if_pos h, if_pos h, if_pos h, if_pos h]
  · rw [if_neg h, if_neg h, if_neg h, if_neg h]
theorem val_at {i : Nat} (h : i < 2) (x : Int × Int) : ([V.int x.1, V.int x.2] : List V)[i]? = some (.int (valP i x)) := by
  match i, h with
  | 0, _ => rfl
  | 1, _ => rfl
def spUsual (c : Cl) : Sp := fun vs H Q _ => ∃ (p : Addr) (x : Int × Int) (i : Nat), vs = [.ref p, .int i] ∧ H p = some (.tup [.int x.1, .int x.2]) ∧ i < 2 ∧ Q (.bl (usualP i x)) H
abbrev st_is_usual : Stmt := top 41
theorem sc_is_usual : FnScope ["pressures", "which", "limits"] ["pressures", "which"] (defScope st_is_usual) := ⟨rfl, rfl, rfl, by decide +kernel, rfl, by decide +kernel, by decide +kernel⟩

theorem ok_is_usual (D : DefAt K mg "is_usual" st_is_usual ["pressures", "which"]) (T : Txt K mg c) : DefOk P w K mg base 1 "is_usual" ["pressures", "which"] (spUsual c) := by
  refine D.ok sc_is_usual (fun vs H Q E h => ?_) (fun f cdv Ar outer s0 H vs Q E hr h => ?_)
  · obtain ⟨p, x, i, rfl, _⟩ := h
    rfl
  · obtain ⟨p, x, i, rfl, hp, hi, k⟩ := h
    obtain ⟨u, v, hu, ha, hb⟩ := T.usual
    obtain ⟨b, hb1, hb2⟩ : ∃ b, ([V.ref u, V.ref v] : List V)[i]? = some (.ref b) ∧ TupK K b [.int (loP i), .int (hiP i)] := by
      match i, hi with
      | 0, _ => exact ⟨u, rfl, ha⟩
      | 1, _ => exact ⟨v, rfl, hb⟩
    refine ⟨_, (pss_cons (ps_set (i := 2) sc_is_usual.nd rfl (Or.inl rfl) (pe_ix ix_tup (pe_gr T.g_USUAL_PRESSURES) (pv 1) (fun _ _ => rfl))) (pss_one (ps_ret (pe_and (pe_cmpR op_ge (pe_ix ix_tup (pv 0) (pv 1) (fun _ _ => rfl)) (pe_ix ix_tup (pv 2) pe_int (fun _ _ => rfl)) (nomark _)) (pe_one (pe_cmpR op_le (pe_ix ix_tup (pv 0) (pv 1) (fun _ _ => rfl)) (pe_ix ix_tup (pv 2) pe_int (fun _ _ => rfl)) (nomark _))))))), ?_⟩
    walk_at "go"
    refine i_ixT hu.sq (atI_nat hb1) ?_
    walk_at "go"
    refine i_ixT (SqT.of hp) (atI_nat (val_at hi x)) ?_
    walk_at "go"
    refine i_ixT hb2.sq (atI_nat (j := 0) rfl) ?_
    walk_at "go"
    rw [usual_eq] at k
    unfold Vbdlae.inR at k
    by_cases h1 : loP i ≤ valP i x
    · rw [decide_eq_true h1] at k
      rw [show decide (valP i x ≥ loP i) = true from decide_eq_true h1]
      refine iteT ?_
      walk_at "go"
      refine i_ixT (SqT.of hp) (atI_nat (val_at hi x)) ?_
      walk_at "go"
      refine i_ixT hb2.sq (atI_nat (j := 1) rfl) ?_
      walk_at "go"
      exact k
    · rw [decide_eq_false h1] at k
      rw [show decide (valP i x ≥ loP i) = false from decide_eq_false h1]
      refine iteF ?_
      exact k
theorem bad_eq {i : Nat} (h : i < 2) (p : Nat) (s : VSt) (x : Int × Int) : badP i p s x = (!usualP i x || Vbdlae.far p (valP i x) (s.centre.map (valP i))) := by
  match i, h with
  | 0, _ => rfl
  | 1, _ => rfl
theorem far_abs (x y : Int) (p : Nat) : decide ((if x - y < 0 then -(x - y) else x - y) > (p : Int)) = (decide ((p : Int) < x - y) || decide ((p : Int) < y - x)) := by
  rw [Bool.eq_iff_iff, Bool.or_eq_true, decide_eq_true_iff, decide_eq_true_iff, decide_eq_true_iff]
  split <;> omega
def spBad (c : Cl) : Sp := fun vs H Q _ => ∃ (A : Ad) (s : VSt) (g : Cfg) (p : Addr) (x : Int × Int) (i : Nat), vs = [.ref A.m, .ref p, .int i] ∧ At c H A s ∧ s.cfg = some g ∧ H p = some (.tup [.int x.1, .int x.2]) ∧ i < 2 ∧ Q (.bl (badP i g.p s x)) H
abbrev st_is_bad : Stmt := top 40
theorem sc_is_bad : FnScope ["machine", "pressures", "which"] ["machine", "pressures", "which"] (defScope st_is_bad) := ⟨rfl, rfl, rfl, by decide +kernel, rfl, by decide +kernel, by decide +kernel⟩

theorem ok_is_bad (D : DefAt K mg "is_bad" st_is_bad ["machine", "pressures", "which"]) (T : Txt K mg c) (G_is_usual : DefOk P w K mg base 1 "is_usual" ["pressures", "which"] (spUsual c)) : DefOk P w K mg base 2 "is_bad" ["machine", "pressures", "which"] (spBad c) := by
  refine D.ok sc_is_bad (fun vs H Q E h => ?_) (fun f cdv Ar outer s0 H vs Q E hr h => ?_)
  · obtain ⟨A, s, g, p, x, i, rfl, _⟩ := h
    rfl
  · obtain ⟨A, s, g, p, x, i, rfl, a, hg, hp, hi, k⟩ := h
    rw [bad_eq hi] at k
    refine ⟨_, (pss_cons (ps_if (pt_not (pt_val (pe_def G_is_usual hr (by decide) (pa_cons (pv 1) (pa_cons (pv 2) pa_nil star_Name) star_Name)))) (pss_one (ps_ret pe_bl)) pss_nil) (pss_one (ps_ret (pe_and (pe_cmp (pc_notN (pe_f T.cma 16 (pv 0)))) (pe_one (pe_cmpR op_gt (pe_abs1 T.b_abs (ha := (pa_cons (pe_op op_sub (pe_ix ix_tup (pv 1) (pv 2) (fun _ _ => rfl)) (pe_ix ix_tup (pe_f T.cma 16 (pv 0)) (pv 2) (fun _ _ => rfl))) pa_nil star_BinOp))) (pe_f T.cse 11 (pe_f T.cma 0 (pv 0))) (nomark _))))))), ?_⟩
    walk_at "go"
    refine ⟨p, x, i, rfl, hp, hi, ?_⟩
    walk_at "go"
    cases h1 : usualP i x with
    | false =>
      rw [h1] at k
      refine iteT ?_
      walk_at "go"
      exact k
    | true =>
      rw [h1] at k
      refine iteF ?_
      walk_at "go"
      rw [a.ce.isN]
      cases h2 : s.centre with
      | none =>
        rw [h2] at k
        refine iteF ?_
        exact k
      | some y =>
        rw [h2] at k
        have hce := a.ce
        rw [h2] at hce
        obtain ⟨q, eq, hq, nq⟩ := hce
        refine iteT ?_
        walk_at "go"
        refine i_ixT (SqT.of hp) (atI_nat (val_at hi x)) ?_
        walk_at "go"
        rw [eq]
        refine i_ixT (SqT.of hq) (atI_nat (val_at hi y)) ?_
        walk_at "go"
        rw [far_abs]
        exact k
def spLast (c : Cl) : Sp := fun vs H Q _ => ∃ (A : Ad) (s : VSt) (g : Cfg) (i : Nat), vs = [.ref A.m, .int i] ∧ At c H A s ∧ s.cfg = some g ∧ i < 2 ∧ Q (.bl (s.last.any fun x => badP i g.p s x)) H
abbrev st_last_is_bad : Stmt := top 42
theorem sc_last_is_bad : FnScope ["machine", "which"] ["machine", "which"] (defScope st_last_is_bad) := ⟨rfl, rfl, rfl, by decide +kernel, rfl, by decide +kernel, by decide +kernel⟩

theorem ok_last_is_bad (D : DefAt K mg "last_is_bad" st_last_is_bad ["machine", "which"]) (T : Txt K mg c) (G_is_bad : DefOk P w K mg base 2 "is_bad" ["machine", "pressures", "which"] (spBad c)) : DefOk P w K mg base 3 "last_is_bad" ["machine", "which"] (spLast c) := by
  refine D.ok sc_last_is_bad (fun vs H Q E h => ?_) (fun f cdv Ar outer s0 H vs Q E hr h => ?_)
  · obtain ⟨A, s, g, i, rfl, _⟩ := h
    rfl
  · obtain ⟨A, s, g, i, rfl, a, hg, hi, k⟩ := h
    refine ⟨_, (pss_one (ps_ret (pe_and (pe_cmp (pc_notN (pe_f T.cma 15 (pv 0)))) (pe_one (pe_def G_is_bad hr (by decide) (pa_cons (pv 0) (pa_cons (pe_f T.cma 15 (pv 0)) (pa_cons (pv 1) pa_nil star_Name) star_Attribute) star_Name)))))), ?_⟩
    walk_at "go"
    rw [a.pr.isN]
    cases h2 : s.last with
    | none =>
      rw [h2] at k
      refine iteF ?_
      exact k
    | some y =>
      rw [h2] at k
      have hpr := a.pr
      rw [h2] at hpr
      obtain ⟨q, eq, hq, nq⟩ := hpr
      refine iteT ?_
      walk_at "go"
      rw [eq]
      exact ⟨A, s, g, q, y, i, rfl, a, hg, hq, hi, k⟩
abbrev st_centre : Stmt := top 58
theorem sc_centre : FnScope ["machine", "last"] ["machine"] (defScope st_centre) := ⟨rfl, rfl, rfl, by decide +kernel, rfl, by decide +kernel, by decide +kernel⟩

theorem ok_centre (D : DefAt K mg "centre" st_centre ["machine"]) (T : Txt K mg c) (G_is_usual : DefOk P w K mg base 1 "is_usual" ["pressures", "which"] (spUsual c)) : DefOk P w K mg base 2 "centre" ["machine"] (spC0 c 8) := by
  refine D.ok sc_centre (fun vs H Q E h => ?_) (fun f cdv Ar outer s0 H vs Q E hr h => ?_)
  · obtain ⟨A, s, rfl, _⟩ := h
    rfl
  · obtain ⟨A, s, rfl, a, ⟨g, o⟩, k⟩ := h
    have e := does_act (s := s) (args := []) (x := .centre) (p := 8) (by decide) (by decide) rfl rfl o.cfg rfl
    have hg := o.cfg
    dsimp only at k
    rw [e] at k
    unfold Vbdlae.act at k
    dsimp only at k
    refine ⟨_, (pss_cons (ps_set (i := 1) sc_centre.nd rfl (Or.inl rfl) (pe_f T.cma 15 (pv 0))) (pss_cons (ps_if (pt_cmp (pc_isN (pv 1))) (pss_one (ps_ret (pe_lst (pa_cons (pe_un un_neg pe_int) pa_nil star_UnaryOp)))) pss_nil) (pss_cons (ps_if (PW.pt (pw_or (pt_not (pt_val (pe_def G_is_usual hr (by decide) (pa_cons (pv 1) (pa_cons (pe_gi T.g_A) pa_nil star_Name) star_Name)))) (pw_or1 (pt_not (pt_val (pe_def G_is_usual hr (by decide) (pa_cons (pv 1) (pa_cons (pe_gi T.g_V) pa_nil star_Name) star_Name))))))) (pss_one (ps_ret (pe_lst (pa_cons (pe_un un_neg pe_int) pa_nil star_UnaryOp)))) pss_nil) (pss_cons (ps_f T.cma 16 (pv 0) (pv 1)) (pss_cons (ps_f T.cma 17 (pv 0) pe_int) (pss_one (ps_ret (pe_lst (pa_cons pe_int pa_nil star_Constant))))))))), ?_⟩
    walk_at "go"
    rw [a.pr.isN]
    cases h2 : s.last with
    | none =>
      rw [h2] at k
      refine iteT ?_
      walk_at "go"
      exact ⟨le1s, fun q hq => k A _ q (fin a Fr.refl rfl hq)⟩
    | some y =>
      rw [h2] at k
      have hpr := a.pr
      rw [h2] at hpr
      obtain ⟨r, er, hr', nr⟩ := hpr
      obtain ⟨ya, yv⟩ := y
      dsimp only at k
      refine iteF ?_
      walk_at "go"
      rw [er]
      refine ⟨r, (ya, yv), 0, rfl, hr', by decide, ?_⟩
      walk_at "go"
      cases h3 : usualP 0 (ya, yv) with
      | false =>
        have h3' : Vbdlae.inR ya (-300) 100 = false := h3
        rw [h3', Bool.false_and, if_neg (by decide)] at k
        refine iteT ?_
        refine iteT ?_
        walk_at "go"
        exact ⟨le1s, fun q hq => k A _ q (fin a Fr.refl rfl hq)⟩
      | true =>
        have h3' : Vbdlae.inR ya (-300) 100 = true := h3
        rw [h3', Bool.true_and] at k
        refine iteF ?_
        walk_at "go"
        refine ⟨r, (ya, yv), 1, rfl, hr', by decide, ?_⟩
        walk_at "go"
        cases h4 : usualP 1 (ya, yv) with
        | false =>
          have h4' : Vbdlae.inR yv 10 400 = false := h4
          rw [h4', if_neg (by decide)] at k
          refine iteT ?_
          walk_at "go"
          exact ⟨le1s, fun q hq => k A _ q (fin a Fr.refl rfl hq)⟩
        | true =>
          have h4' : Vbdlae.inR yv 10 400 = true := h4
          rw [h4', if_pos rfl] at k
          refine iteF ?_
          walk_at "go"
          refine j_Set a.m rfl fun H1 h1 p1 => ?_
          have a1 : At c H1 { A with pr := A.pr, ce := .ref r } { s with centre := some (ya, yv) } := a.setP h1 p1 {} (a.pr.put p1 (mem_ft 0 rfl)) ⟨r, rfl, p1.eq (fun z => nr (z ▸ mem_ft 0 rfl)) hr', nr⟩
          walk_at "go"
          refine j_Set a1.m rfl fun H2 h2' p2 => ?_
          have a2 : At c H2 { A with pr := A.pr, ce := .ref r } { s with centre := some (ya, yv), unc := 0 } := a1.setM h2' p2 {}
          walk_at "go"
          rw [h2] at a2
          exact ⟨le1s, fun q hq => k { A with pr := A.pr, ce := .ref r } _ q (fin a2 ((p1.trans p2).fr (mem_ft 0 rfl)) rfl hq)⟩
abbrev st_press : Stmt := top 57
theorem sc_press : FnScope ["machine", "arguments", "pressures"] ["machine", "arguments"] (defScope st_press) := ⟨rfl, rfl, rfl, by decide +kernel, rfl, by decide +kernel, by decide +kernel⟩

theorem ok_press (D : DefAt K mg "press" st_press ["machine", "arguments"]) (T : Txt K mg c) (G_joined : MethOk P w K mg base c.ma 1 "joined" ["self"] (spAsk c fun s => .bl (decide (s.sink = 1)))) (G_is_bad : DefOk P w K mg base 2 "is_bad" ["machine", "pressures", "which"] (spBad c)) (G_raise_latch : MethOk P w K mg base c.ma 1 "raise_latch" ["self", "number"] (spRaise c)) (G_latches_number : MethOk P w K mg base c.ma 1 "latches_number" ["self"] (spCode c)) : DefOk P w K mg base 3 "press" ["machine", "arguments"] (spC c 7) := by
  refine D.ok sc_press (fun vs H Q E h => ?_) (fun f cdv Ar outer s0 H vs Q E hr h => ?_)
  · obtain ⟨A, s, p, l, rfl, _⟩ := h
    rfl
  · obtain ⟨A, s, p, l0, rfl, a, hp, np, ⟨⟨g, o⟩, hl, hrg⟩, k⟩ := h
    obtain ⟨x, y, rfl⟩ := len2 hl
    have e := does_act (x := .press x y) (by decide) (by decide) hl hrg o.cfg rfl
    have hrd := range_of (x := .press x y) (by decide) (by decide) hl hrg rfl
    have hg := o.cfg
    dsimp only at k
    rw [e] at k
    unfold Vbdlae.act at k
    dsimp only at k
    have npm : p ≠ A.m := fun z => np (z ▸ mem_ft 0 rfl)
    refine ⟨_, (pss_cons (ps_set (i := 2) sc_press.nd rfl (Or.inl rfl) (pe_tup (pa_cons (pe_ix ix_list (pv 1) pe_int (fun _ _ => rfl)) (pa_cons (pe_ix ix_list (pv 1) pe_int (fun _ _ => rfl)) pa_nil star_Subscript) star_Subscript))) (pss_cons (ps_if (pt_val (pe_mth0 T.cma G_joined (by decide +kernel) hr (by decide) (pv 0))) (pss_cons (ps_if (pt_val (pe_def G_is_bad hr (by decide) (pa_cons (pv 0) (pa_cons (pv 2) (pa_cons (pe_gi T.g_A) pa_nil star_Name) star_Name) star_Name))) (pss_one (ps_expr (pe_mth T.cma G_raise_latch (by decide +kernel) hr (by decide) (pv 0) (pa_cons (pe_gi T.g_LATCH_PRESSURE_A) pa_nil star_Name)))) pss_nil) (pss_one (ps_if (pt_val (pe_def G_is_bad hr (by decide) (pa_cons (pv 0) (pa_cons (pv 2) (pa_cons (pe_gi T.g_V) pa_nil star_Name) star_Name) star_Name))) (pss_one (ps_expr (pe_mth T.cma G_raise_latch (by decide +kernel) hr (by decide) (pv 0) (pa_cons (pe_gi T.g_LATCH_PRESSURE_V) pa_nil star_Name)))) pss_nil))) pss_nil) (pss_cons (ps_f T.cma 15 (pv 0) (pv 2)) (pss_one (ps_ret (pe_lst (pa_cons (pe_mth0 T.cma G_latches_number (by decide +kernel) hr (by decide) (pv 0)) pa_nil star_Call))))))), ?_⟩
    walk_at "go"
    refine arg_at (i := 0) hp rfl ?_
    walk_at "go"
    refine arg_at (i := 1) hp rfl ?_
    walk_at "go"
    refine ⟨by show 2 ≤ sizeLine; decide, fun r hr1 => ?_⟩
    have e1 := same_new (o := .tup [V.int x, V.int y]) hr1
    have a1 := a.same e1
    have nr := a.fresh hr1
    have hr' : upd H r (.tup [V.int x, V.int y]) r = some (.tup [V.int x, V.int y]) := upd_same
    have f1 : Fr H (upd H r (.tup [V.int x, V.int y])) A A := Same.fr e1
    generalize upd H r (.tup [V.int x, V.int y]) = H1 at a1 hr' f1 ⊢
    have last : ∀ (s1 : VSt) (H2 : Hp), At c H2 A s1 → Fr H1 H2 A A → Ok s1 g → ∀ (H3 : Hp) (h3 : Ins H3 A.m c.ma mK ((mv A s1).set 15 (.ref r))) (p3 : Put H2 H3 A.m), At c H3 { A with pr := .ref r, ce := A.ce } { s1 with last := some (x, y) } ∧ Fr H H3 A { A with pr := .ref r, ce := A.ce } := fun s1 H2 a2 f2 o2 H3 h3 p3 => by
      have hr2 := (f2 _ _ hr' nr).1
      exact ⟨a2.setP h3 p3 {} ⟨r, rfl, p3.eq (fun z => nr (z ▸ mem_ft 0 rfl)) hr2, nr⟩ (a2.ce.put p3 (mem_ft 0 rfl)), (f1.trans f2).trans (p3.fr (mem_ft 0 rfl))⟩
    walk_at "go"
    refine ⟨A, s, rfl, a1, ?_⟩
    walk_at "go"
    by_cases h1 : s.sink = 1
    · rw [decide_eq_true h1]
      rw [if_pos h1] at k
      refine iteT ?_
      walk_at "go"
      refine ⟨A, s, g, r, (x, y), 0, rfl, a1, hg, hr', by decide, ?_⟩
      walk_at "go"
      have b2 : ∀ b, Vbdlae.badV g.p s y = badP 1 g.p (s.raise 3 b) (x, y) := fun b => by rw [raise_eq]; rfl
      cases h2 : badP 0 g.p s (x, y) with
      | true =>
        have h2' : Vbdlae.badA g.p s x = true := h2
        rw [h2', b2 true] at k
        refine iteT ?_
        walk_at "go"
        refine ⟨A, _, 3, rfl, a1, by rw [o.lt8]; decide, fun H2 a2 f2 => ?_⟩
        have o2 := o.raise 3 true
        have hg2 := o2.cfg
        walk_at "go"
        refine ⟨A, _, g, r, (x, y), 1, rfl, a2, hg2, (f2 _ _ hr' nr).1, by decide, ?_⟩
        walk_at "go"
        cases h4 : badP 1 g.p (s.raise 3 true) (x, y) with
        | true =>
          rw [h4] at k
          refine iteT ?_
          walk_at "go"
          refine ⟨A, _, 4, rfl, a2, by rw [o2.lt8]; decide, fun H3 a3 f3 => ?_⟩
          have o3 := o2.raise 4 true
          walk_at "go"
          refine j_Set a3.m rfl fun H4 h4' p4 => ?_
          obtain ⟨a4, f4⟩ := last _ H3 a3 (f2.trans f3) o3 H4 h4' p4
          walk_at "go"
          refine ⟨{ A with pr := .ref r, ce := A.ce }, _, rfl, a4, o3.lt8, ?_⟩
          walk_at "go"
          exact ⟨le1s, fun q hq => k { A with pr := .ref r, ce := A.ce } _ q (fin a4 f4 rfl hq)⟩
        | false =>
          rw [h4] at k
          refine iteF ?_
          walk_at "go"
          refine j_Set a2.m rfl fun H4 h4' p4 => ?_
          obtain ⟨a4, f4⟩ := last _ _ a2 f2 o2 H4 h4' p4
          walk_at "go"
          refine ⟨{ A with pr := .ref r, ce := A.ce }, _, rfl, a4, o2.lt8, ?_⟩
          walk_at "go"
          exact ⟨le1s, fun q hq => k { A with pr := .ref r, ce := A.ce } _ q (fin a4 f4 rfl hq)⟩
      | false =>
        have h2' : Vbdlae.badA g.p s x = false := h2
        rw [h2', b2 false] at k
        refine iteF ?_
        have a2 : At c H1 A (s.raise 3 false) := a1
        have f2 : Fr H1 H1 A A := Fr.refl
        have o2 := o.raise 3 false
        have hg2 := o2.cfg
        walk_at "go"
        refine ⟨A, _, g, r, (x, y), 1, rfl, a2, hg2, (f2 _ _ hr' nr).1, by decide, ?_⟩
        walk_at "go"
        cases h4 : badP 1 g.p (s.raise 3 false) (x, y) with
        | true =>
          rw [h4] at k
          refine iteT ?_
          walk_at "go"
          refine ⟨A, _, 4, rfl, a2, by rw [o2.lt8]; decide, fun H3 a3 f3 => ?_⟩
          have o3 := o2.raise 4 true
          walk_at "go"
          refine j_Set a3.m rfl fun H4 h4' p4 => ?_
          obtain ⟨a4, f4⟩ := last _ H3 a3 (f2.trans f3) o3 H4 h4' p4
          walk_at "go"
          refine ⟨{ A with pr := .ref r, ce := A.ce }, _, rfl, a4, o3.lt8, ?_⟩
          walk_at "go"
          exact ⟨le1s, fun q hq => k { A with pr := .ref r, ce := A.ce } _ q (fin a4 f4 rfl hq)⟩
        | false =>
          rw [h4] at k
          refine iteF ?_
          walk_at "go"
          refine j_Set a2.m rfl fun H4 h4' p4 => ?_
          obtain ⟨a4, f4⟩ := last _ _ a2 f2 o2 H4 h4' p4
          walk_at "go"
          refine ⟨{ A with pr := .ref r, ce := A.ce }, _, rfl, a4, o2.lt8, ?_⟩
          walk_at "go"
          exact ⟨le1s, fun q hq => k { A with pr := .ref r, ce := A.ce } _ q (fin a4 f4 rfl hq)⟩
    · rw [decide_eq_false h1]
      rw [if_neg h1] at k
      refine iteF ?_
      walk_at "go"
      refine j_Set a1.m rfl fun H3 h3 p3 => ?_
      obtain ⟨a3, f3⟩ := last s H1 a1 Fr.refl o H3 h3 p3
      walk_at "go"
      refine ⟨{ A with pr := .ref r, ce := A.ce }, _, rfl, a3, o.lt8, ?_⟩
      walk_at "go"
      exact ⟨le1s, fun q hq => k { A with pr := .ref r, ce := A.ce } _ q (fin a3 f3 rfl hq)⟩
end

section
variable {P : Program} {w : World} {K : PySem.W.Frag} {mg : Str → Option Value} {base : Heap} {c : Cl}
/-! ### leak, fault, slip, vent, check, reset -/
def leaked (x : Int) (g : Cfg) (s : VSt) : VSt := { s with streak := if (g.leak : Int) ≤ x then min 3 (s.streak + 1) else 0 }
abbrev st_leak : Stmt := top 72
theorem sc_leak : FnScope ["machine", "arguments"] ["machine", "arguments"] (defScope st_leak) := ⟨rfl, rfl, rfl, by decide +kernel, rfl, by decide +kernel, by decide +kernel⟩

theorem ok_leak (D : DefAt K mg "leak" st_leak ["machine", "arguments"]) (T : Txt K mg c) (G_raise_latch : MethOk P w K mg base c.ma 1 "raise_latch" ["self", "number"] (spRaise c)) (G_latches_number : MethOk P w K mg base c.ma 1 "latches_number" ["self"] (spCode c)) : DefOk P w K mg base 2 "leak" ["machine", "arguments"] (spC c 9) := by
  refine D.ok sc_leak (fun vs H Q E h => ?_) (fun f cdv Ar outer s0 H vs Q E hr h => ?_)
  · obtain ⟨A, s, p, l, rfl, _⟩ := h
    rfl
  · obtain ⟨A, s, p, l0, rfl, a, hp, np, ⟨⟨g, o⟩, hl, hrg⟩, k⟩ := h
    obtain ⟨x, rfl⟩ := len1 hl
    have e := does_act (x := .leak x) (by decide) (by decide) hl hrg o.cfg rfl
    have hrd := range_of (x := .leak x) (by decide) (by decide) hl hrg rfl
    have hg := o.cfg
    dsimp only at k
    rw [e] at k
    unfold Vbdlae.act at k
    dsimp only at k
    have npm : p ≠ A.m := fun z => np (z ▸ mem_ft 0 rfl)
    have k1 : ∀ A' H' q, Out c H H' A A' ((leaked x g s).raise 2 (decide ((leaked x g s).streak = 3))) q [(Vbdlae.code ((leaked x g s).raise 2 (decide ((leaked x g s).streak = 3))).latch : Int)] → Q (.ref q) H' := k
    have ow : Ok (leaked x g s) g := o.to
    refine ⟨_, (pss_cons (ps_if (pt_cmpR op_ge (pe_ix ix_list (pv 1) pe_int (fun _ _ => rfl)) (pe_f T.cse 10 (pe_f T.cma 0 (pv 0))) (nomark _)) (pss_one (ps_f T.cma 14 (pv 0) (pe_min2 T.b_min (ha := (pa_cons (pe_op op_add (pe_f T.cma 14 (pv 0)) pe_int) (pa_cons (pe_gi T.g_MOST_STREAK) pa_nil star_Name) star_BinOp))))) (pss_one (ps_f T.cma 14 (pv 0) pe_int))) (pss_cons (ps_if (pt_cmpR op_eq (pe_f T.cma 14 (pv 0)) (pe_gi T.g_MOST_STREAK) (nomark _)) (pss_one (ps_expr (pe_mth T.cma G_raise_latch (by decide +kernel) hr (by decide) (pv 0) (pa_cons (pe_gi T.g_LATCH_LEAK) pa_nil star_Name)))) pss_nil) (pss_one (ps_ret (pe_lst (pa_cons (pe_mth0 T.cma G_latches_number (by decide +kernel) hr (by decide) (pv 0)) pa_nil star_Call)))))), ?_⟩
    walk_at "go"
    refine arg_at (i := 0) hp rfl ?_
    walk_at "go"
    by_cases h1 : (g.leak : Int) ≤ x
    · rw [show decide (x ≥ (g.leak : Int)) = true from decide_eq_true h1]
      refine iteT ?_
      walk_at "go"
      rw [iminc s.streak 3 3 rfl]
      refine j_Set a.m rfl fun H2 h2 p2 => ?_
      have ew : leaked x g s = { s with streak := min 3 (s.streak + 1) } := by unfold leaked; rw [if_pos h1]
      have a2 : At c H2 A (leaked x g s) := by rw [ew]; exact a.setM h2 p2 {}
      clear h2
      have f2 : Fr H H2 A A := p2.fr (mem_ft 0 rfl)
      have hgw : (leaked x g s).cfg = some g := hg
      walk_at "go"
      rw [show decide (((leaked x g s).streak : Int) = 3) = decide ((leaked x g s).streak = 3) from dec_nat _ 3]
      cases h7 : decide ((leaked x g s).streak = 3) with
      | true =>
        rw [h7] at k1
        refine iteT ?_
        walk_at "go"
        refine ⟨A, _, 2, rfl, a2, by rw [ow.lt8]; decide, fun H3 a3 f3 => ?_⟩
        walk_at "go"
        refine ⟨A, _, rfl, a3, (ow.raise 2 true).lt8, ?_⟩
        walk_at "go"
        exact ⟨le1s, fun q hq => k1 A _ q (fin a3 (f2.trans f3) rfl hq)⟩
      | false =>
        rw [h7] at k1
        refine iteF ?_
        walk_at "go"
        refine ⟨A, _, rfl, a2, ow.lt8, ?_⟩
        walk_at "go"
        exact ⟨le1s, fun q hq => k1 A _ q (fin a2 f2 rfl hq)⟩
    · rw [show decide (x ≥ (g.leak : Int)) = false from decide_eq_false h1]
      refine iteF ?_
      walk_at "go"
      refine j_Set a.m rfl fun H2 h2 p2 => ?_
      have ew : leaked x g s = { s with streak := 0 } := by unfold leaked; rw [if_neg h1]
      have a2 : At c H2 A (leaked x g s) := by rw [ew]; exact a.setM h2 p2 {}
      clear h2
      have f2 : Fr H H2 A A := p2.fr (mem_ft 0 rfl)
      have hgw : (leaked x g s).cfg = some g := hg
      walk_at "go"
      rw [show decide (((leaked x g s).streak : Int) = 3) = decide ((leaked x g s).streak = 3) from dec_nat _ 3]
      cases h7 : decide ((leaked x g s).streak = 3) with
      | true =>
        rw [h7] at k1
        refine iteT ?_
        walk_at "go"
        refine ⟨A, _, 2, rfl, a2, by rw [ow.lt8]; decide, fun H3 a3 f3 => ?_⟩
        walk_at "go"
        refine ⟨A, _, rfl, a3, (ow.raise 2 true).lt8, ?_⟩
        walk_at "go"
        exact ⟨le1s, fun q hq => k1 A _ q (fin a3 (f2.trans f3) rfl hq)⟩
      | false =>
        rw [h7] at k1
        refine iteF ?_
        walk_at "go"
        refine ⟨A, _, rfl, a2, ow.lt8, ?_⟩
        walk_at "go"
        exact ⟨le1s, fun q hq => k1 A _ q (fin a2 f2 rfl hq)⟩
/-- what a channel is set to -/
def setTo (m : Int) (v : Nat) : Option Nat := if m = 1 then some v else none
theorem oV_set (m : Int) (v : Nat) : oV (setTo m v) = if decide (m = 1) = true then V.int (v : Int) else V.non := by
  unfold setTo
  by_cases h : m = 1
  · rw [if_pos h, decide_eq_true h]; rfl
  · rw [if_neg h, decide_eq_false h]; rfl
abbrev st_fault : Stmt := top 73
theorem sc_fault : FnScope ["machine", "arguments", "channel", "is_stuck"] ["machine", "arguments"] (defScope st_fault) := ⟨rfl, rfl, rfl, by decide +kernel, rfl, by decide +kernel, by decide +kernel⟩

theorem ok_fault (D : DefAt K mg "fault" st_fault ["machine", "arguments"]) (T : Txt K mg c) : DefOk P w K mg base 1 "fault" ["machine", "arguments"] (spC c 10) := by
  refine D.ok sc_fault (fun vs H Q E h => ?_) (fun f cdv Ar outer s0 H vs Q E hr h => ?_)
  · obtain ⟨A, s, p, l, rfl, _⟩ := h
    rfl
  · obtain ⟨A, s, p, l0, rfl, a, hp, np, ⟨⟨g, o⟩, hl, hrg⟩, k⟩ := h
    obtain ⟨x, m, v, rfl⟩ := len3 hl
    have e := does_act (x := .fault x m v) (by decide) (by decide) hl hrg o.cfg rfl
    have hrd := range_of (x := .fault x m v) (by decide) (by decide) hl hrg rfl
    have hg := o.cfg
    dsimp only at k
    rw [e] at k
    unfold Vbdlae.act at k
    dsimp only at k
    have npm : p ≠ A.m := fun z => np (z ▸ mem_ft 0 rfl)
    have hh := (Bool.and_eq_true _ _ ▸ hrd : _ ∧ _)
    have hx := inR_true hh.1
    have hh := (Bool.and_eq_true _ _ ▸ hh.2 : _ ∧ _)
    have hv := inR_true hh.2
    obtain ⟨v, rfl⟩ : ∃ n : Nat, v = (n : Int) := ⟨v.toNat, by omega⟩
    rw [Int.toNat_natCast] at k
    have k1 : ∀ A' H' q, Out c H H' A A' (if x = 0 then { s with stuckA := setTo m v } else { s with stuckB := setTo m v }) q [0] → Q (.ref q) H' := k
    refine ⟨_, (pss_cons (ps_set (i := 2) sc_fault.nd rfl (Or.inl rfl) (pe_ix ix_list (pv 1) pe_int (fun _ _ => rfl))) (pss_cons (ps_set (i := 3) sc_fault.nd rfl (Or.inl rfl) (pe_cmpR op_eq (pe_ix ix_list (pv 1) pe_int (fun _ _ => rfl)) pe_int (nomark _))) (pss_cons (ps_asg (pe_ifExp (pt_val (pv 3)) (pe_ix ix_list (pv 1) pe_int (fun _ _ => rfl)) pe_non) (pg_sub (pe_f T.cma 8 (pv 0)) (pv 2) set_list)) (pss_one (ps_ret (pe_lst (pa_cons pe_int pa_nil star_Constant))))))), ?_⟩
    walk_at "go"
    refine arg_at (i := 0) hp rfl ?_
    walk_at "go"
    refine arg_at (i := 1) hp rfl ?_
    walk_at "go"
    have last : ∀ (u : V), u = oV (setTo m v) → ∀ j : Nat, x = (j : Int) → j < 2 → At c (upd H A.sk (.lst (([oV s.stuckA, oV s.stuckB] : List V).set j u))) A (if x = 0 then { s with stuckA := setTo m v } else { s with stuckB := setTo m v }) := fun u hu j hj hj2 => by
      subst hu
      match j, hj2 with
      | 0, _ =>
        rw [if_pos (show x = 0 from hj)]
        exact a.setK (x := setTo m v) (y := s.stuckB) upd_same Put.upd
      | 1, _ =>
        rw [if_neg (by omega)]
        exact a.setK (x := s.stuckA) (y := setTo m v) upd_same Put.upd
    obtain ⟨j, hj, hj2⟩ : ∃ j : Nat, x = (j : Int) ∧ j < 2 := ⟨x.toNat, by omega, by omega⟩
    have hix : ixN ([oV s.stuckA, oV s.stuckB] : List V).length x = some j := by rw [hj]; exact ixN_nat hj2
    by_cases h1 : m = 1
    · rw [decide_eq_true h1]
      refine iteT ?_
      walk_at "go"
      refine arg_at (i := 2) hp rfl ?_
      walk_at "go"
      refine i_setL a.sk hix ?_
      walk_at "go"
      exact ⟨le1s, fun q hq => k1 A _ q (fin (last _ (by rw [oV_set, decide_eq_true h1]; rfl) j hj hj2) (Put.upd.fr (mem_ft 3 rfl)) rfl hq)⟩
    · rw [decide_eq_false h1]
      refine iteF ?_
      walk_at "go"
      refine i_setL a.sk hix ?_
      walk_at "go"
      exact ⟨le1s, fun q hq => k1 A _ q (fin (last _ (by rw [oV_set, decide_eq_false h1]; rfl) j hj hj2) (Put.upd.fr (mem_ft 3 rfl)) rfl hq)⟩
abbrev st_slip : Stmt := top 74
theorem sc_slip : FnScope ["machine", "arguments", "is_slipped"] ["machine", "arguments"] (defScope st_slip) := ⟨rfl, rfl, rfl, by decide +kernel, rfl, by decide +kernel, by decide +kernel⟩

theorem ok_slip (D : DefAt K mg "slip" st_slip ["machine", "arguments"]) (T : Txt K mg c) : DefOk P w K mg base 1 "slip" ["machine", "arguments"] (spC c 11) := by
  refine D.ok sc_slip (fun vs H Q E h => ?_) (fun f cdv Ar outer s0 H vs Q E hr h => ?_)
  · obtain ⟨A, s, p, l, rfl, _⟩ := h
    rfl
  · obtain ⟨A, s, p, l0, rfl, a, hp, np, ⟨⟨g, o⟩, hl, hrg⟩, k⟩ := h
    obtain ⟨x, m, rfl⟩ := len2 hl
    have e := does_act (x := .slip x m) (by decide) (by decide) hl hrg o.cfg rfl
    have hrd := range_of (x := .slip x m) (by decide) (by decide) hl hrg rfl
    have hg := o.cfg
    dsimp only at k
    rw [e] at k
    unfold Vbdlae.act at k
    dsimp only at k
    have npm : p ≠ A.m := fun z => np (z ▸ mem_ft 0 rfl)
    refine ⟨_, (pss_cons (ps_set (i := 2) sc_slip.nd rfl (Or.inl rfl) (pe_cmpR op_eq (pe_ix ix_list (pv 1) pe_int (fun _ _ => rfl)) pe_int (nomark _))) (pss_cons (ps_if (pt_cmpR op_eq (pe_ix ix_list (pv 1) pe_int (fun _ _ => rfl)) (pe_gi T.g_ARTERY) (nomark _)) (pss_one (ps_f T.cma 9 (pv 0) (pv 2))) (pss_one (ps_f T.cma 10 (pv 0) (pv 2)))) (pss_one (ps_ret (pe_lst (pa_cons pe_int pa_nil star_Constant)))))), ?_⟩
    walk_at "go"
    refine arg_at (i := 1) hp rfl ?_
    walk_at "go"
    refine arg_at (i := 0) hp rfl ?_
    walk_at "go"
    by_cases h1 : x = 0
    · rw [decide_eq_true h1]
      rw [if_pos h1] at k
      refine iteT ?_
      walk_at "go"
      refine j_Set a.m rfl fun H2 h2 p2 => ?_
      have a2 : At c H2 A { s with slipA := decide (m = 1) } := a.setM h2 p2 {}
      walk_at "go"
      exact ⟨le1s, fun q hq => k A _ q (fin a2 (p2.fr (mem_ft 0 rfl)) rfl hq)⟩
    · rw [decide_eq_false h1]
      rw [if_neg h1] at k
      refine iteF ?_
      walk_at "go"
      refine j_Set a.m rfl fun H2 h2 p2 => ?_
      have a2 : At c H2 A { s with slipV := decide (m = 1) } := a.setM h2 p2 {}
      walk_at "go"
      exact ⟨le1s, fun q hq => k A _ q (fin a2 (p2.fr (mem_ft 0 rfl)) rfl hq)⟩
abbrev st_vent : Stmt := top 75
theorem sc_vent : FnScope ["machine"] ["machine"] (defScope st_vent) := ⟨rfl, rfl, rfl, by decide +kernel, rfl, by decide +kernel, by decide +kernel⟩

theorem ok_vent (D : DefAt K mg "vent" st_vent ["machine"]) (T : Txt K mg c) (G_vent_trap : MethOk P w K mg base c.ma 1 "vent_trap" ["self"] (spVent c)) : DefOk P w K mg base 2 "vent" ["machine"] (spC0 c 12) := by
  refine D.ok sc_vent (fun vs H Q E h => ?_) (fun f cdv Ar outer s0 H vs Q E hr h => ?_)
  · obtain ⟨A, s, rfl, _⟩ := h
    rfl
  · obtain ⟨A, s, rfl, a, ⟨g, o⟩, k⟩ := h
    have e := does_act (s := s) (args := []) (x := .vent) (p := 12) (by decide) (by decide) rfl rfl o.cfg rfl
    have hg := o.cfg
    dsimp only at k
    rw [e] at k
    unfold Vbdlae.act at k
    dsimp only at k
    refine ⟨_, (pss_one (ps_ret (pe_lst (pa_cons pe_int (pa_cons (pe_mth0 T.cma G_vent_trap (by decide +kernel) hr (by decide) (pv 0)) pa_nil star_Call) star_Constant)))), ?_⟩
    walk_at "go"
    refine ⟨A, s, rfl, a, fun H1 a1 f1 => ?_⟩
    walk_at "go"
    exact ⟨by show 2 ≤ sizeLine; decide, fun q hq => k A _ q (fin a1 f1 rfl hq)⟩
theorem oV_non (x : Option Nat) : decide (oV x = V.non) = !x.isSome := by
  cases x <;> rfl
abbrev st_check : Stmt := top 76
theorem sc_check : FnScope ["machine", "found"] ["machine"] (defScope st_check) := ⟨rfl, rfl, rfl, by decide +kernel, rfl, by decide +kernel, by decide +kernel⟩

theorem ok_check (D : DefAt K mg "check" st_check ["machine"]) (T : Txt K mg c) (G_lower_latch : MethOk P w K mg base c.ma 1 "lower_latch" ["self", "number"] (spLower c)) : DefOk P w K mg base 2 "check" ["machine"] (spC0 c 13) := by
  refine D.ok sc_check (fun vs H Q E h => ?_) (fun f cdv Ar outer s0 H vs Q E hr h => ?_)
  · obtain ⟨A, s, rfl, _⟩ := h
    rfl
  · obtain ⟨A, s, rfl, a, ⟨g, o⟩, k⟩ := h
    have e := does_act (s := s) (args := []) (x := .check) (p := 13) (by decide) (by decide) rfl rfl o.cfg rfl
    have hg := o.cfg
    dsimp only at k
    rw [e] at k
    unfold Vbdlae.act at k
    dsimp only at k
    have up : ∀ n : Nat, Vbdlae.code [s.stuckA.isSome, s.stuckB.isSome] = n → n ≠ 0 → ∀ q, H q = none → Q (.ref q) (upd H q (.lst [V.int (n : Int)])) := fun n hn h0 q hq => by
      rw [hn, if_neg h0] at k
      exact k A _ q (fin a Fr.refl rfl hq)
    refine ⟨_, (pss_cons (ps_set (i := 1) sc_check.nd rfl (Or.inl rfl) pe_int) (pss_cons (ps_if (pt_cmp (pc_notN (pe_ix ix_list (pe_f T.cma 8 (pv 0)) pe_int (fun _ _ => rfl)))) (pss_one (ps_aug (i := 1) sc_check.nd rfl (Or.inl rfl) pe_int ip_add)) pss_nil) (pss_cons (ps_if (pt_cmp (pc_notN (pe_ix ix_list (pe_f T.cma 8 (pv 0)) pe_int (fun _ _ => rfl)))) (pss_one (ps_aug (i := 1) sc_check.nd rfl (Or.inl rfl) pe_int ip_add)) pss_nil) (pss_cons (ps_if (pt_cmpR op_eq (pv 1) pe_int (nomark _)) (pss_cons (ps_expr (pe_mth T.cma G_lower_latch (by decide +kernel) hr (by decide) (pv 0) (pa_cons (pe_gi T.g_LATCH_UNLIKE) pa_nil star_Name))) (pss_one (ps_f T.cma 13 (pv 0) pe_int))) pss_nil) (pss_one (ps_ret (pe_lst (pa_cons (pv 1) pa_nil star_Name)))))))), ?_⟩
    walk_at "go"
    refine i_ixL (SqL.of a.sk) (atI_nat (j := 0) rfl) ?_
    walk_at "go"
    rw [oV_non, Bool.not_not]
    cases h1 : s.stuckA.isSome with
    | true =>
      refine iteT ?_
      walk_at "go"
      refine i_ixL (SqL.of a.sk) (atI_nat (j := 1) rfl) ?_
      walk_at "go"
      rw [oV_non, Bool.not_not]
      cases h2 : s.stuckB.isSome with
      | true =>
        refine iteT ?_
        walk_at "go"
        refine iteF ?_
        walk_at "go"
        exact ⟨le1s, fun q hq => up 3 (by rw [h1, h2]; rfl) (by decide) q hq⟩
      | false =>
        refine iteF ?_
        walk_at "go"
        refine iteF ?_
        walk_at "go"
        exact ⟨le1s, fun q hq => up 1 (by rw [h1, h2]; rfl) (by decide) q hq⟩
    | false =>
      refine iteF ?_
      walk_at "go"
      refine i_ixL (SqL.of a.sk) (atI_nat (j := 1) rfl) ?_
      walk_at "go"
      rw [oV_non, Bool.not_not]
      cases h2 : s.stuckB.isSome with
      | true =>
        refine iteT ?_
        walk_at "go"
        refine iteF ?_
        walk_at "go"
        exact ⟨le1s, fun q hq => up 2 (by rw [h1, h2]; rfl) (by decide) q hq⟩
      | false =>
        have e0 : Vbdlae.code [s.stuckA.isSome, s.stuckB.isSome] = 0 := by rw [h1, h2]; rfl
        rw [e0, if_pos rfl] at k
        refine iteF ?_
        walk_at "go"
        refine iteT ?_
        walk_at "go"
        refine ⟨A, s, 1, rfl, a, by rw [o.lt8]; decide, fun H1 a1 f1 => ?_⟩
        walk_at "go"
        refine j_Set a1.m rfl fun H2 h2' p2 => ?_
        have a2 : At c H2 A { s.lower 1 with unlike := 0 } := a1.setM h2' p2 {}
        walk_at "go"
        exact ⟨le1s, fun q hq => k A _ q (fin a2 (f1.trans (p2.fr (mem_ft 0 rfl))) rfl hq)⟩
def spStay (c : Cl) : Sp := fun vs H Q _ => ∃ (A : Ad) (s : VSt) (g : Cfg) (b : Nat), vs = [.ref A.m, .int b] ∧ At c H A s ∧ Ok s g ∧ b < 8 ∧ Q (.bl (Vbdlae.stands g s b)) H
abbrev st_must_stay_up : Stmt := top 78
theorem sc_must_stay_up : FnScope ["machine", "latch"] ["machine", "latch"] (defScope st_must_stay_up) := ⟨rfl, rfl, rfl, by decide +kernel, rfl, by decide +kernel, by decide +kernel⟩

theorem ok_must_stay_up (D : DefAt K mg "must_stay_up" st_must_stay_up ["machine", "latch"]) (T : Txt K mg c) (G_clean_needed : MethOk P w K mg base c.se 1 "clean_needed" ["self"] (spNeed c)) (G_last_is_bad : DefOk P w K mg base 3 "last_is_bad" ["machine", "which"] (spLast c)) (G_joined : MethOk P w K mg base c.ma 1 "joined" ["self"] (spAsk c fun s => .bl (decide (s.sink = 1)))) : DefOk P w K mg base 4 "must_stay_up" ["machine", "latch"] (spStay c) := by
  refine D.ok sc_must_stay_up (fun vs H Q E h => ?_) (fun f cdv Ar outer s0 H vs Q E hr h => ?_)
  · obtain ⟨A, s, g, b, rfl, _⟩ := h
    rfl
  · obtain ⟨A, s, g, b, rfl, a, o, hb, k⟩ := h
    have hg := o.cfg
    refine ⟨_, (pss_cons (ps_if (pt_cmpR op_eq (pv 1) (pe_gi T.g_LATCH_AIR) (nomark _)) (pss_one (ps_ret (pe_cmpR op_lt (pe_f T.cma 12 (pv 0)) (pe_mth0 T.cse G_clean_needed (by decide +kernel) hr (by decide) (pe_f T.cma 0 (pv 0))) (nomark _)))) pss_nil) (pss_cons (ps_if (pt_cmpR op_eq (pv 1) (pe_gi T.g_LATCH_LEAK) (nomark _)) (pss_one (ps_ret (pe_cmpR op_gt (pe_f T.cma 14 (pv 0)) pe_int (nomark _)))) pss_nil) (pss_cons (ps_if (pt_cmpR op_eq (pv 1) (pe_gi T.g_LATCH_PRESSURE_A) (nomark _)) (pss_one (ps_ret (pe_def G_last_is_bad hr (by decide) (pa_cons (pv 0) (pa_cons (pe_gi T.g_A) pa_nil star_Name) star_Name)))) pss_nil) (pss_cons (ps_if (pt_cmpR op_eq (pv 1) (pe_gi T.g_LATCH_PRESSURE_V) (nomark _)) (pss_one (ps_ret (pe_def G_last_is_bad hr (by decide) (pa_cons (pv 0) (pa_cons (pe_gi T.g_V) pa_nil star_Name) star_Name)))) pss_nil) (pss_cons (ps_if (pt_cmpR op_eq (pv 1) (pe_gi T.g_LATCH_THICK) (nomark _)) (pss_one (ps_ret (pe_cmpR op_gt (pe_f T.cma 6 (pv 0)) pe_int (nomark _)))) pss_nil) (pss_cons (ps_if (pt_cmpR op_eq (pv 1) (pe_gi T.g_LATCH_UNCENTRED) (nomark _)) (pss_one (ps_ret (pe_and (pe_mth0 T.cma G_joined (by decide +kernel) hr (by decide) (pv 0)) (pe_one (pe_cmp (pc_isN (pe_f T.cma 16 (pv 0)))))))) pss_nil) (pss_one (ps_ret pe_bl)))))))), ?_⟩
    walk_at "go"
    match b, hb, k with
    | 0, _, k =>
      refine iteT ?_
      walk_at "go"
      refine ⟨A.se, g, by rw [hg]; rfl, (a.se g hg).1, by have := o.dn; omega, ?_⟩
      walk_at "go"
      rw [lt_nat]
      exact k
    | 1, _, k =>
      refine iteF ?_
      walk_at "go"
      refine iteF ?_
      walk_at "go"
      refine iteF ?_
      walk_at "go"
      refine iteF ?_
      walk_at "go"
      refine iteF ?_
      walk_at "go"
      refine iteF ?_
      walk_at "go"
      exact k
    | 2, _, k =>
      refine iteF ?_
      walk_at "go"
      refine iteT ?_
      walk_at "go"
      rw [show decide ((s.streak : Int) > 0) = decide (0 < s.streak) from lt_nat 0 _]
      exact k
    | 3, _, k =>
      refine iteF ?_
      walk_at "go"
      refine iteF ?_
      walk_at "go"
      refine iteT ?_
      walk_at "go"
      exact ⟨A, s, g, 0, rfl, a, hg, by decide, k⟩
    | 4, _, k =>
      refine iteF ?_
      walk_at "go"
      refine iteF ?_
      walk_at "go"
      refine iteF ?_
      walk_at "go"
      refine iteT ?_
      walk_at "go"
      exact ⟨A, s, g, 1, rfl, a, hg, by decide, k⟩
    | 5, _, k =>
      refine iteF ?_
      walk_at "go"
      refine iteF ?_
      walk_at "go"
      refine iteF ?_
      walk_at "go"
      refine iteF ?_
      walk_at "go"
      refine iteT ?_
      walk_at "go"
      rw [show decide ((s.ultra : Int) > 0) = decide (0 < s.ultra) from lt_nat 0 _]
      exact k
    | 6, _, k =>
      refine iteF ?_
      walk_at "go"
      refine iteF ?_
      walk_at "go"
      refine iteF ?_
      walk_at "go"
      refine iteF ?_
      walk_at "go"
      refine iteF ?_
      walk_at "go"
      refine iteT ?_
      walk_at "go"
      refine ⟨A, s, rfl, a, ?_⟩
      walk_at "go"
      have k6 : Q (.bl (decide (s.sink = 1 ∧ s.centre = none))) H := k
      by_cases h1 : s.sink = 1
      · rw [decide_eq_true h1]
        refine iteT ?_
        walk_at "go"
        rw [a.ce.isN]
        rw [show s.centre.isNone = decide (s.sink = 1 ∧ s.centre = none) by cases h2 : s.centre <;> simp [h1]]
        exact k6
      · rw [decide_eq_false h1]
        refine iteF ?_
        rw [decide_eq_false (fun z => h1 z.1)] at k6
        exact k6
    | 7, _, k =>
      refine iteF ?_
      walk_at "go"
      refine iteF ?_
      walk_at "go"
      refine iteF ?_
      walk_at "go"
      refine iteF ?_
      walk_at "go"
      refine iteF ?_
      walk_at "go"
      refine iteF ?_
      walk_at "go"
      exact k
    | b + 8, hb, _ => exact absurd hb (by omega)
abbrev st_reset : Stmt := top 77
theorem sc_reset : FnScope ["machine", "arguments", "latch"] ["machine", "arguments"] (defScope st_reset) := ⟨rfl, rfl, rfl, by decide +kernel, rfl, by decide +kernel, by decide +kernel⟩

theorem ok_reset (D : DefAt K mg "reset" st_reset ["machine", "arguments"]) (T : Txt K mg c) (G_must_stay_up : DefOk P w K mg base 4 "must_stay_up" ["machine", "latch"] (spStay c)) (G_lower_latch : MethOk P w K mg base c.ma 1 "lower_latch" ["self", "number"] (spLower c)) (G_latches_number : MethOk P w K mg base c.ma 1 "latches_number" ["self"] (spCode c)) : DefOk P w K mg base 5 "reset" ["machine", "arguments"] (spC c 14) := by
  refine D.ok sc_reset (fun vs H Q E h => ?_) (fun f cdv Ar outer s0 H vs Q E hr h => ?_)
  · obtain ⟨A, s, p, l, rfl, _⟩ := h
    rfl
  · obtain ⟨A, s, p, l0, rfl, a, hp, np, ⟨⟨g, o⟩, hl, hrg⟩, k⟩ := h
    obtain ⟨x, rfl⟩ := len1 hl
    have e := does_act (x := .reset x) (by decide) (by decide) hl hrg o.cfg rfl
    have hrd := range_of (x := .reset x) (by decide) (by decide) hl hrg rfl
    have hg := o.cfg
    dsimp only at k
    rw [e] at k
    unfold Vbdlae.act at k
    dsimp only at k
    have npm : p ≠ A.m := fun z => np (z ▸ mem_ft 0 rfl)
    have hx := inR_true hrd
    obtain ⟨b, rfl⟩ : ∃ n : Nat, x = (n : Int) := ⟨x.toNat, by omega⟩
    rw [Int.toNat_natCast] at k
    have hb8 : b < 8 := by omega
    have hbl : b < s.latch.length := by rw [o.lt8]; exact hb8
    have hat : s.latch[b]? = some (s.has b) := by
      unfold Vbdlae.St.has
      rw [List.getD_eq_getElem?_getD, List.getElem?_eq_getElem hbl]
      rfl
    refine ⟨_, (pss_cons (ps_set (i := 2) sc_reset.nd rfl (Or.inl rfl) (pe_ix ix_list (pv 1) pe_int (fun _ _ => rfl))) (pss_cons (ps_if (pt_not (pt_val (pe_ix ix_list (pe_f T.cma 19 (pv 0)) (pv 2) (fun _ _ => rfl)))) (pss_one (ps_ret (pe_lst (pa_cons (pe_un un_neg pe_int) pa_nil star_UnaryOp)))) pss_nil) (pss_cons (ps_if (pt_val (pe_def G_must_stay_up hr (by decide) (pa_cons (pv 0) (pa_cons (pv 2) pa_nil star_Name) star_Name))) (pss_one (ps_ret (pe_lst (pa_cons (pe_un un_neg pe_int) pa_nil star_UnaryOp)))) pss_nil) (pss_cons (ps_expr (pe_mth T.cma G_lower_latch (by decide +kernel) hr (by decide) (pv 0) (pa_cons (pv 2) pa_nil star_Name))) (pss_cons (ps_if (pt_cmpR op_eq (pv 2) (pe_gi T.g_LATCH_UNCENTRED) (nomark _)) (pss_one (ps_f T.cma 17 (pv 0) pe_int)) pss_nil) (pss_one (ps_ret (pe_lst (pa_cons (pe_mth0 T.cma G_latches_number (by decide +kernel) hr (by decide) (pv 0)) pa_nil star_Call))))))))), ?_⟩
    walk_at "go"
    refine arg_at (i := 0) hp rfl ?_
    walk_at "go"
    refine i_ixL (SqL.of a.lt) (atI_nat (at_map hat)) ?_
    walk_at "go"
    cases h1 : s.has b with
    | false =>
      rw [if_pos h1] at k
      refine iteT ?_
      walk_at "go"
      exact ⟨le1s, fun q hq => k A _ q (fin a Fr.refl rfl hq)⟩
    | true =>
      rw [if_neg (by rw [h1]; decide)] at k
      refine iteF ?_
      walk_at "go"
      refine ⟨A, s, g, b, rfl, a, o, hb8, ?_⟩
      walk_at "go"
      cases h2 : Vbdlae.stands g s b with
      | true =>
        rw [if_pos h2] at k
        refine iteT ?_
        walk_at "go"
        exact ⟨le1s, fun q hq => k A _ q (fin a Fr.refl rfl hq)⟩
      | false =>
        rw [if_neg (by rw [h2]; decide)] at k
        refine iteF ?_
        walk_at "go"
        refine ⟨A, s, b, rfl, a, hbl, fun H1 a1 f1 => ?_⟩
        have o1 := o.lower b
        walk_at "go"
        by_cases h3 : (b : Int) = 6
        · rw [decide_eq_true h3]
          rw [if_pos h3] at k
          refine iteT ?_
          walk_at "go"
          refine j_Set a1.m rfl fun H2 h2' p2 => ?_
          have a2 : At c H2 A { s.lower b with unc := 0 } := a1.setM h2' p2 {}
          walk_at "go"
          refine ⟨A, _, rfl, a2, o1.lt8, ?_⟩
          walk_at "go"
          exact ⟨le1s, fun q hq => k A _ q (fin a2 (f1.trans (p2.fr (mem_ft 0 rfl))) rfl hq)⟩
        · rw [decide_eq_false h3]
          rw [if_neg h3] at k
          refine iteF ?_
          walk_at "go"
          refine ⟨A, _, rfl, a1, o1.lt8, ?_⟩
          walk_at "go"
          exact ⟨le1s, fun q hq => k A _ q (fin a1 f1 rfl hq)⟩
end

section
variable {P : Program} {w : World} {K : PySem.W.Frag} {mg : Str → Option Value} {base : Heap} {c : Cl}
/-! ### look, cell, totals -/
def spThree (c : Cl) : Sp := fun vs H Q _ => ∃ (a : Addr) (x : Cell), vs = [.ref a] ∧ Ins H a c.am aK (av x) ∧ ∀ q, H q = none → Q (.ref q) (upd H q (.lst ((Vbdlae.three x).map V.int)))
abbrev st_three_of : Stmt := top 68
theorem sc_three_of : FnScope ["amounts"] ["amounts"] (defScope st_three_of) := ⟨rfl, rfl, rfl, by decide +kernel, rfl, by decide +kernel, by decide +kernel⟩

theorem ok_three_of (D : DefAt K mg "three_of" st_three_of ["amounts"]) (T : Txt K mg c) : DefOk P w K mg base 1 "three_of" ["amounts"] (spThree c) := by
  refine D.ok sc_three_of (fun vs H Q E h => ?_) (fun f cdv Ar outer s0 H vs Q E hr h => ?_)
  · obtain ⟨a, x, rfl, _⟩ := h
    rfl
  · obtain ⟨a, x, rfl, h, k⟩ := h
    refine ⟨_, (pss_one (ps_ret (pe_lst (pa_cons (pe_f T.cam 0 (pv 0)) (pa_cons (pe_f T.cam 1 (pv 0)) (pa_cons (pe_f T.cam 2 (pv 0)) pa_nil star_Attribute) star_Attribute) star_Attribute)))), ?_⟩
    walk_at "go"
    exact ⟨by show 3 ≤ sizeLine; decide, fun q hq => k q hq⟩
abbrev st_look : Stmt := top 65
theorem sc_look : FnScope ["machine"] ["machine"] (defScope st_look) := ⟨rfl, rfl, rfl, by decide +kernel, rfl, by decide +kernel, by decide +kernel⟩

theorem ok_look (D : DefAt K mg "look" st_look ["machine"]) (T : Txt K mg c) (G_latches_number : MethOk P w K mg base c.ma 1 "latches_number" ["self"] (spCode c)) : DefOk P w K mg base 2 "look" ["machine"] (spC0 c 15) := by
  refine D.ok sc_look (fun vs H Q E h => ?_) (fun f cdv Ar outer s0 H vs Q E hr h => ?_)
  · obtain ⟨A, s, rfl, _⟩ := h
    rfl
  · obtain ⟨A, s, rfl, a, ⟨g, o⟩, k⟩ := h
    have e := does_act (s := s) (args := []) (x := .look) (p := 15) (by decide) (by decide) rfl rfl o.cfg rfl
    have hg := o.cfg
    dsimp only at k
    rw [e] at k
    unfold Vbdlae.act at k
    dsimp only at k
    refine ⟨_, (pss_one (ps_ret (pe_lst (pa_cons (pe_mth0 T.cma G_latches_number (by decide +kernel) hr (by decide) (pv 0)) (pa_cons (pe_f T.cma 12 (pv 0)) (pa_cons (pe_len1 T.b_len (ha := (pa_cons (pe_f T.cma 11 (pv 0)) pa_nil star_Attribute))) (pa_cons (pe_sum1 T.b_sum (ha := (pa_cons (pe_f T.cma 11 (pv 0)) pa_nil star_Attribute))) (pa_cons (pe_f T.cma 2 (pv 0)) (pa_cons (pe_f T.cma 3 (pv 0)) (pa_cons (pe_f T.cma 4 (pv 0)) (pa_cons (pe_f T.cma 5 (pv 0)) (pa_cons (pe_f T.cma 6 (pv 0)) (pa_cons (pe_f T.cma 7 (pv 0)) (pa_cons (pe_f T.cma 13 (pv 0)) (pa_cons (pe_f T.cma 14 (pv 0)) (pa_cons (pe_f T.cma 17 (pv 0)) (pa_cons (pe_f T.cma 18 (pv 0)) pa_nil star_Attribute) star_Attribute) star_Attribute) star_Attribute) star_Attribute) star_Attribute) star_Attribute) star_Attribute) star_Attribute) star_Attribute) star_Call) star_Call) star_Attribute) star_Call)))), ?_⟩
    walk_at "go"
    refine ⟨A, s, rfl, a, o.lt8, ?_⟩
    walk_at "go"
    refine ⟨A.rd, s.win.map nV, rfl, .inl (SqL.of a.rd), ?_⟩
    rw [List.length_map]
    walk_at "go"
    refine ⟨_, _, rfl, sq_nat a.rd, ?_⟩
    rw [sum_cast]
    walk_at "go"
    exact ⟨by show 14 ≤ sizeLine; decide, fun q hq => k A _ q (fin a Fr.refl rfl hq)⟩
abbrev st_cell : Stmt := top 66
theorem sc_cell : FnScope ["machine", "arguments", "i"] ["machine", "arguments"] (defScope st_cell) := ⟨rfl, rfl, rfl, by decide +kernel, rfl, by decide +kernel, by decide +kernel⟩

theorem ok_cell (D : DefAt K mg "cell" st_cell ["machine", "arguments"]) (T : Txt K mg c) (G_three_of : DefOk P w K mg base 1 "three_of" ["amounts"] (spThree c)) : DefOk P w K mg base 2 "cell" ["machine", "arguments"] (spC c 16) := by
  refine D.ok sc_cell (fun vs H Q E h => ?_) (fun f cdv Ar outer s0 H vs Q E hr h => ?_)
  · obtain ⟨A, s, p, l, rfl, _⟩ := h
    rfl
  · obtain ⟨A, s, p, l0, rfl, a, hp, np, ⟨⟨g, o⟩, hl, hrg⟩, k⟩ := h
    obtain ⟨x, rfl⟩ := len1 hl
    have e := does_act (x := .cell x) (by decide) (by decide) hl hrg o.cfg rfl
    have hrd := range_of (x := .cell x) (by decide) (by decide) hl hrg rfl
    have hg := o.cfg
    dsimp only at k
    rw [e] at k
    unfold Vbdlae.act at k
    dsimp only at k
    have npm : p ≠ A.m := fun z => np (z ▸ mem_ft 0 rfl)
    have hx := inR_true hrd
    obtain ⟨x, rfl⟩ : ∃ n : Nat, x = (n : Int) := ⟨x.toNat, by omega⟩
    rw [Int.toNat_natCast] at k
    refine ⟨_, (pss_cons (ps_set (i := 2) sc_cell.nd rfl (Or.inl rfl) (pe_ix ix_list (pv 1) pe_int (fun _ _ => rfl))) (pss_cons (ps_if (pt_cmpR op_ge (pv 2) (pe_f T.cse 0 (pe_f T.cma 0 (pv 0))) (nomark _)) (pss_one (ps_ret (pe_lst (pa_cons (pe_un un_neg pe_int) pa_nil star_UnaryOp)))) pss_nil) (pss_one (ps_ret (pe_op op_cat (pe_lst (pa_cons pe_int pa_nil star_Constant)) (pe_def G_three_of hr (by decide) (pa_cons (pe_ix ix_list (pe_f T.cma 1 (pv 0)) (pv 2) (fun _ _ => rfl)) pa_nil star_Subscript))))))), ?_⟩
    walk_at "go"
    refine arg_at (i := 0) hp rfl ?_
    walk_at "go"
    rw [show decide ((x : Int) ≥ (g.n : Int)) = decide (g.n ≤ x) from le_nat _ _]
    by_cases h1 : g.n ≤ x
    · rw [decide_eq_true h1]
      rw [List.getElem?_eq_none (by rw [o.len]; exact h1)] at k
      refine iteT ?_
      walk_at "go"
      exact ⟨le1s, fun q hq => k A _ q (fin a Fr.refl rfl hq)⟩
    · rw [decide_eq_false h1]
      have hx' : s.line[x]? = some (s.line.getD x {}) := get_D (by rw [o.len]; omega)
      rw [hx'] at k
      obtain ⟨b, hb, hi⟩ := a.cell_at hx'
      refine iteF ?_
      walk_at "go"
      refine ⟨le1s, fun r hr1 => ?_⟩
      have e1 := same_new (o := .lst [V.int 0]) hr1
      have a1 := a.same e1
      walk_at "go"
      refine i_ixL (SqL.of a1.cl) (ref_at hb) ?_
      walk_at "go"
      refine ⟨b, _, rfl, hi.same e1, fun t ht => ?_⟩
      have e2 := same_new (o := .lst ((Vbdlae.three (s.line.getD x {})).map V.int)) ht
      have a2 := a1.same e2
      walk_at "go"
      refine i_cat (e2 _ _ upd_same) upd_same (by show 4 ≤ sizeLine; decide) fun q hq => ?_
      exact k A _ q (fin a2 ((Same.fr e1).trans (Same.fr e2)) rfl hq)
abbrev st_totals : Stmt := top 67
theorem sc_totals : FnScope ["machine", "counted", "came_in", "given_away", "got_rid_of", "taken_out"] ["machine"] (defScope st_totals) := ⟨rfl, rfl, rfl, by decide +kernel, rfl, by decide +kernel, by decide +kernel⟩

theorem ok_totals (D : DefAt K mg "totals" st_totals ["machine"]) (T : Txt K mg c) (G_three_of : DefOk P w K mg base 1 "three_of" ["amounts"] (spThree c)) : DefOk P w K mg base 2 "totals" ["machine"] (spC0 c 17) := by
  refine D.ok sc_totals (fun vs H Q E h => ?_) (fun f cdv Ar outer s0 H vs Q E hr h => ?_)
  · obtain ⟨A, s, rfl, _⟩ := h
    rfl
  · obtain ⟨A, s, rfl, a, ⟨g, o⟩, k⟩ := h
    have e := does_act (s := s) (args := []) (x := .totals) (p := 17) (by decide) (by decide) rfl rfl o.cfg rfl
    have hg := o.cfg
    dsimp only at k
    rw [e] at k
    unfold Vbdlae.act at k
    dsimp only at k
    have st : ∀ {H1 H2 : Hp}, Same H H1 → Same H1 H2 → Same H H2 := fun x y => x.trans y
    have e0 : Same H H := Same.refl H
    refine ⟨_, (pss_cons (ps_set (i := 1) sc_totals.nd rfl (Or.inl rfl) (pe_f T.cma 20 (pv 0))) (pss_cons (ps_set (i := 2) sc_totals.nd rfl (Or.inl rfl) (pe_op op_cat (pe_def G_three_of hr (by decide) (pa_cons (pe_f T.cto 0 (pv 1)) pa_nil star_Attribute)) (pe_lst (pa_cons (pe_f T.cto 1 (pv 1)) (pa_cons (pe_f T.cto 2 (pv 1)) pa_nil star_Attribute) star_Attribute)))) (pss_cons (ps_set (i := 3) sc_totals.nd rfl (Or.inl rfl) (pe_op op_cat (pe_def G_three_of hr (by decide) (pa_cons (pe_f T.cto 3 (pv 1)) pa_nil star_Attribute)) (pe_def G_three_of hr (by decide) (pa_cons (pe_f T.cto 4 (pv 1)) pa_nil star_Attribute)))) (pss_cons (ps_set (i := 4) sc_totals.nd rfl (Or.inl rfl) (pe_op op_cat (pe_def G_three_of hr (by decide) (pa_cons (pe_f T.cto 5 (pv 1)) pa_nil star_Attribute)) (pe_def G_three_of hr (by decide) (pa_cons (pe_f T.cto 6 (pv 1)) pa_nil star_Attribute)))) (pss_cons (ps_set (i := 5) sc_totals.nd rfl (Or.inl rfl) (pe_lst (pa_cons (pe_f T.cto 7 (pv 1)) (pa_cons (pe_f T.cto 8 (pv 1)) pa_nil star_Attribute) star_Attribute))) (pss_one (ps_ret (pe_op op_cat (pe_op op_cat (pe_op op_cat (pe_op op_cat (pe_op op_cat (pe_lst (pa_cons pe_int pa_nil star_Constant)) (pv 2)) (pv 3)) (pv 4)) (pv 5)) (pe_lst (pa_cons (pe_f T.cto 9 (pv 1)) (pa_cons (pe_f T.cto 10 (pv 1)) pa_nil star_Attribute) star_Attribute)))))))))), ?_⟩
    walk_at "go"
    refine ⟨A.t1, _, rfl, a.t1, fun q1 n1 => ?_⟩
    have e1 := st e0 (same_new (o := .lst ((Vbdlae.three s.tot.drawn).map V.int)) n1)
    have h1 := upd_same (H := H) (a := q1) (o := .lst ((Vbdlae.three s.tot.drawn).map V.int))
    have a1 := a.same e1
    generalize upd H q1 (.lst ((Vbdlae.three s.tot.drawn).map V.int)) = H1 at e1 h1 a1 ⊢
    walk_at "go"
    refine ⟨by show 2 ≤ sizeLine; decide, fun q2 n2 => ?_⟩
    have g2 := same_new (o := .lst [V.int (s.tot.bag : Int), V.int (s.tot.air : Int)]) n2
    have h1' := g2 _ _ h1
    have h2 := upd_same (H := H1) (a := q2) (o := .lst [V.int (s.tot.bag : Int), V.int (s.tot.air : Int)])
    have e2 := st e1 g2
    generalize upd H1 q2 (.lst [V.int (s.tot.bag : Int), V.int (s.tot.air : Int)]) = H2 at h1' h2 e2 ⊢
    walk_at "go"
    refine i_cat h1' h2 (by show 5 ≤ sizeLine; decide) fun q3 n3 => ?_
    have g3 := same_new (o := .lst ((Vbdlae.three s.tot.drawn).map V.int ++ [V.int (s.tot.bag : Int), V.int (s.tot.air : Int)])) n3
    have h3 := upd_same (H := H2) (a := q3) (o := .lst ((Vbdlae.three s.tot.drawn).map V.int ++ [V.int (s.tot.bag : Int), V.int (s.tot.air : Int)]))
    have e3 := st e2 g3
    have a3 := a.same e3
    generalize upd H2 q3 (.lst ((Vbdlae.three s.tot.drawn).map V.int ++ [V.int (s.tot.bag : Int), V.int (s.tot.air : Int)])) = H3 at h3 e3 a3 ⊢
    walk_at "go"
    refine ⟨A.t2, _, rfl, a3.t2, fun q4 n4 => ?_⟩
    have g4 := same_new (o := .lst ((Vbdlae.three s.tot.given).map V.int)) n4
    have h3' := g4 _ _ h3
    have h4 := upd_same (H := H3) (a := q4) (o := .lst ((Vbdlae.three s.tot.given).map V.int))
    have e4 := st e3 g4
    have a4 := a.same e4
    generalize upd H3 q4 (.lst ((Vbdlae.three s.tot.given).map V.int)) = H4 at h3' h4 e4 a4 ⊢
    walk_at "go"
    refine ⟨A.t3, _, rfl, a4.t3, fun q5 n5 => ?_⟩
    have g5 := same_new (o := .lst ((Vbdlae.three s.tot.spilt).map V.int)) n5
    have h3'' := g5 _ _ h3'
    have h4' := g5 _ _ h4
    have h5 := upd_same (H := H4) (a := q5) (o := .lst ((Vbdlae.three s.tot.spilt).map V.int))
    have e5 := st e4 g5
    generalize upd H4 q5 (.lst ((Vbdlae.three s.tot.spilt).map V.int)) = H5 at h3'' h4' h5 e5 ⊢
    walk_at "go"
    refine i_cat h4' h5 (by show 6 ≤ sizeLine; decide) fun q6 n6 => ?_
    have g6 := same_new (o := .lst ((Vbdlae.three s.tot.given).map V.int ++ (Vbdlae.three s.tot.spilt).map V.int)) n6
    have i3 := g6 _ _ h3''
    have i6 := upd_same (H := H5) (a := q6) (o := .lst ((Vbdlae.three s.tot.given).map V.int ++ (Vbdlae.three s.tot.spilt).map V.int))
    have e6 := st e5 g6
    have a6 := a.same e6
    generalize upd H5 q6 (.lst ((Vbdlae.three s.tot.given).map V.int ++ (Vbdlae.three s.tot.spilt).map V.int)) = H6 at i3 i6 e6 a6 ⊢
    walk_at "go"
    refine ⟨A.t4, _, rfl, a6.t4, fun q7 n7 => ?_⟩
    have g7 := same_new (o := .lst ((Vbdlae.three s.tot.drained).map V.int)) n7
    have j3 := g7 _ _ i3
    have j6 := g7 _ _ i6
    have j7 := upd_same (H := H6) (a := q7) (o := .lst ((Vbdlae.three s.tot.drained).map V.int))
    have e7 := st e6 g7
    have a7 := a.same e7
    generalize upd H6 q7 (.lst ((Vbdlae.three s.tot.drained).map V.int)) = H7 at j3 j6 j7 e7 a7 ⊢
    walk_at "go"
    refine ⟨A.t5, _, rfl, a7.t5, fun q8 n8 => ?_⟩
    have g8 := same_new (o := .lst ((Vbdlae.three s.tot.thrown).map V.int)) n8
    have k3 := g8 _ _ j3
    have k6 := g8 _ _ j6
    have k7 := g8 _ _ j7
    have k8 := upd_same (H := H7) (a := q8) (o := .lst ((Vbdlae.three s.tot.thrown).map V.int))
    have e8 := st e7 g8
    generalize upd H7 q8 (.lst ((Vbdlae.three s.tot.thrown).map V.int)) = H8 at k3 k6 k7 k8 e8 ⊢
    walk_at "go"
    refine i_cat k7 k8 (by show 6 ≤ sizeLine; decide) fun q9 n9 => ?_
    have g9 := same_new (o := .lst ((Vbdlae.three s.tot.drained).map V.int ++ (Vbdlae.three s.tot.thrown).map V.int)) n9
    have l3 := g9 _ _ k3
    have l6 := g9 _ _ k6
    have l9 := upd_same (H := H8) (a := q9) (o := .lst ((Vbdlae.three s.tot.drained).map V.int ++ (Vbdlae.three s.tot.thrown).map V.int))
    have e9 := st e8 g9
    have a9 := a.same e9
    generalize upd H8 q9 (.lst ((Vbdlae.three s.tot.drained).map V.int ++ (Vbdlae.three s.tot.thrown).map V.int)) = H9 at l3 l6 l9 e9 a9 ⊢
    walk_at "go"
    refine ⟨by show 2 ≤ sizeLine; decide, fun q10 n10 => ?_⟩
    have g10 := same_new (o := .lst [V.int (s.tot.taken : Int), V.int (s.tot.vented : Int)]) n10
    have m3 := g10 _ _ l3
    have m6 := g10 _ _ l6
    have m9 := g10 _ _ l9
    have m10 := upd_same (H := H9) (a := q10) (o := .lst [V.int (s.tot.taken : Int), V.int (s.tot.vented : Int)])
    have e10 := st e9 g10
    generalize upd H9 q10 (.lst [V.int (s.tot.taken : Int), V.int (s.tot.vented : Int)]) = H10 at m3 m6 m9 m10 e10 ⊢
    walk_at "go"
    refine ⟨le1s, fun q11 n11 => ?_⟩
    have g11 := same_new (o := .lst [V.int 0]) n11
    have o3 := g11 _ _ m3
    have o6 := g11 _ _ m6
    have o9 := g11 _ _ m9
    have o10 := g11 _ _ m10
    have o11 := upd_same (H := H10) (a := q11) (o := .lst [V.int 0])
    have e11 := st e10 g11
    generalize upd H10 q11 (.lst [V.int 0]) = H11 at o3 o6 o9 o10 o11 e11 ⊢
    walk_at "go"
    refine i_cat o11 o3 (by show 6 ≤ sizeLine; decide) fun q12 n12 => ?_
    have g12 := same_new (o := .lst ([V.int 0] ++ ((Vbdlae.three s.tot.drawn).map V.int ++ [V.int (s.tot.bag : Int), V.int (s.tot.air : Int)]))) n12
    have p6 := g12 _ _ o6
    have p9 := g12 _ _ o9
    have p10 := g12 _ _ o10
    have p12 := upd_same (H := H11) (a := q12) (o := .lst ([V.int 0] ++ ((Vbdlae.three s.tot.drawn).map V.int ++ [V.int (s.tot.bag : Int), V.int (s.tot.air : Int)])))
    have e12 := st e11 g12
    generalize upd H11 q12 (.lst ([V.int 0] ++ ((Vbdlae.three s.tot.drawn).map V.int ++ [V.int (s.tot.bag : Int), V.int (s.tot.air : Int)]))) = H12 at p6 p9 p10 p12 e12 ⊢
    walk_at "go"
    refine i_cat p12 p6 (by show 12 ≤ sizeLine; decide) fun q13 n13 => ?_
    have g13 := same_new (o := .lst (([V.int 0] ++ ((Vbdlae.three s.tot.drawn).map V.int ++ [V.int (s.tot.bag : Int), V.int (s.tot.air : Int)])) ++ ((Vbdlae.three s.tot.given).map V.int ++ (Vbdlae.three s.tot.spilt).map V.int))) n13
    have r9 := g13 _ _ p9
    have r10 := g13 _ _ p10
    have u13 := upd_same (H := H12) (a := q13) (o := .lst (([V.int 0] ++ ((Vbdlae.three s.tot.drawn).map V.int ++ [V.int (s.tot.bag : Int), V.int (s.tot.air : Int)])) ++ ((Vbdlae.three s.tot.given).map V.int ++ (Vbdlae.three s.tot.spilt).map V.int)))
    have e13 := st e12 g13
    have a13 := a.same e13
    generalize upd H12 q13 (.lst (([V.int 0] ++ ((Vbdlae.three s.tot.drawn).map V.int ++ [V.int (s.tot.bag : Int), V.int (s.tot.air : Int)])) ++ ((Vbdlae.three s.tot.given).map V.int ++ (Vbdlae.three s.tot.spilt).map V.int))) = H13 at u13 e13 a13 r9 r10 ⊢
    walk_at "go"
    refine i_cat u13 r9 (by show 18 ≤ sizeLine; decide) fun q14 n14 => ?_
    have g14 := same_new (o := .lst ((([V.int 0] ++ ((Vbdlae.three s.tot.drawn).map V.int ++ [V.int (s.tot.bag : Int), V.int (s.tot.air : Int)])) ++ ((Vbdlae.three s.tot.given).map V.int ++ (Vbdlae.three s.tot.spilt).map V.int)) ++ ((Vbdlae.three s.tot.drained).map V.int ++ (Vbdlae.three s.tot.thrown).map V.int))) n14
    have s10 := g14 _ _ r10
    have u14 := upd_same (H := H13) (a := q14) (o := .lst ((([V.int 0] ++ ((Vbdlae.three s.tot.drawn).map V.int ++ [V.int (s.tot.bag : Int), V.int (s.tot.air : Int)])) ++ ((Vbdlae.three s.tot.given).map V.int ++ (Vbdlae.three s.tot.spilt).map V.int)) ++ ((Vbdlae.three s.tot.drained).map V.int ++ (Vbdlae.three s.tot.thrown).map V.int)))
    have e14 := st e13 g14
    have a14 := a.same e14
    generalize upd H13 q14 (.lst ((([V.int 0] ++ ((Vbdlae.three s.tot.drawn).map V.int ++ [V.int (s.tot.bag : Int), V.int (s.tot.air : Int)])) ++ ((Vbdlae.three s.tot.given).map V.int ++ (Vbdlae.three s.tot.spilt).map V.int)) ++ ((Vbdlae.three s.tot.drained).map V.int ++ (Vbdlae.three s.tot.thrown).map V.int))) = H14 at u14 e14 a14 s10 ⊢
    walk_at "go"
    refine i_cat u14 s10 (by show 20 ≤ sizeLine; decide) fun q15 n15 => ?_
    have g15 := same_new (o := .lst (((([V.int 0] ++ ((Vbdlae.three s.tot.drawn).map V.int ++ [V.int (s.tot.bag : Int), V.int (s.tot.air : Int)])) ++ ((Vbdlae.three s.tot.given).map V.int ++ (Vbdlae.three s.tot.spilt).map V.int)) ++ ((Vbdlae.three s.tot.drained).map V.int ++ (Vbdlae.three s.tot.thrown).map V.int)) ++ [V.int (s.tot.taken : Int), V.int (s.tot.vented : Int)])) n15
    have u15 := upd_same (H := H14) (a := q15) (o := .lst (((([V.int 0] ++ ((Vbdlae.three s.tot.drawn).map V.int ++ [V.int (s.tot.bag : Int), V.int (s.tot.air : Int)])) ++ ((Vbdlae.three s.tot.given).map V.int ++ (Vbdlae.three s.tot.spilt).map V.int)) ++ ((Vbdlae.three s.tot.drained).map V.int ++ (Vbdlae.three s.tot.thrown).map V.int)) ++ [V.int (s.tot.taken : Int), V.int (s.tot.vented : Int)]))
    have e15 := st e14 g15
    have a15 := a.same e15
    generalize upd H14 q15 (.lst (((([V.int 0] ++ ((Vbdlae.three s.tot.drawn).map V.int ++ [V.int (s.tot.bag : Int), V.int (s.tot.air : Int)])) ++ ((Vbdlae.three s.tot.given).map V.int ++ (Vbdlae.three s.tot.spilt).map V.int)) ++ ((Vbdlae.three s.tot.drained).map V.int ++ (Vbdlae.three s.tot.thrown).map V.int)) ++ [V.int (s.tot.taken : Int), V.int (s.tot.vented : Int)])) = H15 at u15 e15 a15  ⊢
    walk_at "go"
    refine ⟨by show 2 ≤ sizeLine; decide, fun q16 n16 => ?_⟩
    have g16 := same_new (o := .lst [V.int (s.tot.moves : Int), V.int (s.tot.lays : Int)]) n16
    have v15 := g16 _ _ u15
    have u16 := upd_same (H := H15) (a := q16) (o := .lst [V.int (s.tot.moves : Int), V.int (s.tot.lays : Int)])
    have e16 := st e15 g16
    have a16 := a.same e16
    generalize upd H15 q16 (.lst [V.int (s.tot.moves : Int), V.int (s.tot.lays : Int)]) = H16 at u16 e16 a16 v15 ⊢
    walk_at "go"
    refine i_cat v15 u16 (by show 22 ≤ sizeLine; decide) fun q17 n17 => ?_
    exact k A _ q17 (fin a16 (Same.fr e16) rfl n17)
end

section
variable {P : Program} {w : World} {K : PySem.W.Frag} {mg : Str → Option Value} {base : Heap} {c : Cl}
/-! ### the ranges -/
def spMany (c : Cl) : Sp := fun vs H Q _ => ∃ pl : Int, vs = [.int pl] ∧ 0 ≤ pl ∧ pl ≤ 17 ∧ Q (.int (nOf pl)) H
abbrev st_how_many_arguments : Stmt := top 61
theorem sc_how_many_arguments : FnScope ["place"] ["place"] (defScope st_how_many_arguments) := ⟨rfl, rfl, rfl, by decide +kernel, rfl, by decide +kernel, by decide +kernel⟩

theorem ok_how_many_arguments (D : DefAt K mg "how_many_arguments" st_how_many_arguments ["place"]) (T : Txt K mg c) : DefOk P w K mg base 1 "how_many_arguments" ["place"] (spMany c) := by
  refine D.ok sc_how_many_arguments (fun vs H Q E h => ?_) (fun f cdv Ar outer s0 H vs Q E hr h => ?_)
  · obtain ⟨pl, rfl, _⟩ := h
    rfl
  · obtain ⟨pl, rfl, h0, h17, k⟩ := h
    obtain ⟨get, hd, hget⟩ := T.ranges
    obtain ⟨a, as, ha, ht, hl, _⟩ := hget pl h0 h17
    refine ⟨_, (pss_one (ps_ret (pe_len1 T.b_len (ha := (pa_cons (pe_dk (pe_gr T.g_RANGES) (pv 0) (fun _ _ => rfl)) pa_nil star_Subscript))))), ?_⟩
    walk_at "go"
    refine ⟨_, _, get, _, rfl, rfl, hd, ha, ?_⟩
    walk_at "go"
    refine ⟨a, _, rfl, .inr ht.sq, ?_⟩
    rw [List.length_map, hl]
    exact k
def spOrder (c : Cl) : Sp := fun vs H Q _ => ∃ (p : Addr) (l : List Int), vs = [.ref p] ∧ H p = some (.lst (l.map V.int)) ∧ l.length = 13 ∧ Q (.bl (inOrder l)) H
abbrev st_places_in_order : Stmt := top 63
theorem sc_places_in_order : FnScope ["arguments", "n", "dz", "ch", "dt"] ["arguments"] (defScope st_places_in_order) := ⟨rfl, rfl, rfl, by decide +kernel, rfl, by decide +kernel, by decide +kernel⟩

theorem ok_places_in_order (D : DefAt K mg "places_in_order" st_places_in_order ["arguments"]) (T : Txt K mg c) : DefOk P w K mg base 1 "places_in_order" ["arguments"] (spOrder c) := by
  refine D.ok sc_places_in_order (fun vs H Q E h => ?_) (fun f cdv Ar outer s0 H vs Q E hr h => ?_)
  · obtain ⟨p, l, rfl, _⟩ := h
    rfl
  · obtain ⟨p, l, rfl, hp, hl, k⟩ := h
    obtain ⟨x0, x1, x2, x3, x4, x5, x6, x7, x8, x9, x10, x11, x12, rfl⟩ := len13 hl
    have k1 : Q (.bl (decide (x1 < x2) && (decide (x2 < x3) && decide (x3 < x0)))) H := k
    refine ⟨_, (pss_cons (ps_set (i := 1) sc_places_in_order.nd rfl (Or.inl rfl) (pe_ix ix_list (pv 0) pe_int (fun _ _ => rfl))) (pss_cons (ps_set (i := 2) sc_places_in_order.nd rfl (Or.inl rfl) (pe_ix ix_list (pv 0) pe_int (fun _ _ => rfl))) (pss_cons (ps_set (i := 3) sc_places_in_order.nd rfl (Or.inl rfl) (pe_ix ix_list (pv 0) pe_int (fun _ _ => rfl))) (pss_cons (ps_set (i := 4) sc_places_in_order.nd rfl (Or.inl rfl) (pe_ix ix_list (pv 0) pe_int (fun _ _ => rfl))) (pss_one (ps_ret (pe_and (pe_cmpR op_lt (pv 2) (pv 3) (nomark _)) (pe_and (pe_cmpR op_lt (pv 3) (pv 4) (nomark _)) (pe_one (pe_cmpR op_lt (pv 4) (pv 1) (nomark _))))))))))), ?_⟩
    walk_at "go"
    refine arg_at (i := 0) hp rfl ?_
    walk_at "go"
    refine arg_at (i := 1) hp rfl ?_
    walk_at "go"
    refine arg_at (i := 2) hp rfl ?_
    walk_at "go"
    refine arg_at (i := 3) hp rfl ?_
    walk_at "go"
    cases h1 : decide (x1 < x2) with
    | false =>
      rw [h1] at k1
      refine iteF ?_
      exact k1
    | true =>
      rw [h1] at k1
      refine iteT ?_
      walk_at "go"
      cases h2 : decide (x2 < x3) with
      | false =>
        rw [h2] at k1
        refine iteF ?_
        exact k1
      | true =>
        rw [h2] at k1
        refine iteT ?_
        walk_at "go"
        exact k1
def spIn (c : Cl) : Sp := fun vs H Q _ => ∃ (p : Addr) (pl : Int) (l : List Int), vs = [.int pl, .ref p] ∧ H p = some (.lst (l.map V.int)) ∧ 0 ≤ pl ∧ pl ≤ 17 ∧ l.length = nOf pl ∧ ∀ H', Same H H' → Q (.bl (rangeOk pl l)) H'
theorem allIn_turn {l : List Int} {ls : List (Int × Int)} {i : Nat} {x : Int} {b : Int × Int} (hx : l[i]? = some x) (hb : ls[i]? = some b) : allIn (l.drop i) (ls.drop i) = (!bad1 x b && allIn (l.drop (i + 1)) (ls.drop (i + 1))) := by
  obtain ⟨h1, e1⟩ := List.getElem?_eq_some_iff.mp hx
  obtain ⟨h2, e2⟩ := List.getElem?_eq_some_iff.mp hb
  rw [List.drop_eq_getElem_cons h1, List.drop_eq_getElem_cons h2, e1, e2]
  rfl
abbrev st_all_in_range : Stmt := top 62
theorem sc_all_in_range : FnScope ["place", "arguments", "argument", "limits"] ["place", "arguments"] (defScope st_all_in_range) := ⟨rfl, rfl, rfl, by decide +kernel, rfl, by decide +kernel, by decide +kernel⟩

theorem ok_all_in_range (D : DefAt K mg "all_in_range" st_all_in_range ["place", "arguments"]) (T : Txt K mg c) (G_places_in_order : DefOk P w K mg base 1 "places_in_order" ["arguments"] (spOrder c)) : DefOk P w K mg base 2 "all_in_range" ["place", "arguments"] (spIn c) := by
  refine D.ok sc_all_in_range (fun vs H Q E h => ?_) (fun f cdv Ar outer s0 H vs Q E hr h => ?_)
  · obtain ⟨p, pl, l, rfl, _⟩ := h
    rfl
  · obtain ⟨p, pl, l, rfl, hp, h0, h17, hl, k⟩ := h
    obtain ⟨get, hd, hget⟩ := T.ranges
    obtain ⟨a, as, ha, ht, hal, hat⟩ := hget pl h0 h17
    refine ⟨_, (pss_cons (ps_for PassesOwn.never rfl (pi_zipT rfl T.b_zip (pa_cons (pv 1) (pa_cons (pe_dk (pe_gr T.g_RANGES) (pv 0) (fun _ _ => rfl)) pa_nil star_Subscript) star_Name)) (pg_tup rfl (pgs_cons (pg_name (i := 2) sc_all_in_range.nd rfl (Or.inl rfl)) (pgs_cons (pg_name (i := 3) sc_all_in_range.nd rfl (Or.inl rfl)) pgs_nil))) (pss_one (ps_if (PW.pt (pw_or (pt_cmpR op_lt (pv 2) (pe_ix ix_tup (pv 3) pe_int (fun _ _ => rfl)) (nomark _)) (pw_or1 (pt_cmpR op_gt (pv 2) (pe_ix ix_tup (pv 3) pe_int (fun _ _ => rfl)) (nomark _))))) (pss_one (ps_ret pe_bl)) pss_nil))) (pss_one (ps_ret (pe_or (pe_cmpR op_ne (pv 0) pe_int (nomark _)) (pe_one (pe_def G_places_in_order hr (by decide) (pa_cons (pv 1) pa_nil star_Name))))))), ?_⟩
    walk_at "go"
    refine ⟨_, _, get, _, rfl, rfl, hd, ha, ?_⟩
    walk_at "go"
    refine j_forZ (SqL.of hp) ht.sq (by rw [List.length_map, List.length_map, hal]; exact hl) (fun i σ H' => Same H H' ∧ allIn l (lims pl) = allIn (l.drop i) ((lims pl).drop i) ∧ ∃ v w, σ = [some (.int pl), some (.ref p), v, w]) ⟨Same.refl H, rfl, none, none, rfl⟩
      (fun i σ H' ⟨e, _⟩ => ⟨SqL.of (e _ _ hp), ht.sq⟩) ?_ ?_
    · rintro i x y t σ H' hx hy ⟨e, ea, v, w, rfl⟩ nt
      obtain ⟨n, hn, rfl⟩ := map_at hx
      obtain ⟨b, hb, rfl⟩ := map_at hy
      obtain ⟨lim, hlim⟩ : ∃ lim, (lims pl)[i]? = some lim := ⟨_, List.getElem?_eq_getElem (by rw [← hal]; exact (List.getElem?_eq_some_iff.mp hb).1)⟩
      have htb := hat i b lim hb hlim
      have e' : Same H (upd H' t (.tup [V.int n, V.ref b])) := e.trans (same_new nt)
      rw [allIn_turn hn hlim] at ea
      refine ⟨t, _, rfl, SqT.of upd_same, rfl, _, _, rfl, _, _, rfl, rfl, ?_⟩
      walk_at "go"
      refine i_ixT htb.sq (atI_nat (j := 0) rfl) ?_
      walk_at "go"
      cases h1 : decide (n < lim.1) with
      | true =>
        refine iteT ?_
        refine iteT ?_
        walk_at "go"
        have er : rangeOk pl l = false := by
          unfold rangeOk
          rw [ea]
          unfold bad1
          rw [h1]
          rfl
        rw [← er]
        exact k _ e'
      | false =>
        refine iteF ?_
        walk_at "go"
        refine i_ixT htb.sq (atI_nat (j := 1) rfl) ?_
        walk_at "go"
        cases h2 : decide (n > lim.2) with
        | true =>
          refine iteT ?_
          walk_at "go"
          have er : rangeOk pl l = false := by
            unfold rangeOk
            rw [ea]
            unfold bad1
            rw [h1, h2]
            rfl
          rw [← er]
          exact k _ e'
        | false =>
          refine iteF ?_
          walk_at "go"
          refine ⟨e', ?_, _, _, rfl⟩
          rw [ea]
          unfold bad1
          rw [h1, h2]
          rfl
    · rintro σ H' ⟨e, ea, v, w, rfl⟩
      rw [List.length_map, List.drop_length] at ea
      have ea' : allIn l (lims pl) = true := by rw [ea]; rfl
      walk_at "go"
      by_cases h1 : pl = 0
      · subst h1
        refine iteF ?_
        walk_at "go"
        refine ⟨p, l, rfl, e _ _ hp, hl, ?_⟩
        have er : rangeOk 0 l = inOrder l := by
          unfold rangeOk
          rw [ea']
          rfl
        rw [← er]
        exact k _ e
      · rw [decide_eq_false h1]
        refine iteT ?_
        have er : rangeOk pl l = true := by
          unfold rangeOk
          rw [ea', decide_eq_false h1]
          rfl
        rw [er] at k
        exact k _ e
end

section
variable {P : Program} {w : World} {K : PySem.W.Frag} {mg : Str → Option Value} {base : Heap} {c : Cl}
/-! ### a call by its place -/
def spGo (c : Cl) (lo hi : Nat) : Sp := fun vs H Q _ => ∃ (A : Ad) (s : VSt) (p : Addr) (pl : Nat) (l : List Int), vs = [.ref A.m, .int (pl : Int), .ref p] ∧ At c H A s ∧ H p = some (.lst (l.map V.int)) ∧ p ∉ foot A ∧ lo ≤ pl ∧ pl ≤ hi ∧ okC pl s l ∧
  ∀ A' H' q, Out c H H' A A' (Vbdlae.does s (pl :: l)).1 q (Vbdlae.does s (pl :: l)).2 → Q (.ref q) H'
abbrev st_answer_running : Stmt := top 82
theorem sc_answer_running : FnScope ["machine", "place", "arguments"] ["machine", "place", "arguments"] (defScope st_answer_running) := ⟨rfl, rfl, rfl, by decide +kernel, rfl, by decide +kernel, by decide +kernel⟩

theorem ok_answer_running (D : DefAt K mg "answer_running" st_answer_running ["machine", "place", "arguments"]) (T : Txt K mg c) (G_source : DefOk P w K mg base 1 "source" ["machine", "arguments"] (spC c 1)) (G_bag : DefOk P w K mg base 1 "bag" ["machine", "arguments"] (spC c 2)) (G_sink : DefOk P w K mg base 2 "sink" ["machine", "arguments"] (spC c 3)) (G_ultra : DefOk P w K mg base 1 "ultra" ["machine", "arguments"] (spC c 4)) (G_move : DefOk P w K mg base 6 "move" ["machine", "arguments"] (spC c 5)) (G_wait : DefOk P w K mg base 2 "wait" ["machine", "arguments"] (spC c 6)) (G_press : DefOk P w K mg base 3 "press" ["machine", "arguments"] (spC c 7)) (G_centre : DefOk P w K mg base 2 "centre" ["machine"] (spC0 c 8)) : DefOk P w K mg base 7 "answer_running" ["machine", "place", "arguments"] (spGo c 1 8) := by
  refine D.ok sc_answer_running (fun vs H Q E h => ?_) (fun f cdv Ar outer s0 H vs Q E hr h => ?_)
  · obtain ⟨A, s, p, pl, l, rfl, _⟩ := h
    rfl
  · obtain ⟨A, s, p, pl, l, rfl, a, hp, np, hlo, hhi, okc, k⟩ := h
    refine ⟨_, (pss_cons (ps_if (pt_cmpR op_eq (pv 1) pe_int (nomark _)) (pss_one (ps_ret (pe_def G_source hr (by decide) (pa_cons (pv 0) (pa_cons (pv 2) pa_nil star_Name) star_Name)))) pss_nil) (pss_cons (ps_if (pt_cmpR op_eq (pv 1) pe_int (nomark _)) (pss_one (ps_ret (pe_def G_bag hr (by decide) (pa_cons (pv 0) (pa_cons (pv 2) pa_nil star_Name) star_Name)))) pss_nil) (pss_cons (ps_if (pt_cmpR op_eq (pv 1) pe_int (nomark _)) (pss_one (ps_ret (pe_def G_sink hr (by decide) (pa_cons (pv 0) (pa_cons (pv 2) pa_nil star_Name) star_Name)))) pss_nil) (pss_cons (ps_if (pt_cmpR op_eq (pv 1) pe_int (nomark _)) (pss_one (ps_ret (pe_def G_ultra hr (by decide) (pa_cons (pv 0) (pa_cons (pv 2) pa_nil star_Name) star_Name)))) pss_nil) (pss_cons (ps_if (pt_cmpR op_eq (pv 1) pe_int (nomark _)) (pss_one (ps_ret (pe_def G_move hr (by decide) (pa_cons (pv 0) (pa_cons (pv 2) pa_nil star_Name) star_Name)))) pss_nil) (pss_cons (ps_if (pt_cmpR op_eq (pv 1) pe_int (nomark _)) (pss_one (ps_ret (pe_def G_wait hr (by decide) (pa_cons (pv 0) (pa_cons (pv 2) pa_nil star_Name) star_Name)))) pss_nil) (pss_cons (ps_if (pt_cmpR op_eq (pv 1) pe_int (nomark _)) (pss_one (ps_ret (pe_def G_press hr (by decide) (pa_cons (pv 0) (pa_cons (pv 2) pa_nil star_Name) star_Name)))) pss_nil) (pss_one (ps_ret (pe_def G_centre hr (by decide) (pa_cons (pv 0) pa_nil star_Name))))))))))), ?_⟩
    walk_at "go"
    match pl, hlo, hhi, okc, k with
    | 1, _, _, okc, k =>
      refine iteT ?_
      walk_at "go"
      exact ⟨A, s, p, l, rfl, a, hp, np, okc, k⟩
    | 2, _, _, okc, k =>
      refine iteF ?_
      walk_at "go"
      refine iteT ?_
      walk_at "go"
      exact ⟨A, s, p, l, rfl, a, hp, np, okc, k⟩
    | 3, _, _, okc, k =>
      refine iteF ?_
      walk_at "go"
      refine iteF ?_
      walk_at "go"
      refine iteT ?_
      walk_at "go"
      exact ⟨A, s, p, l, rfl, a, hp, np, okc, k⟩
    | 4, _, _, okc, k =>
      refine iteF ?_
      walk_at "go"
      refine iteF ?_
      walk_at "go"
      refine iteF ?_
      walk_at "go"
      refine iteT ?_
      walk_at "go"
      exact ⟨A, s, p, l, rfl, a, hp, np, okc, k⟩
    | 5, _, _, okc, k =>
      refine iteF ?_
      walk_at "go"
      refine iteF ?_
      walk_at "go"
      refine iteF ?_
      walk_at "go"
      refine iteF ?_
      walk_at "go"
      refine iteT ?_
      walk_at "go"
      exact ⟨A, s, p, l, rfl, a, hp, np, okc, k⟩
    | 6, _, _, okc, k =>
      refine iteF ?_
      walk_at "go"
      refine iteF ?_
      walk_at "go"
      refine iteF ?_
      walk_at "go"
      refine iteF ?_
      walk_at "go"
      refine iteF ?_
      walk_at "go"
      refine iteT ?_
      walk_at "go"
      exact ⟨A, s, p, l, rfl, a, hp, np, okc, k⟩
    | 7, _, _, okc, k =>
      refine iteF ?_
      walk_at "go"
      refine iteF ?_
      walk_at "go"
      refine iteF ?_
      walk_at "go"
      refine iteF ?_
      walk_at "go"
      refine iteF ?_
      walk_at "go"
      refine iteF ?_
      walk_at "go"
      refine iteT ?_
      walk_at "go"
      exact ⟨A, s, p, l, rfl, a, hp, np, okc, k⟩
    | 8, _, _, okc, k =>
      refine iteF ?_
      walk_at "go"
      refine iteF ?_
      walk_at "go"
      refine iteF ?_
      walk_at "go"
      refine iteF ?_
      walk_at "go"
      refine iteF ?_
      walk_at "go"
      refine iteF ?_
      walk_at "go"
      refine iteF ?_
      walk_at "go"
      obtain ⟨ok, hl, _⟩ := okc
      cases len0 hl
      exact ⟨A, s, rfl, a, ok, k⟩
    | pl + 9, _, h, _, _ => exact absurd h (by omega)
    | 0, h, _, _, _ => exact absurd h (by omega)
abbrev st_answer_tending : Stmt := top 83
theorem sc_answer_tending : FnScope ["machine", "place", "arguments"] ["machine", "place", "arguments"] (defScope st_answer_tending) := ⟨rfl, rfl, rfl, by decide +kernel, rfl, by decide +kernel, by decide +kernel⟩

theorem ok_answer_tending (D : DefAt K mg "answer_tending" st_answer_tending ["machine", "place", "arguments"]) (T : Txt K mg c) (G_leak : DefOk P w K mg base 2 "leak" ["machine", "arguments"] (spC c 9)) (G_fault : DefOk P w K mg base 1 "fault" ["machine", "arguments"] (spC c 10)) (G_slip : DefOk P w K mg base 1 "slip" ["machine", "arguments"] (spC c 11)) (G_vent : DefOk P w K mg base 2 "vent" ["machine"] (spC0 c 12)) (G_check : DefOk P w K mg base 2 "check" ["machine"] (spC0 c 13)) (G_reset : DefOk P w K mg base 5 "reset" ["machine", "arguments"] (spC c 14)) (G_look : DefOk P w K mg base 2 "look" ["machine"] (spC0 c 15)) (G_cell : DefOk P w K mg base 2 "cell" ["machine", "arguments"] (spC c 16)) (G_totals : DefOk P w K mg base 2 "totals" ["machine"] (spC0 c 17)) : DefOk P w K mg base 6 "answer_tending" ["machine", "place", "arguments"] (spGo c 9 17) := by
  refine D.ok sc_answer_tending (fun vs H Q E h => ?_) (fun f cdv Ar outer s0 H vs Q E hr h => ?_)
  · obtain ⟨A, s, p, pl, l, rfl, _⟩ := h
    rfl
  · obtain ⟨A, s, p, pl, l, rfl, a, hp, np, hlo, hhi, okc, k⟩ := h
    refine ⟨_, (pss_cons (ps_if (pt_cmpR op_eq (pv 1) pe_int (nomark _)) (pss_one (ps_ret (pe_def G_leak hr (by decide) (pa_cons (pv 0) (pa_cons (pv 2) pa_nil star_Name) star_Name)))) pss_nil) (pss_cons (ps_if (pt_cmpR op_eq (pv 1) pe_int (nomark _)) (pss_one (ps_ret (pe_def G_fault hr (by decide) (pa_cons (pv 0) (pa_cons (pv 2) pa_nil star_Name) star_Name)))) pss_nil) (pss_cons (ps_if (pt_cmpR op_eq (pv 1) pe_int (nomark _)) (pss_one (ps_ret (pe_def G_slip hr (by decide) (pa_cons (pv 0) (pa_cons (pv 2) pa_nil star_Name) star_Name)))) pss_nil) (pss_cons (ps_if (pt_cmpR op_eq (pv 1) pe_int (nomark _)) (pss_one (ps_ret (pe_def G_vent hr (by decide) (pa_cons (pv 0) pa_nil star_Name)))) pss_nil) (pss_cons (ps_if (pt_cmpR op_eq (pv 1) pe_int (nomark _)) (pss_one (ps_ret (pe_def G_check hr (by decide) (pa_cons (pv 0) pa_nil star_Name)))) pss_nil) (pss_cons (ps_if (pt_cmpR op_eq (pv 1) pe_int (nomark _)) (pss_one (ps_ret (pe_def G_reset hr (by decide) (pa_cons (pv 0) (pa_cons (pv 2) pa_nil star_Name) star_Name)))) pss_nil) (pss_cons (ps_if (pt_cmpR op_eq (pv 1) pe_int (nomark _)) (pss_one (ps_ret (pe_def G_look hr (by decide) (pa_cons (pv 0) pa_nil star_Name)))) pss_nil) (pss_cons (ps_if (pt_cmpR op_eq (pv 1) pe_int (nomark _)) (pss_one (ps_ret (pe_def G_cell hr (by decide) (pa_cons (pv 0) (pa_cons (pv 2) pa_nil star_Name) star_Name)))) pss_nil) (pss_one (ps_ret (pe_def G_totals hr (by decide) (pa_cons (pv 0) pa_nil star_Name)))))))))))), ?_⟩
    walk_at "go"
    match pl, hlo, hhi, okc, k with
    | 9, _, _, okc, k =>
      refine iteT ?_
      walk_at "go"
      exact ⟨A, s, p, l, rfl, a, hp, np, okc, k⟩
    | 10, _, _, okc, k =>
      refine iteF ?_
      walk_at "go"
      refine iteT ?_
      walk_at "go"
      exact ⟨A, s, p, l, rfl, a, hp, np, okc, k⟩
    | 11, _, _, okc, k =>
      refine iteF ?_
      walk_at "go"
      refine iteF ?_
      walk_at "go"
      refine iteT ?_
      walk_at "go"
      exact ⟨A, s, p, l, rfl, a, hp, np, okc, k⟩
    | 12, _, _, okc, k =>
      refine iteF ?_
      walk_at "go"
      refine iteF ?_
      walk_at "go"
      refine iteF ?_
      walk_at "go"
      refine iteT ?_
      walk_at "go"
      obtain ⟨ok, hl, _⟩ := okc
      cases len0 hl
      exact ⟨A, s, rfl, a, ok, k⟩
    | 13, _, _, okc, k =>
      refine iteF ?_
      walk_at "go"
      refine iteF ?_
      walk_at "go"
      refine iteF ?_
      walk_at "go"
      refine iteF ?_
      walk_at "go"
      refine iteT ?_
      walk_at "go"
      obtain ⟨ok, hl, _⟩ := okc
      cases len0 hl
      exact ⟨A, s, rfl, a, ok, k⟩
    | 14, _, _, okc, k =>
      refine iteF ?_
      walk_at "go"
      refine iteF ?_
      walk_at "go"
      refine iteF ?_
      walk_at "go"
      refine iteF ?_
      walk_at "go"
      refine iteF ?_
      walk_at "go"
      refine iteT ?_
      walk_at "go"
      exact ⟨A, s, p, l, rfl, a, hp, np, okc, k⟩
    | 15, _, _, okc, k =>
      refine iteF ?_
      walk_at "go"
      refine iteF ?_
      walk_at "go"
      refine iteF ?_
      walk_at "go"
      refine iteF ?_
      walk_at "go"
      refine iteF ?_
      walk_at "go"
      refine iteF ?_
      walk_at "go"
      refine iteT ?_
      walk_at "go"
      obtain ⟨ok, hl, _⟩ := okc
      cases len0 hl
      exact ⟨A, s, rfl, a, ok, k⟩
    | 16, _, _, okc, k =>
      refine iteF ?_
      walk_at "go"
      refine iteF ?_
      walk_at "go"
      refine iteF ?_
      walk_at "go"
      refine iteF ?_
      walk_at "go"
      refine iteF ?_
      walk_at "go"
      refine iteF ?_
      walk_at "go"
      refine iteF ?_
      walk_at "go"
      refine iteT ?_
      walk_at "go"
      exact ⟨A, s, p, l, rfl, a, hp, np, okc, k⟩
    | 17, _, _, okc, k =>
      refine iteF ?_
      walk_at "go"
      refine iteF ?_
      walk_at "go"
      refine iteF ?_
      walk_at "go"
      refine iteF ?_
      walk_at "go"
      refine iteF ?_
      walk_at "go"
      refine iteF ?_
      walk_at "go"
      refine iteF ?_
      walk_at "go"
      refine iteF ?_
      walk_at "go"
      obtain ⟨ok, hl, _⟩ := okc
      cases len0 hl
      exact ⟨A, s, rfl, a, ok, k⟩
    | pl + 18, _, h, _, _ => exact absurd h (by omega)
    | 0, h, _, _, _ => exact absurd h (by omega)
    | 1, h, _, _, _ => exact absurd h (by omega)
    | 2, h, _, _, _ => exact absurd h (by omega)
    | 3, h, _, _, _ => exact absurd h (by omega)
    | 4, h, _, _, _ => exact absurd h (by omega)
    | 5, h, _, _, _ => exact absurd h (by omega)
    | 6, h, _, _, _ => exact absurd h (by omega)
    | 7, h, _, _, _ => exact absurd h (by omega)
    | 8, h, _, _, _ => exact absurd h (by omega)
theorem Out.pre {H H1 H' : Hp} {A A' : Ad} {s' : VSt} {q : Addr} {ans : List Int} (e : Same H H1) (o : Out c H1 H' A A' s' q ans) : Out c H H' A A' s' q ans :=
  ⟨o.at_, (Same.fr e).trans o.fr, o.m, o.lst, fun b ob hb nb => o.ne b ob (e _ _ hb) nb⟩
def spCall (c : Cl) : Sp := fun vs H Q _ => ∃ (A : Ad) (s : VSt) (p : Addr) (pl : Int) (l : List Int), vs = [.ref A.m, .int pl, .ref p] ∧ At c H A s ∧ Gd s ∧ H p = some (.lst (l.map V.int)) ∧ p ∉ foot A ∧ 0 ≤ pl ∧ pl ≤ 17 ∧ l.length = nOf pl ∧
  ∀ A' H' q, Out c H H' A A' (Vbdlae.does s (pl :: l)).1 q (Vbdlae.does s (pl :: l)).2 → Q (.ref q) H'
abbrev st_answer_call : Stmt := top 81
theorem sc_answer_call : FnScope ["machine", "place", "arguments"] ["machine", "place", "arguments"] (defScope st_answer_call) := ⟨rfl, rfl, rfl, by decide +kernel, rfl, by decide +kernel, by decide +kernel⟩

theorem ok_answer_call (D : DefAt K mg "answer_call" st_answer_call ["machine", "place", "arguments"]) (T : Txt K mg c) (G_all_in_range : DefOk P w K mg base 2 "all_in_range" ["place", "arguments"] (spIn c)) (G_lay : DefOk P w K mg base 4 "lay" ["machine", "arguments"] (spL c)) (G_answer_running : DefOk P w K mg base 7 "answer_running" ["machine", "place", "arguments"] (spGo c 1 8)) (G_answer_tending : DefOk P w K mg base 6 "answer_tending" ["machine", "place", "arguments"] (spGo c 9 17)) : DefOk P w K mg base 8 "answer_call" ["machine", "place", "arguments"] (spCall c) := by
  refine D.ok sc_answer_call (fun vs H Q E h => ?_) (fun f cdv Ar outer s0 H vs Q E hr h => ?_)
  · obtain ⟨A, s, p, pl, l, rfl, _⟩ := h
    rfl
  · obtain ⟨A, s, p, pl, l, rfl, a, gd, hp, np, h0, h17, hl, k⟩ := h
    refine ⟨_, (pss_cons (ps_if (pt_not (pt_val (pe_def G_all_in_range hr (by decide) (pa_cons (pv 1) (pa_cons (pv 2) pa_nil star_Name) star_Name)))) (pss_one (ps_ret (pe_lst (pa_cons (pe_un un_neg pe_int) pa_nil star_UnaryOp)))) pss_nil) (pss_cons (ps_if (pt_cmpR op_eq (pv 1) pe_int (nomark _)) (pss_one (ps_ret (pe_def G_lay hr (by decide) (pa_cons (pv 0) (pa_cons (pv 2) pa_nil star_Name) star_Name)))) pss_nil) (pss_cons (ps_if (pt_cmp (pc_isN (pe_f T.cma 0 (pv 0)))) (pss_one (ps_ret (pe_lst (pa_cons (pe_un un_neg pe_int) pa_nil star_UnaryOp)))) pss_nil) (pss_cons (ps_if (pt_cmpR op_le (pv 1) pe_int (nomark _)) (pss_one (ps_ret (pe_def G_answer_running hr (by decide) (pa_cons (pv 0) (pa_cons (pv 1) (pa_cons (pv 2) pa_nil star_Name) star_Name) star_Name)))) pss_nil) (pss_one (ps_ret (pe_def G_answer_tending hr (by decide) (pa_cons (pv 0) (pa_cons (pv 1) (pa_cons (pv 2) pa_nil star_Name) star_Name) star_Name)))))))), ?_⟩
    walk_at "go"
    refine ⟨p, pl, l, rfl, hp, h0, h17, hl, fun H1 e1 => ?_⟩
    have a1 := a.same e1
    have hp1 := e1 _ _ hp
    walk_at "go"
    cases hR : rangeOk pl l with
    | false =>
      rw [does_refused h0 h17 hl hR] at k
      refine iteT ?_
      walk_at "go"
      exact ⟨le1s, fun q hq => k A _ q ((fin a1 Fr.refl rfl hq).pre e1)⟩
    | true =>
      refine iteF ?_
      walk_at "go"
      by_cases hz : pl = 0
      · subst hz
        refine iteT ?_
        walk_at "go"
        exact ⟨A, s, p, l, rfl, a1, hp1, np, ⟨gd, hl, hR⟩, fun A' H' q o => k A' H' q (o.pre e1)⟩
      · rw [decide_eq_false hz]
        refine iteF ?_
        walk_at "go"
        cases hc : s.cfg with
        | none =>
          rw [does_unlaid (by omega) h17 hl hR hc] at k
          refine iteT ?_
          walk_at "go"
          exact ⟨le1s, fun q hq => k A _ q ((fin a1 Fr.refl rfl hq).pre e1)⟩
        | some g =>
          have o := gd.ok hc
          refine iteF ?_
          walk_at "go"
          obtain ⟨n, rfl⟩ : ∃ n : Nat, pl = (n : Int) := ⟨pl.toNat, by omega⟩
          by_cases h8 : (n : Int) ≤ 8
          · rw [decide_eq_true h8]
            refine iteT ?_
            walk_at "go"
            exact ⟨A, s, p, n, l, rfl, a1, hp1, np, by omega, by omega, ⟨⟨g, o⟩, hl, hR⟩, fun A' H' q o => k A' H' q (o.pre e1)⟩
          · rw [decide_eq_false h8]
            refine iteF ?_
            walk_at "go"
            exact ⟨A, s, p, n, l, rfl, a1, hp1, np, by omega, by omega, ⟨⟨g, o⟩, hl, hR⟩, fun A' H' q o => k A' H' q (o.pre e1)⟩
end

section
variable {P : Program} {w : World} {K : PySem.W.Frag} {mg : Str → Option Value} {base : Heap} {c : Cl}
/-! ### a new object -/
/-- since H, while the instance at p is filled, these objects have been made -/
structure Gr (H H' : Hp) (p : Addr) (L : List (Addr × HO)) : Prop where
  at_ : ∀ x, x ∈ L → H' x.1 = some x.2 ∧ H x.1 = none
  nd : (L.map (·.1)).Nodup
  old : ∀ b o, H b = some o → b ≠ p → H' b = some o
theorem Gr.start {H : Hp} {p : Addr} : Gr H H p [] := ⟨fun x hx => by simp at hx, List.nodup_nil, fun _ _ h _ => h⟩
theorem Gr.new {H H1 H2 : Hp} {p t : Addr} {o : HO} {L : List (Addr × HO)} (g : Gr H H1 p L) (hp : ∃ o, H1 p = some o) (nt : H1 t = none) (e : H2 t = some o) (sm : Same H1 H2) : Gr H H2 p ((t, o) :: L) := by
  have ntp : t ≠ p := fun z => by
    obtain ⟨ob, q⟩ := hp
    rw [z, q] at nt
    cases nt
  refine ⟨fun x hx => ?_, List.nodup_cons.mpr ⟨fun hm => ?_, g.nd⟩, fun b ob hb n => sm _ _ (g.old b ob hb n)⟩
  · rcases List.mem_cons.mp hx with z | z
    · subst z
      refine ⟨e, ?_⟩
      cases q : H t with
      | none => rfl
      | some ob =>
        rw [g.old t ob q ntp] at nt
        cases nt
    · exact ⟨sm _ _ (g.at_ x z).1, (g.at_ x z).2⟩
  · obtain ⟨x, hx, ex⟩ := List.mem_map.mp hm
    have q := (g.at_ x hx).1
    rw [ex, nt] at q
    cases q
theorem Gr.put {H H1 H2 : Hp} {p : Addr} {L : List (Addr × HO)} (g : Gr H H1 p L) (hp : ∃ o, H p = some o) (pt : Put H1 H2 p) : Gr H H2 p L := by
  refine ⟨fun x hx => ⟨pt.eq (fun z => ?_) (g.at_ x hx).1, (g.at_ x hx).2⟩, g.nd, fun b o hb n => pt.eq n (g.old b o hb n)⟩
  obtain ⟨o, q⟩ := hp
  have z2 := (g.at_ x hx).2
  rw [z, q] at z2
  cases z2
def t0 (t1 t2 t3 t4 t5 : Addr) : List V := [.ref t1, .int 0, .int 0, .ref t2, .ref t3, .ref t4, .ref t5, .int 0, .int 0, .int 0, .int 0]
def spTo (c : Cl) : Sp := fun vs H Q _ => ∃ p : Addr, vs = [.ref p] ∧ Ins H p c.to [] [] ∧ ∀ t1 t2 t3 t4 t5 H', Ins H' p c.to tK (t0 t1 t2 t3 t4 t5) → (∀ t, t ∈ [t1, t2, t3, t4, t5] → Ins H' t c.am aK (av {}) ∧ H t = none) → [t1, t2, t3, t4, t5].Nodup →
  (∀ b o, H b = some o → b ≠ p → H' b = some o) → Q .non H'
abbrev st_Totals__init_ : Stmt := inClass (top 17) 0
theorem sc_Totals__init_ : FnScope ["self"] ["self"] (defScope st_Totals__init_) := ⟨rfl, rfl, rfl, by decide +kernel, rfl, by decide +kernel, by decide +kernel⟩

theorem ok_Totals (D : MakeAt K mg c.to "Totals" "Totals.__init__" st_Totals__init_ ["self"]) (T : Txt K mg c) (G_Amounts : MakeOk P w K mg base c.am 1 "Amounts" ["self", "red", "water", "air"] (spAm c)) : MakeOk P w K mg base c.to 3 "Totals" ["self"] (spTo c) := by
  refine D.ok sc_Totals__init_ (fun vs H Q E h => ?_) (fun f cdv Ar outer s0 H vs Q E hr h => ?_)
  · obtain ⟨p, rfl, _⟩ := h
    rfl
  · obtain ⟨p, rfl, h, k⟩ := h
    have g0 : Gr H H p [] := Gr.start
    have hp0 : ∃ o, H p = some o := h.some
    refine ⟨_, (pss_cons (ps_n T.cto (by decide +kernel) (pv 0) (pe_new G_Amounts hr (by decide) (pa_cons pe_int (pa_cons pe_int (pa_cons pe_int pa_nil star_Constant) star_Constant) star_Constant))) (pss_cons (ps_n T.cto (by decide +kernel) (pv 0) pe_int) (pss_cons (ps_n T.cto (by decide +kernel) (pv 0) pe_int) (pss_cons (ps_n T.cto (by decide +kernel) (pv 0) (pe_new G_Amounts hr (by decide) (pa_cons pe_int (pa_cons pe_int (pa_cons pe_int pa_nil star_Constant) star_Constant) star_Constant))) (pss_cons (ps_n T.cto (by decide +kernel) (pv 0) (pe_new G_Amounts hr (by decide) (pa_cons pe_int (pa_cons pe_int (pa_cons pe_int pa_nil star_Constant) star_Constant) star_Constant))) (pss_cons (ps_n T.cto (by decide +kernel) (pv 0) (pe_new G_Amounts hr (by decide) (pa_cons pe_int (pa_cons pe_int (pa_cons pe_int pa_nil star_Constant) star_Constant) star_Constant))) (pss_cons (ps_n T.cto (by decide +kernel) (pv 0) (pe_new G_Amounts hr (by decide) (pa_cons pe_int (pa_cons pe_int (pa_cons pe_int pa_nil star_Constant) star_Constant) star_Constant))) (pss_cons (ps_n T.cto (by decide +kernel) (pv 0) pe_int) (pss_cons (ps_n T.cto (by decide +kernel) (pv 0) pe_int) (pss_cons (ps_n T.cto (by decide +kernel) (pv 0) pe_int) (pss_one (ps_n T.cto (by decide +kernel) (pv 0) pe_int)))))))))))), ?_⟩
    walk_at "go"
    refine mk_am (d := {}) rfl fun t1 H1 n1 i1 sm1 => ?_
    obtain ⟨d1, i1⟩ := i1
    have g1 := g0.new h.some n1 i1 sm1
    have h1 := h.same sm1
    walk_at "go"
    refine j_New h1 (by decide +kernel) rfl (by decide) fun H2 h2 p2 => ?_
    replace h2 : Ins H2 p c.to ["from_patient"] [V.ref t1] := h2
    have g2 := g1.put hp0 p2
    walk_at "go"
    refine j_New h2 (by decide +kernel) rfl (by decide) fun H3 h3 p3 => ?_
    replace h3 : Ins H3 p c.to ["from_patient", "bag_water"] [V.ref t1, V.int 0] := h3
    have g3 := g2.put hp0 p3
    walk_at "go"
    refine j_New h3 (by decide +kernel) rfl (by decide) fun H4 h4 p4 => ?_
    replace h4 : Ins H4 p c.to ["from_patient", "bag_water", "air_in"] [V.ref t1, V.int 0, V.int 0] := h4
    have g4 := g3.put hp0 p4
    walk_at "go"
    refine mk_am (d := {}) rfl fun t2 H5 n5 i5 sm5 => ?_
    obtain ⟨d5, i5⟩ := i5
    have g5 := g4.new h4.some n5 i5 sm5
    have h5 := h4.same sm5
    walk_at "go"
    refine j_New h5 (by decide +kernel) rfl (by decide) fun H6 h6 p6 => ?_
    replace h6 : Ins H6 p c.to ["from_patient", "bag_water", "air_in", "given_back"] [V.ref t1, V.int 0, V.int 0, V.ref t2] := h6
    have g6 := g5.put hp0 p6
    walk_at "go"
    refine mk_am (d := {}) rfl fun t3 H7 n7 i7 sm7 => ?_
    obtain ⟨d7, i7⟩ := i7
    have g7 := g6.new h6.some n7 i7 sm7
    have h7 := h6.same sm7
    walk_at "go"
    refine j_New h7 (by decide +kernel) rfl (by decide) fun H8 h8 p8 => ?_
    replace h8 : Ins H8 p c.to ["from_patient", "bag_water", "air_in", "given_back", "spilt"] [V.ref t1, V.int 0, V.int 0, V.ref t2, V.ref t3] := h8
    have g8 := g7.put hp0 p8
    walk_at "go"
    refine mk_am (d := {}) rfl fun t4 H9 n9 i9 sm9 => ?_
    obtain ⟨d9, i9⟩ := i9
    have g9 := g8.new h8.some n9 i9 sm9
    have h9 := h8.same sm9
    walk_at "go"
    refine j_New h9 (by decide +kernel) rfl (by decide) fun H10 h10 p10 => ?_
    replace h10 : Ins H10 p c.to ["from_patient", "bag_water", "air_in", "given_back", "spilt", "drained"] [V.ref t1, V.int 0, V.int 0, V.ref t2, V.ref t3, V.ref t4] := h10
    have g10 := g9.put hp0 p10
    walk_at "go"
    refine mk_am (d := {}) rfl fun t5 H11 n11 i11 sm11 => ?_
    obtain ⟨d11, i11⟩ := i11
    have g11 := g10.new h10.some n11 i11 sm11
    have h11 := h10.same sm11
    walk_at "go"
    refine j_New h11 (by decide +kernel) rfl (by decide) fun H12 h12 p12 => ?_
    replace h12 : Ins H12 p c.to ["from_patient", "bag_water", "air_in", "given_back", "spilt", "drained", "thrown_away"] [V.ref t1, V.int 0, V.int 0, V.ref t2, V.ref t3, V.ref t4, V.ref t5] := h12
    have g12 := g11.put hp0 p12
    walk_at "go"
    refine j_New h12 (by decide +kernel) rfl (by decide) fun H13 h13 p13 => ?_
    replace h13 : Ins H13 p c.to ["from_patient", "bag_water", "air_in", "given_back", "spilt", "drained", "thrown_away", "dialysed"] [V.ref t1, V.int 0, V.int 0, V.ref t2, V.ref t3, V.ref t4, V.ref t5, V.int 0] := h13
    have g13 := g12.put hp0 p13
    walk_at "go"
    refine j_New h13 (by decide +kernel) rfl (by decide) fun H14 h14 p14 => ?_
    replace h14 : Ins H14 p c.to ["from_patient", "bag_water", "air_in", "given_back", "spilt", "drained", "thrown_away", "dialysed", "vented"] [V.ref t1, V.int 0, V.int 0, V.ref t2, V.ref t3, V.ref t4, V.ref t5, V.int 0, V.int 0] := h14
    have g14 := g13.put hp0 p14
    walk_at "go"
    refine j_New h14 (by decide +kernel) rfl (by decide) fun H15 h15 p15 => ?_
    replace h15 : Ins H15 p c.to ["from_patient", "bag_water", "air_in", "given_back", "spilt", "drained", "thrown_away", "dialysed", "vented", "moves"] [V.ref t1, V.int 0, V.int 0, V.ref t2, V.ref t3, V.ref t4, V.ref t5, V.int 0, V.int 0, V.int 0] := h15
    have g15 := g14.put hp0 p15
    walk_at "go"
    refine j_New h15 (by decide +kernel) rfl (by decide) fun H16 h16 p16 => ?_
    replace h16 : Ins H16 p c.to ["from_patient", "bag_water", "air_in", "given_back", "spilt", "drained", "thrown_away", "dialysed", "vented", "moves", "lines"] [V.ref t1, V.int 0, V.int 0, V.ref t2, V.ref t3, V.ref t4, V.ref t5, V.int 0, V.int 0, V.int 0, V.int 0] := h16
    have g16 := g15.put hp0 p16
    have nd := g16.nd
    refine k t1 t2 t3 t4 t5 H16 h16 (fun t ht => ?_) ?_ g16.old
    · simp only [List.not_mem_nil, List.mem_cons, or_false] at ht
      rcases ht with rfl | rfl | rfl | rfl | rfl
      · exact ⟨⟨_, (g16.at_ _ (.tail _ (.tail _ (.tail _ (.tail _ (.head _)))))).1⟩, (g16.at_ _ (.tail _ (.tail _ (.tail _ (.tail _ (.head _)))))).2⟩
      · exact ⟨⟨_, (g16.at_ _ (.tail _ (.tail _ (.tail _ (.head _))))).1⟩, (g16.at_ _ (.tail _ (.tail _ (.tail _ (.head _))))).2⟩
      · exact ⟨⟨_, (g16.at_ _ (.tail _ (.tail _ (.head _)))).1⟩, (g16.at_ _ (.tail _ (.tail _ (.head _)))).2⟩
      · exact ⟨⟨_, (g16.at_ _ (.tail _ (.head _))).1⟩, (g16.at_ _ (.tail _ (.head _))).2⟩
      · exact ⟨⟨_, (g16.at_ _ (.head _)).1⟩, (g16.at_ _ (.head _)).2⟩
    · exact (List.reverse_perm _).nodup_iff.mp nd
theorem mk_to {H : Hp} {Q : VK} (k : ∀ p t1 t2 t3 t4 t5 H', H p = none → Ins H' p c.to tK (t0 t1 t2 t3 t4 t5) → (∀ t, t ∈ [t1, t2, t3, t4, t5] → Ins H' t c.am aK (av {}) ∧ H t = none) → [p, t1, t2, t3, t4, t5].Nodup → Same H H' → Q (.ref p) H') : Make1 c.to (spTo c) [] H Q := by
  intro p dx np nd ne
  refine ⟨p, rfl, ⟨dx, upd_same⟩, fun t1 t2 t3 t4 t5 H' hi ht hnd old => ⟨rfl, k p t1 t2 t3 t4 t5 H' np hi (fun t h => ⟨(ht t h).1, ?_⟩) ?_ fun b o eb => ?_⟩⟩
  · have q := (ht t h).2
    have n1 : t ≠ p := fun z => by rw [z, upd_same] at q; cases q
    rw [upd_ne n1] at q
    have n2 : t ≠ dx := fun z => by rw [z, upd_same] at q; cases q
    rw [upd_ne n2] at q
    exact q
  · refine List.nodup_cons.mpr ⟨fun h => ?_, hnd⟩
    have q := (ht p h).2
    rw [upd_same] at q
    cases q
  · refine old b o ?_ (ne_of_none eb np)
    rw [upd_ne (ne_of_none eb np), upd_ne (ne_of_none eb nd)]
    exact eb
def spMa (c : Cl) : Sp := fun vs H Q _ => ∃ p : Addr, vs = [.ref p] ∧ Ins H p c.ma [] [] ∧ ∀ A H', A.m = p → At c H' A Vbdlae.start → (∀ b o, H b = some o → b ≠ p → H' b = some o ∧ b ∉ foot A) → Q .non H'
abbrev st_Machine__init_ : Stmt := inClass (top 18) 0
theorem sc_Machine__init_ : FnScope ["self"] ["self"] (defScope st_Machine__init_) := ⟨rfl, rfl, rfl, by decide +kernel, rfl, by decide +kernel, by decide +kernel⟩

theorem ok_Machine (D : MakeAt K mg c.ma "Machine" "Machine.__init__" st_Machine__init_ ["self"]) (T : Txt K mg c) (G_Totals : MakeOk P w K mg base c.to 3 "Totals" ["self"] (spTo c)) : MakeOk P w K mg base c.ma 5 "Machine" ["self"] (spMa c) := by
  refine D.ok sc_Machine__init_ (fun vs H Q E h => ?_) (fun f cdv Ar outer s0 H vs Q E hr h => ?_)
  · obtain ⟨p, rfl, _⟩ := h
    rfl
  · obtain ⟨p, rfl, h, k⟩ := h
    have g0 : Gr H H p [] := Gr.start
    have hp0 : ∃ o, H p = some o := h.some
    refine ⟨_, (pss_cons (ps_n T.cma (by decide +kernel) (pv 0) pe_non) (pss_cons (ps_n T.cma (by decide +kernel) (pv 0) (pe_lst pa_nil)) (pss_cons (ps_n T.cma (by decide +kernel) (pv 0) pe_int) (pss_cons (ps_n T.cma (by decide +kernel) (pv 0) pe_int) (pss_cons (ps_n T.cma (by decide +kernel) (pv 0) pe_int) (pss_cons (ps_n T.cma (by decide +kernel) (pv 0) pe_int) (pss_cons (ps_n T.cma (by decide +kernel) (pv 0) pe_int) (pss_cons (ps_n T.cma (by decide +kernel) (pv 0) pe_int) (pss_cons (ps_n T.cma (by decide +kernel) (pv 0) (pe_lst (pa_cons pe_non (pa_cons pe_non pa_nil star_Constant) star_Constant))) (pss_cons (ps_n T.cma (by decide +kernel) (pv 0) pe_bl) (pss_cons (ps_n T.cma (by decide +kernel) (pv 0) pe_bl) (pss_cons (ps_n T.cma (by decide +kernel) (pv 0) (pe_lst pa_nil)) (pss_cons (ps_n T.cma (by decide +kernel) (pv 0) pe_int) (pss_cons (ps_n T.cma (by decide +kernel) (pv 0) pe_int) (pss_cons (ps_n T.cma (by decide +kernel) (pv 0) pe_int) (pss_cons (ps_n T.cma (by decide +kernel) (pv 0) pe_non) (pss_cons (ps_n T.cma (by decide +kernel) (pv 0) pe_non) (pss_cons (ps_n T.cma (by decide +kernel) (pv 0) pe_int) (pss_cons (ps_n T.cma (by decide +kernel) (pv 0) pe_int) (pss_cons (ps_n T.cma (by decide +kernel) (pv 0) (pe_op op_rep (pe_lst (pa_cons pe_bl pa_nil star_Constant)) pe_int)) (pss_one (ps_n T.cma (by decide +kernel) (pv 0) (pe_new0 G_Totals hr (by decide)))))))))))))))))))))))), ?_⟩
    walk_at "go"
    refine j_New h (by decide +kernel) rfl (by decide) fun H1 h1 p1 => ?_
    replace h1 : Ins H1 p c.ma ["settings"] [V.non] := h1
    have g1 := g0.put hp0 p1
    walk_at "go"
    refine ⟨by decide, fun cl n2 => ?_⟩
    have g2 := g1.new h1.some n2 (upd_same (o := .lst [])) (same_new n2)
    have h2 := h1.same (same_new (o := .lst []) n2)
    generalize upd _ cl (.lst []) = H2 at g2 h2 ⊢
    walk_at "go"
    refine j_New h2 (by decide +kernel) rfl (by decide) fun H3 h3 p3 => ?_
    replace h3 : Ins H3 p c.ma ["settings", "cells"] [V.non, V.ref cl] := h3
    have g3 := g2.put hp0 p3
    walk_at "go"
    refine j_New h3 (by decide +kernel) rfl (by decide) fun H4 h4 p4 => ?_
    replace h4 : Ins H4 p c.ma ["settings", "cells", "source"] [V.non, V.ref cl, V.int 0] := h4
    have g4 := g3.put hp0 p4
    walk_at "go"
    refine j_New h4 (by decide +kernel) rfl (by decide) fun H5 h5 p5 => ?_
    replace h5 : Ins H5 p c.ma ["settings", "cells", "source", "h"] [V.non, V.ref cl, V.int 0, V.int 0] := h5
    have g5 := g4.put hp0 p5
    walk_at "go"
    refine j_New h5 (by decide +kernel) rfl (by decide) fun H6 h6 p6 => ?_
    replace h6 : Ins H6 p c.ma ["settings", "cells", "source", "h", "bag"] [V.non, V.ref cl, V.int 0, V.int 0, V.int 0] := h6
    have g6 := g5.put hp0 p6
    walk_at "go"
    refine j_New h6 (by decide +kernel) rfl (by decide) fun H7 h7 p7 => ?_
    replace h7 : Ins H7 p c.ma ["settings", "cells", "source", "h", "bag", "sink"] [V.non, V.ref cl, V.int 0, V.int 0, V.int 0, V.int 0] := h7
    have g7 := g6.put hp0 p7
    walk_at "go"
    refine j_New h7 (by decide +kernel) rfl (by decide) fun H8 h8 p8 => ?_
    replace h8 : Ins H8 p c.ma ["settings", "cells", "source", "h", "bag", "sink", "u"] [V.non, V.ref cl, V.int 0, V.int 0, V.int 0, V.int 0, V.int 0] := h8
    have g8 := g7.put hp0 p8
    walk_at "go"
    refine j_New h8 (by decide +kernel) rfl (by decide) fun H9 h9 p9 => ?_
    replace h9 : Ins H9 p c.ma ["settings", "cells", "source", "h", "bag", "sink", "u", "caught"] [V.non, V.ref cl, V.int 0, V.int 0, V.int 0, V.int 0, V.int 0, V.int 0] := h9
    have g9 := g8.put hp0 p9
    walk_at "go"
    refine ⟨by decide, fun sk n10 => ?_⟩
    have g10 := g9.new h9.some n10 (upd_same (o := .lst [V.non, V.non])) (same_new n10)
    have h10 := h9.same (same_new (o := .lst [V.non, V.non]) n10)
    generalize upd _ sk (.lst [V.non, V.non]) = H10 at g10 h10 ⊢
    walk_at "go"
    refine j_New h10 (by decide +kernel) rfl (by decide) fun H11 h11 p11 => ?_
    replace h11 : Ins H11 p c.ma ["settings", "cells", "source", "h", "bag", "sink", "u", "caught", "stuck"] [V.non, V.ref cl, V.int 0, V.int 0, V.int 0, V.int 0, V.int 0, V.int 0, V.ref sk] := h11
    have g11 := g10.put hp0 p11
    walk_at "go"
    refine j_New h11 (by decide +kernel) rfl (by decide) fun H12 h12 p12 => ?_
    replace h12 : Ins H12 p c.ma ["settings", "cells", "source", "h", "bag", "sink", "u", "caught", "stuck", "artery_slipped"] [V.non, V.ref cl, V.int 0, V.int 0, V.int 0, V.int 0, V.int 0, V.int 0, V.ref sk, V.bl false] := h12
    have g12 := g11.put hp0 p12
    walk_at "go"
    refine j_New h12 (by decide +kernel) rfl (by decide) fun H13 h13 p13 => ?_
    replace h13 : Ins H13 p c.ma ["settings", "cells", "source", "h", "bag", "sink", "u", "caught", "stuck", "artery_slipped", "vein_slipped"] [V.non, V.ref cl, V.int 0, V.int 0, V.int 0, V.int 0, V.int 0, V.int 0, V.ref sk, V.bl false, V.bl false] := h13
    have g13 := g12.put hp0 p13
    walk_at "go"
    refine ⟨by decide, fun rd n14 => ?_⟩
    have g14 := g13.new h13.some n14 (upd_same (o := .lst [])) (same_new n14)
    have h14 := h13.same (same_new (o := .lst []) n14)
    generalize upd _ rd (.lst []) = H14 at g14 h14 ⊢
    walk_at "go"
    refine j_New h14 (by decide +kernel) rfl (by decide) fun H15 h15 p15 => ?_
    replace h15 : Ins H15 p c.ma ["settings", "cells", "source", "h", "bag", "sink", "u", "caught", "stuck", "artery_slipped", "vein_slipped", "readings"] [V.non, V.ref cl, V.int 0, V.int 0, V.int 0, V.int 0, V.int 0, V.int 0, V.ref sk, V.bl false, V.bl false, V.ref rd] := h15
    have g15 := g14.put hp0 p15
    walk_at "go"
    refine j_New h15 (by decide +kernel) rfl (by decide) fun H16 h16 p16 => ?_
    replace h16 : Ins H16 p c.ma ["settings", "cells", "source", "h", "bag", "sink", "u", "caught", "stuck", "artery_slipped", "vein_slipped", "readings", "clean"] [V.non, V.ref cl, V.int 0, V.int 0, V.int 0, V.int 0, V.int 0, V.int 0, V.ref sk, V.bl false, V.bl false, V.ref rd, V.int 0] := h16
    have g16 := g15.put hp0 p16
    walk_at "go"
    refine j_New h16 (by decide +kernel) rfl (by decide) fun H17 h17 p17 => ?_
    replace h17 : Ins H17 p c.ma ["settings", "cells", "source", "h", "bag", "sink", "u", "caught", "stuck", "artery_slipped", "vein_slipped", "readings", "clean", "unlike"] [V.non, V.ref cl, V.int 0, V.int 0, V.int 0, V.int 0, V.int 0, V.int 0, V.ref sk, V.bl false, V.bl false, V.ref rd, V.int 0, V.int 0] := h17
    have g17 := g16.put hp0 p17
    walk_at "go"
    refine j_New h17 (by decide +kernel) rfl (by decide) fun H18 h18 p18 => ?_
    replace h18 : Ins H18 p c.ma ["settings", "cells", "source", "h", "bag", "sink", "u", "caught", "stuck", "artery_slipped", "vein_slipped", "readings", "clean", "unlike", "streak"] [V.non, V.ref cl, V.int 0, V.int 0, V.int 0, V.int 0, V.int 0, V.int 0, V.ref sk, V.bl false, V.bl false, V.ref rd, V.int 0, V.int 0, V.int 0] := h18
    have g18 := g17.put hp0 p18
    walk_at "go"
    refine j_New h18 (by decide +kernel) rfl (by decide) fun H19 h19 p19 => ?_
    replace h19 : Ins H19 p c.ma ["settings", "cells", "source", "h", "bag", "sink", "u", "caught", "stuck", "artery_slipped", "vein_slipped", "readings", "clean", "unlike", "streak", "pressures"] [V.non, V.ref cl, V.int 0, V.int 0, V.int 0, V.int 0, V.int 0, V.int 0, V.ref sk, V.bl false, V.bl false, V.ref rd, V.int 0, V.int 0, V.int 0, V.non] := h19
    have g19 := g18.put hp0 p19
    walk_at "go"
    refine j_New h19 (by decide +kernel) rfl (by decide) fun H20 h20 p20 => ?_
    replace h20 : Ins H20 p c.ma ["settings", "cells", "source", "h", "bag", "sink", "u", "caught", "stuck", "artery_slipped", "vein_slipped", "readings", "clean", "unlike", "streak", "pressures", "centre"] [V.non, V.ref cl, V.int 0, V.int 0, V.int 0, V.int 0, V.int 0, V.int 0, V.ref sk, V.bl false, V.bl false, V.ref rd, V.int 0, V.int 0, V.int 0, V.non, V.non] := h20
    have g20 := g19.put hp0 p20
    walk_at "go"
    refine j_New h20 (by decide +kernel) rfl (by decide) fun H21 h21 p21 => ?_
    replace h21 : Ins H21 p c.ma ["settings", "cells", "source", "h", "bag", "sink", "u", "caught", "stuck", "artery_slipped", "vein_slipped", "readings", "clean", "unlike", "streak", "pressures", "centre", "uncentred"] [V.non, V.ref cl, V.int 0, V.int 0, V.int 0, V.int 0, V.int 0, V.int 0, V.ref sk, V.bl false, V.bl false, V.ref rd, V.int 0, V.int 0, V.int 0, V.non, V.non, V.int 0] := h21
    have g21 := g20.put hp0 p21
    walk_at "go"
    refine j_New h21 (by decide +kernel) rfl (by decide) fun H22 h22 p22 => ?_
    replace h22 : Ins H22 p c.ma ["settings", "cells", "source", "h", "bag", "sink", "u", "caught", "stuck", "artery_slipped", "vein_slipped", "readings", "clean", "unlike", "streak", "pressures", "centre", "uncentred", "still"] [V.non, V.ref cl, V.int 0, V.int 0, V.int 0, V.int 0, V.int 0, V.int 0, V.ref sk, V.bl false, V.bl false, V.ref rd, V.int 0, V.int 0, V.int 0, V.non, V.non, V.int 0, V.int 0] := h22
    have g22 := g21.put hp0 p22
    walk_at "go"
    refine ⟨by decide, fun tm n23 => ?_⟩
    have g23 := g22.new h22.some n23 (upd_same (o := .lst [V.bl false])) (same_new n23)
    have h23 := h22.same (same_new (o := .lst [V.bl false]) n23)
    have tm23 := upd_same (H := H22) (a := tm) (o := .lst [V.bl false])
    generalize upd _ tm (.lst [V.bl false]) = H23 at g23 h23 tm23 ⊢
    walk_at "go"
    refine ⟨tm, 8, [V.bl false], rfl, rfl, tm23, by decide, by decide, by show 1 * 8 ≤ sizeLine; decide, fun lt n24 => ?_⟩
    have g24 := g23.new h23.some n24 (upd_same (o := .lst (List.replicate (8 : Int).toNat [V.bl false]).flatten)) (same_new n24)
    have h24 := h23.same (same_new (o := .lst (List.replicate (8 : Int).toNat [V.bl false]).flatten) n24)
    generalize upd _ lt (.lst (List.replicate (8 : Int).toNat [V.bl false]).flatten) = H24 at g24 h24 ⊢
    walk_at "go"
    refine j_New h24 (by decide +kernel) rfl (by decide) fun H25 h25 p25 => ?_
    replace h25 : Ins H25 p c.ma ["settings", "cells", "source", "h", "bag", "sink", "u", "caught", "stuck", "artery_slipped", "vein_slipped", "readings", "clean", "unlike", "streak", "pressures", "centre", "uncentred", "still", "latches"] [V.non, V.ref cl, V.int 0, V.int 0, V.int 0, V.int 0, V.int 0, V.int 0, V.ref sk, V.bl false, V.bl false, V.ref rd, V.int 0, V.int 0, V.int 0, V.non, V.non, V.int 0, V.int 0, V.ref lt] := h25
    have g25 := g24.put hp0 p25
    walk_at "go"
    refine mk_to fun to t1 t2 t3 t4 t5 H26 nto ito hts ndt sm26 => ?_
    have h26 := h25.same sm26
    walk_at "go"
    refine j_New h26 (by decide +kernel) rfl (by decide) fun H27 h27 p27 => ?_
    replace h27 : Ins H27 p c.ma ["settings", "cells", "source", "h", "bag", "sink", "u", "caught", "stuck", "artery_slipped", "vein_slipped", "readings", "clean", "unlike", "streak", "pressures", "centre", "uncentred", "still", "latches", "totals"] [V.non, V.ref cl, V.int 0, V.int 0, V.int 0, V.int 0, V.int 0, V.int 0, V.ref sk, V.bl false, V.bl false, V.ref rd, V.int 0, V.int 0, V.int 0, V.non, V.non, V.int 0, V.int 0, V.ref lt, V.ref to] := h27
    have nd := g25.nd
    simp only [List.map] at nd
    have fr : ∀ x, x ∈ [cl, sk, rd, lt] → x ≠ p ∧ x ∉ [to, t1, t2, t3, t4, t5] := fun x hx => by
      obtain ⟨o, hm⟩ : ∃ o, (x, o) ∈ [(lt, HO.lst (List.replicate (8 : Int).toNat [V.bl false]).flatten), (tm, HO.lst [V.bl false]), (rd, HO.lst []), (sk, HO.lst [V.non, V.non]), (cl, HO.lst [])] := by
        simp only [List.not_mem_nil, List.mem_cons, or_false] at hx
        rcases hx with rfl | rfl | rfl | rfl
        · exact ⟨.lst [], by simp⟩
        · exact ⟨.lst [V.non, V.non], by simp⟩
        · exact ⟨.lst [], by simp⟩
        · exact ⟨.lst (List.replicate (8 : Int).toNat [V.bl false]).flatten, by simp⟩
      obtain ⟨z1, z2⟩ := g25.at_ _ hm
      refine ⟨fun q0 => ?_, fun q => ?_⟩
      · obtain ⟨ob, hb⟩ := hp0
        rw [q0, hb] at z2
        cases z2
      · rcases List.mem_cons.mp q with q | q
        · rw [q, nto] at z1
          cases z1
        · rw [(hts x q).2] at z1
          cases z1
    have ptn : p ∉ [to, t1, t2, t3, t4, t5] := fun q => by
      obtain ⟨ob, hb⟩ := h25.some
      rcases List.mem_cons.mp q with q | q
      · rw [q, nto] at hb
        cases hb
      · rw [(hts p q).2] at hb
        cases hb
    have hcl := g25.at_ (cl, HO.lst []) (by simp)
    have hsk := g25.at_ (sk, HO.lst [V.non, V.non]) (by simp)
    have hrd := g25.at_ (rd, HO.lst []) (by simp)
    have hlt := g25.at_ (lt, HO.lst (List.replicate (8 : Int).toNat [V.bl false]).flatten) (by simp)
    have fcl := fr cl (by simp)
    have fsk := fr sk (by simp)
    have frd := fr rd (by simp)
    have flt := fr lt (by simp)
    have up : ∀ x o, H25 x = some o → x ≠ p → H27 x = some o := fun x o hx n => p27.eq n (sm26 _ _ hx)
    have tt : ∀ t, t ∈ [t1, t2, t3, t4, t5] → Ins H27 t c.am aK (av {}) := fun t h => (hts t h).1.put p27 (fun z => ptn (z ▸ List.mem_cons_of_mem _ h))
    refine k ⟨p, to, cl, sk, rd, lt, t1, t2, t3, t4, t5, [], 0, .non, .non⟩ H27 rfl ⟨h27, ito.put p27 (fun z => ptn (z ▸ List.mem_cons_self)), up _ _ hcl.1 fcl.1, up _ _ hsk.1 fsk.1, up _ _ hrd.1 frd.1, up _ _ hlt.1 flt.1,
      tt t1 (by simp), tt t2 (by simp), tt t3 (by simp), tt t4 (by simp), tt t5 (by simp), ⟨rfl, fun j b x hb => by simp at hb⟩, fun g hg => (by cases hg), rfl, rfl, ?_⟩ fun b o hb nb => ?_
    · show [p, to, cl, sk, rd, lt, t1, t2, t3, t4, t5].Nodup
      have f1 := fcl.2
      have f2 := fsk.2
      have f3 := frd.2
      have f4 := flt.2
      have e1 := fcl.1
      have e2 := fsk.1
      have e3 := frd.1
      have e4 := flt.1
      simp only [List.nodup_cons, List.mem_cons, List.not_mem_nil, not_or, or_false, not_false_eq_true, List.nodup_nil, and_true] at f1 f2 f3 f4 ptn nd ndt ⊢
      grind
    · have hb25 := g25.old b o hb nb
      refine ⟨up _ _ hb25 nb, fun hm => ?_⟩
      unfold foot at hm
      simp only [List.not_mem_nil, List.mem_cons, or_false] at hm
      rcases hm with z | z | z | z | z | z | z | z | z | z | z
      · exact nb z
      · rw [z, nto] at hb25; cases hb25
      · rw [z, hcl.2] at hb; cases hb
      · rw [z, hsk.2] at hb; cases hb
      · rw [z, hrd.2] at hb; cases hb
      · rw [z, hlt.2] at hb; cases hb
      · rw [z, (hts t1 (by simp)).2] at hb25; cases hb25
      · rw [z, (hts t2 (by simp)).2] at hb25; cases hb25
      · rw [z, (hts t3 (by simp)).2] at hb25; cases hb25
      · rw [z, (hts t4 (by simp)).2] at hb25; cases hb25
      · rw [z, (hts t5 (by simp)).2] at hb25; cases hb25
theorem mk_ma {H : Hp} {Q : VK} (k : ∀ A H', At c H' A Vbdlae.start → (∀ b o, H b = some o → H' b = some o ∧ b ∉ foot A) → Q (.ref A.m) H') : Make1 c.ma (spMa c) [] H Q := by
  intro p dx np nd ne
  refine ⟨p, rfl, ⟨dx, upd_same⟩, fun A H' em a old => ⟨rfl, ?_⟩⟩
  rw [← em]
  refine k A H' a fun b o eb => old b o ?_ (ne_of_none eb np)
  rw [upd_ne (ne_of_none eb np), upd_ne (ne_of_none eb nd)]
  exact eb
end

section
variable {P : Program} {w : World} {K : PySem.W.Frag} {mg : Str → Option Value} {base : Heap} {c : Cl}
/-! ### answers -/
/-- the list of calls stays as it was -/
def KeepC (K : PySem.W.Frag) (ca gv : Addr) (xs : List V) (H : Hp) (A : Ad) : Prop := (∃ o, H ca = some o ∧ ca ∉ foot A ∧ ca ≠ gv ∧ ∀ H2 : Hp, H2 ca = some o → SqL K H2 ca xs) ∨ ∀ H2 : Hp, SqL K H2 ca xs
section
variable {ca gv : Addr} {xs : List V} {H H' : Hp} {A A' : Ad}
theorem KeepC.sq (k : KeepC K ca gv xs H A) : SqL K H ca xs := by
  rcases k with ⟨o, h, _, _, f⟩ | f
  · exact f H h
  · exact f H
theorem KeepC.fr (k : KeepC K ca gv xs H A) (f : Fr H H' A A') : KeepC K ca gv xs H' A' := by
  rcases k with ⟨o, h, n, m, g⟩ | g
  · exact .inl ⟨o, (f _ _ h n).1, (f _ _ h n).2, m, g⟩
  · exact .inr g
theorem KeepC.put (k : KeepC K ca gv xs H A) {l : HO} : KeepC K ca gv xs (upd H gv l) A := by
  rcases k with ⟨o, h, n, m, g⟩ | g
  · exact .inl ⟨o, by rw [upd_ne m]; exact h, n, m, g⟩
  · exact .inr g
theorem keep_start (h : SqL K H ca xs) (old : ∀ b o, H b = some o → H' b = some o ∧ b ∉ foot A) (ng : H' gv = none) : KeepC K ca gv xs H' A := by
  have one : ∀ o, H ca = some o → (∀ H2 : Hp, H2 ca = some o → SqL K H2 ca xs) → KeepC K ca gv xs H' A := fun o e f => .inl ⟨o, (old _ _ e).1, (old _ _ e).2, ne_of_none (old _ _ e).1 ng, f⟩
  rcases h with (h | ⟨o, h⟩) | h
  · exact one _ h fun H2 q => .inl (.inl q)
  · exact one _ h fun H2 q => .inl (.inr ⟨o, q⟩)
  · exact .inr fun H2 => .inr h
end
theorem cut_mid {xs : List V} {i j : Nat} (hj : j ≤ xs.length) (hi : i ≤ j) : cutV xs (some (i : Int)) (some (j : Int)) = (xs.drop i).take (j - i) := by
  unfold cutV
  rw [HT.sIx_nat, HT.sIx_nat, Nat.min_eq_left hj, Nat.min_eq_left (Nat.le_trans hi hj)]
def spAns (K : PySem.W.Frag) : Sp := fun vs H Q _ => ∃ (a : Addr) (ns : List Int), vs = [.ref a] ∧ SqL K H a (ns.map V.int) ∧ PyVbdlae.answers_asked ns = true ∧ ∀ (H' : Hp) (p : Addr), H' p = some (.lst ((PyVbdlae.answers ns).map V.int)) → Q (.ref p) H'
abbrev st_answers : Stmt := top 80
theorem sc_answers : FnScope ["calls", "machine", "given", "at", "place", "end", "answer"] ["calls"] (defScope st_answers) := ⟨rfl, rfl, rfl, by decide +kernel, rfl, by decide +kernel, by decide +kernel⟩

theorem ok_answers {fa : Addr} {fd : FuncData} (D : Fun K "answers" "answers" st_answers fa fd) (T : Txt K mg c) (G_Machine : MakeOk P w K mg base c.ma 5 "Machine" ["self"] (spMa c)) (G_how_many_arguments : DefOk P w K mg base 1 "how_many_arguments" ["place"] (spMany c)) (G_answer_call : DefOk P w K mg base 8 "answer_call" ["machine", "place", "arguments"] (spCall c)) : FnOk P w K mg base CX0 9 fa fd ["calls"] (spAns K) := by
  refine D.ok sc_answers (fun vs H Q E h => ?_) (fun cdv Ar outer s0 H vs Q E hr h => ?_)
  · obtain ⟨a, ns, rfl, _⟩ := h
    rfl
  · obtain ⟨ca, ns, rfl, hS, hask, k⟩ := h
    refine ⟨_, (pss_cons (ps_set (i := 1) sc_answers.nd rfl (Or.inl rfl) (pe_new0 G_Machine hr (by decide))) (pss_cons (ps_set (i := 2) sc_answers.nd rfl (Or.inl rfl) (pe_lst pa_nil)) (pss_cons (ps_set (i := 3) sc_answers.nd rfl (Or.inl rfl) pe_int) (pss_cons (ps_while PassesOwn.never (pt_cmpR op_lt (pv 3) (pe_len1 T.b_len (ha := (pa_cons (pv 0) pa_nil star_Name))) (nomark _)) (pss_cons (ps_set (i := 4) sc_answers.nd rfl (Or.inl rfl) (pe_ix ix_list (pv 0) (pv 3) (fun _ _ => rfl))) (pss_cons (ps_set (i := 5) sc_answers.nd rfl (Or.inl rfl) (pe_op op_add (pe_op op_add (pv 3) pe_int) (pe_def G_how_many_arguments hr (by decide) (pa_cons (pv 4) pa_nil star_Name)))) (pss_cons (ps_set (i := 6) sc_answers.nd rfl (Or.inl rfl) (pe_def G_answer_call hr (by decide) (pa_cons (pv 1) (pa_cons (pv 4) (pa_cons (pe_slice sl_list (pv 0) (po_some (pe_op op_add (pv 3) pe_int)) (po_some (pv 5))) pa_nil star_Subscript) star_Name) star_Name))) (pss_cons (ps_expr (pe_bm PySem.F.plainAttrs_list PySem.F.slot_list_append PySem.F.type_list_append mt_append (pv 2) (pa_cons (pe_len1 T.b_len (ha := (pa_cons (pv 6) pa_nil star_Name))) pa_nil star_Call))) (pss_cons (ps_expr (pe_bm PySem.F.plainAttrs_list PySem.F.slot_list_extend PySem.F.type_list_extend mt_extend (pv 2) (pa_cons (pv 6) pa_nil star_Name))) (pss_one (ps_set (i := 3) sc_answers.nd rfl (Or.inl rfl) (pv 5))))))))) (pss_one (ps_ret (pv 2))))))), ?_⟩
    walk_at "go"
    refine mk_ma fun A H1 a1 old => ?_
    walk_at "go"
    refine ⟨by show 0 ≤ sizeLine; decide, fun gv ngv => ?_⟩
    have e2 := same_new (o := .lst []) ngv
    have kc : KeepC K ca gv (ns.map V.int) (upd H1 gv (.lst [])) A := (keep_start hS old ngv).put
    walk_at "go"
    refine ⟨fun m σ H' => ∃ (A : Ad) (s : VSt) (given : List Int) (i : Nat) (v4 v5 v6 : Option V), σ = [some (.ref ca), some (.ref A.m), some (.ref gv), some (.int (i : Int)), v4, v5, v6] ∧ At c H' A s ∧ KeepC K ca gv (ns.map V.int) H' A ∧ H' gv = some (.lst (given.map V.int)) ∧ gv ∉ foot A ∧ Far ns i s given ∧ m = ns.length - i,
      ⟨_, A, Vbdlae.start, [], 0, none, none, none, rfl, a1.same e2, kc, upd_same, a1.fresh ngv, Far.start hask, rfl⟩, ?_⟩
    clear kc e2 old a1 ngv A H1
    rintro m σ H' ⟨A, s, given, i, v4, v5, v6, rfl, a, kc, hgv, ngv, far, rfl⟩
    walk_at "go"
    refine ⟨ca, _, rfl, .inl kc.sq, ?_⟩
    rw [List.length_map]
    walk_at "go"
    rw [lt_nat]
    by_cases h5 : i < ns.length
    · rw [decide_eq_true h5]
      refine iteT ?_
      obtain ⟨p, args, hp, h0, h17, hl, hle, ea, hlen, far2⟩ := far.turn h5
      refine ⟨fun σ' H2 => ∃ m', m' < ns.length - i ∧ ∃ (A : Ad) (s : VSt) (given : List Int) (i : Nat) (v4 v5 v6 : Option V), σ' = [some (.ref ca), some (.ref A.m), some (.ref gv), some (.int (i : Int)), v4, v5, v6] ∧ At c H2 A s ∧ KeepC K ca gv (ns.map V.int) H2 A ∧ H2 gv = some (.lst (given.map V.int)) ∧ gv ∉ foot A ∧ Far ns i s given ∧ m' = ns.length - i,
        fun σ' H2 z => z, ?_⟩
      walk_at "go"
      refine i_ixL kc.sq (atI_nat (at_map hp)) ?_
      walk_at "go"
      refine ⟨p, rfl, h0, h17, ?_⟩
      walk_at "go"
      refine i_slL kc.sq fun q nq => ?_
      have ec : cutV (ns.map V.int) (some ((i : Int) + 1)) (some ((i : Int) + 1 + (nOf p : Int))) = args.map V.int := by
        rw [show (i : Int) + 1 + (nOf p : Int) = ((i + 1 + nOf p : Nat) : Int) from rfl, show (i : Int) + 1 = ((i + 1 : Nat) : Int) from rfl, cut_mid (by rw [List.length_map]; exact hle) (by omega), ea, List.map_take, List.map_drop]
        rw [show i + 1 + nOf p - (i + 1) = nOf p by omega]
      rw [ec]
      have e2 := same_new (o := .lst (args.map V.int)) nq
      have a2 := a.same e2
      have f2 : Fr H' (upd H' q (.lst (args.map V.int))) A A := Same.fr e2
      have kc2 := kc.fr f2
      have hgv2 := e2 _ _ hgv
      have hq2 : upd H' q (.lst (args.map V.int)) q = some (.lst (args.map V.int)) := upd_same
      have nqf := a.fresh nq
      generalize upd H' q (.lst (args.map V.int)) = H2 at a2 kc2 hgv2 hq2 ⊢
      walk_at "go"
      refine ⟨A, s, q, p, args, rfl, a2, far.gd, hq2, nqf, h0, h17, hl, fun A3 H3 r o => ?_⟩
      have kc3 := kc2.fr o.fr
      obtain ⟨hgv3, ngv3⟩ := o.fr _ _ hgv2 ngv
      have nrg : r ≠ gv := (o.ne _ _ hgv2 ngv).symm
      have hr3 := o.lst
      have a3 := o.at_
      have em3 := o.m
      generalize hans : (Vbdlae.does s (p :: args)).2 = ans at hr3 far2
      have hal : ans.length ≤ 102 := by rw [← hans]; exact (gd_does far.gd).2
      walk_at "go"
      refine ⟨.inl ⟨rfl, _, SqL.of hgv3⟩, ?_⟩
      walk_at "go"
      refine ⟨r, _, rfl, .inl (SqL.of hr3), ?_⟩
      rw [List.length_map]
      walk_at "go"
      refine i_append hgv3 (by rw [List.length_map]; have : 50000 ≤ sizeLine := (by decide); omega) ?_
      have a4 := a3.other (ys := given.map V.int ++ [V.int (ans.length : Int)]) hgv3 ngv3
      have kc4 := kc3.put (l := .lst (given.map V.int ++ [V.int (ans.length : Int)]))
      have hr4 : upd H3 gv (.lst (given.map V.int ++ [V.int (ans.length : Int)])) r = some (.lst (ans.map V.int)) := by rw [upd_ne nrg]; exact hr3
      have hgv4 : upd H3 gv (.lst (given.map V.int ++ [V.int (ans.length : Int)])) gv = some (.lst (given.map V.int ++ [V.int (ans.length : Int)])) := upd_same
      generalize upd H3 gv (.lst (given.map V.int ++ [V.int (ans.length : Int)])) = H4 at a4 kc4 hr4 hgv4 ⊢
      walk_at "go"
      refine ⟨.inl ⟨rfl, _, SqL.of hgv4⟩, ?_⟩
      walk_at "go"
      refine i_extend hgv4 hr4 (by rw [List.length_append, List.length_map, List.length_map]; show given.length + 1 + ans.length ≤ sizeLine; have : 50000 ≤ sizeLine := (by decide); omega) ?_
      have a5 := a4.other (ys := given.map V.int ++ [V.int (ans.length : Int)] ++ ans.map V.int) hgv4 ngv3
      have kc5 := kc4.put (l := .lst (given.map V.int ++ [V.int (ans.length : Int)] ++ ans.map V.int))
      walk_at "go"
      refine ⟨ns.length - (i + 1 + nOf p), by omega, A3, _, given ++ ((ans.length : Int) :: ans), i + 1 + nOf p, _, _, _, by rw [em3]; rfl, a5, kc5, ?_, ngv3, far2, rfl⟩
      rw [upd_same, List.map_append, List.append_assoc]
      rfl
    · rw [decide_eq_false h5]
      refine iteF ?_
      walk_at "go"
      exact k H' gv (by rw [far.done h5]; exact hgv)
end
section
variable {P : Program} {w : World} {K : PySem.W.Frag} {mg : Str → Option Value} {base : Heap} {c : Cl}
/-! ### what the top has written -/
theorem at_Amounts {K : PySem.W.Frag} {h : Heap} {mg : Str → Option Value} {f : Addr} {od an : Option Addr} {sl : Array (Option Value)} {oc kV dc pm cd ct : Value} {C : Addr} (X : K.In h) (G : h.Ns mainGlobals mg) (ac : PySem.W.nsIn K mainGlobals "Amounts" = some (some (.ref C))) (mk : PySem.W.makesIn K C = true) (a : PySem.W.findIn K (.ref C) "__init__" = some (some (.ref f))) (i : PySem.W.isFn K (.ref f) = true) (kc : PySem.W.keepIn K (.ref C) = true) (l : K.lookup f = some ⟨oc, od, .func (PySem.W.fnOf "__init__" "Amounts.__init__" (defArgs st_Amounts__init_) (defBody st_Amounts__init_) (defScope st_Amounts__init_) .none kV dc pm an cd ct), sl⟩) (e : PySem.W.codeIn K cd "Amounts.__init__" = true) (k : PySem.W.keepIn K (.ref f) = true) : MakeAt K mg C "Amounts" "Amounts.__init__" st_Amounts__init_ ["self", "red", "water", "air"] :=
  ⟨f, _, fun_mk l e k, ⟨mk, a, i, kc⟩, PySem.W.mg_of X G ac, (fun_mk l e k).binds (ps := ["self", "red", "water", "air"]) fun _ _ _ _ _ _ us hl => match us, hl with | [_, _, _, _], _ => rfl⟩
theorem at_take_in {K : PySem.W.Frag} {f : Addr} {od an : Option Addr} {sl : Array (Option Value)} {oc kV dc pm cd ct : Value} {C : Addr} (a : PySem.W.findIn K (.ref C) "take_in" = some (some (.ref f))) (i : PySem.W.isFn K (.ref f) = true) (l : K.lookup f = some ⟨oc, od, .func (PySem.W.fnOf "take_in" "Amounts.take_in" (defArgs st_Amounts_take_in) (defBody st_Amounts_take_in) (defScope st_Amounts_take_in) .none kV dc pm an cd ct), sl⟩) (e : PySem.W.codeIn K cd "Amounts.take_in" = true) (k : PySem.W.keepIn K (.ref f) = true) : MethAt K C "take_in" "Amounts.take_in" st_Amounts_take_in ["self", "other"] :=
  ⟨f, _, fun_mk l e k, ⟨a, i, k⟩, (fun_mk l e k).binds (ps := ["self", "other"]) fun _ _ _ _ _ _ us hl => match us, hl with | [_, _], _ => rfl⟩
theorem at_clean_needed {K : PySem.W.Frag} {f : Addr} {od an : Option Addr} {sl : Array (Option Value)} {oc kV dc pm cd ct : Value} {C : Addr} (a : PySem.W.findIn K (.ref C) "clean_needed" = some (some (.ref f))) (i : PySem.W.isFn K (.ref f) = true) (l : K.lookup f = some ⟨oc, od, .func (PySem.W.fnOf "clean_needed" "Settings.clean_needed" (defArgs st_Settings_clean_needed) (defBody st_Settings_clean_needed) (defScope st_Settings_clean_needed) .none kV dc pm an cd ct), sl⟩) (e : PySem.W.codeIn K cd "Settings.clean_needed" = true) (k : PySem.W.keepIn K (.ref f) = true) : MethAt K C "clean_needed" "Settings.clean_needed" st_Settings_clean_needed ["self"] :=
  ⟨f, _, fun_mk l e k, ⟨a, i, k⟩, (fun_mk l e k).binds (ps := ["self"]) fun _ _ _ _ _ _ us hl => match us, hl with | [_], _ => rfl⟩
theorem at_joined {K : PySem.W.Frag} {f : Addr} {od an : Option Addr} {sl : Array (Option Value)} {oc kV dc pm cd ct : Value} {C : Addr} (a : PySem.W.findIn K (.ref C) "joined" = some (some (.ref f))) (i : PySem.W.isFn K (.ref f) = true) (l : K.lookup f = some ⟨oc, od, .func (PySem.W.fnOf "joined" "Machine.joined" (defArgs st_Machine_joined) (defBody st_Machine_joined) (defScope st_Machine_joined) .none kV dc pm an cd ct), sl⟩) (e : PySem.W.codeIn K cd "Machine.joined" = true) (k : PySem.W.keepIn K (.ref f) = true) : MethAt K C "joined" "Machine.joined" st_Machine_joined ["self"] :=
  ⟨f, _, fun_mk l e k, ⟨a, i, k⟩, (fun_mk l e k).binds (ps := ["self"]) fun _ _ _ _ _ _ us hl => match us, hl with | [_], _ => rfl⟩
theorem at_latched {K : PySem.W.Frag} {f : Addr} {od an : Option Addr} {sl : Array (Option Value)} {oc kV dc pm cd ct : Value} {C : Addr} (a : PySem.W.findIn K (.ref C) "latched" = some (some (.ref f))) (i : PySem.W.isFn K (.ref f) = true) (l : K.lookup f = some ⟨oc, od, .func (PySem.W.fnOf "latched" "Machine.latched" (defArgs st_Machine_latched) (defBody st_Machine_latched) (defScope st_Machine_latched) .none kV dc pm an cd ct), sl⟩) (e : PySem.W.codeIn K cd "Machine.latched" = true) (k : PySem.W.keepIn K (.ref f) = true) : MethAt K C "latched" "Machine.latched" st_Machine_latched ["self"] :=
  ⟨f, _, fun_mk l e k, ⟨a, i, k⟩, (fun_mk l e k).binds (ps := ["self"]) fun _ _ _ _ _ _ us hl => match us, hl with | [_], _ => rfl⟩
theorem at_held {K : PySem.W.Frag} {f : Addr} {od an : Option Addr} {sl : Array (Option Value)} {oc kV dc pm cd ct : Value} {C : Addr} (a : PySem.W.findIn K (.ref C) "held" = some (some (.ref f))) (i : PySem.W.isFn K (.ref f) = true) (l : K.lookup f = some ⟨oc, od, .func (PySem.W.fnOf "held" "Machine.held" (defArgs st_Machine_held) (defBody st_Machine_held) (defScope st_Machine_held) .none kV dc pm an cd ct), sl⟩) (e : PySem.W.codeIn K cd "Machine.held" = true) (k : PySem.W.keepIn K (.ref f) = true) : MethAt K C "held" "Machine.held" st_Machine_held ["self"] :=
  ⟨f, _, fun_mk l e k, ⟨a, i, k⟩, (fun_mk l e k).binds (ps := ["self"]) fun _ _ _ _ _ _ us hl => match us, hl with | [_], _ => rfl⟩
theorem at_raise_latch {K : PySem.W.Frag} {f : Addr} {od an : Option Addr} {sl : Array (Option Value)} {oc kV dc pm cd ct : Value} {C : Addr} (a : PySem.W.findIn K (.ref C) "raise_latch" = some (some (.ref f))) (i : PySem.W.isFn K (.ref f) = true) (l : K.lookup f = some ⟨oc, od, .func (PySem.W.fnOf "raise_latch" "Machine.raise_latch" (defArgs st_Machine_raise_latch) (defBody st_Machine_raise_latch) (defScope st_Machine_raise_latch) .none kV dc pm an cd ct), sl⟩) (e : PySem.W.codeIn K cd "Machine.raise_latch" = true) (k : PySem.W.keepIn K (.ref f) = true) : MethAt K C "raise_latch" "Machine.raise_latch" st_Machine_raise_latch ["self", "number"] :=
  ⟨f, _, fun_mk l e k, ⟨a, i, k⟩, (fun_mk l e k).binds (ps := ["self", "number"]) fun _ _ _ _ _ _ us hl => match us, hl with | [_, _], _ => rfl⟩
theorem at_latches_number {K : PySem.W.Frag} {f : Addr} {od an : Option Addr} {sl : Array (Option Value)} {oc kV dc pm cd ct : Value} {C : Addr} (a : PySem.W.findIn K (.ref C) "latches_number" = some (some (.ref f))) (i : PySem.W.isFn K (.ref f) = true) (l : K.lookup f = some ⟨oc, od, .func (PySem.W.fnOf "latches_number" "Machine.latches_number" (defArgs st_Machine_latches_number) (defBody st_Machine_latches_number) (defScope st_Machine_latches_number) .none kV dc pm an cd ct), sl⟩) (e : PySem.W.codeIn K cd "Machine.latches_number" = true) (k : PySem.W.keepIn K (.ref f) = true) : MethAt K C "latches_number" "Machine.latches_number" st_Machine_latches_number ["self"] :=
  ⟨f, _, fun_mk l e k, ⟨a, i, k⟩, (fun_mk l e k).binds (ps := ["self"]) fun _ _ _ _ _ _ us hl => match us, hl with | [_], _ => rfl⟩
theorem at_forget_centring {K : PySem.W.Frag} {f : Addr} {od an : Option Addr} {sl : Array (Option Value)} {oc kV dc pm cd ct : Value} {C : Addr} (a : PySem.W.findIn K (.ref C) "forget_centring" = some (some (.ref f))) (i : PySem.W.isFn K (.ref f) = true) (l : K.lookup f = some ⟨oc, od, .func (PySem.W.fnOf "forget_centring" "Machine.forget_centring" (defArgs st_Machine_forget_centring) (defBody st_Machine_forget_centring) (defScope st_Machine_forget_centring) .none kV dc pm an cd ct), sl⟩) (e : PySem.W.codeIn K cd "Machine.forget_centring" = true) (k : PySem.W.keepIn K (.ref f) = true) : MethAt K C "forget_centring" "Machine.forget_centring" st_Machine_forget_centring ["self"] :=
  ⟨f, _, fun_mk l e k, ⟨a, i, k⟩, (fun_mk l e k).binds (ps := ["self"]) fun _ _ _ _ _ _ us hl => match us, hl with | [_], _ => rfl⟩
theorem at_cell_of_air {K : PySem.W.Frag} {h : Heap} {mg : Str → Option Value} {f : Addr} {od an : Option Addr} {sl : Array (Option Value)} {oc kV dc pm cd ct : Value} (X : K.In h) (G : h.Ns mainGlobals mg) (a : PySem.W.nsIn K mainGlobals "cell_of_air" = some (some (.ref f))) (l : K.lookup f = some ⟨oc, od, .func (PySem.W.fnOf "cell_of_air" "cell_of_air" (defArgs st_cell_of_air) (defBody st_cell_of_air) (defScope st_cell_of_air) .none kV dc pm an cd ct), sl⟩) (e : PySem.W.codeIn K cd "cell_of_air" = true) (k : PySem.W.keepIn K (.ref f) = true) : DefAt K mg "cell_of_air" st_cell_of_air ["machine"] :=
  ⟨f, _, fun_mk l e k, PySem.W.mg_of X G a, (fun_mk l e k).binds (ps := ["machine"]) fun _ _ _ _ _ _ us hl => match us, hl with | [_], _ => rfl⟩
theorem at_cell_from_patient {K : PySem.W.Frag} {h : Heap} {mg : Str → Option Value} {f : Addr} {od an : Option Addr} {sl : Array (Option Value)} {oc kV dc pm cd ct : Value} (X : K.In h) (G : h.Ns mainGlobals mg) (a : PySem.W.nsIn K mainGlobals "cell_from_patient" = some (some (.ref f))) (l : K.lookup f = some ⟨oc, od, .func (PySem.W.fnOf "cell_from_patient" "cell_from_patient" (defArgs st_cell_from_patient) (defBody st_cell_from_patient) (defScope st_cell_from_patient) .none kV dc pm an cd ct), sl⟩) (e : PySem.W.codeIn K cd "cell_from_patient" = true) (k : PySem.W.keepIn K (.ref f) = true) : DefAt K mg "cell_from_patient" st_cell_from_patient ["machine"] :=
  ⟨f, _, fun_mk l e k, PySem.W.mg_of X G a, (fun_mk l e k).binds (ps := ["machine"]) fun _ _ _ _ _ _ us hl => match us, hl with | [_], _ => rfl⟩
theorem at_cell_from_bag {K : PySem.W.Frag} {h : Heap} {mg : Str → Option Value} {f : Addr} {od an : Option Addr} {sl : Array (Option Value)} {oc kV dc pm cd ct : Value} (X : K.In h) (G : h.Ns mainGlobals mg) (a : PySem.W.nsIn K mainGlobals "cell_from_bag" = some (some (.ref f))) (l : K.lookup f = some ⟨oc, od, .func (PySem.W.fnOf "cell_from_bag" "cell_from_bag" (defArgs st_cell_from_bag) (defBody st_cell_from_bag) (defScope st_cell_from_bag) .none kV dc pm an cd ct), sl⟩) (e : PySem.W.codeIn K cd "cell_from_bag" = true) (k : PySem.W.keepIn K (.ref f) = true) : DefAt K mg "cell_from_bag" st_cell_from_bag ["machine"] :=
  ⟨f, _, fun_mk l e k, PySem.W.mg_of X G a, (fun_mk l e k).binds (ps := ["machine"]) fun _ _ _ _ _ _ us hl => match us, hl with | [_], _ => rfl⟩
theorem at_new_cell {K : PySem.W.Frag} {h : Heap} {mg : Str → Option Value} {f : Addr} {od an : Option Addr} {sl : Array (Option Value)} {oc kV dc pm cd ct : Value} (X : K.In h) (G : h.Ns mainGlobals mg) (a : PySem.W.nsIn K mainGlobals "new_cell" = some (some (.ref f))) (l : K.lookup f = some ⟨oc, od, .func (PySem.W.fnOf "new_cell" "new_cell" (defArgs st_new_cell) (defBody st_new_cell) (defScope st_new_cell) .none kV dc pm an cd ct), sl⟩) (e : PySem.W.codeIn K cd "new_cell" = true) (k : PySem.W.keepIn K (.ref f) = true) : DefAt K mg "new_cell" st_new_cell ["machine"] :=
  ⟨f, _, fun_mk l e k, PySem.W.mg_of X G a, (fun_mk l e k).binds (ps := ["machine"]) fun _ _ _ _ _ _ us hl => match us, hl with | [_], _ => rfl⟩
theorem at_let_last_leave {K : PySem.W.Frag} {h : Heap} {mg : Str → Option Value} {f : Addr} {od an : Option Addr} {sl : Array (Option Value)} {oc kV dc pm cd ct : Value} (X : K.In h) (G : h.Ns mainGlobals mg) (a : PySem.W.nsIn K mainGlobals "let_last_leave" = some (some (.ref f))) (l : K.lookup f = some ⟨oc, od, .func (PySem.W.fnOf "let_last_leave" "let_last_leave" (defArgs st_let_last_leave) (defBody st_let_last_leave) (defScope st_let_last_leave) .none kV dc pm an cd ct), sl⟩) (e : PySem.W.codeIn K cd "let_last_leave" = true) (k : PySem.W.keepIn K (.ref f) = true) : DefAt K mg "let_last_leave" st_let_last_leave ["machine"] :=
  ⟨f, _, fun_mk l e k, PySem.W.mg_of X G a, (fun_mk l e k).binds (ps := ["machine"]) fun _ _ _ _ _ _ us hl => match us, hl with | [_], _ => rfl⟩
theorem at_dialyse {K : PySem.W.Frag} {h : Heap} {mg : Str → Option Value} {f : Addr} {od an : Option Addr} {sl : Array (Option Value)} {oc kV dc pm cd ct : Value} (X : K.In h) (G : h.Ns mainGlobals mg) (a : PySem.W.nsIn K mainGlobals "dialyse" = some (some (.ref f))) (l : K.lookup f = some ⟨oc, od, .func (PySem.W.fnOf "dialyse" "dialyse" (defArgs st_dialyse) (defBody st_dialyse) (defScope st_dialyse) .none kV dc pm an cd ct), sl⟩) (e : PySem.W.codeIn K cd "dialyse" = true) (k : PySem.W.keepIn K (.ref f) = true) : DefAt K mg "dialyse" st_dialyse ["machine"] :=
  ⟨f, _, fun_mk l e k, PySem.W.mg_of X G a, (fun_mk l e k).binds (ps := ["machine"]) fun _ _ _ _ _ _ us hl => match us, hl with | [_], _ => rfl⟩
theorem at_trap_air {K : PySem.W.Frag} {h : Heap} {mg : Str → Option Value} {f : Addr} {od an : Option Addr} {sl : Array (Option Value)} {oc kV dc pm cd ct : Value} (X : K.In h) (G : h.Ns mainGlobals mg) (a : PySem.W.nsIn K mainGlobals "trap_air" = some (some (.ref f))) (l : K.lookup f = some ⟨oc, od, .func (PySem.W.fnOf "trap_air" "trap_air" (defArgs st_trap_air) (defBody st_trap_air) (defScope st_trap_air) .none kV dc pm an cd ct), sl⟩) (e : PySem.W.codeIn K cd "trap_air" = true) (k : PySem.W.keepIn K (.ref f) = true) : DefAt K mg "trap_air" st_trap_air ["machine"] :=
  ⟨f, _, fun_mk l e k, PySem.W.mg_of X G a, (fun_mk l e k).binds (ps := ["machine"]) fun _ _ _ _ _ _ us hl => match us, hl with | [_], _ => rfl⟩
theorem at_read_channels {K : PySem.W.Frag} {h : Heap} {mg : Str → Option Value} {f : Addr} {od an : Option Addr} {sl : Array (Option Value)} {oc kV dc pm cd ct : Value} (X : K.In h) (G : h.Ns mainGlobals mg) (a : PySem.W.nsIn K mainGlobals "read_channels" = some (some (.ref f))) (l : K.lookup f = some ⟨oc, od, .func (PySem.W.fnOf "read_channels" "read_channels" (defArgs st_read_channels) (defBody st_read_channels) (defScope st_read_channels) .none kV dc pm an cd ct), sl⟩) (e : PySem.W.codeIn K cd "read_channels" = true) (k : PySem.W.keepIn K (.ref f) = true) : DefAt K mg "read_channels" st_read_channels ["machine"] :=
  ⟨f, _, fun_mk l e k, PySem.W.mg_of X G a, (fun_mk l e k).binds (ps := ["machine"]) fun _ _ _ _ _ _ us hl => match us, hl with | [_], _ => rfl⟩
theorem at_remember_reading {K : PySem.W.Frag} {h : Heap} {mg : Str → Option Value} {f : Addr} {od an : Option Addr} {sl : Array (Option Value)} {oc kV dc pm cd ct : Value} (X : K.In h) (G : h.Ns mainGlobals mg) (a : PySem.W.nsIn K mainGlobals "remember_reading" = some (some (.ref f))) (l : K.lookup f = some ⟨oc, od, .func (PySem.W.fnOf "remember_reading" "remember_reading" (defArgs st_remember_reading) (defBody st_remember_reading) (defScope st_remember_reading) .none kV dc pm an cd ct), sl⟩) (e : PySem.W.codeIn K cd "remember_reading" = true) (k : PySem.W.keepIn K (.ref f) = true) : DefAt K mg "remember_reading" st_remember_reading ["machine", "reading"] :=
  ⟨f, _, fun_mk l e k, PySem.W.mg_of X G a, (fun_mk l e k).binds (ps := ["machine", "reading"]) fun _ _ _ _ _ _ us hl => match us, hl with | [_, _], _ => rfl⟩
theorem at_judge_reading {K : PySem.W.Frag} {h : Heap} {mg : Str → Option Value} {f : Addr} {od an : Option Addr} {sl : Array (Option Value)} {oc kV dc pm cd ct : Value} (X : K.In h) (G : h.Ns mainGlobals mg) (a : PySem.W.nsIn K mainGlobals "judge_reading" = some (some (.ref f))) (l : K.lookup f = some ⟨oc, od, .func (PySem.W.fnOf "judge_reading" "judge_reading" (defArgs st_judge_reading) (defBody st_judge_reading) (defScope st_judge_reading) .none kV dc pm an cd ct), sl⟩) (e : PySem.W.codeIn K cd "judge_reading" = true) (k : PySem.W.keepIn K (.ref f) = true) : DefAt K mg "judge_reading" st_judge_reading ["machine"] :=
  ⟨f, _, fun_mk l e k, PySem.W.mg_of X G a, (fun_mk l e k).binds (ps := ["machine"]) fun _ _ _ _ _ _ us hl => match us, hl with | [_], _ => rfl⟩
theorem at_compare_channels {K : PySem.W.Frag} {h : Heap} {mg : Str → Option Value} {f : Addr} {od an : Option Addr} {sl : Array (Option Value)} {oc kV dc pm cd ct : Value} (X : K.In h) (G : h.Ns mainGlobals mg) (a : PySem.W.nsIn K mainGlobals "compare_channels" = some (some (.ref f))) (l : K.lookup f = some ⟨oc, od, .func (PySem.W.fnOf "compare_channels" "compare_channels" (defArgs st_compare_channels) (defBody st_compare_channels) (defScope st_compare_channels) .none kV dc pm an cd ct), sl⟩) (e : PySem.W.codeIn K cd "compare_channels" = true) (k : PySem.W.keepIn K (.ref f) = true) : DefAt K mg "compare_channels" st_compare_channels ["machine", "channels"] :=
  ⟨f, _, fun_mk l e k, PySem.W.mg_of X G a, (fun_mk l e k).binds (ps := ["machine", "channels"]) fun _ _ _ _ _ _ us hl => match us, hl with | [_, _], _ => rfl⟩
theorem at_watch_thickness {K : PySem.W.Frag} {h : Heap} {mg : Str → Option Value} {f : Addr} {od an : Option Addr} {sl : Array (Option Value)} {oc kV dc pm cd ct : Value} (X : K.In h) (G : h.Ns mainGlobals mg) (a : PySem.W.nsIn K mainGlobals "watch_thickness" = some (some (.ref f))) (l : K.lookup f = some ⟨oc, od, .func (PySem.W.fnOf "watch_thickness" "watch_thickness" (defArgs st_watch_thickness) (defBody st_watch_thickness) (defScope st_watch_thickness) .none kV dc pm an cd ct), sl⟩) (e : PySem.W.codeIn K cd "watch_thickness" = true) (k : PySem.W.keepIn K (.ref f) = true) : DefAt K mg "watch_thickness" st_watch_thickness ["machine"] :=
  ⟨f, _, fun_mk l e k, PySem.W.mg_of X G a, (fun_mk l e k).binds (ps := ["machine"]) fun _ _ _ _ _ _ us hl => match us, hl with | [_], _ => rfl⟩
theorem at_watch_centring {K : PySem.W.Frag} {h : Heap} {mg : Str → Option Value} {f : Addr} {od an : Option Addr} {sl : Array (Option Value)} {oc kV dc pm cd ct : Value} (X : K.In h) (G : h.Ns mainGlobals mg) (a : PySem.W.nsIn K mainGlobals "watch_centring" = some (some (.ref f))) (l : K.lookup f = some ⟨oc, od, .func (PySem.W.fnOf "watch_centring" "watch_centring" (defArgs st_watch_centring) (defBody st_watch_centring) (defScope st_watch_centring) .none kV dc pm an cd ct), sl⟩) (e : PySem.W.codeIn K cd "watch_centring" = true) (k : PySem.W.keepIn K (.ref f) = true) : DefAt K mg "watch_centring" st_watch_centring ["machine"] :=
  ⟨f, _, fun_mk l e k, PySem.W.mg_of X G a, (fun_mk l e k).binds (ps := ["machine"]) fun _ _ _ _ _ _ us hl => match us, hl with | [_], _ => rfl⟩
theorem at_one_move {K : PySem.W.Frag} {h : Heap} {mg : Str → Option Value} {f : Addr} {od an : Option Addr} {sl : Array (Option Value)} {oc kV dc pm cd ct : Value} (X : K.In h) (G : h.Ns mainGlobals mg) (a : PySem.W.nsIn K mainGlobals "one_move" = some (some (.ref f))) (l : K.lookup f = some ⟨oc, od, .func (PySem.W.fnOf "one_move" "one_move" (defArgs st_one_move) (defBody st_one_move) (defScope st_one_move) .none kV dc pm an cd ct), sl⟩) (e : PySem.W.codeIn K cd "one_move" = true) (k : PySem.W.keepIn K (.ref f) = true) : DefAt K mg "one_move" st_one_move ["machine"] :=
  ⟨f, _, fun_mk l e k, PySem.W.mg_of X G a, (fun_mk l e k).binds (ps := ["machine"]) fun _ _ _ _ _ _ us hl => match us, hl with | [_], _ => rfl⟩
theorem at_move {K : PySem.W.Frag} {h : Heap} {mg : Str → Option Value} {f : Addr} {od an : Option Addr} {sl : Array (Option Value)} {oc kV dc pm cd ct : Value} (X : K.In h) (G : h.Ns mainGlobals mg) (a : PySem.W.nsIn K mainGlobals "move" = some (some (.ref f))) (l : K.lookup f = some ⟨oc, od, .func (PySem.W.fnOf "move" "move" (defArgs st_move) (defBody st_move) (defScope st_move) .none kV dc pm an cd ct), sl⟩) (e : PySem.W.codeIn K cd "move" = true) (k : PySem.W.keepIn K (.ref f) = true) : DefAt K mg "move" st_move ["machine", "arguments"] :=
  ⟨f, _, fun_mk l e k, PySem.W.mg_of X G a, (fun_mk l e k).binds (ps := ["machine", "arguments"]) fun _ _ _ _ _ _ us hl => match us, hl with | [_, _], _ => rfl⟩
theorem at_lower_latch {K : PySem.W.Frag} {f : Addr} {od an : Option Addr} {sl : Array (Option Value)} {oc kV dc pm cd ct : Value} {C : Addr} (a : PySem.W.findIn K (.ref C) "lower_latch" = some (some (.ref f))) (i : PySem.W.isFn K (.ref f) = true) (l : K.lookup f = some ⟨oc, od, .func (PySem.W.fnOf "lower_latch" "Machine.lower_latch" (defArgs st_Machine_lower_latch) (defBody st_Machine_lower_latch) (defScope st_Machine_lower_latch) .none kV dc pm an cd ct), sl⟩) (e : PySem.W.codeIn K cd "Machine.lower_latch" = true) (k : PySem.W.keepIn K (.ref f) = true) : MethAt K C "lower_latch" "Machine.lower_latch" st_Machine_lower_latch ["self", "number"] :=
  ⟨f, _, fun_mk l e k, ⟨a, i, k⟩, (fun_mk l e k).binds (ps := ["self", "number"]) fun _ _ _ _ _ _ us hl => match us, hl with | [_, _], _ => rfl⟩
theorem at_vent_trap {K : PySem.W.Frag} {f : Addr} {od an : Option Addr} {sl : Array (Option Value)} {oc kV dc pm cd ct : Value} {C : Addr} (a : PySem.W.findIn K (.ref C) "vent_trap" = some (some (.ref f))) (i : PySem.W.isFn K (.ref f) = true) (l : K.lookup f = some ⟨oc, od, .func (PySem.W.fnOf "vent_trap" "Machine.vent_trap" (defArgs st_Machine_vent_trap) (defBody st_Machine_vent_trap) (defScope st_Machine_vent_trap) .none kV dc pm an cd ct), sl⟩) (e : PySem.W.codeIn K cd "Machine.vent_trap" = true) (k : PySem.W.keepIn K (.ref f) = true) : MethAt K C "vent_trap" "Machine.vent_trap" st_Machine_vent_trap ["self"] :=
  ⟨f, _, fun_mk l e k, ⟨a, i, k⟩, (fun_mk l e k).binds (ps := ["self"]) fun _ _ _ _ _ _ us hl => match us, hl with | [_], _ => rfl⟩
theorem at_Settings {K : PySem.W.Frag} {h : Heap} {mg : Str → Option Value} {f : Addr} {od an : Option Addr} {sl : Array (Option Value)} {oc kV dc pm cd ct : Value} {C : Addr} (X : K.In h) (G : h.Ns mainGlobals mg) (ac : PySem.W.nsIn K mainGlobals "Settings" = some (some (.ref C))) (mk : PySem.W.makesIn K C = true) (a : PySem.W.findIn K (.ref C) "__init__" = some (some (.ref f))) (i : PySem.W.isFn K (.ref f) = true) (kc : PySem.W.keepIn K (.ref C) = true) (l : K.lookup f = some ⟨oc, od, .func (PySem.W.fnOf "__init__" "Settings.__init__" (defArgs st_Settings__init_) (defBody st_Settings__init_) (defScope st_Settings__init_) .none kV dc pm an cd ct), sl⟩) (e : PySem.W.codeIn K cd "Settings.__init__" = true) (k : PySem.W.keepIn K (.ref f) = true) : MakeAt K mg C "Settings" "Settings.__init__" st_Settings__init_ ["self", "arguments"] :=
  ⟨f, _, fun_mk l e k, ⟨mk, a, i, kc⟩, PySem.W.mg_of X G ac, (fun_mk l e k).binds (ps := ["self", "arguments"]) fun _ _ _ _ _ _ us hl => match us, hl with | [_, _], _ => rfl⟩
theorem at_clear_old_line {K : PySem.W.Frag} {h : Heap} {mg : Str → Option Value} {f : Addr} {od an : Option Addr} {sl : Array (Option Value)} {oc kV dc pm cd ct : Value} (X : K.In h) (G : h.Ns mainGlobals mg) (a : PySem.W.nsIn K mainGlobals "clear_old_line" = some (some (.ref f))) (l : K.lookup f = some ⟨oc, od, .func (PySem.W.fnOf "clear_old_line" "clear_old_line" (defArgs st_clear_old_line) (defBody st_clear_old_line) (defScope st_clear_old_line) .none kV dc pm an cd ct), sl⟩) (e : PySem.W.codeIn K cd "clear_old_line" = true) (k : PySem.W.keepIn K (.ref f) = true) : DefAt K mg "clear_old_line" st_clear_old_line ["machine"] :=
  ⟨f, _, fun_mk l e k, PySem.W.mg_of X G a, (fun_mk l e k).binds (ps := ["machine"]) fun _ _ _ _ _ _ us hl => match us, hl with | [_], _ => rfl⟩
theorem at_forget_old_line {K : PySem.W.Frag} {h : Heap} {mg : Str → Option Value} {f : Addr} {od an : Option Addr} {sl : Array (Option Value)} {oc kV dc pm cd ct : Value} (X : K.In h) (G : h.Ns mainGlobals mg) (a : PySem.W.nsIn K mainGlobals "forget_old_line" = some (some (.ref f))) (l : K.lookup f = some ⟨oc, od, .func (PySem.W.fnOf "forget_old_line" "forget_old_line" (defArgs st_forget_old_line) (defBody st_forget_old_line) (defScope st_forget_old_line) .none kV dc pm an cd ct), sl⟩) (e : PySem.W.codeIn K cd "forget_old_line" = true) (k : PySem.W.keepIn K (.ref f) = true) : DefAt K mg "forget_old_line" st_forget_old_line ["machine"] :=
  ⟨f, _, fun_mk l e k, PySem.W.mg_of X G a, (fun_mk l e k).binds (ps := ["machine"]) fun _ _ _ _ _ _ us hl => match us, hl with | [_], _ => rfl⟩
theorem at_put_new_line {K : PySem.W.Frag} {h : Heap} {mg : Str → Option Value} {f : Addr} {od an : Option Addr} {sl : Array (Option Value)} {oc kV dc pm cd ct : Value} (X : K.In h) (G : h.Ns mainGlobals mg) (a : PySem.W.nsIn K mainGlobals "put_new_line" = some (some (.ref f))) (l : K.lookup f = some ⟨oc, od, .func (PySem.W.fnOf "put_new_line" "put_new_line" (defArgs st_put_new_line) (defBody st_put_new_line) (defScope st_put_new_line) .none kV dc pm an cd ct), sl⟩) (e : PySem.W.codeIn K cd "put_new_line" = true) (k : PySem.W.keepIn K (.ref f) = true) : DefAt K mg "put_new_line" st_put_new_line ["machine", "settings"] :=
  ⟨f, _, fun_mk l e k, PySem.W.mg_of X G a, (fun_mk l e k).binds (ps := ["machine", "settings"]) fun _ _ _ _ _ _ us hl => match us, hl with | [_, _], _ => rfl⟩
theorem at_lay {K : PySem.W.Frag} {h : Heap} {mg : Str → Option Value} {f : Addr} {od an : Option Addr} {sl : Array (Option Value)} {oc kV dc pm cd ct : Value} (X : K.In h) (G : h.Ns mainGlobals mg) (a : PySem.W.nsIn K mainGlobals "lay" = some (some (.ref f))) (l : K.lookup f = some ⟨oc, od, .func (PySem.W.fnOf "lay" "lay" (defArgs st_lay) (defBody st_lay) (defScope st_lay) .none kV dc pm an cd ct), sl⟩) (e : PySem.W.codeIn K cd "lay" = true) (k : PySem.W.keepIn K (.ref f) = true) : DefAt K mg "lay" st_lay ["machine", "arguments"] :=
  ⟨f, _, fun_mk l e k, PySem.W.mg_of X G a, (fun_mk l e k).binds (ps := ["machine", "arguments"]) fun _ _ _ _ _ _ us hl => match us, hl with | [_, _], _ => rfl⟩
theorem at_source {K : PySem.W.Frag} {h : Heap} {mg : Str → Option Value} {f : Addr} {od an : Option Addr} {sl : Array (Option Value)} {oc kV dc pm cd ct : Value} (X : K.In h) (G : h.Ns mainGlobals mg) (a : PySem.W.nsIn K mainGlobals "source" = some (some (.ref f))) (l : K.lookup f = some ⟨oc, od, .func (PySem.W.fnOf "source" "source" (defArgs st_source) (defBody st_source) (defScope st_source) .none kV dc pm an cd ct), sl⟩) (e : PySem.W.codeIn K cd "source" = true) (k : PySem.W.keepIn K (.ref f) = true) : DefAt K mg "source" st_source ["machine", "arguments"] :=
  ⟨f, _, fun_mk l e k, PySem.W.mg_of X G a, (fun_mk l e k).binds (ps := ["machine", "arguments"]) fun _ _ _ _ _ _ us hl => match us, hl with | [_, _], _ => rfl⟩
theorem at_bag {K : PySem.W.Frag} {h : Heap} {mg : Str → Option Value} {f : Addr} {od an : Option Addr} {sl : Array (Option Value)} {oc kV dc pm cd ct : Value} (X : K.In h) (G : h.Ns mainGlobals mg) (a : PySem.W.nsIn K mainGlobals "bag" = some (some (.ref f))) (l : K.lookup f = some ⟨oc, od, .func (PySem.W.fnOf "bag" "bag" (defArgs st_bag) (defBody st_bag) (defScope st_bag) .none kV dc pm an cd ct), sl⟩) (e : PySem.W.codeIn K cd "bag" = true) (k : PySem.W.keepIn K (.ref f) = true) : DefAt K mg "bag" st_bag ["machine", "arguments"] :=
  ⟨f, _, fun_mk l e k, PySem.W.mg_of X G a, (fun_mk l e k).binds (ps := ["machine", "arguments"]) fun _ _ _ _ _ _ us hl => match us, hl with | [_, _], _ => rfl⟩
theorem at_ultra {K : PySem.W.Frag} {h : Heap} {mg : Str → Option Value} {f : Addr} {od an : Option Addr} {sl : Array (Option Value)} {oc kV dc pm cd ct : Value} (X : K.In h) (G : h.Ns mainGlobals mg) (a : PySem.W.nsIn K mainGlobals "ultra" = some (some (.ref f))) (l : K.lookup f = some ⟨oc, od, .func (PySem.W.fnOf "ultra" "ultra" (defArgs st_ultra) (defBody st_ultra) (defScope st_ultra) .none kV dc pm an cd ct), sl⟩) (e : PySem.W.codeIn K cd "ultra" = true) (k : PySem.W.keepIn K (.ref f) = true) : DefAt K mg "ultra" st_ultra ["machine", "arguments"] :=
  ⟨f, _, fun_mk l e k, PySem.W.mg_of X G a, (fun_mk l e k).binds (ps := ["machine", "arguments"]) fun _ _ _ _ _ _ us hl => match us, hl with | [_, _], _ => rfl⟩
theorem at_sink {K : PySem.W.Frag} {h : Heap} {mg : Str → Option Value} {f : Addr} {od an : Option Addr} {sl : Array (Option Value)} {oc kV dc pm cd ct : Value} (X : K.In h) (G : h.Ns mainGlobals mg) (a : PySem.W.nsIn K mainGlobals "sink" = some (some (.ref f))) (l : K.lookup f = some ⟨oc, od, .func (PySem.W.fnOf "sink" "sink" (defArgs st_sink) (defBody st_sink) (defScope st_sink) .none kV dc pm an cd ct), sl⟩) (e : PySem.W.codeIn K cd "sink" = true) (k : PySem.W.keepIn K (.ref f) = true) : DefAt K mg "sink" st_sink ["machine", "arguments"] :=
  ⟨f, _, fun_mk l e k, PySem.W.mg_of X G a, (fun_mk l e k).binds (ps := ["machine", "arguments"]) fun _ _ _ _ _ _ us hl => match us, hl with | [_, _], _ => rfl⟩
theorem at_wait {K : PySem.W.Frag} {h : Heap} {mg : Str → Option Value} {f : Addr} {od an : Option Addr} {sl : Array (Option Value)} {oc kV dc pm cd ct : Value} (X : K.In h) (G : h.Ns mainGlobals mg) (a : PySem.W.nsIn K mainGlobals "wait" = some (some (.ref f))) (l : K.lookup f = some ⟨oc, od, .func (PySem.W.fnOf "wait" "wait" (defArgs st_wait) (defBody st_wait) (defScope st_wait) .none kV dc pm an cd ct), sl⟩) (e : PySem.W.codeIn K cd "wait" = true) (k : PySem.W.keepIn K (.ref f) = true) : DefAt K mg "wait" st_wait ["machine", "arguments"] :=
  ⟨f, _, fun_mk l e k, PySem.W.mg_of X G a, (fun_mk l e k).binds (ps := ["machine", "arguments"]) fun _ _ _ _ _ _ us hl => match us, hl with | [_, _], _ => rfl⟩
theorem at_is_usual {K : PySem.W.Frag} {h : Heap} {mg : Str → Option Value} {f : Addr} {od an : Option Addr} {sl : Array (Option Value)} {oc kV dc pm cd ct : Value} (X : K.In h) (G : h.Ns mainGlobals mg) (a : PySem.W.nsIn K mainGlobals "is_usual" = some (some (.ref f))) (l : K.lookup f = some ⟨oc, od, .func (PySem.W.fnOf "is_usual" "is_usual" (defArgs st_is_usual) (defBody st_is_usual) (defScope st_is_usual) .none kV dc pm an cd ct), sl⟩) (e : PySem.W.codeIn K cd "is_usual" = true) (k : PySem.W.keepIn K (.ref f) = true) : DefAt K mg "is_usual" st_is_usual ["pressures", "which"] :=
  ⟨f, _, fun_mk l e k, PySem.W.mg_of X G a, (fun_mk l e k).binds (ps := ["pressures", "which"]) fun _ _ _ _ _ _ us hl => match us, hl with | [_, _], _ => rfl⟩
theorem at_is_bad {K : PySem.W.Frag} {h : Heap} {mg : Str → Option Value} {f : Addr} {od an : Option Addr} {sl : Array (Option Value)} {oc kV dc pm cd ct : Value} (X : K.In h) (G : h.Ns mainGlobals mg) (a : PySem.W.nsIn K mainGlobals "is_bad" = some (some (.ref f))) (l : K.lookup f = some ⟨oc, od, .func (PySem.W.fnOf "is_bad" "is_bad" (defArgs st_is_bad) (defBody st_is_bad) (defScope st_is_bad) .none kV dc pm an cd ct), sl⟩) (e : PySem.W.codeIn K cd "is_bad" = true) (k : PySem.W.keepIn K (.ref f) = true) : DefAt K mg "is_bad" st_is_bad ["machine", "pressures", "which"] :=
  ⟨f, _, fun_mk l e k, PySem.W.mg_of X G a, (fun_mk l e k).binds (ps := ["machine", "pressures", "which"]) fun _ _ _ _ _ _ us hl => match us, hl with | [_, _, _], _ => rfl⟩
theorem at_last_is_bad {K : PySem.W.Frag} {h : Heap} {mg : Str → Option Value} {f : Addr} {od an : Option Addr} {sl : Array (Option Value)} {oc kV dc pm cd ct : Value} (X : K.In h) (G : h.Ns mainGlobals mg) (a : PySem.W.nsIn K mainGlobals "last_is_bad" = some (some (.ref f))) (l : K.lookup f = some ⟨oc, od, .func (PySem.W.fnOf "last_is_bad" "last_is_bad" (defArgs st_last_is_bad) (defBody st_last_is_bad) (defScope st_last_is_bad) .none kV dc pm an cd ct), sl⟩) (e : PySem.W.codeIn K cd "last_is_bad" = true) (k : PySem.W.keepIn K (.ref f) = true) : DefAt K mg "last_is_bad" st_last_is_bad ["machine", "which"] :=
  ⟨f, _, fun_mk l e k, PySem.W.mg_of X G a, (fun_mk l e k).binds (ps := ["machine", "which"]) fun _ _ _ _ _ _ us hl => match us, hl with | [_, _], _ => rfl⟩
theorem at_centre {K : PySem.W.Frag} {h : Heap} {mg : Str → Option Value} {f : Addr} {od an : Option Addr} {sl : Array (Option Value)} {oc kV dc pm cd ct : Value} (X : K.In h) (G : h.Ns mainGlobals mg) (a : PySem.W.nsIn K mainGlobals "centre" = some (some (.ref f))) (l : K.lookup f = some ⟨oc, od, .func (PySem.W.fnOf "centre" "centre" (defArgs st_centre) (defBody st_centre) (defScope st_centre) .none kV dc pm an cd ct), sl⟩) (e : PySem.W.codeIn K cd "centre" = true) (k : PySem.W.keepIn K (.ref f) = true) : DefAt K mg "centre" st_centre ["machine"] :=
  ⟨f, _, fun_mk l e k, PySem.W.mg_of X G a, (fun_mk l e k).binds (ps := ["machine"]) fun _ _ _ _ _ _ us hl => match us, hl with | [_], _ => rfl⟩
theorem at_press {K : PySem.W.Frag} {h : Heap} {mg : Str → Option Value} {f : Addr} {od an : Option Addr} {sl : Array (Option Value)} {oc kV dc pm cd ct : Value} (X : K.In h) (G : h.Ns mainGlobals mg) (a : PySem.W.nsIn K mainGlobals "press" = some (some (.ref f))) (l : K.lookup f = some ⟨oc, od, .func (PySem.W.fnOf "press" "press" (defArgs st_press) (defBody st_press) (defScope st_press) .none kV dc pm an cd ct), sl⟩) (e : PySem.W.codeIn K cd "press" = true) (k : PySem.W.keepIn K (.ref f) = true) : DefAt K mg "press" st_press ["machine", "arguments"] :=
  ⟨f, _, fun_mk l e k, PySem.W.mg_of X G a, (fun_mk l e k).binds (ps := ["machine", "arguments"]) fun _ _ _ _ _ _ us hl => match us, hl with | [_, _], _ => rfl⟩
theorem at_leak {K : PySem.W.Frag} {h : Heap} {mg : Str → Option Value} {f : Addr} {od an : Option Addr} {sl : Array (Option Value)} {oc kV dc pm cd ct : Value} (X : K.In h) (G : h.Ns mainGlobals mg) (a : PySem.W.nsIn K mainGlobals "leak" = some (some (.ref f))) (l : K.lookup f = some ⟨oc, od, .func (PySem.W.fnOf "leak" "leak" (defArgs st_leak) (defBody st_leak) (defScope st_leak) .none kV dc pm an cd ct), sl⟩) (e : PySem.W.codeIn K cd "leak" = true) (k : PySem.W.keepIn K (.ref f) = true) : DefAt K mg "leak" st_leak ["machine", "arguments"] :=
  ⟨f, _, fun_mk l e k, PySem.W.mg_of X G a, (fun_mk l e k).binds (ps := ["machine", "arguments"]) fun _ _ _ _ _ _ us hl => match us, hl with | [_, _], _ => rfl⟩
theorem at_fault {K : PySem.W.Frag} {h : Heap} {mg : Str → Option Value} {f : Addr} {od an : Option Addr} {sl : Array (Option Value)} {oc kV dc pm cd ct : Value} (X : K.In h) (G : h.Ns mainGlobals mg) (a : PySem.W.nsIn K mainGlobals "fault" = some (some (.ref f))) (l : K.lookup f = some ⟨oc, od, .func (PySem.W.fnOf "fault" "fault" (defArgs st_fault) (defBody st_fault) (defScope st_fault) .none kV dc pm an cd ct), sl⟩) (e : PySem.W.codeIn K cd "fault" = true) (k : PySem.W.keepIn K (.ref f) = true) : DefAt K mg "fault" st_fault ["machine", "arguments"] :=
  ⟨f, _, fun_mk l e k, PySem.W.mg_of X G a, (fun_mk l e k).binds (ps := ["machine", "arguments"]) fun _ _ _ _ _ _ us hl => match us, hl with | [_, _], _ => rfl⟩
theorem at_slip {K : PySem.W.Frag} {h : Heap} {mg : Str → Option Value} {f : Addr} {od an : Option Addr} {sl : Array (Option Value)} {oc kV dc pm cd ct : Value} (X : K.In h) (G : h.Ns mainGlobals mg) (a : PySem.W.nsIn K mainGlobals "slip" = some (some (.ref f))) (l : K.lookup f = some ⟨oc, od, .func (PySem.W.fnOf "slip" "slip" (defArgs st_slip) (defBody st_slip) (defScope st_slip) .none kV dc pm an cd ct), sl⟩) (e : PySem.W.codeIn K cd "slip" = true) (k : PySem.W.keepIn K (.ref f) = true) : DefAt K mg "slip" st_slip ["machine", "arguments"] :=
  ⟨f, _, fun_mk l e k, PySem.W.mg_of X G a, (fun_mk l e k).binds (ps := ["machine", "arguments"]) fun _ _ _ _ _ _ us hl => match us, hl with | [_, _], _ => rfl⟩
theorem at_vent {K : PySem.W.Frag} {h : Heap} {mg : Str → Option Value} {f : Addr} {od an : Option Addr} {sl : Array (Option Value)} {oc kV dc pm cd ct : Value} (X : K.In h) (G : h.Ns mainGlobals mg) (a : PySem.W.nsIn K mainGlobals "vent" = some (some (.ref f))) (l : K.lookup f = some ⟨oc, od, .func (PySem.W.fnOf "vent" "vent" (defArgs st_vent) (defBody st_vent) (defScope st_vent) .none kV dc pm an cd ct), sl⟩) (e : PySem.W.codeIn K cd "vent" = true) (k : PySem.W.keepIn K (.ref f) = true) : DefAt K mg "vent" st_vent ["machine"] :=
  ⟨f, _, fun_mk l e k, PySem.W.mg_of X G a, (fun_mk l e k).binds (ps := ["machine"]) fun _ _ _ _ _ _ us hl => match us, hl with | [_], _ => rfl⟩
theorem at_check {K : PySem.W.Frag} {h : Heap} {mg : Str → Option Value} {f : Addr} {od an : Option Addr} {sl : Array (Option Value)} {oc kV dc pm cd ct : Value} (X : K.In h) (G : h.Ns mainGlobals mg) (a : PySem.W.nsIn K mainGlobals "check" = some (some (.ref f))) (l : K.lookup f = some ⟨oc, od, .func (PySem.W.fnOf "check" "check" (defArgs st_check) (defBody st_check) (defScope st_check) .none kV dc pm an cd ct), sl⟩) (e : PySem.W.codeIn K cd "check" = true) (k : PySem.W.keepIn K (.ref f) = true) : DefAt K mg "check" st_check ["machine"] :=
  ⟨f, _, fun_mk l e k, PySem.W.mg_of X G a, (fun_mk l e k).binds (ps := ["machine"]) fun _ _ _ _ _ _ us hl => match us, hl with | [_], _ => rfl⟩
theorem at_must_stay_up {K : PySem.W.Frag} {h : Heap} {mg : Str → Option Value} {f : Addr} {od an : Option Addr} {sl : Array (Option Value)} {oc kV dc pm cd ct : Value} (X : K.In h) (G : h.Ns mainGlobals mg) (a : PySem.W.nsIn K mainGlobals "must_stay_up" = some (some (.ref f))) (l : K.lookup f = some ⟨oc, od, .func (PySem.W.fnOf "must_stay_up" "must_stay_up" (defArgs st_must_stay_up) (defBody st_must_stay_up) (defScope st_must_stay_up) .none kV dc pm an cd ct), sl⟩) (e : PySem.W.codeIn K cd "must_stay_up" = true) (k : PySem.W.keepIn K (.ref f) = true) : DefAt K mg "must_stay_up" st_must_stay_up ["machine", "latch"] :=
  ⟨f, _, fun_mk l e k, PySem.W.mg_of X G a, (fun_mk l e k).binds (ps := ["machine", "latch"]) fun _ _ _ _ _ _ us hl => match us, hl with | [_, _], _ => rfl⟩
theorem at_reset {K : PySem.W.Frag} {h : Heap} {mg : Str → Option Value} {f : Addr} {od an : Option Addr} {sl : Array (Option Value)} {oc kV dc pm cd ct : Value} (X : K.In h) (G : h.Ns mainGlobals mg) (a : PySem.W.nsIn K mainGlobals "reset" = some (some (.ref f))) (l : K.lookup f = some ⟨oc, od, .func (PySem.W.fnOf "reset" "reset" (defArgs st_reset) (defBody st_reset) (defScope st_reset) .none kV dc pm an cd ct), sl⟩) (e : PySem.W.codeIn K cd "reset" = true) (k : PySem.W.keepIn K (.ref f) = true) : DefAt K mg "reset" st_reset ["machine", "arguments"] :=
  ⟨f, _, fun_mk l e k, PySem.W.mg_of X G a, (fun_mk l e k).binds (ps := ["machine", "arguments"]) fun _ _ _ _ _ _ us hl => match us, hl with | [_, _], _ => rfl⟩
theorem at_three_of {K : PySem.W.Frag} {h : Heap} {mg : Str → Option Value} {f : Addr} {od an : Option Addr} {sl : Array (Option Value)} {oc kV dc pm cd ct : Value} (X : K.In h) (G : h.Ns mainGlobals mg) (a : PySem.W.nsIn K mainGlobals "three_of" = some (some (.ref f))) (l : K.lookup f = some ⟨oc, od, .func (PySem.W.fnOf "three_of" "three_of" (defArgs st_three_of) (defBody st_three_of) (defScope st_three_of) .none kV dc pm an cd ct), sl⟩) (e : PySem.W.codeIn K cd "three_of" = true) (k : PySem.W.keepIn K (.ref f) = true) : DefAt K mg "three_of" st_three_of ["amounts"] :=
  ⟨f, _, fun_mk l e k, PySem.W.mg_of X G a, (fun_mk l e k).binds (ps := ["amounts"]) fun _ _ _ _ _ _ us hl => match us, hl with | [_], _ => rfl⟩
theorem at_look {K : PySem.W.Frag} {h : Heap} {mg : Str → Option Value} {f : Addr} {od an : Option Addr} {sl : Array (Option Value)} {oc kV dc pm cd ct : Value} (X : K.In h) (G : h.Ns mainGlobals mg) (a : PySem.W.nsIn K mainGlobals "look" = some (some (.ref f))) (l : K.lookup f = some ⟨oc, od, .func (PySem.W.fnOf "look" "look" (defArgs st_look) (defBody st_look) (defScope st_look) .none kV dc pm an cd ct), sl⟩) (e : PySem.W.codeIn K cd "look" = true) (k : PySem.W.keepIn K (.ref f) = true) : DefAt K mg "look" st_look ["machine"] :=
  ⟨f, _, fun_mk l e k, PySem.W.mg_of X G a, (fun_mk l e k).binds (ps := ["machine"]) fun _ _ _ _ _ _ us hl => match us, hl with | [_], _ => rfl⟩
theorem at_cell {K : PySem.W.Frag} {h : Heap} {mg : Str → Option Value} {f : Addr} {od an : Option Addr} {sl : Array (Option Value)} {oc kV dc pm cd ct : Value} (X : K.In h) (G : h.Ns mainGlobals mg) (a : PySem.W.nsIn K mainGlobals "cell" = some (some (.ref f))) (l : K.lookup f = some ⟨oc, od, .func (PySem.W.fnOf "cell" "cell" (defArgs st_cell) (defBody st_cell) (defScope st_cell) .none kV dc pm an cd ct), sl⟩) (e : PySem.W.codeIn K cd "cell" = true) (k : PySem.W.keepIn K (.ref f) = true) : DefAt K mg "cell" st_cell ["machine", "arguments"] :=
  ⟨f, _, fun_mk l e k, PySem.W.mg_of X G a, (fun_mk l e k).binds (ps := ["machine", "arguments"]) fun _ _ _ _ _ _ us hl => match us, hl with | [_, _], _ => rfl⟩
theorem at_totals {K : PySem.W.Frag} {h : Heap} {mg : Str → Option Value} {f : Addr} {od an : Option Addr} {sl : Array (Option Value)} {oc kV dc pm cd ct : Value} (X : K.In h) (G : h.Ns mainGlobals mg) (a : PySem.W.nsIn K mainGlobals "totals" = some (some (.ref f))) (l : K.lookup f = some ⟨oc, od, .func (PySem.W.fnOf "totals" "totals" (defArgs st_totals) (defBody st_totals) (defScope st_totals) .none kV dc pm an cd ct), sl⟩) (e : PySem.W.codeIn K cd "totals" = true) (k : PySem.W.keepIn K (.ref f) = true) : DefAt K mg "totals" st_totals ["machine"] :=
  ⟨f, _, fun_mk l e k, PySem.W.mg_of X G a, (fun_mk l e k).binds (ps := ["machine"]) fun _ _ _ _ _ _ us hl => match us, hl with | [_], _ => rfl⟩
theorem at_how_many_arguments {K : PySem.W.Frag} {h : Heap} {mg : Str → Option Value} {f : Addr} {od an : Option Addr} {sl : Array (Option Value)} {oc kV dc pm cd ct : Value} (X : K.In h) (G : h.Ns mainGlobals mg) (a : PySem.W.nsIn K mainGlobals "how_many_arguments" = some (some (.ref f))) (l : K.lookup f = some ⟨oc, od, .func (PySem.W.fnOf "how_many_arguments" "how_many_arguments" (defArgs st_how_many_arguments) (defBody st_how_many_arguments) (defScope st_how_many_arguments) .none kV dc pm an cd ct), sl⟩) (e : PySem.W.codeIn K cd "how_many_arguments" = true) (k : PySem.W.keepIn K (.ref f) = true) : DefAt K mg "how_many_arguments" st_how_many_arguments ["place"] :=
  ⟨f, _, fun_mk l e k, PySem.W.mg_of X G a, (fun_mk l e k).binds (ps := ["place"]) fun _ _ _ _ _ _ us hl => match us, hl with | [_], _ => rfl⟩
theorem at_places_in_order {K : PySem.W.Frag} {h : Heap} {mg : Str → Option Value} {f : Addr} {od an : Option Addr} {sl : Array (Option Value)} {oc kV dc pm cd ct : Value} (X : K.In h) (G : h.Ns mainGlobals mg) (a : PySem.W.nsIn K mainGlobals "places_in_order" = some (some (.ref f))) (l : K.lookup f = some ⟨oc, od, .func (PySem.W.fnOf "places_in_order" "places_in_order" (defArgs st_places_in_order) (defBody st_places_in_order) (defScope st_places_in_order) .none kV dc pm an cd ct), sl⟩) (e : PySem.W.codeIn K cd "places_in_order" = true) (k : PySem.W.keepIn K (.ref f) = true) : DefAt K mg "places_in_order" st_places_in_order ["arguments"] :=
  ⟨f, _, fun_mk l e k, PySem.W.mg_of X G a, (fun_mk l e k).binds (ps := ["arguments"]) fun _ _ _ _ _ _ us hl => match us, hl with | [_], _ => rfl⟩
theorem at_all_in_range {K : PySem.W.Frag} {h : Heap} {mg : Str → Option Value} {f : Addr} {od an : Option Addr} {sl : Array (Option Value)} {oc kV dc pm cd ct : Value} (X : K.In h) (G : h.Ns mainGlobals mg) (a : PySem.W.nsIn K mainGlobals "all_in_range" = some (some (.ref f))) (l : K.lookup f = some ⟨oc, od, .func (PySem.W.fnOf "all_in_range" "all_in_range" (defArgs st_all_in_range) (defBody st_all_in_range) (defScope st_all_in_range) .none kV dc pm an cd ct), sl⟩) (e : PySem.W.codeIn K cd "all_in_range" = true) (k : PySem.W.keepIn K (.ref f) = true) : DefAt K mg "all_in_range" st_all_in_range ["place", "arguments"] :=
  ⟨f, _, fun_mk l e k, PySem.W.mg_of X G a, (fun_mk l e k).binds (ps := ["place", "arguments"]) fun _ _ _ _ _ _ us hl => match us, hl with | [_, _], _ => rfl⟩
theorem at_answer_running {K : PySem.W.Frag} {h : Heap} {mg : Str → Option Value} {f : Addr} {od an : Option Addr} {sl : Array (Option Value)} {oc kV dc pm cd ct : Value} (X : K.In h) (G : h.Ns mainGlobals mg) (a : PySem.W.nsIn K mainGlobals "answer_running" = some (some (.ref f))) (l : K.lookup f = some ⟨oc, od, .func (PySem.W.fnOf "answer_running" "answer_running" (defArgs st_answer_running) (defBody st_answer_running) (defScope st_answer_running) .none kV dc pm an cd ct), sl⟩) (e : PySem.W.codeIn K cd "answer_running" = true) (k : PySem.W.keepIn K (.ref f) = true) : DefAt K mg "answer_running" st_answer_running ["machine", "place", "arguments"] :=
  ⟨f, _, fun_mk l e k, PySem.W.mg_of X G a, (fun_mk l e k).binds (ps := ["machine", "place", "arguments"]) fun _ _ _ _ _ _ us hl => match us, hl with | [_, _, _], _ => rfl⟩
theorem at_answer_tending {K : PySem.W.Frag} {h : Heap} {mg : Str → Option Value} {f : Addr} {od an : Option Addr} {sl : Array (Option Value)} {oc kV dc pm cd ct : Value} (X : K.In h) (G : h.Ns mainGlobals mg) (a : PySem.W.nsIn K mainGlobals "answer_tending" = some (some (.ref f))) (l : K.lookup f = some ⟨oc, od, .func (PySem.W.fnOf "answer_tending" "answer_tending" (defArgs st_answer_tending) (defBody st_answer_tending) (defScope st_answer_tending) .none kV dc pm an cd ct), sl⟩) (e : PySem.W.codeIn K cd "answer_tending" = true) (k : PySem.W.keepIn K (.ref f) = true) : DefAt K mg "answer_tending" st_answer_tending ["machine", "place", "arguments"] :=
  ⟨f, _, fun_mk l e k, PySem.W.mg_of X G a, (fun_mk l e k).binds (ps := ["machine", "place", "arguments"]) fun _ _ _ _ _ _ us hl => match us, hl with | [_, _, _], _ => rfl⟩
theorem at_answer_call {K : PySem.W.Frag} {h : Heap} {mg : Str → Option Value} {f : Addr} {od an : Option Addr} {sl : Array (Option Value)} {oc kV dc pm cd ct : Value} (X : K.In h) (G : h.Ns mainGlobals mg) (a : PySem.W.nsIn K mainGlobals "answer_call" = some (some (.ref f))) (l : K.lookup f = some ⟨oc, od, .func (PySem.W.fnOf "answer_call" "answer_call" (defArgs st_answer_call) (defBody st_answer_call) (defScope st_answer_call) .none kV dc pm an cd ct), sl⟩) (e : PySem.W.codeIn K cd "answer_call" = true) (k : PySem.W.keepIn K (.ref f) = true) : DefAt K mg "answer_call" st_answer_call ["machine", "place", "arguments"] :=
  ⟨f, _, fun_mk l e k, PySem.W.mg_of X G a, (fun_mk l e k).binds (ps := ["machine", "place", "arguments"]) fun _ _ _ _ _ _ us hl => match us, hl with | [_, _, _], _ => rfl⟩
theorem at_Totals {K : PySem.W.Frag} {h : Heap} {mg : Str → Option Value} {f : Addr} {od an : Option Addr} {sl : Array (Option Value)} {oc kV dc pm cd ct : Value} {C : Addr} (X : K.In h) (G : h.Ns mainGlobals mg) (ac : PySem.W.nsIn K mainGlobals "Totals" = some (some (.ref C))) (mk : PySem.W.makesIn K C = true) (a : PySem.W.findIn K (.ref C) "__init__" = some (some (.ref f))) (i : PySem.W.isFn K (.ref f) = true) (kc : PySem.W.keepIn K (.ref C) = true) (l : K.lookup f = some ⟨oc, od, .func (PySem.W.fnOf "__init__" "Totals.__init__" (defArgs st_Totals__init_) (defBody st_Totals__init_) (defScope st_Totals__init_) .none kV dc pm an cd ct), sl⟩) (e : PySem.W.codeIn K cd "Totals.__init__" = true) (k : PySem.W.keepIn K (.ref f) = true) : MakeAt K mg C "Totals" "Totals.__init__" st_Totals__init_ ["self"] :=
  ⟨f, _, fun_mk l e k, ⟨mk, a, i, kc⟩, PySem.W.mg_of X G ac, (fun_mk l e k).binds (ps := ["self"]) fun _ _ _ _ _ _ us hl => match us, hl with | [_], _ => rfl⟩
theorem at_Machine {K : PySem.W.Frag} {h : Heap} {mg : Str → Option Value} {f : Addr} {od an : Option Addr} {sl : Array (Option Value)} {oc kV dc pm cd ct : Value} {C : Addr} (X : K.In h) (G : h.Ns mainGlobals mg) (ac : PySem.W.nsIn K mainGlobals "Machine" = some (some (.ref C))) (mk : PySem.W.makesIn K C = true) (a : PySem.W.findIn K (.ref C) "__init__" = some (some (.ref f))) (i : PySem.W.isFn K (.ref f) = true) (kc : PySem.W.keepIn K (.ref C) = true) (l : K.lookup f = some ⟨oc, od, .func (PySem.W.fnOf "__init__" "Machine.__init__" (defArgs st_Machine__init_) (defBody st_Machine__init_) (defScope st_Machine__init_) .none kV dc pm an cd ct), sl⟩) (e : PySem.W.codeIn K cd "Machine.__init__" = true) (k : PySem.W.keepIn K (.ref f) = true) : MakeAt K mg C "Machine" "Machine.__init__" st_Machine__init_ ["self"] :=
  ⟨f, _, fun_mk l e k, ⟨mk, a, i, kc⟩, PySem.W.mg_of X G ac, (fun_mk l e k).binds (ps := ["self"]) fun _ _ _ _ _ _ us hl => match us, hl with | [_], _ => rfl⟩
structure Defs (K : PySem.W.Frag) (mg : Str → Option Value) (c : Cl) : Prop where
  d_Amounts : MakeAt K mg c.am "Amounts" "Amounts.__init__" st_Amounts__init_ ["self", "red", "water", "air"]
  d_take_in : MethAt K c.am "take_in" "Amounts.take_in" st_Amounts_take_in ["self", "other"]
  d_clean_needed : MethAt K c.se "clean_needed" "Settings.clean_needed" st_Settings_clean_needed ["self"]
  d_joined : MethAt K c.ma "joined" "Machine.joined" st_Machine_joined ["self"]
  d_latched : MethAt K c.ma "latched" "Machine.latched" st_Machine_latched ["self"]
  d_held : MethAt K c.ma "held" "Machine.held" st_Machine_held ["self"]
  d_raise_latch : MethAt K c.ma "raise_latch" "Machine.raise_latch" st_Machine_raise_latch ["self", "number"]
  d_latches_number : MethAt K c.ma "latches_number" "Machine.latches_number" st_Machine_latches_number ["self"]
  d_forget_centring : MethAt K c.ma "forget_centring" "Machine.forget_centring" st_Machine_forget_centring ["self"]
  d_cell_of_air : DefAt K mg "cell_of_air" st_cell_of_air ["machine"]
  d_cell_from_patient : DefAt K mg "cell_from_patient" st_cell_from_patient ["machine"]
  d_cell_from_bag : DefAt K mg "cell_from_bag" st_cell_from_bag ["machine"]
  d_new_cell : DefAt K mg "new_cell" st_new_cell ["machine"]
  d_let_last_leave : DefAt K mg "let_last_leave" st_let_last_leave ["machine"]
  d_dialyse : DefAt K mg "dialyse" st_dialyse ["machine"]
  d_trap_air : DefAt K mg "trap_air" st_trap_air ["machine"]
  d_read_channels : DefAt K mg "read_channels" st_read_channels ["machine"]
  d_remember_reading : DefAt K mg "remember_reading" st_remember_reading ["machine", "reading"]
  d_judge_reading : DefAt K mg "judge_reading" st_judge_reading ["machine"]
  d_compare_channels : DefAt K mg "compare_channels" st_compare_channels ["machine", "channels"]
  d_watch_thickness : DefAt K mg "watch_thickness" st_watch_thickness ["machine"]
  d_watch_centring : DefAt K mg "watch_centring" st_watch_centring ["machine"]
  d_one_move : DefAt K mg "one_move" st_one_move ["machine"]
  d_move : DefAt K mg "move" st_move ["machine", "arguments"]
  d_lower_latch : MethAt K c.ma "lower_latch" "Machine.lower_latch" st_Machine_lower_latch ["self", "number"]
  d_vent_trap : MethAt K c.ma "vent_trap" "Machine.vent_trap" st_Machine_vent_trap ["self"]
  d_Settings : MakeAt K mg c.se "Settings" "Settings.__init__" st_Settings__init_ ["self", "arguments"]
  d_clear_old_line : DefAt K mg "clear_old_line" st_clear_old_line ["machine"]
  d_forget_old_line : DefAt K mg "forget_old_line" st_forget_old_line ["machine"]
  d_put_new_line : DefAt K mg "put_new_line" st_put_new_line ["machine", "settings"]
  d_lay : DefAt K mg "lay" st_lay ["machine", "arguments"]
  d_source : DefAt K mg "source" st_source ["machine", "arguments"]
  d_bag : DefAt K mg "bag" st_bag ["machine", "arguments"]
  d_ultra : DefAt K mg "ultra" st_ultra ["machine", "arguments"]
  d_sink : DefAt K mg "sink" st_sink ["machine", "arguments"]
  d_wait : DefAt K mg "wait" st_wait ["machine", "arguments"]
  d_is_usual : DefAt K mg "is_usual" st_is_usual ["pressures", "which"]
  d_is_bad : DefAt K mg "is_bad" st_is_bad ["machine", "pressures", "which"]
  d_last_is_bad : DefAt K mg "last_is_bad" st_last_is_bad ["machine", "which"]
  d_centre : DefAt K mg "centre" st_centre ["machine"]
  d_press : DefAt K mg "press" st_press ["machine", "arguments"]
  d_leak : DefAt K mg "leak" st_leak ["machine", "arguments"]
  d_fault : DefAt K mg "fault" st_fault ["machine", "arguments"]
  d_slip : DefAt K mg "slip" st_slip ["machine", "arguments"]
  d_vent : DefAt K mg "vent" st_vent ["machine"]
  d_check : DefAt K mg "check" st_check ["machine"]
  d_must_stay_up : DefAt K mg "must_stay_up" st_must_stay_up ["machine", "latch"]
  d_reset : DefAt K mg "reset" st_reset ["machine", "arguments"]
  d_three_of : DefAt K mg "three_of" st_three_of ["amounts"]
  d_look : DefAt K mg "look" st_look ["machine"]
  d_cell : DefAt K mg "cell" st_cell ["machine", "arguments"]
  d_totals : DefAt K mg "totals" st_totals ["machine"]
  d_how_many_arguments : DefAt K mg "how_many_arguments" st_how_many_arguments ["place"]
  d_places_in_order : DefAt K mg "places_in_order" st_places_in_order ["arguments"]
  d_all_in_range : DefAt K mg "all_in_range" st_all_in_range ["place", "arguments"]
  d_answer_running : DefAt K mg "answer_running" st_answer_running ["machine", "place", "arguments"]
  d_answer_tending : DefAt K mg "answer_tending" st_answer_tending ["machine", "place", "arguments"]
  d_answer_call : DefAt K mg "answer_call" st_answer_call ["machine", "place", "arguments"]
  d_Totals : MakeAt K mg c.to "Totals" "Totals.__init__" st_Totals__init_ ["self"]
  d_Machine : MakeAt K mg c.ma "Machine" "Machine.__init__" st_Machine__init_ ["self"]
theorem ck_am {K : PySem.W.Frag} {C : Addr} (pg : PySem.W.plainGet K C Str.empty = true) (hd : PySem.W.hasDictIn K C = true) (po : PySem.W.plainOver K C = true) (sa : PySem.W.findIn K (.ref C) "__setattr__" = some (some (.builtin "object.__setattr__")))
    (n0 : PySem.W.findIn K (.ref C) "red" = some none) (n1 : PySem.W.findIn K (.ref C) "water" = some none) (n2 : PySem.W.findIn K (.ref C) "air" = some none) : Ck K C aK := by
  refine ⟨⟨pg, hd, po, sa⟩, by decide +kernel, fun f hf => ?_, by decide⟩
  unfold aK at hf
  simp only [List.mem_cons, List.not_mem_nil, or_false] at hf
  rcases hf with rfl | rfl | rfl
  · exact n0
  · exact n1
  · exact n2
theorem ck_se {K : PySem.W.Frag} {C : Addr} (pg : PySem.W.plainGet K C Str.empty = true) (hd : PySem.W.hasDictIn K C = true) (po : PySem.W.plainOver K C = true) (sa : PySem.W.findIn K (.ref C) "__setattr__" = some (some (.builtin "object.__setattr__")))
    (n0 : PySem.W.findIn K (.ref C) "n" = some none) (n1 : PySem.W.findIn K (.ref C) "dz" = some none) (n2 : PySem.W.findIn K (.ref C) "ch" = some none) (n3 : PySem.W.findIn K (.ref C) "dt" = some none) (n4 : PySem.W.findIn K (.ref C) "w" = some none) (n5 : PySem.W.findIn K (.ref C) "t" = some none) (n6 : PySem.W.findIn K (.ref C) "s" = some none) (n7 : PySem.W.findIn K (.ref C) "d" = some none) (n8 : PySem.W.findIn K (.ref C) "room" = some none) (n9 : PySem.W.findIn K (.ref C) "k" = some none) (n10 : PySem.W.findIn K (.ref C) "leak" = some none) (n11 : PySem.W.findIn K (.ref C) "p" = some none) (n12 : PySem.W.findIn K (.ref C) "z" = some none) : Ck K C sK := by
  refine ⟨⟨pg, hd, po, sa⟩, by decide +kernel, fun f hf => ?_, by decide⟩
  unfold sK at hf
  simp only [List.mem_cons, List.not_mem_nil, or_false] at hf
  rcases hf with rfl | rfl | rfl | rfl | rfl | rfl | rfl | rfl | rfl | rfl | rfl | rfl | rfl
  · exact n0
  · exact n1
  · exact n2
  · exact n3
  · exact n4
  · exact n5
  · exact n6
  · exact n7
  · exact n8
  · exact n9
  · exact n10
  · exact n11
  · exact n12
theorem ck_to {K : PySem.W.Frag} {C : Addr} (pg : PySem.W.plainGet K C Str.empty = true) (hd : PySem.W.hasDictIn K C = true) (po : PySem.W.plainOver K C = true) (sa : PySem.W.findIn K (.ref C) "__setattr__" = some (some (.builtin "object.__setattr__")))
    (n0 : PySem.W.findIn K (.ref C) "from_patient" = some none) (n1 : PySem.W.findIn K (.ref C) "bag_water" = some none) (n2 : PySem.W.findIn K (.ref C) "air_in" = some none) (n3 : PySem.W.findIn K (.ref C) "given_back" = some none) (n4 : PySem.W.findIn K (.ref C) "spilt" = some none) (n5 : PySem.W.findIn K (.ref C) "drained" = some none) (n6 : PySem.W.findIn K (.ref C) "thrown_away" = some none) (n7 : PySem.W.findIn K (.ref C) "dialysed" = some none) (n8 : PySem.W.findIn K (.ref C) "vented" = some none) (n9 : PySem.W.findIn K (.ref C) "moves" = some none) (n10 : PySem.W.findIn K (.ref C) "lines" = some none) : Ck K C tK := by
  refine ⟨⟨pg, hd, po, sa⟩, by decide +kernel, fun f hf => ?_, by decide⟩
  unfold tK at hf
  simp only [List.mem_cons, List.not_mem_nil, or_false] at hf
  rcases hf with rfl | rfl | rfl | rfl | rfl | rfl | rfl | rfl | rfl | rfl | rfl
  · exact n0
  · exact n1
  · exact n2
  · exact n3
  · exact n4
  · exact n5
  · exact n6
  · exact n7
  · exact n8
  · exact n9
  · exact n10
theorem ck_ma {K : PySem.W.Frag} {C : Addr} (pg : PySem.W.plainGet K C Str.empty = true) (hd : PySem.W.hasDictIn K C = true) (po : PySem.W.plainOver K C = true) (sa : PySem.W.findIn K (.ref C) "__setattr__" = some (some (.builtin "object.__setattr__")))
    (n0 : PySem.W.findIn K (.ref C) "settings" = some none) (n1 : PySem.W.findIn K (.ref C) "cells" = some none) (n2 : PySem.W.findIn K (.ref C) "source" = some none) (n3 : PySem.W.findIn K (.ref C) "h" = some none) (n4 : PySem.W.findIn K (.ref C) "bag" = some none) (n5 : PySem.W.findIn K (.ref C) "sink" = some none) (n6 : PySem.W.findIn K (.ref C) "u" = some none) (n7 : PySem.W.findIn K (.ref C) "caught" = some none) (n8 : PySem.W.findIn K (.ref C) "stuck" = some none) (n9 : PySem.W.findIn K (.ref C) "artery_slipped" = some none) (n10 : PySem.W.findIn K (.ref C) "vein_slipped" = some none) (n11 : PySem.W.findIn K (.ref C) "readings" = some none) (n12 : PySem.W.findIn K (.ref C) "clean" = some none) (n13 : PySem.W.findIn K (.ref C) "unlike" = some none) (n14 : PySem.W.findIn K (.ref C) "streak" = some none) (n15 : PySem.W.findIn K (.ref C) "pressures" = some none) (n16 : PySem.W.findIn K (.ref C) "centre" = some none) (n17 : PySem.W.findIn K (.ref C) "uncentred" = some none) (n18 : PySem.W.findIn K (.ref C) "still" = some none) (n19 : PySem.W.findIn K (.ref C) "latches" = some none) (n20 : PySem.W.findIn K (.ref C) "totals" = some none) : Ck K C mK := by
  refine ⟨⟨pg, hd, po, sa⟩, by decide +kernel, fun f hf => ?_, by decide⟩
  unfold mK at hf
  simp only [List.mem_cons, List.not_mem_nil, or_false] at hf
  rcases hf with rfl | rfl | rfl | rfl | rfl | rfl | rfl | rfl | rfl | rfl | rfl | rfl | rfl | rfl | rfl | rfl | rfl | rfl | rfl | rfl | rfl
  · exact n0
  · exact n1
  · exact n2
  · exact n3
  · exact n4
  · exact n5
  · exact n6
  · exact n7
  · exact n8
  · exact n9
  · exact n10
  · exact n11
  · exact n12
  · exact n13
  · exact n14
  · exact n15
  · exact n16
  · exact n17
  · exact n18
  · exact n19
  · exact n20
theorem tup2 {K : PySem.W.Frag} {a : Addr} {od : Option Addr} {n : Nat} {sl : Array (Option Value)} {x y : Int} {t u : Tok} (l : K.lookup a = some ⟨.type "tuple", od, .seq #[.int x t, .int y u] n, sl⟩) : TupK K a [.int x, .int y] :=
  ⟨_, _, _, l, rfl, rfl, by show 2 ≤ sizeLine; decide, .cons ⟨_, rfl⟩ (.cons ⟨_, rfl⟩ .nil)⟩
theorem tupR0 {K : PySem.W.Frag} {a : Addr} {od : Option Addr} {n : Nat} {sl : Array (Option Value)} (l : K.lookup a = some ⟨.type "tuple", od, .seq #[] n, sl⟩) : TupK K a (([] : List Addr).map V.ref) :=
  ⟨_, _, _, l, rfl, rfl, by show 0 ≤ sizeLine; decide, .nil⟩
theorem tupR1 {K : PySem.W.Frag} {a b0 : Addr} {od : Option Addr} {n : Nat} {sl : Array (Option Value)} (l : K.lookup a = some ⟨.type "tuple", od, .seq #[.ref b0] n, sl⟩) : TupK K a ([b0].map V.ref) :=
  ⟨_, _, _, l, rfl, rfl, by show 1 ≤ sizeLine; decide, .cons rfl (.nil)⟩
theorem tupR2 {K : PySem.W.Frag} {a b0 b1 : Addr} {od : Option Addr} {n : Nat} {sl : Array (Option Value)} (l : K.lookup a = some ⟨.type "tuple", od, .seq #[.ref b0, .ref b1] n, sl⟩) : TupK K a ([b0, b1].map V.ref) :=
  ⟨_, _, _, l, rfl, rfl, by show 2 ≤ sizeLine; decide, .cons rfl (.cons rfl (.nil))⟩
theorem tupR3 {K : PySem.W.Frag} {a b0 b1 b2 : Addr} {od : Option Addr} {n : Nat} {sl : Array (Option Value)} (l : K.lookup a = some ⟨.type "tuple", od, .seq #[.ref b0, .ref b1, .ref b2] n, sl⟩) : TupK K a ([b0, b1, b2].map V.ref) :=
  ⟨_, _, _, l, rfl, rfl, by show 3 ≤ sizeLine; decide, .cons rfl (.cons rfl (.cons rfl (.nil)))⟩
theorem tupR13 {K : PySem.W.Frag} {a b0 b1 b2 b3 b4 b5 b6 b7 b8 b9 b10 b11 b12 : Addr} {od : Option Addr} {n : Nat} {sl : Array (Option Value)} (l : K.lookup a = some ⟨.type "tuple", od, .seq #[.ref b0, .ref b1, .ref b2, .ref b3, .ref b4, .ref b5, .ref b6, .ref b7, .ref b8, .ref b9, .ref b10, .ref b11, .ref b12] n, sl⟩) : TupK K a ([b0, b1, b2, b3, b4, b5, b6, b7, b8, b9, b10, b11, b12].map V.ref) :=
  ⟨_, _, _, l, rfl, rfl, by show 13 ≤ sizeLine; decide, .cons rfl (.cons rfl (.cons rfl (.cons rfl (.cons rfl (.cons rfl (.cons rfl (.cons rfl (.cons rfl (.cons rfl (.cons rfl (.cons rfl (.cons rfl (.nil)))))))))))))⟩
/-- the ranges of one place, as they lie -/
def RowK (K : PySem.W.Frag) (p : Int) (a : Addr) : Prop := ∃ as : List Addr, TupK K a (as.map V.ref) ∧ as.length = (lims p).length ∧ ∀ (i : Nat) (b : Addr) (l : Int × Int), as[i]? = some b → (lims p)[i]? = some l → TupK K b [.int l.1, .int l.2]
theorem row0 {K : PySem.W.Frag} {a b0 b1 b2 b3 b4 b5 b6 b7 b8 b9 b10 b11 b12 : Addr} (h : TupK K a (([b0, b1, b2, b3, b4, b5, b6, b7, b8, b9, b10, b11, b12] : List Addr).map V.ref)) (h0 : TupK K b0 [.int 8, .int 64]) (h1 : TupK K b1 [.int 1, .int 63]) (h2 : TupK K b2 [.int 1, .int 63]) (h3 : TupK K b3 [.int 1, .int 63]) (h4 : TupK K b4 [.int 1, .int 32]) (h5 : TupK K b5 [.int 1, .int 1000]) (h6 : TupK K b6 [.int 1, .int 32000]) (h7 : TupK K b7 [.int 0, .int 1000]) (h8 : TupK K b8 [.int 0, .int 1000000]) (h9 : TupK K b9 [.int 1, .int 1000]) (h10 : TupK K b10 [.int 1, .int 1000000]) (h11 : TupK K b11 [.int 1, .int 1000]) (h12 : TupK K b12 [.int 1, .int 3600]) : RowK K 0 a := by
  refine ⟨_, h, rfl, fun i b l hb hl => ?_⟩
  match i, hb, hl with
  | 0, hb, hl => cases hb; cases hl; exact h0
  | 1, hb, hl => cases hb; cases hl; exact h1
  | 2, hb, hl => cases hb; cases hl; exact h2
  | 3, hb, hl => cases hb; cases hl; exact h3
  | 4, hb, hl => cases hb; cases hl; exact h4
  | 5, hb, hl => cases hb; cases hl; exact h5
  | 6, hb, hl => cases hb; cases hl; exact h6
  | 7, hb, hl => cases hb; cases hl; exact h7
  | 8, hb, hl => cases hb; cases hl; exact h8
  | 9, hb, hl => cases hb; cases hl; exact h9
  | 10, hb, hl => cases hb; cases hl; exact h10
  | 11, hb, hl => cases hb; cases hl; exact h11
  | 12, hb, hl => cases hb; cases hl; exact h12
  | i + 13, hb, _ => cases hb
theorem row1 {K : PySem.W.Frag} {a b0 b1 : Addr} (h : TupK K a (([b0, b1] : List Addr).map V.ref)) (h0 : TupK K b0 [.int 0, .int 2]) (h1 : TupK K b1 [.int 0, .int 1000]) : RowK K 1 a := by
  refine ⟨_, h, rfl, fun i b l hb hl => ?_⟩
  match i, hb, hl with
  | 0, hb, hl => cases hb; cases hl; exact h0
  | 1, hb, hl => cases hb; cases hl; exact h1
  | i + 2, hb, _ => cases hb
theorem row2 {K : PySem.W.Frag} {a b0 : Addr} (h : TupK K a (([b0] : List Addr).map V.ref)) (h0 : TupK K b0 [.int 0, .int 5000000]) : RowK K 2 a := by
  refine ⟨_, h, rfl, fun i b l hb hl => ?_⟩
  match i, hb, hl with
  | 0, hb, hl => cases hb; cases hl; exact h0
  | i + 1, hb, _ => cases hb
theorem row3 {K : PySem.W.Frag} {a b0 : Addr} (h : TupK K a (([b0] : List Addr).map V.ref)) (h0 : TupK K b0 [.int 0, .int 2]) : RowK K 3 a := by
  refine ⟨_, h, rfl, fun i b l hb hl => ?_⟩
  match i, hb, hl with
  | 0, hb, hl => cases hb; cases hl; exact h0
  | i + 1, hb, _ => cases hb
theorem row4 {K : PySem.W.Frag} {a b0 : Addr} (h : TupK K a (([b0] : List Addr).map V.ref)) (h0 : TupK K b0 [.int 0, .int 500]) : RowK K 4 a := by
  refine ⟨_, h, rfl, fun i b l hb hl => ?_⟩
  match i, hb, hl with
  | 0, hb, hl => cases hb; cases hl; exact h0
  | i + 1, hb, _ => cases hb
theorem row5 {K : PySem.W.Frag} {a b0 : Addr} (h : TupK K a (([b0] : List Addr).map V.ref)) (h0 : TupK K b0 [.int 1, .int 100]) : RowK K 5 a := by
  refine ⟨_, h, rfl, fun i b l hb hl => ?_⟩
  match i, hb, hl with
  | 0, hb, hl => cases hb; cases hl; exact h0
  | i + 1, hb, _ => cases hb
theorem row6 {K : PySem.W.Frag} {a b0 : Addr} (h : TupK K a (([b0] : List Addr).map V.ref)) (h0 : TupK K b0 [.int 1, .int 3600]) : RowK K 6 a := by
  refine ⟨_, h, rfl, fun i b l hb hl => ?_⟩
  match i, hb, hl with
  | 0, hb, hl => cases hb; cases hl; exact h0
  | i + 1, hb, _ => cases hb
theorem row7 {K : PySem.W.Frag} {a b0 b1 : Addr} (h : TupK K a (([b0, b1] : List Addr).map V.ref)) (h0 : TupK K b0 [.int (-1000), .int 1000]) (h1 : TupK K b1 [.int (-1000), .int 1000]) : RowK K 7 a := by
  refine ⟨_, h, rfl, fun i b l hb hl => ?_⟩
  match i, hb, hl with
  | 0, hb, hl => cases hb; cases hl; exact h0
  | 1, hb, hl => cases hb; cases hl; exact h1
  | i + 2, hb, _ => cases hb
theorem row8 {K : PySem.W.Frag} {a : Addr} (h : TupK K a (([] : List Addr).map V.ref)) : RowK K 8 a := by
  refine ⟨_, h, rfl, fun i b l hb hl => ?_⟩
  cases hb
theorem row9 {K : PySem.W.Frag} {a b0 : Addr} (h : TupK K a (([b0] : List Addr).map V.ref)) (h0 : TupK K b0 [.int 0, .int 1000000]) : RowK K 9 a := by
  refine ⟨_, h, rfl, fun i b l hb hl => ?_⟩
  match i, hb, hl with
  | 0, hb, hl => cases hb; cases hl; exact h0
  | i + 1, hb, _ => cases hb
theorem row10 {K : PySem.W.Frag} {a b0 b1 b2 : Addr} (h : TupK K a (([b0, b1, b2] : List Addr).map V.ref)) (h0 : TupK K b0 [.int 0, .int 1]) (h1 : TupK K b1 [.int 0, .int 1]) (h2 : TupK K b2 [.int 0, .int 1000]) : RowK K 10 a := by
  refine ⟨_, h, rfl, fun i b l hb hl => ?_⟩
  match i, hb, hl with
  | 0, hb, hl => cases hb; cases hl; exact h0
  | 1, hb, hl => cases hb; cases hl; exact h1
  | 2, hb, hl => cases hb; cases hl; exact h2
  | i + 3, hb, _ => cases hb
theorem row11 {K : PySem.W.Frag} {a b0 b1 : Addr} (h : TupK K a (([b0, b1] : List Addr).map V.ref)) (h0 : TupK K b0 [.int 0, .int 1]) (h1 : TupK K b1 [.int 0, .int 1]) : RowK K 11 a := by
  refine ⟨_, h, rfl, fun i b l hb hl => ?_⟩
  match i, hb, hl with
  | 0, hb, hl => cases hb; cases hl; exact h0
  | 1, hb, hl => cases hb; cases hl; exact h1
  | i + 2, hb, _ => cases hb
theorem row12 {K : PySem.W.Frag} {a : Addr} (h : TupK K a (([] : List Addr).map V.ref)) : RowK K 12 a := by
  refine ⟨_, h, rfl, fun i b l hb hl => ?_⟩
  cases hb
theorem row13 {K : PySem.W.Frag} {a : Addr} (h : TupK K a (([] : List Addr).map V.ref)) : RowK K 13 a := by
  refine ⟨_, h, rfl, fun i b l hb hl => ?_⟩
  cases hb
theorem row14 {K : PySem.W.Frag} {a b0 : Addr} (h : TupK K a (([b0] : List Addr).map V.ref)) (h0 : TupK K b0 [.int 0, .int 7]) : RowK K 14 a := by
  refine ⟨_, h, rfl, fun i b l hb hl => ?_⟩
  match i, hb, hl with
  | 0, hb, hl => cases hb; cases hl; exact h0
  | i + 1, hb, _ => cases hb
theorem row15 {K : PySem.W.Frag} {a : Addr} (h : TupK K a (([] : List Addr).map V.ref)) : RowK K 15 a := by
  refine ⟨_, h, rfl, fun i b l hb hl => ?_⟩
  cases hb
theorem row16 {K : PySem.W.Frag} {a b0 : Addr} (h : TupK K a (([b0] : List Addr).map V.ref)) (h0 : TupK K b0 [.int 0, .int 63]) : RowK K 16 a := by
  refine ⟨_, h, rfl, fun i b l hb hl => ?_⟩
  match i, hb, hl with
  | 0, hb, hl => cases hb; cases hl; exact h0
  | i + 1, hb, _ => cases hb
theorem row17 {K : PySem.W.Frag} {a : Addr} (h : TupK K a (([] : List Addr).map V.ref)) : RowK K 17 a := by
  refine ⟨_, h, rfl, fun i b l hb hl => ?_⟩
  cases hb
theorem ranges_mk {K : PySem.W.Frag} {R a0 a1 a2 a3 a4 a5 a6 a7 a8 a9 a10 a11 a12 a13 a14 a15 a16 a17 : Addr} {t0 t1 t2 t3 t4 t5 t6 t7 t8 t9 t10 t11 t12 t13 t14 t15 t16 t17 : Tok} {ep : Nat} (l : K.lookup R = some ⟨.type "dict", none, .dict #[⟨0, .int 0 t0, .ref a0⟩, ⟨1, .int 1 t1, .ref a1⟩, ⟨2, .int 2 t2, .ref a2⟩, ⟨3, .int 3 t3, .ref a3⟩, ⟨4, .int 4 t4, .ref a4⟩, ⟨5, .int 5 t5, .ref a5⟩, ⟨6, .int 6 t6, .ref a6⟩, ⟨7, .int 7 t7, .ref a7⟩, ⟨8, .int 8 t8, .ref a8⟩, ⟨9, .int 9 t9, .ref a9⟩, ⟨10, .int 10 t10, .ref a10⟩, ⟨11, .int 11 t11, .ref a11⟩, ⟨12, .int 12 t12, .ref a12⟩, ⟨13, .int 13 t13, .ref a13⟩, ⟨14, .int 14 t14, .ref a14⟩, ⟨15, .int 15 t15, .ref a15⟩, ⟨16, .int 16 t16, .ref a16⟩, ⟨17, .int 17 t17, .ref a17⟩] ep, #[]⟩) (r0 : RowK K 0 a0) (r1 : RowK K 1 a1) (r2 : RowK K 2 a2) (r3 : RowK K 3 a3) (r4 : RowK K 4 a4) (r5 : RowK K 5 a5) (r6 : RowK K 6 a6) (r7 : RowK K 7 a7) (r8 : RowK K 8 a8) (r9 : RowK K 9 a9) (r10 : RowK K 10 a10) (r11 : RowK K 11 a11) (r12 : RowK K 12 a12) (r13 : RowK K 13 a13) (r14 : RowK K 14 a14) (r15 : RowK K 15 a15) (r16 : RowK K 16 a16) (r17 : RowK K 17 a17) :
    ∃ get : Int → Option V, DictK K R get ∧ ∀ p : Int, 0 ≤ p → p ≤ 17 → ∃ (a : Addr) (as : List Addr), get p = some (.ref a) ∧ TupK K a (as.map V.ref) ∧ as.length = (lims p).length ∧ ∀ (i : Nat) (b : Addr) (l : Int × Int), as[i]? = some b → (lims p)[i]? = some l → TupK K b [.int l.1, .int l.2] := by
  refine ⟨fun n => if n = 0 then some (.ref a0) else if n = 1 then some (.ref a1) else if n = 2 then some (.ref a2) else if n = 3 then some (.ref a3) else if n = 4 then some (.ref a4) else if n = 5 then some (.ref a5) else if n = 6 then some (.ref a6) else if n = 7 then some (.ref a7) else if n = 8 then some (.ref a8) else if n = 9 then some (.ref a9) else if n = 10 then some (.ref a10) else if n = 11 then some (.ref a11) else if n = 12 then some (.ref a12) else if n = 13 then some (.ref a13) else if n = 14 then some (.ref a14) else if n = 15 then some (.ref a15) else if n = 16 then some (.ref a16) else if n = 17 then some (.ref a17) else none, ⟨_, l, fun P w => ⟨[(Sum.inl 0, .ref a0), (Sum.inl 1, .ref a1), (Sum.inl 2, .ref a2), (Sum.inl 3, .ref a3), (Sum.inl 4, .ref a4), (Sum.inl 5, .ref a5), (Sum.inl 6, .ref a6), (Sum.inl 7, .ref a7), (Sum.inl 8, .ref a8), (Sum.inl 9, .ref a9), (Sum.inl 10, .ref a10), (Sum.inl 11, .ref a11), (Sum.inl 12, .ref a12), (Sum.inl 13, .ref a13), (Sum.inl 14, .ref a14), (Sum.inl 15, .ref a15), (Sum.inl 16, .ref a16), (Sum.inl 17, .ref a17)], ⟨_, _, ⟨rfl, rfl, rfl⟩, rfl, ?_, ?_, ?_⟩, ?_⟩⟩, ?_⟩
  · intro e he
    simp only [List.mem_toArray, List.mem_cons, List.not_mem_nil, or_false] at he
    rcases he with rfl | rfl | rfl | rfl | rfl | rfl | rfl | rfl | rfl | rfl | rfl | rfl | rfl | rfl | rfl | rfl | rfl | rfl
    · exact ⟨Sum.inl 0, mixKind_int P w 0 _, rfl⟩
    · exact ⟨Sum.inl 1, mixKind_int P w 1 _, rfl⟩
    · exact ⟨Sum.inl 2, mixKind_int P w 2 _, rfl⟩
    · exact ⟨Sum.inl 3, mixKind_int P w 3 _, rfl⟩
    · exact ⟨Sum.inl 4, mixKind_int P w 4 _, rfl⟩
    · exact ⟨Sum.inl 5, mixKind_int P w 5 _, rfl⟩
    · exact ⟨Sum.inl 6, mixKind_int P w 6 _, rfl⟩
    · exact ⟨Sum.inl 7, mixKind_int P w 7 _, rfl⟩
    · exact ⟨Sum.inl 8, mixKind_int P w 8 _, rfl⟩
    · exact ⟨Sum.inl 9, mixKind_int P w 9 _, rfl⟩
    · exact ⟨Sum.inl 10, mixKind_int P w 10 _, rfl⟩
    · exact ⟨Sum.inl 11, mixKind_int P w 11 _, rfl⟩
    · exact ⟨Sum.inl 12, mixKind_int P w 12 _, rfl⟩
    · exact ⟨Sum.inl 13, mixKind_int P w 13 _, rfl⟩
    · exact ⟨Sum.inl 14, mixKind_int P w 14 _, rfl⟩
    · exact ⟨Sum.inl 15, mixKind_int P w 15 _, rfl⟩
    · exact ⟨Sum.inl 16, mixKind_int P w 16 _, rfl⟩
    · exact ⟨Sum.inl 17, mixKind_int P w 17 _, rfl⟩
  · exact .cons (mixKind_int P w 0 _) rfl (.cons (mixKind_int P w 1 _) rfl (.cons (mixKind_int P w 2 _) rfl (.cons (mixKind_int P w 3 _) rfl (.cons (mixKind_int P w 4 _) rfl (.cons (mixKind_int P w 5 _) rfl (.cons (mixKind_int P w 6 _) rfl (.cons (mixKind_int P w 7 _) rfl (.cons (mixKind_int P w 8 _) rfl (.cons (mixKind_int P w 9 _) rfl (.cons (mixKind_int P w 10 _) rfl (.cons (mixKind_int P w 11 _) rfl (.cons (mixKind_int P w 12 _) rfl (.cons (mixKind_int P w 13 _) rfl (.cons (mixKind_int P w 14 _) rfl (.cons (mixKind_int P w 15 _) rfl (.cons (mixKind_int P w 16 _) rfl (.cons (mixKind_int P w 17 _) rfl (.nil))))))))))))))))))
  · show ([Sum.inl 0, Sum.inl 1, Sum.inl 2, Sum.inl 3, Sum.inl 4, Sum.inl 5, Sum.inl 6, Sum.inl 7, Sum.inl 8, Sum.inl 9, Sum.inl 10, Sum.inl 11, Sum.inl 12, Sum.inl 13, Sum.inl 14, Sum.inl 15, Sum.inl 16, Sum.inl 17] : List Key).Nodup
    decide
  · intro n v hv
    dsimp only at hv
    by_cases c0 : n = 0
    · rw [if_pos c0] at hv; subst c0; cases hv; exact ⟨_, rfl, rfl⟩
    rw [if_neg c0] at hv
    by_cases c1 : n = 1
    · rw [if_pos c1] at hv; subst c1; cases hv; exact ⟨_, rfl, rfl⟩
    rw [if_neg c1] at hv
    by_cases c2 : n = 2
    · rw [if_pos c2] at hv; subst c2; cases hv; exact ⟨_, rfl, rfl⟩
    rw [if_neg c2] at hv
    by_cases c3 : n = 3
    · rw [if_pos c3] at hv; subst c3; cases hv; exact ⟨_, rfl, rfl⟩
    rw [if_neg c3] at hv
    by_cases c4 : n = 4
    · rw [if_pos c4] at hv; subst c4; cases hv; exact ⟨_, rfl, rfl⟩
    rw [if_neg c4] at hv
    by_cases c5 : n = 5
    · rw [if_pos c5] at hv; subst c5; cases hv; exact ⟨_, rfl, rfl⟩
    rw [if_neg c5] at hv
    by_cases c6 : n = 6
    · rw [if_pos c6] at hv; subst c6; cases hv; exact ⟨_, rfl, rfl⟩
    rw [if_neg c6] at hv
    by_cases c7 : n = 7
    · rw [if_pos c7] at hv; subst c7; cases hv; exact ⟨_, rfl, rfl⟩
    rw [if_neg c7] at hv
    by_cases c8 : n = 8
    · rw [if_pos c8] at hv; subst c8; cases hv; exact ⟨_, rfl, rfl⟩
    rw [if_neg c8] at hv
    by_cases c9 : n = 9
    · rw [if_pos c9] at hv; subst c9; cases hv; exact ⟨_, rfl, rfl⟩
    rw [if_neg c9] at hv
    by_cases c10 : n = 10
    · rw [if_pos c10] at hv; subst c10; cases hv; exact ⟨_, rfl, rfl⟩
    rw [if_neg c10] at hv
    by_cases c11 : n = 11
    · rw [if_pos c11] at hv; subst c11; cases hv; exact ⟨_, rfl, rfl⟩
    rw [if_neg c11] at hv
    by_cases c12 : n = 12
    · rw [if_pos c12] at hv; subst c12; cases hv; exact ⟨_, rfl, rfl⟩
    rw [if_neg c12] at hv
    by_cases c13 : n = 13
    · rw [if_pos c13] at hv; subst c13; cases hv; exact ⟨_, rfl, rfl⟩
    rw [if_neg c13] at hv
    by_cases c14 : n = 14
    · rw [if_pos c14] at hv; subst c14; cases hv; exact ⟨_, rfl, rfl⟩
    rw [if_neg c14] at hv
    by_cases c15 : n = 15
    · rw [if_pos c15] at hv; subst c15; cases hv; exact ⟨_, rfl, rfl⟩
    rw [if_neg c15] at hv
    by_cases c16 : n = 16
    · rw [if_pos c16] at hv; subst c16; cases hv; exact ⟨_, rfl, rfl⟩
    rw [if_neg c16] at hv
    by_cases c17 : n = 17
    · rw [if_pos c17] at hv; subst c17; cases hv; exact ⟨_, rfl, rfl⟩
    rw [if_neg c17] at hv
    cases hv
  · intro p h0 h17
    obtain ⟨q, rfl⟩ : ∃ q : Nat, p = (q : Int) := ⟨p.toNat, by omega⟩
    have hq : q < 18 := by omega
    match q, hq with
    | 0, _ => obtain ⟨as, h⟩ := r0; exact ⟨a0, as, rfl, h⟩
    | 1, _ => obtain ⟨as, h⟩ := r1; exact ⟨a1, as, rfl, h⟩
    | 2, _ => obtain ⟨as, h⟩ := r2; exact ⟨a2, as, rfl, h⟩
    | 3, _ => obtain ⟨as, h⟩ := r3; exact ⟨a3, as, rfl, h⟩
    | 4, _ => obtain ⟨as, h⟩ := r4; exact ⟨a4, as, rfl, h⟩
    | 5, _ => obtain ⟨as, h⟩ := r5; exact ⟨a5, as, rfl, h⟩
    | 6, _ => obtain ⟨as, h⟩ := r6; exact ⟨a6, as, rfl, h⟩
    | 7, _ => obtain ⟨as, h⟩ := r7; exact ⟨a7, as, rfl, h⟩
    | 8, _ => obtain ⟨as, h⟩ := r8; exact ⟨a8, as, rfl, h⟩
    | 9, _ => obtain ⟨as, h⟩ := r9; exact ⟨a9, as, rfl, h⟩
    | 10, _ => obtain ⟨as, h⟩ := r10; exact ⟨a10, as, rfl, h⟩
    | 11, _ => obtain ⟨as, h⟩ := r11; exact ⟨a11, as, rfl, h⟩
    | 12, _ => obtain ⟨as, h⟩ := r12; exact ⟨a12, as, rfl, h⟩
    | 13, _ => obtain ⟨as, h⟩ := r13; exact ⟨a13, as, rfl, h⟩
    | 14, _ => obtain ⟨as, h⟩ := r14; exact ⟨a14, as, rfl, h⟩
    | 15, _ => obtain ⟨as, h⟩ := r15; exact ⟨a15, as, rfl, h⟩
    | 16, _ => obtain ⟨as, h⟩ := r16; exact ⟨a16, as, rfl, h⟩
    | 17, _ => obtain ⟨as, h⟩ := r17; exact ⟨a17, as, rfl, h⟩
    | q + 18, hq => omega
theorem txt_mk {K : PySem.W.Frag} {h : Heap} {mg : Str → Option Value} {am se to ma up rg ua ub : Addr} {od : Option Addr} {un : Nat} {sl : Array (Option Value)} {k_SOURCE_BAG k_SOURCE_PATIENT k_SINK_DRAIN k_SINK_PATIENT k_SINK_LOOP k_FULL_CELL k_MOST_UNLIKE k_MOST_UNCENTRED k_LATCH_AIR k_LATCH_UNLIKE k_LATCH_THICK k_LATCH_UNCENTRED k_MOST_LINES k_MOST_MOVES k_MOST_STILL k_A k_V k_LATCH_PRESSURE_A k_LATCH_PRESSURE_V k_LATCH_STILL k_LATCH_LEAK k_MOST_STREAK k_ARTERY : Tok} (X : K.In h) (G : h.Ns mainGlobals mg) (cam : Ck K am aK) (cse : Ck K se sK) (cto : Ck K to tK) (cma : Ck K ma mK)
    (b_min : PySem.W.nsIn K mainGlobals "min" = some none) (b_max : PySem.W.nsIn K mainGlobals "max" = some none) (b_sum : PySem.W.nsIn K mainGlobals "sum" = some none) (b_any : PySem.W.nsIn K mainGlobals "any" = some none) (b_abs : PySem.W.nsIn K mainGlobals "abs" = some none) (b_len : PySem.W.nsIn K mainGlobals "len" = some none) (b_zip : PySem.W.nsIn K mainGlobals "zip" = some none) (b_range : PySem.W.nsIn K mainGlobals "range" = some none) (g_SOURCE_BAG : PySem.W.nsIn K mainGlobals "SOURCE_BAG" = some (some (.int 1 k_SOURCE_BAG))) (g_SOURCE_PATIENT : PySem.W.nsIn K mainGlobals "SOURCE_PATIENT" = some (some (.int 2 k_SOURCE_PATIENT))) (g_SINK_DRAIN : PySem.W.nsIn K mainGlobals "SINK_DRAIN" = some (some (.int 0 k_SINK_DRAIN))) (g_SINK_PATIENT : PySem.W.nsIn K mainGlobals "SINK_PATIENT" = some (some (.int 1 k_SINK_PATIENT))) (g_SINK_LOOP : PySem.W.nsIn K mainGlobals "SINK_LOOP" = some (some (.int 2 k_SINK_LOOP))) (g_FULL_CELL : PySem.W.nsIn K mainGlobals "FULL_CELL" = some (some (.int 1000 k_FULL_CELL))) (g_MOST_UNLIKE : PySem.W.nsIn K mainGlobals "MOST_UNLIKE" = some (some (.int 2 k_MOST_UNLIKE))) (g_MOST_UNCENTRED : PySem.W.nsIn K mainGlobals "MOST_UNCENTRED" = some (some (.int 10 k_MOST_UNCENTRED))) (g_LATCH_AIR : PySem.W.nsIn K mainGlobals "LATCH_AIR" = some (some (.int 0 k_LATCH_AIR))) (g_LATCH_UNLIKE : PySem.W.nsIn K mainGlobals "LATCH_UNLIKE" = some (some (.int 1 k_LATCH_UNLIKE))) (g_LATCH_THICK : PySem.W.nsIn K mainGlobals "LATCH_THICK" = some (some (.int 5 k_LATCH_THICK))) (g_LATCH_UNCENTRED : PySem.W.nsIn K mainGlobals "LATCH_UNCENTRED" = some (some (.int 6 k_LATCH_UNCENTRED))) (g_MOST_LINES : PySem.W.nsIn K mainGlobals "MOST_LINES" = some (some (.int 1000000 k_MOST_LINES))) (g_MOST_MOVES : PySem.W.nsIn K mainGlobals "MOST_MOVES" = some (some (.int 1000000000 k_MOST_MOVES))) (g_MOST_STILL : PySem.W.nsIn K mainGlobals "MOST_STILL" = some (some (.int 1000000 k_MOST_STILL))) (g_A : PySem.W.nsIn K mainGlobals "A" = some (some (.int 0 k_A))) (g_V : PySem.W.nsIn K mainGlobals "V" = some (some (.int 1 k_V))) (g_LATCH_PRESSURE_A : PySem.W.nsIn K mainGlobals "LATCH_PRESSURE_A" = some (some (.int 3 k_LATCH_PRESSURE_A))) (g_LATCH_PRESSURE_V : PySem.W.nsIn K mainGlobals "LATCH_PRESSURE_V" = some (some (.int 4 k_LATCH_PRESSURE_V))) (g_LATCH_STILL : PySem.W.nsIn K mainGlobals "LATCH_STILL" = some (some (.int 7 k_LATCH_STILL))) (g_LATCH_LEAK : PySem.W.nsIn K mainGlobals "LATCH_LEAK" = some (some (.int 2 k_LATCH_LEAK))) (g_MOST_STREAK : PySem.W.nsIn K mainGlobals "MOST_STREAK" = some (some (.int 3 k_MOST_STREAK))) (g_ARTERY : PySem.W.nsIn K mainGlobals "ARTERY" = some (some (.int 0 k_ARTERY))) (gu : PySem.W.nsIn K mainGlobals "USUAL_PRESSURES" = some (some (.ref up))) (gr : PySem.W.nsIn K mainGlobals "RANGES" = some (some (.ref rg)))
    (lu : K.lookup up = some ⟨.type "tuple", od, .seq #[.ref ua, .ref ub] un, sl⟩) (la : TupK K ua [.int (-300), .int 100]) (lb : TupK K ub [.int 10, .int 400])
    (ranges : ∃ get : Int → Option V, DictK K rg get ∧ ∀ p : Int, 0 ≤ p → p ≤ 17 → ∃ (a : Addr) (as : List Addr), get p = some (.ref a) ∧ TupK K a (as.map V.ref) ∧ as.length = (lims p).length ∧ ∀ (i : Nat) (b : Addr) (l : Int × Int), as[i]? = some b → (lims p)[i]? = some l → TupK K b [.int l.1, .int l.2]) :
    Txt K mg ⟨am, se, to, ma, up, rg⟩ where
  cam := cam
  cse := cse
  cto := cto
  cma := cma
  b_min := PySem.W.mg_none_of X G b_min
  b_max := PySem.W.mg_none_of X G b_max
  b_sum := PySem.W.mg_none_of X G b_sum
  b_any := PySem.W.mg_none_of X G b_any
  b_abs := PySem.W.mg_none_of X G b_abs
  b_len := PySem.W.mg_none_of X G b_len
  b_zip := PySem.W.mg_none_of X G b_zip
  b_range := PySem.W.mg_none_of X G b_range
  g_SOURCE_BAG := ⟨_, PySem.W.mg_of X G g_SOURCE_BAG⟩
  g_SOURCE_PATIENT := ⟨_, PySem.W.mg_of X G g_SOURCE_PATIENT⟩
  g_SINK_DRAIN := ⟨_, PySem.W.mg_of X G g_SINK_DRAIN⟩
  g_SINK_PATIENT := ⟨_, PySem.W.mg_of X G g_SINK_PATIENT⟩
  g_SINK_LOOP := ⟨_, PySem.W.mg_of X G g_SINK_LOOP⟩
  g_FULL_CELL := ⟨_, PySem.W.mg_of X G g_FULL_CELL⟩
  g_MOST_UNLIKE := ⟨_, PySem.W.mg_of X G g_MOST_UNLIKE⟩
  g_MOST_UNCENTRED := ⟨_, PySem.W.mg_of X G g_MOST_UNCENTRED⟩
  g_LATCH_AIR := ⟨_, PySem.W.mg_of X G g_LATCH_AIR⟩
  g_LATCH_UNLIKE := ⟨_, PySem.W.mg_of X G g_LATCH_UNLIKE⟩
  g_LATCH_THICK := ⟨_, PySem.W.mg_of X G g_LATCH_THICK⟩
  g_LATCH_UNCENTRED := ⟨_, PySem.W.mg_of X G g_LATCH_UNCENTRED⟩
  g_MOST_LINES := ⟨_, PySem.W.mg_of X G g_MOST_LINES⟩
  g_MOST_MOVES := ⟨_, PySem.W.mg_of X G g_MOST_MOVES⟩
  g_MOST_STILL := ⟨_, PySem.W.mg_of X G g_MOST_STILL⟩
  g_A := ⟨_, PySem.W.mg_of X G g_A⟩
  g_V := ⟨_, PySem.W.mg_of X G g_V⟩
  g_LATCH_PRESSURE_A := ⟨_, PySem.W.mg_of X G g_LATCH_PRESSURE_A⟩
  g_LATCH_PRESSURE_V := ⟨_, PySem.W.mg_of X G g_LATCH_PRESSURE_V⟩
  g_LATCH_STILL := ⟨_, PySem.W.mg_of X G g_LATCH_STILL⟩
  g_LATCH_LEAK := ⟨_, PySem.W.mg_of X G g_LATCH_LEAK⟩
  g_MOST_STREAK := ⟨_, PySem.W.mg_of X G g_MOST_STREAK⟩
  g_ARTERY := ⟨_, PySem.W.mg_of X G g_ARTERY⟩
  g_USUAL_PRESSURES := PySem.W.mg_of X G gu
  g_RANGES := PySem.W.mg_of X G gr
  usual := ⟨ua, ub, tupR2 lu, la, lb⟩
  ranges := ranges
theorem all_fn {fa : Addr} {fd : FuncData} (F : Fun K "answers" "answers" st_answers fa fd) (T : Txt K mg c) (S : Defs K mg c) : FnOk P w K mg base CX0 9 fa fd ["calls"] (spAns K) := by
  have G_Amounts := ok_Amounts (P := P) (w := w) (base := base) S.d_Amounts T
  have G_take_in := ok_take_in (P := P) (w := w) (base := base) S.d_take_in T
  have G_clean_needed := ok_clean_needed (P := P) (w := w) (base := base) S.d_clean_needed T
  have G_joined := ok_joined (P := P) (w := w) (base := base) S.d_joined T
  have G_latched := ok_latched (P := P) (w := w) (base := base) S.d_latched T
  have G_held := ok_held (P := P) (w := w) (base := base) S.d_held T G_joined G_latched
  have G_raise_latch := ok_raise_latch (P := P) (w := w) (base := base) S.d_raise_latch T
  have G_latches_number := ok_latches_number (P := P) (w := w) (base := base) S.d_latches_number T
  have G_forget_centring := ok_forget_centring (P := P) (w := w) (base := base) S.d_forget_centring T
  have G_cell_of_air := ok_cell_of_air (P := P) (w := w) (base := base) S.d_cell_of_air T G_Amounts
  have G_cell_from_patient := ok_cell_from_patient (P := P) (w := w) (base := base) S.d_cell_from_patient T G_Amounts G_take_in
  have G_cell_from_bag := ok_cell_from_bag (P := P) (w := w) (base := base) S.d_cell_from_bag T G_Amounts
  have G_new_cell := ok_new_cell (P := P) (w := w) (base := base) S.d_new_cell T G_cell_of_air G_cell_from_patient G_cell_from_bag
  have G_let_last_leave := ok_let_last_leave (P := P) (w := w) (base := base) S.d_let_last_leave T G_take_in G_joined
  have G_dialyse := ok_dialyse (P := P) (w := w) (base := base) S.d_dialyse T
  have G_trap_air := ok_trap_air (P := P) (w := w) (base := base) S.d_trap_air T
  have G_read_channels := ok_read_channels (P := P) (w := w) (base := base) S.d_read_channels T
  have G_remember_reading := ok_remember_reading (P := P) (w := w) (base := base) S.d_remember_reading T
  have G_judge_reading := ok_judge_reading (P := P) (w := w) (base := base) S.d_judge_reading T G_clean_needed G_raise_latch
  have G_compare_channels := ok_compare_channels (P := P) (w := w) (base := base) S.d_compare_channels T G_raise_latch
  have G_watch_thickness := ok_watch_thickness (P := P) (w := w) (base := base) S.d_watch_thickness T G_raise_latch
  have G_watch_centring := ok_watch_centring (P := P) (w := w) (base := base) S.d_watch_centring T G_joined G_raise_latch
  have G_one_move := ok_one_move (P := P) (w := w) (base := base) S.d_one_move T G_new_cell G_let_last_leave G_dialyse G_trap_air G_read_channels G_remember_reading G_judge_reading G_compare_channels G_watch_thickness G_watch_centring
  have G_move := ok_move (P := P) (w := w) (base := base) S.d_move T G_held G_joined G_latches_number G_one_move
  have G_lower_latch := ok_lower_latch (P := P) (w := w) (base := base) S.d_lower_latch T
  have G_vent_trap := ok_vent_trap (P := P) (w := w) (base := base) S.d_vent_trap T
  have G_Settings := ok_Settings (P := P) (w := w) (base := base) S.d_Settings T
  have G_clear_old_line := ok_clear_old_line (P := P) (w := w) (base := base) S.d_clear_old_line T G_take_in G_vent_trap
  have G_forget_old_line := ok_forget_old_line (P := P) (w := w) (base := base) S.d_forget_old_line T G_forget_centring
  have G_put_new_line := ok_put_new_line (P := P) (w := w) (base := base) S.d_put_new_line T G_Amounts
  have G_lay := ok_lay (P := P) (w := w) (base := base) S.d_lay T G_joined G_clear_old_line G_forget_old_line G_put_new_line G_Settings
  have G_source := ok_source (P := P) (w := w) (base := base) S.d_source T
  have G_bag := ok_bag (P := P) (w := w) (base := base) S.d_bag T
  have G_ultra := ok_ultra (P := P) (w := w) (base := base) S.d_ultra T
  have G_sink := ok_sink (P := P) (w := w) (base := base) S.d_sink T G_latched G_clean_needed G_forget_centring
  have G_wait := ok_wait (P := P) (w := w) (base := base) S.d_wait T G_raise_latch G_latches_number
  have G_is_usual := ok_is_usual (P := P) (w := w) (base := base) S.d_is_usual T
  have G_is_bad := ok_is_bad (P := P) (w := w) (base := base) S.d_is_bad T G_is_usual
  have G_last_is_bad := ok_last_is_bad (P := P) (w := w) (base := base) S.d_last_is_bad T G_is_bad
  have G_centre := ok_centre (P := P) (w := w) (base := base) S.d_centre T G_is_usual
  have G_press := ok_press (P := P) (w := w) (base := base) S.d_press T G_joined G_is_bad G_raise_latch G_latches_number
  have G_leak := ok_leak (P := P) (w := w) (base := base) S.d_leak T G_raise_latch G_latches_number
  have G_fault := ok_fault (P := P) (w := w) (base := base) S.d_fault T
  have G_slip := ok_slip (P := P) (w := w) (base := base) S.d_slip T
  have G_vent := ok_vent (P := P) (w := w) (base := base) S.d_vent T G_vent_trap
  have G_check := ok_check (P := P) (w := w) (base := base) S.d_check T G_lower_latch
  have G_must_stay_up := ok_must_stay_up (P := P) (w := w) (base := base) S.d_must_stay_up T G_clean_needed G_last_is_bad G_joined
  have G_reset := ok_reset (P := P) (w := w) (base := base) S.d_reset T G_must_stay_up G_lower_latch G_latches_number
  have G_three_of := ok_three_of (P := P) (w := w) (base := base) S.d_three_of T
  have G_look := ok_look (P := P) (w := w) (base := base) S.d_look T G_latches_number
  have G_cell := ok_cell (P := P) (w := w) (base := base) S.d_cell T G_three_of
  have G_totals := ok_totals (P := P) (w := w) (base := base) S.d_totals T G_three_of
  have G_how_many_arguments := ok_how_many_arguments (P := P) (w := w) (base := base) S.d_how_many_arguments T
  have G_places_in_order := ok_places_in_order (P := P) (w := w) (base := base) S.d_places_in_order T
  have G_all_in_range := ok_all_in_range (P := P) (w := w) (base := base) S.d_all_in_range T G_places_in_order
  have G_answer_running := ok_answer_running (P := P) (w := w) (base := base) S.d_answer_running T G_source G_bag G_sink G_ultra G_move G_wait G_press G_centre
  have G_answer_tending := ok_answer_tending (P := P) (w := w) (base := base) S.d_answer_tending T G_leak G_fault G_slip G_vent G_check G_reset G_look G_cell G_totals
  have G_answer_call := ok_answer_call (P := P) (w := w) (base := base) S.d_answer_call T G_all_in_range G_lay G_answer_running G_answer_tending
  have G_Totals := ok_Totals (P := P) (w := w) (base := base) S.d_Totals T G_Amounts
  have G_Machine := ok_Machine (P := P) (w := w) (base := base) S.d_Machine T G_Totals
  exact ok_answers F T G_Machine G_how_many_arguments G_answer_call
theorem all_mk {P : Program} {w : World} {K : PySem.W.Frag} {h : Heap} {mg : Str → Option Value} {fa f am se to ma up rg : Addr} {od an : Option Addr} {sl : Array (Option Value)} {oc kV dc pm cd ct : Value} (X : K.In h) (G : h.Ns mainGlobals mg) (hfa : mg "answers" = some (.ref fa))
    (_ : PySem.W.nsIn K mainGlobals "Amounts" = some (some (.ref am))) (_ : PySem.W.nsIn K mainGlobals "Settings" = some (some (.ref se))) (_ : PySem.W.nsIn K mainGlobals "Totals" = some (some (.ref to))) (_ : PySem.W.nsIn K mainGlobals "Machine" = some (some (.ref ma)))
    (_ : PySem.W.nsIn K mainGlobals "USUAL_PRESSURES" = some (some (.ref up))) (_ : PySem.W.nsIn K mainGlobals "RANGES" = some (some (.ref rg)))
    (T : Txt K mg ⟨am, se, to, ma, up, rg⟩) (S : Defs K mg ⟨am, se, to, ma, up, rg⟩)
    (a : PySem.W.nsIn K mainGlobals "answers" = some (some (.ref f))) (l : K.lookup f = some ⟨oc, od, .func (PySem.W.fnOf "answers" "answers" (defArgs st_answers) (defBody st_answers) (defScope st_answers) .none kV dc pm an cd ct), sl⟩) (e : PySem.W.codeIn K cd "answers" = true) (k : PySem.W.keepIn K (.ref f) = true) :
    ∃ fd : FuncData, (∀ (s : Shared) (us : List Value), us.length = (["calls"] : List Str).length → BindsTo s fd ⟨us, []⟩ ((["calls"] : List Str).zip us)) ∧ ∀ base : Heap, K.In base → base.Ns mainGlobals mg → FnOk P w K mg base CX0 9 fa fd ["calls"] (spAns K) := by
  have e0 := hfa.symm.trans (PySem.W.mg_of X G a)
  cases e0
  exact ⟨PySem.W.fnOf "answers" "answers" (defArgs st_answers) (defBody st_answers) (defScope st_answers) .none kV dc pm an cd ct, fun s us hu => match us, hu with | [_], _ => .of_eq rfl, fun base _ _ => all_fn (fun_mk l e k) T S⟩
end
end B
open PySem PySem.W PyProof.Rows
/-! The head's tactic lays an equation beside each heap that it writes out; ten of them, the greatest, make nine tenths of the compiled file and nothing needs them: their names are taken, so they are left away. -/
def PySem.W.Fast.tw12587612252576111186 : Unit := ()
def PySem.W.Fast.tw16572898571889421386 : Unit := ()
def PySem.W.Fast.tw9616273135250788735 : Unit := ()
def PySem.W.Fast.tw7382897676010061174 : Unit := ()
def PySem.W.Fast.tw290558593988602856 : Unit := ()
def PySem.W.Fast.tw2671247765431758888 : Unit := ()
def PySem.W.Fast.tw18012137056881525959 : Unit := ()
def PySem.W.Fast.tw3643377179391497247 : Unit := ()
def PySem.W.Fast.tw3295856428804000906 : Unit := ()
def PySem.W.Fast.tw2093888559252679041 : Unit := ()
set_option maxRecDepth 100000 in
set_option maxHeartbeats 0 in
theorem PySem.Challenge.cw_bloodline_s01_answers_holds : PySem.Challenge.rw_bloodline_s01_answers.Holds := by
  w_on; k_headS; (case hw => exact ⟨[.list [.int 8]], by decide +kernel, by decide +kernel⟩)
  k_fillS
  refine L2.walk_specK (r := PySem.Challenge.rw_bloodline_s01_answers) (k := 9) (CX := L2.CX0) (ps := ["calls"]) (sp := B.spAns) (by decide +kernel) rfl rfl ⟨rfl, by decide, by decide⟩ (fun w h Y => PySem.W.kIn_of Y) ?F ?S (fun _ _ _ _ z => z)
  case F =>
    intro w mg fa h Y KX G hmg
    refine' B.all_mk KX G hmg ?n1 ?n2 ?n3 ?n4 ?n5 ?n6 ?TT ?DD ?am_a ?am_l ?am_e ?am_k
    (case n1 => k_is); (case n2 => k_is); (case n3 => k_is); (case n4 => k_is); (case n5 => k_is); (case n6 => k_is)
    (case am_a => k_is); (case am_l => k_is); (case am_e => k_is); (case am_k => k_is)
    case TT =>
      refine' B.txt_mk KX G ?cam ?cse ?cto ?cma ?b_min ?b_max ?b_sum ?b_any ?b_abs ?b_len ?b_zip ?b_range ?g_SOURCE_BAG ?g_SOURCE_PATIENT ?g_SINK_DRAIN ?g_SINK_PATIENT ?g_SINK_LOOP ?g_FULL_CELL ?g_MOST_UNLIKE ?g_MOST_UNCENTRED ?g_LATCH_AIR ?g_LATCH_UNLIKE ?g_LATCH_THICK ?g_LATCH_UNCENTRED ?g_MOST_LINES ?g_MOST_MOVES ?g_MOST_STILL ?g_A ?g_V ?g_LATCH_PRESSURE_A ?g_LATCH_PRESSURE_V ?g_LATCH_STILL ?g_LATCH_LEAK ?g_MOST_STREAK ?g_ARTERY ?gu ?gr ?lu ?la ?lb ?ranges
      case cam =>
        refine' B.ck_am ?am_pg ?am_hd ?am_po ?am_sa ?am_n0 ?am_n1 ?am_n2
        (case am_pg => k_is)
        (case am_hd => k_is)
        (case am_po => k_is)
        (case am_sa => k_is)
        (case am_n0 => k_is)
        (case am_n1 => k_is)
        (case am_n2 => k_is)
      case cse =>
        refine' B.ck_se ?se_pg ?se_hd ?se_po ?se_sa ?se_n0 ?se_n1 ?se_n2 ?se_n3 ?se_n4 ?se_n5 ?se_n6 ?se_n7 ?se_n8 ?se_n9 ?se_n10 ?se_n11 ?se_n12
        (case se_pg => k_is)
        (case se_hd => k_is)
        (case se_po => k_is)
        (case se_sa => k_is)
        (case se_n0 => k_is)
        (case se_n1 => k_is)
        (case se_n2 => k_is)
        (case se_n3 => k_is)
        (case se_n4 => k_is)
        (case se_n5 => k_is)
        (case se_n6 => k_is)
        (case se_n7 => k_is)
        (case se_n8 => k_is)
        (case se_n9 => k_is)
        (case se_n10 => k_is)
        (case se_n11 => k_is)
        (case se_n12 => k_is)
      case cto =>
        refine' B.ck_to ?to_pg ?to_hd ?to_po ?to_sa ?to_n0 ?to_n1 ?to_n2 ?to_n3 ?to_n4 ?to_n5 ?to_n6 ?to_n7 ?to_n8 ?to_n9 ?to_n10
        (case to_pg => k_is)
        (case to_hd => k_is)
        (case to_po => k_is)
        (case to_sa => k_is)
        (case to_n0 => k_is)
        (case to_n1 => k_is)
        (case to_n2 => k_is)
        (case to_n3 => k_is)
        (case to_n4 => k_is)
        (case to_n5 => k_is)
        (case to_n6 => k_is)
        (case to_n7 => k_is)
        (case to_n8 => k_is)
        (case to_n9 => k_is)
        (case to_n10 => k_is)
      case cma =>
        refine' B.ck_ma ?ma_pg ?ma_hd ?ma_po ?ma_sa ?ma_n0 ?ma_n1 ?ma_n2 ?ma_n3 ?ma_n4 ?ma_n5 ?ma_n6 ?ma_n7 ?ma_n8 ?ma_n9 ?ma_n10 ?ma_n11 ?ma_n12 ?ma_n13 ?ma_n14 ?ma_n15 ?ma_n16 ?ma_n17 ?ma_n18 ?ma_n19 ?ma_n20
        (case ma_pg => k_is)
        (case ma_hd => k_is)
        (case ma_po => k_is)
        (case ma_sa => k_is)
        (case ma_n0 => k_is)
        (case ma_n1 => k_is)
        (case ma_n2 => k_is)
        (case ma_n3 => k_is)
        (case ma_n4 => k_is)
        (case ma_n5 => k_is)
        (case ma_n6 => k_is)
        (case ma_n7 => k_is)
        (case ma_n8 => k_is)
        (case ma_n9 => k_is)
        (case ma_n10 => k_is)
        (case ma_n11 => k_is)
        (case ma_n12 => k_is)
        (case ma_n13 => k_is)
        (case ma_n14 => k_is)
        (case ma_n15 => k_is)
        (case ma_n16 => k_is)
        (case ma_n17 => k_is)
        (case ma_n18 => k_is)
        (case ma_n19 => k_is)
        (case ma_n20 => k_is)
      (case b_min => k_is)
      (case b_max => k_is)
      (case b_sum => k_is)
      (case b_any => k_is)
      (case b_abs => k_is)
      (case b_len => k_is)
      (case b_zip => k_is)
      (case b_range => k_is)
      (case g_SOURCE_BAG => k_is)
      (case g_SOURCE_PATIENT => k_is)
      (case g_SINK_DRAIN => k_is)
      (case g_SINK_PATIENT => k_is)
      (case g_SINK_LOOP => k_is)
      (case g_FULL_CELL => k_is)
      (case g_MOST_UNLIKE => k_is)
      (case g_MOST_UNCENTRED => k_is)
      (case g_LATCH_AIR => k_is)
      (case g_LATCH_UNLIKE => k_is)
      (case g_LATCH_THICK => k_is)
      (case g_LATCH_UNCENTRED => k_is)
      (case g_MOST_LINES => k_is)
      (case g_MOST_MOVES => k_is)
      (case g_MOST_STILL => k_is)
      (case g_A => k_is)
      (case g_V => k_is)
      (case g_LATCH_PRESSURE_A => k_is)
      (case g_LATCH_PRESSURE_V => k_is)
      (case g_LATCH_STILL => k_is)
      (case g_LATCH_LEAK => k_is)
      (case g_MOST_STREAK => k_is)
      (case g_ARTERY => k_is)
      (case gu => k_is)
      (case gr => k_is)
      (case lu => k_is)
      (case la => (refine' B.tup2 ?u1_l; (case u1_l => k_is)))
      (case lb => (refine' B.tup2 ?u2_l; (case u2_l => k_is)))
      case ranges =>
        refine' B.ranges_mk ?rg_l ?r0 ?r1 ?r2 ?r3 ?r4 ?r5 ?r6 ?r7 ?r8 ?r9 ?r10 ?r11 ?r12 ?r13 ?r14 ?r15 ?r16 ?r17
        (case rg_l => k_is)
        case r0 =>
          refine' B.row0 ?w111_h ?w111_h0 ?w111_h1 ?w111_h2 ?w111_h3 ?w111_h4 ?w111_h5 ?w111_h6 ?w111_h7 ?w111_h8 ?w111_h9 ?w111_h10 ?w111_h11 ?w111_h12
          (case w111_h => (refine' B.tupR13 ?u3_l; (case u3_l => k_is)))
          (case w111_h0 => (refine' B.tup2 ?u4_l; (case u4_l => k_is)))
          (case w111_h1 => (refine' B.tup2 ?u5_l; (case u5_l => k_is)))
          (case w111_h2 => (refine' B.tup2 ?u6_l; (case u6_l => k_is)))
          (case w111_h3 => (refine' B.tup2 ?u7_l; (case u7_l => k_is)))
          (case w111_h4 => (refine' B.tup2 ?u8_l; (case u8_l => k_is)))
          (case w111_h5 => (refine' B.tup2 ?u9_l; (case u9_l => k_is)))
          (case w111_h6 => (refine' B.tup2 ?u10_l; (case u10_l => k_is)))
          (case w111_h7 => (refine' B.tup2 ?u11_l; (case u11_l => k_is)))
          (case w111_h8 => (refine' B.tup2 ?u12_l; (case u12_l => k_is)))
          (case w111_h9 => (refine' B.tup2 ?u13_l; (case u13_l => k_is)))
          (case w111_h10 => (refine' B.tup2 ?u14_l; (case u14_l => k_is)))
          (case w111_h11 => (refine' B.tup2 ?u15_l; (case u15_l => k_is)))
          (case w111_h12 => (refine' B.tup2 ?u16_l; (case u16_l => k_is)))
        case r1 =>
          refine' B.row1 ?w112_h ?w112_h0 ?w112_h1
          (case w112_h => (refine' B.tupR2 ?u17_l; (case u17_l => k_is)))
          (case w112_h0 => (refine' B.tup2 ?u18_l; (case u18_l => k_is)))
          (case w112_h1 => (refine' B.tup2 ?u19_l; (case u19_l => k_is)))
        case r2 =>
          refine' B.row2 ?w113_h ?w113_h0
          (case w113_h => (refine' B.tupR1 ?u20_l; (case u20_l => k_is)))
          (case w113_h0 => (refine' B.tup2 ?u21_l; (case u21_l => k_is)))
        case r3 =>
          refine' B.row3 ?w114_h ?w114_h0
          (case w114_h => (refine' B.tupR1 ?u22_l; (case u22_l => k_is)))
          (case w114_h0 => (refine' B.tup2 ?u23_l; (case u23_l => k_is)))
        case r4 =>
          refine' B.row4 ?w115_h ?w115_h0
          (case w115_h => (refine' B.tupR1 ?u24_l; (case u24_l => k_is)))
          (case w115_h0 => (refine' B.tup2 ?u25_l; (case u25_l => k_is)))
        case r5 =>
          refine' B.row5 ?w116_h ?w116_h0
          (case w116_h => (refine' B.tupR1 ?u26_l; (case u26_l => k_is)))
          (case w116_h0 => (refine' B.tup2 ?u27_l; (case u27_l => k_is)))
        case r6 =>
          refine' B.row6 ?w117_h ?w117_h0
          (case w117_h => (refine' B.tupR1 ?u28_l; (case u28_l => k_is)))
          (case w117_h0 => (refine' B.tup2 ?u29_l; (case u29_l => k_is)))
        case r7 =>
          refine' B.row7 ?w118_h ?w118_h0 ?w118_h1
          (case w118_h => (refine' B.tupR2 ?u30_l; (case u30_l => k_is)))
          (case w118_h0 => (refine' B.tup2 ?u31_l; (case u31_l => k_is)))
          (case w118_h1 => (refine' B.tup2 ?u32_l; (case u32_l => k_is)))
        case r8 =>
          refine' B.row8 ?w119_h
          (case w119_h => (refine' B.tupR0 ?u33_l; (case u33_l => k_is)))
        case r9 =>
          refine' B.row9 ?w120_h ?w120_h0
          (case w120_h => (refine' B.tupR1 ?u34_l; (case u34_l => k_is)))
          (case w120_h0 => (refine' B.tup2 ?u35_l; (case u35_l => k_is)))
        case r10 =>
          refine' B.row10 ?w121_h ?w121_h0 ?w121_h1 ?w121_h2
          (case w121_h => (refine' B.tupR3 ?u36_l; (case u36_l => k_is)))
          (case w121_h0 => (refine' B.tup2 ?u37_l; (case u37_l => k_is)))
          (case w121_h1 => (refine' B.tup2 ?u38_l; (case u38_l => k_is)))
          (case w121_h2 => (refine' B.tup2 ?u39_l; (case u39_l => k_is)))
        case r11 =>
          refine' B.row11 ?w122_h ?w122_h0 ?w122_h1
          (case w122_h => (refine' B.tupR2 ?u40_l; (case u40_l => k_is)))
          (case w122_h0 => (refine' B.tup2 ?u41_l; (case u41_l => k_is)))
          (case w122_h1 => (refine' B.tup2 ?u42_l; (case u42_l => k_is)))
        case r12 =>
          refine' B.row12 ?w123_h
          (case w123_h => (refine' B.tupR0 ?u43_l; (case u43_l => k_is)))
        case r13 =>
          refine' B.row13 ?w124_h
          (case w124_h => (refine' B.tupR0 ?u44_l; (case u44_l => k_is)))
        case r14 =>
          refine' B.row14 ?w125_h ?w125_h0
          (case w125_h => (refine' B.tupR1 ?u45_l; (case u45_l => k_is)))
          (case w125_h0 => (refine' B.tup2 ?u46_l; (case u46_l => k_is)))
        case r15 =>
          refine' B.row15 ?w126_h
          (case w126_h => (refine' B.tupR0 ?u47_l; (case u47_l => k_is)))
        case r16 =>
          refine' B.row16 ?w127_h ?w127_h0
          (case w127_h => (refine' B.tupR1 ?u48_l; (case u48_l => k_is)))
          (case w127_h0 => (refine' B.tup2 ?u49_l; (case u49_l => k_is)))
        case r17 =>
          refine' B.row17 ?w128_h
          (case w128_h => (refine' B.tupR0 ?u50_l; (case u50_l => k_is)))
    case DD =>
      refine' ⟨?d_Amounts, ?d_take_in, ?d_clean_needed, ?d_joined, ?d_latched, ?d_held, ?d_raise_latch, ?d_latches_number, ?d_forget_centring, ?d_cell_of_air, ?d_cell_from_patient, ?d_cell_from_bag, ?d_new_cell, ?d_let_last_leave, ?d_dialyse, ?d_trap_air, ?d_read_channels, ?d_remember_reading, ?d_judge_reading, ?d_compare_channels, ?d_watch_thickness, ?d_watch_centring, ?d_one_move, ?d_move, ?d_lower_latch, ?d_vent_trap, ?d_Settings, ?d_clear_old_line, ?d_forget_old_line, ?d_put_new_line, ?d_lay, ?d_source, ?d_bag, ?d_ultra, ?d_sink, ?d_wait, ?d_is_usual, ?d_is_bad, ?d_last_is_bad, ?d_centre, ?d_press, ?d_leak, ?d_fault, ?d_slip, ?d_vent, ?d_check, ?d_must_stay_up, ?d_reset, ?d_three_of, ?d_look, ?d_cell, ?d_totals, ?d_how_many_arguments, ?d_places_in_order, ?d_all_in_range, ?d_answer_running, ?d_answer_tending, ?d_answer_call, ?d_Totals, ?d_Machine⟩
      (case d_Amounts => (refine' B.at_Amounts KX G ?u51_ac ?u51_mk ?u51_a ?u51_i ?u51_kc ?u51_l ?u51_e ?u51_k; (case u51_ac => k_is); (case u51_mk => k_is); (case u51_a => k_is); (case u51_i => k_is); (case u51_kc => k_is); (case u51_l => k_is); (case u51_e => k_is); (case u51_k => k_is)))
      (case d_take_in => (refine' B.at_take_in ?u52_a ?u52_i ?u52_l ?u52_e ?u52_k; (case u52_a => k_is); (case u52_i => k_is); (case u52_l => k_is); (case u52_e => k_is); (case u52_k => k_is)))
      (case d_clean_needed => (refine' B.at_clean_needed ?u53_a ?u53_i ?u53_l ?u53_e ?u53_k; (case u53_a => k_is); (case u53_i => k_is); (case u53_l => k_is); (case u53_e => k_is); (case u53_k => k_is)))
      (case d_joined => (refine' B.at_joined ?u54_a ?u54_i ?u54_l ?u54_e ?u54_k; (case u54_a => k_is); (case u54_i => k_is); (case u54_l => k_is); (case u54_e => k_is); (case u54_k => k_is)))
      (case d_latched => (refine' B.at_latched ?u55_a ?u55_i ?u55_l ?u55_e ?u55_k; (case u55_a => k_is); (case u55_i => k_is); (case u55_l => k_is); (case u55_e => k_is); (case u55_k => k_is)))
      (case d_held => (refine' B.at_held ?u56_a ?u56_i ?u56_l ?u56_e ?u56_k; (case u56_a => k_is); (case u56_i => k_is); (case u56_l => k_is); (case u56_e => k_is); (case u56_k => k_is)))
      (case d_raise_latch => (refine' B.at_raise_latch ?u57_a ?u57_i ?u57_l ?u57_e ?u57_k; (case u57_a => k_is); (case u57_i => k_is); (case u57_l => k_is); (case u57_e => k_is); (case u57_k => k_is)))
      (case d_latches_number => (refine' B.at_latches_number ?u58_a ?u58_i ?u58_l ?u58_e ?u58_k; (case u58_a => k_is); (case u58_i => k_is); (case u58_l => k_is); (case u58_e => k_is); (case u58_k => k_is)))
      (case d_forget_centring => (refine' B.at_forget_centring ?u59_a ?u59_i ?u59_l ?u59_e ?u59_k; (case u59_a => k_is); (case u59_i => k_is); (case u59_l => k_is); (case u59_e => k_is); (case u59_k => k_is)))
      (case d_cell_of_air => (refine' B.at_cell_of_air KX G ?u60_a ?u60_l ?u60_e ?u60_k; (case u60_a => k_is); (case u60_l => k_is); (case u60_e => k_is); (case u60_k => k_is)))
      (case d_cell_from_patient => (refine' B.at_cell_from_patient KX G ?u61_a ?u61_l ?u61_e ?u61_k; (case u61_a => k_is); (case u61_l => k_is); (case u61_e => k_is); (case u61_k => k_is)))
      (case d_cell_from_bag => (refine' B.at_cell_from_bag KX G ?u62_a ?u62_l ?u62_e ?u62_k; (case u62_a => k_is); (case u62_l => k_is); (case u62_e => k_is); (case u62_k => k_is)))
      (case d_new_cell => (refine' B.at_new_cell KX G ?u63_a ?u63_l ?u63_e ?u63_k; (case u63_a => k_is); (case u63_l => k_is); (case u63_e => k_is); (case u63_k => k_is)))
      (case d_let_last_leave => (refine' B.at_let_last_leave KX G ?u64_a ?u64_l ?u64_e ?u64_k; (case u64_a => k_is); (case u64_l => k_is); (case u64_e => k_is); (case u64_k => k_is)))
      (case d_dialyse => (refine' B.at_dialyse KX G ?u65_a ?u65_l ?u65_e ?u65_k; (case u65_a => k_is); (case u65_l => k_is); (case u65_e => k_is); (case u65_k => k_is)))
      (case d_trap_air => (refine' B.at_trap_air KX G ?u66_a ?u66_l ?u66_e ?u66_k; (case u66_a => k_is); (case u66_l => k_is); (case u66_e => k_is); (case u66_k => k_is)))
      (case d_read_channels => (refine' B.at_read_channels KX G ?u67_a ?u67_l ?u67_e ?u67_k; (case u67_a => k_is); (case u67_l => k_is); (case u67_e => k_is); (case u67_k => k_is)))
      (case d_remember_reading => (refine' B.at_remember_reading KX G ?u68_a ?u68_l ?u68_e ?u68_k; (case u68_a => k_is); (case u68_l => k_is); (case u68_e => k_is); (case u68_k => k_is)))
      (case d_judge_reading => (refine' B.at_judge_reading KX G ?u69_a ?u69_l ?u69_e ?u69_k; (case u69_a => k_is); (case u69_l => k_is); (case u69_e => k_is); (case u69_k => k_is)))
      (case d_compare_channels => (refine' B.at_compare_channels KX G ?u70_a ?u70_l ?u70_e ?u70_k; (case u70_a => k_is); (case u70_l => k_is); (case u70_e => k_is); (case u70_k => k_is)))
      (case d_watch_thickness => (refine' B.at_watch_thickness KX G ?u71_a ?u71_l ?u71_e ?u71_k; (case u71_a => k_is); (case u71_l => k_is); (case u71_e => k_is); (case u71_k => k_is)))
      (case d_watch_centring => (refine' B.at_watch_centring KX G ?u72_a ?u72_l ?u72_e ?u72_k; (case u72_a => k_is); (case u72_l => k_is); (case u72_e => k_is); (case u72_k => k_is)))
      (case d_one_move => (refine' B.at_one_move KX G ?u73_a ?u73_l ?u73_e ?u73_k; (case u73_a => k_is); (case u73_l => k_is); (case u73_e => k_is); (case u73_k => k_is)))
      (case d_move => (refine' B.at_move KX G ?u74_a ?u74_l ?u74_e ?u74_k; (case u74_a => k_is); (case u74_l => k_is); (case u74_e => k_is); (case u74_k => k_is)))
      (case d_lower_latch => (refine' B.at_lower_latch ?u75_a ?u75_i ?u75_l ?u75_e ?u75_k; (case u75_a => k_is); (case u75_i => k_is); (case u75_l => k_is); (case u75_e => k_is); (case u75_k => k_is)))
      (case d_vent_trap => (refine' B.at_vent_trap ?u76_a ?u76_i ?u76_l ?u76_e ?u76_k; (case u76_a => k_is); (case u76_i => k_is); (case u76_l => k_is); (case u76_e => k_is); (case u76_k => k_is)))
      (case d_Settings => (refine' B.at_Settings KX G ?u77_ac ?u77_mk ?u77_a ?u77_i ?u77_kc ?u77_l ?u77_e ?u77_k; (case u77_ac => k_is); (case u77_mk => k_is); (case u77_a => k_is); (case u77_i => k_is); (case u77_kc => k_is); (case u77_l => k_is); (case u77_e => k_is); (case u77_k => k_is)))
      (case d_clear_old_line => (refine' B.at_clear_old_line KX G ?u78_a ?u78_l ?u78_e ?u78_k; (case u78_a => k_is); (case u78_l => k_is); (case u78_e => k_is); (case u78_k => k_is)))
      (case d_forget_old_line => (refine' B.at_forget_old_line KX G ?u79_a ?u79_l ?u79_e ?u79_k; (case u79_a => k_is); (case u79_l => k_is); (case u79_e => k_is); (case u79_k => k_is)))
      (case d_put_new_line => (refine' B.at_put_new_line KX G ?u80_a ?u80_l ?u80_e ?u80_k; (case u80_a => k_is); (case u80_l => k_is); (case u80_e => k_is); (case u80_k => k_is)))
      (case d_lay => (refine' B.at_lay KX G ?u81_a ?u81_l ?u81_e ?u81_k; (case u81_a => k_is); (case u81_l => k_is); (case u81_e => k_is); (case u81_k => k_is)))
      (case d_source => (refine' B.at_source KX G ?u82_a ?u82_l ?u82_e ?u82_k; (case u82_a => k_is); (case u82_l => k_is); (case u82_e => k_is); (case u82_k => k_is)))
      (case d_bag => (refine' B.at_bag KX G ?u83_a ?u83_l ?u83_e ?u83_k; (case u83_a => k_is); (case u83_l => k_is); (case u83_e => k_is); (case u83_k => k_is)))
      (case d_ultra => (refine' B.at_ultra KX G ?u84_a ?u84_l ?u84_e ?u84_k; (case u84_a => k_is); (case u84_l => k_is); (case u84_e => k_is); (case u84_k => k_is)))
      (case d_sink => (refine' B.at_sink KX G ?u85_a ?u85_l ?u85_e ?u85_k; (case u85_a => k_is); (case u85_l => k_is); (case u85_e => k_is); (case u85_k => k_is)))
      (case d_wait => (refine' B.at_wait KX G ?u86_a ?u86_l ?u86_e ?u86_k; (case u86_a => k_is); (case u86_l => k_is); (case u86_e => k_is); (case u86_k => k_is)))
      (case d_is_usual => (refine' B.at_is_usual KX G ?u87_a ?u87_l ?u87_e ?u87_k; (case u87_a => k_is); (case u87_l => k_is); (case u87_e => k_is); (case u87_k => k_is)))
      (case d_is_bad => (refine' B.at_is_bad KX G ?u88_a ?u88_l ?u88_e ?u88_k; (case u88_a => k_is); (case u88_l => k_is); (case u88_e => k_is); (case u88_k => k_is)))
      (case d_last_is_bad => (refine' B.at_last_is_bad KX G ?u89_a ?u89_l ?u89_e ?u89_k; (case u89_a => k_is); (case u89_l => k_is); (case u89_e => k_is); (case u89_k => k_is)))
      (case d_centre => (refine' B.at_centre KX G ?u90_a ?u90_l ?u90_e ?u90_k; (case u90_a => k_is); (case u90_l => k_is); (case u90_e => k_is); (case u90_k => k_is)))
      (case d_press => (refine' B.at_press KX G ?u91_a ?u91_l ?u91_e ?u91_k; (case u91_a => k_is); (case u91_l => k_is); (case u91_e => k_is); (case u91_k => k_is)))
      (case d_leak => (refine' B.at_leak KX G ?u92_a ?u92_l ?u92_e ?u92_k; (case u92_a => k_is); (case u92_l => k_is); (case u92_e => k_is); (case u92_k => k_is)))
      (case d_fault => (refine' B.at_fault KX G ?u93_a ?u93_l ?u93_e ?u93_k; (case u93_a => k_is); (case u93_l => k_is); (case u93_e => k_is); (case u93_k => k_is)))
      (case d_slip => (refine' B.at_slip KX G ?u94_a ?u94_l ?u94_e ?u94_k; (case u94_a => k_is); (case u94_l => k_is); (case u94_e => k_is); (case u94_k => k_is)))
      (case d_vent => (refine' B.at_vent KX G ?u95_a ?u95_l ?u95_e ?u95_k; (case u95_a => k_is); (case u95_l => k_is); (case u95_e => k_is); (case u95_k => k_is)))
      (case d_check => (refine' B.at_check KX G ?u96_a ?u96_l ?u96_e ?u96_k; (case u96_a => k_is); (case u96_l => k_is); (case u96_e => k_is); (case u96_k => k_is)))
      (case d_must_stay_up => (refine' B.at_must_stay_up KX G ?u97_a ?u97_l ?u97_e ?u97_k; (case u97_a => k_is); (case u97_l => k_is); (case u97_e => k_is); (case u97_k => k_is)))
      (case d_reset => (refine' B.at_reset KX G ?u98_a ?u98_l ?u98_e ?u98_k; (case u98_a => k_is); (case u98_l => k_is); (case u98_e => k_is); (case u98_k => k_is)))
      (case d_three_of => (refine' B.at_three_of KX G ?u99_a ?u99_l ?u99_e ?u99_k; (case u99_a => k_is); (case u99_l => k_is); (case u99_e => k_is); (case u99_k => k_is)))
      (case d_look => (refine' B.at_look KX G ?u100_a ?u100_l ?u100_e ?u100_k; (case u100_a => k_is); (case u100_l => k_is); (case u100_e => k_is); (case u100_k => k_is)))
      (case d_cell => (refine' B.at_cell KX G ?u101_a ?u101_l ?u101_e ?u101_k; (case u101_a => k_is); (case u101_l => k_is); (case u101_e => k_is); (case u101_k => k_is)))
      (case d_totals => (refine' B.at_totals KX G ?u102_a ?u102_l ?u102_e ?u102_k; (case u102_a => k_is); (case u102_l => k_is); (case u102_e => k_is); (case u102_k => k_is)))
      (case d_how_many_arguments => (refine' B.at_how_many_arguments KX G ?u103_a ?u103_l ?u103_e ?u103_k; (case u103_a => k_is); (case u103_l => k_is); (case u103_e => k_is); (case u103_k => k_is)))
      (case d_places_in_order => (refine' B.at_places_in_order KX G ?u104_a ?u104_l ?u104_e ?u104_k; (case u104_a => k_is); (case u104_l => k_is); (case u104_e => k_is); (case u104_k => k_is)))
      (case d_all_in_range => (refine' B.at_all_in_range KX G ?u105_a ?u105_l ?u105_e ?u105_k; (case u105_a => k_is); (case u105_l => k_is); (case u105_e => k_is); (case u105_k => k_is)))
      (case d_answer_running => (refine' B.at_answer_running KX G ?u106_a ?u106_l ?u106_e ?u106_k; (case u106_a => k_is); (case u106_l => k_is); (case u106_e => k_is); (case u106_k => k_is)))
      (case d_answer_tending => (refine' B.at_answer_tending KX G ?u107_a ?u107_l ?u107_e ?u107_k; (case u107_a => k_is); (case u107_l => k_is); (case u107_e => k_is); (case u107_k => k_is)))
      (case d_answer_call => (refine' B.at_answer_call KX G ?u108_a ?u108_l ?u108_e ?u108_k; (case u108_a => k_is); (case u108_l => k_is); (case u108_e => k_is); (case u108_k => k_is)))
      (case d_Totals => (refine' B.at_Totals KX G ?u109_ac ?u109_mk ?u109_a ?u109_i ?u109_kc ?u109_l ?u109_e ?u109_k; (case u109_ac => k_is); (case u109_mk => k_is); (case u109_a => k_is); (case u109_i => k_is); (case u109_kc => k_is); (case u109_l => k_is); (case u109_e => k_is); (case u109_k => k_is)))
      (case d_Machine => (refine' B.at_Machine KX G ?u110_ac ?u110_mk ?u110_a ?u110_i ?u110_kc ?u110_l ?u110_e ?u110_k; (case u110_ac => k_is); (case u110_mk => k_is); (case u110_a => k_is); (case u110_i => k_is); (case u110_kc => k_is); (case u110_l => k_is); (case u110_e => k_is); (case u110_k => k_is)))
  case S =>
    intro K H xs a hO hwi hask hx
    cases hx with
    | cons h1 h2 =>
      cases h2
      cases h1 with
      | lst hs ha =>
        have e := L2.ints_dw a.1 _ ha
        subst e
        exact ⟨_, a.1, rfl, hs, hask, fun H' p hp => .lst (L2.SqL.of hp) (L2.dw_ints _)⟩
#print axioms PySem.Challenge.cw_bloodline_s01_answers_holds
